import PyProof.Rows.All
import KE.KItem
import KE.KLam
import KE.KTryMore
import PySem.Challenge.RW_evenhues_k06_strips_turned
set_option backward.eqns.nonrecursive false
set_option genSizeOf false
set_option genSizeOfSpec false
set_option bootstrap.genMatcherCode false
set_option Elab.async false
set_option linter.all false
set_option maxRecDepth 100000
local macro_rules|`(tactic|omega)=>`(tactic|lia)
local macro_rules|`(⋯)=>`(by omega)
set_option maxHeartbeats 4000000
set_option autoImplicit true
set_option relaxedAutoImplicit true
noncomputable section
open And renaming intro->Ag
open Array renaming getElem?_eq_some_iff->BU,length_toList->C4
open Bool renaming and_eq_true->cf,false_ne_true->Ak,or_eq_true->Ay,not_eq_true'->AK,false_eq_true->Ba,false_and->Ct,or_true->CZ,eq_iff_iff->De,or_eq_false_iff->ES,and_eq_true_iff->EU,and_self->Fs,false_or->Ft,and_true->Fu,true_and->GO
open False renaming elim->Az
open ForInStep renaming yield->Co
open Iff renaming rfl->CV
open Int renaming toNat_natCast->Bv,natCast_emod->Ep,le_trans->EN,le_antisymm->EO,emod_lt_of_pos->Fd,fdiv_eq_ediv_of_nonneg->Fh,fmod_eq_emod_of_nonneg->Fi,emod_nonneg->Gj
open LawfulBEq renaming eq_of_beq->Cg
open LawfulMonad renaming pure_bind->Ey
open List renaming getElem?_eq_getElem->Ab,length_map->Ac,mem_cons_of_mem->Ah,size_toArray->Ai,getD_eq_getElem?_getD->Am,replicate->An,length_append->Ao,mem_cons->Ap,lookup_cons->Aq,getElem?_eq_some_iff->Au,range->Av,mem_cons_self->Ax,all_eq_true->AB,mem_append->AD,getElem?_map->AE,length_cons->AH,getElem?_set_self->AQ,mem_singleton->AU,map_cons->AW,isEmpty_iff->A0,getElem?_append_left->A2,filterMap_cons->A3,mem_of_getElem?->A4,mem_map->A7,append_nil->A9,getElem?_eq_none->Bb,mem_append_right->Be,length_range->Bi,contains_cons->Bk,mem_range->Bl,not_mem_nil->Bo,getElem?_set_ne->Bq,map_append->Bs,any_eq_true->Bu,append_assoc->Bx,getElem?_append_right->Bz,mem_append_left->BB,getElem_of_mem->BI,length_singleton->BN,length_set->BP,length_nil->BV,length_take->BX,getElem_mem->BY,nodup_cons->B6,replicate_succ->B7,filterMap_map->Cf,length_drop->Cv,lookup->Cy,mem_filterMap->CC,map_map->CH,flatten_cons->CK,getElem?_eq_none_iff->CM,getElem?_range->C6,length_reverse->C7,length_replicate->Dn,drop_zero->Dp,mem_of_mem_take->Dz,flatMap_map->DA,all_cons->DE,length_pos_iff->DI,drop_eq_getElem_cons->DM,length_filterMap_le->DR,eq_of_mem_replicate->DY,foldl->D1,getElem?_replicate->D4,ext_getElem?->Eb,findIdx?_eq_some_iff_getElem->Ee,map->Eo,of_mem_zip->EF,nil_append->EJ,map_nil->EL,forIn_cons->EM,set_comm->Fg,take_sublist->Fx,nodup_append->FG,getElem?_take_of_lt->FP,drop_length->F5,filter_cons->F6,lookup_eq_none_iff->F9,mem_filter->Gg,length->Gk,forIn_nil->Gw
open List.Pairwise renaming nil->FC
open List.Perm renaming eq_of_pairwise->F4
open Nat renaming le_refl->Ad,le_trans->As,lt_of_lt_of_le->Aw,ne_of_lt->AL,lt_irrefl->Bc,zero_le->Bj,mul_le_mul_right->B3,lt_succ_of_lt->Cr,le_succ->Cz,le_of_lt->CW,ne_of_gt->Dl,lt_succ_self->Dx,min_le_right->Ek,lt_of_sub_eq_succ->EA,le_of_eq->ET,succ_le_succ->FU,succ_mul->FV,sub_zero->FX
open Ne renaming symm->A6
open Option renaming none->dS,map_eq_some_iff->BF,isNone_iff_eq_none->BW,isSome_iff_exists->Cj,map_some->C9,bind_eq_some_iff->D3,bind_some->FO,getD_none->FR
open Option.some renaming inj->A1,injEq->D8
open Prod.mk renaming inj->Gn,injEq->GI
open PyProof.Rows renaming slot_tuple_getitem->A5,joinParts_cons->Cw,assignInOrder_cons->CB,Top->C1,formatField_int_small->Ds,FormattedValue_plain->Dy,boot_sorted->DW,tupleItemsOf_->Eh,boot_min->EB,entry_tuple_getitem->EV,recsOf->EX,callWith_type1->E4,args_tuple_getitem->E5,subscriptTail->Fm,assignInOrder_nil->Fw,boot_tuple->F8,Subscript_->GB
open PySem renaming wpAny_bind->xd,wpAny_pure->Aj,sizeLine->Ar,Spec->AA,starEach->AG,sizeLine_eq->AI,wpAny_loadPart_at->AM,wpAny_mono->AN,strLen_append->AR,mainGlobals->AS,mem_of_lookup->AV,excClassObj->AZ,wpAny_standAt->A8,wpAny_newObj_type->Bh,sliceBounds->Bw,wpAny_holding->By,compareOp->BC,FuncData->BD,binaryOp->BG,wpAny_truthy_bool->BJ,treeTable->BQ,wpAny_Call_Name_kw->BR,swappedStores->BZ,wpAny_field->B0,letOwnedTupleGo->B5,wpAny_isSubtype_exc->B8,sysModules->B9,attributeBase->Ca,checkBuiltinCall->Ce,bootBuiltins->Ci,call_meets->Ck,codeAny_call_builtin->Cp,foldedSetIterable->Cq,recursionLimit->Cu,cellsFrom->CD,wpAny_Call_ofName->CL,assignEach->CO,wpAny_binaryOp_repeat_ref->CP,codeAny_mono->CY,wpAny_call->Df,typeIs_int->Dh,bindName->Dk,wpAny_setField->Dq,NameKind->Dv,behindInMarks->DB,wpAny_passesOwn->DK,wpAny_loadPart'->DL,wpAny_typeOf->DO,wpAny_comprehension_free->DQ,wpAny_raiseStmt_made_sub->DS,codeAmong->DT,TriplesOk->DU,wpAny_bindName->DZ,wpAny_callSpecial?_slot->D6,wpAny_pyIter_list->D9,assignInOrder->Ef,swapsWithSole->Eg,comprehension->Ei,wpAny_execs_cons->Ej,wpAny_call_entry->El,Arguments->Er,swapsWith->Eu,setFlight->Ez,Within->EC,wpAny_execs_nil->ED,typeLookup->EI,compTurn->EY,constantsAlone->E1,keywordEach->E2,wpAny_pyIter_tuple->E3,seqIndex?->E7,noteFrame->E9,wpAny_classOwn_exc->Fc,wpAny_newFunctionEnv_cells->Fj,Comprehension->Fo,foldedForSure->Fq,wpAny_sequenceKey->Fy,slot_list_getitem->FA,builtinsNs->FI,codeAny_call_builtin_code->FL,wpAny_check_type_call_sub->FN,noFill_tuple_add->FQ,wpAny_getItem_list_slice->FT,wpAny_Dict_empty->FZ,lookupAlong_cons->F1,wpAny_madeBy_exc->F2,codeAny_call_builtin_at->F7,DictEntry->Ga,importedModules->Gb,wpAny_mroOf_exc->Gi,isCodeTable->Gm,newFunctionEnv->Gv,wpAny_rule->Gz,bindArgs->GA,backToKw->GC,closureFor->GD,isInstance->GF,cameBackBy->GG,seq_tuple_add->GK,typeLookup_eq->GN,lastMarks->GQ,slicePick->GR,onTheHeap->GS
open PySem.Around renaming frames_deeper->EG
open PySem.AutoSeq1 renaming idx_int->FY
open PySem.Builtin.List renaming listTooLong->DP
open PySem.Builtin.Range renaming rangeSize->B4
open PySem.Builtin.Slice renaming sliceAdjust->Br,slicePlaces->BH,sliceApplied->CI,sliceFields->FJ
open PySem.Builtin.Tuple renaming tupleExact->Bt,tupleItemsOf->DC,tupleTooMany->DF,tupleIsExact->Fp
open PySem.Calls renaming Constant_str->Dd,evalArgs_plain->Du,Name_function_global->Ff
open PySem.Code renaming quiet_builtin->Di
open PySem.EntryCells renaming newEntry->DJ
open PySem.Expr renaming Name->Ew,JoinedStr->Gr,Attribute->Gs,Subscript->Gu,Constant->GL
open PySem.Expr.Compare renaming elim->FD
open PySem.Expr.FormattedValue renaming elim->FW
open PySem.Expr.ListComp renaming elim->E8
open PySem.F renaming excBase_ValueError->Cb,slot_int_rmul->Cm,excAttr_ValueError->CJ,plainAttrs_list->C8,typeOf_object_class->Dt,slot_tuple_mul->Dw,args_tuple_add_2->DN,entry_tuple_add->D5,args_int_rmul_2->Ea,slot_tuple_add->Ed,slot_int_index->Em,entry_int_rmul->En,fills_int_mul->EK,slot_gs_get->EW,args_tuple_mul_2->Fb,entry_tuple_mul->FE,store_ValueError->F3
open PySem.Flow renaming next->GP
open PySem.Heap renaming get?_push_of_some->Aa,lt_size->Al,get?_push_size->AF,get?_update_other->AY,size_push->BA,get?_update_self->BM,get?_none_of_le->CN,MadeExcOf->CU,get?_push_at->FF
open PySem.Heap.IsSliceOf renaming new->E6
open PySem.NameKind renaming free->AJ,cell->Bn,globalImplicit->D7
open PySem.Obj renaming mapFields->BS,data_mapFields->CG,isFreed_of_fields->Dr,mapSeq->FK
open PySem.Paired renaming length->GJ
open PySem.PyData renaming int->CA,eqv->CQ,eqvAll->DH,hasDict->D2,weightAll->F0,depthAll->Gh,canLay0->Gx
open PySem.SeqAt renaming EqAt->Bp
open PySem.Str renaming empty->CT,ofString->EH
open PySem.Value renaming ref->AO,none->Bg,builtin->Cc,bool->Dc,type->FH,int->Gd,str->Ge
open PySem.W renaming Frag->Ae,behindTheImports->BE,nsIn->BK,fnOf->BL,kia_one->BO,codeIn->B1,keepIn->B2,callWith_K->Dg,topFrame->Dj,findIn->Dm,mg_of->DG,looks_findIn->DV,cellsFrom_some->Ec,tabObj->EZ,recOk->Fe,methodObj->Fv,instObj->Gf,lookIn->Gp,kitOne->Gq,piecesOf->Gy,fencedOpening->GH
open Sum renaming inl->Es,inr->Et
open True renaming intro->AX
section
namespace Hd
open PySem
inductive G where
 |b (i:Int)|c (x:Str)|a (ns:List Int)
noncomputable def args(s:Stmt):Er:=match s with
 |.FunctionDef _ a _ _ _ _ _ _ _ _=>a
 |_=>{posonlyargs:=[],args:=[],vararg:=none,kwonlyargs:=[],kw_defaults:=[],kwarg:=none,defaults:=[]}
noncomputable def body(s:Stmt):List Stmt:=match s with
 |.FunctionDef _ _ b _ _ _ _ _ _ _=>b
 |_=>[]
noncomputable def scope(s:Stmt):Scope:=match s with
 |.FunctionDef _ _ _ _ _ _ sc _ _ _=>sc
 |_=>{kind:=.function,names:=[],isGenerator:=false,isCoroutine:=false}
noncomputable def posOf(s:Stmt):Pos:=match s with
 |.FunctionDef _ _ _ _ _ _ _ _ _ p=>p
 |_=>⟨0,0,0,0⟩
def W7(x:Str)(st:Stmt):DefRec:=⟨x,args st,body st,scope st,posOf st⟩
noncomputable def QR:List Str:=["len","all","any","tuple","list","sorted","repr","max","min","sum","int","isinstance","divmod","str","bool","dict","set","range","enumerate","zip"]
noncomputable def lW:List Value->Option (List Int)
 |[]=>some []
 |.int i _::r=>(lW r).map (i::·)
 |_=>none
noncomputable def nsH(h:Heap)(x:Str):Option (Option Value):=match h.get? AS with
 |some o=>BK [(AS,o)] AS x
 |none=>none
noncomputable def X4(fd:BD):BD:={fd with kwdefaults:=.none,doc:=.none,pyModule:=.none,annotations:=none,code:=.none,closureTuple:=.none}
noncomputable def yX(o:Obj):Bool:=(match o.cls with|.none=>true|_=>false)&&(match o.data with|.fields _=>true|_=>false)
def iY(h:Heap)(cd:Value)(x:Str):Bool:=match cd with
 |.ref c=>(match h.get? c with
  |some o=>!yX o&&B1 [(c,o)] (.ref c) x
  |none=>false)
 |_=>false
def Yp(h:Heap)(x:Str):Option BD:=match nsH h x with
 |some (some (.ref f))=>(match h.get? f with
  |some ⟨_,_,.func fd,_⟩=>if iY h fd.code x then some (X4 fd) else none
  |_=>none)
 |_=>none
def Xq(p:Str × Stmt):Option BD:=some (BL p.1 p.1 (args p.2) (body p.2) (scope p.2) .none .none .none .none none .none .none)
def glB(h:Heap)(x:Str):G->Bool
 |.b i=>(match nsH h x with|some (some (.int j _))=>decide (i=j)|_=>false)
 |.c y=>(match nsH h x with|some (some (.str z _))=>decide (y=z)|_=>false)
 |.a ns=>(match nsH h x with
  |some (some (.ref a))=>(match h.get? a with
   |some ⟨.type n,_,.seq us _,_⟩=>decide (n="tuple")&&decide (us.toList.length<=1000)&&decide (lW us.toList=some ns)
   |_=>false)
  |_=>false)
def blB(h:Heap)(x:Str):Bool:=match nsH h x with|some none=>true|_=>false
def bw(D:List (Str × Stmt))(gl:List (Str × G))(s:Shared):List (Option BD) × Bool:=(D.map λp=>Yp s.heap p.1,gl.all (λp=>glB s.heap p.1 p.2)&&QR.all λx=>blB s.heap x)
def Zn(D:List (Str × Stmt)):List (Option BD) × Bool:=(D.map Xq,true)
end Hd
end
section
namespace Hd
open PySem PySem.W
noncomputable def hsh(w:World)(x:Str):Int:=reduceHash (w.params.strHash x.cps)
def ent(w:World)(x:Str)(t:Tok)(v:Value):Ga:=⟨hsh w x,.str x t,v⟩
def Z8(w:World)(n:Nat)(t:Tok)(b:Addr)(md:Value)(x:Str)(l:Int):List Obj:=
 [{cls:=.type "tuple",data:=.seq #[.ref b]},
  {cls:=.type "builtin_function_or_method",data:=.fields #[.builtin "type.__prepare__",.type "type"]},
  {cls:=.type "dict",data:=.dict #[ent w "__module__" (t+7) md,ent w "__qualname__" (t+9) (.str x (t+8)),ent w "__firstlineno__" (t+11) (.int l (t+10)),ent w "__static_attributes__" (t+12) (.ref (n+7))] 4},
  {cls:=.type "tuple",data:=.seq #[]},
  {cls:=.none,data:=.fields #[]},
  {cls:=.type "code",data:=.fields #[.str x (t+2),.str x (t+3),.str "/claim/cut.py" (t+4),.int l 0,.int 0 0,.int 0 0,.int 0 0,.int 0 0,.ref (n+3),.bool false,.int 181 0,.ref (n+4),.none,.none,.none,.none,.int (t+5) 0,.int l 0,.str "/claim/cut.py" (t+6)]},
  {cls:=.type "frame",data:=.plain,slots:=#[some (.ref (n+5)),some (.ref 3),some (.ref (n+2)),none,some md,none,some (.ref 0)]},
  {cls:=.type "tuple",data:=.seq #[]},
  {cls:=.type "dict",data:=.dict #[ent w "__module__" (t+7) md,ent w "__firstlineno__" (t+11) (.int l (t+10)),ent w "__static_attributes__" (t+12) (.ref (n+7)),ent w "__doc__" (t+13) .none] 2},
  {cls:=.type "type",data:=.cls {name:=x,bases:=[.ref b],mro:=[.ref (n+9),.ref b,.type "ValueError",.type "Exception",.type "BaseException",.type "object"],ns:=n+8,qualname:=x},slots:=#[some (.ref n),none,some (.str x t),some (.str x (t+8)),some (.builtin "ValueError.__new__"),some (.bool true)]},
  {cls:=.type "super",data:=.fields #[.ref (n+9),.ref (n+9),.ref (n+9)]},
  {cls:=.type "builtin_function_or_method",data:=.fields #[.builtin "object.__init_subclass__",.ref (n+9)]}]
def dj(w:World)(b:Addr)(md:Value):Nat->Nat->List (Str × Int)->List Obj
 |_,_,[]=>[]
 |n,t,c::cs=>Z8 w n t b md c.1 c.2++dj w b md (n+12) (t+16) cs
def cO(w:World):Nat->Nat->List (Str × Int)->List Ga
 |_,_,[]=>[]
 |n,t,c::cs=>ent w c.1 (t+15) (.ref (n+9))::cO w (n+12) (t+16) cs
noncomputable def dq:Nat->List (Str × Int)->List Value
 |_,[]=>[]
 |n,c::cs=>.int c.2 0::.int 0 0::.ref (n+5)::dq (n+12) cs
noncomputable def ZY:Nat->List (Str × Int)->List Value
 |_,[]=>[]
 |n,_::cs=>.ref (n+9)::ZY (n+12) cs
noncomputable def Qp(x:List Ga):Obj->Obj
 |⟨c,d,.dict es n,s⟩=>⟨c,d,.dict ⟨es.toList++x⟩ (n+x.length),s⟩
 |o=>o
noncomputable def Qr(x:List Value):Obj->Obj
 |⟨c,d,.fields vs,s⟩=>⟨c,d,.fields ⟨vs.toList++x⟩,s⟩
 |o=>o
noncomputable def Qq(x:List Value):Obj->Obj
 |⟨c,d,.cls k,s⟩=>⟨c,d,.cls {k with subclasses:=k.subclasses++x},s⟩
 |o=>o
noncomputable def atL(f:Obj->Obj):Nat->List Obj->List Obj
 |_,[]=>[]
 |0,o::os=>f o::os
 |n+1,o::os=>o::atL f n os
noncomputable def d0(st:Stmt):Stmt:=match st with
 |.ClassDef _ _ _ b _ _ _ _ _ _ _=>b.getD 0 st
 |_=>st
def TR(w:World)(n:Nat)(t:Tok)(b:Addr)(md:Value)(st:Stmt)(l:Int):List Obj:=
 let x:Str:="TooGreat";let f:BD:={name:="__init__",qualname:="TooGreat.__init__",params:=args (d0 st),body:=.stmts (body (d0 st)),scope:=scope (d0 st),globals:=0,closure:=[],defaults:=.none,kwdefaults:=.none}
 [{cls:=.type "tuple",data:=.seq #[.ref b]},
  {cls:=.type "builtin_function_or_method",data:=.fields #[.builtin "type.__prepare__",.type "type"]},
  {cls:=.type "dict",data:=.dict #[ent w "__module__" (t+7) md,ent w "__qualname__" (t+9) (.str x (t+8)),ent w "__firstlineno__" (t+11) (.int l (t+10)),ent w "__init__" (t+20) (.ref (n+13)),ent w "__static_attributes__" (t+23) (.ref (n+14))] 5},
  {cls:=.type "tuple",data:=.seq #[]},
  {cls:=.none,data:=.fields #[.int (l+2) 0,.int 4 0,.ref (n+12)]},
  {cls:=.type "code",data:=.fields #[.str x (t+2),.str x (t+3),.str "/claim/cut.py" (t+4),.int l 0,.int 0 0,.int 0 0,.int 0 0,.int 0 0,.ref (n+3),.bool false,.int 181 0,.ref (n+4),.none,.none,.none,.none,.int (t+5) 0,.int l 0,.str "/claim/cut.py" (t+6)]},
  {cls:=.type "frame",data:=.plain,slots:=#[some (.ref (n+5)),some (.ref 3),some (.ref (n+2)),none,some md,none,some (.ref 0)]},
  {cls:=.type "tuple",data:=.seq #[]},
  {cls:=.none,data:=.fields #[]},
  {cls:=.type "tuple",data:=.seq #[.str "self" (t+15),.str "many" (t+16),.str "most" (t+17)]},
  {cls:=.type "tuple",data:=.seq #[]},
  {cls:=.none,data:=.func f},
  {cls:=.type "code",data:=.fields #[.str "__init__" (t+12),.str "TooGreat.__init__" (t+13),.str "/claim/cut.py" (t+14),.int (l+2) 0,.int 3 0,.int 0 0,.int 0 0,.int 3 0,.ref (n+7),.bool true,.int 181 0,.ref (n+8),.none,.ref (n+9),.ref (n+10),.ref (n+11),.int (t+18) 0,.int (l+2) 0,.str "/claim/cut.py" (t+19)]},
  {cls:=.type "function",data:=.func {f with globals:=3,pyModule:=md,code:=.ref (n+12)}},
  {cls:=.type "tuple",data:=.seq #[.str "many" (t+21),.str "most" (t+22)]},
  {cls:=.type "dict",data:=.dict #[ent w "__module__" (t+7) md,ent w "__firstlineno__" (t+11) (.int l (t+10)),ent w "__init__" (t+20) (.ref (n+13)),ent w "__static_attributes__" (t+23) (.ref (n+14)),ent w "__doc__" (t+24) .none] 2},
  {cls:=.type "type",data:=.cls {name:=x,bases:=[.ref b],mro:=[.ref (n+16),.ref b,.type "ValueError",.type "Exception",.type "BaseException",.type "object"],ns:=n+15,qualname:=x},slots:=#[some (.ref n),none,some (.str x t),some (.str x (t+8)),some (.builtin "ValueError.__new__"),some (.bool true)]},
  {cls:=.type "super",data:=.fields #[.ref (n+16),.ref (n+16),.ref (n+16)]},
  {cls:=.type "builtin_function_or_method",data:=.fields #[.builtin "object.__init_subclass__",.ref (n+16)]}]
def tgF(w:World)(n t:Nat)(b:Addr)(md:Value)(cs:List (Str × Int))(st:Stmt)(l:Int)(s:Shared):Shared:=
 let m:=n+12*cs.length;let u:=t+16*cs.length
 {s with toks:=u+27,heap:={s.heap with objs:=⟨atL (Qp (cO w n t cs++[ent w "TooGreat" (u+26) (.ref (m+16))])) 3 (atL (Qr (dq n cs++[.int l 0,.int 0 0,.ref (m+5)])) 12 (atL (Qq (ZY n cs++[.ref (m+16)])) b s.heap.objs.toList))++(dj w b md n t cs++TR w m u b md st l)⟩}}
noncomputable def vm(p:Program):Env:={scope:=p.main.scope,locals:=mainNs,globals:=mainNs,cells:=[],code:=.ref 13,frame:=some 14}
noncomputable def nh:Option Value:=some (.ref 6)
noncomputable def S0(p:Program)(w:World):Shared:=(GH BQ p w 100000).getD (start (opening p)).1
def SA(p:Program)(w:World):Shared:=((topGo BQ p w 11 nh 12 (S0 p w) (topStub p)).map Prod.fst).getD (S0 p w)
noncomputable def Bd(p:Program)(k:Nat):List Stmt:=(BE p).take 2++(((BE p).drop 2).take k++(BE p).drop (2+k))
def Cd(p:Program)(k:Nat):Code:=.body (Bd p k) (vm p)
def S1(p:Program)(k:Nat)(w:World):Shared:=((segRun BQ p w 11 nh 1 1000 (SA p w) (Gy ((BE p).take 2) (vm p) (Cd p k) default [Dj default])).map λr=>r.2.1).getD (SA p w)
noncomputable def Ur(l:Nat):Pos:=⟨l,0,l+1,8⟩
noncomputable def Us(l:Nat):Pos:=⟨l,0,l+5,24⟩
def S3(p:Program)(cs:List (Str × Int))(l:Nat)(w:World):Shared:=tgF w 28 207 24 (.str "evenhues.errors" 187) cs ((BE p).getD (2+cs.length) (.Pass ⟨0,0,0,0⟩)) l (S1 p (cs.length+1) w)
noncomputable def Z5(p:Program)(h:Heap)(z:Shared):Bool:=staticsOk (Gb p.main.body) h z.heap&&namesBound p z.heap&&gensDone z&&laidKept h z.heap
def chk(p:Program)(h:Heap)(z:Shared):Option Shared:=match Z5 p h z with
 |true=>some z
 |false=>none
def fM{Yf}{Y:World->α}{T0 TA T1 T2:World->Shared}
 (S:cd=.body (l1++(l2++l3)) env)
 (h0:∀w,GH BQ p w N=some (T0 w))
 (h1:∀w,((T0 w).heap.isNs AS&&(T0 w).gens.size == 0,(T0 w).heap.objs.size,(T0 w).heap.nsMap AS "__annotations__")=(true,m,ann))
 (hA:∀w,topGo BQ p w m ann k0 (T0 w) (topStub p)=some (TA w,⟨denote BQ (.body (l1++(l2++l3)) env),cd,b0,[Dj qq]⟩))
 (hB:∀w,segRun BQ p w m ann 1 1 (TA w) (blockOf (l1++(l2++l3)) env cd b0 [Dj qq])=some (.next,TA w,cd,b0))
 (hC:∀w,segRun BQ p w m ann 1 n1 (TA w) (Gy l1 env cd b0 [Dj qq])=some (.next,T1 w,cd,b1))
 (hD:∀w,segRun BQ p w m ann 1 n2 (T1 w) (Gy l2 env cd b1 [Dj qq])=some (.next,T2 w,cd,b2))
 (hE:∀w,((topRun BQ p w m ann n3 (T2 w) (restOf l3 env cd b2 [Dj qq])).bind (chk p (T0 w).heap)).map (λz=>(openSeen q loose (Gb p.main.body) Xt true z,Yf z))=some (openGood q loose,Y w))
 (Q:Nat.ble (k0+(1+(n1+(n2+n3)))) N=true):LeftO p q loose Xt Yf Y N:=λw=>by
 have hs:=h1 w;simp only[GI]at hs;obtain⟨r,k1,k2⟩:=BF.mp (hE w);obtain⟨R,k3,x⟩:=D3.mp k1;have O:=topRun_mono (N-(k0+(1+(n1+(n2+n3))))) _ _ _ _ (go_top (hA w) (piece_block (hB w) (piece_app (hC w) (piece_app (hD w) k3))));rw[Nat.add_sub_cancel' (Nat.le_of_ble_eq_true Q)]at O;have P:topFrom BQ p w N (T0 w)=some r:=by unfold topFrom;rw[hs.1,hs.2.1,hs.2.2];dsimp only;rw[O];unfold chk Z5 at x;exact x
 unfold openEnds;rw[h0 w,FO,P];exact congrArg some k2
def SQ{Z Y W U S R Q κ:Type}{o:Option Shared}{f:Shared->Z × Y × W × U × S × R × Q}{g:Shared->κ}{a}{b}{c}{d}{e}{i}{j}{u}(h0:o.map (λz=>(f z).1)=some a)(h1:o.map (λz=>((f z).2.1,(f z).2.2.1))=some (b,c))(P:o.map (λz=>(f z).2.2.2.1)=some d)(N:o.map (λz=>((f z).2.2.2.2.1,(f z).2.2.2.2.2.1))=some (e,i))(O:o.map (λz=>(f z).2.2.2.2.2.2)=some j)(x:o.map (λz=>(g z,Z5 p h z))=some (u,true)):(o.bind (chk p h)).map (λz=>(f z,g z))=some ((a,b,c,d,e,i,j),u):=by
 cases o with
 |none=>cases x
 |some z=>
  simp only[C9,D8,GI]at h0 h1 P O x N;have e1:chk p h z=some z:=by unfold chk;rw[x.2]
  rw[FO,e1,<-h0,<-h1.1,<-h1.2,<-P,<-N.1,<-N.2,<-O,<-x.1];rfl
structure XT where
 a:List Str
 c:List Str
 b:List Str
def adH(h:Heap)(x:Str):Option Addr:=match nsH h x with
 |some (some (.ref a))=>some a
 |_=>none
def W5(h:Heap)(x:Str):List (Addr × Obj):=match adH h x with
 |some a=>(match h.get? a with
  |some o=>(match o.data with
   |.cls cd=>(a,o)::(match h.get? cd.ns with
    |some n=>if yX n then [] else [(cd.ns,n)]
    |none=>[])
   |_=>[])
  |none=>[])
 |none=>[]
def kcH(h:Heap):List Str->Frag
 |[]=>[]
 |x::xs=>W5 h x++kcH h xs
noncomputable def veM:List Value:=[.type "ValueError",.type "Exception",.type "BaseException",.type "object"]
noncomputable def gR(K:Frag)(C:Addr):Bool:=(findIn K (.ref C) "__getattribute__" == some (some (.builtin "BaseException.__getattribute__")))&&(findIn K (.ref C) "__getattr__" == some none)&&(findIn K (.ref C) "__class__" == some (some (.builtin "object.__class__"))) &&
 (subIn K (.ref C) (.type "BaseException") == some true)&&(subIn K (.ref C) (.type "object") == some true)&&(clsIn K C).isSome
def bq(h:Heap)(C:Addr)(bm:List Value):Bool:=match h.get? C with
 |some o=>(match o.data with
  |.cls cd=>(cd.mro == .ref C::bm)&&(match h.get? cd.ns with
   |some n=>!yX n
   |none=>false)
  |_=>false)
 |none=>false
def bmB(h:Heap):Bool:=match adH h "__builtins__" with
 |some b=>(match h.get? b with
  |some o=>!yX o
  |none=>false)
 |none=>false
def j9(h:Heap)(x:Str):Option Addr:=match adH h x with
 |some f=>(match h.get? f with
  |some o=>(match o.data with
   |.func fd=>(match fd.code with
    |.ref c=>(match h.get? c with
     |some oc=>(match oc.data with
      |.fields vs=>(match (vs[11]?:Option Value) with
       |some (.ref P)=>some P
       |_=>none)
      |_=>none)
     |none=>none)
    |_=>none)
   |_=>none)
  |none=>none)
 |none=>none
def mR(X:XT)(h:Heap):Bool:=match adH h "HueError" with
 |none=>false
 |some hue=>X.a.all (λc=>(adH h c).isSome)&&blB h "ValueError"&&X.c.all (λc=>match adH h c with
  |none=>false
  |some C=>gR (kcH h ("HueError"::X.a)) C&&(exmOne (kcH h ("HueError"::X.a)) (.ref C) (.ref hue) == some true)&&X.a.all (λd=>kitOne (kcH h ("HueError"::X.a)) (.ref C) (.ref ((adH h d).getD 0)) == some (decide (d=c))) &&
   (kitOne (kcH h ("HueError"::X.a)) (.ref C) (.type "ValueError") == some true)&&bq h C (.ref hue::veM)) &&
  bq h hue veM&&bmB h&&decide ((X.b.map (j9 h)).Nodup)
noncomputable def slB(x:Array (Option Value)):Bool:=match x.toList with
 |[_,_,_,_,some (.builtin m),_]=>decide (m="ValueError.__new__")
 |_=>false
def dk(h:Heap)(C hue:Addr):Bool:=match h.get? C with
 |some ⟨.type n,_,.cls cd,sl⟩=>decide (n="type")&&(cd.mro == .ref C::.ref hue::veM)&&cd.hasDict&&!cd.hasDel&&slB sl&&h.isNs cd.ns
 |_=>false
noncomputable def hG(h:Heap)(C:Addr):Option Addr:=match h.get? C with
 |some ⟨_,_,.cls cd,_⟩=>(match h.nsMap cd.ns "__init__" with
  |some (.ref f)=>some f
  |_=>none)
 |_=>none
def cw(h:Heap)(C:Addr):Option BD:=match hG h C with
 |some f=>(match h.get? f with
  |some ⟨.type n,_,.func fd,_⟩=>if decide (n="function")&&iY h fd.code "TooGreat.__init__" then some (X4 fd) else none
  |_=>none)
 |none=>none
noncomputable def VP(K:Frag)(C D:Addr):Bool:=(findIn K (.ref C) "__setattr__" == some (some (.builtin "object.__setattr__")))&&(findIn K (.ref C) "many" == some none)&&(findIn K (.ref C) "most" == some none) &&
 (specialIn K (.ref D) "__getattribute__" == some (some (.builtin "type.__getattribute__")))&&readsIn K D (.type "type")&&(match findCls K (.ref D) (.type "type") "__init__" with
  |some (.val (.builtin m))=>decide (m="ValueError.__init__")
  |_=>false)
def kcG(h:Heap)(x:List Str):Frag:=(match h.get? cStatics with
 |some o=>if yX o then [] else [(cStatics,o)]
 |none=>[])++kcH h x
def Yq(X:XT)(h:Heap):Bool × Option BD:=match adH h "TooGreat" with
 |some C=>(match adH h "HueError" with
  |some D=>(dk h C D&&VP (kcG h ("HueError"::X.a)) C D&&(exmOne (kcG h ("HueError"::X.a)) (.ref C) (.ref C) == some true)&&gR (kcG h ("HueError"::X.a)) C,cw h C)
  |none=>(false,none))
 |none=>(false,none)
noncomputable def k6(s:Stmt):Stmt:=match s with
 |.ClassDef _ _ _ (st::_) _ _ _ _ _ _ _=>st
 |_=>.Pass ⟨0,0,0,0⟩
def Zm(st:Stmt):Bool × Option BD:=(true,some (BL "__init__" "TooGreat.__init__" (args st) (body st) (scope st) .none .none .none .none none .none .none))
def SR{Q P O:Type}{o:Option Shared}{f:Shared->Q}{g:Shared->P}{r}{a}{b}{d:O}(h1:(o.bind (chk p h)).map (λz=>(f z,g z))=some (a,b))(x:o.map q=some true)(N:o.map r=some d):(o.bind (chk p h)).map (λz=>(f z,(g z,(q z,r z))))=some (a,(b,(true,d))):=by
 cases o with
 |none=>cases x
 |some z=>
  rw[FO]at h1 ⊢;unfold chk at h1 ⊢;split
  . rename_i e
    rw[e]at h1;simp only[C9,D8,GI]at h1 x N ⊢;exact⟨h1.1,h1.2,x,N⟩
  . rename_i e;rw[e]at h1;cases h1
end Hd
end
section
set_option maxHeartbeats 0
open PySem PySem.W PyProof.Rows
namespace P06
noncomputable def top(i:Nat):Stmt:=PySem.Challenge.pw_evenhues_k06_strips_turned.main.body.getD i (.Pass ⟨0,0,0,0⟩)
def D:List (Str × Stmt):=(("is_whole":Str),top 20)::(("are_wholes":Str),top 21)::(("need_whole":Str),top 22)::(("need_first":Str),top 23)::(("need_step":Str),top 24)::(("is_strip":Str),top 27)::(("need_strip":Str),top 28)::(("is_order":Str),top 29)::(("backward":Str),top 30)::(("exchanged":Str),top 31)::(("thinned":Str),top 32)::(("joined":Str),top 33)::(("_law_cell_at":Str),top 35)::(("_law_pen":Str),top 36)::(("_law_draw":Str),top 37)::(("_law_strip":Str),top 38)::(("_law_class":Str),top 39)::(("_law_said":Str),top 40)::(("_law_order":Str),top 41)::(("_law_no_orders":Str),top 42)::(("_law_refused_right":Str),top 43)::(("law":Str),top 44)::[]
noncomputable def gl:List (Str × Hd.G):=[("MOST_PLACES",.b 40),("HUES",.a [0,1,2,3])]
def q:Program:={PySem.Challenge.pw_evenhues_k06_strips_turned with main:={PySem.Challenge.pw_evenhues_k06_strips_turned.main with body:=[1,2,3,4,5,6,7,8,9,10,11,12,13,14,15,16,17,19,20,21,22,23,24,26,27,28,29,30,31,32,33,35,36,37,38,39,40,41,42,43,44].map top}}
def dd:DefRec:=Hd.W7 "law" (top 44)
noncomputable def X:Hd.XT:=⟨["NoStrip","NoSizes","NoNumber","NoPlace","NoHue","NoDraft","NoPaper","NoFit","NoLot","NoRing","NoRound","NoStand","NoText","NoDeed","NoLine","TooGreat"],["NoStrip","NoNumber","NoHue","TooGreat"],["_law_refused_right","law"]⟩
noncomputable abbrev pr:Program:=PySem.Challenge.rw_evenhues_k06_strips_turned.row.prog
noncomputable def W6:List (Str × Int):=[("NoStrip",4),("NoSizes",6),("NoNumber",8),("NoPlace",10),("NoHue",12),("NoDraft",14),("NoPaper",16),("NoFit",18),("NoLot",20),("NoRing",22),("NoRound",24),("NoStand",26),("NoText",28),("NoDeed",30),("NoLine",32)]
def Fz(w:World):Option Shared:=topRun BQ pr w 11 Hd.nh 50000 (Hd.S3 pr W6 34 w) (restOf ((BE pr).drop 18) (Hd.vm pr) (Hd.Cd pr 16) (Hd.Us 34) [Dj default])
def Sn(z:Shared):=openSeen q [] (Gb pr.main.body) (λs=>Fe PySem.Challenge.rw_evenhues_k06_strips_turned.row.records s) true z
def e0:∀w,(Fz w).map (λz=>(Sn z).1)=some (expectedOf q):=by
 intro w
 kernel_rfl
def e1:∀w,(Fz w).map (λz=>((Sn z).2.1,(Sn z).2.2.1))=some (bltViewBooted,true):=by
 intro w
 kernel_rfl
def e2:∀w,(Fz w).map (λz=>(Sn z).2.2.2.1)=some true:=by
 intro w
 kernel_rfl
def e6:∀w,(Fz w).map (λz=>((Sn z).2.2.2.2.1,(Sn z).2.2.2.2.2.1))=some (pinGoodD (drecsOf q),plainGoodE q (looseW q [])):=by
 intro w
 kernel_rfl
def e3:∀w,(Fz w).map (λz=>(Sn z).2.2.2.2.2.2)=some (plainGoodD q [],wideGood q,clsGoodW q []):=by
 intro w
 kernel_rfl
def e4:∀w,(Fz w).map (λz=>(Hd.bw D gl z,Hd.Z5 pr (Hd.S0 pr w).heap z))=some (Hd.Zn D,true):=by
 intro w
 kernel_rfl
def e5:∀w,(Fz w).map (λz=>Hd.mR X z.heap)=some true:=by
 intro w
 kernel_rfl
def e7:∀w,(Fz w).map (λz=>Hd.Yq X z.heap)=some (Hd.Zm (Hd.k6 (top 17))):=by
 intro w
 kernel_rfl
def h0:∀w,GH BQ pr w 100000=some (Hd.S0 pr w):=by
 intro w
 kernel_rfl
def h1:∀w,((Hd.S0 pr w).heap.isNs AS&&(Hd.S0 pr w).gens.size == 0,(Hd.S0 pr w).heap.objs.size,(Hd.S0 pr w).heap.nsMap AS "__annotations__")=(true,11,Hd.nh):=by
 intro w
 kernel_rfl
def hA:∀w,topGo BQ pr w 11 Hd.nh 12 (Hd.S0 pr w) (topStub pr)=some (Hd.SA pr w,⟨denote BQ (.body (Hd.Bd pr 16) (Hd.vm pr)),Hd.Cd pr 16,default,[Dj default]⟩):=by
 intro w
 kernel_rfl
def hB:∀w,segRun BQ pr w 11 Hd.nh 1 1 (Hd.SA pr w) (blockOf (Hd.Bd pr 16) (Hd.vm pr) (Hd.Cd pr 16) default [Dj default])=some (.next,Hd.SA pr w,Hd.Cd pr 16,default):=by
 intro w
 kernel_rfl
def hC:∀w,segRun BQ pr w 11 Hd.nh 1 1000 (Hd.SA pr w) (Gy ((BE pr).take 2) (Hd.vm pr) (Hd.Cd pr 16) default [Dj default])=some (.next,Hd.S1 pr 16 w,Hd.Cd pr 16,Hd.Ur 2):=by
 intro w
 kernel_rfl
def hD:∀w,segRun BQ pr w 11 Hd.nh 1 20000 (Hd.S1 pr 16 w) (Gy (((BE pr).drop 2).take 16) (Hd.vm pr) (Hd.Cd pr 16) (Hd.Ur 2) [Dj default])=some (.next,Hd.S3 pr W6 34 w,Hd.Cd pr 16,(Hd.Us 34)):=by
 intro w
 kernel_rfl
def hE:∀w,((Fz w).bind (Hd.chk pr (Hd.S0 pr w).heap)).map (λz=>(Sn z,Hd.bw D gl z))=some (openGood q [],Hd.Zn D):=λw=>Hd.SQ (e0 w) (e1 w) (e2 w) (e6 w) (e3 w) (e4 w)
def left:PySem.W.LeftO pr q [] (λs=>Fe PySem.Challenge.rw_evenhues_k06_strips_turned.row.records s) (λz=>(Hd.bw D gl z,(Hd.mR X z.heap,Hd.Yq X z.heap))) (λ_=>(Hd.Zn D,(true,Hd.Zm (Hd.k6 (top 17))))) 100000:=
 Hd.fM (p:=pr) (T0:=Hd.S0 pr) (TA:=Hd.SA pr) (T1:=Hd.S1 pr 16) (T2:=Hd.S3 pr W6 34) (N:=100000) (m:=11) (k0:=12) (n1:=1000) (n2:=20000) (n3:=50000) (ann:=Hd.nh) (env:=Hd.vm pr) (l1:=(BE pr).take 2) (l2:=((BE pr).drop 2).take 16) (l3:=(BE pr).drop 18) (cd:=Hd.Cd pr 16) (b0:=default) (b1:=Hd.Ur 2) (b2:=(Hd.Us 34)) (qq:=default) rfl h0 h1 hA hB hC hD (λw=>Hd.SR (hE w) (e5 w) (e7 w)) (by decide +kernel)
def kH:PySem.Challenge.rw_evenhues_k06_strips_turned.wellSaid=true:=by kernel_rfl
def cn:PySem.W.defOf q PySem.Challenge.rw_evenhues_k06_strips_turned.row.name=some (dd,[]):=by kernel_rfl
def hp:PySem.Challenge.rw_evenhues_k06_strips_turned.row.prog.theDef PySem.Challenge.rw_evenhues_k06_strips_turned.row.name=some (dd.params,dd.body,dd.scope):=by kernel_rfl
def hk:PySem.W.kwWritten? dd.params.kwonlyargs dd.params.kw_defaults=some []:=by kernel_rfl
def hwr:(!PySem.Challenge.rw_evenhues_k06_strips_turned.row.writes||PySem.Challenge.rw_evenhues_k06_strips_turned.row.records.isEmpty)=true:=by kernel_rfl
def ok:(PySem.W.chainsOk q&&PySem.W.opensWell PySem.Challenge.rw_evenhues_k06_strips_turned.row.prog&&(PySem.W.frees PySem.Challenge.rw_evenhues_k06_strips_turned.row.toRowW&&PySem.Challenge.rw_evenhues_k06_strips_turned.row.within.isEmpty))=true:=by kernel_rfl
def hdf:dd.params.defaults=[]:=by kernel_rfl
theorem bare:PySem.Challenge.rw_evenhues_k06_strips_turned.row.prog.bare:=⟨rfl,rfl,rfl,rfl,rfl,by decide +kernel⟩
def hw:PySem.Challenge.rw_evenhues_k06_strips_turned.row.toRowW.promised:=by w_witness2
end P06
end
section
namespace L2
open PySem PySem.Spec PyProof.Rows
abbrev Key:=Sum Int Str
noncomputable def WL:Key->Value->Bool
 |.inl k,v=>Value.isInt k v
 |.inr x,v=>Value.isStrOf x v
noncomputable def QV(w:World):Key->Int
 |.inl k=>hashInt k
 |.inr x=>hashStr w x
def yP:∀{k} {v},WL k v=true->(∃i t,k=Es i/\v=Gd i t)\/(∃x t,k=Et x/\v=Ge x t)
 |.inl i,v,h=>by
  obtain⟨t,e⟩:=Value.isInt_shape (k:=i) (v:=v) h;exact .inl ⟨i,t,rfl,e⟩
 |.inr x,v,h=>by obtain⟨t,e⟩:=Value.isStrOf_shape (x:=x) (v:=v) h;exact .inr ⟨x,t,rfl,e⟩
def V3 a b:decide ((Es a:Key)=Es b)=(a == b):=by
 by_cases e:a=b
 . subst e;simp
 . have h:¬(Es a:Key)=Es b:=λq=>e (Es.inj q)
   rw[decide_eq_false h];exact(beq_eq_false_iff_ne.mpr e).symm
def V6 a b:decide ((Et a:Key)=Et b)=decide (a=b):=by
 by_cases e:a=b
 . subst e;simp
 . have h:¬(Et a:Key)=Et b:=λq=>e (Et.inj q)
   rw[decide_eq_false h,decide_eq_false e]
def V4 a b:decide ((Es a:Key)=Et b)=false:=decide_eq_false (λq=>nomatch q)
def V5 a b:decide ((Et a:Key)=Es b)=false:=decide_eq_false (λq=>nomatch q)
def mL(prog:Program)(w:World):PySem.KeyKind prog w Key where
 is:=WL
 hash:=QV w
 inj:=λv a b P O=>by
  rcases yP P with⟨i,t,rfl,rfl⟩|⟨x,t,rfl,rfl⟩
  . rcases yP O with⟨j,u,rfl,e⟩|⟨y,u,rfl,e⟩
    . injection e with e1 _;rw[e1]
    . exact nomatch e
  . rcases yP O with⟨j,u,rfl,e⟩|⟨y,u,rfl,e⟩
    . exact nomatch e
    . injection e with e1 _;rw[e1]
 byValue:=λk v h=>by
  rcases yP h with⟨i,t,rfl,rfl⟩|⟨x,t,rfl,rfl⟩<;>rfl
 pyHash:=λN h=>by
  rcases yP N with⟨i,t,rfl,rfl⟩|⟨x,t,rfl,rfl⟩
  . exact wpAny_pyHash_int h
  . exact wpAny_pyHash_str h
 eqBool:=λhu N h=>by
  rcases yP hu with⟨i,t,rfl,rfl⟩|⟨x,t,rfl,rfl⟩
  . rcases yP N with⟨j,u,rfl,rfl⟩|⟨y,u,rfl,rfl⟩
    . rw[V3]at h;exact wpAny_eqBool_int h
    . rw[V4]at h;exact Bp.int_str i t y u _ _ _ _ h
  . rcases yP N with⟨j,u,rfl,rfl⟩|⟨y,u,rfl,rfl⟩
    . rw[V5]at h;exact Bp.str_int x t j u _ _ _ _ h
    . rw[V6]at h;exact wpAny_eqBool_str h
 «strs»:=λk x t v h=>by
  rcases yP h with⟨i,u,rfl,e⟩|⟨y,u,rfl,e⟩
  . exact nomatch e
  . injection e with e1 _
    subst e1;cases v<;>rfl
inductive V where
 |g|f (b:Bool)|d (i:Int)|e (x:Str)|h (b:Array UInt8)|j (b:UInt64)|c (a:Addr)|k (n:String)
 deriving DecidableEq
def RelV:V->Value->Prop
 |.g,u=>u=Bg
 |.f b,u=>u=Dc b
 |.d i,u=>∃t,u=Gd i t
 |.e x,u=>∃t,u=Ge x t
 |.h b,u=>∃t,u=Value.bytes b t
 |.j b,u=>∃t,u=Value.float b t
 |.c a,u=>u=AO a
 |.k n,u=>u=FH n
abbrev Vals:List V->List Value->Prop:=Paired RelV
theorem Vals.length(r:Vals xs us):xs.length=us.length:=GJ r
theorem Vals.get:∀{xs} {us} {i:Nat} {x},Vals xs us->xs[i]?=some x->∃u,us[i]?=some u/\RelV x u
 |_,_,_,_,.nil,e=>by simp at e
 |_,_,0,_,.cons r _,e=>by simp at e;subst e;exact⟨_,rfl,r⟩
 |_,_,i+1,x,.cons _ t,e=>by
  obtain⟨u,h1,N⟩:=Vals.get (i:=i) (x:=x) t (by simpa using e)
  exact⟨u,by simpa using h1,N⟩
theorem Vals.set(r:RelV x u):∀{xs} {us} i,Vals xs us->Vals (xs.set i x) (us.set i u)
 |_,_,_,.nil=>.nil
 |_,_,0,.cons _ t=>.cons r t
 |_,_,i+1,.cons q t=>.cons q (Vals.set r i t)
theorem Vals.append:∀{xs ys} {us ws},Vals xs us->Vals ys ws->Vals (xs++ys) (us++ws)
 |_,_,_,_,.nil,s=>s
 |_,_,_,_,.cons r t,s=>.cons r (Vals.append t s)
theorem Vals.take:∀{xs} {us} n,Vals xs us->Vals (xs.take n) (us.take n)
 |_,_,0,_=>.nil
 |_,_,_+1,.nil=>.nil
 |_,_,n+1,.cons r t=>.cons r (Vals.take n t)
theorem Vals.drop:∀{xs} {us} n,Vals xs us->Vals (xs.drop n) (us.drop n)
 |_,_,0,r=>r
 |_,_,_+1,.nil=>.nil
 |_,_,n+1,.cons _ t=>Vals.drop n t
def Vals.none_of:∀{xs} {us} {i:Nat},Vals xs us->xs[i]?=none->us[i]?=none:=λ{xs us i} r e=>by have h1:=r.length;have x:xs.length<=i:=CM.mp e;exact CM.mpr ⋯
def lH:Option V->Option Value->Prop
 |some v,some u=>RelV v u
 |none,none=>True
 |_,_=>False
def KV{κ:Type}:List (κ × V)->List (κ × Value)->Prop:=Paired λ(p:κ × V) (q:κ × Value)=>p.1=q.1/\RelV p.2 q.2
noncomputable def kV:Key->V
 |.inl i=>.d i
 |.inr x=>.e x
inductive HO where
 /-- a list -/
 |b (xs:List V)
 /-- a tuple (never changes) -/
 |c (xs:List V)
 /-- a dict whose keys are ints and texts;one whose keys are tuples of ints and texts (the empty one is both) -/
 |i (kvs:List (Key × V))|l (kvs:List (List Key × V))
 /-- a set of ints: its members,its size -/
 |p (S:Int->Bool) (n:Nat)
 /-- an instance of the class at C,its dict at dx,its attributes -/
 |k (C dx:Addr) (fs:List (Str × V))
 /-- the dict of the instance at x -/
 |e (x:Addr)
 /-- the dict of an exception -/
 |m (fs:List (Str × V))
 /-- a bound method,f of x -/
 |q (f x:Addr)
 /-- a range object lo,lo+1,.. below hi -/
 |r (lo hi:Int)
 /-- a thing that is known to the object (the script;a dict while a loop walks it): read,never written while it is so -/
 |d (o:Obj) (u:HO)
 /-- a code object's table -/
 |g (ps:Array Value)
 /-- any other thing,by what is true of its one object (a def of one's own: SetO a S n:=HO.ext λh=>..) -/
 |j (φ:Heap->Prop)
abbrev Hp:=Addr->Option HO
def si(h:Heap)(a:Addr)(items:Array Value):Prop:=∃o,h.get? a=some o/\o.cls=.type "tuple"/\∃n,o.data=.seq items n/\o.dict=none
def si.tup{h:Heap}{a:Addr}{items:Array Value}(x:si h a items):IsTup h a items:=let ⟨o,e,c,n,d,_⟩:=x;⟨o,e,c,n,d⟩
def si.lt(x:si h a items):a<h.objs.size:=let ⟨_,e,_⟩:=x;Al e
def si.new(h:Heap)items:si (h.push {cls:=.type "tuple",data:=.seq items}) h.objs.size items:=⟨_,AF _ rfl,rfl,_,rfl,rfl⟩
noncomputable def upd(H:Hp)(a:Addr)(o:HO):Hp:=λb=>if b=a then some o else H b
def zK:upd H a o a=some o:=by unfold upd;rw[if_pos rfl]
def zG(h:b≠a):upd H a o b=H b:=by unfold upd;rw[if_neg h]
def zN{H:Hp}(h:H a=some o)(h':H b=none):a≠b:=by intro e;subst e;rw[h]at h';cases h'
section
variable (P:Program)(w:World)
def z0(H:Hp)(h:Heap)(a:Addr):HO->Prop
 |.b N=>N.length<=Ar/\∃(its:List Value) (n:Nat),Vals N its/\h.get? a=some {cls:=.type "list",data:=.seq its.toArray n}
 |.c N=>N.length<=Ar/\∃its:List Value,Vals N its/\si h a its.toArray
 |.i kvs=>kvs.length<=Ar/\(a == B9)=false/\∃vs,KV kvs vs/\h.DictOf (mL P w) a vs
 |.l kvs=>kvs.length<=Ar/\(a == B9)=false/\∃N:List (List Key × Addr × Value),
  Paired (λ(p:List Key × V) (q:List Key × Addr × Value)=>p.1=q.1/\H q.2.1=some (.c (p.1.map kV))/\RelV p.2 q.2.2) kvs N /\
  ∃o es Q,h.get? a=some o/\o.ExactDict/\o.data=.dict es Q/\es.toList=N.map (entryOfKey (tupleKind (mL P w)))/\(N.map (·.1)).Nodup
 |.p S n=>h.SetOf (intKind P w) a S n
 |.k C dx fs=>H dx=some (.e a)/\fs.length<=1000/\dx≠a/\h.get? a=some (Gf C dx) /\
  ∃mA,h.Ns1 dx mA/\(∀f,lH (fs.lookup f) (mA f))/\EC mA (fs.map (·.1))
 |.e _=>∃o,h.get? a=some o
 |.m fs=>∃mA,h.Ns1 a mA/\∀f,lH (fs.lookup f) (mA f)
 |.r lo hi=>∃t u v,h.get? a=some {cls:=.type "range",data:=.fields #[.int lo t,.int hi u,.int 1 v]}
 |.d o u=>h.get? a=some o/\z0 H h a u
 |.g ps=>h.get? a=some {cls:=.none,data:=.fields ps}
 |.q f x=>h.get? a=some (Fv (.ref f) (.ref x))
 |.j φ=>φ h/\(∃o,h.get? a=some o)/\∀h1 O:Heap,φ h1->(∀o,h1.get? a=some o->O.get? a=some o)->φ O
def HOk(H:Hp)(h:Heap):Prop:=∀a o,H a=some o->z0 P w H h a o
end
theorem z0.lt(x:z0 P w H h a o):a<h.objs.size:=by
 cases o with
 |b O=>obtain⟨_,_,_,_,e⟩:=x;exact Al e
 |c O=>obtain⟨_,_,_,p⟩:=x;exact p.lt
 |i N=>obtain⟨_,_,_,_,o,_,_,e,_⟩:=x;exact Al e
 |l N=>obtain⟨_,_,_,_,o,_,_,e,_⟩:=x;exact Al e
 |p S n=>obtain⟨o,_,_,_,e,_⟩:=x;exact Al e
 |k C dx fs=>obtain⟨_,_,_,e,_⟩:=x;exact Al e
 |e y=>obtain⟨_,e⟩:=x;exact Al e
 |m fs=>obtain⟨_,⟨_,_,_,e,_⟩,_⟩:=x;exact Al e
 |r lo hi=>obtain⟨_,_,_,e⟩:=x;exact Al e
 |d ob u=>obtain⟨e,_⟩:=x;exact Al e
 |g ps=>exact Al (show h.get? a=some _ from x)
 |q f y=>exact Al (show h.get? a=some _ from x)
 |j Q=>obtain⟨_,⟨_,e⟩,_⟩:=x;exact Al e
theorem Paired.Sz:∀{l₁} {l₂},Paired F l₁ l₂->(∀a b,F a b->G a b)->Paired G l₁ l₂
 |_,_,.nil,_=>.nil
 |_,_,.cons r t,f=>.cons (f _ _ r) (Paired.Sz t f)
def z0.r9(x:z0 P w H h a o)(k:∀b u,(b=a\/H b=some (.e a))->h.get? b=some u->h'.get? b=some u)
 (W:∀b,H b=some (.e a)->H' b=some (.e a)) (U:∀b O,H b=some (.c O)->H' b=some (.c O)):z0 P w H' h' a o:=by
 induction o with
 |b O=>obtain⟨z,its,n,r,e⟩:=x;exact⟨z,its,n,r,k _ _ (.inl rfl) e⟩
 |c O=>obtain⟨z,its,r,ob,e,c⟩:=x;exact⟨z,its,r,ob,k _ _ (.inl rfl) e,c⟩
 |i Q=>obtain⟨z,y,vs,r,ob,es,N,e,c⟩:=x;exact⟨z,y,vs,r,ob,es,N,k _ _ (.inl rfl) e,c⟩
 |l Q=>
  obtain⟨z,y,O,r,ob,es,N,e,c⟩:=x;exact⟨z,y,O,Paired.Sz r λp q z=>⟨z.1,U _ _ z.2.1,z.2.2⟩,ob,es,N,k _ _ (.inl rfl) e,c⟩
 |p S n=>obtain⟨ob,es,N,t,e,c⟩:=x;exact⟨ob,es,N,t,k _ _ (.inl rfl) e,c⟩
 |k C dx fs=>
  obtain⟨d,z,ne,e,mA,⟨od,es,N,e2,c⟩,r⟩:=x;exact⟨W _ d,z,ne,k _ _ (.inl rfl) e,mA,⟨od,es,N,k _ _ (.inr d) e2,c⟩,r⟩
 |e y=>obtain⟨ob,e⟩:=x;exact⟨ob,k _ _ (.inl rfl) e⟩
 |m fs=>obtain⟨mA,⟨od,es,N,e,c⟩,r⟩:=x;exact⟨mA,⟨od,es,N,k _ _ (.inl rfl) e,c⟩,r⟩
 |r lo hi=>obtain⟨t,u,v,e⟩:=x;exact⟨t,u,v,k _ _ (.inl rfl) e⟩
 |d ob u R=>obtain⟨e,q⟩:=x;exact⟨k _ _ (.inl rfl) e,R q⟩
 |g ps=>
  have e:h.get? a=some {cls:=.none,data:=.fields ps}:=x;show h'.get? a=some {cls:=.none,data:=.fields ps};exact k a _ (.inl rfl) e
 |q f y=>
  have e:h.get? a=some (Fv (.ref f) (.ref y)):=x;show h'.get? a=some (Fv (.ref f) (.ref y));exact k a _ (.inl rfl) e
 |j Y=>obtain⟨p,⟨o,e⟩,st⟩:=x;exact⟨st _ _ p λo q=>k _ _ (.inl rfl) q,⟨o,k _ _ (.inl rfl) e⟩,st⟩
theorem HOk.lt(x:HOk P w H h)(e:H a=some o):a<h.objs.size:=(x a o e).lt
def HOk.fresh(x:HOk P w H h)(e:h.objs.size<=a):H a=none:=by
 cases q:H a with
 |none=>rfl
 |some u=>exact absurd (Aw (x.lt q) e) (Bc _)
def HOk.kept(x:HOk P w H h)(k:∀b u,h.get? b=some u->h'.get? b=some u):HOk P w H h':=λa o e=>
 (x a o e).r9 (λb u _ q=>k b u q) (λ_ q=>q) λ_ _ q=>q
def HOk.laid(x:HOk P w H h)(k:∀b u,h.get? b=some u->h'.get? b=some u)(hp:h.objs.size<=a)(new:z0 P w (upd H a o) h' a o):HOk P w (upd H a o) h':=λb u e=>by
 have N:=x.fresh hp;by_cases hb:b=a
 . subst hb;rw[zK]at e;cases e;exact new
 . rw[zG hb]at e
   exact(x b u e).r9 (λc v _ q=>k c v q) (λc q=>by rw[zG (zN q N)];exact q) λc O q=>by rw[zG (zN q N)];exact q
def Rd(H:Hp)(a:Addr)(u:HO):Prop:=H a=some u\/∃o,H a=some (.d o u)
def Rd.ok(r:Rd H a u)(x:HOk P w H h):z0 P w H h a u:=by
 rcases r with r|⟨o,r⟩
 . exact x a u r
 . obtain⟨_,q⟩:=x a _ r
   exact q
def Mut:Option HO->Prop
 |some (.b _)=>True
 |some (.i _)=>True
 |some (.l _)=>True
 |some (.p _ _)=>True
 |some (.k _ _ _)=>True
 |some (.j _)=>True
 |_=>False
def HOk.write(ok:HOk P w H h)(R:Mut (H x))(Y:e=x\/H e=some (.e x))(k:∀b u,b≠e->h.get? b=some u->h'.get? b=some u)(U:∃u,h'.get? e=some u)
 (new:z0 P w (upd H x o') h' x o'):HOk P w (upd H x o') h':=λb u q=>by
 have N:∀c y,H c=some (.e y)->c≠x:=λc y r z=>by subst z;rw[r]at R;exact R
 have O:∀c Q,H c=some (.c Q)->c≠x:=λc Q r z=>by subst z;rw[r]at R;exact R
 by_cases hb:b=x
 . subst hb;rw[zK]at q;cases q;exact new
 . rw[zG hb]at q
   by_cases hbe:b=e
   . have W:H b=some (.e x):=by
      rcases Y with z|z
      . exact absurd (hbe.trans z) hb
      . rw[hbe];exact z
     rw[q]at W;cases W;obtain⟨v,Z⟩:=U;exact⟨v,by rw[hbe];exact Z⟩
   . refine(ok b u q).r9 (λc v S r=>k c v ?_ r) (λc r=>by rw[zG (N c b r)];exact r) λc Q r=>by rw[zG (O c Q r)];exact r
     rcases S with rfl|S
     . exact hbe
     . rintro rfl
       rcases Y with z|z
       . exact N c b S z
       . rw[S]at z;cases z;exact hb rfl
structure Un(fs ex:List Addr)(H H':Hp)(h h':Heap):Prop where
 f:∀b o,h.get? b=some o->H b=none->b ∉ fs->b ∉ ex->h'.get? b=some o
 i:∀b o,h.get? b=some o->H b=none->b∈fs->b ∉ ex->∃sl,h'.get? b=some {o with slots:=sl}
 d:∀b o,h.get? b=some o->H b=none->b ∉ ex->H' b=none
 c:∀b o,h.get? b=some o->b ∉ ex->∃o',h'.get? b=some o'
 l:∀b xs,H b=some (.c xs)->H' b=some (.c xs)
 g:∀b o u,H b=some (.d o u)->H' b=some (.d o u)
 j:∀b ps,H b=some (.g ps)->∃more,H' b=some (.g (ps++more))
def Un.any(u:Un fs ex H H1 h h1)(q:h.get? b=some ob)(n:H b=none)(hx:b ∉ ex):∃x,h1.get? b=some {ob with slots:=x}:=by
 by_cases hb:b∈fs
 . exact u.i b ob q n hb hx
 . exact⟨ob.slots,u.f b ob q n hb hx⟩
def Un.kept(k:∀b u,h.get? b=some u->h'.get? b=some u):Un fs ex H H h h':=
 ⟨λb ob q _ _ _=>k b ob q,λb ob q _ _ _=>⟨ob.slots,k b ob q⟩,λ_ _ _ n _=>n,λb ob q _=>⟨ob,k b ob q⟩,λ_ _ q=>q,λ_ _ _ q=>q,λ_ ps q=>⟨#[],by rw[q];simp⟩⟩
def Un.refl:Un fs ex H H h h:=Un.kept λ_ _ q=>q
def Un.laid(k:∀b u,h.get? b=some u->h'.get? b=some u)(hp:h.objs.size<=a)(x:H a=none):Un fs ex H (upd H a o) h h' where
 f:=λb u q _ _ _=>k b u q
 i:=λb u q _ _ _=>⟨u.slots,k b u q⟩
 d:=λb u q n _=>by rw[zG (AL (Aw (Al q) hp))];exact n
 c:=λb u q _=>⟨u,k b u q⟩
 l:=λb N q=>by rw[zG (zN q x)];exact q
 g:=λb u N q=>by rw[zG (zN q x)];exact q
 j:=λb ps q=>⟨#[],by rw[zG (zN q x),q];simp⟩
def Un.write(N:Mut (H x))(S:e=x\/H e=some (.e x))(k:∀b u,b≠e->h.get? b=some u->h'.get? b=some u)(P:∃u,h'.get? e=some u):Un fs ex H (upd H x o) h h':=by
 have hx:∀b,H b=none->b≠x:=λb n z=>by subst z;rw[n]at N;exact N
 have Q:∀b,H b=none->b≠e:=λb n z=>by
  subst z;rcases S with r|r
  . exact hx b n r
  . rw[n]at r;cases r
 have O:∀b u,H b=some u->¬Mut (some u)->b≠x:=λb u q nm z=>by subst z;rw[q]at N;exact nm N
 refine⟨λb u q n _ _=>k b u (Q b n) q,λb u q n _ _=>⟨u.slots,k b u (Q b n) q⟩,λb u q n _=>by rw[zG (hx b n)];exact n,λb u q _=>?_,
  λb R q=>by rw[zG (O b _ q λz=>z)];exact q,λb u R q=>by rw[zG (O b _ q λz=>z)];exact q,λb ps q=>⟨#[],by rw[zG (O b _ q λz=>z),q];simp⟩⟩
 by_cases hbe:b=e
 . subst hbe;exact P
 . exact⟨u,k b u hbe q⟩
noncomputable def trk(h:Heap)(H:Hp):List Addr:=(Av h.objs.size).filter λa=>(H a).isSome
def n9(h:Heap)(H:Hp):Heap:=PySem.W.hideAll h (trk h H)
def g9 h H:(n9 h H).objs.size=h.objs.size:=PySem.W.hideAll_size _ _
def cq(e:h.get? b=some o)(n:H b=none):(n9 h H).get? b=some o:=
 PySem.W.hideAll_get _ e λx=>by have q:(H b).isSome=true:=(Gg.mp x).2;rw[n]at q;simp at q
def Yt(e:(n9 h H).get? b=some o):h.get? b=some o/\H b=none:=by
 have N:h.get? b=some o:=PySem.W.of_hideAll (trk h H) e;refine⟨N,?_⟩;cases q:H b with
 |none=>rfl
 |some x=>
  have O:b∈trk h H:=Gg.mpr ⟨Bl.mpr (Al N),by simp[q]⟩
  have z:(n9 h H).get? b=none:=PySem.W.hideAll_none (trk h H) O;rw[z]at e;cases e
structure Mod(K:Ae)(mg:Str->Option Value)(base:Heap):Prop where
 a:K.In base
 c:base.Ns AS mg
 d:∃mb,base.Ns FI mb/\∀x:Str,x≠"__name__"->mb x=Ci x
 b:base.NoLimit
structure Cx where
 f:Program
 w:World
 K:Ae
 d:Str->Option Value
 h:Heap
 A:Around
 N:List Str
 l:Shared
 r:Hp
 a:Env
 k:List Env
 g:List Env
 m:List Addr
 q:Str->Bool
 j:Bool
 n:List (Addr × Obj)
 i:Value->Shared->Prop
noncomputable def frs(l:List Env):List Addr:=l.filterMap (·.frame)
abbrev Cx.fs(X:Cx):List Addr:=frs X.k
def Vis(sc:Scope)(x:Str):Prop:=sc.names.lookup x=some .local\/sc.names.lookup x=some .cell\/sc.names.lookup x=some .free
def Loc(sc:Scope)(x:Str):Prop:=sc.names.lookup x=some .local\/sc.names.lookup x=some .cell
def Look(env:Env)(h:Heap)(m:Str->Option Value)(x:Str)(u:Value):Prop:=
 (env.kindOf x=some .local/\m x=some u)\/((env.kindOf x=some .cell\/env.kindOf x=some .free)/\∃c,env.cells.lookup x=some c/\h.IsCell c (some u))
structure Cx.Ok(X:Cx):Prop where
 i:Mod X.K X.d X.h
 a:X.a.scope.kind=.function
 j:X.a.globals=AS
 t:X.a.builtins=FI
 d:X.l.heap.objs.size<=X.a.locals
 r:∀x y c,X.a.cells.lookup x=some c->X.a.cells.lookup y=some c->x=y
 p:∀x,(X.a.kindOf x=some .cell\/X.a.kindOf x=some .free)->∃c,X.a.cells.lookup x=some c
 s:∀x c,X.q x=true->X.a.cells.lookup x=some c->X.l.heap.objs.size<=c
 k:X.j=true->X.A.handled=none
 g:X.A.frames=some X.g
 w:X.g=X.k\/(X.g=X.a::X.k/\X.a.frame=some X.a.locals)
 G:∀b∈X.m,b≠X.a.locals/\∀x c,X.a.cells.lookup x=some c->c≠b
 B:∀b o,X.h.get? b=some o->X.l.heap.get? b=some o/\X.r b=none
 q:X.h.objs.size<=X.l.heap.objs.size
 m:∀b o,X.h.get? b=some o->b ∉ X.m
 l:∀b∈X.m,b ∉ X.fs
 D:X.l.heap.FunFrames X.h X.k
 u:∀b∈X.fs,X.r b=none
structure Inv(X:Cx)(pins:List (Addr × Obj))(σ:List (Option V))(H:Hp)(s:Shared):Prop where
 C:X.Ok
 S:s.os=X.l.os
 F:AllBare s.gens
 j:Un X.fs X.m X.r H X.l.heap s.heap
 O:∃m,s.heap.Ns X.a.locals m/\∀(i:Nat) (x:Str) (v:V),X.N[i]?=some x->σ[i]?=some (some v)->Vis X.a.scope x->∃u,RelV v u/\Look X.a s.heap m x u
 M:∀x c,X.a.cells.lookup x=some c->∃v,s.heap.IsCell c v
 J:H X.a.locals=none
 G:∀x c,X.a.cells.lookup x=some c->H c=none
 P:∀p∈X.n++pins,s.heap.get? p.1=some p.2/\H p.1=none/\p.1≠X.a.locals/\p.1 ∉ X.fs/\∀v,p.2.data≠.cell v
 B:HOk X.f X.w H s.heap
 R:σ.length=X.N.length
def Cx.Ok.QW{X:Cx}(ok:X.Ok)(e:X.h.get? b=some o):b ∉ X.fs:=λx=>by have:=(ok.D.mem x).1;rw[e]at this;cases this
def Inv.bs(I:Inv X pins σ H s):∀b o,X.h.get? b=some o->s.heap.get? b=some o/\H b=none:=λb o e=>
 ⟨I.j.f b o (I.C.B b o e).1 (I.C.B b o e).2 (I.C.QW e) (I.C.m b o e),I.j.d b o (I.C.B b o e).1 (I.C.B b o e).2 (I.C.m b o e)⟩
def Inv.bk(I:Inv X pins σ H s):∀b o,X.h.get? b=some o->s.heap.get? b=some o:=λb o e=>(I.bs b o e).1
def Inv.mod(I:Inv X pins σ H s):Mod X.K X.d X.h:=I.C.i
def Inv.kIn(I:Inv X pins σ H s):X.K.In s.heap:=I.C.i.a.keeps I.bk
theorem Inv.lt(I:Inv X pins σ H s):X.a.locals<s.heap.objs.size:=let ⟨_,x,_⟩:=I.O;x.lt
def Inv.sz(I:Inv X pins σ H s):X.l.heap.objs.size<=s.heap.objs.size:=As I.C.d (CW I.lt)
def Inv.QX(I:Inv X pins σ H s)(h:s.heap.objs.size<=a):a ∉ X.fs:=λN=>by obtain⟨_,o,x,_⟩:=I.C.D.mem N;exact absurd (Aw (Al x) (As I.sz h)) (Bc _)
def Inv.cne(I:Inv X pins σ H s):∀x c,X.a.cells.lookup x=some c->c≠X.a.locals:=λx c e z=>by obtain⟨v,o,Q,hd⟩:=I.M x c e;obtain⟨m,⟨R,es,S,N,P,_⟩,_⟩:=I.O;rw[z,N]at Q;cases Q;rw[P]at hd;cases hd
def Inv.u0(I:Inv X pins σ H s):s.heap.FunFrames X.h X.k:=by
 have all:∀(l:List Env),(∀b∈frs l,b∈X.fs)->X.l.heap.FunFrames X.h l->s.heap.FunFrames X.h l:=by
  intro l;induction l with
  |nil=>intro _ _;trivial
  |cons env r O=>
   intro hs S;obtain⟨hk,⟨L,o,hf,R,Q,hd⟩,P⟩:=S;have N:L∈X.fs:=hs L (by unfold frs;rw[A3,hf];exact Ax)
   obtain⟨U,e⟩:=I.j.i L o Q (I.C.u L N) N λz=>I.C.l L z N;exact⟨hk,⟨L,_,hf,R,e,hd⟩,O (λb x=>hs b (by unfold frs;rw[A3,hf];exact Ah _ x)) P⟩
 exact all X.k (λ_ x=>x) I.C.D
def Inv.stack(I:Inv X pins σ H s):s.heap.FunFrames X.h X.g:=by
 rcases I.C.w with e|⟨e,hf⟩
 . rw[e];exact I.u0
 . rw[e]
   obtain⟨m,x,_⟩:=I.O;refine .cons (by rw[I.C.a];decide) hf x ?_ I.u0
   exact CN (As I.C.q I.C.d)
def Inv.jy(I:Inv X pins σ H s):∀b∈frs X.g,b∈X.a.locals::X.fs:=λb x=>by
 rcases I.C.w with e|⟨e,hf⟩
 . rw[e]at x;exact Ah _ x
 . rw[e]at x
   unfold frs at x;rw[A3,hf]at x;exact x
def Inv.mx(I:Inv X pins σ H s):∀b∈frs X.g,H b=none:=λb x=>by
 rcases Ap.mp (I.jy b x) with e|x
 . rw[e];exact I.J
 . obtain⟨_,o,N,_⟩:=I.C.D.mem x
   exact I.j.d b o N (I.C.u b x) λz=>I.C.l b z x
def Inv.step{ch:List Addr}(I:Inv X pins σ H s)
 (U:∀b∈ch,(b∈X.m\/X.l.heap.objs.size<=b)/\b≠X.a.locals/\(∀x c,X.a.cells.lookup x=some c->c≠b)/\∀p∈X.n++pins,p.1≠b)
 (keep:∀b o,b≠X.a.locals->b ∉ X.fs->b ∉ ch->s.heap.get? b=some o->H b=none->h'.get? b=some o)
 (slot:∀b o,b≠X.a.locals->b∈X.fs->b ∉ ch->s.heap.get? b=some o->H b=none->∃sl,h'.get? b=some {o with slots:=sl}) (N:∀b o,b ∉ ch->s.heap.get? b=some o->H b=none->H' b=none)
 (there:∀b o,b ∉ ch->s.heap.get? b=some o->∃o',h'.get? b=some o')
 (tups:∀b Z,H b=some (.c Z)->H' b=some (.c Z)) (frzs:∀b o u,H b=some (.d o u)->H' b=some (.d o u)) (tbls:∀b ps,H b=some (.g ps)->∃more,H' b=some (.g (ps++more)))
 (ns:∀m,s.heap.Ns X.a.locals m->h'.Ns X.a.locals m) (hok:HOk X.f X.w H' h') (hg:AllBare g') :
 Inv X pins σ H' {s with heap:=h',gens:=g',drawn:=d',toks:=t'}:=by
 have neL:∀b o,X.l.heap.get? b=some o->b≠X.a.locals:=λb o e=>AL (Aw (Al e) I.C.d);have Y:∀b o,X.l.heap.get? b=some o->b ∉ X.m->b ∉ ch:=λb o e hx hb=>by
  rcases (U b hb).1 with z|z
  . exact hx z
  . exact absurd (Aw (Al e) z) (Bc _)
 have W:∀x c,X.a.cells.lookup x=some c->∀v,s.heap.IsCell c v->h'.IsCell c v:=λx c e v ⟨o,ho,hd⟩=>by
  have Q:c ∉ ch:=λz=>(U c z).2.2.1 x c e rfl;by_cases hc:c∈X.fs
  . obtain⟨sl,q⟩:=slot c o (I.cne x c e) hc Q ho (I.G x c e)
    exact⟨_,q,hd⟩
  . exact⟨o,keep c o (I.cne x c e) hc Q ho (I.G x c e),hd⟩
 refine⟨I.C,I.S,hg,⟨λb o e n hb hx=>?_,λb o e n hb hx=>?_,λb o e n hx=>?_,λb o e hx=>?_,λb Z e=>tups b Z (I.j.l b Z e),λb o Z e=>frzs b o Z (I.j.g b o Z e),λb ps e=>?_⟩,?_,λx c e=>?_,?_,λx c e=>?_,λp hp=>?_,hok,I.R⟩
 . exact keep b o (neL b o e) hb (Y b o e hx) (I.j.f b o e n hb hx) (I.j.d b o e n hx)
 . obtain⟨sl,e1⟩:=I.j.i b o e n hb hx
   obtain⟨sl',e2⟩:=slot b _ (neL b o e) hb (Y b o e hx) e1 (I.j.d b o e n hx);exact⟨sl',e2⟩
 . obtain⟨o',e1⟩:=I.j.c b o e hx
   exact N b o' (Y b o e hx) e1 (I.j.d b o e n hx)
 . obtain⟨o',e1⟩:=I.j.c b o e hx
   exact there b o' (Y b o e hx) e1
 . obtain⟨m1,e1⟩:=I.j.j b ps e
   obtain⟨m2,e2⟩:=tbls b _ e1;exact⟨m1++m2,by rw[e2,Array.append_assoc]⟩
 . obtain⟨m,hn,hl⟩:=I.O
   refine⟨m,ns m hn,λi x v e1 e2 e3=>?_⟩;obtain⟨u,r,l⟩:=hl i x v e1 e2 e3;refine⟨u,r,?_⟩;rcases l with l|⟨k,c,e,z⟩
   . exact .inl l
   . exact .inr ⟨k,c,e,W x c e _ z⟩
 . obtain⟨v,z⟩:=I.M x c e
   exact⟨v,W x c e v z⟩
 . obtain⟨m,⟨o,_,_,ho,_⟩,_⟩:=I.O
   exact N _ o (λz=>(U _ z).2.1 rfl) ho I.J
 . obtain⟨v,o,ho,hd⟩:=I.M x c e
   exact N c o (λz=>(U c z).2.2.1 x c e rfl) ho (I.G x c e)
 . obtain⟨e,n,ne,nf,d⟩:=I.P p hp
   have Q:p.1 ∉ ch:=λz=>(U p.1 z).2.2.2 p hp rfl;exact⟨keep p.1 p.2 ne nf Q e n,N p.1 p.2 Q e n,ne,nf,d⟩
def Inv.un(I:Inv X pins σ H s)(u:Un X.fs [] H H' s.heap h')(N:HOk X.f X.w H' h'):Inv X pins σ H' {s with heap:=h',toks:=t'}:=by
 obtain⟨m,⟨o,es,ep,S,r⟩,_⟩:=id I.O;obtain⟨Z,Y⟩:=u.any S I.J (by simp)
 exact I.step (g':=s.gens) (d':=s.drawn) (ch:=[]) (λ_ z=>nomatch z) (λb o _ P _ e n=>u.f b o e n P (by simp)) (λb o _ P _ e n=>u.i b o e n P (by simp)) (λb o _ e n=>u.d b o e n (by simp)) (λb o _ e=>u.c b o e (by simp)) u.l u.g u.j (λm' W=>by obtain⟨o',Q,R,x,U⟩:=W;rw[S]at x;cases x;exact⟨_,Q,R,Y,U⟩) N I.F
def Inv.call(I:Inv X pins σ H s)(u:Un (frs X.g) ch H H' s.heap h')(R:HOk X.f X.w H' h')(hg:AllBare g')
 (Q:∀b∈ch,(b∈X.m\/X.l.heap.objs.size<=b)/\b≠X.a.locals/\(∀x c,X.a.cells.lookup x=some c->c≠b)/\∀p∈X.n++pins,p.1≠b) :
 Inv X pins σ H' {s with heap:=h',gens:=g',drawn:=d',toks:=t'}:=by
 obtain⟨m,⟨o,es,ep,Y,r⟩,_⟩:=id I.O;obtain⟨sl,S⟩:=u.any Y I.J λz=>(Q _ z).2.1 rfl;exact I.step (ch:=ch) Q (λb o S hb N e n=>u.f b o e n (λz=>(Ap.mp (I.jy b z)).elim S hb) N) (λb o _ _ N e n=>u.any e n N) (λb o N e n=>u.d b o e n N) (λb o N e=>u.c b o e N) u.l u.g u.j (λm' hm=>by obtain⟨o',U,W,P,Z⟩:=hm;rw[Y]at P;cases P;exact⟨_,U,W,S,Z⟩) R hg
def Inv.turned(I:Inv X pins σ H s)(k:∀b o,b≠it->s.heap.get? b=some o->h'.get? b=some o)(R:H it=none)(P:it≠X.a.locals)
 (h1:it∈X.m\/X.l.heap.objs.size<=it) (Y:∀x c,X.a.cells.lookup x=some c->c≠it) (W:∀p∈X.n++pins,p.1≠it):Inv X pins σ H {s with heap:=h',toks:=t'}:=by
 have O:∀b u,H b=some u->b≠it:=λb u e z=>by rw[z,R]at e;cases e
 refine I.step (g':=s.gens) (d':=s.drawn) (ch:=[it]) (λb U=>?_) (λb o _ _ N e _=>k b o (λz=>N (by simp[z])) e) (λb o _ _ N e _=>⟨o.slots,k b o (λz=>N (by simp[z])) e⟩) (λ_ _ _ _ n=>n)
  (λb o N e=>⟨o,k b o (λz=>N (by simp[z])) e⟩) (λ_ _ e=>e) (λ_ _ _ e=>e) (λb ps e=>⟨#[],by rw[e];simp⟩) (λm S=>?_) (λb u e=>?_) I.F
 . have e:b=it:=by simpa using U
   subst e;exact⟨h1,P,Y,W⟩
 . obtain⟨o,es,Z,Q,r⟩:=S
   exact⟨o,es,Z,k _ o (A6 P) Q,r⟩
 . refine(I.B b u e).r9 (λc v N q=>k c v ?_ q) (λ_ q=>q) λ_ _ q=>q
   rcases N with z|z
   . rw[z];exact O b u e
   . exact O c _ z
def Inv.tok(I:Inv X pins σ H s)t:Inv X pins σ H {s with toks:=t}:=I.un (h':=s.heap) (t':=t) Un.refl I.B
theorem Inv.kept(I:Inv X pins σ H s)(k:∀b u,s.heap.get? b=some u->h'.get? b=some u):Inv X pins σ H {s with heap:=h',toks:=t'}:=I.un (Un.kept k) (I.B.kept k)
theorem Inv.laid(I:Inv X pins σ H s)(k:∀b u,s.heap.get? b=some u->h'.get? b=some u)(hp:s.heap.objs.size<=a)(new:z0 X.f X.w (upd H a o) h' a o) :
 Inv X pins σ (upd H a o) {s with heap:=h',toks:=t'}:=I.un (Un.laid k hp (I.B.fresh hp)) (I.B.laid k hp new)
theorem Inv.write(I:Inv X pins σ H s)(O:Mut (H x))(P:e=x\/H e=some (.e x))(k:∀b u,b≠e->s.heap.get? b=some u->h'.get? b=some u)(N:∃u,h'.get? e=some u)
 (new:z0 X.f X.w (upd H x o) h' x o):Inv X pins σ (upd H x o) {s with heap:=h',toks:=t'}:=I.un (Un.write O P k N) (I.B.write O P k N new)
def Inv.mZ{x:List (Addr × Obj)}(I:Inv X pins σ H s)(h:∀p∈x,s.heap.get? p.1=some p.2/\H p.1=none/\p.1≠X.a.locals/\p.1 ∉ X.fs/\∀v,p.2.data≠.cell v):Inv X x σ H s:=
 ⟨I.C,I.S,I.F,I.j,I.O,I.M,I.J,I.G,λp hp=>(AD.mp hp).elim (λz=>I.P p (BB _ z)) (h p),I.B,I.R⟩
def lx{N:List Str}(O:N.Nodup){i j:Nat}(a:N[i]?=some x)(b:N[j]?=some x):i=j:=by obtain⟨h1,e1⟩:=Au.mp a;obtain⟨P,e2⟩:=Au.mp b;exact(List.getElem_inj O).mp (e1.trans e2.symm)
def nQ{Q:Unit->Shared->Prop}(I:Inv X pins σ H s)(hN:X.N.Nodup)(hi:X.N[i]?=some x)(hx:Loc X.a.scope x)(r:RelV v u)
 (h:∀s',Inv X pins (σ.set i (some v)) H s'->(∃a,Heap.SameBut a s.heap s'.heap/\(a=X.a.locals\/X.a.cells.lookup x=some a))->Q () s') (hf:X.q x=true\/X.a.scope.names.lookup x=some .local:=by first|exact .inl rfl|exact .inr rfl|assumption):wpAny M A (storeName X.a x u) Q E s:=by
 obtain⟨m,hn,hl⟩:=id I.O;have hcls:(X.a.scope.kind == .class||(X.a.scope.kind == .module&&X.a.locals != X.a.globals))=false:=by rw[I.C.a];rfl
 have Z:i<σ.length:=by rw[I.R];exact(Au.mp hi).1
 have cne:=I.cne;have U:∀{a:Addr} {h':Heap},(∃o,s.heap.get? a=some o/\H a=none)->Heap.SameBut a s.heap h'->HOk X.f X.w H h':=λ{a h'} ha hs b ob e=>by
  obtain⟨_,_,Y⟩:=ha;refine(I.B b ob e).r9 (λc w' W q=>(hs.2 c ?_).trans q) (λ_ q=>q) λ_ _ q=>q;rintro rfl;rcases W with rfl|W
  . rw[Y]at e;cases e
  . rw[Y]at W;cases W
 rcases hx with hk|hk
 . refine wpAny_storeName_local hk hn (λh' hn' hs=>?_) hcls
   obtain⟨oL,_,_,hoL,_⟩:=id hn;refine h _ ⟨I.C,I.S,I.F,⟨λb o e n hb hx=>?_,λb o e n hb hx=>?_,I.j.d,λb o e hx=>?_,I.j.l,I.j.g,I.j.j⟩,⟨_,hn',λj y v' e1 e2 e3=>?_⟩,λy c e=>?_,I.J,I.G,λp hp=>?_,U ⟨oL,hoL,I.J⟩ hs,by simpa using I.R⟩ ⟨_,hs,.inl rfl⟩
   . exact(hs.2 b (AL (Aw (Al e) I.C.d))).trans (I.j.f b o e n hb hx)
   . obtain⟨sl,e1⟩:=I.j.i b o e n hb hx
     exact⟨sl,(hs.2 b (AL (Aw (Al e) I.C.d))).trans e1⟩
   . obtain⟨o',e1⟩:=I.j.c b o e hx
     exact⟨o',(hs.2 b (AL (Aw (Al e) I.C.d))).trans e1⟩
   . by_cases hj:j=i
     . subst hj
       rw[hi]at e1;cases e1;rw[AQ Z]at e2;cases e2;exact⟨u,r,.inl ⟨hk,by simp⟩⟩
     . rw[Bq (A6 hj)]at e2
       obtain⟨u',r',q⟩:=hl j y v' e1 e2 e3;refine⟨u',r',?_⟩;rcases q with⟨k,e⟩|⟨k,c,e,z⟩
       . refine .inl ⟨k,?_⟩
         have:y≠x:=λe=>hj (lx hN e1 (e▸hi));simp[this,e]
       . exact .inr ⟨k,c,e,z.sameBut hs (cne y c e)⟩
   . obtain⟨w',z⟩:=I.M y c e
     exact⟨w',z.sameBut hs (cne y c e)⟩
   . obtain⟨e,n,ne,nf,d⟩:=I.P p hp
     exact⟨(hs.2 p.1 ne).trans e,n,ne,nf,d⟩
 . have hfn:X.q x=true:=by
    rcases hf with z|z
    . exact z
    . rw[z]at hk;cases hk
   obtain⟨c,W⟩:=I.C.p x (.inl hk);obtain⟨w',z⟩:=I.M x c W;refine wpAny_storeName_cell I.C.a hk W z (λh' hc' hs=>?_);obtain⟨oc,hoc,hocd⟩:=id z;refine h {s with heap:=h'} ⟨I.C,I.S,I.F,⟨λb o e n hb hx=>?_,λb o e n hb hx=>?_,I.j.d,λb o e hx=>?_,I.j.l,I.j.g,I.j.j⟩,⟨m,hn.sameBut hs (A6 (cne x c W)),λj y v' e1 e2 e3=>?_⟩,λy c' e=>?_,I.J,I.G,λp hp=>?_,U ⟨oc,hoc,I.G x c W⟩ hs,by simpa using I.R⟩ ⟨c,hs,.inr W⟩
   . exact(hs.2 b (AL (Aw (Al e) (I.C.s x c hfn W)))).trans (I.j.f b o e n hb hx)
   . obtain⟨sl,e1⟩:=I.j.i b o e n hb hx
     exact⟨sl,(hs.2 b (AL (Aw (Al e) (I.C.s x c hfn W)))).trans e1⟩
   . obtain⟨o',e1⟩:=I.j.c b o e hx
     exact⟨o',(hs.2 b (AL (Aw (Al e) (I.C.s x c hfn W)))).trans e1⟩
   . by_cases hj:j=i
     . subst hj
       rw[hi]at e1;cases e1;rw[AQ Z]at e2;cases e2;exact⟨u,r,.inr ⟨.inl hk,c,W,hc'⟩⟩
     . rw[Bq (A6 hj)]at e2
       obtain⟨u',r',q⟩:=hl j y v' e1 e2 e3;refine⟨u',r',?_⟩;rcases q with q|⟨k,c',e,z'⟩
       . exact .inl q
       . refine .inr ⟨k,c',e,z'.sameBut hs ?_⟩
         rintro rfl;exact hj (lx hN e1 (I.C.r _ _ _ e W▸hi))
   . by_cases hcc:c'=c
     . subst hcc;exact⟨_,hc'⟩
     . obtain⟨w2,z2⟩:=I.M y c' e
       exact⟨w2,z2.sameBut hs hcc⟩
   . obtain⟨e,n,ne,nf,d⟩:=I.P p hp
     refine⟨(hs.2 p.1 ?_).trans e,n,ne,nf,d⟩;intro q;rw[q,hoc]at e;have q':oc=p.2:=A1 e;exact d w' (by rw[<-q'];exact hocd)
def wB{Q:Unit->Shared->Prop}(I:Inv X pins σ H s)(O:X.N.Nodup)(hi:X.N[i]?=some x)(hx:Loc X.a.scope x)(r:RelV v u)
 (h:∀s',Inv X pins (σ.set i (some v)) H s'->Q () s') (hf:X.q x=true\/X.a.scope.names.lookup x=some .local:=by first|exact .inl rfl|exact .inr rfl|assumption):wpAny M A (storeName X.a x u) Q E s:=
 nQ I O hi hx r (λs' P _=>h s' P) hf
def Inv.T5(I:Inv X pins σ H s)(Q:s'.os=s.os)(u:Un (frs X.g) ch H H' s.heap s'.heap)(N:HOk X.f X.w H' s'.heap)(R:AllBare s'.gens)
 (O:∀b∈ch,(b∈X.m\/X.l.heap.objs.size<=b)/\b≠X.a.locals/\(∀x c,X.a.cells.lookup x=some c->c≠b)/\∀p∈X.n++pins,p.1≠b):Inv X pins σ H' s':=by
 obtain⟨h',g',d',t',P⟩:=s';have e:P=s.os:=Q;subst e;exact I.call (g':=g') (t':=t') (d':=d') u N R O
abbrev XK:=Value->Option Addr->Hp->Prop
abbrev St:=List (Option V)
abbrev VK:=V->Hp->Prop
abbrev TE:=St->Hp->VK->Prop
abbrev TT:=St->Hp->(Bool->Hp->Prop)->Prop
abbrev TA:=St->Hp->(List V->Hp->Prop)->Prop
structure Ends where
 a:St->Hp->Prop
 b:VK
 c:St->Hp->Prop:=λ_ _=>False
 d:St->Hp->Prop:=λ_ _=>False
abbrev TS:=Ends->St->Hp->Prop
def EP(X:Cx)(pins:List (Addr × Obj))(σ:St)(Q:VK)(u:Value)(s':Shared):Prop:=∃v H',Inv X pins σ H' s'/\RelV v u/\Q v H'
def TP(X:Cx)(pins:List (Addr × Obj))(σ:St)(Q:Bool->Hp->Prop)(b:Bool)(s':Shared):Prop:=∃H',Inv X pins σ H' s'/\Q b H'
def AP(X:Cx)(pins:List (Addr × Obj))(σ:St)(Q:List V->Hp->Prop)(us:List Value)(s':Shared):Prop:=∃vs H',Inv X pins σ H' s'/\Vals vs us/\Q vs H'
def SP(X:Cx)(pins:List (Addr × Obj))(D:Ends)(f:Flow)(s':Shared):Prop:=
 match f with
 |.next=>∃x H',Inv X pins x H' s'/\D.a x H'
 |.brk=>∃x H',Inv X pins x H' s'/\D.c x H'
 |.cont=>∃x H',Inv X pins x H' s'/\D.d x H'
 |.ret u=>∃v x H',Inv X pins x H' s'/\RelV v u/\D.b v H'
def PE(X:Cx)(e:Expr)(t:TE):Prop:=
 ∀(pins:List (Addr × Obj)) (s:Shared) (σ:St) (H:Hp) (Q:VK),Inv X pins σ H s->t σ H Q->wpAny (model X.f X.w) X.A (eval e X.a) (EP X pins σ Q) X.i s
def PT(X:Cx)(e:Expr)(t:TT):Prop:=
 ∀(pins:List (Addr × Obj)) (s:Shared) (σ:St) (H:Hp) (Q:Bool->Hp->Prop),Inv X pins σ H s->t σ H Q->wpAny (model X.f X.w) X.A (isTrue e X.a (eval e X.a)) (TP X pins σ Q) X.i s
def PW(X:Cx)(e:Expr)(t:TT):Prop:=
 ∀(x:Sem Value) (pins:List (Addr × Obj)) (s:Shared) (σ:St) (H:Hp) (Q:Bool->Hp->Prop),Inv X pins σ H s->t σ H Q->wpAny (model X.f X.w) X.A (isTrue e X.a x) (TP X pins σ Q) X.i s
def PW.pt(h:PW X e t):PT X e t:=h _
def PA(X:Cx)(es:List Expr)(t:TA):Prop:=
 ∀(pos:Pos) (pins:List (Addr × Obj)) (s:Shared) (σ:St) (H:Hp) (Q:List V->Hp->Prop),Inv X pins σ H s->t σ H Q->wpAny (model X.f X.w) X.A (spliced (backTo pos (AG es X.a))) (AP X pins σ Q) X.i s
def PS(X:Cx)(st:Stmt)(t:TS):Prop:=
 ∀(pins:List (Addr × Obj)) (s:Shared) (σ:St) (H:Hp) (D:Ends),Inv X pins σ H s->t D σ H->wpAny (model X.f X.w) X.A (exec st X.a) (SP X pins D) X.i s
def PSs(X:Cx)(st:List Stmt)(t:TS):Prop:=
 ∀(pins:List (Addr × Obj)) (s:Shared) (σ:St) (H:Hp) (D:Ends),Inv X pins σ H s->t D σ H->wpAny (model X.f X.w) X.A (execs st X.a) (SP X pins D) X.i s
def thn(h:wpAny M A t Q E s)(N:∀a s,Q a s->Q' a s):wpAny M A t Q' E s:=AN h N λ_ _ x=>x
section
variable {X:Cx}
def bin(Y:PE X a ta)(W:PE X b tb){R:V->V->Hp->Prop}(I:Inv X pins σ H s)(h:ta σ H λx H1=>tb σ H1 λy H2=>R x y H2)
  {Q} {f:Value->Value->Sem α}
 (hf:∀v u s2 x y H2,Inv X pins σ H2 s2->RelV x v->RelV y u->R x y H2->wpAny (model X.f X.w) X.A (f v u) Q X.i s2) :
 wpAny (model X.f X.w) X.A (eval a X.a) (λv O=>wpAny (model X.f X.w) X.A (eval b X.a) (λu N=>wpAny (model X.f X.w) X.A (f v u) Q X.i N) X.i O) X.i s:=by
 refine thn (Y pins s σ H _ I h) λv s1 P=>?_;obtain⟨x,H1,I1,r1,q1⟩:=P;refine thn (W pins s1 σ H1 _ I1 q1) λu s2 P=>?_;obtain⟨y,H2,Z,S,U⟩:=P;exact hf v u s2 x y H2 Z r1 S U
def xX(i:Nat):TE:=λσ H Q=>∃v,σ[i]?=some (some v)/\Q v H
def tC(v:V):TE:=λ_ H Q=>Q v H
def xQ(hN:X.N[i]?=some x)(U:Vis X.a.scope x)(hd:(x == ("__debug__":Str))=false:=by decide)(R:(x == ("__classdict__":Str))=false:=by decide):PE X (.Name x pos) (xX i):=by
 intro pins s σ H Q I h;obtain⟨v,e,h⟩:=h;obtain⟨m,W,Z⟩:=I.O;obtain⟨u,r,l⟩:=Z i x v hN e U;have fin:EP X pins σ Q u s:=⟨v,H,I,r,h⟩;rcases l with⟨hk,Y⟩|⟨hk,c,S,P⟩
 . exact wpAny_Name (wpAny_loadName_local I.C.a hk W Y fin) hd
 . rcases hk with hk|hk
   . exact wpAny_Name (wpAny_loadName_cell I.C.a hk S P fin) hd
   . exact wpAny_Name (wpAny_loadName_free I.C.a hk S P fin R) hd
def af{i j pos}:PE X (.Constant (.int i) j pos) (tC (.d i)):=λ_ _ _ H _ I h=>wpAny_Constant_int ⟨.d i,H,I.tok _,⟨_,rfl⟩,h⟩
def aS{b j pos}:PE X (.Constant (.bool b) j pos) (tC (.f b)):=λ_ _ _ H _ I h=>Constant_bool ⟨.f b,H,I,rfl,h⟩
def Ui{j pos}:PE X (.Constant .none j pos) (tC .g):=λ_ _ _ H _ I h=>Constant_none ⟨.g,H,I,rfl,h⟩
def rJ{x j pos}:PE X (.Constant (.str x) j pos) (tC (.e x)):=λ_ _ _ H _ I h=>Dd ⟨.e x,H,I.tok _,⟨_,rfl⟩,h⟩
def Gl(X:Cx)(x:Str):Prop:=X.a.kindOf x=some .globalImplicit
def xO(I:Inv X pins σ H s)(O:Gl X x)(N:X.d x=some u)(h:Q u s)
 (hd:(x == ("__debug__":Str))=false:=by decide):wpAny (model X.f X.w) X.A (eval (.Name x pos) X.a) Q E s:=
 Ff I.C.a O (Calls.loadGlobal_global (by rw[I.C.j];exact I.mod.c.keeps I.bk) N h) hd
def q0(I:Inv X pins σ H s)(R:Gl X x)(P:X.d x=none)(N:Ci x=some u)(h:Q u s)
 (O:x≠"__name__":=by decide) (hd:(x == ("__debug__":Str))=false:=by decide):wpAny (model X.f X.w) X.A (eval (.Name x pos) X.a) Q E s:=by
 obtain⟨U,h1,S⟩:=I.mod.d;exact Ff I.C.a R (Calls.loadGlobal_builtin (by rw[I.C.j];exact I.mod.c.keeps I.bk) P (by rw[I.C.t];exact h1.keeps I.bk) ((S x O).trans N) h) hd
def XB(O:Gl X x)(N:X.d x=some u)(r:RelV v u)(hd:(x == ("__debug__":Str))=false:=by decide):PE X (.Name x pos) (tC v):=
 λ_ _ _ H _ I h=>xO I O N ⟨v,H,I,r,h⟩ hd
def Y9(Q:Gl X x)(P:X.d x=none)(N:Ci x=some u)(r:RelV v u)(O:x≠"__name__":=by decide)(hd:(x == ("__debug__":Str))=false:=by decide):PE X (.Name x pos) (tC v):=
 λ_ _ _ H _ I h=>q0 I Q P N ⟨v,H,I,r,h⟩ O hd
variable {a b:Expr}{ta tb:TE}{pos:Pos}
def PC(X:Cx)(op:CmpOp)(a b:Expr)(t:TE):Prop:=
 ∀(pins:List (Addr × Obj)) (s:Shared) (σ:St) (H:Hp) (Q:VK),Inv X pins σ H s->t σ H Q ->
  wpAny (model X.f X.w) X.A (eval a X.a) (λv N=>wpAny (model X.f X.w) X.A (eval b X.a) (λu x=>wpAny (model X.f X.w) X.A (BC op v u) (EP X pins σ Q) X.i x) X.i N) X.i s
def pJ b(h:op≠.In)(x:op≠.NotIn):DB op b=false:=by
 have e1:(op == CmpOp.In)=false:=by cases op<;>first|rfl|exact absurd rfl h
 have e2:(op == CmpOp.NotIn)=false:=by cases op<;>first|rfl|exact absurd rfl x
 cases b<;>simp[DB,e1,e2]
def tB(t:TE):TT:=λσ H Q=>t σ H λx H1=>∃c,x=.f c/\Q c H1
def Qd(h:PC X op a b t)(h1:DB op b=false:=by first|exact pJ _ (by decide) (by decide)|rfl):PT X (.Compare a [op] [b] pos) (tB t):=by intro pins s σ H Q I hw;refine wpAny_isTrue_Compare1 (thn (h pins s σ H _ I hw) λv s1 h1=>thn h1 λu s2 O=>thn O λc R N=>?_) h1;obtain⟨x,H1,P,r1,q1⟩:=N;obtain⟨d,rfl,q⟩:=q1;cases r1;exact BJ ⟨H1,P,q⟩
def Uv(h:PE X e t)(P:∀N,isTrue e X.a N=(do let v <-N;standAt e.pos;holding [v] (truthy v)):=by intro _;rfl):PT X e (tB t):=by intro pins s σ H Q I hw;refine isTrue_plain (thn (h pins s σ H _ I hw) λv s1 O=>?_) (P _);obtain⟨x,H1,R,r1,q1⟩:=O;obtain⟨d,rfl,q⟩:=q1;cases r1;exact BJ ⟨H1,R,q⟩
variable {tA tB':TT}{rest:List Expr}
def tOr(t u:TT):TT:=λσ H Q=>t σ H λc H1=>if c=true then Q true H1 else u σ H1 Q
def R7(t:TT):TT:=λσ H Q=>t σ H λc H1=>Q (!c) H1
def Uw(x:PT X a tA):PW X (.BoolOp .Or [a] pos) tA:=by
 intro N pins s σ H Q I h;refine isTrue_or (thn (x pins s σ H Q I h) λc s1 e=>?_);cases c with
 |false=>exact isTrue_or_nil e
 |true=>exact e
def Rj(R:PT X a tA)(P:PW X (.BoolOp .Or (b::rest) pos) tB'):PW X (.BoolOp .Or (a::b::rest) pos) (tOr tA tB'):=by
 intro O pins s σ H Q I h;refine isTrue_or (thn (R pins s σ H _ I h) λc s1 x=>?_);obtain⟨H1,N,q1⟩:=x;cases c with
 |true=>exact⟨H1,N,q1⟩
 |false=>exact P O pins s1 σ H1 Q N q1
def jj(x:PT X a tA):PT X (.UnaryOp .Not a pos) (R7 tA):=by intro pins s σ H Q I h;exact isTrue_not (x pins s σ H (λc H1=>Q (!c) H1) I h)
def R5(ta tb:TE):TE:=λσ H Q=>ta σ H λx H1=>∃c,x=.f c/\if c=true then tb σ H1 Q else Q (.f false) H1
def R8(ta:TE):TE:=λσ H Q=>ta σ H λx H1=>∃c,x=.f c/\Q (.f (!c)) H1
def jZ{op}(h:PE X a t):PE X (.BoolOp op [a] pos) t:=λpins s σ H Q I hw=>BoolOp_one (h pins s σ H Q I hw)
def Uc(R:PE X a ta)(P:PE X (.BoolOp .And (b::rest) pos) tb):PE X (.BoolOp .And (a::b::rest) pos) (R5 ta tb):=by
 intro pins s σ H Q I h;refine BoolOp_and (thn (R pins s σ H _ I h) λv s1 O=>?_);obtain⟨x,H1,N,r1,q1⟩:=O;obtain⟨c,rfl,q1⟩:=q1;cases r1;refine BJ ?_;cases c with
 |true=>exact P pins s1 σ H1 Q N q1
 |false=>exact⟨.f false,H1,N,rfl,q1⟩
def Uj(O:PE X a ta):PE X (.UnaryOp .Not a pos) (R8 ta):=by intro pins s σ H Q I h;refine UnaryOp_ (thn (O pins s σ H _ I h) λv s1 N=>?_);obtain⟨x,H1,P,r1,q1⟩:=N;obtain⟨c,rfl,q1⟩:=q1;cases r1;exact not_of (BJ ⟨.f (!c),H1,P,rfl,q1⟩)
def tIf(t:TT)(ta tb:TE):TE:=λσ H Q=>t σ H λc H1=>if c=true then ta σ H1 Q else tb σ H1 Q
def l8(O:PT X c tA)(R:PE X a ta)(P:PE X b tb):PE X (.IfExp c a b pos) (tIf tA ta tb):=by
 intro pins s σ H Q I h;refine wpAny_IfExp (thn (O pins s σ H _ I h) λd s1 x=>?_);obtain⟨H1,N,q1⟩:=x;cases d with
 |true=>exact R pins s1 σ H1 Q N q1
 |false=>exact P pins s1 σ H1 Q N q1
end
def SqL(K:Ae)(H:Hp)(a:Addr)(x:List V):Prop:=
 Rd H a (.b x) \/
  ∃(o:Obj) (its:Array Value) (n:Nat),K.lookup a=some o/\o.cls=.type "list"/\o.dict=none/\o.data=.seq its n/\its.size<=Ar/\Vals x its.toList
def SqT(K:Ae)(H:Hp)(a:Addr)(x:List V):Prop:=
 Rd H a (.c x) \/
  ∃(o:Obj) (its:Array Value) (n:Nat),K.lookup a=some o/\o.cls=.type "tuple"/\o.data=.seq its n/\its.size<=Ar/\Vals x its.toList
noncomputable def QP:Value->Option V
 |.none=>some .g
 |.bool b=>some (.f b)
 |.int i _=>some (.d i)
 |.str x _=>some (.e x)
 |.bytes b _=>some (.h b)
 |.float b _=>some (.j b)
 |.ref a=>some (.c a)
 |.type n=>some (.k n)
 |_=>none
def RelV.abs(r:RelV x u):QP u=some x:=by
 cases x with
 |g=>cases r;rfl
 |f _=>cases r;rfl
 |d _=>obtain⟨t,rfl⟩:=r;rfl
 |e _=>obtain⟨t,rfl⟩:=r;rfl
 |h _=>obtain⟨t,rfl⟩:=r;rfl
 |j _=>obtain⟨t,rfl⟩:=r;rfl
 |c _=>cases r;rfl
 |k _=>cases r;rfl
def RelV.inj(r:RelV x u)(q:RelV y u):x=y:=A1 (r.abs.symm.trans q.abs)
theorem Vals.inj:∀{xs ys} {us},Vals xs us->Vals ys us->xs=ys
 |_,_,_,.nil,.nil=>rfl
 |_,_,_,.cons r t,.cons r' t'=>by rw[r.inj r',Vals.inj t t']
def SqL.of{K}(h:H a=some (.b xs)):SqL K H a xs:=.inl (.inl h)
def SqT.of{K}(h:H a=some (.c xs)):SqT K H a xs:=.inl (.inl h)
def Inv.list(I:Inv X pins σ H s)(h:SqL X.K H a xs):∃its:List Value,Vals xs its/\PlainL s.heap a its.toArray/\xs.length<=Ar:=by
 rcases h with h|⟨o,its,n,hk,x,hd,hs,hz,r⟩
 . obtain⟨z,its,n,r,e⟩:=h.ok I.B
   exact⟨its,r,⟨_,n,e,rfl,rfl,rfl⟩,z⟩
 . refine⟨its.toList,r,⟨o,n,I.kIn a o hk,x,hd,by simpa using hs⟩,?_⟩
   have e:=r.length;simp only[C4]at e;omega
def Inv.tuple(I:Inv X pins σ H s)(h:SqT X.K H a xs):∃its:List Value,Vals xs its/\IsTup s.heap a its.toArray/\xs.length<=Ar:=by
 rcases h with h|⟨o,its,n,hk,x,hs,hz,r⟩
 . obtain⟨z,its,r,p⟩:=h.ok I.B
   exact⟨its,r,p.tup,z⟩
 . refine⟨its.toList,r,⟨o,I.kIn a o hk,x,n,by simpa using hs⟩,?_⟩
   have e:=r.length;simp only[C4]at e;omega
def Inv.bg(I:Inv X pins σ H s)(h:SqL X.K H a xs)(h':SqL X.K H a ys):xs=ys:=by
 obtain⟨its,r,⟨o,n,e,_,_,d⟩,_⟩:=I.list h;obtain⟨its',N,⟨O,P,x,_,_,d'⟩,_⟩:=I.list h';rw[e]at x;cases x;rw[d]at d';injection d' with d1 _
 have:its=its':=by simpa using congrArg Array.toList d1
 subst this;exact r.inj N
def Inv.eN(I:Inv X pins σ H s)(h:SqT X.K H a xs)(h':SqT X.K H a ys):xs=ys:=by
 obtain⟨its,r,⟨o,e,_,n,d⟩,_⟩:=I.tuple h;obtain⟨its',N,⟨O,x,_,P,d'⟩,_⟩:=I.tuple h';rw[e]at x;cases x;rw[d]at d';injection d' with d1 _
 have:its=its':=by simpa using congrArg Array.toList d1
 subst this;exact r.inj N
noncomputable abbrev Cx.wa(X:Cx)(E:Value->Shared->Prop):Cx:={X with i:=E}
abbrev Cx.nox(X:Cx):Cx:=X.wa λ_ _=>False
theorem Cx.Ok.wa{X:Cx}(ok:X.Ok)E:(X.wa E).Ok:=
 ⟨ok.i,ok.a,ok.j,ok.t,ok.d,ok.r,ok.p,ok.s,ok.k,ok.g,ok.w,ok.G,ok.B,ok.q,ok.m,ok.l,ok.D,ok.u⟩
def Cx.Ok.xB{X:Cx}(ok:(X.wa E).Ok):X.Ok:=
 ⟨ok.i,ok.a,ok.j,ok.t,ok.d,ok.r,ok.p,ok.s,ok.k,ok.g,ok.w,ok.G,ok.B,ok.q,ok.m,ok.l,ok.D,ok.u⟩
theorem Inv.wa(I:Inv X pins σ H s)E:Inv (X.wa E) pins σ H s:=⟨I.C.wa E,I.S,I.F,I.j,I.O,I.M,I.J,I.G,I.P,I.B,I.R⟩
theorem Inv.xB(I:Inv (X.wa E) pins σ H s):Inv X pins σ H s:=⟨I.C.xB,I.S,I.F,I.j,I.O,I.M,I.J,I.G,I.P,I.B,I.R⟩
theorem SP.xB(h:SP (X.wa E) pins D f s'):SP X pins D f s':=by
 cases f with
 |next=>obtain⟨x,H',I,q⟩:=h;exact⟨x,H',I.xB,q⟩
 |brk=>obtain⟨x,H',I,q⟩:=h;exact⟨x,H',I.xB,q⟩
 |cont=>obtain⟨x,H',I,q⟩:=h;exact⟨x,H',I.xB,q⟩
 |ret u=>obtain⟨v,x,H',I,r,q⟩:=h;exact⟨v,x,H',I.xB,r,q⟩
theorem PE.nox(h:PE X.nox e t):PE X e t:=λpins s σ H Q I hw=>
 AN (h pins s σ H Q (I.wa _) hw) (λ_ _ ⟨v,H',I',r,q⟩=>⟨v,H',I'.xB,r,q⟩) λ_ _ z=>Az z
theorem PT.nox(h:PT X.nox e t):PT X e t:=λpins s σ H Q I hw=>
 AN (h pins s σ H Q (I.wa _) hw) (λ_ _ ⟨H',I',q⟩=>⟨H',I'.xB,q⟩) λ_ _ z=>Az z
theorem PSs.nox{st}(h:PSs X.nox st t):PSs X st t:=λpins s σ H D I hw=>
 AN (h pins s σ H D (I.wa _) hw) (λ_ _ q=>q.xB) λ_ _ z=>Az z
section
variable {X:Cx}{st:Stmt}{rest:List Stmt}{t u:TS}{e:Expr}{te:TE}{pos:Pos}
def Wg:TS:=λD σ H=>D.a σ H
def oM(t u:TS):TS:=λD σ H=>t {D with a:=u D} σ H
def qR:PSs X [] Wg:=λ_ _ σ H _ I h=>ED ⟨σ,H,I,h⟩
def zw(h1:PS X st t)(N:PSs X rest u):PSs X (st::rest) (oM t u):=by
 intro pins s σ H D I h;refine Ej (thn (h1 pins s σ H {D with a:=u D} I h) λf s1 q=>?_)
 cases f with
 |next=>
  obtain⟨x,H',O,q⟩:=q;exact N pins s1 x H' D O q
 |ret v=>exact q
 |brk=>exact q
 |cont=>exact q
def we(h1:PS X st t):PSs X [st] t:=by
 intro pins s σ H D I h;refine Ej (thn (h1 pins s σ H D I h) λf s1 q=>?_);cases f with
 |next=>exact ED q
 |ret v=>exact q
 |brk=>exact q
 |cont=>exact q
def Inv.quiet(I:Inv X pins σ H s):interactive X.a=false:=by simp[interactive,I.C.a]
def We(te:TE):TS:=λD σ H=>te σ H λ_ H1=>D.a σ H1
def sM(N:PE X e te)(hs:Eu e none pos.line X.a=pure false:=by rfl):PS X (.Expr e pos) (We te):=by intro pins s σ H D I h;exact wpAny_Expr_any (thn (N pins s σ H _ I h) λv s1 ⟨x,H1,I1,r1,q1⟩=>⟨σ,H1,I1,q1⟩) I.quiet hs
def eM(te:TE):TS:=λD σ H=>te σ H D.b
def wm(N:PE X e te):PS X (.Return (some e) pos) (eM te):=by intro pins s σ H D I h;exact wpAny_Return_some (thn (N pins s σ H _ I h) λv s1 ⟨x,H1,I1,r1,q1⟩=>⟨x,σ,H1,I1,r1,q1⟩)
def R6(c:TT)(t u:TS):TS:=λD σ H=>c σ H λb H1=>if b=true then t D σ H1 else u D σ H1
def nJ(O:PT X c tc)(Q:PSs X a t)(P:PSs X b u):PS X (.If c a b pos) (R6 tc t u):=by
 intro pins s σ H D I h;refine wpAny_If (thn (O pins s σ H _ I h) λd s1 x=>?_);obtain⟨H1,N,q1⟩:=x;cases d with
 |true=>exact Q pins s1 σ H1 D N q1
 |false=>exact P pins s1 σ H1 D N q1
end
abbrev TG:=V->St->Hp->(St->Hp->Prop)->Prop
abbrev TGs:=List V->St->Hp->(St->Hp->Prop)->Prop
def PG(X:Cx)(x:Expr)(t:TG):Prop:=
 ∀(pins:List (Addr × Obj)) (s:Shared) (σ:St) (H:Hp) (v:V) (u:Value) (Q:St->Hp->Prop),Inv X pins σ H s->RelV v u->t v σ H Q ->
  wpAny (model X.f X.w) X.A (assign x X.a u) (λ_ s'=>∃N H',Inv X pins N H' s'/\Q N H') X.i s
def PGs(X:Cx)(ts:List Expr)(t:TGs):Prop:=
 ∀(pins:List (Addr × Obj)) (s:Shared) (σ:St) (H:Hp) (vs:List V) (us:List Value) (Q:St->Hp->Prop),Inv X pins σ H s->Vals vs us->t vs σ H Q ->
  wpAny (model X.f X.w) X.A (Ef ((CO ts X.a).map (·.2)) us) (λ_ s'=>∃x H',Inv X pins x H' s'/\Q x H') X.i s
abbrev Wr:=V->V->V->Hp->(Hp->Prop)->Prop
def Tp(X:Cx)(t:Wr):Prop:=
 ∀(pins:List (Addr × Obj)) (s:Shared) (σ:St) (H:Hp) (o i v:V) (x N u:Value) (Q:Hp->Prop),Inv X pins σ H s->RelV o x->RelV i N->RelV v u->t o i v H Q ->
  wpAny (model X.f X.w) X.A (setItem x N u) (λ_ s'=>∃H',Inv X pins σ H' s'/\Q H') X.i s
section
variable {X:Cx}{pos:Pos}
def wH(i:Nat):TG:=λv σ H Q=>Q (σ.set i (some v)) H
def XF(O:X.N.Nodup)(hi:X.N[i]?=some x)(hx:Loc X.a.scope x)(hf:X.q x=true\/X.a.scope.names.lookup x=some .local:=by first|exact .inl rfl|exact .inr rfl|assumption):PG X (.Name x pos) (wH i):=by intro pins s σ H v u Q I r h;exact wpAny_assign_Name (wB I O hi hx r (λs' P=>⟨_,H,P,h⟩) hf)
def SM:TGs:=λvs σ H Q=>vs=[]/\Q σ H
def WD(t:TG)(u:TGs):TGs:=λvs σ H Q=>∃v r,vs=v::r/\t v σ H λx H'=>u r x H' Q
def XG:PGs X [] SM:=by intro pins s σ H vs us Q I r h;obtain⟨e,h⟩:=h;subst e;cases r;exact Fw ⟨σ,H,I,h⟩
def ak{e:Expr}{es:List Expr}{t:TG}{u:TGs}(h1:PG X e t)(O:PGs X es u)
 (hs:(CO (e::es) X.a).map (·.2)=assign e X.a::(CO es X.a).map (·.2):=by rfl):PGs X (e::es) (WD t u):=by
 intro pins s σ H vs us Q I r h;obtain⟨v,R,e1,h⟩:=h;subst e1;cases r with
 |cons r rr=>
  rw[hs];refine CB (thn (h1 pins s σ H _ _ _ I r h) λ_ s1 N=>?_);obtain⟨x,H1,P,q1⟩:=N;exact O pins s1 x H1 _ _ Q P rr q1
def VM(K:Ae)(n:Nat)(t:TGs):TG:=λv σ H Q=>∃a x,v=.c a/\SqT K H a x/\x.length=n/\t x σ H Q
def rK(W:X.j=true)(h:PGs X es t)
 (S:(CO es X.a).length=n:=by rfl) (x:(CO es X.a).findIdx? (·.1)=none:=by rfl):PG X (.Tuple es k pos) (VM X.K n t):=by
 intro pins s σ H v u Q I r hw;obtain⟨a,O,e1,R,U,hw⟩:=hw;subst e1;cases r;obtain⟨its,N,P,hz⟩:=I.tuple R;refine assign_Tuple_tuple (I.C.k W) P (by simp[S,<-U,N.length]) x λh' hx=>?_
 have Y:Inv X pins σ H {s with heap:=h'}:=I.kept (t':=s.toks) λb o e=>hx b o (AL (Al e)) e
 exact h pins _ σ H O _ Q Y (by simpa using N) hw
def SN(to x:TE)(t:Wr):TG:=λv σ H Q=>to σ H λo H1=>x σ H1 λi H2=>t o i v H2 λN=>Q σ N
def Uo(W:PE X o to)(hi:PE X i ti)(hs:Tp X t)
 (Y:∀v,assign (.Subscript o i pos) X.a v=(do
  let N <-holding [v] (eval o X.a);let P <-holding [v,N] (eval i X.a)
  standAt pos
  holding [v,N,P] (setItem N P v)
  release [v,N,P] []):=by intro _;rfl):PG X (.Subscript o i pos) (SN to ti t):=by
 intro pins s σ H v u Q I r h;rw[Y];refine xd (By (thn (W pins s σ H _ I h) λN s1 O=>?_));obtain⟨x,H1,I1,r1,q1⟩:=O;refine xd (By (thn (hi pins s1 σ H1 _ I1 q1) λP s2 O=>?_));obtain⟨y,H2,I2,R,U⟩:=O;refine xd (A8 (xd (By (thn (hs pins s2 σ H2 x y v N P u _ I2 r1 R r U) λ_ s3 O=>?_))));obtain⟨H3,Z,S⟩:=O;exact wpAny_release ⟨σ,H3,Z,S⟩
def sV(te:TE)(g:TG):TS:=λD σ H=>te σ H λx H1=>g x σ H1 D.a
def jh(P:PE X e te)(O:PG X tg g)(hs:Eg [tg] e pos.line X.a=pure false:=by rfl)(hw:BZ [tg] e X.a=pure none:=by rfl)
 (h1:(CO [tg] X.a).map (·.2)=[assign tg X.a]:=by rfl):PS X (.Assign [tg] e pos) (sV te g):=by
 intro pins s σ H D I h;refine wpAny_Assign_stores (thn (P pins s σ H _ I h) λv s1 N=>?_) hs hw;obtain⟨x,H1,Q,r1,q1⟩:=N;rw[h1];exact thn (O pins s1 σ H1 x v _ Q r1 q1) λ_ s2 q=>q
def vT(Q:X.N.Nodup)(hi:X.N[i]?=some x)(hx:Loc X.a.scope x)(P:PE X e te)(hs:Eu e (some (.Name x pos')) pos.line X.a=pure false:=by rfl)(hf:X.q x=true\/X.a.scope.names.lookup x=some .local:=by first|exact .inl rfl|exact .inr rfl|assumption) :
 PS X (.Assign [.Name x pos'] e pos) (sV te (wH i)):=by
 intro pins s σ H D I h;refine wpAny_Assign_Name (thn (P pins s σ H _ I h) λv s1 O=>?_) hs;obtain⟨y,H1,S,r1,q1⟩:=O;exact wB S Q hi hx r1 (λs2 R=>⟨_,H1,R,q1⟩) hf
def QA(i j:Nat)(ta:TA):TS:=λD σ H=>ta σ H λvs H1=>∃v w,vs=[v,w]/\D.a ((σ.set i (some v)).set j (some w)) H1
def Uu{kt k2 pt2}(hc:X.j=true)(W:X.N.Nodup)(hi:X.N[i]?=some x)(hj:X.N[j]?=some y)(S:i≠j)
 (hx:X.a.scope.names.lookup x=some .local) (U:X.a.scope.names.lookup y=some .local) (ha:PA X [a,b] ta)
 (hw:BZ [.Tuple [.Name x px,.Name y py] kt pt] (.Tuple [a,b] k2 pt2) X.a=pure (some [x,y]))
 (hs:Eg [.Tuple [.Name x px,.Name y py] kt pt] (.Tuple [a,b] k2 pt2) pos.line X.a=pure false:=by rfl) :
 PS X (.Assign [.Tuple [.Name x px,.Name y py] kt pt] (.Tuple [a,b] k2 pt2) pos) (QA i j ta):=by
 intro pins s σ H D I h;rw[exec_Assign_arm];refine xd (A8 ?_);rw[hs];refine xd (Aj ?_);rw[if_neg (by decide)]
 refine xd (Tuple_ (thn (ha _ pins s σ H _ I h) λus s1 Z=>?_));obtain⟨vs,H1,I1,r1,q1⟩:=Z;obtain⟨v,w,e1,q1⟩:=q1;subst e1;obtain⟨P,O,rfl,rv,Q⟩:∃P O,us=[P,O]/\RelV v P/\RelV w O:=by
  cases r1 with
  |cons p q=>
   cases q with
   |cons p' q'=>
    cases q';exact⟨_,_,rfl,p,p'⟩
 refine Bh ?_ (by show 2<=Ar;decide)
 have I2:Inv X pins σ H1 {s1 with heap:=s1.heap.push {cls:=.type "tuple",data:=.seq [P,O].toArray}}:=I1.kept (t':=s1.toks) λb o e=>Aa _ e
 rw[hw];refine xd (Aj ?_);show wpAny (model X.f X.w) X.A (do rule "assign.swapped-stores";let items <-unpackItems (.ref s1.heap.objs.size) 2 none;Ef [λv=>Dk X.a y v,λv=>Dk X.a x v] items.reverse;pure GP) _ _ _
 refine xd (Gz (xd (unpackItems_tuple (items:=#[P,O]) (I.C.k hc) (IsTup.new s1.heap _) λh' R=>?_)));have I3:=I2.kept (h':=h') (t':=s1.toks) λb o e=>R b o (AL (Al e)) e;show wpAny _ _ (Ef [λv=>Dk X.a y v,λv=>Dk X.a x v] [O,P] >>= λ_=>pure GP) _ _ _;refine xd (CB (DZ (wB I3 W hj (.inl U) Q (λs2 I4=>?_) (.inr U))));refine CB (DZ (wB I4 W hi (.inl hx) rv (λs3 Y=>Fw (Aj ?_)) (.inr hx)));rw[Fg _ _ (A6 S)]at Y;exact⟨_,H1,Y,q1⟩
end
structure It where
 c:Nat->Hp->Prop
 b:Nat->Hp->V->Hp->Prop
 a:Nat->Hp->Prop
def uc(X:Cx)(pins:List (Addr × Obj))(H:Hp)(b:Addr):Prop:=
 H b=none/\b≠X.a.locals/\b ∉ X.fs/\(b∈X.m\/X.l.heap.objs.size<=b)/\(∀x c,X.a.cells.lookup x=some c->c≠b)/\∀p∈X.n++pins,p.1≠b
def Inv.VJ(I:Inv X pins σ H s)(N:s.heap.objs.size<=b)(O:H' b=none):uc X pins H' b:=by
 refine⟨O,Dl (Aw I.lt N),I.QX N,.inr (As I.sz N),λx c e z=>?_,λp hp z=>?_⟩
 . obtain⟨v,q⟩:=I.M x c e
   exact absurd (Aw q.lt (by rw[z];exact N)) (Bc _)
 . exact absurd (Aw (Al (I.P p hp).1) (by rw[z];exact N)) (Bc _)
structure Turn(P:Program)(w:World)(K:Ae)(tg:Expr)(J:It)(fp:List Addr)(it:Addr)(tn:Nat->Heap->Prop):Prop where
 g:it∈fp
 c:∀i h,tn i h->∀b∈fp,∃o,h.get? b=some o/\∀v,o.data≠.cell v
 a:∀i h h',tn i h->(∀b∈fp,∀o,h.get? b=some o->h'.get? b=some o)->tn i h'
 e:∀(X:Cx),X.f=P->X.w=w->X.K=K->X.j=true->∀(i:Nat) (pins:List (Addr × Obj)) (s:Shared) (σ:St) (H:Hp) (E:Value->Shared->Prop),Inv X pins σ H s->(∀b∈fp,uc X pins H b)->tn i s.heap->J.c i H ->
  wpAny (model P w) X.A (pyNext (.ref it)) (λr s1=>∃u,r=some u /\
   wpAny (model P w) X.A (B5 tg (.ref it) u) (λ_ s2=>∃x H',Inv X pins σ H' s2/\RelV x u/\J.b i H x H'/\tn (i+1) s2.heap/\∀b∈fp,H' b=none) E s1) E s
 d:∀(X:Cx),X.f=P->X.w=w->X.K=K->X.j=true->∀(i:Nat) (pins:List (Addr × Obj)) (s:Shared) (σ:St) (H:Hp) (E:Value->Shared->Prop),Inv X pins σ H s->(∀b∈fp,uc X pins H b)->tn i s.heap->J.a i H ->
  wpAny (model P w) X.A (pyNext (.ref it)) (λr s1=>r=none/\Inv X pins σ H s1) E s
 f:∀(A:Around) (i:Nat) (s:Shared) (Q:Value->Shared->Prop) (E:Value->Shared->Prop),tn i s.heap->Q (.ref it) s->wpAny (model P w) A (pyIter (.ref it)) Q E s
abbrev TI:=St->Hp->(It->Hp->Prop)->Prop
def PIE(X:Cx)(pins:List (Addr × Obj))(σ:St)(tg:Expr)(R:It->Hp->Prop)(x:Value)(s2:Shared):Prop:=
 ∃(it:Addr) (fp:List Addr) (tn:Nat->Heap->Prop) (J:It) (H':Hp),x=.ref it/\Inv X pins σ H' s2/\Turn X.f X.w X.K tg J fp it tn/\tn 0 s2.heap/\(∀b∈fp,uc X pins H' b)/\R J H'
def PI(X:Cx)(tg iter:Expr)(wi:TI):Prop:=
 ∀(pins:List (Addr × Obj)) (s:Shared) (σ:St) (H:Hp) (R:It->Hp->Prop),Inv X pins σ H s->wi σ H R ->
  wpAny (model X.f X.w) X.A (eval iter X.a) (λv s1=>wpAny (model X.f X.w) X.A (pyIter v) (PIE X pins σ tg R) X.i s1) X.i s
def cb(N:s.heap.get? it=some o)(P:o.cls=.type n)(hd:o.data=.fields vs)
 (O:["enumerate","zip","dict_itemiterator","dict_reverseitemiterator","odict_iterator","itertools.zip_longest","itertools.pairwise"].contains n=false) (x:Q () s):wpAny M A (B5 tg (.ref it) u) Q E s:=by
 unfold B5;cases tg<;>first
  |exact Aj x
  |(cases u<;>first
   |exact Aj x
   |(refine xd (wpAny_load N ?_)
     rw[P,hd];show wpAny M A (if (["enumerate","zip","dict_itemiterator","dict_reverseitemiterator","odict_iterator","itertools.zip_longest","itertools.pairwise"].contains n&&vs[0]? == some (rawInt _))=true then _ else _) Q E s
     rw[if_neg (by intro h;rw[O,Ct]at h;cases h)]
     exact Aj x))
noncomputable def Itl(K:Ae)(a:Addr):It:=
 ⟨λi H=>∃N x,SqL K H a N/\N[i]?=some x,λi H x H'=>H'=H/\∀N,SqL K H a N->N[i]?=some x,λi H=>∃N,SqL K H a N/\N.length<=i⟩
noncomputable def Itt(K:Ae)(a:Addr):It:=
 ⟨λi H=>∃N x,SqT K H a N/\N[i]?=some x,λi H x H'=>H'=H/\∀N,SqT K H a N->N[i]?=some x,λi H=>∃N,SqT K H a N/\N.length<=i⟩
noncomputable def Itr(lo:Int)(n:Nat):It:=⟨λi _=>i<n,λi H x H'=>H'=H/\x=.d (lo+i),λi _=>n<=i⟩
def eO{K}a it:Turn P w K tg (Itl K a) [it] it (λi h=>h.IsListIter it a i) where
 g:=by simp
 c:=λi h st b N=>by
  have e:b=it:=by simpa using N
  subst e;obtain⟨o,e,c,d⟩:=st;exact⟨o,e,λv z=>by rw[d]at z;cases z⟩
 a:=λi h h' st k=>st.at λo e=>k it (by simp) o e
 e:=by
  intro X U hw W Z i pins s σ H E I hf st S;subst U hw W;obtain⟨xs,x,Q,hx⟩:=S;obtain⟨its,R,p,hz⟩:=I.list Q;obtain⟨u,hu,ru⟩:=R.get hx;obtain⟨Y,f1,f2,f3,f4,f5⟩:=hf it (by simp)
  refine wpAny_pyNext_list_item st p.isList (x:=u) (by simpa using hu) λh' O sb=>?_
  have I1:Inv X pins σ H {s with heap:=h'}:=I.turned (t':=s.toks) (λb o N e=>(sb.2 b N).trans e) Y f1 f3 f4 f5
  obtain⟨o,e,c,d⟩:=id O;exact⟨u,rfl,cb (s:={s with heap:=h'}) e c d (by decide) ⟨x,H,I1,ru,⟨rfl,λys hy=>by rw[I.bg hy Q];exact hx⟩,O,λb N=>(hf b N).1⟩⟩
 d:=by
  intro X U hw W Z i pins s σ H E I hf st S;subst U hw W;obtain⟨xs,Q,hx⟩:=S;obtain⟨its,R,p,hz⟩:=I.list Q;obtain⟨Y,f1,f2,f3,f4,f5⟩:=hf it (by simp)
  have hl:=R.length;exact wpAny_pyNext_list_end (I.C.k Z) st p.isList (by simp;omega) λh' eb=>⟨rfl,I.turned (t':=s.toks) (λb o N e=>eb b o N e) Y f1 f3 f4 f5⟩
 f:=λ_ _ _ _ _ st h=>wpAny_pyIter_listiter st h
def iG{K}a it:Turn P w K tg (Itt K a) [it] it (λi h=>h.IsTupleIter it a i) where
 g:=by simp
 c:=λi h st b N=>by
  have e:b=it:=by simpa using N
  subst e;obtain⟨o,e,c,d⟩:=st;exact⟨o,e,λv z=>by rw[d]at z;cases z⟩
 a:=λi h h' st k=>st.at λo e=>k it (by simp) o e
 e:=by
  intro X U hw W Z i pins s σ H E I hf st S;subst U hw W;obtain⟨xs,x,Q,hx⟩:=S;obtain⟨its,R,p,hz⟩:=I.tuple Q;obtain⟨u,hu,ru⟩:=R.get hx;obtain⟨Y,f1,f2,f3,f4,f5⟩:=hf it (by simp)
  refine wpAny_pyNext_tuple_item st (show s.heap.IsTuple a its.toArray from p) (x:=u) (by simpa using hu) λh' O sb=>?_
  have I1:Inv X pins σ H {s with heap:=h'}:=I.turned (t':=s.toks) (λb o N e=>(sb.2 b N).trans e) Y f1 f3 f4 f5
  obtain⟨o,e,c,d⟩:=id O;exact⟨u,rfl,cb (s:={s with heap:=h'}) e c d (by decide) ⟨x,H,I1,ru,⟨rfl,λys hy=>by rw[I.eN hy Q];exact hx⟩,O,λb N=>(hf b N).1⟩⟩
 d:=by
  intro X U hw W Z i pins s σ H E I hf st S;subst U hw W;obtain⟨xs,Q,hx⟩:=S;obtain⟨its,R,p,hz⟩:=I.tuple Q;obtain⟨Y,f1,f2,f3,f4,f5⟩:=hf it (by simp)
  have hl:=R.length;exact wpAny_pyNext_tuple_end (I.C.k Z) st (show s.heap.IsTuple a its.toArray from p) (by simp;omega) λh' eb=>⟨rfl,I.turned (t':=s.toks) (λb o N e=>eb b o N e) Y f1 f3 f4 f5⟩
 f:=λ_ _ _ _ _ st h=>wpAny_pyIter_tupleiter st h
def iF{K}it lo n:Turn P w K tg (Itr lo n) [it] it (λi h=>IsRangeIter h it (lo+(i:Nat)*1) ((n:Int)-(i:Nat)) 1) where
 g:=by simp
 c:=λi h st b x=>by
  have e:b=it:=by simpa using x
  subst e;exact⟨_,st,λv z=>by have Y:Data.fields _=Data.cell v:=z;cases Y⟩
 a:=λi h h' st k=>k it (by simp) _ st
 e:=by
  intro X R hw S Q i pins s σ H E I hf st O;subst R hw S;obtain⟨U,f1,f2,f3,f4,f5⟩:=hf it (by simp)
  have W:=Walks.range (prog:=X.f) (w:=X.w) (I.C.k Q) it lo 1 n;refine W.item i s _ _ O st λv h' tk hv N Z=>?_;obtain⟨t,rfl⟩:=hv;have I1:Inv X pins σ H {s with heap:=h',toks:=tk}:=I.turned (λb o x e=>Z b o (by simpa using x) e) U f1 f3 f4 f5
  refine⟨_,rfl,cb (s:={s with heap:=h',toks:=tk}) (n:="range_iterator") N rfl rfl (by decide) ⟨.d (lo+i),H,I1,⟨t,?_⟩,⟨rfl,rfl⟩,N,λb x=>(hf b x).1⟩⟩
  rw[Int.mul_one]
 d:=by
  intro X R hw S Q i pins s σ H E I hf st O;subst R hw S;obtain⟨U,f1,f2,f3,f4,f5⟩:=hf it (by simp)
  exact wpAny_pyNext_range_end (I.C.k Q) st (by have:n<=i:=O;omega) λh' eb=>⟨rfl,I.turned (t':=s.toks) (λb o x e=>eb b o x e) U f1 f3 f4 f5⟩
 f:=λ_ _ _ _ _ st h=>wpAny_pyIter_rangeiter st h
section
variable {X:Cx}{tg:Expr}
def WG(K:Ae)(tl:TE):TI:=λσ H R=>tl σ H λx H1=>∃a,x=.c a/\(∃N,SqL K H1 a N)/\R (Itl K a) H1
def QU(K:Ae)(tl:TE):TI:=λσ H R=>tl σ H λx H1=>∃a,x=.c a/\(∃N,SqT K H1 a N)/\R (Itt K a) H1
def mY(Q:PE X l tl):PI X tg l (WG X.K tl):=by
 intro pins s σ H R I h;refine thn (Q pins s σ H _ I h) λv s1 O=>?_;obtain⟨x,H1,N,r1,q1⟩:=O;obtain⟨a,e,⟨U,P⟩,q⟩:=q1;subst e;cases r1;obtain⟨its,W,p,hz⟩:=N.list P;refine D9 p.isList ?_;refine⟨s1.heap.objs.size,[s1.heap.objs.size],_,_,H1,rfl,N.kept (t':=s1.toks) λb o e=>Aa _ e,eO a _,⟨_,AF _ rfl,rfl,rfl⟩,λb S=>?_,q⟩;have e:b=s1.heap.objs.size:=by simpa using S
 subst e;exact N.VJ (Ad _) (N.B.fresh (Ad _))
def ao(Q:PE X l tl):PI X tg l (QU X.K tl):=by
 intro pins s σ H R I h;refine thn (Q pins s σ H _ I h) λv s1 O=>?_;obtain⟨x,H1,N,r1,q1⟩:=O;obtain⟨a,e,⟨U,P⟩,q⟩:=q1;subst e;cases r1;obtain⟨its,W,p,hz⟩:=N.tuple P;refine E3 (show s1.heap.IsTuple a its.toArray from p) ?_;refine⟨s1.heap.objs.size,[s1.heap.objs.size],_,_,H1,rfl,N.kept (t':=s1.toks) λb o e=>Aa _ e,iG a _,⟨_,AF _ rfl,rfl,rfl⟩,λb S=>?_,q⟩;have e:b=s1.heap.objs.size:=by simpa using S
 subst e;exact N.VJ (Ad _) (N.B.fresh (Ad _))
def ZD{lo hi}(I:Inv X pins σ H s)(h1:-(2 ^ 62)<=lo)(Q:lo<2 ^ 62)(P:-(2 ^ 62)<=hi)(O:hi<2 ^ 62)
 (q:R (Itr lo (hi-lo).toNat) H):wpAny (model X.f X.w) X.A (pyIter (.ref s.heap.objs.size)) (PIE X pins σ tg R) E {s with heap:=s.heap.push {cls:=.type "range",data:=.fields #[.int lo t,.int hi u,.int 1 v]},toks:=tk}:=by
 refine wpAny_pyIter_range (IsRange.new ..) (small_one h1 Q P O) ?_;have N:Inv X pins σ H {s with heap:=s.heap.push {cls:=.type "range",data:=.fields #[.int lo t,.int hi u,.int 1 v]},toks:=tk}:=I.kept λb o e=>Aa _ e
 refine⟨(s.heap.push {cls:=.type "range",data:=.fields #[.int lo t,.int hi u,.int 1 v]}).objs.size,[(s.heap.push {cls:=.type "range",data:=.fields #[.int lo t,.int hi u,.int 1 v]}).objs.size],_,_,H,rfl,
  N.kept (t':=tk) λb o e=>Aa _ e,iF _ lo (hi-lo).toNat,?_,λb x=>?_,q⟩
 . have e1:lo+((0:Nat):Int)*1=lo:=by simp
   have e2:(((hi-lo).toNat:Nat):Int)-((0:Nat):Int)=B4 lo hi 1:=by rw[rangeSize_one];split<;>omega
   show IsRangeIter _ _ (lo+((0:Nat):Int)*1) ((((hi-lo).toNat:Nat):Int)-((0:Nat):Int)) 1;rw[e1,e2];exact AF _ rfl
 . have e:b=(s.heap.push {cls:=.type "range",data:=.fields #[.int lo t,.int hi u,.int 1 v]}).objs.size:=by simpa using x
   subst e;exact N.VJ (Ad _) (N.B.fresh (Ad _))
def SU(ta:TA):TI:=λσ H R=>ta σ H λvs H1=>∃j:Int,vs=[.d j]∧-(2 ^ 62)<=j/\j<2 ^ 62/\R (Itr 0 j.toNat) H1
def fm(P:Gl X "range")(O:X.d "range"=none)(Q:PA X [a] ta)(hs:AG [a] X.a=[(false,eval a X.a)]:=by rfl):PI X tg (.Call (.Name "range" p) [a] [] pos) (SU ta):=by
 intro pins s σ H R I h;refine Call_ (q0 I P O boot_range (E4 (thn (Q pos pins s σ H _ I h) λus s1 x=>?_) hs rfl));obtain⟨vs,H1,S,r1,q1⟩:=x;obtain⟨j,e,q1,N,q⟩:=q1;subst e;cases r1 with
 |cons r rr=>
  cases rr;obtain⟨t,rfl⟩:=r;exact call_range_1 (ZD S ⋯ ⋯ q1 N (by simpa using q))
def Qn(wi:TI)(g:TG)(tb:TS):TS:=λD σ H=>wi σ H λJ H1=>∃W:Nat->Nat->St->Hp->Prop,(∃m,W 0 m σ H1)/\∀i m σ H,W i m σ H ->
 (J.a i H/\D.a σ H)\/(J.c i H/\∃N:St->Hp->Prop,(∀O H',N O H'->∃Q,Q<m/\W (i+1) Q O H')/\∀x H',J.b i H x H'->g x σ H' λP H2=>tb {D with a:=N,d:=N,c:=D.a} P H2)
noncomputable def pU(fp:List Addr)(h:Heap):List (Addr × Obj):=fp.filterMap λb=>(h.get? b).map λo=>(b,o)
def vP(x:b∈fp)(e:h.get? b=some o):(b,o)∈pU fp h:=CC.mpr ⟨b,x,by rw[e];rfl⟩
def fR(hp:p∈pU fp h):p.1∈fp/\h.get? p.1=some p.2:=by
 obtain⟨b,x,e⟩:=CC.mp hp;cases q:h.get? b with
 |none=>rw[q]at e;cases e
 |some o=>
  rw[q]at e;have N:(b,o)=p:=A1 e;subst N;exact⟨x,q⟩
def Inv.pinned(I:Inv X pins σ H s)(hf:∀b∈fp,uc X pins H b)(O:∀b∈fp,∃o,s.heap.get? b=some o/\∀v,o.data≠.cell v):Inv X (pins++pU fp s.heap) σ H s:=
 I.mZ λp hp=>(AD.mp hp).elim (λz=>I.P p (Be _ z)) λz=>by obtain⟨x,e⟩:=fR z;obtain⟨Q,f1,f2,_⟩:=hf p.1 x;obtain⟨o,N,d⟩:=O p.1 x;rw[e]at N;cases N;exact⟨e,Q,f1,f2,d⟩
def Inv.sX(I:Inv X (pins++pl) σ H s):Inv X pins σ H s:=I.mZ λp hp=>I.P p (Be _ (BB _ hp))
def Ut(hp:PassesOwn (model X.f X.w) X.A X.a X.i)(hc:X.j=true)(hi:PI X tg iter wi)(hg:PG X tg g)(U:PSs X body tb)
 (hs:∀x,Cq iter X.a x=pure x:=by intro _;rfl):PS X (.For tg iter body [] pos) (Qn wi g tb):=by
 intro pins s σ H D I h;refine wpAny_For (thn (hi pins s σ H _ I h) λv s1 h1=>thn h1 λitv s2 h2=>?_) hs;obtain⟨it,fp,tn,J,H2,e,I2,T,st2,f2,W,⟨m0,w0⟩,turn⟩:=h2;subst e
 -- what stays true of the iterator's objects through the loop
 have S:∀{H':Hp},(∀b∈fp,H' b=none)->∀b∈fp,uc X pins H' b:=λhn b U=>⟨hn b U,(f2 b U).2⟩;refine codeAny_forLoop_any (λn s'=>∃i R H',Inv X pins R H' s'/\tn i s'.heap/\(∀b∈fp,H' b=none)/\W i n R H') ?_ m0 ⟨0,σ,H2,I2,st2,λb U=>(f2 b U).1,w0⟩;rintro n s3 ⟨i,Q,H3,I3,st3,fr3,w3⟩;rcases turn i n Q H3 w3 with⟨stop,qn⟩|⟨go,N,hN,step⟩
 . refine DK hp (thn (T.d X rfl rfl rfl hc i pins s3 Q H3 X.i I3 (S fr3) st3 stop) λr s4 zz=>?_)
   obtain⟨hr,I4⟩:=zz;subst hr;exact ED ⟨Q,H3,I4,qn⟩
 . refine DK hp (thn (T.e X rfl rfl rfl hc i pins s3 Q H3 X.i I3 (S fr3) st3 go) λr s4 zz=>?_)
   obtain⟨u,hr,h4⟩:=zz;subst hr;refine DK hp (thn h4 λ_ s5 zz=>?_);obtain⟨x,H5,I5,r5,y5,st5,fr5⟩:=zz;have I5':=I5.pinned (S fr5) (T.c _ _ st5);refine DK hp (thn (hg _ s5 Q H5 x u _ I5' r5 (step x H5 y5)) λ_ s6 zz=>?_);obtain⟨σ6,H6,I6,q6⟩:=zz;refine DK hp (thn (U _ s6 σ6 H6 _ I6 q6) λf s7 q7=>?_);have Y:∀{O:St} {H7:Hp},Inv X (pins++pU fp s5.heap) O H7 s7->N O H7->∃m,m<n/\∃i R H',Inv X pins R H' s7/\tn i s7.heap/\(∀b∈fp,H' b=none)/\W i m R H':=λ{O H7} Z n7=>by obtain⟨m',hm,w7⟩:=hN O H7 n7;refine⟨m',hm,i+1,O,H7,Z.sX,T.a _ _ _ st5 λb U o e=>(Z.P (b,o) (Be _ (Be _ (vP U e)))).1,λb U=>?_,w7⟩;obtain⟨o,e,d⟩:=T.c _ _ st5 b U;exact(Z.P (b,o) (Be _ (Be _ (vP U e)))).2.1
   cases f with
   |next=>obtain⟨O,H7,Z,n7⟩:=q7;exact Y Z n7
   |cont=>obtain⟨O,H7,Z,n7⟩:=q7;exact Y Z n7
   |brk=>obtain⟨O,H7,Z,q7⟩:=q7;exact⟨O,H7,Z.sX,q7⟩
   |ret v=>obtain⟨x7,O,H7,Z,r7,q7⟩:=q7;exact⟨x7,O,H7,Z.sX,r7,q7⟩
end
abbrev R2:=V->V->Hp->VK->Prop
def OpR(X:Cx)(f:Value->Value->Sem Value)(r:R2):Prop:=
 ∀(pins:List (Addr × Obj)) (s:Shared) (σ:St) (H:Hp) (x y:V) (v u:Value) (Q:VK),Inv X pins σ H s->RelV x v->RelV y u->r x y H Q ->
  wpAny (model X.f X.w) X.A (f v u) (EP X pins σ Q) X.i s
def UnR(X:Cx)(f:Value->Sem Value)(r:V->Hp->VK->Prop):Prop:=
 ∀(pins:List (Addr × Obj)) (s:Shared) (σ:St) (H:Hp) (x:V) (v:Value) (Q:VK),Inv X pins σ H s->RelV x v->r x H Q ->
  wpAny (model X.f X.w) X.A (f v) (EP X pins σ Q) X.i s
def yI(X:Cx)(f:Value)(r:List V->Hp->VK->Prop):Prop:=
 ∀(pins:List (Addr × Obj)) (s:Shared) (σ:St) (H:Hp) (x:List V) (us:List Value) (Q:VK),Inv X pins σ H s->Vals x us->r x H Q ->
  wpAny (model X.f X.w) X.A (call f us) (EP X pins σ Q) X.i s
def QN(X:Cx)(r:V->Hp->(Bool->Hp->Prop)->Prop):Prop:=
 ∀(pins:List (Addr × Obj)) (s:Shared) (σ:St) (H:Hp) (x:V) (v:Value) (Q:Bool->Hp->Prop),Inv X pins σ H s->RelV x v->r x H Q ->
  wpAny (model X.f X.w) X.A (truthy v) (TP X pins σ Q) X.i s
def tOp(r:R2)(ta tb:TE):TE:=λσ H Q=>ta σ H λx H1=>tb σ H1 λy H2=>r x y H2 Q
def tUn(r:V->Hp->VK->Prop)(ta:TE):TE:=λσ H Q=>ta σ H λx H1=>r x H1 Q
def rI(C:Int->Int->Prop)(g:Int->Int->V):R2:=λx y H Q=>∃i j,x=.d i/\y=.d j/\C i j/\Q (g i j) H
def rI0(g:Int->Int->V):R2:=λx y H Q=>∃i j,x=.d i/\y=.d j/\Q (g i j) H
def rU(g:Int->V):V->Hp->VK->Prop:=λx H Q=>∃i,x=.d i/\Q (g i) H
section
variable {X:Cx}{a b c:Expr}{ta tb tc:TE}{pos:Pos}
def Ww(Y:PE X a ta)(W:PE X b tb){R:V->V->Hp->Prop}(I:Inv X pins σ H s)
 (h:ta σ H λx H1=>tb σ H1 λy H2=>R x y H2)  {f:Value->Value->Sem Value}
 (hf:∀v u s2 x y H2,Inv X pins σ H2 s2->RelV x v->RelV y u->R x y H2->wpAny (model X.f X.w) X.A (f v u) Q X.i s2) :
 wpAny (model X.f X.w) X.A (eval a X.a) (λv O=>wpAny (model X.f X.w) X.A (eval b X.a) (λu N=>wpAny (model X.f X.w) X.A (f v u) Q X.i N) X.i O) X.i s:=by
 refine thn (Y pins s σ H _ I h) λv s1 P=>?_;obtain⟨x,H1,I1,r1,q1⟩:=P;refine thn (W pins s1 σ H1 _ I1 q1) λu s2 P=>?_;obtain⟨y,H2,Z,S,U⟩:=P;exact hf v u s2 x y H2 Z r1 S U
def l9(P:OpR X (BG op) r)(S:PE X a ta)(R:PE X b tb):PE X (.BinOp a op b pos) (tOp r ta tb):=by intro pins s σ H Q I h;exact wpAny_BinOp (Ww S R I h λv u s2 x y H2 U O N q=>P pins s2 σ H2 x y v u Q U O N q)
def Rb(N:UnR X (unaryOp op) r)(O:PE X a ta):PE X (.UnaryOp op a pos) (tUn r ta):=by intro pins s σ H Q I h;exact UnaryOp_ (thn (O pins s σ H _ I h) λv s1 ⟨x,H1,I1,r1,q1⟩=>N pins s1 σ H1 x v Q I1 r1 q1)
def opI{f:Value->Value->Sem Value}{C:Int->Int->Prop}{g:Int->Int->Int}
 (N:∀i j t u (s:Shared) (Q:Value->Shared->Prop) E,C i j->Q (.int (g i j) s.toks) {s with toks:=s.toks+1}->wpAny (model X.f X.w) X.A (f (.int i t) (.int j u)) Q E s) :
 OpR X f (rI C λi j=>.d (g i j)):=by
 intro pins s σ H x y v u Q I P O h;obtain⟨i,j,rfl,rfl,R,q⟩:=h;obtain⟨t,rfl⟩:=P;obtain⟨t',rfl⟩:=O;exact N i j t t' s _ _ R ⟨.d (g i j),H,I.tok _,⟨_,rfl⟩,q⟩
def RB{f:Value->Value->Sem Value}{g:Int->Int->Int}
 (N:∀i j t u (s:Shared) (Q:Value->Shared->Prop) E,Q (.int (g i j) s.toks) {s with toks:=s.toks+1}->wpAny (model X.f X.w) X.A (f (.int i t) (.int j u)) Q E s) :
 OpR X f (rI0 λi j=>.d (g i j)):=by
 intro pins s σ H x y v u Q I P O h;obtain⟨i,j,rfl,rfl,q⟩:=h;obtain⟨t,rfl⟩:=P;obtain⟨t',rfl⟩:=O;exact N i j t t' s _ _ ⟨.d (g i j),H,I.tok _,⟨_,rfl⟩,q⟩
def Yu{f:Value->Value->Sem Value}{g:Int->Int->Bool}
 (N:∀i j t u s (Q:Value->Shared->Prop) E,Q (.bool (g i j)) s->wpAny (model X.f X.w) X.A (f (.int i t) (.int j u)) Q E s) :
 OpR X f (rI0 λi j=>.f (g i j)):=by
 intro pins s σ H x y v u Q I P O h;obtain⟨i,j,rfl,rfl,q⟩:=h;obtain⟨t,rfl⟩:=P;obtain⟨t',rfl⟩:=O;exact N i j t t' s _ _ ⟨.f (g i j),H,I,rfl,q⟩
def Ti(i j:Int):Prop:=0<j/\j<1073741824
def QL(i j:Int):Prop:=0<=j/\j<=1000000/\i.natAbs<2 ^ 64
def Wm(i j:Int):Prop:=(-(2 ^ 64)<i/\i<2 ^ 64)\/(-(2 ^ 64)<j/\j<2 ^ 64)
def Wm.ok(h:Wm i j):IntMulOk i j:=by
 rcases h with⟨h1,x⟩|⟨h1,x⟩
 . exact .of_left (intBits_le_64 h1 x)
 . exact .of_right (intBits_le_64 h1 x)
def UH:OpR X (BG .Add) (rI0 λi j=>.d (i+j)):=RB λ_ _ _ _ _ _ _ q=>add_int q
def UM:OpR X (BG .Sub) (rI0 λi j=>.d (i-j)):=RB λ_ _ _ _ _ _ _ q=>sub_int q
def UJ:OpR X (BG .Mult) (rI Wm λi j=>.d (i*j)):=opI λ_ _ _ _ _ _ _ x q=>mul_int q x.ok
def Yw:OpR X (BG .FloorDiv) (rI Ti λi j=>.d (i/j)):=opI λi j _ _ _ _ _ x q=>by have h1:(0:Int)<j:=x.1;have N:j<1073741824:=x.2;exact floordiv_int ⋯ (by rw[Fh i ⋯];exact q) (.inl (PyProof.noPylong_small ⋯))
def UI:OpR X (BG .Mod) (rI (λ_ j=>0<j) λi j=>.d (i%j)):=opI λi j _ _ _ _ _ x q=>by have h1:(0:Int)<j:=x;exact mod_int' ⋯ (by rw[Fi i ⋯];exact q)
def UK:OpR X (BG .Pow) (rI QL λi j=>.d (i ^ j.toNat)):=opI λ_ _ _ _ _ _ _ x q=>pow_int_small x.1 x.2.1 x.2.2 q
def unI{f:Value->Sem Value}{g:Int->Int}
 (N:∀i t (s:Shared) (Q:Value->Shared->Prop) E,Q (.int (g i) s.toks) {s with toks:=s.toks+1}->wpAny (model X.f X.w) X.A (f (.int i t)) Q E s) :
 UnR X f (rU λi=>.d (g i)):=by
 intro pins s σ H x v Q I O h;obtain⟨i,rfl,q⟩:=h;obtain⟨t,rfl⟩:=O;exact N i t s _ _ ⟨.d (g i),H,I.tok _,⟨_,rfl⟩,q⟩
def Td:UnR X (unaryOp .USub) (rU λi=>.d (-i)):=unI λ_ _ _ _ _ q=>neg_int q
end
noncomputable def Ry:V->V->Bool
 |.g,.g=>true|.g,.d _=>true|.d _,.g=>true|.g,.f _=>true|.f _,.g=>true|.g,.e _=>true|.e _,.g=>true
 |.d _,.d _=>true|.f _,.f _=>true|.e _,.e _=>true|.h _,.h _=>true
 |.d _,.e _=>true|.e _,.d _=>true|.f _,.e _=>true|.e _,.f _=>true
 |_,_=>false
def rEq:R2:=λx y H Q=>Ry x y=true/\Q (.f (decide (x=y))) H
def rNe:R2:=λx y H Q=>Ry x y=true/\Q (.f (!decide (x=y))) H
def ip:decide (V.d i=V.d j)=(i == j):=by rw[De];simp
def dz:decide (V.f i=V.f j)=(i == j):=by rw[De];simp
def iq:decide (V.e i=V.e j)=(i == j):=by rw[De];simp
def il:decide (V.h i=V.h j)=(i.toList == j.toList):=by rw[De];cases i;cases j;simp
section
variable {X:Cx}{a b c:Expr}{ta tb tc:TE}{pos:Pos}
def zp(I:Inv X pins σ H s)(q:Q (.f k) H)(e:k=k'):EP X pins σ Q (.bool k') s:=by subst e;exact⟨.f k,H,I,rfl,q⟩
def WM:OpR X (BC .Eq) rEq:=by
 intro pins s σ H x y v u Q I O N h;obtain⟨hs,q⟩:=h;cases x with
 |g=>
  cases O;cases y with
  |g=>cases N;exact PySem.EqNone.eq_none_none (zp I q (by simp))
  |f j=>cases N;exact PySem.EqNone.eq_none_bool (zp I q (by simp))
  |d j=>obtain⟨t',rfl⟩:=N;exact PySem.EqNone.eq_none_int (zp I q (by simp))
  |e j=>obtain⟨t',rfl⟩:=N;exact PySem.EqNone.eq_none_str (zp I q (by simp))
  |_=>exact absurd (show false=true from hs) Ak
 |f i=>
  cases O;cases y with
  |g=>cases N;exact PySem.EqNone.eq_bool_none (zp I q (by simp))
  |f j=>cases N;exact eq_bool (zp I q dz)
  |e j=>obtain⟨t',rfl⟩:=N;exact PySem.EqMixed.eq_bool_str (zp I q (by simp))
  |_=>exact absurd (show false=true from hs) Ak
 |d i=>
  obtain⟨t,rfl⟩:=O;cases y with
  |g=>cases N;exact PySem.EqNone.eq_int_none (zp I q (by simp))
  |d j=>obtain⟨t',rfl⟩:=N;exact eq_int (zp I q ip)
  |e j=>obtain⟨t',rfl⟩:=N;exact PySem.EqMixed.eq_int_str (zp I q (by simp))
  |_=>exact absurd (show false=true from hs) Ak
 |e i=>
  obtain⟨t,rfl⟩:=O;cases y with
  |g=>cases N;exact PySem.EqNone.eq_str_none (zp I q (by simp))
  |f j=>cases N;exact PySem.EqMixed.eq_str_bool (zp I q (by simp))
  |d j=>obtain⟨t',rfl⟩:=N;exact PySem.EqMixed.eq_str_int (zp I q (by simp))
  |e j=>obtain⟨t',rfl⟩:=N;exact eq_str (zp I q iq)
  |_=>exact absurd (show false=true from hs) Ak
 |h i=>
  obtain⟨t,rfl⟩:=O;cases y with
  |h j=>obtain⟨t',rfl⟩:=N;exact PySem.W.eq_bytes (zp I q il)
  |_=>exact absurd (show false=true from hs) Ak
 |_=>cases y<;>exact absurd (show false=true from hs) Ak
def WN:OpR X (BC .NotEq) rNe:=by
 intro pins s σ H x y v u Q I O N h;obtain⟨hs,q⟩:=h;cases x with
 |g=>
  cases O;cases y with
  |g=>cases N;exact PySem.EqNone.ne_none_none (zp I q (by simp))
  |f j=>cases N;exact PySem.EqNone.ne_none_bool (zp I q (by simp))
  |d j=>obtain⟨t',rfl⟩:=N;exact PySem.EqNone.ne_none_int (zp I q (by simp))
  |e j=>obtain⟨t',rfl⟩:=N;exact PySem.EqNone.ne_none_str (zp I q (by simp))
  |_=>exact absurd (show false=true from hs) Ak
 |f i=>
  cases O;cases y with
  |g=>cases N;exact PySem.EqNone.ne_bool_none (zp I q (by simp))
  |f j=>cases N;exact ne_bool (zp I q (congrArg not dz))
  |e j=>obtain⟨t',rfl⟩:=N;exact PySem.EqMixed.ne_bool_str (zp I q (by simp))
  |_=>exact absurd (show false=true from hs) Ak
 |d i=>
  obtain⟨t,rfl⟩:=O;cases y with
  |g=>cases N;exact PySem.EqNone.ne_int_none (zp I q (by simp))
  |d j=>obtain⟨t',rfl⟩:=N;exact ne_int (zp I q (congrArg not ip))
  |e j=>obtain⟨t',rfl⟩:=N;exact PySem.EqMixed.ne_int_str (zp I q (by simp))
  |_=>exact absurd (show false=true from hs) Ak
 |e i=>
  obtain⟨t,rfl⟩:=O;cases y with
  |g=>cases N;exact PySem.EqNone.ne_str_none (zp I q (by simp))
  |f j=>cases N;exact PySem.EqMixed.ne_str_bool (zp I q (by simp))
  |d j=>obtain⟨t',rfl⟩:=N;exact PySem.EqMixed.ne_str_int (zp I q (by simp))
  |e j=>obtain⟨t',rfl⟩:=N;exact ne_str (zp I q (congrArg not iq))
  |_=>exact absurd (show false=true from hs) Ak
 |h i=>
  obtain⟨t,rfl⟩:=O;cases y with
  |h j=>obtain⟨t',rfl⟩:=N;exact PySem.W.ne_bytes (zp I q (congrArg not il))
  |_=>exact absurd (show false=true from hs) Ak
 |_=>cases y<;>exact absurd (show false=true from hs) Ak
def RH:OpR X (BC .Lt) (rI0 λi j=>.f (decide (i<j))):=Yu λ_ _ _ _ _ _ _ q=>lt_int q
def RG:OpR X (BC .LtE) (rI0 λi j=>.f (decide (i<=j))):=Yu λ_ _ _ _ _ _ _ q=>le_int q
def RE:OpR X (BC .Gt) (rI0 λi j=>.f (decide (j<i))):=Yu λ_ _ _ _ _ _ _ q=>gt_int q
def RC:OpR X (BC .GtE) (rI0 λi j=>.f (decide (j<=i))):=Yu λ_ _ _ _ _ _ _ q=>ge_int q
def mX(P:OpR X (BC op) r)(U:PE X a ta)(S:PE X b tb)(R:DB op b=false):PE X (.Compare a [op] [b] pos) (tOp r ta tb):=by intro pins s σ H Q I h;exact wpAny_Compare1 (Ww U S I h λv u s2 x y H2 W O N q=>P pins s2 σ H2 x y v u Q W O N q) R
def gN(t:TE):TT:=λσ H Q=>t σ H λx H'=>∃k,x=.f k/\Q k H'
def qS(N:OpR X (BC op) r)(R:PE X a ta)(P:PE X b tb)(O:DB op b=false):PT X (.Compare a [op] [b] pos) (gN (tOp r ta tb)):=by
 intro pins s σ H Q I h;refine wpAny_isTrue_Compare1 (thn (R pins s σ H _ I h) λv s1 ⟨x,H1,I1,r1,q1⟩=>thn (P pins s1 σ H1 _ I1 q1) λu s2 ⟨y,H2,I2,r2,q2⟩=>
  thn (N pins s2 σ H2 x y v u _ I2 r1 r2 q2) λc S ⟨z,H3,I3,r3,k,e,q3⟩=>?_) O
 subst e;cases r3;exact BJ ⟨H3,I3,q3⟩
def ZZ(r P:R2)(ta tb tc:TE):TE:=λσ H Q=>ta σ H λx H1=>tb σ H1 λy H2=>r x y H2 λz N=>∃k,z=.f k /\
 (if k=true then tc σ N λO R=>P y O R Q else Q (.f false) N)
def aV(S:OpR X (BC op) r)(N:OpR X (BC op') r')(Z:PE X a ta)(Y:PE X b tb)(W:PE X c tc)
 (U:GQ [op,op'] [b,c]=false:=by with_unfolding_all rfl):PE X (.Compare a [op,op'] [b,c] pos) (ZZ r r' ta tb tc):=by
 intro pins s σ H Q I h;refine Compare_chain (thn (Z pins s σ H _ I h) λv s1 ⟨x,H1,I1,r1,q1⟩=>chain_link (thn (Y pins s1 σ H1 _ I1 q1) λu s2 ⟨y,H2,I2,r2,q2⟩=>
  thn (S pins s2 σ H2 x y v u _ I2 r1 r2 q2) λd R ⟨z,H3,I3,r3,k,e,q3⟩=>?_)) U
 subst e;cases r3;refine BJ ?_;cases k with
 |false=>exact ite_ff ⟨.f false,H3,I3,rfl,q3⟩
 |true=>exact ite_tt (chain_last (thn (W pins R σ H3 _ I3 q3) λO P ⟨z',H4,I4,r4,q4⟩=>N pins P σ H4 y z' u O Q I4 r2 r4 q4))
def az(Z:OpR X (BC op) r)(N:OpR X (BC op') r')(ha:PE X a ta)(hb:PE X b tb)(hc:PE X c tc)
 (hm:GQ [op,op'] [b,c]=false:=by with_unfolding_all rfl):PT X (.Compare a [op,op'] [b,c] pos) (gN (ZZ r r' ta tb tc)):=by
 intro pins s σ H Q I h;refine isTrue_chain (thn (ha pins s σ H _ I h) λv s1 ⟨x,H1,I1,r1,q1⟩=>test_link (thn (hb pins s1 σ H1 _ I1 q1) λu s2 ⟨y,H2,I2,r2,q2⟩=>
  thn (Z pins s2 σ H2 x y v u _ I2 r1 r2 q2) λd S ⟨z,H3,I3,r3,k,e,q3⟩=>?_)) hm
 subst e;cases r3;refine BJ ?_;cases k with
 |false=>
  obtain⟨k',e',Y⟩:=q3;cases e';exact ite_ff ⟨H3,I3,Y⟩
 |true=>
  refine ite_tt (test_last (thn (hc pins S σ H3 _ I3 q3) λP R ⟨z',H4,I4,r4,q4⟩=>thn (N pins R σ H4 y z' u P _ I4 r2 r4 q4) λd' s5 O=>?_));obtain⟨z2,H5,I5,U,k2,e2,W⟩:=O;subst e2;cases U;exact BJ ⟨H5,I5,W⟩
def Zy(K:Ae)(x:V)(H:Hp)(k:Bool):Prop:=
 match x with
 |.g=>k=false
 |.f b=>k=b
 |.d i=>k=(i != 0)
 |.e y=>y.length<=Ar/\k=((y.length:Int) != 0)
 |.h y=>y.size<=Ar/\k=((y.size:Int) != 0)
 |.c p=>(∃N,SqL K H p N/\k=!N.isEmpty)\/(∃N,SqT K H p N/\k=!N.isEmpty)\/∃O,H p=some (.i O)/\k=!O.isEmpty
 |_=>False
def k7(r:KV kvs vs):(!vs.isEmpty)=!kvs.isEmpty:=by
 cases r<;>rfl
def qx(r:Vals xs its):(!its.toArray.isEmpty)=!xs.isEmpty:=by
 cases r<;>simp
def tE:(Ar:Nat)<2 ^ 63:=by rw[AI];decide
def Zi:QN X (λx H Q=>∃k,Zy X.K x H k/\Q k H):=by
 intro pins s σ H x v Q I U h;obtain⟨k,e,q⟩:=h;have hl:=tE;have hs:Ar=16777216:=AI;cases x with
 |g=>
  cases U;have N:k=false:=e;subst N;exact truthy_none ⟨H,I,q⟩
 |f b=>
  cases U;have N:k=b:=e;subst N;exact BJ ⟨H,I,q⟩
 |d i=>
  obtain⟨t,rfl⟩:=U;have N:k=(i != 0):=e;subst N;exact PySem.P.truthy_int ⟨H,I,q⟩
 |e y=>
  obtain⟨t,rfl⟩:=U;obtain⟨Z,N⟩:y.length<=Ar/\k=((y.length:Int) != 0):=e;subst N;exact PySem.P.truthy_str ⋯ ⟨H,I.tok _,q⟩
 |h y=>
  obtain⟨t,rfl⟩:=U;obtain⟨Z,N⟩:y.size<=Ar/\k=((y.size:Int) != 0):=e;subst N;exact PySem.W.truthy_bytes ⋯ ⟨H,I.tok _,q⟩
 |c p=>
  cases U;have N:(∃S,SqL X.K H p S/\k=!S.isEmpty)\/(∃S,SqT X.K H p S/\k=!S.isEmpty)\/∃O,H p=some (.i O)/\k=!O.isEmpty:=e;rcases N with⟨S,hx,N⟩|⟨S,hx,N⟩|⟨O,hx,N⟩
  . subst N
    obtain⟨its,r,Y,hz⟩:=I.list hx;have R:=r.length;exact wpAny_truthy_list Y.isList (by simp only[Ai];omega) ⟨H,I.tok _,by rw[qx r];exact q⟩
  . subst N
    obtain⟨its,r,Y,hz⟩:=I.tuple hx;have R:=r.length;exact truthy_tuple Y (by simp only[Ai];omega) ⟨H,I.tok _,by rw[qx r];exact q⟩
  . subst N
    obtain⟨hz,hS,vs,r,m⟩:O.length<=Ar/\(p == B9)=false/\∃vs,KV O vs/\s.heap.DictOf (mL X.f X.w) p vs:=I.B p _ hx;have R:O.length=vs.length:=GJ r;exact wpAny_truthy_dict hS m ⋯ ⟨H,I.tok _,by rw[k7 r];exact q⟩
 |_=>exact(show False from e).elim
def kE(P:PE X a ta)(O:∀N,isTrue a X.a N=(do let v <-N;standAt a.pos;holding [v] (truthy v))) :
 PT X a (λσ H Q=>ta σ H λx H'=>∃k,Zy X.K x H' k/\Q k H'):=by
 intro pins s σ H Q I h;exact isTrue_plain (thn (P pins s σ H _ I h) λv s1 ⟨x,H1,I1,r1,q1⟩=>Zi pins s1 σ H1 x v Q I1 r1 q1) (O _)
def pN:OpR X (BG .Add) (λx y H Q=>∃i j,x=.e i/\y=.e j/\i.length+j.length<=Ar/\Q (.e (i++j)) H):=by intro pins s σ H x y v u Q I O N h;obtain⟨i,j,rfl,rfl,hz,q⟩:=h;obtain⟨t,rfl⟩:=O;obtain⟨t',rfl⟩:=N;exact add_str (λt' tk=>⟨.e (i++j),H,I.tok _,⟨_,rfl⟩,q⟩) hz
def vals1(r:Vals [x] us):∃u,us=[u]/\RelV x u:=by
 cases r with
 |cons r1 N=>cases N;exact⟨_,rfl,r1⟩
def vals2(r:Vals [x,y] us):∃u N,us=[u,N]/\RelV x u/\RelV y N:=by
 cases r with
 |cons r1 Q=>
  cases Q with
  |cons P O=>cases O;exact⟨_,_,rfl,r1,P⟩
def gb(N:X.j=true):yI X (.builtin "max") (λx H Q=>∃i j,x=[.d i,.d j]/\Q (.d (if j > i then j else i)) H):=by
 intro pins s σ H x us Q I r h;obtain⟨i,j,rfl,q⟩:=h;obtain⟨u,O,rfl,⟨t,rfl⟩,⟨t',rfl⟩⟩:=vals2 r;refine max_two_ints (I.C.k N) λh' tk k=>⟨_,H,I.kept k,?_,q⟩;by_cases hj:j > i
 . rw[if_pos hj,if_pos hj];exact⟨_,rfl⟩
 . rw[if_neg hj,if_neg hj];exact⟨_,rfl⟩
def gh(N:X.j=true):yI X (.builtin "min") (λx H Q=>∃i j,x=[.d i,.d j]/\Q (.d (if j<i then j else i)) H):=by
 intro pins s σ H x us Q I r h;obtain⟨i,j,rfl,q⟩:=h;obtain⟨u,O,rfl,⟨t,rfl⟩,⟨t',rfl⟩⟩:=vals2 r;refine min_two_ints (I.C.k N) λh' tk k=>⟨_,H,I.kept k,?_,q⟩;by_cases hj:j<i
 . rw[if_pos hj,if_pos hj];exact⟨_,rfl⟩
 . rw[if_neg hj,if_neg hj];exact⟨_,rfl⟩
def oX:yI X (.type "int") (λx H Q=>(∃i,x=[.d i]/\Q (.d i) H)\/∃k,x=[.f k]/\Q (.d (if k then 1 else 0)) H):=by
 intro pins s σ H x us Q I r h;rcases h with⟨i,rfl,q⟩|⟨k,rfl,q⟩
 . obtain⟨u,rfl,t,rfl⟩:=vals1 r
   exact call_int_int ⟨.d i,H,I,⟨_,rfl⟩,q⟩
 . obtain⟨u,rfl,r1⟩:=vals1 r
   cases r1;exact call_int_bool ⟨.d (if k then 1 else 0),H,I.tok _,⟨_,rfl⟩,q⟩
def vv:yI X (.builtin "divmod") (λx H Q=>∃i j,x=[.d i,.d j]/\Ti i j/\∀p,H p=none->Q (.c p) (upd H p (.c [.d (i/j),.d (i%j)]))):=by
 intro pins s σ H x us Q I r h;obtain⟨i,j,rfl,⟨h1,P⟩,q⟩:=h;obtain⟨u,O,rfl,⟨t,rfl⟩,⟨t',rfl⟩⟩:=vals2 r;refine divmod_int ⋯ ?_ (.inl (PyProof.noPylong_small ⋯))
 rw[Fh i ⋯,Fi i ⋯]
 have N:H s.heap.objs.size=none:=I.B.fresh (Ad _);refine⟨.c s.heap.objs.size,_,?_,rfl,q _ N⟩;refine I.laid (λb o e=>Aa _ e) (Ad _) ⟨by simp only[AH,BV];rw[AI];decide,[.int (i/j) s.toks,.int (i%j) (s.toks+1)],.cons ⟨_,rfl⟩ (.cons ⟨_,rfl⟩ .nil),?_⟩
 exact⟨_,AF s.heap rfl,rfl,0,rfl,rfl⟩
end
structure Wq(h:Heap)(x dx C:Addr)(mA:Str->Option Value):Prop where
 a:h.get? x=some (Gf C dx)
 ns:h.Ns1 dx mA
 ne:dx≠x
def fN{h:Heap}(n:h.Ns1 dx mA):∃od,h.get? dx=some od/\∀name,Gp name od=some (mA name):=by
 obtain⟨o,es,R,O,hd,hk,_,P⟩:=n;refine⟨o,O,λname=>?_⟩;have e:=P name;unfold nsFind findBy at e;rw[<-Array.find?_toList]at e;unfold Gp;rw[hd];dsimp only;split
 . rename_i y q
   rw[q]at e;exact congrArg some e
 . rename_i q
   rw[q]at e;have a:es.toList.any (·.refKey)=false:=by rw[List.any_eq_false];intro y N;obtain⟨z,t,x⟩:=hk y (Array.mem_toList_iff.mp N);simp[Ga.refKey,x]
   have Q:¬es.toList.any (·.refKey)=true:=by rw[a];exact Ak
   rw[if_neg Q];exact congrArg some e
def Wq.look(I:Wq h x dx C mA):∃od,PySem.W.InstAt h x (Gf C dx) C (some od)/\∀name,Gp name od=some (mA name):=
 let ⟨od,N,O⟩:=fN I.ns
 ⟨od,⟨I.a,rfl,rfl,N⟩,O⟩
noncomputable def rL(f:Str)(v:V):List (Str × V)->List (Str × V)
 |[]=>[(f,v)]
 |(g,x)::r=>if g=f then (g,v)::r else (g,x)::rL f v r
theorem rY f g v:∀fs:List (Str × V),(rL f v fs).lookup g=if g=f then some v else fs.lookup g
 |[]=>by
  show Cy g [(f,v)]=_;by_cases h:g=f
  . have N:(g == f)=true:=beq_iff_eq.mpr h
    simp only[Cy,N,if_pos h]
  . have N:(g == f)=false:=beq_eq_false_iff_ne.mpr h
    simp only[Cy,N,if_neg h]
 |(k,x)::r=>by
  have O:=rY f g v r;rw[show rL f v ((k,x)::r)=(if k=f then (k,v)::r else (k,x)::rL f v r) from rfl]
  by_cases hk:k=f
  . rw[if_pos hk]
    by_cases h:g=k
    . have N:(g == k)=true:=beq_iff_eq.mpr h
      simp only[Cy,N,if_pos (h.trans hk)]
    . have N:(g == k)=false:=beq_eq_false_iff_ne.mpr h
      simp only[Cy,N,if_neg (λe:g=f=>h (e.trans hk.symm))]
  . rw[if_neg hk]
    by_cases h:g=k
    . have N:(g == k)=true:=beq_iff_eq.mpr h
      simp only[Cy,N,if_neg (λe:g=f=>hk (h.symm.trans e))]
    . have N:(g == k)=false:=beq_eq_false_iff_ne.mpr h
      simp only[Cy,N];exact O
theorem rD f v:∀fs:List (Str × V),f∈(rL f v fs).map (·.1)/\∀g,g∈fs.map (·.1)->g∈(rL f v fs).map (·.1)
 |[]=>⟨by simp[rL],λg h=>by simp at h⟩
 |(k,x)::r=>by
  obtain⟨O,N⟩:=rD f v r;rw[show rL f v ((k,x)::r)=(if k=f then (k,v)::r else (k,x)::rL f v r) from rfl]
  by_cases hk:k=f
  . rw[if_pos hk]
    subst hk;exact⟨by simp,λg h=>by simpa using h⟩
  . rw[if_neg hk]
    refine⟨?_,λg h=>?_⟩
    . rw[AW]
      exact Ah _ O
    . rw[AW]at h ⊢
      rcases Ap.mp h with e|e
      . exact Ap.mpr (.inl e)
      . exact Ah _ (N g e)
def YO(x:HOk P w H h)(e:H a=some (.k C dx fs)):∃mA,Wq h a dx C mA/\(∀f,lH (fs.lookup f) (mA f))/\EC mA (fs.map (·.1))/\fs.length<=1000/\H dx=some (.e a):=by obtain⟨d,z,ne,ob,mA,n,r,q⟩:=(show z0 P w H h a (.k C dx fs) from x a _ e);exact⟨mA,⟨ob,n,ne⟩,r,q,z,d⟩
structure Cls(K:Ae)(C:Addr):Prop where
 pg:PySem.W.plainGet K C CT=true
 hd:PySem.W.hasDictIn K C=true
 po:PySem.W.plainOver K C=true
 sa:Dm K (.ref C) "__setattr__"=some (some (.builtin "object.__setattr__"))
def Cls.get{K}(c:Cls K C)f:PySem.W.plainGet K C f=true:=c.pg
def Z2(N:Ca e f env (eval e env)=eval e env)
 (h:wpAny (model prog w) A (eval e env) (λo x=>wpAny (model prog w) A (getAttr o f true) Q E x) E s):wpAny (model prog w) A (eval (.Attribute e f pos) env) Q E s:=
 Attribute_any_ h (by rw[arm_eval_Attribute,N])
section
variable {X:Cx}{pins:List (Addr × Obj)}{σ:St}{H:Hp}{s:Shared}{A:Around}{E:Value->Shared->Prop}{Q:Value->Shared->Prop}{c:Value}{b:Bool}
inductive tW(K:Ae)(H:Hp):V->Value->Prop where
 |d:tW K H .g (.type "NoneType")
 |bl (x:Bool):tW K H (.f x) (.type "bool")
 |c (i:Int):tW K H (.d i) (.type "int")
 |f (x:Str):tW K H (.e x) (.type "str")
 |h (x:UInt64):tW K H (.j x) (.type "float")
 |b {a:Addr} {xs:List V} (e:H a=some (.b xs)):tW K H (.c a) (.type "list")
 |j {a:Addr} {o:Obj} {xs:List V} (e:H a=some (.d o (.b xs))):tW K H (.c a) (.type "list")
 |g {a:Addr} {xs:List V} (e:H a=some (.c xs)):tW K H (.c a) (.type "tuple")
 |dK {a:Addr} {kvs:List (Key × V)} (e:H a=some (.i kvs)):tW K H (.c a) (.type "dict")
 |dT {a:Addr} {kvs:List (List Key × V)} (e:H a=some (.l kvs)):tW K H (.c a) (.type "dict")
 |k {a C dx:Addr} {fs:List (Str × V)} (e:H a=some (.k C dx fs)) (cl:Cls K C) (ha:Dm K (.ref C) "__class__"=some (some (.builtin "object.__class__")))
  (hn:PySem.W.specialIn K (.builtin "object.__class__") "__get__"=some (some (.builtin "getset_descriptor.__get__"))) (htk:PySem.W.takesIn K (.builtin "object.__class__")=some true)
  (hm:PySem.W.mroIn K C (.type "object")=some true):tW K H (.c a) (.ref C)
def fA(I:Inv X pins σ H s)(N:RelV x u)(Z:tW X.K H x t)(e:Gq X.K t c=some b)(h:∀tk,Q (.bool b) {s with toks:=tk}) :
 wpAny (model X.f X.w) A (call (.builtin "isinstance") [u,c]) Q E s:=by
 cases Z with
 |d=>cases (show u=Bg from N);exact BO PySem.W.kitx_none I.kIn AX e (λz=>nomatch z) h
 |bl y=>cases (show u=Dc y from N);exact BO PySem.W.kitx_bool I.kIn AX e (λz=>nomatch z) h
 |c i=>obtain⟨t,q⟩:=(show ∃t,u=Gd i t from N);cases q;exact BO PySem.W.kitx_int I.kIn AX e (λz=>nomatch z) h
 |f y=>obtain⟨t,q⟩:=(show ∃t,u=Ge y t from N);cases q;exact BO PySem.W.kitx_str I.kIn AX e (λz=>nomatch z) h
 |h y=>obtain⟨t,q⟩:=(show ∃t,u=Value.float y t from N);cases q;exact BO PySem.W.kitx_float I.kIn AX e (λz=>nomatch z) h
 |@b a S P=>
  cases (show u=AO a from N);obtain⟨_,_,n,_,h1⟩:=(show z0 X.f X.w H s.heap a (.b S) from I.B a _ P);exact BO PySem.W.kitx_list I.kIn ⟨_,h1,rfl⟩ e (λz=>nomatch z) h
 |@j a ob S P=>
  cases (show u=AO a from N);obtain⟨_,_,_,n,_,h1⟩:=(show z0 X.f X.w H s.heap a (.d ob (.b S)) from I.B a _ P);exact BO PySem.W.kitx_list I.kIn ⟨_,h1,rfl⟩ e (λz=>nomatch z) h
 |@g a S P=>
  cases (show u=AO a from N);obtain⟨_,_,_,p⟩:=(show z0 X.f X.w H s.heap a (.c S) from I.B a _ P);obtain⟨o,h1,U,_⟩:=p;exact BO PySem.W.kitx_tuple I.kIn ⟨o,h1,U⟩ e (λz=>nomatch z) h
 |@dK a R P=>
  cases (show u=AO a from N);obtain⟨_,_,vs,_,p⟩:=(show z0 X.f X.w H s.heap a (.i R) from I.B a _ P);obtain⟨o,es,ep,h1,U,_⟩:=p;exact BO PySem.W.kitx_dict I.kIn ⟨o,h1,U.1⟩ e (λz=>nomatch z) h
 |@dT a R P=>
  cases (show u=AO a from N);obtain⟨_,_,S,_,o,es,ep,h1,U,_⟩:=(show z0 X.f X.w H s.heap a (.l R) from I.B a _ P);exact BO PySem.W.kitx_dict I.kIn ⟨o,h1,U.1⟩ e (λz=>nomatch z) h
 |@k a C dx fs P cl ha hn Y hm=>
  cases (show u=AO a from N);obtain⟨mA,O,_⟩:=YO I.B P;obtain⟨od,J,_⟩:=O.look;exact BO (PySem.W.kitx_own (cl.get _) cl.hd ha hn Y hm) I.kIn J e (λz=>nomatch z) h
end
structure xH(k:Nat)(A:Around):Prop where
 a:A.handled=none
 c:A.depth+3*k+5<Cu
 b:A.units+16*k+200<cLine
 d:A.guards=some []
theorem xH.deeper(r:xH (k+1) A)env:xH k (A.deeper env):=
 ⟨r.a,by have:=r.c;show A.depth+1+3*k+5<_;omega,by have:=r.b;show A.units+3+16*k+200<_;omega,r.d⟩
def jJ{A:Around}:(A.under (.builtin "type.__call__" ⟨.ref C::us,kw⟩)).depth=A.depth+1:=by first|rfl|simp[Around.under,Code.weight,Code.isCreation,Code.isGuard,Code.isCaller,Code.frames,Code.isFrame,guardIds]
theorem xH.depth(r:xH k A):A.depth<Cu:=by have:=r.c;omega
def tM:TA:=λ_ H Q=>Q [] H
def xW(ta:TE)(O:TA):TA:=λσ H Q=>ta σ H λx H1=>O σ H1 λN H2=>Q (x::N) H2
section
variable {X:Cx}{e:Expr}{es:List Expr}{te:TE}{t:TA}{pos:Pos}
def yn:PA X [] tM:=λ_ _ _ _ H Q I h=>Calls.spliced_nil ⟨[],H,I,.nil,h⟩
def yQ(P:PE X e te)(O:PA X es t)(hs:AG (e::es) X.a=(false,eval e X.a)::AG es X.a:=by rfl):PA X (e::es) (xW te t):=by intro pos pins s σ H Q I h;rw[hs];show wpAny _ _ (spliced ((false,eval e X.a)::backTo pos (AG es X.a))) _ _ s;refine Calls.spliced_cons (thn (P pins s σ H _ I h) λu s1 N=>?_);obtain⟨x,H1,R,r1,q1⟩:=N;exact thn (O pos pins s1 σ H1 _ R q1) λus s2 ⟨xs,H2,I2,r2,q2⟩=>⟨x::xs,H2,I2,.cons r1 r2,q2⟩
def QD(t:TA):TE:=λσ H Q=>t σ H λx H1=>x.length<=Ar/\∀p,H1 p=none->Q (.c p) (upd H1 p (.c x))
def j7(t:TA):TE:=λσ H Q=>t σ H λx H1=>x.length<=Ar/\∀p,H1 p=none->Q (.c p) (upd H1 p (.b x))
def aj{x1}(h:PA X es t):PE X (.Tuple es x1 pos) (QD t):=by
 intro pins s σ H Q I x;refine wpAny_Tuple_spliced (thn (h pos pins s σ H _ I x) λus s1 ⟨xs,H1,I1,r,z,q⟩=>⟨by rw[<-r.length];exact z,?_⟩)
 have hf:H1 s1.heap.objs.size=none:=I1.B.fresh (Ad _);refine⟨.c s1.heap.objs.size,upd H1 s1.heap.objs.size (.c xs),I1.laid (t':=s1.toks) (λb u e=>Aa _ e) (Ad _) ?_,rfl,q _ hf⟩;exact⟨z,us,r,⟨_,AF _ rfl,rfl,_,rfl,rfl⟩⟩
def rH(h:PA X es t):PE X (.List es pos) (j7 t):=by
 intro pins s σ H Q I x;refine wpAny_List_spliced (thn (h pos pins s σ H _ I x) λus s1 ⟨xs,H1,I1,r,z,q⟩=>⟨by rw[<-r.length];exact z,?_⟩)
 have hf:H1 s1.heap.objs.size=none:=I1.B.fresh (Ad _);refine⟨.c s1.heap.objs.size,upd H1 s1.heap.objs.size (.b xs),I1.laid (t':=s1.toks) (λb u e=>Aa _ e) (Ad _) ?_,rfl,q _ hf⟩;exact⟨z,us,0,r,AF _ rfl⟩
end
abbrev Sp:=List V->Hp->VK->XK->Prop
abbrev CXT:=List Env->Hp->Shared->XK->Value->Shared->Prop
structure qU(P:Program)(w:World)(K:Ae)(mg:Str->Option Value)(base:Heap)(A:Around)(outer:List Env)(s:Shared)(H:Hp):Prop where
 a:A.frames=some outer
 c:Mod K mg base
 f:∀b o,base.get? b=some o->s.heap.get? b=some o/\H b=none
 h:base.objs.size<=s.heap.objs.size
 j:s.heap.FunFrames base outer
 i:∀b∈frs outer,H b=none
 d:HOk P w H s.heap
 g:AllBare s.gens
def CE(outer:List Env)(P:Program)(w:World)(H:Hp)(s:Shared)(Q:VK)(u:Value)(s':Shared):Prop:=
 ∃v H',s'.os=s.os/\AllBare s'.gens/\Un (frs outer) [] H H' s.heap s'.heap/\HOk P w H' s'.heap/\RelV v u/\Q v H'
def CR(CX:CXT)(outer:List Env)(P:Program)(w:World)(H:Hp)(s:Shared)(Q:VK)(E:XK)(r:Result)(s':Shared):Prop:=
 match r with
 |.ok (.ret u)=>CE outer P w H s Q u s'
 |.ok _=>False
 |.error e=>CX outer H s E e s'
structure tR(P:Program)(w:World)(K:Ae)(mg:Str->Option Value)(base:Heap)(CX:CXT)(k:Nat)(f:Addr)(fd:BD)(ps:List Str)(sp:Sp):Prop where
 b:∀vs H Q E,sp vs H Q E->vs.length=ps.length
 a:∀(A:Around) (outer:List Env) (s:Shared) (H:Hp) (args:Args) (us:List Value) (vs:List V) (Q:VK) (E:XK),xH k A->qU P w K mg base A outer s H->BindsTo s fd args (ps.zip us)->Vals vs us->sp vs H Q E ->
  codeAny (model P w) A (.call (.ref f) args) (CR CX outer P w H s Q E) s
def tR.imp{K}(F:tR P w K mg base CX k f fd ps sp)
 (h:∀vs H Q E,sp' vs H Q E->sp vs H Q E):tR P w K mg base CX k f fd ps sp':=
 ⟨λvs H Q E q=>F.b vs H Q E (h _ _ _ _ q),λA outer s H args us vs Q E N O R x hs=>F.a A outer s H args us vs Q E N O R x (h _ _ _ _ hs)⟩
def qU.make{K}(e:qU P w K mg base A outer s H)C us kw :
 qU P w K mg base (A.under (.builtin "type.__call__" ⟨.ref C::us,kw⟩)) outer s H:=⟨by first|exact e.a|(simpa [Around.under,Code.envs,Code.isFrame,pushEnvs] using e.frames),e.c,e.f,e.h,e.j,e.i,e.d,e.g⟩
def Inv.vm(I:Inv X pins σ H s):qU X.f X.w X.K X.d X.h X.A X.g s H:=
 ⟨I.C.g,I.C.i,I.bs,As I.C.q I.sz,I.stack,I.mx,I.B,I.F⟩
def Inv.after(I:Inv X pins σ H s)(h:CE X.g X.f X.w H s Q u s'):EP X pins σ Q u s':=by obtain⟨v,H',os,bare,un,N,r,q⟩:=h;obtain⟨O,g,d,t,x⟩:=s';obtain rfl:x=s.os:=os;exact⟨v,H',I.call (h':=O) (g':=g) (d':=d) (t':=t) (ch:=[]) un N bare (λb z=>absurd z (by simp)),r,q⟩
def gL(sp:Sp)(x:List V)(E:XK)(t:TA):TE:=λσ H Q=>t σ H λvs H1=>sp (vs++x) H1 Q E
def Binds(K:Ae)(fd:BD)(ps:List Str)(ds:List Value):Prop:=
 ∀(s:Shared) (us:List Value),K.In s.heap->(us++ds).length=ps.length->BindsTo s fd ⟨us,[]⟩ (ps.zip (us++ds))
def Binds.all{K}(h:∀us:List Value,us.length=ps.length->GA fd ⟨us,[]⟩=pure (ps.zip us)):Binds K fd ps []:=λs us _ x=>by rw[A9]at x ⊢;exact .of_eq (h us x)
def Passes(CX:CXT)(X:Cx)(E:XK):Prop:=∀(pins:List (Addr × Obj)) (σ:St) (H:Hp) (s:Shared) (e:Value) (s':Shared),Inv X pins σ H s->CX X.g H s E e s'->X.i e s'
def jq(F:tR X.f X.w X.K X.d X.h CX k f fd ps sp)(O:xH k X.A)(R:Binds X.K fd ps ds)(hd:Vals dvs ds)(hx:Passes CX X E)
 (I:Inv X pins σ H s) (r:Vals vs us) (h:sp (vs++dvs) H Q E):wpAny (model X.f X.w) X.A (call (.ref f) us) (EP X pins σ Q) X.i s:=by
 have N:Vals (vs++dvs) (us++ds):=r.append hd;have P:(us++ds).length=ps.length:=by rw[<-N.length];exact F.b _ _ _ _ h
 refine Df (CY (F.a X.A X.g s H ⟨us,[]⟩ (us++ds) (vs++dvs) Q E O I.vm (R s us I.kIn P) N h) λr s' x=>?_);cases r with
 |error e=>exact hx pins σ H s e s' I x
 |ok fl=>
  cases fl with
  |ret u=>exact I.after x
  |next=>exact Az x
  |brk=>exact Az x
  |cont=>exact Az x
def mW(F:tR X.f X.w X.K X.d X.h CX k f fd ps sp)(P:xH k X.A)(S:Gl X x)(R:X.d x=some (.ref f))(hk:B2 X.K (.ref f)=true)(W:Binds X.K fd ps ds)(hd:Vals dvs ds)(hx:Passes CX X E)
 (Y:PA X (e::es) t) (O:(x == ("__debug__":Str))=false:=by decide) (U:AG (e::es) X.a=(false,eval e X.a)::AG es X.a:=by rfl) (N:(backTo pos (AG es X.a)).any (·.1)=false:=by rfl) :
 PE X (.Call (.Name x p) (e::es) [] pos) (gL sp dvs E t):=by
 intro pins s σ H Q I h;refine BR (xO I S R ?_ O);refine Dg (h₀:=X.h) I.C.i.a hk (thn (Y pos pins s σ H _ I h) λus s1 ⟨vs,H1,I1,r,q⟩=>⟨I1.kIn,?_⟩) U N;exact jq F P W hd hx I1 r q
def l7(F:tR X.f X.w X.K X.d X.h CX k f fd ps sp)(O:xH k X.A)(R:Gl X x)(P:X.d x=some (.ref f))(hk:B2 X.K (.ref f)=true)(S:Binds X.K fd ps ds)(hd:Vals dvs ds)(hx:Passes CX X E)
 (N:(x == ("__debug__":Str))=false:=by decide):PE X (.Call (.Name x p) [] [] pos) (gL sp dvs E tM):=by
 intro pins s σ H Q I h;refine BR (xO I R P ?_ N);exact PySem.W.callWith_K0 I.kIn hk (jq (us:=[]) F O S hd hx I .nil h)
structure xt(N P:List Str)(sc:Scope):Prop where
 a:sc.kind=.function
 co:sc.isCoroutine=false
 f:sc.isGenerator=false
 b:N.Nodup
 c:N.take P.length=P
 e:∀x∈P,sc.names.lookup x=some .local\/sc.names.lookup x=some .cell
 d:∀y∈sc.names,y.2≠.free
theorem oW{kindOf}:∀{binds} {m},(∀v,(x,v) ∉ binds)->bindL kindOf binds m x=m x
 |[],_,_=>rfl
 |(n,v)::r,m,h=>by
  unfold bindL;rw[oW λw hw=>h w (Ah _ hw)];split
  . have:x≠n:=by rintro rfl;exact h v Ax
    simp[this]
  . rfl
theorem oU{kindOf}:∀{binds} {m},(∀v,(x,v) ∉ binds)->bindC kindOf binds m x=m x
 |[],_,_=>rfl
 |(n,v)::r,m,h=>by
  unfold bindC;rw[oU λw hw=>h w (Ah _ hw)];split
  . rfl
  . have:x≠n:=by rintro rfl;exact h v Ax
    simp[this]
theorem oV{kindOf}:∀{P:List Str} {vs} {i:Nat} {m},P.Nodup->P[i]?=some x->vs[i]?=some v->kindOf x=some .local ->
 bindL kindOf (P.zip vs) m x=some v
 |[],_,_,_,_,h,_,_=>by simp at h
 |_::_,[],_,_,_,_,h,_=>by simp at h
 |p::P,w::vs,0,m,nd,h1,h2,hk=>by
  simp at h1 h2;subst h1;subst h2;show bindL kindOf ((p,w)::P.zip vs) m p=_;unfold bindL;rw[oW λv N=>(B6.mp nd).1 (EF N).1,if_pos hk];simp
 |p::P,w::vs,i+1,m,nd,h1,h2,hk=>by show bindL kindOf ((p,w)::P.zip vs) m x=_;unfold bindL;exact oV (i:=i) (B6.mp nd).2 (by simpa using h1) (by simpa using h2) hk
theorem oS{kindOf}:∀{P:List Str} {vs} {i:Nat} {m},P.Nodup->P[i]?=some x->vs[i]?=some v->kindOf x≠some .local ->
 bindC kindOf (P.zip vs) m x=some v
 |[],_,_,_,_,h,_,_=>by simp at h
 |_::_,[],_,_,_,_,h,_=>by simp at h
 |p::P,w::vs,0,m,nd,h1,h2,hk=>by
  simp at h1 h2;subst h1;subst h2;show bindC kindOf ((p,w)::P.zip vs) m p=_;unfold bindC;rw[oU λv N=>(B6.mp nd).1 (EF N).1,if_neg hk];simp
 |p::P,w::vs,i+1,m,nd,h1,h2,hk=>by show bindC kindOf ((p,w)::P.zip vs) m x=_;unfold bindC;exact oS (i:=i) (B6.mp nd).2 (by simpa using h1) (by simpa using h2) hk
noncomputable def start(N:List Str)(vs:List V):St:=vs.map some++An (N.length-vs.length) none
noncomputable def yl(CX:CXT)(P:Program)(w:World)(K:Ae)(mg:Str->Option Value)(base:Heap)(N:List Str)(qual:Str)(scope:Scope)(f:Addr)(cd:Value)(A:Around)(outer:List Env)(s:Shared)(H:Hp)(E:XK):Cx where
 f:=P
 w:=w
 K:=K
 d:=mg
 h:=base
 A:=A.deeper (envOfC qual scope s.heap.objs.size f cd)
 N:=N
 l:=s
 r:=H
 a:=envOfC qual scope s.heap.objs.size f cd
 k:=outer
 g:=envOfC qual scope s.heap.objs.size f cd::outer
 m:=[]
 j:=true
 q:=λ_=>true
 n:=[]
 i:=λe s'=>wpAny (model P w) (A.deeper (envOfC qual scope s.heap.objs.size f cd)) (leaving (envOfC qual scope s.heap.objs.size f cd) e) (λ_ x=>CX outer H s E e x) (λO x=>CX outer H s E O x) s'
def lN{sc:Scope}(h:sc.names.lookup x=some .cell):∃c,(CD n sc.names []).lookup x=some c:=by have q:=Ec sc.names n [] (.inl h);exact Cj.mp q
def ow{K}
 (S:xt N ps scope) (hd:A.handled=none) (e0:qU P w K mg base A outer s H) (hl:vs.length=ps.length) (r:Vals vs us)
 (x:InCallC s s.heap.objs.size (bindL (envOfC qual scope s.heap.objs.size f cd).kindOf (ps.zip us) λ_=>none) (CD (s.heap.objs.size+1) scope.names []) (bindC (envOfC qual scope s.heap.objs.size f cd).kindOf (ps.zip us) λ_=>none) s1) :
 Inv (yl CX P w K mg base N qual scope f cd A outer s H E) [] (start N vs) H s1:=by
 have Y:ps.length<=N.length:=by have:=congrArg Gk S.c;rw[BX]at this;omega
 obtain⟨h1,tk,rfl,hk⟩:=x.done;have Q:∀b:Addr,b ∉ (yl CX P w K mg base N qual scope f cd A outer s H E).m:=λb z=>absurd (show b∈([]:List Addr) from z) (by simp)
 refine⟨⟨e0.c,S.a,rfl,rfl,Ad _,λy z c h1 O=>?_,λy R=>?_,λy c _ h=>?_,λ_=>hd,EG e0.a,.inr ⟨rfl,rfl⟩,λb z=>absurd z (Q b),e0.f,e0.h,λb _ _=>Q b,λb z=>absurd z (Q b),e0.j,e0.i⟩,
  rfl,e0.g,Un.kept hk,⟨_,x.toInCall.ns,λi y v h1 O h3=>?_⟩,λy c h=>⟨_,x.cell y c h⟩,e0.d.fresh (Ad _),λy c h=>?_,λp hp=>absurd (show p∈([]:List (Addr × Obj)) from hp) (by simp),e0.d.kept hk,?_⟩
 . exact name_of_addr x.apart (AV h1) (AV O)
 . have R:scope.names.lookup y=some .cell\/scope.names.lookup y=some .free:=R
   rcases R with R|R
   . exact lN R
   . exact absurd rfl (S.d _ (AV R))
 . exact CW (x.above y c (AV h))
 . have hi:i<vs.length:=by
    unfold start at O;by_cases hi:i<vs.length
    . exact hi
    . rw[Bz (by simpa using hi)]at O
      rw[D4]at O;split at O<;>cases O
   have Z:vs[i]?=some v:=by
    unfold start at O;rw[A2 (by simpa using hi),AE]at O
    cases e:vs[i]? with
    |none=>rw[e]at O;cases O
    |some a=>rw[e]at O;cases O;rfl
   obtain⟨u,hu,W⟩:=r.get Z;have hp:ps[i]?=some y:=by rw[<-S.c,FP ⋯];exact h1
   have U:ps.Nodup:=by rw[<-S.c];exact S.b.sublist (Fx _ _)
   refine⟨u,W,?_⟩;rcases S.e y (A4 hp) with k|k
   . exact .inl ⟨k,oV U hp hu k⟩
   . obtain⟨c,e⟩:=lN (n:=s.heap.objs.size+1) k
     refine .inr ⟨.inl k,c,e,?_⟩;have q:=x.cell y c e;rw[oS U hp hu (by show scope.names.lookup y≠_;rw[k];decide)]at q
     exact q
 . exact e0.d.fresh (CW (x.above y c (AV h)))
 . unfold start
   show _=N.length;rw[Ao,Ac,Dn];omega
def WB{K}{dV kV doc pm cdv ct oc}
    (lk:K.lookup f=some ⟨oc,od,.func (BL name qual params body scope dV kV doc pm an cdv ct),osl⟩) (hcd:B1 K cdv qual=true) (S:xt N ps scope)
 (len:∀vs H Q E,sp vs H Q E->vs.length=ps.length)
 (U:∀A outer s H vs Q E,xH k (A.deeper (envOfC qual scope s.heap.objs.size f cdv))->sp vs H Q E ->
  ∃t,PSs (yl CX P w K mg base N qual scope f cdv A outer s H E) body t/\t {a:=λ_ H'=>Q .g H',b:=Q} (start N vs) H) :
 tR P w K mg base CX (k+1) f (BL name qual params body scope dV kV doc pm an cdv ct) ps sp:=by
 refine⟨len,λA outer s H args us vs Q E hr e0 hb r Y=>?_⟩;have hl:=len _ _ _ _ Y;have KX:K.In s.heap:=e0.c.a.keeps λb o e=>(e0.f b o e).1;have lim:s.heap.NoLimit:=e0.c.b.keeps λb o e=>(e0.f b o e).1;have R:∀y∈ps.zip us,scope.names.lookup y.1=some .local\/(scope.names.lookup y.1=some .cell/\((CD (s.heap.objs.size+1) scope.names []).lookup y.1).isSome=true):=λ⟨n,v⟩ hy=>by
  rcases S.e n (EF hy).1 with q|q
  . exact .inl q
  . exact .inr ⟨q,Ec _ _ _ (.inl q)⟩
 refine codeAny_call_function hr.depth (KX _ _ lk) rfl S.co S.f rfl (PySem.W.codeRec_of KX hcd) (hb _ _ _ _ ?_);refine Fj S.a R λenv he s1 x=>?_;subst he;refine⟨lim.keeps x.toInCall.keep,codeAny_func ?_⟩;obtain⟨t,ht,hq⟩:=U A outer s H vs Q E (hr.deeper _) Y;have I:Inv (yl CX P w K mg base N qual scope f cdv A outer s H E) [] (start N vs) H s1:=ow S hr.a e0 hl r x;refine AN (ht [] s1 (start N vs) H _ I hq) (λfl s' hs=>?_) λe s' hs=>hs;have fin:∀{O:St} {H':Hp} {v:V} {u:Value},Inv (yl CX P w K mg base N qual scope f cdv A outer s H E) [] O H' s'->RelV v u->Q v H'->CE outer P w H s Q u s':=
  λ{O H' v u} J Z q=>⟨v,H',J.S,J.F,J.j,J.B,Z,q⟩
 cases fl with
 |ret u=>
  obtain⟨v,O,H',J,Z,q⟩:=hs;exact fin J Z q
 |next=>
  obtain⟨O,H',J,q⟩:=hs;exact fin (v:=V.g) (u:=Bg) J rfl q
 |brk=>
  obtain⟨_,_,_,q⟩:=hs;exact Az q
 |cont=>
  obtain⟨_,_,_,q⟩:=hs;exact Az q
section
variable {X:Cx}{x:Str}{p pos:Pos}{e:Expr}{es:List Expr}{t:TA}{id T:String}{r:List V->Hp->VK->Prop}
def tCB(r:List V->Hp->VK->Prop)(t:TA):TE:=λσ H Q=>t σ H λvs H1=>r vs H1 Q
def sJ(Y:yI X (.builtin id) r)(U:Gl X x)(S:X.d x=none)(P:Ci x=some (.builtin id))(Z:PA X (e::es) t)(R:x≠"__name__":=by decide)(O:(x == ("__debug__":Str))=false:=by decide)
 (W:AG (e::es) X.a=(false,eval e X.a)::AG es X.a:=by rfl) (N:(backTo pos (AG es X.a)).any (·.1)=false:=by rfl):PE X (.Call (.Name x p) (e::es) [] pos) (tCB r t):=by
 intro pins s σ H Q I h;refine BR (q0 I U S P ?_ R O);exact PyProof.Rows.callWith_builtin1 (thn (Z pos pins s σ H _ I h) λus s1 ⟨vs,H1,I1,r1,q1⟩=>Y pins s1 σ H1 vs us Q I1 r1 q1) W N
def xD(Y:yI X (.type T) r)(U:Gl X x)(S:X.d x=none)(P:Ci x=some (.type T))(Z:PA X (e::es) t)(R:x≠"__name__":=by decide)(O:(x == ("__debug__":Str))=false:=by decide)
 (W:AG (e::es) X.a=(false,eval e X.a)::AG es X.a:=by rfl) (N:(backTo pos (AG es X.a)).any (·.1)=false:=by rfl):PE X (.Call (.Name x p) (e::es) [] pos) (tCB r t):=by
 intro pins s σ H Q I h;refine BR (q0 I U S P ?_ R O);exact E4 (thn (Z pos pins s σ H _ I h) λus s1 ⟨vs,H1,I1,r1,q1⟩=>Y pins s1 σ H1 vs us Q I1 r1 q1) W N
end
end L2
namespace HT
open PySem PyProof.Rows
section
variable {prog:Program}{w:World}{A:Around}{E:Value->Shared->Prop}{s:Shared}
def Z4(ht:IsTup s.heap t vs.toArray)(hb:IsTup s.heap b ws.toArray)(Z:vs≠[])
 (h1:ws=[]->Q (.ref t) s) (h2:ws≠[]->Q (.ref s.heap.objs.size) {s with heap:=s.heap.push {cls:=.type "tuple",data:=.seq (vs++ws).toArray}})
 (U:vs.length+ws.length<=Ar):wpAny (model prog w) A (BG .Add (.ref t) (.ref b)) Q E s:=by
 obtain⟨⟨cls,dd,data,Y⟩,S,hc,n,hd⟩:=id ht;obtain⟨⟨cls2,R,W,N⟩,x,P,n2,O⟩:=id hb;simp only at hc hd P O;subst hc hd P O;have e:vs.toArray++ws.toArray=(vs++ws).toArray:=by simp
 by_cases hw:ws=[]
 . exact concat_meets ⟨_,S,rfl⟩ ⟨_,x,rfl⟩ FQ GK Ed D5 (DN _ _)
    (tuple_addW1 t b vs.toArray ws.toArray n n2 dd R Y N (by simpa using Z) (by simp[hw])) ⟨S,x,h1 hw⟩
 . refine concat_meets ⟨_,S,rfl⟩ ⟨_,x,rfl⟩ FQ GK Ed D5 (DN _ _)
    (tuple_addW2 t b vs.toArray ws.toArray n n2 dd R Y N (by simpa using Z) (by simpa using hw) (by rw[Ai,Ai];exact U)) ⟨S,x,?_⟩
   rw[e];exact h2 hw
noncomputable def sIx(n d:Nat):Option Int->Nat
 |none=>d
 |some v=>if v<0 then (v+(n:Int)).toNat else min v.toNat n
def mj(n d k:Nat):sIx n d (some (k:Int))=min k n:=by
 show (if (k:Int)<0 then ((k:Int)+(n:Int)).toNat else min (k:Int).toNat n)=min k n
 rw[if_neg ⋯,Bv]
def U4 n d(hd:d<=n)o:sIx n d o<=n:=by
 cases o with
 |none=>exact hd
 |some v=>
  show (if v<0 then (v+(n:Int)).toNat else min v.toNat n)<=n
  by_cases hv:v<0
  . rw[if_pos hv];omega
  . rw[if_neg hv];exact Ek _ _
def iW v(n d:Nat):(if v<0 then max (v+(n:Int)) 0 else min v (n:Int))=((sIx n d (some v):Nat):Int):=by
 show (if v<0 then max (v+(n:Int)) 0 else min v (n:Int))=(((if v<0 then (v+(n:Int)).toNat else min v.toNat n):Nat):Int)
 by_cases hv:v<0
 . simp only[if_pos hv];omega
 . simp only[if_neg hv];omega
def ka lo hi(n:Nat):Br lo hi 1 (n:Int)=(((sIx n 0 lo:Nat):Int),((sIx n n hi:Nat):Int)):=by
 have h1:¬((1:Int)<0):=by omega
 unfold Br;simp only[h1,if_false];refine Prod.ext ?_ ?_
 . cases lo with
   |none=>rfl
   |some v=>exact iW v n 0
 . cases hi with
   |none=>rfl
   |some v=>exact iW v n n
def jg(i j:Nat):BH (i:Int) (j:Int) 1=j-i:=by
 unfold BH;have h1:(1:Int) > 0:=by omega
 simp only[h1,if_true,Int.ediv_one];split<;>omega
def wY(p:IsPart v o)(h:Q o s):wpAny (model prog w) A (Builtin.Slice.slicePartIndex v) Q E s:=by
 cases p with
 |none=>exact slicePart_none h
 |int i t=>exact slicePart_int h
def vB{lo hi}{n:Nat}(hs:s.heap.IsSliceOf sl vl vu .none)(R:IsPart vl lo)(P:IsPart vu hi)
 (h:Q (((sIx n 0 lo:Nat):Int),1,sIx n n hi-sIx n 0 lo) s):wpAny (model prog w) A (CI (.ref sl) (pure (n:Int))) Q E s:=by
 obtain⟨os,N,S,O⟩:=id hs;unfold CI FJ;refine xd (xd (B0 N O (x:=vl) rfl (xd (B0 N O (x:=vu) rfl (xd (B0 N O (x:=.none) rfl (Aj ?_)))))));refine xd (slicePart_none ?_);show wpAny _ _ (if ((1:Int) == 0)=true then _ else _) _ _ s
 rw[if_neg (by decide)]
 refine xd (wY R (xd (wY P (xd (Aj ?_)))));show wpAny _ _ (match Br lo hi 1 (n:Int) with|(lo,hi)=>pure (lo,(1:Int),BH lo hi 1)) _ _ s
 rw[ka lo hi n];show wpAny _ _ (pure (((sIx n 0 lo:Nat):Int),(1:Int),BH ((sIx n 0 lo:Nat):Int) ((sIx n n hi:Nat):Int) 1)) _ _ s;rw[jg];exact Aj h
def aq(N:Array Value)(i k:Nat):((Av k).filterMap λ(m:Nat)=>N[((i:Int)+(m:Int)*1).toNat]?).toArray=((N.toList.drop i).take k).toArray:=by
 have e:(λ(m:Nat)=>N[((i:Int)+(m:Int)*1).toNat]?)=λm=>N[i+m]?:=by
  funext m;have:((i:Int)+(m:Int)*1).toNat=i+m:=by omega
  rw[this]
 rw[e];have:=pick_run N i k;rw[Cf]at this;have e2:((λx=>N[x]?)∘λx=>i+x)=λm=>N[i+m]?:=rfl;rw[e2]at this;rw[this]
def sA{lo hi}(N:IsTup s.heap t items)(hs:s.heap.IsSliceOf sl vl vu .none)(W:IsPart vl lo)(U:IsPart vu hi)
 (hw:¬(sIx items.size 0 lo=0/\sIx items.size items.size hi=items.size))
 (h:Q (.ref s.heap.objs.size) {s with heap:=s.heap.push {cls:=.type "tuple",data:=.seq ((items.toList.drop (sIx items.size 0 lo)).take (sIx items.size items.size hi-sIx items.size 0 lo)).toArray}})
 (Y:items.size<=Ar):wpAny (model prog w) A (getItem (.ref t) (.ref sl)) Q E s:=by
 have x:sizeOk (.seq ((items.toList.drop (sIx items.size 0 lo)).take (sIx items.size items.size hi-sIx items.size 0 lo)).toArray):=by show ((items.toList.drop (sIx items.size 0 lo)).take (sIx items.size items.size hi-sIx items.size 0 lo)).toArray.size<=Ar;rw[Ai,BX,Cv,C4];omega
 have hj:sIx items.size items.size hi<=items.size:=U4 _ _ (Ad _) hi;obtain⟨os,O,R,Z⟩:=id hs;have S:s.TypeIs (.ref sl) "slice":=⟨os,O,R⟩;unfold getItem
 try with_reducible refine By ?_
 first|refine xd (Aj ?_)|skip
 refine xd (Fy N.typeIs (by decide) ?_)
 refine xd (D6 (name:=EH "__getitem__") N.typeIs A5
  (El A5 N.typeIs EV ?_ (E5 _ _)))
 show wpAny _ _ (DC (.ref t) >>= _) _ _ s;refine xd (Eh N ?_);refine xd (DO S ?_);rw[if_pos (by decide)]
 refine xd (vB hs W U ?_);have P:¬((((sIx items.size 0 lo:Nat):Int) == 0&&(1:Int) == 1&&(sIx items.size items.size hi-sIx items.size 0 lo) == items.size)=true):=by intro q;rw[cf,cf]at q;have q1:((sIx items.size 0 lo:Nat):Int)=0:=Cg q.1.1;have q2:sIx items.size items.size hi-sIx items.size 0 lo=items.size:=Cg q.2;exact hw ⟨⋯,⋯⟩
 show wpAny _ _ (if (((sIx items.size 0 lo:Nat):Int) == 0&&(1:Int) == 1&&(sIx items.size items.size hi-sIx items.size 0 lo) == items.size)=true then _ else _) _ _ s
 rw[if_neg P,aq]
 first
  |exact xd (m:=Bt _) (Bh (Aj ⟨_,rfl,Aj h⟩) x)
  |exact xd (m:=Bt _) (Bh (xd (Aj (Aj ⟨_,rfl,Aj h⟩))) x)
  |exact xd (xd (m:=Bt _) (Bh (Aj (Aj ⟨_,rfl,Aj h⟩)) x))
  |exact xd (xd (m:=Bt _) (Bh (Aj ⟨_,rfl,Aj h⟩) x))
end
end HT
namespace L2
open PySem PySem.Spec PyProof.Rows
abbrev TO:=St->Hp->(Option Int->Hp->Prop)->Prop
def PO(X:Cx)(e:Option Expr)(t:TO):Prop:=
 ∀(pins:List (Addr × Obj)) (s:Shared) (σ:St) (H:Hp) (Q:Option Int->Hp->Prop),Inv X pins σ H s->t σ H Q ->
  wpAny (model X.f X.w) X.A (evalPart e X.a) (λu s'=>∃o H',Inv X pins σ H' s'/\IsPart u o/\Q o H') X.i s
def Xe:TO:=λ_ H Q=>Q none H
def QB(t:TE):TO:=λσ H Q=>t σ H λx H1=>∃i,x=.d i/\Q (some i) H1
section
variable {X:Cx}{e:Expr}{te:TE}{lo hi:Option Expr}{tl th:TO}{pos p2:Pos}
def XI:PO X none Xe:=by intro pins s σ H Q I h;rw[evalPart_none];exact Aj ⟨none,H,I,.none,h⟩
def XJ(h:PE X e te):PO X (some e) (QB te):=by intro pins s σ H Q I hw;rw[evalPart_some];refine thn (h pins s σ H _ I hw) λu s1 N=>?_;obtain⟨x,H1,O,r1,q1⟩:=N;obtain⟨i,rfl,q⟩:=q1;obtain⟨t,rfl⟩:=r1;exact⟨some i,H1,O,.int i t,q⟩
def SlR(X:Cx)(r:V->Option Int->Option Int->Hp->VK->Prop):Prop:=
 ∀(pins:List (Addr × Obj)) (s:Shared) (σ:St) (H:Hp) (x:V) (v O N:Value) (lo hi:Option Int) (P:Addr) (Q:VK),Inv X pins σ H s->RelV x v->s.heap.IsSliceOf P O N .none->IsPart O lo->IsPart N hi->r x lo hi H Q ->
  ∃T id,EI (.type T) "__getitem__"=pure (some (.builtin id))/\s.TypeIs v T/\wpAny (model X.f X.w) X.A (getItem v (.ref P)) (EP X pins σ Q) X.i s
def tSl(r:V->Option Int->Option Int->Hp->VK->Prop)(te:TE)(tl th:TO):TE:=λσ H Q=>te σ H λx H1=>tl σ H1 λl H2=>th σ H2 λu N=>r x l u N Q
def ai(Z:SlR X r)(he:PE X e te)(hl:PO X lo tl)(hu:PO X hi th):PE X (.Subscript e (.Slice lo hi none p2) pos) (tSl r te tl th):=by
 intro pins s σ H Q I h;refine GB (thn (he pins s σ H _ I h) λv s1 R=>?_);obtain⟨x,H1,I1,r1,q1⟩:=R;refine wpAny_Slice (thn (hl pins s1 σ H1 _ I1 q1) λP s2 ⟨l,H2,I2,pl,q2⟩=>thn (hu pins s2 σ H2 _ I2 q2) λO N R=>?_);obtain⟨u,S,I3,W,U⟩:=R;rw[evalPart_none];refine Aj ?_;have I4:Inv X pins σ S {N with heap:=N.heap.push {cls:=.type "slice",data:=.fields #[P,O,.none]}}:=I3.kept (t':=N.toks) λb ob q=>Aa _ q
 obtain⟨T,id,hT,Y,hg⟩:=Z pins {N with heap:=N.heap.push {cls:=.type "slice",data:=.fields #[P,O,.none]}} σ S x v P O l u N.heap.objs.size Q I4 r1 (E6 ..) pl W U
 show wpAny (model X.f X.w) X.A (Fm e (.Slice lo hi none p2) v (.ref N.heap.objs.size)) (EP X pins σ Q) X.i {N with heap:=N.heap.push {cls:=.type "slice",data:=.fields #[P,O,.none]}}
 exact tail_any (ops:=[.ref N.heap.objs.size,v]) Y hT hg (by with_unfolding_all rfl)
def oE(x:List V)(lo hi:Option Int):List V:=(x.drop (HT.sIx x.length 0 lo)).take (HT.sIx x.length x.length hi-HT.sIx x.length 0 lo)
def rW xs lo hi:(oE xs lo hi).length<=xs.length:=by unfold oE;rw[BX,Cv];omega
def Qk(K:Ae):V->Option Int->Option Int->Hp->VK->Prop:=λx lo hi H Q=>∃a N,x=.c a/\SqT K H a N /\
 ¬(HT.sIx N.length 0 lo=0/\HT.sIx N.length N.length hi=N.length)/\∀p,H p=none->Q (.c p) (upd H p (.c (oE N lo hi)))
def U7:SlR X (Qk X.K):=by
 intro pins s σ H x v Y W lo hi Z Q I R hs U S h;obtain⟨a,O,rfl,hx,hw,q⟩:=h;cases R;obtain⟨its,r,P,hz⟩:=I.tuple hx;have N:its.toArray.size=O.length:=by rw[Ai];exact r.length.symm
 refine⟨"tuple",_,A5.lookup,P.typeIs,?_⟩;refine HT.sA P hs U S (by rw[N];exact hw) ?_ (by rw[N];exact hz)
 rw[N];refine⟨.c s.heap.objs.size,_,I.laid (t':=s.toks) (o:=.c (oE O lo hi)) (λb ob q=>Aa _ q) (Ad _) ?_,rfl,q _ (I.B.fresh (Ad _))⟩;exact⟨As (rW O lo hi) hz,_,(r.drop (HT.sIx O.length 0 lo)).take (HT.sIx O.length O.length hi-HT.sIx O.length 0 lo),si.new _ _⟩
def Rm(K:Ae):R2:=λx y H Q=>∃a b N ys,x=.c a/\y=.c b/\SqT K H a N/\SqT K H b ys/\N≠[]/\N.length+ys.length<=Ar /\
 (ys=[]->Q (.c a) H)/\(ys≠[]->∀p,H p=none->Q (.c p) (upd H p (.c (N++ys))))
def Vals.sE(r:Vals xs us):us=[]↔xs=[]:=by
 cases r with
 |nil=>simp
 |cons _ _=>simp
def Yv:OpR X (BG .Add) (Rm X.K):=by
 intro pins s σ H x y v u Q I S R h;obtain⟨a,b,P,ys,rfl,rfl,Y,W,hx,hz,q1,U⟩:=h;cases S;cases R;obtain⟨its,r1,p1,_⟩:=I.tuple Y;obtain⟨O,N,p2,_⟩:=I.tuple W;refine HT.Z4 p1 p2 (λz=>hx (r1.sE.mp z)) (λz=>⟨.c a,H,I,rfl,q1 (N.sE.mp z)⟩) (λz=>?_) (by rw[<-r1.length,<-N.length];exact hz)
 refine⟨.c s.heap.objs.size,_,I.laid (t':=s.toks) (o:=.c (P++ys)) (λb ob q=>Aa _ q) (Ad _) ?_,rfl,U (λw=>z (N.sE.mpr w)) _ (I.B.fresh (Ad _))⟩;exact⟨by rw[Ao];exact hz,_,r1.append N,si.new _ _⟩
end
noncomputable def ixN(n:Nat)(i:Int):Option Nat:=if 0<=i then (if i<n then some i.toNat else none) else if -(n:Int)<=i then some (i+n).toNat else none
def atI{x:Type}(N:List x)(i:Int):Option x:=(ixN N.length i).bind λj=>N[j]?
def hU(h:ixN n i=some j):E7 i n=some j/\j<n∧-(n:Int)<=i/\i<n:=by
 unfold ixN at h;by_cases h0:0<=i
 . rw[if_pos h0]at h
   by_cases h1:i<n
   . rw[if_pos h1]at h
     have e:i.toNat=j:=A1 h;exact⟨by rw[seqIndex_of h0 h1,e],⋯,⋯,h1⟩
   . rw[if_neg h1]at h;cases h
 . rw[if_neg h0]at h
   by_cases h1:-(n:Int)<=i
   . rw[if_pos h1]at h
     have e:(i+n).toNat=j:=A1 h;exact⟨by rw[seqIndex_neg ⋯ h1,e],⋯,h1,⋯⟩
   . rw[if_neg h1]at h;cases h
def nj(h:atI xs i=some v):∃j,E7 i xs.length=some j/\xs[j]?=some v/\j<xs.length∧-(xs.length:Int)<=i/\i<xs.length:=by
 unfold atI at h;cases e:ixN xs.length i with
 |none=>rw[e]at h;cases h
 |some j=>
  rw[e]at h;obtain⟨h1,O,N,x⟩:=hU e;exact⟨j,h1,h,O,N,x⟩
def qF{xs}{j:Nat}{v:α}(h:xs[j]?=some v):atI xs (j:Int)=some v:=by
 have x:j<xs.length:=(Au.mp h).1;have e:ixN xs.length (j:Int)=some j:=by unfold ixN;rw[if_pos ⋯,if_pos ⋯];simp
 unfold atI;rw[e];exact h
def iR(b:Expr):Prop:=∀o i,subscripted b false o i=operate [o,i] (getItem o i)
def IxR(X:Cx)(r:R2):Prop:=
 ∀(O N:Expr) (pins:List (Addr × Obj)) (s:Shared) (σ:St) (H:Hp) (x y:V) (v u:Value) (Q:VK),Inv X pins σ H s->RelV x v->RelV y u->r x y H Q ->
  subscripted N false v u=operate [v,u] (getItem v u)->wpAny (model X.f X.w) X.A (Fm O N v u) (EP X pins σ Q) X.i s
def MtR(X:Cx)(id:String)(r:V->List V->Hp->VK->Prop):Prop:=
 ∀(pins:List (Addr × Obj)) (s:Shared) (σ:St) (H:Hp) (x:V) (N:List V) (v:Value) (us:List Value) (Q:VK),Inv X pins σ H s->RelV x v->Vals N us->r x N H Q ->
  wpAny (model X.f X.w) X.A (call (.builtin id) (v::us)) (EP X pins σ Q) X.i s
section
variable {X:Cx}{a b:Expr}{ta tb:TE}{pos:Pos}
def IxR.or(h:IxR X r)(h':IxR X r'):IxR X (λx y H Q=>r x y H Q\/r' x y H Q):=by
 intro N O pins s σ H x y v u Q I R P q hs;rcases q with q|q
 . exact h N O pins s σ H x y v u Q I R P q hs
 . exact h' N O pins s σ H x y v u Q I R P q hs
def WU(P:IxR X r)(S:PE X a ta)(R:PE X b tb)(hs:iR b):PE X (.Subscript a b pos) (tOp r ta tb):=by intro pins s σ H Q I h;exact GB (Ww S R I h λv u s2 x y H2 U O N q=>P a b pins s2 σ H2 x y v u Q U O N q (hs _ _))
def Uy(K:Ae):R2:=λx y H Q=>∃p N i v,x=.c p/\y=.d i/\SqL K H p N/\atI N i=some v/\Q v H
def Rp(K:Ae):R2:=λx y H Q=>∃p N i v,x=.c p/\y=.d i/\SqT K H p N/\atI N i=some v/\Q v H
def Ro:R2:=λx y H Q=>∃z i c,x=.e z/\y=.d i/\z.length<=Ar/\atI z.cps.toList i=some c/\Q (.e ⟨#[c]⟩) H
def hV:IxR X (Uy X.K):=by
 intro N O pins s σ H x y v u Q I Y W h hs;obtain⟨p,xs,i,z,rfl,rfl,Z,he,q⟩:=h;cases Y;obtain⟨t,rfl⟩:=W;obtain⟨its,r,R,hz⟩:=I.list Z;obtain⟨j,h1,h2,h3,h4,h5⟩:=nj he;obtain⟨w,U,P⟩:=r.get h2;have hl:=r.length;have hn:=tE;have fin:EP X pins σ Q w s:=⟨z,H,I,P,q⟩;by_cases h0:0<=i
 . have S:i.toNat=j:=by rw[seqIndex_of h0 h5]at h1;exact A1 h1
   exact item_listR R.isList h0 ⋯ (by rw[S];simpa using U) fin hs
 . have S:(i+(its.toArray.size:Int)).toNat=j:=by
    rw[seqIndex_neg ⋯ h4]at h1
    rw[Ai,<-hl];exact A1 h1
   exact subscriptTail_builtinR (x:=w) R.isList.typeIs FA.lookup
    (wpAny_getItem_list_neg (Q:=λr s'=>r=w/\EP X pins σ Q r s') R.isList ⋯ (by rw[Ai]<;>omega) ⋯ (by rw[S];simpa using U) ⟨rfl,fin⟩) hs
def VW:IxR X (Rp X.K):=by
 intro N O pins s σ H x y v u Q I U S h hs;obtain⟨p,xs,i,z,rfl,rfl,W,Z,q⟩:=h;cases U;obtain⟨t,rfl⟩:=S;obtain⟨its,r,R,hz⟩:=I.tuple W;obtain⟨j,h1,h2,h3,h4,h5⟩:=nj Z;obtain⟨w,ew,P⟩:=r.get h2;have Y:=r.length;have hn:=tE;have fin:EP X pins σ Q w s:=⟨z,H,I,P,q⟩;exact subscriptTail_builtinR (x:=w) R.typeIs slot_tuple_getitem.lookup
  (getItem_tuple (j:=j) (Q:=λr s'=>r=w/\EP X pins σ Q r s') R ⋯ ⋯ (by rw[Ai,<-Y];exact h1) (by simpa using ew) ⟨rfl,fin⟩) hs
def VV:IxR X Ro:=by
 intro N O pins s σ H x y v u Q I R P h hs;obtain⟨z,i,c,rfl,rfl,hz,U,q⟩:=h;obtain⟨t,rfl⟩:=R;obtain⟨t',rfl⟩:=P;obtain⟨j,h1,Z,h3,Y,W⟩:=nj U;have S:z.cps.toList.length=z.length:=by simp[Str.length]
 rw[S]at h1 Y W;have hn:=tE;exact tail_any (typeIs_str s z t) slot_str_getitem.lookup (getItem_str (c:=c) (by
  have e1:decide (i < -(2 ^ 63:Int))=false:=decide_eq_false ⋯
  have e2:decide (i ≥ 2 ^ 63)=false:=decide_eq_false ⋯
  rw[e1,e2,Bool.or_false]) (by rw[h1];simpa using Z) ⟨.e ⟨#[c]⟩,H,I.tok _,⟨_,rfl⟩,q⟩) hs
def rIx(K:Ae):R2:=λx y H Q=>Uy K x y H Q\/Rp K x y H Q\/Ro x y H Q
def VU:IxR X (rIx X.K):=hV.or (VW.or VV)
def jK(its:List Value)n j u:FK (·.setIfInBounds j u) {cls:=.type "list",data:=.seq its.toArray n}={cls:=.type "list",data:=.seq (its.set j u).toArray n}:=by simp[FK]
def Inv.lst{pins:List (Addr × Obj)}{σ:St}{H:Hp}{s:Shared}{p:Addr}{x:List V}(I:Inv X pins σ H s)(h:H p=some (.b x)) :
 ∃(its:List Value) (n:Nat),Vals x its/\s.heap.get? p=some {cls:=.type "list",data:=.seq its.toArray n}/\x.length<=Ar:=by
 obtain⟨z,its,n,r,e⟩:=I.B p _ h;exact⟨its,n,r,e,z⟩
def Inv.UA{its its':List Value}(I:Inv X pins σ H s)(h:H p=some (.b xs))
 (N:s.heap.get? p=some {cls:=.type "list",data:=.seq its.toArray n}) (hf:f {cls:=.type "list",data:=.seq its.toArray n}={cls:=.type "list",data:=.seq its'.toArray n'}) (r:Vals ys its') (hz:ys.length<=Ar) t :
 Inv X pins σ (upd H p (.b ys)) {s with heap:=s.heap.update p f,toks:=t}:=by
 have e:(s.heap.update p f).get? p=some {cls:=.type "list",data:=.seq its'.toArray n'}:=by rw[BM f N (by rw[hf]<;>rfl),hf]
 refine I.write (x:=p) (e:=p) (by rw[h];trivial) (.inl rfl) (λb u O q=>(AY _ _ (A6 O)).trans q) ⟨_,e⟩ ?_
 exact⟨hz,its',n',r,e⟩
def WX:V->V->V->Hp->(Hp->Prop)->Prop:=λo i v H Q=>∃p x k j,o=.c p/\i=.d k/\H p=some (.b x)/\ixN x.length k=some j/\Q (upd H p (.b (x.set j v)))
def set_list:Tp X WX:=by
 intro pins s σ H o i v ov iv u Q I Y Z U h;obtain⟨p,S,k,j,rfl,rfl,hp,hj,q⟩:=h;cases Y;obtain⟨t,rfl⟩:=Z;obtain⟨its,n,r,x,hz⟩:=I.lst hp;obtain⟨h1,h2,P,O⟩:=hU hj;have N:=r.length;have hn:=tE;have R:Inv X pins σ (upd H p (.b (S.set j v))) {s with heap:=s.heap.update p (FK (·.setIfInBounds j u))}:=
  I.UA hp x (jK its n j u) (r.set U j) (by rw[BP];exact hz) s.toks
 by_cases h0:0<=k
 . have hk:k.toNat=j:=by rw[seqIndex_of h0 O]at h1;exact A1 h1
   exact PySem.W.ki_setAt x h0 ⋯ (by rw[Ai,<-N];exact O) (by rw[hk];exact⟨_,R,q⟩)
 . have hk:(k+(its.toArray.size:Int)).toNat=j:=by
    rw[seqIndex_neg ⋯ P]at h1
    rw[Ai,<-N];exact A1 h1
   exact PySem.W.ki_setBack x ⋯ (by rw[Ai,<-N];exact P) ⋯ (by rw[hk];exact⟨_,R,q⟩)
def mr lo hi n:(Bw lo hi none n).1=((HT.sIx n 0 lo:Nat):Int)/\(Bw lo hi none n).2.1=((HT.sIx n n hi:Nat):Int)/\(Bw lo hi none n).2.2=1:=by
 refine⟨?_,?_,rfl⟩
 . cases lo with
   |none=>simp[Bw,HT.sIx]
   |some i=>
    simp only[Bw,HT.sIx,FR,show (1:Int) > 0 by decide,if_true]
    by_cases h:i<0
    . simp only[h,if_true]<;>omega
    . simp only[h,if_false]<;>omega
 . cases hi with
   |none=>simp[Bw,HT.sIx]
   |some i=>
    simp only[Bw,HT.sIx,FR,show (1:Int) > 0 by decide,if_true]
    by_cases h:i<0
    . simp only[h,if_true]<;>omega
    . simp only[h,if_false]<;>omega
def oJ(its:List Value)lo hi:GR its.toArray lo hi none=((its.drop (HT.sIx its.length 0 lo)).take (HT.sIx its.length its.length hi-HT.sIx its.length 0 lo)).toArray:=by obtain⟨h1,N,x⟩:=mr lo hi its.toArray.size;unfold GR;rw[h1,N,x];simp only[sliceRange_one,pick_run,Ai]<;>rfl
def Qj(K:Ae):V->Option Int->Option Int->Hp->VK->Prop:=λx lo hi H Q=>∃a N,x=.c a/\SqL K H a N/\∀p,H p=none->Q (.c p) (upd H p (.b (oE N lo hi)))
def XW:SlR X (Qj X.K):=by
 intro pins s σ H x v Y W lo hi Z Q I R hs U S h;obtain⟨a,N,rfl,hx,q⟩:=h;cases R;obtain⟨its,r,P,hz⟩:=I.list hx;have O:=r.length;refine⟨"list",_,FA.lookup,P.isList.typeIs,?_⟩;refine FT P.isList hs U S .none (by simp) ?_ (by rw[Ai]<;>omega)
 rw[oJ,<-O];refine⟨.c s.heap.objs.size,_,I.laid (t':=s.toks) (o:=.b (oE N lo hi)) (λb ob q=>Aa _ q) (Ad _) ?_,rfl,q _ (I.B.fresh (Ad _))⟩;exact⟨As (rW N lo hi) hz,_,0,(r.drop (HT.sIx N.length 0 lo)).take (HT.sIx N.length N.length hi-HT.sIx N.length 0 lo),AF _ rfl⟩
noncomputable def vd:V->Bool
 |.g=>true
 |.f _=>true
 |.d _=>true
 |.e _=>true
 |_=>false
noncomputable def eqV:V->V->Bool
 |.g,.g=>true
 |.f a,.f b=>a == b
 |.f a,.d b=>(if a then 1 else 0) == b
 |.d a,.f b=>a == (if b then 1 else 0)
 |.d a,.d b=>a == b
 |.e a,.e b=>a == b
 |_,_=>false
def VE(O:RelV y u)(N:RelV x v)(Q:vd y=true)(P:vd x=true):Bp A s u v (eqV y x):=by
 cases y with
 |g=>
  cases O;cases x with
  |g=>cases N;exact Bp.same _
  |f b=>cases N;exact Bp.none_bool b
  |d b=>obtain⟨t,rfl⟩:=N;exact Bp.none_int b t
  |e b=>obtain⟨t,rfl⟩:=N;exact Bp.none_str b t
  |_=>exact absurd (show false=true from P) Ak
 |f a=>
  cases O;cases x with
  |g=>cases N;exact Bp.bool_none a
  |f b=>cases N;exact Bp.bool_bool a b
  |d b=>obtain⟨t,rfl⟩:=N;exact Bp.bool_int a b t
  |e b=>obtain⟨t,rfl⟩:=N;exact Bp.bool_str a b t
  |_=>exact absurd (show false=true from P) Ak
 |d a=>
  obtain⟨t',rfl⟩:=O;cases x with
  |g=>cases N;exact Bp.int_none a t'
  |f b=>cases N;exact Bp.int_bool a t' b
  |d b=>obtain⟨t,rfl⟩:=N;exact Bp.int_int a t' b t
  |e b=>obtain⟨t,rfl⟩:=N;exact Bp.int_str a t' b t
  |_=>exact absurd (show false=true from P) Ak
 |e a=>
  obtain⟨t',rfl⟩:=O;cases x with
  |g=>cases N;exact Bp.str_none a t'
  |f b=>cases N;exact Bp.str_bool a t' b
  |d b=>obtain⟨t,rfl⟩:=N;exact Bp.str_int a t' b t
  |e b=>obtain⟨t,rfl⟩:=N;exact Bp.str_str a t' b t
  |_=>exact absurd (show false=true from P) Ak
 |_=>exact absurd (show false=true from Q) Ak
def eqU(x:V)(u:Value):Bool:=match u with
 |.none=>eqV .g x
 |.bool b=>eqV (.f b) x
 |.int i _=>eqV (.d i) x
 |.str z _=>eqV (.e z) x
 |_=>false
def kn(r:RelV y u)(f:vd y=true):eqU x u=eqV y x:=by
 cases y with
 |g=>cases r;rfl
 |f b=>cases r;rfl
 |d i=>obtain⟨t,rfl⟩:=r;rfl
 |e z=>obtain⟨t,rfl⟩:=r;rfl
 |_=>exact absurd (show false=true from f) Ak
theorem pD(N:RelV x v)(O:vd x=true):∀{xs} {us},Vals xs us->xs.all vd=true->∀u∈us,Bp A s u v (eqU x u)
 |_,_,.nil,_=>λu hu=>by cases hu
 |y::xs,u::us,.cons r t,f=>λP hu=>by
  rw[DE,cf]at f;rcases Ap.mp hu with rfl|hu
  . rw[kn r f.1];exact VE r N f.1 O
  . exact pD N O t f.2 P hu
def nq:yI X (.builtin "len") (λR H Q=>∃p ys,R=[.c p]/\(SqL X.K H p ys\/SqT X.K H p ys)/\Q (.d ys.length) H):=by
 intro pins s σ H R us Q I r h;obtain⟨p,ys,rfl,N,q⟩:=h;obtain⟨u,rfl,S⟩:=vals1 r;cases S;have U:=tE;rcases N with N|N
 . obtain⟨its,O,P,hz⟩:=I.list N
   have x:=O.length;exact Calls.call_len_list P.isList (by simp only[Ai]<;>omega) ⟨.d ys.length,H,I.tok _,⟨s.toks+1,by rw[Ai,x]⟩,q⟩
 . obtain⟨its,O,P,hz⟩:=I.tuple N
   have x:=O.length;exact len_tuple P (by simp only[Ai]<;>omega) ⟨.d ys.length,H,I.tok _,⟨s.toks+1,by rw[Ai,x]⟩,q⟩
def nt:yI X (.builtin "len") (λx H Q=>∃z,x=[.e z]/\z.length<=Ar/\Q (.d z.length) H):=by intro pins s σ H x us Q I r h;obtain⟨z,rfl,hz,q⟩:=h;obtain⟨u,rfl,t,rfl⟩:=vals1 r;have N:=tE;exact len_str ⋯ ⟨.d z.length,H,I.tok _,⟨_,rfl⟩,q⟩
def nu:yI X (.type "list") (λY H Q=>∃p ys,Y=[.c p]/\(SqL X.K H p ys\/SqT X.K H p ys)/\∀l,H l=none->Q (.c l) (upd H l (.b ys))):=by
 intro pins s σ H Y us Q I r h;obtain⟨p,ys,rfl,P,q⟩:=h;obtain⟨u,rfl,rx⟩:=vals1 r;cases rx;have fin:∀(its:List Value),Vals ys its->ys.length<=Ar->∀(h':Heap) (N:Nat),(∀b Z,s.heap.get? b=some Z->h'.get? b=some Z) ->
  h'.get? s.heap.objs.size=some {cls:=.type "list",dict:=none,data:=.seq its.toArray N,slots:=#[]}->EP X pins σ Q (.ref s.heap.objs.size) {s with heap:=h'}:=λits x hz h' N O e=>
  ⟨.c s.heap.objs.size,_,I.laid (t':=s.toks) O (Ad _) (show z0 X.f X.w _ h' _ (.b ys) from ⟨hz,its,N,x,e⟩),rfl,q _ (I.B.fresh (Ad _))⟩
 rcases P with P|P
 . obtain⟨its,x,S,hz⟩:=I.list P
   have R:=x.length;obtain⟨o,U,W,n,hd⟩:=S.isList;exact call_list_seq p (.inl rfl) U W hd (λh' N O e=>fin its x hz h' N O e) (by simp only[Ai]<;>omega)
 . obtain⟨its,x,S,hz⟩:=I.tuple P
   have R:=x.length;obtain⟨o,U,W,n,hd⟩:=S;exact call_list_seq p (.inr rfl) U W hd (λh' N O e=>fin its x hz h' N O e) (by simp only[Ai]<;>omega)
def uj:yI X (.type "tuple") (λP H Q=>∃p ys,P=[.c p]/\((SqL X.K H p ys/\∀l,H l=none->Q (.c l) (upd H l (.c ys)))\/(SqT X.K H p ys/\Q (.c p) H))):=by
 intro pins s σ H P us Q I r h;obtain⟨p,ys,rfl,h⟩:=h;obtain⟨u,rfl,U⟩:=vals1 r;cases U;rcases h with⟨O,q⟩|⟨O,q⟩
 . obtain⟨its,x,N,hz⟩:=I.list O
   have R:=x.length;refine call_tuple_list N.isList (λh' W=>?_) (by simp only[Ai]<;>omega)
   have S:Inv X pins σ H {s with heap:=h'}:=I.kept (t':=s.toks) W
   have Y:Inv X pins σ (upd H h'.objs.size (.c ys)) {s with heap:=h'.push {cls:=.type "tuple",data:=.seq its.toArray}}:=
    S.laid (t':=s.toks) (λb o e=>Aa _ e) (Ad _) (show z0 X.f X.w _ _ _ (.c ys) from ⟨hz,its,x,si.new _ _⟩)
   exact⟨.c h'.objs.size,_,Y,rfl,q _ (S.B.fresh (Ad _))⟩
 . obtain⟨its,x,N,hz⟩:=I.tuple O
   exact call_tuple_same N ⟨.c p,H,I,rfl,q⟩
def tyV(K:Ae)(T:String)(x:V)(H:Hp):Prop:=match x with
 |.e _=>T="str"
 |.d _=>T="int"
 |.c p=>(T="list"/\∃O,SqL K H p O)\/(T="tuple"/\∃o,K.lookup p=some o/\o.cls=.type "tuple"/\o.dict=none) \/
  (T="dict"/\((∃N,H p=some (.i N))\/∃N,H p=some (.l N)))\/(T="set"/\∃S n,H p=some (.p S n))
 |_=>False
def Tc(I:Inv X pins σ H s)(r:RelV x v)(N:tyV X.K T x H) :
 s.TypeIs v T/\∀a,v=.ref a->∃ob,s.heap.get? a=some ob/\ob.dict=none:=by
 cases x with
 |e z=>
  obtain⟨t,rfl⟩:=r;cases (show T="str" from N);exact⟨typeIs_str s z t,λ_ e=>nomatch e⟩
 |d i=>
  obtain⟨t,rfl⟩:=r;cases (show T="int" from N);exact⟨Dh s i t,λ_ e=>nomatch e⟩
 |c p=>
  cases r;rcases N with⟨rfl,U,Q⟩|⟨rfl,o,hk,R,hd⟩|⟨rfl,hk⟩|⟨rfl,S,n,hk⟩
  . obtain⟨its,_,P,_⟩:=I.list Q
    refine⟨P.isList.typeIs,λa e=>?_⟩;cases e;obtain⟨o,n,e,c,hd,_⟩:=P;exact⟨o,e,hd⟩
  . refine⟨⟨o,I.kIn p o hk,R⟩,λa e=>?_⟩
    cases e;exact⟨o,I.kIn _ o hk,hd⟩
  . have z:∃o,s.heap.get? p=some o/\o.ExactDict:=by
     rcases hk with⟨O,hk⟩|⟨O,hk⟩
     . obtain⟨_,_,_,_,o,_,_,e,ex,_⟩:=I.B p _ hk
       exact⟨o,e,ex⟩
     . obtain⟨_,_,_,_,o,_,_,e,ex,_⟩:=I.B p _ hk
       exact⟨o,e,ex⟩
    obtain⟨o,e,ex⟩:=z;refine⟨⟨o,e,ex.1⟩,λa e2=>?_⟩;cases e2;exact⟨o,e,ex.2.1⟩
  . obtain⟨o,_,_,_,e,ex,_⟩:=I.B p _ hk
    refine⟨⟨o,e,ex.1⟩,λa e2=>?_⟩;cases e2;exact⟨o,e,ex.2.1⟩
 |_=>exact Az N
def tBM(K:Ae)(T:String)(r:V->List V->Hp->VK->Prop)(to:TE)(t:TA):TE:=λσ H Q=>to σ H λx H1=>tyV K T x H1/\t σ H1 λN H2=>r x N H2 Q
variable {o e:Expr}{es:List Expr}{to:TE}{t:TA}{name:Str}{apos cpos:Pos}{T id:String}{r:V->List V->Hp->VK->Prop}
def gE(Z:PlainAttrs T)(P:Slot T name id)(S:typeOf (.builtin id)=pure (.type "method_descriptor"))(hm:MtR X id r)(ho:PE X o to)(ha:PA X (e::es) t)
 (O:Ca o name X.a (eval o X.a)=eval o X.a:=by rfl)
 (R:((backTo cpos (AG (e::es) X.a)).all (λx=>!x.1)&&(GC cpos (E2 [] X.a)).all (λx=>x.1.isSome)
  && decide ((e::es).length+([]:List Keyword).length+(if ([]:List Keyword).isEmpty then 0 else 1)<30))=true:=by rfl)
 (hline:(apos.endLine == cpos.line)=true:=by rfl) (hs:AG (e::es) X.a=(false,eval e X.a)::AG es X.a:=by rfl) (N:(backTo cpos (AG es X.a)).any (·.1)=false:=by rfl) :
 PE X (.Call (.Attribute o name apos) (e::es) [] cpos) (tBM X.K T r to t):=by
 intro pins s σ H Q I h;refine wpAny_Call_method_late O R hline rfl (thn (ho pins s σ H _ I h) λv s1 W=>?_);obtain⟨x,H1,U,r1,Y,q1⟩:=W;obtain⟨h1,h2⟩:=Tc U r1 Y;refine⟨T,id,Z,P,S,h1,h2,?_⟩;have hA:=ha cpos pins s1 σ H1 _ U q1;rw[hs]at hA ⊢;refine Calls.callWith_builtin (by show (false||(backTo cpos (AG es X.a)).any (·.1))=false;rw[N]<;>rfl) (Du ?_)
 exact thn hA λus s2 ⟨vs,H2,I2,r2,q2⟩=>hm pins s2 σ H2 x vs v us Q I2 r1 r2 q2
/- xs.append(e),list.index on a module's tuple .. are MtR facts of 06m -/
end
def MtM(X:Cx)(id:String)(r:V->List V->Hp->VK->Prop):Prop:=
 ∀(pins:List (Addr × Obj)) (s:Shared) (σ:St) (H:Hp) (x:V) (N:List V) (v:Value) (us:List Value) (Q:VK),Inv X pins σ H s->RelV x v->Vals N us->r x N H Q ->
  wpAny (model X.f X.w) X.A (call (.builtin id) (v::us)) (EP X pins σ Q) X.i s
def Vals.one:∀{x} {us},Vals [x] us->∃u,us=[u]/\RelV x u
 |_,_,.cons r .nil=>⟨_,rfl,r⟩
theorem Vals.eraseIdx:∀{xs} {us} i,Vals xs us->Vals (xs.eraseIdx i) (us.eraseIdx i)
 |_,_,_,.nil=>.nil
 |_,_,0,.cons _ t=>t
 |_,_,i+1,.cons r t=>.cons r (Vals.eraseIdx i t)
theorem Vals.rep(h:Vals xs us):∀k:Nat,Vals (An k xs).flatten (An k us).flatten
 |0=>.nil
 |k+1=>by rw[B7,B7,CK,CK];exact Vals.append h (Vals.rep h k)
theorem nA{x:Type}:∀(l:List x) i,(l.eraseIdx i).length<=l.length
 |[],_=>Ad _
 |_::_,0=>Cz _
 |_::r,i+1=>FU (nA r i)
theorem foldl_rep its:∀k (acc:List Value),
 D1 (λN x=>N++x) acc.toArray (An k its.toArray)=(acc++(An k its).flatten).toArray
 |0,acc=>by simp
 |k+1,acc=>by
  have e:acc.toArray++its.toArray=(acc++its).toArray:=by simp
  have e2:(acc++its)++(An k its).flatten=acc++(An (k+1) its).flatten:=by rw[B7,CK,Bx]
  rw[<-e2,<-foldl_rep its k (acc++its),<-e,B7,List.foldl_cons]
def Inv.Sx{its its':List Value}(I:Inv X pins σ H s)(P:H l=some (.b xs))
 (e:s.heap.get? l=some {cls:=.type "list",data:=.seq its.toArray n}) (hf:f its.toArray=its'.toArray) (N:Vals ys its') (hz:ys.length<=Ar) :
 Inv X pins σ (upd H l (.b ys)) {s with heap:=s.heap.update l (FK f),toks:=t'}:=by
 have q:=PySem.IsL.update e f;rw[hf]at q;refine I.write (x:=l) (e:=l) (by rw[P];exact trivial) (.inl rfl) (λQ u O hu=>(AY s.heap (FK f) (A6 O)).trans hu) ⟨_,q⟩ ?_
 exact⟨hz,its',_,N,q⟩
def Inv.Sv(I:Inv X pins σ H s)(x:Vals ys its)(hz:ys.length<=Ar) :
 Inv X pins σ (upd H s.heap.objs.size (.b ys)) {s with heap:=s.heap.push {cls:=.type "list",data:=.seq its.toArray},toks:=t'}:=
 I.laid (λ_ _ q=>Aa _ q) (Ad _) ⟨hz,its,0,x,AF _ rfl⟩
theorem Inv.fresh(I:Inv X pins σ H s):H s.heap.objs.size=none:=I.B.fresh (Ad _)
def Inv.bp(I:Inv X pins σ H s)(x:H l=some (.b xs)):xs.length<=Ar/\∃its n,Vals xs its/\xs.length=its.length/\s.heap.get? l=some {cls:=.type "list",data:=.seq its.toArray n}:=by obtain⟨z,its,n,r,e⟩:=I.B l _ x;exact⟨z,its,n,r,r.length,e⟩
def bu(h:n<=Ar):DP n=false:=by unfold DP;exact decide_eq_false ⋯
section
variable {X:Cx}
def gH:V->List V->Hp->VK->Prop:=λx vs H Q=>∃l N y,x=.c l/\vs=[y]/\H l=some (.b N)/\N.length<Ar/\Q .g (upd H l (.b (N++[y])))
def nD:MtM X "list.append" gH:=by
 intro pins s σ H x vs v us Q I O P h;obtain⟨l,S,y,rfl,rfl,N,hz,q⟩:=h;cases O;obtain⟨u,rfl,R⟩:=P.one;obtain⟨z,its,n,r,U,e⟩:=I.bp N;refine Ck F.slot_list_append ⟨_,e,rfl⟩ F.entry_list_append (F.args_list_append_2 _ _) (PySem.list_append l its.toArray n u (by rw[Ai];omega)) ⟨e,?_⟩
 refine⟨.g,_,I.Sx (its':=its++[u]) N e (by simp) (r.append (.cons R .nil)) ?_,rfl,q⟩
 rw[Ao,BN];omega
def ZC:V->List V->Hp->VK->Prop:=λx vs H Q=>∃l N i k y,x=.c l/\vs=[.d i]/\H l=some (.b N)∧-(2 ^ 63)<=i/\i<2 ^ 63/\E7 i N.length=some k/\N[k]?=some y/\Q y (upd H l (.b (N.eraseIdx k)))
def br:MtM X "list.pop" ZC:=by
 intro pins s σ H x vs v us Q I R S h;obtain⟨l,P,i,k,y,rfl,rfl,O,h1,Z,hk,W,q⟩:=h;cases R;obtain⟨u,rfl,U⟩:=S.one;obtain⟨t,rfl⟩:=U;obtain⟨z,its,n,r,Y,e⟩:=I.bp O;obtain⟨w,hw,N⟩:=r.get W;refine Ck F.slot_list_pop ⟨_,e,rfl⟩ F.entry_list_pop (F.args_list_pop_2 _ _)
  (MeetsSeq.list_pop_at l its.toArray n i t k w (fitsIndex_both h1 Z) (by rw[Ai,<-Y];exact hk) (by rw[<-Array.getElem?_toList];exact hw) (by rw[Ai];omega)) ⟨e,?_⟩
 refine⟨y,_,I.Sx (its':=its.eraseIdx k) O e ?_ (r.eraseIdx k) ?_,N,q⟩
 . show its.toArray.eraseIdxIfInBounds k=(its.eraseIdx k).toArray
   rw[List.eraseIdxIfInBounds_toArray]
 . have:=nA P k
   omega
def XN:R2:=λx y H Q=>∃l b O N,x=.c l/\y=.c b/\H l=some (.b O)/\H b=some (.b N)/\O.length+N.length<=Ar/\∀p,H p=none->Q (.c p) (upd H p (.b (O++N)))
def jX:OpR X (BG .Add) XN:=by
 intro pins s σ H x y v u Q I R O h;obtain⟨l,b,xs,Z,rfl,rfl,W,hB,hz,q⟩:=h;cases R;cases O;obtain⟨z,its,n,r,hl,e⟩:=I.bp W;obtain⟨z2,N,n2,S,U,e2⟩:=I.bp hB;refine PySem.P.add_list e e2 ?_ (by rw[Ai,Ai];omega)
 have Y:its.toArray++N.toArray=(its++N).toArray:=by simp
 rw[Y];exact⟨.c _,_,I.Sv (t':=s.toks) (r.append S) (by rw[Ao];omega),rfl,q _ I.fresh⟩
def Qg:R2:=λx y H Q=>∃l k N,x=.c l/\y=.d k/\H l=some (.b N)∧-(2 ^ 63)<=k/\k<2 ^ 63/\N.length*k.toNat<=Ar /\
 ∀p,H p=none->Q (.c p) (upd H p (.b (An k.toNat N).flatten))
def len_rep{N:Type}(x:List N)k:(An k x).flatten.length=k*x.length:=by
 induction k with
 |zero=>simp
 |succ k O=>rw[B7,CK,Ao,O,FV,Nat.add_comm]
def UL:OpR X (BG .Mult) Qg:=by
 intro pins s σ H x y v u Q I rx Z h;obtain⟨l,k,xs,rfl,rfl,hH,h1,h2,hz,q⟩:=h;cases rx;obtain⟨t,rfl⟩:=Z;obtain⟨z,its,n,r,hl,e⟩:=I.bp hH;have P:its.toArray.size*k.toNat<=Ar:=by rw[Ai,<-hl];exact hz
 have S:¬its.toArray.size*k.toNat > (2 ^ 63-1)/8:=by
  have:(Ar:Nat)<=(2 ^ 63-1)/8:=by decide
  omega
 have R:¬(!Builtin.List.listFitsIndex k)=true:=by rw[fitsIndex_both h1 h2];exact Ak
 have N:¬DP (its.toArray.size*k.toNat)=true:=by rw[bu P];exact Ak
 have O:D1 (λY W=>Y++W) #[] (An (if its.toArray.isEmpty=true then 0 else k.toNat) its.toArray)=(An k.toNat its).flatten.toArray:=by
  have f0:∀m:Nat,D1 (λY W=>Y++W) #[] (An m its.toArray)=(An m its).flatten.toArray:=λm=>by have:=foldl_rep its m [];rw[EJ]at this;exact this
  rw[f0];cases its with
  |nil=>simp
  |cons a r'=>rw[if_neg (by simp)]
 refine CP (T:="list") (U:="int") (by decide) ⟨_,e,rfl⟩ (λs'=>Dh s' k t) noFill_list_mul EK Cm repeat_list Em.lookup
  (Ck Cm (Dh s k t) En (Ea _ _) (int___rmul___int_list k t l its.toArray n)
   ⟨e,rfl,⟨_,e,rfl⟩,Ck F.slot_list_mul ⟨_,e,rfl⟩ F.entry_list_mul (F.args_list_mul_2 _ _) (AutoListH.list___mul___list_int_3 l its.toArray n k t R S N) ⟨e,?_⟩⟩)
 rw[O];exact⟨.c _,_,I.Sv (t':=s.toks) (r.rep k.toNat) (by rw[len_rep,Nat.mul_comm];exact hz),rfl,q _ I.fresh⟩
end
end L2
namespace Att
open PySem PySem.W PySem.Calls PyProof.Rows
def r0:∀ns vs,WellAll P h vs (ns.map WData.int)->IntsAre vs ns:=by
 intro ns;induction ns with
 |nil=>
  intro vs w;rw[EL]at w;cases w;exact .nil
 |cons n ns x=>
  intro vs w;rw[AW]at w;cases w with
  |cons a b=>
   cases a;exact .cons _ _ (x _ b)
def eH{l:OpenLaw}(hn:l.most=some n)
 (x:l.row.toRowW.claim.pre args=true) (S:WellAll P h vals args) :
 ∃a vs ns,vals=[AO a]/\args=[WData.list (ns.map WData.int)]/\h.get? a=some {cls:=.type "list",data:=.seq vs.toArray}/\IntsAre vs ns/\ns.length<=n:=by
 have hsh:WShape.hasAll [] args [.list .int]=true:=(pre_splitW x).1;have U:l.pre.holds [] {args:=args}=true:=(pre_splitW x).2;obtain⟨d,r,rfl,h1,h2⟩:=hasAllW_cons hsh;obtain rfl:=hasAllW_nil h2;obtain⟨xs,rfl,h3⟩:=hasW_list h1;obtain⟨ns,rfl⟩:=items_int h3;have N:ns.length<=n:=by
  unfold OpenLaw.pre at U;have R:(WTm.not (.lt (.lit (.int (n:Int))) (.len (.arg 0)))).holds [] {args:=[.list (ns.map .int)]}=true:=by have R:=(holds_andW U).1;rw[hn]at R;exact R
  have Q:=condW_of R (w_not (w_lt w_lit (w_len_list (w_arg rfl))));rw[Ac]at Q;refine Nat.le_of_not_lt λq=>?_;have Z:(n:Int)<((ns.length:Nat):Int):=by omega
  first
   |(rw[decide_eq_true Z]at Q;exact absurd Q (by decide))
   |(simp at Q;omega)
 cases S with
 |cons Y W=>
  cases W;cases Y with
  |list ho O=>exact⟨_,_,ns,rfl,rfl,ho,r0 ns _ O,N⟩
def fo(l:OpenLaw)args:l.row.toRowW.claim.post args (.bool true) args=true:=
 postW_of (r:=l.row.toRowW) (X:=(true == true))
  (show WShape.has [] (.bool true) .bool=true by first|rfl|decide|simp[WShape.has,WShape.arms,WShape.armsAll])
  (show (WTm.eq .res (.lit (.bool true))).value [] {args:=args,res:=some (.bool true),after:=args}=some (.bool (true == true)) from w_eq_bool (w_res rfl) w_lit) rfl
def lK{l:OpenLaw}
 (hn:l.most=some n) (hdf:d.params.defaults=[])
 (call:∀w N x mg S fa o pm cd doc a vs ns,
  Ground q loose [] XP w N mg S x.heap->YP w x.heap ->
  x.heap.get? fa=some o->o.data=.func (docDef d.name d.params d.body d.scope pm cd doc)->x.heap.CodeRec cd d.name->mg d.name=some (.ref fa) ->
  x.heap.get? a=some {cls:=.type "list",data:=.seq vs.toArray}->IntsAre vs ns->ns.length<=n->x.gens=#[] ->
  codeAny (model l.prog w) callerA (.call (.ref fa) ⟨[.ref a],[]⟩) (λr s'=>r=.ok (.ret (.bool true))/\OldK x.heap s'.heap/\s'.os=x.os/\AllBare s'.gens) x) :
 WalkO q loose XP YP l.row.toRowW d [] (λf vs=>PySem.call f vs):=by
 intro w N x mg S G Y fa o pm cd doc dV kV ho hd Z hD W hg args vals as P hlay hrd U hlo;obtain rfl:dV=.none:=Dflts.none hD hdf;obtain rfl:kV=.none:=Dflts.noKw hD;obtain⟨a,vs,ns,rfl,rfl,Q,O,R⟩:=eH hn P U;refine enter_call (CY (call w N x mg S fa o pm cd doc a vs ns G Y ho (fd_plain hd) Z W Q O R hg) λr s' hq=>?_);obtain⟨rfl,h2,h3,h4⟩:=hq;exact⟨.inl ⟨.bool true,.bool true,[],rfl,λ_=>rfl,.bool true,fo l _,λ_=>⟨FC,λ_ hm=>(nomatch hm)⟩⟩,h2,h3,h4⟩
end Att
namespace L2
open PySem PySem.Spec PyProof.Rows
theorem nU:∀{vs} {ns},IntsAre vs ns->Vals (ns.map V.d) vs
 |_,_,.nil=>.nil
 |_,_,.cons n t h=>.cons ⟨t,rfl⟩ (nU h)
end L2
/- THE LAST THEOREM (shape;LID,My.* are yours):
   My.Adr: a structure of the addresses that your layer names (classes,functions);My.Txt K t: a structure (Prop) of the equations over K;
   My.txt_mk:{K} {implicit addresses ..} (e1:nsIn K AS "law"=some (some (.ref f))) (e2:K.lookup f=some ⟨oc,od,.func (fnOf "law" "law" params body scope dV kV doc pm an cdv ct),sl⟩) (e3:codeIn K cdv "law"=true) ..:∃t,My.Txt K t
(the tactic k_is has no namespace: write k_is) -/
namespace L2
open PySem PySem.Spec PyProof.Rows
noncomputable def xM(s:Stmt):Er:=match s with
 |.FunctionDef _ a _ _ _ _ _ _ _ _=>a
 |_=>{posonlyargs:=[],args:=[],vararg:=none,kwonlyargs:=[],kw_defaults:=[],kwarg:=none,defaults:=[]}
noncomputable def z9(s:Stmt):List Stmt:=match s with
 |.FunctionDef _ _ b _ _ _ _ _ _ _=>b
 |_=>[]
noncomputable def zF(s:Stmt):Scope:=match s with
 |.FunctionDef _ _ _ _ _ _ sc _ _ _=>sc
 |_=>{kind:=.function,names:=[],isGenerator:=false,isCoroutine:=false}
abbrev CX0:CXT:=λ_ _ _ _ _ _=>False
abbrev E0:XK:=λ_ _ _=>False
def WT:Passes CX0 X E0:=λ_ _ _ _ _ _ _ h=>h.elim
structure Fun(K:Ae)(x qual:Str)(st:Stmt)(f:Addr)(fd:BD):Prop where
 a:∃(oc:Value) (od:Option Addr) (kV doc pm:Value) (an:Option Addr) (cdv ct:Value) (osl:Array (Option Value)),
  fd=BL x qual (xM st) (z9 st) (zF st) .none kV doc pm an cdv ct/\K.lookup f=some ⟨oc,od,.func fd,osl⟩/\B1 K cdv qual=true
 b:B2 K (.ref f)=true
def Fun.binds{K:Ae}{st}{ps:List Str}(F:Fun K x qual st f fd)
 (h:∀kV doc pm an cdv ct (us:List Value),us.length=ps.length->GA (BL x qual (xM st) (z9 st) (zF st) .none kV doc pm an cdv ct) ⟨us,[]⟩=pure (ps.zip us)):Binds K fd ps []:=by
 obtain⟨oc,od,kV,doc,pm,an,cdv,ct,osl,rfl,O,N⟩:=F.a;exact .all (h kV doc pm an cdv ct)
def cY{K:Ae}{st}{kV doc pm cdv ct}(l:K.lookup f=some ⟨oc,od,.func (BL x qual (xM st) (z9 st) (zF st) .none kV doc pm an cdv ct),osl⟩)
 (c:B1 K cdv qual=true) (k:B2 K (.ref f)=true):Fun K x qual st f (BL x qual (xM st) (z9 st) (zF st) .none kV doc pm an cdv ct):=⟨⟨oc,od,kV,doc,pm,an,cdv,ct,osl,rfl,l,c⟩,k⟩
def sD{A B:Prop}(h:B):if false=true then A else B:=by rw[if_neg Ak];exact h
def r8{A B:Prop}(h:A):if true=true then A else B:=by rw[if_pos rfl];exact h
def wK(H H':Hp):Prop:=∀b o,H b=some o->H' b=some o
def wK.refl H:wK H H:=λ_ _ h=>h
def wK.trans(a:wK H H1)(b:wK H1 H2):wK H H2:=λc o h=>b c o (a c o h)
end L2
end
section
namespace M
open PySem
noncomputable def el(a n:Nat)(f:a=n->Bool):Bool:=if h:a=n then f h else false
def z7(h:el a n f=true):∃x,f x=true:=by
 unfold el at h;by_cases x:a=n
 . rw[dif_pos x]at h;exact⟨x,h⟩
 . rw[dif_neg x]at h;cases h
def X9(e:Expr)(k:BoolOp->List Expr->Pos->Bool):Bool:=el e.ctorIdx 0 λh=>Expr.BoolOp.elim (motive_1:=λ_=>Bool) e h k
def gw(h:X9 e k=true):∃o x p,e=.BoolOp o x p/\k o x p=true:=by obtain⟨N,h⟩:=z7 h;obtain⟨o,x,p,rfl⟩:∃o x p,e=.BoolOp o x p:=Expr.BoolOp.elim (motive_1:=λe=>∃o x p,e=Expr.BoolOp o x p) e N λo x p=>⟨o,x,p,rfl⟩;exact⟨o,x,p,rfl,h⟩
def SD(e:Expr)(k:Expr->Operator->Expr->Pos->Bool):Bool:=el e.ctorIdx 2 λh=>Expr.BinOp.elim (motive_1:=λ_=>Bool) e h k
def lR(h:SD e k=true):∃l o r p,e=.BinOp l o r p/\k l o r p=true:=by obtain⟨x,h⟩:=z7 h;obtain⟨l,o,r,p,rfl⟩:∃l o r p,e=.BinOp l o r p:=Expr.BinOp.elim (motive_1:=λe=>∃l o r p,e=Expr.BinOp l o r p) e x λl o r p=>⟨l,o,r,p,rfl⟩;exact⟨l,o,r,p,rfl,h⟩
def eUn(e:Expr)(k:UnaryOp->Expr->Pos->Bool):Bool:=el e.ctorIdx 3 λh=>Expr.UnaryOp.elim (motive_1:=λ_=>Bool) e h k
def YJ(h:eUn e k=true):∃o x p,e=.UnaryOp o x p/\k o x p=true:=by obtain⟨N,h⟩:=z7 h;obtain⟨o,x,p,rfl⟩:∃o x p,e=.UnaryOp o x p:=Expr.UnaryOp.elim (motive_1:=λe=>∃o x p,e=Expr.UnaryOp o x p) e N λo x p=>⟨o,x,p,rfl⟩;exact⟨o,x,p,rfl,h⟩
def VB(e:Expr)(k:Er->Expr->Scope->Pos->Bool):Bool:=el e.ctorIdx 4 λh=>Expr.Lambda.elim (motive_1:=λ_=>Bool) e h k
def lT(h:VB e k=true):∃a b c p,e=.Lambda a b c p/\k a b c p=true:=by obtain⟨x,h⟩:=z7 h;obtain⟨a,b,c,p,rfl⟩:∃a b c p,e=.Lambda a b c p:=Expr.Lambda.elim (motive_1:=λe=>∃a b c p,e=Expr.Lambda a b c p) e x λa b c p=>⟨a,b,c,p,rfl⟩;exact⟨a,b,c,p,rfl,h⟩
def SI(e:Expr)(k:Expr->Expr->Expr->Pos->Bool):Bool:=el e.ctorIdx 5 λh=>Expr.IfExp.elim (motive_1:=λ_=>Bool) e h k
def cJ(h:SI e k=true):∃t x y p,e=.IfExp t x y p/\k t x y p=true:=by obtain⟨N,h⟩:=z7 h;obtain⟨t,x,y,p,rfl⟩:∃t x y p,e=.IfExp t x y p:=Expr.IfExp.elim (motive_1:=λe=>∃t x y p,e=Expr.IfExp t x y p) e N λt x y p=>⟨t,x,y,p,rfl⟩;exact⟨t,x,y,p,rfl,h⟩
def SG(e:Expr)(k:List (Option Expr)->List Expr->Pos->Bool):Bool:=el e.ctorIdx 6 λh=>Expr.Dict.elim (motive_1:=λ_=>Bool) e h k
def cF(h:SG e k=true):∃ks vs p,e=.Dict ks vs p/\k ks vs p=true:=by obtain⟨x,h⟩:=z7 h;obtain⟨ks,vs,p,rfl⟩:∃ks vs p,e=.Dict ks vs p:=Expr.Dict.elim (motive_1:=λe=>∃ks vs p,e=Expr.Dict ks vs p) e x λks vs p=>⟨ks,vs,p,rfl⟩;exact⟨ks,vs,p,rfl,h⟩
def SE(e:Expr)(k:Expr->List Fo->Scope->Pos->Bool):Bool:=el e.ctorIdx 8 λh=>E8 (motive_1:=λ_=>Bool) e h k
def cE(h:SE e k=true):∃x N sc p,e=.ListComp x N sc p/\k x N sc p=true:=by obtain⟨O,h⟩:=z7 h;obtain⟨x,N,sc,p,rfl⟩:∃x N sc p,e=.ListComp x N sc p:=E8 (motive_1:=λe=>∃x N sc p,e=Expr.ListComp x N sc p) e O λx N sc p=>⟨x,N,sc,p,rfl⟩;exact⟨x,N,sc,p,rfl,h⟩
def VA(e:Expr)(k:Expr->List CmpOp->List Expr->Pos->Bool):Bool:=el e.ctorIdx 15 λh=>FD (motive_1:=λ_=>Bool) e h k
def lS(h:VA e k=true):∃l os x p,e=.Compare l os x p/\k l os x p=true:=by obtain⟨N,h⟩:=z7 h;obtain⟨l,os,x,p,rfl⟩:∃l os x p,e=.Compare l os x p:=FD (motive_1:=λe=>∃l os x p,e=Expr.Compare l os x p) e N λl os x p=>⟨l,os,x,p,rfl⟩;exact⟨l,os,x,p,rfl,h⟩
def cB(e:Expr)(k:Expr->List Expr->List Keyword->Pos->Bool):Bool:=el e.ctorIdx 16 λh=>Expr.Call.elim (motive_1:=λ_=>Bool) e h k
def oi(h:cB e k=true):∃f x ks p,e=.Call f x ks p/\k f x ks p=true:=by obtain⟨N,h⟩:=z7 h;obtain⟨f,x,ks,p,rfl⟩:∃f x ks p,e=.Call f x ks p:=Expr.Call.elim (motive_1:=λe=>∃f x ks p,e=Expr.Call f x ks p) e N λf x ks p=>⟨f,x,ks,p,rfl⟩;exact⟨f,x,ks,p,rfl,h⟩
def SH(e:Expr)(k:Expr->Int->Option Expr->Pos->Bool):Bool:=el e.ctorIdx 17 λh=>FW (motive_1:=λ_=>Bool) e h k
def cI(h:SH e k=true):∃x c s p,e=.FormattedValue x c s p/\k x c s p=true:=by obtain⟨N,h⟩:=z7 h;obtain⟨x,c,s,p,rfl⟩:∃x c s p,e=.FormattedValue x c s p:=FW (motive_1:=λe=>∃x c s p,e=Expr.FormattedValue x c s p) e N λx c s p=>⟨x,c,s,p,rfl⟩;exact⟨x,c,s,p,rfl,h⟩
def eJn(e:Expr)(k:List Expr->Pos->Bool):Bool:=el e.ctorIdx 18 λh=>Gr.elim (motive_1:=λ_=>Bool) e h k
def YF(h:eJn e k=true):∃x p,e=.JoinedStr x p/\k x p=true:=by obtain⟨N,h⟩:=z7 h;obtain⟨x,p,rfl⟩:∃x p,e=.JoinedStr x p:=Gr.elim (motive_1:=λe=>∃x p,e=Gr x p) e N λx p=>⟨x,p,rfl⟩;exact⟨x,p,rfl,h⟩
def YD(e:Expr)(k:Const->Nat->Pos->Bool):Bool:=el e.ctorIdx 19 λh=>GL.elim (motive_1:=λ_=>Bool) e h k
def qf(h:YD e k=true):∃c n p,e=.Constant c n p/\k c n p=true:=by obtain⟨x,h⟩:=z7 h;obtain⟨c,n,p,rfl⟩:∃c n p,e=.Constant c n p:=GL.elim (motive_1:=λe=>∃c n p,e=GL c n p) e x λc n p=>⟨c,n,p,rfl⟩;exact⟨c,n,p,rfl,h⟩
def T9(e:Expr)(k:Expr->Str->Pos->Bool):Bool:=el e.ctorIdx 20 λh=>Gs.elim (motive_1:=λ_=>Bool) e h k
def cA(h:T9 e k=true):∃o x p,e=.Attribute o x p/\k o x p=true:=by obtain⟨N,h⟩:=z7 h;obtain⟨o,x,p,rfl⟩:∃o x p,e=.Attribute o x p:=Gs.elim (motive_1:=λe=>∃o x p,e=Gs o x p) e N λo x p=>⟨o,x,p,rfl⟩;exact⟨o,x,p,rfl,h⟩
def YI(e:Expr)(k:Expr->Expr->Pos->Bool):Bool:=el e.ctorIdx 21 λh=>Gu.elim (motive_1:=λ_=>Bool) e h k
def qi(h:YI e k=true):∃l r p,e=.Subscript l r p/\k l r p=true:=by obtain⟨x,h⟩:=z7 h;obtain⟨l,r,p,rfl⟩:∃l r p,e=.Subscript l r p:=Gu.elim (motive_1:=λe=>∃l r p,e=Gu l r p) e x λl r p=>⟨l,r,p,rfl⟩;exact⟨l,r,p,rfl,h⟩
def eName(e:Expr)(k:Str->Pos->Bool):Bool:=el e.ctorIdx 23 λh=>Ew.elim (motive_1:=λ_=>Bool) e h k
def yK(h:eName e k=true):∃x p,e=.Name x p/\k x p=true:=by obtain⟨N,h⟩:=z7 h;obtain⟨x,p,rfl⟩:∃x p,e=.Name x p:=Ew.elim (motive_1:=λe=>∃x p,e=Ew x p) e N λx p=>⟨x,p,rfl⟩;exact⟨x,p,rfl,h⟩
def VC(e:Expr)(k:List Expr->Pos->Bool):Bool:=el e.ctorIdx 24 λh=>Expr.List.elim (motive_1:=λ_=>Bool) e h k
def qh(h:VC e k=true):∃x p,e=.List x p/\k x p=true:=by obtain⟨N,h⟩:=z7 h;obtain⟨x,p,rfl⟩:∃x p,e=.List x p:=Expr.List.elim (motive_1:=λe=>∃x p,e=Expr.List x p) e N λx p=>⟨x,p,rfl⟩;exact⟨x,p,rfl,h⟩
def cM(e:Expr)(k:List Expr->Nat->Pos->Bool):Bool:=el e.ctorIdx 25 λh=>Expr.Tuple.elim (motive_1:=λ_=>Bool) e h k
def vz(h:cM e k=true):∃x n p,e=.Tuple x n p/\k x n p=true:=by obtain⟨N,h⟩:=z7 h;obtain⟨x,n,p,rfl⟩:∃x n p,e=.Tuple x n p:=Expr.Tuple.elim (motive_1:=λe=>∃x n p,e=Expr.Tuple x n p) e N λx n p=>⟨x,n,p,rfl⟩;exact⟨x,n,p,rfl,h⟩
def SJ(e:Expr)(k:Option Expr->Option Expr->Option Expr->Pos->Bool):Bool:=el e.ctorIdx 26 λh=>Expr.Slice.elim (motive_1:=λ_=>Bool) e h k
def cK(h:SJ e k=true):∃x y z p,e=.Slice x y z p/\k x y z p=true:=by obtain⟨N,h⟩:=z7 h;obtain⟨x,y,z,p,rfl⟩:∃x y z p,e=.Slice x y z p:=Expr.Slice.elim (motive_1:=λe=>∃x y z p,e=Expr.Slice x y z p) e N λx y z p=>⟨x,y,z,p,rfl⟩;exact⟨x,y,z,p,rfl,h⟩
def XS(e:Stmt)(k:Option Expr->Pos->Bool):Bool:=el e.ctorIdx 3 λh=>Stmt.Return.elim (motive_2:=λ_=>Bool) e h k
def sQ(h:XS e k=true):∃o p,e=.Return o p/\k o p=true:=by obtain⟨x,h⟩:=z7 h;obtain⟨o,p,rfl⟩:∃o p,e=.Return o p:=Stmt.Return.elim (motive_2:=λe=>∃o p,e=Stmt.Return o p) e x λo p=>⟨o,p,rfl⟩;exact⟨o,p,rfl,h⟩
def eD(e:Stmt)(k:List Expr->Expr->Pos->Bool):Bool:=el e.ctorIdx 5 λh=>Stmt.Assign.elim (motive_2:=λ_=>Bool) e h k
def w9(h:eD e k=true):∃ts v p,e=.Assign ts v p/\k ts v p=true:=by obtain⟨x,h⟩:=z7 h;obtain⟨ts,v,p,rfl⟩:∃ts v p,e=.Assign ts v p:=Stmt.Assign.elim (motive_2:=λe=>∃ts v p,e=Stmt.Assign ts v p) e x λts v p=>⟨ts,v,p,rfl⟩;exact⟨ts,v,p,rfl,h⟩
def Rw(e:Stmt)(k:Expr->Expr->List Stmt->List Stmt->Pos->Bool):Bool:=el e.ctorIdx 9 λh=>Stmt.For.elim (motive_2:=λ_=>Bool) e h k
def ZN(h:Rw e k=true):∃t i b c p,e=.For t i b c p/\k t i b c p=true:=by obtain⟨x,h⟩:=z7 h;obtain⟨t,i,b,c,p,rfl⟩:∃t i b c p,e=.For t i b c p:=Stmt.For.elim (motive_2:=λe=>∃t i b c p,e=Stmt.For t i b c p) e x λt i b c p=>⟨t,i,b,c,p,rfl⟩;exact⟨t,i,b,c,p,rfl,h⟩
def sIf(e:Stmt)(k:Expr->List Stmt->List Stmt->Pos->Bool):Bool:=el e.ctorIdx 12 λh=>Stmt.If.elim (motive_2:=λ_=>Bool) e h k
def mh(h:sIf e k=true):∃c a b p,e=.If c a b p/\k c a b p=true:=by obtain⟨x,h⟩:=z7 h;obtain⟨c,a,b,p,rfl⟩:∃c a b p,e=.If c a b p:=Stmt.If.elim (motive_2:=λe=>∃c a b p,e=Stmt.If c a b p) e x λc a b p=>⟨c,a,b,p,rfl⟩;exact⟨c,a,b,p,rfl,h⟩
def sRs(e:Stmt)(k:Option Expr->Option Expr->Pos->Bool):Bool:=el e.ctorIdx 16 λh=>Stmt.Raise.elim (motive_2:=λ_=>Bool) e h k
def gI(h:sRs e k=true):∃a b p,e=.Raise a b p/\k a b p=true:=by obtain⟨x,h⟩:=z7 h;obtain⟨a,b,p,rfl⟩:∃a b p,e=.Raise a b p:=Stmt.Raise.elim (motive_2:=λe=>∃a b p,e=Stmt.Raise a b p) e x λa b p=>⟨a,b,p,rfl⟩;exact⟨a,b,p,rfl,h⟩
def U3(e:Stmt)(k:Expr->Pos->Bool):Bool:=el e.ctorIdx 24 λh=>Stmt.Expr.elim (motive_2:=λ_=>Bool) e h k
def pZ(h:U3 e k=true):∃x p,e=.Expr x p/\k x p=true:=by obtain⟨N,h⟩:=z7 h;obtain⟨x,p,rfl⟩:∃x p,e=.Expr x p:=Stmt.Expr.elim (motive_2:=λe=>∃x p,e=Stmt.Expr x p) e N λx p=>⟨x,p,rfl⟩;exact⟨x,p,rfl,h⟩
noncomputable def l1{N:Type}(O:List N)(k:N->Bool):Bool:=match O with
 |[x]=>k x
 |_=>false
def yc(h:l1 N k=true):∃x,N=[x]/\k x=true:=by
 cases N with
 |nil=>cases h
 |cons x N=>cases N with
  |nil=>exact⟨x,rfl,h⟩
  |cons _ _=>cases h
noncomputable def lc{N:Type}(O:List N)(k:N->List N->Bool):Bool:=match O with
 |x::O=>k x O
 |[]=>false
def yR(h:lc xs k=true):∃x ys,xs=x::ys/\k x ys=true:=by
 cases xs with
 |nil=>cases h
 |cons x ys=>exact⟨x,ys,rfl,h⟩
def V8{xs}{k:α->α->Bool}(h:(lc xs λx ys=>l1 ys (k x))=true):∃x y,xs=[x,y]/\k x y=true:=by obtain⟨x,ys,rfl,h⟩:=yR h;obtain⟨y,rfl,h⟩:=yc h;exact⟨x,y,rfl,h⟩
noncomputable def o1{N:Type}(x:Option N)(k:N->Bool):Bool:=match x with
 |some x=>k x
 |none=>false
def tF(h:o1 x k=true):∃y,x=some y/\k y=true:=by
 cases x with
 |none=>cases h
 |some x=>exact⟨x,rfl,h⟩
def zM(h:(a&&b)=true):a=true/\b=true:=by
 cases a with
 |false=>cases h
 |true=>exact⟨rfl,h⟩
def eOp(u:UnaryOp)(e:Expr)(k:Expr->Bool):Bool:=eUn e λo x _=>decide (o=u)&&k x
def qI(h:eOp u e k=true):∃x p,e=.UnaryOp u x p/\k x=true:=by obtain⟨o,x,p,rfl,O⟩:=YJ h;obtain⟨h1,N⟩:=zM O;cases of_decide_eq_true h1;exact⟨x,p,rfl,N⟩
def eBl(u:BoolOp)(e:Expr)(k:Expr->List Expr->Bool):Bool:=X9 e λo x _=>decide (o=u)&&lc x k
def qG(h:eBl u e k=true):∃x N p,e=.BoolOp u (x::N) p/\k x N=true:=by obtain⟨o,N,p,rfl,Q⟩:=gw h;obtain⟨h1,P⟩:=zM Q;cases of_decide_eq_true h1;obtain⟨x,ys,rfl,O⟩:=yR P;exact⟨x,ys,p,rfl,O⟩
def eC1(e:Expr)(k:Expr->CmpOp->Expr->Bool):Bool:=VA e λl os x _=>l1 os λo=>l1 x λr=>k l o r
def qH(h:eC1 e k=true):∃l o r p,e=.Compare l [o] [r] p/\k l o r=true:=by obtain⟨l,os,x,p,rfl,h⟩:=lS h;obtain⟨o,rfl,h⟩:=yc h;obtain⟨r,rfl,h⟩:=yc h;exact⟨l,o,r,p,rfl,h⟩
def eC2(e:Expr)(k:Expr->CmpOp->CmpOp->Expr->Expr->Bool):Bool:=VA e λl os x _=>lc os λo os=>l1 os λO=>lc x λr x=>l1 x λN=>k l o O r N
def iu(h:eC2 e k=true):∃l o N r x p,e=.Compare l [o,N] [r,x] p/\k l o N r x=true:=by obtain⟨l,os,O,p,rfl,h⟩:=lS h;obtain⟨o,os,rfl,h⟩:=yR h;obtain⟨N,rfl,h⟩:=yc h;obtain⟨r,O,rfl,h⟩:=yR h;obtain⟨x,rfl,h⟩:=yc h;exact⟨l,o,N,r,x,p,rfl,h⟩
def eD0(e:Expr):Bool:=SG e λks vs _=>ks.isEmpty&&vs.isEmpty
def iw(h:eD0 e=true):∃p,e=.Dict [] [] p:=by obtain⟨ks,vs,p,rfl,h⟩:=cF h;obtain⟨h1,x⟩:=zM h;rw[A0.mp h1,A0.mp x];exact⟨p,rfl⟩
def eCN(e:Expr)(k:Str->List Expr->Bool):Bool:=cB e λf N ks _=>ks.isEmpty&&eName f λx _=>k x N
def yz(h:eCN e k=true):∃x p N pos,e=.Call (.Name x p) N [] pos/\k x N=true:=by obtain⟨f,N,ks,pos,rfl,h⟩:=oi h;obtain⟨h1,h⟩:=zM h;obtain⟨x,p,rfl,h⟩:=yK h;rw[A0.mp h1];exact⟨x,p,N,pos,rfl,h⟩
def eMt(e:Expr)(k:Expr->Str->Pos->Expr->Pos->Bool):Bool:=cB e λf N ks cp=>ks.isEmpty&&T9 f λob x ap=>l1 N λy=>k ob x ap y cp
def iy(h:eMt e k=true):∃ob x ap y cp,e=.Call (.Attribute ob x ap) [y] [] cp/\k ob x ap y cp=true:=by obtain⟨f,N,ks,pos,rfl,h⟩:=oi h;obtain⟨h1,h⟩:=zM h;obtain⟨ob,x,ap,rfl,h⟩:=cA h;obtain⟨y,rfl,h⟩:=yc h;rw[A0.mp h1];exact⟨ob,x,ap,y,pos,rfl,h⟩
def eSS(e:Expr)(k:Expr->Option Expr->Option Expr->Option Expr->Bool):Bool:=YI e λl r _=>SJ r λx y z _=>k l x y z
def YG(h:eSS e k=true):∃l x y z p pos,e=.Subscript l (.Slice x y z p) pos/\k l x y z=true:=by obtain⟨l,r,pos,rfl,h⟩:=qi h;obtain⟨x,y,z,p,rfl,h⟩:=cK h;exact⟨l,x,y,z,p,pos,rfl,h⟩
noncomputable def gC(g:Fo)(k:Expr->Expr->List Expr->Bool):Bool:=decide (g.is_async=0)&&k g.target g.iter g.ifs
def VL(h:gC g k=true):∃t i f,g=⟨t,i,f,0⟩/\k t i f=true:=by obtain⟨t,i,f,a⟩:=g;obtain⟨h1,h⟩:=zM h;have h1:a=0:=of_decide_eq_true h1;subst h1;exact⟨t,i,f,rfl,h⟩
def eG1(e:Expr)(k:Expr->Expr->Expr->List Expr->Scope->Bool):Bool:=SE e λx N sc _=>l1 N λg=>gC g λt i f=>k x t i f sc
def tu(h:eG1 e k=true):∃x t i f sc p,e=.ListComp x [⟨t,i,f,0⟩] sc p/\k x t i f sc=true:=by obtain⟨x,Q,sc,p,rfl,P⟩:=cE h;obtain⟨g,rfl,O⟩:=yc P;obtain⟨t,i,f,rfl,N⟩:=VL O;exact⟨x,t,i,f,sc,p,rfl,N⟩
end M
end
section
namespace L2
open PySem PySem.Spec PyProof.Rows
noncomputable def ud(cells:List (Str × Addr)):List (Str × Dv)->List (Str × Addr)->List (Str × Addr)
 |[],acc=>acc
 |(n,k)::r,acc=>if k == .free then (match cells.lookup n with|some c=>ud cells r ((n,c)::acc)|none=>ud cells r acc) else ud cells r acc
theorem ux:∀names acc,(∀x∈names,x.2=.free->∃c,env.cells.lookup x.1=some c) ->
 (forIn names acc λx cs =>(if x.2 == .free then do let a <-cellOf env x.1;pure (Co ((x.1,a)::cs)) else pure (Co cs):Sem (ForInStep (List (Str × Addr)))))=pure (ud env.cells names acc)
 |[],acc,_=>rfl
 |(n,k)::r,acc,h=>by
  rw[EM];dsimp only;unfold ud;by_cases hk:(k == AJ)=true
  . have P:k=.free:=by simpa using hk
    obtain⟨c,Q⟩:=h (n,k) Ax P;have O:env.cells.lookup n=some c:=Q;have N:cellOf env n=pure c:=by unfold cellOf;rw[O]
    rw[if_pos hk,if_pos hk,N,O,Ey,Ey];exact ux r _ λx hx=>h x (Ah _ hx)
  . rw[if_neg hk,if_neg hk,Ey]
    exact ux r _ λx hx=>h x (Ah _ hx)
def wg(h:∀x∈scope.names,x.2=.free->∃c,env.cells.lookup x.1=some c):GD scope env=pure (ud env.cells scope.names []):=by
 have e:=ux (env:=env) scope.names [] h;show (do let cs <-forIn scope.names [] _;pure cs)=_
 refine Eq.trans ?_ e;refine Eq.trans (bind_pure _) ?_;congr 1
theorem tj:∀names acc,(∀x c,acc.lookup x=some c->cells.lookup x=some c)->∀x c,(ud cells names acc).lookup x=some c->cells.lookup x=some c
 |[],acc,h,x,c,e=>h x c e
 |(n,k)::r,acc,h,x,c,e=>by
  unfold ud at e;by_cases hk:(k == AJ)=true
  . rw[if_pos hk]at e
    cases hc:cells.lookup n with
    |none=>rw[hc]at e;exact tj r acc h x c e
    |some d=>
     rw[hc]at e;refine tj r _ (λy z q=>?_) x c e;rw[Aq]at q;cases hy:(y == n) with
     |true=>rw[hy]at q;have N:y=n:=by simpa using hy
            cases q;rw[N];exact hc
     |false=>rw[hy]at q;exact h y z q
  . rw[if_neg hk]at e;exact tj r acc h x c e
theorem wz:∀names acc x c,cells.lookup x=some c->(acc.lookup x=some c\/(x,AJ)∈names)->(∀y d,acc.lookup y=some d->cells.lookup y=some d)->(ud cells names acc).lookup x=some c
 |[],acc,x,c,_,h,_=>by
  rcases h with h|h
  . exact h
  . cases h
 |(n,k)::r,acc,x,c,hc,h,ha=>by
  unfold ud;by_cases hk:(k == AJ)=true
  . rw[if_pos hk]
    cases hn:cells.lookup n with
    |none=>
     refine wz r acc x c hc ?_ ha;rcases h with h|h
     . exact .inl h
     . rcases Ap.mp h with e|e
       . cases e;rw[hn]at hc;cases hc
       . exact .inr e
    |some d=>
     have N:∀y z,((n,d)::acc).lookup y=some z->cells.lookup y=some z:=λy z q=>by
      rw[Aq]at q;cases hy:(y == n) with
      |true=>rw[hy]at q;have O:y=n:=by simpa using hy
             cases q;rw[O];exact hn
      |false=>rw[hy]at q;exact ha y z q
     by_cases hx:x=n
     . subst hx
       refine wz r _ x c hc (.inl ?_) N;rw[hn]at hc;cases hc;simp[Aq]
     . refine wz r _ x c hc ?_ N
       rcases h with h|h
       . refine .inl ?_
         have:(x == n)=false:=by simpa using hx
         rw[Aq,this];exact h
       . rcases Ap.mp h with e|e
         . cases e;exact absurd rfl hx
         . exact .inr e
  . rw[if_neg hk]
    refine wz r acc x c hc ?_ ha;rcases h with h|h
    . exact .inl h
    . rcases Ap.mp h with e|e
      . cases e;exact absurd (by decide) hk
      . exact .inr e
theorem uu:∀names n acc,CD n names acc=CD n names []++acc
 |[],_,_=>rfl
 |(x,k)::r,n,acc=>by
  unfold CD;split
  . rw[uu r (n+1) ((x,n)::acc),uu r (n+1) [(x,n)],Bx];rfl
  . exact uu r n acc
theorem n5:∀names n {x} {c},(x,c)∈CD n names []->(x,Bn)∈names/\n<=c
 |[],_,_,_,h=>by cases h
 |(y,k)::r,n,x,c,h=>by
  unfold CD at h;split at h
  . rename_i hk
    rw[uu]at h;rcases AD.mp h with h|h
    . obtain⟨h1,N⟩:=n5 r (n+1) h
      exact⟨Ah _ h1,⋯⟩
    . cases AU.mp h
      have:k=.cell:=by simpa using hk
      rw[this];exact⟨Ax,Ad _⟩
  . obtain⟨h1,N⟩:=n5 r n h
    exact⟨Ah _ h1,N⟩
theorem nz:∀names n {x},(x,Bn)∈names->∃c,(x,c)∈CD n names []
 |[],_,_,h=>by cases h
 |(y,k)::r,n,x,h=>by
  unfold CD;rcases Ap.mp h with e|h
  . cases e
    rw[if_pos (by rfl),uu]
    exact⟨n,Be _ Ax⟩
  . split
    . obtain⟨c,N⟩:=nz r (n+1) h
      rw[uu];exact⟨c,BB _ N⟩
    . exact nz r n h
def bh{l:List (Str × Addr)}:(x,c)∈l->∃d,l.lookup x=some d:=by
 induction l with
 |nil=>intro h;cases h
 |cons p r N=>
  intro h;rw[Aq];cases hx:x == p.1 with
  |true=>exact⟨_,rfl⟩
  |false=>
   rcases Ap.mp h with e|h
   . rw[<-e]at hx;simp at hx
   . exact N h
def jG{l m:List (Str × Addr)}{x:Str}:(l++m).lookup x=match l.lookup x with|some c=>some c|none=>m.lookup x:=by
 induction l with
 |nil=>rfl
 |cons p r N=>
  rw[List.cons_append,Aq,Aq];cases hx:x == p.1 with
  |true=>rfl
  |false=>exact N
noncomputable def wk(sc:Scope)(C:Addr):List (Str × Addr):=CD (C+1) sc.names []
def Y5(h:Heap)sc:∃h',CellsOk h' (h.objs.size+1) (wk sc h.objs.size):=by
 have ok:=cellsFrom_ok sc.names (h.push {cls:=.type "dict",data:=.dict #[]}) (h.objs.size+1) [] ⟨λ_ _ x=>(nomatch x),FC⟩ (by rw[BA];exact Ad _)
 rw[BA]at ok;exact⟨_,ok⟩
abbrev Cx.comp(X:Cx)(N:List Str)(sc:Scope)(C:Addr)(s:Shared)(H:Hp)(ex:List Addr):Cx:=
 {X with N:=N,l:=s,r:=H,a:=compEnvC sc (wk sc C++ud X.a.cells sc.names []) C X.a,k:=X.g,m:=ex,q:=λx=>sc.names.any λp=>decide (p=(x,Bn)),n:=[],i:=λ_ _=>False}
structure zx(X:Cx)(N:List Str)(sc:Scope)(fr:List (Option Nat)):Prop where
 b:sc.kind=.function
 e:∀x,(x,Bn)∈sc.names->(x,AJ)∈sc.names->False
 a:∀x∈sc.names,x.2=.local->sc.names.lookup x.1=some .local
 d:∀x∈sc.names,x.2=.free->X.a.kindOf x.1=some .cell\/X.a.kindOf x.1=some .free
 g:fr.length=N.length
 f:∀(i j:Nat) (x:Str),N[i]?=some x->fr[i]?=some (some j)->X.N[j]?=some x/\(x,AJ)∈sc.names
 h:∀x,sc.names.lookup x=some .local->(x,AJ)∈sc.names->False
noncomputable def zh(fr:List (Option Nat))(σ:St):St:=fr.map λo=>match o with|some j=>(σ[j]?).join|none=>none
def mf(h:(relabel sc env).names.lookup x=some .cell\/(relabel sc env).names.lookup x=some .free):(x,AJ)∈sc.names\/(x,Bn)∈sc.names:=by
 have N:∀(names:List (Str × Dv)),((names.map λ(n,k)=>if (k == AJ&&env.scope.kind == .function&&env.kindOf n == some .cell) then (n,Bn) else (n,k)).lookup x=some .cell \/
  (names.map λ(n,k)=>if (k == AJ&&env.scope.kind == .function&&env.kindOf n == some .cell) then (n,Bn) else (n,k)).lookup x=some .free)->(x,AJ)∈names\/(x,Bn)∈names:=by
  intro names;induction names with
  |nil=>intro h;simp at h
  |cons p r Q=>
   obtain⟨n,k⟩:=p;intro h;rw[AW]at h;dsimp only at h;by_cases hx:x=n
   . subst hx
     by_cases hf:k=.free
     . subst hf;exact .inl Ax
     . have P:(k == AJ)=false:=by simpa using hf
       rw[P]at h;simp only[Ct,Ba,if_false,Aq,beq_self_eq_true]at h;rcases h with h|h
       . cases h;exact .inr Ax
       . cases h;exact absurd rfl hf
   . have O:(x == n)=false:=by simpa using hx
     have:=Q (by split at h<;>simpa only[Aq,O] using h)
     exact this.elim (λz=>.inl (Ah _ z)) λz=>.inr (Ah _ z)
 exact N sc.names h
def vV(h:sc.names.lookup x=some .cell):(relabel sc env).names.lookup x=some .cell:=by
 have N:∀(names:List (Str × Dv)),names.lookup x=some .cell->(names.map λ(n,k)=>if (k == AJ&&env.scope.kind == .function&&env.kindOf n == some .cell) then (n,Bn) else (n,k)).lookup x=some .cell:=by
  intro names;induction names with
  |nil=>intro h;simp at h
  |cons p r O=>
   obtain⟨n,k⟩:=p;intro h;rw[AW];dsimp only;cases hx:(x == n) with
   |true=>
    rw[Aq,hx]at h;cases h;have e:(Bn == AJ)=false:=rfl;rw[e];simp only[Ct,Ba,if_false,Aq,hx]
   |false=>
    rw[Aq,hx]at h;have:=O h;split<;>simpa only[Aq,hx] using this
 exact N sc.names h
def sP(P:∀y∈sc.names,y.2=.local->sc.names.lookup y.1=some .local)(h:sc.names.lookup x=some .free) :
 (relabel sc env).names.lookup x=some .cell\/(relabel sc env).names.lookup x=some .free:=by
 have N:∀(names:List (Str × Dv)),names.lookup x=some .free->((names.map λ(n,k)=>if (k == AJ&&env.scope.kind == .function&&env.kindOf n == some .cell) then (n,Bn) else (n,k)).lookup x=some .cell \/
  (names.map λ(n,k)=>if (k == AJ&&env.scope.kind == .function&&env.kindOf n == some .cell) then (n,Bn) else (n,k)).lookup x=some .free):=by
  intro names;induction names with
  |nil=>intro h;simp at h
  |cons p r O=>
   obtain⟨n,k⟩:=p;intro h;rw[AW];dsimp only;cases hx:(x == n) with
   |true=>
    rw[Aq,hx]at h;cases h;split
    . left;simp only[Aq,hx]
    . right;simp only[Aq,hx]
   |false=>
    rw[Aq,hx]at h;have:=O h;split<;>simpa only[Aq,hx] using this
 exact N sc.names h
theorem zx.cells(S:zx X N sc fr)(ok:X.Ok):∀x∈sc.names,x.2=.free->∃c,X.a.cells.lookup x.1=some c:=λx hx hk=>ok.p x.1 (S.d x hx hk)
def wy(h:(wk sc C++ud cells sc.names []).lookup x=some c):((wk sc C).lookup x=some c)\/((wk sc C).lookup x=none/\cells.lookup x=some c):=by
 rw[jG]at h;cases ho:(wk sc C).lookup x with
 |some d=>rw[ho]at h;exact .inl h
 |none=>rw[ho]at h;exact .inr ⟨rfl,tj sc.names [] (λx c e=>by simp at e) x c h⟩
def pO(h:(wk sc C).lookup x=some c):@LE.le Nat _ (C+1) c:=(n5 sc.names (C+1) (mem_of_lookup h)).2
def aE(S:zx X N sc fr)(h:(x,AJ)∈sc.names):(wk sc C).lookup x=none:=by
 cases ho:(wk sc C).lookup x with
 |none=>rfl
 |some d=>exact(S.e x (n5 sc.names (C+1) (mem_of_lookup ho)).1 h).elim
def Z9(I:Inv X pins σ H s)(S:zx X N sc fr)(hf:∀b∈fp,uc X pins H b)(R:∀b∈fp,b<s.heap.objs.size):(X.comp N sc s.heap.objs.size s H fp).Ok:=by
 obtain⟨h',W⟩:=Y5 s.heap sc;have Q:∀x c,X.a.cells.lookup x=some c->@LT.lt Nat _ c s.heap.objs.size:=λx c e=>by obtain⟨v,z⟩:=I.M x c e;exact z.lt
 refine⟨I.C.i,S.b,I.C.j,I.C.t,Ad _,λx y c e1 e2=>?_,λx h=>?_,λx c h e=>?_,I.C.k,I.C.g,.inl rfl,λb P=>?_,λb o e=>I.bs b o e,?_,λb o e P=>?_,λb P z=>?_,I.stack,I.mx⟩
 . rcases wy e1 with e1|⟨_,e1⟩<;>rcases wy e2 with e2|⟨_,e2⟩
   . exact name_of_addr W.apart (mem_of_lookup e1) (mem_of_lookup e2)
   . exact absurd (Aw (Q _ _ e2) (As (Cz _) (pO e1))) (Bc _)
   . exact absurd (Aw (Q _ _ e1) (As (Cz _) (pO e2))) (Bc _)
   . exact I.C.r x y c e1 e2
 . show ∃c,(wk sc s.heap.objs.size++ud X.a.cells sc.names []).lookup x=some c
   rw[jG];rcases mf h with m|m
   . obtain⟨c,U⟩:=S.cells I.C (x,.free) m rfl
     rw[aE S m];exact⟨c,wz sc.names [] x c U (.inr m) (λy d e=>by simp at e)⟩
   . obtain⟨c,U⟩:=nz sc.names (s.heap.objs.size+1) m
     obtain⟨d,hd⟩:=bh U;have O:(wk sc s.heap.objs.size).lookup x=some d:=hd;rw[O];exact⟨d,rfl⟩
 . have m:(x,Bn)∈sc.names:=by obtain⟨p,hp,Z⟩:=Bu.mp h;rw[<-of_decide_eq_true Z];exact hp
   rcases wy e with e|⟨e,_⟩
   . exact As (Cz _) (pO e)
   . obtain⟨c',U⟩:=nz sc.names (s.heap.objs.size+1) m
     obtain⟨d,hd⟩:=bh U;have O:(wk sc s.heap.objs.size).lookup x=some d:=hd;rw[O]at e;cases e
 . obtain⟨Y,f1,f2,f3,f4,f5⟩:=hf b P
   refine⟨AL (R b P),λx c e=>?_⟩;rcases wy e with e|⟨_,e⟩
   . exact λz=>absurd (Aw (z▸R b P) (As (Cz _) (pO e))) (Bc _)
   . exact f4 x c e
 . exact As I.C.q I.sz
 . obtain⟨Y,f1,f2,f3,f4,f5⟩:=hf b P
   rcases f3 with f3|f3
   . exact I.C.m b o e f3
   . exact absurd (Aw (Al e) (As I.C.q f3)) (Bc _)
 . obtain⟨Y,f1,f2,f3,f4,f5⟩:=hf b P
   rcases Ap.mp (I.jy b z) with e|e
   . exact f1 e
   . exact f2 e
def kl(I:Inv X pins σ H s)(S:zx X N sc fr)(hf:∀b∈fp,uc X pins H b)(Z:∀b∈fp,b<s.heap.objs.size)
 (Y:h'.Ns s.heap.objs.size (λ_=>none)) (k:∀b o,s.heap.get? b=some o->h'.get? b=some o) (ku:∀x c,(wk sc s.heap.objs.size).lookup x=some c->h'.IsCell c none):Inv (X.comp N sc s.heap.objs.size s H fp) [] (zh fr σ) H {s with heap:=h',toks:=tk}:=by
 refine⟨Z9 I S hf Z,rfl,I.F,Un.kept k,⟨_,Y,λi x v e1 e2 e3=>?_⟩,λx c e=>?_,I.B.fresh (Ad _),λx c e=>?_,λp hp=>(by simp at hp),I.B.kept k,?_⟩
 . have P:(fr.map λo=>match o with|some j=>(σ[j]?).join|none=>none)[i]?=some (some v):=e2
   rw[AE]at P;cases hfi:fr[i]? with
   |none=>rw[hfi]at P;cases P
   |some o=>
    rw[hfi]at P;cases o with
    |none=>cases P
    |some j=>
     obtain⟨n1,n2⟩:=S.f i j x e1 hfi;have e3':σ[j]?=some (some v):=by
      have q:(σ[j]?).join=some v:=A1 P;cases hσ:σ[j]? with
      |none=>rw[hσ]at q;cases q
      |some w=>rw[hσ]at q;cases w with
       |none=>cases q
       |some w'=>have:w'=v:=A1 q
                 rw[this]
     have hk:=S.d (x,.free) n2 rfl;obtain⟨m,hn,hl⟩:=I.O;obtain⟨u,r,l⟩:=hl j x v n1 e3' (hk.elim (λz=>.inr (.inl z)) λz=>.inr (.inr z));refine⟨u,r,?_⟩;rcases l with⟨R,_⟩|⟨_,c,hc,z⟩
     . rcases hk with hk|hk<;>(rw[hk]at R;cases R)
     . refine .inr ⟨?_,c,(by show (wk sc s.heap.objs.size++ud X.a.cells sc.names []).lookup x=some c;rw[jG,aE S n2];exact wz sc.names [] x c hc (.inr n2) (λy d e=>by simp at e)),?_⟩
       . rcases e3 with e3|e3|e3
         . -- a local of that name: cannot be,the name is free in the block
           exfalso;have Q:sc.names.lookup x=some .local:=by
            have U:∀(names:List (Str × Dv)),(names.map λ(n,k)=>if (k == AJ&&X.a.scope.kind == .function&&X.a.kindOf n == some .cell) then (n,Bn) else (n,k)).lookup x=some .local->names.lookup x=some .local:=by
             intro names;induction names with
             |nil=>intro h;simp at h
             |cons p r ih=>
              obtain⟨n,kk⟩:=p;intro h;rw[AW]at h;dsimp only at h;cases hx:(x == n) with
              |true=>
               split at h
               . simp only[Aq,hx]at h;cases h
               . simp only[Aq,hx]at h ⊢;exact h
              |false=>
               rw[Aq,hx];refine ih ?_;split at h<;>simpa only[Aq,hx] using h
            exact U sc.names e3
           exact S.h x Q n2
         . exact .inl e3
         . exact .inr e3
       . obtain⟨o,W,hd⟩:=z
         exact⟨o,k _ _ W,hd⟩
 . rcases wy e with e|⟨_,e⟩
   . exact⟨none,ku x c e⟩
   . obtain⟨v,o,W,hd⟩:=I.M x c e
     exact⟨v,o,k _ _ W,hd⟩
 . rcases wy e with e|⟨_,e⟩
   . exact I.B.fresh (As (Cz _) (pO e))
   . exact I.G x c e
 . show (fr.map _).length=N.length
   rw[Ac];exact S.g
def mz:List TT->TT
 |[]=>λ_ H Q=>Q true H
 |t::ts=>λσ H Q=>t σ H λc H1=>if c=true then mz ts σ H1 Q else Q false H1
inductive PTs(X:Cx):List Expr->List TT->Prop
 |b:PTs X [] []
 |a {c:Expr} {cs:List Expr} {t:TT} {ts:List TT}:PT X c t->PTs X cs ts->PTs X (c::cs) (t::ts)
theorem rj{X:Cx}(h:Q false s):∀cs:List Expr,
 wpAny (model X.f X.w) X.A (forIn cs false λc r=>if r=true then do let ok <-isTrue c X.a (eval c X.a);pure (Co ok) else pure (Co r)) Q E s
 |[]=>Aj h
 |c::cs=>by rw[EM];exact xd (Aj (rj h cs))
theorem PTs.run:∀{cs} {ts},PTs X cs ts->∀{pins} {s} {σ} {H} {Q},Inv X pins σ H s->mz ts σ H Q ->
 wpAny (model X.f X.w) X.A (forIn cs true λc r=>if r=true then do let ok <-isTrue c X.a (eval c X.a);pure (Co ok) else pure (Co r)) (TP X pins σ Q) X.i s
 |_,_,.b,pins,s,σ,H,Q,I,h=>Aj ⟨H,I,h⟩
 |_,_,.a hc hs,pins,s,σ,H,Q,I,h=>by
  rw[EM];refine xd (xd (thn (hc pins s σ H _ I h) λc s1 ⟨H1,I1,q1⟩=>Aj ?_));cases c with
  |true=>exact hs.run I1 q1
  |false=>exact rj ⟨H1,I1,q1⟩ _
abbrev TB:=(St->Hp->Prop)->St->Hp->Prop
def PB(X:Cx)(B:Sem PUnit)(tb:TB):Prop:=
 ∀(pins:List (Addr × Obj)) (s:Shared) (σ:St) (H:Hp) (N:St->Hp->Prop),Inv X pins σ H s->tb N σ H->wpAny (model X.f X.w) X.A B (λ_ s'=>∃x H',Inv X pins x H' s'/\N x H') X.i s
def tTB(ts:List TT)(tb:TB):TS:=λD σ H=>mz ts σ H λc H1=>if c=true then tb D.a σ H1 else D.a σ H1
def kF(J:It)(g:TG)(tb:TS)(D:Ends)(σ:St)(H:Hp):Prop:=∃W:Nat->Nat->St->Hp->Prop,(∃m,W 0 m σ H)/\∀i m σ H,W i m σ H ->
 (J.a i H/\D.a σ H)\/(J.c i H/\∃N:St->Hp->Prop,(∀O H',N O H'->∃Q,Q<m/\W (i+1) Q O H')/\∀x H',J.b i H x H'->g x σ H' λP H2=>tb {D with a:=N,d:=N,c:=D.a} P H2)
def sy{X:Cx}{elt:Expr}{gens:List Fo}{csc:Scope}{cpos:Pos}{d:Nat}{tg:Expr}{p:Pos}{ifs:List Expr}{B:Sem PUnit}{acc:Value}{it:Addr}{fp:List Addr}{tn:Nat->Heap->Prop}{J:It}{g:TG}{ts:List TT}{tb:TB}{D:Ends}
 {pins:List (Addr × Obj)} {σ:St} {H:Hp} {s:Shared} {R:Result->Shared->Prop}
 (heq:EY (.ListComp elt gens csc cpos) d (.ref it) acc X.a=(do
  standAt p
  match <-pyNext (.ref it) with
  |none=>pure (.done .next)
  |some v=>
   B5 tg (.ref it) v
   assign tg X.a v
   let mut ok:=true
   for c in ifs do
    if ok then ok <-isTrue c X.a (eval c X.a)
   if ok then B
   again (.compLoop (.ListComp elt gens csc cpos) d (.ref it) acc X.a)))
 (hx:X.i=λ_ _=>False) (hc:X.j=true) (T:Turn X.f X.w X.K tg J fp it tn) (hg:PG X tg g) (ht:PTs X ifs ts) (hb:PB X B tb)
 (I:Inv X pins σ H s) (st:tn 0 s.heap) (f:∀b∈fp,uc X pins H b) (h:kF J g (tTB ts tb) D σ H)
 (hR:∀O H' s',Inv X pins O H' s'->D.a O H'->(∀b∈fp,H' b=none)->R (.ok .next) s') :
 codeAny (model X.f X.w) X.A (.compLoop (.ListComp elt gens csc cpos) d (.ref it) acc X.a) R s:=by
 obtain⟨W,⟨m0,w0⟩,turn⟩:=h;have Z:∀{H':Hp},(∀b∈fp,H' b=none)->∀b∈fp,uc X pins H' b:=λhn b hb=>⟨hn b hb,(f b hb).2⟩;have no:∀{α:Type} {t:Sem α} {Q:α->Shared->Prop} {E':Value->Shared->Prop} {s:Shared},wpAny (model X.f X.w) X.A t Q X.i s->wpAny (model X.f X.w) X.A t Q E' s:=λh=>AN h (λ_ _ q=>q) λ_ _ z=>by rw[hx]at z;exact z.elim
 refine codeAny_loop rfl (λn s'=>∃i O H',Inv X pins O H' s'/\tn i s'.heap/\(∀b∈fp,H' b=none)/\W i n O H') (λn s3 hI=>?_) m0 ⟨0,σ,H,I,st,λb hb=>(f b hb).1,w0⟩;obtain⟨i,Y,H3,I3,st3,fr3,w3⟩:=hI;show wpAny _ _ ((EY (.ListComp elt gens csc cpos) d (.ref it) acc X.a).onRaise (λx=>do E9 x X.a;theTreesLotGoes x)) _ _ s3
 refine wpAny_noted ?_;rw[heq];refine xd (A8 (xd ?_));rcases turn i n Y H3 w3 with⟨stop,qn⟩|⟨go,N,hN,step⟩
 . refine no (thn (T.d X rfl rfl rfl hc i pins s3 Y H3 X.i I3 (Z fr3) st3 stop) λr s4 zz=>?_)
   obtain⟨hr,I4⟩:=zz;subst hr;exact Aj (hR Y H3 s4 I4 qn fr3)
 . refine no (thn (T.e X rfl rfl rfl hc i pins s3 Y H3 X.i I3 (Z fr3) st3 go) λr s4 zz=>?_)
   obtain⟨u,hr,h4⟩:=zz;subst hr;refine xd (no (thn h4 λ_ s5 zz=>?_));obtain⟨x,H5,I5,r5,y5,st5,fr5⟩:=zz;have I5':=I5.pinned (Z fr5) (T.c _ _ st5);refine xd (no (thn (hg _ s5 Y H5 x u _ I5' r5 (step x H5 y5)) λ_ s6 zz=>?_));obtain⟨σ6,H6,I6,q6⟩:=zz;refine xd (no (thn (ht.run I6 q6) λok s7 zz=>?_));obtain⟨H7,I7,q7⟩:=zz;have S:∀{U:St} {H7:Hp} {s7:Shared},Inv X (pins++pU fp s5.heap) U H7 s7->N U H7->∃m,m<n/\∃i O H',Inv X pins O H' s7/\tn i s7.heap/\(∀b∈fp,H' b=none)/\W i m O H':=λ{U H7 s7} I7 n7=>by obtain⟨m',hm,w7⟩:=hN U H7 n7;refine⟨m',hm,i+1,U,H7,I7.sX,T.a _ _ _ st5 λb hb o e=>(I7.P (b,o) (Be _ (Be _ (vP hb e)))).1,λb hb=>?_,w7⟩;obtain⟨o,e,d⟩:=T.c _ _ st5 b hb;exact(I7.P (b,o) (Be _ (Be _ (vP hb e)))).2.1
   cases ok with
   |false=>exact Aj ⟨rfl,S I7 q7⟩
   |true=>exact xd (no (thn (hb _ s7 σ6 H7 N I7 q7) λ_ s8 ⟨σ8,H8,I8,n8⟩=>Aj ⟨rfl,S I8 n8⟩))
def rh(acc:Addr)(te:TE):TB:=λN σ H=>te σ H λy H1=>∃ys,H1 acc=some (.b ys)/\ys.length<Ar/\N σ (upd H1 acc (.b (ys++[y])))
def mV(P:PE X elt te):PB X (do let _ <-call (.builtin "list.append") [.ref acc,<-eval elt X.a]) (rh acc te):=by intro pins s σ H Q I h;refine xd (thn (P pins s σ H _ I h) λu s1 x=>?_);obtain⟨y,H1,S,r1,ys,O,hz,q⟩:=x;refine xd (thn (nD pins s1 σ H1 (.c acc) [y] (.ref acc) [u] (λ_ H'=>Q σ H') S rfl (.cons r1 .nil) ⟨acc,ys,y,rfl,rfl,O,hz,q⟩) λ_ s2 x=>?_);obtain⟨_,H2,R,_,N⟩:=x;exact Aj ⟨σ,H2,R,N⟩
def uk(fr:List (Option Nat))(wi:TI)(g:TG)(ts:List TT)(tb:Addr->TB)(σ:St)(H:Hp)(Q:VK):Prop:=
 wi σ H λJ H1=>∀acc,H1 acc=none->kF J g (tTB ts (tb acc)) ⟨λ_ H'=>Q (.c acc) H',λ_ _=>False,λ_ _=>False,λ_ _=>False⟩ (zh fr σ) (upd H1 acc (.b []))
section
variable {X:Cx}{pins:List (Addr × Obj)}{σ:St}{H:Hp}{s:Shared}{N:List Str}{csc:Scope}{fr:List (Option Nat)}{elt tg iter:Expr}{ifs:List Expr}{rest:List Fo}{cpos:Pos}{wi:TI}{g:TG}{ts:List TT}{tb:Addr->TB}
def iH{outer:Env}{Q:Env->Shared->Prop}
 (P:∀h':Heap,h'.Ns s.heap.objs.size (λ_=>none)->(∀b o,s.heap.get? b=some o->h'.get? b=some o)->(∀x c,(wk scope s.heap.objs.size).lookup x=some c->h'.IsCell c none) ->
  Q {scope:=scope,locals:=s.heap.objs.size,globals:=globals,cells:=wk scope s.heap.objs.size++cl,qual:=qual,func:=none,code:=outer.code,frame:=outer.frame,builtins:=outer.builtins} {s with heap:=h'}) :
 wpAny M A (Gv scope globals cl [] qual none .none (some outer)) Q E s:=by
 simp only[Gv,Option.isSome_some,if_true];refine xd (wpAny_alloc ?_);refine xd (wpAny_layCells _ (λname kind cells=>by cases hkc:kind == Bn<;>simp[hkc]) _ _ _ _ ?_)
 have ok:=cellsFrom_ok scope.names (s.heap.push {cls:=.type "dict",data:=.dict #[]}) (s.heap.objs.size+1) [] ⟨λ_ _ N=>(nomatch N),FC⟩ (by rw[BA];exact Ad _)
 rw[BA]at ok;rw[show ({s with heap:=s.heap.push {cls:=.type "dict",data:=.dict #[]}}:Shared).heap.objs.size=s.heap.objs.size+1 from BA ..]
 rw[Gw];refine xd (Aj (Aj ?_));rw[uu];exact P _ ((Heap.Ns.new s.heap (.type "dict")).keeps (pushCells_keeps _ _)) (λb o e=>pushCells_keeps _ _ b o (Aa _ e)) λx c O=>(ok.empty x c (mem_of_lookup O)).1
def su{use:Option (Value->Sem Unit)}{QQ:Value->Shared->Prop}{Qv:VK}{B:Value->Env->Sem PUnit}{E:Value->Shared->Prop}(hE:E=X.i)(hc:X.j=true)(S:zx X N csc fr)(hi:PI X tg iter wi)
 (hturn:∀(it:Addr) (acc:Value) (env:Env),EY (.ListComp elt (⟨tg,iter,ifs,0⟩::rest) csc cpos) 0 (.ref it) acc env=(do
  standAt iter.pos
  match <-pyNext (.ref it) with
  |none=>pure (.done .next)
  |some v=>
   B5 tg (.ref it) v
   assign tg env v
   let mut ok:=true
   for c in ifs do
    if ok then ok <-isTrue c env (eval c env)
   if ok then B acc env
   again (.compLoop (.ListComp elt (⟨tg,iter,ifs,0⟩::rest) csc cpos) 0 (.ref it) acc env)))
 (hg:∀C Z H0 ex,PG (X.comp N csc C Z H0 ex) tg g) (ht:∀C Z H0 ex,PTs (X.comp N csc C Z H0 ex) ifs ts)
 (Q:∀C Z H0 ex acc,(∃R,Inv X R σ H0 Z/\∀b∈ex,uc X R H0 b)->PB (X.comp N csc C Z H0 ex) (B (.ref acc) (X.comp N csc C Z H0 ex).a) (tb acc))
 (I:Inv X pins σ H s) (h:uk fr wi g ts tb σ H Qv)
 (hfin:∀acc C H' s',Inv X pins σ H' s'->Qv (.c acc) H'->(∃m,s'.heap.Ns C m)->H' C=none->C≠X.a.locals->X.l.heap.objs.size<=C->(∀x c,X.a.cells.lookup x=some c->c≠C)->(∀p∈X.n++pins,p.1≠C) ->
  compPost (model X.f X.w) X.A X.i use QQ (.ref acc) C (.ok .next) s') :
 wpAny (model X.f X.w) X.A (eval iter X.a) (λx s₁=>wpAny (model X.f X.w) X.A (pyIter x) (λit s₂=>wpAny (model X.f X.w) X.A (newList []) (λacc s₃=>
  wpAny (model X.f X.w) X.A (Gv csc X.a.globals (ud X.a.cells csc.names []) [] X.a.qual none .none (some X.a)) (λY s₄=>
   codeAny (model X.f X.w) X.A (.compStart (.ListComp elt (⟨tg,iter,ifs,0⟩::rest) csc cpos) 0 it acc {Y with scope:=relabel csc X.a}) (compPost (model X.f X.w) X.A E use QQ acc Y.locals) s₄) E s₃) E s₂) E s₁) E s:=by
 subst hE;refine thn (hi pins s σ H _ I h) λv s1 h1=>thn h1 λitv s2 h2=>?_;obtain⟨it,fp,tn,J,H2,e,I2,T,st2,f2,q2⟩:=h2;subst e;refine Bh ?_;have hfr:H2 s2.heap.objs.size=none:=I2.B.fresh (Ad _);have q3:=q2 s2.heap.objs.size hfr;generalize U:({s2 with heap:=s2.heap.push {cls:=.type "list",dict:=none,data:=.seq ([]:List Value).toArray}}:Shared)=s3
 have k23:∀b u,s2.heap.get? b=some u->s3.heap.get? b=some u:=λb u e=>by rw[<-U];exact Aa _ e
 have new3:s3.heap.get? s2.heap.objs.size=some {cls:=.type "list",dict:=none,data:=.seq ([]:List Value).toArray}:=by rw[<-U];exact AF _ rfl
 have I3:Inv X pins σ (upd H2 s2.heap.objs.size (.b [])) s3:=by rw[<-U];exact I2.laid (t':=s2.toks) (λb u e=>Aa _ e) (Ad _) ⟨Bj _,[],0,.nil,AF _ rfl⟩
 have lt2:∀b∈fp,b<s2.heap.objs.size:=λb Q=>by obtain⟨o,e,_⟩:=T.c _ _ st2 b Q;exact Al e
 have hsz:s3.heap.objs.size=s2.heap.objs.size+1:=by rw[<-U];exact BA ..
 have f3:∀b∈fp,uc X pins (upd H2 s2.heap.objs.size (.b [])) b:=λb Q=>⟨by rw[zG (AL (lt2 b Q))];exact(f2 b Q).1,(f2 b Q).2⟩
 have lt3:∀b∈fp,b<s3.heap.objs.size:=λb Q=>by rw[hsz];exact Cr (lt2 b Q)
 refine iH λh4 hns4' k34 own4=>?_;have I4:=kl (tk:=s3.toks) I3 S f3 lt3 hns4' k34 own4;have st4:tn 0 h4:=T.a _ _ _ st2 λb Q o e=>k34 b o (k23 b o e);have f4:∀b∈fp,uc (X.comp N csc s3.heap.objs.size s3 (upd H2 s2.heap.objs.size (.b [])) fp) [] (upd H2 s2.heap.objs.size (.b [])) b:=λb Q=>by have ok:=I4.C;obtain⟨g1,g2⟩:=ok.G b Q;exact⟨(f3 b Q).1,g1,ok.l b Q,.inl Q,g2,λp hp=>by simp at hp⟩
 have fin:∀σ' H' s',Inv (X.comp N csc s3.heap.objs.size s3 (upd H2 s2.heap.objs.size (.b [])) fp) [] σ' H' s'->Qv (.c s2.heap.objs.size) H'->(∀b∈fp,H' b=none) ->
  compPost (model X.f X.w) X.A X.i use QQ (.ref s2.heap.objs.size) s3.heap.objs.size (.ok .next) s':=λσ' H' s' I' q' _=>by
  have IX:Inv X pins σ H' s':=I3.T5 I'.S I'.j I'.B I'.F λb Q=>by obtain⟨g0,g1,g2,g3,g4,g5⟩:=f3 b Q;exact⟨g3,g1,g4,g5⟩
  obtain⟨m,hn,_⟩:=I'.O;refine hfin _ _ H' s' IX q' ⟨m,hn⟩ I'.J (Dl I3.lt) I3.sz (λx c e=>?_) λp hp=>?_
  . obtain⟨w',z⟩:=I3.M x c e
    exact AL z.lt
  . exact AL (Al (I3.P p hp).1)
 have W:codeAny (model X.f X.w) X.A (.compLoop (.ListComp elt (⟨tg,iter,ifs,0⟩::rest) csc cpos) 0 (.ref it) (.ref s2.heap.objs.size) (compEnvC csc (wk csc s3.heap.objs.size++ud X.a.cells csc.names []) s3.heap.objs.size X.a))
  (compPost (model X.f X.w) X.A X.i use QQ (.ref s2.heap.objs.size) s3.heap.objs.size) {s3 with heap:=h4}:=
  sy (X:=X.comp N csc s3.heap.objs.size s3 (upd H2 s2.heap.objs.size (.b [])) fp) (hturn it _ _) rfl hc T (hg _ _ _ _) (ht _ _ _ _) (Q _ _ _ _ _ ⟨pins,I3,f3⟩) I4 st4 f4 q3 fin
 exact codeAny_compStart_list W (T.f X.A 0 _ _ _ st4 W)
def aX{B:Value->Env->Sem PUnit}(hc:X.j=true)(S:zx X N csc fr)(hi:PI X tg iter wi)
 (P:∀(it:Addr) (acc:Value) (env:Env),EY (.ListComp elt (⟨tg,iter,ifs,0⟩::rest) csc cpos) 0 (.ref it) acc env=(do
  standAt iter.pos
  match <-pyNext (.ref it) with
  |none=>pure (.done .next)
  |some v=>
   B5 tg (.ref it) v
   assign tg env v
   let mut ok:=true
   for c in ifs do
    if ok then ok <-isTrue c env (eval c env)
   if ok then B acc env
   again (.compLoop (.ListComp elt (⟨tg,iter,ifs,0⟩::rest) csc cpos) 0 (.ref it) acc env)))
 (hg:∀C O H0 ex,PG (X.comp N csc C O H0 ex) tg g) (ht:∀C O H0 ex,PTs (X.comp N csc C O H0 ex) ifs ts)
 (Y:∀C O H0 ex acc,PB (X.comp N csc C O H0 ex) (B (.ref acc) (X.comp N csc C O H0 ex).a) (tb acc))
 (hs:∀x,Cq iter X.a x=pure x:=by intro _;rfl) :
 PE X (.ListComp elt (⟨tg,iter,ifs,0⟩::rest) csc cpos) (uk fr wi g ts tb):=by
 intro pins s σ H Q I h;rw[eval_ListComp];refine DQ (use:=none) rfl hs (wg (S.cells I.C)) S.b S.a ?_;refine su (use:=none) rfl hc S hi P hg ht (λC O H0 ex acc _=>Y C O H0 ex acc) I h λacc C H' s' I' q' U hC hL h0 W R=>?_;obtain⟨m,U⟩:=U;refine⟨m,U,λh' Z=>⟨.c acc,H',?_,rfl,q'⟩⟩;exact I'.turned (t':=s'.toks) (λb o Y e=>(Z.2 b Y).trans e) hC (A6 (A6 hL)) (.inr h0) W R
def aY{B:Value->Env->Sem PUnit}{tp:St->Addr->TB}(hc:X.j=true)(S:zx X N csc fr)(hi:PI X tg iter wi)
 (R:∀(it:Addr) (acc:Value) (env:Env),EY (.ListComp elt (⟨tg,iter,ifs,0⟩::rest) csc cpos) 0 (.ref it) acc env=(do
  standAt iter.pos
  match <-pyNext (.ref it) with
  |none=>pure (.done .next)
  |some v=>
   B5 tg (.ref it) v
   assign tg env v
   let mut ok:=true
   for c in ifs do
    if ok then ok <-isTrue c env (eval c env)
   if ok then B acc env
   again (.compLoop (.ListComp elt (⟨tg,iter,ifs,0⟩::rest) csc cpos) 0 (.ref it) acc env)))
 (hg:∀C P H0 ex,PG (X.comp N csc C P H0 ex) tg g) (ht:∀C P H0 ex,PTs (X.comp N csc C P H0 ex) ifs ts)
 (Z:∀σ C P H0 ex acc,(∃O,Inv X O σ H0 P/\∀b∈ex,uc X O H0 b)->PB (X.comp N csc C P H0 ex) (B (.ref acc) (X.comp N csc C P H0 ex).a) (tp σ acc))
 (hs:∀x,Cq iter X.a x=pure x:=by intro _;rfl) :
 PE X (.ListComp elt (⟨tg,iter,ifs,0⟩::rest) csc cpos) (λσ=>uk fr wi g ts (tp σ) σ):=by
 intro pins s σ H Q I h;rw[eval_ListComp];refine DQ (use:=none) rfl hs (wg (S.cells I.C)) S.b S.a ?_;refine su (use:=none) rfl hc S hi R hg ht (Z σ) I h λacc C H' s' I' q' W hC hL h0 Y U=>?_;obtain⟨m,W⟩:=W;refine⟨m,W,λh' sb=>⟨.c acc,H',?_,rfl,q'⟩⟩;exact I'.turned (t':=s'.toks) (λb o Z e=>(sb.2 b Z).trans e) hC (A6 (A6 hL)) (.inr h0) Y U
def ax{B:Value->Env->Sem PUnit}{y:Str}{py O:Pos}{i:Nat}(hc:X.j=true)(S:zx X N csc fr)(hi:PI X tg iter wi)
 (R:∀(it:Addr) (acc:Value) (env:Env),EY (.ListComp elt (⟨tg,iter,ifs,0⟩::rest) csc cpos) 0 (.ref it) acc env=(do
  standAt iter.pos
  match <-pyNext (.ref it) with
  |none=>pure (.done .next)
  |some v=>
   B5 tg (.ref it) v
   assign tg env v
   let mut ok:=true
   for c in ifs do
    if ok then ok <-isTrue c env (eval c env)
   if ok then B acc env
   again (.compLoop (.ListComp elt (⟨tg,iter,ifs,0⟩::rest) csc cpos) 0 (.ref it) acc env)))
 (hg:∀C P H0 ex,PG (X.comp N csc C P H0 ex) tg g) (ht:∀C P H0 ex,PTs (X.comp N csc C P H0 ex) ifs ts)
 (hb:∀C P H0 ex acc,PB (X.comp N csc C P H0 ex) (B (.ref acc) (X.comp N csc C P H0 ex).a) (tb acc))
 (hN:X.N.Nodup) (hy:X.N[i]?=some y) (hx:Loc X.a.scope y)
 (Z:Eu (.ListComp elt (⟨tg,iter,ifs,0⟩::rest) csc cpos) (some (.Name y py)) O.line X.a=pure true:=by rfl)
 (hf:X.q y=true\/X.a.scope.names.lookup y=some .local:=by first|exact .inl rfl|exact .inr rfl|assumption)
 (hs:∀x,Cq iter X.a x=pure x:=by intro _;rfl) :
 PS X (.Assign [.Name y py] (.ListComp elt (⟨tg,iter,ifs,0⟩::rest) csc cpos) O) (sV (uk fr wi g ts tb) (wH i)):=by
 intro pins s σ H D I h;rw[exec_Assign_Name_used _ _ _ _ Z];refine xd (A8 (xd ?_));show wpAny _ X.A (do let _ <-Ei (.ListComp elt (⟨tg,iter,ifs,0⟩::rest) csc cpos) csc X.a _ (newList []) false (eval iter X.a) (some (assign (.Name y py) X.a))) _ _ s
 refine xd (AN (DQ (use:=some (assign (.Name y py) X.a)) (Q:=λ_ s'=>SP X pins D .next s') rfl hs (wg (S.cells I.C)) S.b S.a ?_) (λ_ s' hq=>Aj (Aj hq)) λ_ _ e=>e);refine su (use:=some (assign (.Name y py) X.a)) rfl hc S hi R hg ht (λC P H0 ex acc _=>hb C P H0 ex acc) I h λacc C H' s' I' q' hn hC hL h0 U hpn=>?_;obtain⟨m,hn⟩:=hn;show wpAny _ X.A (assign (.Name y py) X.a (.ref acc)) _ _ _;refine wpAny_assign_Name (nQ I' hN hy hx (show RelV (.c acc) (.ref acc) from rfl) (λs2 I2 zz=>?_) hf);obtain⟨a,sb,W⟩:=zz;have haC:C≠a:=by
  rcases W with W|W
  . rw[W];exact hL
  . exact A6 (U y a W)
 refine⟨m,hn.sameBut sb haC,λh' Y=>⟨_,H',?_,q'⟩⟩;exact I2.turned (t':=s2.toks) (λb o hb e=>(Y.2 b hb).trans e) hC hL (.inr h0) U hpn
def Zl(elt tg iter:Expr)(ifs:List Expr)(csc:Scope)(cpos:Pos)(it:Addr)(acc:Value)(env:Env) :
 EY (.ListComp elt [⟨tg,iter,ifs,0⟩] csc cpos) 0 (.ref it) acc env=(do
  standAt iter.pos
  match <-pyNext (.ref it) with
  |none=>pure (.done .next)
  |some v=>
   B5 tg (.ref it) v
   assign tg env v
   let mut ok:=true
   for c in ifs do
    if ok then ok <-isTrue c env (eval c env)
   if ok then (do let _ <-call (.builtin "list.append") [acc,<-eval elt env])
   again (.compLoop (.ListComp elt [⟨tg,iter,ifs,0⟩] csc cpos) 0 (.ref it) acc env)):=by rfl
end
def qQ(U:X.j=true)(S:zx X N csc fr)(hi:PI X tg iter wi)(Q:∀C O H0 ex,PG (X.comp N csc C O H0 ex) tg g)(P:∀C O H0 ex,PTs (X.comp N csc C O H0 ex) ifs ts)
 (R:∀C O H0 ex,PE (X.comp N csc C O H0 ex) elt te) (hs:∀x,Cq iter X.a x=pure x:=by intro _;rfl) :
 PE X (.ListComp elt [⟨tg,iter,ifs,0⟩] csc cpos) (uk fr wi g ts λacc=>rh acc te):=
 aX U S hi (B:=λacc env=>(do let _ <-call (.builtin "list.append") [acc,<-eval elt env])) (Zl elt tg iter ifs csc cpos) Q P (λC O H0 ex acc=>mV (R C O H0 ex)) hs
def gF(Y:X.j=true)(S:zx X N csc fr)(hi:PI X tg iter wi)(U:∀C O H0 ex,PG (X.comp N csc C O H0 ex) tg g)(R:∀C O H0 ex,PTs (X.comp N csc C O H0 ex) ifs ts)
 (W:∀C O H0 ex,PE (X.comp N csc C O H0 ex) elt te) (Z:X.N.Nodup) (Q:X.N[i]?=some y) (hx:Loc X.a.scope y)
 (P:Eu (.ListComp elt [⟨tg,iter,ifs,0⟩] csc cpos) (some (.Name y py)) spos.line X.a=pure true:=by rfl)
 (hf:X.q y=true\/X.a.scope.names.lookup y=some .local:=by first|exact .inl rfl|exact .inr rfl|assumption)
 (hs:∀x,Cq iter X.a x=pure x:=by intro _;rfl) :
 PS X (.Assign [.Name y py] (.ListComp elt [⟨tg,iter,ifs,0⟩] csc cpos) spos) (sV (uk fr wi g ts λacc=>rh acc te) (wH i)):=
 ax Y S hi (B:=λacc env=>(do let _ <-call (.builtin "list.append") [acc,<-eval elt env])) (Zl elt tg iter ifs csc cpos) U R (λC O H0 ex acc=>mV (W C O H0 ex)) Z Q hx P hf hs
def qb:yI X (.builtin "isinstance") (λN H Q=>∃x c t b,N=[x,.k c]/\tW X.K H x (.type t)/\Gq X.K (.type t) (.type c)=some b/\Q (.f b) H):=by intro pins s σ H N us Q I r h;obtain⟨x,c,t,b,rfl,P,e,q⟩:=h;obtain⟨u,O,rfl,R,S⟩:=vals2 r;cases (show O=FH c from S);exact fA I R P e λtk=>⟨.f b,H,I.tok _,rfl,q⟩
inductive Kd where
 |f|i|d|h|e|b|g
 deriving DecidableEq
noncomputable def Kd.nm:Kd->String
 |.f=>"NoneType"|.i=>"bool"|.d=>"int"|.h=>"str"|.e=>"list"|.b=>"tuple"|.g=>"dict"
noncomputable def Kd.sub(a c:Kd):Bool:=decide (a=c)||(decide (a=.i)&&decide (c=.d))
def V7 K(a c:Kd)(x:c≠.f):Gq K (.type a.nm) (.type c.nm)=some (a.sub c):=by
 cases c with
 |f=>exact absurd rfl x
 |i=>cases a<;>rfl
 |d=>cases a<;>rfl
 |h=>cases a<;>rfl
 |e=>cases a<;>rfl
 |b=>cases a<;>rfl
 |g=>cases a<;>rfl
def all_range:∀(bs:List Bool),((Av bs.length).all λi=>bs.getD i false)=bs.all id:=by
 intro bs;induction bs with
 |nil=>rfl
 |cons b bs x=>
  rw[AH,List.range_succ_eq_map,DE,DE,List.all_map];exact congrArg (b&&·) (Eq.trans (by congr 1) x)
theorem Vals.bools:∀{bs:List Bool} {us},Vals (bs.map V.f) us->us=bs.map Dc
 |[],us,r=>by cases r;rfl
 |b::bs,us,r=>by
  rw[AW]at r;cases r with
  |cons r1 x=>
   cases (show _=Dc b from r1);rw[Vals.bools x,AW]
def qa(hc:X.j=true):yI X (.builtin "all") (λW H Q=>∃(a:Addr) (bs:List Bool),W=[.c a]/\SqL X.K H a (bs.map V.f)/\Q (.f (bs.all id)) H):=by
 intro pins s σ H W us Q I r h;obtain⟨a,bs,rfl,ha,q⟩:=h;obtain⟨u,rfl,Z⟩:=vals1 r;cases Z;obtain⟨its,Y,R,hz⟩:=I.list ha;have N:=Y.bools;have U:a<s.heap.objs.size:=by obtain⟨o,O,_⟩:=R.isList;exact Al O
 refine call_all_walk (D9 R.isList ?_);refine⟨s.heap.objs.size,_,_,_,_,_,λi=>bs.getD i false,rfl,Walks.list (A:=X.A.in1) (I.C.k hc) s.heap.objs.size a (AL U) its.toArray,⟨⟨_,AF _ rfl,rfl,rfl⟩,?_⟩,?_,λh' tk hk=>?_⟩
 . obtain⟨o,O,S,n,hd⟩:=R.isList
   exact⟨o,Aa _ O,S,n,hd⟩
 . intro i v s' Q' E' hv hq
   have x:(bs.map Dc)[i]?=some v:=by rw[<-N];simpa using hv
   rw[AE]at x;cases hb:bs[i]? with
   |none=>rw[hb]at x;cases x
   |some b=>
    rw[hb]at x;have:v=Dc b:=(A1 x).symm;subst this;have e:bs.getD i false=b:=by rw[Am,hb];rfl
    have P:Q' (bs.getD i false) s':=hq;rw[e]at P;exact BJ P
 . have e:(Av its.toArray.size).all (λi=>bs.getD i false)=bs.all id:=by rw[Ai,N,Ac];exact all_range bs
   rw[e];refine⟨.f (bs.all id),H,I.kept λb o O=>hk b o ?_ (Aa _ O),rfl,q⟩;simpa using AL (Al O)
def ZQ(h:H p=none)o:wK H (upd H p o):=λb u q=>by rw[zG (zN q h)];exact q
def rS(H:Hp)(ys:List V)(Q:VK):Prop:=∀p H',wK H H'->H' p=some (.c ys)->Q (.c p) H'
def rS.new(g:rS H ys Q):∀p,H p=none->Q (.c p) (upd H p (.c ys)):=λp hp=>g p _ (ZQ hp _) zK
def Qh:V->Option Int->Option Int->Hp->VK->Prop:=λx lo hi H Q=>∃a N,x=.c a/\H a=some (.c N)/\rS H (oE N lo hi) Q
def Rl:R2:=λx y H Q=>∃a b N ys,x=.c a/\y=.c b/\H a=some (.c N)/\H b=some (.c ys)/\N.length+ys.length<=Ar/\rS H (N++ys) Q
def Rq:R2:=λx y H Q=>∃a k N,x=.c a/\y=.d k/\H a=some (.c N)/\2<=k/\k<=1000/\N≠[]/\N.length<=1000/\rS H (An k.toNat N).flatten Q
def gu{lo hi}(N:IsTup s.heap t items)(hs:s.heap.IsSliceOf sl vl vu .none)(U:IsPart vl lo)(S:IsPart vu hi)
 (h0:HT.sIx items.size 0 lo=0) (h1:HT.sIx items.size items.size hi=items.size) (h:Q (.ref t) s):wpAny (model prog w) A (getItem (.ref t) (.ref sl)) Q E s:=by
 obtain⟨os,O,P,W⟩:=id hs;have R:s.TypeIs (.ref sl) "slice":=⟨os,O,P⟩;unfold getItem
 try with_reducible refine By ?_
 first|refine xd (Aj ?_)|skip
 refine xd (Fy N.typeIs (by decide) ?_)
 refine xd (D6 (name:=EH "__getitem__") N.typeIs A5
  (El A5 N.typeIs EV ?_ (E5 _ _)))
 show wpAny _ _ (DC (.ref t) >>= _) _ _ s;refine xd (Eh N ?_);refine xd (DO R ?_);rw[if_pos (by decide)]
 refine xd (HT.vB hs U S ?_);have x:(((HT.sIx items.size 0 lo:Nat):Int) == 0&&(1:Int) == 1&&(HT.sIx items.size items.size hi-HT.sIx items.size 0 lo) == items.size)=true:=by rw[h0,h1];simp
 show wpAny _ _ (if (((HT.sIx items.size 0 lo:Nat):Int) == 0&&(1:Int) == 1&&(HT.sIx items.size items.size hi-HT.sIx items.size 0 lo) == items.size)=true then _ else _) _ _ s
 rw[if_pos x];unfold Fp;refine xd (xd (DO N.typeIs (Aj ?_)));rw[if_pos (by decide)]
 exact xd (Gz (Aj ⟨_,rfl,Aj h⟩))
def XX:SlR X Qh:=by
 intro pins s σ H x v Y W lo hi Z Q I P hs S R h;obtain⟨a,O,rfl,hx,g⟩:=h;by_cases hw:HT.sIx O.length 0 lo=0/\HT.sIx O.length O.length hi=O.length
 . cases P
   obtain⟨its,r,U,hz⟩:=I.tuple (.inl (.inl hx));have N:its.toArray.size=O.length:=by rw[Ai];exact r.length.symm
   refine⟨"tuple",_,A5.lookup,U.typeIs,?_⟩;refine gu U hs S R (by rw[N];exact hw.1) (by rw[N];exact hw.2) ⟨.c a,H,I,rfl,g a H (wK.refl H) ?_⟩
   rw[hx];unfold oE;rw[hw.1,hw.2,Dp,FX,List.take_length]
 . exact U7 pins s σ H (.c a) v Y W lo hi Z Q I P hs S R ⟨a,O,rfl,.inl (.inl hx),hw,g.new⟩
def aD:OpR X (BG .Add) Rl:=by
 intro pins s σ H x y v u Q I rx ry h;obtain⟨a,b,xs,ys,rfl,rfl,W,U,hz,g⟩:=h;by_cases hx:xs=[]
 . cases rx
   cases ry;subst hx;obtain⟨its,r1,p1,_⟩:=I.tuple (.inl (.inl W));obtain⟨N,r2,p2,_⟩:=I.tuple (.inl (.inl U));cases r1;obtain⟨⟨cls,dd,data,sl⟩,ho,hc,n,hd⟩:=id p1;obtain⟨⟨cls2,Y,Z,S⟩,O,R,n2,P⟩:=id p2;simp only at hc hd R P;subst hc hd R P;exact concat_meets ⟨_,ho,rfl⟩ ⟨_,O,rfl⟩ FQ GK Ed D5 (DN _ _)
    (tuple_addW0 a b #[] N.toArray n n2 dd Y sl S rfl) ⟨ho,O,⟨.c b,H,I,rfl,g b H (wK.refl H) U⟩⟩
 . refine Yv pins s σ H (.c a) (.c b) v u Q I rx ry ⟨a,b,xs,ys,rfl,rfl,.inl (.inl W),.inl (.inl U),hx,hz,λe=>?_,λ_=>g.new⟩
   subst e;rw[A9]at g;exact g a H (wK.refl H) W
def xn:fillsNumberSlot (.type "tuple") "mul"=pure false:=
 PySem.fillsNumberSlot_seq (id:="tuple.__mul__") (r:=some (.builtin "tuple.__rmul__")) Dw.lookup (by decide +kernel) F.slot_tuple_rmul.lookup (by decide +kernel)
def vW:seqRepeat? (.type "tuple")=pure (some (.builtin "tuple.__mul__")):=by
 unfold seqRepeat?;rw[PySem.seqSlot_of (T:="tuple") (name:="__mul__") (id:="tuple.__mul__") Dw.lookup (by decide +kernel),PySem.seqSlot_of (T:="tuple") (name:="__rmul__") (id:="tuple.__rmul__") F.slot_tuple_rmul.lookup (by decide +kernel)]
 rfl
def wU a t l items n dd sl :
 Meets (Builtin.«int.__rmul__» ⟨[.int a t,.ref l],[]⟩) (λ_ R s=>s.heap.get? l=some {cls:=.type "tuple",dict:=dd,data:=.seq items n,slots:=sl}/\R (.ok (.ret Value.notImplemented)) s):=
 .of_wp λprog w A R s h=>by obtain⟨hp,g,d,tk,os⟩:=s;obtain⟨x,h⟩:=h;wp_walk;exact⟨_,rfl,h⟩
def iE l items n x u dd sl(h1:2<=x)(h2:x<=1000)(Q:¬items.isEmpty=true)(Z:items.size<=1000) :
 Meets (Builtin.«tuple.__mul__» ⟨[.ref l,.int x u],[]⟩) (λ_ R s=>s.heap.get? l=some {cls:=.type "tuple",dict:=dd,data:=.seq items n,slots:=sl} /\
  R (.ok (.ret (AO s.heap.objs.size))) {s with heap:=s.heap.push {cls:=FH "tuple",data:=Data.seq (D1 (λO N=>O++N) #[] (An x.toNat items))},toks:=s.toks}):=
 .of_wp λprog w A R s h=>by
  obtain⟨hp,g,d,tk,os⟩:=s;obtain⟨U,h⟩:=h;have f1:=FY;have c1:¬((decide (x < -(2 ^ 63))||decide (x ≥ 2 ^ 63))=true):=by simp;omega
  have c2:¬((items.isEmpty||x == 1)=true):=by simp at Q ⊢;exact⟨Q,⋯⟩
  have c3:¬((decide (x<=0)||items.isEmpty)=true):=by simp at Q ⊢;exact⟨⋯,Q⟩
  have S:(items.size:Int)*x<=1000*1000:=Int.mul_le_mul ⋯ h2 ⋯ ⋯
  have c4:¬((items.size:Int)*x > (2 ^ 63-1)/8):=by omega
  have W:Ar=16777216:=AI;have c5:¬(DF ((items.size:Int)*x)=true):=by unfold DF;rw[W];simp only[decide_eq_true_eq];omega
  have Y:(D1 (λO N=>O++N) #[] (An x.toNat items)).size=x.toNat*items.size:=by have e:=foldl_rep items.toList x.toNat [];simp only[Array.toArray_toList,EJ]at e;rw[e,Ai,len_rep,C4]
  have P:sizeOk (.seq (D1 (λO N=>O++N) #[] (An x.toNat items))):=by
   show (D1 (λO N=>O++N) #[] (An x.toNat items)).size<=Ar;rw[Y,W];have:x.toNat*items.size<=1000*1000:=Nat.mul_le_mul ⋯ Z
   omega
  wp_walk using DL U
  rw[if_neg c1];refine xd (Eh (items:=items) ⟨_,U,rfl,n,rfl⟩ ?_);rw[if_neg c2];show wpAny _ _ (if (decide (x<=0)||items.isEmpty)=true then _ else _) _ _ _
  rw[if_neg c3];show wpAny _ _ (if (items.size:Int)*x > (2 ^ 63-1)/8 then _ else _) _ _ _
  rw[if_neg c4];show wpAny _ _ (if DF ((items.size:Int)*x)=true then _ else _) _ _ _
  rw[if_neg c5];exact xd (m:=Bt _) (Bh (Aj ⟨_,rfl,h⟩) P)
def Yy:OpR X (BG .Mult) Rq:=by
 intro pins s σ H x y v u Q I Z Y h;obtain⟨a,k,O,rfl,rfl,ha,h1,h2,h3,W,g⟩:=h;cases Z;obtain⟨t,rfl⟩:=Y;obtain⟨its,r,p1,_⟩:=I.tuple (.inl (.inl ha));obtain⟨⟨cls,dd,data,R⟩,N,S,n,hd⟩:=id p1;simp only at S hd;subst S hd;have hl:=r.length;have P:¬its.toArray.isEmpty=true:=by simp;intro e;exact h3 (r.sE.mp e)
 refine CP (T:="tuple") (U:="int") (by decide) ⟨_,N,rfl⟩ (λs'=>Dh s' k t) xn EK Cm vW Em.lookup
  (Ck Cm (Dh s k t) En (Ea _ _) (wU k t a its.toArray n dd R)
   ⟨N,rfl,⟨_,N,rfl⟩,Ck Dw ⟨_,N,rfl⟩ FE (Fb _ _) (iE a its.toArray n k t dd R h1 h2 P (by rw[Ai,<-hl];exact W)) ⟨N,?_⟩⟩)
 have e:=foldl_rep its k.toNat [];rw[EJ]at e;have hz:(An k.toNat O).flatten.length<=Ar:=by
  rw[len_rep,AI];have:k.toNat*O.length<=1000*1000:=Nat.mul_le_mul ⋯ W
  omega
 refine⟨.c s.heap.objs.size,_,I.laid (t':=s.toks) (o:=.c (An k.toNat O).flatten) (λb ob q=>Aa _ q) (Ad _) ⟨hz,(An k.toNat its).flatten,r.rep k.toNat,?_⟩,rfl,g.new _ (I.B.fresh (Ad _))⟩;rw[show (#[]:Array Value)=([]:List Value).toArray from rfl,e];exact si.new _ _
section
variable {X:Cx}{pos:Pos}
def Wh(i j k:Nat)(ta:TA):TS:=λD σ H=>ta σ H λvs H1=>∃v w z,vs=[v,w,z]/\D.a (((σ.set i (some v)).set j (some w)).set k (some z)) H1
def vals3(r:Vals [x,y,z] us):∃P O N,us=[P,O,N]/\RelV x P/\RelV y O/\RelV z N:=by
 cases r with
 |cons r1 W=>
  cases W with
  |cons U S=>
   cases S with
   |cons R Q=>cases Q;exact⟨_,_,_,rfl,r1,U,R⟩
def XM{kt k2 pt2}(hc:X.j=true)(hN:X.N.Nodup)(hi:X.N[i]?=some x)(hj:X.N[j]?=some y)(hk:X.N[k]?=some z)(Z:i≠j)(Y:i≠k)(W:j≠k)
 (hx:X.a.scope.names.lookup x=some .local) (hy:X.a.scope.names.lookup y=some .local) (hz:X.a.scope.names.lookup z=some .local) (ha:PA X [a,b,c] ta)
 (hw:BZ [.Tuple [.Name x px,.Name y py,.Name z pz] kt pt] (.Tuple [a,b,c] k2 pt2) X.a=pure (some [x,y,z]))
 (hs:Eg [.Tuple [.Name x px,.Name y py,.Name z pz] kt pt] (.Tuple [a,b,c] k2 pt2) pos.line X.a=pure false:=by rfl) :
 PS X (.Assign [.Tuple [.Name x px,.Name y py,.Name z pz] kt pt] (.Tuple [a,b,c] k2 pt2) pos) (Wh i j k ta):=by
 intro pins s σ H D I h;rw[exec_Assign_arm];refine xd (A8 ?_);rw[hs];refine xd (Aj ?_);rw[if_neg (by decide)]
 refine xd (Tuple_ (thn (ha _ pins s σ H _ I h) λus s1 O=>?_));obtain⟨vs,H1,I1,r1,q1⟩:=O;obtain⟨v,w,O,e1,q1⟩:=q1;subst e1;obtain⟨R,Q,P,rfl,rv,S,rz⟩:=vals3 r1;refine Bh ?_ (by show 3<=Ar;decide)
 have I2:Inv X pins σ H1 {s1 with heap:=s1.heap.push {cls:=.type "tuple",data:=.seq [R,Q,P].toArray}}:=I1.kept (t':=s1.toks) λb o e=>Aa _ e
 rw[hw];refine xd (Aj ?_);show wpAny (model X.f X.w) X.A (do rule "assign.swapped-stores";let items <-unpackItems (.ref s1.heap.objs.size) 3 none;Ef [λv=>Dk X.a z v,λv=>Dk X.a y v,λv=>Dk X.a x v] items.reverse;pure GP) _ _ _
 refine xd (Gz (xd (unpackItems_tuple (items:=#[R,Q,P]) (I.C.k hc) (IsTup.new s1.heap _) λh' U=>?_)));have I3:=I2.kept (h':=h') (t':=s1.toks) λb o e=>U b o (AL (Al e)) e;show wpAny _ _ (Ef [λv=>Dk X.a z v,λv=>Dk X.a y v,λv=>Dk X.a x v] [P,Q,R] >>= λ_=>pure GP) _ _ _;refine xd (CB (DZ (wB I3 hN hk (.inl hz) rz (λs2 I4=>?_) (.inr hz))));refine CB (DZ (wB I4 hN hj (.inl hy) S (λs3 I5=>?_) (.inr hy)));refine CB (DZ (wB I5 hN hi (.inl hx) rv (λs4 I6=>Fw (Aj ?_)) (.inr hx)));refine⟨_,H1,?_,q1⟩;have e:((σ.set k (some O)).set j (some w)).set i (some v)=((σ.set i (some v)).set j (some w)).set k (some O):=by rw[Fg _ _ (A6 Z),Fg _ _ (A6 Y),Fg _ _ (A6 W)]
 rw[<-e];exact I6
def XA(x:∀pins σ H s,Inv X pins σ H s->B9<s.heap.objs.size):PE X (.Dict [] [] pos) (λ_ H Q=>∀p,H p=none->Q (.c p) (upd H p (.i []))):=λpins s σ H Q I h=>
 FZ ⟨.c s.heap.objs.size,_,I.laid (a:=s.heap.objs.size) (o:=.i []) (t':=s.toks) (λ_ _ q=>Aa _ q) (Ad _)
  ⟨Bj _,beq_eq_false_iff_ne.mpr (A6 (AL (x pins σ H s I))),[],.nil,Heap.DictOf.new s.heap⟩,rfl,h _ (I.B.fresh (Ad _))⟩
end
mutual
inductive DD(H:Hp)(p:Addr):V->PyData->Prop
 |non:DD H p .g .none
 |bl (b:Bool):DD H p (.f b) (.bool b)
 |int (i:Int):DD H p (.d i) (.int i)
 |str (x:Str):DD H p (.e x) (.str x)
 |lst {a:Addr} {xs:List V} {ds:List PyData}:H a=some (.b xs)->a≠p->DDs H p xs ds->DD H p (.c a) (.list ds)
 |tup {a:Addr} {xs:List V} {ds:List PyData}:H a=some (.c xs)->a≠p->DDs H p xs ds->DD H p (.c a) (.tuple ds)
 |dct {a:Addr}:H a=some (.i [])->a≠p->DD H p (.c a) (.dict [])
inductive DDs(H:Hp)(p:Addr):List V->List PyData->Prop
 |b:DDs H p [] []
 |a {x:V} {xs:List V} {d:PyData} {ds:List PyData}:DD H p x d->DDs H p xs ds->DDs H p (x::xs) (d::ds)
end
theorem DDs.length:∀{vs} {ds},DDs H p vs ds->vs.length=ds.length
 |_,_,.b=>rfl
 |_,_,.a _ rs=>by rw[AH,AH,rs.length]
theorem DDs.append:∀{vs ws} {ds es},DDs H p vs ds->DDs H p ws es->DDs H p (vs++ws) (ds++es)
 |_,_,_,_,.b,r=>r
 |_,_,_,_,.a r rs,q=>.a r (rs.append q)
mutual
noncomputable def xN:PyData->Bool
 |.none|.bool _|.int _|.str _=>false
 |.list _=>true
 |.tuple xs=>xl xs
 |.dict _=>false
noncomputable def xl:List PyData->Bool
 |[]=>false
 |x::xs=>xN x||xl xs
end
structure Xz(d:PyData):Prop where
 sh:d.showable=true
 a:d.hasDict=true->xN d=false
 dp:d.depth<=50
 ln:d.shown.length<=Ar
structure vk(k w:Nat)(d:PyData):Prop where
 c:d.showable=true
 b:d.leavesShort 40=true
 a:d.depth<=k
 f:d.weight<=w
def vk.mono(h:vk k w d)(h1:k<=k')(x:w<=w'):vk k' w' d:=⟨h.c,h.b,As h.a h1,As h.f x⟩
def pA(h1:-(10 ^ 30)<i)(P:i<10 ^ 30):vk 0 100 (.int i):=by
 have O:i.natAbs<10 ^ 30:=by omega
 have N:i.natAbs<2 ^ 100:=Nat.lt_trans O (by decide)
 have x:i.natAbs≠0->i.natAbs.log2<100:=λz=>(Nat.log2_lt z).mpr N;refine⟨?_,?_,Bj _,?_⟩
 . show decide (i.natAbs.log2<1920)=true
   by_cases z:i.natAbs=0
   . rw[z];decide
   . exact decide_eq_true (Nat.lt_trans (x z) (by decide))
 . show decide ((PyData.shown (.int i)).length<=40)=true
   refine decide_eq_true ?_;show (EH (toString i)).length<=40;by_cases z:0<=i
   . exact As (toString_length_le z (k:=30) (by decide) P) (by decide)
   . have e:=len_text_negI (n:=i) ⋯
     have e2:=toString_length_le (v:=0-i) (k:=30) ⋯ (by decide) ⋯
     omega
 . show (if i == 0 then 0 else i.natAbs.log2+1)<=100
   split
   . exact Bj _
   . rename_i z
     have Q:i≠0:=by simpa using z
     exact x ⋯
def fK:vk 0 0 .none:=⟨rfl,rfl,Ad _,Ad _⟩
def fJ b:vk 0 0 (.bool b):=⟨rfl,rfl,Ad _,Ad _⟩
theorem vG:∀{ds},(∀d∈ds,d.showable=true)->PyData.showableAll ds=true
 |[],_=>rfl
 |d::ds,h=>by rw[PyData.showableAll,h d Ax,vG λx hx=>h x (Ah _ hx)];rfl
theorem sj:∀{ds},(∀d∈ds,d.leavesShort 40=true)->PyData.leavesShortAll 40 ds=true
 |[],_=>rfl
 |d::ds,h=>by rw[PyData.leavesShortAll,h d Ax,sj λx hx=>h x (Ah _ hx)];rfl
theorem uQ:∀{ds},(∀d∈ds,d.depth<=k)->Gh ds<=k
 |[],_=>Bj _
 |d::ds,h=>by rw[Gh];exact Nat.max_le.mpr ⟨h d Ax,uQ λx hx=>h x (Ah _ hx)⟩
theorem uq:∀{ds},(∀d∈ds,d.weight<=w)->F0 ds<=ds.length*(w+1)
 |[],_=>by simp[F0]
 |d::ds,h=>by rw[F0,AH,FV];have h1:=h d Ax;have N:=uq λx hx=>h x (Ah _ hx);omega
def u9(h:∀d∈ds,vk k w d)(x:ds.length<=n):vk (k+1) (n*(w+1)) (.tuple ds):=by refine⟨vG λd hd=>(h d hd).c,sj λd hd=>(h d hd).b,FU (uQ λd hd=>(h d hd).a),?_⟩;exact As (uq λd hd=>(h d hd).f) (B3 _ x)
def oy(h:∀d∈ds,vk k w d)(x:ds.length<=n):vk (k+1) (n*(w+1)) (.list ds):=by refine⟨vG λd hd=>(h d hd).c,sj λd hd=>(h d hd).b,FU (uQ λd hd=>(h d hd).a),?_⟩;exact As (uq λd hd=>(h d hd).f) (B3 _ x)
def bf(h1:∀c∈x.cps.toList,c<16 ^ 8)(O:x.cps.size<=100):vk 0 100 (.str x):=by refine⟨rfl,?_,Bj _,O⟩;show (x.cps.toList.all λc=>decide (c<16 ^ 8))=true;rw[AB];exact λc N=>decide_eq_true (h1 c N)
def vk.R0(h:vk k w d)(hk:k<=50)(hw:w<=300000)(x:d.hasDict=true->xN d=false):Xz d:=by
 refine⟨h.c,x,As h.a hk,?_⟩;have e:=PyData.shown_le 40 (by decide) d h.b
 have e2:=h.f;rw[AI];have:(40+2)*d.weight<=42*300000:=Nat.mul_le_mul_left _ (As e2 hw);omega
theorem wO:∀{ds},(∀d∈ds,d.hasDict=false)->PyData.hasDictAll ds=false
 |[],_=>rfl
 |d::ds,h=>by rw[PyData.hasDictAll,h d Ax,wO λx hx=>h x (Ah _ hx)];rfl
section
variable {X:Cx}{pos:Pos}
def Ra(Q:Gl X x)(P:X.d x=none)(N:Ci x=some (.type n))(O:x≠"__name__":=by decide)(hd:(x == ("__debug__":Str))=false:=by decide):PE X (.Name x pos) (tC (.k n)):=
 Y9 Q P N (show RelV (.k n) (.type n) from rfl) O hd
def Rh(N:PT X a tA)(x:PW X (.BoolOp .Or (b::rest) pos) tB'):PT X (.BoolOp .Or (a::b::rest) pos) (tOr tA tB'):=(Rj N x).pt
noncomputable def noStar:Expr->Bool
 |.Starred ..=>false
 |_=>true
def zv(h:noStar e=true):AG (e::es) env=(false,eval e env)::AG es env:=by
 cases e<;>first|rfl|cases h
def pac(N:PE X e te)(x:PA X es t)(hs:noStar e=true:=by rfl):PA X (e::es) (xW te t):=yQ N x (zv hs)
noncomputable def uw(O:Scope)(P N:List Str)(csc:Scope)(fr:List (Option Nat)):Bool:=
 decide (csc.kind=.function)&&csc.names.all (λx=>decide (x.2≠.cell)||csc.names.all λy=>decide (y≠(x.1,AJ)))&&csc.names.all (λx=>decide (x.2≠.local)||decide (csc.names.lookup x.1=some .local)) &&
 csc.names.all (λx=>decide (x.2≠.free)||(decide (O.names.lookup x.1=some .cell)||decide (O.names.lookup x.1=some .free)))&&decide (fr.length=N.length) &&
 (Av N.length).all (λi=>match fr[i]?,N[i]? with|some (some j),some x=>decide (P[j]?=some x)&&csc.names.any (λy=>decide (y.1=x)&&decide (y.2=.free))|_,_=>true) &&
 csc.names.all (λx=>decide (x.2≠.free)||decide (csc.names.lookup x.1≠some .local))&&(decide (("!":Str) ∉ N)||(decide (("!":Str)∈P)&&O.names.any (λy=>decide (O.names.lookup y.1=some .cell))))
end
noncomputable def zo{x:Type}(N:List x)(lo st:Int)(n:Nat):List x:=(Av n).filterMap λ(k:Nat)=>N[(lo+(k:Int)*st).toNat]?
theorem Vals.pick(r:Vals xs us):∀(is:List Nat),Vals (is.filterMap λi=>xs[i]?) (is.filterMap λi=>us[i]?)
 |[]=>.nil
 |i::is=>by
  rw[A3,A3];cases hx:xs[i]? with
  |none=>rw[r.none_of hx];exact Vals.pick r is
  |some x=>
   obtain⟨u,hu,N⟩:=r.get hx;rw[hu];exact .cons N (Vals.pick r is)
theorem Vals.zo{x:List V}{us:List Value}(r:Vals x us)(lo st:Int)(n:Nat):Vals (zo x lo st n) (L2.zo us lo st n):=by have h:=r.pick ((Av n).map λ(k:Nat)=>(lo+(k:Int)*st).toNat);rw[Cf,Cf]at h;exact h
def kA(x:List α)lo st n:(zo x lo st n).length<=n:=by have:=DR (λ(k:Nat)=>x[(lo+(k:Int)*st).toNat]?) (Av n);rw[Bi]at this;exact this
noncomputable def yS(n:Nat)(lo hi:Option Int)(st:Int):Int × Nat:=((Br lo hi st (n:Int)).1,BH (Br lo hi st (n:Int)).1 (Br lo hi st (n:Int)).2 st)
def oH{lo hi}{st}{n:Nat}(hs:s.heap.IsSliceOf sl vl vu vc)(R:IsPart vl lo)(P:IsPart vu hi)(S:IsPart vc (some st))(h0:st≠0)
 (h:Q ((yS n lo hi st).1,st,(yS n lo hi st).2) s):wpAny (model prog w) A (CI (.ref sl) (pure (n:Int))) Q E s:=by
 obtain⟨os,N,U,O⟩:=id hs;unfold CI FJ;refine xd (xd (B0 N O (x:=vl) rfl (xd (B0 N O (x:=vu) rfl (xd (B0 N O (x:=vc) rfl (Aj ?_)))))));refine xd (HT.wY S ?_);show wpAny _ _ (if (st == 0)=true then _ else _) _ _ s
 rw[if_neg (by simpa using h0)]
 exact xd (HT.wY R (xd (HT.wY P (xd (Aj (Aj h))))))
def Zk{lo hi}{st}(O:IsTup s.heap t items)(hs:s.heap.IsSliceOf sl vl vu vc)(pl:IsPart vl lo)(Z:IsPart vu hi)(pc:IsPart vc (some st))(h0:st≠0)
 (S:(yS items.size lo hi st).1=0->st=1->(yS items.size lo hi st).2=items.size->Q (.ref t) s)
 (P:Q (.ref s.heap.objs.size) {s with heap:=s.heap.push {cls:=.type "tuple",data:=.seq (zo items.toList (yS items.size lo hi st).1 st (yS items.size lo hi st).2).toArray}})
 (R:(yS items.size lo hi st).2<=Ar):wpAny (model prog w) A (getItem (.ref t) (.ref sl)) Q E s:=by
 obtain⟨os,U,W,hds⟩:=id hs;have Y:s.TypeIs (.ref sl) "slice":=⟨os,U,W⟩;have x:sizeOk (.seq (zo items.toList (yS items.size lo hi st).1 st (yS items.size lo hi st).2).toArray):=by show (zo items.toList (yS items.size lo hi st).1 st (yS items.size lo hi st).2).toArray.size<=Ar;rw[Ai];exact As (kA _ _ _ _) R
 have N:((Av (yS items.size lo hi st).2).filterMap λ(k:Nat)=>items[((yS items.size lo hi st).1+(k:Int)*st).toNat]?).toArray=(zo items.toList (yS items.size lo hi st).1 st (yS items.size lo hi st).2).toArray:=by unfold zo;simp only[Array.getElem?_toList]
 unfold getItem
 try with_reducible refine By ?_
 first|refine xd (Aj ?_)|skip
 refine xd (Fy O.typeIs (by decide) ?_)
 refine xd (D6 (name:=EH "__getitem__") O.typeIs A5
  (El A5 O.typeIs EV ?_ (E5 _ _)))
 show wpAny _ _ (DC (.ref t) >>= _) _ _ s;refine xd (Eh O ?_);refine xd (DO Y ?_);rw[if_pos (by decide)]
 refine xd (oH (n:=items.size) hs pl Z pc h0 ?_);by_cases hw:((yS items.size lo hi st).1 == 0&&st == 1&&(yS items.size lo hi st).2 == items.size)=true
 . show wpAny _ _ (if ((yS items.size lo hi st).1 == 0&&st == 1&&(yS items.size lo hi st).2 == items.size)=true then _ else _) _ _ s
   rw[if_pos hw];simp only[cf,beq_iff_eq]at hw;unfold Fp;refine xd (xd (DO O.typeIs (Aj ?_)));rw[if_pos (by decide)]
   exact xd (Gz (Aj ⟨_,rfl,Aj (S hw.1.1 hw.1.2 hw.2)⟩))
 . show wpAny _ _ (if ((yS items.size lo hi st).1 == 0&&st == 1&&(yS items.size lo hi st).2 == items.size)=true then _ else _) _ _ s
   rw[if_neg hw,N]
   first
    |exact xd (m:=Bt _) (Bh (Aj ⟨_,rfl,Aj P⟩) x)
    |exact xd (xd (m:=Bt _) (Bh (Aj ⟨_,rfl,Aj P⟩) x))
theorem kB{O:Type}:∀N:List O,(Av N.length).filterMap (λk=>N[k]?)=N
 |[]=>rfl
 |x::N=>by
  rw[AH,List.range_succ_eq_map,A3,Cf];show x::_=_;refine congrArg (x::·) (Eq.trans ?_ (kB N))
  congr 1
def jf(x:List α):zo x 0 1 x.length=x:=by
 unfold zo;have e:(λ(k:Nat)=>x[(0+(k:Int)*1).toNat]?)=λk=>x[k]?:=by funext k;rw[show (0+(k:Int)*1).toNat=k by omega]
 rw[e];exact kB x
def Qi:V->Option Int->Option Int->Option Int->Hp->VK->Prop:=λx lo hi st H Q=>∃a N c,x=.c a/\H a=some (.c N)/\st=some c/\c≠0/\(yS N.length lo hi c).2<=Ar/\rS H (zo N (yS N.length lo hi c).1 c (yS N.length lo hi c).2) Q
def QC(r:V->Option Int->Option Int->Option Int->Hp->VK->Prop)(te:TE)(tl th tc:TO):TE:=λσ H Q=>te σ H λx H1=>tl σ H1 λl H2=>th σ H2 λu O=>tc σ O λc N=>r x l u c N Q
def fk{lo hi}{st}(he:PE X e te)(hl:PO X lo tl)(hu:PO X hi th)(hc:PO X (some st) tc):PE X (.Subscript e (.Slice lo hi (some st) p2) pos) (QC Qi te tl th tc):=by
 intro pins s σ H Q I h;refine GB (thn (he pins s σ H _ I h) λv s1 W=>?_);obtain⟨x,H1,I1,r1,q1⟩:=W;refine wpAny_Slice (thn (hl pins s1 σ H1 _ I1 q1) λvl s2 ⟨l,H2,I2,pl,q2⟩=>thn (hu pins s2 σ H2 _ I2 q2) λvu s3 ⟨u,H3,I3,pu,q3⟩=>thn (hc pins s3 σ H3 _ I3 q3) λvc O W=>?_);obtain⟨c,U,I4,pc,q4⟩:=W;obtain⟨a,R,Y,rfl,hx,ec,h0,P,g⟩:=q4;subst ec;cases r1;have S:Inv X pins σ U {O with heap:=O.heap.push {cls:=.type "slice",data:=.fields #[vl,vu,vc]}}:=I4.kept (t':=O.toks) λb ob q=>Aa _ q
 obtain⟨its,r,ht,hz⟩:=S.tuple (.inl (.inl hx));have N:its.toArray.size=R.length:=by rw[Ai];exact r.length.symm
 show wpAny (model X.f X.w) X.A (Fm e (.Slice lo hi (some st) p2) (.ref a) (.ref O.heap.objs.size)) (EP X pins σ Q) X.i {O with heap:=O.heap.push {cls:=.type "slice",data:=.fields #[vl,vu,vc]}}
 refine tail_any (ops:=[.ref a,.ref O.heap.objs.size]) ht.typeIs A5.lookup (Zk ht (E6 ..) pl pu pc h0 (λz1 z2 Z=>?_) ?_ (by rw[N];exact P)) (by with_unfolding_all rfl)
 . refine⟨.c a,U,S,rfl,g a U (wK.refl U) ?_⟩
   rw[N]at z1 Z;rw[hx,z1,Z,z2,jf]
 . rw[N]
   refine⟨.c _,_,S.laid (t':=O.toks) (o:=.c (zo R (yS R.length l u Y).1 Y (yS R.length l u Y).2)) (λb ob q=>Aa _ q) (Ad _) ?_,rfl,g.new _ (S.B.fresh (Ad _))⟩;refine⟨As (kA _ _ _ _) P,_,r.zo _ _ _,?_⟩;exact si.new _ _
end L2
end
section
namespace L2
open PySem PyProof.Rows
section
variable {X:Cx}
noncomputable def vh(d:Int):List Int->Int
 |[]=>d
 |n::ns=>ns.foldl (λa b=>if b > a then b else a) n
theorem ql:∀(ns:List Int) a,a<=ns.foldl (λa b=>if b > a then b else a) a/\(∀x∈ns,x<=ns.foldl (λa b=>if b > a then b else a) a)/\(ns.foldl (λa b=>if b > a then b else a) a=a\/ns.foldl (λa b=>if b > a then b else a) a∈ns)
 |[],a=>⟨Int.le_refl _,λ_ h=>(nomatch h),.inl rfl⟩
 |n::ns,a=>by
  obtain⟨h1,P,N⟩:=ql ns (if n > a then n else a)
  show a<=ns.foldl _ (if n > a then n else a)/\_
  have O:a<=(if n > a then n else a)/\n<=(if n > a then n else a):=by split<;>omega
  refine⟨EN O.1 h1,λx hx=>?_,?_⟩
  . rcases Ap.mp hx with e|hx
    . rw[e];exact EN O.2 h1
    . exact P x hx
  . rcases N with N|N
    . show ns.foldl _ (if n > a then n else a)=a\/ns.foldl _ (if n > a then n else a)∈n::ns
      rw[N];split
      . exact .inr (Ax ..)
      . exact .inl rfl
    . exact .inr (Ah _ N)
def jM(h:ns≠[]):vh d ns∈ns/\∀x∈ns,x<=vh d ns:=by
 cases ns with
 |nil=>exact absurd rfl h
 |cons n ns=>
  obtain⟨h1,O,N⟩:=ql ns n;refine⟨?_,λx hx=>?_⟩
  . rcases N with N|N
    . show ns.foldl _ n∈_;rw[N];exact Ax ..
    . exact Ah _ N
  . rcases Ap.mp hx with e|hx
    . rw[e];exact h1
    . exact O x hx
def ll(h1:M∈ns)(O:∀x∈ns,x<=M):vh d ns=M:=by
 have N:ns≠[]:=λe=>by rw[e]at h1;exact nomatch h1
 obtain⟨a,b⟩:=jM (d:=d) N;exact EO (O _ a) (b _ h1)
theorem Vals.ints:∀{ns:List Int} {us},Vals (ns.map V.d) us->∀{i:Nat} {v},us[i]?=some v->∃t,v=.int (ns.getD i 0) t
 |[],_,.nil,_,_,h=>by cases h
 |n::ns,_,.cons r rs,0,v,h=>by
  obtain⟨t,e⟩:=r;have:v=.int n t:=(A1 h).symm.trans e;exact⟨t,this⟩
 |n::ns,_,.cons r rs,i+1,v,h=>by have:=Vals.ints rs (i:=i) (v:=v) h;exact this
end
end L2
end
section
namespace L2
open PySem PyProof PyProof.Rows
section
variable {X:Cx}
def iD l items n u dd sl :
 Meets (Builtin.«tuple.__mul__» ⟨[.ref l,.int 1 u],[]⟩) (λ_ R s=>s.heap.get? l=some {cls:=.type "tuple",dict:=dd,data:=.seq items n,slots:=sl}/\R (.ok (.ret (AO l))) s):=
 .of_wp λprog w A R s h=>by
  obtain⟨hp,g,d,tk,os⟩:=s;obtain⟨x,h⟩:=h;have f1:=FY;have c1:¬((decide ((1:Int) < -(2 ^ 63))||decide ((1:Int) ≥ 2 ^ 63))=true):=by decide
  have c2:((items.isEmpty||((1:Int) == 1))=true):=by simp
  wp_walk using DL x
  exact⟨_,rfl,h⟩
def iC l items n x u dd sl(h1:x<=0)(P:-1000<=x)(O:¬items.isEmpty=true) :
 Meets (Builtin.«tuple.__mul__» ⟨[.ref l,.int x u],[]⟩) (λ_ R s=>s.heap.get? l=some {cls:=.type "tuple",dict:=dd,data:=.seq items n,slots:=sl} /\
  R (.ok (.ret (AO s.heap.objs.size))) {s with heap:=s.heap.push {cls:=FH "tuple",data:=Data.seq #[]},toks:=s.toks}):=
 .of_wp λprog w A R s h=>by
  obtain⟨hp,g,d,tk,os⟩:=s;obtain⟨N,h⟩:=h;have f1:=FY;have c1:¬((decide (x < -(2 ^ 63))||decide (x ≥ 2 ^ 63))=true):=by simp;omega
  have c2:¬((items.isEmpty||x == 1)=true):=by simp at O ⊢;exact⟨O,⋯⟩
  have c3:((decide (x<=0)||items.isEmpty)=true):=by simp;exact .inl h1
  wp_walk using DL N
  rw[if_neg c1];refine xd (Eh (items:=items) ⟨_,N,rfl,n,rfl⟩ ?_);rw[if_neg c2];show wpAny _ _ (if (decide (x<=0)||items.isEmpty)=true then _ else _) _ _ _
  rw[if_pos c3];exact xd (m:=Bt _) (Bh (Aj ⟨_,rfl,h⟩))
def Rr:R2:=λx y H Q=>∃a k N,x=.c a/\y=.d k/\H a=some (.c N)∧-1000<=k/\k<=1000/\N≠[]/\N.length<=1000/\rS H (An k.toNat N).flatten Q
def Yx:OpR X (BG .Mult) Rr:=by
 intro pins s σ H x y v u Q I W S h;obtain⟨a,k,xs,rfl,rfl,R,h1,h2,Z,h4,g⟩:=h;by_cases hk2:2<=k
 . exact Yy pins s σ H _ _ v u Q I W S ⟨a,k,xs,rfl,rfl,R,hk2,h2,Z,h4,g⟩
 cases W;obtain⟨t,rfl⟩:=S;obtain⟨its,r,p1,_⟩:=I.tuple (.inl (.inl R));obtain⟨⟨cls,dd,data,O⟩,N,Y,n,hd⟩:=id p1;simp only at Y hd;subst Y hd;by_cases hk1:k=1
 . subst hk1
   refine CP (T:="tuple") (U:="int") (by decide) ⟨_,N,rfl⟩ (λs'=>Dh s' 1 t) xn EK Cm vW Em.lookup
    (Ck Cm (Dh s 1 t) En (Ea _ _) (wU 1 t a its.toArray n dd O)
     ⟨N,rfl,⟨_,N,rfl⟩,Ck Dw ⟨_,N,rfl⟩ FE (Fb _ _) (iD a its.toArray n t dd O) ⟨N,?_⟩⟩)
   refine⟨.c a,H,I,rfl,g a H (wK.refl H) ?_⟩;rw[R];simp
 . have P:¬its.toArray.isEmpty=true:=by simp;intro e;exact Z (r.sE.mp e)
   have e0:k.toNat=0:=by omega
   refine CP (T:="tuple") (U:="int") (by decide) ⟨_,N,rfl⟩ (λs'=>Dh s' k t) xn EK Cm vW Em.lookup
    (Ck Cm (Dh s k t) En (Ea _ _) (wU k t a its.toArray n dd O)
     ⟨N,rfl,⟨_,N,rfl⟩,Ck Dw ⟨_,N,rfl⟩ FE (Fb _ _) (iC a its.toArray n k t dd O ⋯ h1 P) ⟨N,?_⟩⟩)
   rw[e0]at g;refine⟨.c s.heap.objs.size,_,I.laid (t':=s.toks) (o:=.c []) (λb ob q=>Aa _ q) (Ad _) ⟨Bj _,[],.nil,si.new _ _⟩,rfl,g.new _ (I.B.fresh (Ad _))⟩
noncomputable def rM(a b c:Int):List Int:=(Av (B4 a b c).toNat).map λ(i:Nat)=>a+(i:Int)*c
end
end L2
end
section
namespace L2
open PySem PyProof PyProof.Rows
section
variable {X:Cx}
theorem oa:∀{xs} {us},Vals xs us->xs.all vd=true->us.countP (eqU x)=xs.countP λy=>eqV y x
 |_,_,.nil,_=>rfl
 |y::ys,u::us,.cons r rs,h=>by rw[DE,cf]at h;rw[List.countP_cons,List.countP_cons,oa rs h.2,kn r h.1]
def jm(K:Ae)(tup:Bool):V->List V->Hp->VK->Prop:=λx vs H Q=>∃t N y,x=.c t/\vs=[y]/\(if tup=true then SqT K H t N else SqL K H t N)/\vd y=true/\N.all vd=true/\Q (.d (N.countP λz=>eqV z y:Nat)) H
def fO:MtR X "list.count" (jm X.K false):=by
 intro pins s σ H x Z v us Q I R U h;obtain⟨t,ys,y,rfl,rfl,W,Y,fs,q⟩:=h;cases R;obtain⟨u,rfl,S⟩:=vals1 U;obtain⟨its,r,p1,_⟩:=I.list W;obtain⟨⟨cls,dd,data,P⟩,N,O,n,hd⟩:=id p1.isList;simp only at O hd;subst O hd;refine Ck F.slot_list_count ⟨_,N,rfl⟩ F.entry_list_count (F.args_list_count_2 _ _) (SeqAt.list_countAt t its.toArray n dd P u (eqU y)) ⟨N,λw hw=>pD S Y r fs w (by simpa using hw),?_⟩
 rw[show its.toArray.toList=its from rfl,oa r fs];exact⟨.d _,H,I.tok _,⟨s.toks,rfl⟩,q⟩
noncomputable def v9(d:Int):List Int->Int
 |[]=>d
 |n::ns=>ns.foldl (λa b=>if b<a then b else a) n
theorem qm:∀(ns:List Int) a,ns.foldl (λa b=>if b<a then b else a) a<=a/\(∀x∈ns,ns.foldl (λa b=>if b<a then b else a) a<=x)/\(ns.foldl (λa b=>if b<a then b else a) a=a\/ns.foldl (λa b=>if b<a then b else a) a∈ns)
 |[],a=>⟨Int.le_refl _,λ_ h=>(nomatch h),.inl rfl⟩
 |n::ns,a=>by
  obtain⟨h1,P,N⟩:=qm ns (if n<a then n else a)
  show ns.foldl _ (if n<a then n else a)<=a/\_
  have O:(if n<a then n else a)<=a/\(if n<a then n else a)<=n:=by split<;>omega
  refine⟨EN h1 O.1,λx hx=>?_,?_⟩
  . rcases Ap.mp hx with e|hx
    . rw[e];exact EN h1 O.2
    . exact P x hx
  . rcases N with N|N
    . show ns.foldl _ (if n<a then n else a)=a\/ns.foldl _ (if n<a then n else a)∈n::ns
      rw[N];split
      . exact .inr (Ax ..)
      . exact .inl rfl
    . exact .inr (Ah _ N)
def jN(h:ns≠[]):v9 d ns∈ns/\∀x∈ns,v9 d ns<=x:=by
 cases ns with
 |nil=>exact absurd rfl h
 |cons n ns=>
  obtain⟨h1,O,N⟩:=qm ns n;refine⟨?_,λx hx=>?_⟩
  . rcases N with N|N
    . show ns.foldl _ n∈_;rw[N];exact Ax ..
    . exact Ah _ N
  . rcases Ap.mp hx with e|hx
    . rw[e];exact h1
    . exact O x hx
def lq(h1:M∈ns)(O:∀x∈ns,M<=x):v9 d ns=M:=by
 have N:ns≠[]:=λe=>by rw[e]at h1;exact nomatch h1
 obtain⟨a,b⟩:=jN (d:=d) N;exact EO (b _ h1) (O _ a)
def WW(K:Ae)(g:List Int->Int):List V->Hp->VK->Prop:=λx H Q=>∃(a:Addr) (ns:List Int),x=[.c a]/\SqL K H a (ns.map V.d)/\ns≠[]/\Q (.d (g ns)) H
def gc(hc:X.j=true):yI X (.builtin "max") (WW X.K (vh 0)):=by
 intro pins s σ H xs us Q I r h;obtain⟨a,ns,rfl,ha,U,q⟩:=h;obtain⟨u,rfl,ru⟩:=vals1 r;cases ru;obtain⟨its,Y,S,hz⟩:=I.list ha;have O:=Y.length;have R:a<s.heap.objs.size:=by obtain⟨o,N,_⟩:=S.isList;exact Al N
 have hl:its.toArray.size=ns.length:=by rw[Ai,<-O,Ac]
 have Z:0<ns.length:=DI.mpr U;have P:∀(i:Nat) (v:Value),its.toArray[i]?=some v->∃t,v=.int (ns.getD i 0) t:=λi v hv=>Y.ints (by simpa using hv)
 refine call_max_walk (D9 S.isList ?_);refine⟨s.heap.objs.size,_,_,_,_,_,_,rfl,Walks.list (A:=X.A.in1) (I.C.k hc) s.heap.objs.size a (AL R) its.toArray,⟨⟨_,AF _ rfl,rfl,rfl⟩,?_⟩,λb hb=>?_,⋯,CmpOf.ints_gt (λi=>ns.getD i 0) P,λv h' tk hP hk=>?_⟩
 . obtain⟨o,N,W,n,hd⟩:=S.isList
   exact⟨o,Aa _ N,W,n,hd⟩
 . rw[BA]
   simp only[Ap,Bo,or_false]at hb;rcases hb with e|e
   . rw[e];exact Dx _
   . rw[e];exact Cr R
 . obtain⟨t,rfl⟩:=P _ _ hP
   obtain⟨b1,b2⟩:=argBest_gt (λi=>ns.getD i 0) (its.toArray.size-1);have e:vh 0 ns=ns.getD (argBest (λi j=>decide (ns.getD i 0 > ns.getD j 0)) (its.toArray.size-1)) 0:=by
    refine ll ?_ λx hx=>?_
    . have:argBest (λi j=>decide (ns.getD i 0 > ns.getD j 0)) (its.toArray.size-1)<ns.length:=by omega
      rw[Am,Ab this];exact BY this
    . obtain⟨i,hi,rfl⟩:=BI hx
      have:=b2 i ⋯
      simpa [Am,Ab hi] using this
   refine⟨.d (vh 0 ns),H,I.kept λb o N=>hk b o ?_ (Aa _ N),⟨t,by rw[e]⟩,q⟩
   simpa using AL (Al N)
def gj(hc:X.j=true):yI X (.builtin "min") (WW X.K (v9 0)):=by
 intro pins s σ H xs us Q I r h;obtain⟨a,ns,rfl,ha,U,q⟩:=h;obtain⟨u,rfl,ru⟩:=vals1 r;cases ru;obtain⟨its,Y,S,hz⟩:=I.list ha;have O:=Y.length;have R:a<s.heap.objs.size:=by obtain⟨o,N,_⟩:=S.isList;exact Al N
 have hl:its.toArray.size=ns.length:=by rw[Ai,<-O,Ac]
 have Z:0<ns.length:=DI.mpr U;have P:∀(i:Nat) (v:Value),its.toArray[i]?=some v->∃t,v=.int (ns.getD i 0) t:=λi v hv=>Y.ints (by simpa using hv)
 refine call_min_walk (D9 S.isList ?_);refine⟨s.heap.objs.size,_,_,_,_,_,_,rfl,Walks.list (A:=X.A.in1) (I.C.k hc) s.heap.objs.size a (AL R) its.toArray,⟨⟨_,AF _ rfl,rfl,rfl⟩,?_⟩,λb hb=>?_,⋯,CmpOf.ints_lt (λi=>ns.getD i 0) P,λv h' tk hP hk=>?_⟩
 . obtain⟨o,N,W,n,hd⟩:=S.isList
   exact⟨o,Aa _ N,W,n,hd⟩
 . rw[BA]
   simp only[Ap,Bo,or_false]at hb;rcases hb with e|e
   . rw[e];exact Dx _
   . rw[e];exact Cr R
 . obtain⟨t,rfl⟩:=P _ _ hP
   obtain⟨b1,b2⟩:=argBest_lt (λi=>ns.getD i 0) (its.toArray.size-1);have e:v9 0 ns=ns.getD (argBest (λi j=>decide (ns.getD i 0<ns.getD j 0)) (its.toArray.size-1)) 0:=by
    refine lq ?_ λx hx=>?_
    . have:argBest (λi j=>decide (ns.getD i 0<ns.getD j 0)) (its.toArray.size-1)<ns.length:=by omega
      rw[Am,Ab this];exact BY this
    . obtain⟨i,hi,rfl⟩:=BI hx
      have:=b2 i ⋯
      simpa [Am,Ab hi] using this
   refine⟨.d (v9 0 ns),H,I.kept λb o N=>hk b o ?_ (Aa _ N),⟨t,by rw[e]⟩,q⟩
   simpa using AL (Al N)
def fh{o e:Expr}{to te:TE}{apos cpos:Pos}{es:List Expr}(P:PE X o to)(Q:PE X e te)(x:Ca o "append" X.a (eval o X.a)=eval o X.a:=by rfl)(N:noStar e=true:=by rfl)(hline:(apos.endLine == cpos.line)=true:=by rfl) :
 PE X (.Call (.Attribute o "append" apos) [e] [] cpos) (tBM X.K "list" gH to (xW te tM)):=by
 have O:AG [e] X.a=(false,eval e X.a)::AG [] X.a:=zv N;refine gE C8 PySem.F.slot_list_append PySem.F.type_list_append nD P (pac Q yn N) x ?_ hline O rfl;rw[O];rfl
def fi(P:PE X o to)(Q:PE X e te)(x:Ca o "count" X.a (eval o X.a)=eval o X.a:=by rfl)(N:noStar e=true:=by rfl)(hline:(apos.endLine == cpos.line)=true:=by rfl) :
 PE X (.Call (.Attribute o "count" apos) [e] [] cpos) (tBM X.K "list" (jm X.K false) to (xW te tM)):=by
 have O:AG [e] X.a=(false,eval e X.a)::AG [] X.a:=zv N;refine gE C8 PySem.F.slot_list_count PySem.F.type_list_count fO P (pac Q yn N) x ?_ hline O rfl;rw[O];rfl
end
end L2
namespace L2
open PySem
end L2
end
section
namespace L2
open PySem PySem.W PySem.Calls PyProof PyProof.Rows
noncomputable def X6(z:Int × Int):Int:=z.1*1000+z.2
def z0.got(x:z0 P w H h a o):∃u,h.get? a=some u:=by
 cases o with
 |b O=>obtain⟨_,_,_,_,e⟩:=x;exact⟨_,e⟩
 |c O=>obtain⟨_,_,_,_,e,_⟩:=x;exact⟨_,e⟩
 |i N=>obtain⟨_,_,_,_,o,_,_,e,_⟩:=x;exact⟨_,e⟩
 |l N=>obtain⟨_,_,_,_,o,_,_,e,_⟩:=x;exact⟨_,e⟩
 |p S n=>obtain⟨o,_,_,_,e,_⟩:=x;exact⟨_,e⟩
 |k C dx fs=>obtain⟨_,_,_,e,_⟩:=x;exact⟨_,e⟩
 |e y=>exact x
 |m fs=>obtain⟨_,⟨_,_,_,e,_⟩,_⟩:=x;exact⟨_,e⟩
 |r lo hi=>obtain⟨_,_,_,e⟩:=x;exact⟨_,e⟩
 |d ob u=>obtain⟨e,_⟩:=x;exact⟨_,e⟩
 |g ps=>exact⟨_,x⟩
 |q f y=>exact⟨_,x⟩
 |j Q=>exact x.2.1
def Inv.Wu(I:Inv X pins σ H s)(hz:ys.length<=Ar)(r:Vals ys its)(hD:s.heap.get? D=none)(keep:∀b o,b≠X.a.locals->s.heap.get? b=some o->h'.get? b=some o)
 (ns:∀m,s.heap.Ns X.a.locals m->h'.Ns X.a.locals m) (e:h'.get? D=some {cls:=.type "list",data:=.seq its.toArray c}):H D=none/\Inv X pins σ (upd H D (.b ys)) {s with heap:=h'}:=by
 have R:H D=none:=by
  cases q:H D with
  |none=>rfl
  |some o=>
   obtain⟨u,hu⟩:=z0.got (I.B D o q);rw[hD]at hu;cases hu
 have ne:∀b o,H b=some o->b≠D:=λb o q z=>by rw[z,R]at q;cases q
 have N:∀b o,s.heap.get? b=some o->b≠D:=λb o q z=>by rw[z,hD]at q;cases q
 refine⟨R,I.step (g':=s.gens) (d':=s.drawn) (t':=s.toks) (ch:=[]) (λ_ z=>nomatch z) (λb o Q _ _ q _=>keep b o Q q) (λb o Q _ _ q _=>⟨o.slots,keep b o Q q⟩) (λb o _ q n=>?_) (λb o _ q=>?_) (λb S q=>?_) (λb o u q=>?_) (λb ps q=>?_) ns (λb o q=>?_) I.F⟩
 . rw[zG (N b o q)];exact n
 . by_cases hb:b=X.a.locals
   . subst hb
     obtain⟨m,W,_⟩:=I.O;obtain⟨U,_,_,P,_⟩:=ns m W;exact⟨U,P⟩
   . exact⟨o,keep b o hb q⟩
 . rw[zG (ne b _ q)];exact q
 . rw[zG (ne b _ q)];exact q
 . exact⟨#[],by rw[zG (ne b _ q),q];simp⟩
 . by_cases hb:b=D
   . subst hb
     rw[zK]at q;cases q;exact⟨hz,its,c,r,e⟩
   . rw[zG hb]at q
     refine(I.B b o q).r9 (λx u hx hu=>keep x u ?_ hu) (λx hx=>by rw[zG (ne x _ hx)];exact hx) (λx S hx=>by rw[zG (ne x _ hx)];exact hx)
     rcases hx with rfl|hx
     . intro z;rw[z,I.J]at q;cases q
     . intro z;rw[z,I.J]at hx;cases hx
noncomputable def Ss:List Int->List Int->Bool
 |x::xs,y::ys=>if x=y then Ss xs ys else decide (x<y)
 |_,_=>false
noncomputable def Sr:List Int->List Int->Bool
 |x::xs,y::ys=>if x=y then Sr xs ys else decide (x<y)
 |[],_::_=>true
 |_,[]=>false
def SW(z:List Int):List (List Int)->List (List Int)
 |[]=>[z]
 |y::ys=>if Sr y z then y::SW z ys else z::y::ys
def Wc:List (List Int)->List (List Int)
 |[]=>[]
 |z::zs=>SW z (Wc zs)
end L2
end
section
namespace L2
open PySem PyProof.Rows
noncomputable def intsOf:List Expr->Option (List Int)
 |[]=>some []
 |.Constant (.int i) _ _::es=>(intsOf es).map λr=>i::r
 |.UnaryOp .USub (.Constant (.int i) _ _) _::es=>(intsOf es).map λr=>-i::r
 |_=>none
section
variable {X:Cx}{a b:Expr}{rest:List Expr}{ta tb:TE}{pos:Pos}
def Qo(K:Ae)(ta tb:TE):TE:=λσ H Q=>ta σ H λx H1=>∃c,Zy K x H1 c/\if c=true then Q x H1 else tb σ H1 Q
def Uk(U:PE X a ta)(S:PE X (.BoolOp .Or (b::rest) pos) tb):PE X (.BoolOp .Or (a::b::rest) pos) (Qo X.K ta tb):=by
 intro pins s σ H Q I h;refine BoolOp_or (thn (U pins s σ H _ I h) λv s1 N=>?_);obtain⟨x,H1,W,r1,c,R,q1⟩:=N;refine thn (Zi pins s1 σ H1 x v (λk H2=>if k=true then Q x H2 else tb σ H2 Q) W r1 ⟨c,R,q1⟩) λk s2 N=>?_
 obtain⟨H2,P,O⟩:=N;cases k with
 |false=>exact S pins s2 σ H2 Q P O
 |true=>exact⟨x,H2,P,r1,O⟩
end
noncomputable def vy(n:Nat)(lo hi:Option Int)(c:Int):Int × Nat:=((Bw lo hi (some c) n).1,(if c > 0 then (if (Bw lo hi (some c) n).1<(Bw lo hi (some c) n).2.1 then ((Bw lo hi (some c) n).2.1-(Bw lo hi (some c) n).1+c-1)/c else 0) else (if (Bw lo hi (some c) n).1 > (Bw lo hi (some c) n).2.1 then ((Bw lo hi (some c) n).1-(Bw lo hi (some c) n).2.1-c-1)/(-c) else 0):Int).toNat)
def uG its lo hi c:GR its.toArray lo hi (some c)=(zo its (vy its.length lo hi c).1 c (vy its.length lo hi c).2).toArray:=by unfold GR sliceRange zo vy;rw[Cf];refine congrArg List.toArray ?_;have e:(Bw lo hi (some c) its.toArray.size).2.2=c:=rfl;rw[e];simp only[Ai];refine congrArg (λf=>List.filterMap f _) ?_;funext k;show its.toArray[_]?=_;rw[List.getElem?_toArray,Int.mul_comm]
def Rt(K:Ae):V->Option Int->Option Int->Option Int->Hp->VK->Prop:=λx lo hi st H Q=>∃a N c,x=.c a/\SqL K H a N/\st=some c/\c≠0/\∀p,H p=none->Q (.c p) (upd H p (.b (zo N (vy N.length lo hi c).1 c (vy N.length lo hi c).2)))
def jd{lo hi}{st}(he:PE X e te)(hl:PO X lo tl)(hu:PO X hi th)(hc:PO X (some st) tc):PE X (.Subscript e (.Slice lo hi (some st) p2) pos) (QC (Rt X.K) te tl th tc):=by
 intro pins s σ H Q I h;refine GB (thn (he pins s σ H _ I h) λv s1 U=>?_);obtain⟨x,H1,I1,r1,q1⟩:=U;refine wpAny_Slice (thn (hl pins s1 σ H1 _ I1 q1) λZ s2 ⟨l,H2,I2,pl,q2⟩=>thn (hu pins s2 σ H2 _ I2 q2) λY s3 ⟨u,H3,I3,pu,q3⟩=>thn (hc pins s3 σ H3 _ I3 q3) λvc P U=>?_);obtain⟨c,H4,I4,pc,q4⟩:=U;obtain⟨a,O,N,rfl,hx,ec,h0,g⟩:=q4;subst ec;cases r1;have W:Inv X pins σ H4 {P with heap:=P.heap.push {cls:=.type "slice",data:=.fields #[Z,Y,vc]}}:=I4.kept (t':=P.toks) λb ob q=>Aa _ q
 obtain⟨its,r,ht,hz⟩:=W.list hx;have R:=r.length;show wpAny (model X.f X.w) X.A (Fm e (.Slice lo hi (some st) p2) (.ref a) (.ref P.heap.objs.size)) (EP X pins σ Q) X.i {P with heap:=P.heap.push {cls:=.type "slice",data:=.fields #[Z,Y,vc]}}
 refine tail_any (ops:=[.ref a,.ref P.heap.objs.size]) ht.isList.typeIs FA.lookup (FT ht.isList (E6 ..) pl pu pc (λz=>h0 (A1 z)) ?_ (by rw[Ai]<;>omega)) (by with_unfolding_all rfl)
 rw[uG,<-R];refine⟨.c _,_,W.laid (t':=P.toks) (o:=.b (zo O (vy O.length l u N).1 N (vy O.length l u N).2)) (λb ob q=>Aa _ q) (Ad _) ?_,rfl,g _ (W.B.fresh (Ad _))⟩;have rp:=r.zo (vy O.length l u N).1 N (vy O.length l u N).2;have S:(zo O (vy O.length l u N).1 N (vy O.length l u N).2).length<=O.length:=by have:=slicePick_size_le its.toArray l u (some N);rw[uG,Ai,Ai,<-R,<-rp.length]at this;exact this
 exact⟨As S hz,_,0,rp,AF _ rfl⟩
end L2
end
section
namespace L2
open PySem PyProof PyProof.Rows
section
variable {X:Cx}
noncomputable def Sl(z:Str)(ys:List Str):Str:=Txt.join z ys
end
end L2
end
section
namespace L2
open PySem PySem.Spec PyProof PyProof.Rows
section
variable {X:Cx}
noncomputable def R4(ns:List Int):Bool:=decide (ns.length<=1000)&&ns.all λn=>decide (-1000000<=n)&&decide (n<=1000000)
end
end L2
end
section
namespace L2
open PySem PySem.W PySem.Calls PyProof PyProof.Rows
open AutoSeq1 (wpAny_loadPart')
open SeqAt
theorem cP:∀{xs} {us},Vals xs us->xs.all vd=true->us.map (eqU x)=xs.map λy=>eqV y x
 |_,_,.nil,_=>rfl
 |y::ys,u::us,.cons r rs,h=>by rw[DE,cf]at h;rw[AW,AW,cP rs h.2,kn r h.1]
def mw(W:T="list"\/T="tuple")(S:s.heap.get? l=some o)(U:o.cls=.type T)(hd:o.data=.seq vs.toArray n)(Y:IntsAre vs ns)(R:vs.length<64)
 (h:∀D h' out x c,s.heap.get? D=none->(∀b o,s.heap.get? b=some o->h'.get? b=some o)->h'.get? D=some (seqObj "list" out c)->IntsAre out.toList x->x.Perm ns->x.Pairwise (·<=·)->Q (.ref D) {s with heap:=h'}) :
 wpAny (model prog w) A (call (.builtin "sorted") [.ref l]) Q E s:=by
 refine Calls.call_function_entry kind_sorted plain_sorted entry_sorted (args_sorted1 _) ?_;unfold Builtin.«sorted»;refine xd (m:=checkCount "sorted" 1 1 _) (Aj ?_);refine xd (wpAny_collect_seq l W S U hd (λh1 O=>?_) (by rw[Ai,AI];omega))
 refine xd (wpAny_newList ?_ (by rw[AI];simp;omega))
 have N:(h1.push (seqObj "list" vs.toArray 0)).get? h1.objs.size=some (seqObj "list" vs.toArray 0):=AF _ rfl;show wpAny _ _ _ _ _ {s with heap:=h1.push (seqObj "list" vs.toArray 0)}
 refine xd (By (El slot_list_sort ⟨_,N,rfl⟩ entry_list_sort (list_sort_tree N Y R λout x a1 a2 a3=>⟨_,rfl,?_⟩) (args_list_sort _)));obtain⟨c,Z⟩:=sortedHeap_at (out:=out) N;refine Aj ⟨_,rfl,h h1.objs.size _ out x c ?_ (λb o e=>?_) Z a1 a2 a3⟩
 . cases e:s.heap.get? h1.objs.size with
   |none=>rfl
   |some o'=>exact absurd (Al (O _ _ e)) (Bc _)
 . have P:=Al (O b o e)
   rw[sortedHeap_old (AL P) (by rw[size_push'];exact Cr P),Heap.get?_push_ne _ _ _ (AL P)]
   exact O b o e
theorem lX:∀{ns} {us},Vals (ns.map V.d) us->IntsAre us ns
 |[],_,.nil=>.nil
 |n::ns,_,.cons ⟨t,e⟩ r=>by subst e;exact .cons _ _ (lX r)
theorem lJ:∀{ns} {us},IntsAre us ns->Vals (ns.map V.d) us
 |_,_,.nil=>.nil
 |_,_,.cons _ _ r=>.cons ⟨_,rfl⟩ (lJ r)
def kh:yI X (.builtin "sorted") (λW H Q=>∃p ns,W=[.c p]/\(SqL X.K H p (ns.map V.d)\/SqT X.K H p (ns.map V.d))/\ns.length<64 /\
 ∀l (N:List Int),H l=none->N.Perm ns->N.Pairwise (·<=·)->Q (.c l) (upd H l (.b (N.map V.d)))):=by
 intro pins s σ H W us Q I r h;obtain⟨p,ns,rfl,R,h64,q⟩:=h;obtain⟨u,rfl,Z⟩:=vals1 r;cases Z;have Y:∀{its:List Value} {T:String} {o:Obj} {n:Nat},Vals (ns.map V.d) its->(T="list"\/T="tuple")->s.heap.get? p=some o->o.cls=.type T->o.data=.seq its.toArray n ->
  wpAny (model X.f X.w) X.A (call (.builtin "sorted") [.ref p]) (λv s'=>∃x H',Inv X pins σ H' s'/\RelV x v/\Q x H') X.i s:=λ{its T o n} P hT O S hd=>by
  have hl:=P.length;rw[Ac]at hl;refine mw hT O S hd (lX P) ⋯ λD h' out N c hD keep e hi hp O=>?_
  have hln:=hp.length_eq;obtain⟨U,I'⟩:=I.Wu (h':=h') (ys:=N.map V.d) (its:=out.toList) (c:=c) (by rw[Ac,AI];omega) (lJ hi) hD (λb o _ e=>keep b o e) (λm ⟨o,es,ep,O,r⟩=>⟨o,es,ep,keep _ o O,r⟩) (by rw[e])
  exact⟨V.c _,_,I',rfl,q _ _ U hp O⟩
 rcases R with R|R
 . obtain⟨its,P,pl,hz⟩:=I.list R
   obtain⟨o,O,S,n,hd⟩:=id pl.isList;exact Y P (.inl rfl) O S hd
 . obtain⟨its,P,p1,_⟩:=I.tuple R
   obtain⟨o,O,S,n,hd⟩:=id p1;exact Y P (.inr rfl) O S hd
section
variable {X:Cx}
def ZA(K:Ae)(g:List Int->Int):List V->Hp->VK->Prop:=λx H Q=>∃(a:Addr) (ns:List Int),x=[.c a]/\SqT K H a (ns.map V.d)/\ns≠[]/\Q (.d (g ns)) H
def gg(hc:X.j=true):yI X (.builtin "max") (ZA X.K (vh 0)):=by
 intro pins s σ H xs us Q I r h;obtain⟨a,ns,rfl,ha,U,q⟩:=h;obtain⟨u,rfl,ru⟩:=vals1 r;cases ru;obtain⟨its,Y,S,hz⟩:=I.tuple ha;have O:=Y.length;have R:a<s.heap.objs.size:=by obtain⟨o,N,_⟩:=id S;exact Al N
 have hl:its.toArray.size=ns.length:=by rw[Ai,<-O,Ac]
 have Z:0<ns.length:=DI.mpr U;have P:∀(i:Nat) (v:Value),its.toArray[i]?=some v->∃t,v=.int (ns.getD i 0) t:=λi v hv=>Y.ints (by simpa using hv)
 refine call_max_walk (E3 S ?_);refine⟨s.heap.objs.size,_,_,_,_,_,_,rfl,Walks.tuple (A:=X.A.in1) (I.C.k hc) s.heap.objs.size a (AL R) its.toArray,⟨⟨_,AF _ rfl,rfl,rfl⟩,?_⟩,λb hb=>?_,⋯,CmpOf.ints_gt (λi=>ns.getD i 0) P,λv h' tk hP hk=>?_⟩
 . obtain⟨o,N,W,n,hd⟩:=id S
   exact⟨o,Aa _ N,W,n,hd⟩
 . rw[BA]
   simp only[Ap,Bo,or_false]at hb;rcases hb with e|e
   . rw[e];exact Dx _
   . rw[e];exact Cr R
 . obtain⟨t,rfl⟩:=P _ _ hP
   obtain⟨b1,b2⟩:=argBest_gt (λi=>ns.getD i 0) (its.toArray.size-1);have e:vh 0 ns=ns.getD (argBest (λi j=>decide (ns.getD i 0 > ns.getD j 0)) (its.toArray.size-1)) 0:=by
    refine ll ?_ λx hx=>?_
    . have:argBest (λi j=>decide (ns.getD i 0 > ns.getD j 0)) (its.toArray.size-1)<ns.length:=by omega
      rw[Am,Ab this];exact BY this
    . obtain⟨i,hi,rfl⟩:=BI hx
      have:=b2 i ⋯
      simpa [Am,Ab hi] using this
   refine⟨.d (vh 0 ns),H,I.kept λb o N=>hk b o ?_ (Aa _ N),⟨t,by rw[e]⟩,q⟩
   simpa using AL (Al N)
def kg(hc:X.j=true):yI X (.builtin "min") (ZA X.K (v9 0)):=by
 intro pins s σ H xs us Q I r h;obtain⟨a,ns,rfl,ha,U,q⟩:=h;obtain⟨u,rfl,ru⟩:=vals1 r;cases ru;obtain⟨its,Y,S,hz⟩:=I.tuple ha;have O:=Y.length;have R:a<s.heap.objs.size:=by obtain⟨o,N,_⟩:=id S;exact Al N
 have hl:its.toArray.size=ns.length:=by rw[Ai,<-O,Ac]
 have Z:0<ns.length:=DI.mpr U;have P:∀(i:Nat) (v:Value),its.toArray[i]?=some v->∃t,v=.int (ns.getD i 0) t:=λi v hv=>Y.ints (by simpa using hv)
 refine call_min_walk (E3 S ?_);refine⟨s.heap.objs.size,_,_,_,_,_,_,rfl,Walks.tuple (A:=X.A.in1) (I.C.k hc) s.heap.objs.size a (AL R) its.toArray,⟨⟨_,AF _ rfl,rfl,rfl⟩,?_⟩,λb hb=>?_,⋯,CmpOf.ints_lt (λi=>ns.getD i 0) P,λv h' tk hP hk=>?_⟩
 . obtain⟨o,N,W,n,hd⟩:=id S
   exact⟨o,Aa _ N,W,n,hd⟩
 . rw[BA]
   simp only[Ap,Bo,or_false]at hb;rcases hb with e|e
   . rw[e];exact Dx _
   . rw[e];exact Cr R
 . obtain⟨t,rfl⟩:=P _ _ hP
   obtain⟨b1,b2⟩:=argBest_lt (λi=>ns.getD i 0) (its.toArray.size-1);have e:v9 0 ns=ns.getD (argBest (λi j=>decide (ns.getD i 0<ns.getD j 0)) (its.toArray.size-1)) 0:=by
    refine lq ?_ λx hx=>?_
    . have:argBest (λi j=>decide (ns.getD i 0<ns.getD j 0)) (its.toArray.size-1)<ns.length:=by omega
      rw[Am,Ab this];exact BY this
    . obtain⟨i,hi,rfl⟩:=BI hx
      have:=b2 i ⋯
      simpa [Am,Ab hi] using this
   refine⟨.d (v9 0 ns),H,I.kept λb o N=>hk b o ?_ (Aa _ N),⟨t,by rw[e]⟩,q⟩
   simpa using AL (Al N)
end
end L2
end
section
namespace L2
open PySem PySem.W PySem.Calls PyProof PyProof.Rows
open AutoSeq1 (wpAny_loadPart')
open SeqAt
noncomputable def Su:List Int->List Int->Bool
 |[],[]=>false
 |[],_::_=>true
 |_::_,[]=>false
 |x::xs,y::ys=>if x=y then Su xs ys else decide (x<y)
end L2
namespace L2
open PySem PySem.W PySem.Calls PyProof PyProof.Rows
def S6:List (List Int)->List Int
 |[]=>[]
 |z::t=>t.foldl (λm y=>if Su y m then y else m) z
end L2
end
section
namespace L2
open PySem PySem.W PySem.Calls PyProof PyProof.Rows
noncomputable def dN(ns:List Int):Nat:=(firstMet (λi=>ns.getD i 0) ns.length).length
end L2
end
section
namespace PySem
open Sem (wp)
structure yx(B newId initId:String)(bm:List Value):Prop extends ExcCallFacts B newId initId where
 c:splitId newId=some (B,"__new__")
 d:builtinKind newId=some .builtinFn
 e:Manifest.signature? newId=some ⟨.any,B,B,.cls,[⟨"args",.varPos,false⟩,⟨"kwargs",.varKw,false⟩]⟩
 b:bm.contains (.type B)=true
 a:bm.contains (.type "BaseException")=true
 f:bm.contains (.type "AttributeError")=false
 g:bm.contains (.type "NameError")=false
 h:Manifest.canonical newId=Manifest.canonical "BaseException.__new__"
def ExcBaseFacts.two(F:ExcBaseFacts B newId initId bm)D:yx B newId initId (.ref D::bm):=
 ⟨F.toExcCallFacts,F.newSplit,F.newKind,F.newRow,by rw[Bk,F.hasB,CZ],by rw[Bk,F.hasBase,CZ],by rw[Bk,F.noAttr];rfl,by rw[Bk,F.noName];rfl,F.canon⟩
def vo{os:OsState}
 (hC:h.get? C=some (AZ nm q C N bs bm hdct sn sub ab col dd k0 k1 k2 k3 k5 newId)) (W:h.Ns N mN) (O:mN name=none)
 (hD:h.get? D=some (AZ nm1 q1 D N1 bs1 bm1 hd1 sn1 sub1 ab1 col1 dd1 j0 j1 j2 j3 j5 new1)) (P:h.Ns N1 mN1) (x:mN1 name=none) (R:bm=.ref D::bm1) (S:mroOf (.type B)=pure bm1) (hB:EI (.type B) name=pure y)
 (U:Q y ⟨h,g,d,t,os⟩):wpAny M A (EI (.ref C) name) Q E ⟨h,g,d,t,os⟩:=by
 have hrest:lookupAlong bm1 name=pure y:=by rw[GN,S]at hB;exact hB
 rw[GN];refine xd (Gi hC ?_);rw[F1];refine xd (Fc hC W ?_);rw[O,R];show wpAny M A (lookupAlong (.ref D::bm1) name) Q E _;rw[F1];refine xd (Fc hD P ?_);rw[x,hrest];exact Aj U
def wC{os:OsState}(F:yx B newId initId bm)(hC:h.get? C=some (AZ nm q C N bs bm hdct sn sub ab col dd k0 k1 k2 k3 k5 newId))
 (P:Q () ⟨h,g,d,t,os⟩):wpAny M A (Ce newId ⟨.ref C::rest,[]⟩) Q E ⟨h,g,d,t,os⟩:=by
 have x:(AO C::bm).contains (.type B)=true:=by rw[Bk,F.b,CZ]
 have O:=F.noStar;simp only[Ce,F.d,F.c,F.e]
 repeat (first|refine AM hC ?_|(refine B8 hC ?_;rw[x])|refine wpAny_staticBase_exc hC ?_|refine F2 hC ?_|simp only[bne_self_eq_false,Ba,if_false]|wp_step)
 exact P
def x8{os:OsState}(F:yx B newId initId bm)(hC:h.get? C=some (AZ nm q C N bs bm hdct sn sub ab col dd k0 k1 k2 k3 k5 newId))
 (U:R (.ok (.ret (.ref (h.objs.size+1)))) ⟨(h.push {cls:=.type "tuple",data:=.seq rest.toArray}).push
  {cls:=.ref C,data:=.fields #[.ref h.objs.size,.none,.none,.none,.bool false,.none]},g,d,t,os⟩) (hrest:rest.length<=Ar:=by size_fits) :
 codeAny (model prog w) A (.builtin newId ⟨.ref C::rest,[]⟩) R ⟨h,g,d,t,os⟩:=by
 have x:=F.ends;have P:(AO C::bm).contains (.type B)=true:=by rw[Bk,F.b,CZ]
 have Q:(AO C::bm).contains (.type "AttributeError")=false:=by rw[Bk,F.f];rfl
 have O:(AO C::bm).contains (.type "NameError")=false:=by rw[Bk,F.g];rfl
 refine codeAny_builtinAt F.entry ?_;unfold Builtin.«BaseException.__new__»;refine wpAt_bind ?_;show wpAt _ _ _ (stack >>= _) _ _ _;refine wpAt_bind (wpAt_stack λp S=>wpAt_of_wpAny ?_)
 wp_walk
 refine wpAt_of_wpAny ?_;rw[F.owner]
 repeat (first|with_reducible refine wpAny_madeHere_exc F.h hC ?_|with_reducible refine AM hC ?_|(with_reducible refine B8 hC ?_;first|rw[P]|rw[Q]|rw[O])|wp_step)
 show R _ _;rw[BA];exact U
def xZ{os:OsState}(F:yx B newId initId bm)
 (hC:h.get? C=some (AZ nm q C N bs bm hdct sn sub ab col dd k0 k1 k2 k3 k5 newId)) (U:h.get? e=some oe) (O:oe.cls=.ref C) (S:Q () ⟨h,g,d,t,os⟩) :
 wpAny M A (Ce initId ⟨.ref e::rest,[]⟩) Q E ⟨h,g,d,t,os⟩:=by
 have R:(AO C::bm).contains (.type B)=true:=by rw[Bk,F.b,CZ]
 have P:=F.noStar;simp only[Ce,F.initKind,F.initSplit,F.initRow]
 repeat (first|(with_reducible refine AM U ?_;rw[O])|with_reducible refine AM hC ?_|(with_reducible refine B8 hC ?_;rw[R])|wp_step)
 refine wpAny_onRaise ?_;rw[show ∀(a b:String) (n:Nat),Bind.check ⟨.positional,"*",B,.self,[⟨"args",.varPos,false⟩]⟩ a b n (Eo (λx=>x.fst) ({pos:=AO e::rest}:Args).kw)=pure () from
  λa b n=>check_star_args _ _ _ _ _ _]
 exact Aj S
def wu{os:OsState}(F:yx B newId initId bm)
 (hC:h.get? C=some (AZ nm q C N bs bm hdct sn sub ab col dd k0 k1 k2 k3 k5 newId)) (hn:h.Ns N mN) (W:mN "__init__"=none) (hD:h.get? D=some (AZ nm1 q1 D N1 bs1 bm1 hd1 sn1 sub1 ab1 col1 dd1 j0 j1 j2 j3 j5 new1)) (Y:h.Ns N1 mN1) (U:mN1 "__init__"=none) (hbm:bm=.ref D::bm1) (hb1:mroOf (.type B)=pure bm1) 
 (hq:∀h' e,CU h h' e (.ref C) rest->Q (.done (.ret (.ref e))) ⟨h',g,d,t,os⟩) (hrest:rest.length<=Ar:=by size_fits) :
 wpAny (model prog w) A (Builtin.«type.__call__» ⟨.ref C::rest,[]⟩) Q E ⟨h,g,d,t,os⟩:=by
 repeat (first|with_reducible refine AM hC ?_|with_reducible refine F2 hC ?_|wp_step)
 refine FL (Di _ F.quiet) (wC F hC ?_);refine x8 F hC ?_ hrest;show wpAny _ _ _ _ _ _;have x:=Aa {cls:=.ref C,data:=.fields #[.ref h.objs.size,.none,.none,.none,.bool false,.none]}
  (Aa {cls:=.type "tuple",data:=.seq rest.toArray} hC)
 have R:((h.push {cls:=.type "tuple",data:=.seq rest.toArray}).push {cls:=.ref C,data:=.fields #[.ref h.objs.size,.none,.none,.none,.bool false,.none]}).Ns N mN:=
  let ⟨o,es,ep,e,r⟩:=hn;⟨o,es,ep,Aa _ (Aa _ e),r⟩
 have O:((h.push {cls:=.type "tuple",data:=.seq rest.toArray}).push
  {cls:=.ref C,data:=.fields #[.ref h.objs.size,.none,.none,.none,.bool false,.none]}).get? (h.objs.size+1)=some
  {cls:=.ref C,data:=.fields #[.ref h.objs.size,.none,.none,.none,.bool false,.none]}:=by heap_get
 have Z:(AO C::bm).contains (.ref C)=true:=by simp
 unfold GF
 repeat (first|with_reducible refine AM O ?_|(with_reducible refine B8 x ?_;rw[Z])|wp_step)
 show wpAny _ _ (EI (.ref C) _) _ _ _;have S:=Aa {cls:=.ref C,data:=.fields #[.ref h.objs.size,.none,.none,.none,.bool false,.none]}
  (Aa {cls:=.type "tuple",data:=.seq rest.toArray} hD)
 have P:((h.push {cls:=.type "tuple",data:=.seq rest.toArray}).push {cls:=.ref C,data:=.fields #[.ref h.objs.size,.none,.none,.none,.bool false,.none]}).Ns N1 mN1:=
  let ⟨o,es,ep,e,r⟩:=Y;⟨o,es,ep,Aa _ (Aa _ e),r⟩
 refine vo x R W S P U hbm hb1 F.init.lookup ?_;refine By (xd (wpAny_of_eq (F.init.bind _) ?_));refine xd (Df (Cp F.init.plain F.initEntry (xZ F x O rfl ?_)))
 wp_walk
 refine hq _ _ ⟨λb o hb=>?_,CN (Cz _),h.objs.size+2,?_,CN ⋯,?_⟩
 . rw[AY _ _ (Dl (Cr (Al hb)))]
   exact Aa _ (Aa _ (Aa _ hb))
 . rw[BM _ (Aa _ O) rfl]
   simp only[BA];rfl
 . rw[AY _ _ (show h.objs.size+1≠h.objs.size+2 by omega)]
   exact FF (by simp only[BA]) rfl
def uf{os:OsState}(F:yx B newId initId bm)
 (hC:h.get? C=some (AZ nm q C N bs bm hdct sn sub ab col dd k0 k1 k2 k3 k5 newId)) (W:h.Ns N mN) (O:mN "__init__"=none) (hD:h.get? D=some (AZ nm1 q1 D N1 bs1 bm1 hd1 sn1 sub1 ab1 col1 dd1 j0 j1 j2 j3 j5 new1)) (P:h.Ns N1 mN1) (x:mN1 "__init__"=none) (R:bm=.ref D::bm1) (S:mroOf (.type B)=pure bm1) 
 (U:∀h' e,CU h h' e (.ref C) rest->Q (.ref e) ⟨h',g,d,t,os⟩) (hrest:rest.length<=Ar:=by size_fits) :
 wpAny (model prog w) A (call (.ref C) rest) Q E ⟨h,g,d,t,os⟩:=by
 have f1:=tc_lookup;have f2:=tc_bind (.ref C);have Z:(⟨h,g,d,t,os⟩:Shared).TypeIs (.ref C) "type":=⟨_,hC,rfl⟩;refine Df (codeAny_of_tree ?_);show wpAny _ _ (callAny (.ref C) _) _ _ _
 repeat (any_goals (first|assumption|with_reducible refine AM hC ?_|wp_step))
 refine⟨rfl,?_⟩;refine F7 (Di _ (by decide +kernel)) entry_typeCall (FN hC (wu (hrest:=hrest) F hC W O hD P x R S λh' e Y=>?_))
 exact U h' e Y
def vn(F:yx B newId initId bm)
 (hh:A.handled=none) (W:(backTo cpos (AG args env)).any (·.1)=false) (hni:mN "__init__"=none) (Z:mN1 "__init__"=none) (hbm:bm=.ref D::bm1) (hb1:mroOf (.type B)=pure bm1)
 (h:wpAny (model prog w) A (eval (.Name x np) env) (λf S=>f=.ref C/\wpAny (model prog w) A (evalArgs (.ref C) true (backTo cpos (AG args env)) [])
  (λa O=>a.kw=[]/\a.pos.length<=Ar/\O.heap.get? C=some (AZ nm q C N bs bm hdct sn sub ab col dd k0 k1 k2 k3 k5 newId)/\O.heap.Ns N mN/\O.heap.get? D=some (AZ nm1 q1 D N1 bs1 bm1 hd1 sn1 sub1 ab1 col1 dd1 j0 j1 j2 j3 j5 new1)/\O.heap.Ns N1 mN1 /\
   ∀h' e,CU O.heap h' e (.ref C) a.pos->E (.ref e) {O with heap:=h'}) E S) E s) :
 wpAny (model prog w) A (exec (.Raise (some (.Call (.Name x np) args [] cpos)) none pos) env) Q E s:=by
 rw[arm_exec_Raise]
 first
  |refine xd (A8 (DS (C:=C) (nm:=nm) (q:=q) (N:=N) (bs:=bs) (bm:=bm) (hdct:=hdct) (sn:=sn) (sub:=sub) (ab:=ab) (col:=col) (dd:=dd) (k0:=k0) (k1:=k1) (k2:=k2) (k3:=k3) (k5:=k5) (newId:=newId) F.a hh (xd (AN (CL (AN h (λf S R=>?_) λ_ _ x=>x)) (λv Y P=>xd (A8 (Aj P))) λ_ _ x=>x))))
  |(simp only[evalOpt,Option.map];refine xd (A8 (DS (C:=C) (nm:=nm) (q:=q) (N:=N) (bs:=bs) (bm:=bm) (hdct:=hdct) (sn:=sn) (sub:=sub) (ab:=ab) (col:=col) (dd:=dd) (k0:=k0) (k1:=k1) (k2:=k2) (k3:=k3) (k5:=k5) (newId:=newId) F.hasBase hh (xd (AN (CL (AN h (λf S R=>?_) λ_ _ x=>x)) (λv Y P=>xd (A8 (Aj P))) λ_ _ x=>x)))))
  |(refine xd (A8 (DS (C:=C) (nm:=nm) (q:=q) (N:=N) (bs:=bs) (bm:=bm) (hdct:=hdct) (sn:=sn) (sub:=sub) (ab:=ab) (col:=col) (dd:=dd) (k0:=k0) (k1:=k1) (k2:=k2) (k3:=k3) (k5:=k5) (newId:=newId) F.hasBase hh ?_));refine xd (AN (CL (AN h (λf S R=>?_) λ_ _ x=>x)) (λv Y P=>xd (A8 (Aj P))) λ_ _ x=>x))
 obtain⟨rfl,R⟩:=R;unfold callWith;refine xd (By (AN R (λa O U=>xd (A8 ?_)) λ_ _ x=>x));obtain⟨apos,akw⟩:=a;obtain⟨hkw,hlen,hC,hn,hD,hn1,U⟩:=U;obtain rfl:akw=[]:=hkw;obtain⟨hp,g,d,tk,os⟩:=O;simp only[W];refine xd (wpAny_keeperOf_exc hC ?_);refine xd (uf (hrest:=hlen) F hC hn hni hD hn1 Z hbm hb1 λh' e hm=>xd (By (wpAny_point (Aj ?_))));obtain⟨t,ht,_,_⟩:=hm.there;exact⟨e,t,rfl,hm.keeps _ _ hC,ht,U h' e hm⟩
def Obj.vZ f o:(BS f o).dict=o.dict:=by unfold BS;split<;>rfl
namespace Heap
def vF(h base:Heap)(e:Addr)(cls:Value)(N:Option Addr):Prop:=
 ∃oe vs T x ts,h.get? e=some oe/\(oe.cls=cls/\oe.dict=N)/\oe.data=.fields vs/\vs[1]?=some (.ref T)/\base.get? T=none/\T≠e/\h.get? T=some x/\x.data=.fields ts/\ts[3]?=some .none
def uP(h base:Heap)(e:Addr)(cls:Value)(N:Option Addr)(fl:Value):Prop:=
 ∃oe vs T x ts,h.get? e=some oe/\(oe.cls=cls/\oe.dict=N)/\oe.data=.fields vs/\vs[1]?=some (.ref T)/\base.get? T=none/\T≠e/\h.get? T=some x/\x.data=.fields ts/\ts[3]?=some fl
def vF.at{h base:Heap}(x:h.vF base e cls a0):h.uP base e cls a0 .none:=x
def ey(base:Heap)(l:List Env)(e:Addr)(cls:Value)(N:Option Addr)(fl:Value)(h h':Heap):Prop:=
 base.StaysIn h'/\h'.FunFrames base l/\h'.uP base e cls N fl/\∀b o,h.get? b=some o->(∀vs,o.data≠.fields vs)->∃x,h'.get? b=some {o with slots:=x}
end Heap
section
variable {M:Model}{A:Around}{E:Value->Shared->Prop}{s:Shared}
def Heap.et(base:Heap)(l:List Env)(e:Addr)(cls:Value)(N:Option Addr)(h h':Heap):Prop:=
 base.StaysIn h'/\h'.FunFrames base l/\h'.vF base e cls N /\
  ∀b o,h.get? b=some o->(∀vs,o.data≠.fields vs)->∃x,h'.get? b=some {o with slots:=x}
def vj
 (hfr:A.frames=some (env::outer)) (hl:s.heap.FunFrames base (env::outer)) (hf:env.frame=some L)
 (he:s.heap.get? e=some oe) (hkb:base.StaysIn s.heap) (hen:base.get? e=none) (hd:oe.data=.fields vs) (hsz:1<vs.size) (h0:oe.dict=a0)
 (h:∀h',Heap.et base (env::outer) e oe.cls a0 s.heap h'->Q () {s with heap:=h'}) :
 wpAny M A (do let a <-frameOf env;let pl <-entryPlaceOf L hadNext;let b <-DJ head a .none (rawInt L) .none pl;setField (.ref e) 1 b) (λ_ s'=>wpAny M A (Ez (.ref e) none) Q E s') E s:=by
 have hene:e ∉ (env::outer).filterMap (·.frame):=λhm=>by
  obtain⟨_,o,ho,R⟩:=hl.mem hm;rw[he]at ho;injection ho with ho;subst ho;exact R vs hd
 refine xd (wpAny_frameOf_fun hfr hl hf λN P=>?_);refine xd (wpAny_entryPlaceOf λpl hpl=>?_);unfold DJ newFields;refine xd (Bh ?_ (hpl.sizeOk5 _ _ _ _ _));have he₁:N.get? e=some oe:=(P.2.1 e hene).trans he;have Y:base.StaysIn N:=λb o U=>(P.2.1 b λhm=>by rw[(hl.mem hm).1]at U;cases U).trans (hkb b o U)
 have he₂:=Aa (h:=N) {cls:=.type "traceback",dict:=none,data:=.fields ([head,.ref L,.none,rawInt L,.none]++(if pl.isEmpty then An 6 Bg else pl)).toArray} he₁
 refine Dq he₂ hd hsz ?_;have hTe:N.objs.size≠e:=Dl (Al he₁);have S:=CG hd (·.setIfInBounds 1 (AO N.objs.size))
 have Z:=BM (BS (·.setIfInBounds 1 (AO N.objs.size))) he₂ (Dr S)
 have hT₃:=(AY (N.push {cls:=.type "traceback",dict:=none,data:=.fields ([head,.ref L,.none,rawInt L,.none]++(if pl.isEmpty then An 6 Bg else pl)).toArray})
  (BS (·.setIfInBounds 1 (AO N.objs.size))) (A6 hTe)).trans (AF N rfl)
 unfold Ez;refine xd (B0 Z S (x:=.ref N.objs.size) (by simp[hsz]) ?_)
 rw[if_pos (show (AO N.objs.size != Bg)=true from by simp)]
 refine Dq hT₃ rfl (by simp only[Ai,Ao,AH,BV]<;>omega) (h _ ?_)
 have keep:∀b o,b≠e->N.get? b=some o ->
  (((N.push {cls:=.type "traceback",dict:=none,data:=.fields ([head,.ref L,.none,rawInt L,.none]++(if pl.isEmpty then An 6 Bg else pl)).toArray}).update e (BS (·.setIfInBounds 1 (AO N.objs.size)))).update N.objs.size
    (BS (·.setIfInBounds 3 ((none:Option Addr).elim Bg λf=>rawInt f)))).get? b=some o:=λb o hbe W=>by
  have hbT:N.objs.size≠b:=Dl (Al W);rw[AY _ _ hbT,AY _ _ (A6 hbe)];exact Aa _ W
 have O:∀b o,s.heap.get? b=some o->(∀vs,o.data≠.fields vs)->b≠e:=λb o W R q=>by
  rw[q,he]at W;injection W with W;subst W;exact R vs hd
 refine⟨λb o U=>keep b o (λq=>by rw[q,hen]at U;cases U) (Y b o U),hl.of_keeps λb o W R=>?_,?_,λb o W R=>?_⟩
 . obtain⟨sl,hs⟩:=P.2.2 b o W
   exact⟨_,keep b _ (O b o W R) hs,rfl⟩
 . refine⟨_,_,N.objs.size,_,_,?_,⟨Obj.cls_mapFields _ _,by rw[Obj.vZ];exact h0⟩,S,by simp[hsz],Y.fresh,hTe,BM _ hT₃ (Dr (CG rfl _)),CG rfl _,by first|(simp;done)|(rcases hpl with rfl|⟨_,_,_,_,_,_,_,rfl⟩<;>simp)⟩
   rw[AY _ _ hTe];exact Z
 . obtain⟨sl,hs⟩:=P.2.2 b o W
   exact⟨sl,keep b _ (O b o W R) hs⟩
def uM
 (N:A.frames=some (env::outer)) (R:s.heap.FunFrames base (env::outer)) (hf:env.frame=some L)
 (P:s.heap.get? e=some oe) (x:base.StaysIn s.heap) (O:base.get? e=none) (hd:oe.data=.fields vs) (h1:vs[1]?=some .none) (h0:oe.dict=a0)
 (h:∀h',Heap.et base (env::outer) e oe.cls a0 s.heap h'->Q () {s with heap:=h'}):wpAny M A (leaving env (.ref e)) Q E s:=by
 unfold leaving E9;simp only[hf];refine xd (xd (B0 P hd h1 ?_));rw[if_neg (by decide)]
 exact vj N R hf P x O hd (BU.mp h1).1 h0 h
def ug
 (Z:A.frames=some (env::outer)) (hl:s.heap.FunFrames base (env::outer)) (hf:env.frame=some L) (ht:s.heap.vF base e cls a0) (Y:base.StaysIn s.heap) (hen:base.get? e=none)
 (h:∀h',Heap.et base (env::outer) e cls a0 s.heap h'->Q () {s with heap:=h'}):wpAny M A (leaving env (.ref e)) Q E s:=by
 obtain⟨oe,vs,T,oT,ts,he,⟨U,h0⟩,hd,h1,W,hTe,hT,R,h3⟩:=ht;subst U;unfold leaving E9;simp only[hf];refine xd (xd (B0 he hd h1 ?_));rw[if_pos (show (AO T != Bg)=true from by simp)]
 refine xd (B0 hT R h3 ?_);rw[if_neg (show ¬((Bg == rawInt L)=true) from by simp[rawInt])]
 refine xd (Dq hT R (BU.mp h3).1 ?_);have N:∀b,b≠T->(s.heap.update T (BS (·.setIfInBounds 3 Bg))).get? b=s.heap.get? b:=λb P=>AY _ _ (A6 P)
 have x:∀b o,s.heap.get? b=some o->(∀vs,o.data≠.fields vs)->b≠T:=λb o P O q=>by
  rw[q,hT]at P;injection P with P;subst P;exact O ts R
 refine vj Z (hl.of_keeps λb o P O=>⟨o,(N b (x b o P O)).trans P,rfl⟩) hf ((N e (A6 hTe)).trans he)
  (λb o S=>(N b λq=>by rw[q,W]at S;cases S).trans (Y b o S)) hen hd (BU.mp h1).1 h0
  λh' ⟨x1,x2,x3,x4⟩=>h h' ⟨x1,x2,x3,λb o P O=>x4 b o ((N b (x b o P O)).trans P) O⟩
def Heap.wJ(base:Heap)(l:List Env)(e:Addr)(cls:Value)(x:Option Addr)(h:Heap):Prop:=
 base.StaysIn h/\base.get? e=none/\h.FunFrames base l/\h.vF base e cls x
def vE
 (x:A.frames=some (env::outer)) (hf:env.frame=some L) (N:Heap.wJ base (env::outer) e cls a0 s.heap)
 (P:∀h',Heap.wJ base outer e cls a0 h'->s.heap.UpToSlots h'->Q () {s with heap:=h'}):wpAny M A (leaving env (.ref e)) Q E s:=by
 obtain⟨f1,f2,f3,f4⟩:=N;refine ug x f3 hf f4 f1 f2 λh' R=>?_;obtain⟨k1,⟨_,_,k2⟩,k3,O⟩:=R;exact P h' ⟨k1,f2,k2,k3⟩ O
def lC
 (hfr:A.frames=some (env::outer)) (hl:s.heap.FunFrames base (env::outer)) (hf:env.frame=some L)
 (he:s.heap.get? e=some oe) (hkb:base.StaysIn s.heap) (hen:base.get? e=none) (hd:oe.data=.fields vs) (hsz:1<vs.size) (h0:oe.dict=a0)
 (h:∀h',Heap.ey base (env::outer) e oe.cls a0 (rawInt L) s.heap h'->Q () {s with heap:=h'}) :
 wpAny M A (do let a <-frameOf env;let pl <-entryPlaceOf L hadNext;let b <-DJ head a .none (rawInt L) .none pl;setField (.ref e) 1 b) Q E s:=by
 have hene:e ∉ (env::outer).filterMap (·.frame):=λhm=>by
  obtain⟨_,o,ho,P⟩:=hl.mem hm;rw[he]at ho;injection ho with ho;subst ho;exact P vs hd
 refine xd (wpAny_frameOf_fun hfr hl hf λx O=>?_);refine xd (wpAny_entryPlaceOf λpl hpl=>?_);unfold DJ newFields;refine xd (Bh ?_ (hpl.sizeOk5 _ _ _ _ _));have Y:x.get? e=some oe:=(O.2.1 e hene).trans he;have U:base.StaysIn x:=λb o R=>(O.2.1 b λhm=>by rw[(hl.mem hm).1]at R;cases R).trans (hkb b o R)
 have W:=Aa (h:=x) {cls:=.type "traceback",dict:=none,data:=.fields ([head,.ref L,.none,rawInt L,.none]++(if pl.isEmpty then An 6 Bg else pl)).toArray} Y
 refine Dq W hd hsz (h _ ?_);have hTe:x.objs.size≠e:=Dl (Al Y);have Z:=CG hd (·.setIfInBounds 1 (AO x.objs.size))
 have he₃:=BM (BS (·.setIfInBounds 1 (AO x.objs.size))) W (Dr Z)
 have hT₃:=(AY (x.push {cls:=.type "traceback",dict:=none,data:=.fields ([head,.ref L,.none,rawInt L,.none]++(if pl.isEmpty then An 6 Bg else pl)).toArray})
  (BS (·.setIfInBounds 1 (AO x.objs.size))) (A6 hTe)).trans (AF x rfl)
 have keep:∀b o,b≠e->x.get? b=some o ->
  ((x.push {cls:=.type "traceback",dict:=none,data:=.fields ([head,.ref L,.none,rawInt L,.none]++(if pl.isEmpty then An 6 Bg else pl)).toArray}).update e (BS (·.setIfInBounds 1 (AO x.objs.size)))).get? b=some o:=
  λb o hbe S=>by rw[AY _ _ (A6 hbe)];exact Aa _ S
 have N:∀b o,s.heap.get? b=some o->(∀vs,o.data≠.fields vs)->b≠e:=λb o S P q=>by
  rw[q,he]at S;injection S with S;subst S;exact P vs hd
 refine⟨λb o R=>keep b o (λq=>by rw[q,hen]at R;cases R) (U b o R),hl.of_keeps λb o S P=>?_,?_,λb o S P=>?_⟩
 . obtain⟨sl,hs⟩:=O.2.2 b o S
   exact⟨_,keep b _ (N b o S P) hs,rfl⟩
 . exact⟨_,_,x.objs.size,_,_,he₃,⟨Obj.cls_mapFields _ _,by rw[Obj.vZ];exact h0⟩,Z,by simp[hsz],U.fresh,hTe,hT₃,rfl,by first|(simp;done)|(rcases hpl with rfl|⟨_,_,_,_,_,_,_,rfl⟩<;>simp)⟩
 . obtain⟨sl,hs⟩:=O.2.2 b o S
   exact⟨sl,keep b _ (N b o S P) hs⟩
def uh
 (Z:A.frames=some (env::outer)) (hl:s.heap.FunFrames base (env::outer)) (hf:env.frame=some L) (ht:s.heap.vF base e cls a0) (Y:base.StaysIn s.heap) (hen:base.get? e=none)
 (h:∀h',Heap.ey base (env::outer) e cls a0 (rawInt L) s.heap h'->Q () {s with heap:=h'}):wpAny M A (E9 (.ref e) env) Q E s:=by
 obtain⟨oe,vs,T,oT,ts,he,⟨U,h0⟩,hd,h1,W,hTe,hT,R,h3⟩:=ht;subst U;unfold E9;simp only[hf];refine xd (B0 he hd h1 ?_);rw[if_pos (show (AO T != Bg)=true from by simp)]
 refine xd (B0 hT R h3 ?_);rw[if_neg (show ¬((Bg == rawInt L)=true) from by simp[rawInt])]
 refine xd (Dq hT R (BU.mp h3).1 ?_);have N:∀b,b≠T->(s.heap.update T (BS (·.setIfInBounds 3 Bg))).get? b=s.heap.get? b:=λb P=>AY _ _ (A6 P)
 have x:∀b o,s.heap.get? b=some o->(∀vs,o.data≠.fields vs)->b≠T:=λb o P O q=>by
  rw[q,hT]at P;injection P with P;subst P;exact O ts R
 refine lC Z (hl.of_keeps λb o P O=>⟨o,(N b (x b o P O)).trans P,rfl⟩) hf ((N e (A6 hTe)).trans he)
  (λb o S=>(N b λq=>by rw[q,W]at S;cases S).trans (Y b o S)) hen hd (BU.mp h1).1 h0
  λh' ⟨x1,x2,x3,x4⟩=>h h' ⟨x1,x2,x3,λb o P O=>x4 b o ((N b (x b o P O)).trans P) O⟩
def xa
 (hkb:base.StaysIn s.heap) (hl:s.heap.FunFrames base l) (ht:s.heap.uP base e cls a0 fl)
 (h:∀h',base.StaysIn h'->h'.FunFrames base l->h'.vF base e cls a0->(∀b o,s.heap.get? b=some o->(∀vs,o.data≠.fields vs)->h'.get? b=some o)->Q () {s with heap:=h'}) :
 wpAny M A (Ez (.ref e) none) Q E s:=by
 obtain⟨oe,vs,T,oT,ts,he,Y,hd,h1,W,Z,hT,R,h3⟩:=ht;have S:3<ts.size:=(BU.mp h3).1;have N:∀b,b≠T->(s.heap.update T (BS (·.setIfInBounds 3 ((none:Option Addr).elim Bg λf=>rawInt f)))).get? b=s.heap.get? b:=
  λb O=>AY _ _ (A6 O)
 have x:∀b o,s.heap.get? b=some o->(∀vs,o.data≠.fields vs)->b≠T:=λb o O P q=>by
  rw[q,hT]at O;injection O with O;subst O;exact P ts R
 unfold Ez;refine xd (B0 he hd h1 ?_);rw[if_pos (show (AO T != Bg)=true from by simp)]
 refine Dq hT R S (h _ (λb o U=>(N b λq=>by rw[q,W]at U;cases U).trans (hkb b o U))
  (hl.of_keeps λb o O P=>⟨o,(N b (x b o O P)).trans O,rfl⟩) ?_ λb o O P=>(N b (x b o O P)).trans O)
 exact⟨oe,vs,T,_,_,(N e (A6 Z)).trans he,Y,hd,h1,W,Z,BM _ hT (Dr (CG R _)),CG R _,by simp[S]⟩
def Heap.Xy(base:Heap)(l:List Env)(e:Addr)(cls:Value)(x:Option Addr)(L:Addr)(h:Heap):Prop:=
 base.StaysIn h/\base.get? e=none/\h.FunFrames base l/\h.uP base e cls x (rawInt L)
def qB
 (x:A.frames=some (env::outer)) (hf:env.frame=some L) (N:Heap.wJ base (env::outer) e cls a0 s.heap)
 (P:∀h',Heap.Xy base (env::outer) e cls a0 L h'->s.heap.UpToSlots h'->Q () {s with heap:=h'}):wpAny M A (E9 (.ref e) env) Q E s:=by
 obtain⟨f1,f2,f3,f4⟩:=N;refine uh x f3 hf f4 f1 f2 λh' R=>?_;obtain⟨k1,k2,k3,O⟩:=R;exact P h' ⟨k1,f2,k2,k3⟩ O
def lD(O:Heap.Xy base l e cls a0 L s.heap)
 (R:∀h',Heap.wJ base l e cls a0 h'->s.heap.UpToSlots h'->Q () {s with heap:=h'}):wpAny M A (Ez (.ref e) none) Q E s:=by
 obtain⟨f1,f2,f3,f4⟩:=O;exact xa f1 f3 f4 λh' k1 k2 k3 x=>R h' ⟨k1,f2,k2,k3⟩ λb o P N=>⟨o.slots,x b o P N⟩
def sZ
 (O:A.frames=some (env::outer)) (hf:env.frame=some L) (x:base.StaysIn h) (S:h.FunFrames base (env::outer)) (keeps:∀b o,h.get? b=some o->s.heap.get? b=some o) (new:h.get? e=none) (U:s.heap.get? e=some oe) (hd:oe.data=.fields vs) (h1:vs[1]?=some .none)
 (W:∀h',Heap.wJ base outer e oe.cls oe.dict h'->s.heap.UpToSlots h'->Q () {s with heap:=h'}):wpAny M A (leaving env (.ref e)) Q E s:=by
 have fresh:∀b,h.get? b=none->base.get? b=none:=λb N=>by
  cases hq:base.get? b with
  |none=>rfl
  |some P=>have:=x b P hq;rw[N]at this;cases this
 refine uM O (S.of_keeps λb o N _=>⟨o,keeps b o N,rfl⟩) hf U (λb o N=>keeps b o (x b o N)) (fresh e new) hd h1 rfl λh' Y=>?_;obtain⟨k1,⟨_,_,k2⟩,k3,R⟩:=Y;exact W h' ⟨k1,fresh e new,k2,k3⟩ R
def mI(O:Heap.wJ base l e cls a0 s.heap)
 (R:∀h',Heap.wJ base l e cls a0 h'->s.heap.UpToSlots h'->Q () {s with heap:=h'}):wpAny M A (Ez (.ref e) none) Q E s:=by
 obtain⟨f1,f2,f3,f4⟩:=O;exact xa f1 f3 f4.at λh' k1 k2 k3 x=>R h' ⟨k1,f2,k2,k3⟩ λb o P N=>⟨o.slots,x b o P N⟩
end
end PySem
end
section
namespace PySem
open Sem (wp)
open Builtin Builtin.ObjectAttr
def uN{os:OsState}
 (hC:h.get? C=some (AZ nm q C N bs bm hdct sn sub ab col dd k0 k1 k2 k3 k5 newId)) (O:h.Ns N mN) (hi:mN name=some y)
 (x:Q (some y) ⟨h,g,d,t,os⟩):wpAny M A (EI (.ref C) name) Q E ⟨h,g,d,t,os⟩:=by
 rw[GN];refine xd (Gi hC ?_);rw[F1];refine xd (Fc hC O ?_);rw[hi];exact Aj x
def yh{x:Sem Value}(P:bm.contains (.type "BaseException")=true)(U:A.handled=none)
 (h:wpAny M A x (λv O=>∃e t dx,v=.ref e/\O.heap.get? C=some (AZ nm q C N bs bm hdct sn sub ab col dd k0 k1 k2 k3 k5 newId) /\
  O.heap.get? e=some {cls:=.ref C,dict:=dx,data:=.fields #[.ref t,.none,.none,.none,.bool false,.none]}/\E (.ref e) O) E s) :
 wpAny M A (raiseStmt env (some x) none) Q E s:=by
 have S:(AO C::bm).contains (.type "BaseException")=true:=by rw[Bk,P,CZ]
 unfold raiseStmt;refine xd (AN h (λv O R=>?_) λ_ _ x=>x);obtain⟨e,t,dx,rfl,hC,W,hE⟩:=R;obtain⟨hp,g,d,tk,os⟩:=O
 repeat (first|with_reducible refine AM W ?_|with_reducible refine AM hC ?_|(with_reducible refine B8 hC ?_;rw[S])|wp_step)
 exact wpAny_raiseNew_none U hE
def wb{os:OsState}(F:yx B newId initId bm){Q:Fin->Shared->Prop}
 (hC:h.get? C=some (AZ nm q C N bs bm hdct sn sub ab col dd k0 k1 k2 k3 k5 newId)) (hn:h.Ns N mN) (hi:mN "__init__"=some (.ref fI))
 (W:h.get? fI=some oI) (U:oI.cls=.type "function")
 (hq:∀h' e,CU h h' e (.ref C) rest->h.objs.size<=e ->
  wpAny (model prog w) A (call (.ref fI) (.ref e::rest)) (λr s'=>r=.none/\Q (.done (.ret (.ref e))) s') E ⟨h',g,d,t,os⟩) (hrest:rest.length<=Ar:=by size_fits) :
 wpAny (model prog w) A (Builtin.«type.__call__» ⟨.ref C::rest,[]⟩) Q E ⟨h,g,d,t,os⟩:=by
 repeat (first|with_reducible refine AM hC ?_|with_reducible refine F2 hC ?_|wp_step)
 refine FL (Di _ F.quiet) (wC F hC ?_);refine x8 F hC ?_ hrest;show wpAny _ _ _ _ _ _;have O:=Aa {cls:=.ref C,data:=.fields #[.ref h.objs.size,.none,.none,.none,.bool false,.none]}
  (Aa {cls:=.type "tuple",data:=.seq rest.toArray} hC)
 have P:=Aa {cls:=.ref C,data:=.fields #[.ref h.objs.size,.none,.none,.none,.bool false,.none]}
  (Aa {cls:=.type "tuple",data:=.seq rest.toArray} W)
 have S:((h.push {cls:=.type "tuple",data:=.seq rest.toArray}).push {cls:=.ref C,data:=.fields #[.ref h.objs.size,.none,.none,.none,.bool false,.none]}).Ns N mN:=
  let ⟨o,es,ep,e,r⟩:=hn;⟨o,es,ep,Aa _ (Aa _ e),r⟩
 have R:((h.push {cls:=.type "tuple",data:=.seq rest.toArray}).push
  {cls:=.ref C,data:=.fields #[.ref h.objs.size,.none,.none,.none,.bool false,.none]}).get? (h.objs.size+1)=some
  {cls:=.ref C,data:=.fields #[.ref h.objs.size,.none,.none,.none,.bool false,.none]}:=by heap_get
 have Y:(AO C::bm).contains (.ref C)=true:=by simp
 unfold GF
 repeat (first|with_reducible refine AM R ?_|(with_reducible refine B8 O ?_;rw[Y])|wp_step)
 show wpAny _ _ (EI (.ref C) _) _ _ _;refine uN O S hi ?_;refine By (xd ?_);unfold bindSpecial;refine xd (DO (T:="function") ⟨_,P,U⟩ ?_);rw[if_pos (by decide)]
 refine Aj (xd (AN (hq _ (h.objs.size+1) ⟨λb o hb=>Aa _ (Aa _ hb),CN (Cz _),h.objs.size,R,CN (Ad _),?_⟩ (Cz _)) (λr s' Z=>?_) λ_ _ x=>x))
 . exact Aa _ (FF rfl rfl)
 . obtain⟨rfl,hQ⟩:=Z
   wp_walk
   exact hQ
def uL{os:OsState}(F:yx B newId initId bm){Q:Value->Shared->Prop}
 (hC:h.get? C=some (AZ nm q C N bs bm hdct sn sub ab col dd k0 k1 k2 k3 k5 newId)) (R:h.Ns N mN) (hi:mN "__init__"=some (.ref fI))
 (O:h.get? fI=some oI) (x:oI.cls=.type "function")
 (P:∀h' e,CU h h' e (.ref C) rest->h.objs.size<=e ->
  wpAny (model prog w) (A.under (.builtin "type.__call__" ⟨.ref C::rest,[]⟩)) (call (.ref fI) (.ref e::rest)) (λr s'=>r=.none/\Q (.ref e) s') E ⟨h',g,d,t,os⟩) (hrest:rest.length<=Ar:=by size_fits) :
 wpAny (model prog w) A (call (.ref C) rest) Q E ⟨h,g,d,t,os⟩:=by
 have f1:=tc_lookup;have f2:=tc_bind (.ref C);have U:(⟨h,g,d,t,os⟩:Shared).TypeIs (.ref C) "type":=⟨_,hC,rfl⟩;refine Df (codeAny_of_tree ?_);show wpAny _ _ (callAny (.ref C) _) _ _ _
 repeat (any_goals (first|assumption|with_reducible refine AM hC ?_|wp_step))
 refine⟨rfl,?_⟩;refine F7 (Di _ (by decide +kernel)) entry_typeCall (FN hC (wb (hrest:=hrest) F hC R hi O x λh' e S hz=>?_))
 exact P h' e S hz
def sY
 (S:bm.contains (.type "BaseException")=true) (hh:A.handled=none) (Z:(backTo cpos (AG args env)).any (·.1)=false)
 (h:wpAny (model prog w) A (eval (.Name y np) env) (λf W=>f=.ref C/\wpAny (model prog w) A (evalArgs (.ref C) true (backTo cpos (AG args env)) [])
  (λa U=>a.kw=[]/\U.heap.get? C=some (AZ nm q C N bs bm hdct sn sub ab col dd k0 k1 k2 k3 k5 newId)/\wpAny (model prog w) A (call (.ref C) a.pos) (λv O=>∃e t dx,v=.ref e/\O.heap.get? C=some (AZ nm q C N bs bm hdct sn sub ab col dd k0 k1 k2 k3 k5 newId)/\O.heap.get? e=some {cls:=.ref C,dict:=dx,data:=.fields #[.ref t,.none,.none,.none,.bool false,.none]}/\E (.ref e) O) E U) E W) E s) :
 wpAny (model prog w) A (exec (.Raise (some (.Call (.Name y np) args [] cpos)) none pos) env) Q E s:=by
 rw[arm_exec_Raise]
 first
  |refine xd (A8 (yh (C:=C) (nm:=nm) (q:=q) (N:=N) (bs:=bs) (bm:=bm) (hdct:=hdct) (sn:=sn) (sub:=sub) (ab:=ab) (col:=col) (dd:=dd) (k0:=k0) (k1:=k1) (k2:=k2) (k3:=k3) (k5:=k5) (newId:=newId) S hh (xd (AN (CL (AN h (λf W R=>?_) λ_ _ x=>x)) (λv O P=>xd (A8 (Aj P))) λ_ _ x=>x))))
  |(simp only[evalOpt,Option.map];refine xd (A8 (yh (C:=C) (nm:=nm) (q:=q) (N:=N) (bs:=bs) (bm:=bm) (hdct:=hdct) (sn:=sn) (sub:=sub) (ab:=ab) (col:=col) (dd:=dd) (k0:=k0) (k1:=k1) (k2:=k2) (k3:=k3) (k5:=k5) (newId:=newId) S hh (xd (AN (CL (AN h (λf W R=>?_) λ_ _ x=>x)) (λv O P=>xd (A8 (Aj P))) λ_ _ x=>x)))))
  |(refine xd (A8 (yh (C:=C) (nm:=nm) (q:=q) (N:=N) (bs:=bs) (bm:=bm) (hdct:=hdct) (sn:=sn) (sub:=sub) (ab:=ab) (col:=col) (dd:=dd) (k0:=k0) (k1:=k1) (k2:=k2) (k3:=k3) (k5:=k5) (newId:=newId) S hh ?_));refine xd (AN (CL (AN h (λf W R=>?_) λ_ _ x=>x)) (λv O P=>xd (A8 (Aj P))) λ_ _ x=>x))
 obtain⟨rfl,R⟩:=R;unfold callWith;refine xd (By (AN R (λa U Y=>xd (A8 ?_)) λ_ _ x=>x));obtain⟨apos,akw⟩:=a;obtain⟨hkw,hC,Y⟩:=Y;obtain rfl:akw=[]:=hkw;obtain⟨hp,g,d,tk,os⟩:=U;simp only[Z];refine xd (wpAny_keeperOf_exc hC ?_);exact xd (AN Y (λv O P=>xd (By (wpAny_point (Aj P)))) λ_ _ x=>x)
structure xw(B:String)(bm:List Value)(sa owner:String):Prop where
 f:Slot B "__setattr__" sa
 g:entryFor table sa=some Builtin.«object.__setattr__»
 j:builtinKind sa=some .slot
 h:splitId sa=some (owner,"__setattr__")
 d:bm.contains (.type owner)=true
 i:∀a b c:Value,argsOk sa ⟨[a,b,c],[]⟩
 e:∀self:Value,refuseLoop self "__setattr__" bm=pure ()
def StoreFacts.two(F:StoreFacts B bm sa owner)D:xw B (.ref D::bm) sa owner:=
 ⟨F.slot,F.entry,F.kind,F.split,by rw[Bk,F.hasOwner,CZ],F.args,λx=>by rw[refuseLoop_ref];exact F.passes x⟩
def qA{os:OsState}(S:xw B bm sa owner)
 (hC:h.get? C=some (AZ nm q C N bs bm true sn sub ab col dd k0 k1 k2 k3 k5 newId)) (hx:h.get? x=some o) (W:o.cls=.ref C) (R:Q () ⟨h,g,d,t,os⟩) :
 wpAny M A (Ce sa ⟨[.ref x,nameV,v],[]⟩) Q E ⟨h,g,d,t,os⟩:=by
 have P:(AO C::bm).contains (.type owner)=true:=by rw[Bk,S.d,CZ]
 have U:=S.i (.ref x) nameV v;simp only[Ce,S.j,S.h];refine xd ?_
 . unfold GF
   repeat (first|(with_reducible refine AM hx ?_;rw[W])|(with_reducible refine B8 hC ?_;rw[P])|wp_step)
   cases hsig:Manifest.signature? sa with
   |none=>exact Aj R
   |some O=>
    simp only[argsOk,hsig]at U;have Y:Bind.checkArgs sa O ⟨[.ref x,nameV,v],[]⟩=pure ():=U;show wpAny M A (Bind.checkArgs sa O ⟨[.ref x,nameV,v],[]⟩) Q E _;rw[Y];exact Aj R
def my{os:OsState}{tk:Tok}{Q:Fin->Shared->Prop}{ns:List Str}(SF:xw B bm sa owner)
 (hC:h.get? C=some (AZ nm q C N bs bm true sn sub ab col dd k0 k1 k2 k3 k5 newId)) (X:K.In h) (hna:Dm K (.ref C) name=some none)
 (hxC:x≠C) (I:h.Inst x C mA)
 (hq:∀h' tk',h'.Inst x C (λy=>if y=name then some v else mA y) ->
  (∀b o,b≠x->(∀O dx,h.get? x=some O->O.dict=some dx->b≠dx)->h.get? b=some o->h'.get? b=some o) ->
  (∀O,h.get? x=some O->∃P,h'.get? x=some P/\P.cls=O.cls/\P.data=O.data/\P.slots=O.slots/\(∀dx,O.dict=some dx->P.dict=some dx)/\(O.dict=none->P.dict=some h.objs.size))->Q (.done (.ret .none)) ⟨h',g,d,tk',os⟩) (hw:Within mA ns:=by within_ways) (hsz:ns.length<=Ar:=by size_fits) :
 wpAny (model prog w) A (Builtin.«object.__setattr__» ⟨[.ref x,.str name tk,v],[]⟩) Q E ⟨h,g,d,t,os⟩:=by
 obtain⟨o,hx,hc,hnc,hd⟩:=I;have Z:=SF.e (.ref x);have L1:=PySem.W.looks_findIn (M:=model prog w) X hna;unfold Builtin.«object.__setattr__»
 repeat (first|rw[refuse_eq]|(rw[refuseLoop_ref,Z])|(with_reducible refine AM hx ?_;rw[hc])|with_reducible refine Gi hC ?_|with_reducible refine L1.at ?_|wp_step)
 rcases hd with⟨hdn,hmA⟩|⟨dx,U,hne,hns⟩
 ·
  rw[hdn,if_neg (by simp[typeHasDict])]
  split
  . rename_i hcd
    cases hcd
  split
  . rename_i c hcd
    exact absurd hcd (hnc c)
  . have R:(h.push {cls:=.type "dict",data:=.dict #[]}).get? x=some o:=Aa _ hx
    have Y:x≠h.objs.size:=AL (Al hx);refine xd (wpAny_alloc' ?_);refine xd (wpAny_update' R ?_);refine Aj ?_;have hgd:((h.push {cls:=.type "dict",data:=.dict #[]}).update x λo=>{cls:=o.cls,dict:=some h.objs.size,data:=o.data,slots:=o.slots}).get? h.objs.size
     = some {cls:=.type "dict",data:=.dict #[]}:=
     (Heap.get?_update_ne _ _ _ _ Y.symm).trans (FF rfl rfl)
    have hnd:((h.push {cls:=.type "dict",data:=.dict #[]}).update x λo=>{cls:=o.cls,dict:=some h.objs.size,data:=o.data,slots:=o.slots}).Ns h.objs.size (λ_=>none):=
     ⟨_,#[],_,hgd,rfl,λe he=>absurd he (by simp),λ_=>rfl⟩
    show wpAny _ _ (storeInDict h.objs.size (.str name tk) name v) _ _ _;unfold storeInDict newKeyGuard;refine xd (Aj (xd (wpAny_nsSet1 (Heap.Ns1.of_empty hnd) λh' S hs=>?_)));obtain⟨oD,esD,epD,hoD,hdD,hcD⟩:=S.count (Within.cons name v Within.nil);refine xd (wpAny_lookBehind hoD (by rw[hdD];exact pastItsLine_dict (As hcD (by rw[AH,BV,AI];omega))) ?_)
    wp_walk
    have hx':h'.get? x=some {cls:=o.cls,dict:=some h.objs.size,data:=o.data,slots:=o.slots}:=?_;refine hq h' _ ⟨{cls:=o.cls,dict:=some h.objs.size,data:=o.data,slots:=o.slots},hx',hc,hnc,.inr ⟨h.objs.size,rfl,Y.symm,?_⟩⟩ (λb ob hbx _ hb=>?_)
     (λO h₀=>by obtain rfl:o=O:=A1 (hx.symm.trans h₀);exact⟨_,hx',rfl,rfl,rfl,(λdx e=>by rw[hdn]at e;cases e),λ_=>rfl⟩)
    . obtain⟨o',es,ep,e1,e2,e3,eu,e4⟩:=S
      exact⟨o',es,ep,e1,e2,e3,eu,λy=>by rw[e4 y];by_cases hy:y=name<;>simp[hy,hmA]⟩
    . exact(hs.2 b (AL (Al hb))).trans ((Heap.get?_update_ne _ _ _ _ hbx).trans (Aa _ hb))
    . refine(hs.2 x Y).trans (BM _ R ?_)
      have hfr:=(Heap.get?_some_iff.mp hx).2;obtain⟨oc,od,odt,osl⟩:=o;cases odt<;>first|rfl|exact hfr
 ·
  rw[U];refine Aj ?_;show wpAny _ _ (storeInDict dx (.str name tk) name v) _ _ _;unfold storeInDict newKeyGuard;refine xd (Aj (xd (wpAny_nsSet1 hns λh' S hs=>?_)));obtain⟨oD,esD,epD,hoD,hdD,hcD⟩:=S.count (Within.cons name v hw);refine xd (wpAny_lookBehind hoD (by rw[hdD];exact pastItsLine_dict (As hcD (by rw[AH];omega))) ?_)
  wp_walk
  refine hq h' _ ⟨o,(hs.2 x hne.symm).trans hx,hc,hnc,.inr ⟨dx,U,hne,S⟩⟩ (λb ob _ hbd hb=>?_)
   (λO h₀=>⟨O,(hs.2 x hne.symm).trans h₀,rfl,rfl,rfl,(λ_ e=>e),λz=>by rw[hx]at h₀;cases h₀;rw[U]at z;cases z⟩)
  exact(hs.2 b (hbd o dx hx U)).trans hb
def kL{os:OsState}{tk:Tok}{R:Result->Shared->Prop}{ns:List Str}(S:xw B bm sa owner)
 (hC:h.get? C=some (AZ nm q C N bs bm true sn sub ab col dd k0 k1 k2 k3 k5 newId)) (X:K.In h) (Y:Dm K (.ref C) name=some none)
 (U:x≠C) (I:h.Inst x C mA)
 (Z:∀h' Q,h'.Inst x C (λy=>if y=name then some v else mA y) ->
  (∀b o,b≠x->(∀O dx,h.get? x=some O->O.dict=some dx->b≠dx)->h.get? b=some o->h'.get? b=some o) ->
  (∀O,h.get? x=some O->∃P,h'.get? x=some P/\P.cls=O.cls/\P.data=O.data/\P.slots=O.slots/\(∀dx,O.dict=some dx->P.dict=some dx)/\(O.dict=none->P.dict=some h.objs.size))->R (.ok (.ret .none)) ⟨h',g,d,Q,os⟩) (hw:Within mA ns:=by within_ways) (W:ns.length<=Ar:=by size_fits) :
 codeAny (model prog w) A (.call (.builtin sa) ⟨[.ref x,.str name tk,v],[]⟩) R ⟨h,g,d,t,os⟩:=by
 obtain⟨o,hx,hc,_⟩:=id I;exact Cp S.f.plain S.g (qA S hC hx hc (my S hC X Y U I Z hw W))
def rg{os:OsState}{Q:Unit->Shared->Prop}{ns:List Str}(SF:xw B bm sa owner)
 (hC:h.get? C=some (AZ nm q C N bs bm true sn sub ab col dd k0 k1 k2 k3 k5 newId)) (X:K.In h) (Z:Dm K (.ref C) "__setattr__"=some (some (.builtin sa))) (hna:Dm K (.ref C) name=some none)
 (U:x≠C) (I:h.Inst x C mA)
 (hq:∀h' R,h'.Inst x C (λy=>if y=name then some v else mA y) ->
  (∀b o,b≠x->(∀O dx,h.get? x=some O->O.dict=some dx->b≠dx)->h.get? b=some o->h'.get? b=some o) ->
  (∀O,h.get? x=some O->∃P,h'.get? x=some P/\P.cls=O.cls/\P.data=O.data/\P.slots=O.slots/\(∀dx,O.dict=some dx->P.dict=some dx)/\(O.dict=none->P.dict=some h.objs.size))->Q () ⟨h',g,d,R,os⟩) (hw:Within mA ns:=by within_ways) (Y:ns.length<=Ar:=by size_fits) :
 wpAny (model prog w) A (setAttr (.ref x) name v) Q E ⟨h,g,d,t,os⟩:=by
 obtain⟨o,hx,hc,_⟩:=id I;have f3:=SF.f.bind (.ref x);have L1:=PySem.W.looks_findIn (M:=model prog w) X Z;unfold setAttr callSpecial? specialOf
 repeat (any_goals (first|assumption|(with_reducible refine AM hx ?_;rw[hc])|with_reducible refine L1.at ?_|wp_step))
 refine kL SF hC X hna U I (λh' R I' hk S=>?_) hw Y
 repeat (any_goals (first|assumption|wp_step))
 exact hq h' R I' hk S
end PySem
end
section
namespace L2
open PySem PySem.W PySem.Spec PyProof PyProof.Rows
structure tQ(P:Program)(w:World)(outer:List Env)(H:Hp)(s:Shared)(H':Hp)(a:Addr)(cls:Value)(dd:Option Addr)(s':Shared):Prop where
 j:s'.os=s.os
 d:AllBare s'.gens
 i:∀b∈frs outer,H' b=none
 h:∃(g B:Heap),Un (frs outer) [] H H' s.heap g/\HOk P w H' g/\(∀b o,g.get? b=some o->b ∉ frs outer->(b<s.heap.objs.size\/H' b≠none)->B.get? b=some o) /\
  (∀b o,g.get? b=some o->b∈frs outer->∃sl,s'.heap.get? b=some {o with slots:=sl})/\Heap.wJ B outer a cls dd s'.heap
def CXE(P:Program)(w:World):CXT:=λouter H s E e s'=>∃(a:Addr) (cls:Value) (dd:Option Addr) (H':Hp),e=.ref a/\tQ P w outer H s H' a cls dd s'/\E cls dd H'
def tQ.un(f:tQ P w outer H s H' a cls dd s'):Un (frs outer) [] H H' s.heap s'.heap/\HOk P w H' s'.heap:=by
 obtain⟨g,B,u,hk,Q,fr,k,_⟩:=f.h;have W:∀b o,s.heap.get? b=some o->b ∉ frs outer->∀x,g.get? b=some x->s'.heap.get? b=some x:=λb o e n x U=>k b x (Q b x U n (.inl (Al e)));refine⟨⟨λb o e n N hx=>W b o e N o (u.f b o e n N hx),λb o e n N hx=>?_,u.d,λb o e hx=>?_,u.l,u.g,u.j⟩,λb o e=>(hk b o e).r9 (λc v S U=>?_) (λ_ q=>q) λ_ _ q=>q⟩
 . obtain⟨Y,e1⟩:=u.i b o e n N hx
   obtain⟨R,e2⟩:=fr b _ e1 N;exact⟨R,e2⟩
 . obtain⟨x,e1⟩:=u.c b o e hx
   by_cases N:b∈frs outer
   . obtain⟨Y,e2⟩:=fr b x e1 N
     exact⟨_,e2⟩
   . exact⟨x,W b o e N x e1⟩
 . have O:H' c≠none:=by
    rcases S with rfl|S
    . rw[e];exact nofun
    . rw[S];exact nofun
   exact k c v (Q c v U (λZ=>O (f.i c Z)) (.inr O))
def fg{K:Ae}:Passes (CXE P w) (yl (CXE P w) P w K mg base N qual scope f cd A outer s₀ H₀ E) E:=by
 rintro pins σ H s e s' I ⟨a,cls,dd,H',rfl,fl,hE⟩;obtain⟨g,B,u,hk,U,fr,Q⟩:=fl.h;show wpAny _ _ _ _ _ _;have W:Inv (yl (CXE P w) P w K mg base N qual scope f cd A outer s₀ H₀ E) pins σ H' {s with heap:=g}:=I.call (g':=s.gens) (t':=s.toks) (d':=s.drawn) (ch:=[]) u hk I.F λb z=>absurd z (by simp)
 have hL:∀b,(b<s₀.heap.objs.size\/H' b≠none)->b≠s₀.heap.objs.size:=λb x z=>by
  subst z;rcases x with x|x
  . exact Bc _ x
  . exact x W.J
 have O:∀b,b∈frs outer->b∈frs (envOfC qual scope s₀.heap.objs.size f cd::outer):=λb x=>Ah _ x;refine vE (base:=B) (env:=envOfC qual scope s₀.heap.objs.size f cd) (outer:=outer) (L:=s₀.heap.objs.size) I.C.g rfl Q λh' Z Y=>?_;refine⟨a,cls,dd,H',rfl,⟨fl.j.trans I.S,fl.d,λb x=>fl.i b (O b x),g,B,W.j,hk,λb o e n x=>?_,λb o e x=>?_,Z⟩,hE⟩
 . refine U b o e (λhm=>?_) ?_
   . rcases Ap.mp (show b∈s₀.heap.objs.size::frs outer from hm) with z|z
     . exact hL b x z
     . exact n z
   . rcases x with x|x
     . exact .inl (Aw x I.sz)
     . exact .inr x
 . obtain⟨sl,e1⟩:=fr b o e (O b x)
   obtain⟨_,o',e2,hd⟩:=Q.2.2.1.mem (O b x);rw[e1]at e2;cases e2;obtain⟨R,e3⟩:=Y b _ e1 hd;exact⟨R,e3⟩
def pV{K:Ae}(I:Inv (yl (CXE P w) P w K mg base N qual scope f cd A outer s₀ H₀ E) pins σ H s)(keeps:∀b o,s.heap.get? b=some o->h1.get? b=some o)(new:s.heap.get? a=none)(U:h1.get? a=some oe)(hd:oe.data=.fields vs)(W:vs[1]?=some .none)(hE:E oe.cls oe.dict H) :
 (yl (CXE P w) P w K mg base N qual scope f cd A outer s₀ H₀ E).i (.ref a) {s with heap:=h1}:=by
 have O:∀b,b∈frs outer->b∈frs (envOfC qual scope s₀.heap.objs.size f cd::outer):=λb x=>Ah _ x;have R:∀env∈(envOfC qual scope s₀.heap.objs.size f cd::outer),∀b,env.frame=some b->b∈frs (envOfC qual scope s₀.heap.objs.size f cd::outer):=λenv U b x=>CC.mpr ⟨env,U,x⟩;have Q:s.heap.FunFrames base (envOfC qual scope s₀.heap.objs.size f cd::outer):=I.stack;show wpAny _ _ _ _ _ _;refine sZ (base:=hideAll s.heap (frs (envOfC qual scope s₀.heap.objs.size f cd::outer))) (h:=s.heap) (env:=envOfC qual scope s₀.heap.objs.size f cd) (outer:=outer) (L:=s₀.heap.objs.size) I.C.g rfl (λb o q=>of_hideAll _ q) (funFrames_hide Q R) keeps new U hd W λh' Z Y=>?_;refine⟨a,_,_,H,rfl,⟨I.S,I.F,λb x=>I.mx b (O b x),s.heap,_,I.j,I.B,λb o e n x=>hideAll_get _ e λhm=>?_,λb o e x=>?_,Z⟩,hE⟩
 . rcases Ap.mp (show b∈s₀.heap.objs.size::frs outer from hm) with z|z
   . subst z
     rcases x with x|x
     . exact Bc _ x
     . exact x I.J
   . exact n z
 . obtain⟨_,o',e2,hd⟩:=Q.mem (O b x)
   rw[e]at e2;cases e2;obtain⟨sl,e3⟩:=Y b o (keeps b o e) hd;exact⟨sl,e3⟩
def kG{K:Ae}(I:Inv (yl (CXE P w) P w K mg base N qual scope f cd A outer s₀ H₀ E) pins σ H s)(m:CU s.heap h1 a (.ref C) us)(hE:E (.ref C) none H) :
 (yl (CXE P w) P w K mg base N qual scope f cd A outer s₀ H₀ E).i (.ref a) {s with heap:=h1}:=by
 obtain⟨t,x,_,_⟩:=m.there;exact pV I m.keeps m.new x rfl rfl hE
noncomputable def veM:List Value:=[.type "ValueError",.type "Exception",.type "BaseException",.type "object"]
def ClsAt(h:Heap)(C:Addr)(bm:List Value):Prop:=∃(nm q:Str) (N:Addr) (bs:List Value) (hdct:Bool) (sn:List Str) (sub:List Value) (ab:Bool) (col:Option Bool) (dd:Option Addr) (k0 k1 k2 k3 k5:Option Value) (mN:Str->Option Value),
 h.get? C=some (AZ nm q C N bs bm hdct sn sub ab col dd k0 k1 k2 k3 k5 "ValueError.__new__")/\h.Ns N mN/\mN "__init__"=none
def XR(X:Cx)(C:Addr)(H:Hp):Prop:=∀(pins:List (Addr × Obj)) (σ:St) (s:Shared),Inv X pins σ H s->∀(h1:Heap) (a:Addr) (us:List Value),CU s.heap h1 a (.ref C) us->X.i (.ref a) {s with heap:=h1}
def TJ(X:Cx)(C:Addr)(t:TA):TS:=λ_ σ H=>t σ H λvs H1=>vs.length<=Ar/\XR X C H1
def kD(hc:X.A.handled=none)(hg:Gl X x)(Y:X.d x=some (.ref C))(cC:ClsAt X.h C (.ref D::veM))(cD:ClsAt X.h D veM)(ha:PA X (e::es) t)
 (S:(x == ("__debug__":Str))=false) (R:AG (e::es) X.a=(false,eval e X.a)::AG es X.a) (Q:(backTo cpos (AG es X.a)).any (·.1)=false):PS X (.Raise (some (.Call (.Name x np) (e::es) [] cpos)) none pos) (TJ X C t):=by
 intro pins s σ H D' I h;obtain⟨nm,q,N,bs,hdct,sn,sub,ab,col,dd,k0,k1,k2,k3,k5,mN,hC,hN,hz⟩:=cC;obtain⟨nm1,q1,N1,bs1,hd1,sn1,sub1,ab1,col1,dd1,j0,j1,j2,j3,j5,mN1,hD,U,P⟩:=cD;refine vn (C:=C) (D:=D) (nm:=nm) (q:=q) (N:=N) (bs:=bs) (hdct:=hdct) (sn:=sn) (sub:=sub) (ab:=ab) (col:=col) (dd:=dd) (k0:=k0) (k1:=k1) (k2:=k2) (k3:=k3) (k5:=k5) (mN:=mN)
  (nm1:=nm1) (q1:=q1) (N1:=N1) (bs1:=bs1) (hd1:=hd1) (sn1:=sn1) (sub1:=sub1) (ab1:=ab1) (col1:=col1) (dd1:=dd1) (j0:=j0) (j1:=j1) (j2:=j2) (j3:=j3) (j5:=j5) (mN1:=mN1) (new1:="ValueError.__new__") (Cb.two D) hc ?_ hz P rfl Cb.mroIs (xO I hg Y ⟨rfl,?_⟩ S)
 . rw[R];exact Q
 . rw[R]
   refine Du ?_;have q:=ha cpos pins s σ H _ I h;rw[R]at q;refine AN q (λus s1 W=>?_) λ_ _ z=>z;obtain⟨vs,H1,O,r,Z,hx⟩:=W;exact⟨rfl,by rw[<-r.length];exact Z,O.bk _ _ hC,hN.keeps O.bk,O.bk _ _ hD,U.keeps O.bk,λh' e' m=>hx pins σ s1 O h' e' _ m⟩
def Xu{K}
 (hE:E (.ref C) none H):XR (yl (CXE P w) P w K mg base N qual scope f cd A outer s₀ H₀ E) C H:=λ_ _ _ I _ _ _ m=>kG I m hE
def tFs(ta tb:TE):TE:=λσ H Q=>ta σ H λx H1=>∃i:Int,x=.d i/\i.natAbs<2 ^ 64/\tb σ H1 λy H2=>∃j:Int,y=.d j/\j.natAbs<2 ^ 64/\∀z,Q (.e z) H2
def vD{i:Int}(h:i.natAbs<2 ^ 64):i.natAbs.log2<64:=by
 by_cases z:i.natAbs=0
 . rw[z];decide
 . exact(Nat.log2_lt z).mpr h
def ua{i:Int}(h:i.natAbs<2 ^ 64):(EH (toString i)).length<=65:=by rw[PySem.ofString_length];exact int_text_length_le (by decide) (vD h)
def RY(U:PE X a ta)(S:PE X b tb)(h1:c1.length<=1000)(h2:c2.length<=1000)(h3:c3.length<=1000) :
 PE X (.JoinedStr [.Constant (.str c1) k1 p1,.FormattedValue a (-1) none p2,.Constant (.str c2) k2 p3,.FormattedValue b (-1) none p4,.Constant (.str c3) k3 p5] pos) (tFs ta tb):=by
 intro pins s σ H Q I h;refine JoinedStr_many (Cw (Dd ⟨?_,Cw (Dy ?_)⟩))
 . rw[AR,AI,show CT.length=0 from rfl];omega
 refine thn (U pins _ σ H _ (I.tok _) h) λu s1 N=>?_;obtain⟨x,H1,Y,r1,i,e1,hi,q1⟩:=N;subst e1;obtain⟨t1,rfl⟩:=r1;have l1:=ua hi;refine Ds (Aw (vD hi) (by decide)) ⟨?_,Cw (Dd ⟨?_,Cw (Dy ?_)⟩)⟩
 . rw[AR,AR,AI,show CT.length=0 from rfl];omega
 . rw[AR,AR,AR,AI,show CT.length=0 from rfl];omega
 refine thn (S pins _ σ H1 _ (Y.tok _) q1) λZ s2 N=>?_;obtain⟨y,H2,W,P,j,e2,O,R⟩:=N;subst e2;obtain⟨t2,rfl⟩:=P;have l2:=ua O;refine Ds (Aw (vD O) (by decide)) ⟨?_,Cw (Dd ⟨?_,joinParts_nil ⟨.e _,H2,W.tok _,⟨_,rfl⟩,R _⟩ ?_⟩)⟩
 . rw[AR,AR,AR,AR,AI,show CT.length=0 from rfl];omega
 . rw[AR,AR,AR,AR,AR,AI,show CT.length=0 from rfl];omega
 . rw[AR,AR,AR,AR,AR,AI,show CT.length=0 from rfl];omega
def Bm(base:Heap)(mg:Str->Option Value):Prop:=∃(bm:Addr) (ob:Obj),mg "__builtins__"=some (.ref bm)/\bm≠FI/\base.get? bm=some ob/\ob.cls=.type "module"/\ob.dict=some FI/\ob.data=.plain
def Wn(H:Hp)(P:Addr)(ps:Array Value)(pos:Pos)(q:Str)(c:Addr)(H':Hp):Prop:=H'=H \/
 ∃(o:Obj) (vs:Array Value) (t:Tok),DT pos ps.toList=none/\H c=none/\o.data=.fields vs/\vs[1]?=some (.str q t)/\H'=upd (upd H P (.g (ps++#[rawInt pos.line,rawInt pos.col,.ref c]))) c (.d o (.e 0))
def lb(I:Inv X pins σ H s)(cn:defaultsOf a X.a=([],[]))(hcl:GD lsc X.a=pure clos)
 (U:X.a.code=.ref c) (C:CodeHd s.heap c P) (W:H P=some (.g ps)) (ht:DU ps.toList) (B:Bm X.h X.d)
 (hit:∀cv,DT pos ps.toList=some cv->∃x o vs t,cv=.ref x/\H x=some (.d o (.e 0))/\o.data=.fields vs/\vs[1]?=some (.str (X.a.qual++("<lambda>":Str)) t))
 (h:∀lf x ctv H' h' tk,Inv X pins σ H' {s with heap:=h',toks:=tk}->Wn H P ps pos (X.a.qual++("<lambda>":Str)) x H'->(H' lf=none/\s.heap.objs.size<=lf/\lf ∉ frs X.g/\∃o vs t,H' x=some (.d o (.e 0))/\o.data=.fields vs/\vs[1]?=some (.str (X.a.qual++("<lambda>":Str)) t)) ->
  h'.get? lf=some (kla_obj "<lambda>" (X.a.qual++("<lambda>":Str)) a body lsc clos ((X.d "__name__").getD .none) x ctv)->h'.CodeRec (.ref x) (X.a.qual++("<lambda>":Str))->Q (.ref lf) {s with heap:=h',toks:=tk}) :
 wpAny M A (eval (.Lambda a body lsc pos) X.a) Q E s:=by
 obtain⟨bm,ob,b1,b2,b3,b4,b5,b6⟩:=B;have hPo:s.heap.get? P=some (tabObj ps):=I.B P _ W;have hg:s.heap.Ns AS X.d:=I.mod.c.keeps I.bk;have hbH:H bm=none:=(I.bs _ _ b3).2;have hbP:bm≠P:=λz=>by rw[z,W]at hbH;cases hbH
 obtain⟨og,eg,pg,g1,g2,_⟩:=I.mod.c;have hgH:H AS=none:=(I.bs _ _ g1).2;have hgP:AS≠P:=λz=>by rw[z,W]at hgH;cases hgH
 have hbG:bm≠AS:=λz=>by rw[z,g1]at b3;cases b3;rw[g2]at b6;cases b6
 have hb:s.heap.BuiltinsAt X.d P:=⟨bm,ob,b1,b2,hbG,hbP,I.bk _ _ b3,b4,b5,b6⟩;have nst:∀lf,s.heap.objs.size<=lf->lf ∉ frs X.g:=λlf hl hm=>by obtain⟨_,o,e,_⟩:=I.stack.mem hm;exact absurd (Aw (Al e) hl) (Bc _)
 refine kla_eval cn ?_;cases hf:DT pos ps.toList with
 |some cv=>
  obtain⟨x,o,vs,t,rfl,q1,q2,q3⟩:=hit cv hf;refine kla_makeFunctionHit (mg:=X.d) hcl I.C.j hg U C hPo ht hf hb λctv h' tk hk Z=>?_;have O:∀b u,s.heap.get? b=some u->(h'.push {cls:=.type "function",data:=.func (kla_fn "<lambda>" (X.a.qual++("<lambda>":Str)) a body lsc clos ((X.d "__name__").getD .none) (.ref x) ctv)}).get? b=some u:=λb u e=>Aa _ (hk b u e);have hcr:s.heap.CodeRec (.ref x) (X.a.qual++("<lambda>":Str)):=⟨x,o,vs,t,rfl,(I.B x _ q1).1,q2,q3⟩;refine h _ x ctv H _ tk (I.kept O) (.inl rfl) ⟨I.B.fresh Z,Z,nst _ Z,o,vs,t,q1,q2,q3⟩ (AF _ rfl) ?_;obtain⟨c2,o2,vs2,t2,e1,e2,e3⟩:=hcr;exact⟨c2,o2,vs2,t2,e1,O _ _ e2,e3⟩
 |none=>
  refine kla_makeFunction (mg:=X.d) hcl I.C.j hg U C hPo ht hf hgP hb λx ctv h' tk hx R S ky htb=>?_;obtain⟨c2,oc,vs,t,e1,e2,e3,e4⟩:=ky;cases e1;have N:H x=none:=I.B.fresh R;have hcP:x≠P:=λz=>by rw[z,W]at N;cases N
  have O:∀b u,b≠P->s.heap.get? b=some u->(h'.push (kla_obj "<lambda>" (X.a.qual++("<lambda>":Str)) a body lsc clos ((X.d "__name__").getD .none) x ctv)).get? b=some u:=λb u n e=>Aa _ (hx b u n e);have nP:∀b,H b=none->b≠P:=λb n z=>by rw[z,W]at n;cases n
  have nc:∀b o,s.heap.get? b=some o->b≠x:=λb o e z=>absurd (Aw (Al e) R) (by rw[z];exact Bc _)
  refine h _ x ctv (upd (upd H P (.g (ps++#[rawInt pos.line,rawInt pos.col,.ref x]))) x (.d oc (.e 0))) _ tk (I.un (t':=tk) ⟨λb o e n _ _=>O b o (nP b n) e,λb o e n _ _=>⟨o.slots,O b o (nP b n) e⟩,λb o e n _=>?_,λb o e _=>?_,λb xs e=>?_,λb o u e=>?_,λb qs e=>?_⟩ λb u e=>?_)
   (.inr ⟨oc,vs,t,hf,N,e3,e4,rfl⟩) ⟨by rw[zG (Dl S),zG (nP _ (I.B.fresh (As R (CW S))))];exact I.B.fresh (As R (CW S)),As R (CW S),nst _ (As R (CW S)),oc,vs,t,zK,e3,e4⟩ (AF _ rfl) ⟨x,oc,vs,t,rfl,Aa _ e2,e3,e4⟩
  . rw[zG (nc b o e),zG (nP b n)];exact n
  . by_cases z:b=P
    . rw[z];exact⟨_,Aa _ htb⟩
    . exact⟨o,O b o z e⟩
  . have Y:b≠x:=λz=>by rw[z,N]at e;cases e
    have z2:b≠P:=λz=>by rw[z,W]at e;cases e
    rw[zG Y,zG z2];exact e
  . have Y:b≠x:=λz=>by rw[z,N]at e;cases e
    have z2:b≠P:=λz=>by rw[z,W]at e;cases e
    rw[zG Y,zG z2];exact e
  . have Y:b≠x:=λz=>by rw[z,N]at e;cases e
    rw[zG Y];by_cases z:b=P
    . subst z
      rw[W]at e;cases e;exact⟨_,zK⟩
    . rw[zG z];exact⟨#[],by rw[e];simp⟩
  . by_cases Y:b=x
    . subst Y
      rw[zK]at e;cases e;exact⟨Aa _ e2,oc,Aa _ e2⟩
    . rw[zG Y]at e
      by_cases z:b=P
      . subst z
        rw[zK]at e;cases e;exact Aa _ htb
      . rw[zG z]at e
        have own:∀d y,H d=some (.e y)->d≠x/\d≠P:=λd y r=>⟨λz=>(by rw[z,N]at r;cases r),λz=>(by rw[z,W]at r;cases r)⟩
        refine(I.B b u e).r9 (λd v hd q=>O d v ?_ q) (λd r=>by rw[zG (own d b r).1,zG (own d b r).2];exact r) λd xs r=>?_
        . rcases hd with rfl|hd
          . exact z
          . exact(own d b hd).2
        . have y1:d≠x:=λz=>by rw[z,N]at r;cases r
          have y2:d≠P:=λz=>by rw[z,W]at r;cases r
          rw[zG y1,zG y2];exact r
section
variable {P:Program}{w:World}{K:Ae}{mg:Str->Option Value}{base:Heap}{CX:CXT}{A:Around}{outer:List Env}{s:Shared}{H:Hp}{E:XK}{R:Result->Shared->Prop}
noncomputable abbrev Cx.loud(X:Cx)(A:Around):Cx:={X with A:=A,j:=false}
theorem Inv.loud(I:Inv X pins σ H s)(hf:A'.frames=some X.g):Inv (X.loud A') pins σ H s:=
 ⟨⟨I.C.i,I.C.a,I.C.j,I.C.t,I.C.d,I.C.r,I.C.p,I.C.s,λz=>absurd z Ak,hf,I.C.w,I.C.G,I.C.B,I.C.q,I.C.m,I.C.l,I.C.D,I.C.u⟩,I.S,I.F,I.j,I.O,I.M,I.J,I.G,I.P,I.B,I.R⟩
def Inv.calm(I:Inv (X.loud A') pins σ H s)(ok:X.Ok):Inv X pins σ H s:=
 ⟨ok,I.S,I.F,I.j,I.O,I.M,I.J,I.G,I.P,I.B,I.R⟩
abbrev iP(P:Program)(w:World)(A:Around)(env:Env)(R:Result->Shared->Prop)(body:List Stmt)(s1:Shared):Prop:=
 wpAny (model P w) (A.deeper env) (execs body env) (λfl s'=>R (.ok (.ret (match fl with|.ret v=>v|_=>.none))) s')
  (λe s'=>wpAny (model P w) (A.deeper env) (leaving env e) (λ_ x=>R (.error e) x) (λN x=>R (.error N) x) s') s1
def qk{dV kV doc pm cdv ct oc}
 (lk:K.lookup f=some ⟨oc,od,.func (BL name qual params body scope dV kV doc pm an cdv ct),osl⟩) (Y:B1 K cdv qual=true) (S:xt N ps scope) (U:A.depth<Cu)
 (e0:qU P w K mg base A outer s H) (hb:BindsTo s (BL name qual params body scope dV kV doc pm an cdv ct) args (ps.zip us)) (hl:vs.length=ps.length) (r:Vals vs us)
 (h:∀s1:Shared,Inv (yl CX P w K mg base N qual scope f cdv {A with handled:=none} outer s H E) [] (start N vs) H s1->(∀b o,s.heap.get? b=some o->s1.heap.get? b=some o)->iP P w A (envOfC qual scope s.heap.objs.size f cdv) R body s1) :
 codeAny (model P w) A (.call (.ref f) args) R s:=by
 have Z:K.In s.heap:=e0.c.a.keeps λb o e=>(e0.f b o e).1;have Q:s.heap.NoLimit:=e0.c.b.keeps λb o e=>(e0.f b o e).1;have O:∀y∈ps.zip us,scope.names.lookup y.1=some .local\/(scope.names.lookup y.1=some .cell/\((CD (s.heap.objs.size+1) scope.names []).lookup y.1).isSome=true):=λ⟨n,v⟩ hy=>by
  rcases S.e n (EF hy).1 with q|q
  . exact .inl q
  . exact .inr ⟨q,Ec _ _ _ (.inl q)⟩
 refine codeAny_call_function U (Z _ _ lk) rfl S.co S.f rfl (PySem.W.codeRec_of Z Y) (hb _ _ _ _ ?_);refine Fj S.a O λenv he s1 x=>?_;subst he;refine⟨Q.keeps x.toInCall.keep,codeAny_func ?_⟩;exact h s1 (ow (A:={A with handled:=none}) S rfl ⟨e0.a,e0.c,e0.f,e0.h,e0.j,e0.i,e0.d,e0.g⟩ hl r x) x.toInCall.keep
def rT(h:A.handled=none):{A with handled:=none}=A:=by
 cases A;simp only at h;subst h;rfl
noncomputable def noArgs:Er:=⟨[],[],none,[],[],none,[]⟩
noncomputable def qe(CX:CXT)(P:Program)(w:World)(K:Ae)(mg:Str->Option Value)(base:Heap)(N:List Str)(qual:Str)(scope:Scope)(f:Addr)(cd:Value)(cl:List (Str × Addr))(A:Around)(outer:List Env)(s:Shared)(H:Hp)(E:XK):Cx where
 f:=P
 w:=w
 K:=K
 d:=mg
 h:=base
 A:=A.deeper (envX qual scope s.heap.objs.size f cd cl)
 N:=N
 l:=s
 r:=H
 a:=envX qual scope s.heap.objs.size f cd cl
 k:=outer
 g:=envX qual scope s.heap.objs.size f cd cl::outer
 m:=[]
 j:=true
 q:=λ_=>false
 n:=[]
 i:=λe s'=>wpAny (model P w) (A.deeper (envX qual scope s.heap.objs.size f cd cl)) (leaving (envX qual scope s.heap.objs.size f cd cl) e) (λ_ x=>CX outer H s E e x) (λO x=>CX outer H s E O x) s'
def Yn(hdp:A.depth<Cu)(hh:A.handled=none)(e0:qU P w K mg base A outer s H)
 (ho:s.heap.get? lf=some (kla_obj nm qual noArgs body lsc cl pm c ctv)) (hcr:s.heap.CodeRec (.ref c) qual) (hk:lsc.kind=.function) (hco:lsc.isCoroutine=false) (hgen:lsc.isGenerator=false)
 (S:∀x∈lsc.names,x.2≠.cell/\x.2≠.local) (hinj:∀x y b,cl.lookup x=some b->cl.lookup y=some b->x=y) (hhas:∀x,lsc.names.lookup x=some .free->∃b,cl.lookup x=some b)
 (W:∀x b,cl.lookup x=some b->(∃v,s.heap.IsCell b v)/\H b=none)
 (hval:∀(i:Nat) x v,N[i]?=some x->σ[i]?=some (some v)->lsc.names.lookup x=some .free->∃u b,RelV v u/\cl.lookup x=some b/\s.heap.IsCell b (some u)) (hlen:σ.length=N.length)
 (h:∀s1:Shared,Inv (qe CX P w K mg base N qual lsc lf (.ref c) cl A outer s H E) [] σ H s1->wpAny (model P w) (A.deeper (envX qual lsc s.heap.objs.size lf (.ref c) cl)) (eval body (envX qual lsc s.heap.objs.size lf (.ref c) cl)) (λv s'=>R (.ok (.ret v)) s')
  (λe s'=>wpAny (model P w) (A.deeper (envX qual lsc s.heap.objs.size lf (.ref c) cl)) (leaving (envX qual lsc s.heap.objs.size lf (.ref c) cl) e) (λ_ Y=>R (.error e) Y) (λe' Y=>R (.error e') Y) s') s1) :
 codeAny (model P w) A (.call (.ref lf) ⟨[],[]⟩) R s:=by
 have lim:s.heap.NoLimit:=e0.c.b.keeps λb o e=>(e0.f b o e).1;refine kla_callFunE hdp ho rfl hco hgen rfl hcr ?_;have hb:GA (kla_fn nm qual noArgs body lsc cl pm (.ref c) ctv) ⟨[],[]⟩=pure []:=rfl;rw[hb];refine Aj (wpAny_newFunctionEnv (λx hx=>(S x hx).1) (λx hx=>absurd hx (by simp)) (λU hns hsb=>⟨lim.fresh _ hsb,?_⟩) hk)
 show codeAny _ _ (.expr body (envX qual lsc s.heap.objs.size lf (.ref c) cl)) _ _;have O:∀b o,s.heap.get? b=some o->U.get? b=some o:=λb o e=>hsb.extBut b o (AL (Al e)) (Aa _ e);have Z:∀b:Addr,b ∉ (qe CX P w K mg base N qual lsc lf (.ref c) cl A outer s H E).m:=λb z=>absurd (show b∈([]:List Addr) from z) (by simp)
 have Q:∀b v,s.heap.IsCell b v->U.IsCell b v:=λb v ⟨o,e,d⟩=>⟨o,O b o e,d⟩;refine kla_codeExpr (h _ ⟨⟨e0.c,hk,rfl,rfl,Ad _,hinj,λy hy=>?_,λy b z _=>absurd z Ak,λ_=>hh,EG e0.a,.inr ⟨rfl,rfl⟩,λb z=>absurd z (Z b),e0.f,e0.h,λb _ _=>Z b,λb z=>absurd z (Z b),e0.j,e0.i⟩,
  rfl,e0.g,Un.kept O,⟨_,hns,λi y v h1 h2 h3=>?_⟩,λy b e=>?_,e0.d.fresh (Ad _),λy b e=>(W y b e).2,λp hp=>absurd (show p∈([]:List (Addr × Obj)) from hp) (by simp),e0.d.kept O,hlen⟩)
 . have hy:lsc.names.lookup y=some .cell\/lsc.names.lookup y=some .free:=hy
   rcases hy with hy|hy
   . exact absurd rfl (S _ (AV hy)).1
   . exact hhas y hy
 . have h3:lsc.names.lookup y=some .local\/lsc.names.lookup y=some .cell\/lsc.names.lookup y=some .free:=h3
   rcases h3 with z|z|z
   . exact absurd rfl (S _ (AV z)).2
   . exact absurd rfl (S _ (AV z)).1
   . obtain⟨u,b,q1,q2,q3⟩:=hval i y v h1 h2 z
     exact⟨u,q1,.inr ⟨.inr z,b,q2,Q _ _ q3⟩⟩
 . obtain⟨v,q⟩:=(W y b e).1
   exact⟨v,Q b v q⟩
end
end L2
end
section
namespace L2
open PySem PySem.W PySem.Spec PySem.Calls PyProof PyProof.Rows
noncomputable def exO(C:Addr)(dx:Option Addr)(t:Addr):Obj:={cls:=.ref C,dict:=dx,data:=.fields #[.ref t,.none,.none,.none,.bool false,.none]}
noncomputable def exH(e C:Addr)(dx:Option Addr):HO:=.j λh=>∃t,h.get? e=some (exO C dx t)
noncomputable def dcH(d:Addr)(fs:List (Str × V)):HO:=.j λh=>∃mA,h.Ns1 d mA/\(∀f,lH (fs.lookup f) (mA f))/\EC mA (fs.map (·.1))
def kq(x:h.get? e=some (exO C dx t)):z0 P w H h e (exH e C dx):=⟨⟨t,x⟩,⟨_,x⟩,λh1 N ⟨t,z⟩ k=>⟨t,k _ z⟩⟩
def n6(x:z0 P w H h e (exH e C dx)):∃t,h.get? e=some (exO C dx t):=x.1
def dy(x:h.Ns1 d mA)(r:∀f,lH (fs.lookup f) (mA f))(wi:EC mA (fs.map (·.1))):z0 P w H h d (dcH d fs):=
 ⟨⟨mA,x,r,wi⟩,(let ⟨o,_,_,e,_⟩:=x;⟨o,e⟩),λh1 N ⟨mA,x,r,wi⟩ k=>⟨mA,x.at k,r,wi⟩⟩
def dw(x:z0 P w H h d (dcH d fs)):∃mA,h.Ns1 d mA/\(∀f,lH (fs.lookup f) (mA f))/\EC mA (fs.map (·.1)):=x.1
def sg(h:Heap)(C:Addr)(bm:List Value)(O:Addr):Prop:=∃(nm q:Str) (N:Addr) (bs:List Value) (sn:List Str) (sub:List Value) (ab:Bool) (col:Option Bool) (dd:Option Addr) (k0 k1 k2 k3 k5:Option Value) (mN:Str->Option Value) (x:Obj),
 h.get? C=some (AZ nm q C N bs bm true sn sub ab col dd k0 k1 k2 k3 k5 "ValueError.__new__")/\h.Ns N mN/\mN "__init__"=some (.ref O)/\h.get? O=some x/\x.cls=.type "function"
theorem sg.keeps(x:sg h C bm fI)(k:∀b o,h.get? b=some o->h'.get? b=some o):sg h' C bm fI:=by obtain⟨nm,q,N,bs,sn,sub,ab,col,dd,k0,k1,k2,k3,k5,mN,O,e,n,z,e2,c⟩:=x;exact⟨nm,q,N,bs,sn,sub,ab,col,dd,k0,k1,k2,k3,k5,mN,O,k _ _ e,n.keeps k,z,k _ _ e2,c⟩
structure GrK(K:Ae)(C D:Addr):Prop where
 sa:findIn K (.ref C) "__setattr__"=some (some (.builtin "object.__setattr__"))
 m1:findIn K (.ref C) "many"=some none
 m2:findIn K (.ref C) "most"=some none
 sp:specialIn K (.ref D) "__getattribute__"=some (some (.builtin "type.__getattribute__"))
 rd:readsIn K D (.type "type")=true
 fc:findCls K (.ref D) (.type "type") "__init__"=some (.val (.builtin "ValueError.__init__"))
def kz{prog:Program}{w:World}{A:Around}{E:Value->Shared->Prop}{h:Heap}{g:Array GenState}{d:Drawn}{t:Nat}{os:OsState}{nm q:Str}{C N:Addr}{bs bm sub:List Value}{hdct ab:Bool}{sn:List Str}{col:Option Bool}{dd:Option Addr}{k0 k1 k2 k3 k5:Option Value}{B newId initId:String}(F:yx B newId initId bm)(hC:h.get? C=some (AZ nm q C N bs bm hdct sn sub ab col dd k0 k1 k2 k3 k5 newId))(x:h.get? e=some (exO C dx t0))(hrest:rest.length<=Ar)
 (O:∀h',(∀b o,b≠e->h.get? b=some o->h'.get? b=some o)->h'.get? e=some (exO C dx h.objs.size)->Q .none ⟨h',g,d,t,os⟩):wpAny (model prog w) A (call (.builtin initId) (.ref e::rest)) Q E ⟨h,g,d,t,os⟩:=by
 refine Df (Cp F.init.plain F.initEntry (xZ F hC x rfl ?_));unfold exO at x
 wp_walk
 refine O _ (λb o P q=>?_) ?_
 . rw[AY _ _ (A6 P)]
   exact Aa _ q
 . rw[BM _ (Aa _ x) rfl]
   rfl
def Te(h:H a=some o):upd H a o=H:=by
 funext b;unfold upd;split
 . rename_i z;rw[z,h]
 . rfl
section
variable {Y:Cx}{C D:Addr}
def oC
 (R:Ca o name env (eval o env)=eval o env)
 (Y:((backTo pos (AG args env)).all (λx=>!x.1)&&(GC pos (E2 [] env)).all (λx=>x.1.isSome)
  && decide (args.length+([]:List Keyword).length+(if ([]:List Keyword).isEmpty then 0 else 1)<30))=true)
 (hline:(apos.endLine == pos.line)=true)
 (h:wpAny (model prog w) A (eval o env) (λov O=>∀pl,wpAny (model prog w) A (getMethod ov name pl) (λZ N=>wpAny (model prog w) A (callWith pos Z.1 Z.2 (backTo pos (AG args env)) (GC pos (E2 [] env))) Q E N) E O) E s) :
 wpAny (model prog w) A (eval (.Call (.Attribute o name apos) args [] pos) env) Q E s:=by
 rw[arm_eval_Call,R];refine xd (AN h (λov O U=>?_) λ_ _ e=>e);refine xd (A8 ?_);have P:methodCallForm (args.length+([]:List Keyword).length) (backTo pos (AG args env)) (GC pos (E2 [] env))=true:=Y;have W:methodCallPos true o env apos pos=pure pos:=by unfold methodCallPos;simp[hline]
 unfold methodCall;rw[P];refine xd (By (AN (U _) (λZ N S=>?_) λ_ _ e=>e));exact xd (wpAny_of_eq W S)
def Za(C:Addr)(ta:TA):TE:=λσ H Q=>ta σ H λvs H1=>∃e dx z,vs=[.c e,.e z]/\H1 e=some (exH e C dx)/\Q .g H1
def ae{K}(G:GrK K C D)(sub:∀a o,K.lookup a=some o->Y.K.lookup a=some o)(hg:Gl Y hx)(hm:Y.d hx=some (.ref D))(hdb:(hx == ("__debug__":Str))=false)(ha:PA Y [e1,e2] ta)(cC:sg Y.h C (.ref D::veM) fI)
 (hst:AG [e1,e2] Y.a=(false,eval e1 Y.a)::AG [e2] Y.a:=by rfl) (hpl:(backTo cp (AG [e2] Y.a)).any (·.1)=false:=by rfl)
 (hline:(ap.endLine == cp.line)=true) (P:Ca (.Name hx np) "__init__" Y.a (eval (.Name hx np) Y.a)=eval (.Name hx np) Y.a:=by rfl)
 (R:((backTo cp (AG [e1,e2] Y.a)).all (λx=>!x.1)&&(GC cp (E2 [] Y.a)).all (λx=>x.1.isSome)&&decide ([e1,e2].length+([]:List Keyword).length+(if ([]:List Keyword).isEmpty then 0 else 1)<30))=true:=by rfl) :
 PE Y (.Call (.Attribute (.Name hx np) "__init__" ap) [e1,e2] [] cp) (Za C ta):=by
 intro pins s σ H Q I h;have KI:K.In s.heap:=λa o e=>I.kIn a o (sub a o e);refine oC P R hline (xO I hg hm (λpl=>?_) hdb);refine PySem.W.method_cls KI G.sp (PySem.W.cls_value KI G.rd G.fc rfl ?_);have hA:=ha cp pins {s with toks:=s.toks+1} σ H _ (I.tok _) h
 rw[hst]at hA ⊢;refine Calls.callWith_builtin (by show (false||(backTo cp (AG [e2] Y.a)).any (·.1))=false;rw[hpl];rfl) (Du ?_)
 refine thn hA λus s2 zz=>?_;obtain⟨vs,H2,I2,r2,e,dx,z,hvs,he,q⟩:=zz;subst hvs;obtain⟨U,O,rfl,Z,r3⟩:∃U O,us=U::O/\RelV (.c e) U/\Vals [.e z] O:=by cases r2 with|cons a b=>exact⟨_,_,rfl,a,b⟩
 cases Z;obtain⟨t0,he2⟩:=n6 (I2.B e _ he);obtain⟨nm,q',N,bs,sn,sub',ab,col,dd,k0,k1,k2,k3,k5,mN,oI,hC,_⟩:=cC.keeps I2.bk;obtain⟨h2,g2,d2,t2,os2⟩:=s2;refine kz (Cb.two D) hC he2 (by rw[<-r3.length];show 1<=Ar;rw[AI];decide) λh' k S=>⟨.g,H2,?_,rfl,q⟩
 have:=I2.write (x:=e) (e:=e) (o:=exH e C dx) (t':=t2) (by rw[he];exact AX) (.inl rfl) (λb u hb z=>k b u hb z) ⟨_,S⟩ (kq S)
 rwa [Te he]at this
def U2(C:Addr)(ta N:TE)(f:Str):TS:=λD σ H=>N σ H λy H1=>ta σ H1 λx H2=>∃e,x=.c e /\
 ((H2 e=some (exH e C none)/\∀d,H2 d=none->d≠e->D.a σ (upd (upd H2 d (dcH d [(f,y)])) e (exH e C (some d)))) \/
  ∃d fs,H2 e=some (exH e C (some d))/\H2 d=some (dcH d fs)/\d≠e/\fs.length<1000/\D.a σ (upd H2 d (dcH d (rL f y fs))))
def ZS{K}(G:GrK K C D)(sub:∀a o,K.lookup a=some o->Y.K.lookup a=some o)(cC:sg Y.h C (.ref D::veM) fI)
 (hna:findIn K (.ref C) f=some none) (I:Inv Y pins σ H s) (he:H e=some (exH e C none)) (ry:RelV y u) (h:∀d s',H d=none->d≠e->Inv Y pins σ (upd (upd H d (dcH d [(f,y)])) e (exH e C (some d))) s'->Q () s'):wpAny (model Y.f Y.w) A (setAttr (.ref e) f u) Q E s:=by
 have KI:K.In s.heap:=λa o z=>I.kIn a o (sub a o z);obtain⟨t0,O⟩:=n6 (I.B e _ he);obtain⟨nm,q',N,bs,sn,sub',ab,col,dd,k0,k1,k2,k3,k5,mN,oI,hC,_⟩:=cC.keeps I.bk;have hxC:e≠C:=λz=>by subst z;rw[O]at hC;cases hC
 obtain⟨hp,g2,d2,t2,os2⟩:=s;refine rg (x:=e) (mA:=λ_=>none) (ns:=[]) (F3.two D) hC KI G.sa hna hxC ⟨_,O,rfl,λc z=>(by cases z),.inl ⟨rfl,λ_=>rfl⟩⟩ (λh' Z I' keep same=>?_) (λn hn=>absurd rfl hn) (Bj _)
 obtain⟨o1,e1,c1,c2,c3,_,c5⟩:=same _ O;have U:=c5 rfl;have lt:=Al O;have S:o1=exO C (some hp.objs.size) t0:=by obtain⟨oc,od,odt,osl⟩:=o1;simp only at c1 c2 c3 U;subst c1 c2 c3 U;rfl
 subst S;obtain⟨o2,e2,_,_,hd2⟩:=I';rw[e1]at e2;cases e2;rcases hd2 with⟨z,_⟩|⟨dx,z,ne,hns⟩
 . cases z
 . have hz:dx=hp.objs.size:=by cases z;rfl
   subst hz;obtain⟨od,es,ep,eo,rest⟩:=id hns;have R:hp.objs.size≠e:=λz=>Bc _ (z▸lt);refine h hp.objs.size _ (I.B.fresh (Ad _)) R ?_;have hfr:od.isFreed=false:=(Heap.get?_some_iff.mp eo).2;have n1:(hp.push od).get? hp.objs.size=some od:=AF hp hfr;have I1:=I.laid (h':=hp.push od) (a:=hp.objs.size) (o:=dcH hp.objs.size [(f,y)]) (t':=t2) (λb v q=>Aa _ q) (Ad _) (dy (mA:=λz=>if z=f then some u else none) ⟨od,es,ep,n1,rest⟩ (λg=>?_) λg hg=>?_)
   . refine I1.write (x:=e) (e:=e) (o:=exH e C (some hp.objs.size)) (t':=Z) (by rw[zG (A6 R),he];exact AX) (.inl rfl) (λb v hb q=>?_) ⟨_,e1⟩ (kq e1)
     by_cases hbd:b=hp.objs.size
     . subst hbd
       have q':(hp.push od).get? hp.objs.size=some v:=q;rw[n1]at q';cases q';exact eo
     . refine keep b v hb (λP dx h0 hd0=>?_) ?_
       . rw[show (⟨hp,g2,d2,t2,os2⟩:Shared).heap=hp from rfl]at O
         have W:hp.get? e=some P:=h0;rw[O]at W;cases W;cases hd0
       . rcases Heap.get?_push_cases (show (hp.push od).get? b=some v from q) with⟨z,_⟩|z
         . exact absurd z hbd
         . exact z
   . show lH (([(f,y)]:List (Str × V)).lookup g) (if g=f then some u else none)
     by_cases q:g=f
     . subst q;rw[if_pos rfl];simp only[Aq,beq_self_eq_true];exact ry
     . rw[if_neg q]
       have:(g == f)=false:=by simpa using q
       simp only[Aq,this,List.lookup_nil];exact AX
   . by_cases q:g=f
     . subst q;exact .head _
     . exact absurd (if_neg q) hg
def eI{K}(G:GrK K C D)(sub:∀a o,K.lookup a=some o->Y.K.lookup a=some o)(cC:sg Y.h C (.ref D::veM) fI)
 (hna:findIn K (.ref C) f=some none) (I:Inv Y pins σ H s) (he:H e=some (exH e C (some d))) (hd:H d=some (dcH d fs)) (hde:d≠e) (hl:fs.length<1000) (ry:RelV y u) (h:∀s',Inv Y pins σ (upd H d (dcH d (rL f y fs))) s'->Q () s'):wpAny (model Y.f Y.w) A (setAttr (.ref e) f u) Q E s:=by
 have KI:K.In s.heap:=λa o z=>I.kIn a o (sub a o z);obtain⟨t0,P⟩:=n6 (I.B e _ he);obtain⟨mA,hns,r,wi⟩:=dw (I.B d _ hd);obtain⟨nm,q',N,bs,sn,sub',ab,col,dd,k0,k1,k2,k3,k5,mN,oI,hC,_⟩:=cC.keeps I.bk;have hxC:e≠C:=λz=>by subst z;rw[P]at hC;cases hC
 obtain⟨hp,g2,d2,t2,os2⟩:=s;refine rg (x:=e) (mA:=mA) (ns:=fs.map (·.1)) (F3.two D) hC KI G.sa hna hxC ⟨_,P,rfl,λc z=>(by cases z),.inr ⟨d,rfl,hde,hns⟩⟩ (λh' tk' I' keep same=>?_) wi (by rw[Ac,AI];omega)
 obtain⟨o1,e1,c1,c2,c3,c4,_⟩:=same _ P;have W:=c4 d rfl;have U:o1=exO C (some d) t0:=by obtain⟨oc,od,odt,osl⟩:=o1;simp only at c1 c2 c3 W;subst c1 c2 c3 W;rfl
 subst U;obtain⟨o2,e2,_,_,hd2⟩:=I';rw[e1]at e2;cases e2;rcases hd2 with⟨z,_⟩|⟨dx,z,ne,R⟩
 . cases z
 . have hz:dx=d:=by cases z;rfl
   subst hz;refine h _ (I.write (x:=dx) (e:=dx) (t':=tk') (by rw[hd];exact AX) (.inl rfl) (λb v hb q=>?_) (let ⟨o,_,_,z,_⟩:=R;⟨o,z⟩) (dy R (λg=>?_) λg hg=>?_))
   . by_cases hbe:b=e
     . subst hbe
       have q':hp.get? b=some v:=q;have O:hp.get? b=some (exO C (some dx) t0):=P;rw[O]at q';cases q';exact e1
     . refine keep b v hbe (λS dx' h0 hd0=>?_) q
       have Z:hp.get? e=some S:=h0;have O:hp.get? e=some (exO C (some dx) t0):=P;rw[O]at Z;cases Z;cases hd0;exact hb
   . show lH ((rL f y fs).lookup g) (if g=f then some u else mA g)
     rw[rY];by_cases q:g=f
     . rw[if_pos q,if_pos q];exact ry
     . rw[if_neg q,if_neg q];exact r g
   . by_cases q:g=f
     . rw[q];exact(rD f y fs).1
     . refine(rD f y fs).2 g (wi g λz=>hg ?_)
       show (if g=f then some u else mA g)=none
       rw[if_neg q];exact z
def ay{K}(G:GrK K C D)(sub:∀a o,K.lookup a=some o->Y.K.lookup a=some o)(Z:sg Y.h C (.ref D::veM) fI)(O:findIn K (.ref C) f=some none)(ho:PE Y eo ta)(hv:PE Y ev tv)
 (hs:Eu ev (some (.Attribute eo f ap)) pos.line Y.a=pure false:=by rfl):PS Y (.Assign [.Attribute eo f ap] ev pos) (U2 C ta tv f):=by
 intro pins s σ H D' I h;refine plainObj_wpAny_Assign_Attribute (thn (hv pins s σ H _ I h) λu s1 P=>?_) hs;obtain⟨y,H1,I1,W,q1⟩:=P;refine thn (ho pins s1 σ H1 _ I1 q1) λov s2 P=>?_;obtain⟨x,H2,I2,rx,e,ex,N⟩:=P;subst ex;obtain rfl:ov=AO e:=rx;rcases N with⟨R,N⟩|⟨d,fs,R,hd,S,hl,N⟩
 . exact ZS G sub Z O I2 R W λd s' hd Q U=>⟨σ,_,U,N d hd Q⟩
 . exact eI G sub Z O I2 R hd S hl W λs' U=>⟨σ,_,U,N⟩
end
def Ue(U:PE X a ta)(S:PE X b tb)(h2:c2.length<=1000) :
 PE X (.JoinedStr [.FormattedValue a (-1) none p2,.Constant (.str c2) k2 p3,.FormattedValue b (-1) none p4] pos) (tFs ta tb):=by
 intro pins s σ H Q I h;refine JoinedStr_many (Cw (Dy ?_));refine thn (U pins _ σ H _ I h) λu s1 N=>?_;obtain⟨x,H1,Y,r1,i,e1,hi,q1⟩:=N;subst e1;obtain⟨t1,rfl⟩:=r1;have l1:=ua hi;refine Ds (Aw (vD hi) (by decide)) ⟨?_,Cw (Dd ⟨?_,Cw (Dy ?_)⟩)⟩
 . rw[AR,AI,show CT.length=0 from rfl];omega
 . rw[AR,AR,AI,show CT.length=0 from rfl];omega
 refine thn (S pins _ σ H1 _ (Y.tok _) q1) λZ s2 N=>?_;obtain⟨y,H2,W,P,j,e2,O,R⟩:=N;subst e2;obtain⟨t2,rfl⟩:=P;have l2:=ua O;refine Ds (Aw (vD O) (by decide)) ⟨?_,joinParts_nil ⟨.e _,H2,W.tok _,⟨_,rfl⟩,R _⟩ ?_⟩
 . rw[AR,AR,AR,AI,show CT.length=0 from rfl];omega
 . rw[AR,AR,AR,AI,show CT.length=0 from rfl];omega
def ee(body:List Stmt):Prop:=∃(z:Str) (p1 p2 p3 p4 p5 p6 Z Y W x U q1 S R Q r1 P O N:Pos) (k:Nat),z.length<=1000/\body =
 [.Expr (.Call (.Attribute (.Name "HueError" p1) "__init__" p2) [.Name "self" p3,.JoinedStr [.FormattedValue (.Name "many" p4) (-1) none p5,.Constant (.str z) k p6,.FormattedValue (.Name "most" Z) (-1) none Y] W] [] x) U,
  .Assign [.Attribute (.Name "self" q1) "many" S] (.Name "many" R) Q,.Assign [.Attribute (.Name "self" r1) "most" P] (.Name "most" O) N]/\(p2.endLine == x.line)=true
noncomputable def inN:List Str:=["self","many","most"]
def grF(a b:Int):List (Str × V):=rL "most" (.d b) [("many",.d a)]
def spI(C:Addr):Sp:=λvs H Q _=>∃e a b,vs=[.c e,.d a,.d b]/\a.natAbs<2 ^ 64/\b.natAbs<2 ^ 64/\H e=some (exH e C none) /\
 ∀d,H d=none->d≠e->Q .g (upd (upd (upd H d (dcH d [("many",.d a)])) e (exH e C (some d))) d (dcH d (grF a b)))
structure kY(K:Ae)(mg:Str->Option Value)(D f:Addr)(fd:BD):Prop where
 ex:∃(x qual:Str) (st:Stmt),Fun K x qual st f fd/\xt inN inN (zF st)/\Binds K fd inN []/\ee (z9 st) /\
  (zF st).names.lookup ("self":Str)=some .local/\(zF st).names.lookup ("many":Str)=some .local/\(zF st).names.lookup ("most":Str)=some .local/\(zF st).names.lookup ("HueError":Str)=some .globalImplicit
 hu:mg "HueError"=some (.ref D)
def cy{K Kc}(S:kY K mg D f fd)(G:GrK Kc C D)(sub:∀a o,Kc.lookup a=some o->K.lookup a=some o)(cC:sg base C (.ref D::veM) f)
 (hh:A.handled=none) (hdp:A.depth<Cu) (e0:qU P w K mg base A outer s H) (hbt:BindsTo s fd ⟨us,[]⟩ (inN.zip us)) (r:Vals vs us) (hsp:spI C vs H Q E0):codeAny (model P w) A (.call (.ref f) ⟨us,[]⟩) (CR CX0 outer P w H s Q E0) s:=by
 obtain⟨x,qual,st,F,Sc,hb,⟨z,p1,p2,p3,p4,p5,p6,p7,p8,p9,pa,pb,q1,q2,q3,q4,r1,r2,r3,r4,kk,hz,hbd,hln⟩,l0,l1,l2,lg⟩:=S.ex;obtain⟨oc,od,kV,doc,pm,an,cdv,ct,osl,rfl,lk,hcd⟩:=F.a;obtain⟨e,a,b,Z,ha,hb',he,q⟩:=hsp;subst Z;refine qk (CX:=CX0) (E:=E0) (R:=CR CX0 outer P w H s Q E0) (N:=inN) (vs:=[.c e,.d a,.d b]) lk hcd Sc hdp e0 hbt rfl r λs1 I1 _=>?_;rw[rT hh]at I1;have W:∀{p:Pos},PE (yl CX0 P w K mg base inN qual (zF st) f cdv A outer s H E0) (.Name "self" p) (xX 0):=λ{p}=>xQ rfl (.inl l0) (by decide) (by decide)
 have v1:∀{p:Pos},PE (yl CX0 P w K mg base inN qual (zF st) f cdv A outer s H E0) (.Name "many" p) (xX 1):=λ{p}=>xQ rfl (.inl l1) (by decide) (by decide)
 have v2:∀{p:Pos},PE (yl CX0 P w K mg base inN qual (zF st) f cdv A outer s H E0) (.Name "most" p) (xX 2):=λ{p}=>xQ rfl (.inl l2) (by decide) (by decide)
 have ht:PSs (yl CX0 P w K mg base inN qual (zF st) f cdv A outer s H E0) (z9 st) (oM (We (Za C (xW (xX 0) (xW (tFs (xX 1) (xX 2)) tM)))) (oM (U2 C (xX 0) (xX 1) "many") (U2 C (xX 0) (xX 2) "most"))):=by rw[hbd];exact zw (sM (ae G sub lg S.hu (by decide) (yQ W (yQ (Ue v1 v2 hz) yn)) cC (hline:=hln))) (zw (ay G sub cC G.m1 W v1) (we (ay G sub cC G.m2 W v2)))
 unfold iP;refine AN (ht [] s1 (start inN [.c e,.d a,.d b]) H {a:=λ_ H'=>Q .g H',b:=Q} I1 ?_) (λfl s' hs=>?_) λe s' z=>z
 . refine⟨_,rfl,_,rfl,a,rfl,ha,_,rfl,b,rfl,hb',λzz=>⟨e,none,zz,rfl,he,?_⟩⟩
   refine⟨_,rfl,_,rfl,e,rfl,.inl ⟨he,λd hd O=>?_⟩⟩;exact⟨_,rfl,_,rfl,e,rfl,.inr ⟨d,[("many",.d a)],zK,by rw[zG O,zK],O,(by show 1<1000;decide),q d hd O⟩⟩
 . cases fl with
   |ret u=>
    obtain⟨v,U,H',J,rv,Y⟩:=hs;exact⟨v,H',J.S,J.F,J.j,J.B,rv,Y⟩
   |next=>
    obtain⟨U,H',J,Y⟩:=hs;exact⟨.g,H',J.S,J.F,J.j,J.B,rfl,Y⟩
   |brk=>obtain⟨_,_,_,z⟩:=hs;exact Az z
   |cont=>obtain⟨_,_,_,z⟩:=hs;exact Az z
def Inv.re(I:Inv X pins σ H s)(h0:∀b,H b=none->H' b=none)(h1:∀b u,H b=some u->(∀Q,u≠.j Q)->H' b=some u)(N:HOk X.f X.w H' s.heap):Inv X pins σ H' s:=by
 refine⟨I.C,I.S,I.F,⟨I.j.f,I.j.i,λb o e n hx=>h0 b (I.j.d b o e n hx),I.j.c,λb U e=>h1 b _ (I.j.l b U e) nofun,λb o u e=>h1 b _ (I.j.g b o u e) nofun,λb ps e=>?_⟩,I.O,I.M,h0 _ I.J,λx c e=>h0 _ (I.G x c e),λp hp=>?_,N,I.R⟩
 . obtain⟨more,q⟩:=I.j.j b ps e
   exact⟨more,h1 b _ q nofun⟩
 . obtain⟨a,b,c⟩:=I.P p hp
   exact⟨a,h0 _ b,c⟩
def XRG(X:Cx)(C d:Addr)(H:Hp):Prop:=∀(pins:List (Addr × Obj)) (σ:St) (s:Shared),Inv X pins σ H s->∀(h1:Heap) (e t:Addr),(∀b o,s.heap.get? b=some o->h1.get? b=some o)->s.heap.get? e=none->h1.get? e=some (exO C (some d) t)->X.i (.ref e) {s with heap:=h1}
def Xf(X:Cx)(C:Addr)(t:TA):TS:=λ_ σ H=>t σ H λvs H1=>∃a b:Int,vs=[.d a,.d b]/\a.natAbs<2 ^ 64/\b.natAbs<2 ^ 64/\∀d,H1 d=none->XRG X C d (upd H1 d (.m (grF a b)))
def fq(hr:xH k X.A)(hg:Gl X x)(hm:X.d x=some (.ref C))(cC:sg X.h C (.ref D::veM) f)(S:kY X.K X.d D f fd)(G:GrK Kc C D)(sub:∀a o,Kc.lookup a=some o->X.K.lookup a=some o)(hb:Binds X.K fd inN [])(ha:PA X [e1,e2] t)
 (hdb:(x == ("__debug__":Str))=false) (he:AG [e1,e2] X.a=(false,eval e1 X.a)::AG [e2] X.a) (hpl:(backTo cpos (AG [e2] X.a)).any (·.1)=false):PS X (.Raise (some (.Call (.Name x np) [e1,e2] [] cpos)) none pos) (Xf X C t):=by
 intro pins s σ H D' I h;have cC0:=cC;obtain⟨nm,q,N,bs,sn,sub',ab,col,dd,k0,k1,k2,k3,k5,mN,oI,hC,hN,hi,hfI,hfc⟩:=cC;refine sY (C:=C) (nm:=nm) (q:=q) (N:=N) (bs:=bs) (bm:=.ref D::veM) (hdct:=true) (sn:=sn) (sub:=sub') (ab:=ab) (col:=col) (dd:=dd) (k0:=k0) (k1:=k1) (k2:=k2) (k3:=k3) (k5:=k5) (newId:="ValueError.__new__") (Cb.two D).a hr.a ?_ (xO I hg hm ⟨rfl,?_⟩ hdb)
 . rw[he];exact hpl
 . rw[he]
   refine Du ?_;have q:=ha cpos pins s σ H _ I h;rw[he]at q;refine AN q (λus s1 hq=>?_) λ_ _ z=>z;obtain⟨vs,H1,Z,r,a,b,hvs,sa,sb,hx⟩:=hq;subst hvs;have hC1:=Z.bk _ _ hC;refine⟨rfl,hC1,?_⟩;have hul:us.length=2:=r.length.symm;obtain⟨h1,g1,d1,t1,os1⟩:=s1;refine uL (Cb.two D) hC1 (hN.keeps Z.bk) hi (Z.bk _ _ hfI) hfc (λh' e m hz=>?_) (by show us.length<=Ar;rw[hul,AI];decide)
   obtain⟨t0,he0,_,_⟩:=m.there;have I2:=Z.laid (h':=h') (a:=e) (o:=exH e C none) (t':=t1) m.keeps hz (kq (t:=t0) he0);have hHe:H1 e=none:=Z.B.fresh hz;have r2:Vals (V.c e::[V.d a,V.d b]) (AO e::us):=.cons rfl r;have hsp:spI C (V.c e::[V.d a,V.d b]) (upd H1 e (exH e C none)) (λv H2=>v=.g/\∃d,H1 d=none/\d≠e/\H2=upd (upd (upd (upd H1 e (exH e C none)) d (dcH d [("many",.d a)])) e (exH e C (some d))) d (dcH d (grF a b))) E0:=
    ⟨e,a,b,rfl,sa,sb,zK,λd hd Q=>⟨rfl,d,by rw[zG Q]at hd;exact hd,Q,rfl⟩⟩
   have hbt:=hb ⟨h',g1,d1,t1,os1⟩ (AO e::us) I2.kIn (by rw[A9,AH,hul];rfl)
   rw[A9]at hbt;refine Df (CY (cy S G sub cC0 (show (X.A.under (.builtin "type.__call__" ⟨.ref C::us,[]⟩)).handled=none from hr.a) (by have:=hr.c;rw[jJ];omega) (I2.vm.make C us []) hbt r2 hsp) λrr s' R=>?_)
   cases rr with
   |error z=>exact Az R
   |ok fl=>
    cases fl with
    |ret u=>
     obtain⟨v,H',W,rv,ev,d,hd,Q,hH⟩:=I2.after R;subst ev;subst hH;obtain rfl:u=Bg:=rv;refine⟨rfl,e,?_⟩;obtain⟨t3,he3⟩:=n6 (W.B e _ (by rw[zG (A6 Q),zK]))
     obtain⟨mA,hns,hrel,_⟩:=dw (W.B d _ zK);refine⟨t3,some d,rfl,W.bk _ _ hC,he3,?_⟩
     -- the dict is known as such,the exception itself no more
     have U:∀c,c≠e->c≠d->upd (upd (upd (upd H1 e (exH e C none)) d (dcH d [("many",.d a)])) e (exH e C (some d))) d (dcH d (grF a b)) c=H1 c:=λc z1 z2=>by rw[zG z2,zG z1,zG z2,zG z1]
     have O:upd (upd (upd (upd H1 e (exH e C none)) d (dcH d [("many",.d a)])) e (exH e C (some d))) d (dcH d (grF a b)) e=some (exH e C (some d)):=by rw[zG (A6 Q),zK]
     have Y:upd (upd (upd (upd H1 e (exH e C none)) d (dcH d [("many",.d a)])) e (exH e C (some d))) d (dcH d (grF a b)) d=some (dcH d (grF a b)):=zK;generalize upd (upd (upd (upd H1 e (exH e C none)) d (dcH d [("many",.d a)])) e (exH e C (some d))) d (dcH d (grF a b))=H3 at W U O Y;have sm:∀c u,H3 c=some u->(∀φ,u≠.j φ)->upd H1 d (.m (grF a b)) c=some u:=λc u z nx=>by
      have c1:c≠e:=λy=>by rw[y,O]at z;cases z;exact nx _ rfl
      have c2:c≠d:=λy=>by rw[y,Y]at z;cases z;exact nx _ rfl
      rw[zG c2,<-U c c1 c2];exact z
     have I4:=W.re (H':=upd H1 d (.m (grF a b))) (λc z=>?_) sm λc u z=>?_
     . have I5:=I4.turned (it:=e) (h':=hideAll s'.heap [e]) (t':=s'.toks) (λc o z y=>hideAll_get _ y (by simpa using z)) (by rw[zG (A6 Q)];exact hHe) (λz=>by have:=W.J;rw[<-z,O]at this;cases this) (.inr (As Z.sz hz)) (λx c z y=>by have:=W.G x c z;rw[y,O]at this;cases this) λp hp z=>by have:=(W.P p hp).2.1;rw[z,O]at this;cases this
       exact hx d hd pins σ _ I5 s'.heap e t3 (λc o z=>of_hideAll _ z) (hideAll_none _ (.head _)) he3
     . have c1:c≠e:=λy=>by rw[y,O]at z;cases z
       have c2:c≠d:=λy=>by rw[y,Y]at z;cases z
       rw[zG c2,<-U c c1 c2];exact z
     . by_cases c2:c=d
       . subst c2
         rw[zK]at z;cases z;exact⟨mA,hns,hrel⟩
       . rw[zG c2]at z
         have c1:c≠e:=λy=>by rw[y,hHe]at z;cases z
         exact(W.B c u (by rw[U c c1 c2];exact z)).r9 (λ_ _ _ y=>y) (λc' y=>sm c' _ y nofun) λc' xs y=>sm c' _ y nofun
    |next=>exact Az R
    |brk=>exact Az R
    |cont=>exact Az R
def Zv{K}
 (hE:E (.ref C) (some d) H):XRG (yl (CXE P w) P w K mg base N qual scope f cd A outer s₀ H₀ E) C d H:=λ_ _ _ I _ _ _ k n x=>pV I k n x rfl rfl hE
end L2
end
section
namespace L2
open PySem PySem.W PySem.Spec PyProof PyProof.Rows
def pR{K:Ae}:Passes (CXE P w) (qe (CXE P w) P w K mg base N qual scope f cd cl A outer s₀ H₀ E) E:=by
 rintro pins σ H s e s' I ⟨a,cls,dd,H',rfl,fl,hE⟩;obtain⟨g,B,u,hk,U,fr,Q⟩:=fl.h;show wpAny _ _ _ _ _ _;have W:Inv (qe (CXE P w) P w K mg base N qual scope f cd cl A outer s₀ H₀ E) pins σ H' {s with heap:=g}:=I.call (g':=s.gens) (t':=s.toks) (d':=s.drawn) (ch:=[]) u hk I.F λb z=>absurd z (by simp)
 have hL:∀b,(b<s₀.heap.objs.size\/H' b≠none)->b≠s₀.heap.objs.size:=λb x z=>by
  subst z;rcases x with x|x
  . exact Bc _ x
  . exact x W.J
 have O:∀b,b∈frs outer->b∈frs (envX qual scope s₀.heap.objs.size f cd cl::outer):=λb x=>Ah _ x;refine vE (base:=B) (env:=envX qual scope s₀.heap.objs.size f cd cl) (outer:=outer) (L:=s₀.heap.objs.size) I.C.g rfl Q λh' Z Y=>?_;refine⟨a,cls,dd,H',rfl,⟨fl.j.trans I.S,fl.d,λb x=>fl.i b (O b x),g,B,W.j,hk,λb o e n x=>?_,λb o e x=>?_,Z⟩,hE⟩
 . refine U b o e (λhm=>?_) ?_
   . rcases Ap.mp (show b∈s₀.heap.objs.size::frs outer from hm) with z|z
     . exact hL b x z
     . exact n z
   . rcases x with x|x
     . exact .inl (Aw x I.sz)
     . exact .inr x
 . obtain⟨sl,e1⟩:=fr b o e (O b x)
   obtain⟨_,o',e2,hd⟩:=Q.2.2.1.mem (O b x);rw[e1]at e2;cases e2;obtain⟨R,e3⟩:=Y b _ e1 hd;exact⟨R,e3⟩
def Inv.WA(I:Inv X pins σ H s)(f:tQ X.f X.w X.g H s H' a cls dd s'):Inv X pins σ H' s':=by obtain⟨u,hk⟩:=f.un;obtain⟨x,g,d,t,os⟩:=s';obtain rfl:os=s.os:=f.j;exact I.call (h':=x) (g':=g) (d':=d) (t':=t) (ch:=[]) u hk f.d λb z=>absurd z (by simp)
def tQ.obj(f:tQ X.f X.w X.g H s H' a cls dd s')(I:Inv X pins σ H s):∃oe,s'.heap.get? a=some oe/\oe.cls=cls/\H' a=none/\s.heap.get? a=none/\(∃vs,oe.data=.fields vs)/\oe.dict=dd:=by
 obtain⟨g,B,u,hk,O,fr,R⟩:=f.h;obtain⟨f1,f2,f3,oe,vs,_,_,_,W,Y,hd,_⟩:=id R;have N:a ∉ frs X.g:=λhm=>by obtain⟨_,U,e2,Q⟩:=f3.mem hm;rw[W]at e2;cases e2;exact Q vs hd
 refine⟨oe,W,Y.1,?_,?_,⟨vs,hd⟩,Y.2⟩
 . cases q:H' a with
   |none=>rfl
   |some o=>
    have x:=(hk a o q);have:∃ob,g.get? a=some ob:=by
     have hlt:=x.lt;cases qg:g.get? a with
     |some ob=>exact⟨ob,rfl⟩
     |none=>
      exfalso;cases o with
      |b Z=>obtain⟨_,_,_,_,e⟩:=x;rw[qg]at e;cases e
      |c Z=>obtain⟨_,_,_,ob,e,_⟩:=x;rw[qg]at e;cases e
      |i P=>obtain⟨_,_,_,_,ob,_,_,e,_⟩:=x;rw[qg]at e;cases e
      |l P=>obtain⟨_,_,_,_,ob,_,_,e,_⟩:=x;rw[qg]at e;cases e
      |p S n=>obtain⟨ob,_,_,_,e,_⟩:=x;rw[qg]at e;cases e
      |k C dx fs=>obtain⟨_,_,_,e,_⟩:=x;rw[qg]at e;cases e
      |e y=>obtain⟨_,e⟩:=x;rw[qg]at e;cases e
      |m fs=>obtain⟨_,⟨_,_,_,e,_⟩,_⟩:=x;rw[qg]at e;cases e
      |r lo hi=>obtain⟨_,_,_,e⟩:=x;rw[qg]at e;cases e
      |d ob u=>obtain⟨e,_⟩:=x;rw[qg]at e;cases e
      |g ps=>have e:g.get? a=some _:=x;rw[qg]at e;cases e
      |q f y=>have e:g.get? a=some _:=x;rw[qg]at e;cases e
      |j φ=>obtain⟨_,⟨_,e⟩,_⟩:=x;rw[qg]at e;cases e
    obtain⟨ob,e⟩:=this;rw[O a ob e N (.inr (by rw[q];exact nofun))]at f2
    cases f2
 . cases q:s.heap.get? a with
   |none=>rfl
   |some o=>
    obtain⟨U,e⟩:=u.c a o q (by simp)
    rw[O a U e N (.inl (Al q))]at f2;cases f2
def Inv.adopt(I:Inv X [] σ H s)(Y:H a=none)(N:s.heap.get? a=some oe)(hd:oe.data=.fields vs)(h0:X.l.heap.get? a=none)(P:X.n=[]):Inv X [] σ (upd H a (.d oe (.e 0))) s:=by
 have ne:∀b,H b≠none->b≠a:=λb n z=>n (by rw[z];exact Y)
 have U:X.a.locals≠a:=λz=>by obtain⟨m,⟨o,es,Z,e,d,_⟩,_⟩:=I.O;rw[z,N]at e;cases e;rw[hd]at d;cases d
 have W:∀x c,X.a.cells.lookup x=some c->c≠a:=λx c e z=>by obtain⟨v,o,e2,d⟩:=I.M x c e;rw[z,N]at e2;cases e2;rw[hd]at d;cases d
 have ob:∀b u,H b=some u->upd H a (.d oe (.e 0)) b=some u:=λb u e=>by rw[zG (ne b (by rw[e];exact nofun))];exact e
 refine⟨I.C,I.S,I.F,⟨I.j.f,I.j.i,λb o e n hx=>?_,I.j.c,λb Q e=>ob _ _ (I.j.l b Q e),λb o u e=>ob _ _ (I.j.g b o u e),λb ps e=>?_⟩,I.O,I.M,?_,λx c e=>?_,λp hp=>?_,λb u e=>?_,I.R⟩
 . rw[zG (λz=>by rw[z,h0]at e;cases e)];exact I.j.d b o e n hx
 . obtain⟨more,q⟩:=I.j.j b ps e
   exact⟨more,ob _ _ q⟩
 . rw[zG U];exact I.J
 . rw[zG (W x c e)];exact I.G x c e
 . rw[P]at hp;cases hp
 . by_cases z:b=a
   . subst z
     rw[zK]at e;cases e;exact⟨N,oe,N⟩
   . rw[zG z]at e
     exact(I.B b u e).r9 (λ_ _ _ q=>q) (λc q=>ob _ _ q) λc Q q=>ob _ _ q
def Inv.gone(I:Inv X [] σ H s)(Y:h'.Ns X.a.locals m')(hs:Heap.SameBut X.a.locals s.heap h')(Q:X.n=[]):Inv X [] (An X.N.length none) H {s with heap:=h',toks:=tk}:=by
 have O:∀b o,X.l.heap.get? b=some o->b≠X.a.locals:=λb o e=>AL (Aw (Al e) I.C.d);refine⟨I.C,I.S,I.F,⟨λb o e n R hx=>?_,λb o e n R hx=>?_,I.j.d,λb o e hx=>?_,I.j.l,I.j.g,I.j.j⟩,⟨m',Y,λi x v e1 e2 e3=>?_⟩,λy c e=>?_,I.J,I.G,λp hp=>?_,λb u e=>?_,by simp⟩
 . exact(hs.2 b (O b o e)).trans (I.j.f b o e n R hx)
 . obtain⟨U,e1⟩:=I.j.i b o e n R hx
   exact⟨U,(hs.2 b (O b o e)).trans e1⟩
 . obtain⟨W,e1⟩:=I.j.c b o e hx
   exact⟨W,(hs.2 b (O b o e)).trans e1⟩
 . rw[D4]at e2
   split at e2<;>cases e2
 . obtain⟨v,z⟩:=I.M y c e
   exact⟨v,z.sameBut hs (I.cne y c e)⟩
 . rw[Q]at hp;cases hp
 . refine(I.B b u e).r9 (λc v P q=>(hs.2 c ?_).trans q) (λ_ q=>q) λ_ _ q=>q
   rintro rfl;have z:=I.J;rcases P with rfl|P
   . rw[z]at e;cases e
   . rw[z]at P;cases P
def g8
 (h:wpAny (model prog w) (A.mark (some (.ref e))) (eval t env) (λc x=>Looks (model prog w) x.heap (excMatches (.ref e) c) true /\
  wpAny (model prog w) (A.mark (some (.ref e))) (Ez (.ref e) none) (λ_ R=>
   wpAny (model prog w) (A.mark (some (.ref e))) (storeName env n (.ref e)) (λ_ P=>
    wpAny (model prog w) (A.mark (some (.ref e))) (execs (b₀::suite) env)
     (λf O=>wpAny (model prog w) A (do Dk env n .none;unbindBehindTheSuite env n pos) (λ_ N=>Q f N) E O)
     (AsSuiteRaised (model prog w) (A.mark (some (.ref e))) env n pos (notedBy (model prog w) (A.mark (some (.ref e))) env (GG (model prog w) A env E))) P) (notedBy (model prog w) (A.mark (some (.ref e))) env (GG (model prog w) A env E)) R) (notedBy (model prog w) (A.mark (some (.ref e))) env (GG (model prog w) A env E)) x) (notedBy (model prog w) (A.mark (some (.ref e))) env (GG (model prog w) A env E)) s) :
 wpAny (model prog w) A (handleBy (.ref e) env (.ExceptHandler (some t) (some n) (b₀::suite) pos::rest)) Q E s:=by
 refine wpAny_handleBy_cons (codeAny_handlers_test (AN h (λc x S=>?_) λ_ _ y=>y)) (by intro q;cases q)
 obtain⟨L,hk⟩:=S;exact L.here (codeAny_handlers_suite_as hk)
def tU(Kc K:Ae):Prop:=∀a o,Kc.lookup a=some o->K.lookup a=some o
def tU.inn{Kc K}(s:tU Kc K)(x:K.In h):Kc.In h:=λa o e=>x a o (s a o e)
def XC(X:Cx)(EE:Value->Option Addr->Hp->Prop)(e:Value)(s':Shared):Prop:=∃(a:Addr) (cls:Value) (dd:Option Addr) (x:St) (H2:Hp) (s2:Shared) (H':Hp),e=.ref a/\Inv X [] x H2 s2/\tQ X.f X.w X.g H2 s2 H' a cls dd s'/\EE cls dd H'
def pB(e:h.get? a=some o)(x:o.cls=cls):Looks M h (typeOf (.ref a)) cls:=x▸(Looks.ld e).andThen .now
def qp{g B h h':Heap}(fr:∀b o,g.get? b=some o->b∈frs l->∃x,h.get? b=some {o with slots:=x})(Q:h.FunFrames B l)(P:h.UpToSlots h'):∀b o,g.get? b=some o->b∈frs l->∃x,h'.get? b=some {o with slots:=x}:=λb o e O=>by obtain⟨x,e1⟩:=fr b o e O;obtain⟨_,R,e2,hd⟩:=Q.mem O;rw[e1]at e2;cases e2;obtain⟨N,e3⟩:=P b _ e1 hd;exact⟨N,e3⟩
def Zj(I:Inv X [] σ H s)(hpn:X.n=[])(hxn:X.m=[])(hN:X.N.Nodup)(hl:X.a.scope.names.lookup n=some .local)(hi:X.N[ie]?=some n)
 (P:X.g=X.a::X.k) (hfr:X.a.frame=some X.a.locals) (hg:Gl X hx) (hdb:(hx == ("__debug__":Str))=false) (hm:X.d hx=some (.ref hue)) (hb:PSs (X.wa (XC X EE)) body tb) (hq:tb D σ H)
 (hex:∀cls dd H',EE cls dd H'->(∃Kc,tU Kc X.K/\exmOne Kc cls (.ref hue)=some true)/\∀a oe (Q:St),H' a=none->oe.cls=cls->oe.dict=dd->(∀c,oe.data≠.cls c)->Q.length=X.N.length->ts {a:=λ_ _=>False,b:=D.b} (Q.set ie (some (.c a))) (upd H' a (.d oe (.e 0))))
 (hs:∀a:Addr,PSs (X.loud (X.A.mark (some (.ref a)))).nox (b₀::suite) ts) :
 wpAny (model X.f X.w) X.A (exec (.Try body [.ExceptHandler (some (.Name hx np)) (some n) (b₀::suite) hpos] [] [] pos) X.a) (SP X [] D) X.i s:=by
 refine wpAny_Try_except (AN (hb [] s σ H D (I.wa _) hq) (λf s1 U=>?_) λe s1 hx'=>?_)
 . have q:=U.xB
   cases f with
   |next=>
    obtain⟨σ1,H1,I1,q1⟩:=q;exact qR [] s1 σ1 H1 D I1 q1
   |brk=>exact q
   |cont=>exact q
   |ret u=>exact q
 . obtain⟨a,cls,dd,Q,H2,s2,H',rfl,Z,f,hE⟩:=hx'
   obtain⟨S,hx2⟩:=hex cls dd H' hE;obtain⟨g,B,u,hk,cov,fr,Y⟩:=f.h;have fl0:=Y;rw[P]at Y;have hA:X.A.frames=some (X.a::X.k):=by rw[<-P];exact I.C.g
   refine qB hA hfr Y λh4 W sm4=>?_;refine lD W λh5 fly5 sm5=>?_;have x:Heap.wJ B X.g a cls dd h5:=by rw[P];exact fly5
   have f5:tQ X.f X.w X.g H2 s2 H' a cls dd {s1 with heap:=h5}:=⟨f.j,f.d,f.i,g,B,u,hk,cov,qp fr fl0.2.2.1 (sm4.trans sm5),x⟩
   have I5:=(Z.WA f5).loud (A':=X.A.mark (some (.ref a))) (by rw[P];exact hA)
   refine g8 (xO (X:=X.loud (X.A.mark (some (.ref a)))) I5 hg hm ⟨?_,?_⟩ hdb)
   . obtain⟨oe,e1,e2,_⟩:=f5.obj Z
     obtain⟨Kc,sub,S⟩:=S;exact exm_one (sub.inn I5.kIn) (pB e1 e2) S
   . refine mI x λh6 fly6 sm6=>?_
     have f6:tQ X.f X.w X.g H2 s2 H' a cls dd {s1 with heap:=h6}:=⟨f.j,f.d,f.i,g,B,u,hk,cov,qp (qp fr fl0.2.2.1 (sm4.trans sm5)) x.2.2.1 sm6,fly6⟩
     obtain⟨oe,e1,e2,e3,e4,⟨vs,e5⟩,e6⟩:=f6.obj Z;have I6:=Z.WA f6;have h0:X.l.heap.get? a=none:=by
      cases q:X.l.heap.get? a with
      |none=>rfl
      |some o=>
       have hne:a ∉ X.m:=by rw[hxn];exact nofun
       obtain⟨o',q'⟩:=Z.j.c a o q hne;rw[e4]at q';cases q'
     have I7:=(I6.adopt e3 e1 e5 h0 hpn).loud (A':=X.A.mark (some (.ref a))) (by rw[P];exact hA)
     refine wB (X:=X.loud (X.A.mark (some (.ref a)))) (v:=.c a) I7 hN hi (.inl hl) rfl (λs8 I8=>?_) (.inr hl);refine AN ((hs a) [] s8 _ _ {a:=λ_ _=>False,b:=D.b} (I8.wa _) (hx2 a oe Q e3 e2 e6 (λc z=>by rw[e5]at z;cases z) Z.R)) (λfl s9 U=>?_) λ_ _ z=>Az z
     have q:=U.xB;cases fl with
     |next=>obtain⟨_,_,_,z⟩:=q;exact Az z
     |brk=>obtain⟨_,_,_,z⟩:=q;exact Az z
     |cont=>obtain⟨_,_,_,z⟩:=q;exact Az z
     |ret u=>
      obtain⟨v,σ',H3,I9,rv,q9⟩:=q;have I10:Inv X [] σ' H3 s9:=I9.calm I.C;obtain⟨m,hn,_⟩:=I10.O;exact wpAny_nameGoes hl hn (by rw[I.C.a];rfl) λh' m' hn' hs'=>⟨v,_,H3,I10.gone hn' hs' hpn,rv,q9⟩
end L2
end
section
namespace L2
open PySem PySem.W PySem.Spec PyProof PyProof.Rows
open Sem (wp)
structure vq(K:Ae)(C:Addr):Prop where
 ga:findIn K (.ref C) "__getattribute__"=some (some (.builtin "BaseException.__getattribute__"))
 gt:findIn K (.ref C) "__getattr__"=some none
 cl:findIn K (.ref C) "__class__"=some (some (.builtin "object.__class__"))
 be:subIn K (.ref C) (.type "BaseException")=some true
 ob:subIn K (.ref C) (.type "object")=some true
 it:(clsIn K C).isSome=true
section
variable {prog:Program}{w:World}{A:Around}{E:Value->Shared->Prop}{h:Heap}{g:Array GenState}{d:Drawn}{t:Nat}{os:OsState}{a C:Addr}{o:Obj}{K:Ae}
def iL(F:vq K C)(X:K.In h)(hx:h.get? a=some o)(N:o.cls=.ref C)(P:R (.ok (.ret (.ref C))) ⟨h,g,d,t,os⟩) :
 codeAny (model prog w) A (.call (.builtin "getset_descriptor.__get__") ⟨[.builtin "object.__class__",.ref a,.ref C],[]⟩) R ⟨h,g,d,t,os⟩:=by
 have x:(⟨h,g,d,t,os⟩:Shared).TypeIs (.builtin "object.__class__") "getset_descriptor":=Dt;have O:Looks (model prog w) h (isSubtype (.ref C) (.type (".".intercalate ("object.__class__".cutAt '.').dropLast))) true:=by rw[PySem.F.owner_object_class];exact looks_subIn X F.ob
 refine Cp EW.plain PySem.F.entry_gs_get (EW.check _ _ _ _ _ _ _ _ x (PySem.F.args_gs_get _ _ _) ?_)
 repeat (any_goals (first|assumption|(with_reducible refine AM hx ?_;rw[N])|with_reducible refine O.at ?_|wp_step))
 refine⟨Di _ (by decide +kernel),codeAny_builtin PySem.F.entry_object_class ?_⟩
 repeat (any_goals (first|assumption|(with_reducible refine AM hx ?_;rw[N])|wp_step))
def lF(F:vq K C)(X:K.In h)(hx:h.get? a=some o)(x:o.cls=.ref C)(P:Q (.done (.ret (.ref C))) ⟨h,g,d,t,os⟩) :
 wpAny (model prog w) A (Builtin.«object.__getattribute__» ⟨[.ref a,.str "__class__" tk],[]⟩) Q E ⟨h,g,d,t,os⟩:=by
 have N:(⟨h,g,d,t,os⟩:Shared).TypeIs (.builtin "object.__class__") "getset_descriptor":=Dt;have f5:=Dt;have f6:=EW.lookup;have f7:=PySem.F.slot_gs_set.lookup;have O:=DV (M:=model prog w) X F.cl
 repeat (any_goals (first|assumption|(with_reducible refine AM hx ?_;rw[x])|with_reducible refine O.at ?_|wp_step))
 refine iL F X hx x ?_
 repeat (any_goals (first|assumption|wp_step))
def se(F:vq K C)(X:K.In h)(hx:h.get? a=some o)(O:o.cls=.ref C)(N:Q () ⟨h,g,d,t,os⟩):wpAny M A (Ce "BaseException.__getattribute__" ⟨[.ref a,nameV],[]⟩) Q E ⟨h,g,d,t,os⟩:=by
 have hk:builtinKind "BaseException.__getattribute__"=some .slot:=by decide +kernel
 have x:splitId "BaseException.__getattribute__"=some ("BaseException","__getattribute__"):=by decide +kernel
 have P:=looks_subIn (M:=M) X F.be;have R:=PySem.F.args_bexc_ga (.ref a) nameV;simp only[Ce,hk,x];refine xd ?_
 . unfold GF
   repeat (first|(with_reducible refine AM hx ?_;rw[O])|with_reducible refine P.at ?_|wp_step)
   exact N
def kX(F:vq K C)(X:K.In h)(hx:h.get? a=some o)(x:o.cls=.ref C)(N:R (.ok (.ret (.ref C))) ⟨h,g,d,t,os⟩) :
 codeAny (model prog w) A (.call (.builtin "BaseException.__getattribute__") ⟨[.ref a,.str "__class__" tk],[]⟩) R ⟨h,g,d,t,os⟩:=
 Cp CJ.ga.plain PySem.F.entry_bexc_ga (se F X hx x (lF F X hx x N))
def eT{fill expr}(F:vq K C)(X:K.In h)(hx:h.get? a=some o)(N:o.cls=.ref C)(S:Q (.ref C) ⟨h,g,d,t,os⟩) :
 wpAny (model prog w) A (getAttrBy (.ref a) (.str "__class__" tk) fill expr) Q E ⟨h,g,d,t,os⟩:=by
 have f3:=CJ.ga.bind (.ref a);have P:(expr&&GS (Cc "BaseException.__getattribute__"))=false:=by cases expr<;>rfl
 have x:(Cc "BaseException.__getattribute__" == Cc "object.__getattribute__")=false:=by decide +kernel
 have O:(GS (AO C)&&Cc "BaseException.__getattribute__" == Cc "object.__getattribute__")=false:=by rw[x];rfl
 have R:=DV (M:=model prog w) X F.ga;have L2:=DV (M:=model prog w) X F.gt
 repeat (any_goals (first|assumption|(with_reducible refine AM hx ?_;rw[N])|with_reducible refine R.at ?_|with_reducible refine L2.at ?_|wp_step))
 refine kX F X hx N ?_
 repeat (any_goals (first|assumption|wp_step))
def kW(F:vq K C)(X:K.In h)(hx:h.get? a=some o)(x:o.cls=.ref C)(N:Q (some (.ref C)) ⟨h,g,d,t+1,os⟩):wpAny (model prog w) A (getAttr? (.ref a) "__class__") Q E ⟨h,g,d,t,os⟩:=by
 unfold getAttr? getAttrBy?
 repeat (any_goals (first|assumption|with_reducible apply eT F X hx x|wp_step))
def bX(F:vq K C)(N:o.cls=.ref C):KitX K (.ref a) (.ref C) (λh=>h.get? a=some o) where
 ty:=λM h _ e=>pB e N
 it:=λM h X _=>by
  have z:=F.it;unfold clsIn at z;split at z
  . rename_i c' d' cd' sl' ho
    intro A' P R s' k q;unfold isType loadHead;exact xd (wpAny_loadPart (k _ _ (X _ _ ho)) (Aj q))
  . cases z
 ne:=λh tp dd its n O X x=>by
  have z:=F.it;refine Bool.eq_false_iff.mpr λq=>?_;have e:C=tp:=AO.inj (beq_iff_eq.mp q);subst e;unfold clsIn at z;split at z
  . rename_i c' d' cd' sl' ho
    have z:=(X _ _ ho).symm.trans x;cases z
  . cases z
 ca:=λ{prog w A E Q s} X e k=>by obtain⟨h,g,d,t,os⟩:=s;exact kW F X e N k
end
end L2
end
section
namespace L2
open PySem PySem.W PySem.Spec PySem.Calls PyProof PyProof.Rows
open SeqAt
def me(K:Ae):V->List V->Hp->VK->Prop:=λx vs H Q=>∃t N y j,x=.c t/\vs=[y]/\SqL K H t N/\vd y=true/\N.all vd=true/\N.findIdx? (λz=>eqV z y)=some j/\Q (.d (j:Nat)) H
def Rn(K:Ae):List V->Hp->VK->Prop:=λO H Q=>∃(a:Addr) (oe:Obj) (C:Addr) (x:V) (N:Value) (b:Bool) (Kc:Ae),O=[.c a,x]/\H a=some (.d oe (.e 0))/\oe.cls=.ref C/\tU Kc K/\vq Kc C/\(∀u,RelV x u->u=N)/\kitOne Kc (.ref C) N=some b/\Q (.f b) H
def fP:MtR X "list.index" (me X.K):=by
 intro pins s σ H x xs v us Q I rx rs h;obtain⟨t,ys,y,j,rfl,rfl,ht,fy,fs,hx,q⟩:=h;cases rx;obtain⟨u,rfl,ru⟩:=vals1 rs;obtain⟨its,r,p1,hz⟩:=I.list ht;obtain⟨⟨cls,dd,data,Z⟩,U,W,n,hd⟩:=id p1.isList;simp only at W hd;subst W hd;have N:=cP (x:=y) r fs;have at_:∀(i:Nat) (h1:i<its.length) (Y:i<ys.length),eqU y its[i]=eqV ys[i] y:=λi h1 Y=>by
  have:=congrArg (·[i]?) N
  simp only[AE,Ab h1,Ab Y,C9,D8]at this;exact this
 have hl:=r.length;obtain⟨hj,S,P⟩:=Ee.mp hx;have O:its.length<=Ar:=by first|exact hz|(rw[<-hl];exact hz)|simpa using hz
 rw[AI]at O;refine Ck F.slot_list_index ⟨_,U,rfl⟩ F.entry_list_index (F.args_list_index_2 _ _) (list_indexAt t its.toArray n dd Z u (eqU y) j (by rw[Ai];omega) ⋯ ?_ λm N R=>?_) ⟨U,λw hw=>pD ru fy r fs w (by simpa using hw),?_⟩
 . rw[List.getElem_toArray,at_ j ⋯ hj];exact S
 . rw[Ai]at N
   rw[List.getElem_toArray,at_ m N ⋯]
   have:=P m R;simpa using this
 . exact⟨.d _,H,I.tok _,⟨s.toks,rfl⟩,q⟩
def fj(P:PE X o to)(Q:PE X e te)(x:Ca o "index" X.a (eval o X.a)=eval o X.a:=by rfl)(N:noStar e=true:=by rfl)(hline:(apos.endLine == cpos.line)=true:=by rfl) :
 PE X (.Call (.Attribute o "index" apos) [e] [] cpos) (tBM X.K "list" (me X.K) to (xW te tM)):=by
 have O:AG [e] X.a=(false,eval e X.a)::AG [] X.a:=zv N;refine gE C8 PySem.F.slot_list_index PySem.F.type_list_index fP P (pac Q yn N) x ?_ hline O rfl;rw[O];rfl
def lL:yI X (.builtin "isinstance") (Rn X.K):=by
 intro pins s σ H vs us Q I r h;obtain⟨a,oe,C,R,S,b,Kc,rfl,P,O,sub,F,hd,hk,q⟩:=h;cases r with
 |cons r1 x=>
  cases x with
  |cons x N=>
   cases N;cases r1;rw[hd _ x];exact kia_one (bX F O) (sub.inn I.kIn) (I.B a _ P).1 hk (λz=>nomatch z) λtk=>⟨.f b,H,I.tok tk,rfl,q⟩
def Ul(O:Gl X c)(N:X.d c=some (.ref D))(x:(c == ("__debug__":Str))=false):PE X (.Name c p) (tC (.c D)):=λpins s σ H Q I h=>xO I O N ⟨.c D,H,I,rfl,h⟩ x
def Ud(R:Gl X c)(P:X.d c=none)(N:Ci c=some (.type n))(O:c≠"__name__")(x:(c == ("__debug__":Str))=false):PE X (.Name c p) (tC (.k n)):=λpins s σ H Q I h=>q0 I R P N ⟨.k n,H,I,rfl,h⟩ O x
end L2
end
section
namespace L2
open PySem PySem.W PySem.Spec PySem.Calls PyProof PyProof.Rows
def vx(sc:Scope):List Str->List Expr->Bool
 |[],es=>es.isEmpty
 |c::cs,es=>M.lc es λe es=>(M.eCN e λf N=>M.lc N λa ys=>M.l1 ys λb=>M.eName a λy _=>M.eName b λx _=>decide (f="isinstance")&&decide (y="_law_e")&&decide (x=c)&&decide (sc.names.lookup c=some .globalImplicit)&&!(c == ("__debug__":Str)))&&vx sc cs es
def sq:List Str->List Expr->Bool
 |[],es=>es.isEmpty
 |w::ws,es=>M.lc es λe es=>(M.YD e λc _ _=>decide (c=.str w))&&sq ws es
noncomputable def adr(mg:Str->Option Value)(c:Str):Addr:=match mg c with|some (.ref D)=>D|_=>0
def dE(h:mg c=some (.ref D)):adr mg c=D:=by unfold adr;rw[h]
def Zb(K:Ae)(x:V):TE:=tCB (Rn K) (xW (xX 0) (xW (tC x) tM))
def j6(K:Ae)(mg:Str->Option Value):List Str->TA
 |[]=>tM
 |c::cs=>xW (Zb K (.c (adr mg c))) (j6 K mg cs)
def kP:List Str->TA
 |[]=>tM
 |w::ws=>xW (tC (.e w)) (kP ws)
structure KB(X:Cx)(sc:Scope):Prop where
 d:X.a.scope=sc
 l:X.N.Nodup
 n0:X.N[0]?=some ("_law_e":Str)
 j:X.N[1]?=some ("_law_marks":Str)
 n2:X.N[2]?=some ("_law_words":Str)
 l0:sc.names.lookup ("_law_e":Str)=some .local
 g:sc.names.lookup ("_law_marks":Str)=some .local
 i:sc.names.lookup ("_law_words":Str)=some .local
 gi:sc.names.lookup ("isinstance":Str)=some .globalImplicit
 gv:sc.names.lookup ("ValueError":Str)=some .globalImplicit
 mi:X.d "isinstance"=none
 mv:X.d "ValueError"=none
structure KS(K Kc:Ae)(C a:Addr)(oe:Obj)(H0:Hp)(σ:St)(H:Hp):Prop where
 c:σ[0]?=some (some (.c a))
 d:H a=some (.d oe (.e 0))
 e:oe.cls=.ref C
 F:vq Kc C
 b:tU Kc K
 f:wK H0 H
def KB.gl(B:KB X sc)(h:sc.names.lookup x=some .globalImplicit):Gl X x:=by show X.a.scope.names.lookup x=_;rw[B.d];exact h
def KB.vis(B:KB X sc)(h:sc.names.lookup x=some .local):Vis X.a.scope x:=by rw[B.d];exact .inl h
def KB.RX(B:KB X sc):PE X (.Name "_law_e" p) (xX 0):=xQ B.n0 (B.vis B.l0) (by decide) (by decide)
def KB.Uh(B:KB X sc):PE X (.Name "_law_marks" p) (xX 1):=xQ B.j (B.vis B.g) (by decide) (by decide)
def KB.Qc(B:KB X sc):PE X (.Name "_law_words" p) (xX 2):=xQ B.n2 (B.vis B.i) (by decide) (by decide)
def KB.RZ(B:KB X sc)(O:sc.names.lookup c=some .globalImplicit)(x:(c == ("__debug__":Str))=false)(N:X.d c=some (.ref D)):PE X (.Call (.Name "isinstance" p1) [.Name "_law_e" p2,.Name c p3] [] p4) (Zb X.K (.c D)):=
 sJ lL (B.gl B.gi) B.mi boot_isinstance (yQ B.RX (yQ (Ul (B.gl O) N x) yn))
def KB.Ug(B:KB X sc):PE X (.Call (.Name "isinstance" p1) [.Name "_law_e" p2,.Name "ValueError" p3] [] p4) (Zb X.K (.k "ValueError")):=
 sJ lL (B.gl B.gi) B.mi boot_isinstance (yQ B.RX (yQ (Ud (B.gl B.gv) B.mv (by first|rfl|decide +kernel) (by decide) (by decide)) yn))
theorem KB.isl(B:KB X sc):∀{cs} {es},vx sc cs es=true->(∀c∈cs,∃D,X.d c=some (.ref D))->PA X es (j6 X.K X.d cs)
 |[],es,h,_=>by cases A0.mp h;exact yn
 |c::cs,es,h,hm=>by replace h:=M.yR h;obtain⟨e,es,rfl,h⟩:=h;obtain⟨h0,O⟩:=M.zM h;replace h0:=M.yz h0;obtain⟨f,p1,S,p4,rfl,h0⟩:=h0;replace h0:=M.V8 h0;obtain⟨a,b,rfl,h0⟩:=h0;replace h0:=M.yK h0;obtain⟨y,p2,rfl,h0⟩:=h0;replace h0:=M.yK h0;obtain⟨x,p3,rfl,h0⟩:=h0;clear h;simp only[cf,decide_eq_true_eq,AK]at h0;obtain⟨⟨⟨⟨rfl,rfl⟩,rfl⟩,Q⟩,P⟩:=h0;obtain⟨D,hD⟩:=hm _ (Ax ..);refine yQ ?_ (KB.isl B O λR N=>hm R (Ah _ N));rw[dE hD];exact B.RZ Q P hD
theorem TC:∀{ws} {es},sq ws es=true->PA X es (kP ws)
 |[],es,h=>by cases A0.mp h;exact yn
 |w::ws,es,h=>by replace h:=M.yR h;obtain⟨e,es,rfl,h⟩:=h;obtain⟨h0,x⟩:=M.zM h;obtain⟨c,k,p,rfl,h1⟩:=M.qf h0;obtain rfl:=of_decide_eq_true h1;exact yQ rJ (TC x)
def cz{K:Ae}(S:KS K Kc C a oe H0 σ H)(hd:∀u,RelV dv u->u=du)(hk:kitOne Kc (.ref C) du=some b)(q:Q (.f b) H):Zb K dv σ H Q:=
 ⟨_,S.c,a,oe,C,dv,du,b,Kc,rfl,S.d,S.e,S.b,S.F,hd,hk,q⟩
theorem mE{K:Ae}(S:KS K Kc C a oe H0 σ H)(b:Str->Bool):∀{cs} {Q},(∀c∈cs,kitOne Kc (.ref C) (.ref (adr mg c))=some (b c))->Q (cs.map λc=>.f (b c)) H->j6 K mg cs σ H Q
 |[],_,_,q=>q
 |c::cs,Q,hk,q=>cz S (λu z=>z) (hk c (Ax ..)) (mE S b (λN x=>hk N (Ah _ x)) q)
theorem pj:∀{ws} {Q},Q (ws.map V.e) H->kP ws σ H Q
 |[],_,q=>q
 |w::ws,Q,q=>pj (ws:=ws) q
def xV(h:H p=none):wK H (upd H p o):=λb u e=>by rw[zG (zN e h)];exact e
def KS.new{K:Ae}(S:KS K Kc C a oe H0 σ H)(h:H p=none):KS K Kc C a oe H0 σ (upd H p o):=⟨S.c,xV h _ _ S.d,S.e,S.F,S.b,S.f.trans (xV h)⟩
def KS.put{K:Ae}(S:KS K Kc C a oe H0 σ H):KS K Kc C a oe H0 (σ.set (i+1) (some v)) H:=⟨by rw[Bq ⋯];exact S.c,S.d,S.e,S.F,S.b,S.f⟩
def Yo{K:Ae}{b:Str->Bool}(S:KS K Kc C a oe H0 σ H)(N:3<=σ.length)(hz:cs.length<=1000)(hk:∀c∈cs,kitOne Kc (.ref C) (.ref (adr mg c))=some (b c))
 (q:∀p x H',KS K Kc C a oe H0 x H'->x.length=σ.length->x[1]?=some (some (.c p))->H' p=some (.b (cs.map λc=>.f (b c)))->D.a x H'):sV (j7 (j6 K mg cs)) (wH 1) D σ H:=
 mE S b hk ⟨by rw[Ac,AI];omega,λp hp=>q p _ _ (S.new hp).put (by simp) (by rw[AQ ⋯]) zK⟩
def mM{K:Ae}{b:Str->Bool}(S:KS K Kc C a oe H0 σ H)(P:3<=σ.length)(h1:σ[1]?=some (some (.c p0)))(O:H p0=some (.b (ds.map λc=>.f (b c))))(hz:ds.length+cs.length<=1000)(hk:∀c∈cs,kitOne Kc (.ref C) (.ref (adr mg c))=some (b c))
 (q:∀p x H',KS K Kc C a oe H0 x H'->x.length=σ.length->x[1]?=some (some (.c p))->H' p=some (.b ((ds++cs).map λc=>.f (b c)))->D.a x H'):sV (tOp XN (xX 1) (j7 (j6 K mg cs))) (wH 1) D σ H:=by
 refine⟨_,h1,mE S b hk ⟨by rw[Ac,AI];omega,λp1 N=>⟨p0,p1,_,_,rfl,rfl,by rw[zG (zN O N)];exact O,zK,by rw[Ac,Ac,AI];omega,λp hp=>?_⟩⟩⟩
 refine q p _ _ ((S.new N).new hp).put (by simp) (by rw[AQ ⋯]) ?_
 rw[zK,Bs]
noncomputable def ans(pre:Option Str)(w:Str):Str:=match pre with|none=>w|some x=>x++w
def Rk:R2:=λx y H Q=>∃i j,x=.e i/\y=.e j/\i.length+j.length<=Ar/\Q (.e (i++j)) H
def gM(K:Ae)(ws2:List Str):TE:=tOp (Uy K) (tOp XN (xX 2) (j7 (kP ws2))) (tBM K "list" (me K) (xX 1) (xW (tC (.f true)) tM))
def j8(K:Ae)(pre:Option Str)(ws2:List Str):TE:=match pre with
 |none=>gM K ws2
 |some x=>tOp Rk (tC (.e x)) (gM K ws2)
def tMk(K:Ae)(mg:Str->Option Value)(cs:List Str):TS:=sV (tOp XN (xX 1) (j7 (j6 K mg cs))) (wH 1)
def Wf(K:Ae)(mg:Str->Option Value)(P O N x ws1 ws2:List Str)(pre:Option Str)(odd:Str):TS:=
 oM (sV (j7 (j6 K mg P)) (wH 1)) (oM (tMk K mg O) (oM (tMk K mg N) (oM (tMk K mg x)
  (oM (R6 (tOr (R7 (tB (Zb K (.k "ValueError")))) (gN (tOp rNe (tBM K "list" (jm K false) (xX 1) (xW (tC (.f true)) tM)) (tC (.d 1))))) (eM (tC (.e odd))) Wg)
   (oM (sV (j7 (kP ws1)) (wH 2)) (eM (j8 K pre ws2)))))))
def KB.pick(B:KB X sc){l2}(x:sq ws2 l2=true)(hline:(ap.endLine == cp.line)=true) :
 PE X (.Subscript (.BinOp (.Name "_law_words" p1) .Add (.List l2 p2) p3) (.Call (.Attribute (.Name "_law_marks" p4) "index" ap) [.Constant (.bool true) k p5] [] cp) p6) (gM X.K ws2):=
 WU hV (l9 jX B.Qc (rH (TC x))) (fj B.Uh aS (hline:=hline)) (λ_ _=>rfl)
def KB.mks(B:KB X sc){es}(h:vx sc cs es=true)(x:∀c∈cs,∃D,X.d c=some (.ref D)) :
 PS X (.Assign [.Name "_law_marks" p1] (.BinOp (.Name "_law_marks" p2) .Add (.List es p3) p4) p5) (tMk X.K X.d cs):=
 vT B.l B.j (by rw[B.d];exact .inl B.g) (l9 jX B.Uh (rH (B.isl h x))) (hf:=.inr (by rw[B.d];exact B.g))
def bV(B:KB X sc)
 (h1:vx sc cs1 e1=true) (U:vx sc cs2 e2=true) (S:vx sc cs3 e3=true) (R:vx sc cs4 e4=true) (x:∀c∈cs1++cs2++cs3++cs4,∃D,X.d c=some (.ref D)) (N:sq ws1 l1=true) (hline:(ap.endLine == cp.line)=true) (Q:PE X r (j8 X.K pre ws2)) :
 PSs X [.Assign [.Name "_law_marks" a1] (.List e1 a2) a3,.Assign [.Name "_law_marks" b1] (.BinOp (.Name "_law_marks" b2) .Add (.List e2 b3) b4) b5,.Assign [.Name "_law_marks" c1] (.BinOp (.Name "_law_marks" c2) .Add (.List e3 c3) c4) c5,
  .Assign [.Name "_law_marks" d1] (.BinOp (.Name "_law_marks" d2) .Add (.List e4 d3) d4) d5,
  .If (.BoolOp .Or [.UnaryOp .Not (.Call (.Name "isinstance" f1) [.Name "_law_e" f2,.Name "ValueError" f3] [] f4) f5,.Compare (.Call (.Attribute (.Name "_law_marks" f6) "count" ap) [.Constant (.bool true) k1 f7] [] cp) [.NotEq] [.Constant (.int 1) k2 f8] f9] fa) [.Return (some (.Constant (.str odd) k3 fb)) fc] [] fd,
  .Assign [.Name "_law_words" g1] (.List l1 g2) g3,.Return (some r) r1] (Wf X.K X.d cs1 cs2 cs3 cs4 ws1 ws2 pre odd):=by
 have m1:∀c∈cs1,∃D,X.d c=some (.ref D):=λc h=>x c (by simp[h])
 have m2:∀c∈cs2,∃D,X.d c=some (.ref D):=λc h=>x c (by simp[h])
 have P:∀c∈cs3,∃D,X.d c=some (.ref D):=λc h=>x c (by simp[h])
 have O:∀c∈cs4,∃D,X.d c=some (.ref D):=λc h=>x c (by simp[h])
 refine zw (vT B.l B.j (by rw[B.d];exact .inl B.g) (rH (B.isl h1 m1)) (hf:=.inr (by rw[B.d];exact B.g))) (zw (B.mks U m2) (zw (B.mks S P) (zw (B.mks R O) (zw ?_ (zw
  (vT B.l B.n2 (by rw[B.d];exact .inl B.i) (rH (TC N)) (hf:=.inr (by rw[B.d];exact B.i))) (we (wm Q)))))))
 exact nJ (Rh (jj (Uv B.Ug)) (Uw (qS WN (fi B.Uh aS (hline:=hline)) af (pJ _ (by decide) (by decide))))) (we (wm rJ)) qR
def iV{cs:List Str}{b:Str->Bool}:(cs.map λc=>V.f (b c)).all vd=true:=by rw[List.all_map,AB];intro _ _;rfl
def aB{cs:List Str}(nd:cs.Nodup)(x:c0∈cs):((cs.map λc=>V.f (decide (c=c0))).countP λz=>eqV z (.f true))=1:=by
 rw[List.countP_map];have e:((λz=>eqV z (.f true))∘λc=>V.f (decide (c=c0)))=λc:Str=>c == c0:=by
  funext c;by_cases z:c=c0
  . subst z;simp[eqV]
  . simp[eqV,z]
 rw[e];have h1:cs.count c0<=1:=List.nodup_iff_count.mp nd c0;have N:0<cs.count c0:=List.count_pos_iff.mpr x;show cs.count c0=1;omega
def YS{cs:List Str}(nd:cs.Nodup)(hi:cs[i]?=some c0):(cs.map λc=>V.f (decide (c=c0))).findIdx? (λz=>eqV z (.f true))=some i:=by
 obtain⟨h1,x⟩:=Au.mp hi;rw[Ee];refine⟨by rw[Ac];exact h1,by rw[List.getElem_map,x];simp[eqV],λj N=>?_⟩
 rw[List.getElem_map];have:cs[j]≠c0:=λz=>by rw[<-x]at z;exact absurd ((List.getElem_inj nd).mp z) ⋯
 simp[eqV,this]
def bW{K:Ae}{i:Nat}(S:KS K Kc C a oe H0 σ H)(hl:3<=σ.length)(nd:(cs1++cs2++cs3++cs4).Nodup)(hz:(cs1++cs2++cs3++cs4).length<=100)(Y:(ws1++ws2).length<=100)
 (hi:(cs1++cs2++cs3++cs4)[i]?=some c0) (hw:(ws1++ws2)[i]?=some w) (hwl:w.length<=100) (Z:∀x,pre=some x->x.length<=100) (hk:∀c∈cs1++cs2++cs3++cs4,kitOne Kc (.ref C) (.ref (adr mg c))=some (decide (c=c0))) (hv:kitOne Kc (.ref C) (.type "ValueError")=some true)
 (q:∀H',wK H0 H'->D.b (.e (ans pre w)) H'):Wf K mg cs1 cs2 cs3 cs4 ws1 ws2 pre odd D σ H:=by
 simp only[Ao]at hz Y;have k1:∀c∈cs1,kitOne Kc (.ref C) (.ref (adr mg c))=some (decide (c=c0)):=λc h=>hk c (by simp[h])
 have k2:∀c∈cs2,kitOne Kc (.ref C) (.ref (adr mg c))=some (decide (c=c0)):=λc h=>hk c (by simp[h])
 have k3:∀c∈cs3,kitOne Kc (.ref C) (.ref (adr mg c))=some (decide (c=c0)):=λc h=>hk c (by simp[h])
 have k4:∀c∈cs4,kitOne Kc (.ref C) (.ref (adr mg c))=some (decide (c=c0)):=λc h=>hk c (by simp[h])
 refine Yo (b:=λc=>decide (c=c0)) S hl ⋯ k1 λp1 σ1 H1 S1 n1 e1 q1=>?_
 refine mM (b:=λc=>decide (c=c0)) (ds:=cs1) S1 ⋯ e1 q1 ⋯ k2 λp2 σ2 H2 S2 n2 e2 q2=>?_
 refine mM (b:=λc=>decide (c=c0)) (ds:=cs1++cs2) S2 ⋯ e2 q2 (by rw[Ao];omega) k3 λp3 σ3 H3 S3 n3 e3 q3=>?_
 refine mM (b:=λc=>decide (c=c0)) (ds:=cs1++cs2++cs3) S3 ⋯ e3 q3 (by rw[Ao,Ao];omega) k4 λp4 N H4 S4 n4 e4 W=>?_
 have U:c0∈cs1++cs2++cs3++cs4:=A4 hi;refine cz S4 (λu z=>z) hv ⟨true,rfl,?_⟩;refine sD ?_;refine⟨_,e4,?_,p4,_,.f true,rfl,rfl,.inl (.inl W),rfl,iV,rfl,_,rfl,?_⟩
 . exact .inl ⟨rfl,_,.inl (.inl W)⟩
 rw[aB nd U];refine sD ?_;refine pj ⟨by rw[Ac,AI];omega,λp5 R=>?_⟩
 have S5:KS K Kc C a oe H0 (N.set 2 (some (.c p5))) (upd H4 p5 (.b (ws1.map V.e))):=(S4.new R).put;have e5:(N.set 2 (some (V.c p5)))[1]?=some (some (.c p4)):=by rw[Bq ⋯];exact e4
 have q5:upd H4 p5 (.b (ws1.map V.e)) p4=some (.b ((cs1++cs2++cs3++cs4).map λc=>V.f (decide (c=c0)))):=by rw[zG (zN W R)];exact W
 have pick:∀Q:VK,(∀H',wK H0 H'->Q (.e w) H')->gM K ws2 (N.set 2 (some (.c p5))) (upd H4 p5 (.b (ws1.map V.e))) Q:=λQ hQ=>by
  refine⟨_,by rw[AQ ⋯],pj ⟨by rw[Ac,AI];omega,λp6 O=>⟨p5,p6,_,_,rfl,rfl,by rw[zG (zN zK O)];exact zK,zK,by rw[Ac,Ac,AI];omega,λp7 P=>?_⟩⟩⟩
  have q6:=xV (o:=.b (ws1.map V.e++ws2.map V.e)) P _ _ (xV (o:=.b (ws2.map V.e)) O _ _ q5);refine⟨_,e5,.inl ⟨rfl,_,.inl (.inl q6)⟩,p4,_,.f true,i,rfl,rfl,.inl (.inl q6),rfl,iV,YS nd hi,p7,_,i,.e w,rfl,rfl,.inl (.inl zK),?_,hQ _ ((S5.f.trans (xV O)).trans (xV P))⟩;obtain⟨h1,h2⟩:=Au.mp hw;rw[Ao]at h1;unfold atI ixN;rw[<-Bs,if_pos ⋯,Ac,Ao,if_pos ⋯]
  show (Eo V.e (ws1++ws2))[(i:Int).toNat]?=_;rw[Bv,AE,hw];rfl
 cases pre with
 |none=>exact pick _ q
 |some x=>
  refine pick _ λH' sm=>⟨x,w,rfl,rfl,?_,q H' sm⟩;have:=Z x rfl;rw[AI];omega
noncomputable def kN:List Str:=["_law_e","_law_marks","_law_words"]
def ek(sc:Scope)(cs ws:List Str)(pre:Option Str)(body:List Stmt):Prop:=
 ∃(Q P O N ws1 ws2:List Str) (odd:Str) (e1 e2 e3 e4 l1 l2:List Expr) (r s:Expr) (a1 a2 a3 b1 b2 b3 b4 b5 c1 c2 c3 c4 c5 d1 d2 d3 d4 d5 f1 f2 f3 f4 f5 f6 f7 f8 f9 fa fb fc fd g1 g2 g3 ap cp r1 q1 q2 Z Y W U S R t1 t2:Pos) (k1 k2 k3 k4 k5:Nat),
  body=[.Assign [.Name "_law_marks" a1] (.List e1 a2) a3,.Assign [.Name "_law_marks" b1] (.BinOp (.Name "_law_marks" b2) .Add (.List e2 b3) b4) b5,.Assign [.Name "_law_marks" c1] (.BinOp (.Name "_law_marks" c2) .Add (.List e3 c3) c4) c5,
   .Assign [.Name "_law_marks" d1] (.BinOp (.Name "_law_marks" d2) .Add (.List e4 d3) d4) d5,
   .If (.BoolOp .Or [.UnaryOp .Not (.Call (.Name "isinstance" f1) [.Name "_law_e" f2,.Name "ValueError" f3] [] f4) f5,.Compare (.Call (.Attribute (.Name "_law_marks" f6) "count" ap) [.Constant (.bool true) k1 f7] [] cp) [.NotEq] [.Constant (.int 1) k2 f8] f9] fa) [.Return (some (.Constant (.str odd) k3 fb)) fc] [] fd,
   .Assign [.Name "_law_words" g1] (.List l1 g2) g3,.Return (some r) r1] /\
  s=.Subscript (.BinOp (.Name "_law_words" q1) .Add (.List l2 q2) Z) (.Call (.Attribute (.Name "_law_marks" Y) "index" S) [.Constant (.bool true) k4 W] [] R) U /\
  (match pre with|none=>r=s|some x=>r=.BinOp (.Constant (.str x) k5 t1) .Add s t2) /\
  (vx sc Q e1&&vx sc P e2&&vx sc O e3&&vx sc N e4&&sq ws1 l1&&sq ws2 l2&&(ap.endLine == cp.line)&&(S.endLine == R.line))=true/\cs=Q++P++O++N/\ws=ws1++ws2
structure nX(K:Ae)(mg:Str->Option Value)(x:Str)(cs ws:List Str)(pre:Option Str):Prop where
 ex:∃(st:Stmt) (f:Addr) (fd:BD),mg x=some (.ref f)/\Fun K x x st f fd/\xt kN ["_law_e"] (zF st)/\Binds K fd ["_law_e"] []/\ek (zF st) cs ws pre (z9 st) /\
  ((zF st).names.lookup ("_law_e":Str)=some .local/\(zF st).names.lookup ("_law_marks":Str)=some .local/\(zF st).names.lookup ("_law_words":Str)=some .local/\(zF st).names.lookup ("isinstance":Str)=some .globalImplicit/\(zF st).names.lookup ("ValueError":Str)=some .globalImplicit)
 b:∀c∈cs,∃D,mg c=some (.ref D)
 mi:mg "isinstance"=none
 mv:mg "ValueError"=none
 nd:cs.Nodup
 hz:cs.length<=100
 a:ws.length<=100
 hw:∀w∈ws,w.length<=100
 hp:∀x,pre=some x->x.length<=100
structure Wo(Kc:Ae)(mg:Str->Option Value)(cs:List Str)(C:Addr)(c0:Str):Prop where
 F:vq Kc C
 a:∀c∈cs,kitOne Kc (.ref C) (.ref (adr mg c))=some (decide (c=c0))
 ve:kitOne Kc (.ref C) (.type "ValueError")=some true
def Named(K:Ae)(mg:Str->Option Value)(cs:List Str)(C:Addr)(c0:Str):Prop:=∃Kc,tU Kc K/\Wo Kc mg cs C c0
def tKC(K:Ae)(mg:Str->Option Value)(cs ws:List Str)(pre:Option Str)(ie:Nat):TE:=λσ H Q=>∃(a:Addr) (oe:Obj) (C:Addr) (c0:Str) (i:Nat) (w:Str),σ[ie]?=some (some (.c a))/\H a=some (.d oe (.e 0))/\oe.cls=.ref C/\Named K mg cs C c0 /\
 cs[i]?=some c0/\ws[i]?=some w/\∀H',wK H H'->Q (.e (ans pre w)) H'
def fF(F:nX X.K X.d x cs ws pre)(hdp:X.A.depth<Cu)(hg:Gl X x)(hdb:(x == ("__debug__":Str))=false)(hN:X.N[ie]?=some e)(hv:Vis X.a.scope e)(hd1:(e == ("__debug__":Str))=false)(hd2:(e == ("__classdict__":Str))=false) :
 PE X (.Call (.Name x p) [.Name e p2] [] pos) (tKC X.K X.d cs ws pre ie):=by
 rintro pins s σ H Q I ⟨a,oe,C,c0,i,w,h0,ha,hc,nm,hi,hw,q⟩;obtain⟨st,f,fd,hm,Fn,S,hb,sh,hl0,hl1,hl2,hgi,hgv⟩:=F.ex;refine BR (xO I hg hm ?_ hdb);have hpa:PA X [.Name e p2] (xW (xX ie) tM):=yQ (xQ hN hv hd1 hd2) yn;refine Dg (h₀:=X.h) I.C.i.a Fn.b (thn (hpa pos pins s σ H (λvs H1=>vs=[V.c a]/\H1=H) I ⟨_,h0,rfl,rfl⟩) λus s1 ⟨vs,H1,I1,r,hvs,hH⟩=>⟨I1.kIn,?_⟩);subst hvs hH;obtain⟨oc,od,kV,doc,pm,an,cdv,ct,osl,rfl,lk,hcd⟩:=Fn.a;have hl:us.length=1:=by rw[<-r.length];rfl
 have W:=hb s1 us I1.kIn (by rw[A9];exact hl)
 rw[A9]at W;refine Df (CY (qk (CX:=CX0) (E:=E0) (R:=CR CX0 X.g X.f X.w H1 s1 Q E0) (N:=kN) lk hcd S hdp I1.vm W rfl r λs2 I2 _=>?_) λr s' P=>?_)
 . have I3:=I2.loud (A':=X.A.deeper (envOfC x (zF st) s1.heap.objs.size f cdv)) (EG I1.vm.a)
   have B:KB ((yl CX0 X.f X.w X.K X.d X.h kN x (zF st) f cdv {X.A with handled:=none} X.g s1 H1 E0).loud (X.A.deeper (envOfC x (zF st) s1.heap.objs.size f cdv))).nox (zF st):=
    ⟨rfl,S.b,rfl,rfl,rfl,hl0,hl1,hl2,hgi,hgv,F.mi,F.mv⟩
   obtain⟨cs1,cs2,cs3,cs4,ws1,ws2,odd,e1,e2,e3,e4,l1,l2,rr,ss,a1,a2,a3,b1,b2,b3,b4,b5,c1,c2,c3,c4,c5,d1,d2,d3,d4,d5,f1,f2,f3,f4,f5,f6,f7,f8,f9,fa,fb,fc,fd,g1,g2,g3,ap,cp,r1,q1,q2,q3,q4,q5,q6,ap2,cp2,t1,t2,k1,k2,k3,k4,k5,O,hs,hr,U,hcs,Y⟩:=sh;simp only[cf]at U;obtain⟨⟨⟨⟨⟨⟨⟨y1,y2⟩,y3⟩,y4⟩,y5⟩,y6⟩,y7⟩,y8⟩:=U;subst hcs Y hs;have Z:PE ((yl CX0 X.f X.w X.K X.d X.h kN x (zF st) f cdv {X.A with handled:=none} X.g s1 H1 E0).loud (X.A.deeper (envOfC x (zF st) s1.heap.objs.size f cdv))).nox rr (j8 X.K pre ws2):=by
    cases pre with
    |none=>subst hr;exact B.pick y6 y8
    |some x=>subst hr;exact l9 pN rJ (B.pick y6 y8)
   have t:=bV B (a1:=a1) (a2:=a2) (a3:=a3) (b1:=b1) (b2:=b2) (b3:=b3) (b4:=b4) (b5:=b5) (c1:=c1) (c2:=c2) (c3:=c3) (c4:=c4) (c5:=c5) (d1:=d1) (d2:=d2) (d3:=d3) (d4:=d4) (d5:=d5) (f1:=f1) (f2:=f2) (f3:=f3) (f4:=f4) (f5:=f5) (f6:=f6) (f7:=f7) (f8:=f8) (f9:=f9) (fa:=fa) (fb:=fb) (fc:=fc) (fd:=fd) (g1:=g1) (g2:=g2) (g3:=g3) (ap:=ap) (cp:=cp) (r1:=r1) (k1:=k1) (k2:=k2) (k3:=k3) (odd:=odd) (pre:=pre) (ws2:=ws2) y1 y2 y3 y4 F.b y5 y7 Z;unfold iP;rw[O];obtain⟨Kc,sub,nm⟩:=nm;have KS0:KS X.K Kc C a oe H1 (start kN [.c a]) H1:=⟨rfl,ha,hc,nm.F,sub,wK.refl _⟩;refine AN (t [] s2 (start kN [.c a]) H1 {a:=λ_ _=>False,b:=Q} (I3.wa _) (bW KS0 (show 3<=3 from Ad _) F.nd F.hz F.a hi hw (F.hw _ (A4 hw)) F.hp nm.a nm.ve λH' sm=>q H' sm)) (λfl s' hs=>?_) λ_ _ z=>Az z;cases fl with
   |ret u=>
    obtain⟨v,σ',H',J,rv,q'⟩:=hs;exact⟨v,H',J.S,J.F,J.j,J.B,rv,q'⟩
   |next=>obtain⟨_,_,_,z⟩:=hs;exact Az z
   |brk=>obtain⟨_,_,_,z⟩:=hs;exact Az z
   |cont=>obtain⟨_,_,_,z⟩:=hs;exact Az z
 . cases r with
   |error e=>exact Az P
   |ok fl=>
    cases fl with
    |ret u=>exact I1.after P
    |next=>exact Az P
    |brk=>exact Az P
    |cont=>exact Az P
structure oQ(outer:List Env)(h:Heap)(H:Hp)(lf c:Addr)(qual:Str)(body:Expr)(lsc:Scope)(cl:List (Str × Addr))(pm ctv:Value)(N:List Str)(σ:St):Prop where
 ob:h.get? lf=some (kla_obj "<lambda>" qual noArgs body lsc cl pm c ctv)
 nl:H lf=none\/H lf=some (.d (kla_obj "<lambda>" qual noArgs body lsc cl pm c ctv) (.e 0))
 fl:lf ∉ frs outer
 cd:∃(o:Obj) (vs:Array Value) (t:Tok),H c=some (.d o (.e 0))/\o.data=.fields vs/\vs[1]?=some (.str qual t)
 e:∀x y b,cl.lookup x=some b->cl.lookup y=some b->x=y
 d:∀x,lsc.names.lookup x=some .free->∃b,cl.lookup x=some b
 a:∀x b,cl.lookup x=some b->(∃v,h.IsCell b v)/\H b=none
 g:∀(i:Nat) (x:Str) (v:V),N[i]?=some x->σ[i]?=some (some v)->lsc.names.lookup x=some .free->∃u b,RelV v u/\cl.lookup x=some b/\h.IsCell b (some u)
 f:σ.length=N.length
 kd:lsc.kind=.function
 co:lsc.isCoroutine=false
 gn:lsc.isGenerator=false
 nm:∀x∈lsc.names,x.2≠.cell/\x.2≠.local
def bb{X:Cx}{ic:Nat}(L:oQ X.k X.l.heap X.r lf c qual body lsc cl pm ctv N σ)(hxn:X.m=[])(hdp:X.A.depth<Cu)(hh:X.A.handled=none)
 (hN:X.N[ic]?=some ("_law_call":Str)) (hv:Vis X.a.scope "_law_call")
 (Y:∀s' H',PE (qe (CXE X.f X.w) X.f X.w X.K X.d X.h N qual lsc lf (.ref c) cl X.A X.g s' H' EE) body tb) :
 PE (X.wa (XC X EE)) (.Call (.Name "_law_call" p) [] [] pos) (λU H1 Q=>U[ic]?=some (some (.c lf))/\tb σ H1 Q):=by
 rintro pins s1 U H1 Q I ⟨h0,W⟩;have hpe:PE (X.wa (XC X EE)) (.Name "_law_call" p) (xX ic):=xQ hN hv (by decide) (by decide)
 refine BR (thn (hpe pins s1 U H1 (λv H2=>v=V.c lf/\H2=H1) I ⟨_,h0,rfl,rfl⟩) λu s2 zz=>?_);obtain⟨v,H2,Z,r,hv2,hH2⟩:=zz;subst hv2 hH2;cases r;have un:Un (frs X.k) [] X.r H2 X.l.heap s2.heap:=by have:=Z.j;rw[show (X.wa (XC X EE)).m=[] from hxn]at this;exact this
 have ob2:s2.heap.get? lf=some (kla_obj "<lambda>" qual noArgs body lsc cl pm c ctv):=by
  rcases L.nl with z|z
  . exact un.f _ _ L.ob z L.fl (by simp)
  . exact(Z.B lf _ (un.g lf _ _ z)).1
 have cr2:s2.heap.CodeRec (.ref c) qual:=by obtain⟨o,vs,t,q1,q2,q3⟩:=L.cd;exact⟨c,o,vs,t,rfl,(Z.B c _ (un.g c o _ q1)).1,q2,q3⟩
 have O:∀b v,X.l.heap.IsCell b v->X.r b=none->s2.heap.IsCell b v:=λb v ⟨o,e,d⟩ n=>by
  by_cases f:b∈frs X.k
  . obtain⟨sl,e1⟩:=un.i b o e n f (by simp)
    exact⟨_,e1,d⟩
  . exact⟨o,un.f b o e n f (by simp),d⟩
 refine callWith_of (P:=λh=>h.get? lf=some (kla_obj "<lambda>" qual noArgs body lsc cl pm c ctv)) rfl (λh e=>⟨.frame,.inl rfl,(Looks.ld (part:=none) e).andThen .now⟩) (evalArgs_nil3 ⟨ob2,?_⟩);refine Df (CY (Yn (CX:=CXE X.f X.w) (E:=EE) (R:=CR (CXE X.f X.w) X.g X.f X.w H2 s2 Q EE) (N:=N) (σ:=σ) hdp hh Z.vm ob2 cr2 L.kd L.co L.gn L.nm L.e L.d (λx b e=>?_) (λi x v e1 e2 e3=>?_) L.f λs3 I3=>?_) λr s' W=>?_)
 . obtain⟨⟨v,z⟩,n⟩:=L.a x b e
   obtain⟨o,eo,_⟩:=id z;exact⟨⟨v,O b v z n⟩,un.d b o eo n (by simp)⟩
 . obtain⟨u,b,q1,q2,q3⟩:=L.g i x v e1 e2 e3
   obtain⟨_,n⟩:=L.a x b q2;exact⟨u,b,q1,q2,O b _ q3 n⟩
 . refine AN (Y s2 H2 [] s3 σ H2 Q I3 W) (λu s' zz=>?_) λe s' z=>z
   obtain⟨v,H',J,rv,q⟩:=zz;exact⟨v,H',J.S,J.F,J.j,J.B,rv,q⟩
 . cases r with
   |error e=>
    obtain⟨a,cls,dd,H',rfl,fl,hE⟩:=W;exact⟨a,cls,dd,U,H2,s2,H',rfl,Z.xB.mZ λp hp=>absurd hp (by simp),fl,hE⟩
   |ok fl=>
    cases fl with
    |ret u=>exact Z.after W
    |next=>exact Az W
    |brk=>exact Az W
    |cont=>exact Az W
end L2
end
section
namespace L2
open PySem PySem.W PySem.Spec PyProof PyProof.Rows
open Sem (wp)
section
variable {prog:Program}{w:World}{A:Around}{E:Value->Shared->Prop}{h:Heap}{g:Array GenState}{d:Drawn}{t:Nat}{os:OsState}{a C dx:Addr}{o:Obj}{nm q:Str}{N:Addr}{bs bm:List Value}{sn:List Str}{sub:List Value}{ab:Bool}{col:Option Bool}{dd:Option Addr}{k0 k1 k2 k3 k5:Option Value}{newId:String}{K:Ae}{f:Str}{mA:Str->Option Value}{v:Value}
def kU(O:findIn K (.ref C) f=some none)(X:K.In h)(hx:h.get? a=some o)(P:o.cls=.ref C)(x:∀c,o.data≠.cls c)(hd:o.dict=some dx)(U:h.Ns dx mA)(R:mA f=some v)(hC:h.get? C=some (AZ nm q C N bs bm true sn sub ab col dd k0 k1 k2 k3 k5 newId))(S:Q (.done (.ret v)) ⟨h,g,d,t,os⟩) :
 wpAny (model prog w) A (Builtin.«object.__getattribute__» ⟨[.ref a,.str f tk],[]⟩) Q E ⟨h,g,d,t,os⟩:=by
 have W:=DV (M:=model prog w) X O;unfold Builtin.«object.__getattribute__»
 repeat (any_goals (first|assumption|(with_reducible refine AM hx ?_;rw[P])|with_reducible refine W.at ?_|wp_step))
 split
 . rename_i c hcd
   exact absurd hcd (x c)
 unfold instanceDict
 repeat (first|(with_reducible refine AM hx ?_;rw[P])|with_reducible refine AM hC ?_|wp_step)
 rw[hd]
 repeat (first|(with_reducible refine wpAny_nsGet U ?_;rw[R])|wp_step)
 exact S
def iK(F:vq K C)(O:findIn K (.ref C) f=some none)(X:K.In h)(hx:h.get? a=some o)(P:o.cls=.ref C)(x:∀c,o.data≠.cls c)(hd:o.dict=some dx)(U:h.Ns dx mA)(Q:mA f=some v)(hC:h.get? C=some (AZ nm q C N bs bm true sn sub ab col dd k0 k1 k2 k3 k5 newId))(S:R (.ok (.ret v)) ⟨h,g,d,t,os⟩) :
 codeAny (model prog w) A (.call (.builtin "BaseException.__getattribute__") ⟨[.ref a,.str f tk],[]⟩) R ⟨h,g,d,t,os⟩:=
 Cp CJ.ga.plain PySem.F.entry_bexc_ga (se F X hx P (kU O X hx P x hd U Q hC S))
def Zu{fill expr}(F:vq K C)(P:findIn K (.ref C) f=some none)(X:K.In h)(hx:h.get? a=some o)(R:o.cls=.ref C)(O:∀c,o.data≠.cls c)(hd:o.dict=some dx)(Y:h.Ns dx mA)(W:mA f=some v)(hC:h.get? C=some (AZ nm q C N bs bm true sn sub ab col dd k0 k1 k2 k3 k5 newId))(hh:handedOut v=pure v)(hq:Q v ⟨h,g,d,t,os⟩) :
 wpAny (model prog w) A (getAttrBy (.ref a) (.str f tk) fill expr) Q E ⟨h,g,d,t,os⟩:=by
 have f3:=CJ.ga.bind (.ref a);have U:(expr&&GS (Cc "BaseException.__getattribute__"))=false:=by cases expr<;>rfl
 have x:(Cc "BaseException.__getattribute__" == Cc "object.__getattribute__")=false:=by decide +kernel
 have S:(GS (AO C)&&Cc "BaseException.__getattribute__" == Cc "object.__getattribute__")=false:=by rw[x];rfl
 have Z:=DV (M:=model prog w) X F.ga;have L2:=DV (M:=model prog w) X F.gt
 repeat (any_goals (first|assumption|(with_reducible refine AM hx ?_;rw[R])|with_reducible refine Z.at ?_|with_reducible refine L2.at ?_|wp_step))
 refine iK F P X hx R O hd Y W hC ?_
 repeat (any_goals (first|assumption|wp_step))
def eR(F:vq K C)(O:findIn K (.ref C) f=some none)(X:K.In h)(hx:h.get? a=some o)(U:o.cls=.ref C)(x:∀c,o.data≠.cls c)(hd:o.dict=some dx)(R:h.Ns dx mA)(P:mA f=some v)(hC:h.get? C=some (AZ nm q C N bs bm true sn sub ab col dd k0 k1 k2 k3 k5 newId))(S:handedOut v=pure v)(W:Q v ⟨h,g,d,t+1,os⟩) :
 wpAny (model prog w) A (getAttr (.ref a) f expr) Q E ⟨h,g,d,t,os⟩:=by
 unfold getAttr
 repeat (any_goals (first|assumption|with_reducible apply Zu F O X hx U x hd R P hC S|wp_step))
end
section
variable {X:Cx}
def Xg(K:Ae)(base:Heap)(ie:Nat)(f:Str):TE:=λσ H Q=>∃(a C D d x:Addr) (oe:Obj) (fs:List (Str × V)) (i:Int) (Kc:Ae),σ[ie]?=some (some (.c a))/\H a=some (.d oe (.e 0))/\oe.cls=.ref C/\(∀c,oe.data≠.cls c)/\oe.dict=some d/\H d=some (.m fs)/\fs.lookup f=some (.d i) /\
 vq Kc C/\tU Kc K/\findIn Kc (.ref C) f=some none/\sg base C (.ref D::veM) x/\Q (.d i) H
def Um(hN:X.N[ie]?=some e)(hv:Vis X.a.scope e)(hd1:(e == ("__debug__":Str))=false)(Y:(e == ("__classdict__":Str))=false)(O:Ca (.Name e p) f X.a (eval (.Name e p) X.a)=eval (.Name e p) X.a:=by rfl):PE X (.Attribute (.Name e p) f ap) (Xg X.K X.h ie f):=by
 rintro pins s σ H Q I ⟨a,C,D,d,fI,oe,fs,i,Kc,h0,ha,hc,U,hd,hx,hl,F,sub,W,cG,q⟩;refine Z2 O (thn (xQ hN hv hd1 Y pins s σ H (λv H1=>v=V.c a/\H1=H) I ⟨_,h0,rfl,rfl⟩) λu s1 zz=>?_);obtain⟨v,H1,P,r,R,hH⟩:=zz;subst R hH;cases r;obtain⟨mA,S,hr⟩:=P.B d _ hx;have x:=hr f;rw[hl]at x;obtain⟨u,hu,ru⟩:∃u,mA f=some u/\RelV (.d i) u:=by
  cases hm:mA f with
  |none=>rw[hm]at x;exact x.elim
  |some u=>rw[hm]at x;exact⟨u,rfl,x⟩
 obtain⟨tk,rfl⟩:=ru;obtain⟨nm,q',N,bs,sn,Z,ab,col,dd,k0,k1,k2,k3,k5,mN,oI,hC,_⟩:=cG.keeps P.bk;obtain⟨h1,g1,d1,t1,os1⟩:=s1;exact eR F W (sub.inn P.kIn) (P.B a _ ha).1 hc U hd S.ns hu hC rfl ⟨.d i,H1,P.tok _,⟨tk,rfl⟩,q⟩
end
end L2
end
section
namespace L2
open PySem PySem.W PySem.Spec PySem.Calls PyProof PyProof.Rows
noncomputable def yJ(m:Bool):Str:=if m then "_law_got" else "_law_said"
noncomputable def xU(m:Bool):List Str:=if m then ["_law_call","_law_e"] else ["_law_call","_law_e","_law_word"]
def dA(m:Bool)(kx:Str)(body:List Stmt):Prop:=∃(p1 p2 p3 p4 p5 R Q P O N x q1 q2 q3 q4 q5 q6 q7 q8 r1 Z Y W U S:Pos) (k1 k2 k3:Nat),body=if m then
 [.Try [.Return (some (.Call (.Name "_law_call" p1) [] [] p2)) p3] [.ExceptHandler (some (.Name "HueError" p4)) (some "_law_e") [.Return (some (.Call (.Name kx R) [.Name "_law_e" Q] [] P)) O] N] [] [] x]
 else [.Try [.Expr (.Call (.Name "_law_call" p1) [] [] p2) p3] [.ExceptHandler (some (.Name "HueError" p4)) (some "_law_e") [.Assign [.Name "_law_word" p5] (.Call (.Name kx R) [.Name "_law_e" Q] [] P) O,
  .Return (some (.IfExp (.Compare (.Name "_law_word" q1) [.Eq] [.Constant (.str "great") k1 q2] q3) (.Tuple [.Name "_law_word" r1,.Attribute (.Name "_law_e" Z) "many" Y,.Attribute (.Name "_law_e" W) "most" U] k3 S) (.Name "_law_word" q4) q5)) q6] N] [] [] x,.Return (some (.Constant (.str "told") k2 q7)) q8]
structure ez(K:Ae)(mg:Str->Option Value)(m:Bool)(kx:Str)(f:Addr):Prop where
 a:∃(st:Stmt) (fd:BD),mg (yJ m)=some (.ref f)/\Fun K (yJ m) (yJ m) st f fd/\xt (xU m) ["_law_call"] (zF st)/\Binds K fd ["_law_call"] []/\dA m kx (z9 st) /\
  (zF st).names.lookup ("_law_call":Str)=some .local/\(zF st).names.lookup ("_law_e":Str)=some .local/\(m=false->(zF st).names.lookup ("_law_word":Str)=some .local)/\(zF st).names.lookup ("HueError":Str)=some .globalImplicit/\(zF st).names.lookup kx=some .globalImplicit
 kd:(kx == ("__debug__":Str))=false
def gx{st}(h:wpAny (model X.f X.w) X.A (exec st X.a) (SP X [] D) E s):wpAny (model X.f X.w) X.A (execs [st] X.a) (SP X [] D) E s:=by
 refine Ej (thn h λf s1 q=>?_);cases f with
 |next=>exact ED q
 |brk=>exact q
 |cont=>exact q
 |ret u=>exact q
def gy{st st2}(h:wpAny (model X.f X.w) X.A (exec st X.a) (SP X [] {D with a:=t D}) X.i s)(N:PS X st2 t):wpAny (model X.f X.w) X.A (execs [st,st2] X.a) (SP X [] D) X.i s:=by
 refine Ej (thn h λf s1 q=>?_);cases f with
 |next=>obtain⟨x,H',I,q⟩:=q;exact we N [] s1 x H' D I q
 |brk=>exact q
 |cont=>exact q
 |ret u=>exact q
def ZO{K:Ae}
 (e0:qU P w K mg base A outer s H) (hh:A.handled=none) (hdp:A.depth+1<Cu) (S:ez K mg m kx f) (KF:nX K mg kx cs ws pre) (hu:mg "HueError"=some (.ref hue)) (L:oQ outer s.heap H lf c qual body lsc cl pm ctv N σ)
 (Y:∀env s' H',PE (qe (CXE P w) P w K mg base N qual lsc lf (.ref c) cl (A.deeper env) (env::outer) s' H' EE) body tb)
 (hq:tb σ H λv H1=>Q (if m then v else .e "told") H1)
 (hE:∀cls dd H',EE cls dd H'->∃(C:Addr) (c0:Str) (i:Nat) (x:Str),cls=.ref C/\(∃Kc,tU Kc K/\exmOne Kc (.ref C) (.ref hue)=some true)/\Named K mg cs C c0/\cs[i]?=some c0/\ws[i]?=some x/\(((m=false->ans pre x≠"great")/\∀H'',wK H' H''->Q (.e (ans pre x)) H'')\/(m=false/\ans pre x="great"/\∃(D fI d:Addr) (k j:Int) (Kc:Ae),dd=some d/\H' d=some (.m (grF k j))/\vq Kc C/\tU Kc K/\GrK Kc C D/\sg base C (.ref D::veM) fI /\
  ∀H'' p,wK H' H''->H'' p=none->Q (.c p) (upd H'' p (.c [.e "great",.d k,.d j]))))) :
 codeAny (model P w) A (.call (.ref f) ⟨[.ref lf],[]⟩) (CR CX0 outer P w H s Q E0) s:=by
 obtain⟨st,fd,hm,Fn,Sc,hb,sh,l0,l1,l2,g0,g1⟩:=S.a;obtain⟨oc,od,kV,doc,pm',an,cdv,ct,osl,rfl,lk,hcd⟩:=Fn.a;have KX:K.In s.heap:=e0.c.a.keeps λb o e=>(e0.f b o e).1;have hbt:=hb s [.ref lf] KX rfl;refine qk (CX:=CX0) (E:=E0) (R:=CR CX0 outer P w H s Q E0) (N:=xU m) (vs:=[.c lf]) lk hcd Sc ⋯ e0 hbt rfl (.cons rfl .nil) λs1 I1 _=>?_
 rw[rT hh]at I1;obtain⟨p1,p2,p3,p4,p5,p6,p7,p8,p9,pa,pb,q1,q2,q3,q4,q5,q6,q7,q8,r1,r2,r3,r4,r5,r6,k1,k2,k3,hbd⟩:=sh;have hLam:oQ (yl CX0 P w K mg base (xU m) (yJ m) (zF st) f cdv A outer s H E0).k (yl CX0 P w K mg base (xU m) (yJ m) (zF st) f cdv A outer s H E0).l.heap (yl CX0 P w K mg base (xU m) (yJ m) (zF st) f cdv A outer s H E0).r lf c qual body lsc cl pm ctv N σ:=L;have hA:(yl CX0 P w K mg base (xU m) (yJ m) (zF st) f cdv A outer s H E0).A.depth=A.depth+1:=rfl;have U:∀{p pos:Pos},PE ((yl CX0 P w K mg base (xU m) (yJ m) (zF st) f cdv A outer s H E0).wa (XC (yl CX0 P w K mg base (xU m) (yJ m) (zF st) f cdv A outer s H E0) EE)) (.Call (.Name "_law_call" p) [] [] pos) (λσ1 H1 Q=>σ1[0]?=some (some (.c lf))/\tb σ H1 Q):=λ{p pos}=>
  bb hLam rfl (by rw[hA];exact hdp) hh (by cases m<;>rfl) (.inl l0) λs' H'=>Y _ s' H'
 have n1:(xU m)[1]?=some ("_law_e":Str):=by cases m<;>rfl
 have fin:∀(fl:Flow) (s':Shared),SP (yl CX0 P w K mg base (xU m) (yJ m) (zF st) f cdv A outer s H E0) [] {a:=λ_ _=>False,b:=Q} fl s'->CR CX0 outer P w H s Q E0 (.ok (.ret (match fl with|.ret v=>v|_=>.none))) s':=λfl s' hs=>by
  cases fl with
  |ret u=>
   obtain⟨v,σ',H',J,rv,q'⟩:=hs;exact⟨v,H',J.S,J.F,J.j,J.B,rv,q'⟩
  |next=>obtain⟨_,_,_,z⟩:=hs;exact Az z
  |brk=>obtain⟨_,_,_,z⟩:=hs;exact Az z
  |cont=>obtain⟨_,_,_,z⟩:=hs;exact Az z
 have kc:∀(a:Addr) {p p2 pos:Pos},PE ((yl CX0 P w K mg base (xU m) (yJ m) (zF st) f cdv A outer s H E0).loud ((yl CX0 P w K mg base (xU m) (yJ m) (zF st) f cdv A outer s H E0).A.mark (some (.ref a)))).nox (.Call (.Name kx p) [.Name "_law_e" p2] [] pos) (tKC K mg cs ws pre 1):=λa {p p2 pos}=>
  fF KF (by show A.depth+1<_;exact hdp) g1 S.kd n1 (.inl l1) (by decide) (by decide)
 have at_:∀(a:Addr) (x:Str) {p ap:Pos},PE ((yl CX0 P w K mg base (xU m) (yJ m) (zF st) f cdv A outer s H E0).loud ((yl CX0 P w K mg base (xU m) (yJ m) (zF st) f cdv A outer s H E0).A.mark (some (.ref a)))).nox (.Attribute (.Name "_law_e" p) x ap) (Xg K base 1 x):=λa x {p ap}=>
  Um n1 (.inl l1) (by decide) (by decide)
 unfold iP;rw[hbd];cases m with
 |true=>
  rw[if_pos rfl];refine AN (gx (X:=yl CX0 P w K mg base (xU true) (yJ true) (zF st) f cdv A outer s H E0) (D:={a:=λ_ _=>False,b:=Q}) (Zj (EE:=EE) (ts:=eM (tKC K mg cs ws pre 1)) (ie:=1) I1 rfl rfl Sc.b l1 n1 rfl rfl g0 (by decide) hu (we (wm U)) ⟨rfl,hq⟩ (λcls dd H' hc=>?_) λa=>we (wm (kc a)))) fin λe s' z=>z
  obtain⟨C,c0,i,x,rfl,hx,nm,hi,hw,⟨_,qq⟩|⟨z,_⟩⟩:=hE cls dd H' hc
  case inr=>cases z
  refine⟨hx,λa oe W hn O _ _ hl=>⟨a,oe,C,c0,i,x,?_,zK,O,nm,hi,hw,λH'' Z=>qq H'' ((xV hn).trans Z)⟩⟩;rw[AQ (by rw[hl];exact(by decide:1<2))]
 |false=>
  rw[if_neg Ak];have n2:(xU false)[2]?=some ("_law_word":Str):=rfl;refine AN (gy (X:=yl CX0 P w K mg base (xU false) (yJ false) (zF st) f cdv A outer s H E0) (D:={a:=λ_ _=>False,b:=Q}) (t:=eM (tC (.e "told"))) (Zj (EE:=EE) (ts:=oM (sV (tKC K mg cs ws pre 1) (wH 2)) (eM (tIf (gN (tOp rEq (xX 2) (tC (.e "great")))) (QD (xW (xX 2) (xW (Xg K base 1 "many") (xW (Xg K base 1 "most") tM)))) (xX 2)))) (ie:=1) I1 rfl rfl Sc.b l1 n1 rfl rfl g0 (by decide) hu (we (sM U)) ⟨rfl,hq⟩ (λcls dd H' hc=>?_) λa=>?_) (wm rJ)) fin λe s' z=>z
  . obtain⟨C,c0,i,x,rfl,hx,nm,hi,hw,alt⟩:=hE cls dd H' hc
    refine⟨hx,λa oe W hn O hdd hnc hl=>⟨a,oe,C,c0,i,x,?_,zK,O,nm,hi,hw,λH'' Z=>?_⟩⟩
    . rw[AQ (by rw[hl];exact(by decide:1<3))]
    . have e2:((W.set 1 (some (V.c a))).set 2 (some (V.e (ans pre x))))[2]?=some (some (.e (ans pre x))):=by rw[AQ (by rw[BP,hl];exact(by decide:2<3))]
      refine⟨_,e2,rfl,_,rfl,?_⟩;rcases alt with⟨ng,qq⟩|⟨_,hg,D,fI,d,k,j,Kc,rfl,hd,F,sub,G,cG,qq⟩
      . have hne:¬(V.e (ans pre x)=V.e "great"):=λz=>ng rfl (V.e.inj z)
        rw[decide_eq_false hne];exact sD ⟨_,e2,qq H'' ((xV hn).trans Z)⟩
      . have e1:((W.set 1 (some (V.c a))).set 2 (some (V.e (ans pre x))))[1]?=some (some (.c a)):=by rw[Bq (by decide),AQ (by rw[hl];exact(by decide:1<3))]
        have ha:=Z a _ zK;have hd':=Z d (.m (grF k j)) (by rw[zG (zN hd hn)];exact hd)
        rw[decide_eq_true (by rw[hg])]
        refine r8 ⟨_,e2,a,C,D,d,fI,oe,_,k,Kc,e1,ha,O,hnc,hdd,hd',rfl,F,sub,G.m1,cG,a,C,D,d,fI,oe,_,j,Kc,e1,ha,O,hnc,hdd,hd',rfl,F,sub,G.m2,cG,by show 3<=Ar;rw[AI];decide,λp hp=>?_⟩
        rw[hg];exact qq _ p ((xV hn).trans Z) hp
  . have vw:Vis (zF st) "_law_word":=.inl (l2 rfl)
    have pw:∀{X':Cx} {p:Pos},X'.N=xU false->X'.a.scope=zF st->PE X' (.Name "_law_word" p) (xX 2):=λ{X' p} h1 h2=>xQ (by rw[h1];exact n2) (by rw[h2];exact vw) (by decide) (by decide)
    exact zw (vT Sc.b n2 (.inl (l2 rfl)) (kc a) (hf:=.inr (l2 rfl))) (we (wm (l8 (qS WM (pw rfl rfl) rJ (pJ _ (by decide) (by decide))) (aj (yQ (pw rfl rfl) (yQ (at_ a "many") (yQ (at_ a "most") yn)))) (pw rfl rfl))))
noncomputable def VN:List Str:=["_law_call","_law_e"]
def Zw(body:List Stmt):Prop:=∃(p1 p2 p3 p4 p5 W U S R Q P O N x:Pos) (k1 k2:Nat),body =
 [.Try [.Expr (.Call (.Name "_law_call" p1) [] [] p2) p3] [.ExceptHandler (some (.Name "TooGreat" p4)) (some "_law_e") [.Return (some (.Tuple [.Attribute (.Name "_law_e" p5) "many" W,.Attribute (.Name "_law_e" U) "most" S] k1 R)) Q] P] [] [] O,
  .Return (some (.Constant .none k2 N)) x]
structure qE(K:Ae)(mg:Str->Option Value)(f:Addr):Prop where
 ex:∃(st:Stmt) (fd:BD),mg "_law_great"=some (.ref f)/\Fun K "_law_great" "_law_great" st f fd/\xt VN ["_law_call"] (zF st)/\Binds K fd ["_law_call"] []/\Zw (z9 st) /\
  (zF st).names.lookup ("_law_call":Str)=some .local/\(zF st).names.lookup ("_law_e":Str)=some .local/\(zF st).names.lookup ("TooGreat":Str)=some .globalImplicit
end L2
end
section
namespace M
open PySem
inductive Val where
 |j|e (b:Bool)|c (i:Int)|g (x:Str)
 |f (vs:List Val)|h (vs:List Val)|p
 |o (ns:List Int)|r (ns:List Int)
 |m (i:Nat)|u (x:Str)|t (n:String)|q (i:Nat)
 /-- the k-th lambda of a list of lambdas,at the address a -/
 |s (a k:Nat)
 deriving Inhabited
inductive Cel where
 |c (vs:List Val)
 |e (kvs:List (Str × Val))
 |f (kvs:List (List Int × Val))
 /-- the table of the codes that lie within the def x -/
 |d (x:Str)
 deriving Inhabited
abbrev Sto:=List Cel
abbrev Env:=List (Option Val)
inductive Out(α:Type) where
 |e (a:α) (s:Sto)
 |g (c:Str) (args:List Val) (s:Sto)
 |d
noncomputable def Out.bind{N x:Type}(o:Out N)(f:N->Sto->Out x):Out x:=
 match o with
 |.e a s=>f a s
 |.g c as s=>.g c as s
 |.d=>.d
@[simp] def zV a s(f:α->Sto->Out β):(Out.e a s).bind f=f a s:=rfl
@[simp] def qX(f:α->Sto->Out β):(Out.d:Out α).bind f=.d:=rfl
@[simp] def dR c as s(f:α->Sto->Out β):(Out.g c as s:Out α).bind f=.g c as s:=rfl
mutual
noncomputable def Val.isD:Val->Bool
 |.j|.e _|.c _=>true
 |.g x=>PyData.strOk x
 |.f vs=>u6 vs
 |.h vs=>u6 vs
 |.p|.o _|.r _|.m _|.u _|.t _|.q _|.s _ _=>false
noncomputable def u6:List Val->Bool
 |[]=>true
 |v::vs=>v.isD&&u6 vs
end
mutual
noncomputable def Val.isR:Val->Bool
 |.j|.e _|.c _|.g _|.p=>true
 |.f vs=>v5 vs
 |.h vs=>v5 vs
 |.o _|.r _|.m _|.u _|.t _|.q _|.s _ _=>false
noncomputable def v5:List Val->Bool
 |[]=>true
 |v::vs=>v.isR&&v5 vs
end
mutual
noncomputable def Val.d:Val->PyData
 |.j=>.none
 |.e b=>.bool b
 |.c i=>.int i
 |.g x=>.str x
 |.f vs=>.tuple (ds vs)
 |.h vs=>.list (ds vs)
 |.p=>.dict []
 |.o _|.r _|.m _|.u _|.t _|.q _|.s _ _=>.none
noncomputable def ds:List Val->List PyData
 |[]=>[]
 |v::vs=>v.d::ds vs
end
mutual
noncomputable def Val.noRef:Val->Bool
 |.m _|.q _=>false
 |.f vs=>z6 vs
 |.h vs=>z6 vs
 |.j|.e _|.c _|.g _|.p|.o _|.r _|.u _|.t _|.s _ _=>true
noncomputable def z6:List Val->Bool
 |[]=>true
 |v::vs=>v.noRef&&z6 vs
end
def Cel.noRef:Cel->Bool
 |.c vs=>z6 vs
 |.e kvs=>z6 (kvs.map (·.2))
 |.f kvs=>z6 (kvs.map (·.2))
 |.d _=>true
mutual
noncomputable def Val.beq:Val->Val->Bool
 |.j,.j=>true
 |.e a,.e b=>a == b
 |.c a,.c b=>a == b
 |.g a,.g b=>a == b
 |.f a,.f b=>sk a b
 |.h a,.h b=>sk a b
 |.p,.p=>true
 |.o a,.o b=>a == b
 |.r a,.r b=>a == b
 |.m a,.m b=>a == b
 |.u a,.u b=>a == b
 |.t a,.t b=>a == b
 |.q a,.q b=>a == b
 |.s a k,.s b l=>a == b&&k == l
 |_,_=>false
noncomputable def sk:List Val->List Val->Bool
 |[],[]=>true
 |a::as,b::bs=>a.beq b&&sk as bs
 |_,_=>false
end
def Cel.beq:Cel->Cel->Bool
 |.c a,.c b=>sk a b
 |.e a,.e b=>decide (a.map (·.1)=b.map (·.1))&&sk (a.map (·.2)) (b.map (·.2))
 |.f a,.f b=>decide (a.map (·.1)=b.map (·.1))&&sk (a.map (·.2)) (b.map (·.2))
 |.d a,.d b=>decide (a=b)
 |_,_=>false
def wV:Sto->Sto->Bool
 |[],_=>true
 |o::r,o'::r'=>(o'.noRef||o'.beq o)&&wV r r'
 |_::_,[]=>false
mutual
noncomputable def vJ(n0:Nat)(s:Sto):Nat->Val->Option Val
 |_,.q i=>if i<n0 then some (.q i) else dS
 |_,.m i=>if i<n0 then some (.m i) else match s[i]? with
  |some (.c vs)=>if z6 vs then some (.h vs) else dS
  |_=>dS
 |k+1,.f vs=>(t9 n0 s k vs).map .f
 |_,v=>if v.noRef then some v else dS
noncomputable def t9(n0:Nat)(s:Sto):Nat->List Val->Option (List Val)
 |_,[]=>some []
 |0,_::_=>dS
 |k+1,v::vs=>match (if v.noRef then some v else vJ n0 s k v),t9 n0 s k vs with
  |some v',some vs'=>some (v'::vs')
  |_,_=>dS
end
def freeze(n0:Nat)(s:Sto)(v:Val):Option Val:=if v.noRef then some v else vJ n0 s 20 v
inductive Bop|a|d|c|e|b|f|h|i|g
 deriving DecidableEq
inductive Cop|a|b|l|f|c|i|m|g|k|h|j|d|e
 deriving DecidableEq
inductive Bf|a|p|q|b|j|h|g|k|l|s|o|i|d|r|c|n|e|m
 deriving DecidableEq
inductive Mf|c|a|b|e|d|f
 deriving DecidableEq
inductive Tgt
 |a (i:Nat)
 |b (is:List Nat)
mutual
inductive Ex
 |g (v:Val)|e (i:Nat)|E (x:Str)|L (x:Str) (n:String)
 |j (m:Bool) (op:Bop) (a b:Ex)|A (a:Ex)|H (a:Ex)
 |l (op:Cop) (a b:Ex)|u (op op':Cop) (a b c:Ex)
 |w (a:Ex) (es:Exs)|J (a:Ex) (es:Exs)|G (c:Cn) (a b:Ex)
 |r (es:Exs)|y (m:Bool) (es:Exs)|C
 |h (f:Str) (ver:Nat) (es:Exs)|k (f:Bf) (m:Bool) (es:Exs)|F (a d:Ex)
 |M (f:Mf) (m:Bool) (o:Ex) (es:Exs)
 |s (a b:Ex)|I (m:Bool) (a:Ex) (lo hi st:OEx)
 |p (m:Bool) (N:List Str) (fr:List (Option Nat)) (elt:Ex) (t:Tgt) (it:Itb) (ifs:Cns)
 |z (m:Bool) (N:List Str) (fr:List (Option Nat)) (elt:Ex) (t:Tgt) (it:Itb) (ifs:Cns) (t2:Tgt) (it2:Itb) (ifs2:Cns)
 |q (m:Bool) (a b c:Ex)
 |D (t:Bool)|K (a b:Ex)
 /-- a set Ei: only what is walked is known of it -/
 |B (a:Ex)
inductive Exs
 |c|a (e:Ex) (es:Exs)
inductive OEx
 |b|a (e:Ex)
inductive Cn
 |a (e:Ex)|d (c:Cn)|b (c:Cn) (cs:Cns)|f (c:Cn) (cs:Cns)
inductive Cns
 |a|b (c:Cn) (cs:Cns)
inductive Itb
 |f (e:Ex)|d (a:Ex)|g (a b:Ex)|i (e:Ex)|j (a b:Ex)|h (a b c:Ex)
end
mutual
inductive Sm
 |d (e:Ex)|f (e:Ex)|s|g (i:Nat) (e:Ex)|m (is:List Nat) (e:Ex)|n (is:List Nat) (es:Exs)
 |w (i:Nat) (op:Bop) (e:Ex)|k (o i e:Ex)
 |h (c:Cn) (a b:Sms)|l (t:Tgt) (it:Itb) (b:Sms)|p (c:Cn) (b:Sms)
 |r|v|q|j (e:Ex)|u (o i e:Ex)
inductive Sms
 |f|e (s:Sm) (ss:Sms)
 /-- x=[lambda: ..];x.append(lambda: ..) ..;mid;then a row with [_law_said(c) for c in x];k: 0 it is returned,1 it is returned whether it is d,2 if it is not d (or o): b -/
 |g (i:Nat) (L:Exs) (mid:Sms) (k:Nat) (d:Ex) (o:Cns) (b cs:Sms)
end
structure Fn where
 N:List Str
 b:List Str
 c:Bool
 a:Sms
abbrev Calls:=Str->Nat->List Val->Sto->Out Val
noncomputable def zZ:Nat:=16777216
noncomputable def newList(m:Bool)(vs:List Val)(s:Sto):Out Val:=if m then .e (.m s.length) (s++[.c vs]) else .e (.h vs) s
noncomputable def wI(s:Sto):Val->Option (List Val)
 |.f vs=>some vs
 |.h vs=>some vs
 |.o ns=>some (ns.map .c)
 |.r ns=>some (ns.map .c)
 |.m i=>match s[i]? with
  |some (.c vs)=>some vs
  |_=>dS
 |_=>dS
noncomputable def yd(s:Sto):Val->Option (List Val)
 |.h vs=>some vs
 |.m i=>match s[i]? with
  |some (.c vs)=>some vs
  |_=>dS
 |_=>dS
def truth(s:Sto):Val->Option Bool
 |.j=>some false
 |.e b=>some b
 |.c i=>some (i != 0)
 |.g x=>if x.length<=zZ then some ((x.length:Int) != 0) else dS
 |.f vs=>some !vs.isEmpty
 |.h vs=>some !vs.isEmpty
 |.p=>some false
 |.m i=>match s[i]? with
  |some (.c vs)=>some !vs.isEmpty
  |_=>dS
 |_=>dS
def Out.truth(o:Out Val):Out Bool:=o.bind λv s=>match M.truth s v with
 |some b=>.e b s
 |dS=>.d
noncomputable def yg(s:Sto):Val->Val
 |.m i=>match s[i]? with
  |some (.c vs)=>.h vs
  |_=>.m i
 |v=>v
def zq(s:Sto):Val->Val
 |.f vs=>.f (vs.map (yg s))
 |v=>yg s v
def tH(d:PyData):Bool:=d.showable&&d.leavesShort 40&&decide (d.depth<=50)&&decide (d.weight<=300000)&&(!d.hasDict||!L2.xN d)
noncomputable def flat:Val->Bool
 |.j|.e _|.c _|.g _=>true
 |_=>false
noncomputable def eqF:Val->Val->Bool
 |.j,.j=>true
 |.e a,.e b=>a == b
 |.e a,.c b=>(if a then 1 else 0) == b
 |.c a,.e b=>a == (if b then 1 else 0)
 |.c a,.c b=>a == b
 |.g a,.g b=>a == b
 |_,_=>false
def uz(a b:Val):Option Bool:=if a.isD&&b.isD&&decide (b.d.depth<=60) then some (CQ a.d b.d) else dS
noncomputable def intsOf:List Val->Option (List Int)
 |[]=>some []
 |.c i::vs=>(intsOf vs).map (i::·)
 |_=>dS
noncomputable def Val.isN:Val->Bool
 |.j=>true
 |_=>false
def inD(x:Val)(vs:List Val):Bool:=x.isD&&u6 vs&&decide (x.d.depth<=60)
noncomputable def YC{κ:Type} [DecidableEq κ]:List (κ × Val)->κ->Option Val
 |[],_=>dS
 |p::r,k=>if p.1=k then some p.2 else YC r k
def T8{κ:Type} [DecidableEq κ] (x:List (κ × Val))(k:κ)(v:Val):List (κ × Val):=
 if (YC x k).isSome then x.map (λp=>if p.1=k then (p.1,v) else p) else x++[(k,v)]
noncomputable def X8(s:Sto):Val->Option (Nat × Cel)
 |.q i=>(s[i]?).map λc=>(i,c)
 |_=>dS
def Wz:Cel->Val->Option (Option Val)
 |.e kvs,.g k=>some (YC kvs k)
 |.f kvs,.f vs=>(intsOf vs).map λk=>YC kvs k
 |_,_=>dS
def W0:Cel->Val->Val->Option Cel
 |.e kvs,.g k,v=>if kvs.length<zZ then some (.e (T8 kvs k v)) else dS
 |.f kvs,.f vs,v=>(intsOf vs).bind λk=>if kvs.length<zZ then some (.f (T8 kvs k v)) else dS
 |_,_,_=>dS
def getD(d y:Val)(s:Sto):Option (Option Val):=(X8 s d).bind λc=>Wz c.2 y
def ixD(d y:Val)(s:Sto):Out Val:=match getD d y s with
 |some (some v)=>.e v s
 |_=>.d
def putD(d y v:Val)(s:Sto):Option Sto:=(X8 s d).bind λc=>(W0 c.2 y v).map λx=>s.set c.1 x
noncomputable def strsOf:List Val->Option (List Str)
 |[]=>some []
 |.g x::vs=>(strsOf vs).map (x::·)
 |_=>dS
def zR(op:Cop)(x y:Val)(s:Sto):Out Val:=
 match op with
 |.a=>match x,y with
  |.g a,.g b=>.e (.e (decide (a=b))) s
  |.f a,.o ns=>match uz (zq s (.f a)) (.f (ns.map .c)) with|some b=>.e (.e b) s|dS=>.d
  |_,_=>match uz (zq s x) (zq s y) with|some b=>.e (.e b) s|dS=>.d
 |.b=>match x,y with
  |.g a,.g b=>.e (.e !(decide (a=b))) s
  |_,_=>match uz (zq s x) (zq s y) with|some b=>.e (.e !b) s|dS=>.d
 |.m=>match y with|.j=>.e (.e x.isN) s|.e b=>(match x with|.e a=>.e (.e (decide (a=b))) s|_=>.d)|_=>.d
 |.g=>match y with|.j=>.e (.e !x.isN) s|.e b=>(match x with|.e a=>.e (.e !(decide (a=b))) s|_=>.d)|_=>.d
 |.k=>match wI s y with
  |some vs=>if flat x&&vs.all flat then .e (.e (vs.any λz=>eqF z x)) s else if inD x vs then .e (.e (vs.any λz=>CQ z.d x.d)) s else .d
  |dS=>.d
 |.h=>match wI s y with
  |some vs=>if flat x&&vs.all flat then .e (.e !(vs.any λz=>eqF z x)) s else if inD x vs then .e (.e !(vs.any λz=>CQ z.d x.d)) s else .d
  |dS=>.d
 |.j=>match getD y x s with|some o=>.e (.e o.isSome) s|dS=>.d
 |.d=>match getD y x s with|some o=>.e (.e !o.isSome) s|dS=>.d
 |.e=>match x with
  |.p=>(match wI s y with
   |some vs=>(match M.intsOf vs with|some _=>.e (.e true) s|dS=>.d)
   |dS=>.d)
  |_=>(match wI s y with
   |some vs=>if flat x&&vs.all flat then .e (.e !(vs.any λz=>eqF z x)) s else if inD x vs then .e (.e !(vs.any λz=>CQ z.d x.d)) s else .d
   |dS=>.d)
 |.l=>match x,y with|.c i,.c j=>.e (.e (decide (i<j))) s|_,_=>.d
 |.f=>match x,y with|.c i,.c j=>.e (.e (decide (i<=j))) s|_,_=>.d
 |.c=>match x,y with|.c i,.c j=>.e (.e (decide (j<i))) s|_,_=>.d
 |.i=>match x,y with|.c i,.c j=>.e (.e (decide (j<=i))) s|_,_=>.d
def binOp(m:Bool)(op:Bop)(x y:Val)(s:Sto):Out Val:=
 match op with
 |.a=>match x,y with
  |.c i,.c j=>.e (.c (i+j)) s
  |.g a,.g b=>if a.length+b.length<=zZ then .e (.g (a++b)) s else .d
  |.f a,.f b=>if a.length+b.length<=zZ then .e (.f (a++b)) s else .d
  |_,_=>match yd s x,yd s y with
   |some a,some b=>if a.length+b.length<=zZ then newList m (a++b) s else .d
   |_,_=>.d
 |.d=>match x,y with|.c i,.c j=>.e (.c (i-j)) s|_,_=>.d
 |.c=>match x,y with
  |.c i,.c j=>if (-(2 ^ 64)<i/\i<2 ^ 64)\/(-(2 ^ 64)<j/\j<2 ^ 64) then .e (.c (i*j)) s else .d
  |.f a,.c k=>if -1000<=k/\k<=1000/\a≠[]/\a.length<=1000 then .e (.f (An k.toNat a).flatten) s else .d
  |_,.c k=>match yd s x with
   |some a=>if -1000<=k/\k<=1000/\a.length*k.toNat<=zZ then newList m (An k.toNat a).flatten s else .d
   |dS=>.d
  |_,_=>.d
 |.e=>match x,y with|.c i,.c j=>if 0<j/\j<1073741824 then .e (.c (i/j)) s else .d|_,_=>.d
 |.b=>match x,y with|.c i,.c j=>if 0<j then .e (.c (i%j)) s else .d|_,_=>.d
 |.f=>match x,y with|.c i,.c j=>if 0<=j/\j<=1000000/\i.natAbs<2 ^ 64 then .e (.c (i ^ j.toNat)) s else .d|_,_=>.d
 |.h=>match x,y with|.c i,.c j=>if 0<=j/\j<=1000000/\i.natAbs<2 ^ 64 then .e (.c (i*2 ^ j.toNat)) s else .d|_,_=>.d
 |.i=>match x,y with|.c i,.c j=>if 0<=j then .e (.c (i/2 ^ j.toNat)) s else .d|_,_=>.d
 |.g=>match x,y with|.c i,.c j=>.e (.c (Builtin.bitAnd i j)) s|_,_=>.d
noncomputable def kindOf:Val->Option L2.Kd
 |.j=>some .f
 |.e _=>some .i
 |.c _=>some .d
 |.g _=>some .h
 |.f _=>some .b
 |.h _=>some .e
 |.p=>some .g
 |.m _=>some .e
 |_=>dS
noncomputable def v8:String->Option L2.Kd
 |"bool"=>some .i
 |"int"=>some .d
 |"str"=>some .h
 |"list"=>some .e
 |"tuple"=>some .b
 |"dict"=>some .g
 |_=>dS
noncomputable def boolsOf:List Val->Option (List Bool)
 |[]=>some []
 |.e b::vs=>(boolsOf vs).map (b::·)
 |_=>dS
noncomputable def pairsOf:List Val->Option (List (Int × Int))
 |[]=>some []
 |.f [.c a,.c b]::vs=>(pairsOf vs).map ((a,b)::·)
 |_=>dS
noncomputable def prV(z:Int × Int):Val:=.f [.c z.1,.c z.2]
def SV(z:Int × Int):List (Int × Int)->List (Int × Int)
 |[]=>[z]
 |y::ys=>if L2.X6 z<=L2.X6 y then z::y::ys else y::SV z ys
def Wb:List (Int × Int)->List (Int × Int)
 |[]=>[]
 |z::zs=>SV z (Wb zs)
def lB:List Val->Option (List (List Int))
 |[]=>some []
 |.f a::vs=>match intsOf a,lB vs with
  |some z,some zs=>some (z::zs)
  |_,_=>dS
 |_=>dS
noncomputable def tpV(z:List Int):Val:=.f (z.map .c)
noncomputable def tpS(x:Str)(z:List Int):Val:=.f (.g x::z.map .c)
def Wj(x:Str):List Val->Option (List (List Int))
 |[]=>some []
 |.f (.g y::a)::vs=>if y=x then (match intsOf a,Wj x vs with
  |some z,some zs=>some (z::zs)
  |_,_=>dS) else dS
 |_=>dS
noncomputable def WE:List Val->Str
 |.f (.g x::_)::_=>x
 |_=>""
def ZU(m:Bool)(vs:List Val)(s:Sto):Out Val:=match lB vs with
 |some x=>if x.Nodup/\(x.length<2\/∀z∈x,z≠[]) then newList m ((L2.Wc x).map tpV) s else .d
 |dS=>.d
def Ru(x:List (List Int)):Bool:=decide (x.length<2)||match x with
 |[]=>true
 |z::_=>decide (0<z.length)&&x.all (λy=>decide (y.length=z.length))&&(Av (x.length-1)).all λi=>!L2.Ss (x.getD (i+1) []) (x.getD i [])
def Uz(m:Bool)(vs:List Val)(s:Sto):Out Val:=match lB vs with
 |some x=>if Ru x then newList m vs s else .d
 |dS=>.d
noncomputable def insI(z:Int):List Int->List Int
 |[]=>[z]
 |y::ys=>if z<=y then z::y::ys else y::insI z ys
def sortI:List Int->List Int
 |[]=>[]
 |z::zs=>insI z (sortI zs)
def blt(f:Bf)(m:Bool)(N:List Val)(s:Sto):Out Val:=
 match f with
 |.a=>match N with
  |[.g x]=>if x.length<=zZ then .e (.c x.length) s else .d
  |[x]=>match wI s x with|some vs=>.e (.c vs.length) s|dS=>.d
  |_=>.d
 |.p=>match N with
  |[x]=>match yd s x with|some vs=>(match boolsOf vs with|some bs=>.e (.e (bs.all id)) s|dS=>.d)|dS=>.d
  |_=>.d
 |.q=>match N with
  |[x]=>match yd s x with|some vs=>(match boolsOf vs with|some bs=>.e (.e (bs.any id)) s|dS=>.d)|dS=>.d
  |_=>.d
 |.b=>match N with
  |[.f vs]=>.e (.f vs) s
  |[x]=>match yd s x with|some vs=>.e (.f vs) s|dS=>.d
  |_=>.d
 |.j=>match N with
  |[x]=>match wI s x with|some vs=>newList m vs s|dS=>.d
  |_=>.d
 |.g=>match N with
  |[x]=>if (zq s x).isR&&tH (zq s x).d then .e (.g (zq s x).d.shown) s else .d
  |_=>.d
 |.k=>match N with
  |[.c i,.c j]=>.e (.c (if j > i then j else i)) s
  |[.f vs]=>(match M.intsOf vs with|some ns=>if ns≠[] then .e (.c (L2.vh 0 ns)) s else .d|dS=>.d)
  |[x]=>match yd s x with|some vs=>(match M.intsOf vs with|some ns=>if ns≠[] then .e (.c (L2.vh 0 ns)) s else .d|dS=>.d)|dS=>.d
  |_=>.d
 |.l=>match N with
  |[.c i,.c j]=>.e (.c (if j<i then j else i)) s
  |[.f vs]=>(match M.intsOf vs with|some ns=>if ns≠[] then .e (.c (L2.v9 0 ns)) s else .d|dS=>.d)
  |[x]=>match yd s x with|some vs=>(match M.intsOf vs with|some ns=>if ns≠[] then .e (.c (L2.v9 0 ns)) s else .d|dS=>.d)|dS=>.d
  |_=>.d
 |.o=>match N with
  |[.c i]=>.e (.c i) s
  |[.e b]=>.e (.c (if b then 1 else 0)) s
  |_=>.d
 |.i=>match N with
  |[x,.t n]=>match kindOf x,v8 n with|some a,some c=>.e (.e (a.sub c)) s|_,_=>.d
  |_=>.d
 |.d=>match N with
  |[.c i,.c j]=>if 0<j/\j<1073741824 then .e (.f [.c (i/j),.c (i%j)]) s else .d
  |_=>.d
 |.r=>match N with
  |[.c i]=>if i.natAbs.log2<1920 then .e (.g (toString i)) s else .d
  |_=>.d
 |.s=>match N with
  |[x]=>match yd s x with|some vs=>(match M.intsOf vs with|some ns=>if L2.R4 ns then .e (.c ns.sum) s else .d|dS=>.d)|dS=>.d
  |_=>.d
 |.h=>match N with
  |[x]=>match yd s x with
   |some vs=>(match pairsOf vs with
    |some O=>if O.Nodup/\∀z∈O,0<=z.2/\z.2<1000 then newList m ((Wb O).map prV) s else ZU m vs s
    |dS=>ZU m vs s)
   |dS=>.d
  |_=>.d
 |.n=>match N with
  |[x]=>match yd s x with|some vs=>(match lB vs with|some O=>if O≠[] then .e (tpV (L2.S6 O)) s else .d|dS=>.d)|dS=>.d
  |_=>.d
 |.m=>match N with
  |[x]=>match yd s x with|some vs=>(match Wj (WE vs) vs with|some O=>if O≠[] then .e (tpS (WE vs) (L2.S6 O)) s else .d|dS=>.d)|dS=>.d
  |_=>.d
 |.e=>match N with
  |[x]=>match yd s x with|some vs=>Uz m vs s|dS=>.d
  |_=>.d
 |.c=>match N with
  |[x]=>match wI s x with|some vs=>(match M.intsOf vs with|some ns=>if ns.length<64 then newList m ((sortI ns).map .c) s else .d|dS=>.d)|dS=>.d
  |_=>.d
def mxD(x y:Val)(s:Sto):Out Val:=match y with
 |.c k=>(match yd s x with|some vs=>(match M.intsOf vs with|some ns=>.e (.c (L2.vh k ns)) s|dS=>.d)|dS=>.d)
 |_=>.d
noncomputable def upd(s:Sto)(i:Nat)(vs:List Val):Sto:=s.set i (.c vs)
def wZ(f:Mf)(o:Val)(x:List Val)(s:Sto):Out Val:=
 match f with
 |.c=>match o,x with
  |.f vs,[y]=>if flat y&&vs.all flat then .e (.c (vs.countP λz=>eqF z y:Nat)) s else .d
  |_,[y]=>match yd s o with|some vs=>if flat y&&vs.all flat then .e (.c (vs.countP λz=>eqF z y:Nat)) s else .d|dS=>.d
  |_,_=>.d
 |.a=>match o,x with
  |.m i,[y]=>match s[i]? with|some (.c vs)=>if vs.length<zZ then .e .j (upd s i (vs++[y])) else .d|_=>.d
  |_,_=>.d
 |.b=>match o,x with
  |.m i,[y]=>match s[i]?,yd s y with|some (.c vs),some ws=>if vs.length+ws.length<=zZ then .e .j (upd s i (vs++ws)) else .d|_,_=>.d
  |_,_=>.d
 |.e=>match o,x with
  |.m i,[.c k]=>(match s[i]? with
   |some (.c vs)=>if -(2 ^ 63)<=k/\k<2 ^ 63 then (match E7 k vs.length with
    |some j=>(match vs[j]? with|some y=>.e y (upd s i (vs.eraseIdx j))|dS=>.d)
    |dS=>.d) else .d
   |_=>.d)
  |_,_=>.d
 |.d=>match o,x with
  |.f vs,[y]=>if flat y&&vs.all flat then (match vs.findIdx? λz=>eqF z y with|some j=>.e (.c (j:Nat)) s|dS=>.d) else .d
  |_,_=>.d
 |.f=>match o,x with
  |.g z,[y]=>(match yd s y with
   |some vs=>(match strsOf vs with|some ys=>if (ys.map (·.length)).sum+ys.length*z.length<=16777216 then .e (.g (L2.Sl z ys)) s else .d|dS=>.d)
   |dS=>.d)
  |_,_=>.d
def xm(a b:Val)(s:Sto):Out Val:=
 match b with
 |.c i=>match wI s a with|some vs=>(match L2.atI vs i with|some v=>.e v s|dS=>.d)|dS=>.d
 |_=>.d
def uy{N:Type}(x:List N)(lo hi:Option Int):List N:=(x.drop (HT.sIx x.length 0 lo)).take (HT.sIx x.length x.length hi-HT.sIx x.length 0 lo)
def wA(m:Bool)(a:Val)(lo hi st:Option Int)(s:Sto):Out Val:=
 match a,st with
 |.f vs,dS=>.e (.f (uy vs lo hi)) s
 |.f vs,some c=>if c≠0/\(L2.yS vs.length lo hi c).2<=zZ then .e (.f (L2.zo vs (L2.yS vs.length lo hi c).1 c (L2.yS vs.length lo hi c).2)) s else .d
 |_,dS=>match yd s a with|some vs=>newList m (uy vs lo hi) s|dS=>.d
 |_,some c=>match yd s a with|some vs=>if c≠0 then newList m (L2.zo vs (L2.vy vs.length lo hi c).1 c (L2.vy vs.length lo hi c).2) s else .d|dS=>.d
def Sw(m:Bool)(x y z:Val)(s:Sto):Out Val:=match x,y,z with
 |.c i,.c j,.c k=>if -(2 ^ 30)<=i/\i<=2 ^ 30∧-(2 ^ 30)<=j/\j<=2 ^ 30/\0<k/\k<=2 ^ 29/\B4 i j k<=1000 then newList m ((L2.rM i j k).map .c) s else .d
 |.j,y,.g _=>(match wI s y with|some vs=>(match M.intsOf vs with|some ns=>if ns.length<=1000 then .e (.c (L2.dN ns:Nat)) s else .d|dS=>.d)|dS=>.d)
 |.c i,.c j,.e _=>if -(2 ^ 30)<=i/\i<=2 ^ 30∧-(2 ^ 30)<=j/\j<=2 ^ 30/\B4 i j 1<=1000 then newList m ((L2.rM i j 1).map .c) s else .d
 |.c i,.c j,.j=>if -(2 ^ 30)<=i/\i<=2 ^ 30∧-(2 ^ 30)<=j/\j<=2 ^ 30/\B4 i j 1<=1000 then .e (.f ((L2.rM i j 1).map .c)) s else .d
 |_,_,_=>.d
noncomputable def yk(t:Tgt)(v:Val)(env:Env):Option Env:=
 match t with
 |.a i=>some (env.set i (some v))
 |.b is=>match v with
  |.f vs=>if vs.length=is.length then some ((is.zip vs).foldl (λe p=>e.set p.1 (some p.2)) env) else dS
  |_=>dS
structure Src where
 a:List Val
 b:Option Nat
def Src.ok(r:Src)(s:Sto):Bool:=match r.b with
 |dS=>true
 |some i=>match s[i]? with
  |some (.c vs)=>sk vs r.a
  |_=>false
noncomputable def QK:List Val->List Val->List Val
 |v::vs,w::ws=>.f [v,w]::QK vs ws
 |_,_=>[]
noncomputable def iz(n:Nat):List Val->List Val
 |[]=>[]
 |v::vs=>.f [.c n,v]::iz (n+1) vs
noncomputable def srcOf(s:Sto):Val->Option Src
 |.f vs=>some ⟨vs,dS⟩
 |.h vs=>some ⟨vs,dS⟩
 |.o ns=>some ⟨ns.map .c,dS⟩
 |.m i=>match s[i]? with
  |some (.c vs)=>some ⟨vs,some i⟩
  |_=>dS
 |_=>dS
noncomputable def Rv(lo c:Int)(n:Nat):List Val:=(Av n).map λ(k:Nat)=>Val.c (lo+k*c)
def Qf(x y z:Val)(s:Sto):Out Src:=match x,y,z with
 |.c i,.c j,.c k=>if 0<=i/\i<=1000/\0<=j/\j<=1000/\1<=k/\k<=1000 then .e ⟨Rv i k (B4 i j k).toNat,dS⟩ s else .d
 |_,_,_=>.d
noncomputable def xq(lo:Int)(n:Nat):List Val:=(Av n).map λ(k:Nat)=>Val.c (lo+k)
def ym(r:Src)(t:Tgt)(body:Env->Sto->List Val->Out (List Val × Env)):List Val->Env->Sto->List Val->Out (List Val × Env)
 |[],env,s,acc=>if r.ok s then .e (acc,env) s else .d
 |x::xs,env,s,acc=>if r.ok s then match yk t x env with
    |dS=>.d
    |some env'=>(body env' s acc).bind λp s'=>ym r t body xs p.2 s' p.1
  else .d
noncomputable def zh(fr:List (Option Nat))(env:Env):Env:=fr.map λo=>match o with|some j=>(env[j]?).join|dS=>dS
inductive Fl
 |a (env:Env)|c (env:Env)|d (env:Env)|b (v:Val)
def vf(r:Src)(t:Tgt)(body:Env->Sto->Out Fl):List Val->Env->Sto->Out Fl
 |[],env,s=>if r.ok s then .e (.a env) s else .d
 |x::xs,env,s=>if r.ok s then match yk t x env with
    |dS=>.d
    |some env'=>(body env' s).bind λfl s'=>match fl with
     |.a e=>vf r t body xs e s'
     |.d e=>vf r t body xs e s'
     |.c e=>.e (.a e) s'
     |.b v=>.e (.b v) s'
  else .d
def bj(c:Env->Sto->Out Bool)(body:Env->Sto->Out Fl):Nat->Env->Sto->Out Fl
 |0,_,_=>.d
 |n+1,env,s=>(c env s).bind λb s1=>if b then (body env s1).bind λfl s2=>match fl with
    |.a e=>bj c body n e s2
    |.d e=>bj c body n e s2
    |.c e=>.e (.a e) s2
    |.b v=>.e (.b v) s2
  else .e (.a env) s1
noncomputable def Ts:Nat:=100000
noncomputable def uJ:Sto->List Str
 |.d x::r=>x::uJ r
 |_=>[]
section
variable (Φ:Calls)(G:Str->Option Val)
mutual
noncomputable def evE(env:Env):Ex->Sto->Out Val
 |.g v,s=>.e v s
 |.e i,s=>match env[i]? with|some (some v)=>.e v s|_=>.d
 |.E x,s=>match G x with|some v=>.e v s|dS=>.d
 |.L _ n,s=>.e (.t n) s
 |.j m op a b,s=>(evE env a s).bind λx s1=>(evE env b s1).bind λy s2=>binOp m op x y s2
 |.A a,s=>(evE env a s).bind λx s1=>match x with|.c i=>.e (.c (-i)) s1|_=>.d
 |.H a,s=>(evE env a s).bind λx s1=>match x with|.e b=>.e (.e !b) s1|_=>.d
 |.l op a b,s=>(evE env a s).bind λx s1=>(evE env b s1).bind λy s2=>zR op x y s2
 |.u op op' a b c,s=>(evE env a s).bind λx s1=>(evE env b s1).bind λy s2=>(zR op x y s2).bind λr N=>match r with
  |.e true=>(evE env c N).bind λz P=>zR op' y z P
  |.e false=>.e (.e false) N
  |_=>.d
 |.w a es,s=>match es with
  |.c=>evE env a s
  |.a _ _=>(evE env a s).bind λx s1=>match x with
   |.e true=>rX env es s1
   |.e false=>.e (.e false) s1
   |_=>.d
 |.J a es,s=>match es with
  |.c=>evE env a s
  |.a _ _=>(evE env a s).bind λx s1=>match truth s1 x with
   |some false=>lU env es s1
   |some true=>.e x s1
   |dS=>.d
 |.G c a b,s=>(evT env c s).bind λt s1=>if t then evE env a s1 else evE env b s1
 |.r es,s=>(zc env es s).bind λvs s1=>if vs.length<=zZ then .e (.f vs) s1 else .d
 |.y m es,s=>(zc env es s).bind λvs s1=>if vs.length<=zZ then newList m vs s1 else .d
 |.C,s=>.e .p s
 |.h f ver es,s=>(zc env es s).bind λvs s1=>Φ f ver vs s1
 |.k f m es,s=>(zc env es s).bind λvs s1=>blt f m vs s1
 |.F a d,s=>(evE env a s).bind λx s1=>(evE env d s1).bind λy s2=>mxD x y s2
 |.M f _ o es,s=>(evE env o s).bind λx s1=>(zc env es s1).bind λvs s2=>wZ f x vs s2
 |.s a b,s=>(evE env a s).bind λx s1=>(evE env b s1).bind λy s2=>xm x y s2
 |.I m a lo hi st,s=>(evE env a s).bind λx s1=>(evO env lo s1).bind λl s2=>(evO env hi s2).bind λh N=>(evO env st N).bind λc P=>wA m x l h c P
 |.p m _ fr elt t it ifs,s=>(xY env it s).bind λr s1=>
  (ym r t (λe s' acc=>(wL e ifs s').bind λb s2=>if b then (evE e elt s2).bind λv N=>.e (acc++[v],e) N else .e (acc,e) s2) r.a (zh fr env) s1 []).bind λp s2=>newList m p.1 s2
 |.z m _ fr elt t it ifs t2 it2 ifs2,s=>(xY env it s).bind λr s1=>
  (ym r t (λe s' acc=>(wL e ifs s').bind λb s2=>if b then (xY e it2 s2).bind λS N=>
      ym S t2 (λQ P O=>(wL Q ifs2 P).bind λW R=>if W then (evE Q elt R).bind λv U=>.e (O++[v],Q) U else .e (O,Q) R) S.a e N acc
   else .e (acc,e) s2) r.a (zh fr env) s1 []).bind λp s2=>if p.1.length<=zZ then newList m p.1 s2 else .d
 |.D t,s=>.e (.q s.length) (s++[if t then .f [] else .e []])
 |.K a b,s=>(evE env a s).bind λx s1=>(evE env b s1).bind λy s2=>ixD x y s2
 |.B _,_=>.d
 |.q m a b c,s=>(evE env a s).bind λx s1=>(evE env b s1).bind λy s2=>(evE env c s2).bind λz N=>Sw m x y z N
noncomputable def rX(env:Env):Exs->Sto->Out Val
 |.c,_=>.d
 |.a a es,s=>match es with
  |.c=>evE env a s
  |.a _ _=>(evE env a s).bind λx s1=>match x with
   |.e true=>rX env es s1
   |.e false=>.e (.e false) s1
   |_=>.d
noncomputable def lU(env:Env):Exs->Sto->Out Val
 |.c,_=>.d
 |.a a es,s=>match es with
  |.c=>evE env a s
  |.a _ _=>(evE env a s).bind λx s1=>match truth s1 x with
   |some false=>lU env es s1
   |some true=>.e x s1
   |dS=>.d
noncomputable def zc(env:Env):Exs->Sto->Out (List Val)
 |.c,s=>.e [] s
 |.a e es,s=>(evE env e s).bind λv s1=>(zc env es s1).bind λvs s2=>.e (v::vs) s2
noncomputable def evO(env:Env):OEx->Sto->Out (Option Int)
 |.b,s=>.e dS s
 |.a e,s=>(evE env e s).bind λv s1=>match v with|.c i=>.e (some i) s1|_=>.d
/-- a test -/
noncomputable def evT(env:Env):Cn->Sto->Out Bool
 |.a e,s=>(evE env e s).truth
 |.d a,s=>(evT env a s).bind λb s1=>.e (!b) s1
 |.b a es,s=>(evT env a s).bind λb s1=>if b then wL env es s1 else .e false s1
 |.f a es,s=>(evT env a s).bind λb s1=>if b then .e true s1 else vI env es s1
noncomputable def wL(env:Env):Cns->Sto->Out Bool
 |.a,s=>.e true s
 |.b a es,s=>(evT env a s).bind λb s1=>if b then wL env es s1 else .e false s1
noncomputable def vI(env:Env):Cns->Sto->Out Bool
 |.a,s=>.e false s
 |.b a es,s=>(evT env a s).bind λb s1=>if b then .e true s1 else vI env es s1
noncomputable def xY(env:Env):Itb->Sto->Out Src
 |.f e,s=>(evE env e s).bind λv s1=>match srcOf s1 v with|some r=>.e r s1|dS=>.d
 |.d a,s=>(evE env a s).bind λx s1=>match x with
  |.c j=>if -(2 ^ 62)<=j/\j<=zZ then .e ⟨xq 0 j.toNat,dS⟩ s1 else .d
  |_=>.d
 |.g a b,s=>(evE env a s).bind λx s1=>(evE env b s1).bind λy s2=>match x,y with
  |.c i,.c j=>if -(2 ^ 62)<=i/\i<2 ^ 62∧-(2 ^ 62)<=j/\j<2 ^ 62/\j-i<=zZ then .e ⟨xq i (j-i).toNat,dS⟩ s2 else .d
  |_,_=>.d
 |.h a b c,s=>(evE env a s).bind λx s1=>(evE env b s1).bind λy s2=>(evE env c s2).bind λz N=>Qf x y z N
 |.i e,s=>(evE env e s).bind λv s1=>match v with
  |.f vs=>.e ⟨iz 0 vs,dS⟩ s1
  |.h vs=>.e ⟨iz 0 vs,dS⟩ s1
  |_=>.d
 |.j a b,s=>(evE env a s).bind λx s1=>(evE env b s1).bind λy s2=>match x,y with
  |.f vs,.f ws=>if ws.length<=vs.length then .e ⟨QK vs ws,dS⟩ s2 else .d
  |_,_=>.d
end
mutual
noncomputable def exS(env:Env):Sm->Sto->Out Fl
 |.d e,s=>(evE Φ G env e s).bind λ_ s1=>.e (.a env) s1
 |.f e,s=>(evE Φ G env e s).bind λv s1=>.e (.b v) s1
 |.s,s=>.e (.b .j) s
 |.g i e,s=>(evE Φ G env e s).bind λv s1=>.e (.a (env.set i (some v))) s1
 |.m is e,s=>(evE Φ G env e s).bind λv s1=>match yk (.b is) v env with|some env'=>.e (.a env') s1|dS=>.d
 |.n is es,s=>(zc Φ G env es s).bind λvs s1=>if vs.length=is.length then .e (.a ((is.zip vs).foldl (λe p=>e.set p.1 (some p.2)) env)) s1 else .d
 |.w i op e,s=>match env[i]? with
  |some (some (.c x))=>(evE Φ G env e s).bind λv s1=>match v with
   |.c y=>(binOp false op (.c x) (.c y) s1).bind λz s2=>.e (.a (env.set i (some z))) s2
   |_=>.d
  |some (some (.f x))=>if op=.a then (evE Φ G env e s).bind λv s1=>match v with
   |.f y=>(binOp false .a (.f x) (.f y) s1).bind λz s2=>.e (.a (env.set i (some z))) s2
   |_=>.d
   else .d
  |_=>.d
 |.k o i e,s=>(evE Φ G env e s).bind λv s1=>(evE Φ G env o s1).bind λx s2=>(evE Φ G env i s2).bind λy N=>match x,y with
  |.m r,.c k=>(match N[r]? with
   |some (.c vs)=>(match L2.ixN vs.length k with|some j=>.e (.a env) (upd N r (vs.set j v))|dS=>.d)
   |_=>.d)
  |_,_=>.d
 |.h c a b,s=>(evT Φ G env c s).bind λt s1=>if t then zU env a s1 else zU env b s1
 |.l t it b,s=>(xY Φ G env it s).bind λr s1=>vf r t (λe s'=>zU e b s') r.a env s1
 |.p c b,s=>bj (λe s'=>evT Φ G e c s') (λe s'=>zU e b s') Ts env s
 |.r,s=>.e (.a env) s
 |.v,s=>.e (.c env) s
 |.q,s=>.e (.d env) s
 |.j _,_=>.d
 |.u o i e,s=>(evE Φ G env e s).bind λv s1=>(evE Φ G env o s1).bind λx s2=>(evE Φ G env i s2).bind λy N=>match putD x y v N with|some O=>.e (.a env) O|dS=>.d
noncomputable def zU(env:Env):Sms->Sto->Out Fl
 |.f,s=>.e (.a env) s
 |.e c cs,s=>(exS env c s).bind λfl s1=>match fl with
  |.a e=>zU e cs s1
  |fl=>.e fl s1
 |.g i L mid k d o b cs,s=>(zU (env.set i dS) mid s).bind λfl O=>match fl with
  |.a e0=>if uJ s=uJ O then (zc Φ G e0 L O).bind λvs s1=>if k=0 then .e (.b (.h vs)) s1 else
   if k=1 then (evE Φ G e0 d s1).bind λy s2=>(zR .a (.h vs) y s2).bind λr x=>.e (.b r) x
   else ((evE Φ G e0 d s1).bind λy s2=>((zR .b (.h vs) y s2).truth).bind λr x=>if r then .e true x else vI Φ G e0 o x).bind λr x=>
    (if r then zU e0 b x else .e (.a e0) x).bind λfl N=>match fl with
   |.a e=>zU e cs N
   |fl=>.e fl N
   else .d
  |_=>.d
end
end
abbrev tY:=Option (Str × List Val × Sto)
abbrev ya:=Str->Nat->List Val->Sto->tY
noncomputable def pE:List Val->Bool
 |[.g _]=>true
 |[.c i,.c j]=>decide (i.natAbs<2 ^ 64)&&decide (j.natAbs<2 ^ 64)
 |_=>false
section
variable (W:Str->Bool)(Φ:Calls)(Ψ:ya)(G:Str->Option Val)
mutual
noncomputable def xE(env:Env):Ex->Sto->tY
 |.h f v es,s=>match zc Φ G env es s with
  |.e vs s1=>Ψ f v vs s1
  |_=>dS
 |.l _ a _,s=>xE env a s
 |.j _ _ a _,s=>xE env a s
 |.k _ _ es,s=>xL env es s
 |.p _ _ _ _ _ it _,s=>xI env it s
 |.B a,s=>xE env a s
 |_,_=>dS
/-- one argument that raises -/
noncomputable def xL(env:Env):Exs->Sto->tY
 |.a a es,s=>match es with
  |.c=>xE env a s
  |.a _ _=>dS
 |.c,_=>dS
/-- what is walked raises -/
noncomputable def xI(env:Env):Itb->Sto->tY
 |.f a,s=>xE env a s
 |_,_=>dS
end
def xT(env:Env):Cn->Sto->tY
 |.a e,s=>match e with
  |.h f v es=>xE Φ Ψ G env (.h f v es) s
  |_=>dS
 |.d c,s=>xT env c s
 |_,_=>dS
mutual
noncomputable def xS(env:Env):Sm->Sto->tY
 |.d e,s=>xE Φ Ψ G env e s
 |.f e,s=>xE Φ Ψ G env e s
 |.g _ e,s=>xE Φ Ψ G env e s
 |.h c a b,s=>match evT Φ G env c s with
  |.e t s1=>if t then xSs env a s1 else xSs env b s1
  |_=>xT Φ Ψ G env c s
 |.j e,s=>match e with
  |.h c _ es=>(match zc Φ G env es s with
   |.e vs s1=>if pE vs&&W c then some (c,vs,s1) else dS
   |_=>dS)
  |_=>dS
 |_,_=>dS
noncomputable def xSs(env:Env):Sms->Sto->tY
 |.f,_=>dS
 |.e c cs,s=>match exS Φ G env c s with
  |.e fl s1=>(match fl with
   |.a e=>xSs e cs s1
   |_=>dS)
  |_=>xS env c s
 |.g _ _ _ _ _ _ _ _,_=>dS
end
end
noncomputable def zi(N:List Str)(vs:List Val):Env:=vs.map some++An (N.length-vs.length) dS
def leave(F:Fn)(x:Sto)(v:Val)(s:Sto):Out Val:=
 if F.c then .e v s
 else if wV x s then (match freeze x.length s v with|some N=>.e N (s.take x.length)|dS=>.d) else .d
structure Tbl where
 e:Str->Nat->Option Fn
 b:Str->Option Val
 /-- the defs whose tables the store holds,from its start -/
 f:List Str:=[]
 /-- the classes of exceptions,and what the law's def says of each -/
 d:List (Str × Str):=[]
 /-- which of the law's two defs that try a call is there -/
 c:Bool->Bool:=λ_=>false
noncomputable def zr:List Str->Sto->Bool
 |[],_=>true
 |x::r,.d y::s=>decide (x=y)&&zr r s
 |_::_,_=>false
noncomputable def uD(m:Bool)(w:Str)(as:List Val):Val:=if m then .g w else if w="great" then .f (.g w::as) else .g w
def sS(T:Tbl)(m:Bool)(o:Out Val)(x:tY):Out Val:=match o with
 |.e v s=>.e (if m then v else .g "told") s
 |_=>match x with
  |some (c,as,s)=>(match T.d.lookup c with
   |some w=>.e (uD m w as) s
   |dS=>.d)
  |dS=>.d
noncomputable def VO:Str × List Val × Sto->Out Val
 |(c,as,s)=>if c="TooGreat" then .e (.f as) s else .d
def cj:Out Val->tY->Out Val
 |.e _ s,_=>.e .j s
 |_,some r=>VO r
 |_,dS=>.d
noncomputable def cg(T:Tbl):Bool:=T.c true&&decide (T.d.lookup ("TooGreat":Str)=some "! great")
def run(T:Tbl)(Φ:Calls)(F:Fn)(vs:List Val)(s:Sto):Out Val:=
 if vs.length=F.b.length then (zU Φ T.b (zi F.N vs) F.a s).bind λfl s1=>match fl with
  |.a _=>leave F s .j s1
  |.b v=>leave F s v s1
  |_=>.d
 else .d
noncomputable def lV:List Val->Option Str
 |.u g::_=>some g
 |_=>dS
mutual
noncomputable def zC(T:Tbl):Nat->Calls
 |0=>λ_ _ _ _=>.d
 |n+1=>λf ver vs s=>match T.e f ver with|some F=>run T (zC T n) F vs s|dS=>if ((decide (ver=100)&&T.c false)||(decide (ver=101)&&T.c true))&&zr T.f s then sS T (decide (ver=101)) (zC T n f 0 vs s) (za T n f 0 vs s) else (match lV vs with|some g=>if decide (ver=200) then (match T.e g 0 with|some F=>run T (zC T n) F vs.tail s|dS=>.d) else if ((decide (ver=300)&&T.c false)||(decide (ver=301)&&T.c true))&&zr T.f s then sS T (decide (ver=301)) (zC T n g 0 vs.tail s) (za T n g 0 vs.tail s) else if decide (ver=302)&&cg T&&zr T.f s then cj (zC T n g 0 vs.tail s) (za T n g 0 vs.tail s) else .d|dS=>if decide (ver=102)&&cg T&&zr T.f s then cj (zC T n f 0 vs s) (za T n f 0 vs s) else .d)
noncomputable def za(T:Tbl):Nat->ya
 |0=>λ_ _ _ _=>dS
 |n+1=>λf ver vs s=>match T.e f ver with
  |some F=>if vs.length=F.b.length then xSs (λc=>(T.d.lookup c).isSome) (zC T n) (za T n) T.b (zi F.N vs) F.a s else dS
  |dS=>dS
end
abbrev KF:=Ae
structure Own where
 o:List Addr
 h:List Addr
def Own.no(ρ:Own)(a:Addr):Prop:=a ∉ ρ.o/\a ∉ ρ.h
def KT(K:KF)(a:Addr)(x:List L2.V):Prop:=∃(o:Obj) (its:Array Value) (n:Nat),K.lookup a=some o/\o.cls=.type "tuple"/\o.data=.seq its n/\its.size<=Ar/\L2.Vals x its.toList
def SC(K:KF)(ρ:Own)(H:L2.Hp)(a:Addr)(x:List L2.V):Prop:=(ρ.no a/\L2.Rd H a (.b x)) \/
 ∃(o:Obj) (its:Array Value) (n:Nat),K.lookup a=some o/\o.cls=.type "list"/\o.dict=none/\o.data=.seq its n/\its.size<=Ar/\L2.Vals x its.toList
noncomputable def hk:Option L2.HO->Nat
 |some (.b _)=>1
 |some (.i _)=>2
 |some (.l _)=>3
 |some (.g _)=>4
 |_=>0
mutual
inductive RD(K:KF)(mg:Str->Option Value)(ρ:Own)(H:L2.Hp):Val->L2.V->Prop
 |A:RD K mg ρ H .j .g
 |j (b:Bool):RD K mg ρ H (.e b) (.f b)
 |l (i:Int):RD K mg ρ H (.c i) (.d i)
 |D (x:Str):RD K mg ρ H (.g x) (.e x)
 |m {a:Addr} {vs:List Val} {xs:List L2.V}:ρ.no a->H a=some (.c xs)->RDs K mg ρ H vs xs->RD K mg ρ H (.f vs) (.c a)
 |E {a:Addr} {vs:List Val} {xs:List L2.V}:ρ.no a->H a=some (.b xs)->RDs K mg ρ H vs xs->RD K mg ρ H (.h vs) (.c a)
 |B {a:Addr}:ρ.no a->H a=some (.i [])->RD K mg ρ H .p (.c a)
 |p {a:Addr} {ns:List Int}:KT K a (ns.map L2.V.d)->RD K mg ρ H (.o ns) (.c a)
 |F {a:Addr} {ns:List Int}:SC K ρ H a (ns.map L2.V.d)->RD K mg ρ H (.r ns) (.c a)
 |C {a:Addr} {i:Nat}:ρ.o[i]?=some a->hk (H a)=1->RD K mg ρ H (.m i) (.c a)
 |s {a:Addr} {i:Nat}:ρ.o[i]?=some a->1<hk (H a)->RD K mg ρ H (.q i) (.c a)
 |I {x:Str} {f:Addr}:mg x=some (.ref f)->RD K mg ρ H (.u x) (.c f)
 |J (n:String):RD K mg ρ H (.t n) (.k n)
 |G (a k:Nat):RD K mg ρ H (.s a k) (.c a)
inductive RDs(K:KF)(mg:Str->Option Value)(ρ:Own)(H:L2.Hp):List Val->List L2.V->Prop
 |d:RDs K mg ρ H [] []
 |a {v:Val} {x:L2.V} {vs:List Val} {xs:List L2.V}:RD K mg ρ H v x->RDs K mg ρ H vs xs->RDs K mg ρ H (v::vs) (x::xs)
end
noncomputable def ba(x:Str):Str:=(x++(".<locals>.":Str))++("<lambda>":Str)
def Tr(K:KF)(mg:Str->Option Value)(ρ:Own)(H:L2.Hp)(P:Addr)(x:Str):Prop:=∃ps,H P=some (.g ps)/\DU ps.toList /\
 (∀(pos:Pos) (N:Value),DT pos ps.toList=some N->∃(c:Addr) (o:Obj) (vs:Array Value) (t:Tok),N=.ref c/\ρ.no c/\H c=some (.d o (.e 0))/\o.data=.fields vs/\vs[1]?=some (.str (ba x) t)) /\
 ∃(fa c:Addr) (o:Obj) (fd:BD),mg x=some (.ref fa)/\K.lookup fa=some o/\o.data=.func fd/\fd.code=.ref c/\∀h:Heap,K.In h->PySem.W.CodeHd h c P
def CR(K:KF)(mg:Str->Option Value)(ρ:Own)(H:L2.Hp)(a:Addr):Cel->Prop
 |.c vs=>∃O,H a=some (.b O)/\RDs K mg ρ H vs O
 |.e kvs=>∃N,H a=some (.i N)/\N.map (·.1)=kvs.map (λp=>Et p.1)/\RDs K mg ρ H (kvs.map (·.2)) (N.map (·.2))
 |.f kvs=>∃N,H a=some (.l N)/\N.map (·.1)=kvs.map (λp=>p.1.map Es)/\RDs K mg ρ H (kvs.map (·.2)) (N.map (·.2))
 |.d x=>Tr K mg ρ H a x
structure HR(K:KF)(mg:Str->Option Value)(ρ:Own)(s:Sto)(H:L2.Hp):Prop where
 f:ρ.o.length=s.length
 v:ρ.o.Nodup
 m:∀(i:Nat) (c:Cel),s[i]?=some c->∃a:Addr,ρ.o[i]?=some a/\CR K mg ρ H a c
 d:∀a∈ρ.h,(∃xs,H a=some (.b xs))/\a ∉ ρ.o
structure Ext(ρ:Own)(H:L2.Hp)(ρ':Own)(H':L2.Hp):Prop where
 d:∃new:List Addr,ρ'.o=ρ.o++new/\∀a∈new,H a=none
 f:ρ'.h=ρ.h
 c:∀(a:Addr) (o:L2.HO),H a=some o->a ∉ ρ.o->H' a=some o
 g:∀a∈ρ.o,hk (H' a)=hk (H a)
structure ER(K:KF)(mg:Str->Option Value)(ρ:Own)(H:L2.Hp)(env:Env)(σ:L2.St):Prop where
 b:env.length=σ.length
 a:∀(i:Nat) (v:Val),env[i]?=some (some v)->∃x:L2.V,σ[i]?=some (some x)/\RD K mg ρ H v x
section
variable {K:KF}{mg:Str->Option Value}{ρ ρ' ρ'':Own}{H H' H'':L2.Hp}{s s':Sto}
def HR.obj(h:HR K mg ρ s H)(i:Nat)vs(e:s[i]?=some (Cel.c vs)):∃(a:Addr) (x:List L2.V),ρ.o[i]?=some a/\H a=some (.b x)/\RDs K mg ρ H vs x:=by obtain⟨a,e1,x,e2,r⟩:=h.m i _ e;exact⟨a,x,e1,e2,r⟩
def CR.there(h:CR K mg ρ H a c):∃o,H a=some o:=by
 cases c with
 |c vs=>obtain⟨O,e,_⟩:=h;exact⟨_,e⟩
 |e N=>obtain⟨O,e,_⟩:=h;exact⟨_,e⟩
 |f N=>obtain⟨O,e,_⟩:=h;exact⟨_,e⟩
 |d x=>obtain⟨ps,e,_⟩:=h;exact⟨_,e⟩
theorem CR.hk{a:Addr}{c:Cel}(h:CR K mg ρ H a c):0<hk (H a):=by
 cases c with
 |c vs=>obtain⟨O,e,_⟩:=h;rw[e];exact Dx 0
 |e N=>obtain⟨O,e,_⟩:=h;rw[e];exact EA rfl
 |f N=>obtain⟨O,e,_⟩:=h;rw[e];exact EA rfl
 |d x=>obtain⟨ps,e,_⟩:=h;rw[e];exact EA rfl
def HR.trk(h:HR K mg ρ s H)(x:a∈ρ.o):∃o,H a=some o:=by
 obtain⟨i,hi,e⟩:=BI x;have hs:i<s.length:=by rw[<-h.f];exact hi
 obtain⟨b,e1,e2⟩:=h.m i _ (Ab hs);rw[Ab hi,e]at e1;cases e1;exact e2.there
def cu(h:hk (H a)=1):∃x,H a=some (.b x):=by
 cases e:H a with
 |none=>rw[e]at h;cases h
 |some o=>
  rw[e]at h;cases o with
  |b x=>exact⟨x,rfl⟩
  |_=>cases h
def HR.new(h:HR K mg ρ s H)(hp:H p=none):ρ.no p:=by
 refine⟨λx=>?_,λx=>?_⟩
 . obtain⟨N,e⟩:=h.trk x
   rw[hp]at e;cases e
 . obtain⟨⟨N,e⟩,_⟩:=h.d p x
   rw[hp]at e;cases e
def Ext.refl:Ext ρ H ρ H:=⟨⟨[],by simp,λa x=>by cases x⟩,rfl,λa o e _=>e,λ_ _=>rfl⟩
def Ext.S9(x:Ext ρ H ρ' H')(e:H a=some o)(n:ρ.no a):ρ'.no a:=by
 obtain⟨new,e1,O⟩:=x.d;refine⟨?_,by rw[x.f];exact n.2⟩
 rw[e1];intro N;rcases AD.mp N with N|N
 . exact n.1 N
 . rw[O a N]at e;cases e
def Ext.get(x:Ext ρ H ρ' H'){i:Nat}(e:ρ.o[i]?=some a):ρ'.o[i]?=some a:=by obtain⟨new,e1,N⟩:=x.d;have hi:i<ρ.o.length:=(Au.mp e).1;rw[e1,A2 hi];exact e
theorem Ext.trans(x:Ext ρ H ρ' H')(h:HR K mg ρ' s H')(y:Ext ρ' H' ρ'' H''):Ext ρ H ρ'' H'':=by
 obtain⟨new,e1,R⟩:=x.d;obtain⟨P,e2,Q⟩:=y.d;refine⟨⟨new++P,by rw[e2,e1,Bx],λa N=>?_⟩,y.f.trans x.f,λa o e n=>y.c a o (x.c a o e n) ?_,λa N=>(y.g a (by rw[e1];exact BB _ N)).trans (x.g a N)⟩
 . rcases AD.mp N with N|N
   . exact R a N
   . cases q:H a with
     |none=>rfl
     |some o=>
      by_cases O:a∈ρ.o
      . obtain⟨S,e⟩:=h.trk (a:=a) (by rw[e1];exact BB _ O)
        rw[Q a N]at e;cases e
      . have:=x.c a o q O
        rw[Q a N]at this;cases this
 . rw[e1]
   intro O;rcases AD.mp O with O|O
   . exact n O
   . rw[R a O]at e;cases e
def SC.sql(h:SC K ρ H a xs):L2.SqL K H a xs:=by
 rcases h with⟨_,h⟩|h
 . exact .inl h
 . exact .inr h
def KT.sqt(h:KT K a xs):L2.SqT K H a xs:=.inr h
structure Mv(ρ:Own)(H:L2.Hp)(ρ':Own)(H':L2.Hp):Prop where
 b:∀(a:Addr) (o:L2.HO),H a=some o->ρ.no a->H' a=some o/\ρ'.no a
 c:∀(i:Nat) (a:Addr),ρ.o[i]?=some a->ρ'.o[i]?=some a
 d:∀a∈ρ.o,hk (H' a)=hk (H a)
def Ext.mv(x:Ext ρ H ρ' H'):Mv ρ H ρ' H':=⟨λa o e n=>⟨x.c a o e n.1,x.S9 e n⟩,λi a e=>x.get e,x.g⟩
def SC.mv(x:Mv ρ H ρ' H')(h:SC K ρ H a xs):SC K ρ' H' a xs:=by
 rcases h with⟨n,h|⟨o,h⟩⟩|h
 . exact .inl ⟨(x.b _ _ h n).2,.inl (x.b _ _ h n).1⟩
 . exact .inl ⟨(x.b _ _ h n).2,.inr ⟨o,(x.b _ _ h n).1⟩⟩
 . exact .inr h
end
mutual
theorem RD.mv{K:KF}{mg:Str->Option Value}{ρ ρ':Own}{H H':L2.Hp}(x:Mv ρ H ρ' H'){v:Val}{u:L2.V}(q:RD K mg ρ H v u):RD K mg ρ' H' v u:=by
 cases q with
 |A=>exact .A
 |j b=>exact .j b
 |l i=>exact .l i
 |D t=>exact .D t
 |m n e r=>exact .m (x.b _ _ e n).2 (x.b _ _ e n).1 (RDs.mv x r)
 |E n e r=>exact .E (x.b _ _ e n).2 (x.b _ _ e n).1 (RDs.mv x r)
 |B n e=>exact .B (x.b _ _ e n).2 (x.b _ _ e n).1
 |p h=>exact .p h
 |F h=>exact .F (h.mv x)
 |C e k=>exact .C (x.c _ _ e) ((x.d _ (A4 e)).trans k)
 |s e k=>exact .s (x.c _ _ e) (by rw[x.d _ (A4 e)];exact k)
 |G a k=>exact .G a k
 |I e=>exact .I e
 |J n=>exact .J n
theorem RDs.mv{K:KF}{mg:Str->Option Value}{ρ ρ':Own}{H H':L2.Hp}(x:Mv ρ H ρ' H'){vs:List Val}{us:List L2.V}(q:RDs K mg ρ H vs us):RDs K mg ρ' H' vs us:=by
 cases q with
 |d=>exact .d
 |a r N=>exact .a (RD.mv x r) (RDs.mv x N)
end
theorem CR.mv(x:Mv ρ H ρ' H')(e:H' a=H a)(h:CR K mg ρ H a c):CR K mg ρ' H' a c:=by
 cases c with
 |c vs=>obtain⟨N,e1,r⟩:=h;exact⟨N,e.trans e1,RDs.mv x r⟩
 |e O=>obtain⟨N,e1,k,r⟩:=h;exact⟨N,e.trans e1,k,RDs.mv x r⟩
 |f O=>obtain⟨N,e1,k,r⟩:=h;exact⟨N,e.trans e1,k,RDs.mv x r⟩
 |d y=>
  obtain⟨ps,e1,k,r,g⟩:=h;refine⟨ps,e.trans e1,k,λpos U S=>?_,g⟩;obtain⟨c,o,vs,t,q1,Q,P,R⟩:=r pos U S;exact⟨c,o,vs,t,q1,(x.b _ _ P Q).2,(x.b _ _ P Q).1,R⟩
def RD.mono(r:RD K mg ρ H v u)(x:Ext ρ H ρ' H'):RD K mg ρ' H' v u:=RD.mv x.mv r
def RDs.mono(r:RDs K mg ρ H v u)(x:Ext ρ H ρ' H'):RDs K mg ρ' H' v u:=RDs.mv x.mv r
section
variable {K:KF}{mg:Str->Option Value}{ρ ρ' ρ'':Own}{H H' H'':L2.Hp}{s s':Sto}
theorem RDs.length(q:RDs K mg ρ H vs xs):vs.length=xs.length:=by
 cases q with
 |d=>rfl
 |a _ r=>rw[AH,AH,r.length]
theorem RDs.get{i:Nat}(q:RDs K mg ρ H vs xs)(e:vs[i]?=some v):∃x,xs[i]?=some x/\RD K mg ρ H v x:=by
 cases q with
 |d=>cases e
 |a r N=>
  cases i with
  |zero=>cases e;exact⟨_,rfl,r⟩
  |succ i=>exact RDs.get (i:=i) N e
theorem RDs.append(p:RDs K mg ρ H vs xs)(q:RDs K mg ρ H ws ys):RDs K mg ρ H (vs++ws) (xs++ys):=by
 cases p with
 |d=>exact q
 |a r x=>exact .a r (x.append q)
theorem RDs.take n(q:RDs K mg ρ H vs xs):RDs K mg ρ H (vs.take n) (xs.take n):=by
 cases n with
 |zero=>exact .d
 |succ n=>cases q with
  |d=>exact .d
  |a r x=>exact .a r (x.take n)
theorem RDs.drop n(q:RDs K mg ρ H vs xs):RDs K mg ρ H (vs.drop n) (xs.drop n):=by
 cases n with
 |zero=>exact q
 |succ n=>cases q with
  |d=>exact .d
  |a _ x=>exact x.drop n
theorem RDs.set(r:RD K mg ρ H v x)i(q:RDs K mg ρ H vs xs):RDs K mg ρ H (vs.set i v) (xs.set i x):=by
 cases q with
 |d=>exact .d
 |a q t=>cases i with
  |zero=>exact .a r t
  |succ i=>exact .a q (RDs.set r i t)
theorem RDs.rep(r:RDs K mg ρ H vs xs):∀k:Nat,RDs K mg ρ H (An k vs).flatten (An k xs).flatten
 |0=>.d
 |k+1=>by rw[B7,B7,CK,CK];exact r.append (RDs.rep r k)
theorem RDs.pick(r:RDs K mg ρ H vs xs):∀(is:List Nat),RDs K mg ρ H (is.filterMap λi=>vs[i]?) (is.filterMap λi=>xs[i]?)
 |[]=>.d
 |i::is=>by
  rw[A3,A3];cases hx:vs[i]? with
  |none=>
   have:xs[i]?=none:=by have N:vs.length<=i:=CM.mp hx;exact CM.mpr (by rw[<-r.length];exact N)
   rw[this];exact RDs.pick r is
  |some v=>
   obtain⟨u,hu,x⟩:=r.get hx;rw[hu];exact .a x (RDs.pick r is)
theorem RDs.zo(r:RDs K mg ρ H vs xs)lo st n:RDs K mg ρ H (L2.zo vs lo st n) (L2.zo xs lo st n):=by have h:=r.pick ((Av n).map λ(k:Nat)=>(lo+(k:Int)*st).toNat);rw[Cf,Cf]at h;exact h
theorem RDs.ints:∀(ns:List Int),RDs K mg ρ H (ns.map .c) (ns.map .d)
 |[]=>.d
 |n::ns=>.a (.l n) (RDs.ints ns)
def RDs.cut(r:RDs K mg ρ H vs xs)lo hi:RDs K mg ρ H (uy vs lo hi) (L2.oE xs lo hi):=by unfold uy L2.oE;rw[r.length];exact(r.drop _).take _
theorem bt{N:Type}:∀{l:List N} {i j:Nat} {x},l.Nodup->l[i]?=some x->l[j]?=some x->i=j
 |[],_,_,_,_,e,_=>by simp at e
 |a::l,0,0,_,_,_,_=>rfl
 |a::l,0,j+1,x,nd,e1,e2=>by
  simp at e1 e2;subst e1;exact absurd (A4 e2) (B6.mp nd).1
 |a::l,i+1,0,x,nd,e1,e2=>by
  simp at e1 e2;subst e2;exact absurd (A4 e1) (B6.mp nd).1
 |a::l,i+1,j+1,x,nd,e1,e2=>by simp at e1 e2;rw[bt (B6.mp nd).2 e1 e2]
theorem Ext.new(h:HR K mg ρ s H)(hp:H p=none)o:Ext ρ H ρ (L2.upd H p o):=
 ⟨⟨[],by simp,λa x=>by cases x⟩,rfl,λa u e _=>by rw[L2.zG (L2.zN e hp)];exact e,λa x=>by rw[L2.zG λz=>(h.new hp).1 (by rw[<-z];exact x)]⟩
def HR.more(h:HR K mg ρ s H)(hp:H p=none)o:HR K mg ρ s (L2.upd H p o):=by
 refine⟨h.f,h.v,λi c e=>?_,λa N=>?_⟩
 . obtain⟨a,e1,r⟩:=h.m i c e
   obtain⟨u,e2⟩:=r.there;exact⟨a,e1,r.mv (Ext.new h hp o).mv (L2.zG (L2.zN e2 hp))⟩
 . obtain⟨⟨x,e⟩,n⟩:=h.d a N
   exact⟨⟨x,by rw[L2.zG (L2.zN e hp)];exact e⟩,n⟩
noncomputable def Own.more(ρ:Own)(p:Addr):Own:=⟨ρ.o++[p],ρ.h⟩
def Ext.own(h:HR K mg ρ s H)(hp:H p=none)o:Ext ρ H (ρ.more p) (L2.upd H p o):=
 ⟨⟨[p],rfl,λa x=>by rw[AU.mp x];exact hp⟩,rfl,λa u e _=>by rw[L2.zG (L2.zN e hp)];exact e,λa x=>by rw[L2.zG λz=>(h.new hp).1 (by rw[<-z];exact x)]⟩
def qO(h:HR K mg ρ s H)p:(ρ.more p).o[s.length]?=some p:=by show (ρ.o++[p])[s.length]?=some p;rw[<-h.f,Bz (Ad _)];simp
def HR.wk(h:HR K mg ρ s H)(hp:H p=none)(r:CR K mg (ρ.more p) (L2.upd H p o) p c):HR K mg (ρ.more p) (s++[c]) (L2.upd H p o):=by
 have X:=Ext.own h hp o;refine⟨by show (ρ.o++[p]).length=_;rw[Ao,Ao,h.f];rfl,?_,λi ws q=>?_,λa O=>?_⟩
 . show (ρ.o++[p]).Nodup
   rw[FG];exact⟨h.v,by simp,λa O b P=>by rw[AU.mp P];intro z;subst z;exact(h.new hp).1 O⟩
 . by_cases hi:i<s.length
   . rw[A2 hi]at q
     obtain⟨a,e1,t⟩:=h.m i ws q;obtain⟨u,e2⟩:=t.there;exact⟨a,X.get e1,t.mv X.mv (L2.zG (L2.zN e2 hp))⟩
   . have N:i=s.length:=by have:=(Au.mp q).1;rw[Ao]at this;simp at this;omega
     subst N;rw[Bz (Ad _)]at q;simp at q;subst q;exact⟨p,qO h p,r⟩
 . obtain⟨⟨ys,q⟩,n⟩:=h.d a O
   refine⟨⟨ys,by rw[L2.zG (L2.zN q hp)];exact q⟩,λx=>?_⟩
   rcases AD.mp x with x|x
   . exact n x
   . rw[AU.mp x,hp]at q;cases q
theorem HR.own(h:HR K mg ρ s H)(hp:H p=none)(r:RDs K mg ρ H vs xs):HR K mg (ρ.more p) (s++[.c vs]) (L2.upd H p (.b xs)):=h.wk hp ⟨xs,L2.zK,r.mono (Ext.own h hp _)⟩
def Ext.rR(h:HR K mg ρ s H){i:Nat}(e:ρ.o[i]?=some a)(k:hk (some o)=hk (H a)):Ext ρ H ρ (L2.upd H a o):=
 ⟨⟨[],by simp,λa x=>by cases x⟩,rfl,λb u q n=>by rw[L2.zG (λz=>n (by rw[z];exact A4 e))];exact q,λb N=>by
   by_cases z:b=a
   . subst z;rw[L2.zK];exact k
   . rw[L2.zG z]⟩
def Ext.write(h:HR K mg ρ s H){i:Nat}(e:ρ.o[i]?=some a)(k:H a=some (.b ys))xs:Ext ρ H ρ (L2.upd H a (.b xs)):=Ext.rR h e (by rw[k];rfl)
theorem HR.rR(h:HR K mg ρ s H)(e:ρ.o[i]?=some a)(k:hk (some o)=hk (H a))(r:CR K mg ρ (L2.upd H a o) a c):HR K mg ρ (s.set i c) (L2.upd H a o):=by
 have X:=Ext.rR h e k;refine⟨by rw[BP];exact h.f,h.v,λj ws q=>?_,λb x=>?_⟩
 . skip
   by_cases hij:i=j
   . subst hij
     have hi:i<s.length:=by rw[<-h.f];exact(Au.mp e).1
     rw[AQ hi]at q;cases q;exact⟨a,e,r⟩
   . rw[Bq hij]at q
     obtain⟨b,e1,t⟩:=h.m j ws q;refine⟨b,e1,t.mv X.mv ?_⟩;have x:b≠a:=by intro z;subst z;exact hij (bt h.v e e1)
     rw[L2.zG x]
 . obtain⟨⟨ys,q⟩,n⟩:=h.d b x
   exact⟨⟨ys,by rw[L2.zG (λz=>n (by rw[z];exact A4 e))];exact q⟩,n⟩
theorem HR.write(h:HR K mg ρ s H)(e:ρ.o[i]?=some a)(k:H a=some (.b ys))(r:RDs K mg ρ H vs xs):HR K mg ρ (upd s i vs) (L2.upd H a (.b xs)):=
 h.rR e (by rw[k];rfl) ⟨xs,L2.zK,r.mono (Ext.write h e k xs)⟩
theorem ER.mono(x:Ext ρ H ρ' H')(h:ER K mg ρ H env σ):ER K mg ρ' H' env σ:=⟨h.b,λi v e=>by obtain⟨u,h1,N⟩:=h.a i v e;exact⟨u,h1,N.mono x⟩⟩
theorem ER.set(h:ER K mg ρ H env σ)i(r:RD K mg ρ H v x):ER K mg ρ H (env.set i (some v)) (σ.set i (some x)):=by
 refine⟨by rw[BP,BP,h.b],λj w e=>?_⟩
 by_cases hij:i=j
 . subst hij
   by_cases hi:i<env.length
   . rw[AQ hi]at e
     cases e;exact⟨x,by rw[AQ (by rw[<-h.b];exact hi)],r⟩
   . rw[Bb (by rw[BP];omega)]at e
     cases e
 . rw[Bq hij]at e
   rw[Bq hij];exact h.a j w e
end
section
variable (K:KF)(mg:Str->Option Value)
def yU{O N:Type}(R:Own->L2.Hp->O->N->Prop)(ρ:Own)(H:L2.Hp)(o:Out O)(Q:N->L2.Hp->Prop):Prop:=
 match o with
 |.e v s'=>∀ρ' x H',Ext ρ H ρ' H'->HR K mg ρ' s' H'->R ρ' H' v x->Q x H'
 |_=>False
def tV(env:Env)(s:Sto)(o:Out Val):L2.TE:=λσ H Q=>∃ρ,HR K mg ρ s H/\ER K mg ρ H env σ/\yU K mg (RD K mg) ρ H o Q
def tVs(env:Env)(s:Sto)(o:Out (List Val)):L2.TA:=λσ H Q=>∃ρ,HR K mg ρ s H/\ER K mg ρ H env σ/\yU K mg (RDs K mg) ρ H o Q
def tT(env:Env)(s:Sto)(o:Out Bool):L2.TT:=λσ H Q=>∃ρ,HR K mg ρ s H/\ER K mg ρ H env σ/\yU K mg (λ_ _ a b=>a=b) ρ H o Q
def tO(env:Env)(s:Sto)(o:Out (Option Int)):L2.TO:=λσ H Q=>∃ρ,HR K mg ρ s H/\ER K mg ρ H env σ/\yU K mg (λ_ _ a b=>a=b) ρ H o Q
end
def zX(h:L2.PE X e t)(i:∀σ H Q,t' σ H Q->t σ H Q):L2.PE X e t':=λpins s σ H Q I q=>h pins s σ H Q I (i σ H Q q)
def uC(h:L2.PT X e t)(i:∀σ H Q,t' σ H Q->t σ H Q):L2.PT X e t':=λpins s σ H Q I q=>h pins s σ H Q I (i σ H Q q)
def aR{t t':L2.TA}(h:L2.PA X es t)(i:∀σ H Q,t' σ H Q->t σ H Q):L2.PA X es t':=λpos pins s σ H Q I q=>h pos pins s σ H Q I (i σ H Q q)
def yT{t t':L2.TS}(h:L2.PS X st t)(i:∀D σ H,t' D σ H->t D σ H):L2.PS X st t':=λpins s σ H D I q=>h pins s σ H D I (i D σ H q)
def xu{t t':L2.TS}(h:L2.PSs X st t)(i:∀D σ H,t' D σ H->t D σ H):L2.PSs X st t':=λpins s σ H D I q=>h pins s σ H D I (i D σ H q)
def yY(h:∀σ H Q,¬t σ H Q):L2.PE X e t:=λpins s σ H Q I q=>(h σ H Q q).elim
def gG(h:∀σ H Q,¬t σ H Q):L2.PT X e t:=λpins s σ H Q I q=>(h σ H Q q).elim
def Ri(h:∀σ H Q,¬t σ H Q):L2.PW X e t:=λx pins s σ H Q I q=>(h σ H Q q).elim
def RW{t:L2.TA}(h:∀σ H Q,¬t σ H Q):L2.PA X es t:=λpos pins s σ H Q I q=>(h σ H Q q).elim
def QE(h:∀v s',o≠.e v s'):¬tV K mg env s o σ H Q:=by
 rintro ⟨ρ,_,_,w⟩;cases o with
 |e v s'=>exact h v s' rfl
 |_=>exact w
def TL(h:∀v s',o≠.e v s'):¬tVs K mg env s o σ H Q:=by
 rintro ⟨ρ,_,_,w⟩;cases o with
 |e v s'=>exact h v s' rfl
 |_=>exact w
def Wi(h:∀v s',o≠.e v s'):¬tT K mg env s o σ H Q:=by
 rintro ⟨ρ,_,_,w⟩;cases o with
 |e v s'=>exact h v s' rfl
 |_=>exact w
def y0:zZ=Ar:=by rw[AI];rfl
section
variable {K:KF}{mg:Str->Option Value}{ρ ρ':Own}{H H':L2.Hp}{s s':Sto}
def vO(O:HR K mg ρ s H)(r:RD K mg ρ H v x)(e:yd s v=some vs):∃a N,x=.c a/\H a=some (.b N)/\RDs K mg ρ H vs N:=by
 cases r with
 |E n h q=>cases e;exact⟨_,_,rfl,h,q⟩
 |@C a i h _=>
  simp only[yd]at e;split at e
  . rename_i ws hw
    cases e;obtain⟨b,N,e1,e2,q⟩:=O.obj i _ hw;rw[h]at e1;cases e1;exact⟨_,_,rfl,e2,q⟩
  . cases e
 |_=>cases e
def mq(O:HR K mg ρ s H)(r:RD K mg ρ H v x)(e:wI s v=some vs):∃a N,x=.c a/\(L2.SqL K H a N\/L2.SqT K H a N)/\RDs K mg ρ H vs N:=by
 cases r with
 |E n h q=>cases e;exact⟨_,_,rfl,.inl (.of h),q⟩
 |m n h q=>cases e;exact⟨_,_,rfl,.inr (.of h),q⟩
 |p h=>cases e;exact⟨_,_,rfl,.inr h.sqt,RDs.ints _⟩
 |F h=>cases e;exact⟨_,_,rfl,.inl h.sql,RDs.ints _⟩
 |@C a i h _=>
  simp only[wI]at e;split at e
  . rename_i ws hw
    cases e;obtain⟨b,N,e1,e2,q⟩:=O.obj i _ hw;rw[h]at e1;cases e1;exact⟨_,_,rfl,.inl (.of e2),q⟩
  . cases e
 |_=>cases e
mutual
theorem RD.reads{P:Program}{w:World}{h:Heap}(ok:L2.HOk P w H h){v:Val}{x:L2.V}{u:Value}(q:RD K mg ρ H v x)(N:v.isR=true)(r:L2.RelV x u):∃as,Reads h u v.d as/\(L2.xN v.d=false->B9 ∉ as):=by
 cases q with
 |A=>cases (show u=Bg from r);exact⟨[],.none,λ_=>by simp⟩
 |j b=>cases (show u=Dc b from r);exact⟨[],.bool b,λ_=>by simp⟩
 |l i=>obtain⟨t,q⟩:=(show ∃t,u=Gd i t from r);cases q;exact⟨[],.int i t,λ_=>by simp⟩
 |D x=>obtain⟨t,q⟩:=(show ∃t,u=Ge x t from r);cases q;exact⟨[],.str x t,λ_=>by simp⟩
 |@E a vs R n Q S=>
  cases (show u=AO a from r);obtain⟨z,its,n,O,e⟩:=(show L2.z0 P w H h a (.b R) from ok a _ Q);obtain⟨as,q,_⟩:=RDs.reads ok S (by simpa only[Val.isR] using N) O
  exact⟨a::as,.list e rfl rfl (by simpa using q),λz=>by simp[Val.d,L2.xN]at z⟩
 |@m a vs R n Q S=>
  cases (show u=AO a from r);obtain⟨z,its,O,o,e,c,n,dd⟩:=(show L2.z0 P w H h a (.c R) from ok a _ Q);obtain⟨as,q,Y⟩:=RDs.reads ok S (by simpa only[Val.isR] using N) O
  exact⟨as,.tuple e c dd.1 (by simpa using q),λz=>Y (by simpa [Val.d,L2.xN] using z)⟩
 |@B a n Q=>
  cases (show u=AO a from r);obtain⟨z,y,vs,O,o,es,Z,e,c,dd,k⟩:=(show L2.z0 P w H h a (.i []) from ok a _ Q);cases O;have U:es=#[]:=by
   have W:=k.2.1;cases hl:es.toList with
   |nil=>simpa using hl
   |cons a r=>rw[hl]at W;cases W
  subst U;refine⟨[a]++[],Reads.dict (as:=[]) (bs:=[]) e c.1 dd .nil .nil,λ_=>?_⟩;have:a≠B9:=by simpa using y
  simpa using A6 this
 |p _=>cases N
 |F _=>cases N
 |C _ _=>cases N
 |s _ _=>cases N
 |G _ _=>cases N
 |I _=>cases N
 |J _=>cases N
theorem RDs.reads{P:Program}{w:World}{h:Heap}(ok:L2.HOk P w H h){vs:List Val}{O:List L2.V}{us:List Value}(p:RDs K mg ρ H vs O)(N:v5 vs=true)(q:L2.Vals O us):∃as,ReadsAll h us (ds vs) as/\(L2.xl (ds vs)=false->B9 ∉ as):=by
 cases p with
 |d=>cases q;exact⟨[],.nil,λ_=>by simp⟩
 |a r Q=>
  cases q with
  |cons q1 R=>
   rw[v5,cf]at N;obtain⟨as,h1,W⟩:=RD.reads ok r N.1 q1;obtain⟨bs,U,S⟩:=RDs.reads ok Q N.2 R;refine⟨as++bs,.cons h1 U,λz=>?_⟩;rw[ds,L2.xl,ES]at z;intro x;rcases AD.mp x with x|x
   . exact W z.1 x
   . exact S z.2 x
end
def tm(ok:L2.HOk P w H h)(S:HR K mg ρ s H)(N:(yg s v).isR=true)(r:RD K mg ρ H v x)(O:L2.RelV x u) :
 ∃as,Reads h u (yg s v).d as/\(L2.xN (yg s v).d=false->B9 ∉ as):=by
 cases v with
 |m i=>
  cases r with
  |@C a _ e0=>
  simp only[yg]at N ⊢;split at N
  . rename_i ws hw
    obtain⟨b,Q,e1,e2,q⟩:=S.obj i _ hw;rw[e0]at e1;cases e1;cases (show u=AO a from O);obtain⟨z,its,n,R,e⟩:=(show L2.z0 P w H h a (.b Q) from ok a _ e2);obtain⟨as,q,_⟩:=RDs.reads ok q (by simpa only[Val.isR] using N) R
    exact⟨a::as,.list e rfl rfl (by simpa using q),λz=>by simp[Val.d,L2.xN]at z⟩
  . cases N
 |_=>exact RD.reads ok r N O
theorem RDs.ZE(ok:L2.HOk P w H h)(N:HR K mg ρ s H):∀{vs} {xs} {us},RDs K mg ρ H vs xs->v5 (vs.map (yg s))=true->L2.Vals xs us->∃as,ReadsAll h us (ds (vs.map (yg s))) as/\(L2.xl (ds (vs.map (yg s)))=false->B9 ∉ as)
 |_,_,_,.d,_,r=>by cases r;exact⟨[],.nil,λ_=>by simp⟩
 |_,_,_,.a r rs,hv,q=>by
  cases q with
  |cons q1 O=>
   rw[AW,v5,cf]at hv;obtain⟨as,h1,S⟩:=tm ok N hv.1 r q1;obtain⟨bs,R,Q⟩:=RDs.ZE ok N rs hv.2 O;rw[AW];refine⟨as++bs,.cons h1 R,λz=>?_⟩;rw[ds,L2.xl,ES]at z;intro x;rcases AD.mp x with x|x
   . exact S z.1 x
   . exact Q z.2 x
def d6{v:Val}(h:∀vs,v≠.f vs):zq s v=yg s v:=by
 cases v<;>first|rfl|exact absurd rfl (h _)
def xC(ok:L2.HOk P w H h)(Q:HR K mg ρ s H)(N:(zq s v).isR=true)(r:RD K mg ρ H v x)(O:L2.RelV x u) :
 ∃as,Reads h u (zq s v).d as/\(L2.xN (zq s v).d=false->B9 ∉ as):=by
 cases v with
 |f vs=>
  cases r with
  |@m a _ R n Y U=>
   cases (show u=AO a from O);obtain⟨z,its,S,o,e,c,n,dd⟩:=(show L2.z0 P w H h a (.c R) from ok a _ Y);obtain⟨as,q,W⟩:=RDs.ZE ok Q U (by simpa only[zq,Val.isR] using N) S
   exact⟨as,.tuple e c dd.1 (by simpa using q),λz=>W (by simpa [zq,Val.d,L2.xN] using z)⟩
 |_=>exact(show _ from by rw[d6 (λ_ h=>by cases h)]at N ⊢;exact tm ok Q N r O)
mutual
theorem y9:∀{v:Val},v.isD=true->v.isR=true
 |.j,_=>rfl
 |.e _,_=>rfl
 |.c _,_=>rfl
 |.g _,_=>rfl
 |.f vs,h=>by rw[Val.isR];exact vK (by simpa only[Val.isD] using h)
 |.h vs,h=>by rw[Val.isR];exact vK (by simpa only[Val.isD] using h)
 |.p,h=>by cases h
 |.o _,h=>by cases h
 |.r _,h=>by cases h
 |.m _,h=>by cases h
 |.u _,h=>by cases h
 |.t _,h=>by cases h
theorem vK:∀{vs:List Val},u6 vs=true->v5 vs=true
 |[],_=>rfl
 |v::vs,h=>by rw[u6,cf]at h;rw[v5,y9 h.1,vK h.2];rfl
end
mutual
theorem yB:∀{v:Val},v.isD=true->v.d.canLay0=true
 |.j,_=>rfl
 |.e _,_=>rfl
 |.c _,_=>rfl
 |.g _,h=>by simpa only[Val.isD,Val.d,Gx] using h
 |.f vs,h=>by rw[Val.d,Gx];exact wD (by simpa only[Val.isD] using h)
 |.h vs,h=>by rw[Val.d,Gx];exact wD (by simpa only[Val.isD] using h)
 |.p,h=>by cases h
 |.o _,h=>by cases h
 |.r _,h=>by cases h
 |.m _,h=>by cases h
 |.u _,h=>by cases h
 |.t _,h=>by cases h
theorem wD:∀{vs:List Val},u6 vs=true->PyData.canLayAll0 (ds vs)=true
 |[],_=>rfl
 |v::vs,h=>by rw[u6,cf]at h;rw[ds,PyData.canLayAll0,yB h.1,wD h.2];rfl
end
def vQ(x:HR K mg ρ s H)(r:RDs K mg ρ H vs xs)(w:yU K mg (RD K mg) ρ H (newList m vs s) Q):∀p,H p=none->Q (.c p) (L2.upd H p (.b xs)):=λp hp=>by
 cases m with
 |true=>exact w _ _ _ (Ext.own x hp _) (x.own hp r) (.C (qO x p) (by rw[L2.zK];rfl))
 |false=>exact w _ _ _ (Ext.new x hp _) (x.more hp _) (.E (x.new hp) L2.zK (r.mono (Ext.new x hp _)))
def mP(x:HR K mg ρ s H)(r:RDs K mg ρ H vs xs)(w:yU K mg (RD K mg) ρ H (.e (.f vs) s) Q):∀p,H p=none->Q (.c p) (L2.upd H p (.c xs)):=λp hp=>
 w _ _ _ (Ext.new x hp _) (x.more hp _) (.m (x.new hp) L2.zK (r.mono (Ext.new x hp _)))
def Ext.same(N:HR K mg ρ s H)(e:L2.wK H H'):Ext ρ H ρ H':=⟨⟨[],by simp,λa x=>by cases x⟩,rfl,λa o h _=>e a o h,λa x=>by obtain⟨o,q⟩:=N.trk x;rw[q,e a o q]⟩
theorem HR.same(x:HR K mg ρ s H)(e:L2.wK H H'):HR K mg ρ s H':=⟨x.f,x.v,λi c q=>by
 obtain⟨a,e1,r⟩:=x.m i c q;obtain⟨o,e2⟩:=r.there;exact⟨a,e1,r.mv (Ext.same x e).mv ((e a _ e2).trans e2.symm)⟩,λa N=>by
 obtain⟨⟨ys,q⟩,n⟩:=x.d a N;exact⟨⟨ys,e a _ q⟩,n⟩⟩
def sC(N:HR K mg ρ s H)(r:RDs K mg ρ H vs xs)(w:yU K mg (RD K mg) ρ H (.e (.f vs) s) Q):L2.rS H xs Q:=λp H' e h=>by
 have x:=N.same e;refine w _ _ _ (Ext.same N e) x (.m ⟨λO=>?_,λO=>?_⟩ h (r.mono (Ext.same N e)))
 . obtain⟨i,hi,q⟩:=BI O
   have hs:i<s.length:=by rw[<-x.f];exact hi
   obtain⟨b,e1,e2⟩:=x.m i _ (Ab hs);rw[Ab hi,q]at e1;cases e1;have:=e2.hk;rw[h]at this;exact absurd this (Bc 0)
 . obtain⟨⟨ys,q⟩,_⟩:=x.d _ O
   rw[h]at q;cases q
end
section
variable (K:KF)(mg:Str->Option Value)
def rM2(g:Val->Val->Sto->Out Val):L2.R2:=λx y H Q=>∃ρ s v w,HR K mg ρ s H/\RD K mg ρ H v x/\RD K mg ρ H w y/\yU K mg (RD K mg) ρ H (g v w s) Q
def rMc(g:List Val->Sto->Out Val):List L2.V->L2.Hp->L2.VK->Prop:=λx H Q=>∃ρ s vs,HR K mg ρ s H/\RDs K mg ρ H vs x/\yU K mg (RD K mg) ρ H (g vs s) Q
end
def zO(N:HR K mg ρ s H)(r:RD K mg ρ H v x)(w:yU K mg (RD K mg) ρ H (.e v s) Q):Q x H:=w _ _ _ Ext.refl N r
def jR m:L2.OpR X (BG .Add) (rM2 X.K X.d (binOp m .a)):=by
 intro pins s σ H x y v u Q I R P h;obtain⟨ρ,t,a,b,N,U,S,w⟩:=h;simp only[binOp]at w;split at w
 . cases U;cases S
   exact L2.UH pins s σ H _ _ v u Q I R P ⟨_,_,rfl,rfl,zO N (.l _) w⟩
 . split at w
   . rename_i hz
     cases U;cases S;exact L2.pN pins s σ H _ _ v u Q I R P ⟨_,_,rfl,rfl,by rw[<-y0];exact hz,zO N (.D _) w⟩
   . exact w.elim
 . split at w
   . rename_i hz
     cases U with
     |m n1 h1 q1=>
      cases S with
      |m n2 W O=>
       refine L2.aD pins s σ H _ _ v u Q I R P ⟨_,_,_,_,rfl,rfl,h1,W,?_,sC N (q1.append O) w⟩;rw[<-q1.length,<-O.length,<-y0];exact hz
   . exact w.elim
 . split at w
   . rename_i ea eb
     split at w
     . rename_i hz
       obtain⟨p1,Y,rfl,h1,q1⟩:=vO N U ea;obtain⟨p2,ys,rfl,W,O⟩:=vO N S eb;refine L2.jX pins s σ H _ _ v u Q I R P ⟨_,_,_,_,rfl,rfl,h1,W,?_,vQ N (q1.append O) w⟩;rw[<-q1.length,<-O.length,<-y0];exact hz
     . exact w.elim
   . exact w.elim
def jW m:L2.OpR X (BG .Sub) (rM2 X.K X.d (binOp m .d)):=by
 intro pins s σ H x y v u Q I O N h;obtain⟨ρ,t,a,b,S,R,P,w⟩:=h;simp only[binOp]at w;split at w
 . cases R;cases P
   exact L2.UM pins s σ H _ _ v u Q I O N ⟨_,_,rfl,rfl,zO S (.l _) w⟩
 . exact w.elim
def jU m:L2.OpR X (BG .Mult) (rM2 X.K X.d (binOp m .c)):=by
 intro pins s σ H x y v u Q I R P h;obtain⟨ρ,t,a,b,N,U,S,w⟩:=h;simp only[binOp]at w;split at w
 . split at w
   . rename_i hz
     cases U;cases S;exact L2.UJ pins s σ H _ _ v u Q I R P ⟨_,_,rfl,rfl,hz,zO N (.l _) w⟩
   . exact w.elim
 . split at w
   . rename_i hz
     obtain⟨Y,W,O,Z⟩:=hz;cases U with
     |m n1 h1 q1=>
      cases S;refine L2.Yx pins s σ H _ _ v u Q I R P ⟨_,_,_,rfl,rfl,h1,Y,W,?_,?_,sC N (q1.rep _) w⟩
      . intro e;subst e;cases q1;exact O rfl
      . rw[<-q1.length];exact Z
   . exact w.elim
 . split at w
   . rename_i ea
     split at w
     . rename_i hz
       obtain⟨Y,W,O⟩:=hz;obtain⟨p1,xs,rfl,h1,q1⟩:=vO N U ea;cases S;refine L2.UL pins s σ H _ _ v u Q I R P ⟨_,_,_,rfl,rfl,h1,⋯,⋯,?_,vQ N (q1.rep _) w⟩
       rw[<-q1.length,<-y0];exact O
     . exact w.elim
   . exact w.elim
 . exact w.elim
def lz m:L2.OpR X (BG .FloorDiv) (rM2 X.K X.d (binOp m .e)):=by
 intro pins s σ H x y v u Q I O N h;obtain⟨ρ,t,a,b,S,R,P,w⟩:=h;simp only[binOp]at w;split at w
 . split at w
   . rename_i hz
     cases R;cases P;exact L2.Yw pins s σ H _ _ v u Q I O N ⟨_,_,rfl,rfl,hz,zO S (.l _) w⟩
   . exact w.elim
 . exact w.elim
def jT m:L2.OpR X (BG .Mod) (rM2 X.K X.d (binOp m .b)):=by
 intro pins s σ H x y v u Q I O N h;obtain⟨ρ,t,a,b,S,R,P,w⟩:=h;simp only[binOp]at w;split at w
 . split at w
   . rename_i hz
     cases R;cases P;exact L2.UI pins s σ H _ _ v u Q I O N ⟨_,_,rfl,rfl,hz,zO S (.l _) w⟩
   . exact w.elim
 . exact w.elim
def jV m:L2.OpR X (BG .Pow) (rM2 X.K X.d (binOp m .f)):=by
 intro pins s σ H x y v u Q I O N h;obtain⟨ρ,t,a,b,S,R,P,w⟩:=h;simp only[binOp]at w;split at w
 . split at w
   . rename_i hz
     cases R;cases P;exact L2.UK pins s σ H _ _ v u Q I O N ⟨_,_,rfl,rfl,hz,zO S (.l _) w⟩
   . exact w.elim
 . exact w.elim
end M
end
section
namespace L2
open PySem PyProof PyProof.Rows
section
variable {κ:Type} [DecidableEq κ]
theorem KV.length{x:List (κ × V)}{vs:List (κ × Value)}(r:KV x vs):x.length=vs.length:=GJ r
end
def Inv.big(I:Inv X pins σ H s):B9<s.heap.objs.size:=by have h:AS<s.heap.objs.size:=(I.mod.c.keeps I.bk).lt;exact Nat.lt_trans (by decide) h
def d7(h:Heap)(x:B9<h.objs.size):z0 P w H (h.push {cls:=.type "dict",data:=.dict #[]}) h.objs.size (.i []):=
 ⟨Bj _,beq_eq_false_iff_ne.mpr (A6 (AL x)),[],.nil,Heap.DictOf.new h⟩
def d9(h:Heap)(x:B9<h.objs.size):z0 P w H (h.push {cls:=.type "dict",data:=.dict #[]}) h.objs.size (.l []):=
 ⟨Bj _,beq_eq_false_iff_ne.mpr (A6 (AL x)),[],.nil,_,#[],0,AF _ rfl,⟨rfl,rfl,rfl⟩,rfl,rfl,List.nodup_nil⟩
def TF:TE:=λ_ H Q=>∀p,H p=none->Q (.c p) (upd H p (.i []))
def TH:TE:=λ_ H Q=>∀p,H p=none->Q (.c p) (upd H p (.l []))
def aZ:PE X (.Dict [] [] pos) TF:=λpins s σ H Q I h=>
 FZ ⟨.c s.heap.objs.size,_,I.laid (a:=s.heap.objs.size) (o:=.i []) (t':=s.toks) (λ_ _ q=>Aa _ q) (Ad _) (d7 s.heap I.big),rfl,h _ (I.B.fresh (Ad _))⟩
def aa:PE X (.Dict [] [] pos) TH:=λpins s σ H Q I h=>
 FZ ⟨.c s.heap.objs.size,_,I.laid (a:=s.heap.objs.size) (o:=.l []) (t':=s.toks) (λ_ _ q=>Aa _ q) (Ad _) (d9 s.heap I.big),rfl,h _ (I.B.fresh (Ad _))⟩
end L2
end
section
namespace M
open PySem
section
variable {K:KF}{mg:Str->Option Value}{ρ:Own}{H:L2.Hp}{s:Sto}
def RO(K:KF)(mg:Str->Option Value)(ρ:Own)(H:L2.Hp):Option Val->Option L2.V->Prop
 |none,none=>True
 |some v,some x=>RD K mg ρ H v x
 |_,_=>False
theorem RO.isSome(h:RO K mg ρ H o o'):o'.isSome=o.isSome:=by
 cases o with
 |none=>cases o' with|none=>rfl|some _=>exact h.elim
 |some v=>cases o' with|none=>exact h.elim|some _=>rfl
end
theorem RDs.bools:∀{vs} {xs} {bs},RDs K mg ρ H vs xs->boolsOf vs=some bs->xs=bs.map L2.V.f
 |_,_,_,.d,h=>by cases h;rfl
 |_,_,_,.a r rs,h=>by
  cases r with
  |j b=>
   simp only[boolsOf,BF]at h;obtain⟨N,h1,x⟩:=h;subst x;rw[rs.bools h1];rfl
  |_=>cases h
theorem RDs.ou:∀{vs} {xs} {ns},RDs K mg ρ H vs xs->intsOf vs=some ns->xs=ns.map L2.V.d
 |_,_,_,.d,h=>by cases h;rfl
 |_,_,_,.a r rs,h=>by
  cases r with
  |l b=>
   simp only[intsOf,BF]at h;obtain⟨N,h1,x⟩:=h;subst x;rw[rs.ou h1];rfl
  |_=>cases h
def Z1(r:RDs K mg ρ H vs xs)(h:L2.atI vs i=some v):∃x,L2.atI xs i=some x/\RD K mg ρ H v x:=by unfold L2.atI at h ⊢;rw[<-r.length];obtain⟨j,h1,P⟩:=D3.mp h;obtain⟨x,O,N⟩:=r.get P;exact⟨x,by rw[h1];exact O,N⟩
def Zh(O:HR K mg ρ s H)(r:RD K mg ρ H v x)(h:truth s v=some b):L2.Zy K x H b:=by
 have hz:∀{vs:List Val} {N:List L2.V},RDs K mg ρ H vs N->vs.isEmpty=N.isEmpty:=λr=>by cases r<;>rfl
 cases r with
 |A=>cases h;rfl
 |j b=>cases h;rfl
 |l i=>cases h;rfl
 |D x=>
  simp only[truth]at h;split at h
  . cases h
    rename_i q;exact⟨by rw[<-y0];exact q,rfl⟩
  . cases h
 |m n e q=>cases h;exact .inr (.inl ⟨_,.of e,by rw[hz q]⟩)
 |E n e q=>cases h;exact .inl ⟨_,.of e,by rw[hz q]⟩
 |B n e=>cases h;exact .inr (.inr ⟨_,e,rfl⟩)
 |p _=>cases h
 |F _=>cases h
 |@C a i e _=>
  simp only[truth]at h;split at h
  . rename_i ws hw
    cases h;obtain⟨c,N,e1,e2,q⟩:=O.obj i _ hw;rw[e]at e1;cases e1;exact .inl ⟨_,.of e2,by rw[hz q]⟩
  . cases h
 |I _=>cases h
 |J _=>cases h
 |s _ _=>cases h
 |G _ _=>cases h
def QH(O:HR K mg ρ s H)(r:RD K mg ρ H v x)(h:kindOf v=some a):(L2.tW K H x (.type a.nm)):=by
 cases r with
 |A=>cases h;exact .d
 |j b=>cases h;exact .bl b
 |l i=>cases h;exact .c i
 |D x=>cases h;exact .f x
 |m n e q=>cases h;exact .g e
 |E n e q=>cases h;exact .b e
 |B n e=>cases h;exact .dK e
 |C e k=>
  cases h;obtain⟨N,q⟩:=cu k;exact .b q
 |_=>cases h
def Sq(h:v8 n=some c):n=c.nm/\c≠.f:=by unfold v8 at h;split at h<;>first|(cases h;exact⟨rfl,by decide⟩)|cases h
section
variable {X:L2.Cx}{k:Nat}
def Sy(h:tH d=true):L2.Xz d:=by
 unfold tH at h;simp only[cf,decide_eq_true_eq,Ay,AK]at h;obtain⟨⟨⟨⟨h1,P⟩,O⟩,N⟩,x⟩:=h;have L:L2.vk d.depth d.weight d:=⟨h1,P,Ad _,Ad _⟩;refine L.R0 O N λz=>?_;rcases x with x|x
 . rw[x]at z;cases z
 . exact x
def fU(O:L2.xH k X.A):L2.OpR X (BC .Eq) (rM2 X.K X.d (zR .a)):=by
 intro pins s σ H x y v u Q I R P h;obtain⟨ρ,t,a,b,N,U,S,w⟩:=h;simp only[zR,uz]at w;split at w
 . rename_i p q
   cases U;cases S;have e:decide (L2.V.e p=L2.V.e q)=decide (p=q):=by rw[De];simp
   refine L2.WM pins s σ H _ _ v u Q I R P ⟨rfl,?_⟩;rw[e];exact zO N (.j _) w
 . rename_i a ns
   cases S with
   |p g=>
    by_cases hc:((zq t (.f a)).isD&&(Val.f (ns.map .c)).isD&&decide ((Val.f (ns.map .c)).d.depth<=60))=true
    . rw[if_pos hc]at w
      simp only[cf,decide_eq_true_eq]at hc;obtain⟨as,r1,_⟩:=xC I.B N (y9 hc.1.1) U R;obtain⟨its,Z,p1,_⟩:=I.tuple g.sqt;obtain⟨o,ho,Y,n,hd⟩:=id p1;obtain⟨bs,q,_⟩:=RDs.reads I.B (RDs.ints (K:=X.K) (mg:=X.d) (ρ:=ρ) (H:=H) ns) (y9 hc.1.2) Z;have W:Reads s.heap u (Val.f (ns.map .c)).d bs:=by cases P;exact .tuple ho Y hd (by simpa using q)
      have hu:=O.b;have hm:=Ek (zq t (.f a)).d.depth (Val.f (ns.map .c)).d.depth;exact SeqAt.compareEq_reads r1 W (yB hc.1.1) (yB hc.1.2) ⋯ ⟨.f _,H,I,rfl,zO N (.j _) w⟩
    . rw[if_neg hc]at w;exact w.elim
 . by_cases hc:((zq t a).isD&&(zq t b).isD&&decide ((zq t b).d.depth<=60))=true
   . rw[if_pos hc]at w
     simp only[cf,decide_eq_true_eq]at hc;obtain⟨as,r1,_⟩:=xC I.B N (y9 hc.1.1) U R;obtain⟨bs,W,_⟩:=xC I.B N (y9 hc.1.2) S P;have hu:=O.b;have hm:=Ek (zq t a).d.depth (zq t b).d.depth;exact SeqAt.compareEq_reads r1 W (yB hc.1.1) (yB hc.1.2) ⋯ ⟨.f _,H,I,rfl,zO N (.j _) w⟩
   . rw[if_neg hc]at w;exact w.elim
def fZ(O:L2.xH k X.A):L2.OpR X (BC .NotEq) (rM2 X.K X.d (zR .b)):=by
 intro pins s σ H x y v u Q I R P h;obtain⟨ρ,t,a,b,N,U,S,w⟩:=h;simp only[zR,uz]at w;split at w
 . rename_i p q
   cases U;cases S;have e:decide (L2.V.e p=L2.V.e q)=decide (p=q):=by rw[De];simp
   refine L2.WN pins s σ H _ _ v u Q I R P ⟨rfl,?_⟩;rw[e];exact zO N (.j _) w
 . by_cases hc:((zq t a).isD&&(zq t b).isD&&decide ((zq t b).d.depth<=60))=true
   . rw[if_pos hc]at w
     simp only[cf,decide_eq_true_eq]at hc;obtain⟨as,r1,_⟩:=xC I.B N (y9 hc.1.1) U R;obtain⟨bs,W,_⟩:=xC I.B N (y9 hc.1.2) S P;have hu:=O.b;have Y:=Ek (zq t a).d.depth (zq t b).d.depth;exact SeqAt.compareNe_reads r1 W (yB hc.1.1) (yB hc.1.2) ⋯ ⟨.f _,H,I,rfl,zO N (.j _) w⟩
   . rw[if_neg hc]at w;exact w.elim
def RD.isNone(r:RD K mg ρ H v x):decide (x=.g)=v.isN:=by
 cases r<;>first|rfl|exact decide_eq_false (λz=>nomatch z)
def fY:L2.OpR X (BC .Lt) (rM2 X.K X.d (zR .l)):=by
 intro pins s σ H x y v u Q I O N h;obtain⟨ρ,t,a,b,S,R,P,w⟩:=h;simp only[zR]at w;split at w
 . cases R;cases P
   exact L2.RH pins s σ H _ _ v u Q I O N ⟨_,_,rfl,rfl,zO S (.j _) w⟩
 . exact w.elim
def fX:L2.OpR X (BC .LtE) (rM2 X.K X.d (zR .f)):=by
 intro pins s σ H x y v u Q I O N h;obtain⟨ρ,t,a,b,S,R,P,w⟩:=h;simp only[zR]at w;split at w
 . cases R;cases P
   exact L2.RG pins s σ H _ _ v u Q I O N ⟨_,_,rfl,rfl,zO S (.j _) w⟩
 . exact w.elim
def fW:L2.OpR X (BC .Gt) (rM2 X.K X.d (zR .c)):=by
 intro pins s σ H x y v u Q I O N h;obtain⟨ρ,t,a,b,S,R,P,w⟩:=h;simp only[zR]at w;split at w
 . cases R;cases P
   exact L2.RE pins s σ H _ _ v u Q I O N ⟨_,_,rfl,rfl,zO S (.j _) w⟩
 . exact w.elim
def fV:L2.OpR X (BC .GtE) (rM2 X.K X.d (zR .i)):=by
 intro pins s σ H x y v u Q I O N h;obtain⟨ρ,t,a,b,S,R,P,w⟩:=h;simp only[zR]at w;split at w
 . cases R;cases P
   exact L2.RC pins s σ H _ _ v u Q I O N ⟨_,_,rfl,rfl,zO S (.j _) w⟩
 . exact w.elim
noncomputable def Cop.op:Cop->CmpOp
 |.a=>.Eq|.b=>.NotEq|.l=>.Lt|.f=>.LtE|.c=>.Gt|.i=>.GtE|.m=>.Is|.g=>.IsNot|.k=>.In|.h=>.NotIn|.j=>.In|.d=>.NotIn|.e=>.NotIn
noncomputable def okC:Cop->Bool
 |.m|.g|.k|.h|.j|.d|.e=>false
 |_=>true
def vR(x:L2.xH k X.A):∀op:Cop,okC op=true->L2.OpR X (BC op.op) (rM2 X.K X.d (zR op))
 |.a,_=>fU x
 |.b,_=>fZ x
 |.l,_=>fY
 |.f,_=>fX
 |.c,_=>fW
 |.i,_=>fV
 |.m,h=>by cases h
 |.g,h=>by cases h
 |.k,h=>by cases h
 |.h,h=>by cases h
 |.j,h=>by cases h
 |.d,h=>by cases h
 |.e,h=>by cases h
noncomputable def Bop.op:Bop->Operator
 |.a=>.Add|.d=>.Sub|.c=>.Mult|.e=>.FloorDiv|.b=>.Mod|.f=>.Pow|.h=>.LShift|.i=>.RShift|.g=>.BitAnd
noncomputable def okB:Bop->Bool
 |.h|.i|.g=>false
 |_=>true
def aC m:∀op:Bop,okB op=true->L2.OpR X (BG op.op) (rM2 X.K X.d (binOp m op))
 |.a,_=>jR m
 |.d,_=>jW m
 |.c,_=>jU m
 |.e,_=>lz m
 |.b,_=>jT m
 |.f,_=>jV m
 |.h,h=>by cases h
 |.i,h=>by cases h
 |.g,h=>by cases h
def SY:L2.IxR X (rM2 X.K X.d xm):=by
 intro N O pins s σ H x y v u Q I Z Y h hs;obtain⟨ρ,t,a,b,R,ra,rb,w⟩:=h;simp only[xm]at w;split at w
 . split at w
   . rename_i vs e
     split at w
     . rename_i z hz
       obtain⟨p,U,rfl,P,q⟩:=mq R ra e;cases rb;obtain⟨S,h1,W⟩:=Z1 q hz;refine L2.VU N O pins s σ H _ _ v u Q I Z Y ?_ hs;rcases P with P|P
       . exact .inl ⟨p,U,_,S,rfl,rfl,P,h1,zO R W w⟩
       . exact .inr (.inl ⟨p,U,_,S,rfl,rfl,P,h1,zO R W w⟩)
     . exact w.elim
   . exact w.elim
 . exact w.elim
end
noncomputable def Bf.nm:Bf->Str
 |.a=>"len"|.p=>"all"|.q=>"any"|.b=>"tuple"|.j=>"list"|.h=>"sorted"|.g=>"repr"|.k=>"max"|.l=>"min"|.s=>"sum"|.o=>"int"|.i=>"isinstance"|.d=>"divmod"|.r=>"str"|.c=>"sorted"|.n=>"min"|.e=>"sorted"|.m=>"min"
noncomputable def Bf.val:Bf->Value
 |.a=>.builtin "len"|.p=>.builtin "all"|.q=>.builtin "any"|.b=>.type "tuple"|.j=>.type "list"|.h=>.builtin "sorted"|.g=>.builtin "repr"|.k=>.builtin "max"|.l=>.builtin "min"|.s=>.builtin "sum"|.o=>.type "int"
 |.i=>.builtin "isinstance"|.d=>.builtin "divmod"|.r=>.type "str"|.c=>.builtin "sorted"|.n=>.builtin "min"|.e=>.builtin "sorted"|.m=>.builtin "min"
def Bf.boot:∀f:Bf,Ci f.nm=some f.val
 |.a=>boot_len|.p=>PyProof.Rows.boot_all|.q=>PyProof.Rows.boot_any|.b=>F8|.j=>PyProof.Rows.boot_list|.h=>DW|.g=>PyProof.Rows.boot_repr|.k=>PyProof.Rows.boot_max|.l=>EB
 |.s=>PyProof.Rows.boot_sum|.o=>PyProof.Rows.boot_int|.i=>PyProof.Rows.boot_isinstance|.d=>PyProof.Rows.boot_divmod|.r=>PyProof.Rows.boot_str|.c=>DW|.n=>EB|.e=>DW|.m=>EB
section
variable {X:L2.Cx}{k:Nat}{m:Bool}
def tL(r:RDs K mg ρ H [v] xs):∃x,xs=[x]/\RD K mg ρ H v x:=by
 cases r with
 |a r1 N=>cases N;exact⟨_,rfl,r1⟩
def ft(r:RDs K mg ρ H [v,w] xs):∃x y,xs=[x,y]/\RD K mg ρ H v x/\RD K mg ρ H w y:=by
 cases r with
 |a r1 O=>
  obtain⟨y,rfl,N⟩:=tL O;exact⟨_,_,rfl,r1,N⟩
def dY:L2.yI X (.builtin "len") (rMc X.K X.d (blt .a m)):=by
 intro pins s σ H S us Q I r h;obtain⟨ρ,t,vs,O,P,w⟩:=h;simp only[blt]at w;split at w
 . split at w
   . rename_i hz
     obtain⟨x,rfl,N⟩:=tL P;cases N;exact L2.nt pins s σ H _ us Q I r ⟨_,rfl,by rw[<-y0];exact hz,zO O (.l _) w⟩
   . exact w.elim
 . split at w
   . rename_i e
     obtain⟨x,rfl,N⟩:=tL P;obtain⟨p,ys,rfl,R,q⟩:=mq O N e;refine L2.nq pins s σ H _ us Q I r ⟨p,ys,rfl,R,?_⟩;rw[<-q.length];exact zO O (.l _) w
   . exact w.elim
 . exact w.elim
theorem qa(S:X.j=true):L2.yI X (.builtin "all") (rMc X.K X.d (blt .p m)):=by
 intro pins s σ H U us Q I r h;obtain⟨ρ,t,vs,N,R,w⟩:=h;simp only[blt]at w;split at w
 . split at w
   . rename_i e
     split at w
     . rename_i bs eb
       obtain⟨x,rfl,P⟩:=tL R;obtain⟨p,ys,rfl,O,q⟩:=vO N P e;rw[q.bools eb]at O;exact L2.qa S pins s σ H _ us Q I r ⟨p,bs,rfl,.of O,zO N (.j _) w⟩
     . exact w.elim
   . exact w.elim
 . exact w.elim
def ki:L2.yI X (.type "tuple") (rMc X.K X.d (blt .b m)):=by
 intro pins s σ H S us Q I r h;obtain⟨ρ,t,vs,O,P,w⟩:=h;simp only[blt]at w;split at w
 . obtain⟨x,rfl,N⟩:=tL P
   cases N with
   |m n e q=>exact L2.uj pins s σ H _ us Q I r ⟨_,_,rfl,.inr ⟨.of e,zO O (.m n e q) w⟩⟩
 . split at w
   . rename_i e
     obtain⟨x,rfl,N⟩:=tL P;obtain⟨p,ys,rfl,R,q⟩:=vO O N e;exact L2.uj pins s σ H _ us Q I r ⟨p,ys,rfl,.inl ⟨.of R,mP O q w⟩⟩
   . exact w.elim
 . exact w.elim
def gZ:L2.yI X (.type "list") (rMc X.K X.d (blt .j m)):=by
 intro pins s σ H S us Q I r h;obtain⟨ρ,t,vs,N,P,w⟩:=h;simp only[blt]at w;split at w
 . split at w
   . rename_i e
     obtain⟨x,rfl,O⟩:=tL P;obtain⟨p,ys,rfl,R,q⟩:=mq N O e;exact L2.nu pins s σ H _ us Q I r ⟨p,ys,rfl,R,vQ N q w⟩
   . exact w.elim
 . exact w.elim
def de(O:L2.xH k X.A):L2.yI X (.builtin "repr") (rMc X.K X.d (blt .g m)):=by
 intro pins s σ H xs us Q I r h;obtain⟨ρ,t,vs,Y,Z,w⟩:=h;simp only[blt]at w;split at w
 . rename_i v
   split at w
   . rename_i hc
     rw[cf]at hc;obtain⟨x,rfl,W⟩:=tL Z;obtain⟨u,rfl,N⟩:=L2.vals1 r;have S:=Sy hc.2;have q:Q (.e (zq t v).d.shown) H:=zO Y (.D _) w;have fin:∀(U:Tok) (tk:Nat),L2.EP X pins σ Q (.str (zq t v).d.shown U) {s with toks:=tk}:=λ_ tk=>⟨.e _,H,I.tok _,⟨_,rfl⟩,q⟩
     obtain⟨as,R,hs⟩:=xC I.B Y hc.1 W N;have fr:∀a,u=.ref a->wpAny (model X.f X.w) X.A (call (.builtin "repr") [u]) (L2.EP X pins σ Q) X.i s:=λa e=>by subst e;refine repr_of_reads' R S.sh (λz=>hs (S.a z)) O.d ?_ (λ_ _ e=>e) (λh' u tk hk=>⟨.e _,H,I.kept hk,⟨_,rfl⟩,q⟩) S.ln;have:=S.dp;have:=O.b;omega
     cases W with
     |A=>cases (show u=Bg from N);exact PySem.P.repr_of_none (fin _ _)
     |j b=>cases (show u=Dc b from N);exact PySem.P.repr_of_bool (fin _ _)
     |l i=>obtain⟨t',z⟩:=(show ∃t,u=Gd i t from N);cases z;exact PySem.P.repr_of_int (by simpa [zq,yg,Val.d,PyData.showable] using S.sh) (fin _ _)
     |D x=>obtain⟨t',z⟩:=(show ∃t,u=Ge x t from N);cases z;exact PySem.P.repr_of_str (fin _ _) S.ln
     |m _ _ _=>exact fr _ N
     |E _ _ _=>exact fr _ N
     |B _ _=>exact fr _ N
     |C _ _=>exact fr _ N
     |p _=>exact fr _ N
     |F _=>exact fr _ N
     |I _=>exact fr _ N
     |J _=>exact absurd hc.1 (by simp[zq,yg,Val.isR])
     |s _ _=>exact fr _ N
     |G _ _=>exact fr _ N
   . exact w.elim
 . exact w.elim
def dZ(R:X.j=true):L2.yI X (.builtin "max") (rMc X.K X.d (blt .k m)):=by
 intro pins s σ H W us Q I r h;obtain⟨ρ,t,vs,O,P,w⟩:=h;simp only[blt]at w;split at w
 . obtain⟨x,y,rfl,N,U⟩:=ft P
   cases N;cases U;exact L2.gb R pins s σ H _ us Q I r ⟨_,_,rfl,zO O (.l _) w⟩
 . split at w
   . rename_i ns en
     split at w
     . rename_i hn
       obtain⟨x,rfl,N⟩:=tL P;cases N with
       |m n e q=>
        rw[q.ou en]at e;exact L2.gg R pins s σ H _ us Q I r ⟨_,ns,rfl,.of e,hn,zO O (.l _) w⟩
     . exact w.elim
   . exact w.elim
 . split at w
   . rename_i e
     split at w
     . rename_i ns en
       split at w
       . rename_i hn
         obtain⟨x,rfl,N⟩:=tL P;obtain⟨p,ys,rfl,S,q⟩:=vO O N e;rw[q.ou en]at S;exact L2.gc R pins s σ H _ us Q I r ⟨p,ns,rfl,.of S,hn,zO O (.l _) w⟩
       . exact w.elim
     . exact w.elim
   . exact w.elim
 . exact w.elim
def da(R:X.j=true):L2.yI X (.builtin "min") (rMc X.K X.d (blt .l m)):=by
 intro pins s σ H W us Q I r h;obtain⟨ρ,t,vs,O,P,w⟩:=h;simp only[blt]at w;split at w
 . obtain⟨x,y,rfl,N,U⟩:=ft P
   cases N;cases U;exact L2.gh R pins s σ H _ us Q I r ⟨_,_,rfl,zO O (.l _) w⟩
 . split at w
   . rename_i ns en
     split at w
     . rename_i hn
       obtain⟨x,rfl,N⟩:=tL P;cases N with
       |m n e q=>
        rw[q.ou en]at e;exact L2.kg R pins s σ H _ us Q I r ⟨_,ns,rfl,.of e,hn,zO O (.l _) w⟩
     . exact w.elim
   . exact w.elim
 . split at w
   . rename_i e
     split at w
     . rename_i ns en
       split at w
       . rename_i hn
         obtain⟨x,rfl,N⟩:=tL P;obtain⟨p,ys,rfl,S,q⟩:=vO O N e;rw[q.ou en]at S;exact L2.gj R pins s σ H _ us Q I r ⟨p,ns,rfl,.of S,hn,zO O (.l _) w⟩
       . exact w.elim
     . exact w.elim
   . exact w.elim
 . exact w.elim
def dX:L2.yI X (.type "int") (rMc X.K X.d (blt .o m)):=by
 intro pins s σ H R us Q I r h;obtain⟨ρ,t,vs,P,O,w⟩:=h;simp only[blt]at w;split at w
 . obtain⟨x,rfl,N⟩:=tL O
   cases N;exact L2.oX pins s σ H _ us Q I r (.inl ⟨_,rfl,zO P (.l _) w⟩)
 . obtain⟨x,rfl,N⟩:=tL O
   cases N;exact L2.oX pins s σ H _ us Q I r (.inr ⟨_,rfl,zO P (.l _) w⟩)
 . exact w.elim
theorem qb:L2.yI X (.builtin "isinstance") (rMc X.K X.d (blt .i m)):=by
 intro pins s σ H S us Q I r h;obtain⟨ρ,t,vs,N,R,w⟩:=h;simp only[blt]at w;split at w
 . split at w
   . rename_i ea ec
     obtain⟨x,y,rfl,P,O⟩:=ft R;cases O;obtain⟨e1,e2⟩:=Sq ec;subst e1;exact L2.qb pins s σ H _ us Q I r ⟨_,_,_,_,rfl,QH N P ea,L2.V7 X.K _ _ e2,zO N (.j _) w⟩
   . exact w.elim
 . exact w.elim
theorem vv:L2.yI X (.builtin "divmod") (rMc X.K X.d (blt .d m)):=by
 intro pins s σ H S us Q I r h;obtain⟨ρ,t,vs,R,P,w⟩:=h;simp only[blt]at w;split at w
 . split at w
   . rename_i hz
     obtain⟨x,y,rfl,O,N⟩:=ft P;cases O;cases N;exact L2.vv pins s σ H _ us Q I r ⟨_,_,rfl,hz,mP R (.a (.l _) (.a (.l _) .d)) w⟩
   . exact w.elim
 . exact w.elim
theorem insI_perm z:∀l:List Int,(insI z l).Perm (z::l)
 |[]=>.refl _
 |y::ys=>by
  unfold insI;split
  . exact .refl _
  . exact((insI_perm z ys).cons y).trans (.swap z y ys)
theorem sortI_perm:∀l:List Int,(sortI l).Perm l
 |[]=>.refl _
 |z::zs=>(insI_perm z _).trans ((sortI_perm zs).cons z)
theorem hJ z:∀{l},l.Pairwise (·<=·)->(insI z l).Pairwise (·<=·)
 |[],_=>List.pairwise_singleton _ _
 |y::ys,h=>by
  rw[List.pairwise_cons]at h;unfold insI;split
  . rename_i hz
    exact .cons (λx hx=>by rcases Ap.mp hx with rfl|hx;exact hz;exact EN hz (h.1 x hx)) (.cons h.1 h.2)
  . rename_i hz
    exact .cons (λx hx=>by rcases Ap.mp ((insI_perm z ys).mem_iff.mp hx) with rfl|hx;omega;exact h.1 x hx) (hJ z h.2)
theorem ph:∀l:List Int,(sortI l).Pairwise (·<=·)
 |[]=>.nil
 |z::zs=>hJ z (ph zs)
def nv:L2.yI X (.builtin "sorted") (rMc X.K X.d (blt .c m)):=by
 intro pins s σ H Z us Q I r h;obtain⟨ρ,t,vs,O,R,w⟩:=h;simp only[blt]at w;split at w
 . split at w
   . rename_i e
     split at w
     . rename_i ns ei
       split at w
       . rename_i hz
         obtain⟨x,rfl,P⟩:=tL R;obtain⟨p,ys,rfl,S,q⟩:=mq O P e;obtain rfl:=RDs.ou q ei;refine L2.kh pins s σ H _ us Q I r ⟨p,ns,rfl,S,hz,λl N W hp U=>?_⟩;obtain rfl:N=sortI ns:=F4 (λa b _ _ h1 Y=>EO h1 Y) U (ph ns) (hp.trans (sortI_perm ns).symm);exact vQ O (RDs.ints _) w l W
       . exact w.elim
     . exact w.elim
   . exact w.elim
 . exact w.elim
noncomputable def okF:Bf->Bool
 |.q|.h|.s|.r|.n|.e|.m=>false
 |_=>true
def Z3(N:X.j=true)(x:L2.xH k X.A):∀f m,okF f=true->L2.yI X f.val (rMc X.K X.d (blt f m))
 |.a,_,_=>dY
 |.p,_,_=>qa N
 |.q,_,h=>by cases h
 |.b,_,_=>ki
 |.j,_,_=>gZ
 |.h,_,h=>by cases h
 |.g,_,_=>de x
 |.k,_,_=>dZ N
 |.l,_,_=>da N
 |.s,_,h=>by cases h
 |.o,_,_=>dX
 |.i,_,_=>qb
 |.d,_,_=>vv
 |.r,_,h=>by cases h
 |.c,_,_=>nv
 |.e,_,h=>by cases h
 |.n,_,h=>by cases h
 |.m,_,h=>by cases h
end
noncomputable def Out.isOk{x:Type}:Out x->Bool
 |.e _ _=>true
 |.g _ _ _|.d=>false
def zH{o:Out α}(h:o.isOk=false)v s:o≠.e v s:=λe=>by subst e;cases h
noncomputable def plain:Expr->Bool
 |.Starred ..|.Set ..|.Slice ..=>false
 |_=>true
def zl(h:plain e=true):L2.noStar e=true:=by cases e<;>first|rfl|cases h
def xA(h:plain e=true):DB op e=false:=by cases e<;>first|rfl|cases h
def av(h:plain e=true):L2.iR e:=by intro o i;cases e<;>first|rfl|cases h
def yo(h:plain e=true)x:Cq e env x=pure x:=by cases e<;>first|rfl|cases h
noncomputable def qM:Expr->Bool
 |.Call (.Name _ _) [] [] _=>false
 |_=>true
def tZ(h:qM o=true):Ca o name env (eval o env)=eval o env:=by
 unfold Ca;split
 . cases h
 . rfl
noncomputable def plainT:Expr->Bool
 |.UnaryOp .Not _ _|.BoolOp ..|.IfExp ..|.Compare ..=>false
 |_=>true
def nI(h:plainT e=true)whole:isTrue e env whole=(do let v <-whole;standAt e.pos;holding [v] (truthy v)):=by
 cases e with
 |UnaryOp op a p=>cases op<;>first|rfl|cases h
 |_=>first|rfl|cases h
def ze:List Expr->Bool
 |[]=>true
 |e::es=>plain e&&ze es
theorem yp:∀{es} {pos} {env},ze es=true->(backTo pos (AG es env)).any (·.1)=false
 |[],_,_,_=>rfl
 |e::es,pos,env,h=>by
  rw[ze,cf]at h;rw[L2.zv (zl h.1)];show (false||(backTo pos (AG es env)).any (·.1))=false
  rw[yp h.2];rfl
def yU.mono(w:yU K mg R ρ H o Q)(x:Ext ρ H ρ' H')(h:HR K mg ρ' s1 H'):yU K mg R ρ' H' o Q:=by
 cases o with
 |e v s'=>exact λρ2 y H2 N P O=>w ρ2 y H2 (x.trans h N) P O
 |_=>exact w
section
variable {X:L2.Cx}{env:Env}{s:Sto}{E a b c:Expr}
def zL{o:Out Val}(h:∀v s',o≠.e v s'):L2.PE X E (tV X.K X.d env s o):=yY λ_ _ _=>QE h
def un1{g:Val->Sto->Out Val}(h:L2.PE X a (tV X.K X.d env s o))(N:∀ta,L2.PE X a ta->L2.PE X E (L2.tUn r ta))
 (op:∀ρ H s1 v x Q,HR X.K X.d ρ s1 H->RD X.K X.d ρ H v x->yU X.K X.d (RD X.K X.d) ρ H (g v s1) Q->r x H Q):L2.PE X E (tV X.K X.d env s (o.bind g)):=by
 cases o with
 |e v s1=>exact zX (N _ h) λσ H Q ⟨ρ,hr,er,w⟩=>⟨ρ,hr,er,λρ1 x H1 P O r1=>op ρ1 H1 s1 v x Q O r1 (w.mono P O)⟩
 |g _ _ _=>exact zL (zH rfl)
 |d=>exact zL (zH rfl)
def Wv{f2:Sto->Out Val}(h1:L2.PE X a (tV X.K X.d env s o))(Y:∀s1,L2.PE X b (tV X.K X.d env s1 (f2 s1)))
 (N:∀ta tb,L2.PE X a ta->L2.PE X b tb->L2.PE X E (L2.tOp (rM2 X.K X.d g) ta tb)):L2.PE X E (tV X.K X.d env s (o.bind λx s1=>(f2 s1).bind λy s2=>g x y s2)):=by
 cases o with
 |e v s1=>
  show L2.PE X E (tV X.K X.d env s ((f2 s1).bind λy s2=>g v y s2));have R:=Y s1;cases hb:f2 s1 with
  |e w s2=>
   rw[hb]at R;exact zX (N _ _ h1 R) λσ H Q ⟨ρ,hr,er,wt⟩=>⟨ρ,hr,er,λρ1 x H1 U P r1=>⟨ρ1,P,er.mono U,λρ2 y H2 S O W=>⟨ρ2,s2,v,w,O,r1.mono S,W,wt.mono (U.trans P S) O⟩⟩⟩
  |g _ _ _=>exact zL (zH rfl)
  |d=>exact zL (zH rfl)
 |g _ _ _=>exact zL (zH rfl)
 |d=>exact zL (zH rfl)
def bI{op O:Cop}{o:Out Val}{f2 f3:Sto->Out Val}{k:Nat}{pos:Pos}(k1:okC op=true)(k2:okC O=true)(hr0:L2.xH k X.A)(h1:L2.PE X a (tV X.K X.d env s o))(h2:∀s1,L2.PE X b (tV X.K X.d env s1 (f2 s1)))(h3:∀s1,L2.PE X c (tV X.K X.d env s1 (f3 s1)))(hm:plain c=true) :
 L2.PE X (.Compare a [op.op,O.op] [b,c] pos) (tV X.K X.d env s (o.bind λx s1=>(f2 s1).bind λy s2=>(zR op x y s2).bind λr R=>match r with
  |.e true=>(f3 R).bind λz W=>zR O y z W
  |.e false=>.e (.e false) R
  |_=>.d)):=by
 cases o with
 |e v s1=>
  have h2':=h2 s1;show L2.PE X _ (tV X.K X.d env s ((f2 s1).bind _));cases hb:f2 s1 with
  |e w s2=>
   rw[hb]at h2';show L2.PE X _ (tV X.K X.d env s ((zR op v w s2).bind _));cases hc:zR op v w s2 with
   |e r R=>
    cases r with
    |e t=>
     have h3':=h3 R;have Y:=L2.aV (pos:=pos) (vR hr0 op k1) (vR hr0 O k2) h1 h2' h3' (show GQ [op.op,O.op] [b,c]=false from xA hm);refine zX Y λσ H Q ⟨ρ,hr,er,wt⟩=>⟨ρ,hr,er,λρ1 x H1 x1 hr1 r1=>⟨ρ1,hr1,er.mono x1,λρ2 y H2 x2 hr2 r2=>⟨ρ2,s2,v,w,hr2,r1.mono x2,r2,?_⟩⟩⟩;rw[hc];intro S z H3 x3 P r3;cases r3;refine⟨t,rfl,?_⟩;have xx:=(x1.trans hr1 x2).trans hr2 x3;have U:=wt.mono xx P;cases t with
     |true=>
      rw[if_pos rfl];refine⟨S,P,er.mono xx,?_⟩;have N:yU X.K X.d (RD X.K X.d) S H3 ((f3 R).bind λz W=>zR O w z W) Q:=U;cases hz:f3 R with
      |e u W=>
       rw[hz]at N;exact λρ4 q H4 x4 Z r4=>⟨ρ4,W,w,u,Z,(r2.mono x3).mono x4,r4,N.mono x4 Z⟩
      |g _ _ _=>rw[hz]at N;exact N
      |d=>rw[hz]at N;exact N
     |false=>
      rw[if_neg Ak];exact zO P (.j false) U
    |_=>exact zL (zH rfl)
   |g _ _ _=>exact zL (zH rfl)
   |d=>exact zL (zH rfl)
  |g _ _ _=>exact zL (zH rfl)
  |d=>exact zL (zH rfl)
 |g _ _ _=>exact zL (zH rfl)
 |d=>exact zL (zH rfl)
def Vq{o:Out Val}{pos:Pos}(h:L2.PE X a (tV X.K X.d env s o)):L2.PE X (.UnaryOp .USub a pos) (tV X.K X.d env s (o.bind λx s1=>match x with|.c i=>.e (.c (-i)) s1|_=>.d)):=by
 refine un1 h (λta q=>L2.Rb L2.Td q) λρ H s1 v x Q N r w=>?_;cases r with
 |l i=>exact⟨i,rfl,zO N (.l _) w⟩
 |_=>exact w.elim
def Vr{o:Out Val}{pos:Pos}(h:L2.PE X a (tV X.K X.d env s o)):L2.PE X (.UnaryOp .Not a pos) (tV X.K X.d env s (o.bind λx s1=>match x with|.e b=>.e (.e !b) s1|_=>.d)):=by
 refine un1 (r:=λx H Q=>∃c,x=.f c/\Q (.f (!c)) H) h (λta q=>L2.Uj q) λρ H s1 v x Q N r w=>?_;cases r with
 |j i=>exact⟨i,rfl,zO N (.j _) w⟩
 |_=>exact w.elim
def bG{rest:List Expr}{o:Out Val}{f2:Sto->Out Val}{pos:Pos}(h1:L2.PE X a (tV X.K X.d env s o))(R:∀s1,L2.PE X (.BoolOp .And (b::rest) pos) (tV X.K X.d env s1 (f2 s1))) :
 L2.PE X (.BoolOp .And (a::b::rest) pos) (tV X.K X.d env s (o.bind λx s1=>match x with|.e true=>f2 s1|.e false=>.e (.e false) s1|_=>.d)):=by
 cases o with
 |e v s1=>
  refine zX (L2.Uc h1 (R s1)) λσ H Q ⟨ρ,hr,er,wt⟩=>⟨ρ,hr,er,λρ1 x H1 P O r1=>?_⟩;have N:=wt.mono P O;cases r1 with
  |j t=>
   refine⟨t,rfl,?_⟩;cases t with
   |true=>exact L2.r8 (⟨ρ1,O,er.mono P,N⟩)
   |false=>exact L2.sD (zO O (.j _) N)
  |_=>exact N.elim
 |g _ _ _=>exact zL (zH rfl)
 |d=>exact zL (zH rfl)
def Sh{rest:List Expr}{o:Out Val}{f2:Sto->Out Val}{pos:Pos}(h1:L2.PE X a (tV X.K X.d env s o))(R:∀s1,L2.PE X (.BoolOp .Or (b::rest) pos) (tV X.K X.d env s1 (f2 s1))) :
 L2.PE X (.BoolOp .Or (a::b::rest) pos) (tV X.K X.d env s (o.bind λx s1=>match truth s1 x with|some false=>f2 s1|some true=>.e x s1|dS=>.d)):=by
 cases o with
 |e v s1=>
  refine zX (L2.Uk h1 (R s1)) λσ H Q ⟨ρ,hr,er,wt⟩=>⟨ρ,hr,er,λρ1 x H1 P O r1=>?_⟩;have N:yU X.K X.d (RD X.K X.d) ρ1 H1 (match truth s1 v with|some false=>f2 s1|some true=>.e v s1|dS=>.d) Q:=wt.mono P O
  cases ht:truth s1 v with
  |none=>rw[ht]at N;exact N.elim
  |some t=>
   rw[ht]at N;refine⟨t,Zh O r1 ht,?_⟩;cases t with
   |true=>exact L2.r8 (zO O r1 N)
   |false=>exact L2.sD (⟨ρ1,O,er.mono P,N⟩)
 |g _ _ _=>exact zL (zH rfl)
 |d=>exact zL (zH rfl)
def Vp{f2 f3:Sto->Out Val}(h1:L2.PT X c (tT X.K X.d env s o))(S:∀s1,L2.PE X a (tV X.K X.d env s1 (f2 s1)))(R:∀s1,L2.PE X b (tV X.K X.d env s1 (f3 s1))) :
 L2.PE X (.IfExp c a b pos) (tV X.K X.d env s (o.bind λt s1=>if t then f2 s1 else f3 s1)):=by
 cases o with
 |e v s1=>
  refine zX (L2.l8 h1 (S s1) (R s1)) λσ H Q ⟨ρ,hr,er,wt⟩=>⟨ρ,hr,er,λρ1 x H1 P N r1=>?_⟩;have O:=wt.mono P N;cases r1;cases v with
  |true=>exact L2.r8 (⟨ρ1,N,er.mono P,O⟩)
  |false=>exact L2.sD (⟨ρ1,N,er.mono P,O⟩)
 |g _ _ _=>exact zL (zH rfl)
 |d=>exact zL (zH rfl)
def sI{o:Out (List Val)}(h:∀v s',o≠.e v s'):L2.PA X es (tVs X.K X.d env s o):=RW λ_ _ _=>TL h
def hX:L2.PA X [] (tVs X.K X.d env s (.e [] s)):=aR L2.yn λσ H Q ⟨ρ,hr,er,wt⟩=>wt ρ [] H Ext.refl hr .d
def la{f2:Sto->Out (List Val)}(hp:plain a=true)(h1:L2.PE X a (tV X.K X.d env s o))(W:∀s1,L2.PA X es (tVs X.K X.d env s1 (f2 s1))) :
 L2.PA X (a::es) (tVs X.K X.d env s (o.bind λv s1=>(f2 s1).bind λvs s2=>.e (v::vs) s2)):=by
 cases o with
 |e v s1=>
  have O:=W s1;show L2.PA X _ (tVs X.K X.d env s ((f2 s1).bind _));cases hb:f2 s1 with
  |e ws s2=>
   rw[hb]at O;exact aR (L2.pac h1 O (zl hp)) λσ H Q ⟨ρ,hr,er,wt⟩=>⟨ρ,hr,er,λρ1 x H1 S N r1=>⟨ρ1,N,er.mono S,λρ2 y H2 R P U=>wt ρ2 _ H2 (S.trans N R) P (.a (r1.mono R) U)⟩⟩
  |g _ _ _=>exact sI (zH rfl)
  |d=>exact sI (zH rfl)
 |g _ _ _=>exact sI (zH rfl)
 |d=>exact sI (zH rfl)
def k8(h:L2.PA X es (tVs X.K X.d env s o)):L2.PE X (.Tuple es k pos) (tV X.K X.d env s (o.bind λvs s1=>if vs.length<=zZ then .e (.f vs) s1 else .d)):=by
 cases o with
 |e vs s1=>
  refine zX (L2.aj h) λσ H Q ⟨ρ,hr,er,wt⟩=>⟨ρ,hr,er,λρ1 P H1 O N r1=>?_⟩;have x:yU X.K X.d (RD X.K X.d) ρ1 H1 (if vs.length<=zZ then .e (.f vs) s1 else .d) Q:=wt.mono O N
  by_cases hz:vs.length<=zZ
  . rw[if_pos hz]at x
    exact⟨by rw[<-r1.length,<-y0];exact hz,mP N r1 x⟩
  . rw[if_neg hz]at x;exact x.elim
 |g _ _ _=>exact zL (zH rfl)
 |d=>exact zL (zH rfl)
def bK(h:L2.PA X es (tVs X.K X.d env s o)):L2.PE X (.List es pos) (tV X.K X.d env s (o.bind λvs s1=>if vs.length<=zZ then newList m vs s1 else .d)):=by
 cases o with
 |e vs s1=>
  refine zX (L2.rH h) λσ H Q ⟨ρ,hr,er,wt⟩=>⟨ρ,hr,er,λρ1 P H1 O N r1=>?_⟩;have x:yU X.K X.d (RD X.K X.d) ρ1 H1 (if vs.length<=zZ then newList m vs s1 else .d) Q:=wt.mono O N
  by_cases hz:vs.length<=zZ
  . rw[if_pos hz]at x
    exact⟨by rw[<-r1.length,<-y0];exact hz,vQ N r1 x⟩
  . rw[if_neg hz]at x;exact x.elim
 |g _ _ _=>exact zL (zH rfl)
 |d=>exact zL (zH rfl)
def Sg(h:L2.PA X es (tVs X.K X.d env s o))(x:∀t,L2.PA X es t->L2.PE X E (L2.tCB (rMc X.K X.d g) t)):L2.PE X E (tV X.K X.d env s (o.bind g)):=by
 cases o with
 |e vs s1=>exact zX (x _ h) λσ H Q ⟨ρ,hr,er,wt⟩=>⟨ρ,hr,er,λρ1 P H1 O N r1=>⟨ρ1,s1,vs,N,r1,wt.mono O N⟩⟩
 |g _ _ _=>exact zL (zH rfl)
 |d=>exact zL (zH rfl)
def Vo(k1:okF f=true)(U:X.j=true)(S:L2.xH k X.A)(P:L2.Gl X f.nm)(O:X.d f.nm=none)(hp:ze (a::es)=true)(h:L2.PA X (a::es) (tVs X.K X.d env s o)) :
 L2.PE X (.Call (.Name f.nm p) (a::es) [] pos) (tV X.K X.d env s (o.bind (blt f m))):=by
 rw[ze,cf]at hp;refine Sg h λt x=>?_;have Q:=Z3 U S f m k1;have R:=f.boot;have st:=L2.zv (es:=es) (env:=X.a) (zl hp.1);have N:=yp (pos:=pos) (env:=X.a) hp.2;cases f with
 |b=>exact L2.xD Q P O R x (by decide) (by decide) st N
 |j=>exact L2.xD Q P O R x (by decide) (by decide) st N
 |o=>exact L2.xD Q P O R x (by decide) (by decide) st N
 |r=>exact L2.xD Q P O R x (by decide) (by decide) st N
 |_=>exact L2.sJ Q P O R x (by decide) (by decide) st N
def yG{o:Out Bool}(h:∀v s',o≠.e v s'):L2.PT X E (tT X.K X.d env s o):=gG λ_ _ _=>Wi h
def Vy(hp:plainT a=true)(h:L2.PE X a (tV X.K X.d env s o)):L2.PT X a (tT X.K X.d env s o.truth):=by
 cases o with
 |e v s1=>
  refine uC (L2.kE h (nI hp)) λσ H Q ⟨ρ,hr,er,wt⟩=>⟨ρ,hr,er,λρ1 x H1 P O r1=>?_⟩;have N:=wt.mono P O;simp only[Out.truth,zV]at N;cases ht:truth s1 v with
  |none=>rw[ht]at N;exact N.elim
  |some b=>rw[ht]at N;exact⟨b,Zh O r1 ht,N _ _ _ Ext.refl O rfl⟩
 |g _ _ _=>exact yG (zH rfl)
 |d=>exact yG (zH rfl)
def Vx(h:L2.PT X a (tT X.K X.d env s o)):L2.PT X (.UnaryOp .Not a pos) (tT X.K X.d env s (o.bind λb s1=>.e (!b) s1)):=by
 cases o with
 |e v s1=>exact uC (L2.jj h) λσ H Q ⟨ρ,hr,er,wt⟩=>⟨ρ,hr,er,λρ1 x H1 O N r1=>by cases r1;exact wt _ _ _ O N rfl⟩
 |g _ _ _=>exact yG (zH rfl)
 |d=>exact yG (zH rfl)
def sN{o:Out Bool}(h:∀v s',o≠.e v s'):L2.PW X E (tT X.K X.d env s o):=Ri λ_ _ _=>Wi h
def k9:L2.PW X (.BoolOp .And [] pos) (tT X.K X.d env s (.e true s)):=λx pins sh σ H Q I ⟨ρ,hr,er,wt⟩=>PyProof.Rows.isTrue_and_nil ⟨H,I,wt _ _ _ Ext.refl hr rfl⟩
def fE:L2.PW X (.BoolOp .Or [] pos) (tT X.K X.d env s (.e false s)):=λx pins sh σ H Q I ⟨ρ,hr,er,wt⟩=>PyProof.Rows.isTrue_or_nil ⟨H,I,wt _ _ _ Ext.refl hr rfl⟩
def bR{f2:Sto->Out Bool}(h1:L2.PT X a (tT X.K X.d env s o))(Y:∀s1,L2.PW X (.BoolOp .And rest pos) (tT X.K X.d env s1 (f2 s1))) :
 L2.PW X (.BoolOp .And (a::rest) pos) (tT X.K X.d env s (o.bind λb s1=>if b then f2 s1 else .e false s1)):=by
 cases o with
 |e v s1=>
  intro U pins sh σ H Q I h;obtain⟨ρ,W,R,S⟩:=h;refine PyProof.Rows.isTrue_and (L2.thn (h1 pins sh σ H (λc H1=>if c=true then tT X.K X.d env s1 (f2 s1) σ H1 Q else Q false H1) I ⟨ρ,W,R,λρ1 x H1 P N r1=>?_⟩) λc s' ⟨H1,I1,q1⟩=>?_)
  . have O:=S.mono P N
    cases r1;cases v with
    |true=>exact L2.r8 (⟨ρ1,N,R.mono P,O⟩)
    |false=>exact L2.sD (O _ _ _ Ext.refl N rfl)
  . cases c with
    |true=>exact Y s1 U pins s' σ H1 Q I1 q1
    |false=>exact⟨H1,I1,q1⟩
 |g _ _ _=>exact sN (zH rfl)
 |d=>exact sN (zH rfl)
def WK{f2:Sto->Out Bool}(h1:L2.PT X a (tT X.K X.d env s o))(Y:∀s1,L2.PW X (.BoolOp .Or rest pos) (tT X.K X.d env s1 (f2 s1))) :
 L2.PW X (.BoolOp .Or (a::rest) pos) (tT X.K X.d env s (o.bind λb s1=>if b then .e true s1 else f2 s1)):=by
 cases o with
 |e v s1=>
  intro U pins sh σ H Q I h;obtain⟨ρ,W,R,S⟩:=h;refine PyProof.Rows.isTrue_or (L2.thn (h1 pins sh σ H (λc H1=>if c=true then Q true H1 else tT X.K X.d env s1 (f2 s1) σ H1 Q) I ⟨ρ,W,R,λρ1 x H1 P N r1=>?_⟩) λc s' ⟨H1,I1,q1⟩=>?_)
  . have O:=S.mono P N
    cases r1;cases v with
    |true=>exact L2.r8 (O _ _ _ Ext.refl N rfl)
    |false=>exact L2.sD (⟨ρ1,N,R.mono P,O⟩)
  . cases c with
    |true=>exact⟨H1,I1,q1⟩
    |false=>exact Y s1 U pins s' σ H1 Q I1 q1
 |g _ _ _=>exact sN (zH rfl)
 |d=>exact sN (zH rfl)
end
section
variable {X:L2.Cx}{env:Env}{s:Sto}{E a b c:Expr}
def aw{t t':L2.TO}(h:L2.PO X e t)(i:∀σ H Q,t' σ H Q->t σ H Q):L2.PO X e t':=λpins s σ H Q I q=>h pins s σ H Q I (i σ H Q q)
def R9{o:Out (Option Int)}(h:∀v s',o≠.e v s'):¬tO X.K X.d env s o σ H Q:=by
 rintro ⟨ρ,_,_,w⟩;cases o with
 |e v s'=>exact h v s' rfl
 |_=>exact w
def kC{o:Out (Option Int)}(h:∀v s',o≠.e v s'):L2.PO X e (tO X.K X.d env s o):=λpins sh σ H Q I q=>(R9 h q).elim
def Sk:L2.PO X none (tO X.K X.d env s (.e none s)):=aw L2.XI λσ H Q ⟨ρ,hr,er,wt⟩=>wt _ _ _ Ext.refl hr rfl
def Vt{o:Out Val}(h:L2.PE X a (tV X.K X.d env s o)):L2.PO X (some a) (tO X.K X.d env s (o.bind λv s1=>match v with|.c i=>.e (some i) s1|_=>.d)):=by
 cases o with
 |e v s1=>
  refine aw (L2.XJ h) λσ H Q ⟨ρ,hr,er,wt⟩=>⟨ρ,hr,er,λρ1 x H1 P O r1=>?_⟩;have N:=wt.mono P O;cases r1 with
  |l i=>exact⟨i,rfl,N _ _ _ Ext.refl O rfl⟩
  |_=>exact N.elim
 |g _ _ _=>exact kC (zH rfl)
 |d=>exact kC (zH rfl)
def rMs(K:KF)(mg:Str->Option Value)(m:Bool):L2.V->Option Int->Option Int->L2.Hp->L2.VK->Prop:=λx lo hi H Q=>∃ρ s v,HR K mg ρ s H/\RD K mg ρ H v x/\yU K mg (RD K mg) ρ H (wA m v lo hi none s) Q
def R1 m:L2.SlR X (rMs X.K X.d m):=by
 intro pins s σ H x v S R lo hi U Q I W hs Z Y h;obtain⟨ρ,t,w,P,O,N⟩:=h;simp only[wA]at N;split at N
 . cases O with
   |m n e q=>exact L2.XX pins s σ H _ v S R lo hi U Q I W hs Z Y ⟨_,_,rfl,e,sC P (q.cut lo hi) N⟩
 . rename_i heq
   cases heq
 . split at N
   . rename_i e
     obtain⟨p,xs,rfl,hq,q⟩:=vO P O e;exact L2.XW pins s σ H _ v S R lo hi U Q I W hs Z Y ⟨_,_,rfl,.of hq,vQ P (q.cut lo hi) N⟩
   . exact N.elim
 . rename_i heq
   cases heq
def Si{f2 f3 f4:Sto->Out (Option Int)}(h1:L2.PE X a (tV X.K X.d env s o))(h2:∀s1,L2.PO X lo (tO X.K X.d env s1 (f2 s1)))(h3:∀s1,L2.PO X hi (tO X.K X.d env s1 (f3 s1)))
 (h4:∀s1,L2.PO X st (tO X.K X.d env s1 (f4 s1))) (hst:(st=none/\∀s1,f4 s1=.e none s1)\/∃e,st=some e/\∀s1 s2,f4 s1≠.e none s2) :
 L2.PE X (.Subscript a (.Slice lo hi st p2) pos) (tV X.K X.d env s (o.bind λx s1=>(f2 s1).bind λl s2=>(f3 s2).bind λh s3=>(f4 s3).bind λc s4=>wA m x l h c s4)):=by
 cases o with
 |e v s1=>
  have h2':=h2 s1;show L2.PE X _ (tV X.K X.d env s ((f2 s1).bind _));cases hl:f2 s1 with
  |e l s2=>
   rw[hl]at h2';have h3':=h3 s2;show L2.PE X _ (tV X.K X.d env s ((f3 s2).bind _));cases hh:f3 s2 with
   |e h s3=>
    rw[hh]at h3';have h4':=h4 s3;show L2.PE X _ (tV X.K X.d env s ((f4 s3).bind _));rcases hst with⟨rfl,e4⟩|⟨e,rfl,e4⟩
    . rw[e4 s3]
      refine zX (L2.ai (R1 m) h1 h2' h3') λσ H Q ⟨ρ,hr,er,wt⟩=>⟨ρ,hr,er,λρ1 x H1 W S r1=>⟨ρ1,S,er.mono W,λρ2 y H2 U R r2=>?_⟩⟩;cases r2;refine⟨ρ2,R,(er.mono W).mono U,λρ3 z H3 x3 P r3=>?_⟩;cases r3;exact⟨ρ3,s3,v,P,(r1.mono U).mono x3,wt.mono ((W.trans S U).trans R x3) P⟩
    . cases hc:f4 s3 with
      |e cc s4=>
       rw[hc]at h4';cases cc with
       |none=>exact absurd hc (e4 s3 s4)
       |some O=>
        by_cases hv:∃vs,v=.f vs
        case neg=>
         refine zX (L2.jd h1 h2' h3' h4') λσ H Q ⟨ρ,hr,er,wt⟩=>⟨ρ,hr,er,λρ1 x H1 W S r1=>⟨ρ1,S,er.mono W,λρ2 y H2 U R r2=>?_⟩⟩;cases r2;refine⟨ρ2,R,(er.mono W).mono U,λρ3 z H3 x3 P r3=>?_⟩;cases r3;refine⟨ρ3,P,((er.mono W).mono U).mono x3,λZ z4 H4 x4 Y r4=>?_⟩;cases r4;have N:yU X.K X.d (RD X.K X.d) Z H4 (wA m v l h (some O) s4) Q:=wt.mono (((W.trans S U).trans R x3).trans P x4) Y;have em:wA m v l h (some O) s4=(match yd s4 v with|some vs=>if O≠0 then newList m (L2.zo vs (L2.vy vs.length l h O).1 O (L2.vy vs.length l h O).2) s4 else .d|dS=>.d):=by
          cases v with
          |f vs=>exact absurd ⟨vs,rfl⟩ hv
          |_=>rfl
         rw[em]at N;cases hl:yd s4 v with
         |none=>rw[hl]at N;exact N.elim
         |some vs=>
          rw[hl]at N;dsimp only at N;obtain⟨p,xs,rfl,hq,q⟩:=vO Y (((r1.mono U).mono x3).mono x4) hl;by_cases c0:O≠0
          . have wt2:yU X.K X.d (RD X.K X.d) Z H4 (newList m (L2.zo vs (L2.vy vs.length l h O).1 O (L2.vy vs.length l h O).2) s4) Q:=by rwa [if_pos c0]at N
            refine⟨p,xs,O,rfl,.of hq,rfl,c0,?_⟩;rw[<-q.length];exact vQ Y (q.zo _ _ _) wt2
          . rw[if_neg c0]at N;exact N.elim
        refine zX (L2.fk h1 h2' h3' h4') λσ H Q ⟨ρ,hr,er,wt⟩=>⟨ρ,hr,er,λρ1 x H1 W S r1=>⟨ρ1,S,er.mono W,λρ2 y H2 U R r2=>?_⟩⟩;cases r2;refine⟨ρ2,R,(er.mono W).mono U,λρ3 z H3 x3 P r3=>?_⟩;cases r3;refine⟨ρ3,P,((er.mono W).mono U).mono x3,λZ z4 H4 x4 Y r4=>?_⟩;cases r4;have xx:=((W.trans S U).trans R x3).trans P x4;have N:yU X.K X.d (RD X.K X.d) Z H4 (wA m v l h (some O) s4) Q:=wt.mono xx Y;have r:=((r1.mono U).mono x3).mono x4;cases r with
        |m n e q=>
         change yU X.K X.d (RD X.K X.d) Z H4 (if O≠0/\(L2.yS (Gk _) l h O).2<=zZ then .e (.f (L2.zo _ (L2.yS (Gk _) l h O).1 O (L2.yS (Gk _) l h O).2)) s4 else .d) Q at N
         split at N
         . rename_i hz
           have hlen:=q.length;refine⟨_,_,O,rfl,e,rfl,hz.1,by rw[<-hlen,<-y0];exact hz.2,?_⟩
           rw[<-hlen];exact sC Y (q.zo _ _ _) N
         . exact N.elim
        |_=>obtain⟨_,e⟩:=hv;cases e
      |g _ _ _=>exact zL (zH rfl)
      |d=>exact zL (zH rfl)
   |g _ _ _=>exact zL (zH rfl)
   |d=>exact zL (zH rfl)
  |g _ _ _=>exact zL (zH rfl)
  |d=>exact zL (zH rfl)
 |g _ _ _=>exact zL (zH rfl)
 |d=>exact zL (zH rfl)
theorem RDs.erase:∀{vs} {xs} n,RDs K mg ρ H vs xs->RDs K mg ρ H (vs.eraseIdx n) (xs.eraseIdx n)
 |_,_,_,.d=>.d
 |_,_,0,.a _ rs=>rs
 |_,_,n+1,.a r rs=>.a r (rs.erase n)
noncomputable def Mf.nm:Mf->Str
 |.c=>"count"|.a=>"append"|.b=>"extend"|.e=>"pop"|.d=>"index"|.f=>"join"
noncomputable def okM:Mf->Bool
 |.c|.a|.b|.d|.f=>false
 |_=>true
def bL{f2:Sto->Out Val}(U:okM f=true)(hs:qM a=true)(hp:plain b=true)(hline:(apos.endLine == cpos.line)=true)(h1:L2.PE X a (tV X.K X.d env s o))(h2:∀s1,L2.PE X b (tV X.K X.d env s1 (f2 s1))) :
 L2.PE X (.Call (.Attribute a f.nm apos) [b] [] cpos) (tV X.K X.d env s (o.bind λx s1=>((f2 s1).bind λv s2=>(Out.e [v] s2:Out (List Val))).bind λvs s2=>wZ f x vs s2)):=by
 cases o with
 |e v s1=>
  have W:=h2 s1;show L2.PE X _ (tV X.K X.d env s (((f2 s1).bind λv s2=>(Out.e [v] s2:Out (List Val))).bind λvs s2=>wZ f v vs s2));cases hb:f2 s1 with
  |e w s2=>
   rw[hb]at W;show L2.PE X _ (tV X.K X.d env s (wZ f v [w] s2));cases f with
   |c=>cases U
   |a=>cases U
   |b=>cases U
   |e=>
    cases v with
    |m i=>
     have R:AG [b] X.a=(false,eval b X.a)::AG [] X.a:=L2.zv (zl hp);have P:L2.PE X (.Call (.Attribute a "pop" apos) [b] [] cpos) (L2.tBM X.K "list" L2.ZC _ (L2.xW _ L2.tM)):=L2.gE C8 PySem.F.slot_list_pop PySem.F.type_list_pop L2.br h1 (L2.pac W L2.yn (zl hp)) (tZ hs) (by rw[R];rfl) hline R rfl
     refine zX P λσ H Q ⟨ρ,hr,er,wt⟩=>⟨ρ,hr,er,λρ1 x H1 x1 S r1=>?_⟩;cases r1 with
     |C e k=>
      obtain⟨xs,q⟩:=cu k;refine⟨.inl ⟨rfl,_,.of q⟩,ρ1,S,er.mono x1,λρ2 y H2 x2 O r2=>?_⟩;have N:yU X.K X.d (RD X.K X.d) ρ2 H2 (wZ .e (.m i) [w] s2) Q:=wt.mono (x1.trans S x2) O;cases w with
      |c j=>
       simp only[wZ]at N;split at N
       . rename_i vs hv
         split at N
         . rename_i hz
           split at N
           . rename_i n hn
             split at N
             . rename_i u hu
               cases r2;obtain⟨b',ys,e1,e2,Z⟩:=O.obj i _ hv;have Y:=x2.get e;rw[Y]at e1;cases e1;obtain⟨u',hu',ru⟩:=Z.get hu;refine⟨_,ys,j,n,u',rfl,rfl,e2,hz.1,hz.2,by rw[<-Z.length];exact hn,hu',?_⟩
               exact N _ _ _ (Ext.write O Y e2 _) (O.write Y e2 (Z.erase n)) (ru.mono (Ext.write O Y e2 _))
             . exact N.elim
           . exact N.elim
         . exact N.elim
       . exact N.elim
      |_=>exact N.elim
    |_=>exact zL (zH rfl)
   |d=>cases U
   |f=>cases U
  |g _ _ _=>exact zL (zH rfl)
  |d=>exact zL (zH rfl)
 |g _ _ _=>exact zL (zH rfl)
 |d=>exact zL (zH rfl)
end
def spN(T:Tbl)(K:KF)(mg:Str->Option Value)(n:Nat)(f:Str)(ver:Nat):L2.Sp:=λvs H Q _=>∃ρ s args,HR K mg ρ s H/\RDs K mg ρ H args vs/\yU K mg (RD K mg) ρ H (zC T n f ver args s) Q
structure Callee(T:Tbl)(n:Nat)(X:L2.Cx)(f:Str)(ver:Nat)(F:Fn):Prop where
 a:∃fa fd,X.d f=some (.ref fa)/\B2 X.K (.ref fa)=true/\L2.Binds X.K fd F.b []/\L2.tR X.f X.w X.K X.d X.h L2.CX0 n fa fd F.b (spN T X.K X.d n f ver)
def bH(C:Callee T n X f ver F)(x:L2.xH n X.A)(O:L2.Gl X f)(hd:(f == ("__debug__":Str))=false):L2.PE X (.Call (.Name f p) [] [] pos) (tV X.K X.d env s (zC T n f ver [] s)):=by obtain⟨fa,fd,N,hk,P,hf⟩:=C.a;exact zX (L2.l7 hf x O N hk P .nil L2.WT hd) λσ H Q ⟨ρ,hr,er,wt⟩=>⟨ρ,s,[],hr,.d,wt⟩
def Yc(C:Callee T n X f ver F)(N:L2.xH n X.A)(U:L2.Gl X f)(hd:(f == ("__debug__":Str))=false)(hp:ze es=true)(O:es≠[])(h:L2.PA X es (tVs X.K X.d env s o)) :
 L2.PE X (.Call (.Name f p) es [] pos) (tV X.K X.d env s (o.bind (zC T n f ver))):=by
 obtain⟨fa,fd,S,hk,W,hf⟩:=C.a;cases o with
 |e vs s1=>
  cases es with
  |nil=>exact absurd rfl O
  |cons e es=>
   rw[ze,cf]at hp;refine zX (L2.mW hf N U S hk W .nil L2.WT h hd (L2.zv (zl hp.1)) (yp hp.2)) λσ H Q ⟨ρ,hr,er,wt⟩=>⟨ρ,hr,er,λρ1 P H1 R x r1=>?_⟩;show spN T X.K X.d n f ver (P++[]) H1 Q L2.E0;rw[A9];exact⟨ρ1,s1,vs,x,r1,wt.mono R x⟩
 |g _ _ _=>exact zL (zH rfl)
 |d=>exact zL (zH rfl)
def xk:∀{c} {p},(c=true->p)->cond c p True
 |true,_,h=>h rfl
 |false,_,_=>AX
def qd(h:cond c p True)(e:c=true):p:=by subst e;exact h
mutual
theorem Tx:∀(a b:Val),cond (a.beq b) (a=b) True
 |.j,b=>by cases b<;>first|exact(rfl:Val.j=Val.j)|exact AX
 |.e x,b=>by cases b with|e y=>exact xk λh=>congrArg Val.e (Cg (show (x == y)=true from h))|_=>exact AX
 |.c x,b=>by cases b with|c y=>exact xk λh=>congrArg Val.c (Cg (show (x == y)=true from h))|_=>exact AX
 |.g x,b=>by cases b with|g y=>exact xk λh=>congrArg Val.g (Cg (show (x == y)=true from h))|_=>exact AX
 |.f x,b=>by cases b with|f y=>exact xk λh=>congrArg Val.f (qd (nk x y) h)|_=>exact AX
 |.h x,b=>by cases b with|h y=>exact xk λh=>congrArg Val.h (qd (nk x y) h)|_=>exact AX
 |.p,b=>by cases b<;>first|exact(rfl:Val.p=Val.p)|exact AX
 |.o x,b=>by cases b with|o y=>exact xk λh=>congrArg Val.o (Cg (show (x == y)=true from h))|_=>exact AX
 |.r x,b=>by cases b with|r y=>exact xk λh=>congrArg Val.r (Cg (show (x == y)=true from h))|_=>exact AX
 |.m x,b=>by cases b with|m y=>exact xk λh=>congrArg Val.m (Cg (show (x == y)=true from h))|_=>exact AX
 |.u x,b=>by cases b with|u y=>exact xk λh=>congrArg Val.u (Cg (show (x == y)=true from h))|_=>exact AX
 |.t x,b=>by cases b with|t y=>exact xk λh=>congrArg Val.t (Cg (show (x == y)=true from h))|_=>exact AX
 |.q x,b=>by cases b with|q y=>exact xk λh=>congrArg Val.q (Cg (show (x == y)=true from h))|_=>exact AX
 |.s x k,b=>by cases b with|s y l=>exact xk λh=>(by rw[show Val.beq (.s x k) (.s y l)=(x == y&&k == l) from rfl,cf]at h;rw[Cg h.1,Cg h.2])|_=>exact AX
theorem nk:∀(a b:List Val),cond (sk a b) (a=b) True
 |[],[]=>(rfl:([]:List Val)=[])
 |[],_::_=>AX
 |_::_,[]=>AX
 |x::xs,y::ys=>xk λh=>by have h:(x.beq y&&sk xs ys)=true:=h;rw[cf]at h;rw[qd (Tx x y) h.1,qd (nk xs ys) h.2]
end
def td(h:sk a b=true):a=b:=qd (nk a b) h
mutual
theorem beq_refl:∀a:Val,a.beq a=true
 |.j=>rfl
 |.e x=>(beq_self_eq_true x:(x == x)=true)
 |.c x=>(beq_self_eq_true x:(x == x)=true)
 |.g x=>(beq_self_eq_true x:(x == x)=true)
 |.f x=>uR x
 |.h x=>uR x
 |.p=>rfl
 |.o x=>(beq_self_eq_true x:(x == x)=true)
 |.r x=>(beq_self_eq_true x:(x == x)=true)
 |.m x=>(beq_self_eq_true x:(x == x)=true)
 |.u x=>(beq_self_eq_true x:(x == x)=true)
 |.t x=>(beq_self_eq_true x:(x == x)=true)
 |.q x=>(beq_self_eq_true x:(x == x)=true)
 |.s x k=>(by rw[show Val.beq (.s x k) (.s x k)=(x == x&&k == k) from rfl,beq_self_eq_true,beq_self_eq_true];rfl)
theorem uR:∀a:List Val,sk a a=true
 |[]=>rfl
 |x::xs=>by rw[sk,beq_refl x,uR xs];rfl
end
section
variable {K:KF}{mg:Str->Option Value}
def Mv.refl:Mv ρ H ρ H:=⟨λa o e n=>⟨e,n⟩,λi a e=>e,λ_ _=>rfl⟩
theorem Mv.trans(x:Mv ρ H ρ1 H1)(y:Mv ρ1 H1 ρ2 H2):Mv ρ H ρ2 H2:=
 ⟨λa o e n=>y.b a o (x.b a o e n).1 (x.b a o e n).2,λi a e=>y.c i a (x.c i a e),λa N=>by obtain⟨i,hi⟩:=List.getElem?_of_mem N;exact(y.d a (A4 (x.c i a hi))).trans (x.d a N)⟩
structure Walk(K:KF)(mg:Str->Option Value)(ρ:Own)(H:L2.Hp)(r:Src)(J:L2.It):Prop where
 b:r.a.length<=zZ
 c:∀(ρ2:Own) (H2:L2.Hp) (s2:Sto) (i:Nat) (v:Val),Mv ρ H ρ2 H2->HR K mg ρ2 s2 H2->r.ok s2=true->r.a[i]?=some v->J.c i H2/\∀x H3,J.b i H2 x H3->(H3=H2\/∃p o,H2 p=none/\H3=L2.upd H2 p o)/\RD K mg ρ2 H3 v x
 a:∀(ρ2:Own) (H2:L2.Hp) (s2:Sto) (i:Nat),Mv ρ H ρ2 H2->HR K mg ρ2 s2 H2->r.ok s2=true->i=r.a.length->J.a i H2
def Walk.mv(w:Walk K mg ρ H r J)(x:Mv ρ H ρ1 H1):Walk K mg ρ1 H1 r J:=
 ⟨w.b,λρ2 H2 s2 i v y=>w.c ρ2 H2 s2 i v (x.trans y),λρ2 H2 s2 i y=>w.a ρ2 H2 s2 i (x.trans y)⟩
def dC(H:L2.Hp):Prop:=∀a x,(H a=some (.c x)\/H a=some (.b x))->x.length<=Ar
def pT(h:L2.PI X tg it wi):L2.PI X tg it (λσ H R=>wi σ H λJ H1=>dC H1->R J H1):=λpins s σ H R I q=>
 L2.thn (h pins s σ H _ I q) λv s1 h1=>L2.thn h1 λN s2 ⟨i,fp,tn,J,H',e,I',T,t0,f,r⟩=>⟨i,fp,tn,J,H',e,I',T,t0,f,r λa x hx=>by
  rcases hx with hx|hx
  . obtain⟨z,_⟩:=(show L2.z0 X.f X.w H' s2.heap a (.c x) from I'.B a _ hx);exact z
  . obtain⟨z,_⟩:=(show L2.z0 X.f X.w H' s2.heap a (.b x) from I'.B a _ hx);exact z⟩
def Zr(hz:vs.length<=zZ)(n:ρ.no a)(e:H a=some (.c xs))(q:RDs K mg ρ H vs xs):Walk K mg ρ H ⟨vs,none⟩ (L2.Itt K a) where
 b:=hz
 c:=λρ2 H2 s2 i v x P _ O=>by have e2:=(x.b a _ e n).1;have N:=RDs.mv x q;obtain⟨y,h1,Q⟩:=N.get O;refine⟨⟨xs,y,.of e2,h1⟩,λz R ⟨e3,h3⟩=>⟨.inl e3,?_⟩⟩;subst e3;have:=h3 xs (.of e2);rw[h1]at this;cases this;exact Q
 a:=λρ2 H2 s2 i x P _ hi=>⟨xs,.of (x.b a _ e n).1,by rw[<-q.length];exact ET hi.symm⟩
def Zo(hz:vs.length<=zZ)(n:ρ.no a)(e:H a=some (.b xs))(q:RDs K mg ρ H vs xs):Walk K mg ρ H ⟨vs,none⟩ (L2.Itl K a) where
 b:=hz
 c:=λρ2 H2 s2 i v x P _ O=>by have e2:=(x.b a _ e n).1;have N:=RDs.mv x q;obtain⟨y,h1,Q⟩:=N.get O;refine⟨⟨xs,y,.of e2,h1⟩,λz R ⟨e3,h3⟩=>⟨.inl e3,?_⟩⟩;subst e3;have:=h3 xs (.of e2);rw[h1]at this;cases this;exact Q
 a:=λρ2 H2 s2 i x P _ hi=>⟨xs,.of (x.b a _ e n).1,by rw[<-q.length];exact ET hi.symm⟩
def eQ{ns:List Int}(k:KT K a (ns.map L2.V.d)):Walk K mg ρ H ⟨ns.map .c,none⟩ (L2.Itt K a) where
 b:=by obtain⟨o,its,n,_,_,_,Q,P⟩:=k;have:=P.length;simp only[Ac,C4]at this;show (ns.map Val.c).length<=_;rw[Ac,y0,this];exact Q
 c:=λρ2 H2 s2 i v x O _ N=>by obtain⟨y,h1,R⟩:=(RDs.ints (K:=K) (mg:=mg) (ρ:=ρ2) (H:=H2) ns).get N;refine⟨⟨_,y,k.sqt,h1⟩,λz S ⟨e3,h3⟩=>⟨.inl e3,?_⟩⟩;subst e3;have:=h3 _ k.sqt;rw[h1]at this;cases this;exact R
 a:=λρ2 H2 s2 i x O _ hi=>⟨_,k.sqt,by rw[Ac];rw[hi];simp⟩
def Zp(hz:vs.length<=zZ)(e:ρ.o[i0]?=some a):Walk K mg ρ H ⟨vs,some i0⟩ (L2.Itl K a) where
 b:=hz
 c:=λρ2 H2 s2 i v x P N Q=>by
  simp only[Src.ok]at N;split at N
  . rename_i ws hw
    cases td N;obtain⟨b,O,e1,e2,q⟩:=P.obj i0 _ hw;rw[x.c _ _ e]at e1;cases e1;obtain⟨y,h1,R⟩:=q.get Q;refine⟨⟨O,y,.of e2,h1⟩,λz S ⟨e3,h3⟩=>⟨.inl e3,?_⟩⟩;subst e3;have:=h3 O (.of e2);rw[h1]at this;cases this;exact R
  . cases N
 a:=λρ2 H2 s2 i x P N hi=>by
  simp only[Src.ok]at N;split at N
  . rename_i ws hw
    cases td N;obtain⟨b,O,e1,e2,q⟩:=P.obj i0 _ hw;rw[x.c _ _ e]at e1;cases e1;exact⟨O,.of e2,by rw[<-q.length];exact ET hi.symm⟩
  . cases N
def ZH:(xq lo n)[i]?=if i<n then some (.c (lo+i)) else none:=by
 unfold xq;rw[AE];by_cases h:i<n
 . rw[if_pos h,C6 h];rfl
 . rw[if_neg h,Bb (by rw[Bi];omega)];rfl
def pW:(xq lo n).length=n:=by unfold xq;rw[Ac,Bi]
def Zq(hz:n<=zZ):Walk K mg ρ H ⟨xq lo n,none⟩ (L2.Itr lo n) where
 b:=by show (xq lo n).length<=_;rw[pW];exact hz
 c:=λρ2 H2 s2 i v x P _ O=>by
  have N:(xq lo n)[i]?=some v:=O;rw[ZH]at N;split at N
  . rename_i hi
    cases N;refine⟨hi,λz Q ⟨e3,h3⟩=>⟨.inl e3,?_⟩⟩;subst h3;exact .l _
  . cases N
 a:=λρ2 H2 s2 i x P _ hi=>by have:i=(xq lo n).length:=hi;rw[pW]at this;exact ET this.symm
def tI(env:Env)(s:Sto)(o:Out Src):L2.TI:=λσ H R=>∃ρ,HR K mg ρ s H/\ER K mg ρ H env σ/\(match o with
 |.e r s'=>∀ρ' H' J,Ext ρ H ρ' H'->HR K mg ρ' s' H'->Walk K mg ρ' H' r J->R J H'
 |_=>False)
end
section
variable {X:L2.Cx}{env:Env}{s:Sto}{a b tg:Expr}
def pS{t t':L2.TI}(h:L2.PI X tg it t)(i:∀σ H R,t' σ H R->t σ H R):L2.PI X tg it t':=λpins s σ H R I q=>h pins s σ H R I (i σ H R q)
def wX{o:Out Src}(h:∀v s',o≠.e v s'):L2.PI X tg it (tI (K:=X.K) (mg:=X.d) env s o):=λpins sh σ H R I q=>by
 obtain⟨ρ,_,_,w⟩:=q;cases o with
 |e v s'=>exact(h v s' rfl).elim
 |g _ _ _=>exact w.elim
 |d=>exact w.elim
def dC.of(z:dC H){a}(q:RDs K mg ρ H vs xs)(h:H a=some (.c xs)\/H a=some (.b xs)):vs.length<=zZ:=by rw[q.length,y0];exact z a xs h
def Vs{o:Out Val}(h:L2.PE X a (tV X.K X.d env s o)):L2.PI X tg a (tI (K:=X.K) (mg:=X.d) env s (o.bind λv s1=>match srcOf s1 v with|some r=>.e r s1|dS=>.d)):=by
 cases o with
 |e v s1=>
  show L2.PI X tg a (tI (K:=X.K) (mg:=X.d) env s (match srcOf s1 v with|some r=>.e r s1|dS=>.d))
  cases v with
  |f vs=>
   refine pS (pT (L2.ao h)) λσ H R ⟨ρ,hr,er,w⟩=>⟨ρ,hr,er,λρ1 x H1 O N r1=>?_⟩;cases r1 with
   |m n e q=>exact⟨_,rfl,⟨_,.of e⟩,λz=>w ρ1 H1 _ O N (Zr (z.of q (.inl e)) n e q)⟩
  |h vs=>
   refine pS (pT (L2.mY h)) λσ H R ⟨ρ,hr,er,w⟩=>⟨ρ,hr,er,λρ1 x H1 O N r1=>?_⟩;cases r1 with
   |E n e q=>exact⟨_,rfl,⟨_,.of e⟩,λz=>w ρ1 H1 _ O N (Zo (z.of q (.inr e)) n e q)⟩
  |o ns=>
   refine pS (L2.ao h) λσ H R ⟨ρ,hr,er,w⟩=>⟨ρ,hr,er,λρ1 x H1 O N r1=>?_⟩;cases r1 with
   |p k=>exact⟨_,rfl,⟨_,k.sqt⟩,w ρ1 H1 _ O N (eQ k)⟩
  |m i=>
   simp only[srcOf];cases hs:s1[i]? with
   |none=>exact wX (zH rfl)
   |some cl=>
    cases cl with
    |c vs=>
     refine pS (pT (L2.mY h)) λσ H R ⟨ρ,hr,er,w⟩=>⟨ρ,hr,er,λρ1 x H1 O N r1=>?_⟩;cases r1 with
     |C e=>
      obtain⟨Q,P,e1,e2,q⟩:=N.obj i _ hs;rw[e]at e1;cases e1;exact⟨_,rfl,⟨_,.of e2⟩,λz=>w ρ1 H1 _ O N (Zp (z.of q (.inr e2)) e)⟩
    |_=>exact wX (zH rfl)
  |_=>exact wX (zH rfl)
 |g _ _ _=>exact wX (zH rfl)
 |d=>exact wX (zH rfl)
def fD{o:Out Val}{p pos:Pos}(hp:plain a=true)(Q:L2.Gl X "range")(P:X.d "range"=none)(h:L2.PE X a (tV X.K X.d env s o)) :
 L2.PI X tg (.Call (.Name "range" p) [a] [] pos) (tI (K:=X.K) (mg:=X.d) env s (o.bind λx s1=>match x with
  |.c j=>if -(2 ^ 62)<=j/\j<=zZ then .e ⟨xq 0 j.toNat,dS⟩ s1 else .d
  |_=>.d)):=by
 cases o with
 |e v s1=>
  have st:AG [a] X.a=[(false,eval a X.a)]:=L2.zv (zl hp);refine pS (L2.fm Q P (L2.pac h L2.yn (zl hp)) st) λσ H R ⟨ρ,hr,er,w⟩=>⟨ρ,hr,er,λρ1 x H1 O N r1=>?_⟩;cases r1 with
  |l j=>
   simp only[zV]at w;by_cases hz:-(2 ^ 62)<=j/\j<=zZ
   . rw[if_pos hz]at w
     have S:(zZ:Int)<2 ^ 62:=by decide
     exact⟨j,rfl,hz.1,⋯,w ρ1 H1 _ O N (Zq ⋯)⟩
   . rw[if_neg hz]at w;exact w.elim
  |_=>exact w.elim
 |g _ _ _=>exact wX (zH rfl)
 |d=>exact wX (zH rfl)
end
def oB(K:KF)(mg:Str->Option Value)(t:Tgt)(g:L2.TG):Prop:=∀(ρ:Own) (s:Sto) (H:L2.Hp) (v:Val) (x:L2.V) (env env':Env) (σ:L2.St) (Q:L2.St->L2.Hp->Prop),HR K mg ρ s H->RD K mg ρ H v x->ER K mg ρ H env σ->yk t v env=some env' ->
 (∀N,ER K mg ρ H env' N->Q N H)->g x σ H Q
def m9:oB K mg (.a i) (L2.wH i):=λρ s H v x env env' σ Q O r N e q=>by
 cases e;exact q _ (N.set i r)
def qu:List Nat->L2.TGs
 |[]=>L2.SM
 |i::is=>L2.WD (L2.wH i) (qu is)
theorem nE:∀{is} {vs} {xs} {env} {σ},RDs K mg ρ H vs xs->ER K mg ρ H env σ->vs.length=is.length ->
 (∀N,ER K mg ρ H ((is.zip vs).foldl (λe p=>e.set p.1 (some p.2)) env) N->Q N H)->qu is xs σ H Q
 |[],[],_,env,σ,.d,er,_,q=>⟨rfl,q σ er⟩
 |[],_::_,_,_,_,_,_,h,_=>by cases h
 |_::_,[],_,_,_,_,_,h,_=>by cases h
 |i::is,v::vs,x::xs,env,σ,.a r rs,er,h,q=>⟨x,xs,rfl,nE rs (er.set i r) (by simpa using h) q⟩
def uK:oB K mg (.b is) (L2.VM K is.length (qu is)):=λρ s H v x env env' σ Q P r O e q=>by
 simp only[yk]at e;split at e
 . split at e
   . rename_i hl
     cases e;cases r with
     |m n e N=>exact⟨_,_,rfl,.of e,by rw[<-N.length];exact hl,nE N O hl q⟩
   . cases e
 . cases e
noncomputable def yE(sc:Scope)(N:List Str):List Nat->List Expr->Bool
 |[],[]=>true
 |i::is,.Name x _::es=>decide (N[i]?=some x)&&(decide (sc.names.lookup x=some .local)||decide (sc.names.lookup x=some .cell))&&yE sc N is es
 |_,_=>false
def ckT(sc:Scope)(N:List Str):Tgt->Expr->Bool
 |.a i,.Name x _=>decide (N[i]?=some x)&&(decide (sc.names.lookup x=some .local)||decide (sc.names.lookup x=some .cell))
 |.b is,.Tuple es _ _=>yE sc N is es&&decide (es≠[])
 |_,_=>false
section
variable {X:L2.Cx}
structure Scp(sc:Scope)(N:List Str)(X:L2.Cx):Prop where
 a:X.N=N
 d:N.Nodup
 c:∀x,sc.names.lookup x=some .local\/sc.names.lookup x=some .cell\/sc.names.lookup x=some .free->L2.Vis X.a.scope x
 e:∀x,sc.names.lookup x=some .local\/sc.names.lookup x=some .cell->L2.Loc X.a.scope x/\(X.q x=true\/X.a.scope.names.lookup x=some .local)
 b:∀x,sc.names.lookup x=some .globalImplicit->L2.Gl X x
 f:∀x,sc.names.lookup x=some .cell\/sc.names.lookup x=some .free->X.a.kindOf x=some .cell\/X.a.kindOf x=some .free
def nH(S:Scp sc N X)(h1:N[i]?=some x)(O:sc.names.lookup x=some .local\/sc.names.lookup x=some .cell):L2.PG X (.Name x p) (L2.wH i):=by obtain⟨a,b⟩:=S.e x O;exact L2.XF (by rw[S.a];exact S.d) (by rw[S.a];exact h1) a b
theorem xp(S:Scp sc N X):∀{is} {es},yE sc N is es=true->L2.PGs X es (qu is)/\(CO es X.a).length=is.length/\(CO es X.a).findIdx? (·.1)=none
 |[],[],_=>⟨L2.XG,rfl,rfl⟩
 |[],_::_,h=>by cases h
 |_::_,[],h=>by cases h
 |i::is,e::es,h=>by
  cases e with
  |Name x p=>
   simp only[yE,cf,Ay,decide_eq_true_eq]at h;obtain⟨a,b,c⟩:=xp S h.2;refine⟨L2.ak (nH S h.1.1 h.1.2) a,?_,?_⟩
   . show (CO es X.a).length+1=is.length+1
     rw[b]
   . show List.findIdx? (·.1) ((false,assign (.Name x p) X.a)::CO es X.a)=none
     rw[List.findIdx?_cons];simp only[Ba,if_false];rw[c];rfl
  |_=>cases h
def Rf(S:Scp sc N X)(O:X.j=true)(h:ckT sc N t e=true):∃g,L2.PG X e g/\oB X.K X.d t g:=by
 cases t with
 |a i=>
  cases e with
  |Name x p=>
   simp only[ckT,cf,Ay,decide_eq_true_eq]at h;exact⟨_,nH S h.1 h.2,m9⟩
  |_=>cases h
 |b is=>
  cases e with
  |Tuple es k p=>
   simp only[ckT,cf,decide_eq_true_eq]at h;obtain⟨a,b,c⟩:=xp S h.1;exact⟨_,L2.rK O a b c,uK⟩
  |_=>cases h
end
structure Lp(acc:Addr)(ρ:Own)(H:L2.Hp)(ρ':Own)(H':L2.Hp):Prop where
 f:∃new:List Addr,ρ'.o=ρ.o++new/\∀a∈new,H a=none
 d:ρ'.h=acc::ρ.h
 c:∀(a:Addr) (o:L2.HO),H a=some o->a ∉ ρ.o->H' a=some o
 g:∀a∈ρ.o,hk (H' a)=hk (H a)
section
variable {K:KF}{mg:Str->Option Value}{ρ ρ1 ρ2:Own}{H H1 H2:L2.Hp}{s s1:Sto}{acc:Addr}
noncomputable def Own.hide(ρ:Own)(acc:Addr):Own:=⟨ρ.o,acc::ρ.h⟩
def qK(N:HR K mg ρ s H)(x:H acc=none)o:Mv ρ H (ρ.hide acc) (L2.upd H acc o):=
 ⟨λa u e n=>⟨by rw[L2.zG (L2.zN e x)];exact e,n.1,λO=>by
  rcases Ap.mp O with z|z
  . exact L2.zN e x z
  . exact n.2 z⟩,λi a e=>e,λa P=>by rw[L2.zG λz=>(N.new x).1 (by rw[<-z];exact P)]⟩
theorem HR.hide(x:HR K mg ρ s H)(N:H acc=none):HR K mg (ρ.hide acc) s (L2.upd H acc (.b xs)):=by
 refine⟨x.f,x.v,λi c e=>?_,λa O=>?_⟩
 . obtain⟨a,e1,q⟩:=x.m i c e
   obtain⟨o,e2⟩:=q.there;exact⟨a,e1,q.mv (qK x N _) (L2.zG (L2.zN e2 N))⟩
 . rcases Ap.mp O with z|z
   . subst z;exact⟨⟨xs,L2.zK⟩,(x.new N).1⟩
   . obtain⟨⟨ys,e⟩,n⟩:=x.d a z
     exact⟨⟨ys,by rw[L2.zG (L2.zN e N)];exact e⟩,n⟩
def Lp.start(N:HR K mg ρ s H)(x:H acc=none)o:Lp acc ρ H (ρ.hide acc) (L2.upd H acc o):=
 ⟨⟨[],by simp[Own.hide],λa O=>by cases O⟩,rfl,λa u e _=>by rw[L2.zG (L2.zN e x)];exact e,(qK N x o).d⟩
def Lp.step(l:Lp acc ρ H ρ1 H1)(S:HR K mg ρ1 s1 H1)(x:Ext ρ1 H1 ρ2 H2):Lp acc ρ H ρ2 H2:=by
 obtain⟨new,e1,R⟩:=l.f;obtain⟨P,e2,Q⟩:=x.d;refine⟨⟨new++P,by rw[e2,e1,Bx],λa N=>?_⟩,x.f.trans l.d,λa o e n=>x.c a o (l.c a o e n) ?_,λa N=>(x.g a (by rw[e1];exact BB _ N)).trans (l.g a N)⟩
 . rcases AD.mp N with N|N
   . exact R a N
   . cases q:H a with
     |none=>rfl
     |some o=>
      by_cases O:a∈ρ.o
      . obtain⟨U,e⟩:=S.trk (a:=a) (by rw[e1];exact BB _ O)
        rw[Q a N]at e;cases e
      . have:=l.c a o q O
        rw[Q a N]at this;cases this
 . rw[e1]
   intro O;rcases AD.mp O with O|O
   . exact n O
   . rw[R a O]at e;cases e
def Lp.emit(l:Lp acc ρ H ρ1 H1)(N:HR K mg ρ1 s1 H1)(O:H acc=none)o:Lp acc ρ H ρ1 (L2.upd H1 acc o):=
 ⟨l.f,l.d,λa u e n=>by rw[L2.zG (L2.zN e O)];exact l.c a u e n,λa x=>by
  obtain⟨new,e1,_⟩:=l.f;rw[L2.zG λz=>(N.d acc (by rw[l.d];exact Ax)).2 (by rw[<-z,e1];exact BB _ x)]
  exact l.g a x⟩
def Lp.mv(l:Lp acc ρ H ρ1 H1)(O:H acc=none):Mv ρ H ρ1 H1:=by
 obtain⟨new,e1,N⟩:=l.f;refine⟨λa u e n=>⟨l.c a u e n.1,?_,?_⟩,λi a e=>?_,l.g⟩
 . rw[e1]
   intro x;rcases AD.mp x with x|x
   . exact n.1 x
   . rw[N a x]at e;cases e
 . rw[l.d]
   intro x;rcases Ap.mp x with z|z
   . exact L2.zN e O z
   . exact n.2 z
 . have hi:i<ρ.o.length:=(Au.mp e).1
   rw[e1,A2 hi];exact e
def Lp.here(l:Lp acc ρ H ρ1 H1):acc∈ρ1.h:=by rw[l.d];exact Ax
def qJ(N:HR K mg ρ1 s1 H1)(x:acc∈ρ1.h)o:Mv ρ1 H1 ρ1 (L2.upd H1 acc o):=
 ⟨λa u e n=>⟨by rw[L2.zG (λz=>n.2 (by rw[z];exact x))];exact e,n⟩,λi a e=>e,λa h=>by rw[L2.zG λz=>(N.d acc x).2 (by rw[<-z];exact h)]⟩
def HR.emit(x:HR K mg ρ1 s1 H1)(O:acc∈ρ1.h):HR K mg ρ1 s1 (L2.upd H1 acc (.b xs)):=by
 have N:=(x.d acc O).2;refine⟨x.f,x.v,λi c e=>?_,λa P=>?_⟩
 . obtain⟨a,e1,q⟩:=x.m i c e
   exact⟨a,e1,q.mv (qJ x O _) (L2.zG (λz=>N (by rw[<-z];exact A4 e1)))⟩
 . obtain⟨⟨ys,e⟩,n⟩:=x.d a P
   by_cases z:a=acc
   . subst z;exact⟨⟨xs,L2.zK⟩,n⟩
   . exact⟨⟨ys,by rw[L2.zG z];exact e⟩,n⟩
def Lp.done(l:Lp acc ρ H ρ1 H1)(h0:HR K mg ρ s H)(hn:H acc=none)(O:HR K mg ρ1 s1 H1)(e:H1 acc=some (.b ys))(q:RDs K mg ρ1 H1 vs ys)(w:yU K mg (RD K mg) ρ H (newList m vs s1) Q):Q (.c acc) H1:=by
 have ha:=l.here;have P:=(O.d acc ha).2;have S:=(h0.new hn).2;cases m with
 |false=>
  have mv:Mv ρ1 H1 ⟨ρ1.o,ρ.h⟩ H1:=⟨λa u e n=>⟨e,n.1,λz=>n.2 (by rw[l.d];exact Ah _ z)⟩,λi a e=>e,λ_ _=>rfl⟩
  refine w ⟨ρ1.o,ρ.h⟩ _ H1 ⟨l.f,rfl,l.c,l.g⟩ ⟨O.f,O.v,λi ws e=>?_,λa N=>?_⟩ (.E ⟨P,S⟩ e (RDs.mv mv q))
  . obtain⟨a,e1,t⟩:=O.m i ws e
    exact⟨a,e1,t.mv mv rfl⟩
  . exact O.d a (by rw[l.d];exact Ah _ N)
 |true=>
  have mv:Mv ρ1 H1 ⟨ρ1.o++[acc],ρ.h⟩ H1:=by
   refine⟨λa u e n=>⟨e,λN=>?_,λz=>n.2 (by rw[l.d];exact Ah _ z)⟩,λi a e=>?_,λ_ _=>rfl⟩
   . rcases AD.mp N with N|N
     . exact n.1 N
     . rw[AU.mp N]at n;exact n.2 ha
   . show (ρ1.o++[acc])[i]?=_
     rw[A2 (Au.mp e).1];exact e
  have Z:(ρ1.o++[acc])[s1.length]?=some acc:=by rw[<-O.f,Bz (Ad _)];simp
  refine w ⟨ρ1.o++[acc],ρ.h⟩ _ H1 ⟨?_,rfl,l.c,l.g⟩ ⟨?_,?_,λi ws R=>?_,λa N=>?_⟩ (.C Z (by rw[e];rfl))
  . obtain⟨new,e1,U⟩:=l.f
    refine⟨new++[acc],by show ρ1.o++[acc]=_;rw[e1,Bx],λa N=>?_⟩
    rcases AD.mp N with N|N
    . exact U a N
    . rw[AU.mp N];exact hn
  . show (ρ1.o++[acc]).length=(s1++[Cel.c vs]).length
    rw[Ao,Ao,O.f];rfl
  . show (ρ1.o++[acc]).Nodup
    rw[FG];exact⟨O.v,by simp,λa Y b hb=>by rw[AU.mp hb];intro z;subst z;exact P Y⟩
  . by_cases hi:i<s1.length
    . rw[A2 hi]at R
      obtain⟨a,e1,t⟩:=O.m i ws R;exact⟨a,mv.c i a e1,t.mv mv rfl⟩
    . have W:i=s1.length:=by have:=(Au.mp R).1;rw[Ao]at this;simp at this;omega
      subst W;rw[Bz (Ad _)]at R;simp at R;subst R;exact⟨acc,Z,ys,e,RDs.mv mv q⟩
  . obtain⟨x,n⟩:=O.d a (by rw[l.d];exact Ah _ N)
    refine⟨x,λz=>?_⟩;rcases AD.mp z with z|z
    . exact n z
    . rw[AU.mp z]at N;exact S N
end
section
variable {K:KF}{mg:Str->Option Value}
def qo{J:L2.It}{g:L2.TG}{tb:L2.TS}{D:L2.Ends}(P:Nat->L2.St->L2.Hp->Prop)(h0:P 0 σ H)(hd:∀σ H,P n σ H->J.a n H/\D.a σ H)
 (hs:∀i σ H,i<n->P i σ H->J.c i H/\∀x H',J.b i H x H'->g x σ H' λN H2=>tb {D with a:=P (i+1),d:=P (i+1),c:=D.a} N H2):L2.kF J g tb D σ H:=by
 refine⟨λi m σ H=>m=n-i/\i<=n/\P i σ H,⟨n,by simp,Bj _,h0⟩,?_⟩
 rintro i m σ H ⟨rfl,hi,p⟩;by_cases hlt:i<n
 . obtain⟨a,b⟩:=hs i σ H hlt p
   exact .inr ⟨a,P (i+1),λO H' Q=>⟨n-(i+1),⋯,rfl,hlt,Q⟩,b⟩
 . have e:i=n:=by omega
   subst e;exact .inl (hd σ H p)
structure CS(K:KF)(mg:Str->Option Value)(acc:Addr)(ρ0:Own)(H0:L2.Hp)(a:List Val)(s:Sto)(env:Env)(ρ:Own)(σ:L2.St)(H:L2.Hp):Prop where
 d:Lp acc ρ0 H0 ρ H
 b:HR K mg ρ s H
 c:ER K mg ρ H env σ
 e:∃ys,H acc=some (.b ys)/\RDs K mg ρ H a ys
def Grows(body:Env->Sto->List Val->Out (List Val × Env)):Prop:=∀e s a p s',body e s a=.e p s'->a.length<=p.1.length
theorem rZ(N:Grows body):∀{xs} {env} {s} {a} {p} {s'},ym r t body xs env s a=.e p s'->a.length<=p.1.length
 |[],env,s,a,p,s',h=>by
  rw[ym]at h;split at h
  . cases h;exact Ad _
  . cases h
 |x::xs,env,s,a,p,s',h=>by
  rw[ym]at h;split at h
  . split at h
    . cases h
    . rename_i env' he
      cases hc:body env' s a with
      |e q s1=>
       rw[hc]at h;exact As (N _ _ _ _ _ hc) (rZ N h)
      |g _ _ _=>rw[hc]at h;cases h
      |d=>rw[hc]at h;cases h
  . cases h
def BodyOk(K:KF)(mg:Str->Option Value)(acc:Addr)(ρ0:Own)(H0:L2.Hp)(body:Env->Sto->List Val->Out (List Val × Env))(tb:L2.TS):Prop:=
 ∀(ρ:Own) (s:Sto) (H:L2.Hp) (env:Env) (σ:L2.St) (a:List Val) (p:List Val × Env) (s':Sto) (D:L2.Ends),CS K mg acc ρ0 H0 a s env ρ σ H->body env s a=.e p s'->p.1.length<=zZ ->
  (∀ρ' H' x,CS K mg acc ρ0 H0 p.1 s' p.2 ρ' x H'->Mv ρ H ρ' H'->D.a x H')->tb D σ H
def sy
   (W:Walk K mg ρ H r J) (TG:oB K mg t g) (hg:Grows body) (hb:BodyOk K mg acc ρ0 H0 body tb)
 (C:CS K mg acc ρ0 H0 a s env ρ σ H) (h:ym r t body r.a env s a=.e p sf) (hz:p.1.length<=zZ) (fin:∀ρ' H' S,CS K mg acc ρ0 H0 p.1 sf p.2 ρ' S H'->Mv ρ H ρ' H'->D.a S H'):L2.kF J g tb D σ H:=by
 refine qo (n:=r.a.length) (λi P H2=>∃ρ2 s2 N a2,CS K mg acc ρ0 H0 a2 s2 N ρ2 P H2/\Mv ρ H ρ2 H2/\ym r t body (r.a.drop i) N s2 a2=.e p sf) ⟨ρ,s,env,a,C,Mv.refl,by rw[Dp];exact h⟩ ?_ ?_
 . rintro P H2 ⟨ρ2,s2,N,a2,Q,mv,O⟩
   rw[F5,ym]at O;split at O
   . rename_i ho
     cases O;exact⟨W.a ρ2 H2 _ _ mv Q.b ho rfl,fin ρ2 H2 P Q mv⟩
   . cases O
 . rintro i P H2 hi ⟨ρ2,s2,N,a2,Q,mv,O⟩
   rw[DM hi,ym]at O;split at O
   . rename_i ho
     obtain⟨hgo,hy⟩:=W.c ρ2 H2 s2 i (r.a[i]) mv Q.b ho (Ab hi);refine⟨hgo,λx Y y=>?_⟩;obtain⟨hH,rx⟩:=hy x Y y;split at O
     . cases O
     . rename_i env' he
       -- the item is there: perhaps a new thing
       have R:CS K mg acc ρ0 H0 a2 s2 N ρ2 P Y/\Mv ρ2 H2 ρ2 Y:=by
        rcases hH with e|⟨q,o,hq,e⟩
        . subst e;exact⟨Q,Mv.refl⟩
        . subst e
          have X:=Ext.new Q.b hq o;refine⟨⟨Q.d.step Q.b X,Q.b.more hq o,Q.c.mono X,?_⟩,X.mv⟩;obtain⟨ys,e1,e2⟩:=Q.e;exact⟨ys,by rw[L2.zG (L2.zN e1 hq)];exact e1,e2.mono X⟩
       refine TG ρ2 s2 Y _ x N env' P _ R.1.b rx R.1.c he λZ er4=>?_;cases hc:body env' s2 a2 with
       |e q s5=>
        rw[hc]at O;have U:q.1.length<=zZ:=As (rZ hg O) hz;exact hb ρ2 s2 Y env' Z a2 q s5 _ ⟨R.1.d,R.1.b,er4,R.1.e⟩ hc U λρ5 H5 σ5 C5 mv5=>⟨ρ5,s5,q.2,q.1,C5,(mv.trans R.2).trans mv5,O⟩
       |g _ _ _=>rw[hc]at O;cases O
       |d=>rw[hc]at O;cases O
   . cases O
end
section
variable (K:KF)(mg:Str->Option Value)(Φ:Calls)(G:Str->Option Val)
def uE(e:Ex):L2.TE:=λσ H Q=>∃env s,tV K mg env s (evE Φ G env e s) σ H Q
def uT(e:Cn):L2.TT:=λσ H Q=>∃env s,tT K mg env s (evT Φ G env e s) σ H Q
def uI(it:Itb):L2.TI:=λσ H R=>∃env s,tI (K:=K) (mg:=mg) env s (xY Φ G env it s) σ H R
noncomputable def uTs:Cns->List L2.TT
 |.a=>[]
 |.b e es=>uT K mg Φ G e::uTs es
end
section
variable {K:KF}{mg:Str->Option Value}{Φ:Calls}{G:Str->Option Val}
def XE(h:∀env s,L2.PE X E (tV X.K X.d env s (evE Φ G env e s))):L2.PE X E (uE X.K X.d Φ G e):=λpins s σ H Q I ⟨env,t,q⟩=>h env t pins s σ H Q I q
def Qe(h:∀env s,L2.PT X E (tT X.K X.d env s (evT Φ G env e s))):L2.PT X E (uT X.K X.d Φ G e):=λpins s σ H Q I ⟨env,t,q⟩=>h env t pins s σ H Q I q
def Up(h:∀env s,L2.PI X tg E (tI (K:=X.K) (mg:=X.d) env s (xY Φ G env it s))):L2.PI X tg E (uI X.K X.d Φ G it):=λpins s σ H Q I ⟨env,t,q⟩=>h env t pins s σ H Q I q
theorem kR:∀{es} {ρ} {s} {H},HR K mg ρ s H->ER K mg ρ H env σ->wL Φ G env es s=.e b s2 ->
 (∀ρ' H',Ext ρ H ρ' H'->HR K mg ρ' s2 H'->Q b H')->L2.mz (uTs K mg Φ G es) σ H Q
 |.a,ρ,s,H,hr,er,h,q=>by
  rw[wL]at h;cases h;exact q ρ H Ext.refl hr
 |.b e es,ρ,s,H,hr,er,h,q=>by
  rw[wL]at h;refine⟨env,s,ρ,hr,er,?_⟩;cases hc:evT Φ G env e s with
  |e c s1=>
   rw[hc]at h;intro ρ1 R H1 N x e1;cases e1;cases c with
   |true=>exact L2.r8 (kR x (er.mono N) h λρ' H' P O=>q ρ' H' (N.trans x P) O)
   |false=>
    simp only[zV]at h;cases h;exact L2.sD (q ρ1 H1 N x)
  |g _ _ _=>rw[hc]at h;cases h
  |d=>rw[hc]at h;cases h
def sW(Φ:Calls)(G:Str->Option Val)(elt:Ex)(ifs:Cns):Env->Sto->List Val->Out (List Val × Env):=λe s' acc=>(wL Φ G e ifs s').bind λb s2=>if b then (evE Φ G e elt s2).bind λv x=>.e (acc++[v],e) x else .e (acc,e) s2
def rk:Grows (sW Φ G elt ifs):=by
 intro e s a p s' h;unfold sW at h;cases hc:wL Φ G e ifs s with
 |e b s1=>
  rw[hc]at h;cases b with
  |true=>
   simp only[zV,if_true]at h;cases hv:evE Φ G e elt s1 with
   |e v s2=>rw[hv]at h;cases h;simp
   |g _ _ _=>rw[hv]at h;cases h
   |d=>rw[hv]at h;cases h
  |false=>simp only[zV]at h;cases h;exact Ad _
 |g _ _ _=>rw[hc]at h;cases h
 |d=>rw[hc]at h;cases h
def kS(Z:H0 acc=none):BodyOk K mg acc ρ0 H0 (sW Φ G elt ifs) (L2.tTB (uTs K mg Φ G ifs) (L2.rh acc (uE K mg Φ G elt))):=by
 intro ρ s H env σ a p s' D C h hz q;unfold sW at h;cases hc:wL Φ G env ifs s with
 |e b s1=>
  rw[hc]at h;refine kR (ρ:=ρ) (s:=s) C.b C.c hc λρ1 H1 O N=>?_;have x:∃ys,H1 acc=some (.b ys)/\RDs K mg ρ1 H1 a ys:=by obtain⟨ys,e1,e2⟩:=C.e;exact⟨ys,O.c _ _ e1 (C.b.d acc C.d.here).2,e2.mono O⟩
  cases b with
  |true=>
   simp only[zV,if_true]at h;refine L2.r8 ⟨env,s1,ρ1,N,C.c.mono O,?_⟩;cases hv:evE Φ G env elt s1 with
   |e v s2=>
    rw[hv]at h;cases h;intro ρ2 y H2 U R Y;have S:=O.trans N U;have Q:=C.d.step C.b S;obtain⟨ys,e1,e2⟩:=x;have e3:H2 acc=some (.b ys):=U.c _ _ e1 (N.d acc (C.d.step C.b O).here).2;have e4:=e2.mono U;have hl:ys.length<Ar:=by have h1:(a++[v]).length<=zZ:=hz;rw[Ao,e2.length,y0]at h1;simp at h1;omega
    have P:=qJ (H1:=H2) R Q.here (.b (ys++[y]));refine⟨ys,e3,hl,q ρ2 _ σ ⟨Q.emit R Z _,R.emit Q.here,⟨C.c.b,λi W e'=>?_⟩,⟨_,L2.zK,RDs.mv P (e4.append (.a Y .d))⟩⟩ (S.mv.trans P)⟩;obtain⟨u,h1,h2⟩:=(C.c.mono S).a i W e';exact⟨u,h1,RD.mv P h2⟩
   |g _ _ _=>rw[hv]at h;cases h
   |d=>rw[hv]at h;cases h
  |false=>
   simp only[zV]at h;cases h;exact L2.sD (q ρ1 H1 σ ⟨C.d.step C.b O,N,C.c.mono O,x⟩ O.mv)
 |g _ _ _=>rw[hc]at h;cases h
 |d=>rw[hc]at h;cases h
def eJ(P:ER K mg ρ H env σ)fr:ER K mg ρ H (zh fr env) (L2.zh fr σ):=by
 refine⟨by unfold zh L2.zh;rw[Ac,Ac],λi v e=>?_⟩
 unfold zh at e;unfold L2.zh;rw[AE]at e ⊢;cases hf:fr[i]? with
 |none=>rw[hf]at e;cases e
 |some o=>
  rw[hf]at e;cases o with
  |none=>cases e
  |some j=>
   have N:(env[j]?).join=some v:=A1 e;have e2:env[j]?=some (some v):=by
    cases h1:env[j]? with
    |none=>rw[h1]at N;cases N
    |some w=>rw[h1]at N;have:w=some v:=N;rw[this]
   obtain⟨x,h1,O⟩:=P.a j v e2;refine⟨x,?_,O⟩;show some ((σ[j]?).join)=_;rw[h1];rfl
def oZ(TG:oB K mg t g)(hg:Grows body)
 (hb:∀acc ρ0 H0,H0 acc=none->BodyOk K mg acc ρ0 H0 body (L2.tTB ts (tb acc)))    
 (h:tV K mg env s ((xY Φ G env it s).bind λr s1=>(ym r t body r.a (zh fr env) s1 []).bind λp s2=>if chk=true->p.1.length<=zZ then newList m p.1 s2 else .d) σ H Q)
 (P:chk=false->∀r s1 p s2,ym r t body r.a (zh fr env) s1 []=.e p s2->p.1.length<=r.a.length):L2.uk fr (uI K mg Φ G it) g ts tb σ H Q:=by
 obtain⟨ρ,hr,Y,w⟩:=h;refine⟨env,s,ρ,hr,Y,?_⟩;cases hi:xY Φ G env it s with
 |e r s1=>
  rw[hi]at w;simp only[zV]at w;intro ρ1 H1 J U O W acc N;cases hl:ym r t body r.a (zh fr env) s1 [] with
  |e p s2=>
   rw[hl]at w;simp only[zV]at w;have hz:p.1.length<=zZ/\yU K mg (RD K mg) ρ H (newList m p.1 s2) Q:=by
    by_cases hc:chk=true->p.1.length<=zZ
    . rw[if_pos hc]at w
      refine⟨?_,w⟩;cases chk with
      |true=>exact hc rfl
      |false=>exact As (P rfl r s1 p s2 hl) W.b
    . rw[if_neg hc]at w;exact w.elim
   have mv:=qK (ρ:=ρ1) O N (.b []);have R:=eJ (Y.mono U) fr;refine sy (ρ0:=ρ1) (H0:=H1) (W.mv mv) TG hg (hb acc ρ1 H1 N) ⟨Lp.start O N _,O.hide N,⟨R.b,λi v e=>?_⟩,⟨[],L2.zK,.d⟩⟩ hl hz.1 λρ3 H3 Z S _=>?_
   . obtain⟨x,h1,h2⟩:=R.a i v e
     exact⟨x,h1,RD.mv mv h2⟩
   . obtain⟨ys,e1,e2⟩:=S.e
     exact S.d.done O N S.b e1 e2 (hz.2.mono U O)
  |g _ _ _=>rw[hl]at w;exact w.elim
  |d=>rw[hl]at w;exact w.elim
 |g _ _ _=>rw[hi]at w;exact w.elim
 |d=>rw[hi]at w;exact w.elim
theorem rQ:∀{xs} {env} {s} {a} {p} {s'},ym r t (sW Φ G elt ifs) xs env s a=.e p s'->p.1.length<=a.length+xs.length
 |[],env,s,a,p,s',h=>by
  rw[ym]at h;split at h
  . cases h;exact Ad _
  . cases h
 |x::xs,env,s,a,p,s',h=>by
  rw[ym]at h;split at h
  . split at h
    . cases h
    . rename_i env' he
      cases hc:sW Φ G elt ifs env' s a with
      |e q s1=>
       rw[hc]at h;have h1:=rQ h;have O:q.1.length<=a.length+1:=by
        unfold sW at hc;cases h3:wL Φ G env' ifs s with
        |e b s2=>
         rw[h3]at hc;cases b with
         |true=>
          simp only[zV,if_true]at hc;cases h4:evE Φ G env' elt s2 with
          |e v N=>rw[h4]at hc;cases hc;simp
          |g _ _ _=>rw[h4]at hc;cases hc
          |d=>rw[h4]at hc;cases hc
         |false=>simp only[zV]at hc;cases hc;exact Cz _
        |g _ _ _=>rw[h3]at hc;cases hc
        |d=>rw[h3]at hc;cases hc
       rw[AH];omega
      |g _ _ _=>rw[hc]at h;cases h
      |d=>rw[hc]at h;cases h
  . cases h
end
end M
end
section
namespace M
open PySem PySem.W
def DX(ρ:Own)(H:L2.Hp)(c:Str)(as:List Val)(dd:Option Addr):Prop:=if c="TooGreat" then ∃(d:Addr) (a b:Int),dd=some d/\as=[.c a,.c b]/\H d=some (.m (L2.grF a b))/\ρ.no d else dd=none
def DX.no{c:Str}(h:c≠"TooGreat"):DX ρ H c as none:=by unfold DX;rw[if_neg h]
def DX.yes(h:H d=some (.m (L2.grF a b)))(n:ρ.no d):DX ρ H "TooGreat" [.c a,.c b] (some d):=by unfold DX;rw[if_pos rfl];exact⟨d,a,b,rfl,rfl,h,n⟩
def DX.get(h:DX ρ H "TooGreat" as dd):∃d a b,dd=some d/\as=[.c a,.c b]/\H d=some (.m (L2.grF a b))/\ρ.no d:=by unfold DX at h;rw[if_pos rfl]at h;exact h
def tS(K:KF)(mg:Str->Option Value)(base:Heap):Prop:=∃(C D f:Addr) (fd:BD) (Kc:KF),mg "TooGreat"=some (.ref C)/\L2.sg base C (.ref D::L2.veM) f/\L2.kY K mg D f fd/\L2.GrK Kc C D/\L2.tU Kc K/\L2.vq Kc C/\exmOne Kc (.ref C) (.ref C)=some true
def oA(K:KF)(mg:Str->Option Value)(ρ:Own)(H:L2.Hp)(x:tY)(E:L2.XK):Prop:=match x with
 |some (c,as,s')=>∀ρ' H',Ext ρ H ρ' H'->HR K mg ρ' s' H'->∀C,mg c=some (.ref C)->∀dd,DX ρ' H' c as dd->E (.ref C) dd H'
 |dS=>False
def spX(T:Tbl)(K:KF)(mg:Str->Option Value)(n:Nat)(f:Str)(ver:Nat):L2.Sp:=λvs H Q E=>∃ρ s args,HR K mg ρ s H/\RDs K mg ρ H args vs/\(yU K mg (RD K mg) ρ H (zC T n f ver args s) Q\/oA K mg ρ H (za T n f ver args s) E)
def QO.L2.qE(_:KF)(_:Str->Option Value)(_:Addr):Prop:=False
structure Sc(T:Tbl)(K:KF)(mg:Str->Option Value):Prop where
 a:∃(kx:Str) (cs ws:List Str) (pre:Option Str) (hue:Addr),mg "HueError"=some (.ref hue)/\L2.nX K mg kx cs ws pre/\(∀b,T.c b=true->∃f,L2.ez K mg b kx f) /\
  (∀c w,T.d.lookup c=some w->∃(C:Addr) (i:Nat) (x:Str),mg c=some (.ref C)/\(∃Kc,L2.tU Kc K/\exmOne Kc (.ref C) (.ref hue)=some true)/\L2.Named K mg cs C c/\cs[i]?=some c/\ws[i]?=some x/\w=L2.ans pre x/\(w="great"->c="TooGreat")) /\
  ∀c w,T.d.lookup c=some w->c≠"TooGreat"->∀base,K.In base->∃C,mg c=some (.ref C)/\L2.ClsAt base C (.ref hue::L2.veM)/\L2.ClsAt base hue L2.veM
 gf:cg T=true->∃f,L2.qE K mg f
 gr:(T.d.lookup ("TooGreat":Str)).isSome=true->∀base,K.In base->tS K mg base
 bm:∀base,K.In base->L2.Bm base mg
structure Lv(T:Tbl)(P:Program)(w:World)(K:KF)(mg:Str->Option Value)(base:Heap)(n:Nat):Prop where
 a:∀f v F,T.e f v=some F->∃fa fd,mg f=some (.ref fa)/\B2 K (.ref fa)=true/\L2.Binds K fd F.b []/\L2.tR P w K mg base L2.CX0 n fa fd F.b (spN T K mg n f v)/\L2.tR P w K mg base (L2.CXE P w) n fa fd F.b (spX T K mg n f v)
structure Sd(T:Tbl)(P:Program)(w:World)(K:KF)(mg:Str->Option Value)(base:Heap)(m:Nat):Prop where
 a:Sc T K mg
 b:∀j,j<=m->Lv T P w K mg base j
def Cod(T:Tbl)(X:L2.Cx):Prop:=∃g∈T.f,∃(fa c:Addr) (o:Obj) (fd:BD),X.d g=some (.ref fa)/\X.K.lookup fa=some o/\o.data=.func fd/\fd.code=.ref c/\X.a.code=.ref c/\X.a.qual=g++(".<locals>.":Str)
theorem qv:∀{l} {s} {g},zr l s=true->g∈l->∃j:Nat,s[j]?=some (.d g)
 |[],_,_,_,h=>by cases h
 |x::r,[],_,h,_=>by cases h
 |x::r,c::s,g,h,hm=>by
  cases c with
  |d y=>
   rw[zr,cf,decide_eq_true_eq]at h;rcases Ap.mp hm with z|z
   . subst z;rw[h.1];exact⟨0,rfl⟩
   . obtain⟨j,e⟩:=qv h.2 z
     exact⟨j+1,e⟩
  |_=>cases h
def HR.Wa(h:HR K mg ρ s H)(N:L2.wK H H'):HR K mg ρ s H'/\Ext ρ H ρ H':=by
 have X:Ext ρ H ρ H':=⟨⟨[],by simp,λa x=>by cases x⟩,rfl,λa o e _=>N a o e,λa x=>by obtain⟨o,e⟩:=h.trk x;rw[e,N a o e]⟩
 refine⟨⟨h.f,h.v,λi c e=>?_,λa x=>?_⟩,X⟩
 . obtain⟨a,e1,r⟩:=h.m i c e
   obtain⟨o,e2⟩:=r.there;exact⟨a,e1,r.mv X.mv (by rw[e2,N a o e2])⟩
 . obtain⟨⟨O,e⟩,n⟩:=h.d a x
   exact⟨⟨O,N _ _ e⟩,n⟩
def nT(h:DU l):l=[]\/∃i j t u c r,l=.int i t::.int j u::c::r/\DU r:=by
 unfold DU at h;split at h
 . exact .inl rfl
 . exact .inr ⟨_,_,_,_,_,_,rfl,h⟩
 . exact h.elim
theorem nS:∀n {l},l.length<=n->DU l->DU (l++[.int i t,.int j u,c])
 |n,l,hl,h=>by
  rcases nT h with rfl|⟨O,N,t',x,P,r,rfl,h'⟩
  . exact AX
  . cases n with
    |zero=>cases hl
    |succ n=>exact nS n (l:=r) (by simp only[AH]at hl;omega) h'
theorem qW:∀n {l},l.length<=n->DU l->DT pos (l++[.int i t,.int j u,c])=some cv->DT pos l=some cv\/cv=c
 |n,l,hl,h,e=>by
  rcases nT h with rfl|⟨O,N,t',Q,P,r,rfl,h'⟩
  . have x:(if i == pos.line&&j == pos.col then some c else none)=some cv:=e
    split at x
    . cases x;exact .inr rfl
    . cases x
  . have x:(if O == pos.line&&N == pos.col then some P else DT pos (r++[.int i t,.int j u,c]))=some cv:=e
    show (if O == pos.line&&N == pos.col then some P else DT pos r)=some cv\/_
    cases n with
    |zero=>cases hl
    |succ n=>
     split at x
     . rename_i z;rw[if_pos z];exact .inl x
     . rename_i z;rw[if_neg z];exact qW n (l:=r) (by simp only[AH]at hl;omega) h' x
def HR.lam{j:Nat}(h:HR K mg ρ s H)(hs:s[j]?=some (.d g))(hj:ρ.o[j]?=some P)(tr:Tr K mg ρ H P g)(Y:H P=some (.g ps))(l:L2.Wn H P ps pos (ba g) c H'):HR K mg ρ s H'/\Ext ρ H ρ H':=by
 rcases l with rfl|⟨o,vs,t,hf,S,hd,hv,rfl⟩
 . exact⟨h,Ext.refl⟩
 . obtain⟨ps',e1,tok,N,fn⟩:=tr
   rw[Y]at e1;cases e1;have R:c≠P:=λz=>by rw[z,Y]at S;cases S
   have U:L2.upd (L2.upd H P (.g (ps++#[rawInt pos.line,rawInt pos.col,.ref c]))) c (.d o (.e 0))=L2.upd (L2.upd H c (.d o (.e 0))) P (.g (ps++#[rawInt pos.line,rawInt pos.col,.ref c])):=by
    funext b;unfold L2.upd;by_cases z1:b=c
    . subst z1;rw[if_pos rfl,if_neg R,if_pos rfl]
    . rw[if_neg z1]
      by_cases z2:b=P
      . rw[if_pos z2,if_pos z2]
      . rw[if_neg z2,if_neg z2,if_neg z1]
   rw[U];have h1:=h.more S (.d o (.e 0));have X1:=Ext.new h S (.d o (.e 0));have W:L2.upd H c (.d o (.e 0)) P=some (.g ps):=by rw[L2.zG (A6 R)];exact Y
   have kk:hk (some (.g (ps++#[rawInt pos.line,rawInt pos.col,.ref c])))=hk (L2.upd H c (.d o (.e 0)) P):=by rw[W];rfl
   have Z:=Ext.rR h1 hj kk;have x:ρ.no c:=h.new S;have kc:∀b u,ρ.no b->H b=some u->L2.upd (L2.upd H c (.d o (.e 0))) P (.g (ps++#[rawInt pos.line,rawInt pos.col,.ref c])) b=some u:=λb u nb e=>Z.c b u (X1.c b u e nb.1) nb.1;refine⟨?_,X1.trans h1 Z⟩;have hr:=h1.rR (c:=.d g) hj kk ⟨_,L2.zK,?_,λO cv Q=>?_,fn⟩
   . rw[show s.set j (.d g)=s from ?_]at hr
     . exact hr
     . refine Eb λi=>?_
       by_cases z:j=i
       . subst z;rw[AQ (Au.mp hs).1,hs]
       . rw[Bq z]
   . rw[Array.toList_append];exact nS _ (Ad _) tok
   . rw[Array.toList_append]at Q
     rcases qW _ (Ad _) tok Q with z|z
     . obtain⟨b,ob,vb,tb,q1,q2,q3,q4⟩:=N O cv z
       exact⟨b,ob,vb,tb,q1,q2,kc b _ q2 q3,q4⟩
     . exact⟨c,o,vs,t,z,x,Z.c c _ L2.zK x.1,hd,hv⟩
noncomputable def xy(cells:List (Str × Addr)):List (Str × Dv)->List (Str × Addr)->List (Str × Addr)
 |[],acc=>acc
 |(x,k)::r,acc=>xy cells r (if k == .free then (x,(cells.lookup x).getD 0)::acc else acc)
def iX(h:∀x∈lsc.names,x.2=.free->∃c,env.cells.lookup x.1=some c):GD lsc env=pure (xy env.cells lsc.names []):=by
 have N:∀(names:List (Str × Dv)) (acc:List (Str × Addr)),(∀x∈names,x.2=.free->∃c,env.cells.lookup x.1=some c) ->
  (forIn names acc λ(x:Str × Dv) (cs:List (Str × Addr))=>(do if x.2 == .free then pure (Co ((x.1,<-cellOf env x.1)::cs)) else pure (Co cs):Sem (ForInStep (List (Str × Addr)))))=pure (xy env.cells names acc):=by
  intro names;induction names with
  |nil=>intro acc _;rfl
  |cons p r Q=>
   obtain⟨x,k⟩:=p;intro acc P;rw[EM];by_cases hk:k=.free
   . subst hk
     obtain⟨c,R⟩:=P (x,.free) (Ax ..) rfl;have e:cellOf env x=pure c:=by unfold cellOf;rw[R]
     have e2:xy env.cells ((x,.free)::r) acc=xy env.cells r ((x,c)::acc):=by show xy env.cells r ((x,(env.cells.lookup x).getD 0)::acc)=_;rw[R];rfl
     rw[e2];simp only[show ((AJ == AJ)=true) from rfl,if_true,e,Ey];exact Q _ λy O=>P y (Ah _ O)
   . have S:(k == AJ)=false:=by simpa using hk
     have e2:xy env.cells ((x,k)::r) acc=xy env.cells r acc:=by
      show xy env.cells r (if k == .free then _ else acc)=_
      rw[S];rfl
     rw[e2];simp only[S,Ba,if_false,Ey];exact Q _ λy O=>P y (Ah _ O)
 unfold GD;have:=N lsc.names [] h;simpa using this
theorem sr:∀{names} {acc} {x} {b},(x,b)∈xy cells names acc->(x,b)∈acc\/((x,AJ)∈names/\b=(cells.lookup x).getD 0)
 |[],_,_,_,h=>.inl h
 |(y,k)::r,acc,x,b,h=>by
  rcases sr (names:=r) h with z|z
  . by_cases hk:k=.free
    . subst hk
      rcases Ap.mp z with z|z
      . cases z;exact .inr ⟨Ax ..,rfl⟩
      . exact .inl z
    . have N:(k == AJ)=false:=by simpa using hk
      rw[N]at z;exact .inl z
  . exact .inr ⟨Ah _ z.1,z.2⟩
theorem oY:∀{names} {acc} {x} {b},(x,b)∈acc->(x,b)∈xy cells names acc
 |[],_,_,_,h=>h
 |(y,k)::r,acc,x,b,h=>oY (names:=r) (by
  split
  . exact Ah _ h
  . exact h)
theorem w6:∀{names} {acc} {x},(x,AJ)∈names->(x,(cells.lookup x).getD 0)∈xy cells names acc
 |(y,k)::r,acc,x,h=>by
  rcases Ap.mp h with z|z
  . cases z;exact oY (names:=r) (Ax ..)
  . exact w6 (names:=r) z
def lookup_mem{N:Type}{l:List (Str × N)}{b}(h:(x,b)∈l):∃c,l.lookup x=some c:=by
 cases e:l.lookup x with
 |some c=>exact⟨c,rfl⟩
 |none=>
  rw[F9]at e;have:=e _ h;simp at this
end M
end
section
namespace L2
open PySem PySem.Spec PyProof.Rows
def Tn(tabs:List Addr)(H:Hp):Prop:=∀b,H b=none\/(∃o x,H b=some (.d o (.b x)))\/(b∈tabs/\H b=some (.g #[]))
def fH{K}{tabs:List Addr}
 (KX:K.In s₁.heap) (hns:s₁.heap.Ns AS mg) (N:s₁.heap.Ns FI mb) (hbb:∀x:Str,x≠"__name__"->mb x=Ci x) (hlim:s₁.heap.NoLimit) (hg:s₁.gens=#[])
 (ha:s₁.heap.get? a=some {cls:=.type "list",data:=.seq vs.toArray}) (hi:IntsAre vs ns) (hl:ns.length<=Ar) (hr:xH k callerA)
 (Y:∀b∈tabs,s₁.heap.get? b=some (EZ #[])/\K.lookup b=none/\Gm s₁.heap b)
 (F:∀base:Heap,K.In base->base.Ns AS mg->tR P w K mg base CX k fa fd [x] sp) (U:∀s u,BindsTo s fd ⟨[u],[]⟩ [(x,u)])
 (hsp:∀H:Hp,(∀b∈tabs,H b=some (.g #[]))->SqL K H a (ns.map V.d)->sp [.c a] H (λv _=>v=.f true) λ_ _ _=>False)
 (hCX:∀H e s',CX [] H s₁ (λ_ _ _=>False) e s'->False) :
 codeAny (model P w) callerA (.call (.ref fa) ⟨[.ref a],[]⟩) (λr s'=>r=.ok (.ret (.bool true))/\OldK s₁.heap s'.heap/\s'.os=s₁.os/\AllBare s'.gens) s₁:=by
 have rv:=nU hi;have lenV:=hi.length;have nat:a ∉ tabs:=λz=>by have:=(Y a z).1;rw[ha]at this;cases this
 have S:∀H:Hp,Tn tabs H->(∀b∈tabs,H b=some (.g #[]))->SqL K H a (ns.map V.d)->HOk P w H s₁.heap->(∀b,H b≠none->b=a\/b∈tabs)->(H a≠none->K.lookup a=none) ->
  codeAny (model P w) callerA (.call (.ref fa) ⟨[.ref a],[]⟩) (λr s'=>r=.ok (.ret (.bool true))/\OldK s₁.heap s'.heap/\s'.os=s₁.os/\AllBare s'.gens) s₁:=by
  intro H hO hT hS hok hA hK;have tZ:∀{b:Addr} {o:Obj},s₁.heap.get? b=some o->H b=none->(n9 s₁.heap H).get? b=some o:=λe n=>cq e n;have noA:∀{b:Addr} {o:Obj} {es:Array Ga} {Z:Nat},s₁.heap.get? b=some o->o.data=.dict es Z->H b=none:=λ{b o es Z} e d=>by
   cases q:H b with
   |none=>rfl
   |some u=>
    rcases hA b (by rw[q];simp) with W|W
    . subst W
      rw[ha]at e;cases e;have d':Data.seq vs.toArray _=Data.dict es Z:=d;cases d'
    . rw[(Y b W).1]at e;cases e
      have d':Data.fields #[]=Data.dict es Z:=d;cases d'
  have Q:∀{b:Addr} {m:Str->Option Value},s₁.heap.Ns b m->(n9 s₁.heap H).Ns b m:=λ{b m} ⟨o,es,Z,e,d,r⟩=>⟨o,es,Z,tZ e (noA e d),d,r⟩;have hKb:K.In (n9 s₁.heap H):=λb o e=>tZ (KX b o e) (by
   cases q:H b with
   |none=>rfl
   |some u=>
    rcases hA b (by rw[q];simp) with W|W
    . subst W
      rw[hK (by rw[q];simp)]at e;cases e
    . rw[(Y b W).2.1]at e;cases e)
  have hM:Mod K mg (n9 s₁.heap H):=⟨hKb,Q hns,⟨mb,Q N,hbb⟩,let ⟨mc,h1,h2⟩:=hlim;⟨mc,Q h1,h2⟩⟩;have e0:qU P w K mg (n9 s₁.heap H) callerA [] s₁ H:=⟨rfl,hM,λb o e=>Yt e,ET (g9 _ _),trivial,λb N=>absurd (show b∈([]:List Addr) from N) (by simp),hok,.of_eq hg⟩
  refine CY ((F _ hKb (Q hns)).a callerA [] s₁ H ⟨[.ref a],[]⟩ [.ref a] [.c a] _ _ hr e0 (U s₁ (.ref a)) (.cons rfl .nil) (hsp H hT hS)) λr s' h=>?_;cases r with
  |error e=>exact(hCX H e s' h).elim
  |ok fl=>
   cases fl with
   |next=>exact Az h
   |brk=>exact Az h
   |cont=>exact Az h
   |ret u=>
    obtain⟨v,H',os,bare,un,R,r',q⟩:=h;have q':v=.f true:=q;subst q';obtain rfl:u=Dc true:=r';have all:∀b o,s₁.heap.get? b=some o->asItWas s₁.heap s'.heap b o:=λb o e=>by
     cases q:H b with
     |none=>exact .inl (un.f b o e q (by intro z;exact absurd (show b∈([]:List Addr) from z) (by simp)) (by simp))
     |some u=>
      rcases hO b with z|⟨ob,xs,z⟩|⟨z1,z⟩
      . rw[q]at z;cases z
      . have z2:=un.g b ob _ z
        obtain⟨e1,_⟩:=hok b _ z;obtain⟨e2,_⟩:=R b _ z2;rw[e]at e1;cases e1;exact .inl e2
      . obtain⟨more,z2⟩:=un.j b _ z
        have e2:s'.heap.get? b=some (EZ (#[]++more)):=R b _ z2;obtain⟨t1,_,t3⟩:=Y b z1;rw[e]at t1;cases t1;exact .inr (.inl ⟨t3,rfl,#[],more,rfl,e2⟩)
    exact⟨rfl,⟨all,λb o e=>by
     rcases all b o e with z|⟨_,_,_,_,_,z⟩|⟨_,_,⟨o',_,_,z,_⟩,_⟩
     . exact⟨_,z⟩
     . exact⟨_,z⟩
     . exact⟨_,z⟩⟩,os,bare⟩
 cases hk:K.lookup a with
 |some o=>
  have e:=KX a o hk;rw[ha]at e;cases e;refine S (λb=>if b∈tabs then some (.g #[]) else none) (λb=>?_) (λb N=>if_pos N) (.inr ⟨_,vs.toArray,_,hk,rfl,rfl,rfl,by rw[Ai,lenV];exact hl,by simpa using rv⟩) (λb u z=>?_) (λb z=>?_) λz=>?_
  . by_cases N:b∈tabs
    . exact .inr (.inr ⟨N,if_pos N⟩)
    . exact .inl (if_neg N)
  . by_cases N:b∈tabs
    . have O:=(if_pos N).symm.trans z
      cases O;exact(Y b N).1
    . have O:=(if_neg N).symm.trans z
      cases O
  . by_cases N:b∈tabs
    . exact .inr N
    . exact absurd (if_neg N) z
  . exact absurd (if_neg nat) z
 |none=>
  refine S (λb=>if b=a then some (.d {cls:=.type "list",data:=.seq vs.toArray} (.b (ns.map V.d))) else if b∈tabs then some (.g #[]) else none) (λb=>?_) (λb N=>(if_neg (λz=>nat (by rw[<-z];exact N))).trans (if_pos N)) (.inl (.inr ⟨{cls:=.type "list",data:=.seq vs.toArray},if_pos rfl⟩)) (λb u z=>?_) (λb z=>?_) λ_=>hk
  . by_cases N:b=a
    . exact .inr (.inl ⟨_,_,if_pos N⟩)
    . by_cases hb2:b∈tabs
      . exact .inr (.inr ⟨hb2,(if_neg N).trans (if_pos hb2)⟩)
      . exact .inl ((if_neg N).trans (if_neg hb2))
  . by_cases N:b=a
    . have O:=(if_pos N).symm.trans z
      cases O;subst N;exact⟨ha,by rw[Ac];exact hl,vs,_,rv,ha⟩
    . by_cases hb2:b∈tabs
      . have O:=((if_neg N).trans (if_pos hb2)).symm.trans z
        cases O;exact(Y b hb2).1
      . have O:=((if_neg N).trans (if_neg hb2)).symm.trans z
        cases O
  . by_cases N:b=a
    . exact .inl N
    . by_cases hb2:b∈tabs
      . exact .inr hb2
      . exact absurd ((if_neg N).trans (if_neg hb2)) z
end L2
end
section
namespace M
open PySem
noncomputable def qy(sc:Scope)(x:Str):Bool:=decide (sc.names.lookup x=some .local)||decide (sc.names.lookup x=some .cell)||decide (sc.names.lookup x=some .free)
noncomputable def wM(sc:Scope)(x:Str):Bool:=decide (sc.names.lookup x=some .globalImplicit)
noncomputable def wR:List Str:=["len","all","any","tuple","list","sorted","repr","max","min","sum","int","isinstance","divmod","str","bool","dict","set","range","enumerate","zip"]
noncomputable def QG(y:Str)(n:String):Bool:=(decide (y="int")&&decide (n="int"))||(decide (y="bool")&&decide (n="bool"))||(decide (y="str")&&decide (n="str"))||(decide (y="list")&&decide (n="list"))||(decide (y="tuple")&&decide (n="tuple"))||(decide (y="dict")&&decide (n="dict"))
noncomputable def vC:Val->Option Const
 |.j=>some .none
 |.e b=>some (.bool b)
 |.c i=>some (.int i)
 |.g x=>some (.str x)
 |_=>none
def T6(v:Val)(e:Expr):Bool:=YD e λc _ _=>decide (vC v=some c)
def eSd(e:Expr)(k:Str->Er->Str->List Expr->Scope->Bool):Bool:=eCN e λx N=>l1 N λl=>VB l λa b lsc _=>eCN b λy ys=>k x a y ys lsc
def YH(h:eSd e k=true):∃x a y ys lsc p1 p2 p3 p4 p5,e=.Call (.Name x p1) [.Lambda a (.Call (.Name y p2) ys [] p3) lsc p4] [] p5/\k x a y ys lsc=true:=by obtain⟨x,p1,Q,p5,rfl,h1⟩:=yz h;obtain⟨l,rfl,P⟩:=yc h1;obtain⟨a,b,lsc,p4,rfl,O⟩:=lT P;obtain⟨y,p2,ys,p3,rfl,N⟩:=yz O;exact⟨x,a,y,ys,lsc,p1,p2,p3,p4,p5,rfl,N⟩
noncomputable def uv(a:Er):Bool:=a.posonlyargs.isEmpty&&a.args.isEmpty&&a.vararg.isNone&&a.kwonlyargs.isEmpty&&a.kw_defaults.isEmpty&&a.kwarg.isNone&&a.defaults.isEmpty
noncomputable def vY(sc lsc:Scope):Bool:=decide (lsc.kind=.function)&&!lsc.isCoroutine&&!lsc.isGenerator&&lsc.names.all (λy=>decide (y.2=.globalImplicit)||(decide (y.2=.free)&&(decide (sc.names.lookup y.1=some .cell)||decide (sc.names.lookup y.1=some .free))))&&sc.names.any (λy=>decide (sc.names.lookup y.1=some .cell))
noncomputable def VD(e:Expr)(k:Expr->Bool):Bool:=match e with
 |.SetComp _ (⟨_,i,_,0⟩::_) _ _=>k i
 |_=>false
def cL(h:VD e k=true):∃x tg i fs N sc p,e=.SetComp x (⟨tg,i,fs,0⟩::N) sc p/\k i=true:=by
 unfold VD at h;split at h
 . exact⟨_,_,_,_,_,_,_,rfl,h⟩
 . cases h
noncomputable def stF:Exs->Bool
 |.a (.B _) .c=>true
 |_=>false
noncomputable def S7:Ex->Bool
 |.B _=>false
 |_=>true
noncomputable def okV:Bool:=false
noncomputable def okG:Bool:=false
noncomputable def Qs:Exs->Bool
 |.a (.e _) _=>true
 |_=>false
mutual
noncomputable def sim:Ex->Bool
 |.g _|.e _|.E _=>true
 |.j m _ a b=>!m&&sim a&&sim b
 |.A a=>sim a
 |.r es=>uF es
 |.y m es=>!m&&uF es
 |.s a b=>sim a&&sim b
 |_=>false
noncomputable def uF:Exs->Bool
 |.c=>true
 |.a e es=>sim e&&uF es
end
def ckA(sc:Scope)(f:Str)(q:List Expr->Bool)(e:Expr):Bool:=eCN e λx N=>decide (x=f)&&wM sc x&&!(x == ("__debug__":Str))&&q N&&ze N
def sdX(ver:Nat):Str:=if ver=102 then "_law_great" else L2.yJ (decide (ver=101))
def ckB(sc:Scope)(N:List Str)(f:Str)(ver:Nat)(es:Exs)(q:Scope->List Expr->Bool)(e:Expr):Bool:=eSd e λx a y ys lsc=>decide (x=sdX ver)&&wM sc x&&uv a&&vY sc lsc&&decide (y=f)&&wM lsc y&&!(y == ("__debug__":Str))&&uF es&&q lsc ys&&ze ys&&!ys.isEmpty&&decide (("!":Str)∈N)&&(okG||decide (ver≠102))
def sdV(ver:Nat):Str:=if ver=302 then "_law_great" else L2.yJ (decide (ver=301))
def ckV(sc:Scope)(N:List Str)(ver:Nat)(es:Exs)(q:Scope->List Expr->Bool)(e:Expr):Bool:=(okV&&Qs es)&&eSd e λx a y ys lsc=>decide (x=sdV ver)&&wM sc x&&uv a&&vY sc lsc&&uF es&&q lsc (.Name y default::ys)&&ze ys&&!ys.isEmpty&&decide (("!":Str)∈N)&&decide (ver≠200)&&(okG||decide (ver≠302))
mutual
noncomputable def ck(sc:Scope)(N:List Str):Ex->Expr->Bool
 |.g v,e=>T6 v e
 |.e i,e=>(eName e λx _=>decide (N[i]?=some x)&&qy sc x&&!(x == ("__debug__":Str))&&!(x == ("__classdict__":Str)))
 |.E y,e=>(eName e λx _=>decide (x=y)&&wM sc x&&!(x == ("__debug__":Str)))
 |.L y n,e=>(eName e λx _=>decide (x=y)&&wM sc x&&QG y n)
 |.j _ op a b,e=>(SD e λl o r _=>(okB op&&decide (o=op.op))&&ck sc N a l&&ck sc N b r)
 |.A a,e=>(eOp .USub e λx=>ck sc N a x)
 |.H a,e=>(eOp .Not e λx=>ck sc N a x)
 |.l op a b,e=>(eC1 e λl o r=>(okC op&&decide (o=op.op))&&ck sc N a l&&ck sc N b r&&plain r)
 |.u op op' a b c,e=>(eC2 e λl o Q r P=>(okC op&&decide (o=op.op))&&(okC op'&&decide (Q=op'.op))&&ck sc N a l&&ck sc N b r&&ck sc N c P&&plain P)
 |.w a es,e=>(eBl .And e λx O=>ck sc N a x&&ckL sc N es O)
 |.J _ _,_=>false
 |.G c a b,e=>(SI e λt x y _=>ckC sc N c t&&ck sc N a x&&ck sc N b y)
 |.r es,e=>(cM e λO _ _=>ckL sc N es O&&ze O)
 |.y _ es,e=>(VC e λO _=>ckL sc N es O&&ze O)
 |.C,e=>(eD0 e)
 |.D _,e=>(eD0 e)
 |.K _ _,_=>false
 |.B a,e=>VD e λi=>ck sc N a i
 |.h f ver es,e=>if ver<100 then ckA sc f (λO=>ckL sc N es O) e else if ver<200 then ckB sc N f ver es (λl ys=>ckL l N es ys) e else ckV sc N ver es (λl ys=>ckL l N es ys) e
 |.k f _ es,e=>(eCN e λx O=>lc O λy ys=>((okF f||stF es)&&decide (x=f.nm))&&wM sc x&&ckL sc N es (y::ys)&&ze (y::ys))
 |.F _ _,_=>false
 |.M f _ o es,e=>(eMt e λob x ap y cp=>decide (x=f.nm)&&ck sc N o ob&&ckL sc N es [y]&&plain y&&qM ob&&(ap.endLine == cp.line)&&okM f)
 |.s a b,e=>(YI e λl r _=>ck sc N a l&&ck sc N b r&&plain r)
 |.I _ a lo hi st,e=>(eSS e λl x y z=>ck sc N a l&&ckO sc N lo x&&ckO sc N hi y&&ckO sc N st z)
 |.p _ N' fr elt t it ifs,e=>(eG1 e λx tg iter fs csc=>L2.uw sc N N' csc fr&&decide N'.Nodup&&ckT csc N' t tg&&ckI sc N it iter tg&&lO csc N' ifs fs&&ck csc N' elt x&&plain iter)
 |.z _ _ _ _ _ _ _ _ _ _,_=>false
 |.q _ _ _ _,_=>false
noncomputable def ckL(sc:Scope)(N:List Str):Exs->List Expr->Bool
 |.c,es=>es.isEmpty
 |.a a as,es=>(lc es λe es=>ck sc N a e&&ckL sc N as es)
noncomputable def ckO(sc:Scope)(N:List Str):OEx->Option Expr->Bool
 |.b,e=>e.isNone
 |.a a,e=>(o1 e λe=>ck sc N a e)
noncomputable def ckC(sc:Scope)(N:List Str):Cn->Expr->Bool
 |.a a,e=>ck sc N a e&&(plainT e||decide (e.ctorIdx=15))
 |.d c,e=>(eOp .Not e λx=>ckC sc N c x)
 |.b c cs,e=>(eBl .And e λx O=>ckC sc N c x&&lO sc N cs O)
 |.f c cs,e=>(eBl .Or e λx O=>ckC sc N c x&&lO sc N cs O)
noncomputable def lO(sc:Scope)(N:List Str):Cns->List Expr->Bool
 |.a,es=>es.isEmpty
 |.b a as,es=>(lc es λe es=>ckC sc N a e&&lO sc N as es)
noncomputable def ckI(sc:Scope)(N:List Str):Itb->Expr->Expr->Bool
 |.f a,e,_=>ck sc N a e
 |.d a,e,_=>(eCN e λx O=>l1 O λy=>decide (x="range")&&wM sc x&&ck sc N a y&&plain y)
 |.g _ _,_,_=>false
 |.h _ _ _,_,_=>false
 |.i _,_,_=>false
 |.j _ _,_,_=>false
end
structure Ok(T:Tbl)(n:Nat)(sc:Scope)(N:List Str)(X:L2.Cx):Prop where
 d:X.j=true
 c:L2.xH n X.A
 a:Scp sc N X
 p:∀f v F,T.e f v=some F->Callee T n X f v F
 k:∀x v,T.b x=some v->∃u xv,X.d x=some u/\L2.RelV xv u/\∀ρ H,RD X.K X.d ρ H v xv
 g:∀x∈wR,X.d x=none
 xe:X.i=λ_ _=>False
 i:∀f v,100<=v->T.e f v=none
 l:∀m,n=m+1->(∃b,T.c b=true)->Sd T X.f X.w X.K X.d X.h m
 j:(∃b,T.c b=true)->(∃x,sc.names.lookup x=some .cell)->("!":Str)∈N->Cod T X
def iZ(S:Scp sc N X)(h:L2.uw sc N N' csc fr=true):L2.zx X N' csc fr:=by
 unfold L2.uw at h;simp only[cf,AB,Ay,decide_eq_true_eq,Bl]at h;obtain⟨⟨⟨⟨⟨⟨⟨a1,a2⟩,a3⟩,Z⟩,Y⟩,W⟩,U⟩,a8⟩:=h;refine⟨a1,λx h1 R=>(a2 _ h1).elim (λz=>z rfl) λz=>z _ R rfl,λx hx hk=>?_,λx hx hk=>?_,Y,λi j x e1 e2=>?_,λx e1 e2=>?_⟩
 . rcases a3 x hx with z|z
   . exact absurd hk z
   . exact z
 . rcases Z x hx with z|z
   . exact absurd hk z
   . exact S.f x.1 z
 . have hi:i<N'.length:=(Au.mp e1).1
   have q:=W i hi;rw[e1,e2]at q;simp only[cf,decide_eq_true_eq,Bu]at q;obtain⟨q1,y,Q,P,O⟩:=q;refine⟨by rw[S.a];exact q1,?_⟩
   have:y=(x,AJ):=Prod.ext P O;rw[<-this];exact Q
 . rcases U (x,.free) e2 with z|z
   . exact z rfl
   . exact z e1
def wq(h:sc.names.lookup x=some .local):(relabel sc env).names.lookup x=some .local:=lookup_relabel_local h
def jo(h:sc.names.lookup x=some .globalImplicit):(relabel sc env).names.lookup x=some .globalImplicit:=by
 have N:∀(names:List (Str × Dv)),names.lookup x=some .globalImplicit->(names.map λ(n,k)=>if (k == AJ&&env.scope.kind == .function&&env.kindOf n == some .cell) then (n,Bn) else (n,k)).lookup x=some .globalImplicit:=by
  intro names;induction names with
  |nil=>intro h;simp at h
  |cons p r O=>
   obtain⟨n,k⟩:=p;intro h;rw[AW];dsimp only;cases hx:(x == n) with
   |true=>
    rw[Aq,hx]at h;cases h;have e:(D7 == AJ)=false:=rfl;rw[e];simp only[Ct,Ba,if_false,Aq,hx]
   |false=>
    rw[Aq,hx]at h;have:=O h;split<;>simpa only[Aq,hx] using this
 exact N sc.names h
theorem Scp.comp(S:Scp sc N X)(O:L2.zx X N' csc fr)(nd:N'.Nodup)C s0 H0 ex:Scp csc N' (X.comp N' csc C s0 H0 ex):=by
 refine⟨rfl,nd,λx h=>?_,λx h=>?_,λx h=>?_,λx h=>?_⟩
 . rcases h with h|h|h
   . exact .inl (wq h)
   . exact .inr (.inl (L2.vV h))
   . exact(L2.sP O.a h).elim (λz=>.inr (.inl z)) λz=>.inr (.inr z)
 . rcases h with h|h
   . exact⟨.inl (wq h),.inr (wq h)⟩
   . exact⟨.inr (L2.vV h),.inl (Bu.mpr ⟨_,AV h,decide_eq_true rfl⟩)⟩
 . exact jo h
 . rcases h with h|h
   . exact .inl (L2.vV h)
   . exact L2.sP O.a h
theorem Callee.comp(c:Callee T n X f v F)N' csc C s0 H0 ex:Callee T n (X.comp N' csc C s0 H0 ex) f v F:=⟨c.a⟩
theorem Ok.comp(o:Ok T n sc N X)(R:L2.zx X N' csc fr)(nd:N'.Nodup)(x:L2.uw sc N N' csc fr=true)C s0 H0 ex:Ok T n csc N' (X.comp N' csc C s0 H0 ex):=
 ⟨o.d,o.c,o.a.comp R nd C s0 H0 ex,λf v F h=>(o.p f v F h).comp N' csc C s0 H0 ex,o.k,o.g,rfl,o.i,o.l,λO _ h=>by
  unfold L2.uw at x;simp only[cf,Bu,Ay,decide_eq_true_eq]at x;rcases x.2 with z|⟨Q,y,_,P⟩
  . exact absurd h z
  . exact o.j O ⟨y.1,P⟩ Q⟩
section
variable {T:Tbl}{n:Nat}
def JE(T:Tbl)(n:Nat)(a:Ex):Prop:=∀(sc:Scope) (N:List Str) (X:L2.Cx) (e:Expr),Ok T n sc N X->ck sc N a e=true->∀env s,L2.PE X e (tV X.K X.d env s (evE (zC T n) T.b env a s))
def JL(T:Tbl)(n:Nat)(a:Exs):Prop:=∀(sc:Scope) (N:List Str) (X:L2.Cx) (es:List Expr),Ok T n sc N X->ckL sc N a es=true ->
 (ze es=true->∀env s,L2.PA X es (tVs X.K X.d env s (zc (zC T n) T.b env a s))) /\
 (∀e x pos,es=e::x->∀env s,L2.PE X (.BoolOp .And es pos) (tV X.K X.d env s (rX (zC T n) T.b env a s))) /\
 (∀e x pos,es=e::x->∀env s,L2.PE X (.BoolOp .Or es pos) (tV X.K X.d env s (lU (zC T n) T.b env a s))) /\
 (∀y,es=[y]->plain y=true->∃b,a=.a b .c/\∀env s,L2.PE X y (tV X.K X.d env s (evE (zC T n) T.b env b s)))
def JO(T:Tbl)(n:Nat)(a:OEx):Prop:=∀(sc:Scope) (N:List Str) (X:L2.Cx) (e:Option Expr),Ok T n sc N X->ckO sc N a e=true->(∀env s,L2.PO X e (tO X.K X.d env s (evO (zC T n) T.b env a s))) /\
 ((e=none/\∀env s1,evO (zC T n) T.b env a s1=.e none s1)\/∃x,e=some x/\∀env s1 s2,evO (zC T n) T.b env a s1≠.e none s2)
def JC(T:Tbl)(n:Nat)(a:Cn):Prop:=∀(sc:Scope) (N:List Str) (X:L2.Cx) (e:Expr),Ok T n sc N X->ckC sc N a e=true->∀env s,L2.PT X e (tT X.K X.d env s (evT (zC T n) T.b env a s))
def JCs(T:Tbl)(n:Nat)(a:Cns):Prop:=∀(sc:Scope) (N:List Str) (X:L2.Cx) (es:List Expr),Ok T n sc N X->lO sc N a es=true ->
 (∀pos env s,L2.PW X (.BoolOp .And es pos) (tT X.K X.d env s (wL (zC T n) T.b env a s)))/\(∀pos env s,L2.PW X (.BoolOp .Or es pos) (tT X.K X.d env s (vI (zC T n) T.b env a s)))/\L2.PTs X es (uTs X.K X.d (zC T n) T.b a)
def JI(T:Tbl)(n:Nat)(a:Itb):Prop:=∀(sc:Scope) (N:List Str) (X:L2.Cx) (e tg:Expr),Ok T n sc N X->ckI sc N a e tg=true->∀env s,L2.PI X tg e (tI (K:=X.K) (mg:=X.d) env s (xY (zC T n) T.b env a s))
def bJ:JE T n (.g v):=by
 intro sc N X e o h env s;show L2.PE X e (tV X.K X.d env s (.e v s));replace h:=qf h;obtain⟨c,k,p,rfl,h⟩:=h;have h:=of_decide_eq_true h;cases v with
 |j=>cases h;exact zX L2.Ui λσ H Q ⟨ρ,hr,er,w⟩=>zO hr .A w
 |e b=>cases h;exact zX L2.aS λσ H Q ⟨ρ,hr,er,w⟩=>zO hr (.j _) w
 |c i=>cases h;exact zX L2.af λσ H Q ⟨ρ,hr,er,w⟩=>zO hr (.l _) w
 |g x=>cases h;exact zX L2.rJ λσ H Q ⟨ρ,hr,er,w⟩=>zO hr (.D _) w
 |_=>cases h
def bM:JE T n (.e i):=by
 intro sc N X e o h env s;replace h:=yK h;obtain⟨x,p,rfl,h⟩:=h;simp only[cf,decide_eq_true_eq,qy,Ay,AK]at h;obtain⟨⟨⟨h1,Y⟩,W⟩,U⟩:=h;have P:L2.Vis X.a.scope x:=o.a.c x (by rcases Y with (z|z)|z;exact .inl z;exact .inr (.inl z);exact .inr (.inr z))
 show L2.PE X _ (tV X.K X.d env s (match env[i]? with|some (some v)=>.e v s|_=>.d))
 refine zX (L2.xQ (i:=i) (by rw[o.a.a];exact h1) P W U) λσ H Q ⟨ρ,hr,er,w⟩=>?_
 split at w
 . rename_i v e
   obtain⟨O,S,R⟩:=er.a i v e;exact⟨O,S,zO hr R w⟩
 . exact w.elim
def WJ:JE T n (.E y):=by
 intro sc N X e o h env s;replace h:=yK h;obtain⟨x,p,rfl,h⟩:=h;simp only[cf,decide_eq_true_eq,wM,AK]at h;obtain⟨⟨h1,P⟩,O⟩:=h;subst h1;show L2.PE X _ (tV X.K X.d env s (match T.b x with|some v=>.e v s|dS=>.d))
 cases hv:T.b x with
 |none=>exact zL (zH rfl)
 |some v=>
  obtain⟨u,R,e1,e2,e3⟩:=o.k x v hv;exact zX (L2.XB (o.a.b x P) e1 e2 O) λσ H Q ⟨ρ,hr,er,w⟩=>zO hr (e3 ρ H) w
def Sj:JE T n (.L y m):=by
 intro sc N X e o h env s;replace h:=yK h;obtain⟨x,p,rfl,h⟩:=h;simp only[cf,decide_eq_true_eq,wM]at h;obtain⟨⟨h1,R⟩,P⟩:=h;subst h1;show L2.PE X _ (tV X.K X.d env s (.e (.t m) s));have O:x∈wR/\Ci x=some (.type m)/\x≠"__name__"/\(x == ("__debug__":Str))=false:=by
  unfold QG at P;simp only[Ay,cf,decide_eq_true_eq]at P;rcases P with ((((⟨rfl,rfl⟩|⟨rfl,rfl⟩)|⟨rfl,rfl⟩)|⟨rfl,rfl⟩)|⟨rfl,rfl⟩)|⟨rfl,rfl⟩
  . exact⟨by decide,PyProof.Rows.boot_int,by decide,by decide⟩
  . exact⟨by decide,PyProof.Rows.boot_bool,by decide,by decide⟩
  . exact⟨by decide,PyProof.Rows.boot_str,by decide,by decide⟩
  . exact⟨by decide,PyProof.Rows.boot_list,by decide,by decide⟩
  . exact⟨by decide,F8,by decide,by decide⟩
  . exact⟨by decide,PyProof.Rows.boot_dict,by decide,by decide⟩
 exact zX (L2.Ra (o.a.b x R) (o.g x O.1) O.2.1 O.2.2.1 O.2.2.2) λσ H Q ⟨ρ,hr,er,w⟩=>zO hr (.J _) w
def Ye:JE T n (.D t):=by
 intro sc N X e o h env s;obtain⟨p,rfl⟩:=iw h;show L2.PE X _ (tV X.K X.d env s (.e (.q s.length) (s++[if t then .f [] else .e []])))
 cases t with
 |true=>exact zX L2.aa λσ H Q ⟨ρ,hr,er,w⟩ p hp=>w _ _ _ (Ext.own hr hp _) (hr.wk hp ⟨[],L2.zK,rfl,.d⟩) (.s (qO hr p) (by rw[L2.zK];decide))
 |false=>exact zX L2.aZ λσ H Q ⟨ρ,hr,er,w⟩ p hp=>w _ _ _ (Ext.own hr hp _) (hr.wk hp ⟨[],L2.zK,rfl,.d⟩) (.s (qO hr p) (by rw[L2.zK];decide))
def Yd:JE T n .C:=by intro sc N X e o h env s;obtain⟨p,rfl⟩:=iw h;show L2.PE X _ (tV X.K X.d env s (.e .p s));exact zX (L2.XA λpins σ H s I=>I.big) λσ H Q ⟨ρ,hr,er,w⟩ p hp=>w _ _ _ (Ext.new hr hp _) (hr.more hp _) (.B (hr.new hp) L2.zK)
def qc(h:zR op x y s=.e v s'):∃b,v=.e b:=by unfold zR at h;split at h<;>(split at h<;>first|(cases h;exact⟨_,rfl⟩)|cases h|(split at h<;>first|(cases h;exact⟨_,rfl⟩)|cases h|(split at h<;>first|(cases h;exact⟨_,rfl⟩)|cases h|(split at h<;>first|(cases h;exact⟨_,rfl⟩)|cases h))))
def tN{o:Out Val}(P:∀v s',o=.e v s'->∃b,v=.e b)(w:yU K mg (λ_ _ a b=>a=b) ρ H o.truth Q):yU K mg (RD K mg) ρ H o λx H'=>∃k,x=.f k/\Q k H':=by
 cases o with
 |e v s1=>
  obtain⟨b,rfl⟩:=P v s1 rfl;intro ρ1 x H1 O N r1;cases r1;exact⟨b,rfl,w _ _ _ O N rfl⟩
 |g _ _ _=>exact w
 |d=>exact w
def Vw{f2:Sto->Out Val}(k1:okC op=true)(R:L2.xH k X.A)(h1:L2.PE X a (tV X.K X.d env s o))(Z:∀s1,L2.PE X b (tV X.K X.d env s1 (f2 s1)))(Y:plain b=true) :
 L2.PT X (.Compare a [op.op] [b] pos) (tT X.K X.d env s (o.bind λx s1=>(f2 s1).bind λy s2=>zR op x y s2).truth):=by
 cases o with
 |e v s1=>
  have P:=Z s1;show L2.PT X _ (tT X.K X.d env s ((f2 s1).bind λy s2=>zR op v y s2).truth);cases hb:f2 s1 with
  |e w s2=>
   rw[hb]at P;exact uC (L2.qS (vR R op k1) h1 P (xA Y)) λσ H Q ⟨ρ,hr,er,wt⟩=>⟨ρ,hr,er,λρ1 x H1 U O r1=>⟨ρ1,O,er.mono U,λρ2 y H2 S N W=>⟨ρ2,s2,v,w,N,r1.mono S,W,tN (λ_ _ h=>qc h) (wt.mono (U.trans O S) N)⟩⟩⟩
  |g _ _ _=>exact yG (zH rfl)
  |d=>exact yG (zH rfl)
 |g _ _ _=>exact yG (zH rfl)
 |d=>exact yG (zH rfl)
def bQ{X:L2.Cx}{env:Env}{s:Sto}{a b c:Expr}{op O:Cop}{o:Out Val}{f2 f3:Sto->Out Val}{k:Nat}{pos:Pos}(k1:okC op=true)(k2:okC O=true)(hr0:L2.xH k X.A)(h1:L2.PE X a (tV X.K X.d env s o))(h2:∀s1,L2.PE X b (tV X.K X.d env s1 (f2 s1)))(h3:∀s1,L2.PE X c (tV X.K X.d env s1 (f3 s1)))(hm:plain c=true) :
 L2.PT X (.Compare a [op.op,O.op] [b,c] pos) (tT X.K X.d env s (o.bind λx s1=>(f2 s1).bind λy s2=>(zR op x y s2).bind λr R=>match r with
  |.e true=>(f3 R).bind λz W=>zR O y z W
  |.e false=>.e (.e false) R
  |_=>.d).truth):=by
 cases o with
 |e v s1=>
  have h2':=h2 s1;show L2.PT X _ (tT X.K X.d env s ((f2 s1).bind _).truth);cases hb:f2 s1 with
  |e w s2=>
   rw[hb]at h2';show L2.PT X _ (tT X.K X.d env s ((zR op v w s2).bind _).truth);cases hc:zR op v w s2 with
   |e r R=>
    cases r with
    |e t=>
     have h3':=h3 R;have Y:=L2.az (pos:=pos) (vR hr0 op k1) (vR hr0 O k2) h1 h2' h3' (show GQ [op.op,O.op] [b,c]=false from xA hm);refine uC Y λσ H Q ⟨ρ,hr,er,wt⟩=>⟨ρ,hr,er,λρ1 x H1 x1 hr1 r1=>⟨ρ1,hr1,er.mono x1,λρ2 y H2 x2 hr2 r2=>⟨ρ2,s2,v,w,hr2,r1.mono x2,r2,?_⟩⟩⟩;rw[hc];intro S z H3 x3 P r3;cases r3;refine⟨t,rfl,?_⟩;have xx:=(x1.trans hr1 x2).trans hr2 x3;have U:=wt.mono xx P;cases t with
     |true=>
      rw[if_pos rfl];refine⟨S,P,er.mono xx,?_⟩;have N:yU X.K X.d (λ_ _ a b=>a=b) S H3 ((f3 R).bind λz W=>zR O w z W).truth Q:=U;cases hz:f3 R with
      |e u W=>
       rw[hz]at N;exact λρ4 q H4 x4 Z r4=>⟨ρ4,W,w,u,Z,(r2.mono x3).mono x4,r4,tN (λ_ _ h=>qc h) (N.mono x4 Z)⟩
      |g _ _ _=>rw[hz]at N;exact N
      |d=>rw[hz]at N;exact N
     |false=>
      rw[if_neg Ak];exact⟨false,rfl,U _ _ _ Ext.refl P rfl⟩
    |_=>exact yG (zH rfl)
   |g _ _ _=>exact yG (zH rfl)
   |d=>exact yG (zH rfl)
  |g _ _ _=>exact yG (zH rfl)
  |d=>exact yG (zH rfl)
 |g _ _ _=>exact yG (zH rfl)
 |d=>exact yG (zH rfl)
def Vn(O:JE T n a)(x:JE T n b):JC T n (.a (.l op a b)):=by intro sc N X e o h env s;replace h:=qH (zM h).1;obtain⟨_,_,_,_,rfl,h1⟩:=h;simp only[cf,decide_eq_true_eq]at h1;obtain⟨⟨⟨⟨k1,rfl⟩,R⟩,Q⟩,P⟩:=h1;exact Vw k1 o.c (O _ _ _ _ o R env s) (λs1=>x _ _ _ _ o Q env s1) P
def bF(P:JE T n a)(O:JE T n b)(x:JE T n c):JC T n (.a (.u op op' a b c)):=by intro sc N X e o h env s;replace h:=iu (zM h).1;obtain⟨_,_,_,_,_,_,rfl,h1⟩:=h;simp only[cf,decide_eq_true_eq]at h1;obtain⟨⟨⟨⟨⟨⟨k1,rfl⟩,k2,rfl⟩,U⟩,S⟩,R⟩,Q⟩:=h1;exact bQ k1 k2 o.c (P _ _ _ _ o U env s) (λs1=>O _ _ _ _ o S env s1) (λs1=>x _ _ _ _ o R env s1) Q
noncomputable def WH:Ex->Bool
 |.l ..|.u ..=>true
 |_=>false
def di{os}(h:ck sc N a (.Compare l os rs p)=true):WH a=true:=by
 cases a with
 |l _ _ _=>rfl
 |u _ _ _ _ _=>rfl
 |h f v es=>
  replace h:(if v<100 then ckA sc f (λx=>ckL sc N es x) (.Compare l os rs p) else if v<200 then ckB sc N f v es (λl ys=>ckL l N es ys) (.Compare l os rs p) else ckV sc N v es (λl ys=>ckL l N es ys) (.Compare l os rs p))=true:=h
  split at h
  . cases h
  . split at h
    . cases h
    . exact absurd (show false=true from (zM h).2) Ak
 |_=>cases h
def dn{e:Expr}(h:e.ctorIdx=15):∃l os x p,e=.Compare l os x p:=FD (motive_1:=λe=>∃l os x p,e=Expr.Compare l os x p) e h λl os x p=>⟨l,os,x,p,rfl⟩
def z8(Q:JE T n a)(O:WH a=false):JC T n (.a a):=by
 intro sc N X e o h env s;obtain⟨h1,x⟩:=zM h;have P:=Q sc N X e o h1 env s;rcases (Ay _ _).mp x with x|x
 . exact Vy x P
 . obtain⟨l,os,R,p,rfl⟩:=dn (of_decide_eq_true x)
   rw[di h1]at O;cases O
end
def c9(Q:JE T n a)(P:JE T n b):JE T n (.j m op a b):=by intro sc N X e o h env s;replace h:=lR h;obtain⟨l,o1,r,p,rfl,h⟩:=h;simp only[cf,decide_eq_true_eq]at h;obtain⟨⟨⟨k1,rfl⟩,h1⟩,R⟩:=h;exact Wv (Q _ _ _ _ o h1 env s) (λs1=>P _ _ _ _ o R env s1) λta tb O x=>L2.l9 (aC m op k1) O x
def bB(O:JE T n a):JE T n (.A a):=by intro sc N X e o h env s;replace h:=qI h;obtain⟨x,p,rfl,h⟩:=h;exact Vq (O _ _ _ _ o h env s)
def Vf(x:JL T n es):JE T n (.r es):=by intro sc N X e o h env s;replace h:=vz h;obtain⟨O,k,p,rfl,h⟩:=h;simp only[cf]at h;exact k8 ((x _ _ _ _ o h.1).1 h.2 env s)
def Vd(x:JL T n es):JE T n (.y m es):=by intro sc N X e o h env s;replace h:=qh h;obtain⟨O,p,rfl,h⟩:=h;simp only[cf]at h;exact bK ((x _ _ _ _ o h.1).1 h.2 env s)
def WI(Q:JE T n a)(P:JE T n b):JE T n (.s a b):=by intro sc N X e o h env s;replace h:=qi h;obtain⟨l,r,p,rfl,h⟩:=h;simp only[cf]at h;exact Wv (Q _ _ _ _ o h.1.1 env s) (λs1=>P _ _ _ _ o h.1.2 env s1) λta tb O x=>L2.WU SY O x (av h.2)
section
variable {Φ Φ':Calls}{G:Str->Option Val}{env:Env}
mutual
theorem rN:∀(a:Ex) (s:Sto),sim a=true->evE Φ G env a s=evE Φ' G env a s
 |.g _,_,_=>rfl
 |.e _,_,_=>rfl
 |.E _,_,_=>rfl
 |.j m op a b,s,h=>by
  simp only[sim,cf]at h;show (evE Φ G env a s).bind _=(evE Φ' G env a s).bind _;rw[rN a s h.1.2];exact congrArg _ (funext λx=>funext λs1=>by rw[rN b s1 h.2])
 |.A a,s,h=>by
  simp only[sim]at h;show (evE Φ G env a s).bind _=(evE Φ' G env a s).bind _;rw[rN a s h]
 |.r es,s,h=>by
  simp only[sim]at h;show (zc Φ G env es s).bind _=(zc Φ' G env es s).bind _;rw[sT es s h]
 |.y m es,s,h=>by
  simp only[sim,cf]at h;show (zc Φ G env es s).bind _=(zc Φ' G env es s).bind _;rw[sT es s h.2]
 |.s a b,s,h=>by
  simp only[sim,cf]at h;show (evE Φ G env a s).bind _=(evE Φ' G env a s).bind _;rw[rN a s h.1];exact congrArg _ (funext λx=>funext λs1=>by rw[rN b s1 h.2])
 |.L _ _,_,h=>by cases h
 |.H _,_,h=>by cases h
 |.l _ _ _,_,h=>by cases h
 |.u _ _ _ _ _,_,h=>by cases h
 |.w _ _,_,h=>by cases h
 |.J _ _,_,h=>by cases h
 |.G _ _ _,_,h=>by cases h
 |.C,_,h=>by cases h
 |.h _ _ _,_,h=>by cases h
 |.k _ _ _,_,h=>by cases h
 |.F _ _,_,h=>by cases h
 |.M _ _ _ _,_,h=>by cases h
 |.I _ _ _ _ _,_,h=>by cases h
 |.p _ _ _ _ _ _ _,_,h=>by cases h
 |.z _ _ _ _ _ _ _ _ _ _,_,h=>by cases h
 |.q _ _ _ _,_,h=>by cases h
 |.D _,_,h=>by cases h
 |.K _ _,_,h=>by cases h
 |.B _,_,h=>by cases h
theorem sT:∀(es:Exs) (s:Sto),uF es=true->zc Φ G env es s=zc Φ' G env es s
 |.c,_,_=>rfl
 |.a e es,s,h=>by simp only[uF,cf]at h;show (evE Φ G env e s).bind _=(evE Φ' G env e s).bind _;rw[rN e s h.1];exact congrArg _ (funext λx=>funext λs1=>by rw[sT es s1 h.2])
end
def pG(h:newList false vs s=.e v s'):s'=s:=by simp only[newList,Ba,if_false]at h;cases h;rfl
def dQ(h:binOp false op x y s=.e v s'):s'=s:=by unfold binOp at h;split at h<;>(repeat' split at h)<;>first|exact pG h|(cases h;rfl)|cases h
def YR(h:xm x y s=.e v s'):s'=s:=by
 unfold xm at h;split at h
 . split at h
   . split at h
     . cases h;rfl
     . cases h
   . cases h
 . cases h
def zg{o:Out α}{f}{b:β}(h:o.bind f=.e b s):∃a s1,o=.e a s1/\f a s1=.e b s:=by
 cases o with
 |e a s1=>exact⟨a,s1,rfl,h⟩
 |g _ _ _=>cases h
 |d=>cases h
mutual
theorem rO:∀(a:Ex) (s s':Sto) (v:Val),sim a=true->evE Φ G env a s=.e v s'->s'=s
 |.g _,_,_,_,_,h=>by cases h;rfl
 |.e i,s,s',v,_,h=>by
  have N:∀o:Option (Option Val),(match o with|some (some v)=>Out.e v s|_=>.d)=.e v s'->s'=s:=λo h=>by
   cases o with
   |none=>cases h
   |some o=>cases o with
    |none=>cases h
    |some w=>cases h;rfl
  exact N _ h
 |.E x,s,s',v,_,h=>by
  have N:∀o:Option Val,(match o with|some v=>Out.e v s|dS=>.d)=.e v s'->s'=s:=λo h=>by
   cases o with
   |none=>cases h
   |some w=>cases h;rfl
  exact N _ h
 |.j m op a b,s,s',v,z,h=>by
  simp only[sim,cf,AK]at z;obtain⟨⟨rfl,P⟩,O⟩:=z;obtain⟨x,s1,e1,h⟩:=zg h;obtain⟨y,s2,e2,h⟩:=zg h;rw[dQ h,rO b _ _ _ O e2,rO a _ _ _ P e1]
 |.A a,s,s',v,z,h=>by
  simp only[sim]at z;obtain⟨x,s1,e1,h⟩:=zg h;rw[<-rO a _ _ _ z e1];split at h
  . cases h;rfl
  . cases h
 |.r es,s,s',v,z,h=>by
  simp only[sim]at z;obtain⟨x,s1,e1,h⟩:=zg h;rw[<-sU es _ _ _ z e1];split at h
  . cases h;rfl
  . cases h
 |.y m es,s,s',v,z,h=>by
  simp only[sim,cf,AK]at z;obtain⟨rfl,z⟩:=z;obtain⟨x,s1,e1,h⟩:=zg h;rw[<-sU es _ _ _ z e1];split at h
  . exact pG h
  . cases h
 |.s a b,s,s',v,z,h=>by
  simp only[sim,cf]at z;obtain⟨x,s1,e1,h⟩:=zg h;obtain⟨y,s2,e2,h⟩:=zg h;rw[YR h,rO b _ _ _ z.2 e2,rO a _ _ _ z.1 e1]
 |.L _ _,_,_,_,h,_=>by cases h
 |.H _,_,_,_,h,_=>by cases h
 |.l _ _ _,_,_,_,h,_=>by cases h
 |.u _ _ _ _ _,_,_,_,h,_=>by cases h
 |.w _ _,_,_,_,h,_=>by cases h
 |.J _ _,_,_,_,h,_=>by cases h
 |.G _ _ _,_,_,_,h,_=>by cases h
 |.C,_,_,_,h,_=>by cases h
 |.h _ _ _,_,_,_,h,_=>by cases h
 |.k _ _ _,_,_,_,h,_=>by cases h
 |.F _ _,_,_,_,h,_=>by cases h
 |.M _ _ _ _,_,_,_,h,_=>by cases h
 |.I _ _ _ _ _,_,_,_,h,_=>by cases h
 |.p _ _ _ _ _ _ _,_,_,_,h,_=>by cases h
 |.z _ _ _ _ _ _ _ _ _ _,_,_,_,h,_=>by cases h
 |.q _ _ _ _,_,_,_,h,_=>by cases h
 |.D _,_,_,_,h,_=>by cases h
 |.K _ _,_,_,_,h,_=>by cases h
 |.B _,_,_,_,h,_=>by cases h
theorem sU:∀(es:Exs) (s s':Sto) (vs:List Val),uF es=true->zc Φ G env es s=.e vs s'->s'=s
 |.c,_,_,_,_,h=>by cases h;rfl
 |.a e es,s,s',vs,z,h=>by simp only[uF,cf]at z;obtain⟨x,s1,e1,h⟩:=zg h;obtain⟨y,s2,e2,h⟩:=zg h;cases h;rw[sU es _ _ _ z.2 e2,rO e _ _ _ z.1 e1]
end
end
section
variable {T:Tbl}{n:Nat}
mutual
theorem rC:∀(a:Ex),sim a=true->JE T n a
 |.g _,_=>bJ
 |.e _,_=>bM
 |.E _,_=>WJ
 |.j m op a b,h=>by
  simp only[sim,cf]at h;exact c9 (rC a h.1.2) (rC b h.2)
 |.A a,h=>bB (rC a (by simpa only[sim] using h))
 |.r es,h=>by
  simp only[sim]at h;intro sc N X e o x env s;replace x:=vz x;obtain⟨O,k,p,rfl,x⟩:=x;simp only[cf]at x;exact k8 (mT es h _ _ _ _ o x.1 x.2 env s)
 |.y m es,h=>by
  simp only[sim,cf]at h;intro sc N X e o x env s;replace x:=qh x;obtain⟨O,p,rfl,x⟩:=x;simp only[cf]at x;exact bK (mT es h.2 _ _ _ _ o x.1 x.2 env s)
 |.s a b,h=>by
  simp only[sim,cf]at h;exact WI (rC a h.1) (rC b h.2)
 |.L _ _,h=>by cases h
 |.H _,h=>by cases h
 |.l _ _ _,h=>by cases h
 |.u _ _ _ _ _,h=>by cases h
 |.w _ _,h=>by cases h
 |.J _ _,h=>by cases h
 |.G _ _ _,h=>by cases h
 |.C,h=>by cases h
 |.h _ _ _,h=>by cases h
 |.k _ _ _,h=>by cases h
 |.F _ _,h=>by cases h
 |.M _ _ _ _,h=>by cases h
 |.I _ _ _ _ _,h=>by cases h
 |.p _ _ _ _ _ _ _,h=>by cases h
 |.z _ _ _ _ _ _ _ _ _ _,h=>by cases h
 |.q _ _ _ _,h=>by cases h
 |.D _,h=>by cases h
 |.K _ _,h=>by cases h
 |.B _,h=>by cases h
theorem mT:∀(es:Exs),uF es=true->∀(sc:Scope) (N:List Str) (X:L2.Cx) (x:List Expr),Ok T n sc N X->ckL sc N es x=true->ze x=true->∀env s,L2.PA X x (tVs X.K X.d env s (zc (zC T n) T.b env es s))
 |.c,_=>λsc N X x o h hp env s=>by
  cases A0.mp h;exact hX
 |.a e es,hs=>λsc N X x o h hp env s=>by simp only[uF,cf]at hs;replace h:=yR h;obtain⟨y,ys,rfl,h⟩:=h;rw[ze,cf]at hp;exact la hp.1 (rC e hs.1 _ _ _ _ o (zM h).1 env s) λs1=>mT es hs.2 _ _ _ _ o (zM h).2 hp.2 env s1
end
end
end M
end
section
namespace M
open PySem PySem.W PyProof.Rows
def mS(h:L2.PA X.nox es t):L2.PA X es t:=λpos pins s σ H Q I hw=>
 AN (h pos pins s σ H Q (I.wa _) hw) (λ_ _ ⟨vs,H',I',r,q⟩=>⟨vs,H',I'.xB,r,q⟩) λ_ _ z=>Az z
def nF(h:uv a=true):a=L2.noArgs:=by obtain⟨po,Q,x,O,kd,N,P⟩:=a;simp only[uv,cf,A0,BW]at h;obtain⟨⟨⟨⟨⟨⟨rfl,rfl⟩,rfl⟩,rfl⟩,rfl⟩,rfl⟩,rfl⟩:=h;rfl
def ZJ(r:L2.xH (m+1) A)e1 e2:L2.xH m ((A.deeper e1).deeper e2):=
 ⟨r.a,by have:=r.c;show A.depth+1+1+3*m+5<_;omega,by have:=r.b;show A.units+3+3+16*m+200<_;omega,r.d⟩
def lZ(h:qy sc x=true):L2.Vis sc x:=by
 simp only[qy,Ay,decide_eq_true_eq]at h;rcases h with (h|h)|h
 . exact .inl h
 . exact .inr (.inl h)
 . exact .inr (.inr h)
def aT{ds}{i:Nat}(F:L2.tR X.f X.w X.K X.d X.h CX k f fd ps sp)(hr:L2.xH k X.A)(hN:X.N[i]?=some x)(Z:L2.Vis X.a.scope x)(hk:B2 X.K (.ref f)=true)(hb:L2.Binds X.K fd ps ds)(hd:L2.Vals dvs ds)(hx:L2.Passes CX X E)
 (ha:L2.PA X (e::es) t) (R:(x == ("__debug__":Str))=false) (S:(x == ("__classdict__":Str))=false) (he:AG (e::es) X.a=(false,eval e X.a)::AG es X.a) (P:(backTo pos (AG es X.a)).any (·.1)=false) :
 L2.PE X (.Call (.Name x p) (e::es) [] pos) (λσ H Q=>σ[i]?=some (some (.c f))/\L2.gL sp dvs E t σ H Q):=by
 rintro pins s σ H Q I ⟨h0,h⟩;refine BR (L2.thn (L2.xQ hN Z R S pins s σ H (λv H2=>v=L2.V.c f/\H2=H) I ⟨_,h0,rfl,rfl⟩) λu s2 Y=>?_);obtain⟨v,H2,W,r,O,U⟩:=Y;subst O U;cases r;refine Dg (h₀:=X.h) W.C.i.a hk (L2.thn (ha pos pins s2 σ H2 _ W h) λus s1 ⟨vs,H1,I1,r,q⟩=>⟨I1.kIn,?_⟩) he P;exact L2.jq F hr hb hd hx I1 r q
section
variable {T:Tbl}{n:Nat}{sc lsc:Scope}{N:List Str}{X:L2.Cx}
def Cal(lsc:Scope)(N:List Str)(env:Env)(y f:Str):Prop:=(y=f/\lsc.names.lookup y=some .globalImplicit/\(y == ("__debug__":Str))=false) \/
 ∃i:Nat,N[i]?=some y/\qy lsc y=true/\(y == ("__debug__":Str))=false/\(y == ("__classdict__":Str))=false/\env[i]?=some (some (.u f))
def nN
 (o:Ok T (m+1) sc0 N0 X) (nd:N.Nodup) (nmk:∀x∈lsc.names,x.2=.globalImplicit\/x.2=.free) (h8:uF es=true) (h9:ckL lsc N es ys=true) (h10:ze ys=true) (h11:ys.isEmpty=false) (hcal:Cal lsc N env y f) (ho:zc (zC T m) T.b env es s=.e vs s) (hmd:T.c md=true)
 (I:L2.Inv X pins σq H s0) (L:L2.oQ X.g s0.heap H lf c2 qual (.Call (.Name y p2) ys [] p3) lsc cl pm ctv N σ) (hr:HR X.K X.d ρ s H) (er:ER X.K X.d ρ H env σ) (P:yU X.K X.d (RD X.K X.d) ρ H (sS T md (zC T m f 0 vs s) (za T m f 0 vs s)) Q) (hf:X.d (L2.yJ md)=some (.ref fS)) :
 wpAny (model X.f X.w) X.A (call (.ref fS) [.ref lf]) (L2.EP X pins σq Q) X.i s0:=by
 have sd:=o.l m rfl ⟨md,hmd⟩;obtain⟨kx,cs,ws,pre,hue,hhue,KF,SF,CF,RF⟩:=sd.a.a;obtain⟨fS',SF'⟩:=SF md hmd;obtain rfl:fS'=fS:=by obtain⟨_,_,z,_⟩:=id SF'.a;rw[hf]at z;cases z;rfl
 cases hfn:T.e f 0 with
 |none=>
  exfalso;have h1:zC T m f 0 vs s=.d:=by
   cases m with
   |zero=>rfl
   |succ m=>simp only[zC,hfn];cases lV vs<;>rfl
  have h2:za T m f 0 vs s=dS:=by
   cases m with
   |zero=>rfl
   |succ m=>simp only[za,hfn]
  rw[h1,h2]at P;exact P
 |some F=>
  obtain⟨fa2,fd2,e1,e2,e3,e4,e5⟩:=(sd.b m (Ad _)).a f 0 F hfn;refine Df (CY (L2.ZO (EE:=λcls dd H2=>∃(S:Str) (as:List Val) (s':Sto) (ρ2:Own) (C:Addr),((∀v s1,zC T m f 0 vs s≠.e v s1)/\za T m f 0 vs s=some (S,as,s'))/\Ext ρ H ρ2 H2/\HR X.K X.d ρ2 s' H2/\X.d S=some (.ref C)/\cls=.ref C/\DX ρ2 H2 S as dd)
   (Q:=Q) (tb:=λσ1 H1 Q1=>(∀i:Nat,env[i]?=some (some (.u f))->σ1[i]?=some (some (.c fa2)))/\L2.gL (spX T X.K X.d m f 0) [] (λcls dd H2=>∃(S:Str) (as:List Val) (s':Sto) (ρ2:Own) (C:Addr),((∀v s1,zC T m f 0 vs s≠.e v s1)/\za T m f 0 vs s=some (S,as,s'))/\Ext ρ H ρ2 H2/\HR X.K X.d ρ2 s' H2/\X.d S=some (.ref C)/\cls=.ref C/\DX ρ2 H2 S as dd) (tVs X.K X.d env s (zc (zC T m) T.b env es s)) σ1 H1 Q1)
   I.vm o.c.a (by have:=o.c.c;omega) SF' KF hhue L (λvm s' H2=>?_) ?_ λcls dd H2 hEE=>?_) λr s' O=>?_)
  . cases ys with
    |nil=>cases h11
    |cons y1 ys=>
     have Y:=h10;rw[ze,cf]at Y;have okL:Ok T m lsc N (L2.qe (L2.CXE X.f X.w) X.f X.w X.K X.d X.h N qual lsc lf (.ref c2) cl (X.A.deeper vm) (vm::X.g) s' H2 (λcls dd H2=>∃(S:Str) (as:List Val) (s':Sto) (ρ2:Own) (C:Addr),((∀v s1,zC T m f 0 vs s≠.e v s1)/\za T m f 0 vs s=some (S,as,s'))/\Ext ρ H ρ2 H2/\HR X.K X.d ρ2 s' H2/\X.d S=some (.ref C)/\cls=.ref C/\DX ρ2 H2 S as dd)).nox:=by
      refine⟨rfl,ZJ o.c _ _,⟨rfl,nd,λx hx=>hx,λx hx=>?_,λx hx=>hx,λx hx=>hx⟩,λf' v' F' hf'=>?_,o.k,o.g,rfl,o.i,λm' hm' hmd'=>⟨sd.a,λj hj=>sd.b j ⋯⟩,λ_ ⟨x,hx⟩ _=>?_⟩
      . exfalso
        rcases hx with hx|hx
        . rcases nmk _ (AV hx) with z|z<;>cases z
        . rcases nmk _ (AV hx) with z|z<;>cases z
      . obtain⟨fa3,fd3,y1,y2,y3,y4,y5⟩:=(sd.b m (Ad _)).a f' v' F' hf'
        exact⟨⟨fa3,fd3,y1,y2,y3,y4⟩⟩
      . exfalso
        rcases nmk _ (AV hx) with z|z<;>cases z
     have hpa:=mS (mT es h8 lsc N _ _ okL h9 h10 env s);rcases hcal with⟨rfl,h6,h7⟩|⟨i,c1,c2,c3,c4,c5⟩
     . exact zX (L2.mW e5 (ZJ o.c _ _) h6 e1 e2 e3 .nil L2.pR hpa h7 (L2.zv (zl Y.1)) (yp Y.2)) λσ H Q h=>h.2
     . exact zX (aT e5 (ZJ o.c _ _) c1 (lZ c2) e2 e3 .nil L2.pR hpa c3 c4 (L2.zv (zl Y.1)) (yp Y.2)) λσ H Q h=>⟨h.1 i c5,h.2⟩
  . refine Ag (λi he=>?_) ⟨ρ,hr,er,?_⟩
    . obtain⟨x,hx,r⟩:=er.a i _ he
      cases r with
      |I e=>rw[e1]at e;cases e;exact hx
    rw[ho];intro ρ1 xs H1 x1 hr1 r1;refine⟨ρ1,s,vs,hr1,by rw[A9];exact r1,?_⟩
    cases O:zC T m f 0 vs s with
    |e v s'=>
     rw[O]at P;refine .inl λρ2 x H2 x2 R r2=>?_;have X2:=x1.trans hr1 x2;cases md with
     |true=>exact P ρ2 x H2 X2 R r2
     |false=>exact P ρ2 _ H2 X2 R (.D _)
    |g _ _ _=>
     rw[O]at P;cases hx:za T m f 0 vs s with
     |none=>rw[hx]at P;exact P.elim
     |some r=>
      obtain⟨S,as,s'⟩:=r;exact .inr λρ2 H2 x2 R C hC dd Z=>⟨S,as,s',ρ2,C,⟨zH rfl,rfl⟩,x1.trans hr1 x2,R,hC,rfl,Z⟩
    |d=>
     rw[O]at P;cases hx:za T m f 0 vs s with
     |none=>rw[hx]at P;exact P.elim
     |some r=>
      obtain⟨S,as,s'⟩:=r;exact .inr λρ2 H2 x2 R C hC dd Z=>⟨S,as,s',ρ2,C,⟨zH rfl,rfl⟩,x1.trans hr1 x2,R,hC,rfl,Z⟩
  . obtain⟨S,as,s',ρ2,C,⟨hno,hexc⟩,x2,R,hC,rfl,Z⟩:=hEE
    have P:yU X.K X.d (RD X.K X.d) ρ H (match T.d.lookup S with|some w=>.e (uD md w as) s'|dS=>.d) Q:=by
     rw[hexc]at P;cases hn:zC T m f 0 vs s with
     |e v s1=>exact absurd hn (hno v s1)
     |g _ _ _=>rw[hn]at P;exact P
     |d=>rw[hn]at P;exact P
    cases hw:T.d.lookup S with
    |none=>rw[hw]at P;exact P.elim
    |some w=>
     rw[hw]at P;obtain⟨C',i,x,c1,c2,c3,c4,c5,c6,c7⟩:=CF S w hw;rw[hC]at c1;cases c1;refine⟨C,S,i,x,rfl,c2,c3,c4,c5,?_⟩;by_cases hgr:md=false/\w="great"
     . obtain⟨hmf,W⟩:=hgr
       subst hmf W;have hcc:=c7 rfl;subst hcc;obtain⟨C0,D0,fI,fd0,Kc,m1,m2,m3,m4,m5,m6,m7⟩:=sd.a.gr (by rw[hw];rfl) X.h I.C.i.a
       rw[hC]at m1;cases m1;obtain⟨d,a,b,rfl,rfl,hd,hno'⟩:=Z.get;refine .inr ⟨rfl,c6.symm,D0,fI,d,a,b,Kc,rfl,hd,m6,m5,m4,m2,λH3 p sm hp=>?_⟩;obtain⟨U,x3⟩:=R.Wa sm;exact P ρ2 (.c p) _ ((x2.trans R x3).trans U (Ext.new U hp _)) (U.more hp _) (.m (U.new hp) L2.zK (.a (.D _) (.a (.l a) (.a (.l b) .d))))
     . refine .inl ⟨λhmf=>by rw[<-c6];exact λW=>hgr ⟨hmf,W⟩,λH3 sm=>?_⟩
       obtain⟨U,x3⟩:=R.Wa sm;have hA:uD md w as=.g w:=by
        unfold uD;cases md with
        |true=>rfl
        |false=>rw[if_neg Ak,if_neg λW=>hgr ⟨rfl,W⟩]
       have P:yU X.K X.d (RD X.K X.d) ρ H (.e (uD md w as) s') Q:=P;rw[hA]at P;have:=P ρ2 (.e w) H3 (x2.trans R x3) U (.D w);rw[<-c6];exact this
  . cases r with
    |error e=>exact Az O
    |ok fl=>
     cases fl with
     |ret u=>exact I.after O
     |next=>exact Az O
     |brk=>exact Az O
     |cont=>exact Az O
def eE(o:Ok T (m+1) sc N X)(h2:sc.names.lookup (L2.yJ md)=some .globalImplicit)(h3:uv a=true)(h4:vY sc lsc=true)
 (h8:uF es=true) (h9:ckL lsc N es ys=true) (h10:ze ys=true) (h11:ys.isEmpty=false) (h12:("!":Str)∈N) env s (hcal:Cal lsc N env y f) (ho:zc (zC T m) T.b env es s=.e vs s) (htb:zr T.f s=true) (Y:T.c md=true) :
 L2.PE X (.Call (.Name (L2.yJ md) p1) [.Lambda a (.Call (.Name y p2) ys [] p3) lsc p4] [] p5) (tV X.K X.d env s (sS T md (zC T m f 0 vs s) (za T m f 0 vs s))):=by
 obtain rfl:=nF h3;rintro pins s0 σ H Q I ⟨ρ,hr,er,wt⟩;have sd:=o.l m rfl ⟨md,Y⟩;obtain⟨kx,cs,ws,pre,hue,hhue,KF,SF,CF,RF⟩:=sd.a.a;obtain⟨fS,SF'⟩:=SF md Y;obtain⟨stS,fdS,hmS,FnS,_⟩:=id SF'.a;simp only[vY,cf,decide_eq_true_eq,AK,AB,Bu,Ay]at h4;obtain⟨⟨⟨⟨k1,k2⟩,k3⟩,k4⟩,⟨x0,hx0,hx0f⟩⟩:=h4;have W:∀x∈lsc.names,x.2=.free->sc.names.lookup x.1=some .cell\/sc.names.lookup x.1=some .free:=λx hx hf=>by
  rcases k4 x hx with z|z
  . rw[hf]at z;cases z
  . exact z.2
 obtain⟨g,hg,fa,c,ob,fd,q1,q2,q3,q4,q5,q6⟩:=o.j ⟨md,Y⟩ ⟨x0.1,hx0f⟩ h12;obtain⟨j,hj⟩:=qv htb hg;obtain⟨P,hPo,tr⟩:=hr.m j _ hj;obtain⟨ps,hP,tok,among,fa',c',o',fd',w1,w2,w3,w4,w5⟩:=id tr;rw[q1]at w1;cases w1;rw[q2]at w2;cases w2;rw[q3]at w3;cases w3;rw[q4]at w4;cases w4;have hq:X.a.qual++("<lambda>":Str)=ba g:=by rw[q6];rfl
 have S:∀x,(x,AJ)∈lsc.names->∃b,X.a.cells.lookup x=some b:=λx hx=>I.C.p x (o.a.f x (W _ hx rfl));have Z:∀x b,(xy X.a.cells lsc.names []).lookup x=some b->(x,AJ)∈lsc.names/\X.a.cells.lookup x=some b:=λx b e=>by
  rcases sr (AV e) with z|⟨z1,z2⟩
  . cases z
  . obtain⟨b',U⟩:=S x z1
    rw[U]at z2;exact⟨z1,by rw[U,z2];rfl⟩
 have hdbg:(L2.yJ md == ("__debug__":Str))=false:=by cases md<;>decide
 refine BR (L2.xO I (o.a.b _ h2) hmS ?_ hdbg);refine Dg (h₀:=X.h) I.C.i.a FnS.b ?_;show wpAny _ _ (spliced ((false,eval (.Lambda L2.noArgs (.Call (.Name y p2) ys [] p3) lsc p4) X.a)::backTo p5 (AG [] X.a))) _ _ s0;refine Calls.spliced_cons (L2.lb (P:=P) (ps:=ps) (c:=c) I rfl (iX λx hx hf=>S x.1 (by rw[<-hf];exact hx)) q5 (w5 _ I.kIn) hP tok (sd.a.bm _ I.C.i.a) (λcv hcv=>?_) λlf c2 ctv H' h' tk I' lamh ⟨nl,_,nf,cdr⟩ obj cr=>Calls.spliced_nil ⟨I'.kIn,?_⟩)
 . obtain⟨b,ob',vb,tb,z1,_,z3,z4,z5⟩:=among _ cv hcv
   exact⟨b,ob',vb,tb,z1,z3,z4,by rw[hq];exact z5⟩
 rw[hq]at lamh;obtain⟨hr',X0⟩:=hr.lam hj hPo tr hP lamh;have L:L2.oQ X.g h' H' lf c2 (X.a.qual++("<lambda>":Str)) (.Call (.Name y p2) ys [] p3) lsc (xy X.a.cells lsc.names []) ((X.d "__name__").getD .none) ctv N σ:=by
  refine⟨obj,.inl nl,nf,cdr,λx y b z1 z2=>I.C.r x y b (Z x b z1).2 (Z y b z2).2,λx hx=>lookup_mem (w6 (AV hx)),λx b e=>?_,λi x v z1 z2 z3=>?_,by rw[<-o.a.a];exact I'.R,k1,k2,k3,λx hx=>?_⟩
  . obtain⟨y1,y2⟩:=Z x b e
    exact⟨I'.M x b y2,I'.G x b y2⟩
  . have hm3:=AV z3
    have hcl:=W _ hm3 rfl;obtain⟨mm,hn,hl⟩:=I'.O;obtain⟨u,ru,lk⟩:=hl i x v (by rw[o.a.a];exact z1) z2 (o.a.c x (.inr hcl))
    rcases lk with⟨y,_⟩|⟨_,b,y2,y3⟩
    . rcases o.a.f x hcl with y'|y'
      . rw[y]at y';cases y'
      . rw[y]at y';cases y'
    . obtain⟨b',U⟩:=lookup_mem (w6 (cells:=X.a.cells) (acc:=[]) hm3)
      have:=(Z x b' U).2;rw[y2]at this;cases this;exact⟨u,b,ru,U,y3⟩
  . rcases k4 x hx with z|z
    . rw[z];exact⟨nofun,nofun⟩
    . rw[z.1];exact⟨nofun,nofun⟩
 exact nN o o.a.d (λx hx=>(k4 x hx).imp id And.left) h8 h9 h10 h11 hcal ho Y I' L hr' (er.mono X0) (wt.mono X0 hr') hmS
def Yg(o:Ok T n sc N X)(hver:¬ver<100)(R:ver<200)(O:¬ver=102)(h2:sc.names.lookup (L2.yJ (decide (ver=101)))=some .globalImplicit)(h3:uv a=true)(h4:vY sc lsc=true)(h6:lsc.names.lookup f=some .globalImplicit)
 (h7:(f == ("__debug__":Str))=false) (W:uF es=true) (h9:ckL lsc N es ys=true) (h10:ze ys=true) (Z:ys.isEmpty=false) (Y:("!":Str)∈N) env s :
 L2.PE X (.Call (.Name (L2.yJ (decide (ver=101))) p1) [.Lambda a (.Call (.Name f p2) ys [] p3) lsc p4] [] p5) (tV X.K X.d env s (evE (zC T n) T.b env (.h f ver es) s)):=by
 show L2.PE X _ (tV X.K X.d env s ((zc (zC T n) T.b env es s).bind λvs s1=>zC T n f ver vs s1));cases n with
 |zero=>
  refine zL λv s' e=>?_;obtain⟨_,_,_,z⟩:=zg e;cases z
 |succ m=>
  rw[sT (Φ':=zC T m) es s W];cases ho:zc (zC T m) T.b env es s with
  |g _ _ _=>exact zL (zH rfl)
  |d=>exact zL (zH rfl)
  |e vs s1=>
   obtain rfl:s=s1:=(sU es _ _ _ W ho).symm;rw[zV];have P:zC T (m+1) f ver vs s=if ((decide (ver=100)&&T.c false)||(decide (ver=101)&&T.c true))&&zr T.f s then sS T (decide (ver=101)) (zC T m f 0 vs s) (za T m f 0 vs s) else .d:=by
    simp only[zC,o.i f ver ⋯]
    rw[decide_eq_false (show ¬ver=200 by omega),decide_eq_false (show ¬ver=300 by omega),decide_eq_false (show ¬ver=301 by omega),decide_eq_false (show ¬ver=302 by omega),decide_eq_false O]
    congr 1;cases lV vs<;>rfl
   rw[P];by_cases hcond:(((decide (ver=100)&&T.c false)||(decide (ver=101)&&T.c true))&&zr T.f s)=true
   case neg=>rw[if_neg hcond];exact zL (zH rfl)
   rw[if_pos hcond];rw[cf]at hcond;obtain⟨x,S⟩:=hcond;have U:T.c (decide (ver=101))=true:=by
    simp only[Ay,cf,decide_eq_true_eq]at x;rcases x with⟨z1,Q⟩|⟨z1,Q⟩
    . rw[decide_eq_false ⋯];exact Q
    . rw[decide_eq_true z1];exact Q
   exact eE o h2 h3 h4 W h9 h10 Z Y env s (.inl ⟨rfl,h6,h7⟩) ho S U
end
end M
end
section
namespace L2
open PySem PySem.W PySem.Spec PyProof PyProof.Rows
def Inv.Ws(I:Inv X pins σ H s)(hn:H a=none)(U:s.heap.get? a=some oe)(h0:X.l.heap.objs.size<=a)(hp:∀p∈X.n++pins,p.1≠a)(nL:X.a.locals≠a)(nC:∀x c,X.a.cells.lookup x=some c->c≠a):Inv X pins σ (upd H a (.d oe (.e 0))) s:=by
 have ne:∀b,H b≠none->b≠a:=λb n z=>n (by rw[z];exact hn)
 have ob:∀b u,H b=some u->upd H a (.d oe (.e 0)) b=some u:=λb u e=>by rw[zG (ne b (by rw[e];exact nofun))];exact e
 refine⟨I.C,I.S,I.F,⟨I.j.f,I.j.i,λb o e n hx=>?_,I.j.c,λb Q e=>ob _ _ (I.j.l b Q e),λb o u e=>ob _ _ (I.j.g b o u e),λb ps e=>?_⟩,I.O,I.M,?_,λx c e=>?_,λp N=>?_,λb u e=>?_,I.R⟩
 . rw[zG (λz=>by rw[z]at e;exact absurd (Aw (Al e) h0) (Bc _))];exact I.j.d b o e n hx
 . obtain⟨more,q⟩:=I.j.j b ps e
   exact⟨more,ob _ _ q⟩
 . rw[zG nL];exact I.J
 . rw[zG (nC x c e)];exact I.G x c e
 . obtain⟨Z,Y,W⟩:=I.P p N
   exact⟨Z,by rw[zG (hp p N)];exact Y,W⟩
 . by_cases z:b=a
   . subst z
     rw[zK]at e;cases e;exact⟨U,oe,U⟩
   . rw[zG z]at e
     exact(I.B b u e).r9 (λ_ _ _ q=>q) (λc q=>ob _ _ q) λc Q q=>ob _ _ q
end L2
namespace M
open PySem PySem.W PyProof.Rows
def qV(X:L2.Cx)(H:L2.Hp)(lf:Addr)(body:Expr)(lsc:Scope):Prop:=∃(c:Addr) (ctv:Value),H lf=some (.d (kla_obj "<lambda>" (X.a.qual++("<lambda>":Str)) L2.noArgs body lsc (xy X.a.cells lsc.names []) ((X.d "__name__").getD .none) c ctv) (.e 0))/\lf ∉ L2.frs X.g /\
 ∃(o:Obj) (vs:Array Value) (t:Tok),H c=some (.d o (.e 0))/\o.data=.fields vs/\vs[1]?=some (.str (X.a.qual++("<lambda>":Str)) t)
def Frz(H H':L2.Hp):Prop:=∀a o u,H a=some (.d o u)->H' a=some (.d o u)
def qV.keep(l:qV X H lf body lsc)(k:Frz H H'):qV X H' lf body lsc:=by obtain⟨c,ctv,h1,O,o,vs,t,N,x⟩:=l;exact⟨c,ctv,k _ _ _ h1,O,o,vs,t,k _ _ _ N,x⟩
section
variable {K:KF}{mg:Str->Option Value}{ρ ρ':Own}{H H':L2.Hp}{s:Sto}
def HR.S8(x:HR K mg ρ s H)(e:H a=some (.d o u)):a ∉ ρ.o:=λN=>by
 obtain⟨i,hi,e1⟩:=BI N;have hs:i<s.length:=by rw[<-x.f];exact hi
 obtain⟨b,e2,r⟩:=x.m i _ (Ab hs);rw[Ab hi,e1]at e2;cases e2;have:=r.hk;rw[e]at this;cases this
def HR.frz(N:HR K mg ρ s H)(x:Ext ρ H ρ' H'):Frz H H':=λa o u e=>x.c a _ e (N.S8 e)
def ER.put(x:ER K mg ρ H env σ):ER K mg ρ H (env.set i dS) (σ.set i v):=by
 refine⟨by rw[BP,BP];exact x.b,λj w e=>?_⟩
 by_cases z:i=j
 . subst z
   rw[List.getElem?_set]at e;split at e
   . split at e<;>cases e
   . rename_i h;exact absurd rfl h
 . rw[Bq z]at e ⊢
   exact x.a j w e
end
def ag(o:Ok T (m+1) sc N X)(hmd:T.c false=true)(h4:vY sc lsc=true)(h12:("!":Str)∈N) :
 L2.PE X (.Lambda L2.noArgs body lsc p4) (λσ H Q=>∃ρ s,HR X.K X.d ρ s H/\zr T.f s=true/\∀lf H',Ext ρ H ρ H'->HR X.K X.d ρ s H'->qV X H' lf body lsc->Q (.c lf) H'):=by
 rintro pins s0 σ H Q I ⟨ρ,s,hr,htb,wt⟩;have sd:=o.l m rfl ⟨_,hmd⟩;simp only[vY,cf,decide_eq_true_eq,AK,AB,Bu,Ay]at h4;obtain⟨⟨⟨⟨k1,k2⟩,k3⟩,k4⟩,⟨x0,hx0,hx0f⟩⟩:=h4;have Y:∀x∈lsc.names,x.2=.free->sc.names.lookup x.1=some .cell\/sc.names.lookup x.1=some .free:=λx hx hf=>by
  rcases k4 x hx with z|z
  . rw[hf]at z;cases z
  . exact z.2
 obtain⟨g,hg,fa,c,ob,fd,q1,q2,q3,q4,q5,q6⟩:=o.j ⟨_,hmd⟩ ⟨x0.1,hx0f⟩ h12;obtain⟨j,hj⟩:=qv htb hg;obtain⟨P,hPo,tr⟩:=hr.m j _ hj;obtain⟨ps,hP,tok,Z,fa',c',o',fd',w1,w2,w3,w4,w5⟩:=id tr;rw[q1]at w1;cases w1;rw[q2]at w2;cases w2;rw[q3]at w3;cases w3;rw[q4]at w4;cases w4;have hq:X.a.qual++("<lambda>":Str)=ba g:=by rw[q6];rfl
 have R:∀x,(x,AJ)∈lsc.names->∃b,X.a.cells.lookup x=some b:=λx hx=>I.C.p x (o.a.f x (Y _ hx rfl));refine L2.lb (P:=P) (ps:=ps) (c:=c) I rfl (iX λx hx hf=>R x.1 (by rw[<-hf];exact hx)) q5 (w5 _ I.kIn) hP tok (sd.a.bm _ I.C.i.a) (λcv hcv=>?_) λlf c2 ctv H' h' tk I' lamh ⟨nl,hsz,nf,cdr⟩ obj cr=>?_
 . obtain⟨b,ob',vb,tb,z1,_,z3,z4,z5⟩:=Z _ cv hcv
   exact⟨b,ob',vb,tb,z1,z3,z4,by rw[hq];exact z5⟩
 have S:L2.Wn H P ps p4 (ba g) c2 H':=by rw[<-hq];exact lamh
 obtain⟨U,X0⟩:=hr.lam hj hPo tr hP S;have W:∀b (u:Obj),s0.heap.get? b=some u->b≠lf:=λb u e z=>by rw[z]at e;exact absurd (Aw (Al e) hsz) (Bc _)
 obtain⟨oc,vs,t,z1,z2,z3⟩:=cdr;refine⟨.c lf,_,I'.Ws nl obj (As I.sz hsz) (λp hp=>W _ _ (I.P p hp).1) (λz=>?_) (λx b e z=>?_),rfl,wt lf _ (X0.trans U (Ext.new U nl _)) (U.more nl _) ⟨c2,ctv,L2.zK,nf,oc,vs,t,?_,z2,z3⟩⟩
 . obtain⟨mm,⟨oo,_,_,e,_⟩,_⟩:=I.O
   exact W _ _ e z
 . obtain⟨v,oo,e2,_⟩:=I.M x b e
   exact W _ _ e2 z
 . rw[L2.zG (L2.zN z1 nl)];exact z1
theorem qV.at(o:Ok T n sc N X)(l:qV X H lf body lsc)(h4:vY sc lsc=true)(I0:L2.Inv X pins0 σ H0 s0)(f0:∀b∈ex,L2.uc X pins0 H0 b)
 (I:L2.Inv (X.comp N' csc C s0 H0 ex) pins σ' H s1):∃c ctv,L2.oQ X.g s1.heap H lf c (X.a.qual++("<lambda>":Str)) body lsc (xy X.a.cells lsc.names []) ((X.d "__name__").getD .none) ctv N σ:=by
 obtain⟨c,ctv,h1,h2,h3⟩:=l;simp only[vY,cf,decide_eq_true_eq,AK,AB,Bu,Ay]at h4;obtain⟨⟨⟨⟨k1,k2⟩,k3⟩,k4⟩,_⟩:=h4;have Q:∀x∈lsc.names,x.2=.free->sc.names.lookup x.1=some .cell\/sc.names.lookup x.1=some .free:=λx hx hf=>by
  rcases k4 x hx with z|z
  . rw[hf]at z;cases z
  . exact z.2
 have S:∀x,(x,AJ)∈lsc.names->∃b,X.a.cells.lookup x=some b:=λx hx=>I0.C.p x (o.a.f x (Q _ hx rfl));have W:∀x b,(xy X.a.cells lsc.names []).lookup x=some b->(x,AJ)∈lsc.names/\X.a.cells.lookup x=some b:=λx b e=>by
  rcases sr (AV e) with z|⟨z1,z2⟩
  . cases z
  . obtain⟨b',P⟩:=S x z1
    rw[P]at z2;exact⟨z1,by rw[P,z2];rfl⟩
 have un:L2.Un (L2.frs X.g) ex H0 H s0.heap s1.heap:=I.j;have Z:∀x b,X.a.cells.lookup x=some b->b ∉ ex:=λx b e hb=>(f0 b hb).2.2.2.2.1 x b e rfl;have U:∀x b v,X.a.cells.lookup x=some b->s0.heap.IsCell b v->s1.heap.IsCell b v:=λx b v hx ⟨ob,e,d⟩=>by
  have n:=I0.G x b hx;by_cases f:b∈L2.frs X.g
  . obtain⟨sl,e1⟩:=un.i b ob e n f (Z x b hx)
    exact⟨_,e1,d⟩
  . exact⟨ob,un.f b ob e n f (Z x b hx),d⟩
 refine⟨c,ctv,(I.B lf _ h1).1,.inr h1,h2,h3,λx y b z1 z2=>I0.C.r x y b (W x b z1).2 (W y b z2).2,λx hx=>lookup_mem (w6 (AV hx)),λx b e=>?_,λi x v z1 z2 z3=>?_,by rw[<-o.a.a];exact I0.R,k1,k2,k3,λx hx=>?_⟩
 . obtain⟨y1,Y⟩:=W x b e
   obtain⟨v,z⟩:=I0.M x b Y;obtain⟨ob,eo,_⟩:=id z;exact⟨⟨v,U x b v Y z⟩,un.d b ob eo (I0.G x b Y) (Z x b Y)⟩
 . have hm3:=AV z3
   have hcl:=Q _ hm3 rfl;obtain⟨mm,hn,hl⟩:=I0.O;obtain⟨u,ru,lk⟩:=hl i x v (by rw[o.a.a];exact z1) z2 (o.a.c x (.inr hcl))
   rcases lk with⟨y,_⟩|⟨_,b,Y,y3⟩
   . rcases o.a.f x hcl with y'|y'
     . rw[y]at y';cases y'
     . rw[y]at y';cases y'
   . obtain⟨b',P⟩:=lookup_mem (w6 (cells:=X.a.cells) (acc:=[]) hm3)
     have:=(W x b' P).2;rw[Y]at this;cases this;exact⟨u,b,ru,P,U x b _ Y y3⟩
 . rcases k4 x hx with z|z
   . rw[z];exact⟨nofun,nofun⟩
   . rw[z.1];exact⟨nofun,nofun⟩
end M
end
section
namespace M
open PySem
def Ve(O:JE T n a):JE T n (.H a):=by intro sc N X e o h env s;replace h:=qI h;obtain⟨x,p,rfl,h⟩:=h;exact Vr (O _ _ _ _ o h env s)
def Vb(Q:JE T n a)(P:JE T n b):JE T n (.l op a b):=by intro sc N X e o h env s;replace h:=qH h;obtain⟨l,o1,r,p,rfl,h⟩:=h;simp only[cf,decide_eq_true_eq]at h;obtain⟨⟨⟨⟨k1,rfl⟩,h1⟩,S⟩,R⟩:=h;exact Wv (Q _ _ _ _ o h1 env s) (λs1=>P _ _ _ _ o S env s1) λta tb O x=>L2.mX (vR o.c op k1) O x (xA R)
def bA(P:JE T n a)(O:JE T n b)(x:JE T n c):JE T n (.u op op' a b c):=by intro sc N X e o h env s;replace h:=iu h;obtain⟨l,o1,Y,r,W,p,rfl,h⟩:=h;simp only[cf,decide_eq_true_eq]at h;obtain⟨⟨⟨⟨⟨⟨k1,rfl⟩,k2,rfl⟩,U⟩,S⟩,R⟩,Q⟩:=h;exact bI k1 k2 o.c (P _ _ _ _ o U env s) (λs1=>O _ _ _ _ o S env s1) (λs1=>x _ _ _ _ o R env s1) Q
def VZ(P:JE T n a)(R:JL T n es):JE T n (.w a es):=by
 intro sc N X e o h env s;replace h:=qG h;obtain⟨x,Q,pos,rfl,h⟩:=h;simp only[cf]at h;obtain⟨h1,O⟩:=h;cases es with
 |c=>
  cases A0.mp O;exact L2.jZ (P _ _ _ _ o h1 env s)
 |a b S=>
  cases Q with
  |nil=>cases O
  |cons y ys=>exact bG (P _ _ _ _ o h1 env s) λs1=>(R _ _ _ _ o O).2.1 y ys pos rfl env s1
def Vc(O:JC T n c)(Q:JE T n a)(P:JE T n b):JE T n (.G c a b):=by intro sc N X e o h env s;replace h:=cJ h;obtain⟨t,x,y,p,rfl,h⟩:=h;simp only[cf]at h;exact Vp (O _ _ _ _ o h.1.1 env s) (λs1=>Q _ _ _ _ o h.1.2 env s1) (λs1=>P _ _ _ _ o h.2 env s1)
def kf(S:ver<100)(h:T.e f ver=none)vs s:zC T n f ver vs s=.d:=by
 cases n with
 |zero=>rfl
 |succ n=>
  have h1:decide (ver=100)=false:=decide_eq_false ⋯
  have R:decide (ver=101)=false:=decide_eq_false ⋯
  have Q:decide (ver=200)=false:=decide_eq_false ⋯
  have P:decide (ver=300)=false:=decide_eq_false ⋯
  have O:decide (ver=301)=false:=decide_eq_false ⋯
  have N:decide (ver=102)=false:=decide_eq_false ⋯
  have x:decide (ver=302)=false:=decide_eq_false ⋯
  simp only[zC,h,h1,R,Q,P,O,N,x,Ct,Bool.or_self,Ba,if_false];cases lV vs<;>rfl
def YU(Z:JL T n es):JE T n (.h f ver es):=by
 intro sc N X e o h env s;replace h:(if ver<100 then ckA sc f (λR=>ckL sc N es R) e else if ver<200 then ckB sc N f ver es (λl ys=>ckL l N es ys) e else ckV sc N ver es (λl ys=>ckL l N es ys) e)=true:=h
 split at h
 . rename_i hver
   replace h:=yz h;obtain⟨x,p,R,pos,rfl,h⟩:=h;simp only[cf,decide_eq_true_eq,wM,AK]at h;obtain⟨⟨⟨⟨rfl,O⟩,Q⟩,P⟩,Y⟩:=h;show L2.PE X _ (tV X.K X.d env s ((zc (zC T n) T.b env es s).bind λvs s1=>zC T n x ver vs s1));cases hf:T.e x ver with
   |none=>
    refine zL λv s' e=>?_;cases hv:zc (zC T n) T.b env es s with
    |e vs s1=>rw[hv]at e;simp only[zV,kf hver hf]at e;cases e
    |g _ _ _=>rw[hv]at e;cases e
    |d=>rw[hv]at e;cases e
   |some F=>
    have C:=o.p x ver F hf;cases R with
    |nil=>
     cases es with
     |c=>exact bH C o.c (o.a.b x O) Q
     |a _ _=>cases P
    |cons y ys=>exact Yc C o.c (o.a.b x O) Q Y (by simp) ((Z _ _ _ _ o P).1 Y env s)
 . rename_i hver
   split at h
   . rename_i hver2
     replace h:=YH h;obtain⟨x,a,y,ys,lsc,p1,p2,p3,p4,p5,rfl,h⟩:=h;simp only[cf,decide_eq_true_eq,wM,AK]at h;obtain⟨⟨⟨⟨⟨⟨⟨⟨⟨⟨⟨⟨rfl,O⟩,Q⟩,P⟩,rfl⟩,h6⟩,h7⟩,h8⟩,h9⟩,W⟩,U⟩,S⟩,hg⟩:=h;by_cases hv102:ver=102
     . subst hv102
       cases hg
     rw[sdX,if_neg hv102]at O ⊢;exact Yg o hver hver2 hv102 O Q P h6 h7 h8 h9 W U S env s
   . exact absurd (zM (zM h).1).1 Ak
def dM(f:Bf):f.nm∈wR:=by cases f<;>decide
def Va(P:JL T n es):JE T n (.k f m es):=by
 intro sc N X e o h env s;replace h:=yz h;obtain⟨x,p,S,pos,rfl,h⟩:=h;replace h:=yR h;obtain⟨y,ys,rfl,h⟩:=h;simp only[cf,decide_eq_true_eq,wM]at h;obtain⟨⟨⟨⟨k1,rfl⟩,R⟩,Q⟩,O⟩:=h;rcases (Ay _ _).mp k1 with k1|k1
 . exact Vo k1 o.d o.c (o.a.b _ R) (o.g _ (dM f)) O ((P _ _ _ _ o Q).1 O env s)
 . unfold stF at k1
   split at k1
   . exact zL (zH rfl)
   . cases k1
def YW(R:JE T n a)(P:JL T n es):JE T n (.M f m a es):=by intro sc N X e o h env s;replace h:=iy h;obtain⟨ob,x,ap,y,cp,rfl,h⟩:=h;simp only[cf,decide_eq_true_eq]at h;obtain⟨⟨⟨⟨⟨⟨rfl,h1⟩,Y⟩,O⟩,W⟩,U⟩,S⟩:=h;obtain⟨b,rfl,Q⟩:=(P _ _ _ _ o Y).2.2.2 y rfl O;exact bL S W O U (R _ _ _ _ o h1 env s) λs1=>Q env s1
def Sb(O:JE T n a)(j1:JO T n lo)(j2:JO T n hi)(j3:JO T n st):JE T n (.I m a lo hi st):=by
 intro sc N X e o h env s;replace h:=YG h;obtain⟨l1,Y,W,U,p1,p2,rfl,h⟩:=h;simp only[cf]at h;obtain⟨⟨⟨h1,R⟩,Q⟩,P⟩:=h;obtain⟨p3,x⟩:=j3 _ _ _ _ o P;refine Si (O _ _ _ _ o h1 env s) (λs1=>(j1 _ _ _ _ o R).1 env s1) (λs1=>(j2 _ _ _ _ o Q).1 env s1) (λs1=>p3 env s1) ?_;rcases x with⟨e1,e2⟩|⟨S,e1,e2⟩
 . exact .inl ⟨e1,λs1=>e2 env s1⟩
 . exact .inr ⟨S,e1,λs1 s2=>e2 env s1 s2⟩
def YV(Y:JE T n elt)(W:JI T n it)(Z:JCs T n ifs):JE T n (.p m N' fr elt t it ifs):=by
 intro sc N X e o h env s;replace h:=tu h;obtain⟨x,tg,iter,fs,csc,cpos,rfl,h⟩:=h;simp only[cf,decide_eq_true_eq]at h;obtain⟨⟨⟨⟨⟨⟨h1,h2⟩,P⟩,h4⟩,h5⟩,h6⟩,h7⟩:=h;have S:=iZ o.a h1;have oc:=o.comp S h2 h1;obtain⟨g,pg,U⟩:∃g,(∀C O H0 ex,L2.PG (X.comp N' csc C O H0 ex) tg g)/\oB X.K X.d t g:=by
  cases t with
  |a i=>
   cases tg with
   |Name y p=>
    simp only[ckT,cf,Ay,decide_eq_true_eq]at P;exact⟨_,λC O H0 ex=>nH (oc C O H0 ex).a P.1 P.2,m9⟩
   |_=>cases P
  |b is=>
   cases tg with
   |Tuple es k p=>
    simp only[ckT,cf,decide_eq_true_eq]at P;refine⟨_,λC O H0 ex=>?_,uK (is:=is)⟩;obtain⟨a,b,c⟩:=xp (oc C O H0 ex).a P.1;exact L2.rK (X:=X.comp N' csc C O H0 ex) o.d a b c
   |_=>cases P
 have R:L2.PE X (.ListComp x [⟨tg,iter,fs,0⟩] csc cpos) (L2.uk fr (uI X.K X.d (zC T n) T.b it) g (uTs X.K X.d (zC T n) T.b ifs) λacc=>L2.rh acc (uE X.K X.d (zC T n) T.b elt)):=
  L2.qQ o.d S (Up λenv s=>W _ _ _ _ _ o h4 env s) pg (λC O H0 ex=>(Z _ _ _ _ (oc C O H0 ex) h5).2.2) (λC O H0 ex=>XE (X:=X.comp N' csc C O H0 ex) λenv s=>Y _ _ _ _ (oc C O H0 ex) h6 env s) (yo h7)
 refine zX R λσ H Q hq=>oZ (env:=env) (s:=s) (chk:=false) (m:=m) (body:=sW (zC T n) T.b elt ifs) U rk (λacc ρ0 H0 hn=>kS hn) ?_ λ_ r s1 p s2 hl=>?_
 . simp only[Ba,false_implies,if_true];exact hq
 . have:=rQ hl
   simpa using this
def Vh:JL T n .c:=by intro sc N X es o h;cases A0.mp h;exact⟨λ_ env s=>hX,⟨λe x pos z=>(nomatch z),⟨λe x pos z=>(nomatch z),λy z=>(nomatch z)⟩⟩⟩
def YX(x:JE T n a)(R:JL T n as):JL T n (.a a as):=by
 intro sc N X es o h;replace h:=yR h;obtain⟨e,es,rfl,h⟩:=h;simp only[cf]at h;obtain⟨h1,O⟩:=h;obtain⟨l1,l2,l3,U⟩:=R _ _ _ _ o O;refine⟨λhp env s=>?_,λS P pos z env s=>?_,λS P pos z env s=>?_,λy z hp=>?_⟩
 . rw[ze,cf]at hp
   exact la hp.1 (x _ _ _ _ o h1 env s) λs1=>l1 hp.2 env s1
 . cases as with
   |c=>
    cases A0.mp O;exact L2.jZ (x _ _ _ _ o h1 env s)
   |a b Q=>
    cases es with
    |nil=>cases O
    |cons y ys=>exact bG (x _ _ _ _ o h1 env s) λs1=>l2 y ys pos rfl env s1
 . cases as with
   |c=>
    cases A0.mp O;exact L2.jZ (x _ _ _ _ o h1 env s)
   |a b Q=>
    cases es with
    |nil=>cases O
    |cons y ys=>exact Sh (x _ _ _ _ o h1 env s) λs1=>l3 y ys pos rfl env s1
 . cases z
   cases as with
   |c=>exact⟨a,rfl,λenv s=>x _ _ _ _ o h1 env s⟩
   |a _ _=>cases O
def Se:JO T n .b:=by intro sc N X e o h;cases BW.mp h;exact⟨λenv s=>Sk,.inl ⟨rfl,λenv s1=>rfl⟩⟩
def Vi(O:JE T n a):JO T n (.a a):=by
 intro sc N X e o h;replace h:=tF h;obtain⟨e1,rfl,h⟩:=h;refine⟨λenv s=>Vt (O _ _ _ _ o h env s),.inr ⟨_,rfl,λenv s1 s2 z=>?_⟩⟩;have x:((evE (zC T n) T.b env a s1).bind λv s1=>match v with|.c i=>.e (some i) s1|_=>.d)=.e none s2:=z
 cases hv:evE (zC T n) T.b env a s1 with
 |e v P=>rw[hv]at x;cases v<;>cases x
 |g _ _ _=>rw[hv]at x;cases x
 |d=>rw[hv]at x;cases x
def VY(x:JC T n c):JC T n (.d c):=by intro sc N X e o h env s;replace h:=qI h;obtain⟨O,p1,rfl,h⟩:=h;exact Vx (x _ _ _ _ o h env s)
def VX(P:JC T n c)(x:JCs T n cs):JC T n (.b c cs):=by intro sc N X e o h env s;replace h:=qG h;obtain⟨Q,O,p1,rfl,h⟩:=h;simp only[cf]at h;exact(bR (P _ _ _ _ o h.1 env s) λs1=>(x _ _ _ _ o h.2).1 _ env s1).pt
def Sa(P:JC T n c)(x:JCs T n cs):JC T n (.f c cs):=by intro sc N X e o h env s;replace h:=qG h;obtain⟨Q,O,p1,rfl,h⟩:=h;simp only[cf]at h;exact(WK (P _ _ _ _ o h.1 env s) λs1=>(x _ _ _ _ o h.2).2.1 _ env s1).pt
def YT:JCs T n .a:=by intro sc N X es o h;cases A0.mp h;exact⟨λpos env s=>k9,λpos env s=>fE,.b⟩
def c8(O:JC T n c)(x:JCs T n cs):JCs T n (.b c cs):=by intro sc N X es o h;replace h:=yR h;obtain⟨e1,P,rfl,h⟩:=h;simp only[cf]at h;obtain⟨a,b,d⟩:=x _ _ _ _ o h.2;exact⟨λpos env s=>bR (O _ _ _ _ o h.1 env s) λs1=>a pos env s1,λpos env s=>WK (O _ _ _ _ o h.1 env s) λs1=>b pos env s1,.a (Qe λenv s=>O _ _ _ _ o h.1 env s) d⟩
def Vg(x:JE T n a):JI T n (.f a):=λsc N X e tg o h env s=>Vs (x _ _ _ _ o h env s)
def fB(O:JE T n a):JI T n (.d a):=by intro sc N X e tg o h env s;replace h:=yz h;obtain⟨S,p1,x,p2,rfl,h⟩:=h;replace h:=yc h;obtain⟨R,rfl,h⟩:=h;simp only[cf,decide_eq_true_eq,wM]at h;obtain⟨⟨⟨rfl,h1⟩,Q⟩,P⟩:=h;exact fD P (o.a.b _ h1) (o.g _ (by decide)) (O _ _ _ _ o Q env s)
section
variable (T:Tbl)(n:Nat)
mutual
theorem jE:∀a:Ex,JE T n a
 |.g _=>bJ
 |.e _=>bM
 |.E _=>WJ
 |.L _ _=>Sj
 |.j _ _ a b=>c9 (jE a) (jE b)
 |.A a=>bB (jE a)
 |.H a=>Ve (jE a)
 |.l _ a b=>Vb (jE a) (jE b)
 |.u _ _ a b c=>bA (jE a) (jE b) (jE c)
 |.w a es=>VZ (jE a) (jL es)
 |.J _ _=>λsc N X e o h=>by cases h
 |.G c a b=>Vc (jC c) (jE a) (jE b)
 |.r es=>Vf (jL es)
 |.y _ es=>Vd (jL es)
 |.C=>Yd
 |.D _=>Ye
 |.K _ _=>λsc N X e o h=>by cases h
 |.B _=>λsc N X e o h env s=>zL (zH rfl)
 |.h _ _ es=>YU (jL es)
 |.k _ _ es=>Va (jL es)
 |.F _ _=>λsc N X e o h=>by cases h
 |.M _ _ a es=>YW (jE a) (jL es)
 |.s a b=>WI (jE a) (jE b)
 |.I _ a lo hi st=>Sb (jE a) (jO lo) (jO hi) (jO st)
 |.p _ _ _ elt _ it ifs=>YV (jE elt) (jI it) (jCs ifs)
 |.z _ _ _ _ _ _ _ _ _ _=>λsc N X e o h=>by cases h
 |.q _ _ _ _=>λsc N X e o h=>by cases h
theorem jL:∀a:Exs,JL T n a
 |.c=>Vh
 |.a a as=>YX (jE a) (jL as)
theorem jO:∀a:OEx,JO T n a
 |.b=>Se
 |.a a=>Vi (jE a)
theorem jC:∀a:Cn,JC T n a
 |.a (.l _ a b)=>Vn (jE a) (jE b)
 |.a (.u _ _ a b c)=>bF (jE a) (jE b) (jE c)
 |.a (.g v)=>z8 (jE (.g v)) rfl
 |.a (.e v)=>z8 (jE (.e v)) rfl
 |.a (.E v)=>z8 (jE (.E v)) rfl
 |.a (.L v w)=>z8 (jE (.L v w)) rfl
 |.a (.j m o a b)=>z8 (jE (.j m o a b)) rfl
 |.a (.A a)=>z8 (jE (.A a)) rfl
 |.a (.H a)=>z8 (jE (.H a)) rfl
 |.a (.w a b)=>z8 (jE (.w a b)) rfl
 |.a (.J a b)=>z8 (jE (.J a b)) rfl
 |.a (.G a b c)=>z8 (jE (.G a b c)) rfl
 |.a (.r a)=>z8 (jE (.r a)) rfl
 |.a (.y m a)=>z8 (jE (.y m a)) rfl
 |.a .C=>z8 (jE .C) rfl
 |.a (.D t)=>z8 (jE (.D t)) rfl
 |.a (.K a b)=>z8 (jE (.K a b)) rfl
 |.a (.B a)=>z8 (jE (.B a)) rfl
 |.a (.h a b c)=>z8 (jE (.h a b c)) rfl
 |.a (.k a b c)=>z8 (jE (.k a b c)) rfl
 |.a (.F a b)=>z8 (jE (.F a b)) rfl
 |.a (.M a b c d)=>z8 (jE (.M a b c d)) rfl
 |.a (.s a b)=>z8 (jE (.s a b)) rfl
 |.a (.I a b c d e)=>z8 (jE (.I a b c d e)) rfl
 |.a (.p a b c d e f g)=>z8 (jE (.p a b c d e f g)) rfl
 |.a (.z a b c d e f g h i j)=>z8 (jE (.z a b c d e f g h i j)) rfl
 |.a (.q a b c d)=>z8 (jE (.q a b c d)) rfl
 |.d c=>VY (jC c)
 |.b c cs=>VX (jC c) (jCs cs)
 |.f c cs=>Sa (jC c) (jCs cs)
theorem jCs:∀a:Cns,JCs T n a
 |.a=>YT
 |.b c cs=>c8 (jC c) (jCs cs)
theorem jI:∀a:Itb,JI T n a
 |.f a=>Vg (jE a)
 |.d a=>fB (jE a)
 |.g _ _=>λsc N X e tg o h=>by cases h
 |.i _=>λsc N X e tg o h=>by cases h
 |.h _ _ _=>λsc N X e tg o h=>by cases h
 |.j _ _=>λsc N X e tg o h=>by cases h
end
end
section
variable (K:KF)(mg:Str->Option Value)
def ui(ρ:Own)(H:L2.Hp)(o:Out Fl)(D:L2.Ends):Prop:=
 match o with
 |.e (.a e) s'=>∀ρ' H' N,Ext ρ H ρ' H'->HR K mg ρ' s' H'->ER K mg ρ' H' e N->D.a N H'
 |.e (.c e) s'=>∀ρ' H' N,Ext ρ H ρ' H'->HR K mg ρ' s' H'->ER K mg ρ' H' e N->D.c N H'
 |.e (.d e) s'=>∀ρ' H' N,Ext ρ H ρ' H'->HR K mg ρ' s' H'->ER K mg ρ' H' e N->D.d N H'
 |.e (.b v) s'=>∀ρ' H' x,Ext ρ H ρ' H'->HR K mg ρ' s' H'->RD K mg ρ' H' v x->D.b x H'
 |_=>False
def tSt(env:Env)(s:Sto)(o:Out Fl):L2.TS:=λD σ H=>∃ρ,HR K mg ρ s H/\ER K mg ρ H env σ/\ui K mg ρ H o D
end
def ui.mono(w:ui K mg ρ H o D)(x:Ext ρ H ρ' H')(h:HR K mg ρ' s1 H'):ui K mg ρ' H' o D:=by
 cases o with
 |e fl s'=>
  cases fl with
  |a e=>exact λρ2 H2 N O Q P=>w ρ2 H2 N (x.trans h O) Q P
  |c e=>exact λρ2 H2 N O Q P=>w ρ2 H2 N (x.trans h O) Q P
  |d e=>exact λρ2 H2 N O Q P=>w ρ2 H2 N (x.trans h O) Q P
  |b v=>exact λρ2 H2 y O Q P=>w ρ2 H2 y (x.trans h O) Q P
 |g _ _ _=>exact w
 |d=>exact w
noncomputable def uW:Expr->Bool
 |.ListComp ..|.SetComp ..|.DictComp ..=>false
 |_=>true
def uH(h:uW e=true):Eu e t l env=pure false:=by cases e<;>first|rfl|cases h
def ub:Eg [.Tuple ts k p] e l env=pure false:=by cases e<;>rfl
def eL:Eg [.Subscript o i p] e l env=pure false:=by cases e<;>rfl
noncomputable def notTuple:Expr->Bool
 |.Tuple ..=>false
 |_=>true
def j4(h:notTuple e=true):BZ [.Tuple ts k p] e env=pure none:=by
 cases e<;>first|(cases h;done)|rfl
def kM:BZ [.Subscript o i p] e env=pure none:=by cases e<;>rfl
noncomputable def Wd(sc:Scope)(ts vs:List Expr):Bool:=
 match ts with
 |[.Name x px,.Name y py]=>decide (sc.names.lookup x=some .local)&&decide (sc.names.lookup y=some .local)&&(px.line == py.line)&&decide (x≠y)&&!(vs.all (Fq 8))&&!(vs.all (E1 8))
 |[.Name x px,.Name y py,.Name z pz]=>decide (sc.names.lookup x=some .local)&&decide (sc.names.lookup y=some .local)&&decide (sc.names.lookup z=some .local)&&(px.line == py.line)&&(px.line == pz.line)&&decide (x≠y)&&decide (x≠z)&&decide (y≠z)&&!(vs.all (Fq 8))&&!(vs.all (E1 8))
 |_=>false
noncomputable def Wk(sc:Scope)(ts:List Expr):Bool:=ts.any (λ|.Name x _=>decide (sc.names.lookup x≠some .local)|_=>false)||decide (3<ts.length)
def pI{vs:List Expr}(h:ze vs=true):(vs.any λ|.Starred ..=>true|_=>false)=false:=by
 induction vs with
 |nil=>rfl
 |cons v vs x=>
  rw[ze,cf]at h;rw[List.any_cons,x h.2];cases v<;>first|rfl|(have z:=h.1;cases z)
def kO(U:env.blockKind=.function)(hx:env.kindOf x=some .local)(R:env.kindOf y=some .local)(Q:(px.line == py.line)=true)(P:x≠y)(hp:ze [a,b]=true)
 (hf:[a,b].all (Fq 8)=false) (S:[a,b].all (E1 8)=false):BZ [.Tuple [.Name x px,.Name y py] kt pt] (.Tuple [a,b] k2 pt2) env=pure (some [x,y]):=by
 have hs:=pI hp;have O:(py.line == px.line)=true:=by rw[beq_iff_eq]at Q ⊢;exact Q.symm
 unfold BZ;have e1:([x,y].eraseDups.length != [x,y].length)=false:=by
  have:(y == x)=false:=by simpa using A6 P
  simp[List.eraseDups_cons,this]
 simp only[AH,BV,U,hf,hs,S,hx,R,O,List.head?_cons,C9,Option.getD_some,A3,List.filterMap_nil,beq_self_eq_true,Fs,if_true];have N:(Ew x px).pos.line=px.line:=rfl;refine(if_neg (by decide)).trans ((if_neg (λz=>Ak (hs.symm.trans z))).trans ?_)
 simp only[N,beq_self_eq_true,O,Fs,if_true,e1,AH,BV,bne_self_eq_false,Bool.or_self,Ba,if_false];exact if_neg (λz=>Ak (e1.symm.trans (by rw[Ft]at z;exact z)))
def oK(hb:env.blockKind=.function)(hx:env.kindOf x=some .local)(Y:env.kindOf y=some .local)(hz:env.kindOf z=some .local)(W:(px.line == py.line)=true)(R:(px.line == pz.line)=true)
 (U:x≠y) (Q:x≠z) (P:y≠z) (hp:ze [a,b,c]=true) (hf:[a,b,c].all (Fq 8)=false) (Z:[a,b,c].all (E1 8)=false):BZ [.Tuple [.Name x px,.Name y py,.Name z pz] kt pt] (.Tuple [a,b,c] k2 pt2) env=pure (some [x,y,z]):=by
 have hs:=pI hp;have S:(py.line == px.line)=true:=by rw[beq_iff_eq]at W ⊢;exact W.symm
 have N:(pz.line == px.line)=true:=by rw[beq_iff_eq]at R ⊢;exact R.symm
 unfold BZ;have e1:([x,y,z].eraseDups.length != [x,y,z].length)=false:=by
  have h1:(y == x)=false:=by simpa using A6 U
  have h2:(z == x)=false:=by simpa using A6 Q
  have h3:(z == y)=false:=by simpa using A6 P
  simp[List.eraseDups_cons,h1,h2,h3]
 simp only[AH,BV,hb,hf,hs,Z,hx,Y,hz,S,N,List.head?_cons,C9,Option.getD_some,A3,List.filterMap_nil,beq_self_eq_true,Fs,if_true];have O:(Ew x px).pos.line=px.line:=rfl;refine(if_neg (by decide)).trans ((if_neg (λz=>Ak (hs.symm.trans z))).trans ?_)
 simp only[O,beq_self_eq_true,S,N,Fs,if_true,e1,AH,BV,bne_self_eq_false,Bool.or_self,Ba,if_false];exact if_neg (λz=>Ak (e1.symm.trans (by rw[Ft]at z;exact z)))
theorem tw{x N:Type}{f:x->Option N}:∀{l:List x},(∃a∈l,f a=none)->(l.filterMap f).length<l.length
 |[],⟨a,h,_⟩=>by cases h
 |b::l,⟨a,h,e⟩=>by
  rw[A3];have O:=DR f l;rcases Ap.mp h with z|z
  . subst z;rw[e];simp only[AH];omega
  . have:=tw ⟨a,z,e⟩
    cases f b with
    |none=>simp only[AH];omega
    |some _=>simp only[AH];omega
def eP(h:(∃x p,Ew x p∈ts/\env.kindOf x≠some .local)\/3<ts.length):BZ [.Tuple ts kt pt] (.Tuple vs k2 pt2) env=pure none:=by
 unfold BZ;simp only[];split
 . rfl
 . rename_i h1
   split
   . rfl
   . rw[if_pos]
     rcases h with⟨x,p,N,hk⟩|h
     . rw[Ay]
       left;rw[bne_iff_ne];refine AL (tw ⟨_,N,?_⟩);have:(env.kindOf x == some .local)=false:=by simpa using hk
       simp only[this,Ct,Ba,if_false]
     . exfalso
       apply h1;have:(ts.length == 2||ts.length == 3)=false:=by rw[ES];constructor<;>(rw[beq_eq_false_iff_ne];omega)
       rw[this];rfl
def jz(h:plain i=true)v:assign (.Subscript o i p) env v=(do
 let x <-holding [v] (eval o env);let N <-holding [v,x] (eval i env)
 standAt p
 holding [v,x,N] (setItem x N v)
 release [v,x,N] []):=by
 cases i<;>first|rfl|cases h
section
variable {X:L2.Cx}{env:Env}{s:Sto}
def xF{t:L2.TS}(h:∀D σ H,¬t D σ H):L2.PS X st t:=λpins s σ H D I q=>(h D σ H q).elim
def TK(h:∀v s',o≠.e v s'):¬tSt X.K X.d env s o D σ H:=by
 rintro ⟨ρ,_,_,w⟩;cases o with
 |e v s'=>exact h v s' rfl
 |g _ _ _=>exact w
 |d=>exact w
def zQ(h:∀v s',o≠.e v s'):L2.PS X st (tSt X.K X.d env s o):=xF λ_ _ _=>TK h
def Yh(P:uW e=true)(h:L2.PE X e (tV X.K X.d env s o)):L2.PS X (.Expr e pos) (tSt X.K X.d env s (o.bind λ_ s1=>.e (.a env) s1)):=by
 cases o with
 |e v s1=>exact yT (L2.sM h (uH P)) λD σ H ⟨ρ,hr,er,w⟩=>⟨ρ,hr,er,λρ1 x H1 O N r1=>w ρ1 H1 σ O N (er.mono O)⟩
 |g _ _ _=>exact zQ (zH rfl)
 |d=>exact zQ (zH rfl)
def Vv(h:L2.PE X e (tV X.K X.d env s o)):L2.PS X (.Return (some e) pos) (tSt X.K X.d env s (o.bind λv s1=>.e (.b v) s1)):=by
 cases o with
 |e v s1=>exact yT (L2.wm h) λD σ H ⟨ρ,hr,er,w⟩=>⟨ρ,hr,er,λρ1 x H1 O N r1=>w ρ1 H1 x O N r1⟩
 |g _ _ _=>exact zQ (zH rfl)
 |d=>exact zQ (zH rfl)
def bN(N:L2.PS X st (L2.sV te (L2.wH i)))(h:∀σ H Q,tV X.K X.d env s o σ H Q->te σ H Q):L2.PS X st (tSt X.K X.d env s (o.bind λv s1=>.e (.a (env.set i (some v))) s1)):=by
 cases o with
 |e v s1=>exact yT N λD σ H ⟨ρ,hr,er,w⟩=>h _ _ _ ⟨ρ,hr,er,λρ1 x H1 P O r1=>w ρ1 H1 _ P O ((er.mono P).set i r1)⟩
 |g _ _ _=>exact zQ (zH rfl)
 |d=>exact zQ (zH rfl)
def gA{t:Tgt}{g:L2.TG}{o:Out Val}{st:Stmt}{te:L2.TE}(TG:oB X.K X.d t g)(N:L2.PS X st (L2.sV te g))(h:∀σ H Q,tV X.K X.d env s o σ H Q->te σ H Q) :
 L2.PS X st (tSt X.K X.d env s (o.bind λv s1=>match yk t v env with|some env'=>.e (.a env') s1|dS=>.d)):=by
 cases o with
 |e v s1=>
  show L2.PS X st (tSt X.K X.d env s (match yk t v env with|some env'=>.e (.a env') s1|dS=>.d))
  cases hb:yk t v env with
  |none=>exact zQ (zH rfl)
  |some env'=>exact yT N λD σ H ⟨ρ,hr,er,w⟩=>h _ _ _ ⟨ρ,hr,er,λρ1 x H1 S O r1=>TG ρ1 s1 H1 v x env env' σ _ O r1 (er.mono S) hb λP R=>w ρ1 H1 P S O R⟩
 |g _ _ _=>exact zQ (zH rfl)
 |d=>exact zQ (zH rfl)
def bO{a i e:Expr}{o:Out Val}{f2 f3:Sto->Out Val}{p pos:Pos}(hi0:plain i=true)(h1:L2.PE X e (tV X.K X.d env s o))(h2:∀s1,L2.PE X a (tV X.K X.d env s1 (f2 s1)))(h3:∀s1,L2.PE X i (tV X.K X.d env s1 (f3 s1))) :
 L2.PS X (.Assign [.Subscript a i p] e pos) (tSt X.K X.d env s (o.bind λv s1=>(f2 s1).bind λx s2=>(f3 s2).bind λy U=>match x,y with
  |.m r,.c k=>(match U[r]? with
   |some (.c vs)=>(match L2.ixN vs.length k with|some j=>.e (.a env) (upd U r (vs.set j v))|dS=>.d)
   |_=>.d)
  |_,_=>.d)):=by
 cases o with
 |e v s1=>
  have S:=h2 s1;simp only[zV];cases hb:f2 s1 with
  |e x s2=>
   rw[hb]at S;have R:=h3 s2;simp only[zV];cases hc:f3 s2 with
   |e y U=>
    rw[hc]at R;simp only[zV];have O:L2.PS X (.Assign [.Subscript a i p] e pos) (L2.sV _ (L2.SN _ _ L2.WX)):=L2.jh h1 (L2.Uo S R L2.set_list (jz hi0)) eL kM;cases x with
    |m r=>
     cases y with
     |c k=>
      simp only[];cases hs:U[r]? with
      |none=>exact zQ (zH rfl)
      |some cl=>
       cases cl with
       |e _=>exact zQ (zH rfl)
       |f _=>exact zQ (zH rfl)
       |d _=>exact zQ (zH rfl)
       |c vs=>
        simp only[];cases hj:L2.ixN vs.length k with
        |none=>exact zQ (zH rfl)
        |some j=>
         refine yT O λD σ H ⟨ρ,hr,er,w⟩=>⟨ρ,hr,er,λρ1 xv H1 x1 Q r1=>⟨ρ1,Q,er.mono x1,λρ2 xo H2 Z P r2=>⟨ρ2,P,(er.mono x1).mono Z,λW xi H3 Y N r3=>?_⟩⟩⟩;cases r3;have r2':=r2.mono Y;cases r2' with
         |C e0 _=>
          obtain⟨b',xs,e1,e2,q⟩:=N.obj r _ hs;rw[e0]at e1;cases e1;have xx:=(x1.trans Q Z).trans P Y;refine⟨_,xs,k,j,rfl,rfl,e2,by rw[<-q.length];exact hj,?_⟩
          exact w W _ σ (xx.trans N (Ext.write N e0 e2 _)) (N.write e0 e2 (RDs.set ((r1.mono Z).mono Y) j q)) ((er.mono xx).mono (Ext.write N e0 e2 _))
     |_=>exact zQ (zH rfl)
    |_=>exact zQ (zH rfl)
   |g _ _ _=>exact zQ (zH rfl)
   |d=>exact zQ (zH rfl)
  |g _ _ _=>exact zQ (zH rfl)
  |d=>exact zQ (zH rfl)
 |g _ _ _=>exact zQ (zH rfl)
 |d=>exact zQ (zH rfl)
end
section
variable {X:L2.Cx}{env:Env}{s:Sto}
def Yi(N:L2.PS X st (L2.QA i j ta))(h:∀σ H Q,tVs X.K X.d env s o σ H Q->ta σ H Q) :
 L2.PS X st (tSt X.K X.d env s (o.bind λvs s1=>if vs.length=[i,j].length then .e (.a (([i,j].zip vs).foldl (λe p=>e.set p.1 (some p.2)) env)) s1 else .d)):=by
 cases o with
 |e vs s1=>
  show L2.PS X st (tSt X.K X.d env s (if vs.length=[i,j].length then .e (.a (([i,j].zip vs).foldl (λe p=>e.set p.1 (some p.2)) env)) s1 else .d))
  match vs with
  |[v,w]=>
   refine yT N λD σ H ⟨ρ,hr,er,wt⟩=>h _ _ _ ⟨ρ,hr,er,λρ1 U H1 P O r1=>?_⟩;obtain⟨x,y,rfl,S,R⟩:=ft r1;exact⟨x,y,rfl,wt ρ1 H1 _ P O (((er.mono P).set i S).set j R)⟩
  |[]=>exact zQ (zH rfl)
  |[_]=>exact zQ (zH rfl)
  |_::_::_::r=>exact zQ (λ_ _ e=>by simp at e)
 |g _ _ _=>exact zQ (zH rfl)
 |d=>exact zQ (zH rfl)
def Ql(r:RDs K mg ρ H [v,w,z] xs):∃x y t,xs=[x,y,t]/\RD K mg ρ H v x/\RD K mg ρ H w y/\RD K mg ρ H z t:=by
 cases r with
 |a r1 P=>
  obtain⟨y,t,rfl,O,N⟩:=ft P;exact⟨_,_,_,rfl,r1,O,N⟩
def Yj(N:L2.PS X st (L2.Wh i j k ta))(h:∀σ H Q,tVs X.K X.d env s o σ H Q->ta σ H Q) :
 L2.PS X st (tSt X.K X.d env s (o.bind λvs s1=>if vs.length=[i,j,k].length then .e (.a (([i,j,k].zip vs).foldl (λe p=>e.set p.1 (some p.2)) env)) s1 else .d)):=by
 cases o with
 |e vs s1=>
  show L2.PS X st (tSt X.K X.d env s (if vs.length=[i,j,k].length then .e (.a (([i,j,k].zip vs).foldl (λe p=>e.set p.1 (some p.2)) env)) s1 else .d))
  match vs with
  |[v,w,z]=>
   refine yT N λD σ H ⟨ρ,hr,er,wt⟩=>h _ _ _ ⟨ρ,hr,er,λρ1 W H1 P O r1=>?_⟩;obtain⟨x,y,t,rfl,S,R,U⟩:=Ql r1;exact⟨x,y,t,rfl,wt ρ1 H1 _ P O ((((er.mono P).set i S).set j R).set k U)⟩
  |[]=>exact zQ (zH rfl)
  |[_]=>exact zQ (zH rfl)
  |[_,_]=>exact zQ (zH rfl)
  |_::_::_::_::r=>exact zQ (λ_ _ e=>by simp at e)
 |g _ _ _=>exact zQ (zH rfl)
 |d=>exact zQ (zH rfl)
def uSs(K:KF)(mg:Str->Option Value)(Φ:Calls)(G:Str->Option Val)(b:Sms):L2.TS:=λD σ H=>∃env s,tSt K mg env s (zU Φ G env b s) D σ H
def So{f2 f3:Sto->Out Fl}(S:L2.PT X c (tT X.K X.d env s o))(W:L2.PSs X a ta)(U:L2.PSs X b tb)(R:∀s1 D σ H,tSt X.K X.d env s1 (f2 s1) D σ H->ta D σ H)(Q:∀s1 D σ H,tSt X.K X.d env s1 (f3 s1) D σ H->tb D σ H) :
 L2.PS X (.If c a b pos) (tSt X.K X.d env s (o.bind λt s1=>if t then f2 s1 else f3 s1)):=by
 cases o with
 |e v s1=>
  refine yT (L2.nJ S W U) λD σ H ⟨ρ,hr,er,wt⟩=>⟨ρ,hr,er,λρ1 x H1 P N r1=>?_⟩;have O:=wt.mono P N;cases r1;cases v with
  |true=>exact L2.r8 (R s1 D σ H1 ⟨ρ1,N,er.mono P,O⟩)
  |false=>exact L2.sD (Q s1 D σ H1 ⟨ρ1,N,er.mono P,O⟩)
 |g _ _ _=>exact zQ (zH rfl)
 |d=>exact zQ (zH rfl)
def cU{body:Env->Sto->Out Fl}{tb:L2.TS}(W:Walk K mg ρ H r J)(TG:oB K mg t g)(hb:∀env s D σ H,tSt K mg env s (body env s) D σ H->tb D σ H)
 (hr:HR K mg ρ s H) (er:ER K mg ρ H env σ) (w:ui K mg ρ H (vf r t body r.a env s) D):L2.kF J g tb D σ H:=by
 refine qo (n:=r.a.length) (λi S H2=>∃ρ2 s2 P,HR K mg ρ2 s2 H2/\ER K mg ρ2 H2 P S/\Ext ρ H ρ2 H2/\vf r t body (r.a.drop i) P s2=vf r t body r.a env s) ⟨ρ,s,env,hr,er,Ext.refl,by rw[Dp]⟩ ?_ ?_
 . rintro S H2 ⟨ρ2,s2,P,O,er2,x2,N⟩
   rw[F5,vf]at N;split at N
   . rename_i ho
     rw[<-N]at w;exact⟨W.a ρ2 H2 s2 _ x2.mv O ho rfl,w ρ2 H2 S x2 O er2⟩
   . rw[<-N]at w;exact w.elim
 . rintro i S H2 hi ⟨ρ2,s2,P,O,er2,x2,N⟩
   rw[DM hi,vf]at N;split at N
   . rename_i ho
     obtain⟨hgo,hy⟩:=W.c ρ2 H2 s2 i (r.a[i]) x2.mv O ho (Ab hi);refine⟨hgo,λx H3 y=>?_⟩;obtain⟨hH,rx⟩:=hy x H3 y;split at N
     . rw[<-N]at w;exact w.elim
     . rename_i env' he
       have Y:HR K mg ρ2 s2 H3/\Ext ρ2 H2 ρ2 H3:=by
        rcases hH with e|⟨q,o,hq,e⟩
        . subst e;exact⟨O,Ext.refl⟩
        . subst e;exact⟨O.more hq o,Ext.new O hq o⟩
       have x3:=x2.trans O Y.2;refine TG ρ2 s2 H3 _ x P env' S _ Y.1 rx (er2.mono Y.2) he λσ4 er4=>hb env' s2 _ σ4 H3 ⟨ρ2,Y.1,er4,?_⟩;cases hc:body env' s2 with
       |e fl s5=>
        rw[hc]at N;simp only[zV]at N;cases fl with
        |a e=>exact λQ H5 Z x5 R U=>⟨Q,s5,e,R,U,x3.trans Y.1 x5,N⟩
        |d e=>exact λQ H5 Z x5 R U=>⟨Q,s5,e,R,U,x3.trans Y.1 x5,N⟩
        |c e=>
         simp only[]at N;rw[<-N]at w;exact λQ H5 Z x5 R U=>w Q H5 Z (x3.trans Y.1 x5) R U
        |b v=>
         simp only[]at N;rw[<-N]at w;exact λQ H5 y5 x5 R r5=>w Q H5 y5 (x3.trans Y.1 x5) R r5
       |g _ _ _=>rw[hc]at N;simp only[dR]at N;rw[<-N]at w;exact w.elim
       |d=>rw[hc]at N;simp only[qX]at N;rw[<-N]at w;exact w.elim
   . rw[<-N]at w;exact w.elim
def Vu(hx:X.i=λ_ _=>False)(Q:X.j=true)(hp:plain iter=true)(hi:∀env s,L2.PI X tg iter (tI (K:=X.K) (mg:=X.d) env s (xY Φ G env it s)))(P:L2.PG X tg g)(TG:oB X.K X.d t g)
 (R:L2.PSs X body (uSs X.K X.d Φ G b)):L2.PS X (.For tg iter body [] pos) (tSt X.K X.d env s ((xY Φ G env it s).bind λr s1=>vf r t (λe s'=>zU Φ G e b s') r.a env s1)):=by
 have x:PassesOwn (model X.f X.w) X.A X.a X.i:=by rw[hx];exact PassesOwn.never
 refine yT (L2.Ut x Q (Up hi) P R (yo hp)) λD σ H ⟨ρ,hr,er,w⟩=>⟨env,s,ρ,hr,er,?_⟩;cases hv:xY Φ G env it s with
 |e r s1=>
  rw[hv]at w;exact λρ1 H1 J O N W=>cU W TG (λenv s D σ H h=>⟨env,s,h⟩) N (er.mono O) (w.mono O N)
 |g _ _ _=>rw[hv]at w;exact w.elim
 |d=>rw[hv]at w;exact w.elim
def Yk:L2.PSs X [] (tSt X.K X.d env s (.e (.a env) s)):=xu L2.qR λD σ H ⟨ρ,hr,er,w⟩=>w ρ H σ Ext.refl hr er
def bP{st:Stmt}{rest:List Stmt}{o:Out Fl}{f:Env->Sto->Out Fl}{P:L2.TS}(h1:L2.PS X st (tSt X.K X.d env s o))(S:L2.PSs X rest P)(R:∀env s D σ H,tSt X.K X.d env s (f env s) D σ H->P D σ H) :
 L2.PSs X (st::rest) (tSt X.K X.d env s (o.bind λfl s1=>match fl with|.a e=>f e s1|fl=>.e fl s1)):=by
 refine xu (L2.zw h1 S) λD σ H ⟨ρ,hr,er,w⟩=>⟨ρ,hr,er,?_⟩;cases o with
 |e fl s1=>
  simp only[zV]at w;cases fl with
  |a e=>exact λρ1 H1 N Q x O=>R e s1 D N H1 ⟨ρ1,x,O,w.mono Q x⟩
  |c e=>exact w
  |d e=>exact w
  |b v=>exact w
 |g _ _ _=>exact w.elim
 |d=>exact w.elim
end
end M
end
section
namespace M
open PySem PySem.W PyProof.Rows
def kj(sc:Scope)(N:List Str)(e:Ex)(l:Expr):Bool:=match e with
 |.h f ver es=>decide (ver=100)&&VB l λa b lsc _=>eCN b λy ys=>uv a&&vY sc lsc&&decide (y=f)&&wM lsc y&&!(y == ("__debug__":Str))&&uF es&&ckL lsc N es ys&&ze ys&&!ys.isEmpty&&decide (("!":Str)∈N)
 |_=>false
def mJ(h:kj sc N e l=true):∃f es ys lsc p2 p3 p4,e=.h f 100 es/\l=.Lambda L2.noArgs (.Call (.Name f p2) ys [] p3) lsc p4/\vY sc lsc=true/\lsc.names.lookup f=some .globalImplicit/\(f == ("__debug__":Str))=false /\
 uF es=true/\ckL lsc N es ys=true/\ze ys=true/\ys.isEmpty=false/\("!":Str)∈N:=by
 cases e with
 |h f ver es=>
  obtain⟨Y,g1⟩:=zM (show (decide (ver=100)&&_)=true from h);obtain⟨a,b,lsc,p4,rfl,g2⟩:=lT g1;obtain⟨y,p2,ys,p3,rfl,g3⟩:=yz g2;obtain rfl:=of_decide_eq_true Y;simp only[cf,decide_eq_true_eq,AK,wM]at g3;obtain⟨⟨⟨⟨⟨⟨⟨⟨⟨h1,W⟩,rfl⟩,U⟩,S⟩,R⟩,Q⟩,P⟩,O⟩,x⟩:=g3;rw[nF h1];exact⟨y,es,ys,lsc,p2,p3,p4,rfl,rfl,W,U,S,R,Q,P,O,x⟩
 |_=>cases h
def dg(sc:Scope)(N:List Str)(i:Nat):Exs->List Stmt->(List Stmt->Bool)->Bool
 |.c,ss,k=>k ss
 |.a e es,ss,k=>lc ss λt ts=>(U3 t λy _=>eMt y λob nm ap z cp=>ck sc N (.e i) ob&&qM ob&&decide (nm="append")&&(ap.endLine == cp.line)&&kj sc N e z)&&dg sc N i es ts k
def W2(sc:Scope)(N:List Str)(i:Nat)(e:Expr):Bool:=eG1 e λx tg iter fs csc=>eName tg λc _=>L2.uw sc N [c] csc [none]&&(decide (csc.names.lookup c=some .local)||decide (csc.names.lookup c=some .cell))&&ck sc N (.e i) iter&&fs.isEmpty&&eCN x λy ys=>decide (y=L2.yJ false)&&wM csc y&&l1 ys λz=>eName z λO _=>decide (O=c)&&!(c == ("__debug__":Str))&&!(c == ("__classdict__":Str))&&plain iter
noncomputable def Exs.app:Exs->Exs->Exs
 |.c,b=>b
 |.a e es,b=>.a e (es.app b)
noncomputable def Exs.len:Exs->Nat
 |.c=>0
 |.a _ es=>es.len+1
theorem iU:∀a:Exs,a.app .c=a
 |.c=>rfl
 |.a e es=>by rw[Exs.app,iU es]
theorem lI e b:∀a:Exs,a.app (.a e b)=(a.app (.a e .c)).app b
 |.c=>rfl
 |.a f es=>by rw[Exs.app,lI e b es];rfl
section
variable {T:Tbl}{n:Nat}{sc:Scope}{N:List Str}{X:L2.Cx}
def gU(X:L2.Cx)(H:L2.Hp)(lf:Addr)(l:Expr):Prop:=∃a body lsc p,l=.Lambda a body lsc p/\qV X H lf body lsc
def vp(sc:Scope)(N:List Str)(X:L2.Cx)(H:L2.Hp):Exs->List Addr->Prop
 |.c,[]=>True
 |.a e es,lf::r=>(∃l,kj sc N e l=true/\gU X H lf l)/\vp sc N X H es r
 |_,_=>False
theorem gU.keep(h:gU X H lf l)(k:Frz H H'):gU X H' lf l:=by obtain⟨a,b,c,p,e,q⟩:=h;exact⟨a,b,c,p,e,q.keep k⟩
theorem vp.keep(k:Frz H H'):∀{L} {r},vp sc N X H L r->vp sc N X H' L r
 |.c,[],_=>AX
 |.c,_::_,h=>h.elim
 |.a _ _,[],h=>h.elim
 |.a e es,lf::r,h=>by obtain⟨⟨l,h1,O⟩,x⟩:=h;exact⟨⟨l,h1,O.keep k⟩,vp.keep k x⟩
theorem vp.snoc(h1:kj sc N e l=true)(x:gU X H lf l):∀{L} {r},vp sc N X H L r->vp sc N X H (L.app (.a e .c)) (r++[lf])
 |.c,[],_=>⟨⟨l,h1,x⟩,AX⟩
 |.c,_::_,h=>h.elim
 |.a _ _,[],h=>h.elim
 |.a e es,lf::r,h=>⟨h.1,vp.snoc h1 x h.2⟩
theorem vp.len:∀{L} {r},vp sc N X H L r->r.length=L.len
 |.c,[],_=>rfl
 |.c,_::_,h=>h.elim
 |.a _ _,[],h=>h.elim
 |.a e es,lf::r,h=>by rw[AH,vp.len h.2];rfl
def gK(no:∀f v,100<=v->T.e f v=none)(N:uF es=true)(h:evE (zC T n) T.b env (.h f 100 es) s=.e v s') :
 ∃m vs,n=m+1/\zc (zC T m) T.b env es s=.e vs s/\zr T.f s=true/\T.c false=true/\sS T false (zC T m f 0 vs s) (za T m f 0 vs s)=.e v s':=by
 obtain⟨vs,s1,e1,h⟩:=zg (show ((zc (zC T n) T.b env es s).bind λvs s1=>zC T n f 100 vs s1)=.e v s' from h);cases n with
 |zero=>cases h
 |succ m=>
  rw[sT (Φ':=zC T m) es s N]at e1;obtain rfl:s=s1:=(sU es _ _ _ N e1).symm;have x:∀ver,ver=100->zC T (m+1) f ver vs s=if (T.c false)&&zr T.f s then sS T false (zC T m f 0 vs s) (za T m f 0 vs s) else .d:=λver O=>by
   simp only[zC,no f ver ⋯]
   rw[decide_eq_true O,decide_eq_false (show ¬ver=101 by omega),decide_eq_false (show ¬ver=200 by omega),decide_eq_false (show ¬ver=300 by omega),decide_eq_false (show ¬ver=301 by omega),decide_eq_false (show ¬ver=302 by omega),decide_eq_false (show ¬ver=102 by omega)]
   simp only[GO,Ct,Bool.or_false];congr 1;cases lV vs<;>rfl
  rw[x 100 rfl]at h;split at h
  . rename_i hc
    rw[cf]at hc;exact⟨m,vs,rfl,e1,hc.2,hc.1,h⟩
  . cases h
def teS(T:Tbl)(n:Nat)(sc:Scope)(N:List Str)(X:L2.Cx)(env:Env)(σ:L2.St):L2.TE:=λx H' Q=>∃(lf:Addr) (e:Ex) (l:Expr) (s:Sto) (ρ:Own) (v:Val) (s2:Sto),x[0]?=some (some (.c lf))/\kj sc N e l=true/\gU X H' lf l/\HR X.K X.d ρ s H'/\ER X.K X.d ρ H' env σ /\
 evE (zC T n) T.b env e s=.e v s2/\yU X.K X.d (RD X.K X.d) ρ H' (.e v s2) Q
def ah(o:Ok T n sc N X)(oc:Ok T n csc [cx] (X.comp [cx] csc C s0 H0 ex))(h2:csc.names.lookup (L2.yJ false)=some .globalImplicit)
 (hv:csc.names.lookup cx=some .local\/csc.names.lookup cx=some .cell) (hd1:(cx == ("__debug__":Str))=false) (hd2:(cx == ("__classdict__":Str))=false) (I0:L2.Inv X pins0 σ H0 s0) (f0:∀b∈ex,L2.uc X pins0 H0 b) :
 L2.PE (X.comp [cx] csc C s0 H0 ex) (.Call (.Name (L2.yJ false) p1) [.Name cx p2] [] p5) (teS T n sc N X env σ):=by
 rintro pins s1 S H1 Q I ⟨lf,e,l,s,ρ,v,s2,h0,hck,⟨a,body,lsc,p,hl,hin⟩,hr,er,hev,wt⟩;obtain⟨f,es,ys,lsc',p2',p3,p4,rfl,Z,h4,h6,h7,h8,h9,h10,h11,h12⟩:=mJ hck;rw[Z]at hl;cases hl;obtain⟨m,vs,rfl,ho,htb,O,W⟩:=gK o.i h8 hev;have sd:=o.l m rfl ⟨_,O⟩;obtain⟨kx,cs,ws,pre,hue,hhue,KF,SF,CF,RF⟩:=sd.a.a;obtain⟨fS,SF'⟩:=SF false O;obtain⟨stS,fdS,P,FnS,_⟩:=id SF'.a;refine BR (L2.xO I (oc.a.b _ h2) P ?_ (by decide))
 have Y:L2.PA (X.comp [cx] csc C s0 H0 ex) [.Name cx p2] (L2.xW (L2.xX 0) L2.tM):=L2.yQ (L2.xQ rfl (oc.a.c cx (hv.imp id .inl)) hd1 hd2) L2.yn;refine Dg (h₀:=X.h) I.C.i.a FnS.b (L2.thn (Y p5 pins s1 S H1 (λvs R=>vs=[L2.V.c lf]/\R=H1) I ⟨_,h0,rfl,rfl⟩) λus s1' ⟨vs',R,I1,r,hvs,hH⟩=>⟨I1.kIn,?_⟩);subst hvs hH;obtain⟨c,ctv,L⟩:=hin.at o h4 I0 f0 I1;have U:us=[.ref lf]:=by
  cases r with
  |cons r1 r2=>cases r2;cases r1;rfl
 rw[U];simp only[vY,cf,decide_eq_true_eq,AK,AB,Bu,Ay]at h4;exact nN oc o.a.d (λx hx=>(h4.1.2 x hx).imp id And.left) h8 h9 h10 h11 (.inl ⟨rfl,h6,h7⟩) ho O I1 L hr er (by rw[W];exact wt) P
def gp(hr:HR X.K X.d ρ s H)(er:ER X.K X.d ρ H env σ)(np:p ∉ ρ.o)(hp:σ[i]?=some (some (.c p)))(hl:H p=some (.b (lfs.map L2.V.c)))(hz:lfs.length<=zZ)
 (ls:vp sc N X H L lfs) (hev:zc (zC T n) T.b env L s=.e vs s1) (wt:yU X.K X.d (RD X.K X.d) ρ H (.e (.h vs) s1) Q):L2.uk [none] (L2.WG X.K (L2.xX i)) (L2.wH 0) [] (λacc=>L2.rh acc (teS T n sc N X env σ)) σ H Q:=by
 refine⟨_,hp,p,rfl,⟨_,L2.SqL.of hl⟩,λacc O=>?_⟩;refine qo (n:=lfs.length) (λj U H'=>∃ρ' s' Lr lr done vr,Lp acc ρ H ρ' H'/\HR X.K X.d ρ' s' H'/\(∃ys,H' acc=some (.b ys)/\RDs X.K X.d ρ' H' done ys)/\lfs.drop j=lr/\vp sc N X H' Lr lr/\U.length=1/\done.length=j/\zc (zC T n) T.b env Lr s'=.e vr s1/\done++vr=vs)
  ⟨ρ.hide acc,s,L,lfs,[],vs,Lp.start hr O _,hr.hide O,⟨[],L2.zK,.d⟩,Dp,ls.keep λa o u e=>by rw[L2.zG (L2.zN e O)];exact e,rfl,rfl,hev,rfl⟩ ?_ ?_
 . rintro U H' ⟨ρ',s',Lr,lr,done,vr,Y,P,⟨ys,e1,e2⟩,hd,R,hσ,hdl,he,hv⟩
   have S:=Y.c p _ hl np;refine⟨⟨_,L2.SqL.of S,by rw[Ac];exact Ad _⟩,?_⟩
   rw[F5]at hd;subst hd;cases Lr with
   |a _ _=>exact R.elim
   |c=>
    cases he;rw[A9]at hv;subst hv;exact Y.done hr O P e1 e2 (m:=false) wt
 . rintro j U H' hj ⟨ρ',s',Lr,lr,done,vr,Y,P,⟨ys,e1,e2⟩,hd,R,hσ,hdl,he,hv⟩
   have S:=Y.c p _ hl np;rw[DM hj]at hd;subst hd;cases Lr with
   |c=>exact R.elim
   |a e es=>
    obtain⟨⟨l,hck,hin⟩,R⟩:=R;obtain⟨v,s2,ev,he⟩:=zg he;obtain⟨vr',s3,er',he⟩:=zg he;cases he;have hx:(lfs.map L2.V.c)[j]?=some (.c lfs[j]):=by rw[AE,Ab hj];rfl
    refine⟨⟨_,_,L2.SqL.of S,hx⟩,?_⟩;rintro x H'' ⟨rfl,hy⟩;have:=hy _ (L2.SqL.of S);rw[hx]at this;cases this;have ers:ER X.K X.d ρ' H'' env σ:=⟨er.b,λk w e'=>by obtain⟨u,z1,z2⟩:=er.a k w e';exact⟨u,z1,RD.mv (Y.mv O) z2⟩⟩
    show teS T n sc N X env σ _ _ _;refine⟨lfs[j],e,l,s',ρ',v,s2,by rw[AQ ⋯],hck,hin,P,ers,ev,λρ2 y H2 x2 Z r2=>?_⟩
    have W:=Y.step P x2;have e3:H2 acc=some (.b ys):=x2.c _ _ e1 (P.d acc Y.here).2;have e4:=e2.mono x2;have mv2:=qJ (H1:=H2) Z W.here (.b (ys++[y]));refine⟨ys,e3,by rw[<-e2.length,hdl,AI];have:zZ=16777216:=rfl;omega,ρ2,s2,es,_,done++[v],vr',W.emit Z O _,Z.emit W.here,⟨_,L2.zK,RDs.mv mv2 (e4.append (.a r2 .d))⟩,rfl,?_,by rw[BP];exact hσ,by rw[Ao,hdl];rfl,er',by rw[Bx];exact hv⟩
    refine(R.keep (P.frz x2)).keep λa o u e'=>?_;rw[L2.zG (λz=>by rw[z,e3]at e';cases e')];exact e'
def Xr(h:ck sc N (.e i) e=true):∃x p,e=.Name x p/\N[i]?=some x/\qy sc x=true/\(x == ("__debug__":Str))=false/\(x == ("__classdict__":Str))=false:=by obtain⟨x,p,rfl,g⟩:=yK (show (eName e λx _=>decide (N[i]?=some x)&&qy sc x&&!(x == ("__debug__":Str))&&!(x == ("__classdict__":Str)))=true from h);simp only[cf,decide_eq_true_eq,AK]at g;exact⟨x,p,rfl,g.1.1.1,g.1.1.2,g.1.2,g.2⟩
def WV(o:Ok T n sc N X)(h:ck sc N (.e i) e=true):L2.PE X e (L2.xX i):=by obtain⟨x,p,rfl,h1,Q,P,O⟩:=Xr h;exact L2.xQ (by rw[o.a.a];exact h1) (o.a.c x (lZ Q)) P O
def tCm(sc:Scope)(N:List Str)(X:L2.Cx)(i:Nat)(L:Exs)(env:Env)(s:Sto)(W:Own->L2.Hp->Prop)(σ:L2.St)(H:L2.Hp):Prop:=∃ρ p x,HR X.K X.d ρ s H/\ER X.K X.d ρ H env σ/\p ∉ ρ.o/\σ[i]?=some (some (.c p))/\H p=some (.b (x.map L2.V.c))/\vp sc N X H L x/\W ρ H
def aW(o:Ok T n sc N X)(h:W2 sc N i e=true)(R:zc (zC T n) T.b env L s=.e vs s1)(hz:L.len<=1000) :
 L2.PE X e (λσ H Q=>tCm sc N X i L env s (λρ H=>yU X.K X.d (RD X.K X.d) ρ H (.e (.h vs) s1) Q) σ H):=by
 obtain⟨x,tg,iter,fs,csc,cpos,rfl,a1⟩:=tu h;obtain⟨c,pc,rfl,a2⟩:=yK a1;obtain⟨a3,a4⟩:=zM a2;obtain⟨y,p1,ys,p5,rfl,a5⟩:=yz a4;obtain⟨Y,a7⟩:=zM a5;obtain⟨z,rfl,a8⟩:=yc a7;obtain⟨c',p2,rfl,W⟩:=yK a8;simp only[cf,decide_eq_true_eq,Ay,wM,AK]at a3 Y W;obtain⟨⟨⟨h1,U⟩,h3⟩,h4⟩:=a3;obtain⟨rfl,h6⟩:=Y;obtain⟨⟨⟨rfl,g1⟩,g2⟩,g3⟩:=W;cases A0.mp h4;have S:=iZ o.a h1;have oc:=o.comp S (by simp) h1
 refine zX (L2.aY (tp:=λσ acc=>L2.rh acc (teS T n sc N X env σ)) o.d S (L2.mY (WV o h3)) (L2.Zl _ _ _ _ _ _) (λC P H0 ex=>nH (i:=0) (oc C P H0 ex).a rfl U) (λC P H0 ex=>.b) (λσ C P H0 ex acc ⟨pins',I0,f0⟩=>L2.mV (ah o (oc C P H0 ex) h6 U g1 g2 I0 f0)) (yo g3)) ?_;rintro σ H Q ⟨ρ,p,lfs,hr,er,Z,hp,hl,O,w⟩;exact gp hr er Z hp hl (by rw[O.len];have:zZ=16777216:=rfl;omega) O R w
def Af(sc:Scope)(N:List Str)(X:L2.Cx)(i:Nat)(L:Exs)(env:Env)(s:Sto)(O:Out Fl)(Q:Exs):L2.TS:=λD σ H=>∃ρ0 H0 ρ p x P,HR X.K X.d ρ0 s H0/\H0 p=none/\Lp p ρ0 H0 ρ H/\HR X.K X.d ρ s H/\ER X.K X.d ρ H env σ/\σ[i]?=some (some (.c p))/\H p=some (.b (x.map L2.V.c)) /\
 vp sc N X H P x/\P.app Q=L/\ui X.K X.d ρ0 H0 O D
theorem iT b:∀a:Exs,(a.app b).len=a.len+b.len
 |.c=>(Nat.zero_add _).symm
 |.a e es=>by rw[Exs.app,Exs.len,iT b es,Exs.len];omega
def i8(h:H p=some (.b xs)):Frz H (L2.upd H p (.b ys)):=λa o u e=>by rw[L2.zG (λz=>by rw[z,h]at e;cases e)];exact e
theorem dG(o:Ok T (m+1) sc N X)(Y:zr T.f s=true)(hmd:T.c false=true)(hz:L.len<=1000){k:List Stmt->Bool}(hk:∀Q,k Q=true->L2.PSs X Q (Af sc N X i L env s O .c)) :
 ∀Lr Q,dg sc N i Lr Q k=true->L2.PSs X Q (Af sc N X i L env s O Lr)
 |.c,Q,h=>hk Q h
 |.a e es,Q,h=>by
  obtain⟨t,ts,rfl,a1⟩:=yR h;obtain⟨a2,h2⟩:=zM a1;obtain⟨y,pos,rfl,a3⟩:=pZ a2;obtain⟨ob,nm,ap,z,cp,rfl,a4⟩:=iy a3;obtain⟨a5,hlm⟩:=zM a4;simp only[cf,decide_eq_true_eq]at a5;obtain⟨⟨⟨g1,g2⟩,rfl⟩,g3⟩:=a5;obtain⟨f,fs,ys,lsc,p2,p3,p4,he,rfl,h4,h6,h7,h8,h9,h10,h11,h12⟩:=mJ hlm;refine xu (L2.zw (L2.sM (L2.fh (es:=[]) (WV o g1) (ag o hmd h4 h12) (tZ g2) rfl g3)) (dG o Y hmd hz hk es ts h2)) ?_;rintro D σ H ⟨ρ0,H0,ρ,p,P,L1,hr0,Z,lp,hr,er,hp,hl,hls,R,w⟩;refine⟨_,hp,.inl ⟨rfl,_,.of hl⟩,ρ,s,hr,Y,λlf H' x U hin=>?_⟩;have S:=lp.step hr x;have W:H' p=some (.b (P.map L2.V.c)):=x.c _ _ hl (hr.d p lp.here).2;have mv:=qJ (H1:=H') U S.here (.b (P.map L2.V.c++[.c lf]));have hln:P.length=L1.len:=hls.len;have hlt:L1.len<1000:=by have:=iT (.a e es) L1;rw[R]at this;have:(Exs.a e es).len=es.len+1:=rfl;omega
  refine⟨p,P.map L2.V.c,.c lf,rfl,rfl,W,by rw[Ac,AI];omega,ρ0,H0,ρ,p,P++[lf],L1.app (.a e .c),hr0,Z,S.emit U Z _,U.emit S.here,⟨er.b,λj v e'=>?_⟩,hp,by rw[Bs];exact L2.zK,?_,by rw[<-lI];exact R,w⟩
  . obtain⟨u,z1,z2⟩:=(er.mono x).a j v e'
    exact⟨u,z1,RD.mv mv z2⟩
  . exact vp.snoc hlm ⟨_,_,_,_,rfl,hin.keep (i8 W)⟩ ((hls.keep (hr.frz x)).keep (i8 W))
def Z0(h:Af sc N X i L env s O .c D σ H):tCm sc N X i L env s (λρ H=>ui X.K X.d ρ H O D) σ H:=by
 obtain⟨ρ0,H0,ρ,p,S,L1,hr0,hn0,P,R,W,hp,hl,U,x,w⟩:=h;rw[iU]at x;subst x;have mv:Mv ρ H ⟨ρ.o,ρ0.h⟩ H:=⟨λa u e n=>⟨e,n.1,λz=>n.2 (by rw[P.d];exact Ah _ z)⟩,λi a e=>e,λ_ _=>rfl⟩
 have Q:HR X.K X.d ⟨ρ.o,ρ0.h⟩ s H:=⟨R.f,R.v,λi ws e=>by obtain⟨a,e1,t⟩:=R.m i ws e;exact⟨a,e1,t.mv mv rfl⟩,λa hm=>R.d a (by rw[P.d];exact Ah _ hm)⟩
 exact⟨⟨ρ.o,ρ0.h⟩,p,S,Q,⟨W.b,λj v e=>by obtain⟨u,Z,Y⟩:=W.a j v e;exact⟨u,Z,RD.mv mv Y⟩⟩,(R.d p P.here).2,hp,hl,U,w.mono ⟨P.f,rfl,P.c,P.g⟩ Q⟩
def UG(o:Ok T (m+1) sc N X)(Y:zr T.f s=true)(Z:T.c false=true)(Q:kj sc N e l=true)(hi:N[i]?=some x)(hx:sc.names.lookup x=some .local\/sc.names.lookup x=some .cell)
 (hrest:L2.PSs X rest (Af sc N X i (.a e es) (env.set i dS) s O es)):L2.PSs X (.Assign [.Name x px] (.List [l] lp) pos::rest) (tSt X.K X.d env s O):=by
 obtain⟨f,fs,ys,lsc,p2,p3,p4,he,rfl,h4,h6,h7,h8,h9,h10,h11,h12⟩:=mJ Q;obtain⟨l1,l2⟩:=o.a.e x hx;have hN:X.N.Nodup:=by rw[o.a.a];exact o.a.d
 have U:X.N[i]?=some x:=by rw[o.a.a];exact hi
 rintro pins s0 σ H D I ⟨ρ,hr,er,w⟩;have S:i<σ.length:=by rw[I.R];exact(Au.mp U).1
 refine L2.zw (L2.vT hN U l1 (L2.rH (L2.yQ (ag o Z h4 h12) L2.yn rfl)) (uH rfl) l2) hrest pins s0 σ H D I ⟨ρ,s,hr,Y,λlf H' x' P hin=>⟨by rw[AI];simp,λp hp=>?_⟩⟩
 refine⟨ρ,H',ρ.hide p,p,[lf],.a e .c,P,hp,Lp.start P hp _,P.hide hp,?_,?_,L2.zK,⟨⟨_,Q,_,_,_,_,rfl,hin.keep λa o' u W=>by rw[L2.zG (L2.zN W hp)];exact W⟩,AX⟩,rfl,w.mono x' P⟩
 . refine ER.put ⟨er.b,λj v W=>?_⟩
   obtain⟨u,z1,z2⟩:=(er.mono x').a j v W;exact⟨u,z1,RD.mv (qK P hp _) z2⟩
 . show (σ.set i (some (L2.V.c p)))[i]?=_
   rw[AQ S]
theorem oq:∀{l} {s s'},uJ s=uJ s'->zr l s'=true->zr l s=true
 |[],_,_,_,_=>rfl
 |x::l,s,[],h,h'=>by cases h'
 |x::l,s,c'::s',h,h'=>by
  cases c' with
  |d y=>
   cases s with
   |nil=>cases h
   |cons c s=>
    cases c with
    |d z=>
     have h:z::uJ s=y::uJ s':=h;injection h with h1 h2
     obtain⟨g1,g2⟩:=zM (show (decide (x=y)&&zr l s')=true from h');show (decide (x=z)&&zr l s)=true;rw[h1,g1,oq h2 g2];rfl
    |_=>cases h
  |_=>cases h'
end
end M
end
section
namespace M
open PySem
def cS(c:Const)(k:Str->Bool):Bool:=el c.ctorIdx 5 λh=>Const.str.elim (motive:=λ_=>Bool) c h k
def Wy(h:cS c k=true):∃x,c=.str x/\k x=true:=by obtain⟨N,h⟩:=z7 h;obtain⟨x,rfl⟩:∃x,c=.str x:=Const.str.elim (motive:=λc=>∃x,c=Const.str x) c N λx=>⟨x,rfl⟩;exact⟨x,rfl,h⟩
def eS(e:Expr):Bool:=YD e λc _ _=>cS c λx=>decide (x.length<=1000)
def km(h:eS e=true):∃x k p,e=.Constant (.str x) k p/\x.length<=1000:=by obtain⟨c,k,p,rfl,h1⟩:=qf h;obtain⟨x,rfl,N⟩:=Wy h1;exact⟨x,k,p,rfl,of_decide_eq_true N⟩
def eF(e:Expr)(k:Expr->Bool):Bool:=SH e λu c s _=>decide (c=-1)&&s.isNone&&k u
def cH(h:eF e k=true):∃u p,e=.FormattedValue u (-1) none p/\k u=true:=by obtain⟨u,c,s,p,rfl,h1⟩:=cI h;obtain⟨x,N⟩:=zM h1;rw[of_decide_eq_true (zM x).1,BW.mp (zM x).2];exact⟨u,p,rfl,N⟩
def eFs(e:Expr)(k:Expr->Expr->Bool):Bool:=eJn e λx _=>lc x λc1 x=>lc x λf1 x=>lc x λc2 x=>lc x λf2 x=>l1 x λc3=>(eS c1&&(eS c2&&eS c3))&&eF f1 λu=>eF f2 λv=>k u v
def YE(h:eFs e k=true):∃u v c1 c2 c3 k1 k2 k3 p1 p2 p3 p4 p5 pos,e=.JoinedStr [.Constant (.str c1) k1 p1,.FormattedValue u (-1) none p2,.Constant (.str c2) k2 p3,.FormattedValue v (-1) none p4,.Constant (.str c3) k3 p5] pos/\c1.length<=1000/\c2.length<=1000/\c3.length<=1000/\k u v=true:=by obtain⟨x,pos,rfl,h1⟩:=YF h;obtain⟨a1,x,rfl,h2⟩:=yR h1;obtain⟨a2,x,rfl,h3⟩:=yR h2;obtain⟨a3,x,rfl,Z⟩:=yR h3;obtain⟨a4,x,rfl,Y⟩:=yR Z;obtain⟨a5,rfl,W⟩:=yc Y;obtain⟨N,U⟩:=zM W;obtain⟨c1,k1,p1,rfl,R⟩:=km (zM N).1;obtain⟨c2,k2,p3,rfl,Q⟩:=km (zM (zM N).2).1;obtain⟨c3,k3,p5,rfl,P⟩:=km (zM (zM N).2).2;obtain⟨u,p2,rfl,S⟩:=cH U;obtain⟨v,p4,rfl,O⟩:=cH S;exact⟨u,v,c1,c2,c3,k1,k2,k3,p1,p2,p3,p4,p5,pos,rfl,R,Q,P,O⟩
def QS(sc:Scope)(N:List Str)(es:Exs)(a:Expr):Bool:=eFs a λu v=>ckL sc N es [u,v]
def Z6(sc:Scope)(N:List Str)(i:Nat)(d:Ex)(op:CmpOp)(e:Expr):Bool:=eC1 e λl o r=>W2 sc N i l&&decide (o=op)&&ck sc N d r&&plain r&&okC .a&&okC .b
noncomputable def VR:Cns->Bool
 |.a=>true
 |_=>false
def W3(sc:Scope)(N:List Str)(i:Nat)(d:Ex)(o:Cns)(t:Expr):Bool:=if VR o then Z6 sc N i d .NotEq t else eBl .Or t λa as=>Z6 sc N i d .NotEq a&&lO sc N o as
def T7(sc:Scope)(N:List Str)(i:Nat)(L:Exs)(O:List Stmt)(k:List Stmt->Bool):Bool:=match L with
 |.c=>false
 |.a e es=>lc O λt1 ts=>(eD t1 λtg v _=>l1 tg λq=>eName q λx _=>decide (N[i]?=some x)&&(decide (sc.names.lookup x=some .local)||decide (sc.names.lookup x=some .cell))&&VC v λls _=>l1 ls λl=>kj sc N e l)&&dg sc N i es ts k
def dh(sc:Scope)(N:List Str)(i k:Nat)(d:Ex)(o:Cns)(O:List Stmt->Bool)(fin:Stmt):Bool:=if k=0 then XS fin λq _=>o1 q λx=>W2 sc N i x else if k=1 then XS fin λq _=>o1 q λx=>Z6 sc N i d .Eq x
 else sIf fin λt x y _=>y.isEmpty&&O x&&W3 sc N i d o t
mutual
noncomputable def ckS(sc:Scope)(N:List Str):Sm->Stmt->Bool
 |.d e,st=>(U3 st λx _=>ck sc N e x&&uW x)
 |.f e,st=>(XS st λq _=>o1 q λx=>ck sc N e x)
 |.s,_=>false
 |.g i e,st=>(eD st λts v _=>l1 ts λt=>eName t λx _=>decide (N[i]?=some x)&&(decide (sc.names.lookup x=some .local)||decide (sc.names.lookup x=some .cell))&&(ck sc N e v&&S7 e))
 |.m is e,st=>(eD st λP v _=>l1 P λt=>cM t λts _ _=>yE sc N is ts&&ck sc N e v&&notTuple v)
 |.n is es,st=>(eD st λP v _=>l1 P λt=>cM t λts _ _=>cM v λvs _ _=>yE sc N is ts&&ckL sc N es vs&&ze vs&&decide (is.length<=8)&&decide is.Nodup&&decide (ts.length=vs.length)&&(Wd sc ts vs||Wk sc ts))
 |.w _ _ _,_=>false
 |.u _ _ _,_=>false
 |.k o i e,st=>(eD st λts v _=>l1 ts λt=>YI t λa b _=>ck sc N o a&&ck sc N i b&&ck sc N e v&&plain b)
 |.h c a b,st=>(sIf st λt x y _=>ckC sc N c t&&rq sc N a x&&rq sc N b y)
 |.l t it b,st=>(Rw st λtg iter body Q _=>Q.isEmpty&&(ckT sc N t tg&&ckI sc N it iter tg&&rq sc N b body&&plain iter))
 |.p _ _,_=>false
 |.r,_=>false
 |.v,_=>false
 |.q,_=>false
 |.j e,st=>(match e with
  |.h c v es=>if v=1 then (sRs st λq b _=>b.isNone&&o1 q λq=>eCN q λx O=>decide (x=c)&&wM sc x&&!(x == ("__debug__":Str))&&(ckL sc N es O&&ze O&&decide (O.length=2)&&decide (x="TooGreat"))) else (sRs st λq b _=>b.isNone&&o1 q λq=>eCN q λx O=>l1 O λa=>decide (x=c)&&wM sc x&&!(x == ("__debug__":Str))&&(((ckL sc N es [a]&&plain a)||QS sc N es a)&&decide (x≠"TooGreat")))
  |.g _=>true
  |_=>false)
noncomputable def rq(sc:Scope)(N:List Str):Sms->List Stmt->Bool
 |.f,O=>O.isEmpty
 |.e c cs,O=>(lc O λt ts=>ckS sc N c t&&rq sc N cs ts)
 |.g i L .f k d o b cs,O=>decide (L.len<=1000)&&T7 sc N i L O λO=>lc O λfin rest=>dh sc N i k d o (λx=>rq sc N b x) fin&&rq sc N cs rest
 |.g ..,_=>false
end
structure OkF(T:Tbl)(n:Nat)(sc:Scope)(N:List Str)(X:L2.Cx):Prop where
 a:Ok T n sc N X
 b:X.a.scope=sc
 bk:X.a.blockKind=.function
section
variable {T:Tbl}{n:Nat}
def JS(T:Tbl)(n:Nat)(a:Sm):Prop:=∀(sc:Scope) (N:List Str) (X:L2.Cx) (st:Stmt),OkF T n sc N X->ckS sc N a st=true->∀env s,L2.PS X st (tSt X.K X.d env s (exS (zC T n) T.b env a s))
def JSs(T:Tbl)(n:Nat)(a:Sms):Prop:=∀(sc:Scope) (N:List Str) (X:L2.Cx) (st:List Stmt),OkF T n sc N X->rq sc N a st=true->∀env s,L2.PSs X st (tSt X.K X.d env s (zU (zC T n) T.b env a s))
def nK(h:∀env s,L2.PSs X st (tSt X.K X.d env s (zU Φ G env b s))):L2.PSs X st (uSs X.K X.d Φ G b):=λpins s σ H D I ⟨env,t,q⟩=>h env t pins s σ H D I q
def YZ:JS T n (.d e):=by intro sc N X st o h env s;replace h:=pZ h;obtain⟨x,p1,rfl,h⟩:=h;simp only[cf]at h;exact Yh h.2 (jE T n e _ _ _ _ o.a h.1 env s)
def Vm:JS T n (.f e):=by intro sc N X st o h env s;replace h:=sQ h;obtain⟨q1,p1,rfl,h⟩:=h;replace h:=tF h;obtain⟨x,rfl,h⟩:=h;exact Vv (jE T n e _ _ _ _ o.a h env s)
def pk:∃b,Eu (.ListComp elt gens csc cpos) (some (.Name y py)) l env=pure b:=⟨_,rfl⟩
noncomputable def YQ:Ex->Bool
 |.p ..|.B ..=>true
 |_=>false
def lu(h:ck sc N a e=true)(Q:YQ a=false):uW e=true:=by
 have no:∀{e:Expr},ck sc N a e=true->e.ctorIdx=8\/e.ctorIdx=9\/e.ctorIdx=10->False:=λ{e} h O=>by
  have P:(∃x g c p,e=.ListComp x g c p)\/(∃x g c p,e=.SetComp x g c p)\/∃k x g c p,e=.DictComp k x g c p:=by
   rcases O with O|O|O
   . exact .inl (E8 (motive_1:=λe=>∃x g c p,e=Expr.ListComp x g c p) e O λx g c p=>⟨x,g,c,p,rfl⟩)
   . exact .inr (.inl (Expr.SetComp.elim (motive_1:=λe=>∃x g c p,e=Expr.SetComp x g c p) e O λx g c p=>⟨x,g,c,p,rfl⟩))
   . exact .inr (.inr (Expr.DictComp.elim (motive_1:=λe=>∃k x g c p,e=Expr.DictComp k x g c p) e O λk x g c p=>⟨k,x,g,c,p,rfl⟩))
  rcases P with⟨x,g,c,p,rfl⟩|⟨x,g,c,p,rfl⟩|⟨k,x,g,c,p,rfl⟩ <;>
  . cases a with
    |p _ _ _ _ _ _ _=>cases Q
    |B _=>cases Q
    |h f v es=>
     have h:(if v<100 then _ else if v<200 then _ else _)=true:=h
     split at h
     . cases h
     . split at h
       . cases h
       . exact absurd (show false=true from (zM h).2) Ak
    |_=>cases h
 cases e with
 |ListComp _ _ _ _=>exact(no h (.inl rfl)).elim
 |SetComp _ _ _ _=>exact(no h (.inr (.inl rfl))).elim
 |DictComp _ _ _ _ _=>exact(no h (.inr (.inr rfl))).elim
 |_=>rfl
def Vj:JS T n (.g i e):=by
 intro sc N X st o h env s;replace h:=w9 h;obtain⟨ts1,v,pos,rfl,h⟩:=h;replace h:=yc h;obtain⟨t1,rfl,h⟩:=h;replace h:=yK h;obtain⟨x,px,rfl,h⟩:=h;simp only[cf,decide_eq_true_eq,Ay]at h;obtain⟨⟨h1,h2⟩,P,hns⟩:=h;obtain⟨l1,l2⟩:=o.a.a.e x h2;have hN:X.N.Nodup:=by rw[o.a.a.a];exact o.a.a.d
 have hi:X.N[i]?=some x:=by rw[o.a.a.a];exact h1
 by_cases hn:uW v=true
 . exact bN (L2.vT hN hi l1 (jE T n e _ _ _ _ o.a P env s) (uH hn) l2) λσ H Q q=>q
 . -- a Ei
   cases e with
   |p m R fr elt t it ifs=>
    replace P:=tu P;obtain⟨x',tg,iter,fs,csc,cpos,rfl,P⟩:=P;simp only[cf,decide_eq_true_eq]at P;obtain⟨⟨⟨⟨⟨⟨c1,c2⟩,c3⟩,c4⟩,c5⟩,c6⟩,c7⟩:=P;have S:=iZ o.a.a c1;have oc:=o.a.comp S c2 c1;obtain⟨g,pg,tg'⟩:∃g,(∀C O H0 ex,L2.PG (X.comp R csc C O H0 ex) tg g)/\oB X.K X.d t g:=by
     cases t with
     |a i=>
      cases tg with
      |Name y p=>
       simp only[ckT,cf,Ay,decide_eq_true_eq]at c3;exact⟨_,λC O H0 ex=>nH (oc C O H0 ex).a c3.1 c3.2,m9⟩
      |_=>cases c3
     |b is=>
      cases tg with
      |Tuple es k p=>
       simp only[ckT,cf,decide_eq_true_eq]at c3;refine⟨_,λC O H0 ex=>?_,uK (is:=is)⟩;obtain⟨a,b,c⟩:=xp (oc C O H0 ex).a c3.1;exact L2.rK (X:=X.comp R csc C O H0 ex) o.a.d a b c
      |_=>cases c3
    have Y:L2.PI X tg iter (uI X.K X.d (zC T n) T.b it):=Up λenv s=>jI T n it _ _ _ _ _ o.a c4 env s;have W:∀C O H0 ex,L2.PTs (X.comp R csc C O H0 ex) fs (uTs X.K X.d (zC T n) T.b ifs):=λC O H0 ex=>(jCs T n ifs _ _ _ _ (oc C O H0 ex) c5).2.2;have Z:∀C O H0 ex,L2.PE (X.comp R csc C O H0 ex) x' (uE X.K X.d (zC T n) T.b elt):=λC O H0 ex=>XE (X:=X.comp R csc C O H0 ex) λenv s=>jE T n elt _ _ _ _ (oc C O H0 ex) c6 env s;have U:L2.PS X (.Assign [.Name x px] (.ListComp x' [⟨tg,iter,fs,0⟩] csc cpos) pos) (L2.sV (L2.uk fr (uI X.K X.d (zC T n) T.b it) g (uTs X.K X.d (zC T n) T.b ifs) λacc=>L2.rh acc (uE X.K X.d (zC T n) T.b elt)) (L2.wH i)):=by
     obtain⟨b,hb⟩:=pk (elt:=x') (gens:=[⟨tg,iter,fs,0⟩]) (csc:=csc) (cpos:=cpos) (y:=x) (py:=px) (l:=pos.line) (env:=X.a);cases b with
     |true=>exact L2.gF o.a.d S Y pg W Z hN hi l1 hb l2 (yo c7)
     |false=>exact L2.vT hN hi l1 (L2.qQ o.a.d S Y pg W Z (yo c7)) hb l2
    refine bN (o:=evE (zC T n) T.b env (.p m R fr elt t it ifs) s) U λσ H Q hq=>oZ (env:=env) (s:=s) (chk:=false) (m:=m) (body:=sW (zC T n) T.b elt ifs) tg' rk (λacc ρ0 H0 hn=>kS hn) ?_ λ_ r s1 p s2 hl=>?_
    . simp only[Ba,false_implies,if_true];exact hq
    . have:=rQ hl
      simpa using this
   |B _=>cases hns
   |_=>exact absurd (lu P rfl) hn
def YY:JS T n (.m is e):=by intro sc N X st o h env s;replace h:=w9 h;obtain⟨x,v,pos,rfl,h⟩:=h;replace h:=yc h;obtain⟨t1,rfl,h⟩:=h;replace h:=vz h;obtain⟨ts,k,p,rfl,h⟩:=h;simp only[cf]at h;obtain⟨⟨h1,P⟩,O⟩:=h;obtain⟨a,b,c⟩:=xp o.a.a h1;exact gA (t:=.b is) uK (L2.jh (jE T n e _ _ _ _ o.a P env s) (L2.rK o.a.d a b c) ub (j4 O)) λσ H Q q=>q
def Vl:JS T n (.n is es):=by
 intro sc N X st o h env s;replace h:=w9 h;obtain⟨ts1,v,pos,rfl,h⟩:=h;replace h:=yc h;obtain⟨t1,rfl,h⟩:=h;replace h:=vz h;obtain⟨ts,k,p,rfl,h⟩:=h;replace h:=vz h;obtain⟨vs,k2,p2,rfl,h⟩:=h;simp only[cf,decide_eq_true_eq,Ay]at h;obtain⟨⟨⟨⟨⟨⟨h1,h2⟩,h3⟩,h4⟩,P⟩,h6⟩,O⟩:=h;have R:=(jL T n es _ _ _ _ o.a h2).1 h3 env s;have hN:X.N.Nodup:=by rw[o.a.a.a];exact o.a.a.d
 have kind:∀x,X.a.kindOf x=sc.names.lookup x:=λx=>by show X.a.scope.names.lookup x=_;rw[o.b]
 rcases O with O|O
 . unfold Wd at O
   split at O
   . rename_i x px y py
     simp only[cf,decide_eq_true_eq,AK]at O;obtain⟨⟨⟨⟨⟨q1,U⟩,W⟩,q4⟩,Z⟩,Y⟩:=O
     match is,h1,P with
     |[i,j],h1,P=>
      simp only[yE,cf,decide_eq_true_eq,Ay]at h1;obtain⟨⟨i1,i2⟩,⟨j1,j2⟩,_⟩:=h1
      match vs,h6 with
      |[a,b],_=>
       have hij:i≠j:=by rw[B6]at P;exact λz=>P.1 (by rw[z];exact AU.mpr rfl)
       exact Yi (L2.Uu o.a.d hN (by rw[o.a.a.a];exact i1) (by rw[o.a.a.a];exact j1) hij (by rw[o.b];exact q1) (by rw[o.b];exact U) R
        (kO o.bk (by rw[kind];exact q1) (by rw[kind];exact U) W q4 h3 Z Y) ub) λσ H Q q=>q
     |[],h1,_=>exact absurd h1 (by simp[yE])
     |[_],h1,_=>exact absurd h1 (by simp[yE])
     |_::_::_::_,h1,_=>exact absurd h1 (by simp[yE])
   . rename_i x px y py z pz
     simp only[cf,decide_eq_true_eq,AK]at O;obtain⟨⟨⟨⟨⟨⟨⟨⟨⟨q1,U⟩,W⟩,q4⟩,Z⟩,Y⟩,q7⟩,q8⟩,q9⟩,q10⟩:=O
     match is,h1,P with
     |[i,j,l],h1,P=>
      simp only[yE,cf,decide_eq_true_eq,Ay]at h1;obtain⟨⟨i1,i2⟩,⟨j1,j2⟩,⟨l1,l2⟩,_⟩:=h1
      match vs,h6 with
      |[a,b,c],_=>
       simp only[B6,Ap,Bo,or_false,not_or]at P;exact Yj (L2.XM o.a.d hN (by rw[o.a.a.a];exact i1) (by rw[o.a.a.a];exact j1) (by rw[o.a.a.a];exact l1) P.1.1 P.1.2 P.2.1 (by rw[o.b];exact q1) (by rw[o.b];exact U) (by rw[o.b];exact W) R
        (oK o.bk (by rw[kind];exact q1) (by rw[kind];exact U) (by rw[kind];exact W) q4 Z Y q7 q8 h3 q9 q10) ub) λσ H Q q=>q
     |[],h1,_=>exact absurd h1 (by simp[yE])
     |[_],h1,_=>exact absurd h1 (by simp[yE])
     |[_,_],h1,_=>exact absurd h1 (by simp[yE])
     |_::_::_::_::_,h1,_=>exact absurd h1 (by simp[yE])
   . cases O
 . have hun:(∃x p,Ew x p∈ts/\X.a.kindOf x≠some .local)\/3<ts.length:=by
    unfold Wk at O;simp only[Ay,decide_eq_true_eq,Bu]at O;rcases O with⟨e,hm,he⟩|O
    . cases e with
      |Name x px=>
       simp only[decide_eq_true_eq]at he;exact .inl ⟨x,px,hm,by rw[kind];exact he⟩
      |_=>cases he
    . exact .inr O
   obtain⟨a,b,c⟩:=xp o.a.a h1;have S:=gA (t:=.b is) (env:=env) (s:=s) uK (L2.jh (pos:=pos) (k8 (k:=k2) (pos:=p2) R) (L2.rK (k:=k) (pos:=p) o.a.d a b c) ub (eP hun)) λσ H Q q=>q;have e:((zc (zC T n) T.b env es s).bind λvs s1=>if vs.length=is.length then (.e:Fl->Sto->Out Fl) (.a ((is.zip vs).foldl (λe p=>e.set p.1 (some p.2)) env)) s1 else .d)=(((zc (zC T n) T.b env es s).bind λvs s1=>if vs.length<=zZ then (.e:Val->Sto->Out Val) (.f vs) s1 else .d).bind λv s1=>match yk (.b is) v env with|some env'=>(.e:Fl->Sto->Out Fl) (.a env') s1|dS=>.d):=by
    cases zc (zC T n) T.b env es s with
    |e ws s1=>
     simp only[zV];by_cases hl:ws.length=is.length
     . have hz:ws.length<=zZ:=by rw[hl];exact As h4 (by decide)
       simp only[if_pos hl,if_pos hz,zV,yk]
     . rw[if_neg hl]
       by_cases hz:ws.length<=zZ
       . simp only[if_neg hl,if_pos hz,zV,yk]
       . simp only[if_neg hz,qX]
    |g _ _ _=>rfl
    |d=>rfl
   show L2.PS X _ (tSt X.K X.d env s ((zc (zC T n) T.b env es s).bind λvs s1=>if vs.length=is.length then .e (.a ((is.zip vs).foldl (λe p=>e.set p.1 (some p.2)) env)) s1 else .d))
   rw[e];exact S
def bD:JS T n (.k a i e):=by intro sc N X st o h env s;replace h:=w9 h;obtain⟨x,v,pos,rfl,h⟩:=h;replace h:=yc h;obtain⟨t1,rfl,h⟩:=h;replace h:=qi h;obtain⟨a1,b1,p1,rfl,h⟩:=h;simp only[cf]at h;exact bO h.2 (jE T n e _ _ _ _ o.a h.1.2 env s) (λs1=>jE T n a _ _ _ _ o.a h.1.1.1 env s1) λs1=>jE T n i _ _ _ _ o.a h.1.1.2 env s1
def Sf(O:JSs T n a)(x:JSs T n b):JS T n (.h c a b):=by intro sc N X st o h env s;replace h:=mh h;obtain⟨t1,Q,P,p1,rfl,h⟩:=h;simp only[cf]at h;exact So (jC T n c _ _ _ _ o.a h.1.1 env s) (nK λenv s=>O _ _ _ _ o h.1.2 env s) (nK λenv s=>x _ _ _ _ o h.2 env s) (λs1 D σ H q=>⟨env,s1,q⟩) λs1 D σ H q=>⟨env,s1,q⟩
def Vk(O:JSs T n b):JS T n (.l t it b):=by intro sc N X st o h env s;replace h:=ZN h;obtain⟨x,Q,b1,e1,p1,rfl,h⟩:=h;obtain⟨h0,P⟩:=zM h;cases A0.mp h0;clear h;have h:=P;simp only[cf]at h;obtain⟨g,pg,tg⟩:=Rf o.a.a o.a.d h.1.1.1;exact Vu o.a.xe o.a.d h.2 (λenv s=>jI T n it _ _ _ _ _ o.a h.1.1.2 env s) pg tg (nK λenv s=>O _ _ _ _ o h.1.2 env s)
def bC:JS T n (.j e):=λsc N X st o h env s=>zQ (zH rfl)
def Yb:JSs T n .f:=by intro sc N X st o h env s;cases A0.mp h;exact Yk
def bE(P:JS T n c)(x:JSs T n cs):JSs T n (.e c cs):=by intro sc N X st o h env s;replace h:=yR h;obtain⟨t1,O,rfl,h⟩:=h;simp only[cf]at h;exact bP (f:=λe s=>zU (zC T n) T.b e cs s) (P _ _ _ _ o h.1 env s) (nK λenv s=>x _ _ _ _ o h.2 env s) λenv s D σ H q=>⟨env,s,q⟩
def aU(o:Ok T n sc N X)(hop:op=.a\/op=.b)(h:Z6 sc N i d op.op x=true)(Z:zc (zC T n) T.b env L s=.e vs s1)(hz:L.len<=1000)(hd:evE (zC T n) T.b env d s1=.e w s2) :
 L2.PE X x (λσ H Q=>tCm sc N X i L env s (λρ H=>yU X.K X.d (RD X.K X.d) ρ H (zR op (.h vs) w s2) Q) σ H) /\
 L2.PT X x (λσ H Q=>tCm sc N X i L env s (λρ H=>yU X.K X.d (λ_ _ a b=>a=b) ρ H ((zR op (.h vs) w s2).truth) Q) σ H):=by
 obtain⟨l,o1,r,p,rfl,a1⟩:=qH h;simp only[cf,decide_eq_true_eq]at a1;obtain⟨⟨⟨⟨⟨h1,rfl⟩,h2⟩,h3⟩,h4⟩,h5⟩:=a1;have Y:okC op=true:=by rcases hop with rfl|rfl;exact h4;exact h5
 have pd:=jE T n d _ _ _ _ o h2 env s1;rw[hd]at pd;constructor
 . refine zX (L2.mX (vR (X:=X) o.c op Y) (aW o h1 Z hz) pd (xA h3)) ?_
   rintro σ H Q ⟨ρ,p,R,hr,er,np,hp,hl,S,wt⟩;exact⟨ρ,p,R,hr,er,np,hp,hl,S,λρ1 x H1 W P r1=>⟨ρ1,P,er.mono W,λρ2 y H2 U O r2=>⟨ρ2,s2,.h vs,w,O,r1.mono U,r2,wt.mono (W.trans P U) O⟩⟩⟩
 . refine uC (L2.qS (vR (X:=X) o.c op Y) (aW o h1 Z hz) pd (xA h3)) ?_
   rintro σ H Q ⟨ρ,p,R,hr,er,np,hp,hl,S,wt⟩;exact⟨ρ,p,R,hr,er,np,hp,hl,S,λρ1 x H1 W P r1=>⟨ρ1,P,er.mono W,λρ2 y H2 U O r2=>⟨ρ2,s2,.h vs,w,O,r1.mono U,r2,tN (λ_ _ h=>qc h) (wt.mono (W.trans P U) O)⟩⟩⟩
def Rg(o:Ok T n sc N X)(h:W3 sc N i d oo t=true)(Z:zc (zC T n) T.b env L s=.e vs s1)(hz:L.len<=1000)
 (P:((evE (zC T n) T.b env d s1).bind λy s2=>((zR .b (.h vs) y s2).truth).bind λr Y=>if r then .e true Y else vI (zC T n) T.b env oo Y)=.e r Y) :
 L2.PT X t (λσ H Q=>tCm sc N X i L env s (λρ H=>∀ρ' H',Ext ρ H ρ' H'->HR X.K X.d ρ' Y H'->Q r H') σ H):=by
 obtain⟨w,s2,hd,P⟩:=zg P;obtain⟨c,s4,hc,P⟩:=zg P;unfold W3 at h;split at h
 . have hn:oo=.a:=by cases oo with|a=>rfl|b _ _=>rename_i z;cases z
   subst hn;refine uC (aU (op:=.b) o (.inr rfl) h Z hz hd).2 ?_;rintro σ H Q ⟨ρ,p,R,hr,er,np,hp,hl,S,W⟩;refine⟨ρ,p,R,hr,er,np,hp,hl,S,?_⟩;rw[hc];intro ρ1 x H1 U O r1;cases r1;cases c with
   |true=>cases P;exact W ρ1 H1 U O
   |false=>cases P;exact W ρ1 H1 U O
 . obtain⟨a,as,p,rfl,h⟩:=qG h
   obtain⟨h1,h2⟩:=zM h;have p1:=(aU (op:=.b) o (.inr rfl) h1 Z hz hd).2;rw[hc]at p1;have p2:=(jCs T n oo _ _ _ _ o h2).2.1 p env s4;refine L2.PW.pt λwh pins sh σ H Q I h=>?_;obtain⟨ρ,p,R,hr,er,np,hp,hl,S,W⟩:=h;refine PyProof.Rows.isTrue_or (L2.thn (p1 pins sh σ H (λb H1=>if b=true then Q true H1 else tT X.K X.d env s4 (vI (zC T n) T.b env oo s4) σ H1 Q) I ⟨ρ,p,R,hr,er,np,hp,hl,S,λρ1 x H1 U O r1=>?_⟩) λb s' ⟨H1,I1,q1⟩=>?_)
   . cases r1
     cases c with
     |true=>cases P;exact L2.r8 (W ρ1 H1 U O)
     |false=>
      refine L2.sD ⟨ρ1,O,er.mono U,?_⟩;rw[show vI (zC T n) T.b env oo s4=.e r Y from P];intro ρ2 x H2 x2 hr2 r2;cases r2;exact W ρ2 H2 (U.trans O x2) hr2
   . cases b with
     |true=>exact⟨H1,I1,q1⟩
     |false=>exact p2 wh pins s' σ H1 Q I1 q1
def gz(T:Tbl)(n:Nat)(e0:Env)(L:Exs)(k:Nat)(d:Ex)(P:Cns)(b cs:Sms)(O:Sto):Out Fl:=(zc (zC T n) T.b e0 L O).bind λvs s1=>if k=0 then .e (.b (.h vs)) s1 else
 if k=1 then (evE (zC T n) T.b e0 d s1).bind λy s2=>(zR .a (.h vs) y s2).bind λr x=>.e (.b r) x
 else ((evE (zC T n) T.b e0 d s1).bind λy s2=>((zR .b (.h vs) y s2).truth).bind λr x=>if r then .e true x else vI (zC T n) T.b e0 P x).bind λr x=>
  (if r then zU (zC T n) T.b e0 b x else .e (.a e0) x).bind λfl N=>match fl with
 |.a e=>zU (zC T n) T.b e cs N
 |fl=>.e fl N
def VH(jb:JSs T n b)(jcs:JSs T n cs)(o:OkF T n sc N X)(hz:L.len<=1000)(hss:(lc ss λfin rest=>dh sc N i k d oo (λx=>rq sc N b x) fin&&rq sc N cs rest)=true) :
 L2.PSs X ss (λD σ H=>tCm sc N X i L e0 W (λρ H=>ui X.K X.d ρ H (gz T n e0 L k d oo b cs W) D) σ H):=by
 generalize P:gz T n e0 L k d oo b cs W=O;unfold gz at P;cases hev:zc (zC T n) T.b e0 L W with
 |g _ _ _=>rw[hev]at P;subst P;exact λpins W σ H D I ⟨_,_,_,_,_,_,_,_,_,z⟩=>z.elim
 |d=>rw[hev]at P;subst P;exact λpins W σ H D I ⟨_,_,_,_,_,_,_,_,_,z⟩=>z.elim
 |e vs s1=>
  rw[hev,zV]at P;obtain⟨fin,rest,rfl,b1⟩:=yR hss;obtain⟨b2,b3⟩:=zM b1;unfold dh at b2;by_cases k0:k=0
  . rw[if_pos k0]at b2 P
    subst P;obtain⟨q,pq,rfl,b4⟩:=sQ b2;obtain⟨y,rfl,b5⟩:=tF b4;refine xu (L2.zw (L2.wm (aW o.a b5 hev hz)) (u:=λ_ _ _=>False) λ_ _ _ _ _ _ z=>z.elim) λD σ H hq=>?_;obtain⟨ρ,p,S,hr,er,np,hp,hl,U,w⟩:=hq;exact⟨ρ,p,S,hr,er,np,hp,hl,U,λρ1 x H1 Y Q r1=>w ρ1 H1 x Y Q r1⟩
  . rw[if_neg k0]at b2 P
    by_cases k1:k=1
    . rw[if_pos k1]at b2 P
      obtain⟨q,pq,rfl,b4⟩:=sQ b2;obtain⟨y,rfl,b5⟩:=tF b4;cases hd:evE (zC T n) T.b e0 d s1 with
      |g _ _ _=>rw[hd]at P;subst P;exact λpins W σ H D I ⟨_,_,_,_,_,_,_,_,_,z⟩=>z.elim
      |d=>rw[hd]at P;subst P;exact λpins W σ H D I ⟨_,_,_,_,_,_,_,_,_,z⟩=>z.elim
      |e w0 s2=>
       rw[hd,zV]at P;refine xu (L2.zw (L2.wm (aU (op:=.a) o.a (.inl rfl) b5 hev hz hd).1) (u:=λ_ _ _=>False) λ_ _ _ _ _ _ z=>z.elim) λD σ H hq=>?_;obtain⟨ρ,p,S,hr,er,np,hp,hl,U,w⟩:=hq;refine⟨ρ,p,S,hr,er,np,hp,hl,U,?_⟩;cases hc:zR .a (.h vs) w0 s2 with
       |g _ _ _=>rw[hc]at P;subst P;exact w.elim
       |d=>rw[hc]at P;subst P;exact w.elim
       |e r Z=>
        rw[hc]at P;subst P;exact λρ1 x H1 Y Q r1=>w ρ1 H1 x Y Q r1
    . rw[if_neg k1]at b2 P
      obtain⟨t,xb,yb,pq,rfl,b4⟩:=mh b2;obtain⟨b5,b6⟩:=zM b4;obtain⟨b7,b8⟩:=zM b5;cases A0.mp b7;generalize hT:((evE (zC T n) T.b e0 d s1).bind λy s2=>((zR .b (.h vs) y s2).truth).bind λr Z=>if r then .e true Z else vI (zC T n) T.b e0 oo Z)=OT at P
      cases OT with
      |g _ _ _=>subst P;exact λpins W σ H D I ⟨_,_,_,_,_,_,_,_,_,z⟩=>z.elim
      |d=>subst P;exact λpins W σ H D I ⟨_,_,_,_,_,_,_,_,_,z⟩=>z.elim
      |e r Z=>
       rw[zV]at P;have pt:=Rg o.a b6 hev hz hT;refine xu (L2.zw (L2.nJ pt (nK λenv s=>jb _ _ _ _ o b8 env s) L2.qR) (nK λenv s=>jcs _ _ _ _ o b3 env s)) λD σ H hq=>?_;obtain⟨ρ,p,S,hr,er,np,hp,hl,U,w⟩:=hq;refine⟨ρ,p,S,hr,er,np,hp,hl,U,λρ1 H1 Y Q=>?_⟩;have R:=w.mono Y Q;cases r with
       |false=>
        refine L2.sD ?_;rw[<-P]at R;exact⟨_,Z,ρ1,Q,er.mono Y,R⟩
       |true=>
        refine L2.r8 ⟨_,Z,ρ1,Q,er.mono Y,?_⟩;rw[<-P]at R;rw[if_pos rfl]at R;cases hb:zU (zC T n) T.b e0 b Z with
        |g _ _ _=>rw[hb]at R;exact R
        |d=>rw[hb]at R;exact R
        |e fl s4=>
         rw[hb,zV]at R;cases fl with
         |a e'=>exact λρ2 H2 σ2 x2 hr2 er2=>⟨e',s4,ρ2,hr2,er2,R.mono x2 hr2⟩
         |c e'=>exact R
         |d e'=>exact R
         |b v'=>exact R
def fG(o:OkF T n sc N X)(hz:L.len<=1000)(h:T7 sc N i L st kk=true)(Z:zc (zC T n) T.b e0 L s0=.e vs s1)(W:uJ s=uJ s0)
 (hk:∀S,kk S=true->L2.PSs X S (λD σ H=>tCm sc N X i L (env.set i dS) s (λρ H=>ui X.K X.d ρ H O D) σ H)):L2.PSs X st (tSt X.K X.d env s O):=by
 cases L with
 |c=>cases h
 |a e es=>
  obtain⟨t1,ts,rfl,a1⟩:=yR (show (lc st _)=true from h);obtain⟨a2,a3⟩:=zM a1;obtain⟨tg,v,pos,rfl,a4⟩:=w9 a2;obtain⟨q,rfl,a5⟩:=yc a4;obtain⟨x,px,rfl,a6⟩:=yK a5;obtain⟨a7,a8⟩:=zM a6;obtain⟨ls,lp,rfl,a9⟩:=qh a8;obtain⟨l,rfl,Q⟩:=yc a9;simp only[cf,decide_eq_true_eq,Ay]at a7;obtain⟨f,fs,ys,lsc,p2,p3,p4,he,_,h4,h6,h7,h8,_⟩:=mJ Q;obtain⟨v0,sx,R,_⟩:=zg Z;rw[he]at R;obtain⟨m,us,rfl,_,U,P,_⟩:=gK o.a.i h8 R;have U:=oq W U;exact UG o.a U P Q a7.1 a7.2 (dG o.a U P hz (λS Y=>xu (hk S Y) λD σ H hq=>Z0 hq) es ts a3)
def fC(R:JSs T n b)(O:JSs T n cs):JSs T n (.g i L .f k d oo b cs):=by
 intro sc N X st o h env s;obtain⟨hz,h⟩:=zM h;have hz:=of_decide_eq_true hz;rw[show zU (zC T n) T.b env (.g i L .f k d oo b cs) s=gz T n (env.set i dS) L k d oo b cs s from if_pos rfl];cases hev:zc (zC T n) T.b (env.set i dS) L s with
 |g _ _ _=>rw[show gz T n (env.set i dS) L k d oo b cs s=_ from congrArg (λx=>Out.bind x _) hev];exact λpins Q σ H D I ⟨_,_,_,z⟩=>z.elim
 |d=>rw[show gz T n (env.set i dS) L k d oo b cs s=_ from congrArg (λx=>Out.bind x _) hev];exact λpins Q σ H D I ⟨_,_,_,z⟩=>z.elim
 |e vs s1=>exact fG o hz h hev rfl λS P=>VH R O o hz P
end
section
variable (T:Tbl)(n:Nat)
mutual
theorem jS:∀a:Sm,JS T n a
 |.d _=>YZ
 |.f _=>Vm
 |.s=>λsc N X e o h=>by cases h
 |.g _ _=>Vj
 |.m _ _=>YY
 |.n _ _=>Vl
 |.w _ _ _=>λsc N X e o h=>by cases h
 |.k _ _ _=>bD
 |.u _ _ _=>λsc N X e o h=>by cases h
 |.h _ a b=>Sf (jSs a) (jSs b)
 |.l _ _ b=>Vk (jSs b)
 |.p _ _=>λsc N X e o h=>by cases h
 |.r=>λsc N X e o h=>by cases h
 |.v=>λsc N X e o h=>by cases h
 |.q=>λsc N X e o h=>by cases h
 |.j _=>bC
theorem jSs:∀a:Sms,JSs T n a
 |.f=>Yb
 |.e c cs=>bE (jS c) (jSs cs)
 |.g _ _ .f _ _ _ b cs=>fC (jSs b) (jSs cs)
 |.g _ _ (.e _ _) _ _ _ _ _=>λsc N X st o h=>by cases h
 |.g _ _ (.g ..) _ _ _ _ _=>λsc N X st o h=>by cases h
end
end
structure OkX(T:Tbl)(n:Nat)(sc:Scope)(N:List Str)(X:L2.Cx)(E:L2.XK):Prop where
 a:OkF T n sc N X.nox
 ps:L2.Passes (L2.CXE X.f X.w) X E
 xr:∀C H,E (.ref C) none H->L2.XR X C H
 xg:∀C d H,E (.ref C) (some d) H->L2.XRG X C d H
 lv:Lv T X.f X.w X.K X.d X.h n
 gr:(T.d.lookup ("TooGreat":Str)).isSome=true->tS X.K X.d X.h
 b:∀c,(T.d.lookup c).isSome=true->c≠"TooGreat"->∃C D,X.d c=some (.ref C)/\L2.ClsAt X.h C (.ref D::L2.veM)/\L2.ClsAt X.h D L2.veM
section
variable (K:KF)(mg:Str->Option Value)(E:L2.XK)
def tX(env:Env)(s:Sto)(x:tY):L2.TS:=λ_ σ H=>∃ρ,HR K mg ρ s H/\ER K mg ρ H env σ/\oA K mg ρ H x E
def tXe(env:Env)(s:Sto)(x:tY):L2.TE:=λσ H _=>∃ρ,HR K mg ρ s H/\ER K mg ρ H env σ/\oA K mg ρ H x E
end
def oA.mono(h:oA K mg ρ H x E)(e:Ext ρ H ρ' H')(P:HR K mg ρ' s H'):oA K mg ρ' H' x E:=by
 cases x with
 |none=>exact h
 |some r=>
  obtain⟨c,as,s'⟩:=r;exact λρ2 H2 O N C hC=>h ρ2 H2 (e.trans P O) N C hC
noncomputable abbrev wx(T:Tbl):Str->Bool:=λc=>(T.d.lookup c).isSome
section
variable {T:Tbl}{n:Nat}{sc:Scope}{N:List Str}{X:L2.Cx}{E:L2.XK}
def zj:¬tXe X.K X.d E env s dS σ H Q:=λ⟨_,_,_,z⟩=>z
def yi:¬tX X.K X.d E env s dS D σ H:=λ⟨_,_,_,z⟩=>z
def qY(h:T.e f v=dS)vs s:za T n f v vs s=dS:=by
 cases n with
 |zero=>rfl
 |succ n=>simp only[za,h]
def dt(o:OkX T n sc N X E)(h:(L2.uw sc N N' csc fr&&decide N'.Nodup&&ckT csc N' t tg&&ckI sc N it iter tg&&lO csc N' ifs fs&&ck csc N' elt x&&plain iter)=true) :
 ∃(S:L2.zx X N' csc fr) (oc:∀C O H0 ex,Ok T n csc N' (X.comp N' csc C O H0 ex)) (g:L2.TG),(∀C O H0 ex,L2.PG (X.comp N' csc C O H0 ex) tg g)/\ckI sc N it iter tg=true/\lO csc N' ifs fs=true/\ck csc N' elt x=true/\plain iter=true:=by
 simp only[cf,decide_eq_true_eq]at h;obtain⟨⟨⟨⟨⟨⟨h1,Y⟩,P⟩,W⟩,U⟩,R⟩,Q⟩:=h;have S:=iZ o.a.a.a h1;have oc:=o.a.a.comp S Y h1;refine⟨⟨S.b,S.e,S.a,S.d,S.g,S.f,S.h⟩,oc,?_⟩;cases t with
 |a i=>
  cases tg with
  |Name y p=>
   simp only[ckT,cf,Ay,decide_eq_true_eq]at P;exact⟨_,λC O H0 ex=>nH (oc C O H0 ex).a P.1 P.2,W,U,R,Q⟩
  |_=>cases P
 |b is=>
  cases tg with
  |Tuple es k p=>
   simp only[ckT,cf,decide_eq_true_eq]at P;refine⟨L2.VM X.K is.length (qu is),λC O H0 ex=>?_,W,U,R,Q⟩;obtain⟨a,b,c⟩:=xp (oc C O H0 ex).a P.1;exact L2.rK (X:=X.comp N' csc C O H0 ex) o.a.a.d a b c
  |_=>cases P
def XD(h:L2.PE X iter (tXe X.K X.d E env s r)):L2.PE X (.SetComp x (⟨tg,iter,fs,0⟩::gs) csc p) (tXe X.K X.d E env s r):=by
 intro pins N σ H Q I O;rw[show eval (.SetComp x (⟨tg,iter,fs,0⟩::gs) csc p) X.a=Ei (.SetComp x (⟨tg,iter,fs,0⟩::gs) csc p) csc X.a (firstIterPos (⟨tg,iter,fs,0⟩::gs) p) (newSet (.type "set")) (firstAsync (⟨tg,iter,fs,0⟩::gs)) (firstIter (⟨tg,iter,fs,0⟩::gs) X.a) from by unfold eval;rfl]
 unfold Ei;refine xd (AN (h pins N σ H (λ_ _=>False) I O) (λu s1 ⟨_,_,_,_,z⟩=>z.elim) λe s' z=>z)
mutual
theorem jxE(o:OkX T n sc N X E):∀(a:Ex) (e:Expr),ck sc N a e=true->∀env s,L2.PE X e (tXe X.K X.d E env s (xE (zC T n) (za T n) T.b env a s))
 |.h f v es,e,h=>λenv s=>by
  replace h:(if v<100 then ckA sc f (λxs=>ckL sc N es xs) e else if v<200 then ckB sc N f v es (λl ys=>ckL l N es ys) e else ckV sc N v es (λl ys=>ckL l N es ys) e)=true:=h
  split at h
  . replace h:=yz h
    obtain⟨x,p,xs,pos,rfl,h⟩:=h;simp only[cf,decide_eq_true_eq,wM,AK]at h;obtain⟨⟨⟨⟨rfl,U⟩,Y⟩,P⟩,W⟩:=h;simp only[xE];cases hv:zc (zC T n) T.b env es s with
    |g _ _ _=>exact yY λ_ _ _=>zj
    |d=>exact yY λ_ _ _=>zj
    |e vs s1=>
     simp only[];cases hf:T.e x v with
     |none=>rw[qY hf];exact yY λ_ _ _=>zj
     |some F=>
      obtain⟨fa,fd,e1,e2,e3,e4,e5⟩:=o.lv.a x v F hf;have hp:=(jL T n es _ _ _ _ o.a.a P).1 W env s;rw[hv]at hp;have hp:=mS hp;cases xs with
      |nil=>
       cases es with
       |a _ _=>cases P
       |c=>
        cases hv;exact zX (L2.l7 e5 o.a.a.c (o.a.a.a.b x U) e1 e2 e3 .nil o.ps Y) λσ H Q ⟨ρ,hr,er,w⟩=>⟨ρ,_,[],hr,.d,.inr w⟩
      |cons y ys=>
       rw[ze,cf]at W;refine zX (L2.mW e5 o.a.a.c (o.a.a.a.b x U) e1 e2 e3 .nil o.ps hp Y (L2.zv (zl W.1)) (yp W.2)) λσ H Q ⟨ρ,hr,er,w⟩=>⟨ρ,hr,er,λρ1 zs H1 x1 Z r1=>?_⟩;show spX T X.K X.d n x v (zs++[]) H1 Q E;rw[A9];exact⟨ρ1,s1,vs,Z,r1,.inr (w.mono x1 Z)⟩
  . rename_i hver
    have hx:xE (zC T n) (za T n) T.b env (.h f v es) s=dS:=by
     simp only[xE];cases zc (zC T n) T.b env es s with
     |e vs s1=>exact qY (o.a.a.i f v ⋯) _ _
     |_=>rfl
    rw[hx];exact yY λ_ _ _=>zj
 |.l op a b,e,h=>λenv s=>by
  replace h:=qH h;obtain⟨l1,o1,r1,p1,rfl,h⟩:=h;simp only[cf,decide_eq_true_eq]at h;obtain⟨⟨⟨⟨k1,rfl⟩,h1⟩,U⟩,Y⟩:=h;simp only[xE];exact zX (L2.mX (vR (X:=X) o.a.a.c op k1) (jxE o a _ h1 env s) (L2.PE.nox (jE T n b _ _ _ _ o.a.a U env s)) (xA Y)) λσ H Q z=>z
 |.g _,_,_=>λ_ _=>yY λ_ _ _=>zj
 |.e _,_,_=>λ_ _=>yY λ_ _ _=>zj
 |.E _,_,_=>λ_ _=>yY λ_ _ _=>zj
 |.L _ _,_,_=>λ_ _=>yY λ_ _ _=>zj
 |.j m op a b,e,h=>λenv s=>by
  replace h:=lR h;obtain⟨l1,o1,r1,p1,rfl,h⟩:=h;simp only[cf,decide_eq_true_eq]at h;obtain⟨⟨⟨k1,rfl⟩,h1⟩,U⟩:=h;simp only[xE];exact zX (L2.l9 (aC (X:=X) m op k1) (jxE o a _ h1 env s) (L2.PE.nox (jE T n b _ _ _ _ o.a.a U env s))) λσ H Q z=>z
 |.A _,_,_=>λ_ _=>yY λ_ _ _=>zj
 |.H _,_,_=>λ_ _=>yY λ_ _ _=>zj
 |.u _ _ _ _ _,_,_=>λ_ _=>yY λ_ _ _=>zj
 |.w _ _,_,_=>λ_ _=>yY λ_ _ _=>zj
 |.J _ _,_,_=>λ_ _=>yY λ_ _ _=>zj
 |.G _ _ _,_,_=>λ_ _=>yY λ_ _ _=>zj
 |.r _,_,_=>λ_ _=>yY λ_ _ _=>zj
 |.y _ _,_,_=>λ_ _=>yY λ_ _ _=>zj
 |.C,_,_=>λ_ _=>yY λ_ _ _=>zj
 |.k f m es,e,h=>λenv s=>by
  replace h:=yz h;obtain⟨x,p,xs,pos,rfl,h⟩:=h;replace h:=yR h;obtain⟨y,ys,rfl,h⟩:=h;simp only[cf,decide_eq_true_eq,wM]at h;obtain⟨⟨⟨⟨k1,rfl⟩,U⟩,Y⟩,P⟩:=h;simp only[xE];have O:=jxL o es (y::ys) Y P env s;rw[ze,cf]at P;have bo:=f.boot;have hg:=o.a.a.a.b _ U;have hm:=o.a.a.g _ (dM f);have st:=L2.zv (es:=ys) (env:=X.a) (zl P.1);have hn:=yp (pos:=pos) (env:=X.a) P.2;cases f with
  |b=>exact zX (L2.xD (r:=λ_ _ _=>False) (λ_ _ _ _ _ _ _ _ _ z=>Az z) hg hm bo O (by decide) (by decide) st hn) λσ H Q z=>z
  |j=>exact zX (L2.xD (r:=λ_ _ _=>False) (λ_ _ _ _ _ _ _ _ _ z=>Az z) hg hm bo O (by decide) (by decide) st hn) λσ H Q z=>z
  |o=>exact zX (L2.xD (r:=λ_ _ _=>False) (λ_ _ _ _ _ _ _ _ _ z=>Az z) hg hm bo O (by decide) (by decide) st hn) λσ H Q z=>z
  |r=>exact zX (L2.xD (r:=λ_ _ _=>False) (λ_ _ _ _ _ _ _ _ _ z=>Az z) hg hm bo O (by decide) (by decide) st hn) λσ H Q z=>z
  |_=>exact zX (L2.sJ (r:=λ_ _ _=>False) (λ_ _ _ _ _ _ _ _ _ z=>Az z) hg hm bo O (by decide) (by decide) st hn) λσ H Q z=>z
 |.F _ _,_,_=>λ_ _=>yY λ_ _ _=>zj
 |.M _ _ _ _,_,_=>λ_ _=>yY λ_ _ _=>zj
 |.s _ _,_,_=>λ_ _=>yY λ_ _ _=>zj
 |.I _ _ _ _ _,_,_=>λ_ _=>yY λ_ _ _=>zj
 |.p m N' fr elt t it ifs,e,h=>λenv s=>by
  replace h:=tu h;obtain⟨x,tg,iter,fs,csc,cpos,rfl,h⟩:=h;obtain⟨S,oc,g,pg,P,W,h6,h7⟩:=dt o h;simp only[xE];have hel:∀C R H0 ex,L2.PE (X.comp N' csc C R H0 ex) x (uE X.K X.d (zC T n) T.b elt):=λC R H0 ex=>XE (X:=X.comp N' csc C R H0 ex) λenv s=>jE T n elt _ _ _ _ (oc C R H0 ex) h6 env s;have hts:∀C R H0 ex,L2.PTs (X.comp N' csc C R H0 ex) fs (uTs X.K X.d (zC T n) T.b ifs):=λC R H0 ex=>(jCs T n ifs _ _ _ _ (oc C R H0 ex) W).2.2;exact zX (L2.qQ o.a.a.d S (jxI o it tg iter P env s) pg hts hel (yo h7)) λσ H Q z=>z
 |.z _ _ _ _ _ _ _ _ _ _,_,_=>λ_ _=>yY λ_ _ _=>zj
 |.q _ _ _ _,_,_=>λ_ _=>yY λ_ _ _=>zj
 |.D _,_,_=>λ_ _=>yY λ_ _ _=>zj
 |.K _ _,_,_=>λ_ _=>yY λ_ _ _=>zj
 |.B a,e,h=>λenv s=>by obtain⟨x,tg,i,fs,gs,csc,p,rfl,h⟩:=cL h;simp only[xE];exact XD (jxE o a i h env s)
theorem jxL(o:OkX T n sc N X E):∀(as:Exs) (es:List Expr),ckL sc N as es=true->ze es=true->∀env s,L2.PA X es (λσ H _=>tXe X.K X.d E env s (xL (zC T n) (za T n) T.b env as s) σ H λ_ _=>False)
 |.c,_,_=>λ_ _ _=>λ_ _ _ _ _ _ _ z=>(zj z).elim
 |.a a as,es,h=>λhp env s=>by
  replace h:=yR h;obtain⟨e,es,rfl,h⟩:=h;obtain⟨h1,O⟩:=zM h;cases as with
  |a _ _=>exact λ_ _ _ _ _ _ _ z=>(zj z).elim
  |c=>
   cases A0.mp O;simp only[xL];exact λpos pins x σ H Q I z=>L2.yQ (jxE o a e h1 env s) L2.yn (L2.zv (zl (by rw[ze,cf]at hp;exact hp.1))) pos pins x σ H Q I z
theorem jxI(o:OkX T n sc N X E):∀(it:Itb) (tg e:Expr),ckI sc N it e tg=true->∀env s,L2.PI X tg e (λσ H _=>tXe X.K X.d E env s (xI (zC T n) (za T n) T.b env it s) σ H λ_ _=>False)
 |.f a,tg,e,h=>λenv s pins x σ H R I z=>by
  simp only[xI]at z;exact AN (jxE o a e h env s pins x σ H (λ_ _=>False) I z) (λv s1 ⟨_,_,_,_,q⟩=>q.elim) λ_ _ q=>q
 |.d _,_,_,_=>λ_ _ _ _ _ _ _ _ z=>(zj z).elim
 |.g _ _,_,_,_=>λ_ _ _ _ _ _ _ _ z=>(zj z).elim
 |.i _,_,_,_=>λ_ _ _ _ _ _ _ _ z=>(zj z).elim
 |.j _ _,_,_,_=>λ_ _ _ _ _ _ _ _ z=>(zj z).elim
 |.h _ _ _,_,_,_=>λ_ _ _ _ _ _ _ _ z=>(zj z).elim
end
theorem jxT(o:OkX T n sc N X E):∀c e,ckC sc N c e=true->∀env s,L2.PT X e (λσ H _=>tXe X.K X.d E env s (xT (zC T n) (za T n) T.b env c s) σ H λ_ _=>False)
 |.a a,e,h=>λenv s=>by
  obtain⟨h1,O⟩:=zM h;cases a with
  |h f v es=>
   simp only[xT];rcases (Ay _ _).mp O with O|O
   . exact uC (L2.kE (jxE o (.h f v es) e h1 env s) (nI O)) λσ H Q z=>z
   . exfalso
     obtain⟨l,os,P,p,rfl⟩:=dn (of_decide_eq_true O);cases di h1
  |_=>exact gG λ_ _ _=>zj
 |.d c,e,h=>λenv s=>by
  replace h:=qI h;obtain⟨x,p,rfl,h⟩:=h;simp only[xT];exact uC (L2.jj (jxT o c _ h env s)) λσ H Q z=>z
 |.b _ _,_,_=>λ_ _=>gG λ_ _ _=>zj
 |.f _ _,_,_=>λ_ _=>gG λ_ _ _=>zj
def mO(h:pE vs=true):(∃x,vs=[.g x])\/∃i j:Int,vs=[.c i,.c j]/\i.natAbs<2 ^ 64/\j.natAbs<2 ^ 64:=by
 unfold pE at h;split at h
 . exact .inl ⟨_,rfl⟩
 . rw[cf,decide_eq_true_eq,decide_eq_true_eq]at h
   exact .inr ⟨_,_,rfl,h⟩
 . cases h
def bS(o:OkX T n sc N X E)(h:ckS sc N (.j e) st=true)env s:L2.PS X st (tX X.K X.d E env s (xS (wx T) (zC T n) (za T n) T.b env (.j e) s)):=by
 cases e with
 |h c v es=>
  simp only[ckS]at h;by_cases hv1:v=1
  . rw[if_pos hv1]at h
    replace h:=gI h;obtain⟨q,b,pos,rfl,h⟩:=h;obtain⟨h0,hh⟩:=zM h;cases BW.mp h0;replace h:=tF hh;obtain⟨q,rfl,h⟩:=h;replace h:=yz h;obtain⟨x,np,xs,cpos,rfl,h⟩:=h;simp only[cf,decide_eq_true_eq,wM,AK]at h;obtain⟨⟨⟨rfl,h2⟩,h3⟩,⟨⟨P,W⟩,h6⟩,rfl⟩:=h;simp only[xS];cases Q:zc (zC T n) T.b env es s with
    |g _ _ _=>exact xF λ_ _ _=>yi
    |d=>exact xF λ_ _ _=>yi
    |e vs s1=>
     simp only[];by_cases hm:(pE vs&&wx T "TooGreat")=true
     case neg=>rw[if_neg hm];exact xF λ_ _ _=>yi
     rw[if_pos hm];simp only[wx,cf]at hm;obtain⟨hm1,hm2⟩:=hm;obtain⟨C,D,f,fd,Kc,m1,m2,m3,m4,m5,_,_⟩:=o.gr hm2;have hp:=(jL T n es _ _ _ _ o.a.a P).1 W env s;rw[Q]at hp;obtain⟨S,Y,rfl⟩:∃S Y,xs=[S,Y]:=by
      match xs,h6 with
      |[S,Y],_=>exact⟨S,Y,rfl⟩
     rw[ze,cf]at W;have hbd:L2.Binds X.K fd L2.inN []:=by obtain⟨_,_,_,_,_,z,_⟩:=m3.ex;exact z
     refine yT (L2.fq o.a.a.c (o.a.a.a.b _ h2) m1 m2 m3 m4 m5 hbd (mS hp) h3 (L2.zv (zl W.1)) (yp W.2)) λD' σ H ⟨ρ,hr,er,w⟩=>⟨ρ,hr,er,λρ1 ys H1 S O r1=>?_⟩;rcases mO hm1 with⟨x,rfl⟩|⟨i,j,rfl,hi,hj⟩
     . exfalso
       cases es with
       |c=>cases P
       |a e1 es=>
        cases es with
        |c=>replace P:=(zM P).2;cases P
        |a e2 es=>
         obtain⟨v1,s2,q1,Q⟩:=zg Q;obtain⟨vs',s3,R,Q⟩:=zg Q;obtain⟨v2,s4,q3,R⟩:=zg R;obtain⟨vs2,s5,q4,R⟩:=zg R;cases R;cases Q
     . cases r1 with
       |a ra rb=>
        cases rb with
        |a rb rc=>
         cases rc;cases ra;cases rb;refine⟨i,j,rfl,hi,hj,λd hd=>o.xg C d _ (w ρ1 _ (S.trans O (Ext.new O hd _)) (O.more hd _) C m1 _ (.yes L2.zK (O.new hd)))⟩
  rw[if_neg hv1]at h;replace h:=gI h;obtain⟨q,b,pos,rfl,h⟩:=h;obtain⟨h0,hh⟩:=zM h;cases BW.mp h0;replace h:=tF hh;obtain⟨q,rfl,h⟩:=h;replace h:=yz h;obtain⟨x,np,xs,cpos,rfl,h⟩:=h;replace h:=yc h;obtain⟨a,rfl,h⟩:=h;simp only[cf,decide_eq_true_eq,wM,AK,Ay]at h;obtain⟨⟨⟨rfl,h2⟩,h3⟩,P,U⟩:=h;simp only[xS];cases Q:zc (zC T n) T.b env es s with
  |g _ _ _=>exact xF λ_ _ _=>yi
  |d=>exact xF λ_ _ _=>yi
  |e vs s1=>
   simp only[];by_cases hm:(pE vs&&wx T x)=true
   case neg=>rw[if_neg hm];exact xF λ_ _ _=>yi
   rw[if_pos hm];simp only[wx,cf]at hm;obtain⟨C,D,m1,m2,m3⟩:=o.b x hm.2 U;rcases P with⟨P,W⟩|P
   . have hp:=(jL T n es _ _ _ _ o.a.a P).1 (by rw[ze,ze,Fu];exact W) env s
     rw[Q]at hp;refine yT (L2.kD o.a.a.c.a (o.a.a.a.b x h2) m1 m2 m3 (mS hp) h3 (L2.zv (zl W)) rfl) λD' σ H ⟨ρ,hr,er,w⟩=>⟨ρ,hr,er,λρ1 xs H1 S O r1=>⟨?_,o.xr C H1 (w ρ1 H1 S O C m1 _ (.no U))⟩⟩;rw[<-r1.length,AI];rcases mO hm.1 with⟨x,rfl⟩|⟨i,j,rfl,_⟩
     . simp
     . simp
   . replace P:=YE P
     obtain⟨u,v',c1,c2,c3,k1,k2,k3,p1,p2,p3,p4,p5,Z,rfl,z1,z2,z3,P⟩:=P;obtain⟨e1,e2,rfl,h41,h42⟩:∃e1 e2,es=.a e1 (.a e2 .c)/\ck sc N e1 u=true/\ck sc N e2 v'=true:=by
      cases es with
      |c=>cases P
      |a e1 es=>
       obtain⟨q1,R⟩:=zM P;cases es with
       |c=>cases R
       |a e2 es=>
        obtain⟨q3,q4⟩:=zM R;cases es with
        |c=>exact⟨e1,e2,rfl,q1,q3⟩
        |a _ _=>cases q4
     obtain⟨v1,s2,q1,Q⟩:=zg Q;obtain⟨vs',s3,R,Q⟩:=zg Q;obtain⟨v2,s4,q3,R⟩:=zg R;cases R;cases Q;have pe:=L2.RY (c1:=c1) (c2:=c2) (c3:=c3) (k1:=k1) (k2:=k2) (k3:=k3) (p1:=p1) (p2:=p2) (p3:=p3) (p4:=p4) (p5:=p5) (pos:=Z) (L2.PE.nox (jE T n e1 _ _ _ _ o.a.a h41 env s)) (L2.PE.nox (jE T n e2 _ _ _ _ o.a.a h42 env s2)) z1 z2 z3;rcases mO hm.1 with⟨x,z⟩|⟨i,j,z,hi,hj⟩
     . cases z
     . cases z
       rw[q1,q3]at pe;refine yT (L2.kD o.a.a.c.a (o.a.a.a.b x h2) m1 m2 m3 (L2.yQ pe L2.yn) h3 rfl rfl) λD' σ H ⟨ρ,hr,er,w⟩=>⟨ρ,hr,er,λρ1 y1 H1 S O r1=>?_⟩;cases r1;refine⟨i,rfl,hi,ρ1,O,er.mono S,λρ2 y2 H2 Y hr2 r2=>?_⟩;cases r2;exact⟨j,rfl,hj,λz=>⟨by rw[AI];simp,o.xr C H2 (w ρ2 H2 (S.trans O Y) hr2 C m1 _ (.no U))⟩⟩
 |_=>exact xF λ_ _ _=>yi
def Vz(o:OkX T n sc N X E)(h:ckS sc N (.g i e) st=true)env s:L2.PS X st (tX X.K X.d E env s (xE (zC T n) (za T n) T.b env e s)):=by
 replace h:=w9 h;obtain⟨ts1,v,pos,rfl,h⟩:=h;replace h:=yc h;obtain⟨t1,rfl,h⟩:=h;replace h:=yK h;obtain⟨x,px,rfl,h⟩:=h;simp only[cf,decide_eq_true_eq,Ay]at h;obtain⟨⟨h1,h2⟩,O,U⟩:=h;obtain⟨l1,l2⟩:=o.a.a.a.e x h2;have W:X.N.Nodup:=by have:=o.a.a.a.a;rw[show X.N=N from this];exact o.a.a.a.d
 have hi:X.N[i]?=some x:=by have:=o.a.a.a.a;rw[show X.N=N from this];exact h1
 by_cases hn:uW v=true
 . exact yT (L2.vT W hi l1 (jxE o e _ O env s) (uH hn) l2) λD σ H z=>z
 . cases e with
   |B _=>cases U
   |h _ _ _=>exact absurd (lu O rfl) hn
   |l _ _ _=>exact absurd (lu O rfl) hn
   |j _ _ _ _=>exact absurd (lu O rfl) hn
   |k _ _ _=>exact absurd (lu O rfl) hn
   |p m Y fr elt t it ifs=>
    replace O:=tu O;obtain⟨Z,tg,iter,fs,csc,cpos,rfl,O⟩:=O;obtain⟨S,oc,g,pg,c4,c5,c6,c7⟩:=dt o O;have Q:∀C P H0 ex,L2.PTs (X.comp Y csc C P H0 ex) fs (uTs X.K X.d (zC T n) T.b ifs):=λC P H0 ex=>(jCs T n ifs _ _ _ _ (oc C P H0 ex) c5).2.2;have R:∀C P H0 ex,L2.PE (X.comp Y csc C P H0 ex) Z (uE X.K X.d (zC T n) T.b elt):=λC P H0 ex=>XE (X:=X.comp Y csc C P H0 ex) λenv s=>jE T n elt _ _ _ _ (oc C P H0 ex) c6 env s;obtain⟨b,hb⟩:=pk (elt:=Z) (gens:=[⟨tg,iter,fs,0⟩]) (csc:=csc) (cpos:=cpos) (y:=x) (py:=px) (l:=pos.line) (env:=X.a);simp only[xE];cases b with
    |true=>exact yT (L2.gF o.a.a.d S (jxI o it tg iter c4 env s) pg Q R W hi l1 hb l2 (yo c7)) λD σ H z=>z
    |false=>exact yT (L2.vT W hi l1 (L2.qQ o.a.a.d S (jxI o it tg iter c4 env s) pg Q R (yo c7)) hb l2) λD σ H z=>z
   |_=>exact xF λ_ _ _=>yi
def uX(T:Tbl)(n:Nat)(X:L2.Cx)(E:L2.XK)(b:Sms):L2.TS:=λD σ H=>∃env s,tX X.K X.d E env s (xSs (wx T) (zC T n) (za T n) T.b env b s) D σ H
mutual
theorem jxS(o:OkX T n sc N X E):∀(a:Sm) (st:Stmt),ckS sc N a st=true->∀env s,L2.PS X st (tX X.K X.d E env s (xS (wx T) (zC T n) (za T n) T.b env a s))
 |.d e,st,h=>λenv s=>by
  replace h:=pZ h;obtain⟨O,p1,rfl,h⟩:=h;simp only[cf]at h;simp only[xS];exact yT (L2.sM (jxE o e _ h.1 env s) (uH h.2)) λD σ H z=>z
 |.f e,st,h=>λenv s=>by
  replace h:=sQ h;obtain⟨q1,p1,rfl,h⟩:=h;replace h:=tF h;obtain⟨O,rfl,h⟩:=h;simp only[xS];exact yT (L2.wm (jxE o e _ h env s)) λD σ H z=>z
 |.g i e,st,h=>λenv s=>by simp only[xS];exact Vz o h env s
 |.j e,st,h=>λenv s=>bS o h env s
 |.h c a b,st,h=>λenv s=>by
  replace h:=mh h;obtain⟨t1,O,Z,p1,rfl,h⟩:=h;simp only[cf]at h;have R:=L2.PT.nox (jC T n c _ _ _ _ o.a.a h.1.1 env s);have Q:∀{S:List Stmt},L2.PSs X S (λ_ _ _=>False):=λpins P σ H D I q=>q.elim;simp only[xS];cases hc:evT (zC T n) T.b env c s with
  |g _ _ _=>exact yT (L2.nJ (jxT o c _ h.1.1 env s) Q Q) λD σ H z=>z
  |d=>exact yT (L2.nJ (jxT o c _ h.1.1 env s) Q Q) λD σ H z=>z
  |e t s1=>
   rw[hc]at R;have W:L2.PSs X _ (uX T n X E a):=λpins P σ H D I ⟨env',s',q⟩=>Yl o a _ h.1.2 env' s' pins P σ H D I q;have U:L2.PSs X _ (uX T n X E b):=λpins P σ H D I ⟨env',s',q⟩=>Yl o b _ h.2 env' s' pins P σ H D I q;refine yT (L2.nJ R W U) λD σ H ⟨ρ,hr,er,w⟩=>⟨ρ,hr,er,λρ1 t' H1 O x Y=>?_⟩;cases Y;simp only[]at w;cases t with
   |true=>exact L2.r8 ⟨env,s1,ρ1,x,er.mono O,oA.mono w O x⟩
   |false=>exact L2.sD ⟨env,s1,ρ1,x,er.mono O,oA.mono w O x⟩
 |.s,_,_=>λ_ _=>xF λ_ _ _=>yi
 |.m _ _,_,_=>λ_ _=>xF λ_ _ _=>yi
 |.n _ _,_,_=>λ_ _=>xF λ_ _ _=>yi
 |.w _ _ _,_,_=>λ_ _=>xF λ_ _ _=>yi
 |.k _ _ _,_,_=>λ_ _=>xF λ_ _ _=>yi
 |.l _ _ _,_,_=>λ_ _=>xF λ_ _ _=>yi
 |.p _ _,_,_=>λ_ _=>xF λ_ _ _=>yi
 |.r,_,_=>λ_ _=>xF λ_ _ _=>yi
 |.v,_,_=>λ_ _=>xF λ_ _ _=>yi
 |.q,_,_=>λ_ _=>xF λ_ _ _=>yi
 |.u _ _ _,_,_=>λ_ _=>xF λ_ _ _=>yi
theorem Yl(o:OkX T n sc N X E):∀(b:Sms) (st:List Stmt),rq sc N b st=true->∀env s,L2.PSs X st (tX X.K X.d E env s (xSs (wx T) (zC T n) (za T n) T.b env b s))
 |.f,_,_=>λ_ _=>λpins x σ H D I q=>(yi q).elim
 |.e c cs,st,h=>λenv s=>by
  replace h:=yR h;obtain⟨U,ts,rfl,h⟩:=h;rw[cf]at h;simp only[xSs];have no:L2.PSs X ts (λ_ _ _=>False):=λpins x σ H D I q=>q.elim;cases hc:exS (zC T n) T.b env c s with
  |g _ _ _=>exact xu (L2.zw (jxS o c _ h.1 env s) no) λD σ H z=>z
  |d=>exact xu (L2.zw (jxS o c _ h.1 env s) no) λD σ H z=>z
  |e fl s1=>
   simp only[];cases fl with
   |a e=>
    have p1:=jS T n c _ _ _ _ o.a h.1 env s;rw[hc]at p1;have P:L2.PS X U (tSt X.K X.d env s (.e (.a e) s1)):=λpins x σ H D I q=>AN (p1 pins x σ H D (I.wa _) q) (λ_ _ z=>z.xB) λ_ _ z=>Az z;have p2:L2.PSs X ts (uX T n X E cs):=λpins x σ H D I ⟨env',s',q⟩=>Yl o cs _ h.2 env' s' pins x σ H D I q;refine xu (L2.zw P p2) λD σ H ⟨ρ,hr,er,w⟩=>⟨ρ,hr,er,λρ1 H1 R S O Q=>?_⟩;exact⟨e,s1,ρ1,O,Q,oA.mono w S O⟩
   |b _=>exact λpins x σ H D I q=>(yi q).elim
   |c _=>exact λpins x σ H D I q=>(yi q).elim
   |d _=>exact λpins x σ H D I q=>(yi q).elim
 |.g _ _ _ _ _ _ _ _,_,_=>λ_ _=>λpins x σ H D I q=>(yi q).elim
end
end
mutual
noncomputable def nM(n:Nat):Val->Bool
 |.m i|.q i=>decide (i<n)
 |.f vs=>wo n vs
 |.h vs=>wo n vs
 |.j|.e _|.c _|.g _|.p|.o _|.r _|.u _|.t _|.s _ _=>true
noncomputable def wo(n:Nat):List Val->Bool
 |[]=>true
 |v::vs=>nM n v&&wo n vs
end
mutual
theorem sO{n:Nat}{v:Val}(h:v.noRef=true):nM n v=true:=by
 cases v with
 |m _=>cases h
 |q _=>cases h
 |f vs=>exact w8 (vs:=vs) h
 |h vs=>exact w8 (vs:=vs) h
 |_=>rfl
theorem w8{n:Nat}{vs:List Val}(h:z6 vs=true):wo n vs=true:=by
 cases vs with
 |nil=>rfl
 |cons v vs=>
  rw[z6,cf]at h;rw[wo,sO h.1,w8 h.2];rfl
end
section
variable {K:KF}{mg:Str->Option Value}
mutual
theorem RD.refs{ρ:Own}{H:L2.Hp}{v:Val}{x:L2.V}(q:RD K mg ρ H v x):nM ρ.o.length v=true:=by
 cases q with
 |m _ _ r=>exact RDs.refs r
 |E _ _ r=>exact RDs.refs r
 |C e _=>exact decide_eq_true (Au.mp e).1
 |s e _=>exact decide_eq_true (Au.mp e).1
 |_=>rfl
theorem RDs.refs{ρ:Own}{H:L2.Hp}{v:List Val}{x:List L2.V}(q:RDs K mg ρ H v x):wo ρ.o.length v=true:=by
 cases q with
 |d=>rfl
 |a r N=>rw[wo,RD.refs r,RDs.refs N];rfl
end
structure Cut(ρ ρ':Own):Prop where
 b:∃new,ρ'.o=ρ.o++new
 d:ρ'.h=ρ.h
theorem Cut.no(c:Cut ρ ρ')(n:ρ'.no a):ρ.no a:=by obtain⟨new,e⟩:=c.b;exact⟨λh=>n.1 (by rw[e];exact BB _ h),by rw[<-c.d];exact n.2⟩
mutual
theorem RD.ue{ρ ρ':Own}{H:L2.Hp}(c:Cut ρ ρ'){v:Val}{x:L2.V}(q:RD K mg ρ' H v x)(h:nM ρ.o.length v=true):RD K mg ρ H v x:=by
 have N:∀{i:Nat} {a:Addr},ρ'.o[i]?=some a->decide (i<ρ.o.length)=true->ρ.o[i]?=some a:=λ{i a} e h=>by obtain⟨new,O⟩:=c.b;rw[O,A2 (of_decide_eq_true h)]at e;exact e
 cases q with
 |A=>exact .A
 |j b=>exact .j b
 |l i=>exact .l i
 |D t=>exact .D t
 |m n e r=>exact .m (c.no n) e (RDs.ue c r h)
 |E n e r=>exact .E (c.no n) e (RDs.ue c r h)
 |B n e=>exact .B (c.no n) e
 |p g=>exact .p g
 |F g=>
  refine .F ?_;rcases g with⟨n,g⟩|g
  . exact .inl ⟨c.no n,g⟩
  . exact .inr g
 |C e k=>exact .C (N e h) k
 |s e k=>exact .s (N e h) k
 |I e=>exact .I e
 |J n=>exact .J n
 |G a k=>exact .G a k
theorem RDs.ue{ρ ρ':Own}{H:L2.Hp}(c:Cut ρ ρ'){v:List Val}{x:List L2.V}(q:RDs K mg ρ' H v x)(h:wo ρ.o.length v=true):RDs K mg ρ H v x:=by
 cases q with
 |d=>exact .d
 |a r N=>
  rw[wo,cf]at h;exact .a (RD.ue c r h.1) (RDs.ue c N h.2)
end
noncomputable def ny:Cel->List Val
 |.c vs=>vs
 |.e kvs=>kvs.map (·.2)
 |.f kvs=>kvs.map (·.2)
 |.d _=>[]
def CR.vals(h:CR K mg ρ H a c):∃N,RDs K mg ρ H (ny c) N:=by
 cases c with
 |c vs=>obtain⟨N,_,r⟩:=h;exact⟨_,r⟩
 |e O=>obtain⟨N,_,_,r⟩:=h;exact⟨_,r⟩
 |f O=>obtain⟨N,_,_,r⟩:=h;exact⟨_,r⟩
 |d x=>exact⟨[],.d⟩
def gk(h:c.noRef=true):z6 (ny c)=true:=by cases c<;>first|exact h|rfl
theorem CR.ue(c:Cut ρ ρ')(h:CR K mg ρ' H a o)(O:wo ρ.o.length (ny o)=true):CR K mg ρ H a o:=by
 cases o with
 |c vs=>obtain⟨x,e,r⟩:=h;exact⟨x,e,RDs.ue c r O⟩
 |e N=>obtain⟨x,e,k,r⟩:=h;exact⟨x,e,k,RDs.ue c r O⟩
 |f N=>obtain⟨x,e,k,r⟩:=h;exact⟨x,e,k,RDs.ue c r O⟩
 |d y=>
  obtain⟨ps,e1,k,r,g⟩:=h;refine⟨ps,e1,k,λpos U S=>?_,g⟩;obtain⟨a,o,vs,t,q1,R,Q,P⟩:=r pos U S;exact⟨a,o,vs,t,q1,c.no R,Q,P⟩
theorem mU{O N:Type}:∀{a b:List (O × N)},a.map (·.1)=b.map (·.1)->a.map (·.2)=b.map (·.2)->a=b
 |[],[],_,_=>rfl
 |[],_::_,h,_=>by cases h
 |_::_,[],h,_=>by cases h
 |x::xs,y::ys,h1,h2=>by
  rw[AW,AW]at h1 h2;injection h1 with a1 a2
  injection h2 with b1 b2
  rw[mU a2 b2,Prod.ext a1 b1]
theorem ly:∀{s s'} {i} {o'},wV s s'=true->i<s.length->s'[i]?=some o'->o'.noRef=true\/s[i]?=some o'
 |[],_,_,_,_,h,_=>by cases h
 |o::r,[],_,_,h,_,_=>by cases h
 |o::r,o'::r',0,q,h,_,e=>by
  rw[wV,cf,Ay]at h;simp only[List.getElem?_cons_zero,D8]at e;subst e;rcases h.1 with z|z
  . exact .inl z
  . right
    cases o' with
    |c a=>cases o with
     |c b=>simp only[Cel.beq]at z;rw[td z];rfl
     |_=>cases z
    |e a=>cases o with
     |e b=>simp only[Cel.beq,cf,decide_eq_true_eq]at z;rw[mU z.1 (td z.2)];rfl
     |_=>cases z
    |f a=>cases o with
     |f b=>simp only[Cel.beq,cf,decide_eq_true_eq]at z;rw[mU z.1 (td z.2)];rfl
     |_=>cases z
    |d a=>cases o with
     |d b=>simp only[Cel.beq,decide_eq_true_eq]at z;rw[z];rfl
     |_=>cases z
 |o::r,o'::r',i+1,q,h,hi,e=>by
  rw[wV,cf]at h;have:=ly (i:=i) h.2 (by simpa using hi) (by simpa using e)
  simpa using this
noncomputable def Uq:Val->Bool
 |.m _|.q _|.f _=>false
 |.j|.e _|.c _|.g _|.p|.o _|.r _|.u _|.t _|.h _|.s _ _=>true
def YL{n:Nat}{s:Sto}{k i:Nat}:vJ n s k (.m i)=if i<n then some (Val.m i) else match s[i]? with
 |some (.c vs)=>if z6 vs then some (.h vs) else dS
 |_=>dS:=by cases k<;>rfl
def cV:vJ n s k (.q i)=if i<n then some (Val.q i) else dS:=by cases k<;>rfl
def cW(h:Uq v=true):vJ n s k v=if v.noRef then some v else dS:=by
 cases v with
 |m _=>cases h
 |q _=>cases h
 |f _=>cases h
 |_=>cases k<;>rfl
def YK:t9 n s k []=some []:=by cases k<;>rfl
mutual
theorem qt{ρ ρ':Own}{H:L2.Hp}{s:Sto}(c:Cut ρ ρ')(O:HR K mg ρ' s H){k:Nat}{v N:Val}{x:L2.V}(r:RD K mg ρ' H v x)(h:vJ ρ.o.length s k v=some N):RD K mg ρ H N x:=by
 have U:∀{w:Val},RD K mg ρ' H w x->(if w.noRef then some w else dS)=some N->RD K mg ρ H N x:=λ{w} r h=>by
  split at h
  . rename_i hn;cases h;exact RD.ue c r (sO hn)
  . cases h
 cases v with
 |m i=>
  rw[YL]at h;cases r with
  |C e Q=>
   by_cases hi:i<ρ.o.length
   . rw[if_pos hi]at h
     cases h;exact RD.ue c (.C e Q) (by rw[nM];exact decide_eq_true hi)
   . rw[if_neg hi]at h
     split at h
     . rename_i vs hs
       split at h
       . rename_i hn
         cases h;obtain⟨a,xs,e1,e2,q⟩:=O.obj i vs hs;rw[e]at e1;cases e1;obtain⟨new,e'⟩:=c.b;have W:=A4 e;refine .E ⟨λP=>?_,λY=>?_⟩ e2 (RDs.ue c q (w8 hn))
         . obtain⟨j,R,Z⟩:=BI P
           have S:ρ'.o[j]?=ρ'.o[i]?:=by rw[e,e',A2 R,Ab R,Z]
           have:=bt O.v e (S.trans e);exact hi (this▸R)
         . exact(O.d _ (by rw[c.d];exact Y)).2 W
       . cases h
     . cases h
 |q i=>
  rw[cV]at h;split at h
  . rename_i hi
    cases h;exact RD.ue c r (by rw[nM];exact decide_eq_true hi)
  . cases h
 |f vs=>
  cases k with
  |zero=>exact U r h
  |succ k=>
   rw[vJ,BF]at h;obtain⟨ws,h1,rfl⟩:=h;cases r with
   |m n e q=>exact .m (c.no n) e (qr c O q h1)
 |_=>exact U r ((cW rfl).symm.trans h)
theorem qr{ρ ρ':Own}{H:L2.Hp}{s:Sto}(c:Cut ρ ρ')(O:HR K mg ρ' s H){k:Nat}{v N:List Val}{x:List L2.V}(r:RDs K mg ρ' H v x)(h:t9 ρ.o.length s k v=some N):RDs K mg ρ H N x:=by
 cases r with
 |d=>rw[YK]at h;cases h;exact .d
 |@a v _ vs _ r1 P=>
  cases k with
  |zero=>cases h
  |succ k=>
   rw[t9]at h;split at h
   . rename_i a b ha hb
     cases h;refine .a ?_ (qr c O P hb);by_cases hn:v.noRef=true
     . rw[if_pos hn]at ha;cases ha;exact RD.ue c r1 (sO hn)
     . rw[if_neg hn]at ha;exact qt c O r1 ha
   . cases h
end
def lj(h0:HR K mg ρ s H)(w:yU K mg (RD K mg) ρ H (leave F s v s1) Q)(X:Ext ρ H ρ' H')(N:HR K mg ρ' s1 H')(r:RD K mg ρ' H' v x):Q x H':=by
 unfold leave at w;by_cases hk:F.c=true
 . rw[if_pos hk]at w;exact w ρ' x H' X N r
 . rw[if_neg hk]at w
   by_cases ho:wV s s1=true
   . rw[if_pos ho]at w
     have c:Cut ρ ρ':=⟨by obtain⟨new,e,_⟩:=X.d;exact⟨new,e⟩,X.f⟩
     cases hf:freeze s.length s1 v with
     |none=>rw[hf]at w;exact w.elim
     |some Y=>
      rw[hf]at w;have P:s.length<=s1.length:=by obtain⟨new,e,_⟩:=X.d;rw[<-h0.f,<-N.f,e,Ao];omega
      refine w ρ x H' ⟨⟨[],by simp,λa O=>by cases O⟩,rfl,X.c,X.g⟩ ⟨?_,h0.v,λi vs e=>?_,λa O=>?_⟩ ?_
      . rw[BX,h0.f];omega
      . have hi:i<s.length:=by have:=(Au.mp e).1;rw[BX]at this;omega
        rw[FP hi]at e;obtain⟨a,e1,q⟩:=N.m i vs e;have e3:ρ.o[i]?=some a:=by
         obtain⟨new,U,_⟩:=X.d;rw[U,A2 (by rw[h0.f];exact hi)]at e1
         exact e1
        refine⟨a,e3,q.ue c ?_⟩;rcases ly ho hi e with z|z
        . exact w8 (gk z)
        . obtain⟨b,_,S⟩:=h0.m i vs z
          obtain⟨W,R⟩:=S.vals;exact RDs.refs R
      . obtain⟨z,n⟩:=N.d a (by rw[X.f];exact O)
        exact⟨z,(h0.d a O).2⟩
      . unfold freeze at hf
        by_cases hn:v.noRef=true
        . rw[if_pos hn]at hf;cases hf;exact RD.ue c r (sO hn)
        . rw[if_neg hn,<-h0.f]at hf
          exact qt c N r hf
   . rw[if_neg ho]at w;exact w.elim
def kK(r:RDs K mg ρ H args vs):ER K mg ρ H (zi N args) (L2.start N vs):=by
 refine⟨by unfold zi L2.start;rw[Ao,Ao,Ac,Ac,Dn,Dn,r.length],λi v e=>?_⟩
 unfold zi at e;unfold L2.start;by_cases hi:i<args.length
 . rw[A2 (by simpa using hi),AE]at e
   rw[A2 (by rw[Ac,<-r.length];exact hi),AE]
   cases ha:args[i]? with
   |none=>rw[ha]at e;cases e
   |some a=>
    rw[ha]at e;have:a=v:=A1 (A1 e);subst this;obtain⟨x,h1,O⟩:=r.get ha;exact⟨x,by rw[h1];rfl,O⟩
 . rw[Bz (by simpa using hi),D4]at e
   split at e<;>cases e
end
noncomputable def argNames(a:Er):Option (List Str):=
 if a.posonlyargs.isEmpty&&a.vararg.isNone&&a.kwonlyargs.isEmpty&&a.kw_defaults.isEmpty&&a.kwarg.isNone&&a.defaults.isEmpty then some (a.args.map (·.arg)) else none
def gm(st:Stmt)(F:Fn):Bool:=
 match st with
 |.FunctionDef _ args body _ _ _ sc _ _ _=>decide (argNames args=some F.b)&&decide (sc.kind=.function)&&!sc.isCoroutine&&!sc.isGenerator&&decide F.N.Nodup&&decide (F.N.take F.b.length=F.b) &&
  F.b.all (λx=>decide (sc.names.lookup x=some .local)||decide (sc.names.lookup x=some .cell))&&sc.names.all (λy=>decide (y.2≠.free))&&rq sc F.N F.a body
 |_=>false
def jH:∀{ps:List Str} {us:List Value},ps.Nodup->us.length=ps.length->ps.filterMap (λn=>((ps.zip us).lookup n).map (n,·))=ps.zip us:=by
 have N:∀(ps x:List Str) (us ws:List Value),(x++ps).Nodup->us.length=ps.length->ws.length=x.length->ps.filterMap (λn=>(((x++ps).zip (ws++us)).lookup n).map (n,·))=ps.zip us:=by
  intro ps;induction ps with
  |nil=>intro x us ws _ _ _;rfl
  |cons p ps S=>
   intro x us ws nd h1 R;cases us with
   |nil=>cases h1
   |cons u us=>
    have U:((x++p::ps).zip (ws++u::us)).lookup p=some u:=by
     rw[List.zip_append R.symm];have:∀(x:List Str) (ws:List Value),p ∉ x->((x.zip ws)++(p::ps).zip (u::us)).lookup p=some u:=by
      intro x;induction x with
      |nil=>intro ws _;simp
      |cons q x O=>
       intro ws Q;cases ws with
       |nil=>simp
       |cons w ws=>
        have P:(p == q)=false:=by
         have:p≠q:=λz=>Q (by rw[z];exact Ax)
         simpa using this
        rw[List.zip_cons_cons,List.cons_append,Aq,P];exact O ws λz=>Q (Ah _ z)
     refine this x ws λz=>?_;rw[FG]at nd;exact nd.2.2 p z p Ax rfl
    rw[A3,U];have:=S (x++[p]) us (ws++[u]) (by simpa using nd) (by simpa using h1) (by simp[R])
    rw[Bx,Bx]at this;exact congrArg ((p,u)::·) this
 intro ps us nd h;simpa using N ps [] us [] (by simpa using nd) h rfl
theorem lookup_some:∀{ps:List Str} {us:List Value},us.length=ps.length->∀n∈ps,((ps.zip us).lookup n).isNone=false
 |[],_,_,n,h=>by cases h
 |p::ps,[],h,_,_=>by cases h
 |p::ps,u::us,h,n,hn=>by
  rw[List.zip_cons_cons,Aq];cases hb:(n == p) with
  |true=>rfl
  |false=>
   have:n≠p:=by simpa using hb
   rcases Ap.mp hn with z|z
   . exact absurd z this
   . exact lookup_some (by simpa using h) n z
def vt(h:argNames a=some ps)(nd:ps.Nodup)us(O:us.length=ps.length) :
 GA (BL x qual a body sc .none kV doc pm an cdv ct) ⟨us,[]⟩=pure (ps.zip us):=by
 unfold argNames at h;split at h
 . rename_i hc
   simp only[cf,A0,BW]at hc;obtain⟨⟨⟨⟨⟨h1,W⟩,U⟩,S⟩,R⟩,Q⟩:=hc;cases h;obtain⟨po,N,va,ko,kd,kw,df⟩:=a;simp only at h1 W U S R Q O nd ⊢;subst h1 W U S R Q;have Z:((N.map (·.arg)).take ((N.map (·.arg)).length-0)).filter (λn=>(((N.map (·.arg)).zip us).lookup n).isNone)=[]:=by rw[List.filter_eq_nil_iff];intro n Y;rw[lookup_some O n (Dz Y)];decide
   unfold GA;have hd:seqItems? Bg=pure none:=rfl;have hg:¬(us.length > (N.map (·.arg)).length/\True):=by rintro ⟨z,_⟩;omega
   simp only[BL,EL,EJ,A9,Gw,Ey,hd,FR,List.toList_toArray,BV,List.drop_nil,FX,Option.isNone_none,Fu];rw[if_neg (by rw[Ac]at O;simp;omega)]
   have P:(List.filter (λn=>(Cy n ((Eo (λx=>x.arg) N).zip us)).isNone) (List.take (Eo (λx=>x.arg) N).length (Eo (λx=>x.arg) N)))=[]:=Z;rw[P,if_neg (by decide),List.zip_nil_right,Gw,Ey,if_neg (by decide),jH nd O]
 . cases h
def tP(K:KF)(x:Str)(st:Stmt):Prop:=∃f fd,BK K AS x=some (some (.ref f))/\L2.Fun K x x st f fd
def W8(a:BK K AS x=some (some (.ref f)))
 (l:K.lookup f=some ⟨oc,od,.func (BL x x (L2.xM st) (L2.z9 st) (L2.zF st) .none kV doc pm an cdv ct),osl⟩) (c:B1 K cdv x=true) (k:B2 K (.ref f)=true):tP K x st:=
 ⟨f,_,a,L2.cY l c k⟩
section
variable {P:Program}{w:World}{K:KF}{mg:Str->Option Value}{base:Heap}{T:Tbl}
structure Top(T:Tbl)(K:KF)(mg:Str->Option Value):Prop where
 a:∀f v F,T.e f v=some F->∃st fa fd,mg f=some (.ref fa)/\L2.Fun K f f st fa fd/\gm st F=true/\((∃b,T.c b=true)->("!":Str)∈F.N->f∈T.f)
 e:∀x v,T.b x=some v->∃u xv,mg x=some u/\L2.RelV xv u/\∀ρ H,RD K mg ρ H v xv
 d:∀x∈wR,mg x=none
 no:∀f v,100<=v->T.e f v=none
 c:(T.d≠[]\/∃b,T.c b=true)->Sc T K mg
def vH(h:gm st F=true):argNames (L2.xM st)=some F.b/\L2.xt F.N F.b (L2.zF st)/\rq (L2.zF st) F.N F.a (L2.z9 st)=true:=by
 unfold gm at h;split at h
 . simp only[cf,decide_eq_true_eq,AK,AB,Ay]at h
   obtain⟨⟨⟨⟨⟨⟨⟨⟨h1,W⟩,U⟩,S⟩,R⟩,Q⟩,P⟩,O⟩,x⟩:=h;exact⟨h1,⟨W,U,S,R,Q,P,O⟩,x⟩
 . cases h
def aA(top:Top T K mg)(U:∀j,j<=n->Lv T P w K mg base j){F:Fn}(p2:L2.xt F.N F.b (L2.zF st))
 (S:mg f=some (.ref fa)) (hk:K.lookup fa=some ⟨oc,od,.func (BL f f (L2.xM st) (L2.z9 st) (L2.zF st) .none kV doc pm an cdv ct),osl⟩) (Q:B1 K cdv f=true) (R:(∃b,T.c b=true)->("!":Str)∈F.N->f∈T.f)
       (hr:L2.xH n (A.deeper (PyProof.Rows.envOfC f (L2.zF st) s.heap.objs.size fa cdv))):OkF T n (L2.zF st) F.N (L2.yl CX P w K mg base F.N f (L2.zF st) fa cdv A outer s H E).nox:=by
 refine⟨⟨rfl,hr,⟨rfl,p2.b,λx hx=>hx,λx hx=>⟨hx,.inl rfl⟩,λx hx=>hx,λx hx=>hx⟩,λg W G hg=>?_,top.e,top.d,rfl,top.no,λm S O=>⟨top.c (.inr O),λj hj=>U j ⋯⟩,λO _ hx=>?_⟩,rfl,?_⟩
 . obtain⟨ga,gd,q1,q2,Z,Y,q5⟩:=(U n (Ad _)).a g W G hg
   exact⟨ga,gd,q1,q2,Z,Y⟩
 . have:∃c,cdv=.ref c:=by
    unfold B1 at Q;split at Q
    . exact⟨_,rfl⟩
    . cases Q
   obtain⟨c,rfl⟩:=this;exact⟨f,R O hx,fa,c,_,_,S,hk,rfl,rfl,rfl,rfl⟩
 . show (if (L2.zF st).kind.isAnnotationScope then ScopeKind.function else (L2.zF st).kind)=.function
   rw[p2.a];rfl
def WC(top:Top T K mg)(IH:∀j,j<=n->Lv T P w K mg base j)(h:T.e f v=some F)(hm:mg f=some (.ref fa))(e2:L2.Fun K f f st fa fd)(e3:gm st F=true)
 (Z:(∃b,T.c b=true)->("!":Str)∈F.N->f∈T.f):L2.tR P w K mg base L2.CX0 (n+1) fa fd F.b (spN T K mg (n+1) f v):=by
 obtain⟨p1,p2,p3⟩:=vH e3;have O:∀(vs:List Val) (s:Sto),zC T (n+1) f v vs s=run T (zC T n) F vs s:=λvs s=>by simp only[zC,h]
 obtain⟨oc,od,kV,doc,pm,an,cdv,ct,osl,rfl,lk,U⟩:=e2.a;refine L2.WB lk U p2 (λvs H Q E q=>?_) λA outer s H vs Q E hr q=>?_
 . obtain⟨ρ,t,as,_,r,z⟩:=q
   rw[O]at z;unfold run at z;split at z
   . rename_i S;rw[<-r.length];exact S
   . exact z.elim
 . obtain⟨ρ,t,as,h0,r,z⟩:=q
   rw[O]at z;unfold run at z;have S:as.length=F.b.length:=by
    by_cases S:as.length=F.b.length
    . exact S
    . rw[if_neg S]at z;exact z.elim
   rw[if_pos S]at z;have Y:=aA (CX:=L2.CX0) (P:=P) (w:=w) (base:=base) (outer:=outer) (s:=s) (H:=H) (E:=E) top IH p2 hm lk U Z hr;refine⟨_,(jSs T n F.a (L2.zF st) F.N _ (L2.z9 st) Y p3 (zi F.N as) t).nox,ρ,h0,kK r,?_⟩;show ui K mg ρ H (zU (zC T n) T.b (zi F.N as) F.a t) _;cases hx:zU (zC T n) T.b (zi F.N as) F.a t with
   |e fl s1=>
    rw[hx]at z;cases fl with
    |a e=>exact λρ1 H1 σ1 W R er1=>lj h0 z W R .A
    |b v'=>exact λρ1 H1 x W R r1=>lj h0 z W R r1
    |c e=>exact z.elim
    |d e=>exact z.elim
   |g _ _ _=>rw[hx]at z;exact z.elim
   |d=>rw[hx]at z;exact z.elim
def QT(top:Top T K mg)(hB:K.In base)(IH:∀j,j<=n->Lv T P w K mg base j)(h:T.e f v=some F)(hm:mg f=some (.ref fa))(e2:L2.Fun K f f st fa fd)(e3:gm st F=true)
 (Z:(∃b,T.c b=true)->("!":Str)∈F.N->f∈T.f):L2.tR P w K mg base (L2.CXE P w) (n+1) fa fd F.b (λvs H Q E=>∃ρ s args,HR K mg ρ s H/\RDs K mg ρ H args vs/\oA K mg ρ H (za T (n+1) f v args s) E):=by
 obtain⟨p1,p2,p3⟩:=vH e3;have x:∀(vs:List Val) (s:Sto),za T (n+1) f v vs s=if vs.length=F.b.length then xSs (wx T) (zC T n) (za T n) T.b (zi F.N vs) F.a s else dS:=λvs s=>by simp only[za,h]
 obtain⟨oc,od,kV,doc,pm,an,cdv,ct,osl,rfl,lk,U⟩:=e2.a;refine L2.WB lk U p2 (λvs H Q E q=>?_) λA outer s H vs Q E hr q=>?_
 . obtain⟨ρ,t,as,_,r,z⟩:=q
   rw[x]at z;split at z
   . rename_i S;rw[<-r.length];exact S
   . exact z.elim
 . obtain⟨ρ,t,as,h0,r,z⟩:=q
   rw[x]at z;have S:as.length=F.b.length:=by
    by_cases S:as.length=F.b.length
    . exact S
    . rw[if_neg S]at z;exact z.elim
   rw[if_pos S]at z;have Y:=aA (CX:=L2.CXE P w) (P:=P) (w:=w) (base:=base) (outer:=outer) (s:=s) (H:=H) (E:=E) top IH p2 hm lk U Z hr;have W:OkX T n (L2.zF st) F.N (L2.yl (L2.CXE P w) P w K mg base F.N f (L2.zF st) fa cdv A outer s H E) E:=by
    refine⟨Y,L2.fg,λC H hE=>L2.Xu hE,λC d H hE=>L2.Zv hE,IH n (Ad _),λR=>?_,λc R hng=>?_⟩
    . have O:T.d≠[]:=λz=>by rw[z]at R;cases R
      exact(top.c (.inl O)).gr R base hB
    have O:T.d≠[]:=λz=>by rw[z]at R;cases R
    obtain⟨_,_,_,_,hue,_,_,_,_,RF⟩:=(top.c (.inl O)).a;obtain⟨w',hw⟩:=Cj.mp R;obtain⟨C,q1,q2,q3⟩:=RF c w' hw hng base hB;exact⟨C,hue,q1,q2,q3⟩
   exact⟨_,Yl W F.a (L2.z9 st) p3 (zi F.N as) t,ρ,h0,kK r,z⟩
def UB(top:Top T K mg)(hB:K.In base):∀n j,j<=n->Lv T P w K mg base j:=by
 have step:∀n,(∀j,j<n->Lv T P w K mg base j)->Lv T P w K mg base n:=λn IH=>⟨λf v F hf=>by
  obtain⟨st,fa,fd,q1,O,S,W⟩:=top.a f v F hf;obtain⟨r1,U,r3⟩:=vH S;have nd:F.b.Nodup:=by rw[<-U.c];exact U.b.sublist (Fx _ _)
  have hb:L2.Binds K fd F.b []:=O.binds λkV doc pm an cdv ct us hl=>vt r1 nd us hl;cases n with
  |zero=>
   refine⟨fa,fd,q1,O.b,hb,⟨λvs H Q E q=>?_,λA outer s H args us vs Q E _ _ _ _ q=>?_⟩,⟨λvs H Q E q=>?_,λA outer s H args us vs Q E _ _ _ _ q=>?_⟩⟩
   . obtain⟨ρ,t,as,_,_,z⟩:=q;exact z.elim
   . obtain⟨ρ,t,as,_,_,z⟩:=q;exact z.elim
   . obtain⟨ρ,t,as,_,_,z|z⟩:=q<;>exact z.elim
   . obtain⟨ρ,t,as,_,_,z|z⟩:=q<;>exact z.elim
  |succ n=>
   have R:∀j,j<=n->Lv T P w K mg base j:=λj hj=>IH j ⋯
   have a:=WC (P:=P) (w:=w) (base:=base) top R hf q1 O S W;have b:=QT (P:=P) (w:=w) (base:=base) top hB R hf q1 O S W;refine⟨fa,fd,q1,O.b,hb,a,⟨λvs H Q E q=>?_,λA outer s H args us vs Q E h1 h2 h3 h4 q=>?_⟩⟩
   . obtain⟨ρ,t,as,N,x,z|z⟩:=q
     . exact a.b vs H Q E ⟨ρ,t,as,N,x,z⟩
     . exact b.b vs H Q E ⟨ρ,t,as,N,x,z⟩
   . obtain⟨ρ,t,as,N,x,z|z⟩:=q
     . refine CY (a.a A outer s H args us vs Q E h1 h2 h3 h4 ⟨ρ,t,as,N,x,z⟩) λr s' Z=>?_
       cases r with
       |error e=>exact Az Z
       |ok fl=>cases fl<;>exact Z
     . exact b.a A outer s H args us vs Q E h1 h2 h3 h4 ⟨ρ,t,as,N,x,z⟩⟩
 intro n;induction n with
 |zero=>intro j hj;exact step j λi hi=>absurd hi ⋯
 |succ n Y=>
  intro j hj;by_cases h:j<=n
  . exact Y j h
  . have:j=n+1:=by omega
    subst this;exact step _ λi hi=>Y i ⋯
end
end M
end
section
namespace M
open PySem Hd
def gT(K:KF)(x:Str):Val->Prop
 |.c i=>∃t,BK K AS x=some (some (.int i t))
 |.g y=>∃t,BK K AS x=some (some (.str y t))
 |.o ns=>∃a,BK K AS x=some (some (.ref a))/\KT K a (ns.map L2.V.d)
 |_=>False
noncomputable def glO(fnL:List ((Str × Nat) × Fn))(glL:List (Str × Val))(x:Str):Option Val:=match glL.lookup x with
 |some v=>some v
 |dS=>match fnL.lookup (x,0) with
  |some _=>some (.u x)
  |dS=>dS
def kQ(fnL:List ((Str × Nat) × Fn))(glL:List (Str × Val))(tb:List Str)(xc:List (Str × Str))(md:Bool->Bool):Tbl:=⟨λf v=>fnL.lookup (f,v),glO fnL glL,tb,xc,md⟩
def nR(fnL:List ((Str × Nat) × Fn))(D:List (Str × Stmt)):Bool:=fnL.all λp=>decide (p.1.2<100)&&match D.lookup p.1.1 with|some st=>gm st p.2|none=>false
theorem yw{x N:Type} [BEq x] [LawfulBEq x]:∀{l:List (x × N)} {a:x} {b:N},l.lookup a=some b->(a,b)∈l
 |[],_,_,h=>by cases h
 |(c,d)::l,a,b,h=>by
  rw[Aq]at h;cases hb:(a == c) with
  |true=>rw[hb]at h;cases h;rw[Cg hb];exact Ax
  |false=>rw[hb]at h;exact Ah _ (yw h)
def TY(X:K.In h)(G:h.Ns AS mg)(hd:∀p∈D,tP K p.1 p.2)(Y:∀p∈glL,gT K p.1 p.2)(Z:∀x∈wR,BK K AS x=some none)
 (O:nR fnL D=true)    (Q:(∃b,md b=true)->fnL.all (λp=>!decide (("!":Str)∈p.2.N)||decide (p.1.1∈tb))=true) (sc:(xc≠[]\/∃b,md b=true)->Sc (kQ fnL glL tb xc md) K mg):Top (kQ fnL glL tb xc md) K mg:=by
 refine⟨λf v F e=>?_,λx v e=>?_,λx hx=>PySem.W.mg_none_of X G (Z x hx),λf v hv=>?_,sc⟩
 . have P:((f,v),F)∈fnL:=yw e
   unfold nR at O;rw[AB]at O;have h1:=O _ P;rw[cf]at h1;have h1:=h1.2;split at h1
   . rename_i st hs
     obtain⟨fa,fd,a,U⟩:=hd _ (yw hs);refine⟨st,fa,fd,DG X G a,U,h1,λR hN=>?_⟩;have:=AB.mp (Q R) _ P;simp only[Ay,AK,decide_eq_false_iff_not,decide_eq_true_eq]at this;exact this.resolve_left λz=>z hN
   . cases h1
 case refine_3=>
  show fnL.lookup (f,v)=none;cases e:fnL.lookup (f,v) with
  |none=>rfl
  |some F=>
   have P:((f,v),F)∈fnL:=yw e;unfold nR at O;rw[AB]at O;have h1:=O _ P;rw[cf,decide_eq_true_eq]at h1;have S:v<100:=h1.1;omega
 . have e:glO fnL glL x=some v:=e
   unfold glO at e;split at e
   case h_2=>
    split at e
    . rename_i F hF
      cases e;unfold nR at O;rw[AB]at O;have h1:=O _ (yw hF);rw[cf]at h1;have h1:=h1.2;split at h1
      . rename_i st hs
        obtain⟨fa,fd,a,U⟩:=hd _ (yw hs);exact⟨_,.c fa,DG X G a,rfl,λρ H=>.I (DG X G a)⟩
      . cases h1
    . cases e
   rename_i v' e';cases e;have P:(x,v)∈glL:=yw e';have h1:=Y _ P;cases v with
   |c i=>
    obtain⟨t,a⟩:=h1;exact⟨_,.d i,DG X G a,⟨t,rfl⟩,λρ H=>.l i⟩
   |g y=>
    obtain⟨t,a⟩:=h1;exact⟨_,.e y,DG X G a,⟨t,rfl⟩,λρ H=>.D y⟩
   |o ns=>
    obtain⟨a,S,h3⟩:=h1;exact⟨_,.c a,DG X G S,rfl,λρ H=>.p h3⟩
   |_=>exact h1.elim
def int_mk(a:BK K AS x=some (some (.int i t))):gT K x (.c i):=⟨t,a⟩
def str_mk(a:BK K AS x=some (some (.str y t))):gT K x (.g y):=⟨t,a⟩
theorem qw:∀{us} {ns},lW us=some ns->L2.Vals (ns.map L2.V.d) us
 |[],_,h=>by cases h;exact .nil
 |u::us,ns,h=>by
  cases u with
  |int i t=>
   simp only[lW,BF]at h;obtain⟨x,h1,rfl⟩:=h;exact .cons ⟨t,rfl⟩ (qw h1)
  |_=>cases h
def YA(h:BK K AS x=some (some (.ref a)))
 (l:K.lookup a=some ⟨.type "tuple",od,.seq us.toArray n,sl⟩) (hz:us.length<=1000) (hi:lW us=some ns):gT K x (.o ns):=
 ⟨a,h,_,us.toArray,n,l,rfl,rfl,by rw[Ai,AI];omega,by simpa using qw hi⟩
structure Tq(T:Tbl)(K:KF)(mg:Str->Option Value)(h:Heap)(tabs:List Addr):Prop where
 nd:tabs.Nodup
 b:tabs.length=T.f.length
 a:∀(i:Nat) (g:Str),T.f[i]?=some g->∃P,tabs[i]?=some P/\h.get? P=some (EZ #[])/\K.lookup P=none/\Gm h P /\
  ∃(fa c:Addr) (o:Obj) (fd:BD),mg g=some (.ref fa)/\K.lookup fa=some o/\o.data=.func fd/\fd.code=.ref c/\∀h':Heap,K.In h'->PySem.W.CodeHd h' c P
def R3(K:KF)(tabs:List Addr):L2.Sp:=λvs H Q _=>∃(a:Addr) (ns:List Int),vs=[.c a]/\(∀b∈tabs,H b=some (.g #[]))/\L2.SqL K H a (ns.map L2.V.d)/\ns.length<=63/\∀H',Q (.f true) H'
def walk{l:PySem.W.OpenLaw}(hn:l.most=some 63)(hdf:d.params.defaults=[])(hr:L2.xH n callerA)
 (hY:∀w h,YP w h->K.In h) (hF:T.e d.name 0=some F) (hx:F.b=[x])
 (TOP:∀w N mg mb h,PySem.W.Ground q loose [] XP w N mg mb h->K.In h->Top T K mg/\∃tabs,Tq T K mg h tabs)
 (HL:∀ns:List Int,ns.length<=63->∃s',zC T n d.name 0 [.r ns] (T.f.map .d)=.e (.e true) s') :
 PySem.W.WalkO q loose XP YP l.row.toRowW d [] (λf vs=>PySem.call f vs):=by
 refine Att.lK hn hdf λw N O mg mb fa o pm cd doc a vs ns G Y ho hd hcd hmg Z S R hg=>?_;have KX:=hY w _ Y;obtain⟨top,tabs,TE⟩:=TOP w N mg mb _ G KX;obtain⟨st,fa',fd',e1,e2,e3,e4⟩:=top.a _ _ _ hF;obtain⟨p1,p2,p3⟩:=vH e3;have nd:F.b.Nodup:=by rw[<-p2.c];exact p2.b.sublist (Fx _ _)
 rw[e1]at hmg;cases hmg;cases n with
 |zero=>
  obtain⟨s',hs⟩:=HL [] (by decide)
  cases hs
 |succ n=>
  have U:∀b∈tabs,O.heap.get? b=some (EZ #[])/\K.lookup b=none/\Gm O.heap b:=λb hb=>by
   obtain⟨i,hi,e⟩:=BI hb;obtain⟨P,q1,q2,q3,q4,_⟩:=TE.a i _ (Ab (by rw[<-TE.b];exact hi))
   rw[Ab hi,e]at q1;cases q1;exact⟨q2,q3,q4⟩
  refine L2.fH (CX:=L2.CX0) (k:=n+1) (fd:=fd') (x:=x) (sp:=R3 K tabs) (tabs:=tabs) KX G.T.g G.T.b G.T.builtins G.T.nolimit hg Z S (As R (by decide)) hr U (λbase kb nb=>?_) (λs u=>?_) (λH hT hS=>⟨a,ns,rfl,hT,hS,R,λ_=>rfl⟩) λ_ _ _ z=>z
  . have f4:=WC (P:=l.prog) (w:=w) (base:=base) top (λj hj=>UB top kb n j hj) hF e1 e2 e3 e4
    rw[hx]at f4;refine f4.imp λvs H Q E zz=>?_;obtain⟨a,ns,e,hT,hS,hl,hq⟩:=zz;subst e;obtain⟨s',hs⟩:=HL ns hl;refine⟨⟨tabs,[]⟩,T.f.map .d,[.r ns],⟨by rw[Ac];exact TE.b,TE.nd,λi c z=>?_,λa z=>by cases z⟩,.a (.F ?_) .d,?_⟩
    . rw[AE]at z
      cases hg:T.f[i]? with
      |none=>rw[hg]at z;cases z
      |some g=>
       rw[hg]at z;cases z;obtain⟨P,q1,q2,q3,q4,fn⟩:=TE.a i g hg;exact⟨P,q1,#[],hT P (A4 q1),AX,λpos cv hc=>(nomatch hc),fn⟩
    . rcases hS with hS|hS
      . refine .inl ⟨⟨λhm=>?_,by simp⟩,hS⟩
        have:=hT a hm;rcases hS with z|⟨o,z⟩<;>(rw[this]at z;cases z)
      . exact .inr hS
    . rw[hs]
      intro ρ' x' H' _ _ r;cases r;exact hq H'
  . obtain⟨oc,od,kV,doc,pm,an,cdv,ct,osl,e,_⟩:=e2.a
    subst e;refine .of_eq ?_;have:=vt (x:=d.name) (qual:=d.name) (body:=L2.z9 st) (sc:=L2.zF st) (kV:=kV) (doc:=doc) (pm:=pm) (cdv:=cdv) (ct:=ct) (an:=an) p1 nd [u] (by rw[hx];rfl)
    rw[hx]at this;exact this
end M
end
section
namespace F
open PySem M
noncomputable def yD:Fn:=⟨["_law_script","_law_k"],["_law_script","_law_k"],false,(.e (.h (.a (.l .l (.e 1) (.k .a false (.a (.e 0) .c)))) (.e (.f (.s (.e 0) (.e 1))) .f) .f) (.e (.f (.g (.c 0))) .f))⟩
noncomputable def yj:Fn:=⟨["_law_pen_here","_law_many","_law_left","_law_found","_law_mixed"],["_law_pen_here","_law_many"],false,(.e (.h (.a (.l .c (.s (.e 0) (.g (.c 0))) (.g (.c 0)))) (.e (.m [2,3] (.k .d false (.a (.s (.e 0) (.g (.c 0))) (.a (.e 1) .c)))) (.e (.k (.e 0) (.g (.c 0)) (.e 2)) (.e (.f (.e 3)) .f))) .f) (.e (.k (.e 0) (.g (.c 1)) (.j false .b (.j false .a (.j false .c (.s (.e 0) (.g (.c 1))) (.g (.c 48271))) (.g (.c 30269))) (.g (.c 2147483629)))) (.e (.g 4 (.j false .b (.j false .a (.j false .a (.j false .c (.s (.e 0) (.g (.c 1))) (.s (.e 0) (.g (.c 1)))) (.j false .c (.g (.c 40692)) (.s (.e 0) (.g (.c 1))))) (.g (.c 7))) (.g (.c 2147483587)))) (.e (.f (.j false .b (.j false .e (.e 4) (.g (.c 64))) (.e 1))) .f))))⟩
noncomputable def yM:Fn:=⟨["_law_cell","_law_left"],["_law_cell"],true,(.e (.g 1 (.k .k false (.a (.e 0) (.a (.j false .d (.g (.c 0)) (.e 0)) .c)))) (.e (.f (.y true (.a (.j false .c (.e 1) (.k .o false (.a (.l .i (.e 1) (.j false .f (.g (.c 10)) (.g (.c 18)))) .c))) (.a (.j false .b (.e 1) (.g (.c 2147483629))) .c)))) .f))⟩
noncomputable def yt:Fn:=⟨["things","least","most"],["things","least","most"],false,(.e (.f (.k .p false (.a (.p false ["thing","least","most"] [none,some 1,some 2] (.h "is_whole" 0 (.a (.e 0) (.a (.e 1) (.a (.e 2) .c)))) (.a 0) (.f (.e 0)) .a) .c))) .f)⟩
noncomputable def xj:Fn:=⟨["thing","least","most"],["thing","least","most"],false,(.e (.f (.w (.k .i false (.a (.e 0) (.a (.L "int" "int") .c))) (.a (.H (.k .i false (.a (.e 0) (.a (.L "bool" "bool") .c)))) (.a (.u .f .f (.e 1) (.e 0) (.e 2)) .c)))) .f)⟩
noncomputable def zt:Fn:=⟨["thing","least","most"],["thing","least","most"],false,(.e (.h (.d (.a (.h "is_whole" 0 (.a (.e 0) (.a (.e 1) (.a (.e 2) .c)))))) (.e (.j (.h "NoNumber" 0 (.a (.e 1) (.a (.e 2) .c)))) .f) .f) .f)⟩
end F
end
section
namespace M
open PySem L2
theorem cT{N O:Type}{f}{g:N->O}:∀{l:List N},(∀x∈l,f x=some (g x))->l.filterMap f=l.map g
 |[],_=>rfl
 |x::l,h=>by rw[A3,h x (Ax ..),AW,cT λy P=>h y (Ah _ P)]
end M
end
section
namespace M
open PySem
def Out.post{x:Type}(o:Out x)(P:x->Sto->Prop):Prop:=∃a s,o=.e a s/\P a s
def zD{x:Type}{a:x}{s:Sto}{P:x->Sto->Prop}:(Out.e a s).post P↔P a s:=
 ⟨λ⟨_,_,e,h⟩=>(by cases e;exact h),λh=>⟨a,s,rfl,h⟩⟩
def zJ{o:Out α}{f}{P:β->Sto->Prop}:(o.bind f).post P↔o.post λa s=>(f a s).post P:=by
 cases o with
 |e a s=>exact(zD (P:=λa s=>(f a s).post P)).symm
 |g c as s=>exact⟨λ⟨_,_,e,_⟩=>(by cases e),λ⟨_,_,e,_⟩=>(by cases e)⟩
 |d=>exact⟨λ⟨_,_,e,_⟩=>(by cases e),λ⟨_,_,e,_⟩=>(by cases e)⟩
def zP{o:Out α}{P Q}(h:o.post P)(i:∀a s,P a s->Q a s):o.post Q:=by obtain⟨a,s,e,h⟩:=h;exact⟨a,s,e,i a s h⟩
def zy{o:Out α}{P Q}(h:∀a s,P a s↔Q a s):o.post P↔o.post Q:=⟨λk=>zP k λa s=>(h a s).mp,λk=>zP k λa s=>(h a s).mpr⟩
def zY{x:Type}{P:x->Sto->Prop}:(Out.d:Out x).post P↔False:=⟨λ⟨_,_,e,_⟩=>(by cases e),Az⟩
def xR{x:Type}{c:Prop} [Decidable c] {a b:Out x}{P:x->Sto->Prop}:(if c then a else b).post P↔if c then a.post P else b.post P:=by split<;>exact CV
def post_eq{o:Out α}{a}:o=.e a s↔o.post λx t=>x=a/\t=s:=⟨λh=>⟨a,s,h,rfl,rfl⟩,λ⟨_,_,h,e1,e2⟩=>(by rw[h,e1,e2])⟩
section
variable {Φ:Calls}{G:Str->Option Val}{env:Env}{s:Sto}
def WR{v:Val}{P:Val->Sto->Prop}:(evE Φ G env (.g v) s).post P↔P v s:=zD
def aQ{i:Nat}{P:Val->Sto->Prop}:(evE Φ G env (.e i) s).post P↔∃v,env[i]?=some (some v)/\P v s:=by
 show (match env[i]? with|some (some v)=>Out.e v s|_=>.d).post P↔_
 split
 . rename_i v e
   refine zD.trans ⟨λh=>⟨_,e,h⟩,λN=>?_⟩;obtain⟨u,h1,x⟩:=N;rw[e]at h1;cases h1;exact x
 . rename_i hn
   exact⟨λ⟨_,_,e,_⟩=>(by cases e),λ⟨u,h1,x⟩=>absurd h1 (hn u)⟩
def RM{x:Str}{P:Val->Sto->Prop}:(evE Φ G env (.E x) s).post P↔∃v,G x=some v/\P v s:=by
 show (match G x with|some v=>Out.e v s|dS=>.d).post P↔_
 split
 . rename_i v e
   refine zD.trans ⟨λh=>⟨_,e,h⟩,λO=>?_⟩;obtain⟨u,h1,N⟩:=O;rw[e]at h1;cases h1;exact N
 . rename_i e
   exact⟨λ⟨_,_,e,_⟩=>(by cases e),λ⟨u,h1,N⟩=>(by rw[e]at h1;cases h1)⟩
def Qb{x:Str}{n:String}{P:Val->Sto->Prop}:(evE Φ G env (.L x n) s).post P↔P (.t n) s:=zD
def WO{m:Bool}{op:Bop}{a b:Ex}{P:Val->Sto->Prop}:(evE Φ G env (.j m op a b) s).post P↔(evE Φ G env a s).post λx s1=>(evE Φ G env b s1).post λy s2=>(binOp m op x y s2).post P:=by show (Out.bind _ _).post P↔_;simp only[zJ]
def RQ{a:Ex}{P:Val->Sto->Prop}:(evE Φ G env (.A a) s).post P↔(evE Φ G env a s).post λx s1=>∃i,x=.c i/\P (.c (-i)) s1:=by show (Out.bind _ _).post P↔_;simp only[zJ];exact zy λx s1=>by cases x<;>simp[zD,zY]
def RR{a:Ex}{P:Val->Sto->Prop}:(evE Φ G env (.H a) s).post P↔(evE Φ G env a s).post λx s1=>∃b,x=.e b/\P (.e !b) s1:=by show (Out.bind _ _).post P↔_;simp only[zJ];exact zy λx s1=>by cases x<;>simp[zD,zY]
def RK{op:Cop}{a b:Ex}{P:Val->Sto->Prop}:(evE Φ G env (.l op a b) s).post P↔(evE Φ G env a s).post λx s1=>(evE Φ G env b s1).post λy s2=>(zR op x y s2).post P:=by show (Out.bind _ _).post P↔_;simp only[zJ]
def Y6{op N:Cop}{a b c:Ex}{P:Val->Sto->Prop}:(evE Φ G env (.u op N a b c) s).post P↔(evE Φ G env a s).post λx s1=>(evE Φ G env b s1).post λy s2=>(zR op x y s2).post λr O=>∃t,r=.e t/\if t=true then (evE Φ G env c O).post λz Q=>(zR N y z Q).post P else P (.e false) O:=by
 show (Out.bind _ _).post P↔_;simp only[zJ];refine zy λx s1=>zy λy s2=>zy λr O=>?_;cases r with
 |e t=>cases t<;>simp[zD,zY,zJ]
 |_=>simp[zY]
def RI{a b:Ex}{es:Exs}{P:Val->Sto->Prop}:(evE Φ G env (.w a (.a b es)) s).post P↔(evE Φ G env a s).post λx s1=>∃t,x=.e t/\if t=true then (rX Φ G env (.a b es) s1).post P else P (.e false) s1:=by
 show (Out.bind _ _).post P↔_;simp only[zJ];refine zy λx s1=>?_;cases x with
 |e t=>cases t<;>simp[zD,zY]
 |_=>simp[zY]
def UP{a:Ex}{P:Val->Sto->Prop}:(rX Φ G env (.a a .c) s).post P↔(evE Φ G env a s).post P:=CV
def UQ{a b:Ex}{es:Exs}{P:Val->Sto->Prop}:(rX Φ G env (.a a (.a b es)) s).post P↔(evE Φ G env a s).post λx s1=>∃t,x=.e t/\if t=true then (rX Φ G env (.a b es) s1).post P else P (.e false) s1:=by
 show ((evE Φ G env a s).bind λx s1=>match x with
  |.e true=>rX Φ G env (.a b es) s1
  |.e false=>.e (.e false) s1
  |_=>.d).post P↔_
 simp only[zJ];refine zy λx s1=>?_;cases x with
 |e t=>cases t<;>simp[zD,zY]
 |_=>simp[zY]
def QZ{a b:Ex}{es:Exs}{P:Val->Sto->Prop}:(evE Φ G env (.J a (.a b es)) s).post P↔(evE Φ G env a s).post λx s1=>∃t,truth s1 x=some t/\if t=true then P x s1 else (lU Φ G env (.a b es) s1).post P:=by
 show (Out.bind _ _).post P↔_;simp only[zJ];refine zy λx s1=>?_;cases truth s1 x with
 |some t=>cases t<;>simp[zD,zY]
 |none=>simp[zY]
def RS{a:Ex}{P:Val->Sto->Prop}:(lU Φ G env (.a a .c) s).post P↔(evE Φ G env a s).post P:=CV
def RT{a b:Ex}{es:Exs}{P:Val->Sto->Prop}:(lU Φ G env (.a a (.a b es)) s).post P↔(evE Φ G env a s).post λx s1=>∃t,truth s1 x=some t/\if t=true then P x s1 else (lU Φ G env (.a b es) s1).post P:=by
 show ((evE Φ G env a s).bind λx s1=>match truth s1 x with
  |some false=>lU Φ G env (.a b es) s1
  |some true=>.e x s1
  |dS=>.d).post P↔_
 simp only[zJ];refine zy λx s1=>?_;cases truth s1 x with
 |some t=>cases t<;>simp[zD,zY]
 |none=>simp[zY]
def RN{c:Cn}{a b:Ex}{P:Val->Sto->Prop}:(evE Φ G env (.G c a b) s).post P↔(evT Φ G env c s).post λt s1=>if t=true then (evE Φ G env a s1).post P else (evE Φ G env b s1).post P:=by show (Out.bind _ _).post P↔_;simp only[zJ,xR]
def RV{es:Exs}{P:Val->Sto->Prop}:(evE Φ G env (.r es) s).post P↔(zc Φ G env es s).post λvs s1=>(if vs.length<=zZ then Out.e (Val.f vs) s1 else .d).post P:=by show (Out.bind _ _).post P↔_;simp only[zJ]
def RP{m:Bool}{es:Exs}{P:Val->Sto->Prop}:(evE Φ G env (.y m es) s).post P↔(zc Φ G env es s).post λvs s1=>(if vs.length<=zZ then newList m vs s1 else .d).post P:=by show (Out.bind _ _).post P↔_;simp only[zJ]
def UR{f:Str}{v:Nat}{es:Exs}{P:Val->Sto->Prop}:(evE Φ G env (.h f v es) s).post P↔(zc Φ G env es s).post λvs s1=>(Φ f v vs s1).post P:=by show (Out.bind _ _).post P↔_;simp only[zJ]
def WQ{f:Bf}{m:Bool}{es:Exs}{P:Val->Sto->Prop}:(evE Φ G env (.k f m es) s).post P↔(zc Φ G env es s).post λvs s1=>(blt f m vs s1).post P:=by show (Out.bind _ _).post P↔_;simp only[zJ]
def aL{f:Mf}{m:Bool}{o:Ex}{es:Exs}{P:Val->Sto->Prop}:(evE Φ G env (.M f m o es) s).post P↔(evE Φ G env o s).post λx s1=>(zc Φ G env es s1).post λvs s2=>(wZ f x vs s2).post P:=by show (Out.bind _ _).post P↔_;simp only[zJ]
def aK{m:Bool}{a b c:Ex}{P:Val->Sto->Prop}:(evE Φ G env (.q m a b c) s).post P↔(evE Φ G env a s).post λx s1=>(evE Φ G env b s1).post λy s2=>(evE Φ G env c s2).post λz N=>(Sw m x y z N).post P:=by show (Out.bind _ _).post P↔_;simp only[zJ]
def QY{a b:Ex}{P:Val->Sto->Prop}:(evE Φ G env (.s a b) s).post P↔(evE Φ G env a s).post λx s1=>(evE Φ G env b s1).post λy s2=>(xm x y s2).post P:=by show (Out.bind _ _).post P↔_;simp only[zJ]
def Qa{m:Bool}{a:Ex}{lo hi st:OEx}{P:Val->Sto->Prop}:(evE Φ G env (.I m a lo hi st) s).post P↔(evE Φ G env a s).post λx s1=>(evO Φ G env lo s1).post λl s2=>(evO Φ G env hi s2).post λh O=>(evO Φ G env st O).post λc N=>(wA m x l h c N).post P:=by show (Out.bind _ _).post P↔_;simp only[zJ]
def UW{P:Option Int->Sto->Prop}:(evO Φ G env .b s).post P↔P none s:=zD
def UX{e:Ex}{P:Option Int->Sto->Prop}:(evO Φ G env (.a e) s).post P↔(evE Φ G env e s).post λv s1=>∃i,v=.c i/\P (some i) s1:=by show (Out.bind _ _).post P↔_;simp only[zJ];exact zy λx s1=>by cases x<;>simp[zD,zY]
def pQ{P:List Val->Sto->Prop}:(zc Φ G env .c s).post P↔P [] s:=zD
def tJ{e:Ex}{es:Exs}{P:List Val->Sto->Prop}:(zc Φ G env (.a e es) s).post P↔(evE Φ G env e s).post λv s1=>(zc Φ G env es s1).post λvs s2=>P (v::vs) s2:=by show (Out.bind _ _).post P↔_;simp only[zJ,zD]
def WS{e:Ex}{P:Bool->Sto->Prop}:(evT Φ G env (.a e) s).post P↔(evE Φ G env e s).post λv s1=>∃b,truth s1 v=some b/\P b s1:=by
 show (Out.bind (evE Φ G env e s) _).post P↔_;simp only[zJ];refine⟨λh=>zP h λv s1 h=>?_,λh=>zP h λv s1 h=>?_⟩
 . split at h
   . rename_i b e;exact⟨b,e,zD.mp h⟩
   . obtain⟨_,_,e,_⟩:=h;cases e
 . obtain⟨b,e,h⟩:=h
   rw[e];exact zD.mpr h
def Ub{c:Cn}{P:Bool->Sto->Prop}:(evT Φ G env (.d c) s).post P↔(evT Φ G env c s).post λb s1=>P (!b) s1:=by show (Out.bind _ _).post P↔_;simp only[zJ,zD]
def Ua{c:Cn}{cs:Cns}{P:Bool->Sto->Prop}:(evT Φ G env (.b c cs) s).post P↔(evT Φ G env c s).post λb s1=>if b=true then (wL Φ G env cs s1).post P else P false s1:=by show (Out.bind _ _).post P↔_;simp only[zJ,xR,zD]
def RU{c:Cn}{cs:Cns}{P:Bool->Sto->Prop}:(evT Φ G env (.f c cs) s).post P↔(evT Φ G env c s).post λb s1=>if b=true then P true s1 else (vI Φ G env cs s1).post P:=by show (Out.bind _ _).post P↔_;simp only[zJ,xR,zD]
def wd{P:Bool->Sto->Prop}:(wL Φ G env .a s).post P↔P true s:=zD
def Y8{P:Bool->Sto->Prop}:(vI Φ G env .a s).post P↔P false s:=zD
def aP{c:Cn}{cs:Cns}{P:Bool->Sto->Prop}:(wL Φ G env (.b c cs) s).post P↔(evT Φ G env c s).post λb s1=>if b=true then (wL Φ G env cs s1).post P else P false s1:=by show (Out.bind _ _).post P↔_;simp only[zJ,xR,zD]
def aO{c:Cn}{cs:Cns}{P:Bool->Sto->Prop}:(vI Φ G env (.b c cs) s).post P↔(evT Φ G env c s).post λb s1=>if b=true then P true s1 else (vI Φ G env cs s1).post P:=by show (Out.bind _ _).post P↔_;simp only[zJ,xR,zD]
def aJ{e:Ex}{P:Src->Sto->Prop}:(xY Φ G env (.f e) s).post P↔(evE Φ G env e s).post λv s1=>∃r,srcOf s1 v=some r/\P r s1:=by
 show (Out.bind _ _).post P↔_;simp only[zJ];refine⟨λh=>zP h λv s1 h=>?_,λh=>zP h λv s1 h=>?_⟩
 . split at h
   . rename_i b e;exact⟨b,e,zD.mp h⟩
   . obtain⟨_,_,e,_⟩:=h;cases e
 . obtain⟨b,e,h⟩:=h
   rw[e];exact zD.mpr h
def l6{a:Ex}{P:Src->Sto->Prop}:(xY Φ G env (.d a) s).post P↔(evE Φ G env a s).post λx s1=>∃j,x=.c j/\(-(2 ^ 62)<=j/\j<=zZ)/\P ⟨xq 0 j.toNat,dS⟩ s1:=by
 show (Out.bind _ _).post P↔_;simp only[zJ];refine⟨λh=>zP h λv s1 h=>?_,λh=>zP h λv s1 h=>?_⟩
 . split at h
   . rw[xR]at h
     split at h
     . rename_i j z;exact⟨_,rfl,z,zD.mp h⟩
     . obtain⟨_,_,e,_⟩:=h;cases e
   . obtain⟨_,_,e,_⟩:=h;cases e
 . obtain⟨j,rfl,z,h⟩:=h
   simp only[if_pos z];exact zD.mpr h
def aM{a b:Ex}{P:Src->Sto->Prop}:(xY Φ G env (.g a b) s).post P↔(evE Φ G env a s).post λx s1=>(evE Φ G env b s1).post λy s2=>∃i j,x=.c i/\y=.c j/\(-(2 ^ 62)<=i/\i<2 ^ 62∧-(2 ^ 62)<=j/\j<2 ^ 62/\j-i<=zZ)/\P ⟨xq i (j-i).toNat,dS⟩ s2:=by
 show (Out.bind _ _).post P↔_;simp only[zJ];refine⟨λh=>zP h λv s1 h=>zP h λw s2 h=>?_,λh=>zP h λv s1 h=>zP h λw s2 h=>?_⟩
 . split at h
   . rw[xR]at h
     split at h
     . rename_i z;exact⟨_,_,rfl,rfl,z,zD.mp h⟩
     . obtain⟨_,_,e,_⟩:=h;cases e
   . obtain⟨_,_,e,_⟩:=h;cases e
 . obtain⟨i,j,rfl,rfl,z,h⟩:=h
   simp only[if_pos z];exact zD.mpr h
def UT{a:Ex}{P:Src->Sto->Prop}:(xY Φ G env (.i a) s).post P↔(evE Φ G env a s).post λx s1=>∃vs,(x=.f vs\/x=.h vs)/\P ⟨iz 0 vs,dS⟩ s1:=by
 show (Out.bind _ _).post P↔_;simp only[zJ];refine⟨λh=>zP h λv s1 h=>?_,λh=>zP h λv s1 h=>?_⟩
 . split at h
   . exact⟨_,.inl rfl,zD.mp h⟩
   . exact⟨_,.inr rfl,zD.mp h⟩
   . obtain⟨_,_,e,_⟩:=h;cases e
 . obtain⟨j,rfl|rfl,h⟩:=h<;>exact zD.mpr h
def aI{e:Ex}{P:Fl->Sto->Prop}:(exS Φ G env (.d e) s).post P↔(evE Φ G env e s).post λ_ s1=>P (.a env) s1:=by show (Out.bind _ _).post P↔_;simp only[zJ,zD]
def aN{e:Ex}{P:Fl->Sto->Prop}:(exS Φ G env (.f e) s).post P↔(evE Φ G env e s).post λv s1=>P (.b v) s1:=by show (Out.bind _ _).post P↔_;simp only[zJ,zD]
def UZ{P:Fl->Sto->Prop}:(exS Φ G env .s s).post P↔P (.b .j) s:=zD
def aF{i:Nat}{e:Ex}{P:Fl->Sto->Prop}:(exS Φ G env (.g i e) s).post P↔(evE Φ G env e s).post λv s1=>P (.a (env.set i (some v))) s1:=by show (Out.bind _ _).post P↔_;simp only[zJ,zD]
def aG{is:List Nat}{e:Ex}{P:Fl->Sto->Prop}:(exS Φ G env (.m is e) s).post P↔(evE Φ G env e s).post λv s1=>∃env',yk (.b is) v env=some env'/\P (.a env') s1:=by
 show (Out.bind _ _).post P↔_;simp only[zJ];refine⟨λh=>zP h λv s1 h=>?_,λh=>zP h λv s1 h=>?_⟩
 . split at h
   . rename_i b e;exact⟨b,e,zD.mp h⟩
   . obtain⟨_,_,e,_⟩:=h;cases e
 . obtain⟨b,e,h⟩:=h
   rw[e];exact zD.mpr h
def l5{is:List Nat}{es:Exs}{P:Fl->Sto->Prop}:(exS Φ G env (.n is es) s).post P↔(zc Φ G env es s).post λvs s1=>(if vs.length=is.length then Out.e (Fl.a ((is.zip vs).foldl (λe p=>e.set p.1 (some p.2)) env)) s1 else .d).post P:=by show (Out.bind _ _).post P↔_;simp only[zJ]
def Y7{o i e:Ex}{P:Fl->Sto->Prop}:(exS Φ G env (.k o i e) s).post P↔(evE Φ G env e s).post λv s1=>(evE Φ G env o s1).post λx s2=>(evE Φ G env i s2).post λy N=>∃r k vs j,x=.m r/\y=.c k/\N[r]?=some (.c vs)/\L2.ixN vs.length k=some j/\P (.a env) (upd N r (vs.set j v)):=by
 show (Out.bind _ _).post P↔_;simp only[zJ];refine zy λv s1=>zy λx s2=>zy λy N=>⟨λh=>?_,λ⟨r,k,vs,j,h1,h2,h3,h4,h5⟩=>?_⟩
 . split at h
   . split at h
     . rename_i e3
       split at h
       . rename_i e4;exact⟨_,_,_,_,rfl,rfl,e3,e4,zD.mp h⟩
       . exact(zY.mp h).elim
     . exact(zY.mp h).elim
   . exact(zY.mp h).elim
 . subst h1;subst h2
   simp only[h3,h4];exact zD.mpr h5
def UU{c:Cn}{a b:Sms}{P:Fl->Sto->Prop}:(exS Φ G env (.h c a b) s).post P↔(evT Φ G env c s).post λt s1=>if t=true then (zU Φ G env a s1).post P else (zU Φ G env b s1).post P:=by show (Out.bind _ _).post P↔_;simp only[zJ,xR]
def UY{P:Fl->Sto->Prop}:(exS Φ G env .r s).post P↔P (.a env) s:=zD
def RJ{P:Fl->Sto->Prop}:(exS Φ G env .v s).post P↔P (.c env) s:=zD
def US{P:Fl->Sto->Prop}:(exS Φ G env .q s).post P↔P (.d env) s:=zD
def jY{P:Fl->Sto->Prop}:(zU Φ G env .f s).post P↔P (.a env) s:=zD
def pv(Φ:Calls)(G:Str->Option Val)(cs:Sms)(P:Fl->Sto->Prop):Fl->Sto->Prop
 |.a e,s1=>(zU Φ G e cs s1).post P
 |fl,s1=>P fl s1
def yA{c:Sm}{cs:Sms}{P:Fl->Sto->Prop}:(zU Φ G env (.e c cs) s).post P↔(exS Φ G env c s).post (pv Φ G cs P):=by
 show (Out.bind _ _).post P↔_;simp only[zJ];have:∀fl s1,(match fl with|.a e=>zU Φ G e cs s1|fl=>Out.e fl s1:Out Fl).post P↔pv Φ G cs P fl s1:=λfl s1=>by
  cases fl with
  |a e=>exact CV
  |_=>exact zD
 exact⟨λh=>zP h λfl s1 h=>(this fl s1).mp h,λh=>zP h λfl s1 h=>(this fl s1).mpr h⟩
def Xn{cs:Sms}{P:Fl->Sto->Prop}{e:Env}:pv Φ G cs P (.a e) s↔(zU Φ G e cs s).post P:=CV
def Xo{cs:Sms}{P:Fl->Sto->Prop}{v:Val}:pv Φ G cs P (.b v) s↔P (.b v) s:=CV
def Xl{cs:Sms}{P:Fl->Sto->Prop}{v:Env}:pv Φ G cs P (.c v) s↔P (.c v) s:=CV
def Xm{cs:Sms}{P:Fl->Sto->Prop}{v:Env}:pv Φ G cs P (.d v) s↔P (.d v) s:=CV
theorem pC{I:Env->Prop}(P:r.ok s=true):∀N,(∀x∈N,∀e acc,I e->∃e1 e2,yk t x e=some e1/\body e1 s acc=.e (acc++g x,e2) s/\I e2)->∀e acc,I e->∃O,I O/\ym r t body N e s acc=.e (acc++N.flatMap g,O) s
 |[],_,e,acc,h0=>⟨e,h0,by simp[ym,P]⟩
 |x::N,h,e,acc,h0=>by obtain⟨e1,e2,h1,W,U⟩:=h x (.head _) e acc h0;obtain⟨O,S,R⟩:=pC P N (λy Q=>h y (.tail _ Q)) e2 (acc++g x) U;refine⟨O,S,?_⟩;simp only[ym,P,if_true,h1,W,zV,R,List.flatMap_cons,Bx]
def aH(I:Env->Prop)g
 (h:(xY Φ G env it s).post λr s1=>r.ok s1=true/\I (zh fr env)/\(∀x∈r.a,∀e,I e->∃e1,yk t x e=some e1/\I e1/\(wL Φ G e1 ifs s1).post λb s2=>s2=s1/\if b=true then (evE Φ G e1 elt s1).post (λv s2=>s2=s1/\g x=[v]) else g x=[])/\(newList m (r.a.flatMap g) s1).post P) :
 (evE Φ G env (.p m N fr elt t it ifs) s).post P:=by
 obtain⟨r,s1,ei,h1,h2,Z,Y⟩:=h;obtain⟨e',_,W⟩:=pC (I:=I) (g:=g) (body:=λe s' acc=>(wL Φ G e ifs s').bind λb s2=>if b then (evE Φ G e elt s2).bind λv Q=>.e (acc++[v],e) Q else .e (acc,e) s2) h1 r.a (λx hx e acc U=>by
  obtain⟨e1,k1,k2,b,s2,k3,rfl,O⟩:=Z x hx e U;refine⟨e1,e1,k1,?_,k2⟩;rw[k3,zV];cases b with
  |true=>
   rw[if_pos rfl]at O ⊢;obtain⟨v,Q,R,rfl,S⟩:=O;rw[R,zV,S]
  |false=>
   rw[if_neg Ak]at O ⊢;rw[O,A9]) (zh fr env) [] h2
 show (Out.bind (xY Φ G env it s) _).post P;rw[ei,zV];rw[W,zV];exact Y
theorem nB(Q:List Val->Env->Sto->List Val->Prop):∀N,(∀e s acc,Q [] e s acc->r.ok s=true)->(∀x rest e s acc,Q (x::rest) e s acc->r.ok s=true/\∃e1,yk t x e=some e1/\(body e1 s acc).post λp s2=>Q rest p.2 s2 p.1)->∀e s acc,Q N e s acc->(ym r t body N e s acc).post λp s2=>Q [] p.2 s2 p.1
 |[],h0,_,e,s,acc,q=>by
  simp only[ym,h0 e s acc q,if_true];exact zD.mpr q
 |x::N,h0,h,e,s,acc,q=>by obtain⟨h1,e1,P,O⟩:=h x N e s acc q;simp only[ym,h1,if_true,P,zJ];exact zP O λp s2 q=>nB Q N h0 h p.2 s2 p.1 q
def gD(Q:List Val->Env->Sto->List Val->Prop)
 (h:(xY Φ G env it s).post λr s1=>Q r.a (zh fr env) s1 []/\(∀rest e s acc,Q rest e s acc->r.ok s=true)/\(∀x rest e s acc,Q (x::rest) e s acc->∃e1,yk t x e=some e1/\(wL Φ G e1 ifs s).post λb s2=>if b=true then (evE Φ G e1 elt s2).post (λv R=>Q rest e1 R (acc++[v])) else Q rest e1 s2 acc)/\∀e s acc,Q [] e s acc->(newList m acc s).post P) :
 (evE Φ G env (.p m N fr elt t it ifs) s).post P:=by
 obtain⟨r,s1,W,h1,O,U,S⟩:=h;show (Out.bind (xY Φ G env it s) _).post P;rw[W,zV,zJ];refine zP (nB Q r.a (λe s acc q=>O _ e s acc q) (λx rest e s acc q=>⟨O _ e s acc q,?_⟩) _ _ _ h1) λp s2 q=>S _ _ _ q;obtain⟨e1,k1,k2⟩:=U x rest e s acc q;refine⟨e1,k1,?_⟩;simp only[zJ];refine zP k2 λb s2 k=>?_;cases b with
 |true=>
  rw[if_pos rfl]at k ⊢;simp only[zJ,zD];exact k
 |false=>
  rw[if_neg Ak]at k ⊢;exact zD.mpr k
theorem rE(Q:List Val->Env->Sto->Prop)(R:Fl->Sto->Prop){r:Src}{t:Tgt}{body:Env->Sto->Out Fl}(h0:∀e s,Q [] e s->R (.a e) s):∀(N:List Val),(∀rest e s,Q rest e s->r.ok s=true)->(∀x rest e s,Q (x::rest) e s->∃e1,yk t x e=some e1/\(body e1 s).post λfl s2=>match fl with|.a e=>Q rest e s2|.d e=>Q rest e s2|.c e=>R (.a e) s2|.b v=>R (.b v) s2)->∀e s,Q N e s->(vf r t body N e s).post R
 |[],hk,_,e,s,q=>by
  simp only[vf,hk _ _ _ q,if_true];exact zD.mpr (h0 _ _ q)
 |x::N,hk,h,e,s,q=>by
  obtain⟨e1,P,O⟩:=h x N e s q;simp only[vf,hk _ _ _ q,if_true,P,zJ];refine zP O λfl s2 q=>?_;cases fl with
  |a e=>exact rE Q R h0 N hk h e s2 q
  |d e=>exact rE Q R h0 N hk h e s2 q
  |c e=>exact zD.mpr q
  |b v=>exact zD.mpr q
def nO(Q:Env->Sto->Prop)(R:Fl->Sto->Prop):Fl->Sto->Prop
 |.a e,s=>Q e s
 |.d e,s=>Q e s
 |.c e,s=>R (.a e) s
 |.b v,s=>R (.b v) s
def Xc{Q:Env->Sto->Prop}{R:Fl->Sto->Prop}{e:Env}:nO Q R (.a e) s↔Q e s:=CV
def Xb{Q:Env->Sto->Prop}{R:Fl->Sto->Prop}{e:Env}:nO Q R (.d e) s↔Q e s:=CV
def Xa{Q:Env->Sto->Prop}{R:Fl->Sto->Prop}{e:Env}:nO Q R (.c e) s↔R (.a e) s:=CV
def Xd{Q:Env->Sto->Prop}{R:Fl->Sto->Prop}{v:Val}:nO Q R (.b v) s↔R (.b v) s:=CV
def RL(Q:List Val->Env->Sto->Prop)
 (h:(xY Φ G env it s).post λr s1=>Q r.a env s1/\(∀rest e s,Q rest e s->r.ok s=true)/\(∀x rest e s,Q (x::rest) e s->∃e1,yk t x e=some e1/\(zU Φ G e1 b s).post (nO (Q rest) R))/\∀e s,Q [] e s->R (.a e) s) :
 (exS Φ G env (.l t it b) s).post R:=by
 obtain⟨r,s1,S,h1,P,O,N⟩:=h;show (Out.bind (xY Φ G env it s) _).post R;rw[S,zV];refine rE Q R N r.a P (λx rest e s q=>?_) _ _ h1;obtain⟨e1,k1,k2⟩:=O x rest e s q;refine⟨e1,k1,zP k2 λfl s2 k=>?_⟩;cases fl<;>exact k
def pP(Q:List Val->Env->Sto->Prop)xs(hi:xY Φ G env it s=.e ⟨xs,dS⟩ s1)(h0:Q xs env s1)
 (h1:∀x rest e s,Q (x::rest) e s->∃e1,yk t x e=some e1/\(zU Φ G e1 b s).post (nO (Q rest) R)) (N:∀e s,Q [] e s->R (.a e) s) :
 (exS Φ G env (.l t it b) s).post R:=RL Q ⟨_,_,hi,h0,λ_ _ _ _=>rfl,h1,N⟩
def uZ(I:Env->Prop)g xs(hi:xY Φ G env it s=.e ⟨xs,dS⟩ s1)(h0:I (zh fr env))
 (h1:∀x∈xs,∀e,I e->∃e1,yk t x e=some e1/\I e1/\(wL Φ G e1 ifs s1).post λb s2=>s2=s1/\if b=true then (evE Φ G e1 elt s1).post (λv s2=>s2=s1/\g x=[v]) else g x=[]) (O:(newList m (xs.flatMap g) s1).post P) :
 (evE Φ G env (.p m N fr elt t it ifs) s).post P:=aH I g ⟨_,_,hi,rfl,h0,h1,O⟩
end
def Xp{s:Sto}:truth s .j=some false:=rfl
def zu{s:Sto}{b:Bool}:truth s (.e b)=some b:=rfl
def TZ{s:Sto}{i:Int}:truth s (.c i)=some (i != 0):=rfl
def Tb{s:Sto}{vs:List Val}:truth s (.f vs)=some !vs.isEmpty:=rfl
def Ta{s:Sto}{vs:List Val}:truth s (.h vs)=some !vs.isEmpty:=rfl
def U9{s:Sto}{vs:List Val}:srcOf s (.f vs)=some ⟨vs,dS⟩:=rfl
def U8{s:Sto}{vs:List Val}:srcOf s (.h vs)=some ⟨vs,dS⟩:=rfl
def XY{s:Sto}{ns:List Int}:srcOf s (.o ns)=some ⟨ns.map .c,dS⟩:=rfl
def ZT{s:Sto}{x:List Val}:Src.ok ⟨x,dS⟩ s=true:=rfl
def T3{i:Nat}{v:Val}{env:Env}:yk (.a i) v env=some (env.set i (some v)):=rfl
def Wx{is:List Nat}{vs:List Val}{env:Env}:yk (.b is) (.f vs) env=if vs.length=is.length then some ((is.zip vs).foldl (λe p=>e.set p.1 (some p.2)) env) else dS:=rfl
def dW vs:sk vs vs=true:=uR vs
def lM(c:Cel):c.beq c=true:=by cases c<;>simp[Cel.beq,dW]
theorem uY:∀s t,wV s (s++t)=true
 |[],_=>rfl
 |c::r,t=>by simp[wV,lM c,uY r t]
def jQ s:wV s s=true:=by have:=uY s [];rwa [A9]at this
theorem pM:∀s t i c,c.noRef=true->wV s (s.set i c++t)=true
 |[],_,_,_,_=>by simp[wV]
 |_::r,t,0,c,h=>by simp[wV,h,uY r t]
 |o::r,t,i+1,c,h=>by simp[wV,lM o,pM r t i c h]
def fT s t i vs(h:z6 vs=true):wV s (s.set i (.c vs)++t)=true:=pM s t i _ h
def qN:Val.j.noRef=true:=by rw[Val.noRef]
def xP{b:Bool}:(Val.e b).noRef=true:=by rw[Val.noRef]
def wj{b:Int}:(Val.c b).noRef=true:=by rw[Val.noRef]
def jP{b:Str}:(Val.g b).noRef=true:=by rw[Val.noRef]
def mQ{vs:List Val}:(Val.f vs).noRef=z6 vs:=by rw[Val.noRef]
def pK{vs:List Val}:(Val.h vs).noRef=z6 vs:=by rw[Val.noRef]
def sF:z6 []=true:=by rw[z6]
def uB{v:Val}{vs:List Val}:z6 (v::vs)=(v.noRef&&z6 vs):=by rw[z6]
theorem wc:∀ns:List Int,z6 (ns.map .c)=true
 |[]=>rfl
 |_::ns=>by simp[z6,Val.noRef,wc ns]
theorem pH:∀x:List (Int × Int),z6 (x.map prV)=true
 |[]=>rfl
 |_::x=>by simp[z6,Val.noRef,prV,pH x]
def yF(k:Bool)(x:Sto)(v:Val)(s:Sto):Out Val:=
 if k then .e v s
 else if wV x s then (match freeze x.length s v with|some N=>.e N (s.take x.length)|dS=>.d) else .d
def lh{x s:Sto}{v:Val}:yF true x v s=.e v s:=rfl
def vN{k:Bool}{s:Sto}{v:Val}(h:v.noRef=true):yF k s v s=.e v s:=by
 unfold yF;cases k
 . simp[jQ,freeze,h]
 . rfl
def jD(h:v.noRef=true):yF false s v (s++t)=.e v s:=by unfold yF;simp[uY,freeze,h]
def jF(h:v.noRef=true)(x:z6 vs=true):yF false s v (s.set i (.c vs)++t)=.e v (s.set i (.c vs)):=by
 unfold yF;have e:s.length=(s.set i (.c vs)).length:=by rw[BP]
 simp only[fT s t i vs x,freeze,h,if_true,Ba,if_false,e,List.take_left']
def fin(k:Bool)(s:Sto)(P:Val->Sto->Prop):Fl->Sto->Prop
 |.a _,s1=>(yF k s .j s1).post P
 |.b v,s1=>(yF k s v s1).post P
 |_,_=>False
def VG{k:Bool}{s s1:Sto}{P:Val->Sto->Prop}{e:Env}:fin k s P (.a e) s1↔(yF k s .j s1).post P:=CV
def VI{k:Bool}{s s1:Sto}{P:Val->Sto->Prop}{v:Val}:fin k s P (.b v) s1↔(yF k s v s1).post P:=CV
def wW{T:Tbl}{Φ:Calls}{N ps:List Str}{k:Bool}{b:Sms}{vs:List Val}{s:Sto}{P:Val->Sto->Prop}:(run T Φ ⟨N,ps,k,b⟩ vs s).post P↔vs.length=ps.length/\(zU Φ T.b (zi N vs) b s).post (fin k s P):=by
 unfold run;by_cases hl:vs.length=ps.length
 . rw[if_pos hl,zJ]
   refine⟨λh=>⟨hl,zP h λfl s1 h=>?_⟩,λh=>zP h.2 λfl s1 h=>?_⟩
   . cases fl<;>first|exact h|exact(zY.mp h).elim
   . cases fl<;>first|exact h|exact h.elim
 . rw[if_neg hl]
   exact⟨λh=>(zY.mp h).elim,λh=>absurd h.1 hl⟩
def zb(h:T.e f v=some F)vs s:zC T (n+1) f v vs s=run T (zC T n) F vs s:=by simp only[zC,h]
def qZ(h:T.e f v=some F)(x:vs.length=F.b.length)s:za T (n+1) f v vs s=xSs (λc=>(T.d.lookup c).isSome) (zC T n) (za T n) T.b (zi F.N vs) F.a s:=by simp only[za,h];rw[if_pos x]
def At(T:Tbl)(k:Nat)(C:Calls->Prop):Prop:=∀n,k<=n->C (zC T n)
def EVl:=Ag @WR <| Ag @aQ <| Ag @RM <| Ag @Qb <| Ag @WO <| Ag @RQ <| Ag @RR <| Ag @RK <| Ag @Y6 <| Ag @RI <| Ag @UP <| Ag @UQ <| Ag @QZ <| Ag @RS <| Ag @RT <| Ag @RN <| Ag @RV <| Ag @RP <| Ag @UR <| Ag @WQ <| Ag @aL <| Ag @aK <| Ag @QY <| Ag @Qa <| Ag @UW <| Ag @UX <| Ag @pQ <| Ag @tJ <| Ag @WS <| Ag @Ub <| Ag @Ua <| Ag @RU <| Ag @wd <| Ag @Y8 <| Ag @aP <| Ag @aO <| Ag @aJ <| Ag @l6 <| Ag @aM <| Ag @UT <| Ag @aI <| Ag @aN <| Ag @UZ <| Ag @aF <| Ag @aG <| Ag @l5 <| Ag @Y7 <| Ag @UU <| Ag @UY <| Ag @RJ <| Ag @US <| Ag @jY <| Ag @yA <| Ag @Xn <| Ag @Xo <| Ag @Xl <| Ag @Xm <| Ag @Xc <| Ag @Xb <| Ag @Xa <| Ag @Xd <| Ag @zD <| Ag @xR <| Ag @zY <| Ag @Xp <| Ag @zu <| Ag @TZ <| Ag @Tb <| Ag @Ta <| Ag @U9 <| Ag @U8 <| Ag @XY <| Ag @ZT <| Ag @T3 <| Ag @Wx <| Ag @wW <| Ag @VG <| Ag @VI <| Ag @lh <| Ag @vN <| Ag @qN <| Ag @xP <| Ag @wj <| Ag @jP <| Ag @mQ <| Ag @pK <| Ag @sF <| Ag @uB <| Ag @wc <| @pH
def bnd{o:Out α}{a}{f}{r:Out β}(h:o=.e a s)(k:f a s=r):o.bind f=r:=by rw[h];exact k
def zI:evE Φ G env (.g v) s=.e v s:=rfl
def zB(h:env[i]?=some (some v)):evE Φ G env (.e i) s=.e v s:=post_eq.mpr (aQ.mpr ⟨v,h,rfl,rfl⟩)
def qC:evE Φ G env (.L x n) s=.e (.t n) s:=rfl
def QI(h1:evE Φ G env a s=.e (.e true) s1)(x:evE Φ G env b s1=r):evE Φ G env (.w a (.a b .c)) s=r:=bnd h1 x
def uO(h:G x=some v):evE Φ G env (.E x) s=.e v s:=post_eq.mpr (RM.mpr ⟨v,h,rfl,rfl⟩)
def iI(h1:evE Φ G env a s=.e (.e false) s1):evE Φ G env (.w a (.a b es)) s=.e (.e false) s1:=bnd h1 rfl
def iJ(h1:evE Φ G env a s=.e (.e true) s1)(x:evE Φ G env b s1=.e (.e false) s2):evE Φ G env (.w a (.a b (.a c es))) s=.e (.e false) s2:=bnd h1 (show (evE Φ G env b s1).bind _=_ from bnd x rfl)
def lE(h1:evE Φ G env a s=.e (.e true) s1)(N:evE Φ G env b s1=.e (.e true) s2)(x:evE Φ G env c s2=r):evE Φ G env (.w a (.a b (.a c .c))) s=r:=bnd h1 (show (evE Φ G env b s1).bind _=_ from bnd N x)
def rm(h:evE Φ G env a s=.e (.c i) s1):evE Φ G env (.A a) s=.e (.c (-i)) s1:=bnd h rfl
def zk(h1:evE Φ G env a s=.e x s1)(O:evE Φ G env b s1=.e y s2)(N:binOp m op x y s2=r):evE Φ G env (.j m op a b) s=r:=bnd h1 (bnd O N)
def ye(h1:evE Φ G env a s=.e x s1)(O:evE Φ G env b s1=.e y s2)(N:zR op x y s2=r):evE Φ G env (.l op a b) s=r:=bnd h1 (bnd O N)
def wF(h1:evE Φ G env a s=.e x s1)(O:evE Φ G env b s1=.e y s2)(N:xm x y s2=r):evE Φ G env (.s a b) s=r:=bnd h1 (bnd O N)
def tG:evO Φ G env .b s=.e none s:=rfl
def sG(h:evE Φ G env e s=.e (.c i) s1):evO Φ G env (.a e) s=.e (some i) s1:=bnd h rfl
def kT(h0:evE Φ G env a s=.e x s1)(h1:evO Φ G env lo s1=.e l s2)(P:evO Φ G env hi s2=.e h s3)(O:evO Φ G env st s3=.e c s4)(N:wA m x l h c s4=r):evE Φ G env (.I m a lo hi st) s=r:=bnd h0 (bnd h1 (bnd P (bnd O N)))
def zE:zc Φ G env .c s=.e [] s:=rfl
def zA(h1:evE Φ G env e s=.e v s1)(x:zc Φ G env es s1=.e vs s2):zc Φ G env (.a e es) s=.e (v::vs) s2:=bnd h1 (bnd x rfl)
def vS{P:List Val->Sto->Prop}(h:evE Φ G env e s=.e v s1)(k:(zc Φ G env es s1).post λvs s2=>P (v::vs) s2):(zc Φ G env (.a e es) s).post P:=tJ.mpr (by rw[h];exact zD.mpr k)
def yy(h:zc Φ G env es s=.e vs s1)(x:vs.length<=zZ):evE Φ G env (.r es) s=.e (.f vs) s1:=bnd h (if_pos x)
def rl(h:zc Φ G env es s=.e vs s1)(x:vs.length<=zZ):evE Φ G env (.y false es) s=.e (.h vs) s1:=bnd h (if_pos x)
def yH(h:zc Φ G env es s=.e vs s1)(k:blt f m vs s1=r):evE Φ G env (.k f m es) s=r:=bnd h k
def x_call(h:zc Φ G env es s=.e vs s1)(k:Φ f v vs s1=r):evE Φ G env (.h f v es) s=r:=bnd h k
def sH(h:zc Φ G env es s=.e vs s1)(k:(Φ f v vs s1).post P):(evE Φ G env (.h f v es) s).post P:=by rw[x_call h rfl];exact k
def vA(h:evE Φ G env e s=.e v s1)(k:(zU Φ G (env.set i (some v)) cs s1).post P):(zU Φ G env (.e (.g i e) cs) s).post P:=yA.mpr (aF.mpr (by rw[h];exact zD.mpr k))
def U5(h:(evE Φ G env e s).post λv s1=>(zU Φ G (env.set i (some v)) cs s1).post P):(zU Φ G env (.e (.g i e) cs) s).post P:=yA.mpr (aF.mpr h)
def U6(h:evE Φ G env e s=.e v s1)(x:yk (.b is) v env=some env')(k:(zU Φ G env' cs s1).post P):(zU Φ G env (.e (.m is e) cs) s).post P:=yA.mpr (aG.mpr (by rw[h];exact zD.mpr ⟨env',x,k⟩))
def vX(h:evE Φ G env e s=.e v s1)(k:(zU Φ G env cs s1).post P):(zU Φ G env (.e (.d e) cs) s).post P:=yA.mpr (aI.mpr (by rw[h];exact zD.mpr k))
def xG(h:evE Φ G env e s=.e v s1)(k:P (.b v) s1):(zU Φ G env (.e (.f e) cs) s).post P:=yA.mpr (aN.mpr (by rw[h];exact zD.mpr k))
def v7(h:evE Φ G env e s=.e v s1)(k:srcOf s1 v=some ⟨xs,none⟩):xY Φ G env (.f e) s=.e ⟨xs,none⟩ s1:=post_eq.mpr (aJ.mpr (by rw[h];exact zD.mpr ⟨_,k,rfl,rfl⟩))
def yv(h:evE Φ G env e s=.e v s1)(k:truth s1 v=some b):evT Φ G env (.a e) s=.e b s1:=post_eq.mpr (WS.mpr (by rw[h];exact zD.mpr ⟨_,k,rfl,rfl⟩))
def gO(h:evT Φ G env c s=.e b s1):evT Φ G env (.d c) s=.e (!b) s1:=bnd h rfl
def TN(h:evT Φ G env c s=.e false s1)(k:vI Φ G env cs s1=.e b s2):evT Φ G env (.f c cs) s=.e b s2:=bnd h k
def iA:vI Φ G env .a s=.e false s:=rfl
def lA(h:evT Φ G env c s=.e false s1)(k:vI Φ G env cs s1=.e b s2):vI Φ G env (.b c cs) s=.e b s2:=bnd h k
def QF(h:evT Φ G env c s=.e true s1):evT Φ G env (.f c cs) s=.e true s1:=bnd h rfl
def Zg(h:evT Φ G env c s=.e true s1):vI Φ G env (.b c cs) s=.e true s1:=bnd h rfl
def vi(h:evT Φ G env c s=.e false s1)(k:(zU Φ G env cs s1).post P):(zU Φ G env (.e (.h c a .f) cs) s).post P:=yA.mpr (UU.mpr (by rw[h];refine zD.mpr ?_;rw[if_neg Ak];exact jY.mpr k))
def WY(h:evT Φ G env c s=.e true s1)(k:(zU Φ G env a s1).post (pv Φ G cs P)):(zU Φ G env (.e (.h c a b) cs) s).post P:=yA.mpr (UU.mpr (by rw[h];refine zD.mpr ?_;rw[if_pos rfl];exact k))
def WZ{J:Env->Sto->Prop}(h:evT Φ G env c s=.e b s1)(k1:b=true->(zU Φ G env a s1).post λfl s2=>∃e,fl=.a e/\J e s2)(k0:b=false->J env s1)(k:∀e s2,J e s2->(zU Φ G e cs s2).post P):(zU Φ G env (.e (.h c a .f) cs) s).post P:=by
 cases b with
 |true=>exact WY h (zP (k1 rfl) λfl s2 ⟨e,he,j⟩=>by subst he;exact k e s2 j)
 |false=>exact vi h (k env s1 (k0 rfl))
def Wl(h:evE Φ G env a s=.e (.e b) s1):evE Φ G env (.H a) s=.e (.e !b) s1:=bnd h rfl
def Zs(h:evT Φ G env c s=.e true s1)(k:evE Φ G env a s1=r):evE Φ G env (.G c a b) s=r:=bnd h k
def Tf(h:evT Φ G env c s=.e false s1)(k:evE Φ G env b s1=r):evE Φ G env (.G c a b) s=r:=bnd h k
def sR(k:P (.a env) s):(zU Φ G env .f s).post P:=jY.mpr k
def qP{is:List Nat}{vs:List Val}{P:Fl->Sto->Prop}(x:vs.length=is.length)(k:P (.a ((is.zip vs).foldl (λe p=>e.set p.1 (some p.2)) env)) s):(if vs.length=is.length then Out.e (Fl.a ((is.zip vs).foldl (λe p=>e.set p.1 (some p.2)) env)) s else .d).post P:=by rw[if_pos x];exact zD.mpr k
def ox{k:Nat}(h:evE Φ G env e s=.e (.c (k:Int)) s1)(hk:k<=zZ):xY Φ G env (.d e) s=.e ⟨xq 0 k,none⟩ s1:=by rw[post_eq];refine l6.mpr ?_;rw[h];exact zD.mpr ⟨_,rfl,⟨⋯,⋯⟩,by rw[Bv],rfl⟩
def TM(h:evT Φ G env c s=.e a s)(k:evT Φ G env d s=.e b s):evT Φ G env (.b c (.b d .a)) s=.e (a&&b) s:=bnd h (by
 cases a with
 |false=>rfl
 |true=>exact bnd k (by cases b<;>rfl))
def iB(h:evT Φ G env c s=.e b s):wL Φ G env (.b c .a) s=.e b s:=bnd h (by cases b<;>rfl)
def Tg(h:zc Φ G env es s=.e vs s1)(x:vs.length<=zZ):evE Φ G env (.y true es) s=.e (.m s1.length) (s1++[.c vs]):=bnd h (if_pos x)
def Zc(h:evT Φ G env c s=.e false s1):evT Φ G env (.b c cs) s=.e false s1:=bnd h rfl
def Zd(h:evT Φ G env c s=.e true s1)(k:wL Φ G env cs s1=.e b s2):evT Φ G env (.b c cs) s=.e b s2:=bnd h k
def gJ(O:evE Φ G env e s=.e v s1)(x:evE Φ G env o s1=.e (.m r) s1)(hi:evE Φ G env i s1=.e (.c k) s1)(hs:s1[r]?=some (.c vs))(N:L2.ixN vs.length k=some j)
 (q:(zU Φ G env cs (s1.set r (.c (vs.set j v)))).post P):(zU Φ G env (.e (.k o i e) cs) s).post P:=by
 have e0:exS Φ G env (.k o i e) s=.e (.a env) (s1.set r (.c (vs.set j v))):=by show ((evE Φ G env e s).bind _)=_;rw[O,zV,x,zV,hi,zV];simp only[hs,N];rfl
 refine yA.mpr ?_;rw[e0];exact zD.mpr q
def x9(h:v.noRef=true):(yF false s v s).post λx t=>x=v/\t=s:=by rw[vN h];exact zD.mpr ⟨rfl,rfl⟩
noncomputable def zm(l m:Int):Val->Bool
 |.c i=>decide (l<=i)&&decide (i<=m)
 |_=>false
def nV(h1:l<=i)(x:i<=m):zm l m (.c i)=true:=by simp[zm,h1,x]
def nW(Φ:Calls):Prop:=∀(v:Val) (l m:Int) (s:Sto),kindOf v≠none->Φ "is_whole" 0 [v,.c l,.c m] s=.e (.e (zm l m v)) s
def qD(Φ:Calls):Prop:=∀(vs:List Val) (l m:Int) (s:Sto),(∀v∈vs,kindOf v≠none)->Φ "are_wholes" 0 [.f vs,.c l,.c m] s=.e (.e (vs.all (zm l m))) s
def uo(Φ:Calls):Prop:=∀(i l m:Int) (s:Sto),l<=i->i<=m->Φ "need_whole" 0 [.c i,.c l,.c m] s=.e .j s
def bZ:blt .a m [.f vs] s=.e (.c vs.length) s:=rfl
def bY:blt .a m [.r ns] s=.e (.c ns.length) s:=by simp[blt,wI]
def le_int:zR .f (.c a) (.c b) s=.e (.e (decide (a<=b))) s:=rfl
def lt_int:zR .l (.c a) (.c b) s=.e (.e (decide (a<b))) s:=rfl
def ge_int:zR .i (.c a) (.c b) s=.e (.e (decide (b<=a))) s:=rfl
def gt_int:zR .c (.c a) (.c b) s=.e (.e (decide (b<a))) s:=rfl
def mD:blt .i m [.f vs,.t "tuple"] s=.e (.e true) s:=rfl
theorem rV{O:Type}f:∀N:List O,boolsOf (N.map λx=>Val.e (f x))=some (N.map f)
 |[]=>rfl
 |x::N=>by simp[boolsOf,rV f N]
def om{O P:Type}(f:O->P)(N:List O):N.flatMap (λx=>[f x])=N.map f:=by
 induction N with
 |nil=>rfl
 |cons x N Q=>simp[Q]
def rn:binOp m .a (.c i) (.c j) s=.e (.c (i+j)) s:=by simp only[binOp]
def gY:binOp m .d (.c i) (.c j) s=.e (.c (i-j)) s:=by simp only[binOp]
def Tz(h:-1000000<=i/\i<=1000000):binOp m .c (.c i) (.c j) s=.e (.c (i*j)) s:=by simp only[binOp];rw[if_pos (.inl ⋯)]
def dU(h:-1000000<=j/\j<=1000000):binOp m .c (.c i) (.c j) s=.e (.c (i*j)) s:=by simp only[binOp];rw[if_pos (.inr ⋯)]
def mC(h:kindOf v=some a)(h':v8 n=some c):blt .i m [v,.t n] s=.e (.e (a.sub c)) s:=by simp only[blt];rw[h,h']
def V2(h:kindOf v=some a):(∃i,v=.c i)\/(∃b,v=.e b)\/(a.sub .d=false/\∀l m,zm l m v=false):=by
 cases v with
 |c i=>exact .inl ⟨i,rfl⟩
 |e b=>exact .inr (.inl ⟨b,rfl⟩)
 |_=>cases h<;>exact .inr (.inr ⟨rfl,λ_ _=>rfl⟩)
def mH(h:kindOf v≠none):∃a,kindOf v=some a:=Option.ne_none_iff_exists'.mp h
def bT(h:kindOf v=some a):(∃vs,v=.f vs)\/a.sub .b=false:=by
 cases v with
 |f vs=>exact .inl ⟨vs,rfl⟩
 |_=>cases h<;>exact .inr rfl
def eC(hk:kindOf v≠none):run T Φ F.xj [v,.c l,.c m] s=.e (.e (zm l m v)) s:=by
 obtain⟨a,O⟩:=mH hk;have e1:=mC (m:=false) (s:=s) O (show v8 "int"=some .d from rfl);have e2:=mC (m:=false) (s:=s) O (show v8 "bool"=some .i from rfl);have N:∀{b:Bool},b=zm l m v->(yF false s (.e b) s).post λx t=>x=.e (zm l m v)/\t=s:=λ{b} e=>by rw[vN xP,e];exact zD.mpr ⟨rfl,rfl⟩
 rw[post_eq,F.xj,wW];refine⟨rfl,?_⟩;show (zU Φ T.b [some v,some (.c l),some (.c m)] _ s).post _;rcases V2 O with⟨i,rfl⟩|⟨b,rfl⟩|⟨h1,R⟩
 . cases O
   have Q:evE Φ T.b [some (.c i),some (.c l),some (.c m)] (.u .f .f (.e 1) (.e 0) (.e 2)) s=.e (.e (zm l m (.c i))) s:=by
    refine bnd (zB rfl) (bnd (zB rfl) (bnd le_int ?_));show (match Val.e (decide (l<=i)) with
     |.e true=>(evE Φ T.b [some (.c i),some (.c l),some (.c m)] (.e 2) s).bind λz P=>zR .f (.c i) z P
     |.e false=>.e (.e false) s
     |_=>.d)=Out.e (.e (decide (l<=i)&&decide (i<=m))) s
    cases decide (l<=i) with
    |true=>exact bnd (zB rfl) le_int
    |false=>rfl
   exact xG (lE (yH (zA (zB rfl) (zA qC zE)) e1) (Wl (yH (zA (zB rfl) (zA qC zE)) e2)) Q) (N rfl)
 . cases O
   exact xG (iJ (yH (zA (zB rfl) (zA qC zE)) e1) (Wl (yH (zA (zB rfl) (zA qC zE)) e2))) (N rfl)
 . rw[h1]at e1
   exact xG (iI (yH (zA (zB rfl) (zA qC zE)) e1)) (N (R _ _).symm)
def jv(c:nW Φ)(hk:∀v∈vs,kindOf v≠none):run T Φ F.yt [.f vs,.c l,.c m] s=.e (.e (vs.all (zm l m))) s:=by
 rw[post_eq];simp[F.yt,EVl,zi,zh];refine aH (λe=>∃o,e=[o,some (.c l),some (.c m)]) (λx=>[.e (zm l m x)]) ?_;simp[EVl,zi,zh];refine⟨?_,?_⟩
 . intro x hx
   simp[EVl,zi,zh,c x l m s (hk x hx)]
 . simp[newList,EVl,zi,zh,blt,om,yd,rV]
def oG(c:nW Φ)(h1:l<=i)(x:i<=m):run T Φ F.zt [.c i,.c l,.c m] s=.e .j s:=by rw[post_eq];simp[F.zt,EVl,zi,zh,c (.c i) l m s (by simp[kindOf]),nV h1 x]
def mK(h:x∈xq lo n):∃k:Nat,k<n/\x=.c (lo+k):=by unfold xq at h;obtain⟨k,h1,rfl⟩:=A7.mp h;exact⟨k,Bl.mp h1,rfl⟩
def i6 a b:CQ (.int a) (.int b)=decide (a=b):=by by_cases h:a=b<;>simp[CQ,h]
def eq_int:zR .a (.c a) (.c b) s=.e (.e (decide (a=b))) s:=by simp[zR,zq,yg,uz,Val.isD,Val.d,PyData.depth,i6]
def VS{k:Nat}(h:vs[k]?=some v):xm (.f vs) (.c k) s=.e v s:=by simp[xm,wI,L2.qF h]
def qz{ns:List Int}{k:Nat}(h:ns[k]?=some i):xm (.f (ns.map .c)) (.c k) s=.e (.c i) s:=VS (by rw[AE,h];rfl)
def uV{ns:List Int}:∀v∈ns.map Val.c,kindOf v≠none:=λv x=>by obtain⟨i,_,rfl⟩:=A7.mp x;simp[kindOf]
def ur{ns:List Int}(h:∀x∈ns,l<=x/\x<=m):(ns.map Val.c).all (zm l m)=true:=by rw[AB];intro v N;obtain⟨i,hi,rfl⟩:=A7.mp N;exact nV (h i hi).1 (h i hi).2
def ij{x:List α}(hp:p<=x.length):uy x none (some (p:Int))=x.take p:=by
 unfold uy;have h1:HT.sIx x.length 0 none=0:=rfl;have N:HT.sIx x.length x.length (some (p:Int))=p:=by rw[HT.mj];omega
 rw[h1,N,Dp,FX]
def ig{x:List α}(hp:p<=x.length):uy x (some (p:Int)) none=x.drop p:=by
 unfold uy;have h1:HT.sIx x.length 0 (some (p:Int))=p:=by rw[HT.mj];omega
 have N:HT.sIx x.length x.length none=x.length:=rfl;rw[h1,N,List.take_of_length_le (by rw[Cv];omega)]
noncomputable abbrev tpI(ns:List Int):Val:=.f (ns.map .c)
def Zz(h:a.length+b.length<=zZ):binOp m .a (.f a) (.f b) s=.e (.f (a++b)) s:=by simp only[binOp];rw[if_pos h]
noncomputable def sL(a b:Int):Cel:=.c [.c a,.c b]
def xK(s:Sto)(p:Nat):Prop:=∃a b,s[p]?=some (sL a b)/\0<=b/\b<2147483629
def yO(s:Sto)(p:Nat)(s':Sto):Prop:=∃a b,s'=s.set p (sL a b)/\0<=b/\b<2147483629
def xK.lt(h:xK s p):p<s.length:=by obtain⟨a,b,h,_⟩:=h;exact(Au.mp h).1
def yO.at_(h:yO s p s')(hp:p<s.length):xK s' p:=by obtain⟨a,b,rfl,h1⟩:=h;exact⟨a,b,AQ hp,h1⟩
def yO.trans(h:yO s p s1)(k:yO s1 p s2):yO s p s2:=by obtain⟨a,b,rfl,h1⟩:=h;obtain⟨c,d,rfl,x⟩:=k;exact⟨c,d,by rw[List.set_set],x⟩
def xK.refl(h:xK s p):yO s p s:=by obtain⟨a,b,h,h1⟩:=h;obtain⟨hp,e⟩:=Au.mp h;refine⟨a,b,?_,h1⟩;rw[<-e,List.set_getElem_self]
def yO.len(h:yO s p s'):s'.length=s.length:=by obtain⟨a,b,rfl,_⟩:=h;exact BP ..
def yO.app(hp:p<s.length)(h:yO (s++t) p s'):∃s1,yO s p s1/\s'=s1++t:=by obtain⟨a,b,rfl,h1⟩:=h;exact⟨_,⟨a,b,rfl,h1⟩,List.set_append_left _ _ hp⟩
def xK.up(h:xK s p)t:xK (s++t) p:=by obtain⟨a,b,h1,x⟩:=h;exact⟨a,b,by rw[A2 (Au.mp h1).1];exact h1,x⟩
def oz(h:yO s p s')(x:v.noRef=true):yF false s v (s'++t)=.e v s':=by obtain⟨a,b,rfl,_⟩:=h;exact jF x rfl
def vM(h:yO s p s')(x:v.noRef=true):yF false s v s'=.e v s':=by
 have:=oz (t:=[]) h x
 rwa [A9]at this
def bmod(h:0<j):binOp m .b (.c i) (.c j) s=.e (.c (i%j)) s:=by simp only[binOp];rw[if_pos h]
def bdiv(h:0<j/\j<1073741824):binOp m .e (.c i) (.c j) s=.e (.c (i/j)) s:=by simp only[binOp];rw[if_pos h]
def mF{k:Nat}(h:vs[k]?=some v):xm (.h vs) (.c k) s=.e v s:=by simp[xm,wI,L2.qF h]
def VT{i k:Nat}(hs:s[i]?=some (.c vs))(h:vs[k]?=some v):xm (.m i) (.c k) s=.e v s:=by simp[xm,wI,hs,L2.qF h]
section
variable {T:Tbl}{Φ:Calls}{s:Sto}
def Xv(Φ:Calls):Prop:=∀(ns:List Int) (k:Nat) (s:Sto),∃c,Φ "_law_cell_at" 0 [.r ns,.c k] s=.e (.c c) s
def Tj(Φ:Calls):Prop:=∀(c:Int) (s:Sto),∃a b,Φ "_law_pen" 1 [.c c] s=.e (.m s.length) (s++[sL a b])/\0<=b/\b<2147483629
def lG(Φ:Calls):Prop:=∀(p:Nat) (m:Int) (s:Sto),xK s p->0<m->m<1000000->(Φ "_law_draw" 0 [.m p,.c m] s).post λv s'=>∃r:Nat,v=.c r/\(r:Int)<m/\yO s p s'
def ZK ns(k:Nat):∃c,run T Φ F.yD [.r ns,.c k] s=.e (.c c) s:=by
 by_cases h:k<ns.length
 . refine⟨ns[k],?_⟩
   rw[post_eq];have h':(k:Int)<ns.length:=by omega
   have e:(ns.map Val.c)[k]?=some (.c ns[k]):=by rw[AE,Ab h];rfl
   have c1:xm (.r ns) (.c k) s=.e (.c ns[k]) s:=by simp[xm,wI,L2.qF e]
   simp[F.yD,EVl,zi,zh,bY,lt_int,h',h,c1]
 . refine⟨0,?_⟩
   rw[post_eq];have h':¬(k:Int)<ns.length:=by omega
   simp[F.yD,EVl,zi,zh,bY,lt_int,h',h]
def XQ c:∃a b,run T Φ F.yM [.c c] s=.e (.m s.length) (s++[sL a b])/\0<=b/\b<2147483629:=by
 have x:(run T Φ F.yM [.c c] s).post λv s'=>∃a b,v=.m s.length/\s'=s++[sL a b]/\0<=b/\b<2147483629:=by
  have c1:∀(i:Int) (b:Bool),binOp false .c (.c i) (.c (if b then 1 else 0)) s=.e (.c (i*(if b then 1 else 0))) s:=λi b=>dU (by cases b<;>simp)
  have c2:∀i:Int,binOp false .b (.c i) (.c 2147483629) s=.e (.c (i%2147483629)) s:=λi=>by simp[binOp]
  have c3:binOp false .f (.c 10) (.c 18) s=.e (.c (10 ^ 18)) s:=by simp[binOp]
  simp[F.yM,EVl,zi,zh,gY,blt];simp[EVl,zi,zh,c1,c2,c3,ge_int,blt,zZ,newList,sL];rw[dU (by split<;>omega)]
  simp only[zD];rw[bmod ⋯]
  simp only[zD];exact⟨trivial,_,_,⟨trivial,rfl,rfl⟩,Gj _ ⋯,Fd _ ⋯⟩
 obtain⟨v,s',h,a,b,rfl,rfl,h1⟩:=x;exact⟨a,b,h,h1⟩
def ZL(hp:xK s p)(h0:0<m)(h1:m<1000000):(run T Φ F.yj [.m p,.c m] s).post λv s'=>∃r:Nat,v=.c r/\(r:Int)<m/\yO s p s':=by
 have P:=hp.lt;obtain⟨a,b,hs,U,Q⟩:=hp;have ix:∀{s:Sto} {a b:Int} {k:Nat} {v:Val},s[p]?=some (sL a b)->[Val.c a,.c b][k]?=some v->xm (.m p) (.c k) s=.e v s:=λh h'=>VT h h';have N:∀{x:Int} {s':Sto},yO s p s'->(yF false s (.c (x%m)) s').post λv s'=>∃r:Nat,v=.c r/\(r:Int)<m/\yO s p s':=λ{x s'} t=>by
  rw[vM t wj];have Y:=Gj x (show m≠0 by omega)
  have W:=Fd x h0;exact zD.mpr ⟨(x%m).toNat,by congr 1;omega,⋯,t⟩
 rw[F.yj,wW];refine⟨rfl,?_⟩;show (zU Φ T.b [some (.m p),some (.c m),none,none,none] _ s).post _;have tc:evT Φ T.b [some (.m p),some (.c m),none,none,none] (.a (.l .c (.s (.e 0) (.g (.c 0))) (.g (.c 0)))) s=.e (decide (0<a)) s:=yv (ye (wF (zB rfl) zI (ix (k:=0) hs rfl)) zI gt_int) zu;cases hd:decide (0<a) with
 |true=>
  rw[hd]at tc;refine WY tc (U6 (env':=[some (.m p),some (.c m),some (.c (a/m)),some (.c (a%m)),none]) (yH (zA (wF (zB rfl) zI (ix (k:=0) hs rfl)) (zA (zB rfl) zE)) (show blt .d false [.c a,.c m] s=.e (.f [.c (a/m),.c (a%m)]) s by simp only[blt];rw[if_pos ⟨h0,⋯⟩])) rfl ?_)
  exact gJ (j:=0) (zB rfl) (zB rfl) zI hs rfl (xG (zB rfl) (N ⟨a/m,b,rfl,U,Q⟩))
 |false=>
  rw[hd]at tc;refine vi tc ?_;refine gJ (j:=1) (zk (zk (zk (wF (zB rfl) zI (ix (k:=1) hs rfl)) zI (dU ⋯)) zI rn) zI (bmod ⋯)) (zB rfl) zI hs rfl ?_
  generalize hx:(b*48271+30269)%2147483629=x;have S:0<=x:=by rw[<-hx];exact Gj _ ⋯
  have R:x<2147483629:=by rw[<-hx];exact Fd _ ⋯
  have O:(s.set p (sL a x))[p]?=some (sL a x):=AQ P;show (zU Φ T.b [some (.m p),some (.c m),none,none,none] _ (s.set p (sL a x))).post _;refine vA (zk (zk (zk (zk (wF (zB rfl) zI (ix (k:=1) O rfl)) (wF (zB rfl) zI (ix (k:=1) O rfl)) (show binOp false .c (.c x) (.c x) _=_ by simp only[binOp];rw[if_pos (.inl ⋯)])) (zk zI (wF (zB rfl) zI (ix (k:=1) O rfl)) (Tz ⋯)) rn) zI rn) zI (bmod ⋯)) ?_
  exact xG (zk (zk (zB rfl) zI (bdiv ⟨⋯,⋯⟩)) (zB rfl) (bmod h0)) (N ⟨a,x,rfl,S,R⟩)
end
theorem rA:∀ks:List Int,u6 (ks.map .c)=true
 |[]=>by rw[EL,u6]
 |k::ks=>by rw[AW,u6,rA ks,Val.isD];rfl
noncomputable def Qt(N:Int->Bool):Val->List Val
 |.c x=>if N x then [.c x] else []
 |_=>[]
def wG(h:env[i]?=some (some (tpI ns))):evE Φ G env (.k .a m (.a (.e i) .c)) s=.e (.c (ns.length:Nat)) s:=yH (zA (zB h) zE) (by rw[bZ,Ac])
section
variable {Φ:Calls}{G:Str->Option Val}{env:Env}{s:Sto}
noncomputable def U0(f:Nat->Int):Val->List Val
 |.c k=>[.c (f k.toNat)]
 |_=>[]
def ZI:(xq 0 n).flatMap (U0 f)=((Av n).map f).map .c:=by
 unfold xq;rw[DA,CH];have:(λ(k:Nat)=>U0 f (.c (0+(k:Int))))=λk=>[(Val.c∘f) k]:=by funext k;show [Val.c (f (0+(k:Int)).toNat)]=_;rw[Int.zero_add,Bv];rfl
 rw[this,om]
def Zt(hi:xY Φ G env it s=.e ⟨xq 0 n,none⟩ s)(h0:zh fr env=none::e0)(h:∀k (o:Option Val),k<n->evE Φ G (some (.c k)::e0) elt s=.e (.c (f k)) s)(O:n<=zZ):evE Φ G env (.p false N fr elt (.a 0) it .a) s=.e (.h (((Av n).map f).map .c)) s:=by
 rw[post_eq];refine uZ (λe=>∃o,e=o::e0) (U0 f) (xq 0 n) (s1:=s) hi ⟨none,h0⟩ ?_ ?_
 . rintro x hx e ⟨o,rfl⟩
   obtain⟨k,hk,rfl⟩:=mK hx;refine⟨_,rfl,⟨_,rfl⟩,wd.mpr ⟨rfl,?_⟩⟩;rw[if_pos rfl,Int.zero_add];show (evE Φ G (some (.c (k:Int))::e0) elt s).post _;rw[h k none hk];refine zD.mpr ⟨rfl,?_⟩;show [Val.c (f (k:Int).toNat)]=_;rw[Bv]
 . rw[ZI]
   exact zD.mpr ⟨rfl,rfl⟩
end
def nG(L:L2.vk k w d)(hk:k<=50)(hw:w<=300000)(hd:d.hasDict=false):tH d=true:=by
 have:=L.a;have:=L.f;unfold tH;rw[L.c,L.b,hd,decide_eq_true (show d.depth<=50 by omega),decide_eq_true (show d.weight<=300000 by omega)]
 rfl
theorem tq:∀ks:List Int,ds (ks.map .c)=ks.map CA
 |[]=>by rw[EL,ds];rfl
 |k::ks=>by rw[AW,ds,tq ks,Val.d];rfl
theorem rB:∀ks:List Int,v5 (ks.map .c)=true
 |[]=>by rw[EL,v5]
 |k::ks=>by rw[AW,v5,rB ks,Val.isR];rfl
def XO(h1:ks.length<=1000)(N:∀k∈ks,0<=k/\k<=100000):blt .g m [tpI ks] s=.e (.g (PyData.tuple (ks.map CA)).shown) s:=by
 have hd:(Val.f (ks.map .c)).d=.tuple (ks.map CA):=by rw[Val.d,tq]
 have x:(Val.f (ks.map .c)).isR=true:=by rw[Val.isR];exact rB ks
 have ok:tH (.tuple (ks.map CA))=true:=nG (L2.u9 (n:=1000) (k:=0) (w:=100) (λd hd=>by obtain⟨r,x,rfl⟩:=A7.mp hd;exact L2.pA (by have:=N r x;omega) (by have:=N r x;omega)) (by rw[Ac];exact h1)) (by decide) (by decide) (by rw[D2];exact L2.wO λd hd=>by obtain⟨r,x,rfl⟩:=A7.mp hd;rfl)
 have hx:zq s (tpI ks)=.f (ks.map .c):=by show Val.f ((ks.map Val.c).map (yg s))=_;rw[CH];rfl
 simp only[blt];rw[hx,hd,x,ok];rfl
def max2:blt .k m [.c i,.c j] s=.e (.c (if j > i then j else i)) s:=rfl
def min2:blt .l m [.c i,.c j] s=.e (.c (if j<i then j else i)) s:=rfl
def cR{K:Nat}(h0:env[0]?=some (some (.r ns)))(x:K<=100) :
 xY Φ G env (.d (.k .k false (.a (.g (.c 1)) (.a (.k .l false (.a (.k .a false (.a (.e 0) .c)) (.a (.g (.c K)) .c))) .c)))) s=.e ⟨xq 0 (max 1 (min ns.length K)),none⟩ s:=by
 rw[post_eq];simp only[EVl,zi,zh];refine⟨_,h0,?_⟩;rw[bY];simp only[zD];rw[min2];simp only[zD];rw[max2];simp only[zD];have e:(if (if (K:Int)<(ns.length:Int) then (K:Int) else (ns.length:Int)) > 1 then (if (K:Int)<(ns.length:Int) then (K:Int) else (ns.length:Int)) else 1)=((max 1 (min ns.length K):Nat):Int):=by split<;>split<;>omega
 rw[e];refine⟨_,rfl,⟨⋯,by unfold zZ;omega⟩,?_⟩
 simp
end M
end
section
namespace F
open PySem M
noncomputable def xh:Fn:=⟨["thing"],["thing"],false,(.e (.f (.w (.k .i false (.a (.e 0) (.a (.L "tuple" "tuple") .c))) (.a (.l .f (.k .a false (.a (.e 0) .c)) (.E "MOST_PLACES")) (.a (.h "are_wholes" 0 (.a (.e 0) (.a (.s (.E "HUES") (.g (.c 0))) (.a (.s (.E "HUES") (.A (.g (.c 1)))) .c)))) .c)))) .f)⟩
noncomputable def yu:Fn:=⟨["thing"],["thing"],false,(.e (.h (.d (.a (.h "is_strip" 0 (.a (.e 0) .c)))) (.e (.j (.h "NoStrip" 0 (.a (.g (.g "a strip is due")) .c))) .f) .f) .f)⟩
end F
end
section
namespace M
open PySem
def au{ns:List Int}(x:ns.length<41):L2.zo ns (L2.yS ns.length none none (-1)).1 (-1) (L2.yS ns.length none none (-1)).2=ns.reverse:=by
 have N:∀n:Nat,n<41->L2.yS n none none (-1)=((n:Int)-1,n):=by decide +kernel
 rw[N _ x];unfold L2.zo;dsimp only;rw[cT (g:=λk=>ns.getD (ns.length-1-k) 0)]
 . refine Eb λi=>?_
   by_cases hi:i<ns.length
   . rw[AE,C6 hi,List.getElem?_reverse hi,C9,Am,Ab ⋯];rfl
   . rw[Bb (by simp;omega),Bb (by simp;omega)]
 . intro k hk
   have hk:=Bl.mp hk;have:((ns.length:Int)-1+(k:Int)*-1).toNat=ns.length-1-k:=by omega
   rw[this,Am,Ab ⋯];rfl
abbrev tps(L:List (List Int)):List Val:=L.map tpI
def iS(h:a.length+b.length<=zZ):binOp false .a (.h a) (.h b) s=.e (.h (a++b)) s:=by simp only[binOp,yd];rw[if_pos h];rfl
def g6{G:Nat->Val}{n:Nat}(hF:∀k<n,F (.c k)=if f k then [G k] else []):(xq 0 n).flatMap F=((Av n).filter f).map G:=by
 unfold xq;rw[DA];have:∀l:List Nat,(∀k∈l,k<n)->l.flatMap (λ(k:Nat)=>F (.c (0+(k:Int))))=(l.filter f).map G:=λl=>by
  induction l with
  |nil=>intro _;rfl
  |cons k l x=>
   intro h;rw[List.flatMap_cons,x λj N=>h j (.tail _ N),show (0:Int)+(k:Int)=(k:Int) by omega,hF k (h k (.head _)),F6]
   cases f k<;>rfl
 exact this _ λk hk=>Bl.mp hk
theorem mB:∀ns:List Int,intsOf (ns.map .c)=some ns
 |[]=>rfl
 |n::ns=>by show (intsOf (ns.map .c)).map _=_;rw[mB ns];rfl
section
variable {T:Tbl}{Φ:Calls}{s:Sto}
def jB(h1:0<=i)(x:i<8):L2.vk 0 4 (.int i):=by
 have:=L2.pA (i:=i) ⋯ ⋯
 refine⟨this.c,this.b,this.a,?_⟩;have:i=0\/i=1\/i=2\/i=3\/i=4\/i=5\/i=6\/i=7:=by omega
 rcases this with rfl|rfl|rfl|rfl|rfl|rfl|rfl|rfl<;>decide
noncomputable def tD(ns:List Int):PyData:=.tuple (ns.map CA)
theorem d8:∀L:List (List Int),ds (tps L)=L.map tD
 |[]=>rfl
 |ns::L=>by show (tpI ns).d::ds (tps L)=tD ns::L.map tD;rw[d8 L];show PyData.tuple (ds (ns.map .c))::_=_;rw[tq];rfl
theorem lY:∀L:List (List Int),v5 (tps L)=true
 |[]=>rfl
 |ns::L=>by show ((tpI ns).isR&&v5 (tps L))=true;rw[lY L,Fu];exact rB ns
def fQ ns:(tD ns).hasDict=false:=by unfold tD;rw[D2];exact L2.wO λd hd=>by obtain⟨i,hi,rfl⟩:=A7.mp hd;rfl
def ZF(hx:zq s x=.h (tps L))(h1:L.length<=100)(P:∀ns∈L,ns.length<=40/\∀i∈ns,0<=i/\i<4):blt .g m [x] s=.e (.g (PyData.list (L.map tD)).shown) s:=by
 have hd:(Val.h (tps L)).d=.list (L.map tD):=by rw[Val.d,d8]
 have N:(Val.h (tps L)).isR=true:=by rw[Val.isR];exact lY L
 have ok:tH (.list (L.map tD))=true:=nG (L2.oy (n:=100) (k:=1) (w:=200) (λd hd=>by
  obtain⟨ns,O,rfl⟩:=A7.mp hd;have:=P ns O;exact L2.u9 (k:=0) (w:=4) (n:=40) (λd hd=>by
   obtain⟨i,hi,rfl⟩:=A7.mp hd;have:=this.2 i hi;exact jB this.1 ⋯) (by rw[Ac];exact this.1)) (by rw[Ac];exact h1)) (by decide) (by decide) (by
  rw[D2];exact L2.wO λd hd=>by obtain⟨r,N,rfl⟩:=A7.mp hd;exact fQ r)
 simp only[blt];rw[hx,hd,N,ok];rfl
end
structure Th(k w:Nat)(v:Val):Prop where
 nr:v.noRef=true
 kd:kindOf v≠none
 r:v.isR=true
 lf:L2.vk k w v.d
 nd:v.d.hasDict=false
 dr:∀s,yg s v=v
theorem Th.mono(h:Th k w v)(h1:k<=k')(x:w<=w'):Th k' w' v:=⟨h.nr,h.kd,h.r,h.lf.mono h1 x,h.nd,h.dr⟩
def Ze(h1:-(10 ^ 30)<i)(x:i<10 ^ 30):Th 0 100 (.c i):=⟨wj,nofun,by rw[Val.isR],by rw[Val.d];exact L2.pA h1 x,by rw[Val.d];rfl,λ_=>rfl⟩
def gP b:Th 0 100 (.e b):=⟨xP,nofun,by rw[Val.isR],by rw[Val.d];exact(L2.fJ b).mono (Ad _) (Bj _),by rw[Val.d];rfl,λ_=>rfl⟩
def Xk:Th 0 100 .j:=⟨qN,nofun,by rw[Val.isR],by rw[Val.d];exact L2.fK.mono (Ad _) (Bj _),by rw[Val.d];rfl,λ_=>rfl⟩
def TV(h1:∀c∈x.cps.toList,c<16 ^ 8)(N:x.cps.size<=100):Th 0 100 (.g x):=⟨jP,nofun,by rw[Val.isR],by rw[Val.d];exact L2.bf h1 N,by rw[Val.d];rfl,λ_=>rfl⟩
theorem ths:∀{vs},(∀v∈vs,Th k w v)->z6 vs=true/\v5 vs=true/\(ds vs).length=vs.length/\∀d∈ds vs,L2.vk k w d/\d.hasDict=false
 |[],_=>⟨sF,by rw[v5],by rw[ds];rfl,λd h=>by rw[ds]at h;cases h⟩
 |v::vs,h=>by
  obtain⟨a,b,c,e⟩:=ths λx hx=>h x (.tail _ hx);have t:=h v (.head _);refine⟨by rw[uB,t.nr,a];rfl,by rw[v5,t.r,b];rfl,by rw[ds,AH,AH,c],λd hd=>?_⟩
  rw[ds]at hd;rcases Ap.mp hd with rfl|hd
  . exact⟨t.lf,t.nd⟩
  . exact e d hd
def TX(h:∀v∈vs,Th k w v)(x:vs.length<=n):Th (k+1) (n*(w+1)) (.f vs):=by
 obtain⟨a,b,c,e⟩:=ths h;refine⟨by rw[mQ];exact a,nofun,by rw[Val.isR];exact b,by rw[Val.d];exact L2.u9 (λd hd=>(e d hd).1) (by rw[c];exact x),?_,λ_=>rfl⟩
 rw[Val.d,D2];exact L2.wO λd hd=>(e d hd).2
def TU(h:∀v∈vs,Th k w v)(x:vs.length<=n):Th (k+1) (n*(w+1)) (.h vs):=by
 obtain⟨a,b,c,e⟩:=ths h;refine⟨by rw[pK];exact a,nofun,by rw[Val.isR];exact b,by rw[Val.d];exact L2.oy (λd hd=>(e d hd).1) (by rw[c];exact x),?_,λ_=>rfl⟩
 rw[Val.d,D2];exact L2.wO λd hd=>(e d hd).2
def YB:uy (xs.map f) lo hi=(uy xs lo hi).map f:=by unfold uy;rw[Ac,List.map_take,List.map_drop]
def pf:wA m (tpI ns) lo hi none s=.e (tpI (uy ns lo hi)) s:=by show Out.e (Val.f (uy (ns.map .c) lo hi)) s=_;rw[YB]
section
variable {T:Tbl}{Φ:Calls}{s:Sto}
def zS(ns:List Int):Prop:=ns.length<=40/\∀x∈ns,0<=x/\x<=3
def yL(Φ:Calls):Prop:=∀(ns:List Int) (s:Sto),zS ns->Φ "need_strip" 0 [tpI ns] s=.e .j s
def oN(Φ:Calls):Prop:=∀(ns:List Int) (s:Sto),zS ns->Φ "is_strip" 0 [tpI ns] s=.e (.e true) s
def pY(c:oN Φ)(x:zS ns):run T Φ F.yu [tpI ns] s=.e .j s:=by rw[post_eq];simp[F.yu,EVl,zi,zh,c ns s x]
end
def rP:Val->Bool
 |.f vs=>decide (vs.length<=40)&&vs.all (zm 0 3)
 |_=>false
def ZW(h:∀vs,v≠.f vs):rP v=false:=by
 cases v with
 |f vs=>exact absurd rfl (h vs)
 |_=>rfl
def ZX(h:zS t):rP (tpI t)=true:=by show (decide ((t.map Val.c).length<=40)&&(t.map Val.c).all (zm 0 3))=true;rw[Ac,decide_eq_true h.1,ur h.2];rfl
end M
end
section
namespace F75
open PySem M
noncomputable def yj:Fn:=⟨["_law_pen_here","_law_bound","_law_found","_law_stir"],["_law_pen_here","_law_bound"],false,(.e (.h (.b (.a (.l .a (.s (.e 0) (.g (.c 1))) (.g (.c 1)))) (.b (.a (.l .c (.s (.e 0) (.g (.c 0))) (.g (.c 0)))) .a)) (.e (.g 2 (.j false .b (.s (.e 0) (.g (.c 0))) (.e 1))) (.e (.k (.e 0) (.g (.c 0)) (.j false .e (.s (.e 0) (.g (.c 0))) (.e 1))) (.e (.f (.e 2)) .f))) .f) (.e (.k (.e 0) (.g (.c 2)) (.j false .a (.s (.e 0) (.g (.c 2))) (.g (.c 1)))) (.e (.g 3 (.j false .b (.j false .c (.j false .a (.s (.e 0) (.g (.c 3))) (.g (.c 17))) (.j false .a (.g (.c 69621)) (.j false .c (.g (.c 2)) (.s (.e 0) (.g (.c 2)))))) (.g (.c 2147483647)))) (.e (.g 3 (.j false .b (.j false .a (.j false .a (.j false .c (.e 3) (.e 3)) (.j false .c (.g (.c 40503)) (.s (.e 0) (.g (.c 2))))) (.g (.c 5))) (.g (.c 2147483629)))) (.e (.f (.j false .b (.j false .e (.j false .b (.j false .c (.e 3) (.g (.c 48271))) (.g (.c 2147483647))) (.g (.c 32))) (.e 1))) .f)))))⟩
noncomputable def yM:Fn:=⟨["_law_cell"],["_law_cell"],true,(.e (.f (.y true (.a (.e 0) (.a (.k .o false (.a (.l .i (.e 0) (.j false .f (.g (.c 10)) (.g (.c 18)))) .c)) (.a (.g (.c 0)) (.a (.j false .b (.e 0) (.g (.c 1000000007))) .c)))))) .f)⟩
end F75
end
section
namespace M
open PySem
noncomputable def Rc(a b c d:Int):Cel:=.c [.c a,.c b,.c c,.c d]
def QM(s:Sto)(p:Nat):Prop:=∃a b c d,s[p]?=some (Rc a b c d)/\0<=d/\d<1000000007
def To(s:Sto)(p:Nat)(s':Sto):Prop:=∃a b c d,s'=s.set p (Rc a b c d)/\0<=d/\d<1000000007
def To.at_(h:To s p s')(hp:p<s.length):QM s' p:=by obtain⟨a,b,c,d,rfl,h1⟩:=h;exact⟨a,b,c,d,AQ hp,h1⟩
theorem pL:∀{vs},(∀v∈vs,v.noRef=true)->z6 vs=true
 |[],_=>sF
 |v::vs,h=>by rw[uB,h v (.head _),pL λw hw=>h w (.tail _ hw)];rfl
noncomputable def apO(os:List Nat)(i:Int):Int:=((os.getD i.toNat 0:Nat):Int)
structure Od(k:Nat)(os:List Nat):Prop where
 nd:os.Nodup
 b:os.length=k
 lt:∀x∈os,x<k
 ix:∀h,h<k->os.idxOf h<k/\os[os.idxOf h]?=some h
 at_:∀(a h:Nat),os[a]?=some h->os.idxOf h=a
def bx{os}(p:os.Perm (Av k)):Od k os:=by
 have nd:os.Nodup:=p.nodup_iff.mpr List.nodup_range;have P:os.length=k:=by rw[p.length_eq,Bi]
 refine⟨nd,P,λx hx=>Bl.mp (p.mem_iff.mp hx),λh Q=>?_,λa h e=>?_⟩
 . have O:h∈os:=p.mem_iff.mpr (Bl.mpr Q)
   have N:=List.idxOf_lt_length_iff.mpr O;exact⟨⋯,by rw[Ab N,List.getElem_idxOf]⟩
 . obtain⟨N,rfl⟩:=Au.mp e
   exact nd.idxOf_getElem a N
theorem i7{x N:Type}{g}{h:x->N}:∀{l:List x},(∀a∈l,g a=some (h a))->l.filterMap g=l.map h
 |[],_=>rfl
 |a::l,H=>by rw[A3,H a (.head _),AW,i7 λb O=>H b (.tail _ O)]
def XH{ns:List Int}(h1:∀k,k<c->f+k*d<ns.length)(x:ns.length<=f+c*d)i:(L2.zo ns (f:Int) (d:Int) c)[i]?=ns[f+i*d]?:=by
 have e:L2.zo ns (f:Int) (d:Int) c=(Av c).map λk=>ns.getD (f+k*d) 0:=by
  unfold L2.zo;refine i7 λk hk=>?_;have hk:=h1 k (Bl.mp hk);rw[show ((f:Int)+(k:Int)*(d:Int)).toNat=f+k*d by rw[<-Int.natCast_mul,<-Int.natCast_add,Bv]]
  rw[Am,Ab hk];rfl
 rw[e,AE];by_cases hi:i<c
 . rw[C6 hi,Ab (h1 i hi)]
   show some (ns.getD (f+i*d) 0)=_;rw[Am,Ab (h1 i hi)];rfl
 . rw[Bb (by rw[Bi];omega),Bb]
   . rfl
   . have:=B3 d (Nat.le_of_not_lt hi)
     omega
end M
end
section
namespace F14
open PySem M
noncomputable def xf:Fn:=⟨["strip"],["strip"],false,(.e (.d (.h "need_strip" 0 (.a (.e 0) .c))) (.e (.f (.I false (.e 0) .b .b (.a (.A (.g (.c 1)))))) .f))⟩
noncomputable def yV:Fn:=⟨["strip","hues"],["strip","hues"],false,(.e (.d (.h "need_strip" 0 (.a (.e 0) .c))) (.e (.h (.d (.a (.h "is_order" 0 (.a (.e 1) .c)))) (.e (.j (.h "NoHue" 0 (.a (.g (.g "the hues 0 to 3, each once, are due")) .c))) .f) .f) (.e (.f (.k .b false (.a (.p false ["hue","hues"] [none,some 1] (.s (.e 1) (.e 0)) (.a 0) (.f (.e 0)) .a) .c))) .f)))⟩
noncomputable def yZ:Fn:=⟨["thing"],["thing"],false,(.e (.f (.w (.k .i false (.a (.e 0) (.a (.L "tuple" "tuple") .c))) (.a (.h "are_wholes" 0 (.a (.e 0) (.a (.s (.E "HUES") (.g (.c 0))) (.a (.s (.E "HUES") (.A (.g (.c 1)))) .c)))) (.a (.l .a (.k .b false (.a (.k .c false (.a (.e 0) .c)) .c)) (.E "HUES")) .c)))) .f)⟩
noncomputable def yN:Fn:=⟨["thing"],["thing"],false,(.e (.d (.h "need_whole" 0 (.a (.e 0) (.a (.g (.c 0)) (.a (.E "MOST_PLACES") .c))))) .f)⟩
noncomputable def yW:Fn:=⟨["thing"],["thing"],false,(.e (.d (.h "need_whole" 0 (.a (.e 0) (.a (.g (.c 1)) (.a (.E "MOST_PLACES") .c))))) .f)⟩
noncomputable def yf:Fn:=⟨["strip","first","step"],["strip","first","step"],false,(.e (.d (.h "need_strip" 0 (.a (.e 0) .c))) (.e (.d (.h "need_first" 0 (.a (.e 1) .c))) (.e (.d (.h "need_step" 0 (.a (.e 2) .c))) (.e (.f (.I false (.e 0) (.a (.e 1)) .b (.a (.e 2)))) .f))))⟩
end F14
end
section
namespace M
open PySem
def uA ns:(tpI ns).noRef=true:=wc ns
noncomputable abbrev zT(os:List Nat):List Int:=os.map λ(h:Nat)=>(h:Int)
def UN(os:List Nat)(k:Nat):List Int:=zT os++L2.rM k 4 1
structure Od4(hs:List Int):Prop where
 a:hs.length=4
 b:∀x∈hs,0<=x/\x<=3
 c:sortI hs=[0,1,2,3]
def UE{os}(p:os.Perm (Av k))(h1:1<=k)(O:k<=4):Od4 (UN os k):=by
 have hp:(UN os k).Perm [0,1,2,3]:=by
  have h:=((p.map λ(h:Nat)=>(h:Int)).append_right (L2.rM k 4 1));refine h.trans ?_;have:k=1\/k=2\/k=3\/k=4:=by omega
  rcases this with rfl|rfl|rfl|rfl<;>exact .refl _
 refine⟨hp.length_eq,λx hx=>?_,F4 (λa b _ _ h1 N=>EO h1 N) (ph _) (by decide) ((sortI_perm _).trans hp)⟩
 have:=hp.mem_iff.mp hx;simp only[Ap,Bo,or_false]at this;omega
section
variable {T:Tbl}{Φ:Calls}{s:Sto}
def um(Φ:Calls):Prop:=∀(i:Int) (s:Sto),0<=i->i<=40->Φ "need_first" 0 [.c i] s=.e .j s
def oO(Φ:Calls):Prop:=∀(i:Int) (s:Sto),1<=i->i<=40->Φ "need_step" 0 [.c i] s=.e .j s
def kI(x:ns.length<41):wA false (tpI ns) none none (some (-1)) s=.e (tpI ns.reverse) s:=by
 have N:∀n:Nat,n<41->(L2.yS n none none (-1)).2<=zZ:=by
  have h:∀n:Nat,n<41->(L2.yS n none none (-1)).2<=41:=by decide +kernel
  intro n x;exact As (h n x) (by decide)
 have e:wA false (tpI ns) none none (some (-1)) s=.e (.f (L2.zo (ns.map .c) (L2.yS ns.length none none (-1)).1 (-1) (L2.yS ns.length none none (-1)).2)) s:=by simp only[wA];rw[Ac,if_pos ⟨by decide,N _ x⟩]
 rw[e,<-au x];show Out.e (Val.f _) s=.e (Val.f _) s;unfold L2.zo;rw[List.map_filterMap];simp only[AE]
def eY(Φ:Calls):Prop:=∀(hs:List Int) (s:Sto),Od4 hs->Φ "is_order" 0 [tpI hs] s=.e (.e true) s
end
theorem qj{x:Type}:∀{l:List x} {r} (h:r<l.length),(l[r]::l.eraseIdx r).Perm l
 |a::l,0,_=>.refl _
 |a::l,r+1,h=>(List.Perm.swap a _ _).trans ((qj (l:=l) (Nat.lt_of_succ_lt_succ h)).cons a)
theorem rF{x N:Type}{f:x->N}:∀{l:List x} {r},(l.eraseIdx r).map f=(l.map f).eraseIdx r
 |[],_=>rfl
 |a::l,0=>rfl
 |a::l,r+1=>congrArg (f a::·) rF
def dF{os}(O:Od 4 os){i:Int}(h0:0<=i)(N:i<=3):∃a h:Nat,i=a/\a<4/\os[a]?=some h/\h<4/\apO os i=h:=by
 obtain⟨a,rfl⟩:∃a:Nat,i=a:=⟨i.toNat,⋯⟩
 have x:a<os.length:=by rw[O.b];omega
 refine⟨a,os[a],rfl,⋯,Ab x,O.lt _ (BY x),?_⟩
 unfold apO;rw[Bv,Am,Ab x];rfl
end M
end
section
namespace F08
open PySem M
noncomputable def yr:Fn:=⟨["_law_pen_here","_law_limit","_law_hues","_law_way","_law_length","_law_odd","_law_found"],["_law_pen_here","_law_limit","_law_hues"],false,(.e (.n [3,4,5] (.a (.h "_law_draw" 0 (.a (.e 0) (.a (.g (.c 4)) .c))) (.a (.h "_law_draw" 0 (.a (.e 0) (.a (.j false .a (.e 1) (.g (.c 1))) .c))) (.a (.j false .a (.g (.c 2)) (.h "_law_draw" 0 (.a (.e 0) (.a (.g (.c 5)) .c)))) .c)))) (.e (.g 6 (.p false ["_law_place","_law_pen_here","_law_hues"] [none,some 0,some 2] (.h "_law_draw" 0 (.a (.e 1) (.a (.e 2) .c))) (.a 0) (.d (.e 4)) .a)) (.e (.h (.a (.l .a (.e 3) (.g (.c 1)))) (.e (.g 6 (.p false ["_law_place","_law_found","_law_length","_law_odd"] [none,some 6,some 4,some 5] (.s (.e 1) (.j false .b (.j false .b (.e 0) (.e 3)) (.e 2))) (.a 0) (.d (.e 4)) .a)) .f) .f) (.e (.h (.a (.l .a (.e 3) (.g (.c 2)))) (.e (.g 6 (.p false ["_law_place","_law_found","_law_odd"] [none,some 6,some 5] (.G (.f (.a (.l .c (.s (.e 1) (.e 0)) (.g (.c 0)))) (.b (.a (.l .a (.j false .b (.e 0) (.e 2)) (.g (.c 0)))) .a)) (.s (.e 1) (.g (.c 0))) (.s (.e 1) (.e 0))) (.a 0) (.d (.e 4)) .a)) .f) .f) (.e (.f (.k .b false (.a (.e 6) .c))) .f)))))⟩
noncomputable def xJ:Fn:=⟨["one","other","many"],["one","other"],false,(.e (.d (.h "need_strip" 0 (.a (.e 0) .c))) (.e (.d (.h "need_strip" 0 (.a (.e 1) .c))) (.e (.g 2 (.j false .a (.k .a false (.a (.e 0) .c)) (.k .a false (.a (.e 1) .c)))) (.e (.h (.a (.l .c (.e 2) (.E "MOST_PLACES"))) (.e (.j (.g .j)) .f) .f) (.e (.f (.j false .a (.e 0) (.e 1))) .f)))))⟩
end F08
end
section
namespace M
open PySem
def fu(N:zS ns):zS ns.reverse:=⟨by rw[C7];exact N.1,λx hx=>N.2 x (List.mem_reverse.mp hx)⟩
section
variable {T:Tbl}{Φ:Calls}{s:Sto}
def eU(Φ:Calls):Prop:=∀(ns:List Int) (s:Sto),zS ns->Φ "backward" 0 [tpI ns] s=.e (tpI ns.reverse) s
def fv(c:yL Φ)(x:zS ns):run T Φ F14.xf [tpI ns] s=.e (tpI ns.reverse) s:=by rw[post_eq,F14.xf,wW];refine⟨rfl,?_⟩;show (zU Φ T.b [some (tpI ns)] _ s).post _;exact vX (x_call (zA (zB rfl) zE) (c ns s x)) (xG (kT (zB rfl) tG tG (sG (rm zI)) (kI (by have:=x.1;omega))) (x9 (uA _)))
def ed(Φ:Calls):Prop:=∀(ns ts:List Int) (f d:Nat) (s:Sto),zS ns->f<=40->1<=d->d<=40->(∀s,wA false (tpI ns) (some (f:Int)) none (some (d:Int)) s=.e (tpI ts) s)->Φ "thinned" 0 [tpI ns,.c f,.c d] s=.e (tpI ts) s
def eB(c:yL Φ)(c1:um Φ)(c2:oO Φ){f d:Nat}(N:zS ns)(h1:f<=40)(P:1<=d)(O:d<=40)(x:∀s,wA false (tpI ns) (some (f:Int)) none (some (d:Int)) s=.e (tpI ts) s):run T Φ F14.yf [tpI ns,.c f,.c d] s=.e (tpI ts) s:=by rw[post_eq,F14.yf,wW];refine⟨rfl,?_⟩;show (zU Φ T.b [some (tpI ns),some (.c f),some (.c d)] _ s).post _;exact vX (x_call (zA (zB rfl) zE) (c ns s N)) (vX (x_call (zA (zB rfl) zE) (c1 f s ⋯ ⋯)) (vX (x_call (zA (zB rfl) zE) (c2 d s ⋯ ⋯)) (xG (kT (zB rfl) (sG (zB rfl)) tG (sG (zB rfl)) (x s)) (x9 (uA _)))))
def eV(Φ:Calls):Prop:=∀(ns:List Int) (os:List Nat) (s:Sto),zS ns->os.Perm (Av 4)->Φ "exchanged" 0 [tpI ns,tpI (zT os)] s=.e (tpI (ns.map (apO os))) s
def Yr{os}(p:os.Perm (Av 4)):Od4 (zT os):=by
 have:=UE p ⋯ ⋯
 unfold UN at this
 rwa [show L2.rM ((4:Nat):Int) 4 1=[] from rfl,A9]at this
def fw(c:yL Φ)(c1:eY Φ){os}(N:zS ns)(p:os.Perm (Av 4)):run T Φ F14.yV [tpI ns,tpI (zT os)] s=.e (tpI (ns.map (apO os))) s:=by
 have O:=bx p;rw[post_eq,F14.yV,wW];refine⟨rfl,?_⟩;show (zU Φ T.b [some (tpI ns),some (tpI (zT os))] _ s).post _;have P:evE Φ T.b [some (tpI ns),some (tpI (zT os))] (.p false ["hue","hues"] [none,some 1] (.s (.e 1) (.e 0)) (.a 0) (.f (.e 0)) .a) s=.e (.h ((ns.map (apO os)).map .c)) s:=by
  rw[post_eq];refine uZ (λe=>∃o,e=[o,some (tpI (zT os))]) (λx=>match x with|.c i=>[.c (apO os i)]|_=>[]) (ns.map .c) (s1:=s) (v7 (zB rfl) rfl) ⟨none,rfl⟩ ?_ ?_
  . rintro x hx e ⟨o,rfl⟩
    obtain⟨i,hi,rfl⟩:=A7.mp hx;refine⟨_,rfl,⟨_,rfl⟩,wd.mpr ⟨rfl,?_⟩⟩;rw[if_pos rfl];obtain⟨a,h,rfl,R,h1,Q,e⟩:=dF O (N.2 i hi).1 (N.2 i hi).2;have hx:xm (tpI (zT os)) (.c (a:Int)) s=.e (.c (h:Int)) s:=qz (by rw[AE,h1];rfl)
    show (evE Φ T.b [some (.c (a:Int)),some (tpI (zT os))] (.s (.e 1) (.e 0)) s).post _;rw[wF (zB rfl) (zB rfl) hx];exact zD.mpr ⟨rfl,by show [Val.c (apO os (a:Int))]=_;rw[e]⟩
  . have e:(ns.map Val.c).flatMap (λx=>match x with|.c i=>[Val.c (apO os i)]|_=>[])=(ns.map (apO os)).map .c:=by rw[DA,CH];exact om _ _
    rw[e];exact zD.mpr ⟨rfl,rfl⟩
 exact vX (x_call (zA (zB rfl) zE) (c ns s N)) (vi (gO (yv (x_call (zA (zB rfl) zE) (c1 (zT os) s (Yr p))) zu)) (xG (yH (zA P zE) rfl) (x9 (uA _))))
def Xw(Φ:Calls):Prop:=∀(a b:List Int) (s:Sto),zS a->zS b->a.length+b.length<=40->Φ "joined" 0 [tpI a,tpI b] s=.e (tpI (a++b)) s
end
def ZP(hd:v.isD=true)(hp:v.d.depth<=60)(O:∀x,v≠.g x)(N:zq s v=v):zR .b v v s=.e (.e false) s/\zR .a v v s=.e (.e true) s:=by
 have e:uz v v=some true:=by unfold uz;rw[hd,decide_eq_true hp,SeqAt.eqv_refl _ (yB hd)];rfl
 cases v with
 |g x=>exact absurd rfl (O x)
 |_=>exact⟨by simp only[zR,N,e];rfl,by simp only[zR,N,e]⟩
def oh(ks:List Int):Gh (ks.map CA)<=0:=L2.uQ (k:=0) λd hd=>by obtain⟨i,hi,rfl⟩:=A7.mp hd;exact Ad _
def mn:zR .b (tpI ns) (tpI ns) s=.e (.e false) s/\zR .a (tpI ns) (tpI ns) s=.e (.e true) s:=by
 refine ZP (by rw[Val.isD];exact rA ns) ?_ nofun ?_
 . rw[Val.d,tq,PyData.depth]
   have:=oh ns;omega
 . show Val.f ((ns.map Val.c).map (yg s))=_
   rw[CH];rfl
section
variable {T:Tbl}{Φ:Calls}{s:Sto}
def iN(Φ:Calls):Prop:=∀(p x h:Nat) (s:Sto),xK s p->x<=40->1<=h->h<=4->(Φ "_law_strip" 0 [.m p,.c x,.c h] s).post λv s'=>∃ns,v=tpI ns/\zS ns/\ns.length<=x/\yO s p s'
def js(cD:lG Φ){p O h:Nat}(hp:xK s p)(hl:O<=40)(h1:1<=h)(h4:h<=4):(run T Φ F08.yr [.m p,.c O,.c h] s).post λv s'=>∃ns,v=tpI ns/\zS ns/\ns.length<=O/\yO s p s':=by
 have Y:=hp.lt;rw[F08.yr,wW];refine⟨rfl,?_⟩;show (zU Φ T.b [some (.m p),some (.c O),some (.c h),none,none,none,none] _ s).post _;refine yA.mpr (l5.mpr (tJ.mpr (sH (zA (zB rfl) (zA zI zE)) (zP (cD p 4 s hp ⋯ ⋯) ?_))))
 rintro v s1 ⟨W,rfl,_,t1⟩;refine tJ.mpr (sH (zA (zB rfl) (zA (zk (zB rfl) zI rn) zE)) (zP (cD p _ s1 (t1.at_ Y) ⋯ ⋯) ?_))
 rintro v s2 ⟨n,rfl,hn,t2'⟩;have t2:=t1.trans t2';refine tJ.mpr (WO.mpr (WR.mpr (sH (zA (zB rfl) (zA zI zE)) (zP (cD p 5 s2 (t2.at_ Y) ⋯ ⋯) ?_))))
 rintro v s3 ⟨od,rfl,hod,t3'⟩;have t3:=t2.trans t3';rw[rn,show (2:Int)+(od:Int)=((od+2:Nat):Int) by omega]
 refine zD.mpr (pQ.mpr (qP rfl ?_));show (zU Φ T.b [some (.m p),some (.c O),some (.c h),some (.c W),some (.c n),some (.c (od+2:Nat)),none] _ s3).post _;have hnl:n<=O:=by omega
 have S:n<=zZ:=by unfold zZ;omega
 refine U5 (gD (λrest e s' acc=>(∃o,e=[o,some (.m p),some (.c h)])/\yO s3 p s'/\∃fs:List Int,acc=fs.map .c/\(∀x∈fs,0<=x/\x<=3)/\fs.length+rest.length=n) ?_);refine⟨⟨xq 0 n,none⟩,_,ox (zB rfl) S,⟨⟨none,rfl⟩,(t3.at_ Y).refl,[],rfl,λ_ hx=>(nomatch hx),by rw[pW,BV,Nat.zero_add]⟩,λ_ _ _ _ _=>rfl,?_,?_⟩
 . rintro x rest e s' acc ⟨⟨o,rfl⟩,t,fs,rfl,Z,P⟩
   refine⟨_,rfl,wd.mpr ?_⟩;rw[if_pos rfl];show (evE Φ T.b [some x,some (.m p),some (.c h)] _ s').post _;refine sH (zA (zB rfl) (zA (zB rfl) zE)) (zP (cD p h s' (t.at_ (by rw[t3.len];exact Y)) ⋯ ⋯) ?_)
   rintro v s4 ⟨r,rfl,hr,t4⟩;refine⟨⟨_,rfl⟩,t.trans t4,fs++[(r:Int)],by rw[Bs];rfl,λx hx=>?_,by rw[Ao,BN];rw[AH]at P;omega⟩
   rcases AD.mp hx with hx|hx
   . exact Z x hx
   . rw[AU.mp hx];omega
 . rintro e s4 acc ⟨⟨o,rfl⟩,t,fs,rfl,Z,P⟩
   rw[BV,Nat.add_zero]at P;refine zD.mpr ?_;show (zU Φ T.b [some (.m p),some (.c O),some (.c h),some (.c W),some (.c n),some (.c (od+2:Nat)),some (.h (fs.map .c))] _ s4).post _;have T4:=t3.trans t;have R:∀(N:List Int) (k:Nat),N.length=n->k<n->(∀x∈N,0<=x/\x<=3)->0<=N.getD k 0/\N.getD k 0<=3:=λN k h1 h2 h3=>by
    rw[Am,Ab ⋯]
    exact h3 _ (BY _)
   refine WZ (J:=λe s'=>s'=s4/\∃N:List Int,e=[some (.m p),some (.c O),some (.c h),some (.c W),some (.c n),some (.c (od+2:Nat)),some (.h (N.map .c))]/\N.length=n/\∀x∈N,0<=x/\x<=3) (yv (ye (zB rfl) zI eq_int) zu) (λ_=>?_) (λ_=>⟨rfl,fs,rfl,P,Z⟩) ?_
   . refine vA (Zt (n:=n) (f:=λk=>fs.getD (k%(od+2)%n) 0) (ox (zB rfl) S) rfl (λk o hk=>?_) S) (sR ⟨_,rfl,rfl,(Av n).map λk=>fs.getD (k%(od+2)%n) 0,rfl,by rw[Ac,Bi],λx hx=>?_⟩)
     . have hm1:binOp false .b (.c (k:Int)) (.c ((od+2:Nat):Int)) s4=.e (.c ((k%(od+2):Nat):Int)) s4:=by rw[bmod ⋯,<-Ep]
       have hm2:binOp false .b (.c ((k%(od+2):Nat):Int)) (.c (n:Int)) s4=.e (.c ((k%(od+2)%n:Nat):Int)) s4:=by rw[bmod ⋯,<-Ep]
       have hlt:k%(od+2)%n<fs.length:=by rw[P];exact Nat.mod_lt _ ⋯
       refine wF (zB rfl) (zk (zk (zB rfl) (zB rfl) hm1) (zB rfl) hm2) (mF ?_);rw[AE,Ab hlt,Am,Ab hlt];rfl
     . obtain⟨k,hk,rfl⟩:=A7.mp hx
       exact R fs _ P (Nat.mod_lt _ (by have:=Bl.mp hk;omega)) Z
   . rintro e Q ⟨rfl,N,rfl,hgl,U⟩
     refine WZ (J:=λe s'=>s'=Q/\∃N:List Int,e=[some (.m p),some (.c O),some (.c h),some (.c W),some (.c n),some (.c (od+2:Nat)),some (.h (N.map .c))]/\N.length=n/\∀x∈N,0<=x/\x<=3) (yv (ye (zB rfl) zI eq_int) zu) (λ_=>?_) (λ_=>⟨rfl,N,rfl,hgl,U⟩) ?_
     . refine vA (Zt (n:=n) (f:=λk=>if (decide (0<N.getD k 0)||decide (((k%(od+2):Nat):Int)=0))=true then N.getD 0 0 else N.getD k 0) (ox (zB rfl) S) rfl (λk o hk=>?_) S) (sR ⟨_,rfl,rfl,(Av n).map λk=>if (decide (0<N.getD k 0)||decide (((k%(od+2):Nat):Int)=0))=true then N.getD 0 0 else N.getD k 0,rfl,by rw[Ac,Bi],λx hx=>?_⟩)
       . have hkl:k<N.length:=by omega
         have h0l:0<N.length:=by omega
         have hm1:binOp false .b (.c (k:Int)) (.c ((od+2:Nat):Int)) Q=.e (.c ((k%(od+2):Nat):Int)) Q:=by rw[bmod ⋯,<-Ep]
         have ik:xm (.h (N.map .c)) (.c (k:Int)) Q=.e (.c (N.getD k 0)) Q:=mF (by rw[AE,Ab hkl,Am,Ab hkl];rfl)
         have i0:xm (.h (N.map .c)) (.c ((0:Nat):Int)) Q=.e (.c (N.getD 0 0)) Q:=mF (by rw[AE,Ab h0l,Am,Ab h0l];rfl)
         have hgt:zR .c (.c (N.getD k 0)) (.c 0) Q=.e (.e (decide (0<N.getD k 0))) Q:=rfl;have g1:=yv (Φ:=Φ) (G:=T.b) (env:=[some (.c (k:Int)),some (.h (N.map .c)),some (.c ((od+2:Nat):Int))]) (s:=Q) (ye (a:=.s (.e 1) (.e 0)) (b:=.g (.c 0)) (wF (zB rfl) (zB rfl) ik) zI hgt) zu;have g2:=yv (Φ:=Φ) (G:=T.b) (env:=[some (.c (k:Int)),some (.h (N.map .c)),some (.c ((od+2:Nat):Int))]) (s:=Q) (ye (a:=.j false .b (.e 0) (.e 2)) (b:=.g (.c 0)) (zk (zB rfl) (zB rfl) hm1) zI eq_int) zu;cases hb1:decide (0<N.getD k 0) with
         |true=>
          rw[hb1]at g1;exact Zs (QF g1) (wF (zB rfl) zI i0)
         |false=>
          rw[hb1]at g1;cases hb2:decide (((k%(od+2):Nat):Int)=0) with
          |true=>
           rw[hb2]at g2;exact Zs (TN g1 (Zg g2)) (wF (zB rfl) zI i0)
          |false=>
           rw[hb2]at g2;exact Tf (TN g1 (lA g2 iA)) (wF (zB rfl) (zB rfl) ik)
       . obtain⟨k,hk,rfl⟩:=A7.mp hx
         have hk':=Bl.mp hk;split
         . exact R N 0 hgl ⋯ U
         . exact R N k hgl hk' U
     . rintro e s6 ⟨rfl,N,rfl,hgl,U⟩
       refine xG (yH (zA (zB rfl) zE) (show blt .b false [.h (N.map .c)] s6=.e (tpI N) s6 from rfl)) ?_;show (yF false s (tpI N) s6).post _;rw[vM T4 (uA N)];exact zD.mpr ⟨N,rfl,⟨⋯,U⟩,⋯,T4⟩
end
noncomputable def SK(p:Nat->Bool):Val->List Val
 |.c i=>if p i.toNat then [.c i] else []
 |_=>[]
def u7(h:exS Φ G env c s=.e (.a e) s1):zU Φ G env (.e c cs) s=zU Φ G e cs s1:=bnd h rfl
def vL(h:exS Φ G env c s=.d):zU Φ G env (.e c cs) s=.d:=by show (exS Φ G env c s).bind _=_;rw[h];rfl
def V1(h:evT Φ G env c s=.e true s1)(k:zU Φ G env a s1=.d):exS Φ G env (.h c a b) s=.d:=bnd h k
def uU:exS Φ G env (.j e) s=.d:=rfl
def jA(h:evE Φ G env e s=.d):exS Φ G env (.d e) s=.d:=by show (evE Φ G env e s).bind _=_;rw[h];rfl
def uS(h:evE Φ G env e s=.e v s1):exS Φ G env (.d e) s=.e (.a env) s1:=bnd h rfl
def tK(h:exS Φ G env c s=.e (.a e) s1):xSs W Φ Ψ G env (.e c cs) s=xSs W Φ Ψ G e cs s1:=by simp only[xSs,h]
def vU(h:exS Φ G env c s=.d):xSs W Φ Ψ G env (.e c cs) s=xS W Φ Ψ G env c s:=by simp only[xSs,h]
def Ux(h:evT Φ G env c s=.e true s1):xS W Φ Ψ G env (.h c a b) s=xSs W Φ Ψ G env a s1:=by simp only[xS,h,if_true]
def jk(h:zc Φ G env es s=.e vs s1):xS W Φ Ψ G env (.d (.h f v es)) s=Ψ f v vs s1:=by simp only[xS,xE,h]
def ma(h:zc Φ G env es s=.e vs s1)(k:(pE vs&&W c)=true):xS W Φ Ψ G env (.j (.h c v es)) s=some (c,vs,s1):=by simp only[xS,h];rw[if_pos k]
def wQ(x:vs.length=F.b.length)(h:zU Φ T.b (zi F.N vs) F.a s=.d):run T Φ F vs s=.d:=by unfold run;rw[if_pos x,h];rfl
def Rz(Φ:Calls)(Ψ:ya)(f:Str)(vs:List Val)(s:Sto)(c:Str):Prop:=Φ f 0 vs s=.d/\∃as,Ψ f 0 vs s=some (c,as,s)
def ml(h:Rz (zC T n) (za T n) f vs s c)(h1:T.e f 100=none)(P:T.c false=true)(O:zr T.f s=true)(N:T.d.lookup c=some w)(x:w≠"great":=by decide):zC T (n+1) f 100 vs s=.e (.g w) s:=by
 obtain⟨a,as,b⟩:=h;have hA:uD false w as=.g w:=by unfold uD;rw[if_neg Ak,if_neg x]
 simp only[zC,h1,a,b,P,O,N,sS];show Out.e (uD false w as) s=_;rw[hA]
section
variable {T:Tbl}{Φ:Calls}{Ψ:ya}{s:Sto}
def Tv(Φ:Calls)(Ψ:ya):Prop:=∀(v:Val) (l m:Int) (s:Sto),kindOf v≠none->zm l m v=false->l.natAbs<2 ^ 64->m.natAbs<2 ^ 64->Rz Φ Ψ "need_whole" [v,.c l,.c m] s "NoNumber"
def dJ(c:nW Φ)(R:(T.d.lookup ("NoNumber":Str)).isSome=true)(hk:kindOf v≠none)(hw:zm l m v=false)(Q:l.natAbs<2 ^ 64)(P:m.natAbs<2 ^ 64) :
 run T Φ F.zt [v,.c l,.c m] s=.d/\xSs (λc=>(T.d.lookup c).isSome) Φ Ψ T.b (zi F.zt.N [v,.c l,.c m]) F.zt.a s=some (("NoNumber":Str),[Val.c l,Val.c m],s):=by
 have x:evT Φ T.b [some v,some (.c l),some (.c m)] (.d (.a (.h "is_whole" 0 (.a (.e 0) (.a (.e 1) (.a (.e 2) .c)))))) s=.e true s:=by have O:=c v l m s hk;rw[hw]at O;exact gO (b:=false) (yv (x_call (zA (zB rfl) (zA (zB rfl) (zA (zB rfl) zE))) O) zu)
 have hs:=V1 (b:=.f) x (vL (cs:=.f) (uU (e:=.h "NoNumber" 0 (.a (.e 1) (.a (.e 2) .c)))));refine⟨wQ rfl (vL hs),(vU hs).trans ((Ux x).trans ((vU uU).trans (ma (zA (zB rfl) (zA (zB rfl) zE)) ?_)))⟩;rw[R];simp[pE,Q,P]
end
theorem wN:∀{tb} {s},zr tb s=true↔∃r,s=tb.map Cel.d++r
 |[],s=>⟨λ_=>⟨s,rfl⟩,λ_=>rfl⟩
 |x::tb,s=>by
  constructor
  . intro h
    cases s with
    |nil=>cases h
    |cons c r=>
     cases c with
     |d y=>
      have h':(decide (x=y)&&zr tb r)=true:=h;rw[cf,decide_eq_true_eq]at h';obtain⟨N,e⟩:=wN.mp h'.2;exact⟨N,by rw[h'.1,e];rfl⟩
     |_=>cases h
  . rintro ⟨r,rfl⟩
    show (decide (x=x)&&zr tb (tb.map Cel.d++r))=true;rw[decide_eq_true rfl,wN.mpr ⟨r,rfl⟩];rfl
def Xh(h:zr tb s=true):zr tb (s++t)=true:=by obtain⟨r,rfl⟩:=wN.mp h;exact wN.mpr ⟨r++t,Bx ..⟩
def Xj(h:zr tb s=true)(hp:tb.length<=p):zr tb (s.set p c)=true:=by obtain⟨r,rfl⟩:=wN.mp h;refine wN.mpr ⟨r.set (p-tb.length) c,?_⟩;rw[List.set_append_right _ _ (by rw[Ac];exact hp),Ac]
def Xi(h:zr tb s=true):tb.length<=s.length:=by obtain⟨r,rfl⟩:=wN.mp h;rw[Ao,Ac];omega
def fL(hs:zr tb s=true)(h:v.noRef=true):yF false (tb.map Cel.d) v s=.e v (tb.map Cel.d):=by obtain⟨r,rfl⟩:=wN.mp hs;exact jD h
def RzF(T:Tbl)(Φ:Calls)(Ψ:ya)(F:Fn)(vs:List Val)(s:Sto)(c:Str):Prop:=run T Φ F vs s=.d/\∃as,xSs (λc=>(T.d.lookup c).isSome) Φ Ψ T.b (zi F.N vs) F.a s=some (c,as,s)
def RzF.up(h:RzF T (zC T n) (za T n) F vs s c)(hf:T.e f 0=some F)(x:vs.length=F.b.length):Rz (zC T (n+1)) (za T (n+1)) f vs s c:=by obtain⟨a,as,b⟩:=h;exact⟨by rw[zb hf];exact a,as,by rw[qZ hf x];exact b⟩
def oR(O:F.a=.e (.d (.h f 0 es)) cs)(P:vs.length=F.b.length)(x:zc Φ T.b (zi F.N vs) es s=.e ws s)(h:Rz Φ Ψ f ws s c):RzF T Φ Ψ F vs s c:=by obtain⟨a,as,b⟩:=h;have hs:=jA (x_call x a);refine⟨wQ P (by rw[O];exact vL hs),as,by rw[O];exact(vU hs).trans ((jk x).trans b)⟩
def ke(P:F.a=.e (.d (.h f 0 es)) (.e (.d (.h g 0 es2)) cs))(Q:vs.length=F.b.length)(R:zc Φ T.b (zi F.N vs) es s=.e ws s)(h1:Φ f 0 ws s=.e v s)(x:zc Φ T.b (zi F.N vs) es2 s=.e ys s)(h:Rz Φ Ψ g ys s c):RzF T Φ Ψ F vs s c:=by obtain⟨a,as,b⟩:=h;have hs:=jA (x_call x a);have O:=uS (x_call R h1);refine⟨wQ Q (by rw[P];exact(u7 O).trans (vL hs)),as,by rw[P];exact(tK O).trans ((vU hs).trans ((jk x).trans b))⟩
structure Kds(v:Val):Prop where
 kd:kindOf v≠none
 el:∀vs,v=.f vs->∀w∈vs,kindOf w≠none
section
variable {T:Tbl}{Φ:Calls}{Ψ:ya}{s:Sto}
def iO(Φ:Calls):Prop:=∀(v:Val) (s:Sto),Kds v->Φ "is_strip" 0 [v] s=.e (.e (rP v)) s
def ju(g1:T.b "MOST_PLACES"=some (.c 40))(g2:T.b "HUES"=some (.o [0,1,2,3]))(c:qD Φ)(Q:Kds v):run T Φ F.xh [v] s=.e (.e (rP v)) s:=by
 obtain⟨a,O⟩:=mH Q.kd;have P:=mC (m:=false) (s:=s) O (show v8 "tuple"=some .b from rfl);have N:∀{b:Bool},b=rP v->(yF false s (.e b) s).post λx t=>x=.e (rP v)/\t=s:=λ{b} e=>by rw[vN xP,e];exact zD.mpr ⟨rfl,rfl⟩
 rw[post_eq,F.xh,wW];refine⟨rfl,?_⟩;show (zU Φ T.b [some v] _ s).post _;rcases bT O with⟨vs,rfl⟩|R
 . have e1:a=.b:=by cases O;rfl
   subst e1;by_cases h4:vs.length<=40
   . exact xG (lE (yH (zA (zB rfl) (zA qC zE)) P) (ye (yH (zA (zB rfl) zE) bZ) (uO g1) (by rw[le_int,decide_eq_true ⋯])) (x_call (zA (zB rfl) (zA (wF (uO g2) zI rfl) (zA (wF (uO g2) (rm zI) rfl) zE))) (c vs 0 3 s (Q.el vs rfl)))) (N (by show _=(decide (vs.length<=40)&&vs.all (zm 0 3));rw[decide_eq_true h4];rfl))
   . exact xG (iJ (yH (zA (zB rfl) (zA qC zE)) P) (ye (yH (zA (zB rfl) zE) bZ) (uO g1) (by rw[le_int,decide_eq_false ⋯]))) (N (by show _=(decide (vs.length<=40)&&vs.all (zm 0 3));rw[decide_eq_false h4];rfl))
 . rw[R]at P
   exact xG (iI (yH (zA (zB rfl) (zA qC zE)) P)) (N (ZW λvs e=>by rw[e]at O;cases O;cases R).symm)
def bU ns:Kds (tpI ns):=⟨nofun,λvs e=>by cases e;exact uV⟩
def eK(c:iO Φ):oN Φ:=λns s h=>by rw[c _ s (bU ns),ZX h]
end
def XU(h:(zU Φ G (env.set i none) mid s).post λfl x=>x=s/\∃e0 vs y,fl=.a e0/\zc Φ G e0 L s=.e vs s/\evE Φ G e0 d s=.e y s/\zR .b (.h vs) y s=.e (.e false) s/\vI Φ G e0 o s=.e false s/\(zU Φ G e0 cs s).post P) :
 (zU Φ G env (.g i L mid 2 d o b cs) s).post P:=by
 obtain⟨fl,x,N,e,e0,vs,y,rfl,h1,S,R,Q,O⟩:=h;subst e;have e:zU Φ G env (.g i L mid 2 d o b cs) x=zU Φ G e0 cs x:=by
  refine bnd N ?_;show (if uJ x=uJ x then _ else _)=_
  rw[if_pos rfl];refine bnd h1 (bnd (a:=false) (s:=x) (bnd S (bnd (a:=false) (s:=x) ?_ Q)) ?_)
  . rw[R];rfl
  . rfl
 rw[e];exact O
noncomputable def dO:Int:=100000000000000000000000000000
def dP:binOp m .f (.c 10) (.c 29) s=.e (.c dO) s:=by
 simp only[binOp];rw[if_pos (by decide)]
 congr 2
def RA:List Val:=[.c 4,.c (-1),.e true,.e false,.j,.g "1",.f [.c 1],.h [.c 1],.c dO]
def b9:∀u∈RA,Th 1 1000 u/\zm 0 3 u=false:=λu hu=>by
 have i:∀{i:Int},-(10 ^ 30)<i->i<10 ^ 30->Th 1 1000 (.c i):=λh1 O=>(Ze h1 O).mono (by decide) (by decide)
 have one:∀v∈[Val.c 1],Th 0 100 v:=λv x=>by rw[AU.mp x];exact Ze (by decide) (by decide)
 simp only[RA,Ap,Bo,or_false]at hu;rcases hu with rfl|rfl|rfl|rfl|rfl|rfl|rfl|rfl|rfl
 . exact⟨i (by decide) (by decide),rfl⟩
 . exact⟨i (by decide) (by decide),rfl⟩
 . exact⟨(gP _).mono (by decide) (by decide),rfl⟩
 . exact⟨(gP _).mono (by decide) (by decide),rfl⟩
 . exact⟨Xk.mono (by decide) (by decide),rfl⟩
 . exact⟨(TV (λc N=>of_decide_eq_true (AB.mp (show (("1":Str).cps.toList.all λc=>decide (c<16 ^ 8))=true by decide +kernel) c N)) (by decide +kernel)).mono (by decide) (by decide),rfl⟩
 . exact⟨(TX (n:=1) one (by decide)).mono (by decide) (by decide),rfl⟩
 . exact⟨(TU (n:=1) one (by decide)).mono (by decide) (by decide),rfl⟩
 . exact⟨i (by decide) (by decide),by decide +kernel⟩
end M
end
section
namespace F02
open PySem M
noncomputable def zf:Fn:=⟨["_law_pen_here","_law_length","_law_size","_law_none_here","_law_less","_law_calls","!"],["_law_pen_here","_law_length","_law_size"],false,(.e (.n [3,4] (.a (.h "_law_none" 0 (.a (.e 0) (.a (.g (.c 0)) (.a (.g (.c 40)) .c)))) (.a (.h "_law_none" 0 (.a (.e 0) (.a (.g (.c 2)) (.a (.g (.c 8)) .c)))) .c))) (.g 5 (.a (.h "rows_in" 100 (.a (.e 3) (.a (.e 2) .c))) (.a (.h "rows_in" 100 (.a (.e 1) (.a (.e 4) .c))) (.a (.h "rows_many" 100 (.a (.e 3) (.a (.e 4) .c))) (.a (.h "rows_many" 100 (.a (.e 3) (.a (.e 2) .c))) (.a (.h "rows_many" 100 (.a (.e 1) (.a (.e 4) .c))) (.a (.h "places_of" 100 (.a (.e 3) (.a (.g (.c 1)) (.a (.e 2) .c)))) (.a (.h "places_of" 100 (.a (.g (.c 40)) (.a (.e 3) (.a (.e 2) .c)))) (.a (.h "places_of" 100 (.a (.g (.c 0)) (.a (.g (.c 0)) (.a (.e 2) .c)))) (.a (.h "places_of" 100 (.a (.g (.c 0)) (.a (.g (.c 40)) (.a (.e 4) .c)))) .c))))))))) .f 1 (.j false .c (.y false (.a (.g (.g "number")) .c)) (.g (.c 9))) .a .f .f))⟩
end F02
end
section
namespace M
open PySem
section
variable {T:Tbl}{Φ:Calls}{Ψ:ya}{s:Sto}
def gX(R:F.a=.e (.d (.h f 0 es)) (.e (.d (.h g 0 es2)) (.e (.d (.h f3 0 es3)) cs)))(S:vs.length=F.b.length)(U:zc Φ T.b (zi F.N vs) es s=.e ws s)(h1:Φ f 0 ws s=.e v s)(P:zc Φ T.b (zi F.N vs) es2 s=.e ys s)(W:Φ g 0 ys s=.e v2 s)(O:zc Φ T.b (zi F.N vs) es3 s=.e us s)(h:Rz Φ Ψ f3 us s c):RzF T Φ Ψ F vs s c:=by obtain⟨a,as,b⟩:=h;have hs:=jA (x_call O a);have Q:=uS (x_call U h1);have x:=uS (x_call P W);refine⟨wQ S (by rw[R];exact(u7 Q).trans ((u7 x).trans (vL hs))),as,by rw[R];exact(tK Q).trans ((tK x).trans ((vU hs).trans ((jk O).trans b)))⟩
def dD(Φ:Calls)(Ψ:ya):Prop:=∀(v:Val) (s:Sto),kindOf v≠none->zm 0 40 v=false->Rz Φ Ψ "need_first" [v] s "NoNumber"
def X3(Φ:Calls)(Ψ:ya):Prop:=∀(v:Val) (s:Sto),kindOf v≠none->zm 1 40 v=false->Rz Φ Ψ "need_step" [v] s "NoNumber"
end
def RzG(Φ:Calls)(Ψ:ya)(f:Str)(vs:List Val)(s:Sto)(c:Str)(as:List Val):Prop:=Φ f 0 vs s=.d/\Ψ f 0 vs s=some (c,as,s)
def Zx(T:Tbl)(Φ:Calls)(Ψ:ya)(F:Fn)(vs:List Val)(s:Sto)(c:Str)(as:List Val):Prop:=run T Φ F vs s=.d/\xSs (λc=>(T.d.lookup c).isSome) Φ Ψ T.b (zi F.N vs) F.a s=some (c,as,s)
def Zx.up(h:Zx T (zC T n) (za T n) F vs s c as)(hf:T.e f 0=some F)(x:vs.length=F.b.length):RzG (zC T (n+1)) (za T (n+1)) f vs s c as:=
 ⟨by rw[zb hf];exact h.1,by rw[qZ hf x];exact h.2⟩
def V0(h:evE Φ G env e s=.e v s1):exS Φ G env (.g i e) s=.e (.a (env.set i (some v))) s1:=bnd h rfl
end M
end
section
namespace F06
open PySem M
noncomputable def yC:Fn:=⟨["_law_pen_here","_law_order_here","_law_at","_law_to","_law_other","_law_found"],["_law_pen_here","_law_order_here"],false,(.e (.n [2,3] (.a (.h "_law_draw" 0 (.a (.e 0) (.a (.g (.c 4)) .c))) (.a (.h "_law_draw" 0 (.a (.e 0) (.a (.g (.c 3)) .c))) .c))) (.e (.g 4 (.s (.e 1) (.j false .b (.j false .a (.j false .a (.e 2) (.g (.c 1))) (.e 3)) (.g (.c 4))))) (.e (.g 5 (.p false ["_law_odd","_law_order_here","_law_at"] [none,some 1,some 2] (.j false .a (.j false .a (.I false (.e 1) .b (.a (.e 2)) .b) (.r (.a (.e 0) .c))) (.I false (.e 1) (.a (.j false .a (.e 2) (.g (.c 1)))) .b .b)) (.a 0) (.f (.r (.a (.e 4) (.a (.g (.c 4)) (.a (.A (.g (.c 1))) (.a (.g (.e true)) (.a (.g .j) (.a (.g (.g "0")) (.a (.r (.a (.g (.c 0)) .c)) (.a (.y false (.a (.g (.c 0)) .c)) (.a .C (.a (.j false .f (.g (.c 10)) (.g (.c 29))) .c)))))))))))) .a)) (.e (.f (.j false .a (.e 5) (.y false (.a (.I false (.e 1) (.a (.g (.c 1))) .b .b) (.a (.j false .a (.e 1) (.r (.a (.g (.c 0)) .c))) (.a (.k .j false (.a (.e 1) .c)) (.a (.g .j) (.a (.r .c) (.a (.j false .a (.I false (.e 1) .b .b (.a (.A (.g (.c 1))))) (.e 1)) .c))))))))) .f))))⟩
noncomputable def yq:Fn:=⟨["_law_pen_here","_law_left"],["_law_pen_here"],false,(.e (.g 1 (.y true (.a (.g (.c 0)) (.a (.g (.c 1)) (.a (.g (.c 2)) (.a (.g (.c 3)) .c)))))) (.e (.f (.k .b false (.a (.p false ["_law_turn","_law_left","_law_pen_here"] [none,some 1,some 0] (.M .e false (.e 1) (.a (.h "_law_draw" 0 (.a (.e 2) (.a (.k .a false (.a (.e 1) .c)) .c))) .c)) (.a 0) (.d (.g (.c 4))) .a) .c))) .f))⟩
noncomputable def zf:Fn:=⟨["_law_pen_here","_law_strip_here","_law_order_here","_law_bad","_law_calls","!"],["_law_pen_here","_law_strip_here","_law_order_here"],false,(.e (.l (.a 3) (.f (.h "_law_no_orders" 0 (.a (.e 0) (.a (.e 2) .c)))) (.e (.h (.a (.l .b (.h "exchanged" 100 (.a (.e 1) (.a (.e 3) .c))) (.g (.g "hue")))) (.e (.f (.g (.e false))) .f) .f) .f)) (.e (.l (.a 3) (.f (.r (.a (.g (.c 41)) (.a (.A (.g (.c 1))) (.a (.g (.e true)) (.a (.g (.e false)) (.a (.g .j) (.a (.g (.g "1")) (.a (.j false .f (.g (.c 10)) (.g (.c 29))) .c))))))))) (.g 4 (.a (.h "thinned" 100 (.a (.e 1) (.a (.e 3) (.a (.g (.c 1)) .c)))) (.a (.h "thinned" 100 (.a (.e 1) (.a (.e 3) (.a (.e 3) .c)))) (.a (.h "thinned" 100 (.a (.e 1) (.a (.g (.c 40)) (.a (.e 3) .c)))) .c))) .f 2 (.j false .c (.y false (.a (.g (.g "number")) .c)) (.g (.c 3))) .a (.e (.f (.g (.e false))) .f) .f)) (.e (.f (.l .a (.h "thinned" 100 (.a (.e 1) (.a (.g (.c 0)) (.a (.g (.c 0)) .c)))) (.g (.g "number")))) .f)))⟩
noncomputable def xJ:Fn:=⟨["one","other","many"],["one","other"],false,(.e (.d (.h "need_strip" 0 (.a (.e 0) .c))) (.e (.d (.h "need_strip" 0 (.a (.e 1) .c))) (.e (.g 2 (.j false .a (.k .a false (.a (.e 0) .c)) (.k .a false (.a (.e 1) .c)))) (.e (.h (.a (.l .c (.e 2) (.E "MOST_PLACES"))) (.e (.j (.h "TooGreat" 1 (.a (.e 2) (.a (.E "MOST_PLACES") .c)))) .f) .f) (.e (.f (.j false .a (.e 0) (.e 1))) .f)))))⟩
end F06
end
section
namespace M
open PySem
def gq(n f d:Nat):L2.yS n (some (f:Int)) none ((d+1:Nat):Int)=(((min f n:Nat):Int),(n-f+d)/(d+1)):=by
 have h1:¬(((d+1:Nat):Int)<0):=by omega
 have N:((d+1:Nat):Int) > 0:=by omega
 have x:¬((f:Int)<0):=by omega
 have e1:Br (some (f:Int)) none ((d+1:Nat):Int) (n:Int)=(min (f:Int) (n:Int),(n:Int)):=by unfold Br;simp only[if_neg h1,if_neg x]
 unfold L2.yS;rw[e1];refine Prod.ext (by show min (f:Int) (n:Int)=((min f n:Nat):Int);omega) ?_
 show BH (min (f:Int) (n:Int)) (n:Int) ((d+1:Nat):Int)=_;unfold BH;rw[if_pos N];by_cases hf:f<n
 . rw[if_pos ⋯,show min (f:Int) (n:Int)=(f:Int) by omega,show (n:Int)-(f:Int)-1=((n-f-1:Nat):Int) by omega,<-Int.natCast_ediv,show (n-f+d)=(n-f-1)+(d+1) by omega,Nat.add_div_right _ ⋯]
   generalize (n-f-1)/(d+1)=q;omega
 . rw[if_neg ⋯,show n-f=0 by omega,Nat.zero_add,Nat.div_eq_of_lt ⋯];rfl
theorem kJ(hd:1<=d):∀n:Nat,∃m:Nat,(Av n).filter (λp=>decide (f<=p)&&decide ((p-f)%d=0))=(Av m).map (λi=>f+i*d)/\(m=0\/f+(m-1)*d<n)/\n<=f+m*d
 |0=>⟨0,rfl,.inl rfl,Bj _⟩
 |n+1=>by
  obtain⟨m,e,h1,Q⟩:=kJ hd n;rw[List.range_succ,List.filter_append,e];by_cases hc:f<=n/\(n-f)%d=0
  . obtain⟨c1,c2⟩:=hc
    obtain⟨k,hk⟩:=Nat.dvd_of_mod_eq_zero c2;have x:n=f+k*d:=by rw[Nat.mul_comm];omega
    have P:k<=m:=Nat.le_of_mul_le_mul_right (by omega:k*d<=m*d) hd
    have N:m<=k:=by
     rcases h1 with h1|h1
     . omega
     . have:(m-1)*d<k*d:=by omega
       have:=Nat.lt_of_mul_lt_mul_right this;omega
    have O:m=k:=by omega
    subst O;refine⟨m+1,?_,.inr (by rw[Nat.add_sub_cancel];omega),by rw[FV];omega⟩
    rw[List.range_succ,Bs,F6,decide_eq_true c1,decide_eq_true c2,x];rfl
  . refine⟨m,?_,h1.imp id λh=>⋯,?_⟩
    . have:(decide (f<=n)&&decide ((n-f)%d=0))=false:=by
       by_cases c1:f<=n
       . rw[decide_eq_false λc2=>hc ⟨c1,c2⟩,Bool.and_false]
       . rw[decide_eq_false c1,Ct]
      rw[F6,this];simp
    . refine Nat.lt_of_le_of_ne Q λh=>hc ⟨⋯,?_⟩
      rw[h,Nat.add_sub_cancel_left,Nat.mul_mod_left]
def ZV{ns ts:List Int}(hd:1<=d)(h:∀i:Nat,ts[i]?=ns[f+i*d]?):((Av ns.length).filter (λp=>decide (f<=p)&&decide ((p-f)%d=0))).map (λp=>ns.getD p 0)=ts:=by
 obtain⟨m,e,h1,N⟩:=kJ (f:=f) hd ns.length;rw[e,CH];refine Eb λi=>?_;rw[h];by_cases hi:i<m
 . rw[AE,C6 hi]
   have x:f+i*d<ns.length:=by
    have:i*d<=(m-1)*d:=B3 _ ⋯
    omega
   show some (ns.getD (f+i*d) 0)=_;rw[Am,Ab x];rfl
 . have:m*d<=i*d:=B3 _ ⋯
   rw[Bb (by rw[Ac,Bi];omega),Bb ⋯]
def UO(os:List Nat):Bool:=(Av 4).all λt=>(Av 3).all λu=>decide (sortI ((zT os).take t++[(zT os).getD ((t+1+u)%4) 0]++(zT os).drop (t+1))≠[0,1,2,3])
def Yz:((Av 4).all λa=>(Av 4).all λb=>(Av 4).all λc=>(Av 4).all λd=>!decide (([a,b,c,d]:List Nat).Nodup)||UO [a,b,c,d])=true:=by decide +kernel
def Y0{os}(h:os.Perm (Av 4))(O:t<4)(hu:u<3):sortI ((zT os).take t++[(zT os).getD ((t+1+u)%4) 0]++(zT os).drop (t+1))≠[0,1,2,3]:=by
 have Q:=h.length_eq;have P:os.Nodup:=h.nodup_iff.mpr (by decide)
 have N:∀x∈os,x∈Av 4:=λx hx=>h.mem_iff.mp hx;obtain⟨a,b,c,d,rfl⟩:∃a b c d,os=[a,b,c,d]:=by
  match os,Q with
  |[a,b,c,d],_=>exact⟨a,b,c,d,rfl⟩
 have h1:=AB.mp (AB.mp (AB.mp (AB.mp Yz a (N a (by simp))) b (N b (by simp))) c (N c (by simp))) d (N d (by simp))
 rw[decide_eq_true P,Bool.not_true,Ft]at h1;exact of_decide_eq_true (AB.mp (AB.mp h1 t (Bl.mpr O)) u (Bl.mpr hu))
def Zf{ns:List Int}(O:ns.length<41)(hd:1<=d):∃ts:List Int,(∀i:Nat,ts[i]?=ns[f+i*d]?)/\ts.length<41/\∀s,wA false (.f (ns.map .c)) (some (f:Int)) none (some (d:Int)) s=.e (.f (ts.map .c)) s:=by
 obtain⟨d,rfl⟩:∃e,d=e+1:=⟨d-1,⋯⟩
 have N:=gq ns.length f d;have x:(ns.length-f+d)/(d+1)<41:=by
  have:(ns.length-f+d)/(d+1)<=ns.length:=by
   rw[Nat.div_le_iff_le_mul_add_pred ⋯]
   have:=B3 ns.length (show 1<=d+1 by omega)
   omega
  omega
 have hs:∀s,wA false (.f (ns.map .c)) (some (f:Int)) none (some ((d+1:Nat):Int)) s=.e (.f ((L2.zo ns ((min f ns.length:Nat):Int) ((d+1:Nat):Int) ((ns.length-f+d)/(d+1))).map .c)) s:=λs=>by
  simp only[wA];rw[Ac,N,if_pos ⟨⋯,As (CW x) (by decide)⟩]
  unfold L2.zo;rw[List.map_filterMap];simp only[AE]
 refine⟨_,?_,?_,hs⟩
 . by_cases hfn:f<ns.length
   . rw[show min f ns.length=f by omega]
     refine XH (λk hk=>?_) ?_
     . have h1:(k+1)*(d+1)<=ns.length-f+d:=by have:=Nat.div_mul_le_self (ns.length-f+d) (d+1);exact As (B3 _ hk) this
       rw[FV]at h1;omega
     . have:=Nat.lt_div_mul_add (a:=ns.length-f+d) (b:=d+1) ⋯
       omega
   . intro i
     rw[show (ns.length-f+d)/(d+1)=0 by rw[show ns.length-f=0 by omega];exact Nat.div_eq_of_lt ⋯]
     rw[Bb (by simp[L2.zo]),Bb (by have:=Bj (i*(d+1));omega)]
 . refine Nat.lt_of_le_of_lt ?_ x
   unfold L2.zo;exact As (DR _ _) (by rw[Bi];exact Ad _)
theorem oj:∀a b:List Int,DH (a.map CA) (b.map CA)=decide (a=b)
 |[],[]=>by simp[DH]
 |[],b::bs=>by simp[DH]
 |a::as,[]=>by simp[DH]
 |a::as,b::bs=>by rw[AW,AW,DH,oj as bs,i6];by_cases h:a=b<;>by_cases h':as=bs<;>simp[h,h']
def VF:zR .a (tpI a) (.o b) s=.e (.e (decide (a=b))) s:=by
 have h1:∀c:List Int,(tpI c).isD=true:=λc=>by rw[Val.isD];exact rA c
 have x:∀c:List Int,(tpI c).d=.tuple (c.map CA):=λc=>by rw[Val.d,tq]
 have N:decide ((tpI b).d.depth<=60)=true:=decide_eq_true (by rw[x,PyData.depth];have:=oh b;omega)
 have e:uz (tpI a) (tpI b)=some (decide (a=b)):=by unfold uz;rw[h1,h1,N,x,x];show some (CQ (.tuple (a.map CA)) (.tuple (b.map CA)))=_;rw[CQ,oj]
 have hd:zq s (tpI a)=tpI a:=by show Val.f ((a.map Val.c).map (yg s))=_;rw[CH];rfl
 show (match uz (zq s (tpI a)) (tpI b) with|some b=>Out.e (Val.e b) s|dS=>.d)=_
 rw[hd,e]
def qT(v:Val):Prop:=(∃hs:List Int,v=tpI hs/\(∀x∈hs,0<=x/\x<=3)/\hs.length<64/\sortI hs≠[0,1,2,3])\/(∃vs,v=.f vs/\(∀w∈vs,kindOf w≠none)/\vs.all (zm 0 3)=false)\/(kindOf v≠none/\∀vs,v≠.f vs)
section
variable {T:Tbl}{Φ:Calls}{Ψ:ya}{s:Sto}
def Xx(Φ:Calls):Prop:=∀(v:Val) (s:Sto),qT v->Φ "is_order" 0 [v] s=.e (.e false) s
def ZM(g:T.b "HUES"=some (.o [0,1,2,3]))(c:qD Φ)(h:qT v):run T Φ F14.yZ [v] s=.e (.e false) s:=by
 have R:xm (.o [0,1,2,3]) (.c 0) s=.e (.c 0) s:=rfl;have Q:xm (.o [0,1,2,3]) (.c (-1)) s=.e (.c 3) s:=rfl;rw[post_eq,F14.yZ,wW];refine⟨rfl,?_⟩;show (zU Φ T.b [some v] _ s).post _;rcases h with⟨hs,rfl,U,W,O⟩|⟨vs,rfl,hk,hw⟩|⟨hk,O⟩
 . have c1:=c (hs.map .c) 0 3 s uV
   rw[ur U]at c1;have x:blt .c false [tpI hs] s=.e (.h ((sortI hs).map .c)) s:=by
    show (match M.intsOf (hs.map .c) with|some ns=>if ns.length<64 then newList false ((sortI ns).map .c) s else .d|dS=>.d)=_
    rw[mB];exact if_pos W
   exact xG (lE (yH (zA (zB rfl) (zA qC zE)) mD) (x_call (zA (zB rfl) (zA (wF (uO g) zI R) (zA (wF (uO g) (rm zI) Q) zE))) c1) (ye (yH (zA (yH (zA (zB rfl) zE) x) zE) rfl) (uO g) (by rw[show (Val.f ((sortI hs).map Val.c))=tpI (sortI hs) from rfl,VF,decide_eq_false O]))) (x9 xP)
 . have c1:=c vs 0 3 s hk
   rw[hw]at c1;exact xG (iJ (yH (zA (zB rfl) (zA qC zE)) mD) (x_call (zA (zB rfl) (zA (wF (uO g) zI R) (zA (wF (uO g) (rm zI) Q) zE))) c1)) (x9 xP)
 . obtain⟨a,S⟩:=mH hk
   have P:=mC (m:=false) (s:=s) S (show v8 "tuple"=some .b from rfl);rcases bT S with⟨vs,e⟩|N
   . exact absurd e (O vs)
   . rw[N]at P
     exact xG (iI (yH (zA (zB rfl) (zA qC zE)) P)) (x9 xP)
def Tt(Φ:Calls)(Ψ:ya):Prop:=∀(ns:List Int) (v:Val) (s:Sto),zS ns->qT v->Rz Φ Ψ "exchanged" [tpI ns,v] s "NoHue"
def dH(c1:yL Φ)(c:Xx Φ)(P:(T.d.lookup ("NoHue":Str)).isSome=true)(O:zS ns)(N:qT v):RzF T Φ Ψ F14.yV [tpI ns,v] s "NoHue":=by have e1:exS Φ T.b [some (tpI ns),some v] (.d (.h "need_strip" 0 (.a (.e 0) .c))) s=.e (.a [some (tpI ns),some v]) s:=uS (x_call (zA (zB rfl) zE) (c1 ns s O));have x:evT Φ T.b [some (tpI ns),some v] (.d (.a (.h "is_order" 0 (.a (.e 1) .c)))) s=.e true s:=gO (b:=false) (yv (x_call (zA (zB rfl) zE) (c v s N)) zu);have hs:=V1 (b:=.f) x (vL (cs:=.f) (uU (e:=.h "NoHue" 0 (.a (.g (.g "the hues 0 to 3, each once, are due")) .c))));refine⟨wQ rfl ((u7 e1).trans (vL hs)),_,(tK e1).trans ((vU hs).trans ((Ux x).trans ((vU uU).trans (ma (zA zI zE) ?_))))⟩;rw[P];rfl
structure Tw(Φ:Calls)(Ψ:ya):Prop where
 a:∀(ns:List Int) (v w:Val) (s:Sto),zS ns->kindOf v≠none->zm 0 40 v=false->Rz Φ Ψ "thinned" [tpI ns,v,w] s "NoNumber"
 b:∀(ns:List Int) (f:Nat) (w:Val) (s:Sto),zS ns->f<=40->kindOf w≠none->zm 1 40 w=false->Rz Φ Ψ "thinned" [tpI ns,.c f,w] s "NoNumber"
def gV(c1:yL Φ)(N:dD Φ Ψ)(x:zS ns)(hk:kindOf v≠none)(hw:zm 0 40 v=false):RzF T Φ Ψ F14.yf [tpI ns,v,w] s "NoNumber":=
 ke rfl rfl (zA (zB rfl) zE) (c1 ns s x) (zA (zB rfl) zE) (N v s hk hw)
def gW(c1:yL Φ)(c2:um Φ)(N:X3 Φ Ψ){f:Nat}(x:zS ns)(hf:f<=40)(hk:kindOf w≠none)(hw:zm 1 40 w=false):RzF T Φ Ψ F14.yf [tpI ns,.c f,w] s "NoNumber":=
 gX rfl rfl (zA (zB rfl) zE) (c1 ns s x) (zA (zB rfl) zE) (c2 f s ⋯ ⋯) (zA (zB rfl) zE) (N w s hk hw)
def Tu(Φ:Calls)(Ψ:ya):Prop:=∀(a b:List Int) (s:Sto),zS a->zS b->40<a.length+b.length->RzG Φ Ψ "joined" [tpI a,tpI b] s "TooGreat" [.c ((a.length:Int)+(b.length:Int)),.c 40]
def dI(g:T.b "MOST_PLACES"=some (.c 40))(c:yL Φ)(P:(T.d.lookup ("TooGreat":Str)).isSome=true)(O:zS a)(N:zS b)(Q:40<a.length+b.length):Zx T Φ Ψ F06.xJ [tpI a,tpI b] s "TooGreat" [.c ((a.length:Int)+(b.length:Int)),.c 40]:=by
 have h1:=O.1;have R:=N.1;have e1:exS Φ T.b [some (tpI a),some (tpI b),none] (.d (.h "need_strip" 0 (.a (.e 0) .c))) s=.e (.a [some (tpI a),some (tpI b),none]) s:=uS (x_call (zA (zB rfl) zE) (c a s O));have e2:exS Φ T.b [some (tpI a),some (tpI b),none] (.d (.h "need_strip" 0 (.a (.e 1) .c))) s=.e (.a [some (tpI a),some (tpI b),none]) s:=uS (x_call (zA (zB rfl) zE) (c b s N));have e3:exS Φ T.b [some (tpI a),some (tpI b),none] (.g 2 (.j false .a (.k .a false (.a (.e 0) .c)) (.k .a false (.a (.e 1) .c)))) s=.e (.a [some (tpI a),some (tpI b),some (.c ((a.length:Int)+(b.length:Int)))]) s:=V0 (zk (wG rfl) (wG rfl) rn);have x:evT Φ T.b [some (tpI a),some (tpI b),some (.c ((a.length:Int)+(b.length:Int)))] (.a (.l .c (.e 2) (.E "MOST_PLACES"))) s=.e true s:=yv (ye (zB rfl) (uO g) (show zR .c (.c ((a.length:Int)+(b.length:Int))) (.c 40) s=.e (.e true) s by rw[gt_int,decide_eq_true ⋯])) zu
 have hs:=V1 (b:=.f) x (vL (cs:=.f) (uU (e:=.h "TooGreat" 1 (.a (.e 2) (.a (.E "MOST_PLACES") .c)))));refine⟨wQ rfl ((u7 e1).trans ((u7 e2).trans ((u7 e3).trans (vL hs)))),(tK e1).trans ((tK e2).trans ((tK e3).trans ((vU hs).trans ((Ux x).trans ((vU uU).trans (ma (zA (zB rfl) (zA (uO g) zE)) ?_))))))⟩;rw[P,Fu];show (decide (_<2 ^ 64)&&decide (_<2 ^ 64))=true;rw[decide_eq_true ⋯,decide_eq_true (by decide)];rfl
def fz(g:T.b "MOST_PLACES"=some (.c 40))(c:yL Φ)(Q:zS a)(P:zS b)(O:a.length+b.length<=40):run T Φ F06.xJ [tpI a,tpI b] s=.e (tpI (a++b)) s:=by
 have x:binOp false .a (tpI a) (tpI b) s=.e (tpI (a++b)) s:=by
  show (if (a.map Val.c).length+(b.map Val.c).length<=zZ then Out.e (Val.f (a.map Val.c++b.map Val.c)) s else .d)=_
  rw[if_pos (by rw[Ac,Ac];exact As O (by decide)),<-Bs]
 have N:zR .c (.c ((a.length:Int)+(b.length:Int))) (.c 40) s=.e (.e false) s:=by rw[gt_int,decide_eq_false ⋯]
 rw[post_eq,F06.xJ,wW];refine⟨rfl,?_⟩;show (zU Φ T.b [some (tpI a),some (tpI b),none] _ s).post _;refine vX (x_call (zA (zB rfl) zE) (c a s Q)) (vX (x_call (zA (zB rfl) zE) (c b s P)) (vA (zk (wG rfl) (wG rfl) rn) ?_));show (zU Φ T.b [some (tpI a),some (tpI b),some (.c ((a.length:Int)+(b.length:Int)))] _ s).post _;exact vi (yv (ye (zB rfl) (uO g) N) zu) (xG (zk (zB rfl) (zB rfl) x) (x9 (uA _)))
def iM(Φ:Calls):Prop:=∀(p:Nat) (s:Sto),xK s p->(Φ "_law_order" 0 [.m p] s).post λv s'=>∃os,v=tpI (zT os)/\os.Perm (Av 4)/\yO s p s'
def jr(cD:lG Φ)(hp:xK s p):(run T Φ F06.yq [.m p] s).post λv s'=>∃os,v=tpI (zT os)/\os.Perm (Av 4)/\yO s p s':=by
 have R:=hp.lt;rw[F06.yq,wW];refine⟨rfl,?_⟩;show (zU Φ T.b [some (.m p),none] _ s).post _;refine vA (Tg (zA zI (zA zI (zA zI (zA zI zE)))) (show 4<=zZ by decide)) ?_
 show (zU Φ T.b [some (.m p),some (.m s.length)] _ (s++[.c ((zT (Av 4)).map .c)])).post _;refine yA.mpr (aN.mpr (WQ.mpr (tJ.mpr ?_)));refine gD (λrest e s' acc=>(∃o,e=[o,some (.m s.length),some (.m p)])/\∃(done left:List Nat) (S:Sto),acc=(zT done).map .c/\(done++left).Perm (Av 4)/\rest.length=left.length/\yO s p S/\s'=S++[.c ((zT left).map .c)]) ?_;refine⟨⟨xq 0 4,none⟩,_,ox (k:=4) zI (by decide),⟨⟨none,rfl⟩,[],Av 4,s,rfl,.refl _,rfl,hp.refl,rfl⟩,λ_ _ _ _ _=>rfl,?_,?_⟩
 . rintro x rest e s' acc ⟨⟨o,rfl⟩,done,left,S,rfl,hd,Z,hS,rfl⟩
   refine⟨_,rfl,wd.mpr ?_⟩;rw[if_pos rfl];have P:S.length=s.length:=hS.len;have hl0:0<left.length:=by rw[<-Z];exact Nat.succ_pos _
   have hl4:left.length<=4:=by have:=hd.length_eq;rw[Ao,Bi]at this;omega
   have W:∀(S:Sto) (l:List Nat),S.length=s.length->(S++[Cel.c ((zT l).map .c)])[s.length]?=some (.c ((zT l).map .c)):=λS l h=>by rw[<-h,Bz (Ad _),Nat.sub_self];rfl
   have U:blt .a false [.m s.length] (S++[.c ((zT left).map .c)])=.e (.c (left.length:Nat)) (S++[.c ((zT left).map .c)]):=by
    show (match (match (S++[Cel.c ((zT left).map .c)])[s.length]? with|some (.c vs)=>some vs|_=>dS) with|some vs=>Out.e (Val.c vs.length) _|dS=>.d)=_
    rw[W S left P];show Out.e (Val.c (((zT left).map Val.c).length:Nat)) _=_;rw[Ac,Ac]
   show (evE Φ T.b [some x,some (.m s.length),some (.m p)] _ _).post _;refine aL.mpr (aQ.mpr ⟨_,rfl,?_⟩);refine tJ.mpr (sH (zA (zB rfl) (zA (yH (zA (zB rfl) zE) U) zE)) (zP (cD p left.length _ ((hS.at_ R).up _) ⋯ ⋯) ?_))
   rintro v s2 ⟨r,rfl,hr,t2⟩;obtain⟨Y,t3,rfl⟩:=t2.app (by rw[P];exact R)
   have O:r<left.length:=by omega
   have N:Y.length=s.length:=by rw[t3.len,P]
   have Q:wZ .e (.m s.length) [.c (r:Int)] (Y++[.c ((zT left).map .c)])=.e (.c ((left[r]:Nat):Int)) (upd (Y++[.c ((zT left).map .c)]) s.length ((zT (left.eraseIdx r)).map .c)):=by
    have hix:E7 (r:Int) ((zT left).map Val.c).length=some r:=by
     rw[Ac,Ac];have h1:¬((r:Int)<0):=by omega
     have h2:(r:Int)<(left.length:Int):=by omega
     simp[E7,h1,h2]
    simp only[wZ];rw[W Y left N];simp only[];rw[if_pos ⟨⋯,⋯⟩,hix]
    simp only[];rw[AE,AE,Ab O,<-rF,<-rF];rfl
   refine pQ.mpr ?_;rw[Q];refine zD.mpr ⟨⟨_,rfl⟩,done++[left[r]],left.eraseIdx r,Y,by unfold zT;rw[Bs,Bs];rfl,?_,?_,hS.trans t3,?_⟩
   . refine List.Perm.trans ?_ hd
     rw[Bx];exact(qj O).append_left done
   . rw[List.length_eraseIdx_of_lt O]
     rw[AH]at Z;omega
   . unfold upd
     rw[<-N,List.set_append_right _ _ (Ad _),Nat.sub_self];rfl
 . rintro e s' acc ⟨⟨o,rfl⟩,done,left,S,rfl,hd,Z,hS,rfl⟩
   obtain rfl:left=[]:=List.length_eq_zero_iff.mp Z.symm;rw[A9]at hd;refine zD.mpr (pQ.mpr (zD.mpr ?_));show (yF false s (tpI (zT done)) (S++_)).post _;rw[oz hS (uA _)];exact zD.mpr ⟨done,rfl,hd,hS⟩
def ni(h:a.length+b.length<=1000):binOp false .a (.f a) (.f b) s=.e (.f (a++b)) s:=Zz (by unfold zZ;omega)
noncomputable def Ys(o:Val):List Val:=[o,.c 4,.c (-1),.e true,.j,.g "0",.f [.c 0],.h [.c 0],.p,.c 100000000000000000000000000000]
def noM(os:List Nat)(a:Nat)(x:Int):List Val:=(Ys (.c x)).map λu=>.f (((zT os).take a).map .c++[u]++((zT os).drop (a+1)).map .c)
def noL(os:List Nat)(a:Nat)(x:Int):List Val:=noM os a x++[tpI ((zT os).drop 1),.f ((zT os).map .c++[.c 0]),.h ((zT os).map .c),.j,.f [],.f ((zT os).reverse.map .c++(zT os).map .c)]
def eW(Φ:Calls):Prop:=∀(p:Nat) (os:List Nat) (s:Sto),xK s p->os.Perm (Av 4)->(Φ "_law_no_orders" 0 [.m p,tpI (zT os)] s).post λv s'=>∃vs,v=.h vs/\(∀x∈vs,qT x)/\yO s p s'
def eA(cD:lG Φ){os}(hp:xK s p)(hs:os.Perm (Av 4)):(run T Φ F06.yC [.m p,tpI (zT os)] s).post λv s'=>∃vs,v=.h vs/\(∀x∈vs,qT x)/\yO s p s':=by
 have Y:1<=zZ:=by decide
 have Z:(zT os).length=4:=by rw[Ac,hs.length_eq,Bi]
 have S:∀x∈zT os,0<=x/\x<=3:=λx hx=>by obtain⟨k,hk,rfl⟩:=A7.mp hx;have:=Bl.mp (hs.mem_iff.mp hk);omega
 rw[F06.yC,wW];refine⟨rfl,?_⟩;show (zU Φ T.b [some (.m p),some (tpI (zT os)),none,none,none,none] _ s).post _;obtain⟨_,s1,hd1,a,rfl,ha,t1⟩:=cD p 4 s hp ⋯ ⋯
 obtain⟨_,s2,hd2,k,rfl,hk,t2⟩:=cD p 3 s1 (t1.at_ hp.lt) ⋯ ⋯
 refine yA.mpr (l5.mpr (vS (x_call (zA (zB rfl) (zA zI zE)) hd1) (vS (x_call (zA (zB rfl) (zA zI zE)) hd2) (pQ.mpr (qP rfl ?_)))));have tt:=t1.trans t2;generalize s2=s' at *;have ha4:a<4:=by omega
 have hk3:k<3:=by omega
 have P:=Y0 hs ha4 hk3;show (zU Φ T.b [some (.m p),some (tpI (zT os)),some (.c a),some (.c k),none,none] _ s').post _;have U:(zT os).getD ((a+1+k)%4) 0∈zT os:=by
  rw[Am,Ab (by rw[Z];omega)]
  exact BY _
 generalize hO:(zT os).getD ((a+1+k)%4) 0=ot at P U;have hix:xm (tpI (zT os)) (.c (((a+1+k)%4:Nat):Int)) s'=.e (.c ot) s':=qz (by
  rw[Am]at hO;rw[Ab (by rw[Z];omega)]at hO ⊢
  rw[<-hO];rfl)
 refine vA (wF (zB rfl) (zk (zk (zk (zB rfl) zI rn) (zB rfl) rn) zI (by rw[bmod (by decide),show ((a:Int)+1+(k:Int))%4=(((a+1+k)%4:Nat):Int) by omega])) hix) ?_
 show (zU Φ T.b [some (.m p),some (tpI (zT os)),some (.c a),some (.c k),some (.c ot),none] _ s').post _;have R:wA false (tpI (zT os)) none (some (a:Int)) none s'=.e (tpI ((zT os).take a)) s':=by rw[pf,ij ⋯]
 have Q:wA false (tpI (zT os)) (some ((a:Int)+1)) none none s'=.e (tpI ((zT os).drop (a+1))) s':=by rw[show (a:Int)+1=((a+1:Nat):Int) by omega,pf,ig ⋯]
 have hc:evE Φ T.b [some (.m p),some (tpI (zT os)),some (.c a),some (.c k),some (.c ot),none] (.p false ["_law_odd","_law_order_here","_law_at"] [none,some 1,some 2] (.j false .a (.j false .a (.I false (.e 1) .b (.a (.e 2)) .b) (.r (.a (.e 0) .c))) (.I false (.e 1) (.a (.j false .a (.e 2) (.g (.c 1)))) .b .b)) (.a 0) (.f (.r (.a (.e 4) (.a (.g (.c 4)) (.a (.A (.g (.c 1))) (.a (.g (.e true)) (.a (.g .j) (.a (.g (.g "0")) (.a (.r (.a (.g (.c 0)) .c)) (.a (.y false (.a (.g (.c 0)) .c)) (.a .C (.a (.j false .f (.g (.c 10)) (.g (.c 29))) .c)))))))))))) .a) s'=.e (.h (noM os a ot)) s':=by
  rw[post_eq];refine uZ (λe=>∃o,e=[o,some (tpI (zT os)),some (.c a)]) (λu=>[.f (((zT os).take a).map .c++[u]++((zT os).drop (a+1)).map .c)]) (Ys (.c ot)) (s1:=s') (v7 (yy (vs:=Ys (.c ot)) (zA (zB rfl) (zA zI (zA (rm zI) (zA zI (zA zI (zA zI (zA (yy (zA zI zE) Y) (zA (rl (zA zI zE) Y) (zA rfl (zA (zk zI zI dP) zE)))))))))) (show 10<=zZ by decide)) rfl) ⟨none,rfl⟩ ?_ ?_
  . rintro u hu e ⟨o,rfl⟩
    refine⟨_,rfl,⟨_,rfl⟩,wd.mpr ⟨rfl,?_⟩⟩;rw[if_pos rfl];show (evE Φ T.b [some u,some (tpI (zT os)),some (.c a)] _ s').post _;have l1:(((zT os).take a).map Val.c).length<=4:=by rw[Ac,BX];omega
    have l2:(((zT os).drop (a+1)).map Val.c).length<=4:=by rw[Ac,Cv];omega
    rw[zk (zk (kT (zB rfl) tG (sG (zB rfl)) tG R) (yy (zA (zB rfl) zE) Y) (ni (by rw[BN];omega))) (kT (zB rfl) (sG (zk (zB rfl) zI rn)) tG tG Q) (ni (by rw[Ao,BN];omega))]
    exact zD.mpr ⟨rfl,rfl⟩
  . rw[om]
    exact zD.mpr ⟨rfl,rfl⟩
 refine vA hc ?_;have dr1:wA false (tpI (zT os)) (some 1) none none s'=.e (tpI ((zT os).drop 1)) s':=by rw[pf,show (1:Int)=((1:Nat):Int) from rfl,ig ⋯]
 have rv:wA false (tpI (zT os)) none none (some (-1)) s'=.e (tpI (zT os).reverse) s':=kI ⋯
 have l0:((zT os).map Val.c).length=4:=by rw[Ac,Z]
 refine xG (v:=.h (noL os a ot)) (s1:=s') (zk (zB rfl) (rl (zA (kT (zB rfl) (sG zI) tG tG dr1) (zA (zk (zB rfl) (yy (zA zI zE) Y) (ni (by rw[BN];omega))) (zA (yH (zA (zB rfl) zE) rfl) (zA zI (zA (yy zE (Bj _)) (zA (zk (kT (zB rfl) tG tG (sG (rm zI)) rv) (zB rfl) (ni (by rw[Ac,C7];omega))) zE)))))) (show 6<=zZ by decide)) (iS (by show 10+6<=zZ;decide))) ?_
 have O:∀x∈noL os a ot,qT x/\x.noRef=true:=λx hx=>by
  have nm:∀l:List Int,∀w∈l.map Val.c,kindOf w≠none:=λl=>uV;have N:∀l:List Int,(∀x∈l,0<=x/\x<=3)->l.length<64->l.length≠4->qT (tpI l)/\(tpI l).noRef=true:=λl h1 h2 h3=>⟨.inl ⟨l,rfl,h1,h2,λe=>h3 (by rw[<-(sortI_perm l).length_eq,e];rfl)⟩,uA l⟩
  rcases AD.mp hx with hx|hx
  . obtain⟨u,hu,rfl⟩:=A7.mp hx
    have odd:kindOf u≠none->zm 0 3 u=false->u.noRef=true->qT (.f (((zT os).take a).map .c++[u]++((zT os).drop (a+1)).map .c))/\(Val.f (((zT os).take a).map .c++[u]++((zT os).drop (a+1)).map .c)).noRef=true:=λh1 h2 h3=>by
     refine⟨.inr (.inl ⟨_,rfl,λw hw=>?_,?_⟩),?_⟩
     . rcases AD.mp hw with hw|hw
       . rcases AD.mp hw with hw|hw
         . exact nm _ w hw
         . rw[AU.mp hw];exact h1
       . exact nm _ w hw
     . rw[List.all_append,List.all_append,DE,h2];simp
     . rw[mQ]
       exact pL λw hw=>by
        rcases AD.mp hw with hw|hw
        . rcases AD.mp hw with hw|hw
          . obtain⟨i,_,rfl⟩:=A7.mp hw;exact wj
          . rw[AU.mp hw];exact h3
        . obtain⟨i,_,rfl⟩:=A7.mp hw;exact wj
    simp only[Ys,Ap,Bo,or_false]at hu;rcases hu with rfl|rfl|rfl|rfl|rfl|rfl|rfl|rfl|rfl|rfl
    . have e:(Val.f (((zT os).take a).map .c++[Val.c ot]++((zT os).drop (a+1)).map .c))=tpI ((zT os).take a++[ot]++(zT os).drop (a+1)):=by show _=Val.f (Eo Val.c ((zT os).take a++[ot]++(zT os).drop (a+1)));rw[Bs,Bs];rfl
      rw[e];refine⟨.inl ⟨_,rfl,λx hx=>?_,?_,P⟩,uA _⟩
      . rcases AD.mp hx with hx|hx
        . rcases AD.mp hx with hx|hx
          . exact S x (Dz hx)
          . rw[AU.mp hx];exact S ot U
        . exact S x (List.mem_of_mem_drop hx)
      . rw[Ao,Ao,BX,Cv,BN];omega
    . exact odd nofun rfl wj
    . exact odd nofun rfl wj
    . exact odd nofun rfl xP
    . exact odd nofun rfl qN
    . exact odd nofun rfl jP
    . exact odd nofun rfl (by rw[mQ,uB,sF,wj];rfl)
    . exact odd nofun rfl (by rw[pK,uB,sF,wj];rfl)
    . exact odd nofun rfl rfl
    . exact odd nofun rfl wj
  . simp only[Ap,Bo,or_false]at hx
    rcases hx with rfl|rfl|rfl|rfl|rfl|rfl
    . exact N _ (λx hx=>S x (List.mem_of_mem_drop hx)) (by rw[Cv];omega) (by rw[Cv];omega)
    . have e:(Val.f ((zT os).map .c++[.c 0]))=tpI (zT os++[0]):=by show _=Val.f (Eo Val.c (zT os++[0]));rw[Bs];rfl
      rw[e];refine N _ (λx hx=>?_) (by rw[Ao,BN];omega) (by rw[Ao,BN];omega)
      rcases AD.mp hx with hx|hx
      . exact S x hx
      . rw[AU.mp hx];decide
    . exact⟨.inr (.inr ⟨nofun,nofun⟩),by rw[pK];exact wc _⟩
    . exact⟨.inr (.inr ⟨nofun,nofun⟩),qN⟩
    . exact N [] (λ_ h=>nomatch h) (by decide) (by decide)
    . have e:(Val.f ((zT os).reverse.map .c++(zT os).map .c))=tpI ((zT os).reverse++zT os):=by show _=Val.f (Eo Val.c ((zT os).reverse++zT os));rw[Bs]
      rw[e];refine N _ (λx hx=>?_) (by rw[Ao,C7];omega) (by rw[Ao,C7];omega)
      rcases AD.mp hx with hx|hx
      . exact S x (List.mem_reverse.mp hx)
      . exact S x hx
 generalize noL os a ot=W at O;show (yF false s (.h W) s').post _;rw[vM tt (by rw[pK];exact pL λx hx=>(O x hx).2)]
 exact zD.mpr ⟨W,rfl,λx hx=>(O x hx).1,tt⟩
end
end M
end
section
namespace M
open PySem Hd
def cZ(h:Heap)(a:Addr):Option Obj:=(h.get? a).bind λo=>if yX o then none else some o
def YM(e:h.get? a=some o)(n:yX o=false):cZ h a=some o:=by unfold cZ;rw[e];show (if yX o=true then none else some o)=some o;rw[n];rfl
def i9(e:cZ h a=some o):h.get? a=some o/\yX o=false:=by
 unfold cZ at e;obtain⟨x,e1,e2⟩:=D3.mp e;split at e2
 . cases e2
 . rename_i z
   cases e2;exact⟨e1,by simpa using z⟩
def zd(h:Heap):KF:=(Av h.objs.size).filterMap λa=>(cZ h a).map λo=>(a,o)
theorem qL{g:Addr->Option Obj}:∀{l:List Addr},a∈l->(l.filterMap λb=>(g b).map λo=>(b,o)).lookup a=g a
 |b::r,hm=>by
  rw[A3];by_cases e:a=b
  . subst e
    cases hg:g a with
    |none=>
     show (r.filterMap _).lookup a=none;by_cases m:a∈r
     . rw[qL m,hg]
     . exact F9.mpr λp hp=>by
        obtain⟨c,x,e⟩:=CC.mp hp;obtain⟨o,_,rfl⟩:=BF.mp e;have z:a≠c:=λz=>m (by rw[z];exact x)
        simpa using z
    |some o=>show (Cy a ((a,o)::_))=_;rw[Aq,beq_self_eq_true]
  . have m:a∈r:=(Ap.mp hm).resolve_left e
    cases hg:g b with
    |none=>exact qL m
    |some o=>
     show (Cy a ((b,o)::_))=_;rw[Aq,beq_false_of_ne e];exact qL m
def zW o(e:h.get? a=some o)(n:yX o=false):(zd h).lookup a=some o:=by rw[<-YM e n];exact qL (Bl.mpr (Al e))
def tx:(zd h).In h:=λa o e=>by obtain⟨c,_,e⟩:=CC.mp (yw e);obtain⟨x,e1,e2⟩:=BF.mp e;cases e2;exact(i9 e1).1
def g7(e:(zd h).lookup a=some o):yX o=false:=by obtain⟨c,_,e⟩:=CC.mp (yw e);obtain⟨x,e1,e2⟩:=BF.mp e;cases e2;exact(i9 e1).2
def rG(e:nsH h x=some v):BK (zd h) AS x=some v:=by
 unfold nsH at e;split at e
 . rename_i o ho
   have N:yX o=false:=by
    unfold BK at e;rw[Aq,beq_self_eq_true]at e;dsimp only at e;split at e
    . rename_i hd;cases hd;unfold yX;simp
    . cases e
   unfold BK at e ⊢;rw[zW o ho N];rw[Aq,beq_self_eq_true]at e;exact e
 . cases e
def lQ(e:iY h cd x=true):B1 (zd h) cd x=true:=by
 unfold iY at e;split at e
 . split at e
   . rename_i c o ho
     rw[cf,AK]at e;obtain⟨N,e⟩:=e;unfold B1 at e ⊢;dsimp only at e ⊢;rw[Aq,beq_self_eq_true]at e;rw[zW o ho N];exact e
   . cases e
 . cases e
def args_eq st:args st=L2.xM st/\body st=L2.z9 st/\scope st=L2.zF st:=by cases st<;>exact⟨rfl,rfl,rfl⟩
def W9(e:Yp h p.1=Xq p):tP (zd h) p.1 p.2:=by
 obtain⟨a1,a2,a3⟩:=args_eq p.2;unfold Xq at e;rw[a1,a2,a3]at e;unfold Yp at e;split at e
 . rename_i f hf
   split at e
   . rename_i oc od fd osl ho
     split at e
     . rename_i hc
       have x:=A1 e;obtain⟨n,q,ps,b,sc,g,cl,O,N,P,pm,an,cd,ct,bl⟩:=fd;injection x with e1 e2 e3 e4 e5 e6 e7 e8 _ _ _ _ _ _ e9
       subst e1 e2 e3 e4 e5 e6 e7 e8 e9;exact W8 (rG hf) (zW _ ho (by unfold yX;simp)) (lQ hc) (by unfold B2;dsimp only;rw[zW _ ho (by unfold yX;simp)])
     . cases e
   . cases e
 . cases e
noncomputable def gv:G->Val
 |.b i=>.c i
 |.c x=>.g x
 |.a ns=>.o ns
def SO(e:glB h x v=true):gT (zd h) x (gv v):=by
 cases v with
 |b i=>
  unfold glB at e;dsimp only at e;split at e
  . rename_i hn;have:=of_decide_eq_true e;subst this;exact int_mk (rG hn)
  . cases e
 |c y=>
  unfold glB at e;dsimp only at e;split at e
  . rename_i hn;have:=of_decide_eq_true e;subst this;exact str_mk (rG hn)
  . cases e
 |a ns=>
  unfold glB at e;dsimp only at e;split at e
  . rename_i hn
    split at e
    . rename_i n od us k sl ho
      obtain⟨e1,e3⟩:=EU.mp e;obtain⟨e1,e2⟩:=EU.mp e1;have:=of_decide_eq_true e1;subst this;exact YA (us:=us.toList) (rG hn) (zW _ ho rfl) (of_decide_eq_true e2) (of_decide_eq_true e3)
    . cases e
  . cases e
def X5(e:blB h x=true):BK (zd h) AS x=some none:=by
 unfold blB at e;split at e
 . rename_i hn;exact rG hn
 . cases e
theorem ir:∀{D:List (Str × Stmt)},(D.map λp=>Yp h p.1)=D.map Xq->∀p∈D,tP (zd h) p.1 p.2
 |p::D,e,q,x=>by
  rw[AW,AW]at e;obtain⟨e1,e2⟩:=List.cons.inj e;rcases Ap.mp x with rfl|x
  . exact W9 e1
  . exact ir e2 q x
end M
end
section
namespace M
open PySem Hd PySem.W
noncomputable def scB(N ps:List Str)(sc:Scope):Bool:=decide (sc.kind=.function)&&!sc.isCoroutine&&!sc.isGenerator&&decide N.Nodup&&decide (N.take ps.length=ps)&&ps.all (λx=>decide (sc.names.lookup x=some .local)||decide (sc.names.lookup x=some .cell))&&sc.names.all (λy=>decide (y.2≠.free))
def jx(h:scB N ps sc=true):L2.xt N ps sc:=by unfold scB at h;simp only[cf,decide_eq_true_eq,AK,AB,Ay]at h;obtain⟨⟨⟨⟨⟨⟨h1,S⟩,R⟩,Q⟩,P⟩,O⟩,x⟩:=h;exact⟨h1,S,R,Q,P,O,x⟩
noncomputable def lkB(sc:Scope)(l:List (Str × Dv)):Bool:=l.all λp=>decide (sc.names.lookup p.1=some p.2)
structure kZ(st:Stmt)(cs ws:List Str)(pre:Option Str):Prop where
 b:argNames (L2.xM st)=some [("_law_e":Str)]
 c:scB L2.kN ["_law_e"] (L2.zF st)=true
 sh:L2.ek (L2.zF st) cs ws pre (L2.z9 st)
 a:lkB (L2.zF st) [("_law_e",.local),("_law_marks",.local),("_law_words",.local),("isinstance",.globalImplicit),("ValueError",.globalImplicit)]=true
structure nY(m:Bool)(kx:Str)(st:Stmt):Prop where
 b:argNames (L2.xM st)=some [("_law_call":Str)]
 c:scB (L2.xU m) ["_law_call"] (L2.zF st)=true
 sh:L2.dA m kx (L2.z9 st)
 a:lkB (L2.zF st) ((("_law_call":Str),NameKind.local)::(("_law_e":Str),NameKind.local)::(("HueError":Str),D7)::(kx,D7)::if m then [] else [(("_law_word":Str),NameKind.local)])=true
noncomputable def wsB(cs ws:List Str)(pre:Option Str):Bool:=decide cs.Nodup&&decide (cs.length<=100)&&decide (ws.length<=100)&&ws.all (λw=>decide (w.length<=100))&&(match pre with|none=>true|some x=>decide (x.length<=100))
def xcB(N cs ws:List Str)(pre:Option Str)(xc:List (Str × Str)):Bool:=xc.all λp=>decide (p.1∈N)&&(Av cs.length).any λi=>decide (cs[i]?=some p.1)&&(match ws[i]? with|some x=>decide (p.2=L2.ans pre x)|none=>false)&&(decide (p.2≠"great")||decide (p.1="TooGreat"))
def fe(q:Program)(c:Str):Bool:=(PyProof.Rows.ownsOf q).any λo=>decide (o.name=c)&&(o.bm == Hd.veM)&&(o.newId == "ValueError.__new__")
section
variable {h0 h:Heap}{mg:Str->Option Value}
def nZ(e:adH h0 x=some a):nsIn (zd h0) AS x=some (some (.ref a)):=by
 unfold adH at e;split at e
 . rename_i hn;cases e;exact rG hn
 . cases e
def dm(N:p∈W5 h0 x):h0.get? p.1=some p.2/\yX p.2=false:=by
 unfold W5 at N;split at N
 . split at N
   . rename_i a o ho
     split at N
     . rename_i cd hcd
       rcases Ap.mp N with z|z
       . subst z
         refine⟨ho,?_⟩;unfold yX;rw[hcd];simp
       . split at z
         . rename_i n hn
           split at z
           . cases z
           . rename_i hz
             rw[AU]at z;subst z;exact⟨hn,by simpa using hz⟩
         . cases z
     . cases N
   . cases N
 . cases N
theorem mG:∀{xs},p∈kcH h0 xs->h0.get? p.1=some p.2/\yX p.2=false
 |[],hm=>by cases hm
 |x::xs,hm=>by
  rcases AD.mp hm with z|z
  . exact dm z
  . exact mG z
def gB:L2.tU (kcH h0 xs) (zd h0):=λa o e=>by obtain⟨e1,e2⟩:=mG (yw e);exact zW o e1 e2
def Ym:L2.tU (kcG h0 xs) (zd h0):=λa o e=>by
 rcases AD.mp (yw e) with z|z
 . split at z
   . rename_i o' ho
     split at z
     . cases z
     . rename_i ht
       rw[AU]at z;cases z;exact zW _ ho (by simpa using ht)
   . cases z
 . obtain⟨e1,e2⟩:=mG z
   exact zW o e1 e2
def gS(h:gR K C=true):L2.vq K C:=by unfold gR at h;simp only[cf,beq_iff_eq]at h;obtain⟨⟨⟨⟨⟨h1,Q⟩,P⟩,O⟩,N⟩,x⟩:=h;exact⟨h1,Q,P,O,N,x⟩
def lP(T:C1 q loose mean mg mb h)(Y:(zd h0).In h)(KB:(zd h0).In base)(Q:fe q c=true)(hm:mg c=some (.ref C))(P:bq h0 C bm=true):L2.ClsAt base C bm:=by
 unfold fe at Q;rw[Bu]at Q;obtain⟨o,R,Q⟩:=Q;simp only[cf,decide_eq_true_eq,beq_iff_eq]at Q;obtain⟨⟨o1,o2⟩,Z⟩:=Q;obtain⟨C',O,_⟩:=T.own o R;have U:=O.bound;rw[o1,hm]at U;cases U;obtain⟨bm',N,nm,qq,bs,hdct,sn,sub,ab,col,dd,k0,k1,k2,k3,k5,mN,hC,hN,hq,_⟩:=O.obj;rw[Z]at hC;unfold bq at P;split at P
 . rename_i ob hob
   split at P
   . rename_i cd hcd
     rw[cf,beq_iff_eq]at P;obtain⟨W,x⟩:=P;have hk:=zW ob hob (by unfold yX;rw[hcd];simp)
     have e1:=Y _ _ hk;rw[hC]at e1;cases e1;cases hcd;obtain⟨_,rfl⟩:=List.cons.inj W;split at x
     . rename_i n hn
       have S:=zW n hn (by simpa using x)
       obtain⟨on,es,ep,f1,f2,f3⟩:=hN;rw[Y _ _ S]at f1;cases f1;exact⟨nm,qq,N,bs,hdct,sn,sub,ab,col,dd,k0,k1,k2,k3,k5,mN,KB _ _ hk,⟨n,es,ep,KB _ _ S,f2,f3⟩,hq _ (.head _)⟩
     . cases x
   . cases P
 . cases P
structure eh(st:Stmt):Prop where
 b:argNames (L2.xM st)=some L2.inN
 c:scB L2.inN L2.inN (L2.zF st)=true
 sh:L2.ee (L2.z9 st)
 a:lkB (L2.zF st) [("self",.local),("many",.local),("most",.local),("HueError",.globalImplicit)]=true
def iQ(_:Stmt):Prop:=False
def lkk(O:lkB sc l=true)(N:(x,k)∈l):sc.names.lookup x=some k:=of_decide_eq_true (AB.mp O _ N)
def kr(TT:C1 q loose mean mg mb h)(N:(zd h0).In h)(hD:tP (zd h0) "_law_great" st)(S:iQ st):∃f,L2.qE (zd h0) mg f:=by exact Az S
def Z7(KB:(zd h0).In base)(O:dk h0 C hue=true)(hi:hG h0 C=some f)(Z:h0.get? f=some o)(hc:o.cls=.type "function")(Y:yX o=false):L2.sg base C (.ref hue::L2.veM) f:=by
 unfold dk at O;split at O
 . rename_i n dd cd sl hC
   simp only[cf,decide_eq_true_eq,beq_iff_eq,AK]at O;obtain⟨⟨⟨⟨⟨h1,S⟩,R⟩,Q⟩,x⟩,P⟩:=O;subst h1;unfold hG at hi;rw[hC]at hi;dsimp only at hi;split at hi
   . rename_i f' hf
     cases hi;unfold slB at x;split at x
     . rename_i k0 k1 k2 k3 m k5 hsl
       have x:=of_decide_eq_true x;subst x;have hs:sl=#[k0,k1,k2,k3,some (.builtin "ValueError.__new__"),k5]:=Array.toList_inj.mp hsl;subst hs;obtain⟨nm,bs,mro,N,U,hdc,sn,sub,ab,col,hdl⟩:=cd;dsimp only at S R Q P hf;subst S R Q;obtain⟨W,es,ep,n1,n2,n3⟩:=Heap.Ns.of_isNs P;have e1:=KB _ _ (zW _ hC (by unfold yX;simp))
       have e2:=KB _ _ (zW _ n1 (by unfold yX;rw[n2];simp))
       exact⟨nm,U,N,bs,sn,sub,ab,col,dd,k0,k1,k2,k3,k5,h0.nsMap N,o,e1,⟨W,es,ep,e2,n2,n3⟩,hf,KB _ _ (zW _ Z Y),hc⟩
     . cases x
   . cases hi
 . cases O
def YN(e:cw h0 C=(Zm st).2):∃f fd o,hG h0 C=some f/\h0.get? f=some o/\o.cls=.type "function"/\yX o=false/\L2.Fun (zd h0) "__init__" "TooGreat.__init__" st f fd:=by
 obtain⟨a1,a2,a3⟩:=args_eq st;unfold Zm at e;dsimp only at e;rw[a1,a2,a3]at e;unfold cw at e;split at e
 . rename_i f hf
   split at e
   . rename_i n od fd osl ho
     split at e
     . rename_i hc
       rw[cf,decide_eq_true_eq]at hc;have x:=A1 e;obtain⟨N,q,ps,b,sc,g,cl,P,O,Q,pm,an,cd,ct,bl⟩:=fd;injection x with e1 e2 e3 e4 e5 e6 e7 e8 _ _ _ _ _ _ e9
       subst e1 e2 e3 e4 e5 e6 e7 e8 e9;exact⟨f,_,_,hf,ho,congrArg FH hc.1,by unfold yX;simp,L2.cY (zW _ ho (by unfold yX;simp)) (lQ hc.2) (by unfold B2;dsimp only;rw[zW _ ho (by unfold yX;simp)])⟩
     . cases e
   . cases e
 . cases e
def VQ(h:VP K C D=true):L2.GrK K C D:=by
 unfold VP at h;simp only[cf,beq_iff_eq]at h;obtain⟨⟨⟨⟨⟨h1,Q⟩,P⟩,O⟩,N⟩,x⟩:=h;refine⟨h1,Q,P,O,N,?_⟩;split at x
 . rename_i m hm
   rw[hm,of_decide_eq_true x]
 . cases x
def cm(TT:C1 q loose mean mg mb h)(N:(zd h0).In h)(ob:Yq X h0=Zm st)(S:eh st):∀base,(zd h0).In base->tS (zd h0) mg base:=λbase KB=>by
 unfold Yq at ob;split at ob
 . rename_i C hC
   split at ob
   . rename_i D hD
     obtain⟨o1,O⟩:=Gn ob;simp only[cf,beq_iff_eq]at o1;obtain⟨⟨⟨g1,g2⟩,g3⟩,Y⟩:=o1;obtain⟨f,fd,o,U,R,Q,P,x⟩:=YN (st:=st) O;exact⟨C,D,f,fd,_,mg_of N TT.g (nZ hC),Z7 KB g1 U R Q P,⟨⟨_,_,st,x,jx S.c,x.binds λkV doc pm an cdv ct us W=>vt S.b (by decide) us W,S.sh,lkk S.a (by simp),lkk S.a (by simp),lkk S.a (by simp),lkk S.a (by simp)⟩,mg_of N TT.g (nZ hD)⟩,VQ g2,Ym,gS Y,g3⟩
   . cases ob
 . cases ob
def Rx(U:Bool->Stmt)(TT:C1 q loose mean mg mb h)(Q:(zd h0).In h)(ob:mR X h0=true)
 (hD:tP (zd h0) kx kst) (hS:∀b,T.c b=true->tP (zd h0) (L2.yJ b) (U b)/\nY b kx (U b)) (R:kZ kst X.a ws pre) (hb:∀x∈wR,nsIn (zd h0) AS x=some none) (hkd:(kx == ("__debug__":Str))=false)
 (hws:wsB X.a ws pre=true) (hxc:xcB X.c X.a ws pre T.d=true) (ku:((("HueError":Str))::X.c).all (λc=>decide (c="TooGreat")||fe q c)=true) (hgf:cg T=true->∃f,L2.qE (zd h0) mg f) (hgr:(T.d.lookup ("TooGreat":Str)).isSome=true->∀base,(zd h0).In base->tS (zd h0) mg base):Sc T (zd h0) mg:=by
 unfold mR at ob;split at ob
 . cases ob
 . rename_i hue hhue
   simp only[cf,AB,decide_eq_true_eq]at ob;obtain⟨⟨⟨⟨⟨x1,x2⟩,x3⟩,x4⟩,W⟩,x6⟩:=ob;have O:=mg_of Q TT.g (nZ hhue);have P:∀c a,adH h0 c=some a->mg c=some (.ref a):=λc a e=>mg_of Q TT.g (nZ e);simp only[wsB,cf,decide_eq_true_eq,AB]at hws;obtain⟨⟨⟨⟨w1,w2⟩,w3⟩,w4⟩,w5⟩:=hws;have KFn:L2.nX (zd h0) mg kx X.a ws pre:=by
    obtain⟨f,fd,a1,a2⟩:=hD;refine⟨⟨kst,f,fd,mg_of Q TT.g a1,a2,jx R.c,a2.binds λkV doc pm an cdv ct us hl=>vt R.b (by decide) us hl,R.sh,lkk R.a (by simp),lkk R.a (by simp),lkk R.a (by simp),lkk R.a (by simp),lkk R.a (by simp)⟩,λc hc=>?_,mg_none_of Q TT.g (hb _ (by decide)),mg_none_of Q TT.g (X5 x2),w1,w2,w3,λw hw=>w4 w hw,λx hx=>?_⟩
    . obtain⟨a,e⟩:=Cj.mp (x1 c hc)
      exact⟨a,P c a e⟩
    . subst hx;exact of_decide_eq_true w5
   have N:∀c∈X.c,∃C,mg c=some (.ref C)/\(∃Kc,L2.tU Kc (zd h0)/\exmOne Kc (.ref C) (.ref hue)=some true)/\L2.Named (zd h0) mg X.a C c/\bq h0 C (.ref hue::Hd.veM)=true:=λc hc=>by
    have z:=x3 c hc;split at z
    . cases z
    . rename_i C hC
      simp only[cf,AB,beq_iff_eq]at z;obtain⟨⟨⟨⟨z1,z2⟩,Y⟩,z4⟩,z5⟩:=z;refine⟨C,P c C hC,⟨_,gB,z2⟩,⟨_,gB,gS z1,λd hd=>?_,z4⟩,z5⟩;obtain⟨a,e⟩:=Cj.mp (x1 d hd);have:=Y d hd;rw[e]at this;rw[L2.dE (P d a e)];exact this
   have Z:∀c w,T.d.lookup c=some w->c∈X.c/\∃(i:Nat) (x:Str),X.a[i]?=some c/\ws[i]?=some x/\w=L2.ans pre x/\(w="great"->c="TooGreat"):=λc w e=>by
    have z:=AB.mp hxc _ (yw e);simp only[cf,Ay,decide_eq_true_eq,Bu]at z;obtain⟨z1,i,_,⟨z2,Y⟩,z4⟩:=z;split at Y
    . rename_i x hx
      exact⟨z1,i,x,z2,hx,of_decide_eq_true Y,λhg=>z4.resolve_left λz5=>z5 hg⟩
    . cases Y
   have hw:∀c∈(("HueError":Str))::X.c,c≠"TooGreat"->fe q c=true:=λc hc hn=>by
    have:=AB.mp ku c hc
    rwa [decide_eq_false hn,Ft]at this
   refine⟨⟨kx,X.a,ws,pre,hue,O,KFn,λb hbm=>?_,λc w e=>?_,λc w e hne base KB=>?_⟩,hgf,hgr,λbase KB=>?_⟩
   . obtain⟨⟨f,fd,a1,a2⟩,S⟩:=hS b hbm
     refine⟨f,⟨⟨U b,fd,mg_of Q TT.g a1,a2,jx S.c,a2.binds λkV doc pm an cdv ct us hl=>vt S.b (by decide) us hl,S.sh,lkk S.a (by simp),lkk S.a (by simp),λhbf=>lkk S.a (by subst hbf;simp),lkk S.a (by simp),lkk S.a (by simp)⟩,hkd⟩⟩
   . obtain⟨y1,i,x,y2,y3,y4,y5⟩:=Z c w e
     obtain⟨C,r1,r2,r3,_⟩:=N c y1;exact⟨C,i,x,r1,r2,r3,y2,y3,y4,y5⟩
   . obtain⟨y1,_⟩:=Z c w e
     obtain⟨C,r1,_,_,r4⟩:=N c y1;exact⟨C,r1,lP TT Q KB (hw c (Ah _ y1) hne) r1 r4,lP TT Q KB (hw _ (Ax ..) (by decide)) O x4⟩
   . obtain⟨bm,obj,b1,b2,b3,b4,b5,b6⟩:=TT.bmain
     unfold bmB at W;split at W
     . rename_i b hbb
       have:=P _ _ hbb;rw[b1]at this;cases this;split at W
       . rename_i o hob
         have hk:=zW o hob (by simpa using W)
         have e1:=Q _ _ hk;rw[b3]at e1;cases e1;exact⟨bm,obj,b1,b2,KB _ _ hk,b4,b5,b6⟩
       . cases W
     . cases W
def tab_of{D:List (Str × Stmt)}(TT:C1 q loose mean mg mb h)(KX:(zd h0).In h)(ob:mR X h0=true)(U:T.f=X.b)
 (hd:∀p∈D,tP (zd h0) p.1 p.2) (ky:X.b.all (λg=>(EX q).any (λd=>decide (d.name=g))&&(D.lookup g).isSome)=true):∃tabs,Tq T (zd h0) mg h tabs:=by
 have nd:(X.b.map (j9 h0)).Nodup:=by
  unfold mR at ob;split at ob
  . cases ob
  . simp only[cf,decide_eq_true_eq]at ob
    exact ob.2
 have one:∀g∈X.b,∃P,j9 h0 g=some P/\h.get? P=some (tabObj #[])/\(zd h0).lookup P=none/\Gm h P/\∃(fa c:Addr) (o:Obj) (fd:BD),mg g=some (.ref fa)/\(zd h0).lookup fa=some o/\o.data=.func fd/\fd.code=.ref c/\∀h':Heap,(zd h0).In h'->CodeHd h' c P:=λg hg=>by
  have z:=AB.mp ky g hg;rw[cf,Bu]at z;obtain⟨⟨d,d1,d2⟩,z2⟩:=z;have d2:=of_decide_eq_true d2;obtain⟨st,hst⟩:=Cj.mp z2;obtain⟨fa,fd,a1,a2⟩:=hd _ (yw hst);obtain⟨oc,od,kV,doc,pm,an,cdv,ct,osl,rfl,lk,N⟩:=a2.a;have W:=mg_of KX TT.g a1;obtain⟨a',o',fd',c,P,t1,t2,t3,t4,t5,t6⟩:=TT.tab d d1;rw[d2,W]at t1;cases t1;rw[KX _ _ lk]at t2;cases t2;cases t3;have Z:cdv=.ref c:=t4;subst Z;have x:∃S,(zd h0).lookup c=some S:=by
   unfold codeIn at N;dsimp only at N;split at N
   . rename_i hh;exact⟨_,hh⟩
   . cases N
  obtain⟨S,x⟩:=x;obtain⟨⟨oT,vsT,u1,u2,u3,u4⟩,u5⟩:=id t6;rw[KX _ _ x]at u1;cases u1;refine⟨P,?_,u5,?_,t6.isCodeTable,fa,c,_,_,W,lk,rfl,rfl,λh' K'=>?_⟩
  . have g1:adH h0 g=some fa:=by
     unfold adH;have O:nsIn (zd h0) AS g=some (some (.ref fa)):=a1;unfold nsH;unfold nsIn at O;split at O
     . rename_i c1 d1 es n1 s1 hmn
       have:=tx _ _ hmn;rw[this];dsimp only;unfold nsIn;rw[Aq,beq_self_eq_true];dsimp only;rw[O]
     . cases O
    unfold j9;rw[g1];dsimp only;rw[tx _ _ lk];dsimp only;rw[tx _ _ x];dsimp only;rw[u3];dsimp only;rw[u4]
  . cases e:(zd h0).lookup P with
    |none=>rfl
    |some o=>
     have n1:=g7 e;have e2:=KX _ _ e;rw[u5]at e2;cases e2;cases n1
  . obtain⟨o2,vs2,file,tf,Q,tg,inF,R,tt,v1,v2,v3⟩:=CodeHd.of t5 t6
    rw[KX _ _ x]at v1;cases v1;exact⟨_,vs2,file,tf,Q,tg,inF,R,tt,K' _ _ x,v2,v3⟩
 have Y:X.b.map (j9 h0)=(X.b.map λg=>(j9 h0 g).getD 0).map some:=by rw[CH];refine List.map_congr_left λg hg=>?_;obtain⟨P,e,_⟩:=one g hg;simp[e]
 refine⟨X.b.map λg=>(j9 h0 g).getD 0,?_,by rw[U,Ac],λi g hi=>?_⟩
 . rw[Y]at nd
   exact(List.pairwise_map.mp nd).imp λhne z=>hne (by rw[z])
 . rw[U]at hi
   obtain⟨P,e,r⟩:=one g (A4 hi);refine⟨P,?_,r⟩;rw[AE,hi];simp[e]
end
def dB{N:Type}(D:List (Str × Stmt))(glL:List (Str × Val))(X:XT)(P:Heap->N)(O:N)(K:KF)(h:Heap):Prop:=K.In h/\(∀p∈D,tP K p.1 p.2)/\(∀p∈glL,gT K p.1 p.2)/\(∀x∈wR,nsIn K AS x=some none)/\∃h0,K=zd h0/\mR X h0=true/\P h0=O
def ZR(e:(bw D gl s,(mR X s.heap,og s.heap))=(Zn D,(true,vg))):∃K,dB D (gl.map λp=>(p.1,gv p.2)) X og vg K s.heap:=by obtain⟨e0,N⟩:=Gn e;obtain⟨N,P⟩:=Gn N;obtain⟨e1,e2⟩:=Gn e0;obtain⟨e2,e3⟩:=EU.mp e2;exact⟨zd s.heap,tx,ir e1,λp hp=>(by obtain⟨O,h1,rfl⟩:=A7.mp hp;exact SO (AB.mp e2 O h1)),λx hx=>X5 (AB.mp e3 x hx),s.heap,rfl,N,P⟩
def W4{og:Heap->γ}{vg}{l:PySem.W.OpenLaw}(P:Bool->Stmt)
 (kH:l.wellSaid=true) (left:PySem.W.LeftO l.row.prog q [] (λs=>Fe l.row.records s) (λz=>(bw D gl z,(mR X z.heap,og z.heap))) (λ_=>(Zn D,(true,vg))) N) (hgl:glL=gl.map λp=>(p.1,gv p.2))
 (cn:PySem.W.defOf q l.row.name=some (d,[])) (hp:l.row.prog.theDef l.row.name=some (d.params,d.body,d.scope)) (hk:PySem.W.kwWritten? d.params.kwonlyargs d.params.kw_defaults=some [])
 (hwr:(!l.row.writes||l.row.records.isEmpty)=true) (ok:(PySem.W.chainsOk q&&PySem.W.opensWell l.row.prog&&(PySem.W.frees l.row.toRowW&&l.row.within.isEmpty))=true) (hb:l.row.prog.bare) (hw:l.row.toRowW.promised)
 (hn:l.most=some 63) (hdf:d.params.defaults=[]) (hr:L2.xH n callerA) (hF:(kQ fnL glL tb xc md).e d.name 0=some F) (hx:F.b=[x]) (hc:nR fnL D=true)
 (htb:tb=X.b) (Z:fnL.all (λp=>!decide (("!":Str)∈p.2.N)||decide (p.1.1∈tb))=true) (hkx:D.lookup kx=some kst) (hK:kZ kst X.a ws pre) (hS:∀b,md b=true->D.lookup (L2.yJ b)=some (P b)/\nY b kx (P b)) (hkd:(kx == ("__debug__":Str))=false)
 (hws:wsB X.a ws pre=true) (hxc:xcB X.c X.a ws pre xc=true) (ku:((("HueError":Str))::X.c).all (λc=>decide (c="TooGreat")||fe q c)=true)
 (hgf:cg (kQ fnL glL tb xc md)=true->∃st,D.lookup ("_law_great":Str)=some st/\iQ st) (hgr:(xc.lookup ("TooGreat":Str)).isSome=true->∀loose U mg mb h h0,C1 q loose U mg mb h->(zd h0).In h->og h0=vg->∀base,(zd h0).In base->tS (zd h0) mg base) (ky:X.b.all (λg=>(EX q).any (λd=>decide (d.name=g))&&(D.lookup g).isSome)=true)
 (HL:∀ns:List Int,ns.length<=63->∃s',zC (kQ fnL glL tb xc md) n d.name 0 [.r ns] (tb.map .d)=.e (.e true) s'):l.Holds:=by
 refine PySem.W.holds_law kH λQ=>PySem.W.holds_open (q:=q) (loose:=[]) (Xt:=λs=>Fe l.row.records s) (XP:=λ_ _=>True) (YP:=λ_ h=>∃K,dB D glL X og vg K h) left (λw s e=>hgl▸ZR e)
  (λw h h' ⟨K,a,b⟩ k=>⟨K,a.keeps k,b⟩) (λ_ _=>trivial) (λ_ _ _ _ _=>trivial) cn hp hk (λs e=>PySem.W.recFacts_of e) hwr Q ok hb hw ?_
 rintro w O R mg mb G ⟨K,Y⟩;obtain⟨Y1,Y2,Y3,Y4,h0,rfl,ob,obg⟩:=id Y;refine walk (l:=l) (q:=q) (loose:=[]) (XP:=λ_ _=>True) (YP:=λ_ h=>dB D glL X og vg (zd h0) h) (d:=d) (K:=zd h0) (T:=kQ fnL glL tb xc md) hn hdf hr (λ_ _ y=>y.1) hF hx (λw O mg mb h G KX=>⟨?_,?_⟩) HL w O R mg mb G Y
 . exact TY KX G.T.g Y2 Y3 Y4 hc (λ_=>Z) λ_=>Rx P G.T KX ob (Y2 _ (yw hkx)) (λb hbm=>⟨Y2 _ (yw (hS b hbm).1),(hS b hbm).2⟩) hK Y4 hkd hws hxc ku (λhg=>by obtain⟨st,e,S⟩:=hgf hg;exact kr G.T KX (Y2 _ (yw e)) S) λhg=>hgr hg _ _ _ _ _ _ G.T KX obg
 . exact tab_of G.T KX ob htb Y2 ky
end M
end
section
namespace P06
open PySem M
noncomputable def yD:Fn:=F.yD
noncomputable def yj:Fn:=F.yj
noncomputable def yC:Fn:=F06.yC
noncomputable def yq:Fn:=F06.yq
noncomputable def yM:Fn:=F.yM
noncomputable def zf:Fn:=F06.zf
noncomputable def yr:Fn:=F08.yr
noncomputable def yt:Fn:=F.yt
noncomputable def xf:Fn:=F14.xf
noncomputable def yV:Fn:=F14.yV
noncomputable def yZ:Fn:=F14.yZ
noncomputable def xh:Fn:=F.xh
noncomputable def xj:Fn:=F.xj
noncomputable def xJ:Fn:=F06.xJ
noncomputable def oP:Fn:=⟨["_law_script","_law_k","_law_pen_here","_law_order_here","_law_first","_law_step","_law_one","_law_other","_law_strip_here","_law_spots","_law_due","_law_some","_law_more","_law_many","_law_forty","!"],["_law_script"],false,(.e (.l (.a 1) (.d (.k .k false (.a (.g (.c 1)) (.a (.k .l false (.a (.k .a false (.a (.e 0) .c)) (.a (.g (.c 5)) .c))) .c)))) (.e (.g 2 (.h "_law_pen" 1 (.a (.h "_law_cell_at" 0 (.a (.e 0) (.a (.e 1) .c))) .c))) (.e (.n [3,4,5] (.a (.h "_law_order" 0 (.a (.e 2) .c)) (.a (.h "_law_draw" 0 (.a (.e 2) (.a (.g (.c 41)) .c))) (.a (.j false .a (.g (.c 1)) (.h "_law_draw" 0 (.a (.e 2) (.a (.s (.y false (.a (.g (.c 40)) (.a (.g (.c 4)) .c))) (.h "_law_draw" 0 (.a (.e 2) (.a (.g (.c 2)) .c)))) .c)))) .c)))) (.e (.n [6,7] (.a (.h "_law_strip" 0 (.a (.e 2) (.a (.g (.c 40)) (.a (.g (.c 4)) .c)))) (.a (.h "_law_strip" 0 (.a (.e 2) (.a (.g (.c 40)) (.a (.g (.c 4)) .c)))) .c))) (.e (.h (.d (.a (.h "_law_refused_right" 0 (.a (.e 2) (.a (.e 6) (.a (.e 3) .c)))))) (.e (.f (.g (.e false))) .f) .f) (.e (.l (.a 8) (.f (.r (.a (.e 6) (.a (.e 7) .c)))) (.e (.g 9 (.p false ["_law_place","_law_first","_law_step"] [none,some 4,some 5] (.e 0) (.a 0) (.d (.k .a false (.a (.e 8) .c))) (.b (.b (.a (.l .i (.e 0) (.e 1))) (.b (.a (.l .a (.j false .b (.j false .d (.e 0) (.e 1)) (.e 2)) (.g (.c 0)))) .a)) .a))) (.e (.g 10 (.y false (.a (.k .b false (.a (.p false ["_law_place","_law_strip_here"] [none,some 8] (.s (.e 1) (.j false .d (.j false .d (.k .a false (.a (.e 1) .c)) (.g (.c 1))) (.e 0))) (.a 0) (.d (.k .a false (.a (.e 8) .c))) .a) .c)) .c))) (.e (.g 10 (.j false .a (.e 10) (.y false (.a (.k .b false (.a (.p false ["_law_hue","_law_order_here"] [none,some 3] (.s (.e 1) (.e 0)) (.a 0) (.f (.e 8)) .a) .c)) (.a (.k .b false (.a (.p false ["_law_place","_law_strip_here"] [none,some 8] (.s (.e 1) (.e 0)) (.a 0) (.f (.e 9)) .a) .c)) .c))))) (.e (.h (.a (.l .b (.k .g false (.a (.y false (.a (.h "backward" 0 (.a (.e 8) .c)) (.a (.h "exchanged" 0 (.a (.e 8) (.a (.e 3) .c))) (.a (.h "thinned" 0 (.a (.e 8) (.a (.e 4) (.a (.e 5) .c)))) .c)))) .c)) (.k .g false (.a (.e 10) .c)))) (.e (.f (.g (.e false))) .f) .f) .f))))) (.e (.l (.b [11,12]) (.f (.y false (.a (.r (.a (.e 6) (.a (.e 7) .c))) (.a (.r (.a (.e 6) (.a (.I false (.e 7) .b (.a (.j false .d (.g (.c 40)) (.k .a false (.a (.e 6) .c)))) .b) .c))) (.a (.r (.a (.e 6) (.a (.I false (.j false .a (.e 6) (.e 7)) .b (.a (.j false .d (.g (.c 41)) (.k .a false (.a (.e 6) .c)))) .b) .c))) .c))))) (.e (.g 13 (.j false .a (.k .a false (.a (.e 11) .c)) (.k .a false (.a (.e 12) .c)))) (.e (.h (.b (.a (.l .c (.e 13) (.g (.c 40)))) (.b (.a (.l .b (.h "joined" 100 (.a (.e 11) (.a (.e 12) .c))) (.r (.a (.g (.g "great")) (.a (.e 13) (.a (.g (.c 40)) .c)))))) .a)) (.e (.f (.g (.e false))) .f) .f) (.e (.h (.b (.a (.l .f (.e 13) (.g (.c 40)))) (.b (.a (.l .b (.k .g false (.a (.h "joined" 0 (.a (.e 11) (.a (.e 12) .c))) .c)) (.k .g false (.a (.j false .a (.e 11) (.e 12)) .c)))) .a)) (.e (.f (.g (.e false))) .f) .f) .f)))) .f))))))) (.e (.g 14 (.h "joined" 0 (.a (.j false .c (.r (.a (.g (.c 0)) .c)) (.g (.c 20))) (.a (.j false .a (.j false .c (.r (.a (.g (.c 0)) .c)) (.g (.c 19))) (.r (.a (.g (.c 1)) .c))) .c)))) (.e (.h (.f (.a (.l .b (.k .a false (.a (.e 14) .c)) (.g (.c 40)))) (.b (.a (.l .b (.h "thinned" 0 (.a (.e 14) (.a (.g (.c 39)) (.a (.g (.c 1)) .c)))) (.r (.a (.g (.c 1)) .c)))) (.b (.a (.l .b (.h "thinned" 0 (.a (.e 14) (.a (.g (.c 0)) (.a (.g (.c 39)) .c)))) (.r (.a (.g (.c 0)) (.a (.g (.c 1)) .c))))) .a))) (.e (.f (.g (.e false))) .f) .f) (.e (.f (.w (.l .a (.h "joined" 0 (.a (.r .c) (.a (.r .c) .c))) (.r .c)) (.a (.l .a (.h "thinned" 0 (.a (.r (.a (.g (.c 1)) (.a (.g (.c 2)) (.a (.g (.c 3)) .c)))) (.a (.g (.c 40)) (.a (.g (.c 40)) .c)))) (.r .c)) .c))) .f))))⟩
noncomputable def yN:Fn:=F14.yN
noncomputable def yW:Fn:=F14.yW
noncomputable def yu:Fn:=F.yu
noncomputable def zt:Fn:=F.zt
noncomputable def yf:Fn:=F14.yf
def fnL:List ((Str × Nat) × Fn):=((("_law_cell_at":Str),(0:Nat)),yD)::((("_law_draw":Str),(0:Nat)),yj)::((("_law_no_orders":Str),(0:Nat)),yC)::((("_law_order":Str),(0:Nat)),yq)::((("_law_pen":Str),(1:Nat)),yM)::((("_law_refused_right":Str),(0:Nat)),zf)::((("_law_strip":Str),(0:Nat)),yr)::((("are_wholes":Str),(0:Nat)),yt)::((("backward":Str),(0:Nat)),xf)::((("exchanged":Str),(0:Nat)),yV)::((("is_order":Str),(0:Nat)),yZ)::((("is_strip":Str),(0:Nat)),xh)::((("is_whole":Str),(0:Nat)),xj)::((("joined":Str),(0:Nat)),xJ)::((("law":Str),(0:Nat)),oP)::((("need_first":Str),(0:Nat)),yN)::((("need_step":Str),(0:Nat)),yW)::((("need_strip":Str),(0:Nat)),yu)::((("need_whole":Str),(0:Nat)),zt)::((("thinned":Str),(0:Nat)),yf)::[]
noncomputable def glL:List (Str × Val):=[("MOST_PLACES",.c 40),("HUES",.o [0,1,2,3])]
noncomputable def tb:List Str:=["_law_refused_right","law"]
noncomputable def xc:List (Str × Str):=[("NoStrip","strip"),("NoNumber","number"),("NoHue","hue"),("TooGreat","great")]
noncomputable def md:Bool->Bool:=λb=>!b
def T:Tbl:=kQ fnL glL tb xc md
set_option maxHeartbeats 0 in
def TQ:nR fnL D=true:=by decide +kernel
def pF:zR .b (.g x) (.g x) s=.e (.e false) s:=by simp[zR]
def cQ:zR .a (.g x) (.g x) s=.e (.e true) s:=by simp[zR]
def SX{k:Nat}(h:k<vs.length):∃v,v∈vs/\∀s,xm (.h vs) (.c k) s=.e v s:=⟨vs[k],BY h,λs=>mF (Ab h)⟩
def jw{T}(h:RzG (zC T n) (za T n) f vs s "TooGreat" as)(h1:T.e f 100=none)(O:T.c false=true)(N:zr T.f s=true)(x:T.d.lookup ("TooGreat":Str)=some "great"):zC T (n+1) f 100 vs s=.e (.f (.g "great"::as)) s:=by
 obtain⟨a,b⟩:=h;have hA:uD false "great" as=.f (.g "great"::as):=by unfold uD;rw[if_neg Ak,if_pos rfl]
 simp only[zC,h1,a,b,O,N,x,sS];show Out.e (uD false "great" as) s=_;rw[hA]
def UC:zR .b (.f [.g "great",.c a,.c b]) (.f [.g "great",.c a,.c b]) s=.e (.e false) s:=by
 have h:uz (.f [.g "great",.c a,.c b]) (.f [.g "great",.c a,.c b])=some true:=by
  unfold uz;have e1:(Val.f [.g "great",.c a,.c b]).isD=true:=by rw[Val.isD,u6,u6,u6,u6,Val.isD,Val.isD,Val.isD];decide +kernel
  have e2:(Val.f [.g "great",.c a,.c b]).d=.tuple [.str "great",.int a,.int b]:=by rw[Val.d,ds,ds,ds,ds,Val.d,Val.d,Val.d]
  rw[e1,e2,show decide ((PyData.tuple [.str "great",.int a,.int b]).depth<=60)=true from rfl];show some (CQ (.tuple [.str "great",.int a,.int b]) (.tuple [.str "great",.int a,.int b]))=some true;congr 1;simp[CQ,DH]
 show (match uz (zq s (.f [.g "great",.c a,.c b])) (zq s (.f [.g "great",.c a,.c b])) with|some b=>Out.e (Val.e !b) s|none=>.d)=_
 rw[show zq s (.f [.g "great",.c a,.c b])=.f [.g "great",.c a,.c b] from rfl,h];rfl
def m8(h:zr tb s=true)(hp:tb.length<=p)(t:yO s p s'):zr tb s'=true:=by obtain⟨a,b,rfl,_⟩:=t;exact Xj h hp
def UD(h:uz (.h vs) (.h ws)=some true):zR .b (.h vs) (.h ws) s=.e (.e false) s:=by simp only[zR,zq,yg,h];rfl
def X7{t:List Int}{a:Nat}:uy t none (some (a:Int))=t.take a:=by unfold uy;rw[HT.mj];show (t.drop 0).take (min a t.length-0)=_;rw[Dp,FX,<-List.take_eq_take_min]
def pX{T}(g:T.b "MOST_PLACES"=some (.c 40))(c:uo Φ)(h1:0<=i)(x:i<=40):run T Φ F14.yN [.c i] s=.e .j s:=by rw[post_eq];simp[F14.yN,EVl,zi,zh,g,c i 0 40 s h1 x]
def oF{T}(g:T.b "MOST_PLACES"=some (.c 40))(c:uo Φ)(h1:1<=i)(x:i<=40):run T Φ F14.yW [.c i] s=.e .j s:=by rw[post_eq];simp[F14.yW,EVl,zi,zh,g,c i 1 40 s h1 x]
def jt{T}(g:T.b "HUES"=some (.o [0,1,2,3]))(c:qD Φ)(h:Od4 hs):run T Φ F14.yZ [tpI hs] s=.e (.e true) s:=by
 have c1:=c (hs.map .c) 0 3 s uV;rw[ur h.b]at c1;have O:xm (.o [0,1,2,3]) (.c 0) s=.e (.c 0) s:=rfl;have N:xm (.o [0,1,2,3]) (.c (-1)) s=.e (.c 3) s:=rfl;have x:blt .c false [tpI hs] s=.e (.h (([0,1,2,3]:List Int).map .c)) s:=by
  show (match M.intsOf (hs.map .c) with|some ns=>if ns.length<64 then newList false ((sortI ns).map .c) s else .d|dS=>.d)=_
  rw[mB];show (if hs.length<64 then newList false ((sortI hs).map .c) s else .d)=_
  rw[if_pos (by rw[h.a];decide),h.c];rfl
 rw[post_eq,F14.yZ,wW];refine⟨rfl,?_⟩;show (zU Φ T.b [some (tpI hs)] _ s).post _;exact xG (lE (yH (zA (zB rfl) (zA qC zE)) mD) (x_call (zA (zB rfl) (zA (wF (uO g) zI O) (zA (wF (uO g) (rm zI) N) zE))) c1) (ye (yH (zA (yH (zA (zB rfl) zE) x) zE) rfl) (uO g) (show zR .a (tpI [0,1,2,3]) (.o [0,1,2,3]) s=.e (.e true) s from rfl))) (x9 xP)
def bz:List Val:=[.c 41,.c (-1),.e true,.e false,.j,.g "1",.c dO]
def b9:∀v∈bz,kindOf v≠none/\zm 0 40 v=false/\zm 1 40 v=false:=λv x=>by
 simp only[bz,Ap,Bo,or_false]at x;rcases x with rfl|rfl|rfl|rfl|rfl|rfl|rfl<;>exact⟨nofun,rfl,rfl⟩
structure eZ(Φ:Calls):Prop where
 ex:∀(ns:List Int) (v:Val) (s:Sto),zr tb s=true->zS ns->qT v->Φ "exchanged" 100 [tpI ns,v] s=.e (.g "hue") s
 t1:∀(ns:List Int) (v w:Val) (s:Sto),zr tb s=true->zS ns->kindOf v≠none->zm 0 40 v=false->Φ "thinned" 100 [tpI ns,v,w] s=.e (.g "number") s
 t2:∀(ns:List Int) (f:Nat) (w:Val) (s:Sto),zr tb s=true->zS ns->f<=40->kindOf w≠none->zm 1 40 w=false->Φ "thinned" 100 [tpI ns,.c f,w] s=.e (.g "number") s
 jn:∀(a b:List Int) (s:Sto),zr tb s=true->zS a->zS b->40<a.length+b.length->Φ "joined" 100 [tpI a,tpI b] s=.e (.f [.g "great",.c ((a.length:Int)+(b.length:Int)),.c 40]) s
section
variable {Φ:Calls}{s:Sto}
def CRR(Φ:Calls):Prop:=∀(p:Nat) (ns:List Int) (os:List Nat) (s:Sto),zr tb s=true->tb.length<=p->xK s p->zS ns->os.Perm (Av 4)->(Φ "_law_refused_right" 0 [.m p,tpI ns,tpI (zT os)] s).post λv s'=>v=.e true/\yO s p s'
def U1(cN:eW Φ)(c:eZ Φ){os}(Z:zr tb s=true)(S:tb.length<=p)(hp:xK s p)(P:zS ns)(Y:os.Perm (Av 4)):(run T Φ F06.zf [.m p,tpI ns,tpI (zT os)] s).post λv s'=>v=.e true/\yO s p s':=by
 rw[F06.zf,wW];refine⟨rfl,?_⟩;show (zU Φ T.b [some (.m p),some (tpI ns),some (tpI (zT os)),none,none,none] _ s).post _;obtain⟨_,s1,U,vs,rfl,Q,t⟩:=cN p os s hp Y;have N:=m8 Z S t;refine yA.mpr (pP (λrest e s'=>s'=s1/\(∃o,e=[some (.m p),some (tpI ns),some (tpI (zT os)),o,none,none])/\∀x∈rest,qT x) vs (s1:=s1) (v7 (x_call (zA (zB rfl) (zA (zB rfl) zE)) U) rfl) ⟨rfl,⟨_,rfl⟩,Q⟩ ?_ ?_)
 . rintro x rest e s' ⟨rfl,⟨o,rfl⟩,O⟩
   refine⟨_,rfl,?_⟩;show (zU Φ T.b [some (.m p),some (tpI ns),some (tpI (zT os)),some x,none,none] _ s').post _;exact vi (yv (ye (x_call (zA (zB rfl) (zA (zB rfl) zE)) (c.ex ns x s' N P (O x (.head _)))) zI pF) zu) (sR ⟨rfl,⟨_,rfl⟩,λy R=>O y (.tail _ R)⟩)
 rintro e s' ⟨rfl,⟨o,rfl⟩,_⟩;refine yA.mpr (pP (λrest e s2=>s2=s'/\(∃o,e=[some (.m p),some (tpI ns),some (tpI (zT os)),o,none,none])/\∀x∈rest,x∈bz) bz (s1:=s') (v7 (yy (vs:=bz) (zA zI (zA (rm zI) (zA zI (zA zI (zA zI (zA zI (zA (zk zI zI dP) zE))))))) (show 7<=zZ by decide)) rfl) ⟨rfl,⟨_,rfl⟩,λx hx=>hx⟩ ?_ ?_)
 . rintro x rest e s2 ⟨rfl,⟨o,rfl⟩,O⟩
   obtain⟨h1,W,h3⟩:=b9 x (O x (.head _));refine⟨_,rfl,?_⟩;show (zU Φ T.b [some (.m p),some (tpI ns),some (tpI (zT os)),some x,none,none] _ s2).post _;refine XU (sR ⟨rfl,_,_,.h [.g "number",.g "number",.g "number"],rfl,zA (x_call (zA (zB rfl) (zA (zB rfl) (zA zI zE))) (c.t1 ns x _ s2 N P h1 W)) (zA (x_call (zA (zB rfl) (zA (zB rfl) (zA (zB rfl) zE))) (c.t1 ns x _ s2 N P h1 W)) (zA (x_call (zA (zB rfl) (zA zI (zA (zB rfl) zE))) (c.t2 ns 40 x s2 N P ⋯ h1 h3)) zE)),zk (rl (zA zI zE) (show 1<=zZ by decide)) zI rfl,UD (by decide +kernel),iA,sR ⟨rfl,⟨_,rfl⟩,λy R=>O y (.tail _ R)⟩⟩)
 rintro e s2 ⟨rfl,⟨o,rfl⟩,_⟩;refine xG (ye (x_call (zA (zB rfl) (zA zI (zA zI zE))) (c.t2 ns 0 (.c 0) s2 N P ⋯ nofun rfl)) zI cQ) ?_
 show (yF false s (.e true) s2).post _;rw[vM t xP];exact zD.mpr ⟨rfl,t⟩
structure Cs(Φ:Calls):Prop where
 f:Xv Φ
 i:Tj Φ
 b:lG Φ
 h:iM Φ
 d:iN Φ
 rr:CRR Φ
 e:eU Φ
 g:eV Φ
 a:ed Φ
 c:Xw Φ
 kH:eZ Φ
abbrev en(ns:List Int)(o1 o2 o3 Z Y W U S R Q P O N x:Option Val):M.Env:=[some (.r ns),o1,o2,o3,Z,Y,W,U,S,R,Q,P,O,N,x,none]
abbrev ef(ns:List Int)(k p:Nat)(os:List Nat)(f d:Nat)(as bs:List Int)(S R Q P O N x:Option Val):M.Env:=en ns (some (.c k)) (some (.m p)) (some (tpI (zT os))) (some (.c f)) (some (.c d)) (some (tpI as)) (some (tpI bs)) S R Q P O N x
def ZG{ns:List Int}:((Av ns.length).map λi=>ns.getD (ns.length-1-i) 0)=ns.reverse:=by
 refine Eb λi=>?_;by_cases hi:i<ns.length
 . rw[AE,C6 hi,List.getElem?_reverse hi]
   show some (ns.getD (ns.length-1-i) 0)=_;rw[Am,Ab ⋯];rfl
 . rw[Bb (by rw[Ac,Bi];omega),Bb (by rw[C7];omega)]
def XZ(h:zS ns)k:zS (ns.take k):=⟨by rw[BX];have:=h.1;omega,λx hx=>h.2 x (Dz hx)⟩
def Wt{os}(p:os.Perm (Av 4))(N:zS ns):zS (ns.map (apO os)):=⟨by rw[Ac];exact N.1,λx hx=>by obtain⟨i,hi,rfl⟩:=A7.mp hx;obtain⟨a,h,rfl,P,h1,O,e⟩:=dF (bx p) (N.2 i hi).1 (N.2 i hi).2;rw[e];omega⟩
def Xs{f d:Nat}(O:ns.length<=40)(hd:1<=d)(P:env[8]?=some (some (tpI ns)))(h0:zh [none,some 4,some 5] env=[none,some (.c f),some (.c d)]):evE Φ T.b env (.p false ["_law_place","_law_first","_law_step"] [none,some 4,some 5] (.e 0) (.a 0) (.d (.k .a false (.a (.e 8) .c))) (.b (.b (.a (.l .i (.e 0) (.e 1))) (.b (.a (.l .a (.j false .b (.j false .d (.e 0) (.e 1)) (.e 2)) (.g (.c 0)))) .a)) .a)) s=.e (.h (((Av ns.length).filter (λp=>decide (f<=p)&&decide ((p-f)%d=0))).map λ(k:Nat)=>Val.c k)) s:=by
 rw[post_eq];refine uZ (λe=>∃o,e=[o,some (.c f),some (.c d)]) (SK λp=>decide (f<=p)&&decide ((p-f)%d=0)) (xq 0 ns.length) (s1:=s) (ox (wG P) (As O (by decide))) ⟨none,h0⟩ ?_ ?_
 . rintro x hx e ⟨o,rfl⟩
   obtain⟨k,hk,rfl⟩:=mK hx;rw[show (0:Int)+(k:Int)=(k:Int) by omega]
   refine⟨_,rfl,⟨_,rfl⟩,?_⟩;show (wL Φ T.b [some (.c (k:Int)),some (.c f),some (.c d)] _ s).post _;have e1:(decide ((f:Int)<=(k:Int))&&decide (((k:Int)-(f:Int))%(d:Int)=0))=(decide (f<=k)&&decide ((k-f)%d=0)):=by
    by_cases h:f<=k
    . rw[decide_eq_true (show (f:Int)<=(k:Int) by omega),decide_eq_true h,GO,GO]
      refine decide_eq_decide.mpr ?_;rw[show (k:Int)-(f:Int)=((k-f:Nat):Int) by omega,<-Ep]
      omega
    . rw[decide_eq_false (show ¬(f:Int)<=(k:Int) by omega),decide_eq_false h];rfl
   have N:evT Φ T.b [some (.c (k:Int)),some (.c f),some (.c d)] (.b (.a (.l .i (.e 0) (.e 1))) (.b (.a (.l .a (.j false .b (.j false .d (.e 0) (.e 1)) (.e 2)) (.g (.c 0)))) .a)) s=.e (decide ((f:Int)<=(k:Int))&&decide (((k:Int)-(f:Int))%(d:Int)=0)) s:=TM (yv (ye (zB rfl) (zB rfl) ge_int) zu) (yv (ye (zk (zk (zB rfl) (zB rfl) gY) (zB rfl) (bmod ⋯)) zI eq_int) zu)
   rw[e1]at N;rw[iB N];refine zD.mpr ⟨rfl,?_⟩;rw[show SK (λp=>decide (f<=p)&&decide ((p-f)%d=0)) (.c (k:Int))=if (decide (f<=k)&&decide ((k-f)%d=0)) then [.c (k:Int)] else [] from by show (if (decide (f<=(k:Int).toNat)&&decide (((k:Int).toNat-f)%d=0))=true then [Val.c (k:Int)] else [])=_;rw[Bv]]
   cases (decide (f<=k)&&decide ((k-f)%d=0)) with
   |false=>rfl
   |true=>
    show (evE Φ T.b [some (.c (k:Int)),some (.c f),some (.c d)] (.e 0) s).post _;rw[zB rfl];exact zD.mpr ⟨rfl,rfl⟩
 . rw[g6 (f:=λp=>decide (f<=p)&&decide ((p-f)%d=0)) (G:=λ(k:Nat)=>Val.c k) λk hk=>by show (if (decide (f<=(k:Int).toNat)&&decide (((k:Int).toNat-f)%d=0))=true then [Val.c (k:Int)] else [])=_;rw[Bv]]
   exact zD.mpr ⟨rfl,rfl⟩
def x_at{ls:List Nat}(Q:env[9]?=some (some (.h (ls.map λ(k:Nat)=>Val.c k))))(h0:zh [none,some i] env=[none,some (tpI ns)])(P:∀p∈ls,p<ns.length):evE Φ T.b env (.p false N [none,some i] (.s (.e 1) (.e 0)) (.a 0) (.f (.e 9)) .a) s=.e (.h ((ls.map λp=>ns.getD p 0).map .c)) s:=by
 rw[post_eq];refine uZ (λe=>∃o,e=[o,some (tpI ns)]) (λx=>match x with|.c j=>[.c (ns.getD j.toNat 0)]|_=>[]) (ls.map λ(k:Nat)=>Val.c k) (s1:=s) (v7 (zB Q) rfl) ⟨none,h0⟩ ?_ ?_
 . rintro x hx e ⟨o,rfl⟩
   obtain⟨p,hp,rfl⟩:=A7.mp hx;have O:=P p hp;refine⟨_,rfl,⟨_,rfl⟩,wd.mpr ⟨rfl,?_⟩⟩;rw[if_pos rfl];show (evE Φ T.b [some (.c (p:Int)),some (tpI ns)] _ s).post _;rw[wF (zB rfl) (zB rfl) (qz (Ab O))];refine zD.mpr ⟨rfl,?_⟩;show [Val.c (ns.getD (p:Int).toNat 0)]=_;rw[Bv,Am,Ab O];rfl
 . have e:(ls.map λ(k:Nat)=>Val.c k).flatMap (λx=>match x with|.c j=>[Val.c (ns.getD j.toNat 0)]|_=>[])=(ls.map λp=>ns.getD p 0).map .c:=by
    rw[DA,CH];have:(λ(k:Nat)=>(match Val.c (k:Int) with|.c j=>[Val.c (ns.getD j.toNat 0)]|_=>[]))=λk=>[(Val.c∘λp=>ns.getD p 0) k]:=by funext k;show [Val.c (ns.getD (k:Int).toNat 0)]=_;rw[Bv];rfl
    rw[this,om]
   rw[e];exact zD.mpr ⟨rfl,rfl⟩
def QJ{os}(p:os.Perm (Av 4))(P:zS ns)(Q:env[8]?=some (some (tpI ns)))(h0:zh [none,some 3] env=[none,some (tpI (zT os))]):evE Φ T.b env (.p false N [none,some 3] (.s (.e 1) (.e 0)) (.a 0) (.f (.e 8)) .a) s=.e (.h ((ns.map (apO os)).map .c)) s:=by
 have O:=bx p;rw[post_eq];refine uZ (λe=>∃o,e=[o,some (tpI (zT os))]) (λx=>match x with|.c i=>[.c (apO os i)]|_=>[]) (ns.map .c) (s1:=s) (v7 (zB Q) rfl) ⟨none,h0⟩ ?_ ?_
 . rintro x hx e ⟨o,rfl⟩
   obtain⟨i,hi,rfl⟩:=A7.mp hx;refine⟨_,rfl,⟨_,rfl⟩,wd.mpr ⟨rfl,?_⟩⟩;rw[if_pos rfl];obtain⟨a,h,rfl,S,h1,R,e⟩:=dF O (P.2 i hi).1 (P.2 i hi).2;have hx:xm (tpI (zT os)) (.c (a:Int)) s=.e (.c (h:Int)) s:=qz (by rw[AE,h1];rfl)
   show (evE Φ T.b [some (.c (a:Int)),some (tpI (zT os))] (.s (.e 1) (.e 0)) s).post _;rw[wF (zB rfl) (zB rfl) hx];exact zD.mpr ⟨rfl,by show [Val.c (apO os (a:Int))]=_;rw[e]⟩
 . have e:(ns.map Val.c).flatMap (λx=>match x with|.c i=>[Val.c (apO os i)]|_=>[])=(ns.map (apO os)).map .c:=by rw[DA,CH];exact om _ _
   rw[e];exact zD.mpr ⟨rfl,rfl⟩
def gQ{ns ts:List Int}{f d:Nat}(x:ns.length<41)(hd:1<=d)(e:((Av ns.length).filter (λp=>decide (f<=p)&&decide ((p-f)%d=0))).map (λp=>ns.getD p 0)=ts):∀s,wA false (tpI ns) (some (f:Int)) none (some (d:Int)) s=.e (tpI ts) s:=by obtain⟨us,h1,O,N⟩:=Zf (f:=f) x hd;rw[ZV hd h1]at e;rw[<-e];exact N
def bc(c:Cs Φ)ns:(run T Φ oP [.r ns] (tb.map .d)).post λv _=>v=.e true:=by
 have L3:3<=zZ:=by decide
 have L2':2<=zZ:=by decide
 have L1:1<=zZ:=by decide
 rw[oP,wW];refine⟨rfl,?_⟩;show (zU Φ T.b (en ns none none none none none none none none none none none none none none) _ (tb.map .d)).post _;refine yA.mpr (pP (λrest e s'=>(∃o1 o2 o3 o4 o5 o6 o7 o8 Z O U R P Q,e=en ns o1 o2 o3 o4 o5 o6 o7 o8 Z O U R P Q)/\zr tb s'=true/\∀x∈rest,∃k:Nat,x=.c k) (xq 0 (max 1 (min ns.length 5))) (s1:=tb.map .d) (cR (K:=5) rfl ⋯) ⟨⟨_,_,_,_,_,_,_,_,_,_,_,_,_,_,rfl⟩,wN.mpr ⟨[],by rw[A9]⟩,?_⟩ ?_ ?_)
 . intro x hx
   obtain⟨k,_,rfl⟩:=mK hx;exact⟨k,by congr 1;omega⟩
 . rintro x rest e s' ⟨⟨o1,o2,o3,o4,o5,o6,o7,o8,Z,O,U,R,P,Q,rfl⟩,hZ,hr⟩
   obtain⟨k,rfl⟩:=hr x (.head _);have hr':∀x∈rest,∃k:Nat,x=.c k:=λx hx=>hr x (.tail _ hx);refine⟨_,rfl,?_⟩;obtain⟨cv,hcell⟩:=c.f ns k s';obtain⟨pa,pb,hpen,hb⟩:=c.i cv s';show (zU Φ T.b (en ns (some (.c k)) o2 o3 o4 o5 o6 o7 o8 Z O U R P Q) _ s').post _;refine vA (x_call (zA (x_call (zA (zB rfl) (zA (zB rfl) zE)) hcell) zE) hpen) ?_;have hP:xK (s'++[sL pa pb]) s'.length:=⟨pa,pb,by simp,hb⟩
   have hZ1:zr tb (s'++[sL pa pb])=true:=Xh hZ;have hpl:tb.length<=s'.length:=Xi hZ;show (zU Φ T.b (en ns (some (.c k)) (some (.m s'.length)) o3 o4 o5 o6 o7 o8 Z O U R P Q) _ (s'++[sL pa pb])).post _;generalize s'++[sL pa pb]=s1 at hP hZ1;generalize s'.length=p at hP hpl;obtain⟨_,s2,hd2,os,rfl,hos,t2⟩:=c.h p s1 hP;have hP2:=t2.at_ hP.lt;obtain⟨_,s3,hd3,f,rfl,hf,t3⟩:=c.b p 41 s2 hP2 ⋯ ⋯
   have hP3:=t3.at_ hP2.lt;obtain⟨_,s4,hd4,a4,rfl,ha4,t4⟩:=c.b p 2 s3 hP3 ⋯ ⋯
   have hP4:=t4.at_ hP3.lt;obtain⟨hv,hvm,hix⟩:=SX (vs:=[.c 40,.c 4]) (k:=a4) (show a4<2 by omega)
   obtain⟨h,rfl,h1,h40⟩:∃h:Int,hv=.c h/\0<h/\h<=40:=by
    rcases Ap.mp hvm with rfl|hvm
    . exact⟨40,rfl,by decide,by decide⟩
    . rw[AU.mp hvm];exact⟨4,rfl,by decide,by decide⟩
   obtain⟨_,s5,hd5,a5,rfl,ha5,t5⟩:=c.b p h s4 hP4 h1 ⋯
   have hP5:=t5.at_ hP4.lt;obtain⟨d,hd,hd1,hd40⟩:∃n:Nat,(1:Int)+(a5:Int)=(n:Int)/\1<=n/\n<=40:=⟨1+a5,⋯,⋯,⋯⟩
   have hf40:f<=40:=by omega
   refine yA.mpr (l5.mpr (vS (x_call (zA (zB rfl) zE) hd2) (vS (x_call (zA (zB rfl) (zA zI zE)) hd3) (vS (zk zI (x_call (zA (zB rfl) (zA (wF (rl (zA zI (zA zI zE)) L2') (x_call (zA (zB rfl) (zA zI zE)) hd4) (hix s4)) zE)) hd5) rn) (pQ.mpr (qP rfl ?_))))));rw[hd];show (zU Φ T.b (en ns (some (.c k)) (some (.m p)) (some (tpI (zT os))) (some (.c f)) (some (.c d)) o6 o7 o8 Z O U R P Q) _ s5).post _;obtain⟨_,s6,hd6,as,rfl,hA,_,t6⟩:=c.d p 40 4 s5 hP5 ⋯ ⋯ ⋯
   have hP6:=t6.at_ hP5.lt;obtain⟨_,s7,hd7,bs,rfl,hB,_,t7⟩:=c.d p 40 4 s6 hP6 ⋯ ⋯ ⋯
   have hP7:=t7.at_ hP6.lt;refine yA.mpr (l5.mpr (vS (x_call (zA (zB rfl) (zA zI (zA zI zE))) hd6) (vS (x_call (zA (zB rfl) (zA zI (zA zI zE))) hd7) (pQ.mpr (qP rfl ?_)))));show (zU Φ T.b (ef ns k p os f d as bs o8 Z O U R P Q) _ s7).post _;have hZ7:=m8 hZ1 hpl (((((t2.trans t3).trans t4).trans t5).trans t6).trans t7);obtain⟨_,s8,hrr,rfl,t8⟩:=c.rr p as os s7 hZ7 hpl hP7 hA hos;have hZ8:=m8 hZ7 hpl t8;refine vi (gO (b:=true) (yv (x_call (zA (zB rfl) (zA (zB rfl) (zA (zB rfl) zE))) hrr) zu)) ?_;refine yA.mpr (pP (λW e s'=>s'=s8/\(∃o8 Z O,e=ef ns k p os f d as bs o8 Z O U R P Q)/\∀x∈W,∃Y,x=tpI Y/\zS Y) [tpI as,tpI bs] (s1:=s8) (v7 (yy (zA (zB rfl) (zA (zB rfl) zE)) L2') rfl) ⟨rfl,⟨_,_,_,rfl⟩,?_⟩ ?_ ?_)
   . intro x hx
     rcases Ap.mp hx with rfl|hx
     . exact⟨as,rfl,hA⟩
     . rw[AU.mp hx];exact⟨bs,rfl,hB⟩
   . rintro x W e s' ⟨rfl,⟨o8,Z,O,rfl⟩,hr2⟩
     obtain⟨Y,rfl,hn⟩:=hr2 x (.head _);have hl:=hn.1;have hLz:Y.length<=zZ:=As hl (by decide)
     refine⟨ef ns k p os f d as bs (some (tpI Y)) Z O U R P Q,rfl,?_⟩;refine vA (Xs hl hd1 rfl rfl) ?_;generalize hsp:(Av Y.length).filter (λp=>decide (f<=p)&&decide ((p-f)%d=0))=sp;have hspl:∀q∈sp,q<Y.length:=λq hq=>by rw[<-hsp]at hq;exact Bl.mp (Gg.mp hq).1
     show (zU Φ T.b (ef ns k p os f d as bs (some (tpI Y)) (some (.h (sp.map λ(k:Nat)=>Val.c k))) O U R P Q) _ s').post _;have hdue:=Zt (Φ:=Φ) (G:=T.b) (s:=s') (env:=ef ns k p os f d as bs (some (tpI Y)) (some (.h (sp.map λ(k:Nat)=>Val.c k))) O U R P Q) (N:=["_law_place","_law_strip_here"]) (fr:=[none,some 8]) (elt:=.s (.e 1) (.j false .d (.j false .d (.k .a false (.a (.e 1) .c)) (.g (.c 1))) (.e 0))) (it:=.d (.k .a false (.a (.e 8) .c))) (n:=Y.length) (f:=λi=>Y.getD (Y.length-1-i) 0) (ox (wG rfl) hLz) rfl (λi o hi=>wF (zB rfl) (zk (zk (wG rfl) zI gY) (zB rfl) (by rw[gY,show (Y.length:Int)-1-(i:Int)=((Y.length-1-i:Nat):Int) by omega])) (qz (by rw[Ab (show Y.length-1-i<Y.length by omega),Am,Ab (show Y.length-1-i<Y.length by omega)];rfl))) hLz
     rw[ZG]at hdue;refine vA (rl (zA (yH (zA hdue zE) rfl) zE) L1) ?_;generalize hts:sp.map (λp=>Y.getD p 0)=ts;have hth:∀s,wA false (tpI Y) (some (f:Int)) none (some (d:Int)) s=.e (tpI ts) s:=gQ ⋯ hd1 (by rw[hsp];exact hts)
     have hat:=x_at (Φ:=Φ) (s:=s') (env:=ef ns k p os f d as bs (some (tpI Y)) (some (.h (sp.map λ(k:Nat)=>Val.c k))) (some (.h [tpI Y.reverse])) U R P Q) (N:=["_law_place","_law_strip_here"]) (i:=8) (ls:=sp) rfl rfl hspl;rw[hts]at hat;have htl:zS ts:=⟨by
      rw[<-hts,Ac,<-hsp];exact As (List.length_filter_le _ _) (by rw[Bi];exact hl),λx hx=>by
      rw[<-hts]at hx;obtain⟨q,hq,rfl⟩:=A7.mp hx;rw[Am,Ab (hspl q hq)];exact hn.2 _ (BY _)⟩
     refine vA (zk (zB rfl) (rl (zA (yH (zA (QJ hos hn rfl rfl) zE) rfl) (zA (yH (zA hat zE) rfl) zE)) L2') (iS (show 1+2<=zZ by decide))) ?_
     show (zU Φ T.b (ef ns k p os f d as bs (some (tpI Y)) (some (.h (sp.map λ(k:Nat)=>Val.c k))) (some (.h (tps [Y.reverse,Y.map (apO os),ts]))) U R P Q) _ s').post _;have hrep:=λS:Sto=>ZF (m:=false) (x:=.h (tps [Y.reverse,Y.map (apO os),ts])) (L:=[Y.reverse,Y.map (apO os),ts]) (s:=S) rfl (show 3<=100 by decide) λl hm=>by
      have:zS l:=by
       simp only[Ap,Bo,or_false]at hm;rcases hm with rfl|rfl|rfl
       . exact fu hn
       . exact Wt hos hn
       . exact htl
      exact⟨this.1,λi hi=>by have:=this.2 i hi;omega⟩
     exact vi (yv (ye (yH (zA (rl (vs:=tps [Y.reverse,Y.map (apO os),ts]) (zA (x_call (zA (zB rfl) zE) (c.e Y s' hn)) (zA (x_call (zA (zB rfl) (zA (zB rfl) zE)) (c.g Y os s' hn hos)) (zA (x_call (zA (zB rfl) (zA (zB rfl) (zA (zB rfl) zE))) (c.a Y ts f d s' hn hf40 hd1 hd40 hth)) zE))) L3) zE) (hrep s')) (yH (zA (zB rfl) zE) (hrep s')) pF) zu) (sR ⟨rfl,⟨_,_,_,rfl⟩,λx hx=>hr2 x (.tail _ hx)⟩)
   rintro e s' ⟨rfl,⟨o8,Z,O,rfl⟩,_⟩;have hal:=hA.1;have hbl:=hB.1;have hab:zS ((as++bs).take (41-as.length)):=by
    refine⟨?_,λx hx=>?_⟩
    . rw[BX,Ao]
      by_cases h0:as.length=0
      . omega
      . omega
    . rcases AD.mp (Dz hx) with hx|hx
      . exact hA.2 x hx
      . exact hB.2 x hx
   have hadd:∀S:Sto,∀a b:List Int,a.length<=40->b.length<=40->binOp false .a (tpI a) (tpI b) S=.e (tpI (a++b)) S:=λS a b h1 h2=>by
    show (if (a.map Val.c).length+(b.map Val.c).length<=zZ then Out.e (Val.f (a.map Val.c++b.map Val.c)) S else .d)=_
    rw[if_pos (by rw[Ac,Ac];exact As (show _<=80 by omega) (by decide)),<-Bs]
   have cut1:wA false (tpI bs) none (some ((40:Int)-(as.length:Int))) none s'=.e (tpI (bs.take (40-as.length))) s':=by
    rw[pf,show (40:Int)-(as.length:Int)=((40-as.length:Nat):Int) by omega]
    by_cases h:40-as.length<=bs.length
    . rw[ij h]
    . have:=X7 (t:=bs) (a:=40-as.length)
      rw[this]
   have cut2:wA false (tpI (as++bs)) none (some ((41:Int)-(as.length:Int))) none s'=.e (tpI ((as++bs).take (41-as.length))) s':=by rw[pf,show (41:Int)-(as.length:Int)=((41-as.length:Nat):Int) by omega,X7]
   refine yA.mpr (pP (λW e S=>S=s'/\(∃U R P,e=ef ns k p os f d as bs o8 Z O U R P Q)/\∀x∈W,∃a b,x=.f [tpI a,tpI b]/\zS a/\zS b) [.f [tpI as,tpI bs],.f [tpI as,tpI (bs.take (40-as.length))],.f [tpI as,tpI ((as++bs).take (41-as.length))]] (s1:=s') (v7 (rl (zA (yy (zA (zB rfl) (zA (zB rfl) zE)) L2') (zA (yy (zA (zB rfl) (zA (kT (zB rfl) tG (sG (zk zI (wG rfl) gY)) tG cut1) zE)) L2') (zA (yy (zA (zB rfl) (zA (kT (zk (zB rfl) (zB rfl) (hadd s' as bs hal hbl)) tG (sG (zk zI (wG rfl) gY)) tG cut2) zE)) L2') zE))) L3) rfl) ⟨rfl,⟨_,_,_,rfl⟩,?_⟩ ?_ ?_)
   . intro x hx
     simp only[Ap,Bo,or_false]at hx;rcases hx with rfl|rfl|rfl
     . exact⟨as,bs,rfl,hA,hB⟩
     . exact⟨as,_,rfl,hA,XZ hB _⟩
     . exact⟨as,_,rfl,hA,hab⟩
   . rintro x W e S ⟨rfl,⟨U,R,P,rfl⟩,hr2⟩
     obtain⟨a,b,rfl,ha,hb⟩:=hr2 x (.head _);have h1:=ha.1;have h2:=hb.1;refine⟨ef ns k p os f d as bs o8 Z O (some (tpI a)) (some (tpI b)) P Q,rfl,?_⟩;refine vA (zk (wG rfl) (wG rfl) rn) ?_;show (zU Φ T.b (ef ns k p os f d as bs o8 Z O (some (tpI a)) (some (tpI b)) (some (.c ((a.length:Int)+(b.length:Int)))) Q) _ S).post _;have tg:evT Φ T.b (ef ns k p os f d as bs o8 Z O (some (tpI a)) (some (tpI b)) (some (.c ((a.length:Int)+(b.length:Int)))) Q) (.a (.l .c (.e 13) (.g (.c 40)))) S=.e (decide ((40:Int)<(a.length:Int)+(b.length:Int))) S:=yv (ye (zB rfl) zI gt_int) zu;have tl:evT Φ T.b (ef ns k p os f d as bs o8 Z O (some (tpI a)) (some (tpI b)) (some (.c ((a.length:Int)+(b.length:Int)))) Q) (.a (.l .f (.e 13) (.g (.c 40)))) S=.e (decide ((a.length:Int)+(b.length:Int)<=40)) S:=yv (ye (zB rfl) zI le_int) zu;have done:(λW e S'=>S'=S/\(∃U R P,e=ef ns k p os f d as bs o8 Z O U R P Q)/\∀x∈W,∃a b,x=Val.f [tpI a,tpI b]/\zS a/\zS b) W (ef ns k p os f d as bs o8 Z O (some (tpI a)) (some (tpI b)) (some (.c ((a.length:Int)+(b.length:Int)))) Q) S:=⟨rfl,⟨_,_,_,rfl⟩,λx hx=>hr2 x (.tail _ hx)⟩;by_cases hg:40<a.length+b.length
     . rw[decide_eq_true ⋯]at tg
       rw[decide_eq_false ⋯]at tl
       exact vi (Zd tg (iB (yv (ye (x_call (zA (zB rfl) (zA (zB rfl) zE)) (c.kH.jn a b S hZ8 ha hb hg)) (yy (zA zI (zA (zB rfl) (zA zI zE))) L3) UC) zu))) (vi (Zc tl) (sR done))
     . rw[decide_eq_false ⋯]at tg
       rw[decide_eq_true ⋯]at tl
       have hab':∀x∈a++b,0<=x/\x<=100000:=λx hx=>by
        rcases AD.mp hx with hx|hx
        . have:=ha.2 x hx;omega
        . have:=hb.2 x hx;omega
       have hrep:=λS:Sto=>XO (m:=false) (s:=S) (ks:=a++b) (by rw[Ao];omega) hab'
       exact vi (Zc tg) (vi (Zd tl (iB (yv (ye (yH (zA (x_call (zA (zB rfl) (zA (zB rfl) zE)) (c.c a b S ha hb ⋯)) zE) (hrep S)) (yH (zA (zk (zB rfl) (zB rfl) (hadd S a b h1 h2)) zE) (hrep S)) pF) zu))) (sR done))
   rintro e S ⟨rfl,⟨U,R,P,rfl⟩,_⟩;exact sR ⟨⟨_,_,_,_,_,_,_,_,_,_,_,_,_,_,rfl⟩,hZ8,hr'⟩
 . rintro e s' ⟨⟨o1,o2,o3,o4,o5,o6,o7,o8,Z,O,U,R,P,Q,rfl⟩,hZ,_⟩
   have sz:∀n:Nat,n<=40->zS (An n (0:Int)):=λn h=>⟨by rw[Dn];exact h,λx hx=>by rw[DY hx];decide⟩
   have s1':zS (An 19 (0:Int)++[1]):=⟨by decide,λx hx=>by
    rcases AD.mp hx with hx|hx
    . rw[DY hx];decide
    . rw[AU.mp hx];decide⟩
   have s40:zS (An 20 (0:Int)++(An 19 (0:Int)++[1])):=⟨by decide,λx hx=>by
    rcases AD.mp hx with hx|hx
    . rw[DY hx];decide
    . exact s1'.2 x hx⟩
   refine vA (x_call (zA (zk (yy (zA zI zE) L1) zI (show binOp false .c (.f [.c 0]) (.c 20) s'=.e (tpI (An 20 0)) s' from rfl)) (zA (zk (zk (yy (zA zI zE) L1) zI (show binOp false .c (.f [.c 0]) (.c 19) s'=.e (tpI (An 19 0)) s' from rfl)) (yy (zA zI zE) L1) (show binOp false .a (tpI (An 19 0)) (.f [.c 1]) s'=.e (tpI (An 19 0++[1])) s' from rfl)) zE)) (c.c _ _ s' (sz 20 ⋯) s1' (by decide))) ?_
   show (zU Φ T.b (en ns o1 o2 o3 o4 o5 o6 o7 o8 Z O U R P (some (tpI (An 20 0++(An 19 0++[1]))))) _ s').post _;have same:∀l:List Int,zR .b (tpI l) (tpI l) s'=.e (.e false) s':=λl=>mn.1;refine vi (TN (yv (ye (wG rfl) zI (show zR .b (.c ((An 20 (0:Int)++(An 19 (0:Int)++[1])).length:Nat)) (.c 40) s'=.e (.e false) s' from rfl)) zu) (lA (yv (ye (x_call (zA (zB rfl) (zA zI (zA zI zE))) (c.a _ [1] 39 1 s' s40 ⋯ ⋯ ⋯ (gQ (by decide) (by decide) (by decide +kernel)))) (yy (zA zI zE) L1) (same [1])) zu) (lA (yv (ye (x_call (zA (zB rfl) (zA zI (zA zI zE))) (c.a _ [0,1] 0 39 s' s40 ⋯ ⋯ ⋯ (gQ (by decide) (by decide) (by decide +kernel)))) (yy (zA zI (zA zI zE)) L2') (same [0,1])) zu) iA))) ?_
   refine xG (QI (ye (x_call (zA (yy zE (Bj _)) (zA (yy zE (Bj _)) zE)) (c.c [] [] s' (sz 0 ⋯) (sz 0 ⋯) (by decide))) (yy zE (Bj _)) (mn (ns:=[])).2) (ye (x_call (zA (yy (zA zI (zA zI (zA zI zE))) L3) (zA zI (zA zI zE))) (c.a [1,2,3] [] 40 40 s' ⟨by decide,λx hx=>by simp only[Ap,Bo,or_false]at hx;omega⟩ ⋯ ⋯ ⋯ (gQ (by decide) (by decide) (by decide +kernel)))) (yy zE (Bj _)) (mn (ns:=[])).2)) ?_
   show (yF false (tb.map .d) (.e true) s').post _;rw[fL hZ xP];exact zD.mpr rfl
end
def cs:At T 7 Cs:=λn hn=>by
 obtain⟨n,rfl⟩:∃m,n=m+7:=⟨n-7,⋯⟩
 have g3:T.b "MOST_PLACES"=some (.c 40):=rfl;have g4:T.b "HUES"=some (.o [0,1,2,3]):=rfl;have R:∀m,nW (zC T (m+1)):=λm v l k s h=>by rw[zb (F:=F.xj) rfl];exact eC h
 have Q:∀m,qD (zC T (m+2)):=λm vs l k s h=>by rw[zb (F:=F.yt) rfl];exact jv (R m) h
 have O:∀m,uo (zC T (m+2)):=λm i l k s h1 N=>by rw[zb (F:=F.zt) rfl];exact oG (R m) h1 N
 have stripW:∀m,iO (zC T (m+3)):=λm v s h=>by rw[zb (F:=F.xh) rfl];exact ju g3 g4 (Q m) h
 have x:∀m,yL (zC T (m+4)):=λm ns s h=>by rw[zb (F:=F.yu) rfl];exact pY (eK (stripW m)) h
 have P:∀m,um (zC T (m+3)):=λm i s h1 N=>by rw[zb (F:=F14.yN) rfl];exact pX g3 (O m) h1 N
 have W:∀m,oO (zC T (m+3)):=λm i s h1 N=>by rw[zb (F:=F14.yW) rfl];exact oF g3 (O m) h1 N
 have order:∀m,eY (zC T (m+3)):=λm hs s h=>by rw[zb (F:=F14.yZ) rfl];exact jt g4 (Q m) h
 have UO:∀m,Xx (zC T (m+3)):=λm v s h=>by rw[zb (F:=F14.yZ) rfl];exact ZM g4 (Q m) h
 have back:∀m,eU (zC T (m+5)):=λm ns s h=>by rw[zb (F:=F14.xf) rfl];exact fv (x m) h
 have exch:∀m,eV (zC T (m+5)):=λm ns os s h p=>by rw[zb (F:=F14.yV) rfl];exact fw (x m) (order (m+1)) h p
 have thin:∀m,ed (zC T (m+5)):=λm ns ts f d s h h1 N S h4=>by rw[zb (F:=F14.yf) rfl];exact eB (x m) (P (m+1)) (W (m+1)) h h1 N S h4
 have join:∀m,Xw (zC T (m+5)):=λm a b s h1 N S=>by rw[zb (F:=F06.xJ) rfl];exact fz g3 (x m) h1 N S
 have Z:∀m,Tv (zC T (m+2)) (za T (m+2)):=λm v l k s h1 N S h4=>by obtain⟨a,b⟩:=dJ (T:=T) (Φ:=zC T (m+1)) (Ψ:=za T (m+1)) (s:=s) (R m) rfl h1 N S h4;exact⟨by rw[zb (F:=F.zt) rfl];exact a,_,by rw[qZ (F:=F.zt) rfl rfl];exact b⟩
 have xFirst:∀m,dD (zC T (m+3)) (za T (m+3)):=λm v s h1 N=>RzF.up (F:=F14.yN) (oR (F:=F14.yN) rfl rfl (zA (zB rfl) (zA zI (zA (uO g3) zE))) (Z m v 0 40 s h1 N (by decide) (by decide))) rfl rfl
 have xStep:∀m,X3 (zC T (m+3)) (za T (m+3)):=λm v s h1 N=>RzF.up (F:=F14.yW) (oR (F:=F14.yW) rfl rfl (zA (zB rfl) (zA zI (zA (uO g3) zE))) (Z m v 1 40 s h1 N (by decide) (by decide))) rfl rfl
 have xExch:∀m,Tt (zC T (m+5)) (za T (m+5)):=λm ns v s h1 N=>RzF.up (F:=F14.yV) (dH (x m) (UO (m+1)) rfl h1 N) rfl rfl;have Y:∀m,Tw (zC T (m+5)) (za T (m+5)):=λm=>
  ⟨λns v w s h h1 N=>RzF.up (F:=F14.yf) (gV (x m) (xFirst (m+1)) h h1 N) rfl rfl,
   λns f w s h h0 h1 N=>RzF.up (F:=F14.yf) (gW (x m) (P (m+1)) (xStep (m+1)) h h0 h1 N) rfl rfl⟩
 have xJoin:∀m,Tu (zC T (m+5)) (za T (m+5)):=λm a b s h1 N S=>Zx.up (F:=F06.xJ) (dI g3 (x m) rfl h1 N S) rfl rfl;have kH:∀m,eZ (zC T (m+6)):=λm=>
  ⟨λns v s hz h1 N=>ml (xExch m ns v s h1 N) rfl rfl hz rfl,
   λns v w s hz h h1 N=>ml ((Y m).a ns v w s h h1 N) rfl rfl hz rfl,
   λns f w s hz h h0 h1 N=>ml ((Y m).b ns f w s h h0 h1 N) rfl rfl hz rfl,
   λa b s hz h1 N S=>jw (xJoin m a b s h1 N S) rfl rfl hz rfl⟩
 have cell:∀m,Xv (zC T (m+1)):=λm ns k s=>by obtain⟨c,h⟩:=ZK (T:=T) (Φ:=zC T m) (s:=s) ns k;exact⟨c,by rw[zb (F:=F.yD) rfl];exact h⟩
 have pen:∀m,Tj (zC T (m+1)):=λm c s=>by obtain⟨a,b,h,N⟩:=XQ (T:=T) (Φ:=zC T m) (s:=s) c;exact⟨a,b,by rw[zb (F:=F.yM) rfl];exact h,N⟩
 have U:∀m,lG (zC T (m+1)):=λm p k s h1 N S=>by rw[zb (F:=F.yj) rfl];exact ZL h1 N S
 have ord:∀m,iM (zC T (m+2)):=λm p s h=>by rw[zb (F:=F06.yq) rfl];exact jr (U m) h
 have strip:∀m,iN (zC T (m+2)):=λm p l h s h1 N S h4=>by rw[zb (F:=F08.yr) rfl];exact js (U m) h1 N S h4
 have noOrd:∀m,eW (zC T (m+2)):=λm p os s h1 N=>by rw[zb (F:=F06.yC) rfl];exact eA (U m) h1 N
 have rr:CRR (zC T (n+7)):=λp ns os s h1 N S h4 h5=>by rw[zb (F:=F06.zf) rfl];exact U1 (noOrd (n+4)) (kH n) h1 N S h4 h5
 exact⟨cell (n+6),pen (n+6),U (n+6),ord (n+5),strip (n+5),rr,back (n+2),exch (n+2),thin (n+2),join (n+2),kH (n+1)⟩
def V9 ns:∃s',zC T 8 "law" 0 [.r ns] (tb.map .d)=.e (.e true) s':=by
 obtain⟨v,s',h,rfl⟩:=bc (cs 7 ⋯) ns
 exact⟨s',by rw[zb (F:=oP) rfl];exact h⟩
end P06
end
section
open PySem PySem.W PyProof.Rows
def P06.hx:P06.oP.b=[("_law_script":Str)]:=by kernel_rfl
def P06.hF:(M.kQ P06.fnL P06.glL P06.tb P06.xc P06.md).e P06.dd.name 0=some P06.oP:=by kernel_rfl
def P06.hgl:P06.glL=P06.gl.map λp=>(p.1,M.gv p.2):=by kernel_rfl
def P06.ws1:List Str:=["strip","sizes","number","place","hue","draft","paper","fit","lot"]
def P06.ws2:List Str:=["ring","round","stand","text","deed","line","great"]
def P06.kst:M.kZ (P06.top 39) P06.X.a (P06.ws1++P06.ws2) none:=by
 refine⟨by kernel_rfl,by decide +kernel,?_,by decide +kernel⟩
 exact⟨P06.X.a.take 4,(P06.X.a.drop 4).take 4,(P06.X.a.drop 8).take 4,P06.X.a.drop 12,P06.ws1,P06.ws2,_,_,_,_,_,_,_,_,_,_,_,_,_,_,_,_,_,_,_,_,_,_,_,_,_,_,_,_,_,_,_,_,_,_,_,_,_,_,_,_,_,_,_,_,_,_,_,_,_,_,_,_,_,_,default,default,_,_,_,_,0,rfl,rfl,rfl,by decide +kernel,rfl,rfl⟩
def P06.Qm:M.nY false "_law_class" (P06.top 40):=⟨by kernel_rfl,by decide +kernel,⟨_,_,_,_,_,_,_,_,_,_,_,_,_,_,_,_,_,_,_,_,_,_,_,_,_,_,_,_,rfl⟩,by decide +kernel⟩
def P06.ist:M.eh (Hd.k6 (P06.top 17)):=⟨by kernel_rfl,by decide +kernel,⟨_,_,_,_,_,_,_,_,_,_,_,_,_,_,_,_,_,_,_,_,_,by decide,rfl,by decide +kernel⟩,by decide +kernel⟩
def P06.hS:∀b,P06.md b=true->P06.D.lookup (L2.yJ b)=some ((λb=>match b with|true=>P06.top 0|false=>P06.top 40) b)/\M.nY b "_law_class" ((λb=>match b with|true=>P06.top 0|false=>P06.top 40) b)
 |false,_=>⟨rfl,P06.Qm⟩|true,h=>by cases h
def P06.ku:((("HueError":Str))::P06.X.c).all (λc=>decide (c="TooGreat")||M.fe P06.q c)=true:=by decide +kernel
def P06.ky:P06.X.b.all (λg=>(EX P06.q).any (λd=>decide (d.name=g))&&(P06.D.lookup g).isSome)=true:=by decide +kernel
theorem PySem.Challenge.cw_evenhues_k06_strips_turned_holds : PySem.Challenge.rw_evenhues_k06_strips_turned.Holds := by
 exact M.W4 (n:=8) _ P06.kH P06.left P06.hgl P06.cn P06.hp P06.hk P06.hwr P06.ok P06.bare P06.hw (by kernel_rfl) P06.hdf ⟨rfl,by decide,by decide,rfl⟩ P06.hF P06.hx P06.TQ rfl (by decide +kernel) rfl P06.kst P06.hS rfl (by decide +kernel) (by decide +kernel) P06.ku (λh=>by cases h) (λ_ _ _ _ _ _ _ TT KX ob=>M.cm TT KX ob P06.ist) P06.ky (λns _=>P06.V9 ns)
end
end
