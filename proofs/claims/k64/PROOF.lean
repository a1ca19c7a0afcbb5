import PyProof.Rows.All
import KE.KFromBytes
import KE.KIsAll
import KE.KMinKey
import KE.KSortTup
import KE.KItem
import KE.KLam
import KE.KTryMore
import PySem.Challenge.RW_evenhues_k64_all_rings
set_option backward.eqns.nonrecursive false
set_option genSizeOf false
set_option genSizeOfSpec false
set_option bootstrap.genMatcherCode false
set_option Elab.async false
set_option linter.all false
set_option maxRecDepth 100000
noncomputable section
local macro_rules|`(tactic|omega)=>`(tactic|lia)
local macro_rules|`(⋯)=>`(by omega)
set_option maxHeartbeats 4000000
set_option autoImplicit true
set_option relaxedAutoImplicit true
noncomputable section
def byG{G:Prop}(h:∀p:Prop,(G->p)->p):G:=h G id
open And renaming intro->Ad
open Array renaming getElem?_eq_some_iff->BR,length_toList->Dv
open Bool renaming and_eq_true->cf,false_ne_true->Aj,not_eq_true'->AI,or_eq_true->AN,false_eq_true->Bn,eq_iff_iff->BL,false_and->Di,or_true->Dr,and_true->ED,or_eq_false_iff->E8,and_eq_true_iff->Fd
open Eq renaming trans->G5
open False renaming elim->As
open ForInStep renaming yield->CA
open Iff renaming rfl->Dl
open Int renaming natCast_mul->CC,toNat_natCast->CD,emod_lt_of_pos->Fw,fdiv_eq_ediv_of_nonneg->FA,fmod_eq_emod_of_nonneg->FC,le_trans->Gi,natCast_add->GI,emod_nonneg->GJ
open LawfulBEq renaming eq_of_beq->Cb
open LawfulMonad renaming pure_bind->Ee
open List renaming length_map->rt,getElem?_eq_getElem->xd,size_toArray->Ab,mem_cons_of_mem->Af,length_append->Ah,range->Ai,all_eq_true->Ak,mem_cons->Al,mem_range->Am,lookup_cons->An,mem_singleton->Ap,mem_cons_self->Ar,getElem?_eq_some_iff->Ax,replicate->Ay,map_cons->AE,getD_eq_getElem?_getD->AF,mem_of_getElem?->AH,append_nil->AJ,getElem?_set_self->AR,getElem?_append_left->AS,mem_append_right->AU,length_cons->AX,getElem?_map->AZ,append_assoc->A0,isEmpty_iff->A1,mem_map->A2,getElem?_append_right->A3,mem_append->Ba,length_range->Bl,contains_cons->Bo,filterMap_cons->Bp,mem_append_left->Br,any_eq_true->Bv,getElem?_set_ne->BA,mem_filter->BJ,getElem_mem->BP,getElem_of_mem->BU,nodup_cons->BV,drop_eq_getElem_cons->BX,length_singleton->BY,not_mem_nil->B1,map_map->B3,all_cons->B5,replicate_succ->Cc,map->Cm,getElem_map->Co,filterMap_map->Cr,flatMap_cons->CG,cons_append->CI,lookup->CK,mem_filterMap->CN,length_set->CQ,length_nil->CV,map_append->CW,flatten_cons->C6,getElem?_eq_none_iff->C8,length_take->Dm,mem_flatMap->Ds,length_pos_iff->Dw,getElem_range->DC,range'->DF,map_nil->DK,countP_cons->DU,filter_cons->DW,any_cons->D1,nil_append->D7,getElem?_take_of_lt->Ec,foldl->Em,drop_zero->En,getElem?_replicate->Ep,length->Ey,range_succ_eq_map->EA,findIdx?_eq_some_iff_getElem->EB,length_replicate->EM,getElem?_toArray->EO,length_filter_le->EX,of_mem_zip->E1,forIn_cons->E4,all_map->E6,getElem?_of_mem->E9,map_congr_left->Fh,map_eq_nil_iff->Fi,take_sublist->FK,nodup_append->FU,pairwise_map->FV,range'_zero->Gq,flatMap_nil->Gr,lookup_eq_none_iff->Gw,forIn_nil->GX
open List.Pairwise renaming nil->FO
open List.cons renaming inj->C4
open Nat renaming le_refl->Ac,le_trans->Aq,lt_of_lt_of_le->Aw,ne_of_lt->AB,zero_le->Be,lt_irrefl->Bj,mul_le_mul_right->Bs,mul_comm->BI,lt_succ_of_lt->Ca,ne_of_gt->Cv,le_succ->CL,mul_le_mul->Dj,lt_succ_self->Dp,mod_eq_of_lt->Dt,le_of_lt->DH,sub_self->DN,min_le_right->DQ,lt_of_sub_eq_succ->ET,lt_iff_add_one_le->EV,le_div_iff_mul_le->EW,sub_zero->E7,le_of_eq->Fb,add_zero->Fc,mul_le_mul_left->Ff,succ_mul->F8,add_comm->F9,le_of_not_lt->Ga,succ_le_succ->Gh,zero_add->Gn,mul_zero->Gp,le_antisymm->GH
open Ne renaming symm->Bh
open Option renaming none->dS,map_eq_some_iff->Bc,isNone_iff_eq_none->Bt,isSome_iff_exists->Cy,bind_eq_some_iff->Eo,bind_some->F4,getD_none->F6,map_some->Gz
open Option.some renaming inj->AQ,injEq->DG
open Prod renaming ext->F5
open Prod.mk renaming inj->GO,injEq->G8
open PyProof.Rows renaming slot_tuple_getitem->A6,joinParts_cons->CJ,callWith_type1->CM,firstMet->CU,Top->Du,step_dedup->Dy,formatField_int_small->DM,FormattedValue_plain->DV,boot_sorted->Ek,tupleItemsOf_->EC,boot_min->EU,entry_tuple_getitem->Fe,recsOf->Fj,args_tuple_getitem->Fq,subscriptTail->FF,boot_tuple->Gv,Subscript_->G2
open PySem renaming wpAny_bind->lp,wpAny_pure->Ae,sizeLine->Ao,starEach->Av,Spec->Az,wpAny_mono->AD,wpAny_loadPart_at->AG,sizeLine_eq->AL,strLen_append->AM,mainGlobals->AO,excClassObj->AW,mem_of_lookup->A4,wpAny_standAt->A8,foldedSetIterable->A9,compareOp->Bg,wpAny_newObj_type->Bk,wpAny_field->Bx,sliceBounds->By,wpAny_holding->Bz,FuncData->BB,binaryOp->BD,wpAny_truthy_bool->BF,letOwnedTupleGo->BK,treeTable->BN,call_meets->BO,wpAny_loadPart'->BW,wpAny_Call_Name_kw->BZ,attributeBase->B4,codeAny_call_builtin->B7,wpAny_isSubtype_exc->Ce,sysModules->Cg,checkBuiltinCall->Ck,wpAny_pyIter_tuple->Cp,recursionLimit->Cq,wpAny_setField->Ct,bootBuiltins->Cu,codeAny_mono->Cw,wpAny_callSpecial?_slot->CH,cellsFrom->CO,wpAny_Call_ofName->C7,assignEach->Dc,wpAny_call->Dd,wpAny_binaryOp_repeat_ref->Df,typeIs_int->DB,wpAny_call_entry->DR,NameKind->DS,behindInMarks->DY,comprehension->D2,wpAny_passesOwn->D6,swapsWith->D9,inplaceOp->Ea,wpAny_typeOf->Ed,compTurn->Ef,wpAny_raiseStmt_made_sub->Eg,codeAmong->Eh,TriplesOk->Ei,typeLookup->El,wpAny_pyIter_list->Es,wpAny_pyIter_enum->Eu,wpAny_execs_cons->EF,noFill_tuple_add->EG,Arguments->EJ,noteFrame->EN,setFlight->ES,Within->EY,wpAny_execs_nil->EZ,codeAny_of_tree->E5,keywordEach->Fp,wpAny_classOwn_exc->Fv,wpAny_newFunctionEnv_cells->FD,seq_tuple_add->FE,Comprehension->FG,wpAny_letOwnedTupleGo_enum->FI,wpAny_sequenceKey->FL,slot_list_getitem->FN,builtinsNs->FW,wpAny_rule->FZ,cameBackBy->F0,codeAny_call_builtin_code->F1,wpAny_check_type_call_sub->F2,wpAny_getItem_list_slice->F7,wpAny_comprehension_free->Gd,wpAny_Dict_empty->Gf,lookupAlong_cons->Gj,wpAny_madeBy_exc->Gk,wpAny_pyNext_enum_itemD->Gs,codeAny_call_builtin_at->Gu,DictEntry->Gx,importedModules->Gy,wpAny_mroOf_exc->GG,wpAny_of_eq->GL,isCodeTable->GN,newFunctionEnv->GW,bindArgs->G1,backToKw->G3,closureFor->G4,isInstance->G6,typeLookup_eq->Hc,storeName->He,lastMarks->Hf,slicePick->Hg,onTheHeap->Hh
open PySem.Around renaming frames_deeper->E2
open PySem.AutoSeq1 renaming idx_int->Ge
open PySem.Builtin.List renaming listTooLong->Dn
open PySem.Builtin.Range renaming rangeSize->B8
open PySem.Builtin.Slice renaming sliceAdjust->A7,slicePlaces->BE,sliceApplied->CY,sliceFields->FX
open PySem.Builtin.SmallTypes renaming nextOf->Dg
open PySem.Builtin.Tuple renaming tupleExact->Bu,tupleItemsOf->DZ,tupleTooMany->D3,tupleIsExact->FH
open PySem.Calls renaming evalArgs_plain->De,Constant_str->DA,callWith_builtin->Ez,Name_function_global->Fy
open PySem.Code renaming quiet_builtin->CP
open PySem.Data renaming fields->GK
open PySem.EntryCells renaming newEntry->D5
open PySem.Expr renaming JoinedStr->GR,Attribute->GS,Subscript->GU,ListComp->Ha,Constant->Hb
open PySem.Expr.Compare renaming elim->FP
open PySem.Expr.FormattedValue renaming elim->Gb
open PySem.Expr.Tuple renaming elim->GD
open PySem.F renaming args_tuple_add_2->B0,entry_tuple_add->B9,slot_tuple_add->Cf,excBase_ValueError->Ci,slot_int_rmul->Cz,slot_tuple_iterator_next->CZ,excAttr_ValueError->C1,called_set->Dq,plainAttrs_list->Dx,typeOf_object_class->DO,slot_tuple_mul->DT,args_int_rmul_2->Et,slot_int_index->EH,entry_int_rmul->EI,fills_int_mul->E3,slot_gs_get->Fg,args_tuple_iterator_next_1->Fm,args_tuple_mul_2->Ft,entry_tuple_iterator_next->Fu,entry_tuple_mul->FQ,store_ValueError->Gm
open PySem.Heap renaming get?_push_of_some->rg,lt_size->Ag,get?_push_size->Au,get?_update_other->AV,size_push->Bb,get?_update_self->Bw,get?_none_of_le->C9,MadeExcOf->Dk,SameBut->D8,get?_push_at->FT
open PySem.Heap.IsSliceOf renaming new->Fs
open PySem.NameKind renaming free->AK,cell->Bq,globalImplicit->Er
open PySem.Obj renaming mapFields->BQ,data_mapFields->B2,isFreed_of_fields->CT,cls_mapFields->FR,mapSeq->FY
open PySem.Paired renaming length->G9
open PySem.PyData renaming eqv->CB,int->F3,weightAll->Gg,canLay0->GY,hasDict->GZ
open PySem.SeqAt renaming EqAt->Bi
open PySem.Stmt renaming AugAssign->GV
open PySem.Str renaming empty->Dh,ofString->DJ
open PySem.Value renaming ref->AA,none->AY,builtin->Cj,bool->Dz,type->DP,int->GA,str->GB
open PySem.Value.type renaming inj->DL
open PySem.W renaming Frag->Aa,behindTheImports->BC,nsIn->BG,fnOf->BH,kia_one->BM,keepIn->BS,codeIn->B6,topFrame->DE,findIn->DI,mg_of->D4,callWith_K->Eb,looks_findIn->Ej,cellsFrom_some->Ew,tabObj->Fo,recOk->Fx,methodObj->FJ,instObj->GC,lookIn->GP,kitOne->GQ,piecesOf->G0,fencedOpening->G7
open Sum renaming inl->EK,inr->EL
open True renaming intro->A5
section
namespace Hd
open PySem
inductive G where
 |a (i:Int)|c (x:Str)|b (ns:List Int)
noncomputable def args(s:Stmt):EJ:=match s with
 |.FunctionDef _ a _ _ _ _ _ _ _ _=>a
 |_=>{posonlyargs:=[],args:=[],vararg:=none,kwonlyargs:=[],kw_defaults:=[],kwarg:=none,defaults:=[]}
noncomputable def body(s:Stmt):List Stmt:=match s with
 |.FunctionDef _ _ b _ _ _ _ _ _ _=>b
 |_=>[]
noncomputable def scope(s:Stmt):Scope:=match s with
 |.FunctionDef _ _ _ _ _ _ sc _ _ _=>sc
 |_=>{kind:=.function,names:=[],isGenerator:=false,isCoroutine:=false}
noncomputable def posOf(s:Stmt):Pos:=match s with
 |.FunctionDef _ _ _ _ _ _ _ _ _ p=>p
 |_=>⟨0,0,0,0⟩
def TK(x:Str)(s:Stmt):DefRec:=⟨x,args s,body s,scope s,posOf s⟩
noncomputable def O9:List Str:=["len","all","any","tuple","list","sorted","repr","max","min","sum","int","isinstance","divmod","str","bool","dict","set","range","enumerate","zip"]
noncomputable def kL:List Value->Option (List Int)
 |[]=>some []
 |.int i _::r=>(kL r).map (i::·)
 |_=>none
noncomputable def nsH(h:Heap)(x:Str):Option (Option Value):=match h.get? AO with
 |some o=>BG [(AO,o)] AO x
 |none=>none
noncomputable def UE(f:BB):BB:={f with kwdefaults:=.none,doc:=.none,pyModule:=.none,annotations:=none,code:=.none,closureTuple:=.none}
noncomputable def yd(o:Obj):Bool:=(match o.cls with|.none=>true|_=>false)&&(match o.data with|.fields _=>true|_=>false)
def fX(h:Heap)(a:Value)(x:Str):Bool:=match a with
 |.ref c=>(match h.get? c with
  |some o=>!yd o&&B6 [(c,o)] (.ref c) x
  |none=>false)
 |_=>false
def VI(h:Heap)(x:Str):Option BB:=match nsH h x with
 |some (some (.ref f))=>(match h.get? f with
  |some ⟨_,_,.func a,_⟩=>if fX h a.code x then some (UE a) else none
  |_=>none)
 |_=>none
def V6(p:Str × Stmt):Option BB:=some (BH p.1 p.1 (args p.2) (body p.2) (scope p.2) .none .none .none .none none .none .none)
def glB(h:Heap)(x:Str):G->Bool
 |.a i=>(match nsH h x with|some (some (.int j _))=>decide (i=j)|_=>false)
 |.c y=>(match nsH h x with|some (some (.str z _))=>decide (y=z)|_=>false)
 |.b ns=>(match nsH h x with
  |some (some (.ref a))=>(match h.get? a with
   |some ⟨.type n,_,.seq us _,_⟩=>decide (n="tuple")&&decide (us.toList.length<=1000)&&decide (kL us.toList=some ns)
   |_=>false)
  |_=>false)
def blB(h:Heap)(x:Str):Bool:=match nsH h x with|some none=>true|_=>false
def YV(D:List (Str × Stmt))(g:List (Str × G))(s:Shared):List (Option BB) × Bool:=(D.map λp=>VI s.heap p.1,g.all (λp=>glB s.heap p.1 p.2)&&O9.all λx=>blB s.heap x)
def Xr(D:List (Str × Stmt)):List (Option BB) × Bool:=(D.map V6,true)
end Hd
end
section
namespace Hd
open PySem PySem.W
noncomputable def hsh(w:World)(x:Str):Int:=reduceHash (w.params.strHash x.cps)
def ent(w:World)(x:Str)(t:Tok)(v:Value):Gx:=⟨hsh w x,.str x t,v⟩
def WL(w:World)(n:Nat)(t:Tok)(b:Addr)(m:Value)(x:Str)(l:Int):List Obj:=
 [{cls:=.type "tuple",data:=.seq #[.ref b]},
  {cls:=.type "builtin_function_or_method",data:=.fields #[.builtin "type.__prepare__",.type "type"]},
  {cls:=.type "dict",data:=.dict #[ent w "__module__" (t+7) m,ent w "__qualname__" (t+9) (.str x (t+8)),ent w "__firstlineno__" (t+11) (.int l (t+10)),ent w "__static_attributes__" (t+12) (.ref (n+7))] 4},
  {cls:=.type "tuple",data:=.seq #[]},
  {cls:=.none,data:=.fields #[]},
  {cls:=.type "code",data:=.fields #[.str x (t+2),.str x (t+3),.str "/claim/cut.py" (t+4),.int l 0,.int 0 0,.int 0 0,.int 0 0,.int 0 0,.ref (n+3),.bool false,.int 181 0,.ref (n+4),.none,.none,.none,.none,.int (t+5) 0,.int l 0,.str "/claim/cut.py" (t+6)]},
  {cls:=.type "frame",data:=.plain,slots:=#[some (.ref (n+5)),some (.ref 3),some (.ref (n+2)),none,some m,none,some (.ref 0)]},
  {cls:=.type "tuple",data:=.seq #[]},
  {cls:=.type "dict",data:=.dict #[ent w "__module__" (t+7) m,ent w "__firstlineno__" (t+11) (.int l (t+10)),ent w "__static_attributes__" (t+12) (.ref (n+7)),ent w "__doc__" (t+13) .none] 2},
  {cls:=.type "type",data:=.cls {name:=x,bases:=[.ref b],mro:=[.ref (n+9),.ref b,.type "ValueError",.type "Exception",.type "BaseException",.type "object"],ns:=n+8,qualname:=x},slots:=#[some (.ref n),none,some (.str x t),some (.str x (t+8)),some (.builtin "ValueError.__new__"),some (.bool true)]},
  {cls:=.type "super",data:=.fields #[.ref (n+9),.ref (n+9),.ref (n+9)]},
  {cls:=.type "builtin_function_or_method",data:=.fields #[.builtin "object.__init_subclass__",.ref (n+9)]}]
def af(w:World)(b:Addr)(m:Value):Nat->Nat->List (Str × Int)->List Obj
 |_,_,[]=>[]
 |n,t,c::cs=>WL w n t b m c.1 c.2++af w b m (n+12) (t+16) cs
def ZM(w:World):Nat->Nat->List (Str × Int)->List Gx
 |_,_,[]=>[]
 |n,t,c::cs=>ent w c.1 (t+15) (.ref (n+9))::ZM w (n+12) (t+16) cs
noncomputable def aj:Nat->List (Str × Int)->List Value
 |_,[]=>[]
 |n,c::cs=>.int c.2 0::.int 0 0::.ref (n+5)::aj (n+12) cs
noncomputable def Xe:Nat->List (Str × Int)->List Value
 |_,[]=>[]
 |n,_::cs=>.ref (n+9)::Xe (n+12) cs
noncomputable def Nd(e:List Gx):Obj->Obj
 |⟨c,d,.dict es n,s⟩=>⟨c,d,.dict ⟨es.toList++e⟩ (n+e.length),s⟩
 |o=>o
noncomputable def Ng(v:List Value):Obj->Obj
 |⟨c,d,.fields vs,s⟩=>⟨c,d,.fields ⟨vs.toList++v⟩,s⟩
 |o=>o
noncomputable def Nf(v:List Value):Obj->Obj
 |⟨c,d,.cls k,s⟩=>⟨c,d,.cls {k with subclasses:=k.subclasses++v},s⟩
 |o=>o
noncomputable def atL(f:Obj->Obj):Nat->List Obj->List Obj
 |_,[]=>[]
 |0,o::os=>f o::os
 |n+1,o::os=>o::atL f n os
noncomputable def aw(s:Stmt):Stmt:=match s with
 |.ClassDef _ _ _ b _ _ _ _ _ _ _=>b.getD 0 s
 |_=>s
def QK(w:World)(n:Nat)(t:Tok)(b:Addr)(m:Value)(s:Stmt)(l:Int):List Obj:=
 let x:Str:="TooGreat";let f:BB:={name:="__init__",qualname:="TooGreat.__init__",params:=args (aw s),body:=.stmts (body (aw s)),scope:=scope (aw s),globals:=0,closure:=[],defaults:=.none,kwdefaults:=.none}
 [{cls:=.type "tuple",data:=.seq #[.ref b]},
  {cls:=.type "builtin_function_or_method",data:=.fields #[.builtin "type.__prepare__",.type "type"]},
  {cls:=.type "dict",data:=.dict #[ent w "__module__" (t+7) m,ent w "__qualname__" (t+9) (.str x (t+8)),ent w "__firstlineno__" (t+11) (.int l (t+10)),ent w "__init__" (t+20) (.ref (n+13)),ent w "__static_attributes__" (t+23) (.ref (n+14))] 5},
  {cls:=.type "tuple",data:=.seq #[]},
  {cls:=.none,data:=.fields #[.int (l+2) 0,.int 4 0,.ref (n+12)]},
  {cls:=.type "code",data:=.fields #[.str x (t+2),.str x (t+3),.str "/claim/cut.py" (t+4),.int l 0,.int 0 0,.int 0 0,.int 0 0,.int 0 0,.ref (n+3),.bool false,.int 181 0,.ref (n+4),.none,.none,.none,.none,.int (t+5) 0,.int l 0,.str "/claim/cut.py" (t+6)]},
  {cls:=.type "frame",data:=.plain,slots:=#[some (.ref (n+5)),some (.ref 3),some (.ref (n+2)),none,some m,none,some (.ref 0)]},
  {cls:=.type "tuple",data:=.seq #[]},
  {cls:=.none,data:=.fields #[]},
  {cls:=.type "tuple",data:=.seq #[.str "self" (t+15),.str "many" (t+16),.str "most" (t+17)]},
  {cls:=.type "tuple",data:=.seq #[]},
  {cls:=.none,data:=.func f},
  {cls:=.type "code",data:=.fields #[.str "__init__" (t+12),.str "TooGreat.__init__" (t+13),.str "/claim/cut.py" (t+14),.int (l+2) 0,.int 3 0,.int 0 0,.int 0 0,.int 3 0,.ref (n+7),.bool true,.int 181 0,.ref (n+8),.none,.ref (n+9),.ref (n+10),.ref (n+11),.int (t+18) 0,.int (l+2) 0,.str "/claim/cut.py" (t+19)]},
  {cls:=.type "function",data:=.func {f with globals:=3,pyModule:=m,code:=.ref (n+12)}},
  {cls:=.type "tuple",data:=.seq #[.str "many" (t+21),.str "most" (t+22)]},
  {cls:=.type "dict",data:=.dict #[ent w "__module__" (t+7) m,ent w "__firstlineno__" (t+11) (.int l (t+10)),ent w "__init__" (t+20) (.ref (n+13)),ent w "__static_attributes__" (t+23) (.ref (n+14)),ent w "__doc__" (t+24) .none] 2},
  {cls:=.type "type",data:=.cls {name:=x,bases:=[.ref b],mro:=[.ref (n+16),.ref b,.type "ValueError",.type "Exception",.type "BaseException",.type "object"],ns:=n+15,qualname:=x},slots:=#[some (.ref n),none,some (.str x t),some (.str x (t+8)),some (.builtin "ValueError.__new__"),some (.bool true)]},
  {cls:=.type "super",data:=.fields #[.ref (n+16),.ref (n+16),.ref (n+16)]},
  {cls:=.type "builtin_function_or_method",data:=.fields #[.builtin "object.__init_subclass__",.ref (n+16)]}]
def tgF(w:World)(n t:Nat)(b:Addr)(a:Value)(c:List (Str × Int))(d:Stmt)(l:Int)(s:Shared):Shared:=
 let m:=n+12*c.length;let u:=t+16*c.length
 {s with toks:=u+27,heap:={s.heap with objs:=⟨atL (Nd (ZM w n t c++[ent w "TooGreat" (u+26) (.ref (m+16))])) 3 (atL (Ng (aj n c++[.int l 0,.int 0 0,.ref (m+5)])) 12 (atL (Nf (Xe n c++[.ref (m+16)])) b s.heap.objs.toList))++(af w b a n t c++QK w m u b a d l)⟩}}
def wQ(p:Program):Env:={scope:=p.main.scope,locals:=mainNs,globals:=mainNs,cells:=[],code:=.ref 13,frame:=some 14}
noncomputable def mB:Option Value:=some (.ref 6)
noncomputable def S0(p:Program)(w:World):Shared:=(G7 BN p w 100000).getD (start (opening p)).1
def SA(p:Program)(w:World):Shared:=((topGo BN p w 11 mB 12 (S0 p w) (topStub p)).map Prod.fst).getD (S0 p w)
noncomputable def Bd(p:Program)(k:Nat):List Stmt:=(BC p).take 2++(((BC p).drop 2).take k++(BC p).drop (2+k))
def Cd(p:Program)(k:Nat):Code:=.body (Bd p k) (wQ p)
def S1(p:Program)(k:Nat)(w:World):Shared:=((segRun BN p w 11 mB 1 1000 (SA p w) (G0 ((BC p).take 2) (wQ p) (Cd p k) default [DE default])).map λr=>r.2.1).getD (SA p w)
noncomputable def Rm(l:Nat):Pos:=⟨l,0,l+1,8⟩
noncomputable def Rn(l:Nat):Pos:=⟨l,0,l+5,24⟩
def S3(p:Program)(c:List (Str × Int))(l:Nat)(w:World):Shared:=tgF w 28 207 24 (.str "evenhues.errors" 187) c ((BC p).getD (2+c.length) (.Pass ⟨0,0,0,0⟩)) l (S1 p (c.length+1) w)
def WI(p:Program)(h:Heap)(z:Shared):Bool:=staticsOk (Gy p.main.body) h z.heap&&namesBound p z.heap&&gensDone z&&laidKept h z.heap
def chk(p:Program)(h:Heap)(z:Shared):Option Shared:=match WI p h z with
 |true=>some z
 |false=>none
def cQ{Yf}{Y:World->α}{T0 TA T1 T2:World->Shared}
 (x:cd=.body (l1++(l2++l3)) env)
 (u:∀w,G7 BN p w N=some (T0 w))
 (s:∀w,((T0 w).heap.isNs AO&&(T0 w).gens.size == 0,(T0 w).heap.objs.size,(T0 w).heap.nsMap AO "__annotations__")=(true,m,ann))
 (o:∀w,topGo BN p w m ann k0 (T0 w) (topStub p)=some (TA w,⟨denote BN (.body (l1++(l2++l3)) env),cd,b0,[DE qq]⟩))
 (n:∀w,segRun BN p w m ann 1 1 (TA w) (blockOf (l1++(l2++l3)) env cd b0 [DE qq])=some (.next,TA w,cd,b0))
 (i:∀w,segRun BN p w m ann 1 n1 (TA w) (G0 l1 env cd b0 [DE qq])=some (.next,T1 w,cd,b1))
 (f:∀w,segRun BN p w m ann 1 n2 (T1 w) (G0 l2 env cd b1 [DE qq])=some (.next,T2 w,cd,b2))
 (d:∀w,((topRun BN p w m ann n3 (T2 w) (restOf l3 env cd b2 [DE qq])).bind (chk p (T0 w).heap)).map (λz=>(openSeen q loose (Gy p.main.body) Xt true z,Yf z))=some (openGood q loose,Y w))
 (l:Nat.ble (k0+(1+(n1+(n2+n3)))) N=true):LeftO p q loose Xt Yf Y N:=λw=>by
 have h:=s w;simp only[G8]at h;obtain⟨r,c,b⟩:=Bc.mp (d w);obtain⟨v,a,k⟩:=Eo.mp c;have g:=topRun_mono (N-(k0+(1+(n1+(n2+n3))))) _ _ _ _ (go_top (o w) (piece_block (n w) (piece_app (i w) (piece_app (f w) a))));rw[Nat.add_sub_cancel' (Nat.le_of_ble_eq_true l)]at g;have t:topFrom BN p w N (T0 w)=some r:=by unfold topFrom;rw[h.1,h.2.1,h.2.2];dsimp only;rw[g];unfold chk WI at k;exact k
 unfold openEnds;rw[u w,F4,t];exact congrArg some b
def Qy{B A y w x v t s:Type}{o:Option Shared}{f:Shared->B × A × y × w × x × v × t}{g:Shared->s}{a}{b}{c}{d}{e}{i}{j}{u}(r:o.map (λz=>(f z).1)=some a)(m:o.map (λz=>((f z).2.1,(f z).2.2.1))=some (b,c))(q:o.map (λz=>(f z).2.2.2.1)=some d)(l:o.map (λz=>((f z).2.2.2.2.1,(f z).2.2.2.2.2.1))=some (e,i))(n:o.map (λz=>(f z).2.2.2.2.2.2)=some j)(k:o.map (λz=>(g z,WI p h z))=some (u,true)):(o.bind (chk p h)).map (λz=>(f z,g z))=some ((a,b,c,d,e,i,j),u):=by
 cases o with
 |none=>cases k
 |some z=>
  simp only[Gz,DG,G8]at r m q n k l;have C:chk p h z=some z:=by unfold chk;rw[k.2]
  rw[F4,C,<-r,<-m.1,<-m.2,<-q,<-l.1,<-l.2,<-n,<-k.1];rfl
structure XT where
 a:List Str
 c:List Str
 b:List Str
def adH(h:Heap)(x:Str):Option Addr:=match nsH h x with
 |some (some (.ref a))=>some a
 |_=>none
def TF(h:Heap)(x:Str):List (Addr × Obj):=match adH h x with
 |some a=>(match h.get? a with
  |some o=>(match o.data with
   |.cls cd=>(a,o)::(match h.get? cd.ns with
    |some n=>if yd n then [] else [(cd.ns,n)]
    |none=>[])
   |_=>[])
  |none=>[])
 |none=>[]
def kcH(h:Heap):List Str->Frag
 |[]=>[]
 |x::xs=>TF h x++kcH h xs
noncomputable def veM:List Value:=[.type "ValueError",.type "Exception",.type "BaseException",.type "object"]
noncomputable def dI(K:Frag)(C:Addr):Bool:=(findIn K (.ref C) "__getattribute__" == some (some (.builtin "BaseException.__getattribute__")))&&(findIn K (.ref C) "__getattr__" == some none)&&(findIn K (.ref C) "__class__" == some (some (.builtin "object.__class__"))) &&
 (subIn K (.ref C) (.type "BaseException") == some true)&&(subIn K (.ref C) (.type "object") == some true)&&(clsIn K C).isSome
def YN(h:Heap)(C:Addr)(b:List Value):Bool:=match h.get? C with
 |some o=>(match o.data with
  |.cls cd=>(cd.mro == .ref C::b)&&(match h.get? cd.ns with
   |some n=>!yd n
   |none=>false)
  |_=>false)
 |none=>false
def bmB(h:Heap):Bool:=match adH h "__builtins__" with
 |some b=>(match h.get? b with
  |some o=>!yd o
  |none=>false)
 |none=>false
def gq(h:Heap)(x:Str):Option Addr:=match adH h x with
 |some f=>(match h.get? f with
  |some o=>(match o.data with
   |.func b=>(match b.code with
    |.ref c=>(match h.get? c with
     |some a=>(match a.data with
      |.fields vs=>(match (vs[11]?:Option Value) with
       |some (.ref P)=>some P
       |_=>none)
      |_=>none)
     |none=>none)
    |_=>none)
   |_=>none)
  |none=>none)
 |none=>none
def m8(X:XT)(h:Heap):Bool:=match adH h "HueError" with
 |none=>false
 |some f=>X.a.all (λc=>(adH h c).isSome)&&blB h "ValueError"&&X.c.all (λc=>match adH h c with
  |none=>false
  |some C=>dI (kcH h ("HueError"::X.a)) C&&(exmOne (kcH h ("HueError"::X.a)) (.ref C) (.ref f) == some true)&&X.a.all (λd=>kitOne (kcH h ("HueError"::X.a)) (.ref C) (.ref ((adH h d).getD 0)) == some (decide (d=c))) &&
   (kitOne (kcH h ("HueError"::X.a)) (.ref C) (.type "ValueError") == some true)&&YN h C (.ref f::veM)) &&
  YN h f veM&&bmB h&&decide ((X.b.map (gq h)).Nodup)
noncomputable def slB(s:Array (Option Value)):Bool:=match s.toList with
 |[_,_,_,_,some (.builtin m),_]=>decide (m="ValueError.__new__")
 |_=>false
def ag(h:Heap)(C a:Addr):Bool:=match h.get? C with
 |some ⟨.type n,_,.cls cd,sl⟩=>decide (n="type")&&(cd.mro == .ref C::.ref a::veM)&&cd.hasDict&&!cd.hasDel&&slB sl&&h.isNs cd.ns
 |_=>false
noncomputable def fw(h:Heap)(C:Addr):Option Addr:=match h.get? C with
 |some ⟨_,_,.cls cd,_⟩=>(match h.nsMap cd.ns "__init__" with
  |some (.ref f)=>some f
  |_=>none)
 |_=>none
def Zd(h:Heap)(C:Addr):Option BB:=match fw h C with
 |some f=>(match h.get? f with
  |some ⟨.type n,_,.func a,_⟩=>if decide (n="function")&&fX h a.code "TooGreat.__init__" then some (UE a) else none
  |_=>none)
 |none=>none
noncomputable def Tc(K:Frag)(C D:Addr):Bool:=(findIn K (.ref C) "__setattr__" == some (some (.builtin "object.__setattr__")))&&(findIn K (.ref C) "many" == some none)&&(findIn K (.ref C) "most" == some none) &&
 (specialIn K (.ref D) "__getattribute__" == some (some (.builtin "type.__getattribute__")))&&readsIn K D (.type "type")&&(match findCls K (.ref D) (.type "type") "__init__" with
  |some (.val (.builtin m))=>decide (m="ValueError.__init__")
  |_=>false)
def kcG(h:Heap)(x:List Str):Frag:=(match h.get? cStatics with
 |some o=>if yd o then [] else [(cStatics,o)]
 |none=>[])++kcH h x
def VJ(X:XT)(h:Heap):Bool × Option BB:=match adH h "TooGreat" with
 |some C=>(match adH h "HueError" with
  |some D=>(ag h C D&&Tc (kcG h ("HueError"::X.a)) C D&&(exmOne (kcG h ("HueError"::X.a)) (.ref C) (.ref C) == some true)&&dI (kcG h ("HueError"::X.a)) C,Zd h C)
  |none=>(false,none))
 |none=>(false,none)
noncomputable def iT(s:Stmt):Stmt:=match s with
 |.ClassDef _ _ _ (st::_) _ _ _ _ _ _ _=>st
 |_=>.Pass ⟨0,0,0,0⟩
def Xq(s:Stmt):Bool × Option BB:=(true,some (BH "__init__" "TooGreat.__init__" (args s) (body s) (scope s) .none .none .none .none none .none .none))
def Qz{n m l:Type}{o:Option Shared}{f:Shared->n}{g:Shared->m}{r}{a}{b}{d:l}(c:(o.bind (chk p h)).map (λz=>(f z,g z))=some (a,b))(i:o.map q=some true)(k:o.map r=some d):(o.bind (chk p h)).map (λz=>(f z,(g z,(q z,r z))))=some (a,(b,(true,d))):=by
 cases o with
 |none=>cases i
 |some z=>
  rw[F4]at c ⊢;unfold chk at c ⊢;split
  . rename_i e
    rw[e]at c;simp only[Gz,DG,G8]at c i k ⊢;exact⟨c.1,c.2,i,k⟩
  . rename_i e;rw[e]at c;cases c
end Hd
end
section
set_option maxHeartbeats 0
open PySem PySem.W PyProof.Rows
namespace P64
def top(i:Nat):Stmt:=PySem.Challenge.pw_evenhues_k64_all_rings.main.body.getD i (.Pass ⟨0,0,0,0⟩)
def D:List (Str × Stmt):=(("is_whole":Str),top 22)::(("are_wholes":Str),top 23)::(("need_whole":Str),top 24)::(("need_length":Str),top 25)::(("is_strip":Str),top 28)::(("are_sizes":Str),top 30)::(("need_sizes":Str),top 31)::(("first_hue_wrong":Str),top 32)::(("product_of":Str),top 35)::(("need_small_sizes":Str),top 36)::(("may_follow":Str),top 37)::(("grown":Str),top 38)::(("all_strips":Str),top 39)::(("need_ring":Str),top 41)::(("going_round":Str),top 42)::(("are_unlike":Str),top 43)::(("is_whole_round":Str),top 44)::(("first_round_wrong":Str),top 45)::(("fits_round":Str),top 46)::(("all_rings":Str),top 49)::(("rings_many":Str),top 50)::(("first_ring":Str),top 51)::(("_law_cell_at":Str),top 53)::(("_law_pen":Str),top 54)::(("_law_draw":Str),top 55)::(("_law_kind":Str),top 56)::(("_law_got":Str),top 57)::(("_law_great":Str),top 58)::(("_law_rounds":Str),top 59)::(("_law_small":Str),top 60)::(("_law_ends_right":Str),top 61)::(("_law_rings":Str),top 62)::(("law":Str),top 63)::[]
noncomputable def gl:List (Str × Hd.G):=[("MOST_PLACES",.a 40),("LEAST_SIZE",.a 2),("MOST_SIZE",.a 8),("HUES",.b [0,1,2,3]),("MOST_PRODUCT",.a 12),("MOST_RING_LENGTH",.a 12)]
def q:Program:={PySem.Challenge.pw_evenhues_k64_all_rings with main:={PySem.Challenge.pw_evenhues_k64_all_rings.main with body:=[1,2,3,4,5,6,7,8,9,10,11,12,13,14,15,16,17,19,20,21,22,23,24,25,27,28,30,31,32,34,35,36,37,38,39,41,42,43,44,45,46,48,49,50,51,53,54,55,56,57,58,59,60,61,62,63].map top}}
def dd:DefRec:=Hd.TK "law" (top 63)
noncomputable def X:Hd.XT:=⟨["NoStrip","NoSizes","NoNumber","NoPlace","NoHue","NoDraft","NoPaper","NoFit","TooGreat","NoLot","NoRing","NoRound","NoStand","NoText","NoDeed","NoLine"],["NoSizes","NoNumber","TooGreat","NoRing"],["law"]⟩
noncomputable abbrev pr:Program:=PySem.Challenge.rw_evenhues_k64_all_rings.row.prog
noncomputable def TH:List (Str × Int):=[("NoStrip",4),("NoSizes",6),("NoNumber",8),("NoPlace",10),("NoHue",12),("NoDraft",14),("NoPaper",16),("NoFit",18),("NoLot",20),("NoRing",22),("NoRound",24),("NoStand",26),("NoText",28),("NoDeed",30),("NoLine",32)]
def Fz(w:World):Option Shared:=topRun BN pr w 11 Hd.mB 50000 (Hd.S3 pr TH 34 w) (restOf ((BC pr).drop 18) (Hd.wQ pr) (Hd.Cd pr 16) (Hd.Rn 34) [DE default])
def Sn(z:Shared):=openSeen q [] (Gy pr.main.body) (λs=>Fx PySem.Challenge.rw_evenhues_k64_all_rings.row.records s) true z
def e0:∀w,(Fz w).map (λz=>(Sn z).1)=some (expectedOf q):=by
 intro w
 kernel_rfl
def e1:∀w,(Fz w).map (λz=>((Sn z).2.1,(Sn z).2.2.1))=some (bltViewBooted,true):=by
 intro w
 kernel_rfl
def e2:∀w,(Fz w).map (λz=>(Sn z).2.2.2.1)=some true:=by
 intro w
 kernel_rfl
def e6:∀w,(Fz w).map (λz=>((Sn z).2.2.2.2.1,(Sn z).2.2.2.2.2.1))=some (pinGoodD (drecsOf q),plainGoodE q (looseW q [])):=by
 intro w
 kernel_rfl
def e3:∀w,(Fz w).map (λz=>(Sn z).2.2.2.2.2.2)=some (plainGoodD q [],wideGood q,clsGoodW q []):=by
 intro w
 kernel_rfl
def e4:∀w,(Fz w).map (λz=>(Hd.YV D gl z,Hd.WI pr (Hd.S0 pr w).heap z))=some (Hd.Xr D,true):=by
 intro w
 kernel_rfl
def e5:∀w,(Fz w).map (λz=>Hd.m8 X z.heap)=some true:=by
 intro w
 kernel_rfl
def e7:∀w,(Fz w).map (λz=>Hd.VJ X z.heap)=some (Hd.Xq (Hd.iT (top 17))):=by
 intro w
 kernel_rfl
def h0:∀w,G7 BN pr w 100000=some (Hd.S0 pr w):=by
 intro w
 kernel_rfl
def h1:∀w,((Hd.S0 pr w).heap.isNs AO&&(Hd.S0 pr w).gens.size == 0,(Hd.S0 pr w).heap.objs.size,(Hd.S0 pr w).heap.nsMap AO "__annotations__")=(true,11,Hd.mB):=by
 intro w
 kernel_rfl
def hA:∀w,topGo BN pr w 11 Hd.mB 12 (Hd.S0 pr w) (topStub pr)=some (Hd.SA pr w,⟨denote BN (.body (Hd.Bd pr 16) (Hd.wQ pr)),Hd.Cd pr 16,default,[DE default]⟩):=by
 intro w
 kernel_rfl
def hB:∀w,segRun BN pr w 11 Hd.mB 1 1 (Hd.SA pr w) (blockOf (Hd.Bd pr 16) (Hd.wQ pr) (Hd.Cd pr 16) default [DE default])=some (.next,Hd.SA pr w,Hd.Cd pr 16,default):=by
 intro w
 kernel_rfl
def hC:∀w,segRun BN pr w 11 Hd.mB 1 1000 (Hd.SA pr w) (G0 ((BC pr).take 2) (Hd.wQ pr) (Hd.Cd pr 16) default [DE default])=some (.next,Hd.S1 pr 16 w,Hd.Cd pr 16,Hd.Rm 2):=by
 intro w
 kernel_rfl
def hD:∀w,segRun BN pr w 11 Hd.mB 1 20000 (Hd.S1 pr 16 w) (G0 (((BC pr).drop 2).take 16) (Hd.wQ pr) (Hd.Cd pr 16) (Hd.Rm 2) [DE default])=some (.next,Hd.S3 pr TH 34 w,Hd.Cd pr 16,(Hd.Rn 34)):=by
 intro w
 kernel_rfl
def hE:∀w,((Fz w).bind (Hd.chk pr (Hd.S0 pr w).heap)).map (λz=>(Sn z,Hd.YV D gl z))=some (openGood q [],Hd.Xr D):=λw=>Hd.Qy (e0 w) (e1 w) (e2 w) (e6 w) (e3 w) (e4 w)
def left:PySem.W.LeftO pr q [] (λs=>Fx PySem.Challenge.rw_evenhues_k64_all_rings.row.records s) (λz=>(Hd.YV D gl z,(Hd.m8 X z.heap,Hd.VJ X z.heap))) (λ_=>(Hd.Xr D,(true,Hd.Xq (Hd.iT (top 17))))) 100000:=
 Hd.cQ (p:=pr) (T0:=Hd.S0 pr) (TA:=Hd.SA pr) (T1:=Hd.S1 pr 16) (T2:=Hd.S3 pr TH 34) (N:=100000) (m:=11) (k0:=12) (n1:=1000) (n2:=20000) (n3:=50000) (ann:=Hd.mB) (env:=Hd.wQ pr) (l1:=(BC pr).take 2) (l2:=((BC pr).drop 2).take 16) (l3:=(BC pr).drop 18) (cd:=Hd.Cd pr 16) (b0:=default) (b1:=Hd.Rm 2) (b2:=(Hd.Rn 34)) (qq:=default) rfl h0 h1 hA hB hC hD (λw=>Hd.Qz (hE w) (e5 w) (e7 w)) (by decide +kernel)
def R1:PySem.Challenge.rw_evenhues_k64_all_rings.wellSaid=true:=by kernel_rfl
def Za:PySem.W.defOf q PySem.Challenge.rw_evenhues_k64_all_rings.row.name=some (dd,[]):=by kernel_rfl
def hp:PySem.Challenge.rw_evenhues_k64_all_rings.row.prog.theDef PySem.Challenge.rw_evenhues_k64_all_rings.row.name=some (dd.params,dd.body,dd.scope):=by kernel_rfl
def hk:PySem.W.kwWritten? dd.params.kwonlyargs dd.params.kw_defaults=some []:=by kernel_rfl
def hwr:(!PySem.Challenge.rw_evenhues_k64_all_rings.row.writes||PySem.Challenge.rw_evenhues_k64_all_rings.row.records.isEmpty)=true:=by kernel_rfl
def ok:(PySem.W.chainsOk q&&PySem.W.opensWell PySem.Challenge.rw_evenhues_k64_all_rings.row.prog&&(PySem.W.frees PySem.Challenge.rw_evenhues_k64_all_rings.row.toRowW&&PySem.Challenge.rw_evenhues_k64_all_rings.row.within.isEmpty))=true:=by kernel_rfl
def hdf:dd.params.defaults=[]:=by kernel_rfl
theorem bare:PySem.Challenge.rw_evenhues_k64_all_rings.row.prog.bare:=⟨rfl,rfl,rfl,rfl,rfl,by decide +kernel⟩
def hw:PySem.Challenge.rw_evenhues_k64_all_rings.row.toRowW.promised:=by w_witness2
end P64
end
section
namespace L2
open PySem PySem.Spec PyProof.Rows
abbrev Key:=Sum Int Str
noncomputable def UY:Key->Value->Bool
 |.inl k,v=>Value.isInt k v
 |.inr x,v=>Value.isStrOf x v
noncomputable def NG(w:World):Key->Int
 |.inl k=>hashInt k
 |.inr x=>hashStr w x
def yP:∀{k} {v},UY k v=true->(∃i t,k=EK i/\v=GA i t)\/(∃x t,k=EL x/\v=GB x t)
 |.inl i,v,h=>by
  obtain⟨t,e⟩:=Value.isInt_shape (k:=i) (v:=v) h;exact .inl ⟨i,t,rfl,e⟩
 |.inr x,v,h=>by obtain⟨t,e⟩:=Value.isStrOf_shape (x:=x) (v:=v) h;exact .inr ⟨x,t,rfl,e⟩
def Se a b:decide ((EK a:Key)=EK b)=(a == b):=by
 by_cases e:a=b
 . subst e;simp
 . have h:¬(EK a:Key)=EK b:=λq=>e (EK.inj q)
   rw[decide_eq_false h];exact(beq_eq_false_iff_ne.mpr e).symm
def Sh a b:decide ((EL a:Key)=EL b)=decide (a=b):=by
 by_cases e:a=b
 . subst e;simp
 . have h:¬(EL a:Key)=EL b:=λq=>e (EL.inj q)
   rw[decide_eq_false h,decide_eq_false e]
def Sf a b:decide ((EK a:Key)=EL b)=false:=decide_eq_false (λq=>nomatch q)
def Sg a b:decide ((EL a:Key)=EK b)=false:=decide_eq_false (λq=>nomatch q)
def mr(p:Program)(w:World):PySem.KeyKind p w Key where
 is:=UY
 hash:=NG w
 inj:=λv a b g d=>by
  rcases yP g with⟨i,t,rfl,rfl⟩|⟨x,t,rfl,rfl⟩
  . rcases yP d with⟨j,u,rfl,e⟩|⟨y,u,rfl,e⟩
    . injection e with e1 _;rw[e1]
    . exact nomatch e
  . rcases yP d with⟨j,u,rfl,e⟩|⟨y,u,rfl,e⟩
    . exact nomatch e
    . injection e with e1 _;rw[e1]
 byValue:=λk v h=>by
  rcases yP h with⟨i,t,rfl,rfl⟩|⟨x,t,rfl,rfl⟩<;>rfl
 pyHash:=λc h=>by
  rcases yP c with⟨i,t,rfl,rfl⟩|⟨x,t,rfl,rfl⟩
  . exact wpAny_pyHash_int h
  . exact wpAny_pyHash_str h
 eqBool:=λf c h=>by
  rcases yP f with⟨i,t,rfl,rfl⟩|⟨x,t,rfl,rfl⟩
  . rcases yP c with⟨j,u,rfl,rfl⟩|⟨y,u,rfl,rfl⟩
    . rw[Se]at h;exact wpAny_eqBool_int h
    . rw[Sf]at h;exact Bi.int_str i t y u _ _ _ _ h
  . rcases yP c with⟨j,u,rfl,rfl⟩|⟨y,u,rfl,rfl⟩
    . rw[Sg]at h;exact Bi.str_int x t j u _ _ _ _ h
    . rw[Sh]at h;exact wpAny_eqBool_str h
 «strs»:=λk x t v h=>by
  rcases yP h with⟨i,u,rfl,e⟩|⟨y,u,rfl,e⟩
  . exact nomatch e
  . injection e with e1 _
    subst e1;cases v<;>rfl
inductive V where
 |g|f (b:Bool)|d (i:Int)|e (x:Str)|h (b:Array UInt8)|j (b:UInt64)|c (a:Addr)|k (n:String)
 deriving DecidableEq
def RelV:V->Value->Prop
 |.g,u=>u=AY
 |.f b,u=>u=Dz b
 |.d i,u=>∃t,u=GA i t
 |.e x,u=>∃t,u=GB x t
 |.h b,u=>∃t,u=Value.bytes b t
 |.j b,u=>∃t,u=Value.float b t
 |.c a,u=>u=AA a
 |.k n,u=>u=DP n
abbrev Vals:List V->List Value->Prop:=Paired RelV
theorem Vals.length(r:Vals xs us):xs.length=us.length:=G9 r
theorem Vals.get:∀{xs} {us} {i:Nat} {x},Vals xs us->xs[i]?=some x->∃u,us[i]?=some u/\RelV x u
 |_,_,_,_,.nil,e=>by simp at e
 |_,_,0,_,.cons r _,e=>by simp at e;subst e;exact⟨_,rfl,r⟩
 |_,_,i+1,x,.cons _ t,e=>by
  obtain⟨u,w,j⟩:=Vals.get (i:=i) (x:=x) t (by simpa using e)
  exact⟨u,by simpa using w,j⟩
theorem Vals.set(r:RelV x u):∀{xs} {us} i,Vals xs us->Vals (xs.set i x) (us.set i u)
 |_,_,_,.nil=>.nil
 |_,_,0,.cons _ t=>.cons r t
 |_,_,i+1,.cons q t=>.cons q (Vals.set r i t)
theorem Vals.append:∀{xs ys} {us ws},Vals xs us->Vals ys ws->Vals (xs++ys) (us++ws)
 |_,_,_,_,.nil,s=>s
 |_,_,_,_,.cons r t,s=>.cons r (Vals.append t s)
theorem Vals.take:∀{xs} {us} n,Vals xs us->Vals (xs.take n) (us.take n)
 |_,_,0,_=>.nil
 |_,_,_+1,.nil=>.nil
 |_,_,n+1,.cons r t=>.cons r (Vals.take n t)
theorem Vals.drop:∀{xs} {us} n,Vals xs us->Vals (xs.drop n) (us.drop n)
 |_,_,0,r=>r
 |_,_,_+1,.nil=>.nil
 |_,_,n+1,.cons _ t=>Vals.drop n t
def Vals.none_of:∀{xs} {us} {i:Nat},Vals xs us->xs[i]?=none->us[i]?=none:=λ{xs us i} r e=>by have a:=r.length;have h:xs.length<=i:=C8.mp e;exact C8.mpr ⋯
def lq:Option V->Option Value->Prop
 |some v,some u=>RelV v u
 |none,none=>True
 |_,_=>False
def KV{a:Type}:List (a × V)->List (a × Value)->Prop:=Paired λ(p:a × V) (q:a × Value)=>p.1=q.1/\RelV p.2 q.2
noncomputable def kV:Key->V
 |.inl i=>.d i
 |.inr x=>.e x
inductive HO where
 /-- a list -/
 |b (xs:List V)
 /-- a tuple (never changes) -/
 |c (xs:List V)
 /-- a dict whose keys are ints and texts;one whose keys are tuples of ints and texts (the empty one is both) -/
 |i (kvs:List (Key × V))|m (kvs:List (List Key × V))
 /-- a set of ints: its members,its size -/
 |j (S:Int->Bool) (n:Nat)
 /-- an instance of the class at C,its dict at dx,its attributes -/
 |p (C dx:Addr) (fs:List (Str × V))
 /-- the dict of the instance at x -/
 |d (x:Addr)
 /-- the dict of an exception -/
 |l (fs:List (Str × V))
 /-- a bound method,f of x -/
 |q (f x:Addr)
 /-- a range object lo,lo+1,.. below hi -/
 |r (lo hi:Int)
 /-- a thing that is known to the object (the script;a dict while a loop walks it): read,never written while it is so -/
 |e (o:Obj) (u:HO)
 /-- a code object's table -/
 |g (ps:Array Value)
 /-- any other thing,by what is true of its one object (a def of one's own: SetO a S n:=HO.ext λh=>..) -/
 |k (φ:Heap->Prop)
abbrev Hp:=Addr->Option HO
def sD(h:Heap)(a:Addr)(i:Array Value):Prop:=∃o,h.get? a=some o/\o.cls=.type "tuple"/\∃n,o.data=.seq i n/\o.dict=none
def sD.tup{h:Heap}{a:Addr}{i:Array Value}(x:sD h a i):IsTup h a i:=let ⟨o,e,c,n,d,_⟩:=x;⟨o,e,c,n,d⟩
def sD.lt(x:sD h a items):a<h.objs.size:=let ⟨_,e,_⟩:=x;Ag e
def sD.new(h:Heap)items:sD (h.push {cls:=.type "tuple",data:=.seq items}) h.objs.size items:=⟨_,Au _ rfl,rfl,_,rfl,rfl⟩
noncomputable def upd(H:Hp)(a:Addr)(o:HO):Hp:=λb=>if b=a then some o else H b
def zJ:upd H a o a=some o:=by unfold upd;rw[if_pos rfl]
def zG(h:b≠a):upd H a o b=H b:=by unfold upd;rw[if_neg h]
def zR{H:Hp}(h:H a=some o)(c:H b=none):a≠b:=by intro e;subst e;rw[h]at c;cases c
section
variable (P:Program)(w:World)
def yA(H:Hp)(h:Heap)(a:Addr):HO->Prop
 |.b xs=>xs.length<=Ao/\∃(y:List Value) (n:Nat),Vals xs y/\h.get? a=some {cls:=.type "list",data:=.seq y.toArray n}
 |.c xs=>xs.length<=Ao/\∃y:List Value,Vals xs y/\sD h a y.toArray
 |.i kvs=>kvs.length<=Ao/\(a == Cg)=false/\∃z,KV kvs z/\h.DictOf (mr P w) a z
 |.m kvs=>kvs.length<=Ao/\(a == Cg)=false/\∃xs:List (List Key × Addr × Value),
  Paired (λ(p:List Key × V) (q:List Key × Addr × Value)=>p.1=q.1/\H q.2.1=some (.c (p.1.map kV))/\RelV p.2 q.2.2) kvs xs /\
  ∃o D E,h.get? a=some o/\o.ExactDict/\o.data=.dict D E/\D.toList=xs.map (entryOfKey (tupleKind (mr P w)))/\(xs.map (·.1)).Nodup
 |.j S n=>h.SetOf (intKind P w) a S n
 |.p C dx fs=>H dx=some (.d a)/\fs.length<=1000/\dx≠a/\h.get? a=some (GC C dx) /\
  ∃s,h.Ns1 dx s/\(∀f,lq (fs.lookup f) (s f))/\EY s (fs.map (·.1))
 |.d _=>∃o,h.get? a=some o
 |.l fs=>∃s,h.Ns1 a s/\∀f,lq (fs.lookup f) (s f)
 |.r lo hi=>∃t u v,h.get? a=some {cls:=.type "range",data:=.fields #[.int lo t,.int hi u,.int 1 v]}
 |.e o u=>h.get? a=some o/\yA H h a u
 |.g ps=>h.get? a=some {cls:=.none,data:=.fields ps}
 |.q f x=>h.get? a=some (FJ (.ref f) (.ref x))
 |.k φ=>φ h/\(∃o,h.get? a=some o)/\∀B A:Heap,φ B->(∀o,B.get? a=some o->A.get? a=some o)->φ A
def HOk(H:Hp)(h:Heap):Prop:=∀a o,H a=some o->yA P w H h a o
end
theorem yA.lt(x:yA P w H h a o):a<h.objs.size:=by
 cases o with
 |b xs=>obtain⟨_,_,_,_,e⟩:=x;exact Ag e
 |c xs=>obtain⟨_,_,_,p⟩:=x;exact p.lt
 |i s=>obtain⟨_,_,_,_,o,_,_,e,_⟩:=x;exact Ag e
 |m s=>obtain⟨_,_,_,_,o,_,_,e,_⟩:=x;exact Ag e
 |j S n=>obtain⟨o,_,_,_,e,_⟩:=x;exact Ag e
 |p C B t=>obtain⟨_,_,_,e,_⟩:=x;exact Ag e
 |d y=>obtain⟨_,e⟩:=x;exact Ag e
 |l t=>obtain⟨_,⟨_,_,_,e,_⟩,_⟩:=x;exact Ag e
 |r z A=>obtain⟨_,_,_,e⟩:=x;exact Ag e
 |e v u=>obtain⟨e,_⟩:=x;exact Ag e
 |g ps=>exact Ag (show h.get? a=some _ from x)
 |q f y=>exact Ag (show h.get? a=some _ from x)
 |k φ=>obtain⟨_,⟨_,e⟩,_⟩:=x;exact Ag e
theorem Paired.Pd:∀{l₁} {l₂},Paired F l₁ l₂->(∀a b,F a b->G a b)->Paired G l₁ l₂
 |_,_,.nil,_=>.nil
 |_,_,.cons r t,f=>.cons (f _ _ r) (Paired.Pd t f)
def yA.pq(x:yA P w H h a o)(k:∀b u,(b=a\/H b=some (.d a))->h.get? b=some u->h'.get? b=some u)
 (T:∀b,H b=some (.d a)->H' b=some (.d a)) (R:∀b F,H b=some (.c F)->H' b=some (.c F)):yA P w H' h' a o:=by
 induction o with
 |b F=>obtain⟨z,D,n,r,e⟩:=x;exact⟨z,D,n,r,k _ _ (.inl rfl) e⟩
 |c F=>obtain⟨z,D,r,s,e,c⟩:=x;exact⟨z,D,r,s,k _ _ (.inl rfl) e,c⟩
 |i I=>obtain⟨z,y,K,r,s,A,B,e,c⟩:=x;exact⟨z,y,K,r,s,A,B,k _ _ (.inl rfl) e,c⟩
 |m I=>
  obtain⟨z,y,F,r,s,A,B,e,c⟩:=x;exact⟨z,y,F,Paired.Pd r λp q z=>⟨z.1,R _ _ z.2.1,z.2.2⟩,s,A,B,k _ _ (.inl rfl) e,c⟩
 |j S n=>obtain⟨s,A,B,t,e,c⟩:=x;exact⟨s,A,B,t,k _ _ (.inl rfl) e,c⟩
 |p C L V=>
  obtain⟨d,z,N,e,G,⟨E,A,B,X,c⟩,r⟩:=x;exact⟨T _ d,z,N,k _ _ (.inl rfl) e,G,⟨E,A,B,k _ _ (.inr d) X,c⟩,r⟩
 |d y=>obtain⟨s,e⟩:=x;exact⟨s,k _ _ (.inl rfl) e⟩
 |l V=>obtain⟨G,⟨E,A,B,e,c⟩,r⟩:=x;exact⟨G,⟨E,A,B,k _ _ (.inl rfl) e,c⟩,r⟩
 |r Y Z=>obtain⟨t,u,v,e⟩:=x;exact⟨t,u,v,k _ _ (.inl rfl) e⟩
 |e s u Q=>obtain⟨e,q⟩:=x;exact⟨k _ _ (.inl rfl) e,Q q⟩
 |g ps=>
  have e:h.get? a=some {cls:=.none,data:=.fields ps}:=x;show h'.get? a=some {cls:=.none,data:=.fields ps};exact k a _ (.inl rfl) e
 |q f y=>
  have e:h.get? a=some (FJ (.ref f) (.ref y)):=x;show h'.get? a=some (FJ (.ref f) (.ref y));exact k a _ (.inl rfl) e
 |k φ=>obtain⟨p,⟨o,e⟩,J⟩:=x;exact⟨J _ _ p λo q=>k _ _ (.inl rfl) q,⟨o,k _ _ (.inl rfl) e⟩,J⟩
theorem HOk.lt(x:HOk P w H h)(e:H a=some o):a<h.objs.size:=(x a o e).lt
def HOk.fresh(x:HOk P w H h)(e:h.objs.size<=a):H a=none:=by
 cases q:H a with
 |none=>rfl
 |some u=>exact absurd (Aw (x.lt q) e) (Bj _)
def HOk.kept(x:HOk P w H h)(k:∀b u,h.get? b=some u->h'.get? b=some u):HOk P w H h':=λa o e=>
 (x a o e).pq (λb u _ q=>k b u q) (λ_ q=>q) λ_ _ q=>q
def HOk.laid(x:HOk P w H h)(k:∀b u,h.get? b=some u->h'.get? b=some u)(f:h.objs.size<=a)(n:yA P w (upd H a o) h' a o):HOk P w (upd H a o) h':=λb u e=>by
 have d:=x.fresh f;by_cases hb:b=a
 . subst hb;rw[zJ]at e;cases e;exact n
 . rw[zG hb]at e
   exact(x b u e).pq (λc v _ q=>k c v q) (λc q=>by rw[zG (zR q d)];exact q) λc g q=>by rw[zG (zR q d)];exact q
def Rd(H:Hp)(a:Addr)(u:HO):Prop:=H a=some u\/∃o,H a=some (.e o u)
def Rd.ok(r:Rd H a u)(x:HOk P w H h):yA P w H h a u:=by
 rcases r with r|⟨o,r⟩
 . exact x a u r
 . obtain⟨_,q⟩:=x a _ r
   exact q
def Mut:Option HO->Prop
 |some (.b _)=>True
 |some (.i _)=>True
 |some (.m _)=>True
 |some (.j _ _)=>True
 |some (.p _ _ _)=>True
 |some (.k _)=>True
 |_=>False
def HOk.write(s:HOk P w H h)(m:Mut (H x))(p:e=x\/H e=some (.d x))(k:∀b u,b≠e->h.get? b=some u->h'.get? b=some u)(l:∃u,h'.get? e=some u)
 (i:yA P w (upd H x o') h' x o'):HOk P w (upd H x o') h':=λb u q=>by
 have n:∀c y,H c=some (.d y)->c≠x:=λc y r z=>by subst z;rw[r]at m;exact m
 have a:∀c f,H c=some (.c f)->c≠x:=λc f r z=>by subst z;rw[r]at m;exact m
 by_cases hb:b=x
 . subst hb;rw[zJ]at q;cases q;exact i
 . rw[zG hb]at q
   by_cases hbe:b=e
   . have o:H b=some (.d x):=by
      rcases p with z|z
      . exact absurd (hbe.trans z) hb
      . rw[hbe];exact z
     rw[q]at o;cases o;obtain⟨v,t⟩:=l;exact⟨v,by rw[hbe];exact t⟩
   . refine(s b u q).pq (λc v g r=>k c v ?_ r) (λc r=>by rw[zG (n c b r)];exact r) λc f r=>by rw[zG (a c f r)];exact r
     rcases g with rfl|g
     . exact hbe
     . rintro rfl
       rcases p with z|z
       . exact n c b g z
       . rw[g]at z;cases z;exact hb rfl
structure Un(fs ex:List Addr)(H H':Hp)(h h':Heap):Prop where
 f:∀b o,h.get? b=some o->H b=none->b ∉ fs->b ∉ ex->h'.get? b=some o
 i:∀b o,h.get? b=some o->H b=none->b∈fs->b ∉ ex->∃sl,h'.get? b=some {o with slots:=sl}
 d:∀b o,h.get? b=some o->H b=none->b ∉ ex->H' b=none
 c:∀b o,h.get? b=some o->b ∉ ex->∃o',h'.get? b=some o'
 l:∀b xs,H b=some (.c xs)->H' b=some (.c xs)
 g:∀b o u,H b=some (.e o u)->H' b=some (.e o u)
 j:∀b ps,H b=some (.g ps)->∃more,H' b=some (.g (ps++more))
def Un.any(u:Un fs ex H H1 h h1)(q:h.get? b=some ob)(n:H b=none)(a:b ∉ ex):∃e,h1.get? b=some {ob with slots:=e}:=by
 by_cases hb:b∈fs
 . exact u.i b ob q n hb a
 . exact⟨ob.slots,u.f b ob q n hb a⟩
def Un.kept(k:∀b u,h.get? b=some u->h'.get? b=some u):Un fs ex H H h h':=
 ⟨λb o q _ _ _=>k b o q,λb o q _ _ _=>⟨o.slots,k b o q⟩,λ_ _ _ n _=>n,λb o q _=>⟨o,k b o q⟩,λ_ _ q=>q,λ_ _ _ q=>q,λ_ p q=>⟨#[],by rw[q];simp⟩⟩
def Un.refl:Un fs ex H H h h:=Un.kept λ_ _ q=>q
def Un.laid(k:∀b u,h.get? b=some u->h'.get? b=some u)(p:h.objs.size<=a)(m:H a=none):Un fs ex H (upd H a o) h h' where
 f:=λb u q _ _ _=>k b u q
 i:=λb u q _ _ _=>⟨u.slots,k b u q⟩
 d:=λb u q n _=>by rw[zG (AB (Aw (Ag q) p))];exact n
 c:=λb u q _=>⟨u,k b u q⟩
 l:=λb x q=>by rw[zG (zR q m)];exact q
 g:=λb u x q=>by rw[zG (zR q m)];exact q
 j:=λb r q=>⟨#[],by rw[zG (zR q m),q];simp⟩
def Un.write(m:Mut (H x))(p:e=x\/H e=some (.d x))(k:∀b u,b≠e->h.get? b=some u->h'.get? b=some u)(c:∃u,h'.get? e=some u):Un fs ex H (upd H x o) h h':=by
 have f:∀b,H b=none->b≠x:=λb n z=>by subst z;rw[n]at m;exact m
 have g:∀b,H b=none->b≠e:=λb n z=>by
  subst z;rcases p with r|r
  . exact f b n r
  . rw[n]at r;cases r
 have a:∀b u,H b=some u->¬Mut (some u)->b≠x:=λb u q l z=>by subst z;rw[q]at m;exact l m
 refine⟨λb u q n _ _=>k b u (g b n) q,λb u q n _ _=>⟨u.slots,k b u (g b n) q⟩,λb u q n _=>by rw[zG (f b n)];exact n,λb u q _=>?_,
  λb i q=>by rw[zG (a b _ q λz=>z)];exact q,λb u i q=>by rw[zG (a b _ q λz=>z)];exact q,λb s q=>⟨#[],by rw[zG (a b _ q λz=>z),q];simp⟩⟩
 by_cases hbe:b=e
 . subst hbe;exact c
 . exact⟨u,k b u hbe q⟩
noncomputable def trk(h:Heap)(H:Hp):List Addr:=(Ai h.objs.size).filter λa=>(H a).isSome
def mX(h:Heap)(H:Hp):Heap:=PySem.W.hideAll h (trk h H)
def dz h H:(mX h H).objs.size=h.objs.size:=PySem.W.hideAll_size _ _
def Zb(e:h.get? b=some o)(n:H b=none):(mX h H).get? b=some o:=
 PySem.W.hideAll_get _ e λa=>by have q:(H b).isSome=true:=(BJ.mp a).2;rw[n]at q;simp at q
def VL(e:(mX h H).get? b=some o):h.get? b=some o/\H b=none:=by
 have a:h.get? b=some o:=PySem.W.of_hideAll (trk h H) e;refine⟨a,?_⟩;cases q:H b with
 |none=>rfl
 |some x=>
  have c:b∈trk h H:=BJ.mpr ⟨Am.mpr (Ag a),by simp[q]⟩
  have z:(mX h H).get? b=none:=PySem.W.hideAll_none (trk h H) c;rw[z]at e;cases e
structure Mod(K:Aa)(mg:Str->Option Value)(base:Heap):Prop where
 a:K.In base
 c:base.Ns AO mg
 d:∃mb,base.Ns FW mb/\∀x:Str,x≠"__name__"->mb x=Cu x
 b:base.NoLimit
structure Cx where
 f:Program
 w:World
 K:Aa
 d:Str->Option Value
 g:Heap
 A:Around
 N:List Str
 l:Shared
 r:Hp
 a:Env
 k:List Env
 h:List Env
 m:List Addr
 n:Str->Bool
 j:Bool
 q:List (Addr × Obj)
 i:Value->Shared->Prop
noncomputable def frs(l:List Env):List Addr:=l.filterMap (·.frame)
abbrev Cx.fs(X:Cx):List Addr:=frs X.k
def Vis(s:Scope)(x:Str):Prop:=s.names.lookup x=some .local\/s.names.lookup x=some .cell\/s.names.lookup x=some .free
def Loc(s:Scope)(x:Str):Prop:=s.names.lookup x=some .local\/s.names.lookup x=some .cell
def Look(e:Env)(h:Heap)(m:Str->Option Value)(x:Str)(u:Value):Prop:=
 (e.kindOf x=some .local/\m x=some u)\/((e.kindOf x=some .cell\/e.kindOf x=some .free)/\∃c,e.cells.lookup x=some c/\h.IsCell c (some u))
structure Cx.Ok(X:Cx):Prop where
 i:Mod X.K X.d X.g
 a:X.a.scope.kind=.function
 k:X.a.globals=AO
 t:X.a.builtins=FW
 d:X.l.heap.objs.size<=X.a.locals
 s:∀x y c,X.a.cells.lookup x=some c->X.a.cells.lookup y=some c->x=y
 r:∀x,(X.a.kindOf x=some .cell\/X.a.kindOf x=some .free)->∃c,X.a.cells.lookup x=some c
 q:∀x c,X.n x=true->X.a.cells.lookup x=some c->X.l.heap.objs.size<=c
 j:X.j=true->X.A.handled=none
 g:X.A.frames=some X.h
 w:X.h=X.k\/(X.h=X.a::X.k/\X.a.frame=some X.a.locals)
 G:∀b∈X.m,b≠X.a.locals/\∀x c,X.a.cells.lookup x=some c->c≠b
 B:∀b o,X.g.get? b=some o->X.l.heap.get? b=some o/\X.r b=none
 p:X.g.objs.size<=X.l.heap.objs.size
 m:∀b o,X.g.get? b=some o->b ∉ X.m
 l:∀b∈X.m,b ∉ X.fs
 D:X.l.heap.FunFrames X.g X.k
 u:∀b∈X.fs,X.r b=none
structure Inv(X:Cx)(pins:List (Addr × Obj))(σ:List (Option V))(H:Hp)(s:Shared):Prop where
 C:X.Ok
 P:s.os=X.l.os
 D:AllBare s.gens
 B:Un X.fs X.m X.r H X.l.heap s.heap
 M:∃m,s.heap.Ns X.a.locals m/\∀(i:Nat) (x:Str) (v:V),X.N[i]?=some x->σ[i]?=some (some v)->Vis X.a.scope x->∃u,RelV v u/\Look X.a s.heap m x u
 J:∀x c,X.a.cells.lookup x=some c->∃v,s.heap.IsCell c v
 G:H X.a.locals=none
 F:∀x c,X.a.cells.lookup x=some c->H c=none
 O:∀p∈X.q++pins,s.heap.get? p.1=some p.2/\H p.1=none/\p.1≠X.a.locals/\p.1 ∉ X.fs/\∀v,p.2.data≠.cell v
 j:HOk X.f X.w H s.heap
 R:σ.length=X.N.length
def Cx.Ok.NH{X:Cx}(a:X.Ok)(e:X.g.get? b=some o):b ∉ X.fs:=λh=>by have:=(a.D.mem h).1;rw[e]at this;cases this
def Inv.bs(I:Inv X pins σ H s):∀b o,X.g.get? b=some o->s.heap.get? b=some o/\H b=none:=λb o e=>
 ⟨I.B.f b o (I.C.B b o e).1 (I.C.B b o e).2 (I.C.NH e) (I.C.m b o e),I.B.d b o (I.C.B b o e).1 (I.C.B b o e).2 (I.C.m b o e)⟩
def Inv.bk(I:Inv X pins σ H s):∀b o,X.g.get? b=some o->s.heap.get? b=some o:=λb o e=>(I.bs b o e).1
def Inv.mod(I:Inv X pins σ H s):Mod X.K X.d X.g:=I.C.i
def Inv.kIn(I:Inv X pins σ H s):X.K.In s.heap:=I.C.i.a.keeps I.bk
theorem Inv.lt(I:Inv X pins σ H s):X.a.locals<s.heap.objs.size:=let ⟨_,h,_⟩:=I.M;h.lt
def Inv.sz(I:Inv X pins σ H s):X.l.heap.objs.size<=s.heap.objs.size:=Aq I.C.d (DH I.lt)
def Inv.NI(I:Inv X pins σ H s)(h:s.heap.objs.size<=a):a ∉ X.fs:=λc=>by obtain⟨_,o,b,_⟩:=I.C.D.mem c;exact absurd (Aw (Ag b) (Aq I.sz h)) (Bj _)
def Inv.cne(I:Inv X pins σ H s):∀x c,X.a.cells.lookup x=some c->c≠X.a.locals:=λx c e z=>by obtain⟨v,o,d,f⟩:=I.J x c e;obtain⟨m,⟨g,i,k,h,b,_⟩,_⟩:=I.M;rw[z,h]at d;cases d;rw[b]at f;cases f
def Inv.tW(I:Inv X pins σ H s):s.heap.FunFrames X.g X.k:=by
 have d:∀(l:List Env),(∀b∈frs l,b∈X.fs)->X.l.heap.FunFrames X.g l->s.heap.FunFrames X.g l:=by
  intro l;induction l with
  |nil=>intro _ _;trivial
  |cons j r m=>
   intro f t;obtain⟨v,⟨L,o,h,q,p,x⟩,n⟩:=t;have c:L∈X.fs:=f L (by unfold frs;rw[Bp,h];exact Ar)
   obtain⟨w,e⟩:=I.B.i L o p (I.C.u L c) c λz=>I.C.l L z c;exact⟨v,⟨L,_,h,q,e,x⟩,m (λb a=>f b (by unfold frs;rw[Bp,h];exact Af _ a)) n⟩
 exact d X.k (λ_ a=>a) I.C.D
def Inv.stack(I:Inv X pins σ H s):s.heap.FunFrames X.g X.h:=by
 rcases I.C.w with e|⟨e,c⟩
 . rw[e];exact I.tW
 . rw[e]
   obtain⟨m,b,_⟩:=I.M;refine .cons (by rw[I.C.a];decide) c b ?_ I.tW
   exact C9 (Aq I.C.p I.C.d)
def Inv.gb(I:Inv X pins σ H s):∀b∈frs X.h,b∈X.a.locals::X.fs:=λb c=>by
 rcases I.C.w with e|⟨e,d⟩
 . rw[e]at c;exact Af _ c
 . rw[e]at c
   unfold frs at c;rw[Bp,d]at c;exact c
def Inv.lP(I:Inv X pins σ H s):∀b∈frs X.h,H b=none:=λb a=>by
 rcases Al.mp (I.gb b a) with e|a
 . rw[e];exact I.G
 . obtain⟨_,o,c,_⟩:=I.C.D.mem a
   exact I.B.d b o c (I.C.u b a) λz=>I.C.l b z a
def Inv.step{ch:List Addr}(I:Inv X pins σ H s)
 (D:∀b∈ch,(b∈X.m\/X.l.heap.objs.size<=b)/\b≠X.a.locals/\(∀x c,X.a.cells.lookup x=some c->c≠b)/\∀p∈X.q++pins,p.1≠b)
 (A:∀b o,b≠X.a.locals->b ∉ X.fs->b ∉ ch->s.heap.get? b=some o->H b=none->h'.get? b=some o)
 (T:∀b o,b≠X.a.locals->b∈X.fs->b ∉ ch->s.heap.get? b=some o->H b=none->∃sl,h'.get? b=some {o with slots:=sl}) (t:∀b o,b ∉ ch->s.heap.get? b=some o->H b=none->H' b=none)
 (V:∀b o,b ∉ ch->s.heap.get? b=some o->∃U,h'.get? b=some U)
 (L:∀b Q,H b=some (.c Q)->H' b=some (.c Q)) (frzs:∀b o u,H b=some (.e o u)->H' b=some (.e o u)) (S:∀b ps,H b=some (.g ps)->∃more,H' b=some (.g (ps++more)))
 (ns:∀m,s.heap.Ns X.a.locals m->h'.Ns X.a.locals m) (hok:HOk X.f X.w H' h') (hg:AllBare g') :
 Inv X pins σ H' {s with heap:=h',gens:=g',drawn:=d',toks:=t'}:=by
 have W:∀b o,X.l.heap.get? b=some o->b≠X.a.locals:=λb o e=>AB (Aw (Ag e) I.C.d);have K:∀b o,X.l.heap.get? b=some o->b ∉ X.m->b ∉ ch:=λb o e h Y=>by
  rcases (D b Y).1 with z|z
  . exact h z
  . exact absurd (Aw (Ag e) z) (Bj _)
 have E:∀x c,X.a.cells.lookup x=some c->∀v,s.heap.IsCell c v->h'.IsCell c v:=λx c e v ⟨o,Z,hd⟩=>by
  have y:c ∉ ch:=λz=>(D c z).2.2.1 x c e rfl;by_cases hc:c∈X.fs
  . obtain⟨sl,q⟩:=T c o (I.cne x c e) hc y Z (I.F x c e)
    exact⟨_,q,hd⟩
  . exact⟨o,A c o (I.cne x c e) hc y Z (I.F x c e),hd⟩
 refine⟨I.C,I.P,hg,⟨λb o e n Y h=>?_,λb o e n Y h=>?_,λb o e n h=>?_,λb o e h=>?_,λb Q e=>L b Q (I.B.l b Q e),λb o Q e=>frzs b o Q (I.B.g b o Q e),λb ps e=>?_⟩,?_,λx c e=>?_,?_,λx c e=>?_,λp hp=>?_,hok,I.R⟩
 . exact A b o (W b o e) Y (K b o e h) (I.B.f b o e n Y h) (I.B.d b o e n h)
 . obtain⟨sl,N⟩:=I.B.i b o e n Y h
   obtain⟨sl',e2⟩:=T b _ (W b o e) Y (K b o e h) N (I.B.d b o e n h);exact⟨sl',e2⟩
 . obtain⟨U,N⟩:=I.B.c b o e h
   exact t b U (K b o e h) N (I.B.d b o e n h)
 . obtain⟨U,N⟩:=I.B.c b o e h
   exact V b U (K b o e h) N
 . obtain⟨m1,N⟩:=I.B.j b ps e
   obtain⟨m2,e2⟩:=S b _ N;exact⟨m1++m2,by rw[e2,Array.append_assoc]⟩
 . obtain⟨m,hn,hl⟩:=I.M
   refine⟨m,ns m hn,λi x v N e2 e3=>?_⟩;obtain⟨u,r,l⟩:=hl i x v N e2 e3;refine⟨u,r,?_⟩;rcases l with l|⟨k,c,e,z⟩
   . exact .inl l
   . exact .inr ⟨k,c,e,E x c e _ z⟩
 . obtain⟨v,z⟩:=I.J x c e
   exact⟨v,E x c e v z⟩
 . obtain⟨m,⟨o,_,_,Z,_⟩,_⟩:=I.M
   exact t _ o (λz=>(D _ z).2.1 rfl) Z I.G
 . obtain⟨v,o,Z,hd⟩:=I.J x c e
   exact t c o (λz=>(D c z).2.2.1 x c e rfl) Z (I.F x c e)
 . obtain⟨e,n,ne,nf,d⟩:=I.O p hp
   have y:p.1 ∉ ch:=λz=>(D p.1 z).2.2.2 p hp rfl;exact⟨A p.1 p.2 ne nf y e n,t p.1 p.2 y e n,ne,nf,d⟩
def Inv.un(I:Inv X pins σ H s)(u:Un X.fs [] H H' s.heap h')(a:HOk X.f X.w H' h'):Inv X pins σ H' {s with heap:=h',toks:=t'}:=by
 obtain⟨m,⟨o,E,J,t,r⟩,_⟩:=id I.M;obtain⟨A,y⟩:=u.any t I.G (by simp)
 exact I.step (g':=s.gens) (d':=s.drawn) (ch:=[]) (λ_ z=>nomatch z) (λb o _ k _ e n=>u.f b o e n k (by simp)) (λb o _ k _ e n=>u.i b o e n k (by simp)) (λb o _ e n=>u.d b o e n (by simp)) (λb o _ e=>u.c b o e (by simp)) u.l u.g u.j (λC x=>by obtain⟨B,p,q,h,v⟩:=x;rw[t]at h;cases h;exact⟨_,p,q,y,v⟩) a I.D
def Inv.call(I:Inv X pins σ H s)(u:Un (frs X.h) ch H H' s.heap h')(v:HOk X.f X.w H' h')(J:AllBare g')
 (t:∀b∈ch,(b∈X.m\/X.l.heap.objs.size<=b)/\b≠X.a.locals/\(∀x c,X.a.cells.lookup x=some c->c≠b)/\∀p∈X.q++pins,p.1≠b) :
 Inv X pins σ H' {s with heap:=h',gens:=g',drawn:=d',toks:=t'}:=by
 obtain⟨m,⟨o,R,T,C,r⟩,_⟩:=id I.M;obtain⟨N,y⟩:=u.any C I.G λz=>(t _ z).2.1 rfl;exact I.step (ch:=ch) t (λb o y K i e n=>u.f b o e n (λz=>(Al.mp (I.gb b z)).elim y K) i) (λb o _ _ i e n=>u.any e n i) (λb o i e n=>u.d b o e n i) (λb o i e=>u.c b o e i) u.l u.g u.j (λQ E=>by obtain⟨P,A,B,k,D⟩:=E;rw[C]at k;cases k;exact⟨_,A,B,y,D⟩) v J
def Inv.turned(I:Inv X pins σ H s)(k:∀b o,b≠it->s.heap.get? b=some o->h'.get? b=some o)(i:H it=none)(f:it≠X.a.locals)
 (B:it∈X.m\/X.l.heap.objs.size<=it) (A:∀x c,X.a.cells.lookup x=some c->c≠it) (y:∀p∈X.q++pins,p.1≠it):Inv X pins σ H {s with heap:=h',toks:=t'}:=by
 have d:∀b u,H b=some u->b≠it:=λb u e z=>by rw[z,i]at e;cases e
 refine I.step (g':=s.gens) (d':=s.drawn) (ch:=[it]) (λb w=>?_) (λb o _ _ h e _=>k b o (λz=>h (by simp[z])) e) (λb o _ _ h e _=>⟨o.slots,k b o (λz=>h (by simp[z])) e⟩) (λ_ _ _ _ n=>n)
  (λb o h e=>⟨o,k b o (λz=>h (by simp[z])) e⟩) (λ_ _ e=>e) (λ_ _ _ e=>e) (λb G e=>⟨#[],by rw[e];simp⟩) (λm t=>?_) (λb u e=>?_) I.D
 . have e:b=it:=by simpa using w
   subst e;exact⟨B,f,A,y⟩
 . obtain⟨o,C,E,g,r⟩:=t
   exact⟨o,C,E,k _ o (Bh f) g,r⟩
 . refine(I.j b u e).pq (λc v h q=>k c v ?_ q) (λ_ q=>q) λ_ _ q=>q
   rcases h with z|z
   . rw[z];exact d b u e
   . exact d c _ z
def Inv.tok(I:Inv X pins σ H s)t:Inv X pins σ H {s with toks:=t}:=I.un (h':=s.heap) (t':=t) Un.refl I.j
theorem Inv.kept(I:Inv X pins σ H s)(k:∀b u,s.heap.get? b=some u->h'.get? b=some u):Inv X pins σ H {s with heap:=h',toks:=t'}:=I.un (Un.kept k) (I.j.kept k)
theorem Inv.laid(I:Inv X pins σ H s)(k:∀b u,s.heap.get? b=some u->h'.get? b=some u)(h:s.heap.objs.size<=a)(n:yA X.f X.w (upd H a o) h' a o) :
 Inv X pins σ (upd H a o) {s with heap:=h',toks:=t'}:=I.un (Un.laid k h (I.j.fresh h)) (I.j.laid k h n)
theorem Inv.write(I:Inv X pins σ H s)(m:Mut (H x))(a:e=x\/H e=some (.d x))(k:∀b u,b≠e->s.heap.get? b=some u->h'.get? b=some u)(h:∃u,h'.get? e=some u)
 (n:yA X.f X.w (upd H x o) h' x o):Inv X pins σ (upd H x o) {s with heap:=h',toks:=t'}:=I.un (Un.write m a k h) (I.j.write m a k h n)
def Inv.lE{b:List (Addr × Obj)}(I:Inv X pins σ H s)(h:∀p∈b,s.heap.get? p.1=some p.2/\H p.1=none/\p.1≠X.a.locals/\p.1 ∉ X.fs/\∀v,p.2.data≠.cell v):Inv X b σ H s:=
 ⟨I.C,I.P,I.D,I.B,I.M,I.J,I.G,I.F,λp c=>(Ba.mp c).elim (λz=>I.O p (Br _ z)) (h p),I.j,I.R⟩
def kj{N:List Str}(h:N.Nodup){i j:Nat}(a:N[i]?=some x)(b:N[j]?=some x):i=j:=by obtain⟨f,c⟩:=Ax.mp a;obtain⟨d,e⟩:=Ax.mp b;exact(List.getElem_inj h).mp (c.trans e.symm)
def nX{Q:Unit->Shared->Prop}(I:Inv X pins σ H s)(hN:X.N.Nodup)(hi:X.N[i]?=some x)(Y:Loc X.a.scope x)(r:RelV v u)
 (h:∀s',Inv X pins (σ.set i (some v)) H s'->(∃a,D8 a s.heap s'.heap/\(a=X.a.locals\/X.a.cells.lookup x=some a))->Q () s') (hf:X.n x=true\/X.a.scope.names.lookup x=some .local:=by first|exact .inl rfl|exact .inr rfl|assumption):wpAny M A (He X.a x u) Q E s:=by
 obtain⟨m,hn,hl⟩:=id I.M;have hcls:(X.a.scope.kind == .class||(X.a.scope.kind == .module&&X.a.locals != X.a.globals))=false:=by rw[I.C.a];rfl
 have S:i<σ.length:=by rw[I.R];exact(Ax.mp hi).1
 have cne:=I.cne;have K:∀{a:Addr} {h':Heap},(∃o,s.heap.get? a=some o/\H a=none)->D8 a s.heap h'->HOk X.f X.w H h':=λ{a h'} ha t b ob e=>by
  obtain⟨_,_,Z⟩:=ha;refine(I.j b ob e).pq (λc w' V q=>(t.2 c ?_).trans q) (λ_ q=>q) λ_ _ q=>q;rintro rfl;rcases V with rfl|V
  . rw[Z]at e;cases e
  . rw[Z]at V;cases V
 rcases Y with hk|hk
 . refine wpAny_storeName_local hk hn (λh' hn' t=>?_) hcls
   obtain⟨oL,_,_,hoL,_⟩:=id hn;refine h _ ⟨I.C,I.P,I.D,⟨λb o e n W Y=>?_,λb o e n W Y=>?_,I.B.d,λb o e Y=>?_,I.B.l,I.B.g,I.B.j⟩,⟨_,hn',λj y v' T L e3=>?_⟩,λy c e=>?_,I.G,I.F,λp hp=>?_,K ⟨oL,hoL,I.G⟩ t,by simpa using I.R⟩ ⟨_,t,.inl rfl⟩
   . exact(t.2 b (AB (Aw (Ag e) I.C.d))).trans (I.B.f b o e n W Y)
   . obtain⟨sl,T⟩:=I.B.i b o e n W Y
     exact⟨sl,(t.2 b (AB (Aw (Ag e) I.C.d))).trans T⟩
   . obtain⟨o',T⟩:=I.B.c b o e Y
     exact⟨o',(t.2 b (AB (Aw (Ag e) I.C.d))).trans T⟩
   . by_cases hj:j=i
     . subst hj
       rw[hi]at T;cases T;rw[AR S]at L;cases L;exact⟨u,r,.inl ⟨hk,by simp⟩⟩
     . rw[BA (Bh hj)]at L
       obtain⟨u',r',q⟩:=hl j y v' T L e3;refine⟨u',r',?_⟩;rcases q with⟨k,e⟩|⟨k,c,e,z⟩
       . refine .inl ⟨k,?_⟩
         have:y≠x:=λe=>hj (kj hN T (e▸hi));simp[this,e]
       . exact .inr ⟨k,c,e,z.sameBut t (cne y c e)⟩
   . obtain⟨w',z⟩:=I.J y c e
     exact⟨w',z.sameBut t (cne y c e)⟩
   . obtain⟨e,n,ne,nf,d⟩:=I.O p hp
     exact⟨(t.2 p.1 ne).trans e,n,ne,nf,d⟩
 . have U:X.n x=true:=by
    rcases hf with z|z
    . exact z
    . rw[z]at hk;cases hk
   obtain⟨c,V⟩:=I.C.r x (.inl hk);obtain⟨w',z⟩:=I.J x c V;refine wpAny_storeName_cell I.C.a hk V z (λh' hc' t=>?_);obtain⟨oc,hoc,hocd⟩:=id z;refine h {s with heap:=h'} ⟨I.C,I.P,I.D,⟨λb o e n W Y=>?_,λb o e n W Y=>?_,I.B.d,λb o e Y=>?_,I.B.l,I.B.g,I.B.j⟩,⟨m,hn.sameBut t (Bh (cne x c V)),λj y v' T L e3=>?_⟩,λy c' e=>?_,I.G,I.F,λp hp=>?_,K ⟨oc,hoc,I.F x c V⟩ t,by simpa using I.R⟩ ⟨c,t,.inr V⟩
   . exact(t.2 b (AB (Aw (Ag e) (I.C.q x c U V)))).trans (I.B.f b o e n W Y)
   . obtain⟨sl,T⟩:=I.B.i b o e n W Y
     exact⟨sl,(t.2 b (AB (Aw (Ag e) (I.C.q x c U V)))).trans T⟩
   . obtain⟨o',T⟩:=I.B.c b o e Y
     exact⟨o',(t.2 b (AB (Aw (Ag e) (I.C.q x c U V)))).trans T⟩
   . by_cases hj:j=i
     . subst hj
       rw[hi]at T;cases T;rw[AR S]at L;cases L;exact⟨u,r,.inr ⟨.inl hk,c,V,hc'⟩⟩
     . rw[BA (Bh hj)]at L
       obtain⟨u',r',q⟩:=hl j y v' T L e3;refine⟨u',r',?_⟩;rcases q with q|⟨k,c',e,z'⟩
       . exact .inl q
       . refine .inr ⟨k,c',e,z'.sameBut t ?_⟩
         rintro rfl;exact hj (kj hN T (I.C.s _ _ _ e V▸hi))
   . by_cases hcc:c'=c
     . subst hcc;exact⟨_,hc'⟩
     . obtain⟨w2,z2⟩:=I.J y c' e
       exact⟨w2,z2.sameBut t hcc⟩
   . obtain⟨e,n,ne,nf,d⟩:=I.O p hp
     refine⟨(t.2 p.1 ?_).trans e,n,ne,nf,d⟩;intro q;rw[q,hoc]at e;have q':oc=p.2:=AQ e;exact d w' (by rw[<-q'];exact hocd)
def si{Q:Unit->Shared->Prop}(I:Inv X pins σ H s)(f:X.N.Nodup)(c:X.N[i]?=some x)(b:Loc X.a.scope x)(r:RelV v u)
 (h:∀e,Inv X pins (σ.set i (some v)) H e->Q () e) (d:X.n x=true\/X.a.scope.names.lookup x=some .local:=by first|exact .inl rfl|exact .inr rfl|assumption):wpAny M A (He X.a x u) Q E s:=
 nX I f c b r (λe B _=>h e B) d
def Inv.Qg(I:Inv X pins σ H s)(n:s'.os=s.os)(u:Un (frs X.h) ch H H' s.heap s'.heap)(d:HOk X.f X.w H' s'.heap)(r:AllBare s'.gens)
 (g:∀b∈ch,(b∈X.m\/X.l.heap.objs.size<=b)/\b≠X.a.locals/\(∀x c,X.a.cells.lookup x=some c->c≠b)/\∀p∈X.q++pins,p.1≠b):Inv X pins σ H' s':=by
 obtain⟨v,i,k,t,o⟩:=s';have e:o=s.os:=n;subst e;exact I.call (g':=i) (t':=t) (d':=k) u d r g
abbrev XK:=Value->Option Addr->Hp->Prop
abbrev St:=List (Option V)
abbrev VK:=V->Hp->Prop
abbrev TE:=St->Hp->VK->Prop
abbrev TT:=St->Hp->(Bool->Hp->Prop)->Prop
abbrev TA:=St->Hp->(List V->Hp->Prop)->Prop
structure Ends where
 a:St->Hp->Prop
 b:VK
 c:St->Hp->Prop:=λ_ _=>False
 d:St->Hp->Prop:=λ_ _=>False
abbrev TS:=Ends->St->Hp->Prop
def EP(X:Cx)(p:List (Addr × Obj))(a:St)(Q:VK)(u:Value)(s:Shared):Prop:=∃v H,Inv X p a H s/\RelV v u/\Q v H
def TP(X:Cx)(p:List (Addr × Obj))(a:St)(Q:Bool->Hp->Prop)(b:Bool)(s:Shared):Prop:=∃H,Inv X p a H s/\Q b H
def AP(X:Cx)(p:List (Addr × Obj))(a:St)(Q:List V->Hp->Prop)(u:List Value)(s:Shared):Prop:=∃v H,Inv X p a H s/\Vals v u/\Q v H
def SP(X:Cx)(p:List (Addr × Obj))(D:Ends)(f:Flow)(s:Shared):Prop:=
 match f with
 |.next=>∃g H,Inv X p g H s/\D.a g H
 |.brk=>∃g H,Inv X p g H s/\D.c g H
 |.cont=>∃g H,Inv X p g H s/\D.d g H
 |.ret u=>∃v g H,Inv X p g H s/\RelV v u/\D.b v H
def PE(X:Cx)(e:Expr)(t:TE):Prop:=
 ∀(p:List (Addr × Obj)) (s:Shared) (σ:St) (H:Hp) (Q:VK),Inv X p σ H s->t σ H Q->wpAny (model X.f X.w) X.A (eval e X.a) (EP X p σ Q) X.i s
def PT(X:Cx)(e:Expr)(t:TT):Prop:=
 ∀(p:List (Addr × Obj)) (s:Shared) (σ:St) (H:Hp) (Q:Bool->Hp->Prop),Inv X p σ H s->t σ H Q->wpAny (model X.f X.w) X.A (isTrue e X.a (eval e X.a)) (TP X p σ Q) X.i s
def PW(X:Cx)(e:Expr)(t:TT):Prop:=
 ∀(b:Sem Value) (p:List (Addr × Obj)) (s:Shared) (σ:St) (H:Hp) (Q:Bool->Hp->Prop),Inv X p σ H s->t σ H Q->wpAny (model X.f X.w) X.A (isTrue e X.a b) (TP X p σ Q) X.i s
def PW.pt(h:PW X e t):PT X e t:=h _
def PA(X:Cx)(e:List Expr)(t:TA):Prop:=
 ∀(b:Pos) (p:List (Addr × Obj)) (s:Shared) (σ:St) (H:Hp) (Q:List V->Hp->Prop),Inv X p σ H s->t σ H Q->wpAny (model X.f X.w) X.A (spliced (backTo b (Av e X.a))) (AP X p σ Q) X.i s
def PS(X:Cx)(b:Stmt)(t:TS):Prop:=
 ∀(p:List (Addr × Obj)) (s:Shared) (σ:St) (H:Hp) (D:Ends),Inv X p σ H s->t D σ H->wpAny (model X.f X.w) X.A (exec b X.a) (SP X p D) X.i s
def PSs(X:Cx)(b:List Stmt)(t:TS):Prop:=
 ∀(p:List (Addr × Obj)) (s:Shared) (σ:St) (H:Hp) (D:Ends),Inv X p σ H s->t D σ H->wpAny (model X.f X.w) X.A (execs b X.a) (SP X p D) X.i s
def thn(h:wpAny M A t Q E s)(b:∀a s,Q a s->Q' a s):wpAny M A t Q' E s:=AD h b λ_ _ x=>x
section
variable {X:Cx}
def bin(l:PE X a ta)(k:PE X b tb){R:V->V->Hp->Prop}(I:Inv X pins σ H s)(h:ta σ H λx M=>tb σ M λy F=>R x y F)
  {Q} {f:Value->Value->Sem α}
 (g:∀v u L x y F,Inv X pins σ F L->RelV x v->RelV y u->R x y F->wpAny (model X.f X.w) X.A (f v u) Q X.i L) :
 wpAny (model X.f X.w) X.A (eval a X.a) (λv j=>wpAny (model X.f X.w) X.A (eval b X.a) (λu e=>wpAny (model X.f X.w) X.A (f v u) Q X.i e) X.i j) X.i s:=by
 refine thn (l pins s σ H _ I h) λv c z=>?_;obtain⟨x,M,C,d,q1⟩:=z;refine thn (k pins c σ M _ C q1) λu L z=>?_;obtain⟨y,F,B,r,q⟩:=z;exact g v u L x y F B d r q
def wL(i:Nat):TE:=λa H Q=>∃v,a[i]?=some (some v)/\Q v H
def tC(v:V):TE:=λ_ H Q=>Q v H
def wU(w:X.N[i]?=some x)(q:Vis X.a.scope x)(g:(x == ("__debug__":Str))=false:=by decide)(k:(x == ("__classdict__":Str))=false:=by decide):PE X (.Name x pos) (wL i):=by
 intro p s o H Q I h;obtain⟨v,e,h⟩:=h;obtain⟨m,t,j⟩:=I.M;obtain⟨u,r,l⟩:=j i x v w e q;have f:EP X p o Q u s:=⟨v,H,I,r,h⟩;rcases l with⟨d,z⟩|⟨d,c,n,b⟩
 . exact wpAny_Name (wpAny_loadName_local I.C.a d t z f) g
 . rcases d with d|d
   . exact wpAny_Name (wpAny_loadName_cell I.C.a d n b f) g
   . exact wpAny_Name (wpAny_loadName_free I.C.a d n b f k) g
def Yq{i j pos}:PE X (.Constant (.int i) j pos) (tC (.d i)):=λ_ _ _ H _ I h=>wpAny_Constant_int ⟨.d i,H,I.tok _,⟨_,rfl⟩,h⟩
def Yk{b j pos}:PE X (.Constant (.bool b) j pos) (tC (.f b)):=λ_ _ _ H _ I h=>Constant_bool ⟨.f b,H,I,rfl,h⟩
def Yr{j pos}:PE X (.Constant .none j pos) (tC .g):=λ_ _ _ H _ I h=>Constant_none ⟨.g,H,I,rfl,h⟩
def rS{x j pos}:PE X (.Constant (.str x) j pos) (tC (.e x)):=λ_ _ _ H _ I h=>DA ⟨.e x,H,I.tok _,⟨_,rfl⟩,h⟩
def Gl(X:Cx)(x:Str):Prop:=X.a.kindOf x=some .globalImplicit
def wA(I:Inv X pins σ H s)(g:Gl X x)(b:X.d x=some u)(h:Q u s)
 (i:(x == ("__debug__":Str))=false:=by decide):wpAny (model X.f X.w) X.A (eval (.Name x pos) X.a) Q E s:=
 Fy I.C.a g (Calls.loadGlobal_global (by rw[I.C.k];exact I.mod.c.keeps I.bk) b h) i
def tY(I:Inv X pins σ H s)(l:Gl X x)(i:X.d x=none)(b:Cu x=some u)(h:Q u s)
 (g:x≠"__name__":=by decide) (m:(x == ("__debug__":Str))=false:=by decide):wpAny (model X.f X.w) X.A (eval (.Name x pos) X.a) Q E s:=by
 obtain⟨p,o,n⟩:=I.mod.d;exact Fy I.C.a l (Calls.loadGlobal_builtin (by rw[I.C.k];exact I.mod.c.keeps I.bk) i (by rw[I.C.t];exact o.keeps I.bk) ((n x g).trans b) h) m
def Vb(b:Gl X x)(a:X.d x=some u)(r:RelV v u)(c:(x == ("__debug__":Str))=false:=by decide):PE X (.Name x pos) (tC v):=
 λ_ _ _ H _ I h=>wA I b a ⟨v,H,I,r,h⟩ c
def VZ(f:Gl X x)(c:X.d x=none)(a:Cu x=some u)(r:RelV v u)(b:x≠"__name__":=by decide)(g:(x == ("__debug__":Str))=false:=by decide):PE X (.Name x pos) (tC v):=
 λ_ _ _ H _ I h=>tY I f c a ⟨v,H,I,r,h⟩ b g
variable {a b:Expr}{ta tb:TE}{pos:Pos}
def PC(X:Cx)(o:CmpOp)(a b:Expr)(t:TE):Prop:=
 ∀(p:List (Addr × Obj)) (s:Shared) (σ:St) (H:Hp) (Q:VK),Inv X p σ H s->t σ H Q ->
  wpAny (model X.f X.w) X.A (eval a X.a) (λv d=>wpAny (model X.f X.w) X.A (eval b X.a) (λu c=>wpAny (model X.f X.w) X.A (Bg o v u) (EP X p σ Q) X.i c) X.i d) X.i s
def pO b(h:op≠.In)(a:op≠.NotIn):DY op b=false:=by
 have c:(op == CmpOp.In)=false:=by cases op<;>first|rfl|exact absurd rfl h
 have e:(op == CmpOp.NotIn)=false:=by cases op<;>first|rfl|exact absurd rfl a
 cases b<;>simp[DY,c,e]
def tB(t:TE):TT:=λa H Q=>t a H λx A=>∃c,x=.f c/\Q c A
def NP(h:PC X op a b t)(f:DY op b=false:=by first|exact pO _ (by decide) (by decide)|rfl):PT X (.Compare a [op] [b] pos) (tB t):=by intro p s g H Q I i;refine wpAny_isTrue_Compare1 (thn (h p s g H _ I i) λv n f=>thn f λu m k=>thn k λc l z=>?_) f;obtain⟨x,B,A,r,q1⟩:=z;obtain⟨d,rfl,q⟩:=q1;cases r;exact BF ⟨B,A,q⟩
def Rq(h:PE X e t)(f:∀w,isTrue e X.a w=(do let v <-w;standAt e.pos;holding [v] (truthy v)):=by intro _;rfl):PT X e (tB t):=by intro p s b H Q I c;refine isTrue_plain (thn (h p s b H _ I c) λv g z=>?_) (f _);obtain⟨x,B,A,r,q1⟩:=z;obtain⟨d,rfl,q⟩:=q1;cases r;exact BF ⟨B,A,q⟩
variable {tA tB':TT}{rest:List Expr}
def tOr(t u:TT):TT:=λa H Q=>t a H λc A=>if c=true then Q true A else u a A Q
def Oq(t:TT):TT:=λa H Q=>t a H λc A=>Q (!c) A
def Rr(d:PT X a tA):PW X (.BoolOp .Or [a] pos) tA:=by
 intro w p s b H Q I h;refine isTrue_or (thn (d p s b H Q I h) λc f e=>?_);cases c with
 |false=>exact isTrue_or_nil e
 |true=>exact e
def OM(i:PT X a tA)(g:PW X (.BoolOp .Or (b::rest) pos) tB'):PW X (.BoolOp .Or (a::b::rest) pos) (tOr tA tB'):=by
 intro w p s d H Q I h;refine isTrue_or (thn (i p s d H _ I h) λc f z=>?_);obtain⟨B,A,q1⟩:=z;cases c with
 |true=>exact⟨B,A,q1⟩
 |false=>exact g w p f d B Q A q1
def gK(d:PT X a tA):PT X (.UnaryOp .Not a pos) (Oq tA):=by intro p s b H Q I h;exact isTrue_not (d p s b H (λc A=>Q (!c) A) I h)
def Om(ta tb:TE):TE:=λa H Q=>ta a H λx A=>∃c,x=.f c/\if c=true then tb a A Q else Q (.f false) A
def Ot(ta:TE):TE:=λa H Q=>ta a H λx A=>∃c,x=.f c/\Q (.f (!c)) A
def gD{op}(h:PE X a t):PE X (.BoolOp op [a] pos) t:=λp s b H Q I c=>BoolOp_one (h p s b H Q I c)
def RZ(k:PE X a ta)(i:PE X (.BoolOp .And (b::rest) pos) tb):PE X (.BoolOp .And (a::b::rest) pos) (Om ta tb):=by
 intro p s d H Q I h;refine BoolOp_and (thn (k p s d H _ I h) λv g z=>?_);obtain⟨x,B,A,r,q1⟩:=z;obtain⟨c,rfl,q1⟩:=q1;cases r;refine BF ?_;cases c with
 |true=>exact i p g d B Q A q1
 |false=>exact⟨.f false,B,A,rfl,q1⟩
def Rh(d:PE X a ta):PE X (.UnaryOp .Not a pos) (Ot ta):=by intro p s b H Q I h;refine UnaryOp_ (thn (d p s b H _ I h) λv g z=>?_);obtain⟨x,B,A,r,q1⟩:=z;obtain⟨c,rfl,q1⟩:=q1;cases r;exact not_of (BF ⟨.f (!c),B,A,rfl,q1⟩)
def tIf(t:TT)(ta tb:TE):TE:=λa H Q=>t a H λc A=>if c=true then ta a A Q else tb a A Q
def k7(i:PT X c tA)(l:PE X a ta)(k:PE X b tb):PE X (.IfExp c a b pos) (tIf tA ta tb):=by
 intro p s f H Q I h;refine wpAny_IfExp (thn (i p s f H _ I h) λd g z=>?_);obtain⟨B,A,q1⟩:=z;cases d with
 |true=>exact l p g f B Q A q1
 |false=>exact k p g f B Q A q1
end
def SqL(K:Aa)(H:Hp)(a:Addr)(x:List V):Prop:=
 Rd H a (.b x) \/
  ∃(o:Obj) (i:Array Value) (n:Nat),K.lookup a=some o/\o.cls=.type "list"/\o.dict=none/\o.data=.seq i n/\i.size<=Ao/\Vals x i.toList
def SqT(K:Aa)(H:Hp)(a:Addr)(x:List V):Prop:=
 Rd H a (.c x) \/
  ∃(o:Obj) (i:Array Value) (n:Nat),K.lookup a=some o/\o.cls=.type "tuple"/\o.data=.seq i n/\i.size<=Ao/\Vals x i.toList
noncomputable def O7:Value->Option V
 |.none=>some .g
 |.bool b=>some (.f b)
 |.int i _=>some (.d i)
 |.str x _=>some (.e x)
 |.bytes b _=>some (.h b)
 |.float b _=>some (.j b)
 |.ref a=>some (.c a)
 |.type n=>some (.k n)
 |_=>none
def RelV.abs(r:RelV x u):O7 u=some x:=by
 cases x with
 |g=>cases r;rfl
 |f _=>cases r;rfl
 |d _=>obtain⟨t,rfl⟩:=r;rfl
 |e _=>obtain⟨t,rfl⟩:=r;rfl
 |h _=>obtain⟨t,rfl⟩:=r;rfl
 |j _=>obtain⟨t,rfl⟩:=r;rfl
 |c _=>cases r;rfl
 |k _=>cases r;rfl
def RelV.inj(r:RelV x u)(q:RelV y u):x=y:=AQ (r.abs.symm.trans q.abs)
theorem Vals.inj:∀{xs ys} {us},Vals xs us->Vals ys us->xs=ys
 |_,_,_,.nil,.nil=>rfl
 |_,_,_,.cons r t,.cons r' t'=>by rw[r.inj r',Vals.inj t t']
def SqL.of{K}(h:H a=some (.b xs)):SqL K H a xs:=.inl (.inl h)
def SqT.of{K}(h:H a=some (.c xs)):SqT K H a xs:=.inl (.inl h)
def Inv.list(I:Inv X pins σ H s)(h:SqL X.K H a xs):∃w:List Value,Vals xs w/\PlainL s.heap a w.toArray/\xs.length<=Ao:=by
 rcases h with h|⟨o,w,n,c,f,d,b,g,r⟩
 . obtain⟨z,w,n,r,e⟩:=h.ok I.j
   exact⟨w,r,⟨_,n,e,rfl,rfl,rfl⟩,z⟩
 . refine⟨w.toList,r,⟨o,n,I.kIn a o c,f,d,by simpa using b⟩,?_⟩
   have e:=r.length;simp only[Dv]at e;omega
def Inv.tuple(I:Inv X pins σ H s)(h:SqT X.K H a xs):∃w:List Value,Vals xs w/\IsTup s.heap a w.toArray/\xs.length<=Ao:=by
 rcases h with h|⟨o,w,n,c,d,b,f,r⟩
 . obtain⟨z,w,r,p⟩:=h.ok I.j
   exact⟨w,r,p.tup,z⟩
 . refine⟨w.toList,r,⟨o,I.kIn a o c,d,n,by simpa using b⟩,?_⟩
   have e:=r.length;simp only[Dv]at e;omega
def Inv.kY(I:Inv X pins σ H s)(h:SqL X.K H a xs)(k:SqL X.K H a ys):xs=ys:=by
 obtain⟨b,r,⟨o,n,e,_,_,d⟩,_⟩:=I.list h;obtain⟨i,g,⟨l,m,c,_,_,f⟩,_⟩:=I.list k;rw[e]at c;cases c;rw[d]at f;injection f with d1 _
 have:b=i:=by simpa using congrArg Array.toList d1
 subst this;exact r.inj g
def Inv.ni(I:Inv X pins σ H s)(h:SqT X.K H a xs)(k:SqT X.K H a ys):xs=ys:=by
 obtain⟨b,r,⟨o,e,_,n,d⟩,_⟩:=I.tuple h;obtain⟨i,g,⟨l,c,_,m,f⟩,_⟩:=I.tuple k;rw[e]at c;cases c;rw[d]at f;injection f with d1 _
 have:b=i:=by simpa using congrArg Array.toList d1
 subst this;exact r.inj g
noncomputable abbrev Cx.wy(X:Cx)(E:Value->Shared->Prop):Cx:={X with i:=E}
abbrev Cx.nox(X:Cx):Cx:=X.wy λ_ _=>False
theorem Cx.Ok.wy{X:Cx}(o:X.Ok)E:(X.wy E).Ok:=
 ⟨o.i,o.a,o.k,o.t,o.d,o.s,o.r,o.q,o.j,o.g,o.w,o.G,o.B,o.p,o.m,o.l,o.D,o.u⟩
def Cx.Ok.xN{X:Cx}(o:(X.wy E).Ok):X.Ok:=
 ⟨o.i,o.a,o.k,o.t,o.d,o.s,o.r,o.q,o.j,o.g,o.w,o.G,o.B,o.p,o.m,o.l,o.D,o.u⟩
theorem Inv.wy(I:Inv X pins σ H s)E:Inv (X.wy E) pins σ H s:=⟨I.C.wy E,I.P,I.D,I.B,I.M,I.J,I.G,I.F,I.O,I.j,I.R⟩
theorem Inv.xN(I:Inv (X.wy E) pins σ H s):Inv X pins σ H s:=⟨I.C.xN,I.P,I.D,I.B,I.M,I.J,I.G,I.F,I.O,I.j,I.R⟩
theorem SP.xN(h:SP (X.wy E) pins D f s'):SP X pins D f s':=by
 cases f with
 |next=>obtain⟨a,H,I,q⟩:=h;exact⟨a,H,I.xN,q⟩
 |brk=>obtain⟨a,H,I,q⟩:=h;exact⟨a,H,I.xN,q⟩
 |cont=>obtain⟨a,H,I,q⟩:=h;exact⟨a,H,I.xN,q⟩
 |ret u=>obtain⟨v,a,H,I,r,q⟩:=h;exact⟨v,a,H,I.xN,r,q⟩
theorem PE.nox(h:PE X.nox e t):PE X e t:=λp s a H Q I b=>
 AD (h p s a H Q (I.wy _) b) (λ_ _ ⟨v,H',I',r,q⟩=>⟨v,H',I'.xN,r,q⟩) λ_ _ z=>As z
theorem PT.nox(h:PT X.nox e t):PT X e t:=λp s a H Q I b=>
 AD (h p s a H Q (I.wy _) b) (λ_ _ ⟨H',I',q⟩=>⟨H',I'.xN,q⟩) λ_ _ z=>As z
theorem PSs.nox{st}(h:PSs X.nox st t):PSs X st t:=λp s a H D I b=>
 AD (h p s a H D (I.wy _) b) (λ_ _ q=>q.xN) λ_ _ z=>As z
section
variable {X:Cx}{st:Stmt}{rest:List Stmt}{t u:TS}{e:Expr}{te:TE}{pos:Pos}
def Ur:TS:=λD b H=>D.a b H
def oZ(t u:TS):TS:=λD b H=>t {D with a:=u D} b H
def lF:PSs X [] Ur:=λ_ _ a H _ I h=>EZ ⟨a,H,I,h⟩
def ya(i:PS X st t)(g:PSs X rest u):PSs X (st::rest) (oZ t u):=by
 intro p s c H D I h;refine EF (thn (i p s c H {D with a:=u D} I h) λf d q=>?_)
 cases f with
 |next=>
  obtain⟨b,B,A,q⟩:=q;exact g p d b B D A q
 |ret v=>exact q
 |brk=>exact q
 |cont=>exact q
def wB(b:PS X st t):PSs X [st] t:=by
 intro p s a H D I h;refine EF (thn (b p s a H D I h) λf c q=>?_);cases f with
 |next=>exact EZ q
 |ret v=>exact q
 |brk=>exact q
 |cont=>exact q
def Inv.quiet(I:Inv X pins σ H s):interactive X.a=false:=by simp[interactive,I.C.a]
def Up(te:TE):TS:=λD b H=>te b H λ_ A=>D.a b A
def sU(d:PE X e te)(c:D9 e none pos.line X.a=pure false:=by rfl):PS X (.Expr e pos) (Up te):=by intro p s b H D I h;exact wpAny_Expr_any (thn (d p s b H _ I h) λv f ⟨x,H1,I1,r1,q1⟩=>⟨b,H1,I1,q1⟩) I.quiet c
def jd(te:TE):TS:=λD a H=>te a H D.b
def vI(b:PE X e te):PS X (.Return (some e) pos) (jd te):=by intro p s a H D I h;exact wpAny_Return_some (thn (b p s a H _ I h) λv c ⟨x,H1,I1,r1,q1⟩=>⟨x,a,H1,I1,r1,q1⟩)
def Oo(c:TT)(t u:TS):TS:=λD a H=>c a H λb A=>if b=true then t D a A else u D a A
def jF(i:PT X c tc)(l:PSs X a t)(k:PSs X b u):PS X (.If c a b pos) (Oo tc t u):=by
 intro p s f H D I h;refine wpAny_If (thn (i p s f H _ I h) λd g z=>?_);obtain⟨B,A,q1⟩:=z;cases d with
 |true=>exact l p g f B D A q1
 |false=>exact k p g f B D A q1
end
abbrev TG:=V->St->Hp->(St->Hp->Prop)->Prop
abbrev TGs:=List V->St->Hp->(St->Hp->Prop)->Prop
def PG(X:Cx)(b:Expr)(t:TG):Prop:=
 ∀(p:List (Addr × Obj)) (s:Shared) (σ:St) (H:Hp) (v:V) (u:Value) (Q:St->Hp->Prop),Inv X p σ H s->RelV v u->t v σ H Q ->
  wpAny (model X.f X.w) X.A (assign b X.a u) (λ_ d=>∃c B,Inv X p c B d/\Q c B) X.i s
def PGs(X:Cx)(c:List Expr)(t:TGs):Prop:=
 ∀(p:List (Addr × Obj)) (s:Shared) (σ:St) (H:Hp) (vs:List V) (us:List Value) (Q:St->Hp->Prop),Inv X p σ H s->Vals vs us->t vs σ H Q ->
  wpAny (model X.f X.w) X.A (assignInOrder ((Dc c X.a).map (·.2)) us) (λ_ d=>∃b B,Inv X p b B d/\Q b B) X.i s
abbrev U1:=V->V->V->Hp->(Hp->Prop)->Prop
def Qa(X:Cx)(t:U1):Prop:=
 ∀(p:List (Addr × Obj)) (s:Shared) (σ:St) (H:Hp) (o i v:V) (a b u:Value) (Q:Hp->Prop),Inv X p σ H s->RelV o a->RelV i b->RelV v u->t o i v H Q ->
  wpAny (model X.f X.w) X.A (setItem a b u) (λ_ c=>∃B,Inv X p σ B c/\Q B) X.i s
abbrev TIp:=V->V->Hp->VK->Prop
def PIp(X:Cx)(o:Operator)(t:TIp):Prop:=
 ∀(p:List (Addr × Obj)) (s:Shared) (σ:St) (H:Hp) (x y:V) (v u:Value) (Q:VK),Inv X p σ H s->RelV x v->RelV y u->t x y H Q ->
  wpAny (model X.f X.w) X.A (Ea o v u) (EP X p σ Q) X.i s
section
variable {X:Cx}{pos:Pos}
def wH(i:Nat):TG:=λv a H Q=>Q (a.set i (some v)) H
def Vd(f:X.N.Nodup)(c:X.N[i]?=some x)(b:Loc X.a.scope x)(d:X.n x=true\/X.a.scope.names.lookup x=some .local:=by first|exact .inl rfl|exact .inr rfl|assumption):PG X (.Name x pos) (wH i):=by intro p s g H v u Q I r h;exact wpAny_assign_Name (si I f c b r (λk A=>⟨_,H,A,h⟩) d)
def Qt:TGs:=λv a H Q=>v=[]/\Q a H
def UP(t:TG)(u:TGs):TGs:=λc b H Q=>∃v r,c=v::r/\t v b H λa A=>u r a A Q
def Ve:PGs X [] Qt:=by intro p s a H v u Q I r h;obtain⟨e,h⟩:=h;subst e;cases r;exact assignInOrder_nil ⟨a,H,I,h⟩
def Yu{e:Expr}{b:List Expr}{t:TG}{u:TGs}(l:PG X e t)(k:PGs X b u)
 (i:(Dc (e::b) X.a).map (·.2)=assign e X.a::(Dc b X.a).map (·.2):=by rfl):PGs X (e::b) (UP t u):=by
 intro p s d H n q Q I r h;obtain⟨v,o,m,h⟩:=h;subst m;cases r with
 |cons r g=>
  rw[i];refine assignInOrder_cons (thn (l p s d H _ _ _ I r h) λ_ f z=>?_);obtain⟨c,B,A,q1⟩:=z;exact k p f c B _ _ Q A g q1
def Tb(K:Aa)(n:Nat)(t:TGs):TG:=λv b H Q=>∃a x,v=.c a/\SqT K H a x/\x.length=n/\t x b H Q
def gG(y:X.j=true)(h:PGs X es t)
 (z:(Dc es X.a).length=n:=by rfl) (d:(Dc es X.a).findIdx? (·.1)=none:=by rfl):PG X (.Tuple es k pos) (Tb X.K n t):=by
 intro p s f H v u Q I r c;obtain⟨a,x,B,q,w,c⟩:=c;subst B;cases r;obtain⟨i,g,m,E⟩:=I.tuple q;refine assign_Tuple_tuple (I.C.j y) m (by simp[z,<-w,g.length]) d λA l=>?_
 have D:Inv X p f H {s with heap:=A}:=I.kept (t':=s.toks) λb o e=>l b o (AB (Ag e)) e
 exact h p _ f H x _ Q D (by simpa using g) c
def Qu(b c:TE)(t:U1):TG:=λv a H Q=>b a H λo C=>c a C λi B=>t o i v B λA=>Q a A
def Rk(m:PE X o to)(n:PE X i ti)(l:Qa X t)
 (w:∀v,assign (.Subscript o i pos) X.a v=(do
  let e <-holding [v] (eval o X.a);let j <-holding [v,e] (eval i X.a)
  standAt pos
  holding [v,e,j] (setItem e j v)
  release [v,e,j] []):=by intro _;rfl):PG X (.Subscript o i pos) (Qu to ti t):=by
 intro p s b H v u Q I r h;rw[w];refine lp (Bz (thn (m p s b H _ I h) λe d z=>?_));obtain⟨x,G,C,g,q1⟩:=z;refine lp (Bz (thn (n p d b G _ C q1) λj c z=>?_));obtain⟨y,E,B,f,k⟩:=z;refine lp (A8 (lp (Bz (thn (l p c b E x y v e j u _ B g f r k) λ_ J z=>?_))));obtain⟨D,A,q⟩:=z;exact wpAny_release ⟨b,D,A,q⟩
def tu(t:TE)(g:TG):TS:=λD b H=>t b H λx A=>g x b A D.a
def Ro(k:PE X e te)(i:PG X tg g)(f:swapsWithSole [tg] e pos.line X.a=pure false:=by rfl)(d:swappedStores [tg] e X.a=pure none:=by rfl)
 (l:(Dc [tg] X.a).map (·.2)=[assign tg X.a]:=by rfl):PS X (.Assign [tg] e pos) (tu te g):=by
 intro p s b H D I h;refine wpAny_Assign_stores (thn (k p s b H _ I h) λv c z=>?_) f d;obtain⟨x,B,A,r,q1⟩:=z;rw[l];exact thn (i p c b B x v _ A r q1) λ_ m q=>q
def uA(k:X.N.Nodup)(f:X.N[i]?=some x)(c:Loc X.a.scope x)(g:PE X e te)(d:D9 e (some (.Name x pos')) pos.line X.a=pure false:=by rfl)(hf:X.n x=true\/X.a.scope.names.lookup x=some .local:=by first|exact .inl rfl|exact .inr rfl|assumption) :
 PS X (.Assign [.Name x pos'] e pos) (tu te (wH i)):=by
 intro p s b H D I h;refine wpAny_Assign_Name (thn (g p s b H _ I h) λv m z=>?_) d;obtain⟨y,C,B,r,q1⟩:=z;exact si B k f c r (λl A=>⟨_,C,A,q1⟩) hf
def NZ(i:Nat)(c:TE)(t:TIp):TS:=λD b H=>∃x,b[i]?=some (some x)/\c b H λy B=>t x y B λz A=>D.a (b.set i (some z)) A
def Y0(O:X.N.Nodup)(E:X.N[i]?=some x)(j:Loc X.a.scope x)(F:PE X e te)(R:PIp X op ti)(Z:X.n x=true\/X.a.scope.names.lookup x=some .local:=by first|exact .inl rfl|exact .inr rfl|assumption) :
 PS X (.AugAssign (.Name x pos') op e pos) (NZ i te ti):=by
 intro p s B H D I h;obtain⟨v,S,h⟩:=h;obtain⟨m,T,Y⟩:=I.M;have t:Vis X.a.scope x:=by rcases j with k|k;exact .inl k;exact .inr (.inl k)
 obtain⟨u,r,l⟩:=Y i x v E S t;refine wpAny_AugAssign_Name ?_;have G:wpAny (model X.f X.w) X.A (eval e X.a) (λw o=>wpAny (model X.f X.w) X.A (Ea op u w) (λr g=>wpAny (model X.f X.w) X.A (He X.a x r) (λ_=>SP X p D .next) X.i g) X.i o) X.i s:=by refine thn (F p s B H _ I h) λw J q=>?_;obtain⟨y,H1,I1,P,q1⟩:=q;refine thn (R p J B H1 v y u w _ I1 r P q1) λz s2 q=>?_;obtain⟨zv,H2,W,K,Q⟩:=q;exact si W O E j K (λs3 U=>⟨_,H2,U,Q⟩) Z
 rcases l with⟨b,V⟩|⟨b,c,L,d⟩
 . exact wpAny_loadName_local I.C.a b T V G
 . rcases b with b|b
   . exact wpAny_loadName_cell I.C.a b L d G
   . rcases j with k|k
     . have:X.a.scope.names.lookup x=some .free:=b
       rw[k]at this;cases this
     . have:X.a.scope.names.lookup x=some .free:=b
       rw[k]at this;cases this
end
structure It where
 c:Nat->Hp->Prop
 b:Nat->Hp->V->Hp->Prop
 a:Nat->Hp->Prop
def uO(X:Cx)(d:List (Addr × Obj))(H:Hp)(b:Addr):Prop:=
 H b=none/\b≠X.a.locals/\b ∉ X.fs/\(b∈X.m\/X.l.heap.objs.size<=b)/\(∀x c,X.a.cells.lookup x=some c->c≠b)/\∀p∈X.q++d,p.1≠b
def Inv.Wf(I:Inv X pins σ H s)(h:s.heap.objs.size<=b)(d:H' b=none):uO X pins H' b:=by
 refine⟨d,Cv (Aw I.lt h),I.NI h,.inr (Aq I.sz h),λx c e z=>?_,λp a z=>?_⟩
 . obtain⟨v,q⟩:=I.J x c e
   exact absurd (Aw q.lt (by rw[z];exact h)) (Bj _)
 . exact absurd (Aw (Ag (I.O p a).1) (by rw[z];exact h)) (Bj _)
structure Turn(P:Program)(w:World)(K:Aa)(tg:Expr)(J:It)(fp:List Addr)(it:Addr)(tn:Nat->Heap->Prop):Prop where
 g:it∈fp
 c:∀i h,tn i h->∀b∈fp,∃o,h.get? b=some o/\∀v,o.data≠.cell v
 a:∀i h h',tn i h->(∀b∈fp,∀o,h.get? b=some o->h'.get? b=some o)->tn i h'
 e:∀(X:Cx),X.f=P->X.w=w->X.K=K->X.j=true->∀(i:Nat) (pins:List (Addr × Obj)) (s:Shared) (σ:St) (H:Hp) (E:Value->Shared->Prop),Inv X pins σ H s->(∀b∈fp,uO X pins H b)->tn i s.heap->J.c i H ->
  wpAny (model P w) X.A (pyNext (.ref it)) (λr s1=>∃u,r=some u /\
   wpAny (model P w) X.A (BK tg (.ref it) u) (λ_ s2=>∃x H',Inv X pins σ H' s2/\RelV x u/\J.b i H x H'/\tn (i+1) s2.heap/\∀b∈fp,H' b=none) E s1) E s
 d:∀(X:Cx),X.f=P->X.w=w->X.K=K->X.j=true->∀(i:Nat) (pins:List (Addr × Obj)) (s:Shared) (σ:St) (H:Hp) (E:Value->Shared->Prop),Inv X pins σ H s->(∀b∈fp,uO X pins H b)->tn i s.heap->J.a i H ->
  wpAny (model P w) X.A (pyNext (.ref it)) (λr s1=>r=none/\Inv X pins σ H s1) E s
 f:∀(A:Around) (i:Nat) (s:Shared) (Q:Value->Shared->Prop) (E:Value->Shared->Prop),tn i s.heap->Q (.ref it) s->wpAny (model P w) A (pyIter (.ref it)) Q E s
abbrev TI:=St->Hp->(It->Hp->Prop)->Prop
def PIE(X:Cx)(p:List (Addr × Obj))(d:St)(t:Expr)(R:It->Hp->Prop)(i:Value)(s:Shared):Prop:=
 ∃(a:Addr) (c:List Addr) (tn:Nat->Heap->Prop) (J:It) (H':Hp),i=.ref a/\Inv X p d H' s/\Turn X.f X.w X.K t J c a tn/\tn 0 s.heap/\(∀b∈c,uO X p H' b)/\R J H'
def PI(X:Cx)(t b:Expr)(c:TI):Prop:=
 ∀(p:List (Addr × Obj)) (s:Shared) (σ:St) (H:Hp) (R:It->Hp->Prop),Inv X p σ H s->c σ H R ->
  wpAny (model X.f X.w) X.A (eval b X.a) (λv d=>wpAny (model X.f X.w) X.A (pyIter v) (PIE X p σ t R) X.i d) X.i s
def ZY(b:s.heap.get? it=some o)(f:o.cls=.type n)(d:o.data=.fields vs)
 (c:["enumerate","zip","dict_itemiterator","dict_reverseitemiterator","odict_iterator","itertools.zip_longest","itertools.pairwise"].contains n=false) (a:Q () s):wpAny M A (BK tg (.ref it) u) Q E s:=by
 unfold BK;cases tg<;>first
  |exact Ae a
  |(cases u<;>first
   |exact Ae a
   |(refine lp (wpAny_load b ?_)
     rw[f,d];show wpAny M A (if (["enumerate","zip","dict_itemiterator","dict_reverseitemiterator","odict_iterator","itertools.zip_longest","itertools.pairwise"].contains n&&vs[0]? == some (rawInt _))=true then _ else _) Q E s
     rw[if_neg (by intro h;rw[c,Di]at h;cases h)]
     exact Ae a))
noncomputable def Itl(K:Aa)(a:Addr):It:=
 ⟨λi H=>∃b x,SqL K H a b/\b[i]?=some x,λi H x A=>A=H/\∀b,SqL K H a b->b[i]?=some x,λi H=>∃b,SqL K H a b/\b.length<=i⟩
noncomputable def Itt(K:Aa)(a:Addr):It:=
 ⟨λi H=>∃b x,SqT K H a b/\b[i]?=some x,λi H x A=>A=H/\∀b,SqT K H a b->b[i]?=some x,λi H=>∃b,SqT K H a b/\b.length<=i⟩
noncomputable def Itr(l:Int)(n:Nat):It:=⟨λi _=>i<n,λi H x A=>A=H/\x=.d (l+i),λi _=>n<=i⟩
def bp{K}a it:Turn P w K tg (Itl K a) [it] it (λi h=>h.IsListIter it a i) where
 g:=by simp
 c:=λi h l b n=>by
  have e:b=it:=by simpa using n
  subst e;obtain⟨o,e,c,d⟩:=l;exact⟨o,e,λv z=>by rw[d]at z;cases z⟩
 a:=λi h y l k=>l.at λo e=>k it (by simp) o e
 e:=by
  intro X N G Q L i m s F H E I t l J;subst N G Q;obtain⟨M,x,r,D⟩:=J;obtain⟨B,A,p,U⟩:=I.list r;obtain⟨u,hu,S⟩:=A.get D;obtain⟨Z,Y,f2,V,T,R⟩:=t it (by simp)
  refine wpAny_pyNext_list_item l p.isList (x:=u) (by simpa using hu) λy q O=>?_
  have I1:Inv X m F H {s with heap:=y}:=I.turned (t':=s.toks) (λb o n e=>(O.2 b n).trans e) Z Y V T R
  obtain⟨o,e,c,d⟩:=id q;exact⟨u,rfl,ZY (s:={s with heap:=y}) e c d (by decide) ⟨x,H,I1,S,⟨rfl,λys W=>by rw[I.kY W r];exact D⟩,q,λb n=>(t b n).1⟩⟩
 d:=by
  intro X N G Q L i m s F H E I t l J;subst N G Q;obtain⟨M,r,D⟩:=J;obtain⟨B,A,p,U⟩:=I.list r;obtain⟨Z,Y,f2,V,T,R⟩:=t it (by simp)
  have hl:=A.length;exact wpAny_pyNext_list_end (I.C.j L) l p.isList (by simp;omega) λy eb=>⟨rfl,I.turned (t':=s.toks) (λb o n e=>eb b o n e) Z Y V T R⟩
 f:=λ_ _ _ _ _ l h=>wpAny_pyIter_listiter l h
def g9{K}a it:Turn P w K tg (Itt K a) [it] it (λi h=>h.IsTupleIter it a i) where
 g:=by simp
 c:=λi h m b r=>by
  have e:b=it:=by simpa using r
  subst e;refine byG λt l=>?_;obtain⟨o,e,c,d⟩:=m;refine l ?_;exact⟨o,e,λv z=>by rw[d]at z;cases z⟩
 a:=λi h D m k=>m.at λo e=>k it (by simp) o e
 e:=by
  intro X R N T O i n s M H E I B m Q;subst R N T;refine byG λt l=>?_;obtain⟨S,x,A,J⟩:=Q;refine l ?_;refine byG λt l=>?_;obtain⟨q,G,p,hz⟩:=I.tuple A;refine l ?_;obtain⟨u,hu,W⟩:=G.get J;refine byG λt l=>?_;obtain⟨L,F,f2,Z,Y,V⟩:=B it (by simp)
  refine l ?_;refine wpAny_pyNext_tuple_item m (show s.heap.IsTuple a q.toArray from p) (x:=u) (by simpa using hu) λD y U=>?_
  have I1:Inv X n M H {s with heap:=D}:=I.turned (t':=s.toks) (λb o r e=>(U.2 b r).trans e) L F Z Y V
  refine byG λt l=>?_;obtain⟨o,e,c,d⟩:=id y;refine l ?_;exact⟨u,rfl,ZY (s:={s with heap:=D}) e c d (by decide) ⟨x,H,I1,W,⟨rfl,λys hy=>by rw[I.ni hy A];exact J⟩,y,λb r=>(B b r).1⟩⟩
 d:=by
  intro X R N T O i n s M H E I B m Q;subst R N T;obtain⟨S,A,J⟩:=Q;refine byG λt l=>?_;obtain⟨q,G,p,hz⟩:=I.tuple A;refine l ?_;refine byG λt l=>?_;obtain⟨L,F,f2,Z,Y,V⟩:=B it (by simp)
  refine l ?_;have hl:=G.length;exact wpAny_pyNext_tuple_end (I.C.j O) m (show s.heap.IsTuple a q.toArray from p) (by simp;omega) λD eb=>⟨rfl,I.turned (t':=s.toks) (λb o r e=>eb b o r e) L F Z Y V⟩
 f:=λ_ _ _ _ _ m h=>wpAny_pyIter_tupleiter m h
def g8{K}it lo n:Turn P w K tg (Itr lo n) [it] it (λi h=>IsRangeIter h it (lo+(i:Nat)*1) ((n:Int)-(i:Nat)) 1) where
 g:=by simp
 c:=λi h l b m=>by
  have e:b=it:=by simpa using m
  subst e;exact⟨_,l,λv z=>by have Z:GK _=Data.cell v:=z;cases Z⟩
 a:=λi h x l k=>k it (by simp) _ l
 e:=by
  intro X D y G B i p s V H E I u l A;subst D y G;refine byG λF q=>?_;obtain⟨T,R,O,Q,N,J⟩:=u it (by simp)
  refine q ?_;have W:=Walks.range (prog:=X.f) (w:=X.w) (I.C.j B) it lo 1 n;refine W.item i s _ _ A l λv x Y M r L=>?_;obtain⟨t,rfl⟩:=M;have U:Inv X p V H {s with heap:=x,toks:=Y}:=I.turned (λb o m e=>L b o (by simpa using m) e) T R Q N J
  refine⟨_,rfl,ZY (s:={s with heap:=x,toks:=Y}) (n:="range_iterator") r rfl rfl (by decide) ⟨.d (lo+i),H,U,⟨t,?_⟩,⟨rfl,rfl⟩,r,λb m=>(u b m).1⟩⟩
  rw[Int.mul_one]
 d:=by
  intro X D y G B i p s V H E I u l A;subst D y G;refine byG λF q=>?_;obtain⟨T,R,O,Q,N,J⟩:=u it (by simp)
  refine q ?_;exact wpAny_pyNext_range_end (I.C.j B) l (by have:n<=i:=A;omega) λx S=>⟨rfl,I.turned (t':=s.toks) (λb o m e=>S b o m e) T R Q N J⟩
 f:=λ_ _ _ _ _ l h=>wpAny_pyIter_rangeiter l h
section
variable {X:Cx}{tg:Expr}
def Q4(K:Aa)(t:TE):TI:=λb H R=>t b H λx A=>∃a,x=.c a/\(∃d,SqL K A a d)/\R (Itl K a) A
def ND(K:Aa)(t:TE):TI:=λb H R=>t b H λx A=>∃a,x=.c a/\(∃d,SqT K A a d)/\R (Itt K a) A
def eT(k:PE X l tl):PI X tg l (Q4 X.K tl):=by
 intro c s f H R I h;refine thn (k c s f H _ I h) λv d z=>?_;obtain⟨x,B,A,r,q1⟩:=z;obtain⟨a,e,⟨n,g⟩,q⟩:=q1;subst e;cases r;obtain⟨i,t,p,u⟩:=A.list g;refine Es p.isList ?_;refine⟨d.heap.objs.size,[d.heap.objs.size],_,_,B,rfl,A.kept (t':=d.toks) λb o e=>rg _ e,bp a _,⟨_,Au _ rfl,rfl,rfl⟩,λb m=>?_,q⟩;have e:b=d.heap.objs.size:=by simpa using m
 subst e;exact A.Wf (Ac _) (A.j.fresh (Ac _))
def Yv(k:PE X l tl):PI X tg l (ND X.K tl):=by
 intro d s f H R I h;refine thn (k d s f H _ I h) λv c z=>?_;obtain⟨x,B,A,r,q1⟩:=z;obtain⟨a,e,⟨n,g⟩,q⟩:=q1;subst e;cases r;obtain⟨i,t,p,u⟩:=A.tuple g;refine Cp (show c.heap.IsTuple a i.toArray from p) ?_;refine⟨c.heap.objs.size,[c.heap.objs.size],_,_,B,rfl,A.kept (t':=c.toks) λb o e=>rg _ e,g9 a _,⟨_,Au _ rfl,rfl,rfl⟩,λb m=>?_,q⟩;have e:b=c.heap.objs.size:=by simpa using m
 subst e;exact A.Wf (Ac _) (A.j.fresh (Ac _))
def jK{lo hi}(I:Inv X pins σ H s)(g:-(2 ^ 62)<=lo)(d:lo<2 ^ 62)(c:-(2 ^ 62)<=hi)(a:hi<2 ^ 62)
 (q:R (Itr lo (hi-lo).toNat) H):wpAny (model X.f X.w) X.A (pyIter (.ref s.heap.objs.size)) (PIE X pins σ tg R) E {s with heap:=s.heap.push {cls:=.type "range",data:=.fields #[.int lo t,.int hi u,.int 1 v]},toks:=tk}:=by
 refine wpAny_pyIter_range (IsRange.new ..) (small_one g d c a) ?_;have B:Inv X pins σ H {s with heap:=s.heap.push {cls:=.type "range",data:=.fields #[.int lo t,.int hi u,.int 1 v]},toks:=tk}:=I.kept λb o e=>rg _ e
 refine⟨(s.heap.push {cls:=.type "range",data:=.fields #[.int lo t,.int hi u,.int 1 v]}).objs.size,[(s.heap.push {cls:=.type "range",data:=.fields #[.int lo t,.int hi u,.int 1 v]}).objs.size],_,_,H,rfl,
  B.kept (t':=tk) λb o e=>rg _ e,g8 _ lo (hi-lo).toNat,?_,λb h=>?_,q⟩
 . have k:lo+((0:Nat):Int)*1=lo:=by simp
   have i:(((hi-lo).toNat:Nat):Int)-((0:Nat):Int)=B8 lo hi 1:=by rw[rangeSize_one];split<;>omega
   show IsRangeIter _ _ (lo+((0:Nat):Int)*1) ((((hi-lo).toNat:Nat):Int)-((0:Nat):Int)) 1;rw[k,i];exact Au _ rfl
 . have e:b=(s.heap.push {cls:=.type "range",data:=.fields #[.int lo t,.int hi u,.int 1 v]}).objs.size:=by simpa using h
   subst e;exact B.Wf (Ac _) (B.j.fresh (Ac _))
def Q5(t:TA):TI:=λa H R=>t a H λv A=>∃j:Int,v=[.d j]∧-(2 ^ 62)<=j/\j<2 ^ 62/\R (Itr 0 j.toNat) A
def Q6(t:TA):TI:=λa H R=>t a H λv A=>∃i j:Int,v=[.d i,.d j]/\(-(2 ^ 62)<=i/\i<2 ^ 62∧-(2 ^ 62)<=j/\j<2 ^ 62)/\R (Itr i (j-i).toNat) A
def bN(m:Gl X "range")(l:X.d "range"=none)(n:PA X [a] ta)(k:Av [a] X.a=[(false,eval a X.a)]:=by rfl):PI X tg (.Call (.Name "range" p) [a] [] pos) (Q5 ta):=by
 intro b s c H R I h;refine Call_ (tY I m l boot_range (CM (thn (n pos b s c H _ I h) λu o z=>?_) k rfl));obtain⟨v,B,A,g,q1⟩:=z;obtain⟨j,e,q1,i,q⟩:=q1;subst e;cases g with
 |cons r f=>
  cases f;obtain⟨t,rfl⟩:=r;exact call_range_1 (jK A ⋯ ⋯ q1 i (by simpa using q))
def bO(x:Gl X "range")(v:X.d "range"=none)(z:PA X [a,b] ta)(u:Av [a,b] X.a=[(false,eval a X.a),(false,eval b X.a)]:=by rfl)(f:Av [b] X.a=[(false,eval b X.a)]:=by rfl) :
 PI X tg (.Call (.Name "range" p) [a,b] [] pos) (Q6 ta):=by
 intro c s k H R I h;refine Call_ (tY I x v boot_range (CM (thn (z pos c s k H _ I h) λw A ⟨vs,H1,I1,r1,q1⟩=>?_) (by rw[u,f]) (by rw[f];rfl)))
 obtain⟨i,j,e,⟨q1,o,n,m⟩,q⟩:=q1;subst e;cases r1 with
 |cons r g=>
  cases g with
  |cons l g=>
   cases g;obtain⟨t,rfl⟩:=r;obtain⟨y,rfl⟩:=l;exact call_range_2 (jK I1 q1 o n m q)
def Nb(w:TI)(g:TG)(t:TS):TS:=λD f H=>w f H λJ C=>∃W:Nat->Nat->St->Hp->Prop,(∃m,W 0 m f C)/\∀i m f H,W i m f H ->
 (J.a i H/\D.a f H)\/(J.c i H/\∃N:St->Hp->Prop,(∀h A,N h A->∃l,l<m/\W (i+1) l h A)/\∀x A,J.b i H x A->g x f A λk B=>t {D with a:=N,d:=N,c:=D.a} k B)
noncomputable def pW(f:List Addr)(h:Heap):List (Addr × Obj):=f.filterMap λb=>(h.get? b).map λo=>(b,o)
def v9(a:b∈fp)(e:h.get? b=some o):(b,o)∈pW fp h:=CN.mpr ⟨b,a,by rw[e];rfl⟩
def cn(a:p∈pW fp h):p.1∈fp/\h.get? p.1=some p.2:=by
 obtain⟨b,c,e⟩:=CN.mp a;cases q:h.get? b with
 |none=>rw[q]at e;cases e
 |some o=>
  rw[q]at e;have d:(b,o)=p:=AQ e;subst d;exact⟨c,q⟩
def Inv.pinned(I:Inv X pins σ H s)(g:∀b∈fp,uO X pins H b)(f:∀b∈fp,∃o,s.heap.get? b=some o/\∀v,o.data≠.cell v):Inv X (pins++pW fp s.heap) σ H s:=
 I.lE λp c=>(Ba.mp c).elim (λz=>I.O p (AU _ z)) λz=>by obtain⟨h,e⟩:=cn z;obtain⟨l,k,i,_⟩:=g p.1 h;obtain⟨o,a,d⟩:=f p.1 h;rw[e]at a;cases a;exact⟨e,l,k,i,d⟩
def Inv.sq(I:Inv X (pins++pl) σ H s):Inv X pins σ H s:=I.lE λp h=>I.O p (AU _ (Br _ h))
def Rp(L:PassesOwn (model X.f X.w) X.A X.a X.i)(hc:X.j=true)(hi:PI X tg iter wi)(hg:PG X tg g)(z:PSs X body tb)
 (hs:∀x,A9 iter X.a x=pure x:=by intro _;rfl):PS X (.For tg iter body [] pos) (Nb wi g tb):=by
 intro p s σ H D I h;refine wpAny_For (thn (hi p s σ H _ I h) λv s1 h1=>thn h1 λitv s2 h2=>?_) hs;refine byG λpi y=>?_;obtain⟨it,S,tn,J,H2,e,I2,T,st2,f2,W,⟨m0,w0⟩,R⟩:=h2;refine y ?_;subst e
 have t:∀{G:Hp},(∀b∈S,G b=none)->∀b∈S,uO X p G b:=λhn b z=>⟨hn b z,(f2 b z).2⟩;refine codeAny_forLoop_any (λn s'=>∃i q G,Inv X p q G s'/\tn i s'.heap/\(∀b∈S,G b=none)/\W i n q G) ?_ m0 ⟨0,σ,H2,I2,st2,λb z=>(f2 b z).1,w0⟩;rintro n s3 ⟨i,l,U,I3,Z,M,w3⟩;rcases R i n l U w3 with⟨V,qn⟩|⟨go,N,hN,Y⟩
 . refine D6 L (thn (T.d X rfl rfl rfl hc i p s3 l U X.i I3 (t M) Z V) λr s4 P=>?_)
   obtain⟨hr,I4⟩:=P;subst hr;exact EZ ⟨l,U,I4,qn⟩
 . refine D6 L (thn (T.e X rfl rfl rfl hc i p s3 l U X.i I3 (t M) Z go) λr s4 P=>?_)
   obtain⟨u,hr,h4⟩:=P;subst hr;refine D6 L (thn h4 λ_ s5 P=>?_);refine byG λpi y=>?_;obtain⟨x,H5,I5,r5,y5,Q,fr5⟩:=P;refine y ?_;have I5':=I5.pinned (t fr5) (T.c _ _ Q);refine D6 L (thn (hg _ s5 l H5 x u _ I5' r5 (Y x H5 y5)) λ_ s6 P=>?_);refine byG λpi y=>?_;obtain⟨σ6,H6,I6,q6⟩:=P;refine y ?_;refine D6 L (thn (z _ s6 σ6 H6 _ I6 q6) λf s7 K=>?_);have B:∀{k:St} {E:Hp},Inv X (p++pW S s5.heap) k E s7->N k E->∃m,m<n/\∃i q G,Inv X p q G s7/\tn i s7.heap/\(∀b∈S,G b=none)/\W i m q G:=λ{k E} C F=>by obtain⟨m',hm,w7⟩:=hN k E F;refine⟨m',hm,i+1,k,E,C.sq,T.a _ _ _ Q λb z o e=>(C.O (b,o) (AU _ (AU _ (v9 z e)))).1,λb z=>?_,w7⟩;obtain⟨o,e,d⟩:=T.c _ _ Q b z;exact(C.O (b,o) (AU _ (AU _ (v9 z e)))).2.1
   cases f with
   |next=>obtain⟨k,E,C,F⟩:=K;exact B C F
   |cont=>obtain⟨k,E,C,F⟩:=K;exact B C F
   |brk=>obtain⟨k,E,C,K⟩:=K;exact⟨k,E,C.sq,K⟩
   |ret v=>obtain⟨x7,k,E,C,r7,K⟩:=K;exact⟨x7,k,E,C.sq,r7,K⟩
end
abbrev R2:=V->V->Hp->VK->Prop
def OpR(X:Cx)(f:Value->Value->Sem Value)(r:R2):Prop:=
 ∀(p:List (Addr × Obj)) (s:Shared) (σ:St) (H:Hp) (x y:V) (v u:Value) (Q:VK),Inv X p σ H s->RelV x v->RelV y u->r x y H Q ->
  wpAny (model X.f X.w) X.A (f v u) (EP X p σ Q) X.i s
def UnR(X:Cx)(f:Value->Sem Value)(r:V->Hp->VK->Prop):Prop:=
 ∀(p:List (Addr × Obj)) (s:Shared) (σ:St) (H:Hp) (x:V) (v:Value) (Q:VK),Inv X p σ H s->RelV x v->r x H Q ->
  wpAny (model X.f X.w) X.A (f v) (EP X p σ Q) X.i s
def yc(X:Cx)(f:Value)(r:List V->Hp->VK->Prop):Prop:=
 ∀(p:List (Addr × Obj)) (s:Shared) (σ:St) (H:Hp) (xs:List V) (us:List Value) (Q:VK),Inv X p σ H s->Vals xs us->r xs H Q ->
  wpAny (model X.f X.w) X.A (call f us) (EP X p σ Q) X.i s
def O6(X:Cx)(r:V->Hp->(Bool->Hp->Prop)->Prop):Prop:=
 ∀(p:List (Addr × Obj)) (s:Shared) (σ:St) (H:Hp) (x:V) (v:Value) (Q:Bool->Hp->Prop),Inv X p σ H s->RelV x v->r x H Q ->
  wpAny (model X.f X.w) X.A (truthy v) (TP X p σ Q) X.i s
def tOp(r:R2)(b t:TE):TE:=λa H Q=>b a H λx B=>t a B λy A=>r x y A Q
def tUn(r:V->Hp->VK->Prop)(t:TE):TE:=λa H Q=>t a H λx A=>r x A Q
def rI(C:Int->Int->Prop)(g:Int->Int->V):R2:=λx y H Q=>∃i j,x=.d i/\y=.d j/\C i j/\Q (g i j) H
def rI0(g:Int->Int->V):R2:=λx y H Q=>∃i j,x=.d i/\y=.d j/\Q (g i j) H
def rU(g:Int->V):V->Hp->VK->Prop:=λx H Q=>∃i,x=.d i/\Q (g i) H
section
variable {X:Cx}{a b c:Expr}{ta tb tc:TE}{pos:Pos}
def U4(l:PE X a ta)(k:PE X b tb){R:V->V->Hp->Prop}(I:Inv X pins σ H s)
 (h:ta σ H λx M=>tb σ M λy F=>R x y F)  {f:Value->Value->Sem Value}
 (g:∀v u L x y F,Inv X pins σ F L->RelV x v->RelV y u->R x y F->wpAny (model X.f X.w) X.A (f v u) Q X.i L) :
 wpAny (model X.f X.w) X.A (eval a X.a) (λv j=>wpAny (model X.f X.w) X.A (eval b X.a) (λu e=>wpAny (model X.f X.w) X.A (f v u) Q X.i e) X.i j) X.i s:=by
 refine thn (l pins s σ H _ I h) λv c z=>?_;obtain⟨x,M,C,d,q1⟩:=z;refine thn (k pins c σ M _ C q1) λu L z=>?_;obtain⟨y,F,B,r,q⟩:=z;exact g v u L x y F B d r q
def k8(i:OpR X (BD op) r)(l:PE X a ta)(k:PE X b tb):PE X (.BinOp a op b pos) (tOp r ta tb):=by intro p s c H Q I h;exact wpAny_BinOp (U4 l k I h λv u d x y B A g f q=>i p d c B x y v u Q A g f q)
def OG(d:UnR X (unaryOp op) r)(f:PE X a ta):PE X (.UnaryOp op a pos) (tUn r ta):=by intro p s b H Q I h;exact UnaryOp_ (thn (f p s b H _ I h) λv c ⟨x,H1,I1,r1,q1⟩=>d p c b H1 x v Q I1 r1 q1)
def opI{f:Value->Value->Sem Value}{C:Int->Int->Prop}{g:Int->Int->Int}
 (r:∀i j t u (s:Shared) (Q:Value->Shared->Prop) E,C i j->Q (.int (g i j) s.toks) {s with toks:=s.toks+1}->wpAny (model X.f X.w) X.A (f (.int i t) (.int j u)) Q E s) :
 OpR X f (rI C λi j=>.d (g i j)):=by
 intro p s l H x y v u Q I c b h;obtain⟨i,j,rfl,rfl,k,q⟩:=h;obtain⟨t,rfl⟩:=c;obtain⟨a,rfl⟩:=b;exact r i j t a s _ _ k ⟨.d (g i j),H,I.tok _,⟨_,rfl⟩,q⟩
def VN{f:Value->Value->Sem Value}{g:Int->Int->Int}
 (r:∀i j t u (s:Shared) (Q:Value->Shared->Prop) E,Q (.int (g i j) s.toks) {s with toks:=s.toks+1}->wpAny (model X.f X.w) X.A (f (.int i t) (.int j u)) Q E s) :
 OpR X f (rI0 λi j=>.d (g i j)):=by
 intro p s k H x y v u Q I c b h;obtain⟨i,j,rfl,rfl,q⟩:=h;obtain⟨t,rfl⟩:=c;obtain⟨a,rfl⟩:=b;exact r i j t a s _ _ ⟨.d (g i j),H,I.tok _,⟨_,rfl⟩,q⟩
def VM{f:Value->Value->Sem Value}{g:Int->Int->Bool}
 (r:∀i j t u s (Q:Value->Shared->Prop) E,Q (.bool (g i j)) s->wpAny (model X.f X.w) X.A (f (.int i t) (.int j u)) Q E s) :
 OpR X f (rI0 λi j=>.f (g i j)):=by
 intro p s d H x y v u Q I c b h;obtain⟨i,j,rfl,rfl,q⟩:=h;obtain⟨t,rfl⟩:=c;obtain⟨a,rfl⟩:=b;exact r i j t a s _ _ ⟨.f (g i j),H,I,rfl,q⟩
def QW(i j:Int):Prop:=0<j/\j<1073741824
def O5(i j:Int):Prop:=0<=j/\j<=1000000/\i.natAbs<2 ^ 64
def X7(i j:Int):Prop:=(-(2 ^ 64)<i/\i<2 ^ 64)\/(-(2 ^ 64)<j/\j<2 ^ 64)
def X7.ok(h:X7 i j):IntMulOk i j:=by
 rcases h with⟨b,a⟩|⟨b,a⟩
 . exact .of_left (intBits_le_64 b a)
 . exact .of_right (intBits_le_64 b a)
def S9:OpR X (BD .Add) (rI0 λi j=>.d (i+j)):=VN λ_ _ _ _ _ _ _ q=>add_int q
def RH:OpR X (BD .Sub) (rI0 λi j=>.d (i-j)):=VN λ_ _ _ _ _ _ _ q=>sub_int q
def RC:OpR X (BD .Mult) (rI X7 λi j=>.d (i*j)):=opI λ_ _ _ _ _ _ _ h q=>mul_int q h.ok
def VP:OpR X (BD .FloorDiv) (rI QW λi j=>.d (i/j)):=opI λi j _ _ _ _ _ h q=>by have b:(0:Int)<j:=h.1;have a:j<1073741824:=h.2;exact floordiv_int ⋯ (by rw[FA i ⋯];exact q) (.inl (PyProof.noPylong_small ⋯))
def RB:OpR X (BD .Mod) (rI (λ_ j=>0<j) λi j=>.d (i%j)):=opI λi j _ _ _ _ _ h q=>by have a:(0:Int)<j:=h;exact mod_int' ⋯ (by rw[FC i ⋯];exact q)
def RE:OpR X (BD .Pow) (rI O5 λi j=>.d (i ^ j.toNat)):=opI λ_ _ _ _ _ _ _ h q=>pow_int_small h.1 h.2.1 h.2.2 q
def Wm:OpR X (Ea .Add) (rI0 λi j=>.d (i+j)):=VN λ_ _ _ _ _ _ _ q=>iadd_int q
def Wq:OpR X (Ea .Sub) (rI0 λi j=>.d (i-j)):=VN λ_ _ _ _ _ _ _ q=>isub_int q
def Wo:OpR X (Ea .Mult) (rI X7 λi j=>.d (i*j)):=opI λ_ _ _ _ _ _ _ h q=>imul_int q h.ok
def Zf:OpR X (Ea .FloorDiv) (rI QW λi j=>.d (i/j)):=opI λi j _ _ _ _ _ h q=>by have b:(0:Int)<j:=h.1;have a:j<1073741824:=h.2;exact ifloordiv_int ⋯ (by rw[FA i ⋯];exact q) (.inl (PyProof.noPylong_small ⋯))
def Wn:OpR X (Ea .Mod) (rI (λ_ j=>0<j) λi j=>.d (i%j)):=opI λi j _ _ _ _ _ h q=>by have a:(0:Int)<j:=h;exact imod_int ⋯ (by rw[FC i ⋯];exact q)
def unI{f:Value->Sem Value}{g:Int->Int}
 (r:∀i t (s:Shared) (Q:Value->Shared->Prop) E,Q (.int (g i) s.toks) {s with toks:=s.toks+1}->wpAny (model X.f X.w) X.A (f (.int i t)) Q E s) :
 UnR X f (rU λi=>.d (g i)):=by
 intro p s b H x v Q I a h;obtain⟨i,rfl,q⟩:=h;obtain⟨t,rfl⟩:=a;exact r i t s _ _ ⟨.d (g i),H,I.tok _,⟨_,rfl⟩,q⟩
def QS:UnR X (unaryOp .USub) (rU λi=>.d (-i)):=unI λ_ _ _ _ _ q=>neg_int q
end
noncomputable def Of:V->V->Bool
 |.g,.g=>true|.g,.d _=>true|.d _,.g=>true|.g,.f _=>true|.f _,.g=>true|.g,.e _=>true|.e _,.g=>true
 |.d _,.d _=>true|.f _,.f _=>true|.e _,.e _=>true|.h _,.h _=>true
 |.d _,.e _=>true|.e _,.d _=>true|.f _,.e _=>true|.e _,.f _=>true
 |_,_=>false
def rEq:R2:=λx y H Q=>Of x y=true/\Q (.f (decide (x=y))) H
def rNe:R2:=λx y H Q=>Of x y=true/\Q (.f (!decide (x=y))) H
def fZ:decide (V.d i=V.d j)=(i == j):=by rw[BL];simp
def av:decide (V.f i=V.f j)=(i == j):=by rw[BL];simp
def fg:decide (V.e i=V.e j)=(i == j):=by rw[BL];simp
def fY:decide (V.h i=V.h j)=(i.toList == j.toList):=by rw[BL];cases i;cases j;simp
section
variable {X:Cx}{a b c:Expr}{ta tb tc:TE}{pos:Pos}
def zl(I:Inv X pins σ H s)(q:Q (.f k) H)(e:k=k'):EP X pins σ Q (.bool k') s:=by subst e;exact⟨.f k,H,I,rfl,q⟩
def Ua:OpR X (Bg .Eq) rEq:=by
 intro p s k H x y v u Q I c r h;obtain⟨b,q⟩:=h;cases x with
 |g=>
  cases c;cases y with
  |g=>cases r;exact PySem.EqNone.eq_none_none (zl I q (by simp))
  |f j=>cases r;exact PySem.EqNone.eq_none_bool (zl I q (by simp))
  |d j=>obtain⟨a,rfl⟩:=r;exact PySem.EqNone.eq_none_int (zl I q (by simp))
  |e j=>obtain⟨a,rfl⟩:=r;exact PySem.EqNone.eq_none_str (zl I q (by simp))
  |_=>exact absurd (show false=true from b) Aj
 |f i=>
  cases c;cases y with
  |g=>cases r;exact PySem.EqNone.eq_bool_none (zl I q (by simp))
  |f j=>cases r;exact eq_bool (zl I q av)
  |e j=>obtain⟨a,rfl⟩:=r;exact PySem.EqMixed.eq_bool_str (zl I q (by simp))
  |_=>exact absurd (show false=true from b) Aj
 |d i=>
  obtain⟨t,rfl⟩:=c;cases y with
  |g=>cases r;exact PySem.EqNone.eq_int_none (zl I q (by simp))
  |d j=>obtain⟨a,rfl⟩:=r;exact eq_int (zl I q fZ)
  |e j=>obtain⟨a,rfl⟩:=r;exact PySem.EqMixed.eq_int_str (zl I q (by simp))
  |_=>exact absurd (show false=true from b) Aj
 |e i=>
  obtain⟨t,rfl⟩:=c;cases y with
  |g=>cases r;exact PySem.EqNone.eq_str_none (zl I q (by simp))
  |f j=>cases r;exact PySem.EqMixed.eq_str_bool (zl I q (by simp))
  |d j=>obtain⟨a,rfl⟩:=r;exact PySem.EqMixed.eq_str_int (zl I q (by simp))
  |e j=>obtain⟨a,rfl⟩:=r;exact eq_str (zl I q fg)
  |_=>exact absurd (show false=true from b) Aj
 |h i=>
  obtain⟨t,rfl⟩:=c;cases y with
  |h j=>obtain⟨a,rfl⟩:=r;exact PySem.W.eq_bytes (zl I q fY)
  |_=>exact absurd (show false=true from b) Aj
 |_=>cases y<;>exact absurd (show false=true from b) Aj
def Ub:OpR X (Bg .NotEq) rNe:=by
 intro p s k H x y v u Q I c r h;obtain⟨b,q⟩:=h;cases x with
 |g=>
  cases c;cases y with
  |g=>cases r;exact PySem.EqNone.ne_none_none (zl I q (by simp))
  |f j=>cases r;exact PySem.EqNone.ne_none_bool (zl I q (by simp))
  |d j=>obtain⟨a,rfl⟩:=r;exact PySem.EqNone.ne_none_int (zl I q (by simp))
  |e j=>obtain⟨a,rfl⟩:=r;exact PySem.EqNone.ne_none_str (zl I q (by simp))
  |_=>exact absurd (show false=true from b) Aj
 |f i=>
  cases c;cases y with
  |g=>cases r;exact PySem.EqNone.ne_bool_none (zl I q (by simp))
  |f j=>cases r;exact ne_bool (zl I q (congrArg not av))
  |e j=>obtain⟨a,rfl⟩:=r;exact PySem.EqMixed.ne_bool_str (zl I q (by simp))
  |_=>exact absurd (show false=true from b) Aj
 |d i=>
  obtain⟨t,rfl⟩:=c;cases y with
  |g=>cases r;exact PySem.EqNone.ne_int_none (zl I q (by simp))
  |d j=>obtain⟨a,rfl⟩:=r;exact ne_int (zl I q (congrArg not fZ))
  |e j=>obtain⟨a,rfl⟩:=r;exact PySem.EqMixed.ne_int_str (zl I q (by simp))
  |_=>exact absurd (show false=true from b) Aj
 |e i=>
  obtain⟨t,rfl⟩:=c;cases y with
  |g=>cases r;exact PySem.EqNone.ne_str_none (zl I q (by simp))
  |f j=>cases r;exact PySem.EqMixed.ne_str_bool (zl I q (by simp))
  |d j=>obtain⟨a,rfl⟩:=r;exact PySem.EqMixed.ne_str_int (zl I q (by simp))
  |e j=>obtain⟨a,rfl⟩:=r;exact ne_str (zl I q (congrArg not fg))
  |_=>exact absurd (show false=true from b) Aj
 |h i=>
  obtain⟨t,rfl⟩:=c;cases y with
  |h j=>obtain⟨a,rfl⟩:=r;exact PySem.W.ne_bytes (zl I q (congrArg not fY))
  |_=>exact absurd (show false=true from b) Aj
 |_=>cases y<;>exact absurd (show false=true from b) Aj
def Pn:OpR X (Bg .Lt) (rI0 λi j=>.f (decide (i<j))):=VM λ_ _ _ _ _ _ _ q=>lt_int q
def Pm:OpR X (Bg .LtE) (rI0 λi j=>.f (decide (i<=j))):=VM λ_ _ _ _ _ _ _ q=>le_int q
def Pl:OpR X (Bg .Gt) (rI0 λi j=>.f (decide (j<i))):=VM λ_ _ _ _ _ _ _ q=>gt_int q
def Pk:OpR X (Bg .GtE) (rI0 λi j=>.f (decide (j<=i))):=VM λ_ _ _ _ _ _ _ q=>ge_int q
def RA:OpR X (Bg .Is) (λx y H Q=>y=.g/\Q (.f (decide (x=.g))) H):=by
 intro p s b H x y v u Q I r a h;obtain⟨rfl,q⟩:=h;cases a;refine is_none_gen (zl I q ?_);cases x<;>first
  |(cases r;rfl)
  |(obtain⟨t,rfl⟩:=r;rfl)
def VQ:OpR X (Bg .IsNot) (λx y H Q=>y=.g/\Q (.f (!decide (x=.g))) H):=by
 intro p s b H x y v u Q I r a h;obtain⟨rfl,q⟩:=h;cases a;refine isnot_none_gen (zl I q ?_);cases x<;>first
  |(cases r;rfl)
  |(obtain⟨t,rfl⟩:=r;rfl)
def eP(i:OpR X (Bg op) r)(m:PE X a ta)(l:PE X b tb)(k:DY op b=false):PE X (.Compare a [op] [b] pos) (tOp r ta tb):=by intro p s c H Q I h;exact wpAny_Compare1 (U4 m l I h λv u d x y B A g f q=>i p d c B x y v u Q A g f q) k
def dB(t:TE):TT:=λa H Q=>t a H λx A=>∃k,x=.f k/\Q k A
def lG(i:OpR X (Bg op) r)(n:PE X a ta)(m:PE X b tb)(l:DY op b=false):PT X (.Compare a [op] [b] pos) (dB (tOp r ta tb)):=by
 intro p s d H Q I h;refine wpAny_isTrue_Compare1 (thn (n p s d H _ I h) λv g ⟨x,H1,I1,r1,q1⟩=>thn (m p g d H1 _ I1 q1) λu f ⟨y,H2,I2,r2,q2⟩=>
  thn (i p f d H2 x y v u _ I2 r1 r2 q2) λc o ⟨z,H3,I3,r3,k,e,q3⟩=>?_) l
 subst e;cases r3;exact BF ⟨H3,I3,q3⟩
def Xf(r b:R2)(ta tb tc:TE):TE:=λa H Q=>ta a H λx D=>tb a D λy C=>r x y C λz A=>∃k,z=.f k /\
 (if k=true then tc a A λw B=>b y w B Q else Q (.f false) A)
def Ym(q:OpR X (Bg op) r)(i:OpR X (Bg op') r')(B:PE X a ta)(A:PE X b tb)(j:PE X c tc)
 (t:Hf [op,op'] [b,c]=false:=by with_unfolding_all rfl):PE X (.Compare a [op,op'] [b,c] pos) (Xf r r' ta tb tc):=by
 intro p s g H Q I h;refine Compare_chain (thn (B p s g H _ I h) λv o ⟨x,H1,I1,r1,q1⟩=>chain_link (thn (A p o g H1 _ I1 q1) λu n ⟨y,H2,I2,r2,q2⟩=>
  thn (q p n g H2 x y v u _ I2 r1 r2 q2) λd m ⟨z,H3,I3,r3,k,e,q3⟩=>?_)) t
 subst e;cases r3;refine BF ?_;cases k with
 |false=>exact ite_ff ⟨.f false,H3,I3,rfl,q3⟩
 |true=>exact ite_tt (chain_last (thn (j p m g H3 _ I3 q3) λw l ⟨z',H4,I4,r4,q4⟩=>i p l g H4 y z' u w Q I4 r2 r4 q4))
def Y7(A:OpR X (Bg op) r)(g:OpR X (Bg op') r')(E:PE X a ta)(D:PE X b tb)(C:PE X c tc)
 (B:Hf [op,op'] [b,c]=false:=by with_unfolding_all rfl):PT X (.Compare a [op,op'] [b,c] pos) (dB (Xf r r' ta tb tc)):=by
 intro p s f H Q I h;refine isTrue_chain (thn (E p s f H _ I h) λv o ⟨x,H1,I1,r1,q1⟩=>test_link (thn (D p o f H1 _ I1 q1) λu n ⟨y,H2,I2,r2,q2⟩=>
  thn (A p n f H2 x y v u _ I2 r1 r2 q2) λd m ⟨z,H3,I3,r3,k,e,q3⟩=>?_)) B
 subst e;cases r3;refine BF ?_;cases k with
 |false=>
  obtain⟨V,J,j⟩:=q3;cases J;exact ite_ff ⟨H3,I3,j⟩
 |true=>
  refine ite_tt (test_last (thn (C p m f H3 _ I3 q3) λw l ⟨z',H4,I4,r4,q4⟩=>thn (g p l f H4 y z' u w _ I4 r2 r4 q4) λY R i=>?_));obtain⟨P,N,K,q,T,G,t⟩:=i;subst G;cases q;exact BF ⟨N,K,t⟩
def X8(K:Aa)(x:V)(H:Hp)(k:Bool):Prop:=
 match x with
 |.g=>k=false
 |.f b=>k=b
 |.d i=>k=(i != 0)
 |.e y=>y.length<=Ao/\k=((y.length:Int) != 0)
 |.h y=>y.size<=Ao/\k=((y.size:Int) != 0)
 |.c p=>(∃a,SqL K H p a/\k=!a.isEmpty)\/(∃a,SqT K H p a/\k=!a.isEmpty)\/∃l,H p=some (.i l)/\k=!l.isEmpty
 |_=>False
def iU(r:KV kvs vs):(!vs.isEmpty)=!kvs.isEmpty:=by
 cases r<;>rfl
def q0(r:Vals xs its):(!its.toArray.isEmpty)=!xs.isEmpty:=by
 cases r<;>simp
def tZ:(Ao:Nat)<2 ^ 63:=by rw[AL];decide
def Xn:O6 X (λx H Q=>∃k,X8 X.K x H k/\Q k H):=by
 intro D s N H x v Q I u h;obtain⟨k,e,q⟩:=h;have T:=tZ;have R:Ao=16777216:=AL;cases x with
 |g=>
  cases u;have a:k=false:=e;subst a;exact truthy_none ⟨H,I,q⟩
 |f b=>
  cases u;have a:k=b:=e;subst a;exact BF ⟨H,I,q⟩
 |d i=>
  obtain⟨t,rfl⟩:=u;have a:k=(i != 0):=e;subst a;exact PySem.P.truthy_int ⟨H,I,q⟩
 |e y=>
  obtain⟨t,rfl⟩:=u;obtain⟨G,a⟩:y.length<=Ao/\k=((y.length:Int) != 0):=e;subst a;exact PySem.P.truthy_str ⋯ ⟨H,I.tok _,q⟩
 |h y=>
  obtain⟨t,rfl⟩:=u;obtain⟨G,a⟩:y.size<=Ao/\k=((y.size:Int) != 0):=e;subst a;exact PySem.W.truthy_bytes ⋯ ⟨H,I.tok _,q⟩
 |c p=>
  cases u;have a:(∃o,SqL X.K H p o/\k=!o.isEmpty)\/(∃o,SqT X.K H p o/\k=!o.isEmpty)\/∃l,H p=some (.i l)/\k=!l.isEmpty:=e;rcases a with⟨o,z,a⟩|⟨o,z,a⟩|⟨l,z,a⟩
  . subst a
    obtain⟨C,r,B,E⟩:=I.list z;have n:=r.length;exact wpAny_truthy_list B.isList (by simp only[Ab];omega) ⟨H,I.tok _,by rw[q0 r];exact q⟩
  . subst a
    obtain⟨C,r,B,E⟩:=I.tuple z;have n:=r.length;exact truthy_tuple B (by simp only[Ab];omega) ⟨H,I.tok _,by rw[q0 r];exact q⟩
  . subst a
    obtain⟨E,J,A,r,m⟩:l.length<=Ao/\(p == Cg)=false/\∃A,KV l A/\s.heap.DictOf (mr X.f X.w) p A:=I.j p _ z;have n:l.length=A.length:=G9 r;exact wpAny_truthy_dict J m ⋯ ⟨H,I.tok _,by rw[iU r];exact q⟩
 |_=>exact(show False from e).elim
def jH(d:PE X a ta)(c:∀w,isTrue a X.a w=(do let v <-w;standAt a.pos;holding [v] (truthy v))) :
 PT X a (λe H Q=>ta e H λx F=>∃k,X8 X.K x F k/\Q k F):=by
 intro p s e H Q I h;exact isTrue_plain (thn (d p s e H _ I h) λv b ⟨x,H1,I1,r1,q1⟩=>Xn p b e H1 x v Q I1 r1 q1) (c _)
def pR:OpR X (BD .Add) (λx y H Q=>∃i j,x=.e i/\y=.e j/\i.length+j.length<=Ao/\Q (.e (i++j)) H):=by intro p s d H x y v u Q I b r h;obtain⟨i,j,rfl,rfl,c,q⟩:=h;obtain⟨t,rfl⟩:=b;obtain⟨a,rfl⟩:=r;exact add_str (λa f=>⟨.e (i++j),H,I.tok _,⟨_,rfl⟩,q⟩) c
def vals1(r:Vals [x] us):∃u,us=[u]/\RelV x u:=by
 cases r with
 |cons b a=>cases a;exact⟨_,rfl,b⟩
def vals2(r:Vals [x,y] us):∃u w,us=[u,w]/\RelV x u/\RelV y w:=by
 cases r with
 |cons d c=>
  cases c with
  |cons b a=>cases a;exact⟨_,_,rfl,d,b⟩
def dU(a:X.j=true):yc X (.builtin "max") (λe H Q=>∃i j,e=[.d i,.d j]/\Q (.d (if j > i then j else i)) H):=by
 intro p s b H e c Q I r h;obtain⟨i,j,rfl,q⟩:=h;obtain⟨u,w,rfl,⟨t,rfl⟩,⟨g,rfl⟩⟩:=vals2 r;refine max_two_ints (I.C.j a) λl f k=>⟨_,H,I.kept k,?_,q⟩;by_cases hj:j > i
 . rw[if_pos hj,if_pos hj];exact⟨_,rfl⟩
 . rw[if_neg hj,if_neg hj];exact⟨_,rfl⟩
def dY(a:X.j=true):yc X (.builtin "min") (λe H Q=>∃i j,e=[.d i,.d j]/\Q (.d (if j<i then j else i)) H):=by
 intro p s b H e c Q I r h;obtain⟨i,j,rfl,q⟩:=h;obtain⟨u,w,rfl,⟨t,rfl⟩,⟨g,rfl⟩⟩:=vals2 r;refine min_two_ints (I.C.j a) λl f k=>⟨_,H,I.kept k,?_,q⟩;by_cases hj:j<i
 . rw[if_pos hj,if_pos hj];exact⟨_,rfl⟩
 . rw[if_neg hj,if_neg hj];exact⟨_,rfl⟩
def ow:yc X (.type "int") (λe H Q=>(∃i,e=[.d i]/\Q (.d i) H)\/∃k,e=[.f k]/\Q (.d (if k then 1 else 0)) H):=by
 intro p s b H e c Q I r h;rcases h with⟨i,rfl,q⟩|⟨k,rfl,q⟩
 . obtain⟨u,rfl,t,rfl⟩:=vals1 r
   exact call_int_int ⟨.d i,H,I,⟨_,rfl⟩,q⟩
 . obtain⟨u,rfl,a⟩:=vals1 r
   cases a;exact call_int_bool ⟨.d (if k then 1 else 0),H,I.tok _,⟨_,rfl⟩,q⟩
end
structure U0(h:Heap)(x dx C:Addr)(mA:Str->Option Value):Prop where
 a:h.get? x=some (GC C dx)
 ns:h.Ns1 dx mA
 ne:dx≠x
def cU{h:Heap}(n:h.Ns1 dx mA):∃w,h.get? dx=some w/\∀j,GP j w=some (mA j):=by
 obtain⟨o,c,m,f,k,i,_,g⟩:=n;refine⟨o,f,λj=>?_⟩;have e:=g j;unfold nsFind findBy at e;rw[<-Array.find?_toList]at e;unfold GP;rw[k];dsimp only;split
 . rename_i y q
   rw[q]at e;exact congrArg some e
 . rename_i q
   rw[q]at e;have a:c.toList.any (·.refKey)=false:=by rw[List.any_eq_false];intro y d;obtain⟨z,t,b⟩:=i y (Array.mem_toList_iff.mp d);simp[Gx.refKey,b]
   have l:¬c.toList.any (·.refKey)=true:=by rw[a];exact Aj
   rw[if_neg l];exact congrArg some e
def U0.look(I:U0 h x dx C mA):∃j,PySem.W.InstAt h x (GC C dx) C (some j)/\∀e,GP e j=some (mA e):=
 let ⟨j,b,c⟩:=cU I.ns
 ⟨j,⟨I.a,rfl,rfl,b⟩,c⟩
noncomputable def rV(f:Str)(v:V):List (Str × V)->List (Str × V)
 |[]=>[(f,v)]
 |(g,x)::r=>if g=f then (g,v)::r else (g,x)::rV f v r
theorem r8 f g v:∀w:List (Str × V),(rV f v w).lookup g=if g=f then some v else w.lookup g
 |[]=>by
  show CK g [(f,v)]=_;by_cases h:g=f
  . have j:(g == f)=true:=beq_iff_eq.mpr h
    simp only[CK,j,if_pos h]
  . have j:(g == f)=false:=beq_eq_false_iff_ne.mpr h
    simp only[CK,j,if_neg h]
 |(k,x)::r=>by
  have i:=r8 f g v r;rw[show rV f v ((k,x)::r)=(if k=f then (k,v)::r else (k,x)::rV f v r) from rfl]
  by_cases hk:k=f
  . rw[if_pos hk]
    by_cases h:g=k
    . have j:(g == k)=true:=beq_iff_eq.mpr h
      simp only[CK,j,if_pos (h.trans hk)]
    . have j:(g == k)=false:=beq_eq_false_iff_ne.mpr h
      simp only[CK,j,if_neg (λe:g=f=>h (e.trans hk.symm))]
  . rw[if_neg hk]
    by_cases h:g=k
    . have j:(g == k)=true:=beq_iff_eq.mpr h
      simp only[CK,j,if_neg (λe:g=f=>hk (h.symm.trans e))]
    . have j:(g == k)=false:=beq_eq_false_iff_ne.mpr h
      simp only[CK,j];exact i
theorem rO f v:∀j:List (Str × V),f∈(rV f v j).map (·.1)/\∀g,g∈j.map (·.1)->g∈(rV f v j).map (·.1)
 |[]=>⟨by simp[rV],λg h=>by simp at h⟩
 |(k,x)::r=>by
  obtain⟨y,w⟩:=rO f v r;rw[show rV f v ((k,x)::r)=(if k=f then (k,v)::r else (k,x)::rV f v r) from rfl]
  by_cases hk:k=f
  . rw[if_pos hk]
    subst hk;exact⟨by simp,λg h=>by simpa using h⟩
  . rw[if_neg hk]
    refine⟨?_,λg h=>?_⟩
    . rw[AE]
      exact Af _ y
    . rw[AE]at h ⊢
      rcases Al.mp h with e|e
      . exact Al.mpr (.inl e)
      . exact Af _ (w g e)
def Wl(b:HOk P w H h)(e:H a=some (.p C dx fs)):∃j,U0 h a dx C j/\(∀f,lq (fs.lookup f) (j f))/\EY j (fs.map (·.1))/\fs.length<=1000/\H dx=some (.d a):=by obtain⟨d,z,c,o,j,n,r,q⟩:=(show yA P w H h a (.p C dx fs) from b a _ e);exact⟨j,⟨o,n,c⟩,r,q,z,d⟩
structure Cls(K:Aa)(C:Addr):Prop where
 pg:PySem.W.plainGet K C Dh=true
 hd:PySem.W.hasDictIn K C=true
 po:PySem.W.plainOver K C=true
 sa:DI K (.ref C) "__setattr__"=some (some (.builtin "object.__setattr__"))
def Cls.get{K}(c:Cls K C)f:PySem.W.plainGet K C f=true:=c.pg
def WA(a:B4 e f env (eval e env)=eval e env)
 (h:wpAny (model prog w) A (eval e env) (λo j=>wpAny (model prog w) A (getAttr o f true) Q E j) E s):wpAny (model prog w) A (eval (.Attribute e f pos) env) Q E s:=
 Attribute_any_ h (by rw[arm_eval_Attribute,a])
section
variable {X:Cx}{pins:List (Addr × Obj)}{σ:St}{H:Hp}{s:Shared}{A:Around}{E:Value->Shared->Prop}{Q:Value->Shared->Prop}{c:Value}{b:Bool}
inductive sE(K:Aa)(H:Hp):V->Value->Prop where
 |d:sE K H .g (.type "NoneType")
 |bl (x:Bool):sE K H (.f x) (.type "bool")
 |c (i:Int):sE K H (.d i) (.type "int")
 |f (x:Str):sE K H (.e x) (.type "str")
 |h (x:UInt64):sE K H (.j x) (.type "float")
 |b {a:Addr} {xs:List V} (e:H a=some (.b xs)):sE K H (.c a) (.type "list")
 |j {a:Addr} {o:Obj} {xs:List V} (e:H a=some (.e o (.b xs))):sE K H (.c a) (.type "list")
 |g {a:Addr} {xs:List V} (e:H a=some (.c xs)):sE K H (.c a) (.type "tuple")
 |dK {a:Addr} {kvs:List (Key × V)} (e:H a=some (.i kvs)):sE K H (.c a) (.type "dict")
 |dT {a:Addr} {kvs:List (List Key × V)} (e:H a=some (.m kvs)):sE K H (.c a) (.type "dict")
 |k {a C dx:Addr} {fs:List (Str × V)} (e:H a=some (.p C dx fs)) (cl:Cls K C) (ha:DI K (.ref C) "__class__"=some (some (.builtin "object.__class__")))
  (hn:PySem.W.specialIn K (.builtin "object.__class__") "__get__"=some (some (.builtin "getset_descriptor.__get__"))) (htk:PySem.W.takesIn K (.builtin "object.__class__")=some true)
  (hm:PySem.W.mroIn K C (.type "object")=some true):sE K H (.c a) (.ref C)
def d7(I:Inv X pins σ H s)(r:RelV x u)(N:sE X.K H x t)(e:GQ X.K t c=some b)(h:∀F,Q (.bool b) {s with toks:=F}) :
 wpAny (model X.f X.w) A (call (.builtin "isinstance") [u,c]) Q E s:=by
 cases N with
 |d=>cases (show u=AY from r);exact BM PySem.W.kitx_none I.kIn A5 e (λz=>nomatch z) h
 |bl y=>cases (show u=Dz y from r);exact BM PySem.W.kitx_bool I.kIn A5 e (λz=>nomatch z) h
 |c i=>obtain⟨t,q⟩:=(show ∃t,u=GA i t from r);cases q;exact BM PySem.W.kitx_int I.kIn A5 e (λz=>nomatch z) h
 |f y=>obtain⟨t,q⟩:=(show ∃t,u=GB y t from r);cases q;exact BM PySem.W.kitx_str I.kIn A5 e (λz=>nomatch z) h
 |h y=>obtain⟨t,q⟩:=(show ∃t,u=Value.float y t from r);cases q;exact BM PySem.W.kitx_float I.kIn A5 e (λz=>nomatch z) h
 |@b a xs l=>
  cases (show u=AA a from r);obtain⟨_,_,n,_,v⟩:=(show yA X.f X.w H s.heap a (.b xs) from I.j a _ l);exact BM PySem.W.kitx_list I.kIn ⟨_,v,rfl⟩ e (λz=>nomatch z) h
 |@j a P xs l=>
  cases (show u=AA a from r);obtain⟨_,_,_,n,_,v⟩:=(show yA X.f X.w H s.heap a (.e P (.b xs)) from I.j a _ l);exact BM PySem.W.kitx_list I.kIn ⟨_,v,rfl⟩ e (λz=>nomatch z) h
 |@g a xs l=>
  cases (show u=AA a from r);obtain⟨_,_,_,p⟩:=(show yA X.f X.w H s.heap a (.c xs) from I.j a _ l);obtain⟨o,v,D,_⟩:=p;exact BM PySem.W.kitx_tuple I.kIn ⟨o,v,D⟩ e (λz=>nomatch z) h
 |@dK a B l=>
  cases (show u=AA a from r);obtain⟨_,_,L,_,p⟩:=(show yA X.f X.w H s.heap a (.i B) from I.j a _ l);obtain⟨o,Y,Z,v,D,_⟩:=p;exact BM PySem.W.kitx_dict I.kIn ⟨o,v,D.1⟩ e (λz=>nomatch z) h
 |@dT a B l=>
  cases (show u=AA a from r);obtain⟨_,_,xs,_,o,Y,Z,v,D,_⟩:=(show yA X.f X.w H s.heap a (.m B) from I.j a _ l);exact BM PySem.W.kitx_dict I.kIn ⟨o,v,D.1⟩ e (λz=>nomatch z) h
 |@k a C dx U l cl V R G T=>
  cases (show u=AA a from r);obtain⟨S,O,_⟩:=Wl I.j l;obtain⟨M,J,_⟩:=O.look;exact BM (PySem.W.kitx_own (cl.get _) cl.hd V R G T) I.kIn J e (λz=>nomatch z) h
end
structure xM(k:Nat)(A:Around):Prop where
 a:A.handled=none
 c:A.depth+3*k+5<Cq
 b:A.units+16*k+200<cLine
 d:A.guards=some []
theorem xM.deeper(r:xM (k+1) A)env:xM k (A.deeper env):=
 ⟨r.a,by have:=r.c;show A.depth+1+3*k+5<_;omega,by have:=r.b;show A.units+3+16*k+200<_;omega,r.d⟩
def ir{A:Around}:(A.under (.builtin "type.__call__" ⟨.ref C::us,kw⟩)).depth=A.depth+1:=by first|rfl|simp[Around.under,Code.weight,Code.isCreation,Code.isGuard,Code.isCaller,Code.frames,Code.isFrame,guardIds]
theorem xM.depth(r:xM k A):A.depth<Cq:=by have:=r.c;omega
def uz:TA:=λ_ H Q=>Q [] H
def xJ(c:TE)(t:TA):TA:=λa H Q=>c a H λx B=>t a B λb A=>Q (x::b) A
section
variable {X:Cx}{e:Expr}{es:List Expr}{te:TE}{t:TA}{pos:Pos}
def yV:PA X [] uz:=λ_ _ _ _ H Q I h=>Calls.spliced_nil ⟨[],H,I,.nil,h⟩
def yR(g:PE X e te)(f:PA X es t)(d:Av (e::es) X.a=(false,eval e X.a)::Av es X.a:=by rfl):PA X (e::es) (xJ te t):=by intro pos p s b H Q I h;rw[d];show wpAny _ _ (spliced ((false,eval e X.a)::backTo pos (Av es X.a))) _ _ s;refine Calls.spliced_cons (thn (g p s b H _ I h) λu c z=>?_);obtain⟨x,B,A,r,q1⟩:=z;exact thn (f pos p c b B _ A q1) λi k ⟨xs,H2,I2,r2,q2⟩=>⟨x::xs,H2,I2,.cons r r2,q2⟩
def QD(t:TA):TE:=λa H Q=>t a H λx A=>x.length<=Ao/\∀p,A p=none->Q (.c p) (upd A p (.c x))
def gj(t:TA):TE:=λa H Q=>t a H λx A=>x.length<=Ao/\∀p,A p=none->Q (.c p) (upd A p (.b x))
def gF{x1}(h:PA X es t):PE X (.Tuple es x1 pos) (QD t):=by
 intro p s d H Q I g;refine wpAny_Tuple_spliced (thn (h pos p s d H _ I g) λf a ⟨xs,H1,I1,r,z,q⟩=>⟨by rw[<-r.length];exact z,?_⟩)
 have i:H1 a.heap.objs.size=none:=I1.j.fresh (Ac _);refine⟨.c a.heap.objs.size,upd H1 a.heap.objs.size (.c xs),I1.laid (t':=a.toks) (λb u e=>rg _ e) (Ac _) ?_,rfl,q _ i⟩;exact⟨z,f,r,⟨_,Au _ rfl,rfl,_,rfl,rfl⟩⟩
def pV(h:PA X es t):PE X (.List es pos) (gj t):=by
 intro p s d H Q I g;refine wpAny_List_spliced (thn (h pos p s d H _ I g) λf a ⟨xs,H1,I1,r,z,q⟩=>⟨by rw[<-r.length];exact z,?_⟩)
 have i:H1 a.heap.objs.size=none:=I1.j.fresh (Ac _);refine⟨.c a.heap.objs.size,upd H1 a.heap.objs.size (.b xs),I1.laid (t':=a.toks) (λb u e=>rg _ e) (Ac _) ?_,rfl,q _ i⟩;exact⟨z,f,0,r,Au _ rfl⟩
end
abbrev Sp:=List V->Hp->VK->XK->Prop
abbrev CXT:=List Env->Hp->Shared->XK->Value->Shared->Prop
structure qE(P:Program)(w:World)(K:Aa)(mg:Str->Option Value)(base:Heap)(A:Around)(outer:List Env)(s:Shared)(H:Hp):Prop where
 a:A.frames=some outer
 c:Mod K mg base
 d:∀b o,base.get? b=some o->s.heap.get? b=some o/\H b=none
 h:base.objs.size<=s.heap.objs.size
 j:s.heap.FunFrames base outer
 i:∀b∈frs outer,H b=none
 f:HOk P w H s.heap
 g:AllBare s.gens
def CE(o:List Env)(P:Program)(w:World)(H:Hp)(s:Shared)(Q:VK)(u:Value)(a:Shared):Prop:=
 ∃v A,a.os=s.os/\AllBare a.gens/\Un (frs o) [] H A s.heap a.heap/\HOk P w A a.heap/\RelV v u/\Q v A
def CR(C:CXT)(o:List Env)(P:Program)(w:World)(H:Hp)(s:Shared)(Q:VK)(E:XK)(r:Result)(a:Shared):Prop:=
 match r with
 |.ok (.ret u)=>CE o P w H s Q u a
 |.ok _=>False
 |.error e=>C o H s E e a
structure t8(P:Program)(w:World)(K:Aa)(mg:Str->Option Value)(base:Heap)(CX:CXT)(k:Nat)(f:Addr)(fd:BB)(ps:List Str)(sp:Sp):Prop where
 b:∀vs H Q E,sp vs H Q E->vs.length=ps.length
 a:∀(A:Around) (outer:List Env) (s:Shared) (H:Hp) (args:Args) (us:List Value) (vs:List V) (Q:VK) (E:XK),xM k A->qE P w K mg base A outer s H->BindsTo s fd args (ps.zip us)->Vals vs us->sp vs H Q E ->
  codeAny (model P w) A (.call (.ref f) args) (CR CX outer P w H s Q E) s
def t8.imp{K}(F:t8 P w K mg base CX k f fd ps sp)
 (h:∀e H Q E,sp' e H Q E->sp e H Q E):t8 P w K mg base CX k f fd ps sp':=
 ⟨λe H Q E q=>F.b e H Q E (h _ _ _ _ q),λA o s H c u e Q E i l m d g=>F.a A o s H c u e Q E i l m d (h _ _ _ _ g)⟩
def qE.make{K}(e:qE P w K mg base A outer s H)C us kw :
 qE P w K mg base (A.under (.builtin "type.__call__" ⟨.ref C::us,kw⟩)) outer s H:=⟨by first|exact e.a|(simpa [Around.under,Code.envs,Code.isFrame,pushEnvs] using e.frames),e.c,e.d,e.h,e.j,e.i,e.f,e.g⟩
def Inv.wQ(I:Inv X pins σ H s):qE X.f X.w X.K X.d X.g X.A X.h s H:=
 ⟨I.C.g,I.C.i,I.bs,Aq I.C.p I.sz,I.stack,I.lP,I.j,I.D⟩
def Inv.after(I:Inv X pins σ H s)(h:CE X.h X.f X.w H s Q u s'):EP X pins σ Q u s':=by obtain⟨v,A,k,a,i,c,r,q⟩:=h;obtain⟨l,g,d,t,o⟩:=s';obtain rfl:o=s.os:=k;exact⟨v,A,I.call (h':=l) (g':=g) (d':=d) (t':=t) (ch:=[]) i c a (λb z=>absurd z (by simp)),r,q⟩
def ez(s:Sp)(d:List V)(E:XK)(t:TA):TE:=λa H Q=>t a H λv A=>s (v++d) A Q E
def Binds(K:Aa)(f:BB)(p:List Str)(d:List Value):Prop:=
 ∀(s:Shared) (us:List Value),K.In s.heap->(us++d).length=p.length->BindsTo s f ⟨us,[]⟩ (p.zip (us++d))
def Binds.all{K}(h:∀e:List Value,e.length=ps.length->G1 fd ⟨e,[]⟩=pure (ps.zip e)):Binds K fd ps []:=λs e _ a=>by rw[AJ]at a ⊢;exact .of_eq (h e a)
def Passes(C:CXT)(X:Cx)(E:XK):Prop:=∀(p:List (Addr × Obj)) (σ:St) (H:Hp) (s:Shared) (e:Value) (s':Shared),Inv X p σ H s->C X.h H s E e s'->X.i e s'
def gR(F:t8 X.f X.w X.K X.d X.g CX k f fd ps sp)(o:xM k X.A)(t:Binds X.K fd ps ds)(q:Vals dvs ds)(n:Passes CX X E)
 (I:Inv X pins σ H s) (r:Vals vs us) (h:sp (vs++dvs) H Q E):wpAny (model X.f X.w) X.A (call (.ref f) us) (EP X pins σ Q) X.i s:=by
 have l:Vals (vs++dvs) (us++ds):=r.append q;have p:(us++ds).length=ps.length:=by rw[<-l.length];exact F.b _ _ _ _ h
 refine Dd (Cw (F.a X.A X.h s H ⟨us,[]⟩ (us++ds) (vs++dvs) Q E o I.wQ (t s us I.kIn p) l h) λr m c=>?_);cases r with
 |error e=>exact n pins σ H s e m I c
 |ok v=>
  cases v with
  |ret u=>exact I.after c
  |next=>exact As c
  |brk=>exact As c
  |cont=>exact As c
def lD(F:t8 X.f X.w X.K X.d X.g CX k f fd ps sp)(o:xM k X.A)(z:Gl X x)(u:X.d x=some (.ref f))(v:BS X.K (.ref f)=true)(B:Binds X.K fd ps ds)(y:Vals dvs ds)(n:Passes CX X E)
 (D:PA X (e::es) t) (l:(x == ("__debug__":Str))=false:=by decide) (j:Av (e::es) X.a=(false,eval e X.a)::Av es X.a:=by rfl) (c:(backTo pos (Av es X.a)).any (·.1)=false:=by rfl) :
 PE X (.Call (.Name x p) (e::es) [] pos) (ez sp dvs E t):=by
 intro b s m H Q I h;refine BZ (wA I z u ?_ l);refine Eb (h₀:=X.g) I.C.i.a v (thn (D pos b s m H _ I h) λG J ⟨vs,H1,I1,r,q⟩=>⟨I1.kIn,?_⟩) j c;exact gR F o B y n I1 r q
def ky(F:t8 X.f X.w X.K X.d X.g CX k f fd ps sp)(i:xM k X.A)(n:Gl X x)(l:X.d x=some (.ref f))(m:BS X.K (.ref f)=true)(q:Binds X.K fd ps ds)(o:Vals dvs ds)(c:Passes CX X E)
 (a:(x == ("__debug__":Str))=false:=by decide):PE X (.Call (.Name x p) [] [] pos) (ez sp dvs E uz):=by
 intro b s r H Q I h;refine BZ (wA I n l ?_ a);exact PySem.W.callWith_K0 I.kIn m (gR (us:=[]) F i q o c I .nil h)
structure x9(N P:List Str)(sc:Scope):Prop where
 a:sc.kind=.function
 co:sc.isCoroutine=false
 f:sc.isGenerator=false
 b:N.Nodup
 c:N.take P.length=P
 e:∀x∈P,sc.names.lookup x=some .local\/sc.names.lookup x=some .cell
 d:∀y∈sc.names,y.2≠.free
theorem ou{kindOf}:∀{binds} {m},(∀v,(x,v) ∉ binds)->bindL kindOf binds m x=m x
 |[],_,_=>rfl
 |(n,v)::r,m,h=>by
  unfold bindL;rw[ou λw e=>h w (Af _ e)];split
  . have:x≠n:=by rintro rfl;exact h v Ar
    simp[this]
  . rfl
theorem oq{kindOf}:∀{binds} {m},(∀v,(x,v) ∉ binds)->bindC kindOf binds m x=m x
 |[],_,_=>rfl
 |(n,v)::r,m,h=>by
  unfold bindC;rw[oq λw e=>h w (Af _ e)];split
  . rfl
  . have:x≠n:=by rintro rfl;exact h v Ar
    simp[this]
theorem ot{kindOf}:∀{P:List Str} {vs} {i:Nat} {m},P.Nodup->P[i]?=some x->vs[i]?=some v->kindOf x=some .local ->
 bindL kindOf (P.zip vs) m x=some v
 |[],_,_,_,_,h,_,_=>by simp at h
 |_::_,[],_,_,_,_,h,_=>by simp at h
 |p::P,w::vs,0,m,nd,h1,h2,hk=>by
  simp at h1 h2;subst h1;subst h2;show bindL kindOf ((p,w)::P.zip vs) m p=_;unfold bindL;rw[ou λv e=>(BV.mp nd).1 (E1 e).1,if_pos hk];simp
 |p::P,w::vs,i+1,m,nd,h1,h2,hk=>by show bindL kindOf ((p,w)::P.zip vs) m x=_;unfold bindL;exact ot (i:=i) (BV.mp nd).2 (by simpa using h1) (by simpa using h2) hk
theorem oo{kindOf}:∀{P:List Str} {vs} {i:Nat} {m},P.Nodup->P[i]?=some x->vs[i]?=some v->kindOf x≠some .local ->
 bindC kindOf (P.zip vs) m x=some v
 |[],_,_,_,_,h,_,_=>by simp at h
 |_::_,[],_,_,_,_,h,_=>by simp at h
 |p::P,w::vs,0,m,nd,h1,h2,hk=>by
  simp at h1 h2;subst h1;subst h2;show bindC kindOf ((p,w)::P.zip vs) m p=_;unfold bindC;rw[oq λv e=>(BV.mp nd).1 (E1 e).1,if_neg hk];simp
 |p::P,w::vs,i+1,m,nd,h1,h2,hk=>by show bindC kindOf ((p,w)::P.zip vs) m x=_;unfold bindC;exact oo (i:=i) (BV.mp nd).2 (by simpa using h1) (by simpa using h2) hk
noncomputable def start(N:List Str)(v:List V):St:=v.map some++Ay (N.length-v.length) none
noncomputable def yN(C:CXT)(P:Program)(w:World)(K:Aa)(x:Str->Option Value)(u:Heap)(N:List Str)(c:Str)(b:Scope)(f:Addr)(t:Value)(A:Around)(o:List Env)(s:Shared)(H:Hp)(E:XK):Cx where
 f:=P
 w:=w
 K:=K
 d:=x
 g:=u
 A:=A.deeper (envOfC c b s.heap.objs.size f t)
 N:=N
 l:=s
 r:=H
 a:=envOfC c b s.heap.objs.size f t
 k:=o
 h:=envOfC c b s.heap.objs.size f t::o
 m:=[]
 j:=true
 n:=λ_=>true
 q:=[]
 i:=λe v=>wpAny (model P w) (A.deeper (envOfC c b s.heap.objs.size f t)) (leaving (envOfC c b s.heap.objs.size f t) e) (λ_ p=>C o H s E e p) (λz p=>C o H s E z p) v
def l5{s:Scope}(h:s.names.lookup x=some .cell):∃c,(CO n s.names []).lookup x=some c:=by have q:=Ew s.names n [] (.inl h);exact Cy.mp q
def nH{K}
 (S:x9 N ps scope) (V:A.handled=none) (o:qE P w K mg base A outer s H) (Z:vs.length=ps.length) (r:Vals vs us)
 (x:InCallC s s.heap.objs.size (bindL (envOfC qual scope s.heap.objs.size f cd).kindOf (ps.zip us) λ_=>none) (CO (s.heap.objs.size+1) scope.names []) (bindC (envOfC qual scope s.heap.objs.size f cd).kindOf (ps.zip us) λ_=>none) s1) :
 Inv (yN CX P w K mg base N qual scope f cd A outer s H E) [] (start N vs) H s1:=by
 have T:ps.length<=N.length:=by have:=congrArg Ey S.c;rw[Dm]at this;omega
 obtain⟨I,Y,rfl,Q⟩:=x.done;have t:∀b:Addr,b ∉ (yN CX P w K mg base N qual scope f cd A outer s H E).m:=λb z=>absurd (show b∈([]:List Addr) from z) (by simp)
 refine⟨⟨o.c,S.a,rfl,rfl,Ac _,λy z c I l=>?_,λy B=>?_,λy c _ h=>?_,λ_=>V,E2 o.a,.inr ⟨rfl,rfl⟩,λb z=>absurd z (t b),o.d,o.h,λb _ _=>t b,λb z=>absurd z (t b),o.j,o.i⟩,
  rfl,o.g,Un.kept Q,⟨_,x.toInCall.ns,λi y v I l F=>?_⟩,λy c h=>⟨_,x.cell y c h⟩,o.f.fresh (Ac _),λy c h=>?_,λp D=>absurd (show p∈([]:List (Addr × Obj)) from D) (by simp),o.f.kept Q,?_⟩
 . exact name_of_addr x.apart (A4 I) (A4 l)
 . have B:scope.names.lookup y=some .cell\/scope.names.lookup y=some .free:=B
   rcases B with B|B
   . exact l5 B
   . exact absurd rfl (S.d _ (A4 B))
 . exact DH (x.above y c (A4 h))
 . have G:i<vs.length:=by
    unfold start at l;by_cases G:i<vs.length
    . exact G
    . rw[A3 (by simpa using G)]at l
      rw[Ep]at l;split at l<;>cases l
   have X:vs[i]?=some v:=by
    unfold start at l;rw[AS (by simpa using G),AZ]at l
    cases e:vs[i]? with
    |none=>rw[e]at l;cases l
    |some a=>rw[e]at l;cases l;rfl
   obtain⟨u,J,R⟩:=r.get X;have D:ps[i]?=some y:=by rw[<-S.c,Ec ⋯];exact I
   have C:ps.Nodup:=by rw[<-S.c];exact S.b.sublist (FK _ _)
   refine⟨u,R,?_⟩;rcases S.e y (AH D) with k|k
   . exact .inl ⟨k,ot C D J k⟩
   . obtain⟨c,e⟩:=l5 (n:=s.heap.objs.size+1) k
     refine .inr ⟨.inl k,c,e,?_⟩;have q:=x.cell y c e;rw[oo C D J (by show scope.names.lookup y≠_;rw[k];decide)]at q
     exact q
 . exact o.f.fresh (DH (x.above y c (A4 h)))
 . unfold start
   show _=N.length;rw[Ah,rt,EM];omega
def UN{K}{dV kV doc pm cdv ct oc}
    (lk:K.lookup f=some ⟨oc,od,.func (BH name qual params body scope dV kV doc pm an cdv ct),osl⟩) (M:B6 K cdv qual=true) (S:x9 N ps scope)
 (p:∀L H Q E,sp L H Q E->L.length=ps.length)
 (l:∀A F s H L Q E,xM k (A.deeper (envOfC qual scope s.heap.objs.size f cdv))->sp L H Q E ->
  ∃t,PSs (yN CX P w K mg base N qual scope f cdv A F s H E) body t/\t {a:=λ_ C=>Q .g C,b:=Q} (start N L) H) :
 t8 P w K mg base CX (k+1) f (BH name qual params body scope dV kV doc pm an cdv ct) ps sp:=by
 refine⟨p,λA F s H U us L Q E Z R hb r z=>?_⟩;have hl:=p _ _ _ _ z;have KX:K.In s.heap:=R.c.a.keeps λb o e=>(R.d b o e).1;have Y:s.heap.NoLimit:=R.c.b.keeps λb o e=>(R.d b o e).1;have i:∀y∈ps.zip us,scope.names.lookup y.1=some .local\/(scope.names.lookup y.1=some .cell/\((CO (s.heap.objs.size+1) scope.names []).lookup y.1).isSome=true):=λ⟨n,v⟩ hy=>by
  rcases S.e n (E1 hy).1 with q|q
  . exact .inl q
  . exact .inr ⟨q,Ew _ _ _ (.inl q)⟩
 refine codeAny_call_function Z.depth (KX _ _ lk) rfl S.co S.f rfl (PySem.W.codeRec_of KX M) (hb _ _ _ _ ?_);refine FD S.a i λenv he O x=>?_;subst he;refine⟨Y.keeps x.toInCall.keep,codeAny_func ?_⟩;obtain⟨t,ht,hq⟩:=l A F s H L Q E (Z.deeper _) z;have I:Inv (yN CX P w K mg base N qual scope f cdv A F s H E) [] (start N L) H O:=nH S Z.a R hl r x;refine AD (ht [] O (start N L) H _ I hq) (λfl T m=>?_) λe T m=>m;have G:∀{h:St} {C:Hp} {v:V} {u:Value},Inv (yN CX P w K mg base N qual scope f cdv A F s H E) [] h C T->RelV v u->Q v C->CE F P w H s Q u T:=
  λ{h C v u} J X q=>⟨v,C,J.P,J.D,J.B,J.j,X,q⟩
 cases fl with
 |ret u=>
  obtain⟨v,h,C,J,X,q⟩:=m;exact G J X q
 |next=>
  obtain⟨h,C,J,q⟩:=m;exact G (v:=V.g) (u:=AY) J rfl q
 |brk=>
  obtain⟨_,_,_,q⟩:=m;exact As q
 |cont=>
  obtain⟨_,_,_,q⟩:=m;exact As q
section
variable {X:Cx}{x:Str}{p pos:Pos}{e:Expr}{es:List Expr}{t:TA}{id T:String}{r:List V->Hp->VK->Prop}
def tCB(r:List V->Hp->VK->Prop)(t:TA):TE:=λa H Q=>t a H λv A=>r v A Q
def uc(q:yc X (.builtin id) r)(n:Gl X x)(m:X.d x=none)(k:Cu x=some (.builtin id))(v:PA X (e::es) t)(l:x≠"__name__":=by decide)(f:(x == ("__debug__":Str))=false:=by decide)
 (o:Av (e::es) X.a=(false,eval e X.a)::Av es X.a:=by rfl) (c:(backTo pos (Av es X.a)).any (·.1)=false:=by rfl):PE X (.Call (.Name x p) (e::es) [] pos) (tCB r t):=by
 intro b s g H Q I h;refine BZ (tY I n m k ?_ l f);exact PyProof.Rows.callWith_builtin1 (thn (v pos b s g H _ I h) λu i ⟨vs,H1,I1,r1,q1⟩=>q b i g H1 vs u Q I1 r1 q1) o c
def xA(o:yc X (.type T) r)(n:Gl X x)(m:X.d x=none)(k:Cu x=some (.type T))(q:PA X (e::es) t)(l:x≠"__name__":=by decide)(f:(x == ("__debug__":Str))=false:=by decide)
 (he:Av (e::es) X.a=(false,eval e X.a)::Av es X.a:=by rfl) (c:(backTo pos (Av es X.a)).any (·.1)=false:=by rfl):PE X (.Call (.Name x p) (e::es) [] pos) (tCB r t):=by
 intro b s g H Q I h;refine BZ (tY I n m k ?_ l f);exact CM (thn (q pos b s g H _ I h) λu i ⟨vs,H1,I1,r1,q1⟩=>o b i g H1 vs u Q I1 r1 q1) he c
end
end L2
namespace HT
open PySem PyProof.Rows
noncomputable def lexLt:List Int->List Int->Bool
 |[],[]=>false
 |[],_::_=>true
 |_::_,[]=>false
 |x::xs,y::ys=>if x=y then lexLt xs ys else decide (x<y)
section
variable {prog:Program}{w:World}{A:Around}{E:Value->Shared->Prop}{s:Shared}
def WH(v:IsTup s.heap t vs.toArray)(x:IsTup s.heap b ws.toArray)(o:vs≠[])
 (j:ws=[]->Q (.ref t) s) (z:ws≠[]->Q (.ref s.heap.objs.size) {s with heap:=s.heap.push {cls:=.type "tuple",data:=.seq (vs++ws).toArray}})
 (i:vs.length+ws.length<=Ao):wpAny (model prog w) A (BD .Add (.ref t) (.ref b)) Q E s:=by
 obtain⟨⟨cls,r,data,l⟩,g,q,n,p⟩:=id v;obtain⟨⟨u,f,k,a⟩,h,d,m,c⟩:=id x;simp only at q p d c;subst q p d c;have e:vs.toArray++ws.toArray=(vs++ws).toArray:=by simp
 by_cases hw:ws=[]
 . exact concat_meets ⟨_,g,rfl⟩ ⟨_,h,rfl⟩ EG FE Cf B9 (B0 _ _)
    (tuple_addW1 t b vs.toArray ws.toArray n m r f l a (by simpa using o) (by simp[hw])) ⟨g,h,j hw⟩
 . refine concat_meets ⟨_,g,rfl⟩ ⟨_,h,rfl⟩ EG FE Cf B9 (B0 _ _)
    (tuple_addW2 t b vs.toArray ws.toArray n m r f l a (by simpa using o) (by simpa using hw) (by rw[Ab,Ab];exact i)) ⟨g,h,?_⟩
   rw[e];exact z hw
noncomputable def sIx(n d:Nat):Option Int->Nat
 |none=>d
 |some v=>if v<0 then (v+(n:Int)).toNat else min v.toNat n
def R0 n d(h:d<=n)o:sIx n d o<=n:=by
 cases o with
 |none=>exact h
 |some v=>
  show (if v<0 then (v+(n:Int)).toNat else min v.toNat n)<=n
  by_cases hv:v<0
  . rw[if_pos hv];omega
  . rw[if_neg hv];exact DQ _ _
def fW v(n d:Nat):(if v<0 then max (v+(n:Int)) 0 else min v (n:Int))=((sIx n d (some v):Nat):Int):=by
 show (if v<0 then max (v+(n:Int)) 0 else min v (n:Int))=(((if v<0 then (v+(n:Int)).toNat else min v.toNat n):Nat):Int)
 by_cases hv:v<0
 . simp only[if_pos hv];omega
 . simp only[if_neg hv];omega
def jy lo hi(n:Nat):A7 lo hi 1 (n:Int)=(((sIx n 0 lo:Nat):Int),((sIx n n hi:Nat):Int)):=by
 have h:¬((1:Int)<0):=by omega
 unfold A7;simp only[h,if_false];refine F5 ?_ ?_
 . cases lo with
   |none=>rfl
   |some v=>exact fW v n 0
 . cases hi with
   |none=>rfl
   |some v=>exact fW v n n
def gJ(i j:Nat):BE (i:Int) (j:Int) 1=j-i:=by
 unfold BE;have h:(1:Int) > 0:=by omega
 simp only[h,if_true,Int.ediv_one];split<;>omega
def wu(p:IsPart v o)(h:Q o s):wpAny (model prog w) A (Builtin.Slice.slicePartIndex v) Q E s:=by
 cases p with
 |none=>exact slicePart_none h
 |int i t=>exact slicePart_int h
def vY{lo hi}{n:Nat}(d:s.heap.IsSliceOf sl vl vu .none)(c:IsPart vl lo)(p:IsPart vu hi)
 (h:Q (((sIx n 0 lo:Nat):Int),1,sIx n n hi-sIx n 0 lo) s):wpAny (model prog w) A (CY (.ref sl) (pure (n:Int))) Q E s:=by
 obtain⟨o,a,f,b⟩:=id d;unfold CY FX;refine lp (lp (Bx a b (x:=vl) rfl (lp (Bx a b (x:=vu) rfl (lp (Bx a b (x:=.none) rfl (Ae ?_)))))));refine lp (slicePart_none ?_);show wpAny _ _ (if ((1:Int) == 0)=true then _ else _) _ _ s
 rw[if_neg (by decide)]
 refine lp (wu c (lp (wu p (lp (Ae ?_)))));show wpAny _ _ (match A7 lo hi 1 (n:Int) with|(lo,hi)=>pure (lo,(1:Int),BE lo hi 1)) _ _ s
 rw[jy lo hi n];show wpAny _ _ (pure (((sIx n 0 lo:Nat):Int),(1:Int),BE ((sIx n 0 lo:Nat):Int) ((sIx n n hi:Nat):Int) 1)) _ _ s;rw[gJ];exact Ae h
def Yw(a:Array Value)(i k:Nat):((Ai k).filterMap λ(m:Nat)=>a[((i:Int)+(m:Int)*1).toNat]?).toArray=((a.toList.drop i).take k).toArray:=by
 have e:(λ(m:Nat)=>a[((i:Int)+(m:Int)*1).toNat]?)=λm=>a[i+m]?:=by
  funext m;have:((i:Int)+(m:Int)*1).toNat=i+m:=by omega
  rw[this]
 rw[e];have:=pick_run a i k;rw[Cr]at this;have b:((λx=>a[x]?)∘λx=>i+x)=λm=>a[i+m]?:=rfl;rw[b]at this;rw[this]
def sO{lo hi}(b:IsTup s.heap t items)(i:s.heap.IsSliceOf sl vl vu .none)(k:IsPart vl lo)(p:IsPart vu hi)
 (l:¬(sIx items.size 0 lo=0/\sIx items.size items.size hi=items.size))
 (h:Q (.ref s.heap.objs.size) {s with heap:=s.heap.push {cls:=.type "tuple",data:=.seq ((items.toList.drop (sIx items.size 0 lo)).take (sIx items.size items.size hi-sIx items.size 0 lo)).toArray}})
 (n:items.size<=Ao):wpAny (model prog w) A (getItem (.ref t) (.ref sl)) Q E s:=by
 have a:sizeOk (.seq ((items.toList.drop (sIx items.size 0 lo)).take (sIx items.size items.size hi-sIx items.size 0 lo)).toArray):=by show ((items.toList.drop (sIx items.size 0 lo)).take (sIx items.size items.size hi-sIx items.size 0 lo)).toArray.size<=Ao;rw[Ab,Dm,List.length_drop,Dv];omega
 have v:sIx items.size items.size hi<=items.size:=R0 _ _ (Ac _) hi;obtain⟨o,c,f,r⟩:=id i;have g:s.TypeIs (.ref sl) "slice":=⟨o,c,f⟩;unfold getItem
 try with_reducible refine Bz ?_
 first|refine lp (Ae ?_)|skip
 refine lp (FL b.typeIs (by decide) ?_)
 refine lp (CH (name:=DJ "__getitem__") b.typeIs A6
  (DR A6 b.typeIs Fe ?_ (Fq _ _)))
 show wpAny _ _ (DZ (.ref t) >>= _) _ _ s;refine lp (EC b ?_);refine lp (Ed g ?_);rw[if_pos (by decide)]
 refine lp (vY i k p ?_);have d:¬((((sIx items.size 0 lo:Nat):Int) == 0&&(1:Int) == 1&&(sIx items.size items.size hi-sIx items.size 0 lo) == items.size)=true):=by intro q;rw[cf,cf]at q;have q1:((sIx items.size 0 lo:Nat):Int)=0:=Cb q.1.1;have u:sIx items.size items.size hi-sIx items.size 0 lo=items.size:=Cb q.2;exact l ⟨⋯,⋯⟩
 show wpAny _ _ (if (((sIx items.size 0 lo:Nat):Int) == 0&&(1:Int) == 1&&(sIx items.size items.size hi-sIx items.size 0 lo) == items.size)=true then _ else _) _ _ s
 rw[if_neg d,Yw]
 first
  |exact lp (m:=Bu _) (Bk (Ae ⟨_,rfl,Ae h⟩) a)
  |exact lp (m:=Bu _) (Bk (lp (Ae (Ae ⟨_,rfl,Ae h⟩))) a)
  |exact lp (lp (m:=Bu _) (Bk (Ae (Ae ⟨_,rfl,Ae h⟩)) a))
  |exact lp (lp (m:=Bu _) (Bk (Ae ⟨_,rfl,Ae h⟩) a))
end
end HT
namespace L2
open PySem PySem.Spec PyProof.Rows
abbrev TO:=St->Hp->(Option Int->Hp->Prop)->Prop
def PO(X:Cx)(e:Option Expr)(t:TO):Prop:=
 ∀(p:List (Addr × Obj)) (s:Shared) (σ:St) (H:Hp) (Q:Option Int->Hp->Prop),Inv X p σ H s->t σ H Q ->
  wpAny (model X.f X.w) X.A (evalPart e X.a) (λu b=>∃o B,Inv X p σ B b/\IsPart u o/\Q o B) X.i s
def Vw:TO:=λ_ H Q=>Q none H
def Ov(t:TE):TO:=λa H Q=>t a H λx A=>∃i,x=.d i/\Q (some i) A
section
variable {X:Cx}{e:Expr}{te:TE}{lo hi:Option Expr}{tl th:TO}{pos p2:Pos}
def Vg:PO X none Vw:=by intro p s a H Q I h;rw[evalPart_none];exact Ae ⟨none,H,I,.none,h⟩
def Vh(h:PE X e te):PO X (some e) (Ov te):=by intro p s a H Q I b;rw[evalPart_some];refine thn (h p s a H _ I b) λu c z=>?_;obtain⟨x,B,A,r,q1⟩:=z;obtain⟨i,rfl,q⟩:=q1;obtain⟨t,rfl⟩:=r;exact⟨some i,B,A,.int i t,q⟩
def SlR(X:Cx)(r:V->Option Int->Option Int->Hp->VK->Prop):Prop:=
 ∀(p:List (Addr × Obj)) (s:Shared) (σ:St) (H:Hp) (x:V) (v b a:Value) (lo hi:Option Int) (c:Addr) (Q:VK),Inv X p σ H s->RelV x v->s.heap.IsSliceOf c b a .none->IsPart b lo->IsPart a hi->r x lo hi H Q ->
  ∃T d,El (.type T) "__getitem__"=pure (some (.builtin d))/\s.TypeIs v T/\wpAny (model X.f X.w) X.A (getItem v (.ref c)) (EP X p σ Q) X.i s
def tSl(r:V->Option Int->Option Int->Hp->VK->Prop)(te:TE)(tl th:TO):TE:=λa H Q=>te a H λx C=>tl a C λl B=>th a B λu A=>r x l u A Q
def Ys(C:SlR X r)(G:PE X e te)(D:PO X lo tl)(j:PO X hi th):PE X (.Subscript e (.Slice lo hi none p2) pos) (tSl r te tl th):=by
 intro p s c H Q I h;refine G2 (thn (G p s c H _ I h) λv m z=>?_);obtain⟨x,R,P,n,q1⟩:=z;refine wpAny_Slice (thn (D p m c R _ P q1) λg k ⟨l,H2,I2,pl,q2⟩=>thn (j p k c H2 _ I2 q2) λd a z=>?_);obtain⟨u,B,N,t,o⟩:=z;rw[evalPart_none];refine Ae ?_;have K:Inv X p c B {a with heap:=a.heap.push {cls:=.type "slice",data:=.fields #[g,d,.none]}}:=N.kept (t':=a.toks) λb V q=>rg _ q
 obtain⟨T,Y,J,y,E⟩:=C p {a with heap:=a.heap.push {cls:=.type "slice",data:=.fields #[g,d,.none]}} c B x v g d l u a.heap.objs.size Q K n (Fs ..) pl t o
 show wpAny (model X.f X.w) X.A (FF e (.Slice lo hi none p2) v (.ref a.heap.objs.size)) (EP X p c Q) X.i {a with heap:=a.heap.push {cls:=.type "slice",data:=.fields #[g,d,.none]}}
 exact tail_any (ops:=[.ref a.heap.objs.size,v]) y J E (by with_unfolding_all rfl)
def oP(x:List V)(lo hi:Option Int):List V:=(x.drop (HT.sIx x.length 0 lo)).take (HT.sIx x.length x.length hi-HT.sIx x.length 0 lo)
def rq xs lo hi:(oP xs lo hi).length<=xs.length:=by unfold oP;rw[Dm,List.length_drop];omega
def NW(K:Aa):V->Option Int->Option Int->Hp->VK->Prop:=λx lo hi H Q=>∃a b,x=.c a/\SqT K H a b /\
 ¬(HT.sIx b.length 0 lo=0/\HT.sIx b.length b.length hi=b.length)/\∀p,H p=none->Q (.c p) (upd H p (.c (oP b lo hi)))
def R3:SlR X (NW X.K):=by
 intro p s e H x v y w lo hi A Q I l z n m h;obtain⟨a,f,rfl,t,u,q⟩:=h;cases l;obtain⟨i,r,k,g⟩:=I.tuple t;have d:i.toArray.size=f.length:=by rw[Ab];exact r.length.symm
 refine⟨"tuple",_,A6.lookup,k.typeIs,?_⟩;refine HT.sO k z n m (by rw[d];exact u) ?_ (by rw[d];exact g)
 rw[d];refine⟨.c s.heap.objs.size,_,I.laid (t':=s.toks) (o:=.c (oP f lo hi)) (λb B q=>rg _ q) (Ac _) ?_,rfl,q _ (I.j.fresh (Ac _))⟩;exact⟨Aq (rq f lo hi) g,_,(r.drop (HT.sIx f.length 0 lo)).take (HT.sIx f.length f.length hi-HT.sIx f.length 0 lo),sD.new _ _⟩
def OO(K:Aa):R2:=λx y H Q=>∃a b f d,x=.c a/\y=.c b/\SqT K H a f/\SqT K H b d/\f≠[]/\f.length+d.length<=Ao /\
 (d=[]->Q (.c a) H)/\(d≠[]->∀p,H p=none->Q (.c p) (upd H p (.c (f++d))))
def Vals.vA(r:Vals xs us):us=[]↔xs=[]:=by
 cases r with
 |nil=>simp
 |cons _ _=>simp
def VO:OpR X (BD .Add) (OO X.K):=by
 intro p s D H x y v u Q I m l h;obtain⟨a,b,k,g,rfl,rfl,C,B,A,f,q1,n⟩:=h;cases m;cases l;obtain⟨e,d,t,_⟩:=I.tuple C;obtain⟨i,r,p2,_⟩:=I.tuple B;refine HT.WH t p2 (λz=>A (d.vA.mp z)) (λz=>⟨.c a,H,I,rfl,q1 (r.vA.mp z)⟩) (λz=>?_) (by rw[<-d.length,<-r.length];exact f)
 refine⟨.c s.heap.objs.size,_,I.laid (t':=s.toks) (o:=.c (k++g)) (λb E q=>rg _ q) (Ac _) ?_,rfl,n (λw=>z (r.vA.mpr w)) _ (I.j.fresh (Ac _))⟩;exact⟨by rw[Ah];exact f,_,d.append r,sD.new _ _⟩
end
noncomputable def ixN(n:Nat)(i:Int):Option Nat:=if 0<=i then (if i<n then some i.toNat else none) else if -(n:Int)<=i then some (i+n).toNat else none
def atI{a:Type}(x:List a)(i:Int):Option a:=(ixN x.length i).bind λj=>x[j]?
def eC(h:ixN n i=some j):seqIndex? i n=some j/\j<n∧-(n:Int)<=i/\i<n:=by
 unfold ixN at h;by_cases h0:0<=i
 . rw[if_pos h0]at h
   by_cases h1:i<n
   . rw[if_pos h1]at h
     have e:i.toNat=j:=AQ h;exact⟨by rw[seqIndex_of h0 h1,e],⋯,⋯,h1⟩
   . rw[if_neg h1]at h;cases h
 . rw[if_neg h0]at h
   by_cases h1:-(n:Int)<=i
   . rw[if_pos h1]at h
     have e:(i+n).toNat=j:=AQ h;exact⟨by rw[seqIndex_neg ⋯ h1,e],⋯,h1,⋯⟩
   . rw[if_neg h1]at h;cases h
def mD(h:atI xs i=some v):∃j,seqIndex? i xs.length=some j/\xs[j]?=some v/\j<xs.length∧-(xs.length:Int)<=i/\i<xs.length:=by
 unfold atI at h;cases e:ixN xs.length i with
 |none=>rw[e]at h;cases h
 |some j=>
  rw[e]at h;obtain⟨d,c,b,a⟩:=eC e;exact⟨j,d,h,c,b,a⟩
def qM{xs}{j:Nat}{v:α}(h:xs[j]?=some v):atI xs (j:Int)=some v:=by
 have a:j<xs.length:=(Ax.mp h).1;have e:ixN xs.length (j:Int)=some j:=by unfold ixN;rw[if_pos ⋯,if_pos ⋯];simp
 unfold atI;rw[e];exact h
def fP(b:Expr):Prop:=∀o i,subscripted b false o i=operate [o,i] (getItem o i)
def IxR(X:Cx)(r:R2):Prop:=
 ∀(b a:Expr) (p:List (Addr × Obj)) (s:Shared) (σ:St) (H:Hp) (x y:V) (v u:Value) (Q:VK),Inv X p σ H s->RelV x v->RelV y u->r x y H Q ->
  subscripted a false v u=operate [v,u] (getItem v u)->wpAny (model X.f X.w) X.A (FF b a v u) (EP X p σ Q) X.i s
def MtR(X:Cx)(a:String)(r:V->List V->Hp->VK->Prop):Prop:=
 ∀(p:List (Addr × Obj)) (s:Shared) (σ:St) (H:Hp) (x:V) (xs:List V) (v:Value) (us:List Value) (Q:VK),Inv X p σ H s->RelV x v->Vals xs us->r x xs H Q ->
  wpAny (model X.f X.w) X.A (call (.builtin a) (v::us)) (EP X p σ Q) X.i s
section
variable {X:Cx}{a b:Expr}{ta tb:TE}{pos:Pos}
def IxR.or(h:IxR X r)(i:IxR X r'):IxR X (λx y H Q=>r x y H Q\/r' x y H Q):=by
 intro a b p s c H x y v u Q I f d q g;rcases q with q|q
 . exact h a b p s c H x y v u Q I f d q g
 . exact i a b p s c H x y v u Q I f d q g
def Uh(k:IxR X r)(m:PE X a ta)(l:PE X b tb)(i:fP b):PE X (.Subscript a b pos) (tOp r ta tb):=by intro p s c H Q I h;exact G2 (U4 m l I h λv u d x y B A g f q=>k a b p d c B x y v u Q A g f q (i _ _))
def Ru(K:Aa):R2:=λx y H Q=>∃p a i v,x=.c p/\y=.d i/\SqL K H p a/\atI a i=some v/\Q v H
def OR(K:Aa):R2:=λx y H Q=>∃p a i v,x=.c p/\y=.d i/\SqT K H p a/\atI a i=some v/\Q v H
def OQ:R2:=λx y H Q=>∃z i c,x=.e z/\y=.d i/\z.length<=Ao/\atI z.cps.toList i=some c/\Q (.e ⟨#[c]⟩) H
def eD:IxR X (Ru X.K):=by
 intro c d a s n H x y v u Q I C B h o;obtain⟨p,R,i,z,rfl,rfl,D,G,q⟩:=h;cases C;obtain⟨t,rfl⟩:=B;obtain⟨l,r,k,T⟩:=I.list D;obtain⟨j,b,P,Y,N,J⟩:=mD G;obtain⟨w,e,g⟩:=r.get P;have E:=r.length;have V:=tZ;have f:EP X a n Q w s:=⟨z,H,I,g,q⟩;by_cases h0:0<=i
 . have m:i.toNat=j:=by rw[seqIndex_of h0 J]at b;exact AQ b
   exact item_listR k.isList h0 ⋯ (by rw[m];simpa using e) f o
 . have m:(i+(l.toArray.size:Int)).toNat=j:=by
    rw[seqIndex_neg ⋯ N]at b
    rw[Ab,<-E];exact AQ b
   exact subscriptTail_builtinR (x:=w) k.isList.typeIs FN.lookup
    (wpAny_getItem_list_neg (Q:=λr A=>r=w/\EP X a n Q r A) k.isList ⋯ (by rw[Ab]<;>omega) ⋯ (by rw[m];simpa using e) ⟨rfl,f⟩) o
def Tq:IxR X (OR X.K):=by
 intro b c a s g H x y v u Q I n m h e;obtain⟨p,J,i,z,rfl,rfl,A,C,q⟩:=h;cases n;obtain⟨t,rfl⟩:=m;obtain⟨o,r,k,N⟩:=I.tuple A;obtain⟨j,E,D,V,T,R⟩:=mD C;obtain⟨w,G,d⟩:=r.get D;have B:=r.length;have P:=tZ;have f:EP X a g Q w s:=⟨z,H,I,d,q⟩;exact subscriptTail_builtinR (x:=w) k.typeIs slot_tuple_getitem.lookup
  (getItem_tuple (j:=j) (Q:=λr l=>r=w/\EP X a g Q r l) k ⋯ ⋯ (by rw[Ab,<-B];exact E) (by simpa using G) ⟨rfl,f⟩) e
def Tp:IxR X OQ:=by
 intro a b p s B H x y v u Q I f r h g;obtain⟨z,i,c,rfl,rfl,D,l,q⟩:=h;obtain⟨t,rfl⟩:=f;obtain⟨C,rfl⟩:=r;obtain⟨j,d,o,G,n,m⟩:=mD l;have k:z.cps.toList.length=z.length:=by simp[Str.length]
 rw[k]at d n m;have E:=tZ;exact tail_any (typeIs_str s z t) slot_str_getitem.lookup (getItem_str (c:=c) (by
  have A:decide (i < -(2 ^ 63:Int))=false:=decide_eq_false ⋯
  have w:decide (i ≥ 2 ^ 63)=false:=decide_eq_false ⋯
  rw[A,w,Bool.or_false]) (by rw[d];simpa using o) ⟨.e ⟨#[c]⟩,H,I.tok _,⟨_,rfl⟩,q⟩) g
def rIx(K:Aa):R2:=λx y H Q=>Ru K x y H Q\/OR K x y H Q\/OQ x y H Q
def To:IxR X (rIx X.K):=eD.or (Tq.or Tp)
def iu(i:List Value)n j u:FY (·.setIfInBounds j u) {cls:=.type "list",data:=.seq i.toArray n}={cls:=.type "list",data:=.seq (i.set j u).toArray n}:=by simp[FY]
def Inv.lst{a:List (Addr × Obj)}{c:St}{H:Hp}{s:Shared}{p:Addr}{x:List V}(I:Inv X a c H s)(h:H p=some (.b x)) :
 ∃(w:List Value) (n:Nat),Vals x w/\s.heap.get? p=some {cls:=.type "list",data:=.seq w.toArray n}/\x.length<=Ao:=by
 obtain⟨z,w,n,r,e⟩:=I.j p _ h;exact⟨w,n,r,e,z⟩
def Inv.Sv{a i:List Value}(I:Inv X pins σ H s)(h:H p=some (.b xs))
 (g:s.heap.get? p=some {cls:=.type "list",data:=.seq a.toArray n}) (c:f {cls:=.type "list",data:=.seq a.toArray n}={cls:=.type "list",data:=.seq i.toArray n'}) (r:Vals ys i) (d:ys.length<=Ao) t :
 Inv X pins σ (upd H p (.b ys)) {s with heap:=s.heap.update p f,toks:=t}:=by
 have e:(s.heap.update p f).get? p=some {cls:=.type "list",data:=.seq i.toArray n'}:=by rw[Bw f g (by rw[c]<;>rfl),c]
 refine I.write (x:=p) (e:=p) (by rw[h];trivial) (.inl rfl) (λb u k q=>(AV _ _ (Bh k)).trans q) ⟨_,e⟩ ?_
 exact⟨d,i,n',r,e⟩
def Ul:V->V->V->Hp->(Hp->Prop)->Prop:=λo i v H Q=>∃p x k j,o=.c p/\i=.d k/\H p=some (.b x)/\ixN x.length k=some j/\Q (upd H p (.b (x.set j v)))
def set_list:Qa X Ul:=by
 intro a s e H o i v G J u Q I B C y h;obtain⟨p,w,k,j,rfl,rfl,m,E,q⟩:=h;cases B;obtain⟨t,rfl⟩:=C;obtain⟨c,n,r,f,D⟩:=I.lst m;obtain⟨d,N,z,x⟩:=eC E;have g:=r.length;have K:=tZ;have A:Inv X a e (upd H p (.b (w.set j v))) {s with heap:=s.heap.update p (FY (·.setIfInBounds j u))}:=
  I.Sv m f (iu c n j u) (r.set y j) (by rw[CQ];exact D) s.toks
 by_cases h0:0<=k
 . have l:k.toNat=j:=by rw[seqIndex_of h0 x]at d;exact AQ d
   exact PySem.W.ki_setAt f h0 ⋯ (by rw[Ab,<-g];exact x) (by rw[l];exact⟨_,A,q⟩)
 . have l:(k+(c.toArray.size:Int)).toNat=j:=by
    rw[seqIndex_neg ⋯ z]at d
    rw[Ab,<-g];exact AQ d
   exact PySem.W.ki_setBack f ⋯ (by rw[Ab,<-g];exact z) ⋯ (by rw[l];exact⟨_,A,q⟩)
def lN lo hi n:(By lo hi none n).1=((HT.sIx n 0 lo:Nat):Int)/\(By lo hi none n).2.1=((HT.sIx n n hi:Nat):Int)/\(By lo hi none n).2.2=1:=by
 refine⟨?_,?_,rfl⟩
 . cases lo with
   |none=>simp[By,HT.sIx]
   |some i=>
    simp only[By,HT.sIx,F6,show (1:Int) > 0 by decide,if_true]
    by_cases h:i<0
    . simp only[h,if_true]<;>omega
    . simp only[h,if_false]<;>omega
 . cases hi with
   |none=>simp[By,HT.sIx]
   |some i=>
    simp only[By,HT.sIx,F6,show (1:Int) > 0 by decide,if_true]
    by_cases h:i<0
    . simp only[h,if_true]<;>omega
    . simp only[h,if_false]<;>omega
def oY(i:List Value)lo hi:Hg i.toArray lo hi none=((i.drop (HT.sIx i.length 0 lo)).take (HT.sIx i.length i.length hi-HT.sIx i.length 0 lo)).toArray:=by obtain⟨b,a,h⟩:=lN lo hi i.toArray.size;unfold Hg;rw[b,a,h];simp only[sliceRange_one,pick_run,Ab]<;>rfl
def NV(K:Aa):V->Option Int->Option Int->Hp->VK->Prop:=λx l h H Q=>∃a d,x=.c a/\SqL K H a d/\∀p,H p=none->Q (.c p) (upd H p (.b (oP d l h)))
def Vo:SlR X (NV X.K):=by
 intro p s w H x v A y l g B Q I k e n m h;obtain⟨a,d,rfl,z,q⟩:=h;cases k;obtain⟨t,r,i,u⟩:=I.list z;have f:=r.length;refine⟨"list",_,FN.lookup,i.isList.typeIs,?_⟩;refine F7 i.isList e n m .none (by simp) ?_ (by rw[Ab]<;>omega)
 rw[oY,<-f];refine⟨.c s.heap.objs.size,_,I.laid (t':=s.toks) (o:=.b (oP d l g)) (λb C q=>rg _ q) (Ac _) ?_,rfl,q _ (I.j.fresh (Ac _))⟩;exact⟨Aq (rq d l g) u,_,0,(r.drop (HT.sIx d.length 0 l)).take (HT.sIx d.length d.length g-HT.sIx d.length 0 l),Au _ rfl⟩
noncomputable def wG:V->Bool
 |.g=>true
 |.f _=>true
 |.d _=>true
 |.e _=>true
 |_=>false
noncomputable def eqV:V->V->Bool
 |.g,.g=>true
 |.f a,.f b=>a == b
 |.f a,.d b=>(if a then 1 else 0) == b
 |.d a,.f b=>a == (if b then 1 else 0)
 |.d a,.d b=>a == b
 |.e a,.e b=>a == b
 |_,_=>false
def TV(h:RelV y u)(r:RelV x v)(k:wG y=true)(i:wG x=true):Bi A s u v (eqV y x):=by
 cases y with
 |g=>
  cases h;cases x with
  |g=>cases r;exact Bi.same _
  |f b=>cases r;exact Bi.none_bool b
  |d b=>obtain⟨t,rfl⟩:=r;exact Bi.none_int b t
  |e b=>obtain⟨t,rfl⟩:=r;exact Bi.none_str b t
  |_=>exact absurd (show false=true from i) Aj
 |f a=>
  cases h;cases x with
  |g=>cases r;exact Bi.bool_none a
  |f b=>cases r;exact Bi.bool_bool a b
  |d b=>obtain⟨t,rfl⟩:=r;exact Bi.bool_int a b t
  |e b=>obtain⟨t,rfl⟩:=r;exact Bi.bool_str a b t
  |_=>exact absurd (show false=true from i) Aj
 |d a=>
  obtain⟨c,rfl⟩:=h;cases x with
  |g=>cases r;exact Bi.int_none a c
  |f b=>cases r;exact Bi.int_bool a c b
  |d b=>obtain⟨t,rfl⟩:=r;exact Bi.int_int a c b t
  |e b=>obtain⟨t,rfl⟩:=r;exact Bi.int_str a c b t
  |_=>exact absurd (show false=true from i) Aj
 |e a=>
  obtain⟨c,rfl⟩:=h;cases x with
  |g=>cases r;exact Bi.str_none a c
  |f b=>cases r;exact Bi.str_bool a c b
  |d b=>obtain⟨t,rfl⟩:=r;exact Bi.str_int a c b t
  |e b=>obtain⟨t,rfl⟩:=r;exact Bi.str_str a c b t
  |_=>exact absurd (show false=true from i) Aj
 |_=>exact absurd (show false=true from k) Aj
def eqU(x:V)(u:Value):Bool:=match u with
 |.none=>eqV .g x
 |.bool b=>eqV (.f b) x
 |.int i _=>eqV (.d i) x
 |.str z _=>eqV (.e z) x
 |_=>false
def mS(r:RelV y u)(f:wG y=true):eqU x u=eqV y x:=by
 cases y with
 |g=>cases r;rfl
 |f b=>cases r;rfl
 |d i=>obtain⟨t,rfl⟩:=r;rfl
 |e z=>obtain⟨t,rfl⟩:=r;rfl
 |_=>exact absurd (show false=true from f) Aj
theorem mC:∀{xs} {us},Vals xs us->xs.all wG=true->us.any (eqU x)=xs.any λy=>eqV y x
 |_,_,.nil,_=>rfl
 |y::xs,u::us,.cons r t,f=>by rw[B5,cf]at f;rw[D1,D1,mS r f.1,mC t f.2]
theorem vT(a:RelV x v)(b:wG x=true):∀{xs} {us},Vals xs us->xs.all wG=true->∀u∈us,Bi A s u v (eqU x u)
 |_,_,.nil,_=>λu e=>by cases e
 |y::xs,u::us,.cons r t,f=>λj e=>by
  rw[B5,cf]at f;rcases Al.mp e with rfl|e
  . rw[mS r f.1];exact TV r a f.1 b
  . exact vT a b t f.2 j e
def inV(x:V)(a:List V):Bool:=a.any λy=>eqV y x
def rIn(K:Aa)(n:Bool):R2:=λx y H Q=>∃p a,y=.c p/\(SqL K H p a\/SqT K H p a)/\wG x=true/\a.all wG=true/\Q (.f (if n then !inV x a else inV x a)) H
def bF:OpR X (Bg .In) (rIn X.K false):=by
 intro k s o H x y v u Q I g m h;obtain⟨p,t,rfl,a,l,b,q⟩:=h;cases m;rcases a with a|a
 . obtain⟨i,r,c,n⟩:=I.list a
   refine SeqAt.in_listAt (eqU x) c.isList (λw d=>vT g l r b w (by simpa using d)) ⟨.f _,H,I,rfl,?_⟩
   rw[show i.toArray.any (eqU x)=i.any (eqU x) by simp,mC r b]
   exact q
 . obtain⟨i,r,c,n⟩:=I.tuple a
   refine SeqAt.in_tupleAt (eqU x) c (λw d=>vT g l r b w (by simpa using d)) ⟨.f _,H,I,rfl,?_⟩
   rw[show i.toArray.any (eqU x)=i.any (eqU x) by simp,mC r b]
   exact q
def mF:yc X (.builtin "len") (λe H Q=>∃p y,e=[.c p]/\(SqL X.K H p y\/SqT X.K H p y)/\Q (.d y.length) H):=by
 intro k s n H e o Q I r h;obtain⟨p,y,rfl,b,q⟩:=h;obtain⟨u,rfl,l⟩:=vals1 r;cases l;have t:=tZ;rcases b with b|b
 . obtain⟨i,f,g,m⟩:=I.list b
   have a:=f.length;exact Calls.call_len_list g.isList (by simp only[Ab]<;>omega) ⟨.d y.length,H,I.tok _,⟨s.toks+1,by rw[Ab,a]⟩,q⟩
 . obtain⟨i,f,g,m⟩:=I.tuple b
   have a:=f.length;exact len_tuple g (by simp only[Ab]<;>omega) ⟨.d y.length,H,I.tok _,⟨s.toks+1,by rw[Ab,a]⟩,q⟩
def mG:yc X (.builtin "len") (λj H Q=>∃z,j=[.e z]/\z.length<=Ao/\Q (.d z.length) H):=by intro p s a H j b Q I r h;obtain⟨z,rfl,c,q⟩:=h;obtain⟨u,rfl,t,rfl⟩:=vals1 r;have f:=tZ;exact len_str ⋯ ⟨.d z.length,H,I.tok _,⟨_,rfl⟩,q⟩
def tG:yc X (.type "tuple") (λF H Q=>∃p y,F=[.c p]/\((SqL X.K H p y/\∀l,H l=none->Q (.c l) (upd H l (.c y)))\/(SqT X.K H p y/\Q (.c p) H))):=by
 intro a s n H F C Q I r h;obtain⟨p,y,rfl,h⟩:=h;obtain⟨u,rfl,x⟩:=vals1 r;cases x;rcases h with⟨m,q⟩|⟨m,q⟩
 . obtain⟨i,g,k,t⟩:=I.list m
   have v:=g.length;refine call_tuple_list k.isList (λd z=>?_) (by simp only[Ab]<;>omega)
   have A:Inv X a n H {s with heap:=d}:=I.kept (t':=s.toks) z
   have B:Inv X a n (upd H d.objs.size (.c y)) {s with heap:=d.push {cls:=.type "tuple",data:=.seq i.toArray}}:=
    A.laid (t':=s.toks) (λb o e=>rg _ e) (Ac _) (show yA X.f X.w _ _ _ (.c y) from ⟨t,i,g,sD.new _ _⟩)
   exact⟨.c d.objs.size,_,B,rfl,q _ (A.j.fresh (Ac _))⟩
 . obtain⟨i,g,k,t⟩:=I.tuple m
   exact call_tuple_same k ⟨.c p,H,I,rfl,q⟩
def tyV(K:Aa)(T:String)(x:V)(H:Hp):Prop:=match x with
 |.e _=>T="str"
 |.d _=>T="int"
 |.c p=>(T="list"/\∃a,SqL K H p a)\/(T="tuple"/\∃o,K.lookup p=some o/\o.cls=.type "tuple"/\o.dict=none) \/
  (T="dict"/\((∃k,H p=some (.i k))\/∃k,H p=some (.m k)))\/(T="set"/\∃S n,H p=some (.j S n))
 |_=>False
def QR(I:Inv X pins σ H s)(r:RelV x v)(f:tyV X.K T x H) :
 s.TypeIs v T/\∀a,v=.ref a->∃w,s.heap.get? a=some w/\w.dict=none:=by
 cases x with
 |e z=>
  obtain⟨t,rfl⟩:=r;cases (show T="str" from f);exact⟨typeIs_str s z t,λ_ e=>nomatch e⟩
 |d i=>
  obtain⟨t,rfl⟩:=r;cases (show T="int" from f);exact⟨DB s i t,λ_ e=>nomatch e⟩
 |c p=>
  cases r;rcases f with⟨rfl,A,u⟩|⟨rfl,o,h,y,g⟩|⟨rfl,h⟩|⟨rfl,S,n,h⟩
  . obtain⟨q,_,m,_⟩:=I.list u
    refine⟨m.isList.typeIs,λa e=>?_⟩;cases e;obtain⟨o,n,e,c,g,_⟩:=m;exact⟨o,e,g⟩
  . refine⟨⟨o,I.kIn p o h,y⟩,λa e=>?_⟩
    cases e;exact⟨o,I.kIn _ o h,g⟩
  . have z:∃o,s.heap.get? p=some o/\o.ExactDict:=by
     rcases h with⟨k,h⟩|⟨k,h⟩
     . obtain⟨_,_,_,_,o,_,_,e,b,_⟩:=I.j p _ h
       exact⟨o,e,b⟩
     . obtain⟨_,_,_,_,o,_,_,e,b,_⟩:=I.j p _ h
       exact⟨o,e,b⟩
    obtain⟨o,e,b⟩:=z;refine⟨⟨o,e,b.1⟩,λa l=>?_⟩;cases l;exact⟨o,e,b.2.1⟩
  . obtain⟨o,_,_,_,e,b,_⟩:=I.j p _ h
    refine⟨⟨o,e,b.1⟩,λa l=>?_⟩;cases l;exact⟨o,e,b.2.1⟩
 |_=>exact As f
def tBM(K:Aa)(T:String)(r:V->List V->Hp->VK->Prop)(c:TE)(t:TA):TE:=λa H Q=>c a H λx A=>tyV K T x A/\t a A λb B=>r x b B Q
variable {o e:Expr}{es:List Expr}{to:TE}{t:TA}{name:Str}{apos cpos:Pos}{T id:String}{r:V->List V->Hp->VK->Prop}
def eO(y:PlainAttrs T)(f:Slot T name id)(k:typeOf (.builtin id)=pure (.type "method_descriptor"))(D:MtR X id r)(C:PE X o to)(E:PA X (e::es) t)
 (d:B4 o name X.a (eval o X.a)=eval o X.a:=by rfl)
 (g:((backTo cpos (Av (e::es) X.a)).all (λx=>!x.1)&&(G3 cpos (Fp [] X.a)).all (λx=>x.1.isSome)
  && decide ((e::es).length+([]:List Keyword).length+(if ([]:List Keyword).isEmpty then 0 else 1)<30))=true:=by rfl)
 (c:(apos.endLine == cpos.line)=true:=by rfl) (B:Av (e::es) X.a=(false,eval e X.a)::Av es X.a:=by rfl) (b:(backTo cpos (Av es X.a)).any (·.1)=false:=by rfl) :
 PE X (.Call (.Attribute o name apos) (e::es) [] cpos) (tBM X.K T r to t):=by
 intro p s i H Q I h;refine wpAny_Call_method_late d g c rfl (thn (C p s i H _ I h) λv w z=>?_);obtain⟨x,N,A,l,q,q1⟩:=z;obtain⟨J,G⟩:=QR A l q;refine⟨T,id,y,f,k,J,G,?_⟩;have n:=E cpos p w i N _ A q1;rw[B]at n ⊢;refine Ez (by show (false||(backTo cpos (Av es X.a)).any (·.1))=false;rw[b]<;>rfl) (De ?_)
 exact thn n λu j ⟨vs,H2,I2,r2,q2⟩=>D p j i H2 x vs v u Q I2 l r2 q2
/- xs.append(e),list.index on a module's tuple .. are MtR facts of 06m -/
end
def MtM(X:Cx)(a:String)(r:V->List V->Hp->VK->Prop):Prop:=
 ∀(p:List (Addr × Obj)) (s:Shared) (σ:St) (H:Hp) (x:V) (xs:List V) (v:Value) (us:List Value) (Q:VK),Inv X p σ H s->RelV x v->Vals xs us->r x xs H Q ->
  wpAny (model X.f X.w) X.A (call (.builtin a) (v::us)) (EP X p σ Q) X.i s
def Vals.one:∀{x} {us},Vals [x] us->∃u,us=[u]/\RelV x u
 |_,_,.cons r .nil=>⟨_,rfl,r⟩
theorem Vals.rep(h:Vals xs us):∀k:Nat,Vals (Ay k xs).flatten (Ay k us).flatten
 |0=>.nil
 |k+1=>by rw[Cc,Cc,C6,C6];exact Vals.append h (Vals.rep h k)
theorem foldl_rep its:∀k (acc:List Value),
 Em (λw j=>w++j) acc.toArray (Ay k its.toArray)=(acc++(Ay k its).flatten).toArray
 |0,acc=>by simp
 |k+1,acc=>by
  have e:acc.toArray++its.toArray=(acc++its).toArray:=by simp
  have a:(acc++its)++(Ay k its).flatten=acc++(Ay (k+1) its).flatten:=by rw[Cc,C6,A0]
  rw[<-a,<-foldl_rep its k (acc++its),<-e,Cc,List.foldl_cons]
def Inv.Pa{i its':List Value}(I:Inv X pins σ H s)(k:H l=some (.b xs))
 (e:s.heap.get? l=some {cls:=.type "list",data:=.seq i.toArray n}) (d:f i.toArray=its'.toArray) (a:Vals ys its') (h:ys.length<=Ao) :
 Inv X pins σ (upd H l (.b ys)) {s with heap:=s.heap.update l (FY f),toks:=t'}:=by
 have q:=PySem.IsL.update e f;rw[d]at q;refine I.write (x:=l) (e:=l) (by rw[k];exact trivial) (.inl rfl) (λm u g c=>(AV s.heap (FY f) (Bh g)).trans c) ⟨_,q⟩ ?_
 exact⟨h,its',_,a,q⟩
def Inv.PZ(I:Inv X pins σ H s)(a:Vals ys its)(h:ys.length<=Ao) :
 Inv X pins σ (upd H s.heap.objs.size (.b ys)) {s with heap:=s.heap.push {cls:=.type "list",data:=.seq its.toArray},toks:=t'}:=
 I.laid (λ_ _ q=>rg _ q) (Ac _) ⟨h,its,0,a,Au _ rfl⟩
theorem Inv.fresh(I:Inv X pins σ H s):H s.heap.objs.size=none:=I.j.fresh (Ac _)
def Inv.cV(I:Inv X pins σ H s)(h:H l=some (.b xs)):xs.length<=Ao/\∃w n,Vals xs w/\xs.length=w.length/\s.heap.get? l=some {cls:=.type "list",data:=.seq w.toArray n}:=by obtain⟨z,w,n,r,e⟩:=I.j l _ h;exact⟨z,w,n,r,r.length,e⟩
def kl(h:n<=Ao):Dn n=false:=by unfold Dn;exact decide_eq_false ⋯
section
variable {X:Cx}
def eY:V->List V->Hp->VK->Prop:=λx v H Q=>∃l a y,x=.c l/\v=[y]/\H l=some (.b a)/\a.length<Ao/\Q .g (upd H l (.b (a++[y])))
def nK:MtM X "list.append" eY:=by
 intro p s f H x m v o Q I b c h;obtain⟨l,k,y,rfl,rfl,a,t,q⟩:=h;cases b;obtain⟨u,rfl,d⟩:=c.one;obtain⟨z,i,n,r,j,e⟩:=I.cV a;refine BO F.slot_list_append ⟨_,e,rfl⟩ F.entry_list_append (F.args_list_append_2 _ _) (PySem.list_append l i.toArray n u (by rw[Ab];omega)) ⟨e,?_⟩
 refine⟨.g,_,I.Pa (its':=i++[u]) a e (by simp) (r.append (.cons d .nil)) ?_,rfl,q⟩
 rw[Ah,BY];omega
def eZ:V->List V->Hp->VK->Prop:=λx v H Q=>∃l b a z,x=.c l/\v=[.c b]/\H l=some (.b a)/\H b=some (.b z)/\a.length+z.length<=Ao/\Q .g (upd H l (.b (a++z)))
def cb:MtM X "list.extend" eZ:=by
 intro p s B H x G v J Q I k m h;obtain⟨l,b,E,C,rfl,rfl,f,y,K,q⟩:=h;cases k;obtain⟨u,rfl,o⟩:=m.one;cases o;obtain⟨z,a,n,r,N,e⟩:=I.cV f;obtain⟨D,i,j,t,w,A⟩:=I.cV y;have d:a.toArray.size+i.toArray.size<=Ao:=by rw[Ab,Ab];omega
 have c:¬(!a.toArray.isEmpty&&Dn (a.toArray.size+i.toArray.size))=true:=by rw[kl d,Bool.and_false];exact Aj
 refine BO F.slot_list_extend ⟨_,e,rfl⟩ F.entry_list_extend (F.args_list_extend_2 _ _)
  (AutoSeq1.list_extend_list_list_0 l a.toArray n b i.toArray j c (by rw[Ab];omega) ⋯) ⟨e,A,?_⟩
 refine⟨.g,_,I.Pa (its':=a++i) f e (by simp) (r.append t) ?_,rfl,q⟩
 rw[Ah];omega
def Vi:R2:=λx y H Q=>∃l b a z,x=.c l/\y=.c b/\H l=some (.b a)/\H b=some (.b z)/\a.length+z.length<=Ao/\∀p,H p=none->Q (.c p) (upd H p (.b (a++z)))
def gA:OpR X (BD .Add) Vi:=by
 intro p s w H x y v u Q I f d h;obtain⟨l,b,C,A,rfl,rfl,m,o,E,q⟩:=h;cases f;cases d;obtain⟨z,a,n,r,G,e⟩:=I.cV m;obtain⟨B,i,D,g,k,j⟩:=I.cV o;refine PySem.P.add_list e j ?_ (by rw[Ab,Ab];omega)
 have t:a.toArray++i.toArray=(a++i).toArray:=by simp
 rw[t];exact⟨.c _,_,I.PZ (t':=s.toks) (r.append g) (by rw[Ah];omega),rfl,q _ I.fresh⟩
def NS:R2:=λx y H Q=>∃l k a,x=.c l/\y=.d k/\H l=some (.b a)∧-(2 ^ 63)<=k/\k<2 ^ 63/\a.length*k.toNat<=Ao /\
 ∀p,H p=none->Q (.c p) (upd H p (.b (Ay k.toNat a).flatten))
def len_rep{a:Type}(x:List a)k:(Ay k x).flatten.length=k*x.length:=by
 induction k with
 |zero=>simp
 |succ k i=>rw[Cc,C6,Ah,i,F8,F9]
def RG:OpR X (BD .Mult) NS:=by
 intro w s P H x y v u Q I D C h;obtain⟨l,k,R,rfl,rfl,G,K,J,A,q⟩:=h;cases D;obtain⟨t,rfl⟩:=C;obtain⟨z,i,n,r,E,e⟩:=I.cV G;have f:i.toArray.size*k.toNat<=Ao:=by rw[Ab,<-E];exact A
 have o:¬i.toArray.size*k.toNat > (2 ^ 63-1)/8:=by
  have:(Ao:Nat)<=(2 ^ 63-1)/8:=by decide
  omega
 have g:¬(!Builtin.List.listFitsIndex k)=true:=by rw[fitsIndex_both K J];exact Aj
 have b:¬Dn (i.toArray.size*k.toNat)=true:=by rw[kl f];exact Aj
 have d:Em (λj p=>j++p) #[] (Ay (if i.toArray.isEmpty=true then 0 else k.toNat) i.toArray)=(Ay k.toNat i).flatten.toArray:=by
  have N:∀m:Nat,Em (λj p=>j++p) #[] (Ay m i.toArray)=(Ay m i).flatten.toArray:=λm=>by have:=foldl_rep i m [];rw[D7]at this;exact this
  rw[N];cases i with
  |nil=>simp
  |cons a V=>rw[if_neg (by simp)]
 refine Df (T:="list") (U:="int") (by decide) ⟨_,e,rfl⟩ (λB=>DB B k t) noFill_list_mul E3 Cz repeat_list EH.lookup
  (BO Cz (DB s k t) EI (Et _ _) (int___rmul___int_list k t l i.toArray n)
   ⟨e,rfl,⟨_,e,rfl⟩,BO F.slot_list_mul ⟨_,e,rfl⟩ F.entry_list_mul (F.args_list_mul_2 _ _) (AutoListH.list___mul___list_int_3 l i.toArray n k t g o b) ⟨e,?_⟩⟩)
 rw[d];exact⟨.c _,_,I.PZ (t':=s.toks) (r.rep k.toNat) (by rw[len_rep,BI];exact A),rfl,q _ I.fresh⟩
end
end L2
namespace Att
open PySem PySem.W PySem.Calls PyProof.Rows
def qG:∀e j,WellAll P h j (e.map WData.int)->IntsAre j e:=by
 intro e;induction e with
 |nil=>
  intro j w;rw[DK]at w;cases w;exact .nil
 |cons n e i=>
  intro j w;rw[AE]at w;cases w with
  |cons a b=>
   cases a;exact .cons _ _ (i _ b)
def bb{l:OpenLaw}(u:l.most=some n)
 (b:l.row.toRowW.claim.pre args=true) (k:WellAll P h vals args) :
 ∃a j e,vals=[AA a]/\args=[WData.list (e.map WData.int)]/\h.get? a=some {cls:=.type "list",data:=.seq j.toArray}/\IntsAre j e/\e.length<=n:=by
 have m:WShape.hasAll [] args [.list .int]=true:=(pre_splitW b).1;have o:l.pre.holds [] {args:=args}=true:=(pre_splitW b).2;obtain⟨d,r,rfl,z,x⟩:=hasAllW_cons m;obtain rfl:=hasAllW_nil x;obtain⟨y,rfl,v⟩:=hasW_list z;obtain⟨e,rfl⟩:=items_int v;have c:e.length<=n:=by
  unfold OpenLaw.pre at o;have i:(WTm.not (.lt (.lit (.int (n:Int))) (.len (.arg 0)))).holds [] {args:=[.list (e.map .int)]}=true:=by have i:=(holds_andW o).1;rw[u]at i;exact i
  have g:=condW_of i (w_not (w_lt w_lit (w_len_list (w_arg rfl))));rw[rt]at g;refine Ga λq=>?_;have s:(n:Int)<((e.length:Nat):Int):=by omega
  first
   |(rw[decide_eq_true s]at g;exact absurd g (by decide))
   |(simp at g;omega)
 cases k with
 |cons p w=>
  cases w;cases p with
  |list t f=>exact⟨_,_,e,rfl,rfl,t,qG e _ f,c⟩
def bP(l:OpenLaw)args:l.row.toRowW.claim.post args (.bool true) args=true:=
 postW_of (r:=l.row.toRowW) (X:=(true == true))
  (show WShape.has [] (.bool true) .bool=true by first|rfl|decide|simp[WShape.has,WShape.arms,WShape.armsAll])
  (show (WTm.eq .res (.lit (.bool true))).value [] {args:=args,res:=some (.bool true),after:=args}=some (.bool (true == true)) from w_eq_bool (w_res rfl) w_lit) rfl
def lu{l:OpenLaw}
 (E:l.most=some n) (p:d.params.defaults=[])
 (i:∀w j e O W L o U S y a F M,
  Ground q loose [] XP w j O W e.heap->YP w e.heap ->
  e.heap.get? L=some o->o.data=.func (docDef d.name d.params d.body d.scope U S y)->e.heap.CodeRec S d.name->O d.name=some (.ref L) ->
  e.heap.get? a=some {cls:=.type "list",data:=.seq F.toArray}->IntsAre F M->M.length<=n->e.gens=#[] ->
  codeAny (model l.prog w) callerA (.call (.ref L) ⟨[.ref a],[]⟩) (λr s=>r=.ok (.ret (.bool true))/\OldK e.heap s.heap/\s.os=e.os/\AllBare s.gens) e) :
 WalkO q loose XP YP l.row.toRowW d [] (λf F=>PySem.call f F):=by
 intro w j e O W G Y L o U S y R A D K t x m J z v T b u B k I;obtain rfl:R=.none:=Dflts.none x p;obtain rfl:A=.none:=Dflts.noKw x;obtain⟨a,F,M,rfl,rfl,c,h,g⟩:=bb E b k;refine enter_call (Cw (i w j e O W L o U S y a F M G Y D (fd_plain K) t m c h g J) λr s C=>?_);obtain⟨rfl,Q,P,N⟩:=C;exact⟨.inl ⟨.bool true,.bool true,[],rfl,λ_=>rfl,.bool true,bP l _,λ_=>⟨FO,λ_ H=>(nomatch H)⟩⟩,Q,P,N⟩
end Att
namespace L2
open PySem PySem.Spec PyProof.Rows
theorem nk:∀{vs} {ns},IntsAre vs ns->Vals (ns.map V.d) vs
 |_,_,.nil=>.nil
 |_,_,.cons n t h=>.cons ⟨t,rfl⟩ (nk h)
end L2
/- THE LAST THEOREM (shape;LID,My.* are yours):
   My.Adr: a structure of the addresses that your layer names (classes,functions);My.Txt K t: a structure (Prop) of the equations over K;
   My.txt_mk:{K} {implicit addresses ..} (e1:nsIn K AO "law"=some (some (.ref f))) (e2:K.lookup f=some ⟨oc,od,.func (fnOf "law" "law" params body scope dV kV doc pm an cdv ct),sl⟩) (e3:codeIn K cdv "law"=true) ..:∃t,My.Txt K t
(the tactic k_is has no namespace: write k_is) -/
namespace L2
open PySem PySem.Spec PyProof.Rows
def xK(s:Stmt):EJ:=match s with
 |.FunctionDef _ a _ _ _ _ _ _ _ _=>a
 |_=>{posonlyargs:=[],args:=[],vararg:=none,kwonlyargs:=[],kw_defaults:=[],kwarg:=none,defaults:=[]}
noncomputable def yG(s:Stmt):List Stmt:=match s with
 |.FunctionDef _ _ b _ _ _ _ _ _ _=>b
 |_=>[]
noncomputable def zD(s:Stmt):Scope:=match s with
 |.FunctionDef _ _ _ _ _ _ sc _ _ _=>sc
 |_=>{kind:=.function,names:=[],isGenerator:=false,isCoroutine:=false}
abbrev CX0:CXT:=λ_ _ _ _ _ _=>False
abbrev E0:XK:=λ_ _ _=>False
def Ug:Passes CX0 X E0:=λ_ _ _ _ _ _ _ h=>h.elim
structure Fun(K:Aa)(x qual:Str)(st:Stmt)(f:Addr)(fd:BB):Prop where
 a:∃(oc:Value) (od:Option Addr) (kV doc pm:Value) (an:Option Addr) (cdv ct:Value) (osl:Array (Option Value)),
  fd=BH x qual (xK st) (yG st) (zD st) .none kV doc pm an cdv ct/\K.lookup f=some ⟨oc,od,.func fd,osl⟩/\B6 K cdv qual=true
 b:BS K (.ref f)=true
def Fun.binds{K:Aa}{st}{p:List Str}(F:Fun K x qual st f fd)
 (h:∀y e w M j L (us:List Value),us.length=p.length->G1 (BH x qual (xK st) (yG st) (zD st) .none y e w M j L) ⟨us,[]⟩=pure (p.zip us)):Binds K fd p []:=by
 obtain⟨d,c,y,e,w,M,j,L,o,rfl,l,b⟩:=F.a;exact .all (h y e w M j L)
def ZW{K:Aa}{st}{kV doc pm cdv ct}(l:K.lookup f=some ⟨oc,od,.func (BH x qual (xK st) (yG st) (zD st) .none kV doc pm an cdv ct),osl⟩)
 (c:B6 K cdv qual=true) (k:BS K (.ref f)=true):Fun K x qual st f (BH x qual (xK st) (yG st) (zD st) .none kV doc pm an cdv ct):=⟨⟨oc,od,kV,doc,pm,an,cdv,ct,osl,rfl,l,c⟩,k⟩
def rK{A B:Prop}(h:B):if false=true then A else B:=by rw[if_neg Aj];exact h
def pB{A B:Prop}(h:A):if true=true then A else B:=by rw[if_pos rfl];exact h
def xq(H A:Hp):Prop:=∀b o,H b=some o->A b=some o
def xq.refl H:xq H H:=λ_ _ h=>h
def xq.trans(a:xq H H1)(b:xq H1 H2):xq H H2:=λc o h=>b c o (a c o h)
end L2
end
section
namespace M
open PySem
noncomputable def el(a n:Nat)(f:a=n->Bool):Bool:=if h:a=n then f h else false
def yB(h:el a n f=true):∃e,f e=true:=by
 unfold el at h;by_cases e:a=n
 . rw[dif_pos e]at h;exact⟨e,h⟩
 . rw[dif_neg e]at h;cases h
def UL(e:Expr)(k:BoolOp->List Expr->Pos->Bool):Bool:=el e.ctorIdx 0 λh=>Expr.BoolOp.elim (motive_1:=λ_=>Bool) e h k
def dj(h:UL e k=true):∃o j p,e=.BoolOp o j p/\k o j p=true:=by obtain⟨a,h⟩:=yB h;obtain⟨o,j,p,rfl⟩:∃o j p,e=.BoolOp o j p:=Expr.BoolOp.elim (motive_1:=λe=>∃o j p,e=Expr.BoolOp o j p) e a λo j p=>⟨o,j,p,rfl⟩;exact⟨o,j,p,rfl,h⟩
def Ql(e:Expr)(k:Expr->Operator->Expr->Pos->Bool):Bool:=el e.ctorIdx 2 λh=>Expr.BinOp.elim (motive_1:=λ_=>Bool) e h k
def kB(h:Ql e k=true):∃l o r p,e=.BinOp l o r p/\k l o r p=true:=by obtain⟨a,h⟩:=yB h;obtain⟨l,o,r,p,rfl⟩:∃l o r p,e=.BinOp l o r p:=Expr.BinOp.elim (motive_1:=λe=>∃l o r p,e=Expr.BinOp l o r p) e a λl o r p=>⟨l,o,r,p,rfl⟩;exact⟨l,o,r,p,rfl,h⟩
def eUn(e:Expr)(k:UnaryOp->Expr->Pos->Bool):Bool:=el e.ctorIdx 3 λh=>Expr.UnaryOp.elim (motive_1:=λ_=>Bool) e h k
def Wc(h:eUn e k=true):∃o x p,e=.UnaryOp o x p/\k o x p=true:=by obtain⟨a,h⟩:=yB h;obtain⟨o,x,p,rfl⟩:∃o x p,e=.UnaryOp o x p:=Expr.UnaryOp.elim (motive_1:=λe=>∃o x p,e=Expr.UnaryOp o x p) e a λo x p=>⟨o,x,p,rfl⟩;exact⟨o,x,p,rfl,h⟩
def Qp(e:Expr)(k:EJ->Expr->Scope->Pos->Bool):Bool:=el e.ctorIdx 4 λh=>Expr.Lambda.elim (motive_1:=λ_=>Bool) e h k
def ZI(h:Qp e k=true):∃a b c p,e=.Lambda a b c p/\k a b c p=true:=by obtain⟨d,h⟩:=yB h;obtain⟨a,b,c,p,rfl⟩:∃a b c p,e=.Lambda a b c p:=Expr.Lambda.elim (motive_1:=λe=>∃a b c p,e=Expr.Lambda a b c p) e d λa b c p=>⟨a,b,c,p,rfl⟩;exact⟨a,b,c,p,rfl,h⟩
def Qo(e:Expr)(k:Expr->Expr->Expr->Pos->Bool):Bool:=el e.ctorIdx 5 λh=>Expr.IfExp.elim (motive_1:=λ_=>Bool) e h k
def ZH(h:Qo e k=true):∃t x y p,e=.IfExp t x y p/\k t x y p=true:=by obtain⟨a,h⟩:=yB h;obtain⟨t,x,y,p,rfl⟩:∃t x y p,e=.IfExp t x y p:=Expr.IfExp.elim (motive_1:=λe=>∃t x y p,e=Expr.IfExp t x y p) e a λt x y p=>⟨t,x,y,p,rfl⟩;exact⟨t,x,y,p,rfl,h⟩
def Qm(e:Expr)(k:List (Option Expr)->List Expr->Pos->Bool):Bool:=el e.ctorIdx 6 λh=>Expr.Dict.elim (motive_1:=λ_=>Bool) e h k
def ZE(h:Qm e k=true):∃w j p,e=.Dict w j p/\k w j p=true:=by obtain⟨a,h⟩:=yB h;obtain⟨w,j,p,rfl⟩:∃w j p,e=.Dict w j p:=Expr.Dict.elim (motive_1:=λe=>∃w j p,e=Expr.Dict w j p) e a λw j p=>⟨w,j,p,rfl⟩;exact⟨w,j,p,rfl,h⟩
def TN(e:Expr)(k:Expr->List FG->Scope->Pos->Bool):Bool:=el e.ctorIdx 8 λh=>Ha.elim (motive_1:=λ_=>Bool) e h k
def kC(h:TN e k=true):∃x w j p,e=.ListComp x w j p/\k x w j p=true:=by obtain⟨a,h⟩:=yB h;obtain⟨x,w,j,p,rfl⟩:∃x w j p,e=.ListComp x w j p:=Ha.elim (motive_1:=λe=>∃x w j p,e=Ha x w j p) e a λx w j p=>⟨x,w,j,p,rfl⟩;exact⟨x,w,j,p,rfl,h⟩
def TQ(e:Expr)(k:Expr->List CmpOp->List Expr->Pos->Bool):Bool:=el e.ctorIdx 15 λh=>FP (motive_1:=λ_=>Bool) e h k
def kD(h:TQ e k=true):∃l w j p,e=.Compare l w j p/\k l w j p=true:=by obtain⟨a,h⟩:=yB h;obtain⟨l,w,j,p,rfl⟩:∃l w j p,e=.Compare l w j p:=FP (motive_1:=λe=>∃l w j p,e=Expr.Compare l w j p) e a λl w j p=>⟨l,w,j,p,rfl⟩;exact⟨l,w,j,p,rfl,h⟩
def ZD(e:Expr)(k:Expr->List Expr->List Keyword->Pos->Bool):Bool:=el e.ctorIdx 16 λh=>Expr.Call.elim (motive_1:=λ_=>Bool) e h k
def nB(h:ZD e k=true):∃f j w p,e=.Call f j w p/\k f j w p=true:=by obtain⟨a,h⟩:=yB h;obtain⟨f,j,w,p,rfl⟩:∃f j w p,e=.Call f j w p:=Expr.Call.elim (motive_1:=λe=>∃f j w p,e=Expr.Call f j w p) e a λf j w p=>⟨f,j,w,p,rfl⟩;exact⟨f,j,w,p,rfl,h⟩
def Qn(e:Expr)(k:Expr->Int->Option Expr->Pos->Bool):Bool:=el e.ctorIdx 17 λh=>Gb (motive_1:=λ_=>Bool) e h k
def ZG(h:Qn e k=true):∃x c s p,e=.FormattedValue x c s p/\k x c s p=true:=by obtain⟨a,h⟩:=yB h;obtain⟨x,c,s,p,rfl⟩:∃x c s p,e=.FormattedValue x c s p:=Gb (motive_1:=λe=>∃x c s p,e=Expr.FormattedValue x c s p) e a λx c s p=>⟨x,c,s,p,rfl⟩;exact⟨x,c,s,p,rfl,h⟩
def eJn(e:Expr)(k:List Expr->Pos->Bool):Bool:=el e.ctorIdx 18 λh=>GR.elim (motive_1:=λ_=>Bool) e h k
def WX(h:eJn e k=true):∃j p,e=.JoinedStr j p/\k j p=true:=by obtain⟨a,h⟩:=yB h;obtain⟨j,p,rfl⟩:∃j p,e=.JoinedStr j p:=GR.elim (motive_1:=λe=>∃j p,e=GR j p) e a λj p=>⟨j,p,rfl⟩;exact⟨j,p,rfl,h⟩
def WV(e:Expr)(k:Const->Nat->Pos->Bool):Bool:=el e.ctorIdx 19 λh=>Hb.elim (motive_1:=λ_=>Bool) e h k
def qj(h:WV e k=true):∃c n p,e=.Constant c n p/\k c n p=true:=by obtain⟨a,h⟩:=yB h;obtain⟨c,n,p,rfl⟩:∃c n p,e=.Constant c n p:=Hb.elim (motive_1:=λe=>∃c n p,e=Hb c n p) e a λc n p=>⟨c,n,p,rfl⟩;exact⟨c,n,p,rfl,h⟩
def Qk(e:Expr)(k:Expr->Str->Pos->Bool):Bool:=el e.ctorIdx 20 λh=>GS.elim (motive_1:=λ_=>Bool) e h k
def ZA(h:Qk e k=true):∃o x p,e=.Attribute o x p/\k o x p=true:=by obtain⟨a,h⟩:=yB h;obtain⟨o,x,p,rfl⟩:∃o x p,e=.Attribute o x p:=GS.elim (motive_1:=λe=>∃o x p,e=GS o x p) e a λo x p=>⟨o,x,p,rfl⟩;exact⟨o,x,p,rfl,h⟩
def Wb(e:Expr)(k:Expr->Expr->Pos->Bool):Bool:=el e.ctorIdx 21 λh=>GU.elim (motive_1:=λ_=>Bool) e h k
def qk(h:Wb e k=true):∃l r p,e=.Subscript l r p/\k l r p=true:=by obtain⟨a,h⟩:=yB h;obtain⟨l,r,p,rfl⟩:∃l r p,e=.Subscript l r p:=GU.elim (motive_1:=λe=>∃l r p,e=GU l r p) e a λl r p=>⟨l,r,p,rfl⟩;exact⟨l,r,p,rfl,h⟩
def eName(e:Expr)(k:Str->Pos->Bool):Bool:=el e.ctorIdx 23 λh=>Expr.Name.elim (motive_1:=λ_=>Bool) e h k
def y9(h:eName e k=true):∃x p,e=.Name x p/\k x p=true:=by obtain⟨a,h⟩:=yB h;obtain⟨x,p,rfl⟩:∃x p,e=.Name x p:=Expr.Name.elim (motive_1:=λe=>∃x p,e=Expr.Name x p) e a λx p=>⟨x,p,rfl⟩;exact⟨x,p,rfl,h⟩
def Qq(e:Expr)(k:List Expr->Pos->Bool):Bool:=el e.ctorIdx 24 λh=>Expr.List.elim (motive_1:=λ_=>Bool) e h k
def kE(h:Qq e k=true):∃j p,e=.List j p/\k j p=true:=by obtain⟨a,h⟩:=yB h;obtain⟨j,p,rfl⟩:∃j p,e=.List j p:=Expr.List.elim (motive_1:=λe=>∃j p,e=Expr.List j p) e a λj p=>⟨j,p,rfl⟩;exact⟨j,p,rfl,h⟩
def Qs(e:Expr)(k:List Expr->Nat->Pos->Bool):Bool:=el e.ctorIdx 25 λh=>GD (motive_1:=λ_=>Bool) e h k
def kF(h:Qs e k=true):∃j n p,e=.Tuple j n p/\k j n p=true:=by obtain⟨a,h⟩:=yB h;obtain⟨j,n,p,rfl⟩:∃j n p,e=.Tuple j n p:=GD (motive_1:=λe=>∃j n p,e=Expr.Tuple j n p) e a λj n p=>⟨j,n,p,rfl⟩;exact⟨j,n,p,rfl,h⟩
def Qr(e:Expr)(k:Option Expr->Option Expr->Option Expr->Pos->Bool):Bool:=el e.ctorIdx 26 λh=>Expr.Slice.elim (motive_1:=λ_=>Bool) e h k
def ZJ(h:Qr e k=true):∃x y z p,e=.Slice x y z p/\k x y z p=true:=by obtain⟨a,h⟩:=yB h;obtain⟨x,y,z,p,rfl⟩:∃x y z p,e=.Slice x y z p:=Expr.Slice.elim (motive_1:=λe=>∃x y z p,e=Expr.Slice x y z p) e a λx y z p=>⟨x,y,z,p,rfl⟩;exact⟨x,y,z,p,rfl,h⟩
def Od(e:Stmt)(k:Option Expr->Pos->Bool):Bool:=el e.ctorIdx 3 λh=>Stmt.Return.elim (motive_2:=λ_=>Bool) e h k
def jU(h:Od e k=true):∃o p,e=.Return o p/\k o p=true:=by obtain⟨a,h⟩:=yB h;obtain⟨o,p,rfl⟩:∃o p,e=.Return o p:=Stmt.Return.elim (motive_2:=λe=>∃o p,e=Stmt.Return o p) e a λo p=>⟨o,p,rfl⟩;exact⟨o,p,rfl,h⟩
def Rx(e:Stmt)(k:List Expr->Expr->Pos->Bool):Bool:=el e.ctorIdx 5 λh=>Stmt.Assign.elim (motive_2:=λ_=>Bool) e h k
def ph(h:Rx e k=true):∃j v p,e=.Assign j v p/\k j v p=true:=by obtain⟨a,h⟩:=yB h;obtain⟨j,v,p,rfl⟩:∃j v p,e=.Assign j v p:=Stmt.Assign.elim (motive_2:=λe=>∃j v p,e=Stmt.Assign j v p) e a λj v p=>⟨j,v,p,rfl⟩;exact⟨j,v,p,rfl,h⟩
def Oa(e:Stmt)(k:Expr->Operator->Expr->Pos->Bool):Bool:=el e.ctorIdx 7 λh=>GV.elim (motive_2:=λ_=>Bool) e h k
def XI(h:Oa e k=true):∃t o v p,e=.AugAssign t o v p/\k t o v p=true:=by obtain⟨a,h⟩:=yB h;obtain⟨t,o,v,p,rfl⟩:∃t o v p,e=.AugAssign t o v p:=GV.elim (motive_2:=λe=>∃t o v p,e=GV t o v p) e a λt o v p=>⟨t,o,v,p,rfl⟩;exact⟨t,o,v,p,rfl,h⟩
def Oc(e:Stmt)(k:Expr->Expr->List Stmt->List Stmt->Pos->Bool):Bool:=el e.ctorIdx 9 λh=>Stmt.For.elim (motive_2:=λ_=>Bool) e h k
def XJ(h:Oc e k=true):∃t i b c p,e=.For t i b c p/\k t i b c p=true:=by obtain⟨a,h⟩:=yB h;obtain⟨t,i,b,c,p,rfl⟩:∃t i b c p,e=.For t i b c p:=Stmt.For.elim (motive_2:=λe=>∃t i b c p,e=Stmt.For t i b c p) e a λt i b c p=>⟨t,i,b,c,p,rfl⟩;exact⟨t,i,b,c,p,rfl,h⟩
def sIf(e:Stmt)(k:Expr->List Stmt->List Stmt->Pos->Bool):Bool:=el e.ctorIdx 12 λh=>Stmt.If.elim (motive_2:=λ_=>Bool) e h k
def ee(h:sIf e k=true):∃c a b p,e=.If c a b p/\k c a b p=true:=by obtain⟨d,h⟩:=yB h;obtain⟨c,a,b,p,rfl⟩:∃c a b p,e=.If c a b p:=Stmt.If.elim (motive_2:=λe=>∃c a b p,e=Stmt.If c a b p) e d λc a b p=>⟨c,a,b,p,rfl⟩;exact⟨c,a,b,p,rfl,h⟩
def sRs(e:Stmt)(k:Option Expr->Option Expr->Pos->Bool):Bool:=el e.ctorIdx 16 λh=>Stmt.Raise.elim (motive_2:=λ_=>Bool) e h k
def ef(h:sRs e k=true):∃a b p,e=.Raise a b p/\k a b p=true:=by obtain⟨c,h⟩:=yB h;obtain⟨a,b,p,rfl⟩:∃a b p,e=.Raise a b p:=Stmt.Raise.elim (motive_2:=λe=>∃a b p,e=Stmt.Raise a b p) e c λa b p=>⟨a,b,p,rfl⟩;exact⟨a,b,p,rfl,h⟩
def Ob(e:Stmt)(k:Expr->Pos->Bool):Bool:=el e.ctorIdx 24 λh=>Stmt.Expr.elim (motive_2:=λ_=>Bool) e h k
def jT(h:Ob e k=true):∃x p,e=.Expr x p/\k x p=true:=by obtain⟨a,h⟩:=yB h;obtain⟨x,p,rfl⟩:∃x p,e=.Expr x p:=Stmt.Expr.elim (motive_2:=λe=>∃x p,e=Stmt.Expr x p) e a λx p=>⟨x,p,rfl⟩;exact⟨x,p,rfl,h⟩
noncomputable def l1{a:Type}(b:List a)(k:a->Bool):Bool:=match b with
 |[x]=>k x
 |_=>false
def yy(h:l1 xs k=true):∃x,xs=[x]/\k x=true:=by
 cases xs with
 |nil=>cases h
 |cons x xs=>cases xs with
  |nil=>exact⟨x,rfl,h⟩
  |cons _ _=>cases h
noncomputable def lc{a:Type}(b:List a)(k:a->List a->Bool):Bool:=match b with
 |x::b=>k x b
 |[]=>false
def yX(h:lc xs k=true):∃x y,xs=x::y/\k x y=true:=by
 cases xs with
 |nil=>cases h
 |cons x y=>exact⟨x,y,rfl,h⟩
def YE{xs}{k:α->α->Bool}(h:(lc xs λx e=>l1 e (k x))=true):∃x y,xs=[x,y]/\k x y=true:=by obtain⟨x,e,rfl,h⟩:=yX h;obtain⟨y,rfl,h⟩:=yy h;exact⟨x,y,rfl,h⟩
noncomputable def o1{a:Type}(x:Option a)(k:a->Bool):Bool:=match x with
 |some x=>k x
 |none=>false
def pP(h:o1 x k=true):∃y,x=some y/\k y=true:=by
 cases x with
 |none=>cases h
 |some x=>exact⟨x,rfl,h⟩
def zU(h:(a&&b)=true):a=true/\b=true:=by
 cases a with
 |false=>cases h
 |true=>exact⟨rfl,h⟩
def eOp(u:UnaryOp)(e:Expr)(k:Expr->Bool):Bool:=eUn e λo x _=>decide (o=u)&&k x
def qO(h:eOp u e k=true):∃x p,e=.UnaryOp u x p/\k x=true:=by obtain⟨o,x,p,rfl,b⟩:=Wc h;obtain⟨c,a⟩:=zU b;cases of_decide_eq_true c;exact⟨x,p,rfl,a⟩
def eBl(u:BoolOp)(e:Expr)(k:Expr->List Expr->Bool):Bool:=UL e λo x _=>decide (o=u)&&lc x k
def mM(h:eBl u e k=true):∃x j p,e=.BoolOp u (x::j) p/\k x j=true:=by obtain⟨o,j,p,rfl,c⟩:=dj h;obtain⟨d,b⟩:=zU c;cases of_decide_eq_true d;obtain⟨x,y,rfl,a⟩:=yX b;exact⟨x,y,p,rfl,a⟩
def eC1(e:Expr)(k:Expr->CmpOp->Expr->Bool):Bool:=TQ e λl b a _=>l1 b λo=>l1 a λr=>k l o r
def mO(h:eC1 e k=true):∃l o r p,e=.Compare l [o] [r] p/\k l o r=true:=by obtain⟨l,b,a,p,rfl,h⟩:=kD h;obtain⟨o,rfl,h⟩:=yy h;obtain⟨r,rfl,h⟩:=yy h;exact⟨l,o,r,p,rfl,h⟩
def eC2(e:Expr)(k:Expr->CmpOp->CmpOp->Expr->Expr->Bool):Bool:=TQ e λl b a _=>lc b λo b=>l1 b λd=>lc a λr a=>l1 a λc=>k l o d r c
def fk(h:eC2 e k=true):∃l o w r j p,e=.Compare l [o,w] [r,j] p/\k l o w r j=true:=by obtain⟨l,b,a,p,rfl,h⟩:=kD h;obtain⟨o,b,rfl,h⟩:=yX h;obtain⟨w,rfl,h⟩:=yy h;obtain⟨r,a,rfl,h⟩:=yX h;obtain⟨j,rfl,h⟩:=yy h;exact⟨l,o,w,r,j,p,rfl,h⟩
def eD0(e:Expr):Bool:=Qm e λk v _=>k.isEmpty&&v.isEmpty
def fm(h:eD0 e=true):∃p,e=.Dict [] [] p:=by obtain⟨k,v,p,rfl,h⟩:=ZE h;obtain⟨b,a⟩:=zU h;rw[A1.mp b,A1.mp a];exact⟨p,rfl⟩
def eCN(e:Expr)(k:Str->List Expr->Bool):Bool:=ZD e λf a b _=>b.isEmpty&&eName f λx _=>k x a
def yt(h:eCN e k=true):∃x p w j,e=.Call (.Name x p) w [] j/\k x w=true:=by obtain⟨f,w,b,j,rfl,h⟩:=nB h;obtain⟨a,h⟩:=zU h;obtain⟨x,p,rfl,h⟩:=y9 h;rw[A1.mp a];exact⟨x,p,w,j,rfl,h⟩
def eMt(e:Expr)(k:Expr->Str->Pos->Expr->Pos->Bool):Bool:=ZD e λf a b c=>b.isEmpty&&Qk f λo x d=>l1 a λy=>k o x d y c
def WY(h:eMt e k=true):∃j x w y F,e=.Call (.Attribute j x w) [y] [] F/\k j x w y F=true:=by obtain⟨f,b,c,p,rfl,h⟩:=nB h;obtain⟨a,h⟩:=zU h;obtain⟨j,x,w,rfl,h⟩:=ZA h;obtain⟨y,rfl,h⟩:=yy h;rw[A1.mp a];exact⟨j,x,w,y,p,rfl,h⟩
def eSS(e:Expr)(k:Expr->Option Expr->Option Expr->Option Expr->Bool):Bool:=Wb e λl r _=>Qr r λx y z _=>k l x y z
def WZ(h:eSS e k=true):∃l x y z p j,e=.Subscript l (.Slice x y z p) j/\k l x y z=true:=by obtain⟨l,r,j,rfl,h⟩:=qk h;obtain⟨x,y,z,p,rfl,h⟩:=ZJ h;exact⟨l,x,y,z,p,j,rfl,h⟩
noncomputable def gC(g:FG)(k:Expr->Expr->List Expr->Bool):Bool:=decide (g.is_async=0)&&k g.target g.iter g.ifs
def iK(h:gC g k=true):∃t i f,g=⟨t,i,f,0⟩/\k t i f=true:=by obtain⟨t,i,f,a⟩:=g;obtain⟨b,h⟩:=zU h;have b:a=0:=of_decide_eq_true b;subst b;exact⟨t,i,f,rfl,h⟩
def eG1(e:Expr)(k:Expr->Expr->Expr->List Expr->Scope->Bool):Bool:=TN e λx a s _=>l1 a λg=>gC g λt i f=>k x t i f s
def qN(h:eG1 e k=true):∃x t i f j p,e=.ListComp x [⟨t,i,f,0⟩] j p/\k x t i f j=true:=by obtain⟨x,d,j,p,rfl,c⟩:=kC h;obtain⟨g,rfl,b⟩:=yy c;obtain⟨t,i,f,rfl,a⟩:=iK b;exact⟨x,t,i,f,j,p,rfl,a⟩
def eG2(e:Expr)(k:Expr->Expr->Expr->List Expr->Expr->Expr->List Expr->Scope->Bool):Bool:=TN e λx a s _=>lc a λg a=>l1 a λd=>gC g λt i f=>gC d λb c h=>k x t i f b c h s
def fo(h:eG2 e k=true):∃x t i f j y F w p,e=.ListComp x [⟨t,i,f,0⟩,⟨j,y,F,0⟩] w p/\k x t i f j y F w=true:=by obtain⟨x,m,w,p,rfl,l⟩:=kC h;obtain⟨g,m,rfl,d⟩:=yX l;obtain⟨n,rfl,c⟩:=yy d;obtain⟨t,i,f,rfl,b⟩:=iK c;obtain⟨j,y,F,rfl,a⟩:=iK b;exact⟨x,t,i,f,j,y,F,w,p,rfl,a⟩
end M
end
section
namespace L2
open PySem PySem.Spec PyProof.Rows
noncomputable def ux(a:List (Str × Addr)):List (Str × DS)->List (Str × Addr)->List (Str × Addr)
 |[],acc=>acc
 |(n,k)::r,acc=>if k == .free then (match a.lookup n with|some c=>ux a r ((n,c)::acc)|none=>ux a r acc) else ux a r acc
theorem tU:∀e j,(∀x∈e,x.2=.free->∃c,env.cells.lookup x.1=some c) ->
 (forIn e j λx y =>(if x.2 == .free then do let a <-cellOf env x.1;pure (CA ((x.1,a)::y)) else pure (CA y):Sem (ForInStep (List (Str × Addr)))))=pure (ux env.cells e j)
 |[],j,_=>rfl
 |(n,k)::r,j,h=>by
  rw[E4];dsimp only;unfold ux;by_cases hk:(k == AK)=true
  . have w:k=.free:=by simpa using hk
    obtain⟨c,g⟩:=h (n,k) Ar w;have d:env.cells.lookup n=some c:=g;have b:cellOf env n=pure c:=by unfold cellOf;rw[d]
    rw[if_pos hk,if_pos hk,b,d,Ee,Ee];exact tU r _ λx f=>h x (Af _ f)
  . rw[if_neg hk,if_neg hk,Ee]
    exact tU r _ λx f=>h x (Af _ f)
def tH(h:∀x∈scope.names,x.2=.free->∃c,env.cells.lookup x.1=some c):G4 scope env=pure (ux env.cells scope.names []):=by
 have e:=tU (env:=env) scope.names [] h;show (do let cs <-forIn scope.names [] _;pure cs)=_
 refine G5 ?_ e;refine G5 (bind_pure _) ?_;congr 1
theorem sI:∀w j,(∀x c,j.lookup x=some c->cells.lookup x=some c)->∀x c,(ux cells w j).lookup x=some c->cells.lookup x=some c
 |[],j,h,x,c,e=>h x c e
 |(n,k)::r,j,h,x,c,e=>by
  unfold ux at e;by_cases hk:(k == AK)=true
  . rw[if_pos hk]at e
    cases hc:cells.lookup n with
    |none=>rw[hc]at e;exact sI r j h x c e
    |some d=>
     rw[hc]at e;refine sI r _ (λy z q=>?_) x c e;rw[An]at q;cases hy:(y == n) with
     |true=>rw[hy]at q;have F:y=n:=by simpa using hy
            cases q;rw[F];exact hc
     |false=>rw[hy]at q;exact h y z q
  . rw[if_neg hk]at e;exact sI r j h x c e
theorem vQ:∀w j x c,cells.lookup x=some c->(j.lookup x=some c\/(x,AK)∈w)->(∀y d,j.lookup y=some d->cells.lookup y=some d)->(ux cells w j).lookup x=some c
 |[],j,x,c,_,h,_=>by
  rcases h with h|h
  . exact h
  . cases h
 |(n,k)::r,j,x,c,hc,h,ha=>by
  unfold ux;by_cases hk:(k == AK)=true
  . rw[if_pos hk]
    cases hn:cells.lookup n with
    |none=>
     refine vQ r j x c hc ?_ ha;rcases h with h|h
     . exact .inl h
     . rcases Al.mp h with e|e
       . cases e;rw[hn]at hc;cases hc
       . exact .inr e
    |some d=>
     have F:∀y z,((n,d)::j).lookup y=some z->cells.lookup y=some z:=λy z q=>by
      rw[An]at q;cases hy:(y == n) with
      |true=>rw[hy]at q;have a:y=n:=by simpa using hy
             cases q;rw[a];exact hn
      |false=>rw[hy]at q;exact ha y z q
     by_cases hx:x=n
     . subst hx
       refine vQ r _ x c hc (.inl ?_) F;rw[hn]at hc;cases hc;simp[An]
     . refine vQ r _ x c hc ?_ F
       rcases h with h|h
       . refine .inl ?_
         have:(x == n)=false:=by simpa using hx
         rw[An,this];exact h
       . rcases Al.mp h with e|e
         . cases e;exact absurd rfl hx
         . exact .inr e
  . rw[if_neg hk]
    refine vQ r j x c hc ?_ ha;rcases h with h|h
    . exact .inl h
    . rcases Al.mp h with e|e
      . cases e;exact absurd (by decide) hk
      . exact .inr e
theorem tR:∀e n j,CO n e j=CO n e []++j
 |[],_,_=>rfl
 |(x,k)::r,n,j=>by
  unfold CO;split
  . rw[tR r (n+1) ((x,n)::j),tR r (n+1) [(x,n)],A0];rfl
  . exact tR r n j
theorem mJ:∀names n {x} {c},(x,c)∈CO n names []->(x,Bq)∈names/\n<=c
 |[],_,_,_,h=>by cases h
 |(y,k)::r,n,x,c,h=>by
  unfold CO at h;split at h
  . rename_i hk
    rw[tR]at h;rcases Ba.mp h with h|h
    . obtain⟨e,j⟩:=mJ r (n+1) h
      exact⟨Af _ e,⋯⟩
    . cases Ap.mp h
      have:k=.cell:=by simpa using hk
      rw[this];exact⟨Ar,Ac _⟩
  . obtain⟨e,j⟩:=mJ r n h
    exact⟨Af _ e,j⟩
theorem mI:∀names n {x},(x,Bq)∈names->∃c,(x,c)∈CO n names []
 |[],_,_,h=>by cases h
 |(y,k)::r,n,x,h=>by
  unfold CO;rcases Al.mp h with e|h
  . cases e
    rw[if_pos (by rfl),tR]
    exact⟨n,AU _ Ar⟩
  . split
    . obtain⟨c,j⟩:=mI r (n+1) h
      rw[tR];exact⟨c,Br _ j⟩
    . exact mI r n h
def YK{l:List (Str × Addr)}:(x,c)∈l->∃d,l.lookup x=some d:=by
 induction l with
 |nil=>intro h;cases h
 |cons p r i=>
  intro h;rw[An];cases hx:x == p.1 with
  |true=>exact⟨_,rfl⟩
  |false=>
   rcases Al.mp h with e|h
   . rw[<-e]at hx;simp at hx
   . exact i h
def il{l m:List (Str × Addr)}{x:Str}:(l++m).lookup x=match l.lookup x with|some c=>some c|none=>m.lookup x:=by
 induction l with
 |nil=>rfl
 |cons p r i=>
  rw[CI,An,An];cases hx:x == p.1 with
  |true=>rfl
  |false=>exact i
noncomputable def vH(s:Scope)(C:Addr):List (Str × Addr):=CO (C+1) s.names []
def VT(h:Heap)sc:∃e,CellsOk e (h.objs.size+1) (vH sc h.objs.size):=by
 have o:=cellsFrom_ok sc.names (h.push {cls:=.type "dict",data:=.dict #[]}) (h.objs.size+1) [] ⟨λ_ _ a=>(nomatch a),FO⟩ (by rw[Bb];exact Ac _)
 rw[Bb]at o;exact⟨_,o⟩
abbrev Cx.comp(X:Cx)(N:List Str)(b:Scope)(C:Addr)(s:Shared)(H:Hp)(e:List Addr):Cx:=
 {X with N:=N,l:=s,r:=H,a:=compEnvC b (vH b C++ux X.a.cells b.names []) C X.a,k:=X.h,m:=e,n:=λx=>b.names.any λp=>decide (p=(x,Bq)),q:=[],i:=λ_ _=>False}
structure zw(X:Cx)(N:List Str)(sc:Scope)(fr:List (Option Nat)):Prop where
 b:sc.kind=.function
 e:∀x,(x,Bq)∈sc.names->(x,AK)∈sc.names->False
 a:∀x∈sc.names,x.2=.local->sc.names.lookup x.1=some .local
 d:∀x∈sc.names,x.2=.free->X.a.kindOf x.1=some .cell\/X.a.kindOf x.1=some .free
 g:fr.length=N.length
 f:∀(i j:Nat) (x:Str),N[i]?=some x->fr[i]?=some (some j)->X.N[j]?=some x/\(x,AK)∈sc.names
 h:∀x,sc.names.lookup x=some .local->(x,AK)∈sc.names->False
noncomputable def ze(f:List (Option Nat))(a:St):St:=f.map λo=>match o with|some j=>(a[j]?).join|none=>none
def lJ(h:(relabel sc env).names.lookup x=some .cell\/(relabel sc env).names.lookup x=some .free):(x,AK)∈sc.names\/(x,Bq)∈sc.names:=by
 have a:∀(names:List (Str × DS)),((names.map λ(n,k)=>if (k == AK&&env.scope.kind == .function&&env.kindOf n == some .cell) then (n,Bq) else (n,k)).lookup x=some .cell \/
  (names.map λ(n,k)=>if (k == AK&&env.scope.kind == .function&&env.kindOf n == some .cell) then (n,Bq) else (n,k)).lookup x=some .free)->(x,AK)∈names\/(x,Bq)∈names:=by
  intro names;induction names with
  |nil=>intro h;simp at h
  |cons p r i=>
   obtain⟨n,k⟩:=p;intro h;rw[AE]at h;dsimp only at h;by_cases hx:x=n
   . subst hx
     by_cases hf:k=.free
     . subst hf;exact .inl Ar
     . have c:(k == AK)=false:=by simpa using hf
       rw[c]at h;simp only[Di,Bn,if_false,An,beq_self_eq_true]at h;rcases h with h|h
       . cases h;exact .inr Ar
       . cases h;exact absurd rfl hf
   . have b:(x == n)=false:=by simpa using hx
     have:=i (by split at h<;>simpa only[An,b] using h)
     exact this.elim (λz=>.inl (Af _ z)) λz=>.inr (Af _ z)
 exact a sc.names h
def uB(h:sc.names.lookup x=some .cell):(relabel sc env).names.lookup x=some .cell:=by
 have a:∀(names:List (Str × DS)),names.lookup x=some .cell->(names.map λ(n,k)=>if (k == AK&&env.scope.kind == .function&&env.kindOf n == some .cell) then (n,Bq) else (n,k)).lookup x=some .cell:=by
  intro names;induction names with
  |nil=>intro h;simp at h
  |cons p r i=>
   obtain⟨n,k⟩:=p;intro h;rw[AE];dsimp only;cases hx:(x == n) with
   |true=>
    rw[An,hx]at h;cases h;have e:(Bq == AK)=false:=rfl;rw[e];simp only[Di,Bn,if_false,An,hx]
   |false=>
    rw[An,hx]at h;have:=i h;split<;>simpa only[An,hx] using this
 exact a sc.names h
def sY(b:∀y∈sc.names,y.2=.local->sc.names.lookup y.1=some .local)(h:sc.names.lookup x=some .free) :
 (relabel sc env).names.lookup x=some .cell\/(relabel sc env).names.lookup x=some .free:=by
 have a:∀(names:List (Str × DS)),names.lookup x=some .free->((names.map λ(n,k)=>if (k == AK&&env.scope.kind == .function&&env.kindOf n == some .cell) then (n,Bq) else (n,k)).lookup x=some .cell \/
  (names.map λ(n,k)=>if (k == AK&&env.scope.kind == .function&&env.kindOf n == some .cell) then (n,Bq) else (n,k)).lookup x=some .free):=by
  intro names;induction names with
  |nil=>intro h;simp at h
  |cons p r i=>
   obtain⟨n,k⟩:=p;intro h;rw[AE];dsimp only;cases hx:(x == n) with
   |true=>
    rw[An,hx]at h;cases h;split
    . left;simp only[An,hx]
    . right;simp only[An,hx]
   |false=>
    rw[An,hx]at h;have:=i h;split<;>simpa only[An,hx] using this
 exact a sc.names h
theorem zw.cells(S:zw X N sc fr)(o:X.Ok):∀x∈sc.names,x.2=.free->∃c,X.a.cells.lookup x.1=some c:=λx h b=>o.r x.1 (S.d x h b)
def vP(h:(vH sc C++ux cells sc.names []).lookup x=some c):((vH sc C).lookup x=some c)\/((vH sc C).lookup x=none/\cells.lookup x=some c):=by
 rw[il]at h;cases ho:(vH sc C).lookup x with
 |some d=>rw[ho]at h;exact .inl h
 |none=>rw[ho]at h;exact .inr ⟨rfl,sI sc.names [] (λx c e=>by simp at e) x c h⟩
def pS(h:(vH sc C).lookup x=some c):@LE.le Nat _ (C+1) c:=(mJ sc.names (C+1) (mem_of_lookup h)).2
def Yb(S:zw X N sc fr)(h:(x,AK)∈sc.names):(vH sc C).lookup x=none:=by
 cases ho:(vH sc C).lookup x with
 |none=>rfl
 |some d=>exact(S.e x (mJ sc.names (C+1) (mem_of_lookup ho)).1 h).elim
def WM(I:Inv X pins σ H s)(S:zw X N sc fr)(D:∀b∈fp,uO X pins H b)(w:∀b∈fp,b<s.heap.objs.size):(X.comp N sc s.heap.objs.size s H fp).Ok:=by
 obtain⟨Y,B⟩:=VT s.heap sc;have u:∀x c,X.a.cells.lookup x=some c->@LT.lt Nat _ c s.heap.objs.size:=λx c e=>by obtain⟨v,z⟩:=I.J x c e;exact z.lt
 refine⟨I.C.i,S.b,I.C.k,I.C.t,Ac _,λx y c r q=>?_,λx h=>?_,λx c h e=>?_,I.C.j,I.C.g,.inl rfl,λb l=>?_,λb o e=>I.bs b o e,?_,λb o e l=>?_,λb l z=>?_,I.stack,I.lP⟩
 . rcases vP r with r|⟨_,r⟩<;>rcases vP q with q|⟨_,q⟩
   . exact name_of_addr B.apart (mem_of_lookup r) (mem_of_lookup q)
   . exact absurd (Aw (u _ _ q) (Aq (CL _) (pS r))) (Bj _)
   . exact absurd (Aw (u _ _ r) (Aq (CL _) (pS q))) (Bj _)
   . exact I.C.s x y c r q
 . show ∃c,(vH sc s.heap.objs.size++ux X.a.cells sc.names []).lookup x=some c
   rw[il];rcases lJ h with m|m
   . obtain⟨c,A⟩:=S.cells I.C (x,.free) m rfl
     rw[Yb S m];exact⟨c,vQ sc.names [] x c A (.inr m) (λy d e=>by simp at e)⟩
   . obtain⟨c,A⟩:=mI sc.names (s.heap.objs.size+1) m
     obtain⟨d,E⟩:=YK A;have f:(vH sc s.heap.objs.size).lookup x=some d:=E;rw[f];exact⟨d,rfl⟩
 . have m:(x,Bq)∈sc.names:=by obtain⟨p,T,V⟩:=Bv.mp h;rw[<-of_decide_eq_true V];exact T
   rcases vP e with e|⟨e,_⟩
   . exact Aq (CL _) (pS e)
   . obtain⟨Z,A⟩:=mI sc.names (s.heap.objs.size+1) m
     obtain⟨d,E⟩:=YK A;have f:(vH sc s.heap.objs.size).lookup x=some d:=E;rw[f]at e;cases e
 . obtain⟨R,P,K,n,G,Q⟩:=D b l
   refine⟨AB (w b l),λx c e=>?_⟩;rcases vP e with e|⟨_,e⟩
   . exact λz=>absurd (Aw (z▸w b l) (Aq (CL _) (pS e))) (Bj _)
   . exact G x c e
 . exact Aq I.C.p I.sz
 . obtain⟨R,P,K,n,G,Q⟩:=D b l
   rcases n with n|n
   . exact I.C.m b o e n
   . exact absurd (Aw (Ag e) (Aq I.C.p n)) (Bj _)
 . obtain⟨R,P,K,n,G,Q⟩:=D b l
   rcases Al.mp (I.gb b z) with e|e
   . exact P e
   . exact K e
def iG(I:Inv X pins σ H s)(S:zw X N sc fr)(hf:∀b∈fp,uO X pins H b)(R:∀b∈fp,b<s.heap.objs.size)
 (Q:h'.Ns s.heap.objs.size (λ_=>none)) (k:∀b o,s.heap.get? b=some o->h'.get? b=some o) (O:∀x c,(vH sc s.heap.objs.size).lookup x=some c->h'.IsCell c none):Inv (X.comp N sc s.heap.objs.size s H fp) [] (ze fr σ) H {s with heap:=h',toks:=tk}:=by
 refine⟨WM I S hf R,rfl,I.D,Un.kept k,⟨_,Q,λi x v e1 e2 A=>?_⟩,λx c e=>?_,I.j.fresh (Ac _),λx c e=>?_,λp U=>(by simp at U),I.j.kept k,?_⟩
 . have t:(fr.map λo=>match o with|some j=>(σ[j]?).join|none=>none)[i]?=some (some v):=e2
   rw[AZ]at t;cases hfi:fr[i]? with
   |none=>rw[hfi]at t;cases t
   |some o=>
    rw[hfi]at t;cases o with
    |none=>cases t
    |some j=>
     obtain⟨Z,G⟩:=S.f i j x e1 hfi;have V:σ[j]?=some (some v):=by
      have q:(σ[j]?).join=some v:=AQ t;cases hσ:σ[j]? with
      |none=>rw[hσ]at q;cases q
      |some w=>rw[hσ]at q;cases w with
       |none=>cases q
       |some Y=>have:Y=v:=AQ q
                rw[this]
     have E:=S.d (x,.free) G rfl;obtain⟨m,hn,W⟩:=I.M;obtain⟨u,r,l⟩:=W j x v Z V (E.elim (λz=>.inr (.inl z)) λz=>.inr (.inr z));refine⟨u,r,?_⟩;rcases l with⟨C,_⟩|⟨_,c,hc,z⟩
     . rcases E with E|E<;>(rw[E]at C;cases C)
     . refine .inr ⟨?_,c,(by show (vH sc s.heap.objs.size++ux X.a.cells sc.names []).lookup x=some c;rw[il,Yb S G];exact vQ sc.names [] x c hc (.inr G) (λy d e=>by simp at e)),?_⟩
       . rcases A with A|A|A
         .
           exfalso;have B:sc.names.lookup x=some .local:=by
            have K:∀(names:List (Str × DS)),(names.map λ(n,k)=>if (k == AK&&X.a.scope.kind == .function&&X.a.kindOf n == some .cell) then (n,Bq) else (n,k)).lookup x=some .local->names.lookup x=some .local:=by
             intro names;induction names with
             |nil=>intro h;simp at h
             |cons p r L=>
              obtain⟨n,kk⟩:=p;intro h;rw[AE]at h;dsimp only at h;cases hx:(x == n) with
              |true=>
               split at h
               . simp only[An,hx]at h;cases h
               . simp only[An,hx]at h ⊢;exact h
              |false=>
               rw[An,hx];refine L ?_;split at h<;>simpa only[An,hx] using h
            exact K sc.names A
           exact S.h x B G
         . exact .inl A
         . exact .inr A
       . obtain⟨o,P,T⟩:=z
         exact⟨o,k _ _ P,T⟩
 . rcases vP e with e|⟨_,e⟩
   . exact⟨none,O x c e⟩
   . obtain⟨v,o,P,T⟩:=I.J x c e
     exact⟨v,o,k _ _ P,T⟩
 . rcases vP e with e|⟨_,e⟩
   . exact I.j.fresh (Aq (CL _) (pS e))
   . exact I.F x c e
 . show (fr.map _).length=N.length
   rw[rt];exact S.g
def lS:List TT->TT
 |[]=>λ_ H Q=>Q true H
 |t::ts=>λe H Q=>t e H λc F=>if c=true then lS ts e F Q else Q false F
inductive PTs(X:Cx):List Expr->List TT->Prop
 |b:PTs X [] []
 |a {c:Expr} {cs:List Expr} {t:TT} {ts:List TT}:PT X c t->PTs X cs ts->PTs X (c::cs) (t::ts)
theorem qD{X:Cx}(h:Q false s):∀e:List Expr,
 wpAny (model X.f X.w) X.A (forIn e false λc r=>if r=true then do let ok <-isTrue c X.a (eval c X.a);pure (CA ok) else pure (CA r)) Q E s
 |[]=>Ae h
 |c::e=>by rw[E4];exact lp (Ae (qD h e))
theorem PTs.run:∀{cs} {ts},PTs X cs ts->∀{pins} {s} {σ} {H} {Q},Inv X pins σ H s->lS ts σ H Q ->
 wpAny (model X.f X.w) X.A (forIn cs true λc r=>if r=true then do let ok <-isTrue c X.a (eval c X.a);pure (CA ok) else pure (CA r)) (TP X pins σ Q) X.i s
 |_,_,.b,pins,s,σ,H,Q,I,h=>Ae ⟨H,I,h⟩
 |_,_,.a hc hs,pins,s,σ,H,Q,I,h=>by
  rw[E4];refine lp (lp (thn (hc pins s σ H _ I h) λc e ⟨H1,I1,q1⟩=>Ae ?_));cases c with
  |true=>exact hs.run I1 q1
  |false=>exact qD ⟨H1,I1,q1⟩ _
abbrev TB:=(St->Hp->Prop)->St->Hp->Prop
def PB(X:Cx)(B:Sem PUnit)(t:TB):Prop:=
 ∀(p:List (Addr × Obj)) (s:Shared) (σ:St) (H:Hp) (Nx:St->Hp->Prop),Inv X p σ H s->t Nx σ H->wpAny (model X.f X.w) X.A B (λ_ b=>∃a C,Inv X p a C b/\Nx a C) X.i s
def tTB(t:List TT)(d:TB):TS:=λD b H=>lS t b H λc A=>if c=true then d D.a b A else D.a b A
def pY(J:It)(g:TG)(t:TS)(D:Ends)(h:St)(H:Hp):Prop:=∃W:Nat->Nat->St->Hp->Prop,(∃m,W 0 m h H)/\∀i m h H,W i m h H ->
 (J.a i H/\D.a h H)\/(J.c i H/\∃N:St->Hp->Prop,(∀f A,N f A->∃l,l<m/\W (i+1) l f A)/\∀x A,J.b i H x A->g x h A λk B=>t {D with a:=N,d:=N,c:=D.a} k B)
def vR{X:Cx}{M:Expr}{C:List FG}{S:Scope}{E:Pos}{d:Nat}{tg:Expr}{p:Pos}{ifs:List Expr}{B:Sem PUnit}{U:Value}{it:Addr}{fp:List Addr}{tn:Nat->Heap->Prop}{J:It}{g:TG}{ts:List TT}{tb:TB}{D:Ends}
 {k:List (Addr × Obj)} {σ:St} {H:Hp} {s:Shared} {R:Result->Shared->Prop}
 (heq:Ef (.ListComp M C S E) d (.ref it) U X.a=(do
  standAt p
  match <-pyNext (.ref it) with
  |none=>pure (.done .next)
  |some v=>
   BK tg (.ref it) v
   assign tg X.a v
   let mut ok:=true
   for c in ifs do
    if ok then ok <-isTrue c X.a (eval c X.a)
   if ok then B
   again (.compLoop (.ListComp M C S E) d (.ref it) U X.a)))
 (hx:X.i=λ_ _=>False) (hc:X.j=true) (T:Turn X.f X.w X.K tg J fp it tn) (hg:PG X tg g) (ht:PTs X ifs ts) (F:PB X B tb)
 (I:Inv X k σ H s) (st:tn 0 s.heap) (f:∀b∈fp,uO X k H b) (h:pY J g (tTB ts tb) D σ H)
 (hR:∀l P s',Inv X k l P s'->D.a l P->(∀b∈fp,P b=none)->R (.ok .next) s') :
 codeAny (model X.f X.w) X.A (.compLoop (.ListComp M C S E) d (.ref it) U X.a) R s:=by
 refine byG λpi y=>?_;obtain⟨W,⟨m0,w0⟩,turn⟩:=h;refine y ?_;have Z:∀{P:Hp},(∀b∈fp,P b=none)->∀b∈fp,uO X k P b:=λhn b F=>⟨hn b F,(f b F).2⟩;have no:∀{α:Type} {t:Sem α} {Q:α->Shared->Prop} {E':Value->Shared->Prop} {s:Shared},wpAny (model X.f X.w) X.A t Q X.i s->wpAny (model X.f X.w) X.A t Q E' s:=λh=>AD h (λ_ _ q=>q) λ_ _ z=>by rw[hx]at z;exact z.elim
 refine codeAny_loop rfl (λn s'=>∃i l P,Inv X k l P s'/\tn i s'.heap/\(∀b∈fp,P b=none)/\W i n l P) (λn s3 hI=>?_) m0 ⟨0,σ,H,I,st,λb F=>(f b F).1,w0⟩;refine byG λpi y=>?_;obtain⟨i,Y,H3,I3,st3,fr3,w3⟩:=hI;refine y ?_;show wpAny _ _ ((Ef (.ListComp M C S E) d (.ref it) U X.a).onRaise (λx=>do EN x X.a;theTreesLotGoes x)) _ _ s3
 refine wpAny_noted ?_;rw[heq];refine lp (A8 (lp ?_));rcases turn i n Y H3 w3 with⟨stop,qn⟩|⟨go,N,hN,step⟩
 . refine no (thn (T.d X rfl rfl rfl hc i k s3 Y H3 X.i I3 (Z fr3) st3 stop) λr s4 L=>?_)
   obtain⟨hr,I4⟩:=L;subst hr;exact Ae (hR Y H3 s4 I4 qn fr3)
 . refine no (thn (T.e X rfl rfl rfl hc i k s3 Y H3 X.i I3 (Z fr3) st3 go) λr s4 L=>?_)
   obtain⟨u,hr,h4⟩:=L;subst hr;refine lp (no (thn h4 λ_ s5 L=>?_));refine byG λpi y=>?_;obtain⟨x,H5,I5,r5,y5,st5,fr5⟩:=L;refine y ?_;have I5':=I5.pinned (Z fr5) (T.c _ _ st5);refine lp (no (thn (hg _ s5 Y H5 x u _ I5' r5 (step x H5 y5)) λ_ s6 L=>?_));refine byG λpi y=>?_;obtain⟨σ6,H6,I6,q6⟩:=L;refine y ?_;refine lp (no (thn (ht.run I6 q6) λok s7 L=>?_));obtain⟨H7,I7,q7⟩:=L;have G:∀{V:St} {H7:Hp} {s7:Shared},Inv X (k++pW fp s5.heap) V H7 s7->N V H7->∃m,m<n/\∃i l P,Inv X k l P s7/\tn i s7.heap/\(∀b∈fp,P b=none)/\W i m l P:=λ{V H7 s7} I7 n7=>by obtain⟨m',hm,w7⟩:=hN V H7 n7;refine⟨m',hm,i+1,V,H7,I7.sq,T.a _ _ _ st5 λb F o e=>(I7.O (b,o) (AU _ (AU _ (v9 F e)))).1,λb F=>?_,w7⟩;obtain⟨o,e,d⟩:=T.c _ _ st5 b F;exact(I7.O (b,o) (AU _ (AU _ (v9 F e)))).2.1
   cases ok with
   |false=>exact Ae ⟨rfl,G I7 q7⟩
   |true=>exact lp (no (thn (F _ s7 σ6 H7 N I7 q7) λ_ s8 ⟨σ8,H8,I8,n8⟩=>Ae ⟨rfl,G I8 n8⟩))
def qC(a:Addr)(t:TE):TB:=λN d H=>t d H λy A=>∃c,A a=some (.b c)/\c.length<Ao/\N d (upd A a (.b (c++[y])))
def qS(l:PE X elt te):PB X (do let _ <-call (.builtin "list.append") [.ref acc,<-eval elt X.a]) (qC acc te):=by intro p s b H N I h;refine lp (thn (l p s b H _ I h) λu f z=>?_);obtain⟨y,D,B,r,d,k,i,q⟩:=z;refine lp (thn (nK p f b D (.c acc) [y] (.ref acc) [u] (λ_ E=>N b E) B rfl (.cons r .nil) ⟨acc,d,y,rfl,rfl,k,i,q⟩) λ_ m z=>?_);obtain⟨_,C,A,_,g⟩:=z;exact Ae ⟨b,C,A,g⟩
def ud(h:List (Option Nat))(w:TI)(g:TG)(t:List TT)(f:Addr->TB)(d:St)(H:Hp)(Q:VK):Prop:=
 w d H λJ A=>∀a,A a=none->pY J g (tTB t (f a)) ⟨λ_ B=>Q (.c a) B,λ_ _=>False,λ_ _=>False,λ_ _=>False⟩ (ze h d) (upd A a (.b []))
section
variable {X:Cx}{pins:List (Addr × Obj)}{σ:St}{H:Hp}{s:Shared}{N:List Str}{csc:Scope}{fr:List (Option Nat)}{elt tg iter:Expr}{ifs:List Expr}{rest:List FG}{cpos:Pos}{wi:TI}{g:TG}{ts:List TT}{tb:Addr->TB}
def fB{a:Env}{Q:Env->Shared->Prop}
 (g:∀j:Heap,j.Ns s.heap.objs.size (λ_=>none)->(∀b o,s.heap.get? b=some o->j.get? b=some o)->(∀x c,(vH scope s.heap.objs.size).lookup x=some c->j.IsCell c none) ->
  Q {scope:=scope,locals:=s.heap.objs.size,globals:=globals,cells:=vH scope s.heap.objs.size++cl,qual:=qual,func:=none,code:=a.code,frame:=a.frame,builtins:=a.builtins} {s with heap:=j}) :
 wpAny M A (GW scope globals cl [] qual none .none (some a)) Q E s:=by
 simp only[GW,Option.isSome_some,if_true];refine lp (wpAny_alloc ?_);refine lp (wpAny_layCells _ (λn k cells=>by cases hkc:k == Bq<;>simp[hkc]) _ _ _ _ ?_)
 have d:=cellsFrom_ok scope.names (s.heap.push {cls:=.type "dict",data:=.dict #[]}) (s.heap.objs.size+1) [] ⟨λ_ _ h=>(nomatch h),FO⟩ (by rw[Bb];exact Ac _)
 rw[Bb]at d;rw[show ({s with heap:=s.heap.push {cls:=.type "dict",data:=.dict #[]}}:Shared).heap.objs.size=s.heap.objs.size+1 from Bb ..]
 rw[GX];refine lp (Ae (Ae ?_));rw[tR];exact g _ ((Heap.Ns.new s.heap (.type "dict")).keeps (pushCells_keeps _ _)) (λb o e=>pushCells_keeps _ _ b o (rg _ e)) λx c f=>(d.empty x c (mem_of_lookup f)).1
def oz{use:Option (Value->Sem Unit)}{QQ:Value->Shared->Prop}{Qv:VK}{B:Value->Env->Sem PUnit}{E:Value->Shared->Prop}(hE:E=X.i)(hc:X.j=true)(S:zw X N csc fr)(hi:PI X tg iter wi)
 (Z:∀(F:Addr) (acc:Value) (y:Env),Ef (.ListComp elt (⟨tg,iter,ifs,0⟩::rest) csc cpos) 0 (.ref F) acc y=(do
  standAt iter.pos
  match <-pyNext (.ref F) with
  |none=>pure (.done .next)
  |some v=>
   BK tg (.ref F) v
   assign tg y v
   let mut ok:=true
   for c in ifs do
    if ok then ok <-isTrue c y (eval c y)
   if ok then B acc y
   again (.compLoop (.ListComp elt (⟨tg,iter,ifs,0⟩::rest) csc cpos) 0 (.ref F) acc y)))
 (hg:∀C Y V W,PG (X.comp N csc C Y V W) tg g) (ht:∀C Y V W,PTs (X.comp N csc C Y V W) ifs ts)
 (k:∀C Y V W acc,(∃n,Inv X n σ V Y/\∀b∈W,uO X n V b)->PB (X.comp N csc C Y V W) (B (.ref acc) (X.comp N csc C Y V W).a) (tb acc))
 (I:Inv X pins σ H s) (h:ud fr wi g ts tb σ H Qv)
 (hfin:∀acc C K r,Inv X pins σ K r->Qv (.c acc) K->(∃m,r.heap.Ns C m)->K C=none->C≠X.a.locals->X.l.heap.objs.size<=C->(∀x c,X.a.cells.lookup x=some c->c≠C)->(∀p∈X.q++pins,p.1≠C) ->
  compPost (model X.f X.w) X.A X.i use QQ (.ref acc) C (.ok .next) r) :
 wpAny (model X.f X.w) X.A (eval iter X.a) (λx s₁=>wpAny (model X.f X.w) X.A (pyIter x) (λF s₂=>wpAny (model X.f X.w) X.A (newList []) (λacc s₃=>
  wpAny (model X.f X.w) X.A (GW csc X.a.globals (ux X.a.cells csc.names []) [] X.a.qual none .none (some X.a)) (λR s₄=>
   codeAny (model X.f X.w) X.A (.compStart (.ListComp elt (⟨tg,iter,ifs,0⟩::rest) csc cpos) 0 F acc {R with scope:=relabel csc X.a}) (compPost (model X.f X.w) X.A E use QQ acc R.locals) s₄) E s₃) E s₂) E s₁) E s:=by
 subst hE;refine thn (hi pins s σ H _ I h) λv s1 h1=>thn h1 λitv d h2=>?_;refine byG λpi U=>?_;obtain⟨F,Q,tn,J,H2,e,I2,T,st2,f2,q2⟩:=h2;refine U ?_;subst e;refine Bk ?_;have hfr:H2 d.heap.objs.size=none:=I2.j.fresh (Ac _);have q3:=q2 d.heap.objs.size hfr;generalize hs3:({d with heap:=d.heap.push {cls:=.type "list",dict:=none,data:=.seq ([]:List Value).toArray}}:Shared)=s3
 have k23:∀b u,d.heap.get? b=some u->s3.heap.get? b=some u:=λb u e=>by rw[<-hs3];exact rg _ e
 have new3:s3.heap.get? d.heap.objs.size=some {cls:=.type "list",dict:=none,data:=.seq ([]:List Value).toArray}:=by rw[<-hs3];exact Au _ rfl
 have I3:Inv X pins σ (upd H2 d.heap.objs.size (.b [])) s3:=by rw[<-hs3];exact I2.laid (t':=d.toks) (λb u e=>rg _ e) (Ac _) ⟨Be _,[],0,.nil,Au _ rfl⟩
 have lt2:∀b∈Q,b<d.heap.objs.size:=λb k=>by obtain⟨o,e,_⟩:=T.c _ _ st2 b k;exact Ag e
 have hsz:s3.heap.objs.size=d.heap.objs.size+1:=by rw[<-hs3];exact Bb ..
 have f3:∀b∈Q,uO X pins (upd H2 d.heap.objs.size (.b [])) b:=λb k=>⟨by rw[zG (AB (lt2 b k))];exact(f2 b k).1,(f2 b k).2⟩
 have lt3:∀b∈Q,b<s3.heap.objs.size:=λb k=>by rw[hsz];exact Ca (lt2 b k)
 refine fB λh4 L k34 own4=>?_;have I4:=iG (tk:=s3.toks) I3 S f3 lt3 L k34 own4;have st4:tn 0 h4:=T.a _ _ _ st2 λb k o e=>k34 b o (k23 b o e);have f4:∀b∈Q,uO (X.comp N csc s3.heap.objs.size s3 (upd H2 d.heap.objs.size (.b [])) Q) [] (upd H2 d.heap.objs.size (.b [])) b:=λb k=>by have ok:=I4.C;obtain⟨g1,g2⟩:=ok.G b k;exact⟨(f3 b k).1,g1,ok.l b k,.inl k,g2,λp hp=>by simp at hp⟩
 have fin:∀σ' K r,Inv (X.comp N csc s3.heap.objs.size s3 (upd H2 d.heap.objs.size (.b [])) Q) [] σ' K r->Qv (.c d.heap.objs.size) K->(∀b∈Q,K b=none) ->
  compPost (model X.f X.w) X.A X.i use QQ (.ref d.heap.objs.size) s3.heap.objs.size (.ok .next) r:=λσ' K r I' q' _=>by
  have IX:Inv X pins σ K r:=I3.Qg I'.P I'.B I'.j I'.D λb k=>by refine byG λpi U=>?_;obtain⟨g0,g1,g2,g3,g4,g5⟩:=f3 b k;refine U ?_;exact⟨g3,g1,g4,g5⟩
  obtain⟨m,hn,_⟩:=I'.M;refine hfin _ _ K r IX q' ⟨m,hn⟩ I'.G (Cv I3.lt) I3.sz (λx c e=>?_) λp hp=>?_
  . obtain⟨w',z⟩:=I3.J x c e
    exact AB z.lt
  . exact AB (Ag (I3.O p hp).1)
 have t:codeAny (model X.f X.w) X.A (.compLoop (.ListComp elt (⟨tg,iter,ifs,0⟩::rest) csc cpos) 0 (.ref F) (.ref d.heap.objs.size) (compEnvC csc (vH csc s3.heap.objs.size++ux X.a.cells csc.names []) s3.heap.objs.size X.a))
  (compPost (model X.f X.w) X.A X.i use QQ (.ref d.heap.objs.size) s3.heap.objs.size) {s3 with heap:=h4}:=
  vR (X:=X.comp N csc s3.heap.objs.size s3 (upd H2 d.heap.objs.size (.b [])) Q) (Z F _ _) rfl hc T (hg _ _ _ _) (ht _ _ _ _) (k _ _ _ _ _ ⟨pins,I3,f3⟩) I4 st4 f4 q3 fin
 exact codeAny_compStart_list t (T.f X.A 0 _ _ _ st4 t)
def k6{B:Value->Env->Sem PUnit}(G:X.j=true)(S:zw X N csc fr)(D:PI X tg iter wi)
 (i:∀(y:Addr) (acc:Value) (w:Env),Ef (.ListComp elt (⟨tg,iter,ifs,0⟩::rest) csc cpos) 0 (.ref y) acc w=(do
  standAt iter.pos
  match <-pyNext (.ref y) with
  |none=>pure (.done .next)
  |some v=>
   BK tg (.ref y) v
   assign tg w v
   let mut ok:=true
   for c in ifs do
    if ok then ok <-isTrue c w (eval c w)
   if ok then B acc w
   again (.compLoop (.ListComp elt (⟨tg,iter,ifs,0⟩::rest) csc cpos) 0 (.ref y) acc w)))
 (E:∀C d A f,PG (X.comp N csc C d A f) tg g) (u:∀C d A f,PTs (X.comp N csc C d A f) ifs ts)
 (p:∀C d A f acc,PB (X.comp N csc C d A f) (B (.ref acc) (X.comp N csc C d A f).a) (tb acc))
 (z:∀x,A9 iter X.a x=pure x:=by intro _;rfl) :
 PE X (.ListComp elt (⟨tg,iter,ifs,0⟩::rest) csc cpos) (ud fr wi g ts tb):=by
 intro pins s σ H Q I h;rw[eval_ListComp];refine Gd (use:=none) rfl z (tH (S.cells I.C)) S.b S.a ?_;refine oz (use:=none) rfl G S D i E u (λC d A f acc _=>p C d A f acc) I h λacc C T r R t l K J P n k=>?_;obtain⟨m,l⟩:=l;refine⟨m,l,λV q=>⟨.c acc,T,?_,rfl,t⟩⟩;exact R.turned (t':=r.toks) (λb o p e=>(q.2 b p).trans e) K (Bh (Bh J)) (.inr P) n k
def jD{B:Value->Env->Sem PUnit}{y:Str}{p d:Pos}{i:Nat}(hc:X.j=true)(S:zw X N csc fr)(hi:PI X tg iter wi)
 (l:∀(F:Addr) (acc:Value) (w:Env),Ef (.ListComp elt (⟨tg,iter,ifs,0⟩::rest) csc cpos) 0 (.ref F) acc w=(do
  standAt iter.pos
  match <-pyNext (.ref F) with
  |none=>pure (.done .next)
  |some v=>
   BK tg (.ref F) v
   assign tg w v
   let mut ok:=true
   for c in ifs do
    if ok then ok <-isTrue c w (eval c w)
   if ok then B acc w
   again (.compLoop (.ListComp elt (⟨tg,iter,ifs,0⟩::rest) csc cpos) 0 (.ref F) acc w)))
 (hg:∀C f E k,PG (X.comp N csc C f E k) tg g) (O:∀C f E k,PTs (X.comp N csc C f E k) ifs ts)
 (K:∀C f E k acc,PB (X.comp N csc C f E k) (B (.ref acc) (X.comp N csc C f E k).a) (tb acc))
 (hN:X.N.Nodup) (L:X.N[i]?=some y) (M:Loc X.a.scope y)
 (z:D9 (.ListComp elt (⟨tg,iter,ifs,0⟩::rest) csc cpos) (some (.Name y p)) d.line X.a=pure true:=by rfl)
 (hf:X.n y=true\/X.a.scope.names.lookup y=some .local:=by first|exact .inl rfl|exact .inr rfl|assumption)
 (U:∀x,A9 iter X.a x=pure x:=by intro _;rfl) :
 PS X (.Assign [.Name y p] (.ListComp elt (⟨tg,iter,ifs,0⟩::rest) csc cpos) d) (tu (ud fr wi g ts tb) (wH i)):=by
 intro pins s σ H D I h;rw[exec_Assign_Name_used _ _ _ _ z];refine lp (A8 (lp ?_));show wpAny _ X.A (do let _ <-D2 (.ListComp elt (⟨tg,iter,ifs,0⟩::rest) csc cpos) csc X.a _ (newList []) false (eval iter X.a) (some (assign (.Name y p) X.a))) _ _ s
 refine lp (AD (Gd (use:=some (assign (.Name y p) X.a)) (Q:=λ_ u=>SP X pins D .next u) rfl U (tH (S.cells I.C)) S.b S.a ?_) (λ_ u W=>Ae (Ae W)) λ_ _ e=>e);refine oz (use:=some (assign (.Name y p) X.a)) rfl hc S hi l hg O (λC f E k acc _=>K C f E k acc) I h λacc C H' u I' Z J hC R h0 q G=>?_;obtain⟨m,J⟩:=J;show wpAny _ X.A (assign (.Name y p) X.a (.ref acc)) _ _ _;refine wpAny_assign_Name (nX I' hN L M (show RelV (.c acc) (.ref acc) from rfl) (λY I2 T=>?_) hf);obtain⟨a,V,r⟩:=T;have P:C≠a:=by
  rcases r with r|r
  . rw[r];exact R
  . exact Bh (q y a r)
 refine⟨m,J.sameBut V P,λh' t=>⟨_,H',?_,Z⟩⟩;exact I2.turned (t':=Y.toks) (λb o K e=>(t.2 b K).trans e) hC R (.inr h0) q G
def Uu(elt tg iter:Expr)(ifs:List Expr)(csc:Scope)(cpos:Pos)(i:Addr)(a:Value)(e:Env) :
 Ef (.ListComp elt [⟨tg,iter,ifs,0⟩] csc cpos) 0 (.ref i) a e=(do
  standAt iter.pos
  match <-pyNext (.ref i) with
  |none=>pure (.done .next)
  |some v=>
   BK tg (.ref i) v
   assign tg e v
   let mut ok:=true
   for c in ifs do
    if ok then ok <-isTrue c e (eval c e)
   if ok then (do let _ <-call (.builtin "list.append") [a,<-eval elt e])
   again (.compLoop (.ListComp elt [⟨tg,iter,ifs,0⟩] csc cpos) 0 (.ref i) a e)):=by rfl
def Uv(elt tg iter:Expr)(ifs:List Expr)(t i:Expr)(b:List Expr)(csc:Scope)(cpos:Pos)(f:Addr)(d:Value)(a:Env) :
 Ef (.ListComp elt [⟨tg,iter,ifs,0⟩,⟨t,i,b,0⟩] csc cpos) 0 (.ref f) d a=(do
  standAt iter.pos
  match <-pyNext (.ref f) with
  |none=>pure (.done .next)
  |some v=>
   BK tg (.ref f) v
   assign tg a v
   let mut ok:=true
   for c in ifs do
    if ok then ok <-isTrue c a (eval c a)
   if ok then (do
    let x <-eval i a
    standAt i.pos
    let x <-A9 i a x;let _ <-runOwn (.compStart (.ListComp elt [⟨tg,iter,ifs,0⟩,⟨t,i,b,0⟩] csc cpos) 1 (<-holding [x] (pyIter x)) d a) a)
   again (.compLoop (.ListComp elt [⟨tg,iter,ifs,0⟩,⟨t,i,b,0⟩] csc cpos) 0 (.ref f) d a)):=by
 have e:Ef (.ListComp elt [⟨tg,iter,ifs,0⟩,⟨t,i,b,0⟩] csc cpos) 0 (.ref f) d a=(do
  standAt iter.pos
  match <-pyNext (.ref f) with
  |none=>pure (.done .next)
  |some v=>
   BK tg (.ref f) v
   assign tg a v
   let mut ok:=true
   for c in ifs do
    if ok then ok <-isTrue c a (eval c a)
   if ok then
    let x <-eval i a
    standAt i.pos
    let x <-A9 i a x;let _ <-runOwn (.compStart (.ListComp elt [⟨tg,iter,ifs,0⟩,⟨t,i,b,0⟩] csc cpos) 1 (<-holding [x] (pyIter x)) d a) a
   again (.compLoop (.ListComp elt [⟨tg,iter,ifs,0⟩,⟨t,i,b,0⟩] csc cpos) 0 (.ref f) d a)):=by rfl
 rw[e];simp only[bind_assoc,Ee]
def QP(elt tg iter:Expr)(ifs:List Expr)(t i:Expr)(a:List Expr)(csc:Scope)(cpos:Pos)(d:Addr)(b:Value)(e:Env) :
 Ef (.ListComp elt [⟨tg,iter,ifs,0⟩,⟨t,i,a,0⟩] csc cpos) 1 (.ref d) b e=(do
  standAt i.pos
  match <-pyNext (.ref d) with
  |none=>pure (.done .next)
  |some v=>
   BK t (.ref d) v
   assign t e v
   let mut ok:=true
   for c in a do
    if ok then ok <-isTrue c e (eval c e)
   if ok then (do let _ <-call (.builtin "list.append") [b,<-eval elt e])
   again (.compLoop (.ListComp elt [⟨tg,iter,ifs,0⟩,⟨t,i,a,0⟩] csc cpos) 1 (.ref d) b e)):=by rfl
end
def iF
 (b:codeAny (model prog w) A (.compLoop (.ListComp elt [⟨tg,iter,ifs,0⟩,⟨tg2,iter2,ifs2,0⟩] csc cpos) 1 it acc env) R s)
 (h:wpAny (model prog w) A (pyIter it) (λe j=>codeAny (model prog w) A (.compLoop (.ListComp elt [⟨tg,iter,ifs,0⟩,⟨tg2,iter2,ifs2,0⟩] csc cpos) 1 e acc env) R j)
  (notedBy (model prog w) A env λx j=>R (.error x) j) s) :
 codeAny (model prog w) A (.compStart (.ListComp elt [⟨tg,iter,ifs,0⟩,⟨tg2,iter2,ifs2,0⟩] csc cpos) 1 it acc env) R s:=by
 refine E5 ?_;show wpAny _ _ ((compStart (.ListComp elt [⟨tg,iter,ifs,0⟩,⟨tg2,iter2,ifs2,0⟩] csc cpos) 1 it acc env).onRaise (λx=>do EN x env;standAt theWindowsPlace)) _ _ s
 refine wpAny_notedAt ?_;unfold compStart;show wpAny _ _ (ask >>= _) _ _ s;refine lp (wpAny_askSetting (wpAny_ite ?_));split
 . first
    |exact lp (Ae (Ae (Ad rfl b)))
    |exact Ae (Ad rfl b)
 . first
    |exact lp (FZ (lp (A8 (lp (AD h (λe j a=>Ae (Ad rfl a)) λ_ _ x=>x)))))
    |(refine lp (FZ ?_);show wpAny _ _ (standAt iter2.pos >>= _) _ _ s;exact lp (A8 (lp (AD h (λe j a=>Ae (Ad rfl a)) λ_ _ x=>x))))
def pz(w:TI)(g:TG)(t:List TT)(b:TB):TB:=λN a H=>w a H λJ A=>pY J g (tTB t b) ⟨N,λ_ _=>False,λ_ _=>False,λ_ _=>False⟩ a A
def ku
 (z:X.i=λ_ _=>False) (G:X.j=true) (D:PI X tg2 iter2 wi) (E:PG X tg2 g) (y:PTs X ifs2 ts) (K:PB X (do let _ <-call (.builtin "list.append") [.ref acc,<-eval elt X.a]) tb)
 (C:∀x,A9 iter2 X.a x=pure x:=by intro _;rfl) :
 PB X (do
       let x <-eval iter2 X.a
       standAt iter2.pos
       let x <-A9 iter2 X.a x;let _ <-runOwn (.compStart (.ListComp elt [⟨tg,iter,ifs,0⟩,⟨tg2,iter2,ifs2,0⟩] csc cpos) 1 (<-holding [x] (pyIter x)) (.ref acc) X.a) X.a) (pz wi g ts tb):=by
 intro p s m H R I h;refine lp (thn (D p s m H _ I h) λv F P=>lp (A8 (lp (GL (C v) (lp (Bz (thn P λt n N=>?_)))))));refine byG λL k=>?_;obtain⟨u,M,Z,J,O,e,V,T,c,Q,q⟩:=N;refine k ?_;subst e;refine lp (wpAny_runOwn ?_);have l:codeAny (model X.f X.w) X.A (.compLoop (.ListComp elt [⟨tg,iter,ifs,0⟩,⟨tg2,iter2,ifs2,0⟩] csc cpos) 1 (.ref u) (.ref acc) X.a)
  (λr d=>match r with|.ok f=>wpAny (model X.f X.w) X.A (pure PUnit.unit:Sem PUnit) (λ_ d=>∃b B,Inv X p b B d/\R b B) X.i d|.error e=>F0 (model X.f X.w) X.A X.a X.i e d) n:=
  vR (QP ..) z G T E y K V c Q q λb B d Y o _=>Ae ⟨b,B,Y,o⟩
 exact iF l (T.f X.A 0 _ _ _ c l)
def qT(l:X.j=true)(S:zw X N csc fr)(f:PI X tg iter wi)(i:∀C e F w,PG (X.comp N csc C e F w) tg g)(h:∀C e F w,PTs (X.comp N csc C e F w) ifs ts)
 (k:∀C e F w,PE (X.comp N csc C e F w) elt te) (d:∀x,A9 iter X.a x=pure x:=by intro _;rfl) :
 PE X (.ListComp elt [⟨tg,iter,ifs,0⟩] csc cpos) (ud fr wi g ts λb=>qC b te):=
 k6 l S f (B:=λb c=>(do let _ <-call (.builtin "list.append") [b,<-eval elt c])) (Uu elt tg iter ifs csc cpos) i h (λC e F w b=>qS (k C e F w)) d
def eU(r:X.j=true)(S:zw X N csc fr)(m:PI X tg iter wi)(o:∀C e F w,PG (X.comp N csc C e F w) tg g)(k:∀C e F w,PTs (X.comp N csc C e F w) ifs ts)
 (q:∀C e F w,PE (X.comp N csc C e F w) elt te) (s:X.N.Nodup) (d:X.N[i]?=some y) (f:Loc X.a.scope y)
 (h:D9 (.ListComp elt [⟨tg,iter,ifs,0⟩] csc cpos) (some (.Name y py)) spos.line X.a=pure true:=by rfl)
 (p:X.n y=true\/X.a.scope.names.lookup y=some .local:=by first|exact .inl rfl|exact .inr rfl|assumption)
 (l:∀x,A9 iter X.a x=pure x:=by intro _;rfl) :
 PS X (.Assign [.Name y py] (.ListComp elt [⟨tg,iter,ifs,0⟩] csc cpos) spos) (tu (ud fr wi g ts λb=>qC b te) (wH i)):=
 jD r S m (B:=λb c=>(do let _ <-call (.builtin "list.append") [b,<-eval elt c])) (Uu elt tg iter ifs csc cpos) o k (λC e F w b=>qS (q C e F w)) s d f h p l
def kz(k:X.j=true)(S:zw X N csc fr)(n:PI X tg iter wi)(o:∀C e F w,PG (X.comp N csc C e F w) tg g)(l:∀C e F w,PTs (X.comp N csc C e F w) ifs ts)
 (f:∀C e F w,PI (X.comp N csc C e F w) tg2 iter2 wi2) (i:∀C e F w,PG (X.comp N csc C e F w) tg2 g2) (h:∀C e F w,PTs (X.comp N csc C e F w) ifs2 ts2)
 (p:∀C e F w,PE (X.comp N csc C e F w) elt te) (m:∀x,A9 iter X.a x=pure x:=by intro _;rfl)
 (d:∀b x,A9 iter2 b x=pure x:=by intro _ _;rfl) :
 PE X (.ListComp elt [⟨tg,iter,ifs,0⟩,⟨tg2,iter2,ifs2,0⟩] csc cpos) (ud fr wi g ts λc=>pz wi2 g2 ts2 (qC c te)):=
 k6 k S n (B:=λc b=>(do
        let x <-eval iter2 b
        standAt iter2.pos
        let x <-A9 iter2 b x;let _ <-runOwn (.compStart (.ListComp elt [⟨tg,iter,ifs,0⟩,⟨tg2,iter2,ifs2,0⟩] csc cpos) 1 (<-holding [x] (pyIter x)) c b) b)) (Uv elt tg iter ifs tg2 iter2 ifs2 csc cpos) o l
  (λC e F w c=>ku rfl k (f C e F w) (i C e F w) (h C e F w) (qS (p C e F w)) (d _)) m
def qe:yc X (.builtin "isinstance") (λj H Q=>∃x c t b,j=[x,.k c]/\sE X.K H x (.type t)/\GQ X.K (.type t) (.type c)=some b/\Q (.f b) H):=by intro p s i H j l Q I r h;obtain⟨x,c,t,b,rfl,a,e,q⟩:=h;obtain⟨u,w,rfl,d,g⟩:=vals2 r;cases (show w=DP c from g);exact d7 I d a e λm=>⟨.f b,H,I.tok _,rfl,q⟩
inductive Kd where
 |f|i|d|h|e|b|g
 deriving DecidableEq
noncomputable def Kd.nm:Kd->String
 |.f=>"NoneType"|.i=>"bool"|.d=>"int"|.h=>"str"|.e=>"list"|.b=>"tuple"|.g=>"dict"
noncomputable def Kd.sub(a c:Kd):Bool:=decide (a=c)||(decide (a=.i)&&decide (c=.d))
def Si K(a c:Kd)(k:c≠.f):GQ K (.type a.nm) (.type c.nm)=some (a.sub c):=by
 cases c with
 |f=>exact absurd rfl k
 |i=>cases a<;>rfl
 |d=>cases a<;>rfl
 |h=>cases a<;>rfl
 |e=>cases a<;>rfl
 |b=>cases a<;>rfl
 |g=>cases a<;>rfl
def all_range:∀(e:List Bool),((Ai e.length).all λi=>e.getD i false)=e.all id:=by
 intro e;induction e with
 |nil=>rfl
 |cons b e a=>
  rw[AX,EA,B5,B5,E6];exact congrArg (b&&·) (G5 (by congr 1) a)
theorem Vals.bools:∀{e:List Bool} {us},Vals (e.map V.f) us->us=e.map Dz
 |[],us,r=>by cases r;rfl
 |b::e,us,r=>by
  rw[AE]at r;cases r with
  |cons w j=>
   cases (show _=Dz b from w);rw[Vals.bools j,AE]
def qd(R:X.j=true):yc X (.builtin "all") (λy H Q=>∃(a:Addr) (w:List Bool),y=[.c a]/\SqL X.K H a (w.map V.f)/\Q (.f (w.all id)) H):=by
 intro z s Z H y F Q I r h;obtain⟨a,w,rfl,T,q⟩:=h;obtain⟨u,rfl,E⟩:=vals1 r;cases E;obtain⟨l,D,p,M⟩:=I.list T;have g:=D.bools;have x:a<s.heap.objs.size:=by obtain⟨o,k,_⟩:=p.isList;exact Ag k
 refine call_all_walk (Es p.isList ?_);refine⟨s.heap.objs.size,_,_,_,_,_,λi=>w.getD i false,rfl,Walks.list (A:=X.A.in1) (I.C.j R) s.heap.objs.size a (AB x) l.toArray,⟨⟨_,Au _ rfl,rfl,rfl⟩,?_⟩,?_,λO L N=>?_⟩
 . obtain⟨o,k,t,n,P⟩:=p.isList
   exact⟨o,rg _ k,t,n,P⟩
 . intro i v B Y S G J
   have d:(w.map Dz)[i]?=some v:=by rw[<-g];simpa using G
   rw[AZ]at d;cases hb:w[i]? with
   |none=>rw[hb]at d;cases d
   |some b=>
    rw[hb]at d;have:v=Dz b:=(AQ d).symm;subst this;have e:w.getD i false=b:=by rw[AF,hb];rfl
    have m:Y (w.getD i false) B:=J;rw[e]at m;exact BF m
 . have e:(Ai l.toArray.size).all (λi=>w.getD i false)=w.all id:=by rw[Ab,g,rt];exact all_range w
   rw[e];refine⟨.f (w.all id),H,I.kept λb o k=>N b o ?_ (rg _ k),rfl,q⟩;simpa using AB (Ag k)
def XO(h:H p=none)o:xq H (upd H p o):=λb u q=>by rw[zG (zR q h)];exact q
def rm(H:Hp)(y:List V)(Q:VK):Prop:=∀p A,xq H A->A p=some (.c y)->Q (.c p) A
def rm.new(g:rm H ys Q):∀p,H p=none->Q (.c p) (upd H p (.c ys)):=λp h=>g p _ (XO h _) zJ
def NT:V->Option Int->Option Int->Hp->VK->Prop:=λx l h H Q=>∃a b,x=.c a/\H a=some (.c b)/\rm H (oP b l h) Q
def Uk:R2:=λx y H Q=>∃a b f d,x=.c a/\y=.c b/\H a=some (.c f)/\H b=some (.c d)/\f.length+d.length<=Ao/\rm H (f++d) Q
def OS:R2:=λx y H Q=>∃a k b,x=.c a/\y=.d k/\H a=some (.c b)/\2<=k/\k<=1000/\b≠[]/\b.length<=1000/\rm H (Ay k.toNat b).flatten Q
def di{lo hi}(b:IsTup s.heap t items)(g:s.heap.IsSliceOf sl vl vu .none)(i:IsPart vl lo)(p:IsPart vu hi)
 (m:HT.sIx items.size 0 lo=0) (l:HT.sIx items.size items.size hi=items.size) (h:Q (.ref t) s):wpAny (model prog w) A (getItem (.ref t) (.ref sl)) Q E s:=by
 obtain⟨o,c,d,k⟩:=id g;have f:s.TypeIs (.ref sl) "slice":=⟨o,c,d⟩;unfold getItem
 try with_reducible refine Bz ?_
 first|refine lp (Ae ?_)|skip
 refine lp (FL b.typeIs (by decide) ?_)
 refine lp (CH (name:=DJ "__getitem__") b.typeIs A6
  (DR A6 b.typeIs Fe ?_ (Fq _ _)))
 show wpAny _ _ (DZ (.ref t) >>= _) _ _ s;refine lp (EC b ?_);refine lp (Ed f ?_);rw[if_pos (by decide)]
 refine lp (HT.vY g i p ?_);have a:(((HT.sIx items.size 0 lo:Nat):Int) == 0&&(1:Int) == 1&&(HT.sIx items.size items.size hi-HT.sIx items.size 0 lo) == items.size)=true:=by rw[m,l];simp
 show wpAny _ _ (if (((HT.sIx items.size 0 lo:Nat):Int) == 0&&(1:Int) == 1&&(HT.sIx items.size items.size hi-HT.sIx items.size 0 lo) == items.size)=true then _ else _) _ _ s
 rw[if_pos a];unfold FH;refine lp (lp (Ed b.typeIs (Ae ?_)));rw[if_pos (by decide)]
 exact lp (FZ (Ae ⟨_,rfl,Ae h⟩))
def Vp:SlR X NT:=by
 intro p s u H x v e z n t j Q I k q m l h;obtain⟨a,d,rfl,f,g⟩:=h;by_cases hw:HT.sIx d.length 0 n=0/\HT.sIx d.length d.length t=d.length
 . cases k
   obtain⟨i,r,o,w⟩:=I.tuple (.inl (.inl f));have b:i.toArray.size=d.length:=by rw[Ab];exact r.length.symm
   refine⟨"tuple",_,A6.lookup,o.typeIs,?_⟩;refine di o q m l (by rw[b];exact hw.1) (by rw[b];exact hw.2) ⟨.c a,H,I,rfl,g a H (xq.refl H) ?_⟩
   rw[f];unfold oP;rw[hw.1,hw.2,En,E7,List.take_length]
 . exact R3 p s u H (.c a) v e z n t j Q I k q m l ⟨a,d,rfl,.inl (.inl f),hw,g.new⟩
def YZ:OpR X (BD .Add) Uk:=by
 intro p s E H x y v u Q I j z h;obtain⟨a,b,t,G,rfl,rfl,o,m,V,g⟩:=h;by_cases hx:t=[]
 . cases j
   cases z;subst hx;obtain⟨T,K,P,_⟩:=I.tuple (.inl (.inl o));obtain⟨i,F,N,_⟩:=I.tuple (.inl (.inl m));cases K;obtain⟨⟨Z,Y,C,J⟩,w,B,n,A⟩:=id P;obtain⟨⟨D,q,r,l⟩,d,k,R,f⟩:=id N;simp only at B A k f;subst B A k f;exact concat_meets ⟨_,w,rfl⟩ ⟨_,d,rfl⟩ EG FE Cf B9 (B0 _ _)
    (tuple_addW0 a b #[] i.toArray n R Y q J l rfl) ⟨w,d,⟨.c b,H,I,rfl,g b H (xq.refl H) m⟩⟩
 . refine VO p s E H (.c a) (.c b) v u Q I j z ⟨a,b,t,G,rfl,rfl,.inl (.inl o),.inl (.inl m),hx,V,λe=>?_,λ_=>g.new⟩
   subst e;rw[AJ]at g;exact g a H (xq.refl H) o
def x8:fillsNumberSlot (.type "tuple") "mul"=pure false:=
 PySem.fillsNumberSlot_seq (id:="tuple.__mul__") (r:=some (.builtin "tuple.__rmul__")) DT.lookup (by decide +kernel) F.slot_tuple_rmul.lookup (by decide +kernel)
def uC:seqRepeat? (.type "tuple")=pure (some (.builtin "tuple.__mul__")):=by
 unfold seqRepeat?;rw[PySem.seqSlot_of (T:="tuple") (name:="__mul__") (id:="tuple.__mul__") DT.lookup (by decide +kernel),PySem.seqSlot_of (T:="tuple") (name:="__rmul__") (id:="tuple.__rmul__") F.slot_tuple_rmul.lookup (by decide +kernel)]
 rfl
def wd a t l items n dd sl :
 Meets (Builtin.«int.__rmul__» ⟨[.int a t,.ref l],[]⟩) (λ_ R s=>s.heap.get? l=some {cls:=.type "tuple",dict:=dd,data:=.seq items n,slots:=sl}/\R (.ok (.ret Value.notImplemented)) s):=
 .of_wp λp w A R s h=>by obtain⟨c,g,d,b,o⟩:=s;obtain⟨f,h⟩:=h;wp_walk;exact⟨_,rfl,h⟩
def g6 l items n x u dd sl(G:2<=x)(t:x<=1000)(f:¬items.isEmpty=true)(r:items.size<=1000) :
 Meets (Builtin.«tuple.__mul__» ⟨[.ref l,.int x u],[]⟩) (λ_ R s=>s.heap.get? l=some {cls:=.type "tuple",dict:=dd,data:=.seq items n,slots:=sl} /\
  R (.ok (.ret (AA s.heap.objs.size))) {s with heap:=s.heap.push {cls:=DP "tuple",data:=Data.seq (Em (λb a=>b++a) #[] (Ay x.toNat items))},toks:=s.toks}):=
 .of_wp λp w A R s h=>by
  obtain⟨E,g,d,C,D⟩:=s;obtain⟨k,h⟩:=h;have H:=Ge;have B:¬((decide (x < -(2 ^ 63))||decide (x ≥ 2 ^ 63))=true):=by simp;omega
  have y:¬((items.isEmpty||x == 1)=true):=by simp at f ⊢;exact⟨f,⋯⟩
  have j:¬((decide (x<=0)||items.isEmpty)=true):=by simp at f ⊢;exact⟨⋯,f⟩
  have i:(items.size:Int)*x<=1000*1000:=Int.mul_le_mul ⋯ t ⋯ ⋯
  have z:¬((items.size:Int)*x > (2 ^ 63-1)/8):=by omega
  have o:Ao=16777216:=AL;have v:¬(D3 ((items.size:Int)*x)=true):=by unfold D3;rw[o];simp only[decide_eq_true_eq];omega
  have q:(Em (λb a=>b++a) #[] (Ay x.toNat items)).size=x.toNat*items.size:=by have e:=foldl_rep items.toList x.toNat [];simp only[Array.toArray_toList,D7]at e;rw[e,Ab,len_rep,Dv]
  have c:sizeOk (.seq (Em (λb a=>b++a) #[] (Ay x.toNat items))):=by
   show (Em (λb a=>b++a) #[] (Ay x.toNat items)).size<=Ao;rw[q,o];have:x.toNat*items.size<=1000*1000:=Dj ⋯ r
   omega
  wp_walk using BW k
  rw[if_neg B];refine lp (EC (items:=items) ⟨_,k,rfl,n,rfl⟩ ?_);rw[if_neg y];show wpAny _ _ (if (decide (x<=0)||items.isEmpty)=true then _ else _) _ _ _
  rw[if_neg j];show wpAny _ _ (if (items.size:Int)*x > (2 ^ 63-1)/8 then _ else _) _ _ _
  rw[if_neg z];show wpAny _ _ (if D3 ((items.size:Int)*x)=true then _ else _) _ _ _
  rw[if_neg v];exact lp (m:=Bu _) (Bk (Ae ⟨_,rfl,h⟩) c)
def VS:OpR X (BD .Mult) OS:=by
 intro p s F H x y v u Q I G E h;obtain⟨a,k,f,rfl,rfl,P,Y,V,R,A,g⟩:=h;cases G;obtain⟨t,rfl⟩:=E;obtain⟨i,r,J,_⟩:=I.tuple (.inl (.inl P));obtain⟨⟨Z,B,C,m⟩,d,w,n,z⟩:=id J;simp only at w z;subst w z;have N:=r.length;have l:¬i.toArray.isEmpty=true:=by simp;intro e;exact R (r.vA.mp e)
 refine Df (T:="tuple") (U:="int") (by decide) ⟨_,d,rfl⟩ (λD=>DB D k t) x8 E3 Cz uC EH.lookup
  (BO Cz (DB s k t) EI (Et _ _) (wd k t a i.toArray n B m)
   ⟨d,rfl,⟨_,d,rfl⟩,BO DT ⟨_,d,rfl⟩ FQ (Ft _ _) (g6 a i.toArray n k t B m Y V l (by rw[Ab,<-N];exact A)) ⟨d,?_⟩⟩)
 have e:=foldl_rep i k.toNat [];rw[D7]at e;have K:(Ay k.toNat f).flatten.length<=Ao:=by
  rw[len_rep,AL];have:k.toNat*f.length<=1000*1000:=Dj ⋯ A
  omega
 refine⟨.c s.heap.objs.size,_,I.laid (t':=s.toks) (o:=.c (Ay k.toNat f).flatten) (λb L q=>rg _ q) (Ac _) ⟨K,(Ay k.toNat i).flatten,r.rep k.toNat,?_⟩,rfl,g.new _ (I.j.fresh (Ac _))⟩;rw[show (#[]:Array Value)=([]:List Value).toArray from rfl,e];exact sD.new _ _
def Va(b:∀e w H s,Inv X e w H s->Cg<s.heap.objs.size):PE X (.Dict [] [] pos) (λ_ H Q=>∀p,H p=none->Q (.c p) (upd H p (.i []))):=λe s w H Q I h=>
 Gf ⟨.c s.heap.objs.size,_,I.laid (a:=s.heap.objs.size) (o:=.i []) (t':=s.toks) (λ_ _ q=>rg _ q) (Ac _)
  ⟨Be _,beq_eq_false_iff_ne.mpr (Bh (AB (b e w H s I))),[],.nil,Heap.DictOf.new s.heap⟩,rfl,h _ (I.j.fresh (Ac _))⟩
mutual
inductive DD(H:Hp)(p:Addr):V->PyData->Prop
 |non:DD H p .g .none
 |bl (b:Bool):DD H p (.f b) (.bool b)
 |int (i:Int):DD H p (.d i) (.int i)
 |str (x:Str):DD H p (.e x) (.str x)
 |lst {a:Addr} {xs:List V} {ds:List PyData}:H a=some (.b xs)->a≠p->DDs H p xs ds->DD H p (.c a) (.list ds)
 |tup {a:Addr} {xs:List V} {ds:List PyData}:H a=some (.c xs)->a≠p->DDs H p xs ds->DD H p (.c a) (.tuple ds)
 |dct {a:Addr}:H a=some (.i [])->a≠p->DD H p (.c a) (.dict [])
inductive DDs(H:Hp)(p:Addr):List V->List PyData->Prop
 |b:DDs H p [] []
 |a {x:V} {xs:List V} {d:PyData} {ds:List PyData}:DD H p x d->DDs H p xs ds->DDs H p (x::xs) (d::ds)
end
theorem DDs.length:∀{vs} {ds},DDs H p vs ds->vs.length=ds.length
 |_,_,.b=>rfl
 |_,_,.a _ rs=>by rw[AX,AX,rs.length]
theorem DDs.append:∀{vs ws} {ds es},DDs H p vs ds->DDs H p ws es->DDs H p (vs++ws) (ds++es)
 |_,_,_,_,.b,r=>r
 |_,_,_,_,.a r rs,q=>.a r (rs.append q)
mutual
noncomputable def xb:PyData->Bool
 |.none|.bool _|.int _|.str _=>false
 |.list _=>true
 |.tuple xs=>xu xs
 |.dict _=>false
noncomputable def xu:List PyData->Bool
 |[]=>false
 |x::xs=>xb x||xu xs
end
structure UC(d:PyData):Prop where
 sh:d.showable=true
 a:d.hasDict=true->xb d=false
 dp:d.depth<=50
 ln:d.shown.length<=Ao
structure oK(k w:Nat)(d:PyData):Prop where
 c:d.showable=true
 b:d.leavesShort 40=true
 a:d.depth<=k
 f:d.weight<=w
def kS(f:-(10 ^ 30)<i)(c:i<10 ^ 30):oK 0 100 (.int i):=by
 have b:i.natAbs<10 ^ 30:=by omega
 have a:i.natAbs<2 ^ 100:=Nat.lt_trans b (by decide)
 have h:i.natAbs≠0->i.natAbs.log2<100:=λz=>(Nat.log2_lt z).mpr a;refine⟨?_,?_,Be _,?_⟩
 . show decide (i.natAbs.log2<1920)=true
   by_cases z:i.natAbs=0
   . rw[z];decide
   . exact decide_eq_true (Nat.lt_trans (h z) (by decide))
 . show decide ((PyData.shown (.int i)).length<=40)=true
   refine decide_eq_true ?_;show (DJ (toString i)).length<=40;by_cases z:0<=i
   . exact Aq (toString_length_le z (k:=30) (by decide) c) (by decide)
   . have e:=len_text_negI (n:=i) ⋯
     have g:=toString_length_le (v:=0-i) (k:=30) ⋯ (by decide) ⋯
     omega
 . show (if i == 0 then 0 else i.natAbs.log2+1)<=100
   split
   . exact Be _
   . rename_i z
     have d:i≠0:=by simpa using z
     exact h ⋯
theorem vx:∀{ds},(∀d∈ds,d.showable=true)->PyData.showableAll ds=true
 |[],_=>rfl
 |d::ds,h=>by rw[PyData.showableAll,h d Ar,vx λx e=>h x (Af _ e)];rfl
theorem rB:∀{ds},(∀d∈ds,d.leavesShort 40=true)->PyData.leavesShortAll 40 ds=true
 |[],_=>rfl
 |d::ds,h=>by rw[PyData.leavesShortAll,h d Ar,rB λx e=>h x (Af _ e)];rfl
theorem rA:∀{ds},(∀d∈ds,d.depth<=k)->PyData.depthAll ds<=k
 |[],_=>Be _
 |d::ds,h=>by rw[PyData.depthAll];exact Nat.max_le.mpr ⟨h d Ar,rA λx e=>h x (Af _ e)⟩
theorem tQ:∀{ds},(∀d∈ds,d.weight<=w)->Gg ds<=ds.length*(w+1)
 |[],_=>by simp[Gg]
 |d::ds,h=>by rw[Gg,AX,F8];have e:=h d Ar;have b:=tQ λx a=>h x (Af _ a);omega
def pD(h:∀d∈ds,oK k w d)(i:ds.length<=n):oK (k+1) (n*(w+1)) (.tuple ds):=by refine⟨vx λd g=>(h d g).c,rB λd g=>(h d g).b,Gh (rA λd g=>(h d g).a),?_⟩;exact Aq (tQ λd g=>(h d g).f) (Bs _ i)
def cM(h:∀d∈ds,oK k w d)(i:ds.length<=n):oK (k+1) (n*(w+1)) (.list ds):=by refine⟨vx λd g=>(h d g).c,rB λd g=>(h d g).b,Gh (rA λd g=>(h d g).a),?_⟩;exact Aq (tQ λd g=>(h d g).f) (Bs _ i)
def oK.Og(h:oK k w d)(i:k<=50)(g:w<=300000)(m:d.hasDict=true->xb d=false):UC d:=by
 refine⟨h.c,m,Aq h.a i,?_⟩;have e:=PyData.shown_le 40 (by decide) d h.b
 have l:=h.f;rw[AL];have:(40+2)*d.weight<=42*300000:=Ff _ (Aq l g);omega
theorem uo:∀{ds},(∀d∈ds,d.hasDict=false)->PyData.hasDictAll ds=false
 |[],_=>rfl
 |d::ds,h=>by rw[PyData.hasDictAll,h d Ar,uo λx e=>h x (Af _ e)];rfl
section
variable {X:Cx}{pos:Pos}
def OF(c:Gl X x)(b:X.d x=none)(h:Cu x=some (.type n))(a:x≠"__name__":=by decide)(f:(x == ("__debug__":Str))=false:=by decide):PE X (.Name x pos) (tC (.k n)):=
 VZ c b h (show RelV (.k n) (.type n) from rfl) a f
def OK(c:PT X a tA)(h:PW X (.BoolOp .Or (b::rest) pos) tB'):PT X (.BoolOp .Or (a::b::rest) pos) (tOr tA tB'):=(OM c h).pt
noncomputable def noStar:Expr->Bool
 |.Starred ..=>false
 |_=>true
def zd(h:noStar e=true):Av (e::es) env=(false,eval e env)::Av es env:=by
 cases e<;>first|rfl|cases h
def pac(b:PE X e te)(a:PA X es t)(h:noStar e=true:=by rfl):PA X (e::es) (xJ te t):=yR b a (zd h)
noncomputable def tS(s:Scope)(A N:List Str)(c:Scope)(f:List (Option Nat)):Bool:=
 decide (c.kind=.function)&&c.names.all (λx=>decide (x.2≠.cell)||c.names.all λy=>decide (y≠(x.1,AK)))&&c.names.all (λx=>decide (x.2≠.local)||decide (c.names.lookup x.1=some .local)) &&
 c.names.all (λx=>decide (x.2≠.free)||(decide (s.names.lookup x.1=some .cell)||decide (s.names.lookup x.1=some .free)))&&decide (f.length=N.length) &&
 (Ai N.length).all (λi=>match f[i]?,N[i]? with|some (some j),some x=>decide (A[j]?=some x)&&c.names.any (λy=>decide (y.1=x)&&decide (y.2=.free))|_,_=>true) &&
 c.names.all (λx=>decide (x.2≠.free)||decide (c.names.lookup x.1≠some .local))&&(decide (("!":Str) ∉ N)||(decide (("!":Str)∈A)&&s.names.any (λy=>decide (s.names.lookup y.1=some .cell))))
end
noncomputable def yC{a:Type}(x:List a)(l s:Int)(n:Nat):List a:=(Ai n).filterMap λ(k:Nat)=>x[(l+(k:Int)*s).toNat]?
theorem Vals.pick(r:Vals xs us):∀(e:List Nat),Vals (e.filterMap λi=>xs[i]?) (e.filterMap λi=>us[i]?)
 |[]=>.nil
 |i::e=>by
  rw[Bp,Bp];cases hx:xs[i]? with
  |none=>rw[r.none_of hx];exact Vals.pick r e
  |some x=>
   obtain⟨u,w,j⟩:=r.get hx;rw[w];exact .cons j (Vals.pick r e)
theorem Vals.yC{x:List V}{u:List Value}(r:Vals x u)(l s:Int)(n:Nat):Vals (yC x l s n) (L2.yC u l s n):=by have h:=r.pick ((Ai n).map λ(k:Nat)=>(l+(k:Int)*s).toNat);rw[Cr,Cr]at h;exact h
def k9(x:List α)lo st n:(yC x lo st n).length<=n:=by have:=List.length_filterMap_le (λ(k:Nat)=>x[(lo+(k:Int)*st).toNat]?) (Ai n);rw[Bl]at this;exact this
noncomputable def ym(n:Nat)(l h:Option Int)(s:Int):Int × Nat:=((A7 l h s (n:Int)).1,BE (A7 l h s (n:Int)).1 (A7 l h s (n:Int)).2 s)
def oX{lo hi}{st}{n:Nat}(f:s.heap.IsSliceOf sl vl vu vc)(c:IsPart vl lo)(p:IsPart vu hi)(d:IsPart vc (some st))(i:st≠0)
 (h:Q ((ym n lo hi st).1,st,(ym n lo hi st).2) s):wpAny (model prog w) A (CY (.ref sl) (pure (n:Int))) Q E s:=by
 obtain⟨o,a,g,b⟩:=id f;unfold CY FX;refine lp (lp (Bx a b (x:=vl) rfl (lp (Bx a b (x:=vu) rfl (lp (Bx a b (x:=vc) rfl (Ae ?_)))))));refine lp (HT.wu d ?_);show wpAny _ _ (if (st == 0)=true then _ else _) _ _ s
 rw[if_neg (by simpa using i)]
 exact lp (HT.wu c (lp (HT.wu p (lp (Ae (Ae h))))))
def Xp{lo hi}{st}(a:IsTup s.heap t items)(l:s.heap.IsSliceOf sl vl vu vc)(o:IsPart vl lo)(p:IsPart vu hi)(q:IsPart vc (some st))(v:st≠0)
 (d:(ym items.size lo hi st).1=0->st=1->(ym items.size lo hi st).2=items.size->Q (.ref t) s)
 (b:Q (.ref s.heap.objs.size) {s with heap:=s.heap.push {cls:=.type "tuple",data:=.seq (yC items.toList (ym items.size lo hi st).1 st (ym items.size lo hi st).2).toArray}})
 (c:(ym items.size lo hi st).2<=Ao):wpAny (model prog w) A (getItem (.ref t) (.ref sl)) Q E s:=by
 obtain⟨r,f,g,u⟩:=id l;have i:s.TypeIs (.ref sl) "slice":=⟨r,f,g⟩;have h:sizeOk (.seq (yC items.toList (ym items.size lo hi st).1 st (ym items.size lo hi st).2).toArray):=by show (yC items.toList (ym items.size lo hi st).1 st (ym items.size lo hi st).2).toArray.size<=Ao;rw[Ab];exact Aq (k9 _ _ _ _) c
 have e:((Ai (ym items.size lo hi st).2).filterMap λ(k:Nat)=>items[((ym items.size lo hi st).1+(k:Int)*st).toNat]?).toArray=(yC items.toList (ym items.size lo hi st).1 st (ym items.size lo hi st).2).toArray:=by unfold yC;simp only[Array.getElem?_toList]
 unfold getItem
 try with_reducible refine Bz ?_
 first|refine lp (Ae ?_)|skip
 refine lp (FL a.typeIs (by decide) ?_)
 refine lp (CH (name:=DJ "__getitem__") a.typeIs A6
  (DR A6 a.typeIs Fe ?_ (Fq _ _)))
 show wpAny _ _ (DZ (.ref t) >>= _) _ _ s;refine lp (EC a ?_);refine lp (Ed i ?_);rw[if_pos (by decide)]
 refine lp (oX (n:=items.size) l o p q v ?_);by_cases hw:((ym items.size lo hi st).1 == 0&&st == 1&&(ym items.size lo hi st).2 == items.size)=true
 . show wpAny _ _ (if ((ym items.size lo hi st).1 == 0&&st == 1&&(ym items.size lo hi st).2 == items.size)=true then _ else _) _ _ s
   rw[if_pos hw];simp only[cf,beq_iff_eq]at hw;unfold FH;refine lp (lp (Ed a.typeIs (Ae ?_)));rw[if_pos (by decide)]
   exact lp (FZ (Ae ⟨_,rfl,Ae (d hw.1.1 hw.1.2 hw.2)⟩))
 . show wpAny _ _ (if ((ym items.size lo hi st).1 == 0&&st == 1&&(ym items.size lo hi st).2 == items.size)=true then _ else _) _ _ s
   rw[if_neg hw,e]
   first
    |exact lp (m:=Bu _) (Bk (Ae ⟨_,rfl,Ae b⟩) h)
    |exact lp (lp (m:=Bu _) (Bk (Ae ⟨_,rfl,Ae b⟩) h))
theorem jA{a:Type}:∀e:List a,(Ai e.length).filterMap (λk=>e[k]?)=e
 |[]=>rfl
 |x::e=>by
  rw[AX,EA,Bp,Cr];show x::_=_;refine congrArg (x::·) (G5 ?_ (jA e))
  congr 1
def gI(x:List α):yC x 0 1 x.length=x:=by
 unfold yC;have e:(λ(k:Nat)=>x[(0+(k:Int)*1).toNat]?)=λk=>x[k]?:=by funext k;rw[show (0+(k:Int)*1).toNat=k by omega]
 rw[e];exact jA x
def NU:V->Option Int->Option Int->Option Int->Hp->VK->Prop:=λx l h s H Q=>∃a b c,x=.c a/\H a=some (.c b)/\s=some c/\c≠0/\(ym b.length l h c).2<=Ao/\rm H (yC b (ym b.length l h c).1 c (ym b.length l h c).2) Q
def Ow(r:V->Option Int->Option Int->Option Int->Hp->VK->Prop)(d:TE)(t b f:TO):TE:=λa H Q=>d a H λx D=>t a D λl C=>b a C λu B=>f a B λc A=>r x l u c A Q
def bL{lo hi}{st}(W:PE X e te)(U:PO X lo tl)(S:PO X hi th)(hc:PO X (some st) tc):PE X (.Subscript e (.Slice lo hi (some st) p2) pos) (Ow NU te tl th tc):=by
 intro p s m H Q I h;refine G2 (thn (W p s m H _ I h) λv Z z=>?_);obtain⟨x,H1,I1,F,q1⟩:=z;refine wpAny_Slice (thn (U p Z m H1 _ I1 q1) λK Y ⟨l,H2,I2,pl,q2⟩=>thn (S p Y m H2 _ I2 q2) λJ V ⟨u,H3,I3,pu,q3⟩=>thn (hc p V m H3 _ I3 q3) λN k z=>?_);obtain⟨c,C,I4,M,L⟩:=z;obtain⟨a,t,D,rfl,P,ec,h0,n,g⟩:=L;subst ec;cases F;have B:Inv X p m C {k with heap:=k.heap.push {cls:=.type "slice",data:=.fields #[K,J,N]}}:=I4.kept (t':=k.toks) λb O q=>rg _ q
 obtain⟨y,r,R,hz⟩:=B.tuple (.inl (.inl P));have d:y.toArray.size=t.length:=by rw[Ab];exact r.length.symm
 show wpAny (model X.f X.w) X.A (FF e (.Slice lo hi (some st) p2) (.ref a) (.ref k.heap.objs.size)) (EP X p m Q) X.i {k with heap:=k.heap.push {cls:=.type "slice",data:=.fields #[K,J,N]}}
 refine tail_any (ops:=[.ref a,.ref k.heap.objs.size]) R.typeIs A6.lookup (Xp R (Fs ..) pl pu M h0 (λG T E=>?_) ?_ (by rw[d];exact n)) (by with_unfolding_all rfl)
 . refine⟨.c a,C,B,rfl,g a C (xq.refl C) ?_⟩
   rw[d]at G E;rw[P,G,E,T,gI]
 . rw[d]
   refine⟨.c _,_,B.laid (t':=k.toks) (o:=.c (yC t (ym t.length l u D).1 D (ym t.length l u D).2)) (λb O q=>rg _ q) (Ac _) ?_,rfl,g.new _ (B.j.fresh (Ac _))⟩;refine⟨Aq (k9 _ _ _ _) n,_,r.yC _ _ _,?_⟩;exact sD.new _ _
end L2
end
section
namespace L2
open PySem PyProof.Rows
section
variable {X:Cx}
noncomputable def uG(d:Int):List Int->Int
 |[]=>d
 |n::ns=>ns.foldl (λa b=>if b > a then b else a) n
theorem qm:∀(ns:List Int) a,a<=ns.foldl (λa b=>if b > a then b else a) a/\(∀x∈ns,x<=ns.foldl (λa b=>if b > a then b else a) a)/\(ns.foldl (λa b=>if b > a then b else a) a=a\/ns.foldl (λa b=>if b > a then b else a) a∈ns)
 |[],a=>⟨Int.le_refl _,λ_ h=>(nomatch h),.inl rfl⟩
 |n::ns,a=>by
  obtain⟨w,y,j⟩:=qm ns (if n > a then n else a)
  show a<=ns.foldl _ (if n > a then n else a)/\_
  have d:a<=(if n > a then n else a)/\n<=(if n > a then n else a):=by split<;>omega
  refine⟨Gi d.1 w,λx c=>?_,?_⟩
  . rcases Al.mp c with e|c
    . rw[e];exact Gi d.2 w
    . exact y x c
  . rcases j with j|j
    . show ns.foldl _ (if n > a then n else a)=a\/ns.foldl _ (if n > a then n else a)∈n::ns
      rw[j];split
      . exact .inr (Ar ..)
      . exact .inl rfl
    . exact .inr (Af _ j)
def iw(h:ns≠[]):uG d ns∈ns/\∀x∈ns,x<=uG d ns:=by
 cases ns with
 |nil=>exact absurd rfl h
 |cons n ns=>
  obtain⟨f,c,a⟩:=qm ns n;refine⟨?_,λx b=>?_⟩
  . rcases a with a|a
    . show ns.foldl _ n∈_;rw[a];exact Ar ..
    . exact Af _ a
  . rcases Al.mp b with e|b
    . rw[e];exact f
    . exact c x b
def ke(c:M∈ns)(f:∀x∈ns,x<=M):uG d ns=M:=by
 have h:ns≠[]:=λe=>by rw[e]at c;exact nomatch c
 obtain⟨a,b⟩:=iw (d:=d) h;exact Int.le_antisymm (f _ a) (b _ c)
theorem Vals.ints:∀{j:List Int} {us},Vals (j.map V.d) us->∀{i:Nat} {v},us[i]?=some v->∃t,v=.int (j.getD i 0) t
 |[],_,.nil,_,_,h=>by cases h
 |n::j,_,.cons r rs,0,v,h=>by
  obtain⟨t,e⟩:=r;have:v=.int n t:=(AQ h).symm.trans e;exact⟨t,this⟩
 |n::j,_,.cons r rs,i+1,v,h=>by have:=Vals.ints rs (i:=i) (v:=v) h;exact this
end
end L2
end
section
namespace L2
open PySem PyProof PyProof.Rows
section
variable {X:Cx}
def gz l items n u dd sl :
 Meets (Builtin.«tuple.__mul__» ⟨[.ref l,.int 1 u],[]⟩) (λ_ R s=>s.heap.get? l=some {cls:=.type "tuple",dict:=dd,data:=.seq items n,slots:=sl}/\R (.ok (.ret (AA l))) s):=
 .of_wp λp w A R s h=>by
  obtain⟨b,g,d,t,o⟩:=s;obtain⟨a,h⟩:=h;have f:=Ge;have i:¬((decide ((1:Int) < -(2 ^ 63))||decide ((1:Int) ≥ 2 ^ 63))=true):=by decide
  have c:((items.isEmpty||((1:Int) == 1))=true):=by simp
  wp_walk using BW a
  exact⟨_,rfl,h⟩
def gy l items n x u dd sl(c:x<=0)(r:-1000<=x)(b:¬items.isEmpty=true) :
 Meets (Builtin.«tuple.__mul__» ⟨[.ref l,.int x u],[]⟩) (λ_ R s=>s.heap.get? l=some {cls:=.type "tuple",dict:=dd,data:=.seq items n,slots:=sl} /\
  R (.ok (.ret (AA s.heap.objs.size))) {s with heap:=s.heap.push {cls:=DP "tuple",data:=Data.seq #[]},toks:=s.toks}):=
 .of_wp λp w A R s h=>by
  obtain⟨q,g,d,t,o⟩:=s;obtain⟨a,h⟩:=h;have v:=Ge;have k:¬((decide (x < -(2 ^ 63))||decide (x ≥ 2 ^ 63))=true):=by simp;omega
  have i:¬((items.isEmpty||x == 1)=true):=by simp at b ⊢;exact⟨b,⋯⟩
  have f:((decide (x<=0)||items.isEmpty)=true):=by simp;exact .inl c
  wp_walk using BW a
  rw[if_neg k];refine lp (EC (items:=items) ⟨_,a,rfl,n,rfl⟩ ?_);rw[if_neg i];show wpAny _ _ (if (decide (x<=0)||items.isEmpty)=true then _ else _) _ _ _
  rw[if_pos f];exact lp (m:=Bu _) (Bk (Ae ⟨_,rfl,h⟩))
def OT:R2:=λx y H Q=>∃a k b,x=.c a/\y=.d k/\H a=some (.c b)∧-1000<=k/\k<=1000/\b≠[]/\b.length<=1000/\rm H (Ay k.toNat b).flatten Q
def VR:OpR X (BD .Mult) OT:=by
 intro p s J H x y v u Q I B A h;obtain⟨a,k,K,rfl,rfl,w,V,R,E,P,g⟩:=h;by_cases hk2:2<=k
 . exact VS p s J H _ _ v u Q I B A ⟨a,k,K,rfl,rfl,w,hk2,R,E,P,g⟩
 cases B;obtain⟨t,rfl⟩:=A;obtain⟨i,r,N,_⟩:=I.tuple (.inl (.inl w));obtain⟨⟨Z,l,G,f⟩,d,D,n,C⟩:=id N;simp only at D C;subst D C;by_cases hk1:k=1
 . subst hk1
   refine Df (T:="tuple") (U:="int") (by decide) ⟨_,d,rfl⟩ (λm=>DB m 1 t) x8 E3 Cz uC EH.lookup
    (BO Cz (DB s 1 t) EI (Et _ _) (wd 1 t a i.toArray n l f)
     ⟨d,rfl,⟨_,d,rfl⟩,BO DT ⟨_,d,rfl⟩ FQ (Ft _ _) (gz a i.toArray n t l f) ⟨d,?_⟩⟩)
   refine⟨.c a,H,I,rfl,g a H (xq.refl H) ?_⟩;rw[w];simp
 . have z:¬i.toArray.isEmpty=true:=by simp;intro e;exact E (r.vA.mp e)
   have Y:k.toNat=0:=by omega
   refine Df (T:="tuple") (U:="int") (by decide) ⟨_,d,rfl⟩ (λm=>DB m k t) x8 E3 Cz uC EH.lookup
    (BO Cz (DB s k t) EI (Et _ _) (wd k t a i.toArray n l f)
     ⟨d,rfl,⟨_,d,rfl⟩,BO DT ⟨_,d,rfl⟩ FQ (Ft _ _) (gy a i.toArray n k t l f ⋯ V z) ⟨d,?_⟩⟩)
   rw[Y]at g;refine⟨.c s.heap.objs.size,_,I.laid (t':=s.toks) (o:=.c []) (λb F q=>rg _ q) (Ac _) ⟨Be _,[],.nil,sD.new _ _⟩,rfl,g.new _ (I.j.fresh (Ac _))⟩
noncomputable def gN(a b c:Int):List Int:=(Ai (B8 a b c).toNat).map λ(i:Nat)=>a+(i:Int)*c
end
end L2
end
section
namespace L2
open PySem PyProof PyProof.Rows
section
variable {X:Cx}
theorem rF:∀{xs} {us},Vals xs us->xs.all wG=true->us.countP (eqU x)=xs.countP λy=>eqV y x
 |_,_,.nil,_=>rfl
 |y::ys,u::us,.cons r rs,h=>by rw[B5,cf]at h;rw[DU,DU,rF rs h.2,mS r h.1]
def pX(K:Aa)(b:Bool):V->List V->Hp->VK->Prop:=λx v H Q=>∃t a y,x=.c t/\v=[y]/\(if b=true then SqT K H t a else SqL K H t a)/\wG y=true/\a.all wG=true/\Q (.d (a.countP λz=>eqV z y:Nat)) H
def cZ:MtR X "tuple.count" (pX X.K true):=by
 intro p s D H x G v J Q I l o h;obtain⟨t,E,y,rfl,rfl,j,A,f,q⟩:=h;cases l;obtain⟨u,rfl,m⟩:=vals1 o;obtain⟨i,r,z,_⟩:=I.tuple j;obtain⟨⟨C,B,g,k⟩,a,c,n,b⟩:=id z;simp only at c b;subst c b;refine BO F.slot_tuple_count ⟨_,a,rfl⟩ F.entry_tuple_count (F.args_tuple_count_2 _ _) (SeqAt.tuple_countAt t i.toArray n B k u (eqU y)) ⟨a,λw e=>vT m A r f w (by simpa using e),?_⟩
 rw[show i.toArray.toList=i from rfl,rF r f];exact⟨.d _,H,I.tok _,⟨s.toks,rfl⟩,q⟩
def cY:MtR X "list.count" (pX X.K false):=by
 intro p s D H x G v J Q I l o h;obtain⟨t,E,y,rfl,rfl,j,A,f,q⟩:=h;cases l;obtain⟨u,rfl,m⟩:=vals1 o;obtain⟨i,r,z,_⟩:=I.list j;obtain⟨⟨C,B,g,k⟩,a,c,n,b⟩:=id z.isList;simp only at c b;subst c b;refine BO F.slot_list_count ⟨_,a,rfl⟩ F.entry_list_count (F.args_list_count_2 _ _) (SeqAt.list_countAt t i.toArray n B k u (eqU y)) ⟨a,λw e=>vT m A r f w (by simpa using e),?_⟩
 rw[show i.toArray.toList=i from rfl,rF r f];exact⟨.d _,H,I.tok _,⟨s.toks,rfl⟩,q⟩
noncomputable def ua(d:Int):List Int->Int
 |[]=>d
 |n::ns=>ns.foldl (λa b=>if b<a then b else a) n
theorem qo:∀(ns:List Int) a,ns.foldl (λa b=>if b<a then b else a) a<=a/\(∀x∈ns,ns.foldl (λa b=>if b<a then b else a) a<=x)/\(ns.foldl (λa b=>if b<a then b else a) a=a\/ns.foldl (λa b=>if b<a then b else a) a∈ns)
 |[],a=>⟨Int.le_refl _,λ_ h=>(nomatch h),.inl rfl⟩
 |n::ns,a=>by
  obtain⟨w,y,j⟩:=qo ns (if n<a then n else a)
  show ns.foldl _ (if n<a then n else a)<=a/\_
  have d:(if n<a then n else a)<=a/\(if n<a then n else a)<=n:=by split<;>omega
  refine⟨Gi w d.1,λx c=>?_,?_⟩
  . rcases Al.mp c with e|c
    . rw[e];exact Gi w d.2
    . exact y x c
  . rcases j with j|j
    . show ns.foldl _ (if n<a then n else a)=a\/ns.foldl _ (if n<a then n else a)∈n::ns
      rw[j];split
      . exact .inr (Ar ..)
      . exact .inl rfl
    . exact .inr (Af _ j)
def iy(h:ns≠[]):ua d ns∈ns/\∀x∈ns,ua d ns<=x:=by
 cases ns with
 |nil=>exact absurd rfl h
 |cons n ns=>
  obtain⟨f,c,a⟩:=qo ns n;refine⟨?_,λx b=>?_⟩
  . rcases a with a|a
    . show ns.foldl _ n∈_;rw[a];exact Ar ..
    . exact Af _ a
  . rcases Al.mp b with e|b
    . rw[e];exact f
    . exact c x b
def kg(c:M∈ns)(f:∀x∈ns,M<=x):ua d ns=M:=by
 have h:ns≠[]:=λe=>by rw[e]at c;exact nomatch c
 obtain⟨a,b⟩:=iy (d:=d) h;exact Int.le_antisymm (b _ c) (f _ a)
def Uj(K:Aa)(g:List Int->Int):List V->Hp->VK->Prop:=λx H Q=>∃(a:Addr) (ns:List Int),x=[.c a]/\SqL K H a (ns.map V.d)/\ns≠[]/\Q (.d (g ns)) H
def dW(V:X.j=true):yc X (.builtin "max") (Uj X.K (uG 0)):=by
 intro B s L H M O Q I r h;obtain⟨a,c,rfl,Y,z,q⟩:=h;obtain⟨u,rfl,G⟩:=vals1 r;cases G;obtain⟨f,y,p,U⟩:=I.list Y;have k:=y.length;have m:a<s.heap.objs.size:=by obtain⟨o,g,_⟩:=p.isList;exact Ag g
 have W:f.toArray.size=c.length:=by rw[Ab,<-k,rt]
 have D:0<c.length:=Dw.mpr z;have l:∀(i:Nat) (v:Value),f.toArray[i]?=some v->∃t,v=.int (c.getD i 0) t:=λi v N=>y.ints (by simpa using N)
 refine call_max_walk (Es p.isList ?_);refine⟨s.heap.objs.size,_,_,_,_,_,_,rfl,Walks.list (A:=X.A.in1) (I.C.j V) s.heap.objs.size a (AB m) f.toArray,⟨⟨_,Au _ rfl,rfl,rfl⟩,?_⟩,λb E=>?_,⋯,CmpOf.ints_gt (λi=>c.getD i 0) l,λv h' S Z P=>?_⟩
 . obtain⟨o,g,w,n,T⟩:=p.isList
   exact⟨o,rg _ g,w,n,T⟩
 . rw[Bb]
   simp only[Al,B1,or_false]at E;rcases E with e|e
   . rw[e];exact Dp _
   . rw[e];exact Ca m
 . obtain⟨t,rfl⟩:=l _ _ Z
   obtain⟨b1,F⟩:=argBest_gt (λi=>c.getD i 0) (f.toArray.size-1);have e:uG 0 c=c.getD (argBest (λi j=>decide (c.getD i 0 > c.getD j 0)) (f.toArray.size-1)) 0:=by
    refine ke ?_ λx J=>?_
    . have:argBest (λi j=>decide (c.getD i 0 > c.getD j 0)) (f.toArray.size-1)<c.length:=by omega
      rw[AF,xd this];exact BP this
    . obtain⟨i,R,rfl⟩:=BU J
      have:=F i ⋯
      simpa [AF,xd R] using this
   refine⟨.d (uG 0 c),H,I.kept λb o g=>P b o ?_ (rg _ g),⟨t,by rw[e]⟩,q⟩
   simpa using AB (Ag g)
def dZ(V:X.j=true):yc X (.builtin "min") (Uj X.K (ua 0)):=by
 intro B s L H M O Q I r h;obtain⟨a,c,rfl,Y,z,q⟩:=h;obtain⟨u,rfl,G⟩:=vals1 r;cases G;obtain⟨f,y,p,U⟩:=I.list Y;have k:=y.length;have m:a<s.heap.objs.size:=by obtain⟨o,g,_⟩:=p.isList;exact Ag g
 have W:f.toArray.size=c.length:=by rw[Ab,<-k,rt]
 have D:0<c.length:=Dw.mpr z;have l:∀(i:Nat) (v:Value),f.toArray[i]?=some v->∃t,v=.int (c.getD i 0) t:=λi v N=>y.ints (by simpa using N)
 refine call_min_walk (Es p.isList ?_);refine⟨s.heap.objs.size,_,_,_,_,_,_,rfl,Walks.list (A:=X.A.in1) (I.C.j V) s.heap.objs.size a (AB m) f.toArray,⟨⟨_,Au _ rfl,rfl,rfl⟩,?_⟩,λb E=>?_,⋯,CmpOf.ints_lt (λi=>c.getD i 0) l,λv h' S Z P=>?_⟩
 . obtain⟨o,g,w,n,T⟩:=p.isList
   exact⟨o,rg _ g,w,n,T⟩
 . rw[Bb]
   simp only[Al,B1,or_false]at E;rcases E with e|e
   . rw[e];exact Dp _
   . rw[e];exact Ca m
 . obtain⟨t,rfl⟩:=l _ _ Z
   obtain⟨b1,F⟩:=argBest_lt (λi=>c.getD i 0) (f.toArray.size-1);have e:ua 0 c=c.getD (argBest (λi j=>decide (c.getD i 0<c.getD j 0)) (f.toArray.size-1)) 0:=by
    refine kg ?_ λx J=>?_
    . have:argBest (λi j=>decide (c.getD i 0<c.getD j 0)) (f.toArray.size-1)<c.length:=by omega
      rw[AF,xd this];exact BP this
    . obtain⟨i,R,rfl⟩:=BU J
      have:=F i ⋯
      simpa [AF,xd R] using this
   refine⟨.d (ua 0 c),H,I.kept λb o g=>P b o ?_ (rg _ g),⟨t,by rw[e]⟩,q⟩
   simpa using AB (Ag g)
def bI{o e:Expr}{t i:TE}{b c:Pos}{es:List Expr}(k:PE X o t)(l:PE X e i)(d:B4 o "append" X.a (eval o X.a)=eval o X.a:=by rfl)(f:noStar e=true:=by rfl)(h:(b.endLine == c.line)=true:=by rfl) :
 PE X (.Call (.Attribute o "append" b) [e] [] c) (tBM X.K "list" eY t (xJ i uz)):=by
 have g:Av [e] X.a=(false,eval e X.a)::Av [] X.a:=zd f;refine eO Dx PySem.F.slot_list_append PySem.F.type_list_append nK k (pac l yV f) d ?_ h g rfl;rw[g];rfl
def nO(d:PE X o to)(f:PE X e te)(h:B4 o "count" X.a (eval o X.a)=eval o X.a:=by rfl)(b:noStar e=true:=by rfl)(hline:(apos.endLine == cpos.line)=true:=by rfl) :
 PE X (.Call (.Attribute o "count" apos) [e] [] cpos) (tBM X.K "list" (pX X.K false) to (xJ te uz)):=by
 have c:Av [e] X.a=(false,eval e X.a)::Av [] X.a:=zd b;refine eO Dx PySem.F.slot_list_count PySem.F.type_list_count cY d (pac f yV b) h ?_ hline c rfl;rw[c];rfl
def Na(r:V->List V->Hp->VK->Prop)(f:TE)(t:TA):TE:=λd H Q=>f d H λx A=>(∃a b,x=.c a/\A a=some (.c b))/\t d A λb B=>r x b B Q
def bJ(E:PE X o to)(G:PE X e te)(g:B4 o "count" X.a (eval o X.a)=eval o X.a:=by rfl)(i:noStar e=true:=by rfl)(d:(apos.endLine == cpos.line)=true:=by rfl) :
 PE X (.Call (.Attribute o "count" apos) [e] [] cpos) (Na (pX X.K true) to (xJ te uz)):=by
 have k:Av [e] X.a=(false,eval e X.a)::Av [] X.a:=zd i;intro p s l H Q I h;refine wpAny_Call_method_late g (by rw[k];rfl) d rfl (thn (E p s l H _ I h) λv m ⟨x,H1,I1,r1,ty,q1⟩=>?_)
 obtain⟨a,u,rfl,D⟩:=ty;cases r1;obtain⟨z,C,P,q,t,N,n,R,B⟩:=(show yA X.f X.w H1 m.heap a (.c u) from I1.j a _ D);refine⟨"tuple",_,PySem.F.plainAttrs_tuple,PySem.F.slot_tuple_count,PySem.F.type_tuple_count,⟨q,t,N⟩,λb J=>?_,?_⟩
 . cases J;exact⟨q,t,B⟩
 have r:=(pac G yV i:PA X [e] _) cpos p m l H1 _ I1 q1;rw[k]at r ⊢;refine Ez rfl (De ?_);exact thn r λy A ⟨vs,H2,I2,r2,q2⟩=>cZ p A l H2 (.c a) vs _ y Q I2 rfl r2 q2
end
end L2
namespace L2
open PySem
end L2
end
section
namespace L2
open PySem PySem.W PySem.Calls PyProof PyProof.Rows
noncomputable def UH(z:Int × Int):Int:=z.1*1000+z.2
noncomputable def oQ:List Int->List Int->Bool
 |x::xs,y::ys=>if x=y then oQ xs ys else decide (x<y)
 |_,_=>false
noncomputable def PX:List Int->List Int->Bool
 |x::xs,y::ys=>if x=y then PX xs ys else decide (x<y)
 |[],_::_=>true
 |_,[]=>false
def Q8(z:List Int):List (List Int)->List (List Int)
 |[]=>[z]
 |y::ys=>if PX y z then y::Q8 z ys else z::y::ys
def Xa:List (List Int)->List (List Int)
 |[]=>[]
 |z::zs=>Q8 z (Xa zs)
end L2
end
section
namespace L2
open PySem PyProof.Rows
def Y5(m:X.j=true)(S:zw X N csc fr)(s:PI X tg iter wi)(t:∀C e F w,PG (X.comp N csc C e F w) tg g)(q:∀C e F w,PTs (X.comp N csc C e F w) ifs ts)
 (k:∀C e F w,PI (X.comp N csc C e F w) tg2 iter2 wi2) (l:∀C e F w,PG (X.comp N csc C e F w) tg2 g2) (h:∀C e F w,PTs (X.comp N csc C e F w) ifs2 ts2)
 (v:∀C e F w,PE (X.comp N csc C e F w) elt te) (z:X.N.Nodup) (o:X.N[i]?=some y) (p:Loc X.a.scope y)
 (d:D9 (.ListComp elt [⟨tg,iter,ifs,0⟩,⟨tg2,iter2,ifs2,0⟩] csc cpos) (some (.Name y py)) spos.line X.a=pure true:=by rfl)
 (u:X.n y=true\/X.a.scope.names.lookup y=some .local:=by first|exact .inl rfl|exact .inr rfl|assumption)
 (r:∀x,A9 iter X.a x=pure x:=by intro _;rfl)
 (f:∀b x,A9 iter2 b x=pure x:=by intro _ _;rfl) :
 PS X (.Assign [.Name y py] (.ListComp elt [⟨tg,iter,ifs,0⟩,⟨tg2,iter2,ifs2,0⟩] csc cpos) spos) (tu (ud fr wi g ts λc=>pz wi2 g2 ts2 (qC c te)) (wH i)):=
 jD m S s (B:=λc b=>(do
        let x <-eval iter2 b
        standAt iter2.pos
        let x <-A9 iter2 b x;let _ <-runOwn (.compStart (.ListComp elt [⟨tg,iter,ifs,0⟩,⟨tg2,iter2,ifs2,0⟩] csc cpos) 1 (<-holding [x] (pyIter x)) c b) b)) (Uv elt tg iter ifs tg2 iter2 ifs2 csc cpos) t q
  (λC e F w c=>ku rfl m (k C e F w) (l C e F w) (h C e F w) (qS (v C e F w)) (f _)) z o p d u r
end L2
end
section
namespace L2
open PySem PySem.Calls PyProof PyProof.Rows
open AutoSeq1 (wpAny_loadPart')
def qI(h:s.heap.IsTupleIter it t i)(g:s.heap.IsTuple t items)(f:items[i]?=some x)
 (l:∀e,e.IsTupleIter it t (i+1)->D8 it s.heap e->Q x {s with heap:=e}):wpAny (model prog w) A (Dg (.ref it)) Q E s:=by
 obtain⟨o,b,k,a⟩:=id h;obtain⟨m,c,_,n,d⟩:=g;unfold Dg;refine lp (CH (name:=DJ "__next__") h.typeIs CZ
  (DR CZ h.typeIs Fu ?_ (Fm _)))
 show wpAny _ _ (field (.ref it) 0 >>= _) _ _ s;refine lp (Bx b a (x:=.ref t) rfl ?_);show wpAny _ _ (if (AA t == AY)=true then _ else _) _ _ s
 rw[if_neg (show ¬((AA t == AY)=true) from Aj)];show wpAny _ _ (field (.ref it) 1 >>= _) _ _ s;refine lp (Bx b a (x:=.int i 0) rfl ?_);show wpAny _ _ (seqItems? (.ref t) >>= _) _ _ s;refine lp (wpAny_seqItems c d ?_);simp only[CD,f];refine lp (Ct b a (by simp) (Ae ⟨x,rfl,Ae (l _ ?_ (D8.update ..))⟩))
 exact⟨_,Bw _ b (CT (B2 a _)),(FR ..).trans k,by
  rw[B2 a];simp[rawInt]⟩
def pM(g:A.handled=none)(h:s.heap.IsTupleIter it t i)(l:s.heap.IsTuple t items)(k:items[i]?=none)
 (n:∀j e,Heap.ExtBut it s.heap j->(∃o,j.get? e=some o/\o.cls=.type "StopIteration")->E (.ref e) {s with heap:=j}):wpAny (model prog w) A (Dg (.ref it)) Q E s:=by
 obtain⟨o,b,r,c⟩:=id h;obtain⟨p,d,_,q,f⟩:=l;unfold Dg;refine lp (CH (name:=DJ "__next__") h.typeIs CZ
  (DR CZ h.typeIs Fu ?_ (Fm _)))
 show wpAny _ _ (field (.ref it) 0 >>= _) _ _ s;refine lp (Bx b c (x:=.ref t) rfl ?_);show wpAny _ _ (if (AA t == AY)=true then _ else _) _ _ s
 rw[if_neg (show ¬((AA t == AY)=true) from Aj)];show wpAny _ _ (field (.ref it) 1 >>= _) _ _ s;refine lp (Bx b c (x:=.int i 0) rfl ?_);show wpAny _ _ (seqItems? (.ref t) >>= _) _ _ s;refine lp (wpAny_seqItems d f ?_);simp only[CD,k]
 first
  |refine lp (FZ (lp (Ct b c (by simp) ?_)))
  |refine lp (Ct b c (by simp) ?_)
 first
  |show wpAny _ _ (newExc (.type "StopIteration") [] >>= _) _ _ _
  |(refine lp (wpAny_letGo ?_);show wpAny _ _ (newExc (.type "StopIteration") [] >>= _) _ _ _)
 refine lp ?_;simp only[newExc,newTuple];refine lp (Bk ?_ (by size_fits))
 refine lp (m:=firstArgMember _ _) (GL (a:=AY) (by first|rfl|(simp only[firstArgMember];rfl)) ?_)
 refine Bk ?_ (by size_fits)
 simp only[raiseNew];refine lp (wpAny_handled ?_)
 first|rw[show A.in1.handled=none from g]|rw[g]
 refine lp (Ae (wpAny_throw ?_));exact n _ _ (((D8.update ..).extBut.push _).push _) ⟨_,Au _ rfl,rfl⟩
def nA(l:A.handled=none)it t(f:t≠it)items :
 Draws prog w A it [it,t] items.size (λi v=>items[i]?=some v) (λi h=>h.IsTupleIter it t i/\h.IsTuple t items) where
 live:=λ_ _ a=>let ⟨o,c,_⟩:=a.1;⟨o,c⟩
 frame:=λ_ _ _ a g=>⟨a.1.at λo e=>g it (by simp) o e,let ⟨o,c,r⟩:=a.2;⟨o,g t (by simp) o c,r⟩⟩
 item:=λi s Q E k a m=>by
  refine qI a.1 a.2 (x:=items[i]) (by simp[k]) λp d b=>?_
  exact m _ p s.toks (by simp[k]) ⟨d,let ⟨o,c,r⟩:=a.2;⟨o,b.extBut t o f c,r⟩⟩ b
 done:=λs Q E a n=>pM l a.1 a.2 (by simp) n
def pJ l items n dct sl :
 Meets (Builtin.«enumerate.__new__» ⟨[.type "enumerate",.ref l],[]⟩) (λ_ R s=>s.heap.get? l=some {cls:=.type "tuple",dict:=dct,data:=.seq items n,slots:=sl} /\
  R (.ok (.ret (.ref (s.heap.push {cls:=.type "tuple_iterator",data:=.fields #[.ref l,.int 0 0]}).objs.size)))
    {s with heap:=(s.heap.push {cls:=.type "tuple_iterator",data:=.fields #[.ref l,.int 0 0]}).push {cls:=.type "enumerate",data:=.fields #[.none,.bool false,.ref s.heap.objs.size,rawInt 0,.none,.none]}}):=
 .of_wp λp w A R s h=>by
  obtain⟨i,g,d,t,o⟩:=s;obtain⟨a,h⟩:=h;have f:=sub_enumerate;have b:Heap.IsTuple (Shared.heap ⟨i,g,d,t,o⟩) l items:=⟨_,a,rfl,n,rfl⟩
  wp_walk using BW a
  refine wpAny_stack_any λk=>Ae ?_;split
  . rename_i c _ _ _ _ _
    cases (c == DP "enumerate")
    . wp_walk using BW a,Cp b
      exact⟨_,rfl,h⟩
    . wp_walk using BW a,Cp b
      exact⟨_,rfl,h⟩
  . wp_walk using BW a,Cp b
    exact⟨_,rfl,h⟩
def oO(q:s.heap.IsTuple l items)
 (h:∀e,IsEnum e (s.heap.objs.size+1) s.heap.objs.size 0 .none->e.IsTupleIter s.heap.objs.size l 0->e.objs.size=s.heap.objs.size+2 ->
  (∀b o,s.heap.get? b=some o->e.get? b=some o)->Q (.ref (s.heap.objs.size+1)) {s with heap:=e}) :
 wpAny (model prog w) A (call (.type "enumerate") [.ref l]) Q E s:=by
 obtain⟨⟨c,i,r,m⟩,p,g,n,f⟩:=q;replace g:c=.type "tuple":=g;replace f:r=.seq items n:=f;subst g f;refine callType_new F.called_enumerate (by decide) (F.typeCall_enumerate_1 _) (F.newCall_enumerate_1 _) (λa=>F.args_object_init_2 a _) F.entry_enumerate_new
  (pJ l items n i m) ⟨p,?_⟩
 have d:(s.heap.push {cls:=.type "tuple_iterator",data:=.fields #[.ref l,.int 0 0]}).objs.size=s.heap.objs.size+1:=Bb ..;show _/\_;rw[d];have k:IsEnum ((s.heap.push {cls:=.type "tuple_iterator",data:=.fields #[.ref l,.int 0 0]}).push
  {cls:=.type "enumerate",data:=.fields #[.none,.bool false,.ref s.heap.objs.size,rawInt 0,.none,.none]}) (s.heap.objs.size+1) s.heap.objs.size 0 .none:=by
  have:=Au (s.heap.push {cls:=.type "tuple_iterator",data:=.fields #[.ref l,.int 0 0]})
   (o:={cls:=.type "enumerate",data:=.fields #[.none,.bool false,.ref s.heap.objs.size,rawInt 0,.none,.none]}) rfl
  rw[d]at this;exact this
 refine⟨⟨_,k,rfl⟩,h _ k ⟨_,rg _ (Au _ rfl),rfl,rfl⟩ (by rw[Bb,d]) λb o x=>rg _ (rg _ x)⟩
end L2
end
section
namespace L2
open PySem PySem.Calls PyProof PyProof.Rows
def Ite(K:Aa)(a:Addr):It:=
 ⟨λi H=>∃b x,SqT K H a b/\b[i]?=some x,λi H x A=>∃t y,H t=none/\x=.c t/\(∀b,SqT K H a b->b[i]?=some y)/\A=upd H t (.c [.d (i:Nat),y]),λi H=>∃b,SqT K H a b/\b.length=i⟩
def Inv.dF(I:Inv X pins σ H s)(P:uO X pins H e)(N:uO X pins H it)
 (k:∀b o,b≠e->b≠it->s.heap.get? b=some o->h'.get? b=some o) (t:s.heap.objs.size<=T) (G:ys.length<=Ao) (r:Vals ys its) (l:h'.get? T=some {cls:=.type "tuple",data:=.seq its.toArray n}) :
 Inv X pins σ (upd H T (.c ys)) {s with heap:=h',toks:=t'}:=by
 obtain⟨F,x,O,Z,Y,V⟩:=P;obtain⟨E,p,M,C,B,A⟩:=N;have J:H T=none:=I.j.fresh t;have a:∀b u,H b=some u->b≠T:=λb u q z=>by rw[z,J]at q;cases q
 have i:∀b u,H b=some u->b≠e:=λb u q z=>by rw[z,F]at q;cases q
 have g:∀b u,H b=some u->b≠it:=λb u q z=>by rw[z,E]at q;cases q
 have f:∀b o,s.heap.get? b=some o->b≠T:=λb o q z=>absurd (Aw (Ag q) t) (by rw[z];exact Bj _)
 refine I.step (g':=s.gens) (d':=s.drawn) (ch:=[e,it]) (λb d=>?_) (λb o _ _ h q _=>k b o (λz=>h (by simp[z])) (λz=>h (by simp[z])) q) (λb o _ _ h q _=>⟨o.slots,k b o (λz=>h (by simp[z])) (λz=>h (by simp[z])) q⟩)
  (λb o _ q m=>by rw[zG (f b o q)];exact m) (λb o h q=>⟨o,k b o (λz=>h (by simp[z])) (λz=>h (by simp[z])) q⟩) (λb y q=>by rw[zG (a b _ q)];exact q) (λb o u q=>by rw[zG (a b _ q)];exact q)
  (λb L q=>⟨#[],by rw[zG (a b _ q),q];simp⟩) (λm K=>?_) (λb u q=>?_) I.D
 . rcases Al.mp d with z|d
   . subst z;exact⟨Z,x,Y,V⟩
   . have z:=Ap.mp d
     subst z;exact⟨C,p,B,A⟩
 . obtain⟨o,Q,R,l,r⟩:=K
   exact⟨o,Q,R,k _ o (Bh x) (Bh p) l,r⟩
 . by_cases d:b=T
   . subst d
     rw[zJ]at q;cases q;exact⟨G,its,r,_,l,rfl,n,rfl,rfl⟩
   . rw[zG d]at q
     refine(I.j b u q).pq (λc v h w=>k c v ?_ ?_ w) (λc h=>by rw[zG (a c _ h)];exact h) λc y h=>by rw[zG (a c _ h)];exact h
     . rcases h with z|z
       . rw[z];exact i b u q
       . exact i c _ z
     . rcases h with z|z
       . rw[z];exact g b u q
       . exact g c _ z
def Inv.dE(I:Inv X pins σ H s)(g:uO X pins H it)(k:∀b o,b≠it->s.heap.get? b=some o->h'.get? b=some o):Inv X pins σ H {s with heap:=h',toks:=t'}:=by obtain⟨f,d,h,c,a,i⟩:=g;exact I.turned k f d c a i
def bj{K}a e it(N:e≠it):Turn P w K (.Tuple elts x1 pos) (Ite K a) [e,it] e (λi h=>(∃F,IsEnum h e it (i:Nat) F)/\h.IsTupleIter it a i) where
 g:=by simp
 c:=λi h B b G=>by
  rcases Al.mp G with z|G
  . subst z
    obtain⟨F,t⟩:=B.1;exact⟨_,t,λv z=>by cases (show GK _=Data.cell v from z)⟩
  . have z:=Ap.mp G
    subst z;obtain⟨o,q,c,d⟩:=B.2;exact⟨o,q,λv z=>by rw[d]at z;cases z⟩
 a:=λi h h' B k=>⟨let ⟨F,t⟩:=B.1;⟨F,k e (by simp) _ t⟩,B.2.at λo q=>k it (by simp) o q⟩
 e:=by
  intro X J hw hK hc i V s σ H E I Z B hg;subst J hw hK;obtain⟨xs,x,U,S⟩:=hg;obtain⟨⟨F,t⟩,r⟩:=B;obtain⟨l,O,p,hz⟩:=I.tuple U;obtain⟨u,hu,ru⟩:=O.get S;have Y:=O.length;have hi:i<xs.length:=(Ax.mp S).1;have Q:a≠it:=λz=>by obtain⟨o1,q1,R,_⟩:=id p;obtain⟨o2,q2,c2,_⟩:=id r;rw[z,q2]at q1;cases q1;rw[c2]at R;exact absurd (DL R) (by decide)
  have hae:a≠e:=λz=>by obtain⟨o1,q1,R,_⟩:=id p;have he':s.heap.get? e=_:=t;rw[z,he']at q1;cases q1;exact absurd (DL R) (by decide)
  have D:=nA (prog:=X.f) (w:=X.w) (A:=X.A.in1) (I.C.j hc) it a Q l.toArray;refine Gs D t ⟨r,p⟩ (by rw[Ab];omega) N (λm=>?_) λv h1 M J ho hs1 hT hsz hk=>?_
  . rcases Al.mp m with z|m
    . exact N z
    . exact hae (Ap.mp m).symm
  . have J:l.toArray[i]?=some v:=J
    have ev:v=u:=by rw[EO,hu]at J;exact(AQ J).symm
    subst ev;refine⟨_,rfl,FI (s:={s with heap:=h1,toks:=M+1}) ho λh2 he2 W=>?_⟩
    have sz:s.heap.objs.size≠e:=Cv (Ag t);refine⟨.c s.heap.objs.size,_,Inv.dF (s:=s) (h':=h2) (t':=M+1) (T:=s.heap.objs.size) (ys:=[.d (i:Nat),x]) (its:=[.int (i:Nat) M,v]) (n:=0) I (Z e (by simp)) (Z it (by simp)) (λb o L h2' q=>(W.2 b L).trans (hk b o L h2' q)) (Ac _) (by rw[AL];show 2<=_;decide) (.cons ⟨M,rfl⟩ (.cons ru .nil)) ((W.2 _ sz).trans hT),rfl,
     ⟨s.heap.objs.size,x,I.j.fresh (Ac _),rfl,λys hy=>by rw[I.ni hy U];exact S,rfl⟩,⟨⟨v,by simpa using he2⟩,hs1.1.at λo q=>(W.2 it (Bh N)).trans q⟩,λb G=>?_⟩
    rw[zG (λz=>?_)]
    . exact(Z b G).1
    . have hlt:b<s.heap.objs.size:=by
       rcases Al.mp G with y|G
       . rw[y];exact Ag t
       . rw[Ap.mp G];obtain⟨o,q,_⟩:=r;exact Ag q
      exact absurd z (AB hlt)
 d:=by
  intro X J hw hK hc i V s σ H E I Z B hg;subst J hw hK;obtain⟨xs,U,S⟩:=hg;obtain⟨⟨F,t⟩,r⟩:=B;obtain⟨l,O,p,hz⟩:=I.tuple U;have Y:=O.length;have Q:a≠it:=λz=>by obtain⟨o1,q1,R,_⟩:=id p;obtain⟨o2,q2,c2,_⟩:=id r;rw[z,q2]at q1;cases q1;rw[c2]at R;exact absurd (DL R) (by decide)
  have D:=nA (prog:=X.f) (w:=X.w) (A:=X.A.in1) (I.C.j hc) it a Q l.toArray;have en:l.toArray.size=i:=by rw[Ab];omega
  exact wpAny_pyNext_enum_endD D t ⟨by rw[en];exact r,p⟩ λh' eb=>⟨rfl,I.dE (t':=s.toks) (Z it (by simp)) λb o G q=>eb b o G q⟩
 f:=λ_ _ _ _ _ B h=>let ⟨F,t⟩:=B.1;Eu t h
def Uy(K:Aa)(a:Addr):It:=
 ⟨λi H=>∃b x,SqL K H a b/\b[i]?=some x,λi H x A=>∃t y,H t=none/\x=.c t/\(∀b,SqL K H a b->b[i]?=some y)/\A=upd H t (.c [.d (i:Nat),y]),λi H=>∃b,SqL K H a b/\b.length=i⟩
def g7{K}a e it(N:e≠it):Turn P w K (.Tuple elts x1 pos) (Uy K a) [e,it] e (λi h=>(∃F,IsEnum h e it (i:Nat) F)/\h.IsListIter it a i) where
 g:=by simp
 c:=λi h B b G=>by
  rcases Al.mp G with z|G
  . subst z
    obtain⟨F,t⟩:=B.1;exact⟨_,t,λv z=>by cases (show GK _=Data.cell v from z)⟩
  . have z:=Ap.mp G
    subst z;obtain⟨o,q,c,d⟩:=B.2;exact⟨o,q,λv z=>by rw[d]at z;cases z⟩
 a:=λi h h' B k=>⟨let ⟨F,t⟩:=B.1;⟨F,k e (by simp) _ t⟩,B.2.at λo q=>k it (by simp) o q⟩
 e:=by
  intro X J hw hK hc i V s σ H E I Z B hg;subst J hw hK;obtain⟨xs,x,U,S⟩:=hg;obtain⟨⟨F,t⟩,r⟩:=B;obtain⟨l,O,p0,hz⟩:=I.list U;have p:=p0.isList;obtain⟨u,hu,ru⟩:=O.get S;have Y:=O.length;have hi:i<xs.length:=(Ax.mp S).1;have Q:a≠it:=λz=>by obtain⟨o1,q1,R,_⟩:=id p;obtain⟨o2,q2,c2,_⟩:=id r;rw[z,q2]at q1;cases q1;rw[c2]at R;exact absurd (DL R) (by decide)
  have hae:a≠e:=λz=>by obtain⟨o1,q1,R,_⟩:=id p;have he':s.heap.get? e=_:=t;rw[z,he']at q1;cases q1;exact absurd (DL R) (by decide)
  have D:=Draws.list (prog:=X.f) (w:=X.w) (A:=X.A.in1) (I.C.j hc) it a Q l.toArray;refine Gs D t ⟨r,p⟩ (by rw[Ab];omega) N (λm=>?_) λv h1 M J ho hs1 hT hsz hk=>?_
  . rcases Al.mp m with z|m
    . exact N z
    . exact hae (Ap.mp m).symm
  . have J:l.toArray[i]?=some v:=J
    have ev:v=u:=by rw[EO,hu]at J;exact(AQ J).symm
    subst ev;refine⟨_,rfl,FI (s:={s with heap:=h1,toks:=M+1}) ho λh2 he2 W=>?_⟩
    have sz:s.heap.objs.size≠e:=Cv (Ag t);refine⟨.c s.heap.objs.size,_,Inv.dF (s:=s) (h':=h2) (t':=M+1) (T:=s.heap.objs.size) (ys:=[.d (i:Nat),x]) (its:=[.int (i:Nat) M,v]) (n:=0) I (Z e (by simp)) (Z it (by simp)) (λb o L h2' q=>(W.2 b L).trans (hk b o L h2' q)) (Ac _) (by rw[AL];show 2<=_;decide) (.cons ⟨M,rfl⟩ (.cons ru .nil)) ((W.2 _ sz).trans hT),rfl,
     ⟨s.heap.objs.size,x,I.j.fresh (Ac _),rfl,λys hy=>by rw[I.kY hy U];exact S,rfl⟩,⟨⟨v,by simpa using he2⟩,hs1.1.at λo q=>(W.2 it (Bh N)).trans q⟩,λb G=>?_⟩
    rw[zG (λz=>?_)]
    . exact(Z b G).1
    . have hlt:b<s.heap.objs.size:=by
       rcases Al.mp G with y|G
       . rw[y];exact Ag t
       . rw[Ap.mp G];obtain⟨o,q,_⟩:=r;exact Ag q
      exact absurd z (AB hlt)
 d:=by
  intro X J hw hK hc i V s σ H E I Z B hg;subst J hw hK;obtain⟨xs,U,S⟩:=hg;obtain⟨⟨F,t⟩,r⟩:=B;obtain⟨l,O,p0,hz⟩:=I.list U;have p:=p0.isList;have Y:=O.length;have Q:a≠it:=λz=>by obtain⟨o1,q1,R,_⟩:=id p;obtain⟨o2,q2,c2,_⟩:=id r;rw[z,q2]at q1;cases q1;rw[c2]at R;exact absurd (DL R) (by decide)
  have D:=Draws.list (prog:=X.f) (w:=X.w) (A:=X.A.in1) (I.C.j hc) it a Q l.toArray;have en:l.toArray.size=i:=by rw[Ab];omega
  exact wpAny_pyNext_enum_endD D t ⟨by rw[en];exact r,p⟩ λh' eb=>⟨rfl,I.dE (t':=s.toks) (Z it (by simp)) λb o G q=>eb b o G q⟩
 f:=λ_ _ _ _ _ B h=>let ⟨F,t⟩:=B.1;Eu t h
def Q3(K:Aa)(t:TA):TI:=λb H R=>t b H λv A=>∃a,v=[.c a]/\(((∃x,SqT K A a x)/\R (Ite K a) A)\/((∃x,SqL K A a x)/\R (Uy K a) A))
def Vf(Q:Gl X "enumerate")(P:X.d "enumerate"=none)(T:PA X [a] ta)(N:Av [a] X.a=[(false,eval a X.a)]:=by rfl):PI X (.Tuple elts x1 tpos) (.Call (.Name "enumerate" p) [a] [] pos) (Q3 X.K ta):=by
 intro g s w H R I h;refine Call_ (tY I Q P boot_enumerate (CM (thn (T pos g s w H _ I h) λZ f y=>?_) N rfl));obtain⟨Y,B,A,G,q1⟩:=y;obtain⟨c,e,q⟩:=q1;subst e;cases G with
 |cons r E=>
  cases E;cases r;have x:∀b∈[f.heap.objs.size+1,f.heap.objs.size],uO X g B b:=λb v=>by
   have m:f.heap.objs.size<=b:=by
    rcases Al.mp v with z|v
    . rw[z];exact CL _
    . rw[Ap.mp v];exact Ac _
   exact A.Wf m (A.j.fresh m)
  rcases q with⟨⟨C,t⟩,q⟩|⟨⟨C,t⟩,q⟩
  . obtain⟨k,D,n,J⟩:=A.tuple t
    refine oO (show f.heap.IsTuple c k.toArray from n) λV l i o u=>Eu l ?_;exact⟨f.heap.objs.size+1,[f.heap.objs.size+1,f.heap.objs.size],_,_,B,rfl,A.kept (t':=f.toks) u,bj c _ _ (Nat.succ_ne_self _),⟨⟨_,l⟩,i⟩,x,q⟩
  . obtain⟨k,D,n,J⟩:=A.list t
    refine call_enumerate_list n.isList λV l i o u=>Eu l ?_;exact⟨f.heap.objs.size+1,[f.heap.objs.size+1,f.heap.objs.size],_,_,B,rfl,A.kept (t':=f.toks) u,g7 c _ _ (Nat.succ_ne_self _),⟨⟨_,l⟩,i⟩,x,q⟩
end L2
end
section
namespace L2
open PySem PyProof.Rows
section
variable {X:Cx}{a b:Expr}{rest:List Expr}{ta tb:TE}{pos:Pos}
def Nc(K:Aa)(ta tb:TE):TE:=λa H Q=>ta a H λx A=>∃c,X8 K x A c/\if c=true then Q x A else tb a A Q
def Ri(m:PE X a ta)(l:PE X (.BoolOp .Or (b::rest) pos) tb):PE X (.BoolOp .Or (a::b::rest) pos) (Nc X.K ta tb):=by
 intro p s d H Q I h;refine BoolOp_or (thn (m p s d H _ I h) λv g z=>?_);obtain⟨x,D,C,r,c,i,q1⟩:=z;refine thn (Xn p g d D x v (λk A=>if k=true then Q x A else tb d A Q) C r ⟨c,i,q1⟩) λk f z=>?_
 obtain⟨A,B,q⟩:=z;cases k with
 |false=>exact l p f d A Q B q
 |true=>exact⟨x,A,B,r,q⟩
end
noncomputable def uV(n:Nat)(l h:Option Int)(c:Int):Int × Nat:=((By l h (some c) n).1,(if c > 0 then (if (By l h (some c) n).1<(By l h (some c) n).2.1 then ((By l h (some c) n).2.1-(By l h (some c) n).1+c-1)/c else 0) else (if (By l h (some c) n).1 > (By l h (some c) n).2.1 then ((By l h (some c) n).1-(By l h (some c) n).2.1-c-1)/(-c) else 0):Int).toNat)
def ue its lo hi c:Hg its.toArray lo hi (some c)=(yC its (uV its.length lo hi c).1 c (uV its.length lo hi c).2).toArray:=by unfold Hg sliceRange yC uV;rw[Cr];refine congrArg List.toArray ?_;have e:(By lo hi (some c) its.toArray.size).2.2=c:=rfl;rw[e];simp only[Ab];refine congrArg (λf=>List.filterMap f _) ?_;funext k;show its.toArray[_]?=_;rw[EO,Int.mul_comm]
def OU(K:Aa):V->Option Int->Option Int->Option Int->Hp->VK->Prop:=λx l h s H Q=>∃a d c,x=.c a/\SqL K H a d/\s=some c/\c≠0/\∀p,H p=none->Q (.c p) (upd H p (.b (yC d (uV d.length l h c).1 c (uV d.length l h c).2)))
def gE{lo hi}{st}(W:PE X e te)(U:PO X lo tl)(S:PO X hi th)(hc:PO X (some st) tc):PE X (.Subscript e (.Slice lo hi (some st) p2) pos) (Ow (OU X.K) te tl th tc):=by
 intro p s y H Q I h;refine G2 (thn (W p s y H _ I h) λv V B=>?_);obtain⟨x,H1,I1,Y,q1⟩:=B;refine wpAny_Slice (thn (U p V y H1 _ I1 q1) λG T ⟨l,H2,I2,pl,q2⟩=>thn (S p T y H2 _ I2 q2) λE R ⟨u,H3,I3,pu,q3⟩=>thn (hc p R y H3 _ I3 q3) λJ m B=>?_);obtain⟨c,H4,I4,F,Z⟩:=B;obtain⟨a,k,d,rfl,O,ec,h0,g⟩:=Z;subst ec;cases Y;have D:Inv X p y H4 {m with heap:=m.heap.push {cls:=.type "slice",data:=.fields #[G,E,J]}}:=I4.kept (t':=m.toks) λb L q=>rg _ q
 obtain⟨C,r,P,M⟩:=D.list O;have n:=r.length;show wpAny (model X.f X.w) X.A (FF e (.Slice lo hi (some st) p2) (.ref a) (.ref m.heap.objs.size)) (EP X p y Q) X.i {m with heap:=m.heap.push {cls:=.type "slice",data:=.fields #[G,E,J]}}
 refine tail_any (ops:=[.ref a,.ref m.heap.objs.size]) P.isList.typeIs FN.lookup (F7 P.isList (Fs ..) pl pu F (λz=>h0 (AQ z)) ?_ (by rw[Ab]<;>omega)) (by with_unfolding_all rfl)
 rw[ue,<-n];refine⟨.c _,_,D.laid (t':=m.toks) (o:=.b (yC k (uV k.length l u d).1 d (uV k.length l u d).2)) (λb L q=>rg _ q) (Ac _) ?_,rfl,g _ (D.j.fresh (Ac _))⟩;have N:=r.yC (uV k.length l u d).1 d (uV k.length l u d).2;have t:(yC k (uV k.length l u d).1 d (uV k.length l u d).2).length<=k.length:=by have:=slicePick_size_le C.toArray l u (some d);rw[ue,Ab,Ab,<-n,<-N.length]at this;exact this
 exact⟨Aq t M,_,0,N,Au _ rfl⟩
end L2
end
section
namespace L2
open PySem PyProof PyProof.Rows
section
variable {X:Cx}
noncomputable def PR(z:Str)(y:List Str):Str:=Txt.join z y
end
end L2
end
section
namespace L2
open PySem PySem.Spec PyProof PyProof.Rows
def ki:El (.type "tuple") (dunderI "add")=(pure none:Sem (Option Value)):=rfl
section
variable {X:Cx}
def d6:OpR X (Ea .Add) Uk:=by
 intro N s σ H x y v u Q I S O h;obtain⟨a,b,K,J,rfl,rfl,Z,Y,P,g⟩:=h;cases S;cases O;obtain⟨d,w,W,_⟩:=I.tuple (.inl (.inl Z));obtain⟨i,r,U,_⟩:=I.tuple (.inl (.inl Y));obtain⟨⟨cls,E,F,B⟩,A,V,n,T⟩:=id W;obtain⟨⟨L,l,G,k⟩,f,p,C,m⟩:=id U;simp only at V T p m;subst V T p m;have e:d.toArray++i.toArray=(d++i).toArray:=by simp
 have t:s.TypeIs (.ref a) "tuple":=⟨_,A,rfl⟩;have M:s.TypeIs (.ref b) "tuple":=⟨_,f,rfl⟩;refine inplaceOp_concat t M ki EG FE ?_;by_cases hx:K=[]
 . subst hx
   cases w;exact BO Cf t B9 (B0 _ _) (tuple_addW0 a b #[] i.toArray n C E l B k rfl) ⟨A,f,⟨.c b,H,I,rfl,g b H (xq.refl H) Y⟩⟩
 . have R:d≠[]:=λz=>hx (w.vA.mp z)
   by_cases hy:J=[]
   . have D:i=[]:=r.vA.mpr hy
     subst hy;rw[AJ]at g;exact BO Cf t B9 (B0 _ _) (tuple_addW1 a b d.toArray i.toArray n C E l B k (by simpa using R) (by simp[D])) ⟨A,f,⟨.c a,H,I,rfl,g a H (xq.refl H) Z⟩⟩
   . have D:i≠[]:=λz=>hy (r.vA.mp z)
     refine BO Cf t B9 (B0 _ _) (tuple_addW2 a b d.toArray i.toArray n C E l B k (by simpa using R) (by simpa using D) (by rw[Ab,Ab,<-w.length,<-r.length];exact P)) ⟨A,f,?_⟩
     rw[e];refine⟨.c s.heap.objs.size,_,I.laid (t':=s.toks) (o:=.c (K++J)) (λb ob q=>rg _ q) (Ac _) ?_,rfl,g.new _ (I.j.fresh (Ac _))⟩;exact⟨by rw[Ah];exact P,_,w.append r,sD.new _ _⟩
noncomputable def Ol(a:List Int):Bool:=decide (a.length<=1000)&&a.all λn=>decide (-1000000<=n)&&decide (n<=1000000)
end
end L2
end
section
namespace L2
open PySem PySem.W PySem.Calls PyProof PyProof.Rows
open AutoSeq1 (wpAny_loadPart')
open SeqAt
theorem ZN:∀{xs} {us},Vals xs us->xs.all wG=true->us.map (eqU x)=xs.map λy=>eqV y x
 |_,_,.nil,_=>rfl
 |y::ys,u::us,.cons r rs,h=>by rw[B5,cf]at h;rw[AE,AE,ZN rs h.2,mS r h.1]
theorem qy:∀{ns} {us},Vals (ns.map V.d) us->IntsAre us ns
 |[],_,.nil=>.nil
 |n::ns,_,.cons ⟨t,e⟩ r=>by subst e;exact .cons _ _ (qy r)
section
variable {X:Cx}
def Y8(K:Aa)(g:List Int->Int):List V->Hp->VK->Prop:=λx H Q=>∃(a:Addr) (ns:List Int),x=[.c a]/\SqT K H a (ns.map V.d)/\ns≠[]/\Q (.d (g ns)) H
def dX(V:X.j=true):yc X (.builtin "max") (Y8 X.K (uG 0)):=by
 intro B s L H M O Q I r h;obtain⟨a,c,rfl,Y,z,q⟩:=h;obtain⟨u,rfl,G⟩:=vals1 r;cases G;obtain⟨f,y,p,U⟩:=I.tuple Y;have k:=y.length;have m:a<s.heap.objs.size:=by obtain⟨o,g,_⟩:=id p;exact Ag g
 have W:f.toArray.size=c.length:=by rw[Ab,<-k,rt]
 have D:0<c.length:=Dw.mpr z;have l:∀(i:Nat) (v:Value),f.toArray[i]?=some v->∃t,v=.int (c.getD i 0) t:=λi v N=>y.ints (by simpa using N)
 refine call_max_walk (Cp p ?_);refine⟨s.heap.objs.size,_,_,_,_,_,_,rfl,Walks.tuple (A:=X.A.in1) (I.C.j V) s.heap.objs.size a (AB m) f.toArray,⟨⟨_,Au _ rfl,rfl,rfl⟩,?_⟩,λb E=>?_,⋯,CmpOf.ints_gt (λi=>c.getD i 0) l,λv h' S Z P=>?_⟩
 . obtain⟨o,g,w,n,T⟩:=id p
   exact⟨o,rg _ g,w,n,T⟩
 . rw[Bb]
   simp only[Al,B1,or_false]at E;rcases E with e|e
   . rw[e];exact Dp _
   . rw[e];exact Ca m
 . obtain⟨t,rfl⟩:=l _ _ Z
   obtain⟨b1,F⟩:=argBest_gt (λi=>c.getD i 0) (f.toArray.size-1);have e:uG 0 c=c.getD (argBest (λi j=>decide (c.getD i 0 > c.getD j 0)) (f.toArray.size-1)) 0:=by
    refine ke ?_ λx J=>?_
    . have:argBest (λi j=>decide (c.getD i 0 > c.getD j 0)) (f.toArray.size-1)<c.length:=by omega
      rw[AF,xd this];exact BP this
    . obtain⟨i,R,rfl⟩:=BU J
      have:=F i ⋯
      simpa [AF,xd R] using this
   refine⟨.d (uG 0 c),H,I.kept λb o g=>P b o ?_ (rg _ g),⟨t,by rw[e]⟩,q⟩
   simpa using AB (Ag g)
def iD(V:X.j=true):yc X (.builtin "min") (Y8 X.K (ua 0)):=by
 intro B s L H M O Q I r h;obtain⟨a,c,rfl,Y,z,q⟩:=h;obtain⟨u,rfl,G⟩:=vals1 r;cases G;obtain⟨f,y,p,U⟩:=I.tuple Y;have k:=y.length;have m:a<s.heap.objs.size:=by obtain⟨o,g,_⟩:=id p;exact Ag g
 have W:f.toArray.size=c.length:=by rw[Ab,<-k,rt]
 have D:0<c.length:=Dw.mpr z;have l:∀(i:Nat) (v:Value),f.toArray[i]?=some v->∃t,v=.int (c.getD i 0) t:=λi v N=>y.ints (by simpa using N)
 refine call_min_walk (Cp p ?_);refine⟨s.heap.objs.size,_,_,_,_,_,_,rfl,Walks.tuple (A:=X.A.in1) (I.C.j V) s.heap.objs.size a (AB m) f.toArray,⟨⟨_,Au _ rfl,rfl,rfl⟩,?_⟩,λb E=>?_,⋯,CmpOf.ints_lt (λi=>c.getD i 0) l,λv h' S Z P=>?_⟩
 . obtain⟨o,g,w,n,T⟩:=id p
   exact⟨o,rg _ g,w,n,T⟩
 . rw[Bb]
   simp only[Al,B1,or_false]at E;rcases E with e|e
   . rw[e];exact Dp _
   . rw[e];exact Ca m
 . obtain⟨t,rfl⟩:=l _ _ Z
   obtain⟨b1,F⟩:=argBest_lt (λi=>c.getD i 0) (f.toArray.size-1);have e:ua 0 c=c.getD (argBest (λi j=>decide (c.getD i 0<c.getD j 0)) (f.toArray.size-1)) 0:=by
    refine kg ?_ λx J=>?_
    . have:argBest (λi j=>decide (c.getD i 0<c.getD j 0)) (f.toArray.size-1)<c.length:=by omega
      rw[AF,xd this];exact BP this
    . obtain⟨i,R,rfl⟩:=BU J
      have:=F i ⋯
      simpa [AF,xd R] using this
   refine⟨.d (ua 0 c),H,I.kept λb o g=>P b o ?_ (rg _ g),⟨t,by rw[e]⟩,q⟩
   simpa using AB (Ag g)
end
end L2
end
section
namespace L2
open PySem PySem.W PySem.Calls PyProof PyProof.Rows
open AutoSeq1 (wpAny_loadPart')
open SeqAt
noncomputable def PY:List Int->List Int->Bool
 |[],[]=>false
 |[],_::_=>true
 |_::_,[]=>false
 |x::xs,y::ys=>if x=y then PY xs ys else decide (x<y)
end L2
namespace L2
open PySem PySem.W PySem.Calls PyProof PyProof.Rows
def Pe:List (List Int)->List Int
 |[]=>[]
 |z::t=>t.foldl (λm y=>if PY y m then y else m) z
end L2
end
section
namespace PySem
open Sem (wp)
def qf
 (hh:A.handled=none) (hl:s.heap.IsTuple l items) (hi:PyProof.Rows.IntsAre items.toList ns) (K:items.size+1<scanBound)
 (h:∀j L,j.SetOf (intKind prog w) s.heap.objs.size (λM=>(CU (λi=>ns.getD i 0) items.size).any (· == M)) (CU (λi=>ns.getD i 0) items.size).length ->
  (∀b o,b<s.heap.objs.size->s.heap.get? b=some o->j.get? b=some o)->Q (.ref s.heap.objs.size) {s with heap:=j,toks:=L}) :
 wpAny (model prog w) A (call (.type "set") [.ref l]) Q E s:=by
 obtain⟨c,tl,hmro⟩:=Dq.mro;have X:=Dq.made;have hsub:=Dq.sub;refine Dd (E5 ?_);show wpAny _ _ (callAny (.type "set") _) _ _ _;refine Ae ⟨CP _ (by decide +kernel),codeAny_builtin F.entry_type_call ?_⟩
 rw[Around.under_plain (weight_type_call_type "set" [.ref l] []) rfl];have h1:=Dq.notType;have h2:=Dq.canCreate;have hct:=F.typeCall_set_1 (.ref l)
 repeat (any_goals (first|assumption|wp_step))
 refine Cw (code_set_new_1 (.ref l) (E:=E) (Q₁:=λu k=>∃a:Bool,u=.ref s.heap.objs.size/\k={s with heap:=s.heap.push {cls:=.type "set",dict:=none,data:=.set #[] 0 (.fresh 0 0 a)}}) λa=>⟨a,rfl,rfl⟩) λr k V=>?_
 cases r with
 |error e=>exact V
 |ok fl=>
  cases fl with
  |ret u=>
   obtain⟨a,rfl,rfl⟩:=V;have hS:(s.heap.push {cls:=.type "set",dict:=none,data:=.set #[] 0 (.fresh 0 0 a)}).get? s.heap.objs.size=some {cls:=.type "set",dict:=none,data:=.set #[] 0 (.fresh 0 0 a)}:=Au _ rfl;have hT:Shared.TypeIs {s with heap:=s.heap.push {cls:=.type "set",dict:=none,data:=.set #[] 0 (.fresh 0 0 a)}} (.ref s.heap.objs.size) "set":=⟨_,hS,rfl⟩
   have hli:=Dq.init.lookup;have hbi:=Dq.init.bind (.ref s.heap.objs.size)
   repeat (any_goals (first|assumption|wp_step))
   refine Cw (B7 (R:=wants (λr g=>r=.none/\∃j L,g={s with heap:=j,toks:=L} /\
    j.SetOf (intKind prog w) s.heap.objs.size (λM=>(CU (λi=>ns.getD i 0) items.size).any (· == M)) (CU (λi=>ns.getD i 0) items.size).length /\
    (∀b o,b<s.heap.objs.size->s.heap.get? b=some o->j.get? b=some o)) E) Dq.init.plain F.entry_set_init (check_set_init_1 hT ?_)) λq g d=>?_
   . obtain⟨ol,y,I,nl,H⟩:=hl
     obtain⟨W,m,T,f⟩:=ol;simp only at I H;subst I;subst H;have z:(s.heap.push {cls:=.type "set",dict:=none,data:=.set #[] 0 (.fresh 0 0 a)}).get? l=some {cls:=.type "tuple",dict:=m,data:=.seq items nl,slots:=f}:=rg _ y;have hsls:=F.sub_tuple_set;have hslf:=F.sub_tuple_frozenset;have hne:(DP "tuple" == DP "dict")=false:=by decide
     have D:(s.heap.push {cls:=.type "set",dict:=none,data:=.set #[] 0 (.fresh 0 0 a)}).IsTuple l items:=⟨_,z,rfl,nl,rfl⟩;unfold Builtin.«set.__init__» noKeywords Builtin.Frozenset.updateFrom;generalize hPI:pyIter=PI
     wp_walk
     subst hPI;refine Cp D ?_;refine lp (wpAny_runValue ?_);have C:l<s.heap.objs.size:=Ag y;have Z:A.in1.in1.in1.handled=none:=by simp[hh]
     have B:l≠(s.heap.push {cls:=.type "set",dict:=none,data:=.set #[] 0 (.fresh 0 0 a)}).objs.size:=by rw[Bb];exact AB (Ca C)
     have U:s.heap.objs.size ∉ [(s.heap.push {cls:=.type "set",dict:=none,data:=.set #[] 0 (.fresh 0 0 a)}).objs.size,l]:=by rw[Bb];simp only[Al,Ap,B1,or_false,not_or];exact⟨AB (Dp _),Cv C⟩
     have x:∀(i:Nat) (v:Value),items[i]?=some v->∃t,v=.int ((λi=>ns.getD i 0) i) t:=λi v hv=>
      PyProof.Rows.IntsAre.int_at hi i v (by rw[Array.getElem?_toList];exact hv)
     refine PyProof.Rows.codeAny_set_update_loopS ((Walks.tuple Z _ l B items).toS) s.heap.objs.size
      U (λi=>ns.getD i 0) x K (items.size-0) 0 _ ⋯ (Be _)
      ⟨⟨_,Au _ rfl,rfl,rfl⟩,(D.push _)⟩ ?hS0 ?hR
     case hS0=>
      have G:((s.heap.push {cls:=.type "set",dict:=none,data:=.set #[] 0 (.fresh 0 0 a)}).push {cls:=.type "tuple_iterator",data:=.fields #[.ref l,.int 0 0]}).get? s.heap.objs.size
       = some {cls:=.type "set",dict:=none,data:=.set #[] 0 (.fresh 0 0 a)}:=rg _ hS
      exact PyProof.Rows.SetOf_congr ((PyProof.Rows.setObjOf_fresh (knd:=intKind prog w) a).setOf G (by unfold scanBound;omega)) (λ_=>rfl) rfl
     case hR=>
      intro s' J n;obtain⟨j,g',d',N,P⟩:=s';have eg:g'=s.gens:=J.gens;have ed:d'=s.drawn:=J.drawn;have eo:P=s.os:=J.os;subst eg;subst ed;subst eo;show wpAny _ _ _ _ _ _;refine Ae ?_;show wpAny _ _ (ret AY) _ _ _;refine Ae ⟨rfl,j,N,rfl,n,λb o K e=>?_⟩;have S:b≠s.heap.objs.size:=AB K;have O:b≠(s.heap.push {cls:=.type "set",dict:=none,data:=.set #[] 0 (.fresh 0 0 a)}).objs.size:=by rw[Bb];exact AB (Ca K)
      exact J.heap b o (by simp only[Al,Ap,B1,or_false,not_or];exact⟨S,O⟩) (rg _ (rg _ e))
   . cases q with
     |error e=>exact d
     |ok p=>
      cases p with
      |ret r=>
       obtain⟨rfl,j,L,rfl,n,Y⟩:=d
       repeat (any_goals (first|assumption|wp_step))
       exact h _ _ n Y
      |_=>exact d.elim
  |_=>exact V.elim
end PySem
end
section
namespace L2
open PySem PySem.W PySem.Calls PyProof PyProof.Rows
noncomputable def dN(n:List Int):Nat:=(firstMet (λi=>n.getD i 0) n.length).length
def da(z:X.j=true):yc X (.type "set") (λF H Q=>∃p y,F=[.c p]/\(SqL X.K H p (y.map V.d)\/SqT X.K H p (y.map V.d))/\y.length<=1000/\∀l S,H l=none->Q (.c l) (upd H l (.j S (dN y)))):=by
 intro x s J H F N Q I r h;obtain⟨p,y,rfl,g,v,q⟩:=h;obtain⟨u,rfl,A⟩:=vals1 r;cases A;have E:scanBound=4096:=rfl;rcases g with g|g
 . obtain⟨i,a,B,P⟩:=I.list g
   have n:=a.length;rw[rt]at n;refine call_set_list (ns:=y) (I.C.j z) B.isList (by simpa using qy a) (by rw[Ab];omega) λG t k m=>?_
   rw[show i.toArray.size=y.length by rw[Ab];omega]at k
   exact⟨.c _,_,I.laid (t':=t) (o:=.j _ (dN y)) (λb o e=>m b o (Ag e) e) (Ac _) (show yA X.f X.w _ _ _ (.j _ (dN y)) from k),rfl,q _ _ (I.j.fresh (Ac _))⟩
 . obtain⟨i,a,D,_⟩:=I.tuple g
   have n:=a.length;rw[rt]at n;refine qf (ns:=y) (I.C.j z) D (by simpa using qy a) (by rw[Ab];omega) λG t k m=>?_
   rw[show i.toArray.size=y.length by rw[Ab];omega]at k
   exact⟨.c _,_,I.laid (t':=t) (o:=.j _ (dN y)) (λb o e=>m b o (Ag e) e) (Ac _) (show yA X.f X.w _ _ _ (.j _ (dN y)) from k),rfl,q _ _ (I.j.fresh (Ac _))⟩
def dR:yc X (.builtin "len") (λy H Q=>∃p S n,y=[.c p]/\H p=some (.j S n)/\n<=1000/\Q (.d (n:Nat)) H):=by intro b s v H y x Q I r h;obtain⟨p,S,n,rfl,i,z,q⟩:=h;obtain⟨u,rfl,g⟩:=vals1 r;cases g;obtain⟨o,A,B,t,k,a,m,_,_,_,l,e⟩:=(show s.heap.SetOf (intKind X.f X.w) p S n from I.j p _ i);subst e;exact call_len_set k a m l ⋯ ⟨.d _,H,I.tok _,⟨_,rfl⟩,q⟩
def Qi ns:dN ns<=ns.length:=firstMet_length_le _ _
end L2
end
section
namespace PySem
open Sem (wp)
structure xD(B newId initId:String)(bm:List Value):Prop extends ExcCallFacts B newId initId where
 c:splitId newId=some (B,"__new__")
 d:builtinKind newId=some .builtinFn
 e:Manifest.signature? newId=some ⟨.any,B,B,.cls,[⟨"args",.varPos,false⟩,⟨"kwargs",.varKw,false⟩]⟩
 b:bm.contains (.type B)=true
 a:bm.contains (.type "BaseException")=true
 f:bm.contains (.type "AttributeError")=false
 g:bm.contains (.type "NameError")=false
 h:Manifest.canonical newId=Manifest.canonical "BaseException.__new__"
def ExcBaseFacts.two(F:ExcBaseFacts B newId initId bm)D:xD B newId initId (.ref D::bm):=
 ⟨F.toExcCallFacts,F.newSplit,F.newKind,F.newRow,by rw[Bo,F.hasB,Dr],by rw[Bo,F.hasBase,Dr],by rw[Bo,F.noAttr];rfl,by rw[Bo,F.noName];rfl,F.canon⟩
def uK{o:OsState}
 (l:h.get? C=some (AW nm q C N bs bm hdct sn sub ab col dd k0 k1 k2 k3 k5 newId)) (p:h.Ns N mN) (c:mN name=none)
 (r:h.get? D=some (AW nm1 q1 D N1 bs1 bm1 hd1 sn1 sub1 ab1 col1 dd1 j0 j1 j2 j3 j5 new1)) (f:h.Ns N1 mN1) (b:mN1 name=none) (i:bm=.ref D::bm1) (k:mroOf (.type B)=pure bm1) (m:El (.type B) name=pure y)
 (n:Q y ⟨h,g,d,t,o⟩):wpAny M A (El (.ref C) name) Q E ⟨h,g,d,t,o⟩:=by
 have a:lookupAlong bm1 name=pure y:=by rw[Hc,k]at m;exact m
 rw[Hc];refine lp (GG l ?_);rw[Gj];refine lp (Fv l p ?_);rw[c,i];show wpAny M A (lookupAlong (.ref D::bm1) name) Q E _;rw[Gj];refine lp (Fv r f ?_);rw[b,a];exact Ae n
def wM{o:OsState}(F:xD B newId initId bm)(f:h.get? C=some (AW nm q C N bs bm hdct sn sub ab col dd k0 k1 k2 k3 k5 newId))
 (k:Q () ⟨h,g,d,t,o⟩):wpAny M A (Ck newId ⟨.ref C::rest,[]⟩) Q E ⟨h,g,d,t,o⟩:=by
 have a:(AA C::bm).contains (.type B)=true:=by rw[Bo,F.b,Dr]
 have i:=F.noStar;simp only[Ck,F.d,F.c,F.e]
 repeat (first|refine AG f ?_|(refine Ce f ?_;rw[a])|refine wpAny_staticBase_exc f ?_|refine Gk f ?_|simp only[bne_self_eq_false,Bn,if_false]|wp_step)
 exact k
def wF{o:OsState}(F:xD B newId initId bm)(m:h.get? C=some (AW nm q C N bs bm hdct sn sub ab col dd k0 k1 k2 k3 k5 newId))
 (r:R (.ok (.ret (.ref (h.objs.size+1)))) ⟨(h.push {cls:=.type "tuple",data:=.seq rest.toArray}).push
  {cls:=.ref C,data:=.fields #[.ref h.objs.size,.none,.none,.none,.bool false,.none]},g,d,t,o⟩) (a:rest.length<=Ao:=by size_fits) :
 codeAny (model prog w) A (.builtin newId ⟨.ref C::rest,[]⟩) R ⟨h,g,d,t,o⟩:=by
 have c:=F.ends;have k:(AA C::bm).contains (.type B)=true:=by rw[Bo,F.b,Dr]
 have l:(AA C::bm).contains (.type "AttributeError")=false:=by rw[Bo,F.f];rfl
 have i:(AA C::bm).contains (.type "NameError")=false:=by rw[Bo,F.g];rfl
 refine codeAny_builtinAt F.entry ?_;unfold Builtin.«BaseException.__new__»;refine wpAt_bind ?_;show wpAt _ _ _ (stack >>= _) _ _ _;refine wpAt_bind (wpAt_stack λp n=>wpAt_of_wpAny ?_)
 wp_walk
 refine wpAt_of_wpAny ?_;rw[F.owner]
 repeat (first|with_reducible refine wpAny_madeHere_exc F.h m ?_|with_reducible refine AG m ?_|(with_reducible refine Ce m ?_;first|rw[k]|rw[l]|rw[i])|wp_step)
 show R _ _;rw[Bb];exact r
def xm{o:OsState}(F:xD B newId initId bm)
 (k:h.get? C=some (AW nm q C N bs bm hdct sn sub ab col dd k0 k1 k2 k3 k5 newId)) (m:h.get? e=some oe) (c:oe.cls=.ref C) (l:Q () ⟨h,g,d,t,o⟩) :
 wpAny M A (Ck initId ⟨.ref e::rest,[]⟩) Q E ⟨h,g,d,t,o⟩:=by
 have i:(AA C::bm).contains (.type B)=true:=by rw[Bo,F.b,Dr]
 have f:=F.noStar;simp only[Ck,F.initKind,F.initSplit,F.initRow]
 repeat (first|(with_reducible refine AG m ?_;rw[c])|with_reducible refine AG k ?_|(with_reducible refine Ce k ?_;rw[i])|wp_step)
 refine wpAny_onRaise ?_;rw[show ∀(a b:String) (n:Nat),Bind.check ⟨.positional,"*",B,.self,[⟨"args",.varPos,false⟩]⟩ a b n (Cm (λx=>x.fst) ({pos:=AA e::rest}:Args).kw)=pure () from
  λa b n=>check_star_args _ _ _ _ _ _]
 exact Ae l
def vL{j:OsState}(F:xD B newId initId bm)
 (m:h.get? C=some (AW nm q C N bs bm hdct sn sub ab col dd k0 k1 k2 k3 k5 newId)) (H:h.Ns N mN) (n:mN "__init__"=none) (I:h.get? D=some (AW nm1 q1 D N1 bs1 bm1 hd1 sn1 sub1 ab1 col1 dd1 j0 j1 j2 j3 j5 new1)) (p:h.Ns N1 mN1) (l:mN1 "__init__"=none) (u:bm=.ref D::bm1) (v:mroOf (.type B)=pure bm1) 
 (G:∀L e,Dk h L e (.ref C) rest->Q (.done (.ret (.ref e))) ⟨L,g,d,t,j⟩) (hrest:rest.length<=Ao:=by size_fits) :
 wpAny (model prog w) A (Builtin.«type.__call__» ⟨.ref C::rest,[]⟩) Q E ⟨h,g,d,t,j⟩:=by
 repeat (first|with_reducible refine AG m ?_|with_reducible refine Gk m ?_|wp_step)
 refine F1 (CP _ F.quiet) (wM F m ?_);refine wF F m ?_ hrest;show wpAny _ _ _ _ _ _;have a:=rg {cls:=.ref C,data:=.fields #[.ref h.objs.size,.none,.none,.none,.bool false,.none]}
  (rg {cls:=.type "tuple",data:=.seq rest.toArray} m)
 have i:((h.push {cls:=.type "tuple",data:=.seq rest.toArray}).push {cls:=.ref C,data:=.fields #[.ref h.objs.size,.none,.none,.none,.bool false,.none]}).Ns N mN:=
  let ⟨o,x,z,e,r⟩:=H;⟨o,x,z,rg _ (rg _ e),r⟩
 have c:((h.push {cls:=.type "tuple",data:=.seq rest.toArray}).push
  {cls:=.ref C,data:=.fields #[.ref h.objs.size,.none,.none,.none,.bool false,.none]}).get? (h.objs.size+1)=some
  {cls:=.ref C,data:=.fields #[.ref h.objs.size,.none,.none,.none,.bool false,.none]}:=by heap_get
 have s:(AA C::bm).contains (.ref C)=true:=by simp
 unfold G6
 repeat (first|with_reducible refine AG c ?_|(with_reducible refine Ce a ?_;rw[s])|wp_step)
 show wpAny _ _ (El (.ref C) _) _ _ _;have k:=rg {cls:=.ref C,data:=.fields #[.ref h.objs.size,.none,.none,.none,.bool false,.none]}
  (rg {cls:=.type "tuple",data:=.seq rest.toArray} I)
 have f:((h.push {cls:=.type "tuple",data:=.seq rest.toArray}).push {cls:=.ref C,data:=.fields #[.ref h.objs.size,.none,.none,.none,.bool false,.none]}).Ns N1 mN1:=
  let ⟨o,x,z,e,r⟩:=p;⟨o,x,z,rg _ (rg _ e),r⟩
 refine uK a i n k f l u v F.init.lookup ?_;refine Bz (lp (GL (F.init.bind _) ?_));refine lp (Dd (B7 F.init.plain F.initEntry (xm F a c rfl ?_)))
 wp_walk
 refine G _ _ ⟨λb o y=>?_,C9 (CL _),h.objs.size+2,?_,C9 ⋯,?_⟩
 . rw[AV _ _ (Cv (Ca (Ag y)))]
   exact rg _ (rg _ (rg _ y))
 . rw[Bw _ (rg _ c) rfl]
   simp only[Bb];rfl
 . rw[AV _ _ (show h.objs.size+1≠h.objs.size+2 by omega)]
   exact FT (by simp only[Bb]) rfl
def u0{o:OsState}(F:xD B newId initId bm)
 (b:h.get? C=some (AW nm q C N bs bm hdct sn sub ab col dd k0 k1 k2 k3 k5 newId)) (m:h.Ns N mN) (c:mN "__init__"=none) (p:h.get? D=some (AW nm1 q1 D N1 bs1 bm1 hd1 sn1 sub1 ab1 col1 dd1 j0 j1 j2 j3 j5 new1)) (f:h.Ns N1 mN1) (a:mN1 "__init__"=none) (i:bm=.ref D::bm1) (k:mroOf (.type B)=pure bm1) 
 (l:∀j e,Dk h j e (.ref C) rest->Q (.ref e) ⟨j,g,d,t,o⟩) (hrest:rest.length<=Ao:=by size_fits) :
 wpAny (model prog w) A (call (.ref C) rest) Q E ⟨h,g,d,t,o⟩:=by
 have u:=tc_lookup;have s:=tc_bind (.ref C);have r:(⟨h,g,d,t,o⟩:Shared).TypeIs (.ref C) "type":=⟨_,b,rfl⟩;refine Dd (E5 ?_);show wpAny _ _ (callAny (.ref C) _) _ _ _
 repeat (any_goals (first|assumption|with_reducible refine AG b ?_|wp_step))
 refine⟨rfl,?_⟩;refine Gu (CP _ (by decide +kernel)) entry_typeCall (F2 b (vL (hrest:=hrest) F b m c p f a i k λj e n=>?_))
 exact l j e n
def uJ(F:xD B newId initId bm)
 (z:A.handled=none) (k:(backTo cpos (Av args env)).any (·.1)=false) (o:mN "__init__"=none) (m:mN1 "__init__"=none) (G:bm=.ref D::bm1) (H:mroOf (.type B)=pure bm1)
 (h:wpAny (model prog w) A (eval (.Name x np) env) (λf y=>f=.ref C/\wpAny (model prog w) A (evalArgs (.ref C) true (backTo cpos (Av args env)) [])
  (λa j=>a.kw=[]/\a.pos.length<=Ao/\j.heap.get? C=some (AW nm q C N bs bm hdct sn sub ab col dd k0 k1 k2 k3 k5 newId)/\j.heap.Ns N mN/\j.heap.get? D=some (AW nm1 q1 D N1 bs1 bm1 hd1 sn1 sub1 ab1 col1 dd1 j0 j1 j2 j3 j5 new1)/\j.heap.Ns N1 mN1 /\
   ∀L e,Dk j.heap L e (.ref C) a.pos->E (.ref e) {j with heap:=L}) E y) E s) :
 wpAny (model prog w) A (exec (.Raise (some (.Call (.Name x np) args [] cpos)) none pos) env) Q E s:=by
 rw[arm_exec_Raise]
 first
  |refine lp (A8 (Eg (C:=C) (nm:=nm) (q:=q) (N:=N) (bs:=bs) (bm:=bm) (hdct:=hdct) (sn:=sn) (sub:=sub) (ab:=ab) (col:=col) (dd:=dd) (k0:=k0) (k1:=k1) (k2:=k2) (k3:=k3) (k5:=k5) (newId:=newId) F.a z (lp (AD (C7 (AD h (λf y c=>?_) λ_ _ x=>x)) (λv l b=>lp (A8 (Ae b))) λ_ _ x=>x))))
  |(simp only[evalOpt,Option.map];refine lp (A8 (Eg (C:=C) (nm:=nm) (q:=q) (N:=N) (bs:=bs) (bm:=bm) (hdct:=hdct) (sn:=sn) (sub:=sub) (ab:=ab) (col:=col) (dd:=dd) (k0:=k0) (k1:=k1) (k2:=k2) (k3:=k3) (k5:=k5) (newId:=newId) F.hasBase z (lp (AD (C7 (AD h (λf y c=>?_) λ_ _ x=>x)) (λv l b=>lp (A8 (Ae b))) λ_ _ x=>x)))))
  |(refine lp (A8 (Eg (C:=C) (nm:=nm) (q:=q) (N:=N) (bs:=bs) (bm:=bm) (hdct:=hdct) (sn:=sn) (sub:=sub) (ab:=ab) (col:=col) (dd:=dd) (k0:=k0) (k1:=k1) (k2:=k2) (k3:=k3) (k5:=k5) (newId:=newId) F.hasBase z ?_));refine lp (AD (C7 (AD h (λf y c=>?_) λ_ _ x=>x)) (λv l b=>lp (A8 (Ae b))) λ_ _ x=>x))
 obtain⟨rfl,c⟩:=c;unfold callWith;refine lp (Bz (AD c (λa j i=>lp (A8 ?_)) λ_ _ x=>x));obtain⟨K,J⟩:=a;obtain⟨u,n,I,R,T,p,i⟩:=i;obtain rfl:J=[]:=u;obtain⟨Y,g,d,V,X⟩:=j;simp only[k];refine lp (wpAny_keeperOf_exc I ?_);refine lp (u0 (hrest:=n) F I R o T p m G H λL e r=>lp (Bz (wpAny_point (Ae ?_))));obtain⟨t,P,_,_⟩:=r.there;exact⟨e,t,rfl,r.keeps _ _ I,P,i L e r⟩
def Obj.uD f o:(BQ f o).dict=o.dict:=by unfold BQ;split<;>rfl
namespace Heap
def vt(h b:Heap)(e:Addr)(c:Value)(d:Option Addr):Prop:=
 ∃o v T a t,h.get? e=some o/\(o.cls=c/\o.dict=d)/\o.data=.fields v/\v[1]?=some (.ref T)/\b.get? T=none/\T≠e/\h.get? T=some a/\a.data=.fields t/\t[3]?=some .none
def uj(h b:Heap)(e:Addr)(c:Value)(d:Option Addr)(f:Value):Prop:=
 ∃o v T a t,h.get? e=some o/\(o.cls=c/\o.dict=d)/\o.data=.fields v/\v[1]?=some (.ref T)/\b.get? T=none/\T≠e/\h.get? T=some a/\a.data=.fields t/\t[3]?=some f
def vt.at{h b:Heap}(x:h.vt b e cls a0):h.uj b e cls a0 .none:=x
def aF(a:Heap)(l:List Env)(e:Addr)(d:Value)(g:Option Addr)(f:Value)(h c:Heap):Prop:=
 a.StaysIn c/\c.FunFrames a l/\c.uj a e d g f/\∀b o,h.get? b=some o->(∀v,o.data≠.fields v)->∃s,c.get? b=some {o with slots:=s}
end Heap
section
variable {M:Model}{A:Around}{E:Value->Shared->Prop}{s:Shared}
def Heap.aE(a:Heap)(l:List Env)(e:Addr)(d:Value)(f:Option Addr)(h c:Heap):Prop:=
 a.StaysIn c/\c.FunFrames a l/\c.vt a e d f /\
  ∀b o,h.get? b=some o->(∀v,o.data≠.fields v)->∃s,c.get? b=some {o with slots:=s}
def uH
 (K:A.frames=some (env::outer)) (D:s.heap.FunFrames base (env::outer)) (Y:env.frame=some L)
 (P:s.heap.get? e=some oe) (J:base.StaysIn s.heap) (N:base.get? e=none) (G:oe.data=.fields vs) (j:1<vs.size) (Z:oe.dict=a0)
 (h:∀F,Heap.aE base (env::outer) e oe.cls a0 s.heap F->Q () {s with heap:=F}) :
 wpAny M A (do let a <-frameOf env;let z <-entryPlaceOf L hadNext;let b <-D5 head a .none (rawInt L) .none z;setField (.ref e) 1 b) (λ_ X=>wpAny M A (ES (.ref e) none) Q E X) E s:=by
 have B:e ∉ (env::outer).filterMap (·.frame):=λI=>by
  obtain⟨_,o,C,g⟩:=D.mem I;rw[P]at C;injection C with C;subst C;exact g vs G
 refine lp (wpAny_frameOf_fun K D Y λc d=>?_);refine lp (wpAny_entryPlaceOf λz y=>?_);unfold D5 newFields;refine lp (Bk ?_ (y.sizeOk5 _ _ _ _ _));have u:c.get? e=some oe:=(d.2.1 e B).trans P;have p:base.StaysIn c:=λb o k=>(d.2.1 b λI=>by rw[(D.mem I).1]at k;cases k).trans (J b o k)
 have t:=rg (h:=c) {cls:=.type "traceback",dict:=none,data:=.fields ([head,.ref L,.none,rawInt L,.none]++(if z.isEmpty then Ay 6 AY else z)).toArray} u
 refine Ct t G j ?_;have w:c.objs.size≠e:=Cv (Ag u);have i:=B2 G (·.setIfInBounds 1 (AA c.objs.size))
 have r:=Bw (BQ (·.setIfInBounds 1 (AA c.objs.size))) t (CT i)
 have v:=(AV (c.push {cls:=.type "traceback",dict:=none,data:=.fields ([head,.ref L,.none,rawInt L,.none]++(if z.isEmpty then Ay 6 AY else z)).toArray})
  (BQ (·.setIfInBounds 1 (AA c.objs.size))) (Bh w)).trans (Au c rfl)
 unfold ES;refine lp (Bx r i (x:=.ref c.objs.size) (by simp[j]) ?_)
 rw[if_pos (show (AA c.objs.size != AY)=true from by simp)]
 refine Ct v rfl (by simp only[Ab,Ah,AX,CV]<;>omega) (h _ ?_)
 have m:∀b o,b≠e->c.get? b=some o ->
  (((c.push {cls:=.type "traceback",dict:=none,data:=.fields ([head,.ref L,.none,rawInt L,.none]++(if z.isEmpty then Ay 6 AY else z)).toArray}).update e (BQ (·.setIfInBounds 1 (AA c.objs.size)))).update c.objs.size
    (BQ (·.setIfInBounds 3 ((none:Option Addr).elim AY λf=>rawInt f)))).get? b=some o:=λb o R l=>by
  have T:c.objs.size≠b:=Cv (Ag l);rw[AV _ _ T,AV _ _ (Bh R)];exact rg _ l
 have n:∀b o,s.heap.get? b=some o->(∀vs,o.data≠.fields vs)->b≠e:=λb o l g q=>by
  rw[q,P]at l;injection l with l;subst l;exact g vs G
 refine⟨λb o k=>m b o (λq=>by rw[q,N]at k;cases k) (p b o k),D.of_keeps λb o l g=>?_,?_,λb o l g=>?_⟩
 . obtain⟨V,H⟩:=d.2.2 b o l
   exact⟨_,m b _ (n b o l g) H,rfl⟩
 . refine⟨_,_,c.objs.size,_,_,?_,⟨FR _ _,by rw[Obj.uD];exact Z⟩,i,by simp[j],p.fresh,w,Bw _ v (CT (B2 rfl _)),B2 rfl _,by first|(simp;done)|(rcases y with rfl|⟨_,_,_,_,_,_,_,rfl⟩<;>simp)⟩
   rw[AV _ _ w];exact r
 . obtain⟨V,H⟩:=d.2.2 b o l
   exact⟨V,m b _ (n b o l g) H⟩
def ug
 (b:A.frames=some (env::outer)) (k:s.heap.FunFrames base (env::outer)) (d:env.frame=some L)
 (f:s.heap.get? e=some oe) (a:base.StaysIn s.heap) (c:base.get? e=none) (g:oe.data=.fields vs) (i:vs[1]?=some .none) (l:oe.dict=a0)
 (h:∀j,Heap.aE base (env::outer) e oe.cls a0 s.heap j->Q () {s with heap:=j}):wpAny M A (leaving env (.ref e)) Q E s:=by
 unfold leaving EN;simp only[d];refine lp (lp (Bx f g i ?_));rw[if_neg (by decide)]
 exact uH b k d f a c g (BR.mp i).1 l h
def u9
 (m:A.frames=some (env::outer)) (D:s.heap.FunFrames base (env::outer)) (u:env.frame=some L) (C:s.heap.vt base e cls a0) (l:base.StaysIn s.heap) (p:base.get? e=none)
 (h:∀j,Heap.aE base (env::outer) e cls a0 s.heap j->Q () {s with heap:=j}):wpAny M A (leaving env (.ref e)) Q E s:=by
 obtain⟨H,v,T,I,B,x,⟨i,G⟩,z,y,k,r,t,f,w⟩:=C;subst i;unfold leaving EN;simp only[u];refine lp (lp (Bx x z y ?_));rw[if_pos (show (AA T != AY)=true from by simp)]
 refine lp (Bx t f w ?_);rw[if_neg (show ¬((AY == rawInt L)=true) from by simp[rawInt])]
 refine lp (Ct t f (BR.mp w).1 ?_);have a:∀b,b≠T->(s.heap.update T (BQ (·.setIfInBounds 3 AY))).get? b=s.heap.get? b:=λb d=>AV _ _ (Bh d)
 have n:∀b o,s.heap.get? b=some o->(∀v,o.data≠.fields v)->b≠T:=λb o d c q=>by
  rw[q,t]at d;injection d with d;subst d;exact c B f
 refine uH m (D.of_keeps λb o d c=>⟨o,(a b (n b o d c)).trans d,rfl⟩) u ((a e (Bh r)).trans x)
  (λb o g=>(a b λq=>by rw[q,k]at g;cases g).trans (l b o g)) p z (BR.mp y).1 G
  λj ⟨x1,x2,x3,x4⟩=>h j ⟨x1,x2,x3,λb o d c=>x4 b o ((a b (n b o d c)).trans d) c⟩
def Heap.wX(b:Heap)(l:List Env)(e:Addr)(c:Value)(a:Option Addr)(h:Heap):Prop:=
 b.StaysIn h/\b.get? e=none/\h.FunFrames b l/\h.vt b e c a
def vd
 (h:A.frames=some (env::outer)) (g:env.frame=some L) (a:Heap.wX base (env::outer) e cls a0 s.heap)
 (i:∀j,Heap.wX base outer e cls a0 j->s.heap.UpToSlots j->Q () {s with heap:=j}):wpAny M A (leaving env (.ref e)) Q E s:=by
 obtain⟨o,f,n,m⟩:=a;refine u9 h n g m o f λj l=>?_;obtain⟨d,⟨_,_,c⟩,b,k⟩:=l;exact i j ⟨d,f,c,b⟩ k
def lV
 (I:A.frames=some (env::outer)) (B:s.heap.FunFrames base (env::outer)) (R:env.frame=some L)
 (K:s.heap.get? e=some oe) (H:base.StaysIn s.heap) (J:base.get? e=none) (C:oe.data=.fields vs) (x:1<vs.size) (T:oe.dict=a0)
 (h:∀F,Heap.aF base (env::outer) e oe.cls a0 (rawInt L) s.heap F->Q () {s with heap:=F}) :
 wpAny M A (do let a <-frameOf env;let t <-entryPlaceOf L hadNext;let b <-D5 head a .none (rawInt L) .none t;setField (.ref e) 1 b) Q E s:=by
 have j:e ∉ (env::outer).filterMap (·.frame):=λG=>by
  obtain⟨_,o,y,f⟩:=B.mem G;rw[K]at y;injection y with y;subst y;exact f vs C
 refine lp (wpAny_frameOf_fun I B R λc d=>?_);refine lp (wpAny_entryPlaceOf λt z=>?_);unfold D5 newFields;refine lp (Bk ?_ (z.sizeOk5 _ _ _ _ _));have p:c.get? e=some oe:=(d.2.1 e j).trans K;have l:base.StaysIn c:=λb o g=>(d.2.1 b λG=>by rw[(B.mem G).1]at g;cases g).trans (H b o g)
 have m:=rg (h:=c) {cls:=.type "traceback",dict:=none,data:=.fields ([head,.ref L,.none,rawInt L,.none]++(if t.isEmpty then Ay 6 AY else t)).toArray} p
 refine Ct m C x (h _ ?_);have w:c.objs.size≠e:=Cv (Ag p);have r:=B2 C (·.setIfInBounds 1 (AA c.objs.size))
 have u:=Bw (BQ (·.setIfInBounds 1 (AA c.objs.size))) m (CT r)
 have v:=(AV (c.push {cls:=.type "traceback",dict:=none,data:=.fields ([head,.ref L,.none,rawInt L,.none]++(if t.isEmpty then Ay 6 AY else t)).toArray})
  (BQ (·.setIfInBounds 1 (AA c.objs.size))) (Bh w)).trans (Au c rfl)
 have k:∀b o,b≠e->c.get? b=some o ->
  ((c.push {cls:=.type "traceback",dict:=none,data:=.fields ([head,.ref L,.none,rawInt L,.none]++(if t.isEmpty then Ay 6 AY else t)).toArray}).update e (BQ (·.setIfInBounds 1 (AA c.objs.size)))).get? b=some o:=
  λb o N i=>by rw[AV _ _ (Bh N)];exact rg _ i
 have n:∀b o,s.heap.get? b=some o->(∀vs,o.data≠.fields vs)->b≠e:=λb o i f q=>by
  rw[q,K]at i;injection i with i;subst i;exact f vs C
 refine⟨λb o g=>k b o (λq=>by rw[q,J]at g;cases g) (l b o g),B.of_keeps λb o i f=>?_,?_,λb o i f=>?_⟩
 . obtain⟨P,D⟩:=d.2.2 b o i
   exact⟨_,k b _ (n b o i f) D,rfl⟩
 . exact⟨_,_,c.objs.size,_,_,u,⟨FR _ _,by rw[Obj.uD];exact T⟩,r,by simp[x],l.fresh,w,v,rfl,by first|(simp;done)|(rcases z with rfl|⟨_,_,_,_,_,_,_,rfl⟩<;>simp)⟩
 . obtain⟨P,D⟩:=d.2.2 b o i
   exact⟨P,k b _ (n b o i f) D⟩
def tE
 (m:A.frames=some (env::outer)) (D:s.heap.FunFrames base (env::outer)) (u:env.frame=some L) (C:s.heap.vt base e cls a0) (l:base.StaysIn s.heap) (p:base.get? e=none)
 (h:∀j,Heap.aF base (env::outer) e cls a0 (rawInt L) s.heap j->Q () {s with heap:=j}):wpAny M A (EN (.ref e) env) Q E s:=by
 obtain⟨H,v,T,I,B,x,⟨i,G⟩,z,y,k,r,t,f,w⟩:=C;subst i;unfold EN;simp only[u];refine lp (Bx x z y ?_);rw[if_pos (show (AA T != AY)=true from by simp)]
 refine lp (Bx t f w ?_);rw[if_neg (show ¬((AY == rawInt L)=true) from by simp[rawInt])]
 refine lp (Ct t f (BR.mp w).1 ?_);have a:∀b,b≠T->(s.heap.update T (BQ (·.setIfInBounds 3 AY))).get? b=s.heap.get? b:=λb d=>AV _ _ (Bh d)
 have n:∀b o,s.heap.get? b=some o->(∀v,o.data≠.fields v)->b≠T:=λb o d c q=>by
  rw[q,t]at d;injection d with d;subst d;exact c B f
 refine lV m (D.of_keeps λb o d c=>⟨o,(a b (n b o d c)).trans d,rfl⟩) u ((a e (Bh r)).trans x)
  (λb o g=>(a b λq=>by rw[q,k]at g;cases g).trans (l b o g)) p z (BR.mp y).1 G
  λj ⟨x1,x2,x3,x4⟩=>h j ⟨x1,x2,x3,λb o d c=>x4 b o ((a b (n b o d c)).trans d) c⟩
def xn
 (t:base.StaysIn s.heap) (D:s.heap.FunFrames base l) (C:s.heap.uj base e cls a0 fl)
 (h:∀w,base.StaysIn w->w.FunFrames base l->w.vt base e cls a0->(∀b o,s.heap.get? b=some o->(∀j,o.data≠.fields j)->w.get? b=some o)->Q () {s with heap:=w}) :
 wpAny M A (ES (.ref e) none) Q E s:=by
 obtain⟨B,j,T,H,v,x,p,z,y,m,r,u,g,G⟩:=C;have i:3<v.size:=(BR.mp G).1;have a:∀b,b≠T->(s.heap.update T (BQ (·.setIfInBounds 3 ((none:Option Addr).elim AY λf=>rawInt f)))).get? b=s.heap.get? b:=
  λb c=>AV _ _ (Bh c)
 have n:∀b o,s.heap.get? b=some o->(∀j,o.data≠.fields j)->b≠T:=λb o c d q=>by
  rw[q,u]at c;injection c with c;subst c;exact d v g
 unfold ES;refine lp (Bx x z y ?_);rw[if_pos (show (AA T != AY)=true from by simp)]
 refine Ct u g i (h _ (λb o k=>(a b λq=>by rw[q,m]at k;cases k).trans (t b o k))
  (D.of_keeps λb o c d=>⟨o,(a b (n b o c d)).trans c,rfl⟩) ?_ λb o c d=>(a b (n b o c d)).trans c)
 exact⟨B,j,T,_,_,(a e (Bh r)).trans x,p,z,y,m,r,Bw _ u (CT (B2 g _)),B2 g _,by simp[i]⟩
def Heap.UB(b:Heap)(l:List Env)(e:Addr)(c:Value)(a:Option Addr)(L:Addr)(h:Heap):Prop:=
 b.StaysIn h/\b.get? e=none/\h.FunFrames b l/\h.uj b e c a (rawInt L)
def qL
 (h:A.frames=some (env::outer)) (g:env.frame=some L) (a:Heap.wX base (env::outer) e cls a0 s.heap)
 (i:∀j,Heap.UB base (env::outer) e cls a0 L j->s.heap.UpToSlots j->Q () {s with heap:=j}):wpAny M A (EN (.ref e) env) Q E s:=by
 obtain⟨o,f,n,m⟩:=a;refine tE h n g m o f λj l=>?_;obtain⟨d,c,b,k⟩:=l;exact i j ⟨d,f,c,b⟩ k
def lW(f:Heap.UB base l e cls a0 L s.heap)
 (i:∀j,Heap.wX base l e cls a0 j->s.heap.UpToSlots j->Q () {s with heap:=j}):wpAny M A (ES (.ref e) none) Q E s:=by
 obtain⟨q,p,n,m⟩:=f;exact xn q n m λj d c a k=>i j ⟨d,p,c,a⟩ λb o g h=>⟨o.slots,k b o g h⟩
def su
 (d:A.frames=some (env::outer)) (q:env.frame=some L) (a:base.StaysIn h) (p:h.FunFrames base (env::outer)) (k:∀b o,h.get? b=some o->s.heap.get? b=some o) (n:h.get? e=none) (r:s.heap.get? e=some oe) (t:oe.data=.fields vs) (x:vs[1]?=some .none)
 (u:∀j,Heap.wX base outer e oe.cls oe.dict j->s.heap.UpToSlots j->Q () {s with heap:=j}):wpAny M A (leaving env (.ref e)) Q E s:=by
 have f:∀b,h.get? b=none->base.get? b=none:=λb c=>by
  cases hq:base.get? b with
  |none=>rfl
  |some o'=>have:=a b o' hq;rw[c]at this;cases this
 refine ug d (p.of_keeps λb o c _=>⟨o,k b o c,rfl⟩) q r (λb o c=>k b o (a b o c)) (f e n) t x rfl λj v=>?_;obtain⟨m,⟨_,_,l⟩,i,g⟩:=v;exact u j ⟨m,f e n,l,i⟩ g
def ml(f:Heap.wX base l e cls a0 s.heap)
 (i:∀j,Heap.wX base l e cls a0 j->s.heap.UpToSlots j->Q () {s with heap:=j}):wpAny M A (ES (.ref e) none) Q E s:=by
 obtain⟨q,p,n,m⟩:=f;exact xn q n m.at λj d c a k=>i j ⟨d,p,c,a⟩ λb o g h=>⟨o.slots,k b o g h⟩
end
end PySem
end
section
namespace PySem
open Sem (wp)
open Builtin Builtin.ObjectAttr
def uh{o:OsState}
 (a:h.get? C=some (AW nm q C N bs bm hdct sn sub ab col dd k0 k1 k2 k3 k5 newId)) (c:h.Ns N mN) (f:mN name=some y)
 (b:Q (some y) ⟨h,g,d,t,o⟩):wpAny M A (El (.ref C) name) Q E ⟨h,g,d,t,o⟩:=by
 rw[Hc];refine lp (GG a ?_);rw[Gj];refine lp (Fv a c ?_);rw[f];exact Ae b
def yr{x:Sem Value}(a:bm.contains (.type "BaseException")=true)(i:A.handled=none)
 (h:wpAny M A x (λv j=>∃e t w,v=.ref e/\j.heap.get? C=some (AW nm q C N bs bm hdct sn sub ab col dd k0 k1 k2 k3 k5 newId) /\
  j.heap.get? e=some {cls:=.ref C,dict:=w,data:=.fields #[.ref t,.none,.none,.none,.bool false,.none]}/\E (.ref e) j) E s) :
 wpAny M A (raiseStmt env (some x) none) Q E s:=by
 have c:(AA C::bm).contains (.type "BaseException")=true:=by rw[Bo,a,Dr]
 unfold raiseStmt;refine lp (AD h (λv j b=>?_) λ_ _ x=>x);obtain⟨e,t,w,rfl,f,k,l⟩:=b;obtain⟨n,g,d,m,o⟩:=j
 repeat (first|with_reducible refine AG k ?_|with_reducible refine AG f ?_|(with_reducible refine Ce f ?_;rw[c])|wp_step)
 exact wpAny_raiseNew_none i l
def wz{p:OsState}(F:xD B newId initId bm){Q:Fin->Shared->Prop}
 (k:h.get? C=some (AW nm q C N bs bm hdct sn sub ab col dd k0 k1 k2 k3 k5 newId)) (v:h.Ns N mN) (z:mN "__init__"=some (.ref fI))
 (m:h.get? fI=some oI) (l:oI.cls=.type "function")
 (u:∀y e,Dk h y e (.ref C) rest->h.objs.size<=e ->
  wpAny (model prog w) A (call (.ref fI) (.ref e::rest)) (λr j=>r=.none/\Q (.done (.ret (.ref e))) j) E ⟨y,g,d,t,p⟩) (hrest:rest.length<=Ao:=by size_fits) :
 wpAny (model prog w) A (Builtin.«type.__call__» ⟨.ref C::rest,[]⟩) Q E ⟨h,g,d,t,p⟩:=by
 repeat (first|with_reducible refine AG k ?_|with_reducible refine Gk k ?_|wp_step)
 refine F1 (CP _ F.quiet) (wM F k ?_);refine wF F k ?_ hrest;show wpAny _ _ _ _ _ _;have a:=rg {cls:=.ref C,data:=.fields #[.ref h.objs.size,.none,.none,.none,.bool false,.none]}
  (rg {cls:=.type "tuple",data:=.seq rest.toArray} k)
 have c:=rg {cls:=.ref C,data:=.fields #[.ref h.objs.size,.none,.none,.none,.bool false,.none]}
  (rg {cls:=.type "tuple",data:=.seq rest.toArray} m)
 have i:((h.push {cls:=.type "tuple",data:=.seq rest.toArray}).push {cls:=.ref C,data:=.fields #[.ref h.objs.size,.none,.none,.none,.bool false,.none]}).Ns N mN:=
  let ⟨o,H,I,e,r⟩:=v;⟨o,H,I,rg _ (rg _ e),r⟩
 have f:((h.push {cls:=.type "tuple",data:=.seq rest.toArray}).push
  {cls:=.ref C,data:=.fields #[.ref h.objs.size,.none,.none,.none,.bool false,.none]}).get? (h.objs.size+1)=some
  {cls:=.ref C,data:=.fields #[.ref h.objs.size,.none,.none,.none,.bool false,.none]}:=by heap_get
 have n:(AA C::bm).contains (.ref C)=true:=by simp
 unfold G6
 repeat (first|with_reducible refine AG f ?_|(with_reducible refine Ce a ?_;rw[n])|wp_step)
 show wpAny _ _ (El (.ref C) _) _ _ _;refine uh a i z ?_;refine Bz (lp ?_);unfold bindSpecial;refine lp (Ed (T:="function") ⟨_,c,l⟩ ?_);rw[if_pos (by decide)]
 refine Ae (lp (AD (u _ (h.objs.size+1) ⟨λb o D=>rg _ (rg _ D),C9 (CL _),h.objs.size,f,C9 (Ac _),?_⟩ (CL _)) (λr j s=>?_) λ_ _ x=>x))
 . exact rg _ (FT rfl rfl)
 . obtain⟨rfl,G⟩:=s
   wp_walk
   exact G
def uf{o:OsState}(F:xD B newId initId bm){Q:Value->Shared->Prop}
 (b:h.get? C=some (AW nm q C N bs bm hdct sn sub ab col dd k0 k1 k2 k3 k5 newId)) (l:h.Ns N mN) (n:mN "__init__"=some (.ref fI))
 (f:h.get? fI=some oI) (c:oI.cls=.type "function")
 (k:∀j e,Dk h j e (.ref C) rest->h.objs.size<=e ->
  wpAny (model prog w) (A.under (.builtin "type.__call__" ⟨.ref C::rest,[]⟩)) (call (.ref fI) (.ref e::rest)) (λr y=>r=.none/\Q (.ref e) y) E ⟨j,g,d,t,o⟩) (a:rest.length<=Ao:=by size_fits) :
 wpAny (model prog w) A (call (.ref C) rest) Q E ⟨h,g,d,t,o⟩:=by
 have u:=tc_lookup;have s:=tc_bind (.ref C);have p:(⟨h,g,d,t,o⟩:Shared).TypeIs (.ref C) "type":=⟨_,b,rfl⟩;refine Dd (E5 ?_);show wpAny _ _ (callAny (.ref C) _) _ _ _
 repeat (any_goals (first|assumption|with_reducible refine AG b ?_|wp_step))
 refine⟨rfl,?_⟩;refine Gu (CP _ (by decide +kernel)) entry_typeCall (F2 b (wz (hrest:=a) F b l n f c λj e m i=>?_))
 exact k j e m i
def sr
 (i:bm.contains (.type "BaseException")=true) (n:A.handled=none) (l:(backTo cpos (Av args env)).any (·.1)=false)
 (h:wpAny (model prog w) A (eval (.Name y np) env) (λf L=>f=.ref C/\wpAny (model prog w) A (evalArgs (.ref C) true (backTo cpos (Av args env)) [])
  (λa F=>a.kw=[]/\F.heap.get? C=some (AW nm q C N bs bm hdct sn sub ab col dd k0 k1 k2 k3 k5 newId)/\wpAny (model prog w) A (call (.ref C) a.pos) (λv j=>∃e t M,v=.ref e/\j.heap.get? C=some (AW nm q C N bs bm hdct sn sub ab col dd k0 k1 k2 k3 k5 newId)/\j.heap.get? e=some {cls:=.ref C,dict:=M,data:=.fields #[.ref t,.none,.none,.none,.bool false,.none]}/\E (.ref e) j) E F) E L) E s) :
 wpAny (model prog w) A (exec (.Raise (some (.Call (.Name y np) args [] cpos)) none pos) env) Q E s:=by
 rw[arm_exec_Raise]
 first
  |refine lp (A8 (yr (C:=C) (nm:=nm) (q:=q) (N:=N) (bs:=bs) (bm:=bm) (hdct:=hdct) (sn:=sn) (sub:=sub) (ab:=ab) (col:=col) (dd:=dd) (k0:=k0) (k1:=k1) (k2:=k2) (k3:=k3) (k5:=k5) (newId:=newId) i n (lp (AD (C7 (AD h (λf L c=>?_) λ_ _ x=>x)) (λv j b=>lp (A8 (Ae b))) λ_ _ x=>x))))
  |(simp only[evalOpt,Option.map];refine lp (A8 (yr (C:=C) (nm:=nm) (q:=q) (N:=N) (bs:=bs) (bm:=bm) (hdct:=hdct) (sn:=sn) (sub:=sub) (ab:=ab) (col:=col) (dd:=dd) (k0:=k0) (k1:=k1) (k2:=k2) (k3:=k3) (k5:=k5) (newId:=newId) i n (lp (AD (C7 (AD h (λf L c=>?_) λ_ _ x=>x)) (λv j b=>lp (A8 (Ae b))) λ_ _ x=>x)))))
  |(refine lp (A8 (yr (C:=C) (nm:=nm) (q:=q) (N:=N) (bs:=bs) (bm:=bm) (hdct:=hdct) (sn:=sn) (sub:=sub) (ab:=ab) (col:=col) (dd:=dd) (k0:=k0) (k1:=k1) (k2:=k2) (k3:=k3) (k5:=k5) (newId:=newId) i n ?_));refine lp (AD (C7 (AD h (λf L c=>?_) λ_ _ x=>x)) (λv j b=>lp (A8 (Ae b))) λ_ _ x=>x))
 obtain⟨rfl,c⟩:=c;unfold callWith;refine lp (Bz (AD c (λa F k=>lp (A8 ?_)) λ_ _ x=>x));obtain⟨p,o⟩:=a;obtain⟨m,r,k⟩:=k;obtain rfl:o=[]:=m;obtain⟨B,g,d,u,z⟩:=F;simp only[l];refine lp (wpAny_keeperOf_exc r ?_);exact lp (AD k (λv j b=>lp (Bz (wpAny_point (Ae b)))) λ_ _ x=>x)
structure wC(B:String)(bm:List Value)(sa owner:String):Prop where
 f:Slot B "__setattr__" sa
 g:entryFor table sa=some Builtin.«object.__setattr__»
 j:builtinKind sa=some .slot
 h:splitId sa=some (owner,"__setattr__")
 d:bm.contains (.type owner)=true
 i:∀a b c:Value,argsOk sa ⟨[a,b,c],[]⟩
 e:∀self:Value,refuseLoop self "__setattr__" bm=pure ()
def StoreFacts.two(F:StoreFacts B bm sa owner)D:wC B (.ref D::bm) sa owner:=
 ⟨F.slot,F.entry,F.kind,F.split,by rw[Bo,F.hasOwner,Dr],F.args,λs=>by rw[refuseLoop_ref];exact F.passes s⟩
def qK{b:OsState}(S:wC B bm sa owner)
 (m:h.get? C=some (AW nm q C N bs bm true sn sub ab col dd k0 k1 k2 k3 k5 newId)) (k:h.get? x=some o) (l:o.cls=.ref C) (c:Q () ⟨h,g,d,t,b⟩) :
 wpAny M A (Ck sa ⟨[.ref x,nameV,v],[]⟩) Q E ⟨h,g,d,t,b⟩:=by
 have a:(AA C::bm).contains (.type owner)=true:=by rw[Bo,S.d,Dr]
 have f:=S.i (.ref x) nameV v;simp only[Ck,S.j,S.h];refine lp ?_
 . unfold G6
   repeat (first|(with_reducible refine AG k ?_;rw[l])|(with_reducible refine Ce m ?_;rw[a])|wp_step)
   cases hsig:Manifest.signature? sa with
   |none=>exact Ae c
   |some s=>
    simp only[argsOk,hsig]at f;have n:Bind.checkArgs sa s ⟨[.ref x,nameV,v],[]⟩=pure ():=f;show wpAny M A (Bind.checkArgs sa s ⟨[.ref x,nameV,v],[]⟩) Q E _;rw[n];exact Ae c
def lQ{os:OsState}{R:Tok}{Q:Fin->Shared->Prop}{ns:List Str}(SF:wC B bm sa owner)
 (hC:h.get? C=some (AW nm q C N bs bm true sn sub ab col dd k0 k1 k2 k3 k5 newId)) (X:K.In h) (Z:DI K (.ref C) name=some none)
 (hxC:x≠C) (I:h.Inst x C mA)
 (hq:∀O S,O.Inst x C (λy=>if y=name then some v else mA y) ->
  (∀b o,b≠x->(∀j L,h.get? x=some j->j.dict=some L->b≠L)->h.get? b=some o->O.get? b=some o) ->
  (∀j,h.get? x=some j->∃F,O.get? x=some F/\F.cls=j.cls/\F.data=j.data/\F.slots=j.slots/\(∀L,j.dict=some L->F.dict=some L)/\(j.dict=none->F.dict=some h.objs.size))->Q (.done (.ret .none)) ⟨O,g,d,S,os⟩) (hw:Within mA ns:=by within_ways) (hsz:ns.length<=Ao:=by size_fits) :
 wpAny (model prog w) A (Builtin.«object.__setattr__» ⟨[.ref x,.str name R,v],[]⟩) Q E ⟨h,g,d,t,os⟩:=by
 obtain⟨o,l,hc,s,hd⟩:=I;have n:=SF.e (.ref x);have L1:=PySem.W.looks_findIn (M:=model prog w) X Z;unfold Builtin.«object.__setattr__»
 repeat (first|rw[refuse_eq]|(rw[refuseLoop_ref,n])|(with_reducible refine AG l ?_;rw[hc])|with_reducible refine GG hC ?_|with_reducible refine L1.at ?_|wp_step)
 rcases hd with⟨J,U⟩|⟨L,k,r,V⟩
 ·
  rw[J,if_neg (by simp[typeHasDict])]
  split
  . rename_i hcd
    cases hcd
  split
  . rename_i c hcd
    exact absurd hcd (s c)
  . have f:(h.push {cls:=.type "dict",data:=.dict #[]}).get? x=some o:=rg _ l
    have m:x≠h.objs.size:=AB (Ag l);refine lp (wpAny_alloc' ?_);refine lp (wpAny_update' f ?_);refine Ae ?_;have hgd:((h.push {cls:=.type "dict",data:=.dict #[]}).update x λo=>{cls:=o.cls,dict:=some h.objs.size,data:=o.data,slots:=o.slots}).get? h.objs.size
     = some {cls:=.type "dict",data:=.dict #[]}:=
     (Heap.get?_update_ne _ _ _ _ m.symm).trans (FT rfl rfl)
    have Y:((h.push {cls:=.type "dict",data:=.dict #[]}).update x λo=>{cls:=o.cls,dict:=some h.objs.size,data:=o.data,slots:=o.slots}).Ns h.objs.size (λ_=>none):=
     ⟨_,#[],_,hgd,rfl,λe he=>absurd he (by simp),λ_=>rfl⟩
    show wpAny _ _ (storeInDict h.objs.size (.str name R) name v) _ _ _;unfold storeInDict newKeyGuard;refine lp (Ae (lp (wpAny_nsSet1 (Heap.Ns1.of_empty Y) λO i G=>?_)));obtain⟨oD,esD,epD,p,u,D⟩:=i.count (Within.cons name v Within.nil);refine lp (wpAny_lookBehind p (by rw[u];exact pastItsLine_dict (Aq D (by rw[AX,CV,AL];omega))) ?_)
    wp_walk
    have H:O.get? x=some {cls:=o.cls,dict:=some h.objs.size,data:=o.data,slots:=o.slots}:=?_;refine hq O _ ⟨{cls:=o.cls,dict:=some h.objs.size,data:=o.data,slots:=o.slots},H,hc,s,.inr ⟨h.objs.size,rfl,m.symm,?_⟩⟩ (λb ob hbx _ P=>?_)
     (λj a=>by obtain rfl:o=j:=AQ (l.symm.trans a);exact⟨_,H,rfl,rfl,rfl,(λL e=>by rw[J]at e;cases e),λ_=>rfl⟩)
    . obtain⟨o',es,ep,e1,e2,e3,eu,e4⟩:=i
      exact⟨o',es,ep,e1,e2,e3,eu,λy=>by rw[e4 y];by_cases hy:y=name<;>simp[hy,U]⟩
    . exact(G.2 b (AB (Ag P))).trans ((Heap.get?_update_ne _ _ _ _ hbx).trans (rg _ P))
    . refine(G.2 x m).trans (Bw _ f ?_)
      have hfr:=(Heap.get?_some_iff.mp l).2;obtain⟨oc,od,T,osl⟩:=o;cases T<;>first|rfl|exact hfr
 ·
  rw[k];refine Ae ?_;show wpAny _ _ (storeInDict L (.str name R) name v) _ _ _;unfold storeInDict newKeyGuard;refine lp (Ae (lp (wpAny_nsSet1 V λO i G=>?_)));obtain⟨oD,esD,epD,p,u,D⟩:=i.count (Within.cons name v hw);refine lp (wpAny_lookBehind p (by rw[u];exact pastItsLine_dict (Aq D (by rw[AX];omega))) ?_)
  wp_walk
  refine hq O _ ⟨o,(G.2 x r.symm).trans l,hc,s,.inr ⟨L,k,r,i⟩⟩ (λb ob _ hbd P=>?_)
   (λj a=>⟨j,(G.2 x r.symm).trans a,rfl,rfl,rfl,(λ_ e=>e),λz=>by rw[l]at a;cases a;rw[k]at z;cases z⟩)
  exact(G.2 b (hbd o L l k)).trans P
def jY{k:OsState}{m:Tok}{R:Result->Shared->Prop}{n:List Str}(S:wC B bm sa owner)
 (l:h.get? C=some (AW nm q C N bs bm true sn sub ab col dd k0 k1 k2 k3 k5 newId)) (X:K.In h) (i:DI K (.ref C) name=some none)
 (a:x≠C) (I:h.Inst x C mA)
 (s:∀L M,L.Inst x C (λy=>if y=name then some v else mA y) ->
  (∀b o,b≠x->(∀e F,h.get? x=some e->e.dict=some F->b≠F)->h.get? b=some o->L.get? b=some o) ->
  (∀e,h.get? x=some e->∃j,L.get? x=some j/\j.cls=e.cls/\j.data=e.data/\j.slots=e.slots/\(∀F,e.dict=some F->j.dict=some F)/\(e.dict=none->j.dict=some h.objs.size))->R (.ok (.ret .none)) ⟨L,g,d,M,k⟩) (r:Within mA n:=by within_ways) (c:n.length<=Ao:=by size_fits) :
 codeAny (model prog w) A (.call (.builtin sa) ⟨[.ref x,.str name m,v],[]⟩) R ⟨h,g,d,t,k⟩:=by
 obtain⟨o,p,u,_⟩:=id I;exact B7 S.f.plain S.g (qK S l p u (lQ S l X i a I s r c))
def qB{m:OsState}{Q:Unit->Shared->Prop}{ns:List Str}(S:wC B bm sa owner)
 (z:h.get? C=some (AW nm q C N bs bm true sn sub ab col dd k0 k1 k2 k3 k5 newId)) (X:K.In h) (k:DI K (.ref C) "__setattr__"=some (some (.builtin sa))) (l:DI K (.ref C) name=some none)
 (c:x≠C) (I:h.Inst x C mA)
 (r:∀L F,L.Inst x C (λy=>if y=name then some v else mA y) ->
  (∀b o,b≠x->(∀e O,h.get? x=some e->e.dict=some O->b≠O)->h.get? b=some o->L.get? b=some o) ->
  (∀e,h.get? x=some e->∃j,L.get? x=some j/\j.cls=e.cls/\j.data=e.data/\j.slots=e.slots/\(∀O,e.dict=some O->j.dict=some O)/\(e.dict=none->j.dict=some h.objs.size))->Q () ⟨L,g,d,F,m⟩) (p:Within mA ns:=by within_ways) (i:ns.length<=Ao:=by size_fits) :
 wpAny (model prog w) A (setAttr (.ref x) name v) Q E ⟨h,g,d,t,m⟩:=by
 obtain⟨o,n,u,_⟩:=id I;have H:=S.f.bind (.ref x);have D:=PySem.W.looks_findIn (M:=model prog w) X k;unfold setAttr callSpecial? specialOf
 repeat (any_goals (first|assumption|(with_reducible refine AG n ?_;rw[u])|with_reducible refine D.at ?_|wp_step))
 refine jY S z X l c I (λL F G s a=>?_) p i
 repeat (any_goals (first|assumption|wp_step))
 exact r L F G s a
end PySem
end
section
namespace L2
open PySem PySem.W PySem.Spec PyProof PyProof.Rows
structure t7(P:Program)(w:World)(outer:List Env)(H:Hp)(s:Shared)(H':Hp)(a:Addr)(cls:Value)(dd:Option Addr)(s':Shared):Prop where
 j:s'.os=s.os
 d:AllBare s'.gens
 i:∀b∈frs outer,H' b=none
 h:∃(g B:Heap),Un (frs outer) [] H H' s.heap g/\HOk P w H' g/\(∀b o,g.get? b=some o->b ∉ frs outer->(b<s.heap.objs.size\/H' b≠none)->B.get? b=some o) /\
  (∀b o,g.get? b=some o->b∈frs outer->∃sl,s'.heap.get? b=some {o with slots:=sl})/\Heap.wX B outer a cls dd s'.heap
def CXE(P:Program)(w:World):CXT:=λo H s E e b=>∃(a:Addr) (c:Value) (dd:Option Addr) (H':Hp),e=.ref a/\t7 P w o H s H' a c dd b/\E c dd H'
def t7.un(f:t7 P w outer H s H' a cls dd s'):Un (frs outer) [] H H' s.heap s'.heap/\HOk P w H' s'.heap:=by
 obtain⟨g,B,u,K,x,G,k,_⟩:=f.h;have E:∀b o,s.heap.get? b=some o->b ∉ frs outer->∀m,g.get? b=some m->s'.heap.get? b=some m:=λb o e n m D=>k b m (x b m D n (.inl (Ag e)));refine⟨⟨λb o e n p r=>E b o e p o (u.f b o e n p r),λb o e n p r=>?_,u.d,λb o e r=>?_,u.l,u.g,u.j⟩,λb o e=>(K b o e).pq (λc v A D=>?_) (λ_ q=>q) λ_ _ q=>q⟩
 . obtain⟨I,z⟩:=u.i b o e n p r
   obtain⟨y,C⟩:=G b _ z p;exact⟨y,C⟩
 . obtain⟨m,z⟩:=u.c b o e r
   by_cases p:b∈frs outer
   . obtain⟨I,C⟩:=G b m z p
     exact⟨_,C⟩
   . exact⟨m,E b o e p m z⟩
 . have t:H' c≠none:=by
    rcases A with rfl|A
    . rw[e];exact nofun
    . rw[A];exact nofun
   exact k c v (x c v D (λJ=>t (f.i c J)) (.inr t))
def bH{K:Aa}:Passes (CXE P w) (yN (CXE P w) P w K mg base N qual scope f cd A outer s₀ H₀ E) E:=by
 rintro p σ H s e s' I ⟨a,t,O,J,rfl,m,Z⟩;obtain⟨g,B,u,v,r,F,l⟩:=m.h;show wpAny _ _ _ _ _ _;have Q:Inv (yN (CXE P w) P w K mg base N qual scope f cd A outer s₀ H₀ E) p σ J {s with heap:=g}:=I.call (g':=s.gens) (t':=s.toks) (d':=s.drawn) (ch:=[]) u v I.D λb z=>absurd z (by simp)
 have Y:∀b,(b<s₀.heap.objs.size\/J b≠none)->b≠s₀.heap.objs.size:=λb c z=>by
  subst z;rcases c with c|c
  . exact Bj _ c
  . exact c Q.G
 have k:∀b,b∈frs outer->b∈frs (envOfC qual scope s₀.heap.objs.size f cd::outer):=λb c=>Af _ c;refine vd (base:=B) (env:=envOfC qual scope s₀.heap.objs.size f cd) (outer:=outer) (L:=s₀.heap.objs.size) I.C.g rfl l λW T R=>?_;refine⟨a,t,O,J,rfl,⟨m.j.trans I.P,m.d,λb c=>m.i b (k b c),g,B,Q.B,v,λb o e n c=>?_,λb o e c=>?_,T⟩,Z⟩
 . refine r b o e (λV=>?_) ?_
   . rcases Al.mp (show b∈s₀.heap.objs.size::frs outer from V) with z|z
     . exact Y b c z
     . exact n z
   . rcases c with c|c
     . exact .inl (Aw c I.sz)
     . exact .inr c
 . obtain⟨S,y⟩:=F b o e (k b c)
   obtain⟨_,U,x,X⟩:=l.2.2.1.mem (k b c);rw[y]at x;cases x;obtain⟨q,M⟩:=R b _ y X;exact⟨q,M⟩
def pZ{K:Aa}(I:Inv (yN (CXE P w) P w K mg base N qual scope f cd A outer s₀ H₀ E) pins σ H s)(k:∀b o,s.heap.get? b=some o->h1.get? b=some o)(p:s.heap.get? a=none)(t:h1.get? a=some oe)(u:oe.data=.fields vs)(v:vs[1]?=some .none)(T:E oe.cls oe.dict H) :
 (yN (CXE P w) P w K mg base N qual scope f cd A outer s₀ H₀ E).i (.ref a) {s with heap:=h1}:=by
 have l:∀b,b∈frs outer->b∈frs (envOfC qual scope s₀.heap.objs.size f cd::outer):=λb c=>Af _ c;have r:∀d∈(envOfC qual scope s₀.heap.objs.size f cd::outer),∀b,d.frame=some b->b∈frs (envOfC qual scope s₀.heap.objs.size f cd::outer):=λd t b c=>CN.mpr ⟨d,t,c⟩;have m:s.heap.FunFrames base (envOfC qual scope s₀.heap.objs.size f cd::outer):=I.stack;show wpAny _ _ _ _ _ _;refine su (base:=hideAll s.heap (frs (envOfC qual scope s₀.heap.objs.size f cd::outer))) (h:=s.heap) (env:=envOfC qual scope s₀.heap.objs.size f cd) (outer:=outer) (L:=s₀.heap.objs.size) I.C.g rfl (λb o q=>of_hideAll _ q) (funFrames_hide m r) k p t u v λY J y=>?_;refine⟨a,_,_,H,rfl,⟨I.P,I.D,λb c=>I.lP b (l b c),s.heap,_,I.B,I.j,λb o e n c=>hideAll_get _ e λR=>?_,λb o e c=>?_,J⟩,T⟩
 . rcases Al.mp (show b∈s₀.heap.objs.size::frs outer from R) with z|z
   . subst z
     rcases c with c|c
     . exact Bj _ c
     . exact c I.G
   . exact n z
 . obtain⟨_,X,x,u⟩:=m.mem (l b c)
   rw[e]at x;cases x;obtain⟨Q,V⟩:=y b o (k b o e) u;exact⟨Q,V⟩
def jJ{K:Aa}(I:Inv (yN (CXE P w) P w K mg base N qual scope f cd A outer s₀ H₀ E) pins σ H s)(m:Dk s.heap h1 a (.ref C) us)(b:E (.ref C) none H) :
 (yN (CXE P w) P w K mg base N qual scope f cd A outer s₀ H₀ E).i (.ref a) {s with heap:=h1}:=by
 obtain⟨t,h,_,_⟩:=m.there;exact pZ I m.keeps m.new h rfl rfl b
noncomputable def veM:List Value:=[.type "ValueError",.type "Exception",.type "BaseException",.type "object"]
def ClsAt(h:Heap)(C:Addr)(o:List Value):Prop:=∃(n q:Str) (N:Addr) (l:List Value) (a:Bool) (b:List Str) (s:List Value) (p:Bool) (c:Option Bool) (dd:Option Addr) (i g f d k:Option Value) (m:Str->Option Value),
 h.get? C=some (AW n q C N l o a b s p c dd i g f d k "ValueError.__new__")/\h.Ns N m/\m "__init__"=none
def XR(X:Cx)(C:Addr)(H:Hp):Prop:=∀(p:List (Addr × Obj)) (σ:St) (s:Shared),Inv X p σ H s->∀(h1:Heap) (a:Addr) (us:List Value),Dk s.heap h1 a (.ref C) us->X.i (.ref a) {s with heap:=h1}
def QB(X:Cx)(C:Addr)(t:TA):TS:=λ_ a H=>t a H λv A=>v.length<=Ao/\XR X C A
def jG(U:X.A.handled=none)(S:Gl X x)(M:X.d x=some (.ref C))(cC:ClsAt X.g C (.ref D::veM))(cD:ClsAt X.g D veM)(W:PA X (e::es) t)
 (o:(x == ("__debug__":Str))=false) (n:Av (e::es) X.a=(false,eval e X.a)::Av es X.a) (l:(backTo cpos (Av es X.a)).any (·.1)=false):PS X (.Raise (some (.Call (.Name x np) (e::es) [] cpos)) none pos) (QB X C t):=by
 intro p s v H D' I h;refine byG λw b=>?_;obtain⟨y,q,N,T,c,j,f,V,i,R,Q,P,K,J,G,E,hC,hN,Z⟩:=cC;refine b ?_;refine byG λw b=>?_;obtain⟨nm1,q1,N1,bs1,hd1,sn1,sub1,ab1,col1,dd1,j0,j1,j2,j3,j5,mN1,hD,u,k⟩:=cD;refine b ?_;refine uJ (C:=C) (D:=D) (nm:=y) (q:=q) (N:=N) (bs:=T) (hdct:=c) (sn:=j) (sub:=f) (ab:=V) (col:=i) (dd:=R) (k0:=Q) (k1:=P) (k2:=K) (k3:=J) (k5:=G) (mN:=E)
  (nm1:=nm1) (q1:=q1) (N1:=N1) (bs1:=bs1) (hd1:=hd1) (sn1:=sn1) (sub1:=sub1) (ab1:=ab1) (col1:=col1) (dd1:=dd1) (j0:=j0) (j1:=j1) (j2:=j2) (j3:=j3) (j5:=j5) (mN1:=mN1) (new1:="ValueError.__new__") (Ci.two D) U ?_ Z k rfl Ci.mroIs (wA I S M ⟨rfl,?_⟩ o)
 . rw[n];exact l
 . rw[n]
   refine De ?_;have q:=W cpos p s v H _ I h;rw[n]at q;refine AD q (λus Y L=>?_) λ_ _ z=>z;refine byG λw b=>?_;obtain⟨vs,H1,B,r,O,F⟩:=L;refine b ?_;exact⟨rfl,by rw[<-r.length];exact O,B.bk _ _ hC,hN.keeps B.bk,B.bk _ _ hD,u.keeps B.bk,λh' e' m=>F p v Y B h' e' _ m⟩
def V8{K}
 (h:E (.ref C) none H):XR (yN (CXE P w) P w K mg base N qual scope f cd A outer s₀ H₀ E) C H:=λ_ _ _ I _ _ _ m=>jJ I m h
def tFs(b t:TE):TE:=λa H Q=>b a H λx B=>∃i:Int,x=.d i/\i.natAbs<2 ^ 64/\t a B λy A=>∃j:Int,y=.d j/\j.natAbs<2 ^ 64/\∀z,Q (.e z) A
def vZ{i:Int}(h:i.natAbs<2 ^ 64):i.natAbs.log2<64:=by
 by_cases z:i.natAbs=0
 . rw[z];decide
 . exact(Nat.log2_lt z).mpr h
def uw{i:Int}(h:i.natAbs<2 ^ 64):(DJ (toString i)).length<=65:=by rw[PySem.ofString_length];exact int_text_length_le (by decide) (vZ h)
def OD(n:PE X a ta)(m:PE X b tb)(T:c1.length<=1000)(R:c2.length<=1000)(P:c3.length<=1000) :
 PE X (.JoinedStr [.Constant (.str c1) k1 p1,.FormattedValue a (-1) none p2,.Constant (.str c2) k2 p3,.FormattedValue b (-1) none p4,.Constant (.str c3) k3 p5] pos) (tFs ta tb):=by
 intro p s c H Q I h;refine JoinedStr_many (CJ (DA ⟨?_,CJ (DV ?_)⟩))
 . rw[AM,AL,show Dh.length=0 from rfl];omega
 refine thn (n p _ c H _ (I.tok _) h) λu J z=>?_;refine byG λl g=>?_;obtain⟨x,D,B,k,i,t,f,q1⟩:=z;refine g ?_;subst t;obtain⟨E,rfl⟩:=k;have N:=uw f;refine DM (Aw (vZ f) (by decide)) ⟨?_,CJ (DA ⟨?_,CJ (DV ?_)⟩)⟩
 . rw[AM,AM,AL,show Dh.length=0 from rfl];omega
 . rw[AM,AM,AM,AL,show Dh.length=0 from rfl];omega
 refine thn (m p _ c D _ (B.tok _) q1) λv G z=>?_;refine byG λl g=>?_;obtain⟨y,C,A,r,j,o,d,q⟩:=z;refine g ?_;subst o;obtain⟨w,rfl⟩:=r;have K:=uw d;refine DM (Aw (vZ d) (by decide)) ⟨?_,CJ (DA ⟨?_,joinParts_nil ⟨.e _,C,A.tok _,⟨_,rfl⟩,q _⟩ ?_⟩)⟩
 . rw[AM,AM,AM,AM,AL,show Dh.length=0 from rfl];omega
 . rw[AM,AM,AM,AM,AM,AL,show Dh.length=0 from rfl];omega
 . rw[AM,AM,AM,AM,AM,AL,show Dh.length=0 from rfl];omega
def Bm(b:Heap)(m:Str->Option Value):Prop:=∃(a:Addr) (o:Obj),m "__builtins__"=some (.ref a)/\a≠FW/\b.get? a=some o/\o.cls=.type "module"/\o.dict=some FW/\o.data=.plain
def QY(H:Hp)(P:Addr)(a:Array Value)(p:Pos)(q:Str)(c:Addr)(A:Hp):Prop:=A=H \/
 ∃(o:Obj) (vs:Array Value) (t:Tok),Eh p a.toList=none/\H c=none/\o.data=.fields vs/\vs[1]?=some (.str q t)/\A=upd (upd H P (.g (a++#[rawInt p.line,rawInt p.col,.ref c]))) c (.e o (.d 0))
def YH(I:Inv X pins σ H s)(Za:defaultsOf a X.a=([],[]))(Z:G4 lsc X.a=pure clos)
 (x:X.a.code=.ref c) (C:CodeHd s.heap c P) (D:H P=some (.g ps)) (ht:Ei ps.toList) (B:Bm X.g X.d)
 (hit:∀cv,Eh pos ps.toList=some cv->∃w o L t,cv=.ref w/\H w=some (.e o (.d 0))/\o.data=.fields L/\L[1]?=some (.str (X.a.qual++("<lambda>":Str)) t))
 (h:∀O w F H' S U,Inv X pins σ H' {s with heap:=S,toks:=U}->QY H P ps pos (X.a.qual++("<lambda>":Str)) w H'->(H' O=none/\s.heap.objs.size<=O/\O ∉ frs X.h/\∃o L t,H' w=some (.e o (.d 0))/\o.data=.fields L/\L[1]?=some (.str (X.a.qual++("<lambda>":Str)) t)) ->
  S.get? O=some (kla_obj "<lambda>" (X.a.qual++("<lambda>":Str)) a body lsc clos ((X.d "__name__").getD .none) w F)->S.CodeRec (.ref w) (X.a.qual++("<lambda>":Str))->Q (.ref O) {s with heap:=S,toks:=U}) :
 wpAny M A (eval (.Lambda a body lsc pos) X.a) Q E s:=by
 refine byG λN f=>?_;obtain⟨bm,ob,b1,b2,b3,b4,b5,b6⟩:=B;refine f ?_;have hPo:s.heap.get? P=some (tabObj ps):=I.j P _ D;have hg:s.heap.Ns AO X.d:=I.mod.c.keeps I.bk;have W:H bm=none:=(I.bs _ _ b3).2;have hbP:bm≠P:=λz=>by rw[z,D]at W;cases W
 refine byG λN f=>?_;obtain⟨og,eg,pg,g1,g2,_⟩:=I.mod.c;refine f ?_;have Y:H AO=none:=(I.bs _ _ g1).2;have hgP:AO≠P:=λz=>by rw[z,D]at Y;cases Y
 have hbG:bm≠AO:=λz=>by rw[z,g1]at b3;cases b3;rw[g2]at b6;cases b6
 have hb:s.heap.BuiltinsAt X.d P:=⟨bm,ob,b1,b2,hbG,hbP,I.bk _ _ b3,b4,b5,b6⟩;have T:∀O,s.heap.objs.size<=O->O ∉ frs X.h:=λO hl hm=>by refine byG λN f=>?_;obtain⟨_,o,e,_⟩:=I.stack.mem hm;refine f ?_;exact absurd (Aw (Ag e) hl) (Bj _)
 refine kla_eval Za ?_;cases hf:Eh pos ps.toList with
 |some cv=>
  refine byG λN f=>?_;obtain⟨w,o,L,t,rfl,q1,q2,q3⟩:=hit cv hf;refine f ?_;refine kla_makeFunctionHit (mg:=X.d) Z I.C.k hg x C hPo ht hf hb λF S U hk K=>?_;have l:∀b u,s.heap.get? b=some u->(S.push {cls:=.type "function",data:=.func (kla_fn "<lambda>" (X.a.qual++("<lambda>":Str)) a body lsc clos ((X.d "__name__").getD .none) (.ref w) F)}).get? b=some u:=λb u e=>rg _ (hk b u e);have hcr:s.heap.CodeRec (.ref w) (X.a.qual++("<lambda>":Str)):=⟨w,o,L,t,rfl,(I.j w _ q1).1,q2,q3⟩;refine h _ w F H _ U (I.kept l) (.inl rfl) ⟨I.j.fresh K,K,T _ K,o,L,t,q1,q2,q3⟩ (Au _ rfl) ?_;refine byG λN f=>?_;obtain⟨c2,o2,vs2,t2,e1,e2,e3⟩:=hcr;refine f ?_;exact⟨c2,o2,vs2,t2,e1,l _ _ e2,e3⟩
 |none=>
  refine kla_makeFunction (mg:=X.d) Z I.C.k hg x C hPo ht hf hgP hb λw F S U hx m p iR V=>?_;refine byG λN f=>?_;obtain⟨c2,R,L,t,e1,e2,e3,e4⟩:=iR;refine f ?_;cases e1;have i:H w=none:=I.j.fresh m;have hcP:w≠P:=λz=>by rw[z,D]at i;cases i
  have l:∀b u,b≠P->s.heap.get? b=some u->(S.push (kla_obj "<lambda>" (X.a.qual++("<lambda>":Str)) a body lsc clos ((X.d "__name__").getD .none) w F)).get? b=some u:=λb u n e=>rg _ (hx b u n e);have nP:∀b,H b=none->b≠P:=λb n z=>by rw[z,D]at n;cases n
  have nc:∀b o,s.heap.get? b=some o->b≠w:=λb o e z=>absurd (Aw (Ag e) m) (by rw[z];exact Bj _)
  refine h _ w F (upd (upd H P (.g (ps++#[rawInt pos.line,rawInt pos.col,.ref w]))) w (.e R (.d 0))) _ U (I.un (t':=U) ⟨λb o e n _ _=>l b o (nP b n) e,λb o e n _ _=>⟨o.slots,l b o (nP b n) e⟩,λb o e n _=>?_,λb o e _=>?_,λb xs e=>?_,λb o u e=>?_,λb qs e=>?_⟩ λb u e=>?_)
   (.inr ⟨R,L,t,hf,i,e3,e4,rfl⟩) ⟨by rw[zG (Cv p),zG (nP _ (I.j.fresh (Aq m (DH p))))];exact I.j.fresh (Aq m (DH p)),Aq m (DH p),T _ (Aq m (DH p)),R,L,t,zJ,e3,e4⟩ (Au _ rfl) ⟨w,R,L,t,rfl,rg _ e2,e3,e4⟩
  . rw[zG (nc b o e),zG (nP b n)];exact n
  . by_cases z:b=P
    . rw[z];exact⟨_,rg _ V⟩
    . exact⟨o,l b o z e⟩
  . have G:b≠w:=λz=>by rw[z,i]at e;cases e
    have z2:b≠P:=λz=>by rw[z,D]at e;cases e
    rw[zG G,zG z2];exact e
  . have G:b≠w:=λz=>by rw[z,i]at e;cases e
    have z2:b≠P:=λz=>by rw[z,D]at e;cases e
    rw[zG G,zG z2];exact e
  . have G:b≠w:=λz=>by rw[z,i]at e;cases e
    rw[zG G];by_cases z:b=P
    . subst z
      rw[D]at e;cases e;exact⟨_,zJ⟩
    . rw[zG z];exact⟨#[],by rw[e];simp⟩
  . by_cases G:b=w
    . subst G
      rw[zJ]at e;cases e;exact⟨rg _ e2,R,rg _ e2⟩
    . rw[zG G]at e
      by_cases z:b=P
      . subst z
        rw[zJ]at e;cases e;exact rg _ V
      . rw[zG z]at e
        have J:∀d y,H d=some (.d y)->d≠w/\d≠P:=λd y r=>⟨λz=>(by rw[z,i]at r;cases r),λz=>(by rw[z,D]at r;cases r)⟩
        refine(I.j b u e).pq (λd v hd q=>l d v ?_ q) (λd r=>by rw[zG (J d b r).1,zG (J d b r).2];exact r) λd xs r=>?_
        . rcases hd with rfl|hd
          . exact z
          . exact(J d b hd).2
        . have y1:d≠w:=λz=>by rw[z,i]at r;cases r
          have y2:d≠P:=λz=>by rw[z,D]at r;cases r
          rw[zG y1,zG y2];exact r
section
variable {P:Program}{w:World}{K:Aa}{mg:Str->Option Value}{base:Heap}{CX:CXT}{A:Around}{outer:List Env}{s:Shared}{H:Hp}{E:XK}{R:Result->Shared->Prop}
noncomputable abbrev Cx.loud(X:Cx)(A:Around):Cx:={X with A:=A,j:=false}
theorem Inv.loud(I:Inv X pins σ H s)(b:A'.frames=some X.h):Inv (X.loud A') pins σ H s:=
 ⟨⟨I.C.i,I.C.a,I.C.k,I.C.t,I.C.d,I.C.s,I.C.r,I.C.q,λz=>absurd z Aj,b,I.C.w,I.C.G,I.C.B,I.C.p,I.C.m,I.C.l,I.C.D,I.C.u⟩,I.P,I.D,I.B,I.M,I.J,I.G,I.F,I.O,I.j,I.R⟩
def Inv.calm(I:Inv (X.loud A') pins σ H s)(o:X.Ok):Inv X pins σ H s:=
 ⟨o,I.P,I.D,I.B,I.M,I.J,I.G,I.F,I.O,I.j,I.R⟩
abbrev lj(P:Program)(w:World)(A:Around)(a:Env)(R:Result->Shared->Prop)(b:List Stmt)(d:Shared):Prop:=
 wpAny (model P w) (A.deeper a) (execs b a) (λf c=>R (.ok (.ret (match f with|.ret v=>v|_=>.none))) c)
  (λe c=>wpAny (model P w) (A.deeper a) (leaving a e) (λ_ s=>R (.error e) s) (λg s=>R (.error g) s) c) d
def sL{dV kV doc pm cdv ct oc}
 (u:K.lookup f=some ⟨oc,od,.func (BH name qual params body scope dV kV doc pm an cdv ct),osl⟩) (t:B6 K cdv qual=true) (S:x9 N ps scope) (p:A.depth<Cq)
 (k:qE P w K mg base A outer s H) (D:BindsTo s (BH name qual params body scope dV kV doc pm an cdv ct) args (ps.zip us)) (z:vs.length=ps.length) (r:Vals vs us)
 (h:∀F:Shared,Inv (yN CX P w K mg base N qual scope f cdv {A with handled:=none} outer s H E) [] (start N vs) H F->(∀b o,s.heap.get? b=some o->F.heap.get? b=some o)->lj P w A (envOfC qual scope s.heap.objs.size f cdv) R body F) :
 codeAny (model P w) A (.call (.ref f) args) R s:=by
 have B:K.In s.heap:=k.c.a.keeps λb o e=>(k.d b o e).1;have m:s.heap.NoLimit:=k.c.b.keeps λb o e=>(k.d b o e).1;have l:∀y∈ps.zip us,scope.names.lookup y.1=some .local\/(scope.names.lookup y.1=some .cell/\((CO (s.heap.objs.size+1) scope.names []).lookup y.1).isSome=true):=λ⟨n,v⟩ hy=>by
  rcases S.e n (E1 hy).1 with q|q
  . exact .inl q
  . exact .inr ⟨q,Ew _ _ _ (.inl q)⟩
 refine codeAny_call_function p (B _ _ u) rfl S.co S.f rfl (PySem.W.codeRec_of B t) (D _ _ _ _ ?_);refine FD S.a l λG C F x=>?_;subst C;refine⟨m.keeps x.toInCall.keep,codeAny_func ?_⟩;exact h F (nH (A:={A with handled:=none}) S rfl ⟨k.a,k.c,k.d,k.h,k.j,k.i,k.f,k.g⟩ z r x) x.toInCall.keep
def uQ(h:A.handled=none):{A with handled:=none}=A:=by
 cases A;simp only at h;subst h;rfl
noncomputable def noArgs:EJ:=⟨[],[],none,[],[],none,[]⟩
noncomputable def tJ(CX:CXT)(P:Program)(w:World)(K:Aa)(mg:Str->Option Value)(base:Heap)(N:List Str)(c:Str)(b:Scope)(f:Addr)(t:Value)(p:List (Str × Addr))(A:Around)(outer:List Env)(s:Shared)(H:Hp)(E:XK):Cx where
 f:=P
 w:=w
 K:=K
 d:=mg
 g:=base
 A:=A.deeper (envX c b s.heap.objs.size f t p)
 N:=N
 l:=s
 r:=H
 a:=envX c b s.heap.objs.size f t p
 k:=outer
 h:=envX c b s.heap.objs.size f t p::outer
 m:=[]
 j:=true
 n:=λ_=>false
 q:=[]
 i:=λe u=>wpAny (model P w) (A.deeper (envX c b s.heap.objs.size f t p)) (leaving (envX c b s.heap.objs.size f t p) e) (λ_ o=>CX outer H s E e o) (λv o=>CX outer H s E v o) u
def VC(M:A.depth<Cq)(hh:A.handled=none)(l:qE P w K mg base A outer s H)
 (ho:s.heap.get? lf=some (kla_obj nm qual noArgs body lsc cl pm c ctv)) (O:s.heap.CodeRec (.ref c) qual) (hk:lsc.kind=.function) (S:lsc.isCoroutine=false) (V:lsc.isGenerator=false)
 (r:∀x∈lsc.names,x.2≠.cell/\x.2≠.local) (Q:∀x y b,cl.lookup x=some b->cl.lookup y=some b->x=y) (T:∀x,lsc.names.lookup x=some .free->∃b,cl.lookup x=some b)
 (B:∀x b,cl.lookup x=some b->(∃v,s.heap.IsCell b v)/\H b=none)
 (G:∀(i:Nat) x v,N[i]?=some x->σ[i]?=some (some v)->lsc.names.lookup x=some .free->∃u b,RelV v u/\cl.lookup x=some b/\s.heap.IsCell b (some u)) (J:σ.length=N.length)
 (h:∀W:Shared,Inv (tJ CX P w K mg base N qual lsc lf (.ref c) cl A outer s H E) [] σ H W->wpAny (model P w) (A.deeper (envX qual lsc s.heap.objs.size lf (.ref c) cl)) (eval body (envX qual lsc s.heap.objs.size lf (.ref c) cl)) (λv L=>R (.ok (.ret v)) L)
  (λe L=>wpAny (model P w) (A.deeper (envX qual lsc s.heap.objs.size lf (.ref c) cl)) (leaving (envX qual lsc s.heap.objs.size lf (.ref c) cl) e) (λ_ F=>R (.error e) F) (λe' F=>R (.error e') F) L) W) :
 codeAny (model P w) A (.call (.ref lf) ⟨[],[]⟩) R s:=by
 have X:s.heap.NoLimit:=l.c.b.keeps λb o e=>(l.d b o e).1;refine kla_callFunE M ho rfl S V rfl O ?_;have hb:G1 (kla_fn nm qual noArgs body lsc cl pm (.ref c) ctv) ⟨[],[]⟩=pure []:=rfl;rw[hb];refine Ae (wpAny_newFunctionEnv (λx Y=>(r x Y).1) (λx Y=>absurd Y (by simp)) (λt Z I=>⟨X.fresh _ I,?_⟩) hk)
 show codeAny _ _ (.expr body (envX qual lsc s.heap.objs.size lf (.ref c) cl)) _ _;have k:∀b o,s.heap.get? b=some o->t.get? b=some o:=λb o e=>I.extBut b o (AB (Ag e)) (rg _ e);have C:∀b:Addr,b ∉ (tJ CX P w K mg base N qual lsc lf (.ref c) cl A outer s H E).m:=λb z=>absurd (show b∈([]:List Addr) from z) (by simp)
 have n:∀b v,s.heap.IsCell b v->t.IsCell b v:=λb v ⟨o,e,d⟩=>⟨o,k b o e,d⟩;refine kla_codeExpr (h _ ⟨⟨l.c,hk,rfl,rfl,Ac _,Q,λy D=>?_,λy b z _=>absurd z Aj,λ_=>hh,E2 l.a,.inr ⟨rfl,rfl⟩,λb z=>absurd z (C b),l.d,l.h,λb _ _=>C b,λb z=>absurd z (C b),l.j,l.i⟩,
  rfl,l.g,Un.kept k,⟨_,Z,λi y v h1 h2 U=>?_⟩,λy b e=>?_,l.f.fresh (Ac _),λy b e=>(B y b e).2,λp hp=>absurd (show p∈([]:List (Addr × Obj)) from hp) (by simp),l.f.kept k,J⟩)
 . have D:lsc.names.lookup y=some .cell\/lsc.names.lookup y=some .free:=D
   rcases D with D|D
   . exact absurd rfl (r _ (A4 D)).1
   . exact T y D
 . have U:lsc.names.lookup y=some .local\/lsc.names.lookup y=some .cell\/lsc.names.lookup y=some .free:=U
   rcases U with z|z|z
   . exact absurd rfl (r _ (A4 z)).2
   . exact absurd rfl (r _ (A4 z)).1
   . obtain⟨u,b,q1,q2,q3⟩:=G i y v h1 h2 z
     exact⟨u,q1,.inr ⟨.inr z,b,q2,n _ _ q3⟩⟩
 . obtain⟨v,q⟩:=(B y b e).1
   exact⟨v,n b v q⟩
end
end L2
end
section
namespace L2
open PySem PySem.W PySem.Spec PySem.Calls PyProof PyProof.Rows
noncomputable def exO(C:Addr)(d:Option Addr)(t:Addr):Obj:={cls:=.ref C,dict:=d,data:=.fields #[.ref t,.none,.none,.none,.bool false,.none]}
def exH(e C:Addr)(d:Option Addr):HO:=.k λh=>∃t,h.get? e=some (exO C d t)
noncomputable def dcH(d:Addr)(a:List (Str × V)):HO:=.k λh=>∃m,h.Ns1 d m/\(∀f,lq (a.lookup f) (m f))/\EY m (a.map (·.1))
def iI(a:h.get? e=some (exO C dx t)):yA P w H h e (exH e C dx):=⟨⟨t,a⟩,⟨_,a⟩,λc b ⟨t,z⟩ k=>⟨t,k _ z⟩⟩
def mT(x:yA P w H h e (exH e C dx)):∃t,h.get? e=some (exO C dx t):=x.1
def au(a:h.Ns1 d mA)(r:∀f,lq (fs.lookup f) (mA f))(b:EY mA (fs.map (·.1))):yA P w H h d (dcH d fs):=
 ⟨⟨mA,a,r,b⟩,(let ⟨o,_,_,e,_⟩:=a;⟨o,e⟩),λg c ⟨mA,a,r,b⟩ k=>⟨mA,a.at k,r,b⟩⟩
def aq(x:yA P w H h d (dcH d fs)):∃e,h.Ns1 d e/\(∀f,lq (fs.lookup f) (e f))/\EY e (fs.map (·.1)):=x.1
def tL(h:Heap)(C:Addr)(p:List Value)(f:Addr):Prop:=∃(n q:Str) (N:Addr) (l:List Value) (a:List Str) (s:List Value) (r:Bool) (c:Option Bool) (dd:Option Addr) (i g d b k:Option Value) (m:Str->Option Value) (o:Obj),
 h.get? C=some (AW n q C N l p true a s r c dd i g d b k "ValueError.__new__")/\h.Ns N m/\m "__init__"=some (.ref f)/\h.get? f=some o/\o.cls=.type "function"
theorem tL.keeps(x:tL h C bm fI)(k:∀b o,h.get? b=some o->h'.get? b=some o):tL h' C bm fI:=by obtain⟨g,q,N,j,d,s,w,a,v,t,r,p,l,i,m,f,e,n,z,u,c⟩:=x;exact⟨g,q,N,j,d,s,w,a,v,t,r,p,l,i,m,f,k _ _ e,n.keeps k,z,k _ _ u,c⟩
structure GrK(K:Aa)(C D:Addr):Prop where
 sa:findIn K (.ref C) "__setattr__"=some (some (.builtin "object.__setattr__"))
 a:findIn K (.ref C) "many"=some none
 b:findIn K (.ref C) "most"=some none
 sp:specialIn K (.ref D) "__getattribute__"=some (some (.builtin "type.__getattribute__"))
 rd:readsIn K D (.type "type")=true
 fc:findCls K (.ref D) (.type "type") "__init__"=some (.val (.builtin "ValueError.__init__"))
def iS{p:Program}{w:World}{A:Around}{E:Value->Shared->Prop}{h:Heap}{g:Array GenState}{d:Drawn}{t:Nat}{l:OsState}{u q:Str}{C N:Addr}{K m s:List Value}{a P:Bool}{r:List Str}{k:Option Bool}{J:Option Addr}{D y z x v:Option Value}{B n i:String}(F:xD B n i m)(I:h.get? C=some (AW u q C N K m a r s P k J D y z x v n))(f:h.get? e=some (exO C dx t0))(c:rest.length<=Ao)
 (G:∀j,(∀b o,b≠e->h.get? b=some o->j.get? b=some o)->j.get? e=some (exO C dx h.objs.size)->Q .none ⟨j,g,d,t,l⟩):wpAny (model p w) A (call (.builtin i) (.ref e::rest)) Q E ⟨h,g,d,t,l⟩:=by
 refine Dd (B7 F.init.plain F.initEntry (xm F I f rfl ?_));unfold exO at f
 wp_walk
 refine G _ (λb o H q=>?_) ?_
 . rw[AV _ _ (Bh H)]
   exact rg _ q
 . rw[Bw _ (rg _ f) rfl]
   rfl
def QT(h:H a=some o):upd H a o=H:=by
 funext b;unfold upd;split
 . rename_i z;rw[z,h]
 . rfl
section
variable {Y:Cx}{C D:Addr}
def oN
 (c:B4 o name env (eval o env)=eval o env)
 (i:((backTo pos (Av args env)).all (λx=>!x.1)&&(G3 pos (Fp [] env)).all (λx=>x.1.isSome)
  && decide (args.length+([]:List Keyword).length+(if ([]:List Keyword).isEmpty then 0 else 1)<30))=true)
 (a:(apos.endLine == pos.line)=true)
 (h:wpAny (model prog w) A (eval o env) (λL y=>∀M,wpAny (model prog w) A (getMethod L name M) (λF j=>wpAny (model prog w) A (callWith pos F.1 F.2 (backTo pos (Av args env)) (G3 pos (Fp [] env))) Q E j) E y) E s) :
 wpAny (model prog w) A (eval (.Call (.Attribute o name apos) args [] pos) env) Q E s:=by
 rw[arm_eval_Call,c];refine lp (AD h (λL y f=>?_) λ_ _ e=>e);refine lp (A8 ?_);have b:methodCallForm (args.length+([]:List Keyword).length) (backTo pos (Av args env)) (G3 pos (Fp [] env))=true:=i;have g:methodCallPos true o env apos pos=pure pos:=by unfold methodCallPos;simp[a]
 unfold methodCall;rw[b];refine lp (Bz (AD (f _) (λF j d=>?_) λ_ _ e=>e));exact lp (GL g d)
def Xg(C:Addr)(t:TA):TE:=λa H Q=>t a H λv A=>∃e d z,v=[.c e,.e z]/\A e=some (exH e C d)/\Q .g A
def Yp{K}(G:GrK K C D)(r:∀a o,K.lookup a=some o->Y.K.lookup a=some o)(hg:Gl Y hx)(U:Y.d hx=some (.ref D))(E:(hx == ("__debug__":Str))=false)(ha:PA Y [e1,e2] ta)(cC:tL Y.g C (.ref D::veM) fI)
 (w:Av [e1,e2] Y.a=(false,eval e1 Y.a)::Av [e2] Y.a:=by rfl) (y:(backTo cp (Av [e2] Y.a)).any (·.1)=false:=by rfl)
 (hline:(ap.endLine == cp.line)=true) (i:B4 (.Name hx np) "__init__" Y.a (eval (.Name hx np) Y.a)=eval (.Name hx np) Y.a:=by rfl)
 (l:((backTo cp (Av [e1,e2] Y.a)).all (λx=>!x.1)&&(G3 cp (Fp [] Y.a)).all (λx=>x.1.isSome)&&decide ([e1,e2].length+([]:List Keyword).length+(if ([]:List Keyword).isEmpty then 0 else 1)<30))=true:=by rfl) :
 PE Y (.Call (.Attribute (.Name hx np) "__init__" ap) [e1,e2] [] cp) (Xg C ta):=by
 intro p s V H Q I h;have T:K.In s.heap:=λa o e=>I.kIn a o (r a o e);refine oN i l hline (wA I hg U (λpl=>?_) E);refine PySem.W.method_cls T G.sp (PySem.W.cls_value T G.rd G.fc rfl ?_);have R:=ha cp p {s with toks:=s.toks+1} V H _ (I.tok _) h
 rw[w]at R ⊢;refine Ez (by show (false||(backTo cp (Av [e2] Y.a)).any (·.1))=false;rw[y];rfl) (De ?_)
 refine thn R λZ L X=>?_;obtain⟨vs,H2,J,O,e,dx,z,v,B,q⟩:=X;subst v;obtain⟨n,f,rfl,t,M⟩:∃n f,Z=n::f/\RelV (.c e) n/\Vals [.e z] f:=by cases O with|cons a b=>exact⟨_,_,rfl,a,b⟩
 cases t;obtain⟨t0,A⟩:=mT (J.j e _ B);obtain⟨nm,q',N,bs,sn,P,ab,col,dd,k0,k1,k2,k3,k5,mN,oI,hC,_⟩:=cC.keeps J.bk;obtain⟨h2,g2,d2,F,S⟩:=L;refine iS (Ci.two D) hC A (by rw[<-M.length];show 1<=Ao;rw[AL];decide) λh' k m=>⟨.g,H2,?_,rfl,q⟩
 have:=J.write (x:=e) (e:=e) (o:=exH e C dx) (t':=F) (by rw[B];exact A5) (.inl rfl) (λb u hb z=>k b u hb z) ⟨_,m⟩ (iI m)
 rwa [QT B]at this
def Ry(C:Addr)(h t:TE)(f:Str):TS:=λD b H=>t b H λy B=>h b B λx A=>∃e,x=.c e /\
 ((A e=some (exH e C none)/\∀d,A d=none->d≠e->D.a b (upd (upd A d (dcH d [(f,y)])) e (exH e C (some d)))) \/
  ∃d g,A e=some (exH e C (some d))/\A d=some (dcH d g)/\d≠e/\g.length<1000/\D.a b (upd A d (dcH d (rV f y g))))
def XU{K}(G:GrK K C D)(X:∀a o,K.lookup a=some o->Y.K.lookup a=some o)(cC:tL Y.g C (.ref D::veM) fI)
 (O:findIn K (.ref C) f=some none) (I:Inv Y pins σ H s) (he:H e=some (exH e C none)) (ry:RelV y u) (h:∀d s',H d=none->d≠e->Inv Y pins σ (upd (upd H d (dcH d [(f,y)])) e (exH e C (some d))) s'->Q () s'):wpAny (model Y.f Y.w) A (setAttr (.ref e) f u) Q E s:=by
 have KI:K.In s.heap:=λa o z=>I.kIn a o (X a o z);obtain⟨t0,k⟩:=mT (I.j e _ he);obtain⟨nm,Z,N,bs,sn,sub',ab,col,dd,k0,k1,k2,k3,k5,mN,oI,hC,_⟩:=cC.keeps I.bk;have L:e≠C:=λz=>by subst z;rw[k]at hC;cases hC
 obtain⟨i,g2,d2,t2,F⟩:=s;refine qB (x:=e) (mA:=λ_=>none) (ns:=[]) (Gm.two D) hC KI G.sa O L ⟨_,k,rfl,λc z=>(by cases z),.inl ⟨rfl,λ_=>rfl⟩⟩ (λh' T I' B m=>?_) (λn hn=>absurd rfl hn) (Be _)
 obtain⟨o1,e1,c1,c2,c3,_,c5⟩:=m _ k;have P:=c5 rfl;have lt:=Ag k;have J:o1=exO C (some i.objs.size) t0:=by obtain⟨oc,l,odt,osl⟩:=o1;simp only at c1 c2 c3 P;subst c1 c2 c3 P;rfl
 subst J;obtain⟨o2,e2,_,_,U⟩:=I';rw[e1]at e2;cases e2;rcases U with⟨z,_⟩|⟨dx,z,ne,M⟩
 . cases z
 . have hz:dx=i.objs.size:=by cases z;rfl
   subst hz;obtain⟨l,es,ep,eo,r⟩:=id M;have t:i.objs.size≠e:=λz=>Bj _ (z▸lt);refine h i.objs.size _ (I.j.fresh (Ac _)) t ?_;have S:l.isFreed=false:=(Heap.get?_some_iff.mp eo).2;have n1:(i.push l).get? i.objs.size=some l:=Au i S;have I1:=I.laid (h':=i.push l) (a:=i.objs.size) (o:=dcH i.objs.size [(f,y)]) (t':=t2) (λb v q=>rg _ q) (Ac _) (au (mA:=λz=>if z=f then some u else none) ⟨l,es,ep,n1,r⟩ (λg=>?_) λg hg=>?_)
   . refine I1.write (x:=e) (e:=e) (o:=exH e C (some i.objs.size)) (t':=T) (by rw[zG (Bh t),he];exact A5) (.inl rfl) (λb v hb q=>?_) ⟨_,e1⟩ (iI e1)
     by_cases hbd:b=i.objs.size
     . subst hbd
       have Z:(i.push l).get? i.objs.size=some v:=q;rw[n1]at Z;cases Z;exact eo
     . refine B b v hb (λp dx h0 W=>?_) ?_
       . rw[show (⟨i,g2,d2,t2,F⟩:Shared).heap=i from rfl]at k
         have R:i.get? e=some p:=h0;rw[k]at R;cases R;cases W
       . rcases Heap.get?_push_cases (show (i.push l).get? b=some v from q) with⟨z,_⟩|z
         . exact absurd z hbd
         . exact z
   . show lq (([(f,y)]:List (Str × V)).lookup g) (if g=f then some u else none)
     by_cases q:g=f
     . subst q;rw[if_pos rfl];simp only[An,beq_self_eq_true];exact ry
     . rw[if_neg q]
       have:(g == f)=false:=by simpa using q
       simp only[An,this,List.lookup_nil];exact A5
   . by_cases q:g=f
     . subst q;exact .head _
     . exact absurd (if_neg q) hg
def bc{K}(G:GrK K C D)(Z:∀a o,K.lookup a=some o->Y.K.lookup a=some o)(cC:tL Y.g C (.ref D::veM) fI)
 (O:findIn K (.ref C) f=some none) (I:Inv Y pins σ H s) (he:H e=some (exH e C (some d))) (hd:H d=some (dcH d fs)) (S:d≠e) (hl:fs.length<1000) (ry:RelV y u) (h:∀s',Inv Y pins σ (upd H d (dcH d (rV f y fs))) s'->Q () s'):wpAny (model Y.f Y.w) A (setAttr (.ref e) f u) Q E s:=by
 have KI:K.In s.heap:=λa o z=>I.kIn a o (Z a o z);obtain⟨X,k⟩:=mT (I.j e _ he);obtain⟨R,M,r,wi⟩:=aq (I.j d _ hd);obtain⟨nm,F,N,bs,sn,sub',ab,col,dd,k0,k1,k2,k3,k5,mN,oI,hC,_⟩:=cC.keeps I.bk;have L:e≠C:=λz=>by subst z;rw[k]at hC;cases hC
 obtain⟨T,g2,d2,t2,os2⟩:=s;refine qB (x:=e) (mA:=R) (ns:=fs.map (·.1)) (Gm.two D) hC KI G.sa O L ⟨_,k,rfl,λc z=>(by cases z),.inr ⟨d,rfl,S,M⟩⟩ (λh' V I' p m=>?_) wi (by rw[rt,AL];omega)
 obtain⟨o1,e1,c1,c2,c3,c4,_⟩:=m _ k;have B:=c4 d rfl;have t:o1=exO C (some d) X:=by obtain⟨oc,od,odt,osl⟩:=o1;simp only at c1 c2 c3 B;subst c1 c2 c3 B;rfl
 subst t;obtain⟨o2,e2,_,_,U⟩:=I';rw[e1]at e2;cases e2;rcases U with⟨z,_⟩|⟨P,z,ne,l⟩
 . cases z
 . have hz:P=d:=by cases z;rfl
   subst hz;refine h _ (I.write (x:=P) (e:=P) (t':=V) (by rw[hd];exact A5) (.inl rfl) (λb v hb q=>?_) (let ⟨o,_,_,z,_⟩:=l;⟨o,z⟩) (au l (λg=>?_) λg hg=>?_))
   . by_cases hbe:b=e
     . subst hbe
       have F:T.get? b=some v:=q;have i:T.get? b=some (exO C (some P) X):=k;rw[i]at F;cases F;exact e1
     . refine p b v hbe (λn dx' h0 W=>?_) q
       have J:T.get? e=some n:=h0;have i:T.get? e=some (exO C (some P) X):=k;rw[i]at J;cases J;cases W;exact hb
   . show lq ((rV f y fs).lookup g) (if g=f then some u else R g)
     rw[r8];by_cases q:g=f
     . rw[if_pos q,if_pos q];exact ry
     . rw[if_neg q,if_neg q];exact r g
   . by_cases q:g=f
     . rw[q];exact(rO f y fs).1
     . refine(rO f y fs).2 g (wi g λz=>hg ?_)
       show (if g=f then some u else R g)=none
       rw[if_neg q];exact z
def Y6{K}(G:GrK K C D)(b:∀a o,K.lookup a=some o->Y.K.lookup a=some o)(t:tL Y.g C (.ref D::veM) fI)(c:findIn K (.ref C) f=some none)(P:PE Y eo ta)(J:PE Y ev tv)
 (N:D9 ev (some (.Attribute eo f ap)) pos.line Y.a=pure false:=by rfl):PS Y (.Assign [.Attribute eo f ap] ev pos) (Ry C ta tv f):=by
 intro p s i H L I h;refine plainObj_wpAny_Assign_Attribute (thn (J p s i H _ I h) λu v z=>?_) N;obtain⟨y,V,T,r,q1⟩:=z;refine thn (P p v i V _ T q1) λE X z=>?_;obtain⟨x,F,B,w,e,R,q⟩:=z;subst R;obtain rfl:E=AA e:=w;rcases q with⟨l,q⟩|⟨d,Z,l,n,m,Q,q⟩
 . exact XU G b t c B l r λd j n k A=>⟨i,_,A,q d n k⟩
 . exact bc G b t c B l n m Q r λj A=>⟨i,_,A,q⟩
end
def Rb(l:PE X a ta)(k:PE X b tb)(K:c2.length<=1000) :
 PE X (.JoinedStr [.FormattedValue a (-1) none p2,.Constant (.str c2) k2 p3,.FormattedValue b (-1) none p4] pos) (tFs ta tb):=by
 intro p s c H Q I h;refine JoinedStr_many (CJ (DV ?_));refine thn (l p _ c H _ I h) λu E z=>?_;obtain⟨x,D,B,g,i,n,f,q1⟩:=z;subst n;obtain⟨v,rfl⟩:=g;have J:=uw f;refine DM (Aw (vZ f) (by decide)) ⟨?_,CJ (DA ⟨?_,CJ (DV ?_)⟩)⟩
 . rw[AM,AL,show Dh.length=0 from rfl];omega
 . rw[AM,AM,AL,show Dh.length=0 from rfl];omega
 refine thn (k p _ c D _ (B.tok _) q1) λo w z=>?_;obtain⟨y,C,A,r,j,m,d,q⟩:=z;subst m;obtain⟨t,rfl⟩:=r;have G:=uw d;refine DM (Aw (vZ d) (by decide)) ⟨?_,joinParts_nil ⟨.e _,C,A.tok _,⟨_,rfl⟩,q _⟩ ?_⟩
 . rw[AM,AM,AM,AL,show Dh.length=0 from rfl];omega
 . rw[AM,AM,AM,AL,show Dh.length=0 from rfl];omega
def aB(b:List Stmt):Prop:=∃(z:Str) (v a u t s o n m l p i q1 h g q f d c r:Pos) (k:Nat),z.length<=1000/\b =
 [.Expr (.Call (.Attribute (.Name "HueError" v) "__init__" a) [.Name "self" u,.JoinedStr [.FormattedValue (.Name "many" t) (-1) none s,.Constant (.str z) k o,.FormattedValue (.Name "most" n) (-1) none m] l] [] p) i,
  .Assign [.Attribute (.Name "self" q1) "many" h] (.Name "many" g) q,.Assign [.Attribute (.Name "self" f) "most" d] (.Name "most" c) r]/\(a.endLine == p.line)=true
noncomputable def inN:List Str:=["self","many","most"]
def grF(a b:Int):List (Str × V):=rV "most" (.d b) [("many",.d a)]
def spI(C:Addr):Sp:=λv H Q _=>∃e a b,v=[.c e,.d a,.d b]/\a.natAbs<2 ^ 64/\b.natAbs<2 ^ 64/\H e=some (exH e C none) /\
 ∀d,H d=none->d≠e->Q .g (upd (upd (upd H d (dcH d [("many",.d a)])) e (exH e C (some d))) d (dcH d (grF a b)))
structure ju(K:Aa)(mg:Str->Option Value)(D f:Addr)(fd:BB):Prop where
 ex:∃(x qual:Str) (st:Stmt),Fun K x qual st f fd/\x9 inN inN (zD st)/\Binds K fd inN []/\aB (yG st) /\
  (zD st).names.lookup ("self":Str)=some .local/\(zD st).names.lookup ("many":Str)=some .local/\(zD st).names.lookup ("most":Str)=some .local/\(zD st).names.lookup ("HueError":Str)=some .globalImplicit
 hu:mg "HueError"=some (.ref D)
def Ze{K Kc}(S:ju K mg D f fd)(G:GrK Kc C D)(l:∀a o,Kc.lookup a=some o->K.lookup a=some o)(cC:tL base C (.ref D::veM) f)
 (hh:A.handled=none) (M:A.depth<Cq) (e0:qE P w K mg base A outer s H) (U:BindsTo s fd ⟨us,[]⟩ (inN.zip us)) (r:Vals vs us) (Z:spI C vs H Q E0):codeAny (model P w) A (.call (.ref f) ⟨us,[]⟩) (CR CX0 outer P w H s Q E0) s:=by
 refine byG λt h=>?_;obtain⟨x,i,n,F,Sc,hb,⟨z,p1,p2,p3,p4,p5,p6,p7,p8,p9,pa,pb,q1,q2,q3,q4,r1,r2,r3,r4,kk,hz,W,L⟩,l0,l1,l2,lg⟩:=S.ex;refine h ?_;refine byG λt h=>?_;obtain⟨oc,od,kV,doc,pm,an,k,ct,osl,rfl,lk,O⟩:=F.a;refine h ?_;refine byG λt h=>?_;obtain⟨e,a,b,Y,ha,hb',he,q⟩:=Z;refine h ?_;subst Y;refine sL (CX:=CX0) (E:=E0) (R:=CR CX0 outer P w H s Q E0) (N:=inN) (vs:=[.c e,.d a,.d b]) lk O Sc M e0 U rfl r λs1 I1 _=>?_;rw[uQ hh]at I1;have V:∀{p:Pos},PE (yN CX0 P w K mg base inN i (zD n) f k A outer s H E0) (.Name "self" p) (wL 0):=λ{p}=>wU rfl (.inl l0) (by decide) (by decide)
 have v1:∀{p:Pos},PE (yN CX0 P w K mg base inN i (zD n) f k A outer s H E0) (.Name "many" p) (wL 1):=λ{p}=>wU rfl (.inl l1) (by decide) (by decide)
 have v2:∀{p:Pos},PE (yN CX0 P w K mg base inN i (zD n) f k A outer s H E0) (.Name "most" p) (wL 2):=λ{p}=>wU rfl (.inl l2) (by decide) (by decide)
 have ht:PSs (yN CX0 P w K mg base inN i (zD n) f k A outer s H E0) (yG n) (oZ (Up (Xg C (xJ (wL 0) (xJ (tFs (wL 1) (wL 2)) uz)))) (oZ (Ry C (wL 0) (wL 1) "many") (Ry C (wL 0) (wL 2) "most"))):=by rw[W];exact ya (sU (Yp G l lg S.hu (by decide) (yR V (yR (Rb v1 v2 hz) yV)) cC (hline:=L))) (ya (Y6 G l cC G.a V v1) (wB (Y6 G l cC G.b V v2)))
 unfold lj;refine AD (ht [] s1 (start inN [.c e,.d a,.d b]) H {a:=λ_ I=>Q .g I,b:=Q} I1 ?_) (λfl s' y=>?_) λe s' z=>z
 . refine⟨_,rfl,_,rfl,a,rfl,ha,_,rfl,b,rfl,hb',λzz=>⟨e,none,zz,rfl,he,?_⟩⟩
   refine⟨_,rfl,_,rfl,e,rfl,.inl ⟨he,λd hd m=>?_⟩⟩;exact⟨_,rfl,_,rfl,e,rfl,.inr ⟨d,[("many",.d a)],zJ,by rw[zG m,zJ],m,(by show 1<1000;decide),q d hd m⟩⟩
 . cases fl with
   |ret u=>
    refine byG λt h=>?_;obtain⟨v,T,I,J,rv,X⟩:=y;refine h ?_;exact⟨v,I,J.P,J.D,J.B,J.j,rv,X⟩
   |next=>
    refine byG λt h=>?_;obtain⟨T,I,J,X⟩:=y;refine h ?_;exact⟨.g,I,J.P,J.D,J.B,J.j,rfl,X⟩
   |brk=>obtain⟨_,_,_,z⟩:=y;exact As z
   |cont=>obtain⟨_,_,_,z⟩:=y;exact As z
def Inv.re(I:Inv X pins σ H s)(h:∀b,H b=none->H' b=none)(t:∀b u,H b=some u->(∀y,u≠.k y)->H' b=some u)(r:HOk X.f X.w H' s.heap):Inv X pins σ H' s:=by
 refine⟨I.C,I.P,I.D,⟨I.B.f,I.B.i,λb o e n A=>h b (I.B.d b o e n A),I.B.c,λb v e=>t b _ (I.B.l b v e) nofun,λb o u e=>t b _ (I.B.g b o u e) nofun,λb z e=>?_⟩,I.M,I.J,h _ I.G,λx c e=>h _ (I.F x c e),λp E=>?_,r,I.R⟩
 . obtain⟨m,q⟩:=I.B.j b z e
   exact⟨m,t b _ q nofun⟩
 . obtain⟨a,b,c⟩:=I.O p E
   exact⟨a,h _ b,c⟩
def XRG(X:Cx)(C d:Addr)(H:Hp):Prop:=∀(p:List (Addr × Obj)) (σ:St) (s:Shared),Inv X p σ H s->∀(h1:Heap) (e t:Addr),(∀b o,s.heap.get? b=some o->h1.get? b=some o)->s.heap.get? e=none->h1.get? e=some (exO C (some d) t)->X.i (.ref e) {s with heap:=h1}
def Vx(X:Cx)(C:Addr)(t:TA):TS:=λ_ c H=>t c H λv A=>∃a b:Int,v=[.d a,.d b]/\a.natAbs<2 ^ 64/\b.natAbs<2 ^ 64/\∀d,A d=none->XRG X C d (upd A d (.l (grF a b)))
def bQ(hr:xM k X.A)(hg:Gl X x)(hm:X.d x=some (.ref C))(cC:tL X.g C (.ref D::veM) f)(S:ju X.K X.d D f fd)(G:GrK Kc C D)(M:∀a o,Kc.lookup a=some o->X.K.lookup a=some o)(hb:Binds X.K fd inN [])(ha:PA X [e1,e2] t)
 (hdb:(x == ("__debug__":Str))=false) (he:Av [e1,e2] X.a=(false,eval e1 X.a)::Av [e2] X.a) (hpl:(backTo cpos (Av [e2] X.a)).any (·.1)=false):PS X (.Raise (some (.Call (.Name x np) [e1,e2] [] cpos)) none pos) (Vx X C t):=by
 intro R s σ H D' I h;have cC0:=cC;refine byG λU i=>?_;obtain⟨nm,q,N,bs,sn,L,ab,col,dd,k0,k1,k2,k3,k5,mN,oI,hC,hN,hi,hfI,hfc⟩:=cC;refine i ?_;refine sr (C:=C) (nm:=nm) (q:=q) (N:=N) (bs:=bs) (bm:=.ref D::veM) (hdct:=true) (sn:=sn) (sub:=L) (ab:=ab) (col:=col) (dd:=dd) (k0:=k0) (k1:=k1) (k2:=k2) (k3:=k3) (k5:=k5) (newId:="ValueError.__new__") (Ci.two D).a hr.a ?_ (wA I hg hm ⟨rfl,?_⟩ hdb)
 . rw[he];exact hpl
 . rw[he]
   refine De ?_;have q:=ha cpos R s σ H _ I h;rw[he]at q;refine AD q (λY s1 hq=>?_) λ_ _ z=>z;refine byG λU i=>?_;obtain⟨vs,E,Z,r,a,b,hvs,sa,sb,hx⟩:=hq;refine i ?_;subst hvs;have hC1:=Z.bk _ _ hC;refine⟨rfl,hC1,?_⟩;have W:Y.length=2:=r.length.symm;refine byG λU i=>?_;obtain⟨h1,g1,d1,t1,os1⟩:=s1;refine i ?_;refine uf (Ci.two D) hC1 (hN.keeps Z.bk) hi (Z.bk _ _ hfI) hfc (λh' e m hz=>?_) (by show Y.length<=Ao;rw[W,AL];decide)
   refine byG λU i=>?_;obtain⟨t0,he0,_,_⟩:=m.there;refine i ?_;have I2:=Z.laid (h':=h') (a:=e) (o:=exH e C none) (t':=t1) m.keeps hz (iI (t:=t0) he0);have hHe:E e=none:=Z.j.fresh hz;have r2:Vals (V.c e::[V.d a,V.d b]) (AA e::Y):=.cons rfl r;have hsp:spI C (V.c e::[V.d a,V.d b]) (upd E e (exH e C none)) (λv H2=>v=.g/\∃d,E d=none/\d≠e/\H2=upd (upd (upd (upd E e (exH e C none)) d (dcH d [("many",.d a)])) e (exH e C (some d))) d (dcH d (grF a b))) E0:=
    ⟨e,a,b,rfl,sa,sb,zJ,λd hd w=>⟨rfl,d,by rw[zG w]at hd;exact hd,w,rfl⟩⟩
   have hbt:=hb ⟨h',g1,d1,t1,os1⟩ (AA e::Y) I2.kIn (by rw[AJ,AX,W];rfl)
   rw[AJ]at hbt;refine Dd (Cw (Ze S G M cC0 (show (X.A.under (.builtin "type.__call__" ⟨.ref C::Y,[]⟩)).handled=none from hr.a) (by have:=hr.c;rw[ir];omega) (I2.wQ.make C Y []) hbt r2 hsp) λrr s' B=>?_)
   cases rr with
   |error z=>exact As B
   |ok fl=>
    cases fl with
    |ret u=>
     refine byG λU i=>?_;obtain⟨v,H',Q,rv,ev,d,hd,w,hH⟩:=I2.after B;refine i ?_;subst ev;subst hH;obtain rfl:u=AY:=rv;refine⟨rfl,e,?_⟩;obtain⟨t3,he3⟩:=mT (Q.j e _ (by rw[zG (Bh w),zJ]))
     refine byG λU i=>?_;obtain⟨mA,hns,hrel,_⟩:=aq (Q.j d _ zJ);refine i ?_;refine⟨t3,some d,rfl,Q.bk _ _ hC,he3,?_⟩
     have J:∀c,c≠e->c≠d->upd (upd (upd (upd E e (exH e C none)) d (dcH d [("many",.d a)])) e (exH e C (some d))) d (dcH d (grF a b)) c=E c:=λc z1 z2=>by rw[zG z2,zG z1,zG z2,zG z1]
     have n:upd (upd (upd (upd E e (exH e C none)) d (dcH d [("many",.d a)])) e (exH e C (some d))) d (dcH d (grF a b)) e=some (exH e C (some d)):=by rw[zG (Bh w),zJ]
     have T:upd (upd (upd (upd E e (exH e C none)) d (dcH d [("many",.d a)])) e (exH e C (some d))) d (dcH d (grF a b)) d=some (dcH d (grF a b)):=zJ;generalize upd (upd (upd (upd E e (exH e C none)) d (dcH d [("many",.d a)])) e (exH e C (some d))) d (dcH d (grF a b))=H3 at Q J n T;have sm:∀c u,H3 c=some u->(∀φ,u≠.k φ)->upd E d (.l (grF a b)) c=some u:=λc u z nx=>by
      have c1:c≠e:=λy=>by rw[y,n]at z;cases z;exact nx _ rfl
      have P:c≠d:=λy=>by rw[y,T]at z;cases z;exact nx _ rfl
      rw[zG P,<-J c c1 P];exact z
     have I4:=Q.re (H':=upd E d (.l (grF a b))) (λc z=>?_) sm λc u z=>?_
     . have I5:=I4.turned (it:=e) (h':=hideAll s'.heap [e]) (t':=s'.toks) (λc o z y=>hideAll_get _ y (by simpa using z)) (by rw[zG (Bh w)];exact hHe) (λz=>by have:=Q.G;rw[<-z,n]at this;cases this) (.inr (Aq Z.sz hz)) (λx c z y=>by have:=Q.F x c z;rw[y,n]at this;cases this) λp hp z=>by have:=(Q.O p hp).2.1;rw[z,n]at this;cases this
       exact hx d hd R σ _ I5 s'.heap e t3 (λc o z=>of_hideAll _ z) (hideAll_none _ (.head _)) he3
     . have c1:c≠e:=λy=>by rw[y,n]at z;cases z
       have P:c≠d:=λy=>by rw[y,T]at z;cases z
       rw[zG P,<-J c c1 P];exact z
     . by_cases P:c=d
       . subst P
         rw[zJ]at z;cases z;exact⟨mA,hns,hrel⟩
       . rw[zG P]at z
         have c1:c≠e:=λy=>by rw[y,hHe]at z;cases z
         exact(Q.j c u (by rw[J c c1 P];exact z)).pq (λ_ _ _ y=>y) (λc' y=>sm c' _ y nofun) λc' xs y=>sm c' _ y nofun
    |next=>exact As B
    |brk=>exact As B
    |cont=>exact As B
def X6{K}
 (a:E (.ref C) (some d) H):XRG (yN (CXE P w) P w K mg base N qual scope f cd A outer s₀ H₀ E) C d H:=λ_ _ _ I _ _ _ k n h=>pZ I k n h rfl rfl a
end L2
end
section
namespace L2
open PySem PySem.W PySem.Spec PyProof PyProof.Rows
def pU{K:Aa}:Passes (CXE P w) (tJ (CXE P w) P w K mg base N qual scope f cd cl A outer s₀ H₀ E) E:=by
 rintro p σ H s e s' I ⟨a,t,O,J,rfl,m,Z⟩;obtain⟨g,B,u,v,r,F,l⟩:=m.h;show wpAny _ _ _ _ _ _;have Q:Inv (tJ (CXE P w) P w K mg base N qual scope f cd cl A outer s₀ H₀ E) p σ J {s with heap:=g}:=I.call (g':=s.gens) (t':=s.toks) (d':=s.drawn) (ch:=[]) u v I.D λb z=>absurd z (by simp)
 have Y:∀b,(b<s₀.heap.objs.size\/J b≠none)->b≠s₀.heap.objs.size:=λb c z=>by
  subst z;rcases c with c|c
  . exact Bj _ c
  . exact c Q.G
 have k:∀b,b∈frs outer->b∈frs (envX qual scope s₀.heap.objs.size f cd cl::outer):=λb c=>Af _ c;refine vd (base:=B) (env:=envX qual scope s₀.heap.objs.size f cd cl) (outer:=outer) (L:=s₀.heap.objs.size) I.C.g rfl l λW T R=>?_;refine⟨a,t,O,J,rfl,⟨m.j.trans I.P,m.d,λb c=>m.i b (k b c),g,B,Q.B,v,λb o e n c=>?_,λb o e c=>?_,T⟩,Z⟩
 . refine r b o e (λV=>?_) ?_
   . rcases Al.mp (show b∈s₀.heap.objs.size::frs outer from V) with z|z
     . exact Y b c z
     . exact n z
   . rcases c with c|c
     . exact .inl (Aw c I.sz)
     . exact .inr c
 . obtain⟨S,y⟩:=F b o e (k b c)
   obtain⟨_,U,x,X⟩:=l.2.2.1.mem (k b c);rw[y]at x;cases x;obtain⟨q,M⟩:=R b _ y X;exact⟨q,M⟩
def Inv.UM(I:Inv X pins σ H s)(f:t7 X.f X.w X.h H s H' a cls dd s'):Inv X pins σ H' s':=by obtain⟨u,c⟩:=f.un;obtain⟨i,g,d,t,o⟩:=s';obtain rfl:o=s.os:=f.j;exact I.call (h':=i) (g':=g) (d':=d) (t':=t) (ch:=[]) u c f.d λb z=>absurd z (by simp)
def t7.obj(f:t7 X.f X.w X.h H s H' a cls dd s')(I:Inv X pins σ H s):∃F,s'.heap.get? a=some F/\F.cls=cls/\H' a=none/\s.heap.get? a=none/\(∃L,F.data=.fields L)/\F.dict=dd:=by
 refine byG λK v=>?_;obtain⟨g,B,u,Z,A,fr,J⟩:=f.h;refine v ?_;refine byG λK v=>?_;obtain⟨f1,D,O,F,L,_,_,_,P,R,Q,_⟩:=id J;refine v ?_;have z:a ∉ frs X.h:=λV=>by refine byG λK v=>?_;obtain⟨_,N,T,G⟩:=O.mem V;refine v ?_;rw[P]at T;cases T;exact G L Q
 refine⟨F,P,R.1,?_,?_,⟨L,Q⟩,R.2⟩
 . cases q:H' a with
   |none=>rfl
   |some o=>
    have t:=(Z a o q);have:∃x,g.get? a=some x:=by
     have Y:=t.lt;cases qg:g.get? a with
     |some x=>exact⟨x,rfl⟩
     |none=>
      exfalso;cases o with
      |b xs=>obtain⟨_,_,_,_,e⟩:=t;rw[qg]at e;cases e
      |c xs=>obtain⟨_,_,_,x,e,_⟩:=t;rw[qg]at e;cases e
      |i E=>obtain⟨_,_,_,_,x,_,_,e,_⟩:=t;rw[qg]at e;cases e
      |m E=>obtain⟨_,_,_,_,x,_,_,e,_⟩:=t;rw[qg]at e;cases e
      |j S n=>obtain⟨x,_,_,_,e,_⟩:=t;rw[qg]at e;cases e
      |p C dx M=>obtain⟨_,_,_,e,_⟩:=t;rw[qg]at e;cases e
      |d y=>obtain⟨_,e⟩:=t;rw[qg]at e;cases e
      |l M=>obtain⟨_,⟨_,_,_,e,_⟩,_⟩:=t;rw[qg]at e;cases e
      |r U W=>obtain⟨_,_,_,e⟩:=t;rw[qg]at e;cases e
      |e x u=>obtain⟨e,_⟩:=t;rw[qg]at e;cases e
      |g ps=>have e:g.get? a=some _:=t;rw[qg]at e;cases e
      |q f y=>have e:g.get? a=some _:=t;rw[qg]at e;cases e
      |k φ=>obtain⟨_,⟨_,e⟩,_⟩:=t;rw[qg]at e;cases e
    obtain⟨x,e⟩:=this;rw[A a x e z (.inr (by rw[q];exact nofun))]at D
    cases D
 . cases q:s.heap.get? a with
   |none=>rfl
   |some o=>
    obtain⟨N,e⟩:=u.c a o q (by simp)
    rw[A a N e z (.inl (Ag q))]at D;cases D
def Inv.adopt(I:Inv X [] σ H s)(Y:H a=none)(r:s.heap.get? a=some oe)(A:oe.data=.fields vs)(Z:X.l.heap.get? a=none)(t:X.q=[]):Inv X [] σ (upd H a (.e oe (.d 0))) s:=by
 have N:∀b,H b≠none->b≠a:=λb n z=>n (by rw[z];exact Y)
 have Q:X.a.locals≠a:=λz=>by obtain⟨m,⟨o,L,O,e,d,_⟩,_⟩:=I.M;rw[z,r]at e;cases e;rw[A]at d;cases d
 have T:∀x c,X.a.cells.lookup x=some c->c≠a:=λx c e z=>by obtain⟨v,o,E,d⟩:=I.J x c e;rw[z,r]at E;cases E;rw[A]at d;cases d
 have h:∀b u,H b=some u->upd H a (.e oe (.d 0)) b=some u:=λb u e=>by rw[zG (N b (by rw[e];exact nofun))];exact e
 refine⟨I.C,I.P,I.D,⟨I.B.f,I.B.i,λb o e n V=>?_,I.B.c,λb w e=>h _ _ (I.B.l b w e),λb o u e=>h _ _ (I.B.g b o u e),λb K e=>?_⟩,I.M,I.J,?_,λx c e=>?_,λp y=>?_,λb u e=>?_,I.R⟩
 . rw[zG (λz=>by rw[z,Z]at e;cases e)];exact I.B.d b o e n V
 . obtain⟨k,q⟩:=I.B.j b K e
   exact⟨k,h _ _ q⟩
 . rw[zG Q];exact I.G
 . rw[zG (T x c e)];exact I.F x c e
 . rw[t]at y;cases y
 . by_cases z:b=a
   . subst z
     rw[zJ]at e;cases e;exact⟨r,oe,r⟩
   . rw[zG z]at e
     exact(I.j b u e).pq (λ_ _ _ q=>q) (λc q=>h _ _ q) λc w q=>h _ _ q
def Inv.gone(I:Inv X [] σ H s)(T:h'.Ns X.a.locals m')(m:D8 X.a.locals s.heap h')(w:X.q=[]):Inv X [] (Ay X.N.length none) H {s with heap:=h',toks:=tk}:=by
 have h:∀b o,X.l.heap.get? b=some o->b≠X.a.locals:=λb o e=>AB (Aw (Ag e) I.C.d);refine⟨I.C,I.P,I.D,⟨λb o e n A k=>?_,λb o e n A k=>?_,I.B.d,λb o e k=>?_,I.B.l,I.B.g,I.B.j⟩,⟨m',T,λi x v t E V=>?_⟩,λy c e=>?_,I.G,I.F,λp K=>?_,λb u e=>?_,by simp⟩
 . exact(m.2 b (h b o e)).trans (I.B.f b o e n A k)
 . obtain⟨Q,t⟩:=I.B.i b o e n A k
   exact⟨Q,(m.2 b (h b o e)).trans t⟩
 . obtain⟨R,t⟩:=I.B.c b o e k
   exact⟨R,(m.2 b (h b o e)).trans t⟩
 . rw[Ep]at E
   split at E<;>cases E
 . obtain⟨v,z⟩:=I.J y c e
   exact⟨v,z.sameBut m (I.cne y c e)⟩
 . rw[w]at K;cases K
 . refine(I.j b u e).pq (λc v r q=>(m.2 c ?_).trans q) (λ_ q=>q) λ_ _ q=>q
   rintro rfl;have z:=I.G;rcases r with rfl|r
   . rw[z]at e;cases e
   . rw[z]at r;cases r
def dy
 (h:wpAny (model prog w) (A.mark (some (.ref e))) (eval t env) (λc j=>Looks (model prog w) j.heap (excMatches (.ref e) c) true /\
  wpAny (model prog w) (A.mark (some (.ref e))) (ES (.ref e) none) (λ_ S=>
   wpAny (model prog w) (A.mark (some (.ref e))) (He env n (.ref e)) (λ_ O=>
    wpAny (model prog w) (A.mark (some (.ref e))) (execs (b₀::suite) env)
     (λf M=>wpAny (model prog w) A (do bindName env n .none;unbindBehindTheSuite env n pos) (λ_ F=>Q f F) E M)
     (AsSuiteRaised (model prog w) (A.mark (some (.ref e))) env n pos (notedBy (model prog w) (A.mark (some (.ref e))) env (F0 (model prog w) A env E))) O) (notedBy (model prog w) (A.mark (some (.ref e))) env (F0 (model prog w) A env E)) S) (notedBy (model prog w) (A.mark (some (.ref e))) env (F0 (model prog w) A env E)) j) (notedBy (model prog w) (A.mark (some (.ref e))) env (F0 (model prog w) A env E)) s) :
 wpAny (model prog w) A (handleBy (.ref e) env (.ExceptHandler (some t) (some n) (b₀::suite) pos::rest)) Q E s:=by
 refine wpAny_handleBy_cons (codeAny_handlers_test (AD h (λc j a=>?_) λ_ _ y=>y)) (by intro q;cases q)
 obtain⟨L,b⟩:=a;exact L.here (codeAny_handlers_suite_as b)
def uP(A K:Aa):Prop:=∀a o,A.lookup a=some o->K.lookup a=some o
def uP.inn{Kc K}(s:uP Kc K)(x:K.In h):Kc.In h:=λa o e=>x a o (s a o e)
def XC(X:Cx)(E:Value->Option Addr->Hp->Prop)(e:Value)(s:Shared):Prop:=∃(a:Addr) (c:Value) (dd:Option Addr) (σ2:St) (H:Hp) (s2:Shared) (H':Hp),e=.ref a/\Inv X [] σ2 H s2/\t7 X.f X.w X.h H s2 H' a c dd s/\E c dd H'
def pI(e:h.get? a=some o)(b:o.cls=cls):Looks M h (typeOf (.ref a)) cls:=b▸(Looks.ld e).andThen .now
def qp{g B h c:Heap}(m:∀b o,g.get? b=some o->b∈frs l->∃j,h.get? b=some {o with slots:=j})(n:h.FunFrames B l)(i:h.UpToSlots c):∀b o,g.get? b=some o->b∈frs l->∃j,c.get? b=some {o with slots:=j}:=λb o e a=>by obtain⟨j,f⟩:=m b o e a;obtain⟨_,q,d,k⟩:=n.mem a;rw[f]at d;cases d;obtain⟨s,p⟩:=i b _ f k;exact⟨s,p⟩
def gw(I:Inv X [] σ H s)(Y:X.q=[])(hxn:X.m=[])(hN:X.N.Nodup)(hl:X.a.scope.names.lookup n=some .local)(hi:X.N[ie]?=some n)
 (t:X.h=X.a::X.k) (hfr:X.a.frame=some X.a.locals) (hg:Gl X hx) (hdb:(hx == ("__debug__":Str))=false) (hm:X.d hx=some (.ref hue)) (hb:PSs (X.wy (XC X EE)) body tb) (hq:tb D σ H)
 (hex:∀y L O,EE y L O->(∃Kc,uP Kc X.K/\exmOne Kc y (.ref hue)=some true)/\∀a F (σ2:St),O a=none->F.cls=y->F.dict=L->(∀c,F.data≠.cls c)->σ2.length=X.N.length->ts {a:=λ_ _=>False,b:=D.b} (σ2.set ie (some (.c a))) (upd O a (.e F (.d 0))))
 (hs:∀a:Addr,PSs (X.loud (X.A.mark (some (.ref a)))).nox (b₀::suite) ts) :
 wpAny (model X.f X.w) X.A (exec (.Try body [.ExceptHandler (some (.Name hx np)) (some n) (b₀::suite) hpos] [] [] pos) X.a) (SP X [] D) X.i s:=by
 refine wpAny_Try_except (AD (hb [] s σ H D (I.wy _) hq) (λf s1 E=>?_) λe s1 hx'=>?_)
 . have q:=E.xN
   cases f with
   |next=>
    refine byG λV p=>?_;obtain⟨σ1,H1,I1,q1⟩:=q;refine p ?_;exact lF [] s1 σ1 H1 D I1 q1
   |brk=>exact q
   |cont=>exact q
   |ret u=>exact q
 . refine byG λV p=>?_
   obtain⟨a,y,L,σ2,H2,s2,O,rfl,P,f,hE⟩:=hx';refine p ?_;obtain⟨x,hx2⟩:=hex y L O hE;refine byG λV p=>?_;obtain⟨g,B,u,hk,W,fr,J⟩:=f.h;refine p ?_;have U:=J;rw[t]at J;have hA:X.A.frames=some (X.a::X.k):=by rw[<-t];exact I.C.g
   refine qL hA hfr J λh4 G T=>?_;refine lW G λh5 S Q=>?_;have r:Heap.wX B X.h a y L h5:=by rw[t];exact S
   have f5:t7 X.f X.w X.h H2 s2 O a y L {s1 with heap:=h5}:=⟨f.j,f.d,f.i,g,B,u,hk,W,qp fr U.2.2.1 (T.trans Q),r⟩
   have I5:=(P.UM f5).loud (A':=X.A.mark (some (.ref a))) (by rw[t];exact hA)
   refine dy (wA (X:=X.loud (X.A.mark (some (.ref a)))) I5 hg hm ⟨?_,?_⟩ hdb)
   . refine byG λV p=>?_
     obtain⟨F,e1,e2,_⟩:=f5.obj P;refine p ?_;obtain⟨Kc,sub,x⟩:=x;exact exm_one (sub.inn I5.kIn) (pI e1 e2) x
   . refine ml r λh6 Z sm6=>?_
     have f6:t7 X.f X.w X.h H2 s2 O a y L {s1 with heap:=h6}:=⟨f.j,f.d,f.i,g,B,u,hk,W,qp (qp fr U.2.2.1 (T.trans Q)) r.2.2.1 sm6,Z⟩
     refine byG λV p=>?_;obtain⟨F,e1,e2,e3,e4,⟨vs,e5⟩,e6⟩:=f6.obj P;refine p ?_;have I6:=P.UM f6;have h0:X.l.heap.get? a=none:=by
      cases q:X.l.heap.get? a with
      |none=>rfl
      |some o=>
       have hne:a ∉ X.m:=by rw[hxn];exact nofun
       obtain⟨o',q'⟩:=P.B.c a o q hne;rw[e4]at q';cases q'
     have I7:=(I6.adopt e3 e1 e5 h0 Y).loud (A':=X.A.mark (some (.ref a))) (by rw[t];exact hA)
     refine si (X:=X.loud (X.A.mark (some (.ref a)))) (v:=.c a) I7 hN hi (.inl hl) rfl (λs8 I8=>?_) (.inr hl);refine AD ((hs a) [] s8 _ _ {a:=λ_ _=>False,b:=D.b} (I8.wy _) (hx2 a F σ2 e3 e2 e6 (λc z=>by rw[e5]at z;cases z) P.R)) (λfl s9 E=>?_) λ_ _ z=>As z
     have q:=E.xN;cases fl with
     |next=>obtain⟨_,_,_,z⟩:=q;exact As z
     |brk=>obtain⟨_,_,_,z⟩:=q;exact As z
     |cont=>obtain⟨_,_,_,z⟩:=q;exact As z
     |ret u=>
      refine byG λV p=>?_;obtain⟨v,σ',H3,I9,rv,q9⟩:=q;refine p ?_;have I10:Inv X [] σ' H3 s9:=I9.calm I.C;obtain⟨m,hn,_⟩:=I10.M;exact wpAny_nameGoes hl hn (by rw[I.C.a];rfl) λh' m' hn' hs'=>⟨v,_,H3,I10.gone hn' hs' Y,rv,q9⟩
end L2
end
section
namespace L2
open PySem PySem.W PySem.Spec PyProof PyProof.Rows
open Sem (wp)
structure vv(K:Aa)(C:Addr):Prop where
 ga:findIn K (.ref C) "__getattribute__"=some (some (.builtin "BaseException.__getattribute__"))
 gt:findIn K (.ref C) "__getattr__"=some none
 cl:findIn K (.ref C) "__class__"=some (some (.builtin "object.__class__"))
 be:subIn K (.ref C) (.type "BaseException")=some true
 ob:subIn K (.ref C) (.type "object")=some true
 it:(clsIn K C).isSome=true
section
variable {prog:Program}{w:World}{A:Around}{E:Value->Shared->Prop}{h:Heap}{g:Array GenState}{d:Drawn}{t:Nat}{os:OsState}{a C:Addr}{o:Obj}{K:Aa}
def fF(F:vv K C)(X:K.In h)(c:h.get? a=some o)(f:o.cls=.ref C)(i:R (.ok (.ret (.ref C))) ⟨h,g,d,t,os⟩) :
 codeAny (model prog w) A (.call (.builtin "getset_descriptor.__get__") ⟨[.builtin "object.__class__",.ref a,.ref C],[]⟩) R ⟨h,g,d,t,os⟩:=by
 have b:(⟨h,g,d,t,os⟩:Shared).TypeIs (.builtin "object.__class__") "getset_descriptor":=DO;have L:Looks (model prog w) h (isSubtype (.ref C) (.type (".".intercalate ("object.__class__".cutAt '.').dropLast))) true:=by rw[PySem.F.owner_object_class];exact looks_subIn X F.ob
 refine B7 Fg.plain PySem.F.entry_gs_get (Fg.check _ _ _ _ _ _ _ _ b (PySem.F.args_gs_get _ _ _) ?_)
 repeat (any_goals (first|assumption|(with_reducible refine AG c ?_;rw[f])|with_reducible refine L.at ?_|wp_step))
 refine⟨CP _ (by decide +kernel),codeAny_builtin PySem.F.entry_object_class ?_⟩
 repeat (any_goals (first|assumption|(with_reducible refine AG c ?_;rw[f])|wp_step))
def la(F:vv K C)(X:K.In h)(b:h.get? a=some o)(c:o.cls=.ref C)(i:Q (.done (.ret (.ref C))) ⟨h,g,d,t,os⟩) :
 wpAny (model prog w) A (Builtin.«object.__getattribute__» ⟨[.ref a,.str "__class__" tk],[]⟩) Q E ⟨h,g,d,t,os⟩:=by
 have f:(⟨h,g,d,t,os⟩:Shared).TypeIs (.builtin "object.__class__") "getset_descriptor":=DO;have m:=DO;have l:=Fg.lookup;have k:=PySem.F.slot_gs_set.lookup;have L:=Ej (M:=model prog w) X F.cl
 repeat (any_goals (first|assumption|(with_reducible refine AG b ?_;rw[c])|with_reducible refine L.at ?_|wp_step))
 refine fF F X b c ?_
 repeat (any_goals (first|assumption|wp_step))
def sx(F:vv K C)(X:K.In h)(c:h.get? a=some o)(k:o.cls=.ref C)(f:Q () ⟨h,g,d,t,os⟩):wpAny M A (Ck "BaseException.__getattribute__" ⟨[.ref a,nameV],[]⟩) Q E ⟨h,g,d,t,os⟩:=by
 have i:builtinKind "BaseException.__getattribute__"=some .slot:=by decide +kernel
 have b:splitId "BaseException.__getattribute__"=some ("BaseException","__getattribute__"):=by decide +kernel
 have L:=looks_subIn (M:=M) X F.be;have l:=PySem.F.args_bexc_ga (.ref a) nameV;simp only[Ck,i,b];refine lp ?_
 . unfold G6
   repeat (first|(with_reducible refine AG c ?_;rw[k])|with_reducible refine L.at ?_|wp_step)
   exact f
def jo(F:vv K C)(X:K.In h)(b:h.get? a=some o)(c:o.cls=.ref C)(f:R (.ok (.ret (.ref C))) ⟨h,g,d,t,os⟩) :
 codeAny (model prog w) A (.call (.builtin "BaseException.__getattribute__") ⟨[.ref a,.str "__class__" tk],[]⟩) R ⟨h,g,d,t,os⟩:=
 B7 C1.ga.plain PySem.F.entry_bexc_ga (sx F X b c (la F X b c f))
def bz{fill expr}(F:vv K C)(X:K.In h)(c:h.get? a=some o)(f:o.cls=.ref C)(l:Q (.ref C) ⟨h,g,d,t,os⟩) :
 wpAny (model prog w) A (getAttrBy (.ref a) (.str "__class__" tk) fill expr) Q E ⟨h,g,d,t,os⟩:=by
 have m:=C1.ga.bind (.ref a);have k:(expr&&Hh (Cj "BaseException.__getattribute__"))=false:=by cases expr<;>rfl
 have b:(Cj "BaseException.__getattribute__" == Cj "object.__getattribute__")=false:=by decide +kernel
 have i:(Hh (AA C)&&Cj "BaseException.__getattribute__" == Cj "object.__getattribute__")=false:=by rw[b];rfl
 have B:=Ej (M:=model prog w) X F.ga;have L:=Ej (M:=model prog w) X F.gt
 repeat (any_goals (first|assumption|(with_reducible refine AG c ?_;rw[f])|with_reducible refine B.at ?_|with_reducible refine L.at ?_|wp_step))
 refine jo F X c f ?_
 repeat (any_goals (first|assumption|wp_step))
def jn(F:vv K C)(X:K.In h)(b:h.get? a=some o)(c:o.cls=.ref C)(f:Q (some (.ref C)) ⟨h,g,d,t+1,os⟩):wpAny (model prog w) A (getAttr? (.ref a) "__class__") Q E ⟨h,g,d,t,os⟩:=by
 unfold getAttr? getAttrBy?
 repeat (any_goals (first|assumption|with_reducible apply bz F X b c|wp_step))
def YD(F:vv K C)(c:o.cls=.ref C):KitX K (.ref a) (.ref C) (λh=>h.get? a=some o) where
 ty:=λM h _ e=>pI e c
 it:=λM h X _=>by
  have z:=F.it;unfold clsIn at z;split at z
  . rename_i c' d' cd' sl' ho
    intro A' B D m k q;unfold isType loadHead;exact lp (wpAny_loadPart (k _ _ (X _ _ ho)) (Ae q))
  . cases z
 ne:=λh f p i n l X b=>by
  have z:=F.it;refine Bool.eq_false_iff.mpr λq=>?_;have e:C=f:=AA.inj (beq_iff_eq.mp q);subst e;unfold clsIn at z;split at z
  . rename_i c' d' cd' sl' ho
    have z:=(X _ _ ho).symm.trans b;cases z
  . cases z
 ca:=λ{prog w A E Q s} X e k=>by obtain⟨h,g,d,t,os⟩:=s;exact jn F X e c k
end
end L2
end
section
namespace L2
open PySem PySem.W PySem.Spec PySem.Calls PyProof PyProof.Rows
open SeqAt
def lI(K:Aa):V->List V->Hp->VK->Prop:=λx v H Q=>∃t a y j,x=.c t/\v=[y]/\SqL K H t a/\wG y=true/\a.all wG=true/\a.findIdx? (λz=>eqV z y)=some j/\Q (.d (j:Nat)) H
def OP(K:Aa):List V->Hp->VK->Prop:=λx H Q=>∃(a:Addr) (oe:Obj) (C:Addr) (g:V) (h:Value) (b:Bool) (A:Aa),x=[.c a,g]/\H a=some (.e oe (.d 0))/\oe.cls=.ref C/\uP A K/\vv A C/\(∀u,RelV g u->u=h)/\kitOne A (.ref C) h=some b/\Q (.f b) H
def cg:MtR X "list.index" (lI X.K):=by
 intro z s S H x U v W Q I G N h;obtain⟨t,p,y,j,rfl,rfl,V,L,C,R,q⟩:=h;cases G;obtain⟨u,rfl,J⟩:=vals1 N;obtain⟨a,r,P,f⟩:=I.list V;obtain⟨⟨O,M,D,E⟩,e,B,n,A⟩:=id P.isList;simp only at B A;subst B A;have c:=ZN (x:=y) r C;have b:∀(i:Nat) (h1:i<a.length) (h2:i<p.length),eqU y a[i]=eqV p[i] y:=λi h1 h2=>by
  have:=congrArg (·[i]?) c
  simp only[AZ,xd h1,xd h2,Gz,DG]at this;exact this
 have Y:=r.length;obtain⟨Z,o,k⟩:=EB.mp R;have g:a.length<=Ao:=by first|exact f|(rw[<-Y];exact f)|simpa using f
 rw[AL]at g;refine BO F.slot_list_index ⟨_,e,rfl⟩ F.entry_list_index (F.args_list_index_2 _ _) (list_indexAt t a.toArray n M E u (eqU y) j (by rw[Ab];omega) ⋯ ?_ λm c l=>?_) ⟨e,λw T=>vT J L r C w (by simpa using T),?_⟩
 . rw[List.getElem_toArray,b j ⋯ Z];exact o
 . rw[Ab]at c
   rw[List.getElem_toArray,b m c ⋯]
   have:=k m l;simpa using this
 . exact⟨.d _,H,I.tok _,⟨s.toks,rfl⟩,q⟩
def bK(d:PE X o to)(f:PE X e te)(h:B4 o "index" X.a (eval o X.a)=eval o X.a:=by rfl)(b:noStar e=true:=by rfl)(hline:(apos.endLine == cpos.line)=true:=by rfl) :
 PE X (.Call (.Attribute o "index" apos) [e] [] cpos) (tBM X.K "list" (lI X.K) to (xJ te uz)):=by
 have c:Av [e] X.a=(false,eval e X.a)::Av [] X.a:=zd b;refine eO Dx PySem.F.slot_list_index PySem.F.type_list_index cg d (pac f yV b) h ?_ hline c rfl;rw[c];rfl
def ly:yc X (.builtin "isinstance") (OP X.K):=by
 intro p s o H v u Q I r h;obtain⟨a,x,C,e,w,b,A,rfl,n,m,c,F,l,k,q⟩:=h;cases r with
 |cons i d=>
  cases d with
  |cons d g=>
   cases g;cases i;rw[l _ d];exact kia_one (YD F m) (c.inn I.kIn) (I.j a _ n).1 k (λz=>nomatch z) λt=>⟨.f b,H,I.tok t,rfl,q⟩
def Rj(g:Gl X c)(f:X.d c=some (.ref D))(a:(c == ("__debug__":Str))=false):PE X (.Name c p) (tC (.c D)):=λb s i H Q I h=>wA I g f ⟨.c D,H,I,rfl,h⟩ a
def Ra(l:Gl X c)(i:X.d c=none)(f:Cu c=some (.type n))(g:c≠"__name__")(a:(c == ("__debug__":Str))=false):PE X (.Name c p) (tC (.k n)):=λb s m H Q I h=>tY I l i f ⟨.k n,H,I,rfl,h⟩ g a
end L2
end
section
namespace L2
open PySem PySem.W PySem.Spec PySem.Calls PyProof PyProof.Rows
def uU(s:Scope):List Str->List Expr->Bool
 |[],j=>j.isEmpty
 |c::cs,j=>M.lc j λe j=>(M.eCN e λf F=>M.lc F λa w=>M.l1 w λb=>M.eName a λy _=>M.eName b λx _=>decide (f="isinstance")&&decide (y="_law_e")&&decide (x=c)&&decide (s.names.lookup c=some .globalImplicit)&&!(c == ("__debug__":Str)))&&uU s cs j
def rD:List Str->List Expr->Bool
 |[],j=>j.isEmpty
 |w::ws,j=>M.lc j λe j=>(M.WV e λc _ _=>decide (c=.str w))&&rD ws j
noncomputable def adr(m:Str->Option Value)(c:Str):Addr:=match m c with|some (.ref D)=>D|_=>0
def aN(h:mg c=some (.ref D)):adr mg c=D:=by unfold adr;rw[h]
def Xh(K:Aa)(d:V):TE:=tCB (OP K) (xJ (wL 0) (xJ (tC d) uz))
def gh(K:Aa)(m:Str->Option Value):List Str->TA
 |[]=>uz
 |c::cs=>xJ (Xh K (.c (adr m c))) (gh K m cs)
def jf:List Str->TA
 |[]=>uz
 |w::ws=>xJ (tC (.e w)) (jf ws)
structure KB(X:Cx)(sc:Scope):Prop where
 d:X.a.scope=sc
 l:X.N.Nodup
 n0:X.N[0]?=some ("_law_e":Str)
 j:X.N[1]?=some ("_law_marks":Str)
 n2:X.N[2]?=some ("_law_words":Str)
 l0:sc.names.lookup ("_law_e":Str)=some .local
 g:sc.names.lookup ("_law_marks":Str)=some .local
 i:sc.names.lookup ("_law_words":Str)=some .local
 gi:sc.names.lookup ("isinstance":Str)=some .globalImplicit
 gv:sc.names.lookup ("ValueError":Str)=some .globalImplicit
 mi:X.d "isinstance"=none
 mv:X.d "ValueError"=none
structure KS(K Kc:Aa)(C a:Addr)(oe:Obj)(H0:Hp)(σ:St)(H:Hp):Prop where
 c:σ[0]?=some (some (.c a))
 d:H a=some (.e oe (.d 0))
 e:oe.cls=.ref C
 F:vv Kc C
 b:uP Kc K
 f:xq H0 H
def KB.gl(B:KB X sc)(h:sc.names.lookup x=some .globalImplicit):Gl X x:=by show X.a.scope.names.lookup x=_;rw[B.d];exact h
def KB.vis(B:KB X sc)(h:sc.names.lookup x=some .local):Vis X.a.scope x:=by rw[B.d];exact .inl h
def KB.OC(B:KB X sc):PE X (.Name "_law_e" p) (wL 0):=wU B.n0 (B.vis B.l0) (by decide) (by decide)
def KB.Rf(B:KB X sc):PE X (.Name "_law_marks" p) (wL 1):=wU B.j (B.vis B.g) (by decide) (by decide)
def KB.NO(B:KB X sc):PE X (.Name "_law_words" p) (wL 2):=wU B.n2 (B.vis B.i) (by decide) (by decide)
def KB.OE(B:KB X sc)(b:sc.names.lookup c=some .globalImplicit)(h:(c == ("__debug__":Str))=false)(a:X.d c=some (.ref D)):PE X (.Call (.Name "isinstance" p1) [.Name "_law_e" p2,.Name c p3] [] p4) (Xh X.K (.c D)):=
 uc ly (B.gl B.gi) B.mi boot_isinstance (yR B.OC (yR (Rj (B.gl b) a h) yV))
def KB.Rc(B:KB X sc):PE X (.Call (.Name "isinstance" p1) [.Name "_law_e" p2,.Name "ValueError" p3] [] p4) (Xh X.K (.k "ValueError")):=
 uc ly (B.gl B.gi) B.mi boot_isinstance (yR B.OC (yR (Ra (B.gl B.gv) B.mv (by first|rfl|decide +kernel) (by decide) (by decide)) yV))
theorem KB.isl(B:KB X sc):∀{cs} {j},uU sc cs j=true->(∀c∈cs,∃D,X.d c=some (.ref D))->PA X j (gh X.K X.d cs)
 |[],j,h,_=>by cases A1.mp h;exact yV
 |c::cs,j,h,hm=>by replace h:=M.yX h;obtain⟨e,j,rfl,h⟩:=h;obtain⟨g,l⟩:=M.zU h;replace g:=M.yt g;obtain⟨f,t,p,q,rfl,g⟩:=g;replace g:=M.YE g;obtain⟨a,b,rfl,g⟩:=g;replace g:=M.y9 g;obtain⟨y,s,rfl,g⟩:=g;replace g:=M.y9 g;obtain⟨x,r,rfl,g⟩:=g;clear h;simp only[cf,decide_eq_true_eq,AI]at g;obtain⟨⟨⟨⟨rfl,rfl⟩,rfl⟩,n⟩,m⟩:=g;obtain⟨D,k⟩:=hm _ (Ar ..);refine yR ?_ (KB.isl B l λo i=>hm o (Af _ i));rw[aN k];exact B.OE n m k
theorem R8:∀{ws} {j},rD ws j=true->PA X j (jf ws)
 |[],j,h=>by cases A1.mp h;exact yV
 |w::ws,j,h=>by replace h:=M.yX h;obtain⟨e,j,rfl,h⟩:=h;obtain⟨d,a⟩:=M.zU h;obtain⟨c,k,p,rfl,b⟩:=M.qj d;obtain rfl:=of_decide_eq_true b;exact yR rS (R8 a)
def Zj{K:Aa}(S:KS K Kc C a oe H0 σ H)(g:∀u,RelV dv u->u=du)(h:kitOne Kc (.ref C) du=some b)(q:Q (.f b) H):Xh K dv σ H Q:=
 ⟨_,S.c,a,oe,C,dv,du,b,Kc,rfl,S.d,S.e,S.b,S.F,g,h,q⟩
theorem mf{K:Aa}(S:KS K Kc C a oe H0 σ H)(b:Str->Bool):∀{cs} {Q},(∀c∈cs,kitOne Kc (.ref C) (.ref (adr mg c))=some (b c))->Q (cs.map λc=>.f (b c)) H->gh K mg cs σ H Q
 |[],_,_,q=>q
 |c::cs,Q,hk,q=>Zj S (λu z=>z) (hk c (Ar ..)) (mf S b (λj e=>hk j (Af _ e)) q)
theorem pv:∀{ws} {Q},Q (ws.map V.e) H->jf ws σ H Q
 |[],_,q=>q
 |w::ws,Q,q=>pv (ws:=ws) q
def xG(h:H p=none):xq H (upd H p o):=λb u e=>by rw[zG (zR e h)];exact e
def KS.new{K:Aa}(S:KS K Kc C a oe H0 σ H)(h:H p=none):KS K Kc C a oe H0 σ (upd H p o):=⟨S.c,xG h _ _ S.d,S.e,S.F,S.b,S.f.trans (xG h)⟩
def KS.put{K:Aa}(S:KS K Kc C a oe H0 σ H):KS K Kc C a oe H0 (σ.set (i+1) (some v)) H:=⟨by rw[BA ⋯];exact S.c,S.d,S.e,S.F,S.b,S.f⟩
def VG{K:Aa}{b:Str->Bool}(S:KS K Kc C a oe H0 σ H)(i:3<=σ.length)(g:cs.length<=1000)(d:∀c∈cs,kitOne Kc (.ref C) (.ref (adr mg c))=some (b c))
 (q:∀p e F,KS K Kc C a oe H0 e F->e.length=σ.length->e[1]?=some (some (.c p))->F p=some (.b (cs.map λc=>.f (b c)))->D.a e F):tu (gj (gh K mg cs)) (wH 1) D σ H:=
 mf S b d ⟨by rw[rt,AL];omega,λp h=>q p _ _ (S.new h).put (by simp) (by rw[AR ⋯]) zJ⟩
def mw{K:Aa}{b:Str->Bool}(S:KS K Kc C a oe H0 σ H)(n:3<=σ.length)(l:σ[1]?=some (some (.c p0)))(d:H p0=some (.b (ds.map λc=>.f (b c))))(m:ds.length+cs.length<=1000)(k:∀c∈cs,kitOne Kc (.ref C) (.ref (adr mg c))=some (b c))
 (q:∀p e F,KS K Kc C a oe H0 e F->e.length=σ.length->e[1]?=some (some (.c p))->F p=some (.b ((ds++cs).map λc=>.f (b c)))->D.a e F):tu (tOp Vi (wL 1) (gj (gh K mg cs))) (wH 1) D σ H:=by
 refine⟨_,l,mf S b k ⟨by rw[rt,AL];omega,λg h=>⟨p0,g,_,_,rfl,rfl,by rw[zG (zR d h)];exact d,zJ,by rw[rt,rt,AL];omega,λp i=>?_⟩⟩⟩
 refine q p _ _ ((S.new h).new i).put (by simp) (by rw[AR ⋯]) ?_
 rw[zJ,CW]
noncomputable def ans(p:Option Str)(w:Str):Str:=match p with|none=>w|some x=>x++w
def ON:R2:=λx y H Q=>∃i j,x=.e i/\y=.e j/\i.length+j.length<=Ao/\Q (.e (i++j)) H
def dA(K:Aa)(w:List Str):TE:=tOp (Ru K) (tOp Vi (wL 2) (gj (jf w))) (tBM K "list" (lI K) (wL 1) (xJ (tC (.f true)) uz))
def gk(K:Aa)(p:Option Str)(w:List Str):TE:=match p with
 |none=>dA K w
 |some x=>tOp ON (tC (.e x)) (dA K w)
def tMk(K:Aa)(m:Str->Option Value)(c:List Str):TS:=tu (tOp Vi (wL 1) (gj (gh K m c))) (wH 1)
def Uq(K:Aa)(m:Str->Option Value)(h g b c a w:List Str)(p:Option Str)(o:Str):TS:=
 oZ (tu (gj (gh K m h)) (wH 1)) (oZ (tMk K m g) (oZ (tMk K m b) (oZ (tMk K m c)
  (oZ (Oo (tOr (Oq (tB (Xh K (.k "ValueError")))) (dB (tOp rNe (tBM K "list" (pX K false) (wL 1) (xJ (tC (.f true)) uz)) (tC (.d 1))))) (jd (tC (.e o))) Ur)
   (oZ (tu (gj (jf a)) (wH 2)) (jd (gk K p w)))))))
def KB.pick(B:KB X sc){l2}(w:rD ws2 l2=true)(h:(ap.endLine == cp.line)=true) :
 PE X (.Subscript (.BinOp (.Name "_law_words" p1) .Add (.List l2 p2) p3) (.Call (.Attribute (.Name "_law_marks" p4) "index" ap) [.Constant (.bool true) k p5] [] cp) p6) (dA X.K ws2):=
 Uh eD (k8 gA B.NO (pV (R8 w))) (bK B.Rf Yk (hline:=h)) (λ_ _=>rfl)
def KB.mks(B:KB X sc){es}(h:uU sc cs es=true)(a:∀c∈cs,∃D,X.d c=some (.ref D)) :
 PS X (.Assign [.Name "_law_marks" p1] (.BinOp (.Name "_law_marks" p2) .Add (.List es p3) p4) p5) (tMk X.K X.d cs):=
 uA B.l B.j (by rw[B.d];exact .inl B.g) (k8 gA B.Rf (pV (B.isl h a))) (hf:=.inr (by rw[B.d];exact B.g))
def YB(B:KB X sc)
 (t:uU sc cs1 e1=true) (s:uU sc cs2 e2=true) (q:uU sc cs3 e3=true) (p:uU sc cs4 e4=true) (b:∀c∈cs1++cs2++cs3++cs4,∃D,X.d c=some (.ref D)) (w:rD ws1 l1=true) (a:(ap.endLine == cp.line)=true) (o:PE X r (gk X.K pre ws2)) :
 PSs X [.Assign [.Name "_law_marks" a1] (.List e1 a2) a3,.Assign [.Name "_law_marks" b1] (.BinOp (.Name "_law_marks" b2) .Add (.List e2 b3) b4) b5,.Assign [.Name "_law_marks" c1] (.BinOp (.Name "_law_marks" c2) .Add (.List e3 c3) c4) c5,
  .Assign [.Name "_law_marks" d1] (.BinOp (.Name "_law_marks" d2) .Add (.List e4 d3) d4) d5,
  .If (.BoolOp .Or [.UnaryOp .Not (.Call (.Name "isinstance" f1) [.Name "_law_e" f2,.Name "ValueError" f3] [] f4) f5,.Compare (.Call (.Attribute (.Name "_law_marks" f6) "count" ap) [.Constant (.bool true) k1 f7] [] cp) [.NotEq] [.Constant (.int 1) k2 f8] f9] fa) [.Return (some (.Constant (.str odd) k3 fb)) fc] [] fd,
  .Assign [.Name "_law_words" g1] (.List l1 g2) g3,.Return (some r) r1] (Uq X.K X.d cs1 cs2 cs3 cs4 ws1 ws2 pre odd):=by
 have n:∀c∈cs1,∃D,X.d c=some (.ref D):=λc h=>b c (by simp[h])
 have k:∀c∈cs2,∃D,X.d c=some (.ref D):=λc h=>b c (by simp[h])
 have f:∀c∈cs3,∃D,X.d c=some (.ref D):=λc h=>b c (by simp[h])
 have m:∀c∈cs4,∃D,X.d c=some (.ref D):=λc h=>b c (by simp[h])
 refine ya (uA B.l B.j (by rw[B.d];exact .inl B.g) (pV (B.isl t n)) (hf:=.inr (by rw[B.d];exact B.g))) (ya (B.mks s k) (ya (B.mks q f) (ya (B.mks p m) (ya ?_ (ya
  (uA B.l B.n2 (by rw[B.d];exact .inl B.i) (pV (R8 w)) (hf:=.inr (by rw[B.d];exact B.i))) (wB (vI o)))))))
 exact jF (OK (gK (Rq B.Rc)) (Rr (lG Ub (nO B.Rf Yk (hline:=a)) Yq (pO _ (by decide) (by decide))))) (wB (vI rS)) lF
def fU{a:List Str}{b:Str->Bool}:(a.map λc=>V.f (b c)).all wG=true:=by rw[E6,Ak];intro _ _;rfl
def YX{a:List Str}(n:a.Nodup)(h:c0∈a):((a.map λc=>V.f (decide (c=c0))).countP λz=>eqV z (.f true))=1:=by
 rw[List.countP_map];have e:((λz=>eqV z (.f true))∘λc=>V.f (decide (c=c0)))=λc:Str=>c == c0:=by
  funext c;by_cases z:c=c0
  . subst z;simp[eqV]
  . simp[eqV,z]
 rw[e];have d:a.count c0<=1:=List.nodup_iff_count.mp n c0;have b:0<a.count c0:=List.count_pos_iff.mpr h;show a.count c0=1;omega
def Wu{a:List Str}(n:a.Nodup)(b:a[i]?=some c0):(a.map λc=>V.f (decide (c=c0))).findIdx? (λz=>eqV z (.f true))=some i:=by
 obtain⟨d,h⟩:=Ax.mp b;rw[EB];refine⟨by rw[rt];exact d,by rw[Co,h];simp[eqV],λj g=>?_⟩
 rw[Co];have:a[j]≠c0:=λz=>by rw[<-h]at z;exact absurd ((List.getElem_inj n).mp z) ⋯
 simp[eqV,this]
def YC{K:Aa}{i:Nat}(S:KS K Kc C a oe H0 σ H)(hl:3<=σ.length)(B:(cs1++cs2++cs3++cs4).Nodup)(hz:(cs1++cs2++cs3++cs4).length<=100)(v:(ws1++ws2).length<=100)
 (G:(cs1++cs2++cs3++cs4)[i]?=some c0) (E:(ws1++ws2)[i]?=some w) (hwl:w.length<=100) (j:∀x,pre=some x->x.length<=100) (t:∀c∈cs1++cs2++cs3++cs4,kitOne Kc (.ref C) (.ref (adr mg c))=some (decide (c=c0))) (hv:kitOne Kc (.ref C) (.type "ValueError")=some true)
 (q:∀F,xq H0 F->D.b (.e (ans pre w)) F):Uq K mg cs1 cs2 cs3 cs4 ws1 ws2 pre odd D σ H:=by
 simp only[Ah]at hz v;have k1:∀c∈cs1,kitOne Kc (.ref C) (.ref (adr mg c))=some (decide (c=c0)):=λc h=>t c (by simp[h])
 have W:∀c∈cs2,kitOne Kc (.ref C) (.ref (adr mg c))=some (decide (c=c0)):=λc h=>t c (by simp[h])
 have U:∀c∈cs3,kitOne Kc (.ref C) (.ref (adr mg c))=some (decide (c=c0)):=λc h=>t c (by simp[h])
 have O:∀c∈cs4,kitOne Kc (.ref C) (.ref (adr mg c))=some (decide (c=c0)):=λc h=>t c (by simp[h])
 refine VG (b:=λc=>decide (c=c0)) S hl ⋯ k1 λp1 R H1 S1 n1 e1 q1=>?_
 refine mw (b:=λc=>decide (c=c0)) (ds:=cs1) S1 ⋯ e1 q1 ⋯ W λp2 P H2 S2 n2 e2 Z=>?_
 refine mw (b:=λc=>decide (c=c0)) (ds:=cs1++cs2) S2 ⋯ e2 Z (by rw[Ah];omega) U λp3 N H3 S3 n3 e3 Y=>?_
 refine mw (b:=λc=>decide (c=c0)) (ds:=cs1++cs2++cs3) S3 ⋯ e3 Y (by rw[Ah,Ah];omega) O λs d A J n4 I r=>?_
 have n:c0∈cs1++cs2++cs3++cs4:=AH G;refine Zj J (λu z=>z) hv ⟨true,rfl,?_⟩;refine rK ?_;refine⟨_,I,?_,s,_,.f true,rfl,rfl,.inl (.inl r),rfl,fU,rfl,_,rfl,?_⟩
 . exact .inl ⟨rfl,_,.inl (.inl r)⟩
 rw[YX B n];refine rK ?_;refine pv ⟨by rw[rt,AL];omega,λg m=>?_⟩
 have S5:KS K Kc C a oe H0 (d.set 2 (some (.c g))) (upd A g (.b (ws1.map V.e))):=(J.new m).put;have e5:(d.set 2 (some (V.c g)))[1]?=some (some (.c s)):=by rw[BA ⋯];exact I
 have X:upd A g (.b (ws1.map V.e)) s=some (.b ((cs1++cs2++cs3++cs4).map λc=>V.f (decide (c=c0)))):=by rw[zG (zR r m)];exact r
 have p:∀Q:VK,(∀F,xq H0 F->Q (.e w) F)->dA K ws2 (d.set 2 (some (.c g))) (upd A g (.b (ws1.map V.e))) Q:=λQ hQ=>by
  refine⟨_,by rw[AR ⋯],pv ⟨by rw[rt,AL];omega,λM k=>⟨g,M,_,_,rfl,rfl,by rw[zG (zR zJ k)];exact zJ,zJ,by rw[rt,rt,AL];omega,λL l=>?_⟩⟩⟩
  have y:=xG (o:=.b (ws1.map V.e++ws2.map V.e)) l _ _ (xG (o:=.b (ws2.map V.e)) k _ _ X);refine⟨_,e5,.inl ⟨rfl,_,.inl (.inl y)⟩,s,_,.f true,i,rfl,rfl,.inl (.inl y),rfl,fU,Wu B G,L,_,i,.e w,rfl,rfl,.inl (.inl zJ),?_,hQ _ ((S5.f.trans (xG k)).trans (xG l))⟩;obtain⟨h1,h2⟩:=Ax.mp E;rw[Ah]at h1;unfold atI ixN;rw[<-CW,if_pos ⋯,rt,Ah,if_pos ⋯]
  show (Cm V.e (ws1++ws2))[(i:Int).toNat]?=_;rw[CD,AZ,E];rfl
 cases pre with
 |none=>exact p _ q
 |some x=>
  refine p _ λF T=>⟨x,w,rfl,rfl,?_,q F T⟩;have:=j x rfl;rw[AL];omega
noncomputable def kN:List Str:=["_law_e","_law_marks","_law_words"]
inductive aD(sc:Scope)(cs ws:List Str)(pre:Option Str)(body:List Stmt):Prop
 |mk (cs1 cs2 cs3 cs4 ws1 ws2:List Str) (odd:Str) (e1 e2 e3 e4 l1 l2:List Expr) (r s:Expr) (a1 a2 a3 b1 b2 b3 b4 b5 c1 c2 c3 c4 c5 d1 d2 d3 d4 d5 f1 f2 f3 f4 f5 f6 f7 f8 f9 fa fb fc fd g1 g2 g3 ap cp r1 q1 q2 q3 q4 q5 q6 ap2 cp2 t1 t2:Pos) (k1 k2 k3 k4 k5:Nat)
  (hb:body=[.Assign [.Name "_law_marks" a1] (.List e1 a2) a3,.Assign [.Name "_law_marks" b1] (.BinOp (.Name "_law_marks" b2) .Add (.List e2 b3) b4) b5,.Assign [.Name "_law_marks" c1] (.BinOp (.Name "_law_marks" c2) .Add (.List e3 c3) c4) c5,
   .Assign [.Name "_law_marks" d1] (.BinOp (.Name "_law_marks" d2) .Add (.List e4 d3) d4) d5,
   .If (.BoolOp .Or [.UnaryOp .Not (.Call (.Name "isinstance" f1) [.Name "_law_e" f2,.Name "ValueError" f3] [] f4) f5,.Compare (.Call (.Attribute (.Name "_law_marks" f6) "count" ap) [.Constant (.bool true) k1 f7] [] cp) [.NotEq] [.Constant (.int 1) k2 f8] f9] fa) [.Return (some (.Constant (.str odd) k3 fb)) fc] [] fd,
   .Assign [.Name "_law_words" g1] (.List l1 g2) g3,.Return (some r) r1])
  (hs:s=.Subscript (.BinOp (.Name "_law_words" q1) .Add (.List l2 q2) q3) (.Call (.Attribute (.Name "_law_marks" q4) "index" ap2) [.Constant (.bool true) k4 q5] [] cp2) q6)
  (hr:match pre with|none=>r=s|some x=>r=.BinOp (.Constant (.str x) k5 t1) .Add s t2)
  (hc:(uU sc cs1 e1&&uU sc cs2 e2&&uU sc cs3 e3&&uU sc cs4 e4&&rD ws1 l1&&rD ws2 l2&&(ap.endLine == cp.line)&&(ap2.endLine == cp2.line))=true) (h1:cs=cs1++cs2++cs3++cs4) (h2:ws=ws1++ws2)
structure n5(K:Aa)(mg:Str->Option Value)(x:Str)(cs ws:List Str)(pre:Option Str):Prop where
 ex:∃(st:Stmt) (f:Addr) (fd:BB),mg x=some (.ref f)/\Fun K x x st f fd/\x9 kN ["_law_e"] (zD st)/\Binds K fd ["_law_e"] []/\aD (zD st) cs ws pre (yG st) /\
  ((zD st).names.lookup ("_law_e":Str)=some .local/\(zD st).names.lookup ("_law_marks":Str)=some .local/\(zD st).names.lookup ("_law_words":Str)=some .local/\(zD st).names.lookup ("isinstance":Str)=some .globalImplicit/\(zD st).names.lookup ("ValueError":Str)=some .globalImplicit)
 b:∀c∈cs,∃D,mg c=some (.ref D)
 mi:mg "isinstance"=none
 mv:mg "ValueError"=none
 nd:cs.Nodup
 hz:cs.length<=100
 a:ws.length<=100
 hw:∀w∈ws,w.length<=100
 hp:∀x,pre=some x->x.length<=100
structure Uz(Kc:Aa)(mg:Str->Option Value)(cs:List Str)(C:Addr)(c0:Str):Prop where
 F:vv Kc C
 a:∀c∈cs,kitOne Kc (.ref C) (.ref (adr mg c))=some (decide (c=c0))
 ve:kitOne Kc (.ref C) (.type "ValueError")=some true
def Named(K:Aa)(m:Str->Option Value)(c:List Str)(C:Addr)(a:Str):Prop:=∃A,uP A K/\Uz A m c C a
def tKC(K:Aa)(m:Str->Option Value)(b h:List Str)(p:Option Str)(k:Nat):TE:=λg H Q=>∃(a:Addr) (oe:Obj) (C:Addr) (f:Str) (i:Nat) (w:Str),g[k]?=some (some (.c a))/\H a=some (.e oe (.d 0))/\oe.cls=.ref C/\Named K m b C f /\
 b[i]?=some f/\h[i]?=some w/\∀A,xq H A->Q (.e (ans p w)) A
def cJ(F:n5 X.K X.d x cs ws pre)(hdp:X.A.depth<Cq)(hg:Gl X x)(hdb:(x == ("__debug__":Str))=false)(hN:X.N[ie]?=some e)(hv:Vis X.a.scope e)(hd1:(e == ("__debug__":Str))=false)(hd2:(e == ("__classdict__":Str))=false) :
 PE X (.Call (.Name x p) [.Name e p2] [] pos) (tKC X.K X.d cs ws pre ie):=by
 rintro T s σ H Q I ⟨a,oe,C,c0,i,w,h0,ha,hc,Z,hi,hw,q⟩;obtain⟨o,f,fd,hm,Fn,S,hb,sh,hl0,hl1,hl2,hgi,hgv⟩:=F.ex;refine BZ (wA I hg hm ?_ hdb);have hpa:PA X [.Name e p2] (xJ (wL ie) uz):=yR (wU hN hv hd1 hd2) yV;refine Eb (h₀:=X.g) I.C.i.a Fn.b (thn (hpa pos T s σ H (λvs G=>vs=[V.c a]/\G=H) I ⟨_,h0,rfl,rfl⟩) λus m ⟨vs,G,I1,r,hvs,hH⟩=>⟨I1.kIn,?_⟩);subst hvs hH;obtain⟨oc,od,kV,doc,pm,an,k,ct,osl,rfl,lk,hcd⟩:=Fn.a;have hl:us.length=1:=by rw[<-r.length];rfl
 have O:=hb m us I1.kIn (by rw[AJ];exact hl)
 rw[AJ]at O;refine Dd (Cw (sL (CX:=CX0) (E:=E0) (R:=CR CX0 X.h X.f X.w G m Q E0) (N:=kN) lk hcd S hdp I1.wQ O rfl r λs2 I2 _=>?_) λr s' L=>?_)
 . have I3:=I2.loud (A':=X.A.deeper (envOfC x (zD o) m.heap.objs.size f k)) (E2 I1.wQ.a)
   have B:KB ((yN CX0 X.f X.w X.K X.d X.g kN x (zD o) f k {X.A with handled:=none} X.h m G E0).loud (X.A.deeper (envOfC x (zD o) m.heap.objs.size f k))).nox (zD o):=
    ⟨rfl,S.b,rfl,rfl,rfl,hl0,hl1,hl2,hgi,hgv,F.mi,F.mv⟩
   obtain⟨cs1,cs2,cs3,cs4,ws1,l,Y,e1,e2,e3,e4,l1,l2,rr,ss,a1,a2,a3,b1,b2,b3,b4,b5,c1,c2,c3,c4,c5,d1,d2,d3,d4,d5,f1,f2,f3,f4,f5,f6,f7,f8,f9,fa,fb,fc,fd,g1,g2,g3,ap,cp,r1,q1,q2,q3,q4,q5,q6,ap2,cp2,t1,t2,k1,k2,k3,k4,k5,n,y,hr,M,hcs,W⟩:=sh;simp only[cf]at M;obtain⟨⟨⟨⟨⟨⟨⟨y1,y2⟩,y3⟩,y4⟩,y5⟩,y6⟩,y7⟩,y8⟩:=M;subst hcs W y;have hpe:PE ((yN CX0 X.f X.w X.K X.d X.g kN x (zD o) f k {X.A with handled:=none} X.h m G E0).loud (X.A.deeper (envOfC x (zD o) m.heap.objs.size f k))).nox rr (gk X.K pre l):=by
    cases pre with
    |none=>subst hr;exact B.pick y6 y8
    |some x=>subst hr;exact k8 pR rS (B.pick y6 y8)
   have t:=YB B (a1:=a1) (a2:=a2) (a3:=a3) (b1:=b1) (b2:=b2) (b3:=b3) (b4:=b4) (b5:=b5) (c1:=c1) (c2:=c2) (c3:=c3) (c4:=c4) (c5:=c5) (d1:=d1) (d2:=d2) (d3:=d3) (d4:=d4) (d5:=d5) (f1:=f1) (f2:=f2) (f3:=f3) (f4:=f4) (f5:=f5) (f6:=f6) (f7:=f7) (f8:=f8) (f9:=f9) (fa:=fa) (fb:=fb) (fc:=fc) (fd:=fd) (g1:=g1) (g2:=g2) (g3:=g3) (ap:=ap) (cp:=cp) (r1:=r1) (k1:=k1) (k2:=k2) (k3:=k3) (odd:=Y) (pre:=pre) (ws2:=l) y1 y2 y3 y4 F.b y5 y7 hpe;unfold lj;rw[n];obtain⟨Kc,U,Z⟩:=Z;have KS0:KS X.K Kc C a oe G (start kN [.c a]) G:=⟨rfl,ha,hc,Z.F,U,xq.refl _⟩;refine AD (t [] s2 (start kN [.c a]) G {a:=λ_ _=>False,b:=Q} (I3.wy _) (YC KS0 (show 3<=3 from Ac _) F.nd F.hz F.a hi hw (F.hw _ (AH hw)) F.hp Z.a Z.ve λH' sm=>q H' sm)) (λfl s' y=>?_) λ_ _ z=>As z;cases fl with
   |ret u=>
    obtain⟨v,σ',H',J,rv,q'⟩:=y;exact⟨v,H',J.P,J.D,J.B,J.j,rv,q'⟩
   |next=>obtain⟨_,_,_,z⟩:=y;exact As z
   |brk=>obtain⟨_,_,_,z⟩:=y;exact As z
   |cont=>obtain⟨_,_,_,z⟩:=y;exact As z
 . cases r with
   |error e=>exact As L
   |ok fl=>
    cases fl with
    |ret u=>exact I1.after L
    |next=>exact As L
    |brk=>exact As L
    |cont=>exact As L
structure rn(outer:List Env)(h:Heap)(H:Hp)(lf c:Addr)(qual:Str)(body:Expr)(lsc:Scope)(cl:List (Str × Addr))(pm ctv:Value)(N:List Str)(σ:St):Prop where
 ob:h.get? lf=some (kla_obj "<lambda>" qual noArgs body lsc cl pm c ctv)
 nl:H lf=none\/H lf=some (.e (kla_obj "<lambda>" qual noArgs body lsc cl pm c ctv) (.d 0))
 fl:lf ∉ frs outer
 cd:∃(o:Obj) (vs:Array Value) (t:Tok),H c=some (.e o (.d 0))/\o.data=.fields vs/\vs[1]?=some (.str qual t)
 e:∀x y b,cl.lookup x=some b->cl.lookup y=some b->x=y
 d:∀x,lsc.names.lookup x=some .free->∃b,cl.lookup x=some b
 a:∀x b,cl.lookup x=some b->(∃v,h.IsCell b v)/\H b=none
 g:∀(i:Nat) (x:Str) (v:V),N[i]?=some x->σ[i]?=some (some v)->lsc.names.lookup x=some .free->∃u b,RelV v u/\cl.lookup x=some b/\h.IsCell b (some u)
 f:σ.length=N.length
 kd:lsc.kind=.function
 co:lsc.isCoroutine=false
 gn:lsc.isGenerator=false
 nm:∀x∈lsc.names,x.2≠.cell/\x.2≠.local
def kR{X:Cx}{ic:Nat}(L:rn X.k X.l.heap X.r lf c qual body lsc cl pm ctv N σ)(hxn:X.m=[])(hdp:X.A.depth<Cq)(hh:X.A.handled=none)
 (hN:X.N[ic]?=some ("_law_call":Str)) (hv:Vis X.a.scope "_law_call")
 (H:∀S O,PE (tJ (CXE X.f X.w) X.f X.w X.K X.d X.g N qual lsc lf (.ref c) cl X.A X.h S O EE) body tb) :
 PE (X.wy (XC X EE)) (.Call (.Name "_law_call" p) [] [] pos) (λy W Q=>y[ic]?=some (some (.c lf))/\tb σ W Q):=by
 rintro F s1 y W Q I ⟨h0,G⟩;have hpe:PE (X.wy (XC X EE)) (.Name "_law_call" p) (wL ic):=wU hN hv (by decide) (by decide)
 refine BZ (thn (hpe F s1 y W (λv T=>v=V.c lf/\T=W) I ⟨_,h0,rfl,rfl⟩) λu C zn=>?_);obtain⟨v,T,Z,r,hv2,hH2⟩:=zn;subst hv2 hH2;cases r;have Y:Un (frs X.k) [] X.r T X.l.heap C.heap:=by have:=Z.B;rw[show (X.wy (XC X EE)).m=[] from hxn]at this;exact this
 have M:C.heap.get? lf=some (kla_obj "<lambda>" qual noArgs body lsc cl pm c ctv):=by
  rcases L.nl with z|z
  . exact Y.f _ _ L.ob z L.fl (by simp)
  . exact(Z.j lf _ (Y.g lf _ _ z)).1
 have cr2:C.heap.CodeRec (.ref c) qual:=by obtain⟨o,vs,t,q1,U,q3⟩:=L.cd;exact⟨c,o,vs,t,rfl,(Z.j c _ (Y.g c o _ q1)).1,U,q3⟩
 have s:∀b v,X.l.heap.IsCell b v->X.r b=none->C.heap.IsCell b v:=λb v ⟨o,e,d⟩ n=>by
  by_cases f:b∈frs X.k
  . obtain⟨sl,e1⟩:=Y.i b o e n f (by simp)
    exact⟨_,e1,d⟩
  . exact⟨o,Y.f b o e n f (by simp),d⟩
 refine callWith_of (P:=λh=>h.get? lf=some (kla_obj "<lambda>" qual noArgs body lsc cl pm c ctv)) rfl (λh e=>⟨.frame,.inl rfl,(Looks.ld (part:=none) e).andThen .now⟩) (evalArgs_nil3 ⟨M,?_⟩);refine Dd (Cw (VC (CX:=CXE X.f X.w) (E:=EE) (R:=CR (CXE X.f X.w) X.h X.f X.w T C Q EE) (N:=N) (σ:=σ) hdp hh Z.wQ M cr2 L.kd L.co L.gn L.nm L.e L.d (λx b e=>?_) (λi x v e1 e2 e3=>?_) L.f λs3 I3=>?_) λr S G=>?_)
 . obtain⟨⟨v,z⟩,n⟩:=L.a x b e
   obtain⟨o,eo,_⟩:=id z;exact⟨⟨v,s b v z n⟩,Y.d b o eo n (by simp)⟩
 . obtain⟨u,b,q1,U,q3⟩:=L.g i x v e1 e2 e3
   obtain⟨_,n⟩:=L.a x b U;exact⟨u,b,q1,U,s b _ q3 n⟩
 . refine AD (H C T [] s3 σ T Q I3 G) (λu S zn=>?_) λe S z=>z
   obtain⟨v,O,J,rv,q⟩:=zn;exact⟨v,O,J.P,J.D,J.B,J.j,rv,q⟩
 . cases r with
   |error e=>
    obtain⟨a,cls,dd,O,rfl,fl,hE⟩:=G;exact⟨a,cls,dd,y,T,C,O,rfl,Z.xN.lE λp hp=>absurd hp (by simp),fl,hE⟩
   |ok fl=>
    cases fl with
    |ret u=>exact Z.after G
    |next=>exact As G
    |brk=>exact As G
    |cont=>exact As G
end L2
end
section
namespace L2
open PySem PySem.W PySem.Spec PyProof PyProof.Rows
open Sem (wp)
section
variable {prog:Program}{w:World}{A:Around}{E:Value->Shared->Prop}{h:Heap}{g:Array GenState}{d:Drawn}{t:Nat}{os:OsState}{a C dx:Addr}{o:Obj}{nm q:Str}{N:Addr}{bs bm:List Value}{sn:List Str}{sub:List Value}{ab:Bool}{col:Option Bool}{dd:Option Addr}{k0 k1 k2 k3 k5:Option Value}{newId:String}{K:Aa}{f:Str}{mA:Str->Option Value}{v:Value}
def jm(i:findIn K (.ref C) f=some none)(X:K.In h)(k:h.get? a=some o)(l:o.cls=.ref C)(b:∀c,o.data≠.cls c)(r:o.dict=some dx)(p:h.Ns dx mA)(m:mA f=some v)(s:h.get? C=some (AW nm q C N bs bm true sn sub ab col dd k0 k1 k2 k3 k5 newId))(n:Q (.done (.ret v)) ⟨h,g,d,t,os⟩) :
 wpAny (model prog w) A (Builtin.«object.__getattribute__» ⟨[.ref a,.str f tk],[]⟩) Q E ⟨h,g,d,t,os⟩:=by
 have L:=Ej (M:=model prog w) X i;unfold Builtin.«object.__getattribute__»
 repeat (any_goals (first|assumption|(with_reducible refine AG k ?_;rw[l])|with_reducible refine L.at ?_|wp_step))
 split
 . rename_i c hcd
   exact absurd hcd (b c)
 unfold instanceDict
 repeat (first|(with_reducible refine AG k ?_;rw[l])|with_reducible refine AG s ?_|wp_step)
 rw[r]
 repeat (first|(with_reducible refine wpAny_nsGet p ?_;rw[m])|wp_step)
 exact n
def fE(F:vv K C)(i:findIn K (.ref C) f=some none)(X:K.In h)(k:h.get? a=some o)(l:o.cls=.ref C)(b:∀c,o.data≠.cls c)(r:o.dict=some dx)(p:h.Ns dx mA)(m:mA f=some v)(s:h.get? C=some (AW nm q C N bs bm true sn sub ab col dd k0 k1 k2 k3 k5 newId))(n:R (.ok (.ret v)) ⟨h,g,d,t,os⟩) :
 codeAny (model prog w) A (.call (.builtin "BaseException.__getattribute__") ⟨[.ref a,.str f tk],[]⟩) R ⟨h,g,d,t,os⟩:=
 B7 C1.ga.plain PySem.F.entry_bexc_ga (sx F X k l (jm i X k l b r p m s n))
def X5{fill expr}(F:vv K C)(k:findIn K (.ref C) f=some none)(X:K.In h)(l:h.get? a=some o)(m:o.cls=.ref C)(i:∀c,o.data≠.cls c)(u:o.dict=some dx)(s:h.Ns dx mA)(r:mA f=some v)(x:h.get? C=some (AW nm q C N bs bm true sn sub ab col dd k0 k1 k2 k3 k5 newId))(e:handedOut v=pure v)(z:Q v ⟨h,g,d,t,os⟩) :
 wpAny (model prog w) A (getAttrBy (.ref a) (.str f tk) fill expr) Q E ⟨h,g,d,t,os⟩:=by
 have j:=C1.ga.bind (.ref a);have p:(expr&&Hh (Cj "BaseException.__getattribute__"))=false:=by cases expr<;>rfl
 have b:(Cj "BaseException.__getattribute__" == Cj "object.__getattribute__")=false:=by decide +kernel
 have n:(Hh (AA C)&&Cj "BaseException.__getattribute__" == Cj "object.__getattribute__")=false:=by rw[b];rfl
 have B:=Ej (M:=model prog w) X F.ga;have L:=Ej (M:=model prog w) X F.gt
 repeat (any_goals (first|assumption|(with_reducible refine AG l ?_;rw[m])|with_reducible refine B.at ?_|with_reducible refine L.at ?_|wp_step))
 refine fE F k X l m i u s r x ?_
 repeat (any_goals (first|assumption|wp_step))
def bx(F:vv K C)(i:findIn K (.ref C) f=some none)(X:K.In h)(k:h.get? a=some o)(r:o.cls=.ref C)(b:∀c,o.data≠.cls c)(p:o.dict=some dx)(m:h.Ns dx mA)(l:mA f=some v)(s:h.get? C=some (AW nm q C N bs bm true sn sub ab col dd k0 k1 k2 k3 k5 newId))(n:handedOut v=pure v)(u:Q v ⟨h,g,d,t+1,os⟩) :
 wpAny (model prog w) A (getAttr (.ref a) f expr) Q E ⟨h,g,d,t,os⟩:=by
 unfold getAttr
 repeat (any_goals (first|assumption|with_reducible apply X5 F i X k r b p m l s n|wp_step))
end
section
variable {X:Cx}
def gm(K:Aa)(b:Heap)(k:Nat)(f:Str):TE:=λh H Q=>∃(a C D d m:Addr) (oe:Obj) (g:List (Str × V)) (i:Int) (A:Aa),h[k]?=some (some (.c a))/\H a=some (.e oe (.d 0))/\oe.cls=.ref C/\(∀c,oe.data≠.cls c)/\oe.dict=some d/\H d=some (.l g)/\g.lookup f=some (.d i) /\
 vv A C/\uP A K/\findIn A (.ref C) f=some none/\tL b C (.ref D::veM) m/\Q (.d i) H
def Yt(U:X.N[ie]?=some e)(T:Vis X.a.scope e)(hd1:(e == ("__debug__":Str))=false)(x:(e == ("__classdict__":Str))=false)(b:B4 (.Name e p) f X.a (eval (.Name e p) X.a)=eval (.Name e p) X.a:=by rfl):PE X (.Attribute (.Name e p) f ap) (gm X.K X.g ie f):=by
 rintro k s σ H Q I ⟨a,C,D,d,fI,oe,fs,i,Kc,h0,S,O,o,M,R,L,F,l,t,cG,q⟩;refine WA b (thn (wU U T hd1 x k s σ H (λv B=>v=V.c a/\B=H) I ⟨_,h0,rfl,rfl⟩) λu G y=>?_);obtain⟨v,B,A,r,m,W⟩:=y;subst m W;cases r;obtain⟨w,n,Z⟩:=A.j d _ R;have h:=Z f;rw[L]at h;obtain⟨u,Y,J⟩:∃u,w f=some u/\RelV (.d i) u:=by
  cases hm:w f with
  |none=>rw[hm]at h;exact h.elim
  |some u=>rw[hm]at h;exact⟨u,rfl,h⟩
 obtain⟨E,rfl⟩:=J;obtain⟨nm,q',N,bs,sn,z,ab,col,dd,k0,k1,k2,k3,k5,mN,oI,hC,_⟩:=cG.keeps A.bk;obtain⟨h1,g1,d1,t1,P⟩:=G;exact bx F t (l.inn A.kIn) (A.j a _ S).1 O o M n.ns Y hC rfl ⟨.d i,B,A.tok _,⟨E,rfl⟩,q⟩
end
end L2
end
section
namespace L2
open PySem PySem.W PySem.Spec PySem.Calls PyProof PyProof.Rows
noncomputable def yv(m:Bool):Str:=if m then "_law_got" else "_law_said"
noncomputable def xh(m:Bool):List Str:=if m then ["_law_call","_law_e"] else ["_law_call","_law_e","_law_word"]
inductive aI(m:Bool)(kx:Str)(body:List Stmt):Prop
 |mk (p1 p2 p3 p4 p5 p6 p7 p8 p9 pa pb q1 q2 q3 q4 q5 q6 q7 q8 r1 r2 r3 r4 r5 r6:Pos) (k1 k2 k3:Nat) (hb:body=if m then
  [.Try [.Return (some (.Call (.Name "_law_call" p1) [] [] p2)) p3] [.ExceptHandler (some (.Name "HueError" p4)) (some "_law_e") [.Return (some (.Call (.Name kx p6) [.Name "_law_e" p7] [] p8)) p9] pa] [] [] pb]
 else [.Try [.Expr (.Call (.Name "_law_call" p1) [] [] p2) p3] [.ExceptHandler (some (.Name "HueError" p4)) (some "_law_e") [.Assign [.Name "_law_word" p5] (.Call (.Name kx p6) [.Name "_law_e" p7] [] p8) p9,
  .Return (some (.IfExp (.Compare (.Name "_law_word" q1) [.Eq] [.Constant (.str "great") k1 q2] q3) (.Tuple [.Name "_law_word" r1,.Attribute (.Name "_law_e" r2) "many" r3,.Attribute (.Name "_law_e" r4) "most" r5] k3 r6) (.Name "_law_word" q4) q5)) q6] pa] [] [] pb,.Return (some (.Constant (.str "told") k2 q7)) q8])
structure aH(K:Aa)(mg:Str->Option Value)(m:Bool)(kx:Str)(f:Addr):Prop where
 ex:∃(st:Stmt) (fd:BB),mg (yv m)=some (.ref f)/\Fun K (yv m) (yv m) st f fd/\x9 (xh m) ["_law_call"] (zD st)/\Binds K fd ["_law_call"] []/\aI m kx (yG st) /\
  (zD st).names.lookup ("_law_call":Str)=some .local/\(zD st).names.lookup ("_law_e":Str)=some .local/\(m=false->(zD st).names.lookup ("_law_word":Str)=some .local)/\(zD st).names.lookup ("HueError":Str)=some .globalImplicit/\(zD st).names.lookup kx=some .globalImplicit
 kd:(kx == ("__debug__":Str))=false
def dk{st}(h:wpAny (model X.f X.w) X.A (exec st X.a) (SP X [] D) E s):wpAny (model X.f X.w) X.A (execs [st] X.a) (SP X [] D) E s:=by
 refine EF (thn h λf b q=>?_);cases f with
 |next=>exact EZ q
 |brk=>exact q
 |cont=>exact q
 |ret u=>exact q
def nD{st st2}(h:wpAny (model X.f X.w) X.A (exec st X.a) (SP X [] {D with a:=t D}) X.i s)(d:PS X st2 t):wpAny (model X.f X.w) X.A (execs [st,st2] X.a) (SP X [] D) X.i s:=by
 refine EF (thn h λf c q=>?_);cases f with
 |next=>obtain⟨b,H,I,q⟩:=q;exact wB d [] c b H D I q
 |brk=>exact q
 |cont=>exact q
 |ret u=>exact q
def XM{K:Aa}
 (e0:qE P w K mg base A outer s H) (hh:A.handled=none) (hdp:A.depth+1<Cq) (S:aH K mg m kx f) (KF:n5 K mg kx cs ws pre) (hu:mg "HueError"=some (.ref hue)) (L:rn outer s.heap H lf c qual body lsc cl pm ctv N σ)
 (Z:∀env U O,PE (tJ (CXE P w) P w K mg base N qual lsc lf (.ref c) cl (A.deeper env) (env::outer) U O EE) body tb)
 (hq:tb σ H λv H1=>Q (if m then v else .e "told") H1)
 (hE:∀y dd O,EE y dd O->∃(C:Addr) (c0:Str) (i:Nat) (x:Str),y=.ref C/\(∃W,uP W K/\exmOne W (.ref C) (.ref hue)=some true)/\Named K mg cs C c0/\cs[i]?=some c0/\ws[i]?=some x/\(((m=false->ans pre x≠"great")/\∀M,xq O M->Q (.e (ans pre x)) M)\/(m=false/\ans pre x="great"/\∃(D fI d:Addr) (k j:Int) (W:Aa),dd=some d/\O d=some (.l (grF k j))/\vv W C/\uP W K/\GrK W C D/\tL base C (.ref D::veM) fI /\
  ∀M p,xq O M->M p=none->Q (.c p) (upd M p (.c [.e "great",.d k,.d j]))))) :
 codeAny (model P w) A (.call (.ref f) ⟨[.ref lf],[]⟩) (CR CX0 outer P w H s Q E0) s:=by
 refine byG λpi h=>?_;obtain⟨n,fd,hm,Fn,Sc,hb,sh,l0,l1,l2,g0,g1⟩:=S.ex;refine h ?_;refine byG λpi h=>?_;obtain⟨oc,od,kV,doc,pm',an,g,ct,osl,rfl,lk,hcd⟩:=Fn.a;refine h ?_;have KX:K.In s.heap:=e0.c.a.keeps λb o e=>(e0.d b o e).1;have hbt:=hb s [.ref lf] KX rfl;refine sL (CX:=CX0) (E:=E0) (R:=CR CX0 outer P w H s Q E0) (N:=xh m) (vs:=[.c lf]) lk hcd Sc ⋯ e0 hbt rfl (.cons rfl .nil) λs1 I1 _=>?_
 rw[uQ hh]at I1;refine byG λpi h=>?_;obtain⟨p1,p2,p3,p4,p5,p6,p7,p8,p9,pa,pb,q1,q2,q3,q4,q5,q6,q7,q8,r1,r2,r3,r4,r5,r6,k1,k2,k3,hbd⟩:=sh;refine h ?_;have hLam:rn (yN CX0 P w K mg base (xh m) (yv m) (zD n) f g A outer s H E0).k (yN CX0 P w K mg base (xh m) (yv m) (zD n) f g A outer s H E0).l.heap (yN CX0 P w K mg base (xh m) (yv m) (zD n) f g A outer s H E0).r lf c qual body lsc cl pm ctv N σ:=L;have hA:(yN CX0 P w K mg base (xh m) (yv m) (zD n) f g A outer s H E0).A.depth=A.depth+1:=rfl;have T:∀{p q:Pos},PE ((yN CX0 P w K mg base (xh m) (yv m) (zD n) f g A outer s H E0).wy (XC (yN CX0 P w K mg base (xh m) (yv m) (zD n) f g A outer s H E0) EE)) (.Call (.Name "_law_call" p) [] [] q) (λσ1 H1 Q=>σ1[0]?=some (some (.c lf))/\tb σ H1 Q):=λ{p q}=>
  kR hLam rfl (by rw[hA];exact hdp) hh (by cases m<;>rfl) (.inl l0) λU O=>Z _ U O
 have n1:(xh m)[1]?=some ("_law_e":Str):=by cases m<;>rfl
 have fin:∀(fl:Flow) (U:Shared),SP (yN CX0 P w K mg base (xh m) (yv m) (zD n) f g A outer s H E0) [] {a:=λ_ _=>False,b:=Q} fl U->CR CX0 outer P w H s Q E0 (.ok (.ret (match fl with|.ret v=>v|_=>.none))) U:=λfl U hs=>by
  cases fl with
  |ret u=>
   refine byG λpi h=>?_;obtain⟨v,σ',O,J,rv,q'⟩:=hs;refine h ?_;exact⟨v,O,J.P,J.D,J.B,J.j,rv,q'⟩
  |next=>obtain⟨_,_,_,z⟩:=hs;exact As z
  |brk=>obtain⟨_,_,_,z⟩:=hs;exact As z
  |cont=>obtain⟨_,_,_,z⟩:=hs;exact As z
 have kc:∀(a:Addr) {p p2 q:Pos},PE ((yN CX0 P w K mg base (xh m) (yv m) (zD n) f g A outer s H E0).loud ((yN CX0 P w K mg base (xh m) (yv m) (zD n) f g A outer s H E0).A.mark (some (.ref a)))).nox (.Call (.Name kx p) [.Name "_law_e" p2] [] q) (tKC K mg cs ws pre 1):=λa {p p2 q}=>
  cJ KF (by show A.depth+1<_;exact hdp) g1 S.kd n1 (.inl l1) (by decide) (by decide)
 have at_:∀(a:Addr) (x:Str) {p ap:Pos},PE ((yN CX0 P w K mg base (xh m) (yv m) (zD n) f g A outer s H E0).loud ((yN CX0 P w K mg base (xh m) (yv m) (zD n) f g A outer s H E0).A.mark (some (.ref a)))).nox (.Attribute (.Name "_law_e" p) x ap) (gm K base 1 x):=λa x {p ap}=>
  Yt n1 (.inl l1) (by decide) (by decide)
 unfold lj;rw[hbd];cases m with
 |true=>
  rw[if_pos rfl];refine AD (dk (X:=yN CX0 P w K mg base (xh true) (yv true) (zD n) f g A outer s H E0) (D:={a:=λ_ _=>False,b:=Q}) (gw (EE:=EE) (ts:=jd (tKC K mg cs ws pre 1)) (ie:=1) I1 rfl rfl Sc.b l1 n1 rfl rfl g0 (by decide) hu (wB (vI T)) ⟨rfl,hq⟩ (λy dd O hc=>?_) λa=>wB (vI (kc a)))) fin λe U z=>z
  obtain⟨C,c0,i,x,rfl,hx,nm,hi,hw,⟨_,qq⟩|⟨z,_⟩⟩:=hE y dd O hc
  case inr=>cases z
  refine⟨hx,λa oe Y hn I _ _ hl=>⟨a,oe,C,c0,i,x,?_,zJ,I,nm,hi,hw,λM sm=>qq M ((xG hn).trans sm)⟩⟩;rw[AR (by rw[hl];exact(by decide:1<2))]
 |false=>
  rw[if_neg Aj];have n2:(xh false)[2]?=some ("_law_word":Str):=rfl;refine AD (nD (X:=yN CX0 P w K mg base (xh false) (yv false) (zD n) f g A outer s H E0) (D:={a:=λ_ _=>False,b:=Q}) (t:=jd (tC (.e "told"))) (gw (EE:=EE) (ts:=oZ (tu (tKC K mg cs ws pre 1) (wH 2)) (jd (tIf (dB (tOp rEq (wL 2) (tC (.e "great")))) (QD (xJ (wL 2) (xJ (gm K base 1 "many") (xJ (gm K base 1 "most") uz)))) (wL 2)))) (ie:=1) I1 rfl rfl Sc.b l1 n1 rfl rfl g0 (by decide) hu (wB (sU T)) ⟨rfl,hq⟩ (λy dd O hc=>?_) λa=>?_) (vI rS)) fin λe U z=>z
  . refine byG λpi h=>?_
    obtain⟨C,c0,i,x,rfl,hx,nm,hi,hw,alt⟩:=hE y dd O hc;refine h ?_;refine⟨hx,λa oe Y hn I hdd hnc hl=>⟨a,oe,C,c0,i,x,?_,zJ,I,nm,hi,hw,λM sm=>?_⟩⟩
    . rw[AR (by rw[hl];exact(by decide:1<3))]
    . have e2:((Y.set 1 (some (V.c a))).set 2 (some (V.e (ans pre x))))[2]?=some (some (.e (ans pre x))):=by rw[AR (by rw[CQ,hl];exact(by decide:2<3))]
      refine⟨_,e2,rfl,_,rfl,?_⟩;rcases alt with⟨ng,qq⟩|⟨_,hg,D,fI,d,k,j,W,rfl,hd,F,sub,G,cG,qq⟩
      . have hne:¬(V.e (ans pre x)=V.e "great"):=λz=>ng rfl (V.e.inj z)
        rw[decide_eq_false hne];exact rK ⟨_,e2,qq M ((xG hn).trans sm)⟩
      . have e1:((Y.set 1 (some (V.c a))).set 2 (some (V.e (ans pre x))))[1]?=some (some (.c a)):=by rw[BA (by decide),AR (by rw[hl];exact(by decide:1<3))]
        have ha:=sm a _ zJ;have hd':=sm d (.l (grF k j)) (by rw[zG (zR hd hn)];exact hd)
        rw[decide_eq_true (by rw[hg])]
        refine pB ⟨_,e2,a,C,D,d,fI,oe,_,k,W,e1,ha,I,hnc,hdd,hd',rfl,F,sub,G.a,cG,a,C,D,d,fI,oe,_,j,W,e1,ha,I,hnc,hdd,hd',rfl,F,sub,G.b,cG,by show 3<=Ao;rw[AL];decide,λp hp=>?_⟩
        rw[hg];exact qq _ p ((xG hn).trans sm) hp
  . have vw:Vis (zD n) "_law_word":=.inl (l2 rfl)
    have pw:∀{X':Cx} {p:Pos},X'.N=xh false->X'.a.scope=zD n->PE X' (.Name "_law_word" p) (wL 2):=λ{X' p} h1 h2=>wU (by rw[h1];exact n2) (by rw[h2];exact vw) (by decide) (by decide)
    exact ya (uA Sc.b n2 (.inl (l2 rfl)) (kc a) (hf:=.inr (l2 rfl))) (wB (vI (k7 (lG Ua (pw rfl rfl) rS (pO _ (by decide) (by decide))) (gF (yR (pw rfl rfl) (yR (at_ a "many") (yR (at_ a "most") yV)))) (pw rfl rfl))))
noncomputable def xZ:List Str:=["_law_call","_law_e"]
def fO(b:List Stmt):Prop:=∃(q o n m l k i h g f d c a p:Pos) (s r:Nat),b =
 [.Try [.Expr (.Call (.Name "_law_call" q) [] [] o) n] [.ExceptHandler (some (.Name "TooGreat" m)) (some "_law_e") [.Return (some (.Tuple [.Attribute (.Name "_law_e" l) "many" k,.Attribute (.Name "_law_e" i) "most" h] s g)) f] d] [] [] c,
  .Return (some (.Constant .none r a)) p]
structure sA(K:Aa)(mg:Str->Option Value)(f:Addr):Prop where
 ex:∃(st:Stmt) (fd:BB),mg "_law_great"=some (.ref f)/\Fun K "_law_great" "_law_great" st f fd/\x9 xZ ["_law_call"] (zD st)/\Binds K fd ["_law_call"] []/\fO (yG st) /\
  (zD st).names.lookup ("_law_call":Str)=some .local/\(zD st).names.lookup ("_law_e":Str)=some .local/\(zD st).names.lookup ("TooGreat":Str)=some .globalImplicit
def dw{K:Aa}
 (e0:qE P w K mg base A outer s H) (hh:A.handled=none) (hdp:A.depth+1<Cq) (S:sA K mg f) (hu:mg "TooGreat"=some (.ref gre)) (L:rn outer s.heap H lf c qual body lsc cl pm ctv N σ)
 (q:∀env U M,PE (tJ (CXE P w) P w K mg base N qual lsc lf (.ref c) cl (A.deeper env) (env::outer) U M EE) body tb)
 (hq:tb σ H λ_ H1=>Q .g H1)
 (hE:∀y dd M,EE y dd M->∃C D fI d i j O,y=.ref C/\dd=some d/\(∃O,uP O K/\exmOne O (.ref C) (.ref gre)=some true)/\M d=some (.l (grF i j))/\vv O C/\uP O K/\GrK O C D/\tL base C (.ref D::veM) fI /\
  ∀W p,xq M W->W p=none->Q (.c p) (upd W p (.c [.d i,.d j]))) :
 codeAny (model P w) A (.call (.ref f) ⟨[.ref lf],[]⟩) (CR CX0 outer P w H s Q E0) s:=by
 refine byG λpi m=>?_;obtain⟨n,fd,hm,Fn,Sc,hb,sh,l0,l1,g0⟩:=S.ex;refine m ?_;refine byG λpi m=>?_;obtain⟨oc,od,kV,doc,pm',an,h,ct,osl,rfl,lk,hcd⟩:=Fn.a;refine m ?_;have KX:K.In s.heap:=e0.c.a.keeps λb o e=>(e0.d b o e).1;have hbt:=hb s [.ref lf] KX rfl;refine sL (CX:=CX0) (E:=E0) (R:=CR CX0 outer P w H s Q E0) (N:=xZ) (vs:=[.c lf]) lk hcd Sc ⋯ e0 hbt rfl (.cons rfl .nil) λs1 I1 _=>?_
 rw[uQ hh]at I1;refine byG λpi m=>?_;obtain⟨p1,p2,p3,p4,p5,p6,p7,p8,p9,pa,pb,pc,pd,pe,k1,k2,hbd⟩:=sh;refine m ?_;have hLam:rn (yN CX0 P w K mg base xZ "_law_great" (zD n) f h A outer s H E0).k (yN CX0 P w K mg base xZ "_law_great" (zD n) f h A outer s H E0).l.heap (yN CX0 P w K mg base xZ "_law_great" (zD n) f h A outer s H E0).r lf c qual body lsc cl pm ctv N σ:=L;have hA:(yN CX0 P w K mg base xZ "_law_great" (zD n) f h A outer s H E0).A.depth=A.depth+1:=rfl;have Z:∀{p T:Pos},PE ((yN CX0 P w K mg base xZ "_law_great" (zD n) f h A outer s H E0).wy (XC (yN CX0 P w K mg base xZ "_law_great" (zD n) f h A outer s H E0) EE)) (.Call (.Name "_law_call" p) [] [] T) (λσ1 H1 Q=>σ1[0]?=some (some (.c lf))/\tb σ H1 Q):=λ{p T}=>
  kR hLam rfl (by rw[hA];exact hdp) hh rfl (.inl l0) λU M=>q _ U M
 have n1:xZ[1]?=some ("_law_e":Str):=rfl;have fin:∀(fl:Flow) (U:Shared),SP (yN CX0 P w K mg base xZ "_law_great" (zD n) f h A outer s H E0) [] {a:=λ_ _=>False,b:=Q} fl U->CR CX0 outer P w H s Q E0 (.ok (.ret (match fl with|.ret v=>v|_=>.none))) U:=λfl U hs=>by
  cases fl with
  |ret u=>
   refine byG λpi m=>?_;obtain⟨v,σ',M,J,rv,q'⟩:=hs;refine m ?_;exact⟨v,M,J.P,J.D,J.B,J.j,rv,q'⟩
  |next=>obtain⟨_,_,_,z⟩:=hs;exact As z
  |brk=>obtain⟨_,_,_,z⟩:=hs;exact As z
  |cont=>obtain⟨_,_,_,z⟩:=hs;exact As z
 have at_:∀(a:Addr) (x:Str) {p ap:Pos},PE ((yN CX0 P w K mg base xZ "_law_great" (zD n) f h A outer s H E0).loud ((yN CX0 P w K mg base xZ "_law_great" (zD n) f h A outer s H E0).A.mark (some (.ref a)))).nox (.Attribute (.Name "_law_e" p) x ap) (gm K base 1 x):=λa x {p ap}=>
  Yt n1 (.inl l1) (by decide) (by decide)
 unfold lj;rw[hbd];refine AD (nD (X:=yN CX0 P w K mg base xZ "_law_great" (zD n) f h A outer s H E0) (D:={a:=λ_ _=>False,b:=Q}) (t:=jd (tC .g)) (gw (EE:=EE) (ts:=jd (QD (xJ (gm K base 1 "many") (xJ (gm K base 1 "most") uz)))) (ie:=1) I1 rfl rfl Sc.b l1 n1 rfl rfl g0 (by decide) hu (wB (sU Z)) ⟨rfl,hq⟩ (λy dd M hc=>?_) λa=>wB (vI (gF (yR (at_ a "many") (yR (at_ a "most") yV))))) (vI Yr)) fin λe U z=>z
 refine byG λpi m=>?_;obtain⟨C,D,fI,d,i,j,O,rfl,rfl,hx,hd,F,I,G,cG,qq⟩:=hE y dd M hc;refine m ?_;refine⟨hx,λa oe σ2 hn hcl hdd Y hl=>?_⟩;have e1:(σ2.set 1 (some (V.c a)))[1]?=some (some (.c a)):=by rw[AR (by rw[hl];exact(by decide:1<2))]
 have hd':upd M a (.e oe (.d 0)) d=some (.l (grF i j)):=by rw[zG (zR hd hn)];exact hd
 refine⟨a,C,D,d,fI,oe,_,i,O,e1,zJ,hcl,Y,hdd,hd',rfl,F,I,G.a,cG,a,C,D,d,fI,oe,_,j,O,e1,zJ,hcl,Y,hdd,hd',rfl,F,I,G.b,cG,by show 2<=Ao;rw[AL];decide,λp hp=>qq _ p (xG hn) hp⟩
end L2
end
section
namespace M
open PySem
inductive Val where
 |h|e (b:Bool)|c (i:Int)|m (x:Str)
 |f (vs:List Val)|g (vs:List Val)|p
 |o (ns:List Int)|r (ns:List Int)
 |j (i:Nat)|t (x:Str)|u (n:String)|q (i:Nat)
 /-- the k-th lambda of a list of lambdas,at the address a -/
 |s (a k:Nat)
 deriving Inhabited
inductive Cel where
 |c (vs:List Val)
 |e (kvs:List (Str × Val))
 |f (kvs:List (List Int × Val))
 /-- the table of the codes that lie within the def x -/
 |d (x:Str)
 deriving Inhabited
abbrev Sto:=List Cel
abbrev Env:=List (Option Val)
inductive Out(α:Type) where
 |e (a:α) (s:Sto)
 |g (c:Str) (args:List Val) (s:Sto)
 |d
noncomputable def Out.bind{h b:Type}(o:Out h)(f:h->Sto->Out b):Out b:=
 match o with
 |.e a s=>f a s
 |.g c as s=>.g c as s
 |.d=>.d
@[simp] def zT a s(f:α->Sto->Out β):(Out.e a s).bind f=f a s:=rfl
@[simp] def iB(f:α->Sto->Out β):(Out.d:Out α).bind f=.d:=rfl
@[simp] def aU c as s(f:α->Sto->Out β):(Out.g c as s:Out α).bind f=.g c as s:=rfl
mutual
noncomputable def Val.isD:Val->Bool
 |.h|.e _|.c _=>true
 |.m x=>PyData.strOk x
 |.f vs=>v5 vs
 |.g vs=>v5 vs
 |.p|.o _|.r _|.j _|.t _|.u _|.q _|.s _ _=>false
noncomputable def v5:List Val->Bool
 |[]=>true
 |v::vs=>v.isD&&v5 vs
end
mutual
noncomputable def Val.isR:Val->Bool
 |.h|.e _|.c _|.m _|.p=>true
 |.f vs=>sP vs
 |.g vs=>sP vs
 |.o _|.r _|.j _|.t _|.u _|.q _|.s _ _=>false
noncomputable def sP:List Val->Bool
 |[]=>true
 |v::vs=>v.isR&&sP vs
end
mutual
noncomputable def Val.d:Val->PyData
 |.h=>.none
 |.e b=>.bool b
 |.c i=>.int i
 |.m x=>.str x
 |.f vs=>.tuple (ds vs)
 |.g vs=>.list (ds vs)
 |.p=>.dict []
 |.o _|.r _|.j _|.t _|.u _|.q _|.s _ _=>.none
noncomputable def ds:List Val->List PyData
 |[]=>[]
 |v::vs=>v.d::ds vs
end
mutual
noncomputable def Val.noRef:Val->Bool
 |.j _|.q _=>false
 |.f vs=>zt vs
 |.g vs=>zt vs
 |.h|.e _|.c _|.m _|.p|.o _|.r _|.t _|.u _|.s _ _=>true
noncomputable def zt:List Val->Bool
 |[]=>true
 |v::vs=>v.noRef&&zt vs
end
def Cel.noRef:Cel->Bool
 |.c vs=>zt vs
 |.e kvs=>zt (kvs.map (·.2))
 |.f kvs=>zt (kvs.map (·.2))
 |.d _=>true
mutual
noncomputable def Val.beq:Val->Val->Bool
 |.h,.h=>true
 |.e a,.e b=>a == b
 |.c a,.c b=>a == b
 |.m a,.m b=>a == b
 |.f a,.f b=>rC a b
 |.g a,.g b=>rC a b
 |.p,.p=>true
 |.o a,.o b=>a == b
 |.r a,.r b=>a == b
 |.j a,.j b=>a == b
 |.t a,.t b=>a == b
 |.u a,.u b=>a == b
 |.q a,.q b=>a == b
 |.s a k,.s b l=>a == b&&k == l
 |_,_=>false
noncomputable def rC:List Val->List Val->Bool
 |[],[]=>true
 |a::as,b::bs=>a.beq b&&rC as bs
 |_,_=>false
end
def Cel.beq:Cel->Cel->Bool
 |.c a,.c b=>rC a b
 |.e a,.e b=>decide (a.map (·.1)=b.map (·.1))&&rC (a.map (·.2)) (b.map (·.2))
 |.f a,.f b=>decide (a.map (·.1)=b.map (·.1))&&rC (a.map (·.2)) (b.map (·.2))
 |.d a,.d b=>decide (a=b)
 |_,_=>false
def wk:Sto->Sto->Bool
 |[],_=>true
 |o::r,o'::r'=>(o'.noRef||o'.beq o)&&wk r r'
 |_::_,[]=>false
mutual
noncomputable def w9(n:Nat)(s:Sto):Nat->Val->Option Val
 |_,.q i=>if i<n then some (.q i) else dS
 |_,.j i=>if i<n then some (.j i) else match s[i]? with
  |some (.c vs)=>if zt vs then some (.g vs) else dS
  |_=>dS
 |k+1,.f vs=>(sN n s k vs).map .f
 |_,v=>if v.noRef then some v else dS
noncomputable def sN(n:Nat)(s:Sto):Nat->List Val->Option (List Val)
 |_,[]=>some []
 |0,_::_=>dS
 |k+1,v::vs=>match (if v.noRef then some v else w9 n s k v),sN n s k vs with
  |some v',some vs'=>some (v'::vs')
  |_,_=>dS
end
def freeze(n:Nat)(s:Sto)(v:Val):Option Val:=if v.noRef then some v else w9 n s 20 v
inductive Bop|a|e|b|d|c|g|h|i|f
 deriving DecidableEq
inductive Cop|a|b|n|c|j|i|m|d|h|g|l|e|f|k
 deriving DecidableEq
inductive Bf|a|j|q|h|k|g|b|l|m|s|p|i|e|r|c|o|d|n
 deriving DecidableEq
inductive Mf|b|a|c|f|d|e
 deriving DecidableEq
inductive Tgt
 |a (i:Nat)
 |b (is:List Nat)
set_option genInjectivity false in
mutual
inductive Ex
 |g (v:Val)|e (i:Nat)|C (x:Str)|P (x:Str) (n:String)
 |j (m:Bool) (op:Bop) (a b:Ex)|D (a:Ex)|K (a:Ex)
 |l (op:Cop) (a b:Ex)|w (op op':Cop) (a b c:Ex)
 |y (a:Ex) (es:Exs)|M (a:Ex) (es:Exs)|G (c:Cn) (a b:Ex)
 |k (es:Exs)|s (m:Bool) (es:Exs)|E
 |h (f:Str) (ver:Nat) (es:Exs)|q (f:Bf) (m:Bool) (es:Exs)|H (a d:Ex)
 |L (f:Mf) (m:Bool) (o:Ex) (es:Exs)
 |u (a b:Ex)|Q (m:Bool) (a:Ex) (lo hi st:OEx)
 |p (m:Bool) (N:List Str) (fr:List (Option Nat)) (elt:Ex) (t:Tgt) (it:Itb) (ifs:Cns)
 |z (m:Bool) (N:List Str) (fr:List (Option Nat)) (elt:Ex) (t:Tgt) (it:Itb) (ifs:Cns) (t2:Tgt) (it2:Itb) (ifs2:Cns)
 |r (m:Bool) (a b c:Ex)
 |F (t:Bool)|O (a b:Ex)
 /-- a set D2: only what is walked is known of it -/
 |A (a:Ex)
 /-- sorted(set(a));sorted of a set D2 -/
 |J (m:Bool) (a:Ex)
 |I (m:Bool) (N:List Str) (fr:List (Option Nat)) (elt:Ex) (t:Tgt) (it:Itb) (ifs:Cns)
 |B (m:Bool) (N:List Str) (fr:List (Option Nat)) (elt:Ex) (t:Tgt) (it:Itb) (ifs:Cns) (t2:Tgt) (it2:Itb) (ifs2:Cns)
inductive Exs
 |b|a (e:Ex) (es:Exs)
inductive OEx
 |b|a (e:Ex)
inductive Cn
 |a (e:Ex)|d (c:Cn)|b (c:Cn) (cs:Cns)|f (c:Cn) (cs:Cns)
inductive Cns
 |a|b (c:Cn) (cs:Cns)
inductive Itb
 |f (e:Ex)|d (a:Ex)|g (a b:Ex)|h (e:Ex)|j (a b:Ex)|i (a b c:Ex)
end
set_option genInjectivity false in
mutual
inductive Sm
 |g (e:Ex)|f (e:Ex)|r|d (i:Nat) (e:Ex)|p (is:List Nat) (e:Ex)|w (is:List Nat) (es:Exs)
 |s (i:Nat) (op:Bop) (e:Ex)|l (o i e:Ex)
 |j (c:Cn) (a b:Sms)|h (t:Tgt) (it:Itb) (b:Sms)|m (c:Cn) (b:Sms)
 |n|v|q|k (e:Ex)|u (o i e:Ex)
inductive Sms
 |f|e (s:Sm) (ss:Sms)
 /-- x=[lambda: ..];x.append(lambda: ..) ..;mid;then a row with [_law_said(c) for c in x];k: 0 it is returned,1 it is returned whether it is d,2 if it is not d (or o): b -/
 |g (i:Nat) (L:Exs) (mid:Sms) (k:Nat) (d:Ex) (o:Cns) (b cs:Sms)
end
structure Fn where
 N:List Str
 b:List Str
 c:Bool
 a:Sms
abbrev Calls:=Str->Nat->List Val->Sto->Out Val
noncomputable def zO:Nat:=16777216
noncomputable def newList(m:Bool)(v:List Val)(s:Sto):Out Val:=if m then .e (.j s.length) (s++[.c v]) else .e (.g v) s
noncomputable def xk(s:Sto):Val->Option (List Val)
 |.f vs=>some vs
 |.g vs=>some vs
 |.o ns=>some (ns.map .c)
 |.r ns=>some (ns.map .c)
 |.j i=>match s[i]? with
  |some (.c vs)=>some vs
  |_=>dS
 |_=>dS
noncomputable def yW(s:Sto):Val->Option (List Val)
 |.g vs=>some vs
 |.j i=>match s[i]? with
  |some (.c vs)=>some vs
  |_=>dS
 |_=>dS
def truth(s:Sto):Val->Option Bool
 |.h=>some false
 |.e b=>some b
 |.c i=>some (i != 0)
 |.m x=>if x.length<=zO then some ((x.length:Int) != 0) else dS
 |.f vs=>some !vs.isEmpty
 |.g vs=>some !vs.isEmpty
 |.p=>some false
 |.j i=>match s[i]? with
  |some (.c vs)=>some !vs.isEmpty
  |_=>dS
 |_=>dS
def Out.truth(o:Out Val):Out Bool:=o.bind λv s=>match M.truth s v with
 |some b=>.e b s
 |dS=>.d
noncomputable def yn(s:Sto):Val->Val
 |.j i=>match s[i]? with
  |some (.c vs)=>.g vs
  |_=>.j i
 |v=>v
def zi(s:Sto):Val->Val
 |.f vs=>.f (vs.map (yn s))
 |v=>yn s v
def td(d:PyData):Bool:=d.showable&&d.leavesShort 40&&decide (d.depth<=50)&&decide (d.weight<=300000)&&(!d.hasDict||!L2.xb d)
noncomputable def flat:Val->Bool
 |.h|.e _|.c _|.m _=>true
 |_=>false
noncomputable def eqF:Val->Val->Bool
 |.h,.h=>true
 |.e a,.e b=>a == b
 |.e a,.c b=>(if a then 1 else 0) == b
 |.c a,.e b=>a == (if b then 1 else 0)
 |.c a,.c b=>a == b
 |.m a,.m b=>a == b
 |_,_=>false
def rH(a b:Val):Option Bool:=if a.isD&&b.isD&&decide (b.d.depth<=60) then some (CB a.d b.d) else dS
noncomputable def intsOf:List Val->Option (List Int)
 |[]=>some []
 |.c i::vs=>(intsOf vs).map (i::·)
 |_=>dS
noncomputable def Val.isN:Val->Bool
 |.h=>true
 |_=>false
def inD(x:Val)(v:List Val):Bool:=x.isD&&v5 v&&decide (x.d.depth<=60)
noncomputable def WS{a:Type} [DecidableEq a]:List (a × Val)->a->Option Val
 |[],_=>dS
 |p::r,k=>if p.1=k then some p.2 else WS r k
def Qj{b:Type} [DecidableEq b] (a:List (b × Val))(k:b)(v:Val):List (b × Val):=
 if (WS a k).isSome then a.map (λp=>if p.1=k then (p.1,v) else p) else a++[(k,v)]
noncomputable def UJ(s:Sto):Val->Option (Nat × Cel)
 |.q i=>(s[i]?).map λc=>(i,c)
 |_=>dS
def U7:Cel->Val->Option (Option Val)
 |.e kvs,.m k=>some (WS kvs k)
 |.f kvs,.f vs=>(intsOf vs).map λk=>WS kvs k
 |_,_=>dS
def U8:Cel->Val->Val->Option Cel
 |.e kvs,.m k,v=>if kvs.length<zO then some (.e (Qj kvs k v)) else dS
 |.f kvs,.f vs,v=>(intsOf vs).bind λk=>if kvs.length<zO then some (.f (Qj kvs k v)) else dS
 |_,_,_=>dS
def getD(d y:Val)(s:Sto):Option (Option Val):=(UJ s d).bind λc=>U7 c.2 y
def ixD(d y:Val)(s:Sto):Out Val:=match getD d y s with
 |some (some v)=>.e v s
 |_=>.d
def putD(d y v:Val)(s:Sto):Option Sto:=(UJ s d).bind λc=>(U8 c.2 y v).map λa=>s.set c.1 a
noncomputable def strsOf:List Val->Option (List Str)
 |[]=>some []
 |.m x::vs=>(strsOf vs).map (x::·)
 |_=>dS
def zQ(q:Cop)(x y:Val)(s:Sto):Out Val:=
 match q with
 |.a=>match x,y with
  |.m a,.m b=>.e (.e (decide (a=b))) s
  |.f a,.o ns=>match rH (zi s (.f a)) (.f (ns.map .c)) with|some b=>.e (.e b) s|dS=>.d
  |_,_=>match rH (zi s x) (zi s y) with|some b=>.e (.e b) s|dS=>.d
 |.b=>match x,y with
  |.m a,.m b=>.e (.e !(decide (a=b))) s
  |_,_=>match rH (zi s x) (zi s y) with|some b=>.e (.e !b) s|dS=>.d
 |.m=>match y with|.h=>.e (.e x.isN) s|.e b=>(match x with|.e a=>.e (.e (decide (a=b))) s|_=>.d)|_=>.d
 |.d=>match y with|.h=>.e (.e !x.isN) s|.e b=>(match x with|.e a=>.e (.e !(decide (a=b))) s|_=>.d)|_=>.d
 |.h=>match xk s y with
  |some vs=>if flat x&&vs.all flat then .e (.e (vs.any λz=>eqF z x)) s else if inD x vs then .e (.e (vs.any λz=>CB z.d x.d)) s else .d
  |dS=>.d
 |.g=>match xk s y with
  |some vs=>if flat x&&vs.all flat then .e (.e !(vs.any λz=>eqF z x)) s else if inD x vs then .e (.e !(vs.any λz=>CB z.d x.d)) s else .d
  |dS=>.d
 |.l=>match getD y x s with|some o=>.e (.e o.isSome) s|dS=>.d
 |.e=>match getD y x s with|some o=>.e (.e !o.isSome) s|dS=>.d
 |.f=>match x with
  |.p=>(match xk s y with
   |some vs=>(match M.intsOf vs with|some _=>.e (.e true) s|dS=>.d)
   |dS=>.d)
  |_=>(match xk s y with
   |some vs=>if flat x&&vs.all flat then .e (.e !(vs.any λz=>eqF z x)) s else if inD x vs then .e (.e !(vs.any λz=>CB z.d x.d)) s else .d
   |dS=>.d)
 |.k=>match x,y with
  |.f a,.f b=>(match M.intsOf a,M.intsOf b with|some u,some v=>.e (.e (HT.lexLt v u)) s|_,_=>.d)
  |_,_=>.d
 |.n=>match x,y with|.c i,.c j=>.e (.e (decide (i<j))) s|_,_=>.d
 |.c=>match x,y with|.c i,.c j=>.e (.e (decide (i<=j))) s|_,_=>.d
 |.j=>match x,y with|.c i,.c j=>.e (.e (decide (j<i))) s|_,_=>.d
 |.i=>match x,y with|.c i,.c j=>.e (.e (decide (j<=i))) s|_,_=>.d
def binOp(m:Bool)(o:Bop)(x y:Val)(s:Sto):Out Val:=
 match o with
 |.a=>match x,y with
  |.c i,.c j=>.e (.c (i+j)) s
  |.m a,.m b=>if a.length+b.length<=zO then .e (.m (a++b)) s else .d
  |.f a,.f b=>if a.length+b.length<=zO then .e (.f (a++b)) s else .d
  |_,_=>match yW s x,yW s y with
   |some a,some b=>if a.length+b.length<=zO then newList m (a++b) s else .d
   |_,_=>.d
 |.e=>match x,y with|.c i,.c j=>.e (.c (i-j)) s|_,_=>.d
 |.b=>match x,y with
  |.c i,.c j=>if (-(2 ^ 64)<i/\i<2 ^ 64)\/(-(2 ^ 64)<j/\j<2 ^ 64) then .e (.c (i*j)) s else .d
  |.f a,.c k=>if -1000<=k/\k<=1000/\a≠[]/\a.length<=1000 then .e (.f (Ay k.toNat a).flatten) s else .d
  |_,.c k=>match yW s x with
   |some a=>if -1000<=k/\k<=1000/\a.length*k.toNat<=zO then newList m (Ay k.toNat a).flatten s else .d
   |dS=>.d
  |_,_=>.d
 |.d=>match x,y with|.c i,.c j=>if 0<j/\j<1073741824 then .e (.c (i/j)) s else .d|_,_=>.d
 |.c=>match x,y with|.c i,.c j=>if 0<j then .e (.c (i%j)) s else .d|_,_=>.d
 |.g=>match x,y with|.c i,.c j=>if 0<=j/\j<=1000000/\i.natAbs<2 ^ 64 then .e (.c (i ^ j.toNat)) s else .d|_,_=>.d
 |.h=>match x,y with|.c i,.c j=>if 0<=j/\j<=1000000/\i.natAbs<2 ^ 64 then .e (.c (i*2 ^ j.toNat)) s else .d|_,_=>.d
 |.i=>match x,y with|.c i,.c j=>if 0<=j then .e (.c (i/2 ^ j.toNat)) s else .d|_,_=>.d
 |.f=>match x,y with|.c i,.c j=>.e (.c (Builtin.bitAnd i j)) s|_,_=>.d
noncomputable def kindOf:Val->Option L2.Kd
 |.h=>some .f
 |.e _=>some .i
 |.c _=>some .d
 |.m _=>some .h
 |.f _=>some .b
 |.g _=>some .e
 |.p=>some .g
 |.j _=>some .e
 |_=>dS
noncomputable def uY:String->Option L2.Kd
 |"bool"=>some .i
 |"int"=>some .d
 |"str"=>some .h
 |"list"=>some .e
 |"tuple"=>some .b
 |"dict"=>some .g
 |_=>dS
noncomputable def boolsOf:List Val->Option (List Bool)
 |[]=>some []
 |.e b::vs=>(boolsOf vs).map (b::·)
 |_=>dS
noncomputable def pairsOf:List Val->Option (List (Int × Int))
 |[]=>some []
 |.f [.c a,.c b]::vs=>(pairsOf vs).map ((a,b)::·)
 |_=>dS
noncomputable def prV(z:Int × Int):Val:=.f [.c z.1,.c z.2]
def Q7(z:Int × Int):List (Int × Int)->List (Int × Int)
 |[]=>[z]
 |y::ys=>if L2.UH z<=L2.UH y then z::y::ys else y::Q7 z ys
def Uo:List (Int × Int)->List (Int × Int)
 |[]=>[]
 |z::zs=>Q7 z (Uo zs)
def oE:List Val->Option (List (List Int))
 |[]=>some []
 |.f a::vs=>match intsOf a,oE vs with
  |some z,some zs=>some (z::zs)
  |_,_=>dS
 |_=>dS
noncomputable def tpV(z:List Int):Val:=.f (z.map .c)
noncomputable def tpS(x:Str)(z:List Int):Val:=.f (.m x::z.map .c)
def Ut(x:Str):List Val->Option (List (List Int))
 |[]=>some []
 |.f (.m y::a)::vs=>if y=x then (match intsOf a,Ut x vs with
  |some z,some zs=>some (z::zs)
  |_,_=>dS) else dS
 |_=>dS
noncomputable def UR:List Val->Str
 |.f (.m x::_)::_=>x
 |_=>""
def XZ(m:Bool)(v:List Val)(s:Sto):Out Val:=match oE v with
 |some zs=>if zs.Nodup/\(zs.length<2\/∀z∈zs,z≠[]) then newList m ((L2.Xa zs).map tpV) s else .d
 |dS=>.d
noncomputable def nub:List (List Int)->List (List Int)
 |[]=>[]
 |z::zs=>if z∈zs then nub zs else z::nub zs
def setOk(v:List Val):Option (List (List Int)):=(oE v).bind λz=>if (nub z).length<306 then some (nub z) else dS
def Xb(m:Bool)(v:List Val)(s:Sto):Out Val:=match setOk v with
 |some zs=>if zs.length<2\/∀z∈zs,z≠[] then newList m ((L2.Xa zs).map tpV) s else .d
 |dS=>.d
def Oi(m:Bool)(v:Val)(s:Sto):Out Val:=match yW s v with
 |some vs=>Xb m vs s
 |dS=>.d
def OW(a:List (List Int)):Bool:=decide (a.length<2)||match a with
 |[]=>true
 |z::_=>decide (0<z.length)&&a.all (λy=>decide (y.length=z.length))&&(Ai (a.length-1)).all λi=>!L2.oQ (a.getD (i+1) []) (a.getD i [])
def Rw(m:Bool)(v:List Val)(s:Sto):Out Val:=match oE v with
 |some zs=>if OW zs then newList m v s else .d
 |dS=>.d
noncomputable def insI(z:Int):List Int->List Int
 |[]=>[z]
 |y::ys=>if z<=y then z::y::ys else y::insI z ys
def sortI:List Int->List Int
 |[]=>[]
 |z::zs=>insI z (sortI zs)
def blt(f:Bf)(m:Bool)(t:List Val)(s:Sto):Out Val:=
 match f with
 |.a=>match t with
  |[.m x]=>if x.length<=zO then .e (.c x.length) s else .d
  |[x]=>match xk s x with|some vs=>.e (.c vs.length) s|dS=>.d
  |_=>.d
 |.j=>match t with
  |[x]=>match yW s x with|some vs=>(match boolsOf vs with|some v=>.e (.e (v.all id)) s|dS=>.d)|dS=>.d
  |_=>.d
 |.q=>match t with
  |[x]=>match yW s x with|some vs=>(match boolsOf vs with|some v=>.e (.e (v.any id)) s|dS=>.d)|dS=>.d
  |_=>.d
 |.h=>match t with
  |[.f vs]=>.e (.f vs) s
  |[x]=>match yW s x with|some vs=>.e (.f vs) s|dS=>.d
  |_=>.d
 |.k=>match t with
  |[x]=>match xk s x with|some vs=>newList m vs s|dS=>.d
  |_=>.d
 |.b=>match t with
  |[x]=>if (zi s x).isR&&td (zi s x).d then .e (.m (zi s x).d.shown) s else .d
  |_=>.d
 |.l=>match t with
  |[.c i,.c j]=>.e (.c (if j > i then j else i)) s
  |[.f vs]=>(match M.intsOf vs with|some ns=>if ns≠[] then .e (.c (L2.uG 0 ns)) s else .d|dS=>.d)
  |[x]=>match yW s x with|some vs=>(match M.intsOf vs with|some ns=>if ns≠[] then .e (.c (L2.uG 0 ns)) s else .d|dS=>.d)|dS=>.d
  |_=>.d
 |.m=>match t with
  |[.c i,.c j]=>.e (.c (if j<i then j else i)) s
  |[.f vs]=>(match M.intsOf vs with|some ns=>if ns≠[] then .e (.c (L2.ua 0 ns)) s else .d|dS=>.d)
  |[x]=>match yW s x with|some vs=>(match M.intsOf vs with|some ns=>if ns≠[] then .e (.c (L2.ua 0 ns)) s else .d|dS=>.d)|dS=>.d
  |_=>.d
 |.p=>match t with
  |[.c i]=>.e (.c i) s
  |[.e b]=>.e (.c (if b then 1 else 0)) s
  |_=>.d
 |.i=>match t with
  |[x,.u n]=>match kindOf x,uY n with|some a,some c=>.e (.e (a.sub c)) s|_,_=>.d
  |_=>.d
 |.e=>match t with
  |[.c i,.c j]=>if 0<j/\j<1073741824 then .e (.f [.c (i/j),.c (i%j)]) s else .d
  |_=>.d
 |.r=>match t with
  |[.c i]=>if i.natAbs.log2<1920 then .e (.m (toString i)) s else .d
  |_=>.d
 |.s=>match t with
  |[x]=>match yW s x with|some vs=>(match M.intsOf vs with|some ns=>if L2.Ol ns then .e (.c ns.sum) s else .d|dS=>.d)|dS=>.d
  |_=>.d
 |.g=>match t with
  |[x]=>match yW s x with
   |some vs=>(match pairsOf vs with
    |some zs=>if zs.Nodup/\∀z∈zs,0<=z.2/\z.2<1000 then newList m ((Uo zs).map prV) s else XZ m vs s
    |dS=>XZ m vs s)
   |dS=>.d
  |_=>.d
 |.o=>match t with
  |[x]=>match yW s x with|some vs=>(match oE vs with|some zs=>if zs≠[] then .e (tpV (L2.Pe zs)) s else .d|dS=>.d)|dS=>.d
  |_=>.d
 |.n=>match t with
  |[x]=>match yW s x with|some vs=>(match Ut (UR vs) vs with|some zs=>if zs≠[] then .e (tpS (UR vs) (L2.Pe zs)) s else .d|dS=>.d)|dS=>.d
  |_=>.d
 |.d=>match t with
  |[x]=>match yW s x with|some vs=>Rw m vs s|dS=>.d
  |_=>.d
 |.c=>match t with
  |[x]=>match xk s x with|some vs=>(match M.intsOf vs with|some ns=>if ns.length<64 then newList m ((sortI ns).map .c) s else .d|dS=>.d)|dS=>.d
  |_=>.d
def mxD(x y:Val)(s:Sto):Out Val:=match y with
 |.c k=>(match yW s x with|some vs=>(match M.intsOf vs with|some ns=>.e (.c (L2.uG k ns)) s|dS=>.d)|dS=>.d)
 |_=>.d
noncomputable def upd(s:Sto)(i:Nat)(v:List Val):Sto:=s.set i (.c v)
def yk(f:Mf)(o:Val)(x:List Val)(s:Sto):Out Val:=
 match f with
 |.b=>match o,x with
  |.f vs,[y]=>if flat y&&vs.all flat then .e (.c (vs.countP λz=>eqF z y:Nat)) s else .d
  |_,[y]=>match yW s o with|some vs=>if flat y&&vs.all flat then .e (.c (vs.countP λz=>eqF z y:Nat)) s else .d|dS=>.d
  |_,_=>.d
 |.a=>match o,x with
  |.j i,[y]=>match s[i]? with|some (.c vs)=>if vs.length<zO then .e .h (upd s i (vs++[y])) else .d|_=>.d
  |_,_=>.d
 |.c=>match o,x with
  |.j i,[y]=>match s[i]?,yW s y with|some (.c vs),some ws=>if vs.length+ws.length<=zO then .e .h (upd s i (vs++ws)) else .d|_,_=>.d
  |_,_=>.d
 |.f=>match o,x with
  |.j i,[.c k]=>(match s[i]? with
   |some (.c vs)=>if -(2 ^ 63)<=k/\k<2 ^ 63 then (match seqIndex? k vs.length with
    |some j=>(match vs[j]? with|some y=>.e y (upd s i (vs.eraseIdx j))|dS=>.d)
    |dS=>.d) else .d
   |_=>.d)
  |.j i,[]=>(match s[i]? with
   |some (.c vs)=>(match vs[vs.length-1]? with|some y=>.e y (upd s i (vs.take (vs.length-1)))|dS=>.d)
   |_=>.d)
  |_,_=>.d
 |.d=>match o,x with
  |.f vs,[y]=>if flat y&&vs.all flat then (match vs.findIdx? λz=>eqF z y with|some j=>.e (.c (j:Nat)) s|dS=>.d) else .d
  |_,_=>.d
 |.e=>match o,x with
  |.m z,[y]=>(match yW s y with
   |some vs=>(match strsOf vs with|some g=>if (g.map (·.length)).sum+g.length*z.length<=16777216 then .e (.m (L2.PR z g)) s else .d|dS=>.d)
   |dS=>.d)
  |_,_=>.d
def wI(a b:Val)(s:Sto):Out Val:=
 match b with
 |.c i=>match xk s a with|some vs=>(match L2.atI vs i with|some v=>.e v s|dS=>.d)|dS=>.d
 |_=>.d
def WO{a:Type}(x:List a)(l h:Option Int):List a:=(x.drop (HT.sIx x.length 0 l)).take (HT.sIx x.length x.length h-HT.sIx x.length 0 l)
def pj(m:Bool)(a:Val)(l h b:Option Int)(s:Sto):Out Val:=
 match a,b with
 |.f vs,dS=>.e (.f (WO vs l h)) s
 |.f vs,some c=>if c≠0/\(L2.ym vs.length l h c).2<=zO then .e (.f (L2.yC vs (L2.ym vs.length l h c).1 c (L2.ym vs.length l h c).2)) s else .d
 |_,dS=>match yW s a with|some vs=>newList m (WO vs l h) s|dS=>.d
 |_,some c=>match yW s a with|some vs=>if c≠0 then newList m (L2.yC vs (L2.uV vs.length l h c).1 c (L2.uV vs.length l h c).2) s else .d|dS=>.d
def iq(m:Bool)(x y z:Val)(s:Sto):Out Val:=match x,y,z with
 |.c i,.c j,.c k=>if -(2 ^ 30)<=i/\i<=2 ^ 30∧-(2 ^ 30)<=j/\j<=2 ^ 30/\0<k/\k<=2 ^ 29/\B8 i j k<=1000 then newList m ((L2.gN i j k).map .c) s else .d
 |.h,y,.m _=>(match xk s y with|some vs=>(match M.intsOf vs with|some ns=>if ns.length<=1000 then .e (.c (L2.dN ns:Nat)) s else .d|dS=>.d)|dS=>.d)
 |.c i,.c j,.e _=>if -(2 ^ 30)<=i/\i<=2 ^ 30∧-(2 ^ 30)<=j/\j<=2 ^ 30/\B8 i j 1<=1000 then newList m ((L2.gN i j 1).map .c) s else .d
 |.c i,.c j,.h=>if -(2 ^ 30)<=i/\i<=2 ^ 30∧-(2 ^ 30)<=j/\j<=2 ^ 30/\B8 i j 1<=1000 then .e (.f ((L2.gN i j 1).map .c)) s else .d
 |_,_,_=>.d
noncomputable def xj(t:Tgt)(v:Val)(c:Env):Option Env:=
 match t with
 |.a i=>some (c.set i (some v))
 |.b is=>match v with
  |.f vs=>if vs.length=is.length then some ((is.zip vs).foldl (λe p=>e.set p.1 (some p.2)) c) else dS
  |_=>dS
structure Src where
 a:List Val
 b:Option Nat
def Src.ok(r:Src)(s:Sto):Bool:=match r.b with
 |dS=>true
 |some i=>match s[i]? with
  |some (.c vs)=>rC vs r.a
  |_=>false
noncomputable def O4:List Val->List Val->List Val
 |v::vs,w::ws=>.f [v,w]::O4 vs ws
 |_,_=>[]
noncomputable def yJ(n:Nat):List Val->List Val
 |[]=>[]
 |v::vs=>.f [.c n,v]::yJ (n+1) vs
noncomputable def srcOf(s:Sto):Val->Option Src
 |.f vs=>some ⟨vs,dS⟩
 |.g vs=>some ⟨vs,dS⟩
 |.o ns=>some ⟨ns.map .c,dS⟩
 |.j i=>match s[i]? with
  |some (.c vs)=>some ⟨vs,some i⟩
  |_=>dS
 |_=>dS
noncomputable def OY(l c:Int)(n:Nat):List Val:=(Ai n).map λ(k:Nat)=>Val.c (l+k*c)
def NR(x y z:Val)(s:Sto):Out Src:=match x,y,z with
 |.c i,.c j,.c k=>if 0<=i/\i<=1000/\0<=j/\j<=1000/\1<=k/\k<=1000 then .e ⟨OY i k (B8 i j k).toNat,dS⟩ s else .d
 |_,_,_=>.d
noncomputable def yI(l:Int)(n:Nat):List Val:=(Ai n).map λ(k:Nat)=>Val.c (l+k)
def yQ(r:Src)(t:Tgt)(b:Env->Sto->List Val->Out (List Val × Env)):List Val->Env->Sto->List Val->Out (List Val × Env)
 |[],env,s,acc=>if r.ok s then .e (acc,env) s else .d
 |x::xs,env,s,acc=>if r.ok s then match xj t x env with
    |dS=>.d
    |some j=>(b j s acc).bind λp w=>yQ r t b xs p.2 w p.1
  else .d
noncomputable def ze(f:List (Option Nat))(e:Env):Env:=f.map λo=>match o with|some j=>(e[j]?).join|dS=>dS
inductive Fl
 |a (env:Env)|c (env:Env)|d (env:Env)|b (v:Val)
def uF(r:Src)(t:Tgt)(f:Env->Sto->Out Fl):List Val->Env->Sto->Out Fl
 |[],env,s=>if r.ok s then .e (.a env) s else .d
 |x::xs,env,s=>if r.ok s then match xj t x env with
    |dS=>.d
    |some j=>(f j s).bind λy w=>match y with
     |.a e=>uF r t f xs e w
     |.d e=>uF r t f xs e w
     |.c e=>.e (.a e) w
     |.b v=>.e (.b v) w
  else .d
def YM(c:Env->Sto->Out Bool)(f:Env->Sto->Out Fl):Nat->Env->Sto->Out Fl
 |0,_,_=>.d
 |n+1,env,s=>(c env s).bind λb w=>if b then (f env w).bind λy j=>match y with
    |.a e=>YM c f n e j
    |.d e=>YM c f n e j
    |.c e=>.e (.a e) j
    |.b v=>.e (.b v) j
  else .e (.a env) w
noncomputable def Qd:Nat:=100000
noncomputable def Xk:Sto->List Str
 |.d x::r=>x::Xk r
 |_=>[]
section
variable (Φ:Calls)(G:Str->Option Val)
mutual
noncomputable def evE(N:Env):Ex->Sto->Out Val
 |.g v,s=>.e v s
 |.e i,s=>match N[i]? with|some (some v)=>.e v s|_=>.d
 |.C x,s=>match G x with|some v=>.e v s|dS=>.d
 |.P _ n,s=>.e (.u n) s
 |.j m op a b,s=>(evE N a s).bind λx S=>(evE N b S).bind λy U=>binOp m op x y U
 |.D a,s=>(evE N a s).bind λx S=>match x with|.c i=>.e (.c (-i)) S|_=>.d
 |.K a,s=>(evE N a s).bind λx S=>match x with|.e b=>.e (.e !b) S|_=>.d
 |.l op a b,s=>(evE N a s).bind λx S=>(evE N b S).bind λy U=>zQ op x y U
 |.w op op' a b c,s=>(evE N a s).bind λx S=>(evE N b S).bind λy U=>(zQ op x y U).bind λr s3=>match r with
  |.e true=>(evE N c s3).bind λz s4=>zQ op' y z s4
  |.e false=>.e (.e false) s3
  |_=>.d
 |.y a es,s=>match es with
  |.b=>evE N a s
  |.a _ _=>(evE N a s).bind λx S=>match x with
   |.e true=>r0 N es S
   |.e false=>.e (.e false) S
   |_=>.d
 |.M a es,s=>match es with
  |.b=>evE N a s
  |.a _ _=>(evE N a s).bind λx S=>match truth S x with
   |some false=>kG N es S
   |some true=>.e x S
   |dS=>.d
 |.G c a b,s=>(evT N c s).bind λt S=>if t then evE N a S else evE N b S
 |.k es,s=>(zr N es s).bind λvs S=>if vs.length<=zO then .e (.f vs) S else .d
 |.s m es,s=>(zr N es s).bind λvs S=>if vs.length<=zO then newList m vs S else .d
 |.E,s=>.e .p s
 |.h f ver es,s=>(zr N es s).bind λvs S=>Φ f ver vs S
 |.q f m es,s=>(zr N es s).bind λvs S=>blt f m vs S
 |.H a d,s=>(evE N a s).bind λx S=>(evE N d S).bind λy U=>mxD x y U
 |.L f _ o es,s=>(evE N o s).bind λx S=>(zr N es S).bind λvs U=>yk f x vs U
 |.u a b,s=>(evE N a s).bind λx S=>(evE N b S).bind λy U=>wI x y U
 |.Q m a lo hi st,s=>(evE N a s).bind λx S=>(evO N lo S).bind λl U=>(evO N hi U).bind λh s3=>(evO N st s3).bind λc s4=>pj m x l h c s4
 |.p m _ fr elt t it ifs,s=>(yM N it s).bind λr S=>
  (yQ r t (λe s' W=>(yo e ifs s').bind λb U=>if b then (evE e elt U).bind λv s3=>.e (W++[v],e) s3 else .e (W,e) U) r.a (ze fr N) S []).bind λp U=>newList m p.1 U
 |.z m _ fr elt t it ifs t2 it2 ifs2,s=>(yM N it s).bind λr S=>
  (yQ r t (λe s' W=>(yo e ifs s').bind λb U=>if b then (yM e it2 U).bind λr2 s3=>
      yQ r2 t2 (λe' s4 acc'=>(yo e' ifs2 s4).bind λb' s5=>if b' then (evE e' elt s5).bind λv s6=>.e (acc'++[v],e') s6 else .e (acc',e') s5) r2.a e s3 W
   else .e (W,e) U) r.a (ze fr N) S []).bind λp U=>if p.1.length<=zO then newList m p.1 U else .d
 |.F t,s=>.e (.q s.length) (s++[if t then .f [] else .e []])
 |.O a b,s=>(evE N a s).bind λx S=>(evE N b S).bind λy U=>ixD x y U
 |.A _,_=>.d
 |.J m a,s=>(evE N a s).bind λx S=>Oi m x S
 |.I m _ fr elt t it ifs,s=>(yM N it s).bind λr S=>
  (yQ r t (λe s' W=>(yo e ifs s').bind λb U=>if b then (evE e elt U).bind λv s3=>.e (W++[v],e) s3 else .e (W,e) U) r.a (ze fr N) S []).bind λp U=>Xb m p.1 U
 |.B m _ fr elt t it ifs t2 it2 ifs2,s=>(yM N it s).bind λr S=>
  (yQ r t (λe s' W=>(yo e ifs s').bind λb U=>if b then (yM e it2 U).bind λr2 s3=>
      yQ r2 t2 (λe' s4 acc'=>(yo e' ifs2 s4).bind λb' s5=>if b' then (evE e' elt s5).bind λv s6=>.e (acc'++[v],e') s6 else .e (acc',e') s5) r2.a e s3 W
   else .e (W,e) U) r.a (ze fr N) S []).bind λp U=>Xb m p.1 U
 |.r m a b c,s=>(evE N a s).bind λx S=>(evE N b S).bind λy U=>(evE N c U).bind λz s3=>iq m x y z s3
noncomputable def r0(c:Env):Exs->Sto->Out Val
 |.b,_=>.d
 |.a a es,s=>match es with
  |.b=>evE c a s
  |.a _ _=>(evE c a s).bind λx j=>match x with
   |.e true=>r0 c es j
   |.e false=>.e (.e false) j
   |_=>.d
noncomputable def kG(c:Env):Exs->Sto->Out Val
 |.b,_=>.d
 |.a a es,s=>match es with
  |.b=>evE c a s
  |.a _ _=>(evE c a s).bind λx j=>match truth j x with
   |some false=>kG c es j
   |some true=>.e x j
   |dS=>.d
noncomputable def zr(c:Env):Exs->Sto->Out (List Val)
 |.b,s=>.e [] s
 |.a e es,s=>(evE c e s).bind λv y=>(zr c es y).bind λj w=>.e (v::j) w
noncomputable def evO(f:Env):OEx->Sto->Out (Option Int)
 |.b,s=>.e dS s
 |.a e,s=>(evE f e s).bind λv j=>match v with|.c i=>.e (some i) j|_=>.d
/-- a test -/
noncomputable def evT(c:Env):Cn->Sto->Out Bool
 |.a e,s=>(evE c e s).truth
 |.d a,s=>(evT c a s).bind λb j=>.e (!b) j
 |.b a es,s=>(evT c a s).bind λb j=>if b then yo c es j else .e false j
 |.f a es,s=>(evT c a s).bind λb j=>if b then .e true j else qF c es j
noncomputable def yo(c:Env):Cns->Sto->Out Bool
 |.a,s=>.e true s
 |.b a es,s=>(evT c a s).bind λb j=>if b then yo c es j else .e false j
noncomputable def qF(c:Env):Cns->Sto->Out Bool
 |.a,s=>.e false s
 |.b a es,s=>(evT c a s).bind λb j=>if b then .e true j else qF c es j
noncomputable def yM(k:Env):Itb->Sto->Out Src
 |.f e,s=>(evE k e s).bind λv w=>match srcOf w v with|some r=>.e r w|dS=>.d
 |.d a,s=>(evE k a s).bind λx w=>match x with
  |.c j=>if -(2 ^ 62)<=j/\j<=zO then .e ⟨yI 0 j.toNat,dS⟩ w else .d
  |_=>.d
 |.g a b,s=>(evE k a s).bind λx w=>(evE k b w).bind λy F=>match x,y with
  |.c i,.c j=>if -(2 ^ 62)<=i/\i<2 ^ 62∧-(2 ^ 62)<=j/\j<2 ^ 62/\j-i<=zO then .e ⟨yI i (j-i).toNat,dS⟩ F else .d
  |_,_=>.d
 |.i a b c,s=>(evE k a s).bind λx w=>(evE k b w).bind λy F=>(evE k c F).bind λz L=>NR x y z L
 |.h e,s=>(evE k e s).bind λv w=>match v with
  |.f vs=>.e ⟨yJ 0 vs,dS⟩ w
  |.g vs=>.e ⟨yJ 0 vs,dS⟩ w
  |_=>.d
 |.j a b,s=>(evE k a s).bind λx w=>(evE k b w).bind λy F=>match x,y with
  |.f vs,.f ws=>if ws.length<=vs.length then .e ⟨O4 vs ws,dS⟩ F else .d
  |_,_=>.d
end
mutual
noncomputable def exS(A:Env):Sm->Sto->Out Fl
 |.g e,s=>(evE Φ G A e s).bind λ_ F=>.e (.a A) F
 |.f e,s=>(evE Φ G A e s).bind λv F=>.e (.b v) F
 |.r,s=>.e (.b .h) s
 |.d i e,s=>(evE Φ G A e s).bind λv F=>.e (.a (A.set i (some v))) F
 |.p is e,s=>(evE Φ G A e s).bind λv F=>match xj (.b is) v A with|some S=>.e (.a S) F|dS=>.d
 |.w is es,s=>(zr Φ G A es s).bind λM F=>if M.length=is.length then .e (.a ((is.zip M).foldl (λe p=>e.set p.1 (some p.2)) A)) F else .d
 |.s i op e,s=>match A[i]? with
  |some (some (.c x))=>(evE Φ G A e s).bind λv F=>match v with
   |.c y=>(binOp false op (.c x) (.c y) F).bind λz L=>.e (.a (A.set i (some z))) L
   |_=>.d
  |some (some (.f x))=>if op=.a then (evE Φ G A e s).bind λv F=>match v with
   |.f y=>(binOp false .a (.f x) (.f y) F).bind λz L=>.e (.a (A.set i (some z))) L
   |_=>.d
   else .d
  |_=>.d
 |.l o i e,s=>(evE Φ G A e s).bind λv F=>(evE Φ G A o F).bind λx L=>(evE Φ G A i L).bind λy U=>match x,y with
  |.j r,.c k=>(match U[r]? with
   |some (.c M)=>(match L2.ixN M.length k with|some j=>.e (.a A) (upd U r (M.set j v))|dS=>.d)
   |_=>.d)
  |_,_=>.d
 |.j c a b,s=>(evT Φ G A c s).bind λt F=>if t then zP A a F else zP A b F
 |.h t it b,s=>(yM Φ G A it s).bind λr F=>uF r t (λe O=>zP e b O) r.a A F
 |.m c b,s=>YM (λe O=>evT Φ G e c O) (λe O=>zP e b O) Qd A s
 |.n,s=>.e (.a A) s
 |.v,s=>.e (.c A) s
 |.q,s=>.e (.d A) s
 |.k _,_=>.d
 |.u o i e,s=>(evE Φ G A e s).bind λv F=>(evE Φ G A o F).bind λx L=>(evE Φ G A i L).bind λy U=>match putD x y v U with|some W=>.e (.a A) W|dS=>.d
noncomputable def zP(h:Env):Sms->Sto->Out Fl
 |.f,s=>.e (.a h) s
 |.e c cs,s=>(exS h c s).bind λj F=>match j with
  |.a e=>zP e cs F
  |j=>.e j F
 |.g i L mid k d o b cs,s=>(zP (h.set i dS) mid s).bind λj U=>match j with
  |.a e0=>if Xk s=Xk U then (zr Φ G e0 L U).bind λM F=>if k=0 then .e (.b (.g M)) F else
   if k=1 then (evE Φ G e0 d F).bind λy O=>(zQ .a (.g M) y O).bind λr w=>.e (.b r) w
   else ((evE Φ G e0 d F).bind λy O=>((zQ .b (.g M) y O).truth).bind λr w=>if r then .e true w else qF Φ G e0 o w).bind λr w=>
    (if r then zP e0 b w else .e (.a e0) w).bind λj S=>match j with
   |.a e=>zP e cs S
   |j=>.e j S
   else .d
  |_=>.d
end
end
abbrev tP:=Option (Str × List Val × Sto)
abbrev ye:=Str->Nat->List Val->Sto->tP
noncomputable def r9:List Val->Bool
 |[.m _]=>true
 |[.c i,.c j]=>decide (i.natAbs<2 ^ 64)&&decide (j.natAbs<2 ^ 64)
 |_=>false
section
variable (W:Str->Bool)(Φ:Calls)(Ψ:ye)(G:Str->Option Val)
mutual
noncomputable def xE(b:Env):Ex->Sto->tP
 |.h f v es,s=>match zr Φ G b es s with
  |.e vs s1=>Ψ f v vs s1
  |_=>dS
 |.l _ a _,s=>xE b a s
 |.j _ _ a _,s=>xE b a s
 |.q _ _ es,s=>xL b es s
 |.p _ _ _ _ _ it _,s=>xI b it s
 |.A a,s=>xE b a s
 |_,_=>dS
/-- one argument that raises -/
noncomputable def xL(e:Env):Exs->Sto->tP
 |.a a es,s=>match es with
  |.b=>xE e a s
  |.a _ _=>dS
 |.b,_=>dS
/-- what is walked raises -/
noncomputable def xI(e:Env):Itb->Sto->tP
 |.f a,s=>xE e a s
 |_,_=>dS
end
def xT(b:Env):Cn->Sto->tP
 |.a e,s=>match e with
  |.h f v es=>xE Φ Ψ G b (.h f v es) s
  |_=>dS
 |.d c,s=>xT b c s
 |_,_=>dS
mutual
noncomputable def xS(i:Env):Sm->Sto->tP
 |.g e,s=>xE Φ Ψ G i e s
 |.f e,s=>xE Φ Ψ G i e s
 |.d _ e,s=>xE Φ Ψ G i e s
 |.j c a b,s=>match evT Φ G i c s with
  |.e t s1=>if t then xSs i a s1 else xSs i b s1
  |_=>xT Φ Ψ G i c s
 |.k e,s=>match e with
  |.h c _ es=>(match zr Φ G i es s with
   |.e vs s1=>if r9 vs&&W c then some (c,vs,s1) else dS
   |_=>dS)
  |_=>dS
 |_,_=>dS
noncomputable def xSs(b:Env):Sms->Sto->tP
 |.f,_=>dS
 |.e c cs,s=>match exS Φ G b c s with
  |.e fl s1=>(match fl with
   |.a e=>xSs e cs s1
   |_=>dS)
  |_=>xS b c s
 |.g _ _ _ _ _ _ _ _,_=>dS
end
end
section
variable {W:Str->Bool}{Φ:Calls}{Ψ:ye}{G:Str->Option Val}{env:Env}{s:Sto}
def XQ:(∀f v w,xE Φ Ψ G env (.h f v w) s=match zr Φ G env w s with
 |.e vs s1=>Ψ f v vs s1
 |_=>dS)/\(∀o a b,xE Φ Ψ G env (.l o a b) s=xE Φ Ψ G env a s)/\(∀m o a b,xE Φ Ψ G env (.j m o a b) s=xE Φ Ψ G env a s)/\(∀f m w,xE Φ Ψ G env (.q f m w) s=xL Φ Ψ G env w s)/\(∀m N L e t y F,xE Φ Ψ G env (.p m N L e t y F) s=xI Φ Ψ G env y s)/\(∀a,xE Φ Ψ G env (.A a) s=xE Φ Ψ G env a s) /\
 (∀a,xL Φ Ψ G env (.a a .b) s=xE Φ Ψ G env a s)/\(∀a b c,xL Φ Ψ G env (.a a (.a b c)) s=dS)/\(xL Φ Ψ G env .b s=dS)/\(∀a,xI Φ Ψ G env (.f a) s=xE Φ Ψ G env a s) /\
 (∀f v w,xT Φ Ψ G env (.a (.h f v w)) s=xE Φ Ψ G env (.h f v w) s)/\(∀c,xT Φ Ψ G env (.d c) s=xT Φ Ψ G env c s):=
 ⟨λ_ _ _=>rfl,λ_ _ _=>rfl,λ_ _ _ _=>rfl,λ_ _ _=>rfl,λ_ _ _ _ _ _ _=>rfl,λ_=>rfl,λ_=>rfl,λ_ _ _=>rfl,rfl,λ_=>rfl,λ_ _ _=>rfl,λ_=>rfl⟩
def XW:(∀e,xS W Φ Ψ G env (.g e) s=xE Φ Ψ G env e s)/\(∀e,xS W Φ Ψ G env (.f e) s=xE Φ Ψ G env e s)/\(∀i e,xS W Φ Ψ G env (.d i e) s=xE Φ Ψ G env e s)/\(∀c a b,xS W Φ Ψ G env (.j c a b) s=match evT Φ G env c s with
 |.e t s1=>if t then xSs W Φ Ψ G env a s1 else xSs W Φ Ψ G env b s1
 |_=>xT Φ Ψ G env c s)/\(∀c v w,xS W Φ Ψ G env (.k (.h c v w)) s=(match zr Φ G env w s with
  |.e vs s1=>if r9 vs&&W c then some (c,vs,s1) else dS
  |_=>dS))/\(∀c y,xSs W Φ Ψ G env (.e c y) s=match exS Φ G env c s with
 |.e fl s1=>(match fl with
  |.a e=>xSs W Φ Ψ G e y s1
  |_=>dS)
 |_=>xS W Φ Ψ G env c s):=
 ⟨λ_=>rfl,λ_=>rfl,λ_ _=>rfl,λ_ _ _=>rfl,λ_ _ _=>rfl,λ_ _=>rfl⟩
end
noncomputable def zb(N:List Str)(v:List Val):Env:=v.map some++Ay (N.length-v.length) dS
def leave(F:Fn)(a:Sto)(v:Val)(s:Sto):Out Val:=
 if F.c then .e v s
 else if wk a s then (match freeze a.length s v with|some b=>.e b (s.take a.length)|dS=>.d) else .d
structure Tbl where
 c:Str->Nat->Option Fn
 b:Str->Option Val
 /-- the defs whose tables the store holds,from its start -/
 e:List Str:=[]
 /-- the classes of exceptions,and what the law's def says of each -/
 d:List (Str × Str):=[]
 /-- which of the law's two defs that try a call is there -/
 f:Bool->Bool:=λ_=>false
noncomputable def zu:List Str->Sto->Bool
 |[],_=>true
 |x::r,.d y::s=>decide (x=y)&&zu r s
 |_::_,_=>false
noncomputable def jV(m:Bool)(w:Str)(a:List Val):Val:=if m then .m w else if w="great" then .f (.m w::a) else .m w
def nS(T:Tbl)(m:Bool)(o:Out Val)(x:tP):Out Val:=match o with
 |.e v s=>.e (if m then v else .m "told") s
 |_=>match x with
  |some (c,as,s)=>(match T.d.lookup c with
   |some w=>.e (jV m w as) s
   |dS=>.d)
  |dS=>.d
noncomputable def qw:Str × List Val × Sto->Out Val
 |(c,as,s)=>if c="TooGreat" then .e (.f as) s else .d
def qv:Out Val->tP->Out Val
 |.e _ s,_=>.e .h s
 |_,some r=>qw r
 |_,dS=>.d
noncomputable def mW(T:Tbl):Bool:=T.f true&&decide (T.d.lookup ("TooGreat":Str)=some "! great")
def run(T:Tbl)(A:Calls)(F:Fn)(c:List Val)(s:Sto):Out Val:=
 if c.length=F.b.length then (zP A T.b (zb F.N c) F.a s).bind λg f=>match g with
  |.a _=>leave F s .h f
  |.b v=>leave F s v f
  |_=>.d
 else .d
noncomputable def kH:List Val->Option Str
 |.t g::_=>some g
 |_=>dS
mutual
noncomputable def zC(T:Tbl):Nat->Calls
 |0=>λ_ _ _ _=>.d
 |n+1=>λf j w s=>match T.c f j with|some F=>run T (zC T n) F w s|dS=>if ((decide (j=100)&&T.f false)||(decide (j=101)&&T.f true))&&zu T.e s then nS T (decide (j=101)) (zC T n f 0 w s) (zS T n f 0 w s) else (match kH w with|some g=>if decide (j=200) then (match T.c g 0 with|some F=>run T (zC T n) F w.tail s|dS=>.d) else if ((decide (j=300)&&T.f false)||(decide (j=301)&&T.f true))&&zu T.e s then nS T (decide (j=301)) (zC T n g 0 w.tail s) (zS T n g 0 w.tail s) else if decide (j=302)&&mW T&&zu T.e s then qv (zC T n g 0 w.tail s) (zS T n g 0 w.tail s) else .d|dS=>if decide (j=102)&&mW T&&zu T.e s then qv (zC T n f 0 w s) (zS T n f 0 w s) else .d)
noncomputable def zS(T:Tbl):Nat->ye
 |0=>λ_ _ _ _=>dS
 |n+1=>λf e j s=>match T.c f e with
  |some F=>if j.length=F.b.length then xSs (λc=>(T.d.lookup c).isSome) (zC T n) (zS T n) T.b (zb F.N j) F.a s else dS
  |dS=>dS
end
abbrev KF:=Aa
structure Own where
 o:List Addr
 h:List Addr
def Own.no(b:Own)(a:Addr):Prop:=a ∉ b.o/\a ∉ b.h
def KT(K:KF)(a:Addr)(x:List L2.V):Prop:=∃(o:Obj) (i:Array Value) (n:Nat),K.lookup a=some o/\o.cls=.type "tuple"/\o.data=.seq i n/\i.size<=Ao/\L2.Vals x i.toList
def SC(K:KF)(c:Own)(H:L2.Hp)(a:Addr)(x:List L2.V):Prop:=(c.no a/\L2.Rd H a (.b x)) \/
 ∃(o:Obj) (i:Array Value) (n:Nat),K.lookup a=some o/\o.cls=.type "list"/\o.dict=none/\o.data=.seq i n/\i.size<=Ao/\L2.Vals x i.toList
noncomputable def hk:Option L2.HO->Nat
 |some (.b _)=>1
 |some (.i _)=>2
 |some (.m _)=>3
 |some (.g _)=>4
 |_=>0
mutual
inductive RD(K:KF)(mg:Str->Option Value)(ρ:Own)(H:L2.Hp):Val->L2.V->Prop
 |p:RD K mg ρ H .h .g
 |j (b:Bool):RD K mg ρ H (.e b) (.f b)
 |l (i:Int):RD K mg ρ H (.c i) (.d i)
 |D (x:Str):RD K mg ρ H (.m x) (.e x)
 |m {a:Addr} {vs:List Val} {xs:List L2.V}:ρ.no a->H a=some (.c xs)->RDs K mg ρ H vs xs->RD K mg ρ H (.f vs) (.c a)
 |E {a:Addr} {vs:List Val} {xs:List L2.V}:ρ.no a->H a=some (.b xs)->RDs K mg ρ H vs xs->RD K mg ρ H (.g vs) (.c a)
 |B {a:Addr}:ρ.no a->H a=some (.i [])->RD K mg ρ H .p (.c a)
 |s {a:Addr} {ns:List Int}:KT K a (ns.map L2.V.d)->RD K mg ρ H (.o ns) (.c a)
 |F {a:Addr} {ns:List Int}:SC K ρ H a (ns.map L2.V.d)->RD K mg ρ H (.r ns) (.c a)
 |C {a:Addr} {i:Nat}:ρ.o[i]?=some a->hk (H a)=1->RD K mg ρ H (.j i) (.c a)
 |A {a:Addr} {i:Nat}:ρ.o[i]?=some a->1<hk (H a)->RD K mg ρ H (.q i) (.c a)
 |I {x:Str} {f:Addr}:mg x=some (.ref f)->RD K mg ρ H (.t x) (.c f)
 |J (n:String):RD K mg ρ H (.u n) (.k n)
 |G (a k:Nat):RD K mg ρ H (.s a k) (.c a)
inductive RDs(K:KF)(mg:Str->Option Value)(ρ:Own)(H:L2.Hp):List Val->List L2.V->Prop
 |d:RDs K mg ρ H [] []
 |a {v:Val} {x:L2.V} {vs:List Val} {xs:List L2.V}:RD K mg ρ H v x->RDs K mg ρ H vs xs->RDs K mg ρ H (v::vs) (x::xs)
end
noncomputable def Sk(x:Str):Str:=(x++(".<locals>.":Str))++("<lambda>":Str)
def Qc(K:KF)(m:Str->Option Value)(k:Own)(H:L2.Hp)(P:Addr)(x:Str):Prop:=∃p,H P=some (.g p)/\Ei p.toList /\
 (∀(a:Pos) (i:Value),Eh a p.toList=some i->∃(c:Addr) (o:Obj) (vs:Array Value) (t:Tok),i=.ref c/\k.no c/\H c=some (.e o (.d 0))/\o.data=.fields vs/\vs[1]?=some (.str (Sk x) t)) /\
 ∃(b c:Addr) (o:Obj) (f:BB),m x=some (.ref b)/\K.lookup b=some o/\o.data=.func f/\f.code=.ref c/\∀h:Heap,K.In h->PySem.W.CodeHd h c P
def CR(K:KF)(h:Str->Option Value)(g:Own)(H:L2.Hp)(a:Addr):Cel->Prop
 |.c vs=>∃w,H a=some (.b w)/\RDs K h g H vs w
 |.e kvs=>∃j,H a=some (.i j)/\j.map (·.1)=kvs.map (λp=>EL p.1)/\RDs K h g H (kvs.map (·.2)) (j.map (·.2))
 |.f kvs=>∃j,H a=some (.m j)/\j.map (·.1)=kvs.map (λp=>p.1.map EK)/\RDs K h g H (kvs.map (·.2)) (j.map (·.2))
 |.d x=>Qc K h g H a x
inductive Hid
 |a (xs:List L2.V)|b (φ:Heap->Prop)
noncomputable def Hid.o:Hid->L2.HO
 |.a xs=>.b xs
 |.b φ=>.k φ
structure HR(K:KF)(mg:Str->Option Value)(ρ:Own)(s:Sto)(H:L2.Hp):Prop where
 f:ρ.o.length=s.length
 v:ρ.o.Nodup
 m:∀(i:Nat) (c:Cel),s[i]?=some c->∃a:Addr,ρ.o[i]?=some a/\CR K mg ρ H a c
 d:∀a∈ρ.h,(∃o:Hid,H a=some o.o)/\a ∉ ρ.o
structure Ext(ρ:Own)(H:L2.Hp)(ρ':Own)(H':L2.Hp):Prop where
 d:∃new:List Addr,ρ'.o=ρ.o++new/\∀a∈new,H a=none
 f:ρ'.h=ρ.h
 c:∀(a:Addr) (o:L2.HO),H a=some o->a ∉ ρ.o->H' a=some o
 g:∀a∈ρ.o,hk (H' a)=hk (H a)
structure ER(K:KF)(mg:Str->Option Value)(ρ:Own)(H:L2.Hp)(env:Env)(σ:L2.St):Prop where
 b:env.length=σ.length
 a:∀(i:Nat) (v:Val),env[i]?=some (some v)->∃x:L2.V,σ[i]?=some (some x)/\RD K mg ρ H v x
section
variable {K:KF}{mg:Str->Option Value}{ρ ρ' ρ'':Own}{H H' H'':L2.Hp}{s s':Sto}
def HR.obj(h:HR K mg ρ s H)(i:Nat)vs(e:s[i]?=some (Cel.c vs)):∃(a:Addr) (xs:List L2.V),ρ.o[i]?=some a/\H a=some (.b xs)/\RDs K mg ρ H vs xs:=by refine byG λp g=>?_;obtain⟨a,f,xs,d,r⟩:=h.m i _ e;refine g ?_;exact⟨a,xs,f,d,r⟩
def CR.there(h:CR K mg ρ H a c):∃o,H a=some o:=by
 cases c with
 |c vs=>obtain⟨b,e,_⟩:=h;exact⟨_,e⟩
 |e k=>obtain⟨b,e,_⟩:=h;exact⟨_,e⟩
 |f k=>obtain⟨b,e,_⟩:=h;exact⟨_,e⟩
 |d x=>obtain⟨p,e,_⟩:=h;exact⟨_,e⟩
theorem CR.hk{a:Addr}{c:Cel}(h:CR K mg ρ H a c):0<hk (H a):=by
 cases c with
 |c vs=>obtain⟨b,e,_⟩:=h;rw[e];exact Dp 0
 |e k=>obtain⟨b,e,_⟩:=h;rw[e];exact ET rfl
 |f k=>obtain⟨b,e,_⟩:=h;rw[e];exact ET rfl
 |d x=>obtain⟨p,e,_⟩:=h;rw[e];exact ET rfl
def HR.trk(h:HR K mg ρ s H)(k:a∈ρ.o):∃o,H a=some o:=by
 obtain⟨i,c,e⟩:=BU k;have g:i<s.length:=by rw[<-h.f];exact c
 obtain⟨b,d,l⟩:=h.m i _ (xd g);rw[xd c,e]at d;cases d;exact l.there
def mZ(h:hk (H a)=1):∃j,H a=some (.b j):=by
 cases e:H a with
 |none=>rw[e]at h;cases h
 |some o=>
  rw[e]at h;cases o with
  |b j=>exact⟨j,rfl⟩
  |_=>cases h
def HR.new(h:HR K mg ρ s H)(b:H p=none):ρ.no p:=by
 refine⟨λa=>?_,λa=>?_⟩
 . obtain⟨x,e⟩:=h.trk a
   rw[b]at e;cases e
 . obtain⟨⟨x,e⟩,_⟩:=h.d p a
   rw[b]at e;cases e
def Ext.refl:Ext ρ H ρ H:=⟨⟨[],by simp,λa h=>by cases h⟩,rfl,λa o e _=>e,λ_ _=>rfl⟩
def Ext.Pg(x:Ext ρ H ρ' H')(e:H a=some o)(n:ρ.no a):ρ'.no a:=by
 obtain⟨b,g,c⟩:=x.d;refine⟨?_,by rw[x.f];exact n.2⟩
 rw[g];intro h;rcases Ba.mp h with h|h
 . exact n.1 h
 . rw[c a h]at e;cases e
def Ext.get(x:Ext ρ H ρ' H'){i:Nat}(e:ρ.o[i]?=some a):ρ'.o[i]?=some a:=by obtain⟨n,b,c⟩:=x.d;have h:i<ρ.o.length:=(Ax.mp e).1;rw[b,AS h];exact e
theorem Ext.trans(x:Ext ρ H ρ' H')(h:HR K mg ρ' s H')(y:Ext ρ' H' ρ'' H''):Ext ρ H ρ'' H'':=by
 obtain⟨p,m,r⟩:=x.d;obtain⟨k,t,l⟩:=y.d;refine⟨⟨p++k,by rw[t,m,A0],λa b=>?_⟩,y.f.trans x.f,λa o e n=>y.c a o (x.c a o e n) ?_,λa b=>(y.g a (by rw[m];exact Br _ b)).trans (x.g a b)⟩
 . rcases Ba.mp b with b|b
   . exact r a b
   . cases q:H a with
     |none=>rfl
     |some o=>
      by_cases i:a∈ρ.o
      . obtain⟨u,e⟩:=h.trk (a:=a) (by rw[m];exact Br _ i)
        rw[l a b]at e;cases e
      . have:=x.c a o q i
        rw[l a b]at this;cases this
 . rw[m]
   intro i;rcases Ba.mp i with i|i
   . exact n i
   . rw[r a i]at e;cases e
def SC.sql(h:SC K ρ H a xs):L2.SqL K H a xs:=by
 rcases h with⟨_,h⟩|h
 . exact .inl h
 . exact .inr h
def KT.sqt(h:KT K a xs):L2.SqT K H a xs:=.inr h
structure Mv(ρ:Own)(H:L2.Hp)(ρ':Own)(H':L2.Hp):Prop where
 b:∀(a:Addr) (o:L2.HO),H a=some o->ρ.no a->H' a=some o/\ρ'.no a
 c:∀(i:Nat) (a:Addr),ρ.o[i]?=some a->ρ'.o[i]?=some a
 d:∀a∈ρ.o,hk (H' a)=hk (H a)
def Ext.mv(x:Ext ρ H ρ' H'):Mv ρ H ρ' H':=⟨λa o e n=>⟨x.c a o e n.1,x.Pg e n⟩,λi a e=>x.get e,x.g⟩
def SC.mv(x:Mv ρ H ρ' H')(h:SC K ρ H a xs):SC K ρ' H' a xs:=by
 rcases h with⟨n,h|⟨o,h⟩⟩|h
 . exact .inl ⟨(x.b _ _ h n).2,.inl (x.b _ _ h n).1⟩
 . exact .inl ⟨(x.b _ _ h n).2,.inr ⟨o,(x.b _ _ h n).1⟩⟩
 . exact .inr h
end
mutual
theorem RD.mv{K:KF}{o:Str->Option Value}{g f:Own}{H N:L2.Hp}(x:Mv g H f N){v:Val}{u:L2.V}(q:RD K o g H v u):RD K o f N v u:=by
 cases q with
 |p=>exact .p
 |j b=>exact .j b
 |l i=>exact .l i
 |D t=>exact .D t
 |m n e r=>exact .m (x.b _ _ e n).2 (x.b _ _ e n).1 (RDs.mv x r)
 |E n e r=>exact .E (x.b _ _ e n).2 (x.b _ _ e n).1 (RDs.mv x r)
 |B n e=>exact .B (x.b _ _ e n).2 (x.b _ _ e n).1
 |s h=>exact .s h
 |F h=>exact .F (h.mv x)
 |C e k=>exact .C (x.c _ _ e) ((x.d _ (AH e)).trans k)
 |A e k=>exact .A (x.c _ _ e) (by rw[x.d _ (AH e)];exact k)
 |G a k=>exact .G a k
 |I e=>exact .I e
 |J n=>exact .J n
theorem RDs.mv{K:KF}{m:Str->Option Value}{c b:Own}{H A:L2.Hp}(x:Mv c H b A){v:List Val}{u:List L2.V}(q:RDs K m c H v u):RDs K m b A v u:=by
 cases q with
 |d=>exact .d
 |a r f=>exact .a (RD.mv x r) (RDs.mv x f)
end
theorem CR.mv(x:Mv ρ H ρ' H')(e:H' a=H a)(h:CR K mg ρ H a c):CR K mg ρ' H' a c:=by
 cases c with
 |c vs=>obtain⟨l,i,r⟩:=h;exact⟨l,e.trans i,RDs.mv x r⟩
 |e m=>obtain⟨l,i,k,r⟩:=h;exact⟨l,e.trans i,k,RDs.mv x r⟩
 |f m=>obtain⟨l,i,k,r⟩:=h;exact⟨l,e.trans i,k,RDs.mv x r⟩
 |d y=>
  obtain⟨u,i,k,r,g⟩:=h;refine⟨u,e.trans i,k,λp z v=>?_,g⟩;obtain⟨c,o,vs,t,q1,n,q,s⟩:=r p z v;exact⟨c,o,vs,t,q1,(x.b _ _ q n).2,(x.b _ _ q n).1,s⟩
def RD.mono(r:RD K mg ρ H v u)(x:Ext ρ H ρ' H'):RD K mg ρ' H' v u:=RD.mv x.mv r
def RDs.mono(r:RDs K mg ρ H v u)(x:Ext ρ H ρ' H'):RDs K mg ρ' H' v u:=RDs.mv x.mv r
section
variable {K:KF}{mg:Str->Option Value}{ρ ρ' ρ'':Own}{H H' H'':L2.Hp}{s s':Sto}
theorem RDs.length(q:RDs K mg ρ H vs xs):vs.length=xs.length:=by
 cases q with
 |d=>rfl
 |a _ r=>rw[AX,AX,r.length]
theorem RDs.get{i:Nat}(q:RDs K mg ρ H vs xs)(e:vs[i]?=some v):∃x,xs[i]?=some x/\RD K mg ρ H v x:=by
 cases q with
 |d=>cases e
 |a r b=>
  cases i with
  |zero=>cases e;exact⟨_,rfl,r⟩
  |succ i=>exact RDs.get (i:=i) b e
theorem RDs.Qw{i:Nat}(q:RDs K mg ρ H vs xs)(e:xs[i]?=some x):∃v,vs[i]?=some v/\RD K mg ρ H v x:=by
 cases q with
 |d=>cases e
 |a r b=>
  cases i with
  |zero=>cases e;exact⟨_,rfl,r⟩
  |succ i=>exact RDs.Qw (i:=i) b e
theorem RDs.append(p:RDs K mg ρ H vs xs)(q:RDs K mg ρ H ws ys):RDs K mg ρ H (vs++ws) (xs++ys):=by
 cases p with
 |d=>exact q
 |a r b=>exact .a r (b.append q)
theorem RDs.take n(q:RDs K mg ρ H vs xs):RDs K mg ρ H (vs.take n) (xs.take n):=by
 cases n with
 |zero=>exact .d
 |succ n=>cases q with
  |d=>exact .d
  |a r b=>exact .a r (b.take n)
theorem RDs.drop n(q:RDs K mg ρ H vs xs):RDs K mg ρ H (vs.drop n) (xs.drop n):=by
 cases n with
 |zero=>exact q
 |succ n=>cases q with
  |d=>exact .d
  |a _ r=>exact r.drop n
theorem RDs.set(r:RD K mg ρ H v x)i(q:RDs K mg ρ H vs xs):RDs K mg ρ H (vs.set i v) (xs.set i x):=by
 cases q with
 |d=>exact .d
 |a q t=>cases i with
  |zero=>exact .a r t
  |succ i=>exact .a q (RDs.set r i t)
theorem RDs.rep(r:RDs K mg ρ H vs xs):∀k:Nat,RDs K mg ρ H (Ay k vs).flatten (Ay k xs).flatten
 |0=>.d
 |k+1=>by rw[Cc,Cc,C6,C6];exact r.append (RDs.rep r k)
theorem RDs.pick(r:RDs K mg ρ H vs xs):∀(e:List Nat),RDs K mg ρ H (e.filterMap λi=>vs[i]?) (e.filterMap λi=>xs[i]?)
 |[]=>.d
 |i::e=>by
  rw[Bp,Bp];cases hx:vs[i]? with
  |none=>
   have:xs[i]?=none:=by have c:vs.length<=i:=C8.mp hx;exact C8.mpr (by rw[<-r.length];exact c)
   rw[this];exact RDs.pick r e
  |some v=>
   obtain⟨u,h,b⟩:=r.get hx;rw[h];exact .a b (RDs.pick r e)
theorem RDs.yC(r:RDs K mg ρ H vs xs)lo st n:RDs K mg ρ H (L2.yC vs lo st n) (L2.yC xs lo st n):=by have h:=r.pick ((Ai n).map λ(k:Nat)=>(lo+(k:Int)*st).toNat);rw[Cr,Cr]at h;exact h
theorem RDs.ints:∀(ns:List Int),RDs K mg ρ H (ns.map .c) (ns.map .d)
 |[]=>.d
 |n::ns=>.a (.l n) (RDs.ints ns)
def RDs.cut(r:RDs K mg ρ H vs xs)lo hi:RDs K mg ρ H (WO vs lo hi) (L2.oP xs lo hi):=by unfold WO L2.oP;rw[r.length];exact(r.drop _).take _
theorem YQ{b:Type}:∀{l:List b} {i j:Nat} {x},l.Nodup->l[i]?=some x->l[j]?=some x->i=j
 |[],_,_,_,_,e,_=>by simp at e
 |a::l,0,0,_,_,_,_=>rfl
 |a::l,0,j+1,x,nd,e1,e2=>by
  simp at e1 e2;subst e1;exact absurd (AH e2) (BV.mp nd).1
 |a::l,i+1,0,x,nd,e1,e2=>by
  simp at e1 e2;subst e2;exact absurd (AH e1) (BV.mp nd).1
 |a::l,i+1,j+1,x,nd,e1,e2=>by simp at e1 e2;rw[YQ (BV.mp nd).2 e1 e2]
theorem Ext.new(h:HR K mg ρ s H)(c:H p=none)o:Ext ρ H ρ (L2.upd H p o):=
 ⟨⟨[],by simp,λa b=>by cases b⟩,rfl,λa u e _=>by rw[L2.zG (L2.zR e c)];exact e,λa b=>by rw[L2.zG λz=>(h.new c).1 (by rw[<-z];exact b)]⟩
def HR.more(h:HR K mg ρ s H)(b:H p=none)o:HR K mg ρ s (L2.upd H p o):=by
 refine⟨h.f,h.v,λi c e=>?_,λa g=>?_⟩
 . obtain⟨a,l,r⟩:=h.m i c e
   obtain⟨u,k⟩:=r.there;exact⟨a,l,r.mv (Ext.new h b o).mv (L2.zG (L2.zR k b))⟩
 . obtain⟨⟨x,e⟩,n⟩:=h.d a g
   exact⟨⟨x,by rw[L2.zG (L2.zR e b)];exact e⟩,n⟩
noncomputable def Own.more(ρ:Own)(p:Addr):Own:=⟨ρ.o++[p],ρ.h⟩
def Ext.own(h:HR K mg ρ s H)(b:H p=none)o:Ext ρ H (ρ.more p) (L2.upd H p o):=
 ⟨⟨[p],rfl,λa c=>by rw[Ap.mp c];exact b⟩,rfl,λa u e _=>by rw[L2.zG (L2.zR e b)];exact e,λa c=>by rw[L2.zG λz=>(h.new b).1 (by rw[<-z];exact c)]⟩
def qR(h:HR K mg ρ s H)p:(ρ.more p).o[s.length]?=some p:=by show (ρ.o++[p])[s.length]?=some p;rw[<-h.f,A3 (Ac _)];simp
def HR.vH(h:HR K mg ρ s H)(g:H p=none)(r:CR K mg (ρ.more p) (L2.upd H p o) p c):HR K mg (ρ.more p) (s++[c]) (L2.upd H p o):=by
 have X:=Ext.own h g o;refine⟨by show (ρ.o++[p]).length=_;rw[Ah,Ah,h.f];rfl,?_,λi w q=>?_,λa x=>?_⟩
 . show (ρ.o++[p]).Nodup
   rw[FU];exact⟨h.v,by simp,λa x b e=>by rw[Ap.mp e];intro z;subst z;exact(h.new g).1 x⟩
 . by_cases hi:i<s.length
   . rw[AS hi]at q
     obtain⟨a,A,t⟩:=h.m i w q;obtain⟨u,j⟩:=t.there;exact⟨a,X.get A,t.mv X.mv (L2.zG (L2.zR j g))⟩
   . have l:i=s.length:=by have:=(Ax.mp q).1;rw[Ah]at this;simp at this;omega
     subst l;rw[A3 (Ac _)]at q;simp at q;subst q;exact⟨p,qR h p,r⟩
 . obtain⟨⟨y,q⟩,n⟩:=h.d a x
   refine⟨⟨y,by rw[L2.zG (L2.zR q g)];exact q⟩,λk=>?_⟩
   rcases Ba.mp k with k|k
   . exact n k
   . rw[Ap.mp k,g]at q;cases q
theorem HR.own(h:HR K mg ρ s H)(a:H p=none)(r:RDs K mg ρ H vs xs):HR K mg (ρ.more p) (s++[.c vs]) (L2.upd H p (.b xs)):=h.vH a ⟨xs,L2.zJ,r.mono (Ext.own h a _)⟩
def Ext.rk(h:HR K mg ρ s H){i:Nat}(e:ρ.o[i]?=some a)(k:hk (some o)=hk (H a)):Ext ρ H ρ (L2.upd H a o):=
 ⟨⟨[],by simp,λa c=>by cases c⟩,rfl,λb u q n=>by rw[L2.zG (λz=>n (by rw[z];exact AH e))];exact q,λb d=>by
   by_cases z:b=a
   . subst z;rw[L2.zJ];exact k
   . rw[L2.zG z]⟩
def Ext.write(h:HR K mg ρ s H){i:Nat}(e:ρ.o[i]?=some a)(k:H a=some (.b ys))xs:Ext ρ H ρ (L2.upd H a (.b xs)):=Ext.rk h e (by rw[k];rfl)
theorem HR.rk(h:HR K mg ρ s H)(e:ρ.o[i]?=some a)(k:hk (some o)=hk (H a))(r:CR K mg ρ (L2.upd H a o) a c):HR K mg ρ (s.set i c) (L2.upd H a o):=by
 have X:=Ext.rk h e k;refine⟨by rw[CQ];exact h.f,h.v,λj w q=>?_,λb g=>?_⟩
 . skip
   by_cases hij:i=j
   . subst hij
     have p:i<s.length:=by rw[<-h.f];exact(Ax.mp e).1
     rw[AR p]at q;cases q;exact⟨a,e,r⟩
   . rw[BA hij]at q
     obtain⟨b,l,t⟩:=h.m j w q;refine⟨b,l,t.mv X.mv ?_⟩;have g:b≠a:=by intro z;subst z;exact hij (YQ h.v e l)
     rw[L2.zG g]
 . obtain⟨⟨y,q⟩,n⟩:=h.d b g
   exact⟨⟨y,by rw[L2.zG (λz=>n (by rw[z];exact AH e))];exact q⟩,n⟩
theorem HR.write(h:HR K mg ρ s H)(e:ρ.o[i]?=some a)(k:H a=some (.b ys))(r:RDs K mg ρ H vs xs):HR K mg ρ (upd s i vs) (L2.upd H a (.b xs)):=
 h.rk e (by rw[k];rfl) ⟨xs,L2.zJ,r.mono (Ext.write h e k xs)⟩
theorem ER.mono(x:Ext ρ H ρ' H')(h:ER K mg ρ H env σ):ER K mg ρ' H' env σ:=⟨h.b,λi v e=>by obtain⟨u,d,c⟩:=h.a i v e;exact⟨u,d,c.mono x⟩⟩
theorem ER.set(h:ER K mg ρ H env σ)i(r:RD K mg ρ H v x):ER K mg ρ H (env.set i (some v)) (σ.set i (some x)):=by
 refine⟨by rw[CQ,CQ,h.b],λj w e=>?_⟩
 by_cases hij:i=j
 . subst hij
   by_cases hi:i<env.length
   . rw[AR hi]at e
     cases e;exact⟨x,by rw[AR (by rw[<-h.b];exact hi)],r⟩
   . rw[List.getElem?_eq_none (by rw[CQ];omega)]at e
     cases e
 . rw[BA hij]at e
   rw[BA hij];exact h.a j w e
end
section
variable (K:KF)(mg:Str->Option Value)
def yb{c b:Type}(R:Own->L2.Hp->c->b->Prop)(d:Own)(H:L2.Hp)(o:Out c)(Q:b->L2.Hp->Prop):Prop:=
 match o with
 |.e v s'=>∀a x A,Ext d H a A->HR K mg a s' A->R a A v x->Q x A
 |_=>False
def tV(e:Env)(s:Sto)(o:Out Val):L2.TE:=λb H Q=>∃a,HR K mg a s H/\ER K mg a H e b/\yb K mg (RD K mg) a H o Q
def tVs(e:Env)(s:Sto)(o:Out (List Val)):L2.TA:=λb H Q=>∃a,HR K mg a s H/\ER K mg a H e b/\yb K mg (RDs K mg) a H o Q
def tT(e:Env)(s:Sto)(o:Out Bool):L2.TT:=λd H Q=>∃c,HR K mg c s H/\ER K mg c H e d/\yb K mg (λ_ _ a b=>a=b) c H o Q
def tO(e:Env)(s:Sto)(o:Out (Option Int)):L2.TO:=λd H Q=>∃c,HR K mg c s H/\ER K mg c H e d/\yb K mg (λ_ _ a b=>a=b) c H o Q
end
def zV(h:L2.PE X e t)(i:∀j H Q,t' j H Q->t j H Q):L2.PE X e t':=λp s j H Q I q=>h p s j H Q I (i j H Q q)
def rT(h:L2.PT X e t)(i:∀j H Q,t' j H Q->t j H Q):L2.PT X e t':=λp s j H Q I q=>h p s j H Q I (i j H Q q)
def Yj{t b:L2.TA}(h:L2.PA X es t)(i:∀e H Q,b e H Q->t e H Q):L2.PA X es b:=λa p s e H Q I q=>h a p s e H Q I (i e H Q q)
def yi{t a:L2.TS}(h:L2.PS X st t)(i:∀D e H,a D e H->t D e H):L2.PS X st a:=λp s e H D I q=>h p s e H D I (i D e H q)
def sV{t a:L2.TS}(h:L2.PSs X st t)(i:∀D e H,a D e H->t D e H):L2.PSs X st a:=λp s e H D I q=>h p s e H D I (i D e H q)
def yS(h:∀j H Q,¬t j H Q):L2.PE X e t:=λp s j H Q I q=>(h j H Q q).elim
def eW(h:∀j H Q,¬t j H Q):L2.PT X e t:=λp s j H Q I q=>(h j H Q q).elim
def OL(h:∀j H Q,¬t j H Q):L2.PW X e t:=λw p s j H Q I q=>(h j H Q q).elim
def OB{t:L2.TA}(h:∀e H Q,¬t e H Q):L2.PA X es t:=λa p s e H Q I q=>(h e H Q q).elim
def Ox(h:∀v j,o≠.e v j):¬tV K mg env s o σ H Q:=by
 rintro ⟨a,_,_,w⟩;cases o with
 |e v j=>exact h v j rfl
 |_=>exact w
def QE(h:∀v j,o≠.e v j):¬tVs K mg env s o σ H Q:=by
 rintro ⟨a,_,_,w⟩;cases o with
 |e v j=>exact h v j rfl
 |_=>exact w
def Us(h:∀v j,o≠.e v j):¬tT K mg env s o σ H Q:=by
 rintro ⟨a,_,_,w⟩;cases o with
 |e v j=>exact h v j rfl
 |_=>exact w
def yh:zO=Ao:=by rw[AL];rfl
section
variable {K:KF}{mg:Str->Option Value}{ρ ρ':Own}{H H':L2.Hp}{s s':Sto}
def wg(f:HR K mg ρ s H)(r:RD K mg ρ H v x)(e:yW s v=some vs):∃a j,x=.c a/\H a=some (.b j)/\RDs K mg ρ H vs j:=by
 cases r with
 |E n h q=>cases e;exact⟨_,_,rfl,h,q⟩
 |@C a i h _=>
  simp only[yW]at e;split at e
  . rename_i ws hw
    cases e;obtain⟨b,j,d,g,q⟩:=f.obj i _ hw;rw[h]at d;cases d;exact⟨_,_,rfl,g,q⟩
  . cases e
 |_=>cases e
def lM(f:HR K mg ρ s H)(r:RD K mg ρ H v x)(e:xk s v=some vs):∃a j,x=.c a/\(L2.SqL K H a j\/L2.SqT K H a j)/\RDs K mg ρ H vs j:=by
 cases r with
 |E n h q=>cases e;exact⟨_,_,rfl,.inl (.of h),q⟩
 |m n h q=>cases e;exact⟨_,_,rfl,.inr (.of h),q⟩
 |s h=>cases e;exact⟨_,_,rfl,.inr h.sqt,RDs.ints _⟩
 |F h=>cases e;exact⟨_,_,rfl,.inl h.sql,RDs.ints _⟩
 |@C a i h _=>
  simp only[xk]at e;split at e
  . rename_i ws hw
    cases e;obtain⟨b,j,d,g,q⟩:=f.obj i _ hw;rw[h]at d;cases d;exact⟨_,_,rfl,.inl (.of g),q⟩
  . cases e
 |_=>cases e
mutual
theorem RD.reads{P:Program}{w:World}{h:Heap}(N:L2.HOk P w H h){v:Val}{x:L2.V}{u:Value}(q:RD K mg ρ H v x)(f:v.isR=true)(r:L2.RelV x u):∃L,Reads h u v.d L/\(L2.xb v.d=false->Cg ∉ L):=by
 cases q with
 |p=>cases (show u=AY from r);exact⟨[],.none,λ_=>by simp⟩
 |j b=>cases (show u=Dz b from r);exact⟨[],.bool b,λ_=>by simp⟩
 |l i=>obtain⟨t,q⟩:=(show ∃t,u=GA i t from r);cases q;exact⟨[],.int i t,λ_=>by simp⟩
 |D x=>obtain⟨t,q⟩:=(show ∃t,u=GB x t from r);cases q;exact⟨[],.str x t,λ_=>by simp⟩
 |@E a vs xs n Q R=>
  cases (show u=AA a from r);obtain⟨z,T,n,g,e⟩:=(show L2.yA P w H h a (.b xs) from N a _ Q);obtain⟨L,q,_⟩:=RDs.reads N R (by simpa only[Val.isR] using f) g
  exact⟨a::L,.list e rfl rfl (by simpa using q),λz=>by simp[Val.d,L2.xb]at z⟩
 |@m a vs xs n Q R=>
  cases (show u=AA a from r);obtain⟨z,T,g,o,e,c,n,Y⟩:=(show L2.yA P w H h a (.c xs) from N a _ Q);obtain⟨L,q,O⟩:=RDs.reads N R (by simpa only[Val.isR] using f) g
  exact⟨L,.tuple e c Y.1 (by simpa using q),λz=>O (by simpa [Val.d,L2.xb] using z)⟩
 |@B a n Q=>
  cases (show u=AA a from r);obtain⟨z,y,vs,g,o,M,S,e,c,Y,k⟩:=(show L2.yA P w H h a (.i []) from N a _ Q);cases g;have X:M=#[]:=by
   have Z:=k.2.1;cases hl:M.toList with
   |nil=>simpa using hl
   |cons a r=>rw[hl]at Z;cases Z
  subst X;refine⟨[a]++[],Reads.dict (as:=[]) (bs:=[]) e c.1 Y .nil .nil,λ_=>?_⟩;have:a≠Cg:=by simpa using y
  simpa using Bh this
 |s _=>cases f
 |F _=>cases f
 |C _ _=>cases f
 |A _ _=>cases f
 |G _ _=>cases f
 |I _=>cases f
 |J _=>cases f
theorem RDs.reads{P:Program}{w:World}{h:Heap}(o:L2.HOk P w H h){v:List Val}{x:List L2.V}{u:List Value}(p:RDs K mg ρ H v x)(c:sP v=true)(q:L2.Vals x u):∃e,ReadsAll h u (ds v) e/\(L2.xu (ds v)=false->Cg ∉ e):=by
 cases p with
 |d=>cases q;exact⟨[],.nil,λ_=>by simp⟩
 |a r f=>
  cases q with
  |cons q1 g=>
   rw[sP,cf]at c;obtain⟨e,m,l⟩:=RD.reads o r c.1 q1;obtain⟨n,k,i⟩:=RDs.reads o f c.2 g;refine⟨e++n,.cons m k,λz=>?_⟩;rw[ds,L2.xu,E8]at z;intro b;rcases Ba.mp b with b|b
   . exact l z.1 b
   . exact i z.2 b
end
def sJ(o:L2.HOk P w H h)(p:HR K mg ρ s H)(c:(yn s v).isR=true)(r:RD K mg ρ H v x)(f:L2.RelV x u) :
 ∃y,Reads h u (yn s v).d y/\(L2.xb (yn s v).d=false->Cg ∉ y):=by
 cases v with
 |j i=>
  cases r with
  |@C a _ e0=>
  simp only[yn]at c ⊢;split at c
  . rename_i ws hw
    obtain⟨b,k,g,t,q⟩:=p.obj i _ hw;rw[e0]at g;cases g;cases (show u=AA a from f);obtain⟨z,m,n,l,e⟩:=(show L2.yA P w H h a (.b k) from o a _ t);obtain⟨y,q,_⟩:=RDs.reads o q (by simpa only[Val.isR] using c) l
    exact⟨a::y,.list e rfl rfl (by simpa using q),λz=>by simp[Val.d,L2.xb]at z⟩
  . cases c
 |_=>exact RD.reads o r c f
theorem RDs.Y9(o:L2.HOk P w H h)(c:HR K mg ρ s H):∀{vs} {xs} {us},RDs K mg ρ H vs xs->sP (vs.map (yn s))=true->L2.Vals xs us->∃e,ReadsAll h us (ds (vs.map (yn s))) e/\(L2.xu (ds (vs.map (yn s)))=false->Cg ∉ e)
 |_,_,_,.d,_,r=>by cases r;exact⟨[],.nil,λ_=>by simp⟩
 |_,_,_,.a r rs,hv,q=>by
  cases q with
  |cons q1 j=>
   rw[AE,sP,cf]at hv;obtain⟨e,F,y⟩:=sJ o c hv.1 r q1;obtain⟨i,g,f⟩:=RDs.Y9 o c rs hv.2 j;rw[AE];refine⟨e++i,.cons F g,λz=>?_⟩;rw[ds,L2.xu,E8]at z;intro b;rcases Ba.mp b with b|b
   . exact y z.1 b
   . exact f z.2 b
def ax{v:Val}(h:∀e,v≠.f e):zi s v=yn s v:=by
 cases v<;>first|rfl|exact absurd rfl (h _)
def xP(b:L2.HOk P w H h)(k:HR K mg ρ s H)(g:(zi s v).isR=true)(r:RD K mg ρ H v x)(i:L2.RelV x u) :
 ∃j,Reads h u (zi s v).d j/\(L2.xb (zi s v).d=false->Cg ∉ j):=by
 cases v with
 |f vs=>
  cases r with
  |@m a _ xs n A p=>
   cases (show u=AA a from i);obtain⟨z,y,l,o,e,c,n,B⟩:=(show L2.yA P w H h a (.c xs) from b a _ A);obtain⟨j,q,t⟩:=RDs.Y9 b k p (by simpa only[zi,Val.isR] using g) l
   exact⟨j,.tuple e c B.1 (by simpa using q),λz=>t (by simpa [zi,Val.d,L2.xb] using z)⟩
 |_=>exact(show _ from by rw[ax (λ_ h=>by cases h)]at g ⊢;exact sJ b k g r i)
mutual
theorem yf:∀{v:Val},v.isD=true->v.isR=true
 |.h,_=>rfl
 |.e _,_=>rfl
 |.c _,_=>rfl
 |.m _,_=>rfl
 |.f vs,h=>by rw[Val.isR];exact v7 (by simpa only[Val.isD] using h)
 |.g vs,h=>by rw[Val.isR];exact v7 (by simpa only[Val.isD] using h)
 |.p,h=>by cases h
 |.o _,h=>by cases h
 |.r _,h=>by cases h
 |.j _,h=>by cases h
 |.t _,h=>by cases h
 |.u _,h=>by cases h
theorem v7:∀{e:List Val},v5 e=true->sP e=true
 |[],_=>rfl
 |v::e,h=>by rw[v5,cf]at h;rw[sP,yf h.1,v7 h.2];rfl
end
mutual
theorem z9:∀{v:Val},v.isD=true->v.d.canLay0=true
 |.h,_=>rfl
 |.e _,_=>rfl
 |.c _,_=>rfl
 |.m _,h=>by simpa only[Val.isD,Val.d,GY] using h
 |.f vs,h=>by rw[Val.d,GY];exact wO (by simpa only[Val.isD] using h)
 |.g vs,h=>by rw[Val.d,GY];exact wO (by simpa only[Val.isD] using h)
 |.p,h=>by cases h
 |.o _,h=>by cases h
 |.r _,h=>by cases h
 |.j _,h=>by cases h
 |.t _,h=>by cases h
 |.u _,h=>by cases h
theorem wO:∀{e:List Val},v5 e=true->PyData.canLayAll0 (ds e)=true
 |[],_=>rfl
 |v::e,h=>by rw[v5,cf]at h;rw[ds,PyData.canLayAll0,z9 h.1,wO h.2];rfl
end
def sR(h:HR K mg ρ s H)(r:RDs K mg ρ H vs xs)(w:yb K mg (RD K mg) ρ H (newList m vs s) Q):∀p,H p=none->Q (.c p) (L2.upd H p (.b xs)):=λp a=>by
 cases m with
 |true=>exact w _ _ _ (Ext.own h a _) (h.own a r) (.C (qR h p) (by rw[L2.zJ];rfl))
 |false=>exact w _ _ _ (Ext.new h a _) (h.more a _) (.E (h.new a) L2.zJ (r.mono (Ext.new h a _)))
def eN(h:HR K mg ρ s H)(r:RDs K mg ρ H vs xs)(w:yb K mg (RD K mg) ρ H (.e (.f vs) s) Q):∀p,H p=none->Q (.c p) (L2.upd H p (.c xs)):=λp a=>
 w _ _ _ (Ext.new h a _) (h.more a _) (.m (h.new a) L2.zJ (r.mono (Ext.new h a _)))
def Ext.same(c:HR K mg ρ s H)(e:L2.xq H H'):Ext ρ H ρ H':=⟨⟨[],by simp,λa b=>by cases b⟩,rfl,λa o h _=>e a o h,λa b=>by obtain⟨o,q⟩:=c.trk b;rw[q,e a o q]⟩
theorem HR.same(h:HR K mg ρ s H)(e:L2.xq H H'):HR K mg ρ s H':=⟨h.f,h.v,λi c q=>by
 obtain⟨a,k,r⟩:=h.m i c q;obtain⟨o,b⟩:=r.there;exact⟨a,k,r.mv (Ext.same h e).mv ((e a _ b).trans b.symm)⟩,λa g=>by
 obtain⟨⟨y,q⟩,n⟩:=h.d a g;exact⟨⟨y,e a _ q⟩,n⟩⟩
def uW(c:HR K mg ρ s H)(r:RDs K mg ρ H vs xs)(w:yb K mg (RD K mg) ρ H (.e (.f vs) s) Q):L2.rm H xs Q:=λp H' e h=>by
 have a:=c.same e;refine w _ _ _ (Ext.same c e) a (.m ⟨λg=>?_,λg=>?_⟩ h (r.mono (Ext.same c e)))
 . obtain⟨i,k,q⟩:=BU g
   have n:i<s.length:=by rw[<-a.f];exact k
   obtain⟨b,l,o⟩:=a.m i _ (xd n);rw[xd k,q]at l;cases l;have:=o.hk;rw[h]at this;exact absurd this (Bj 0)
 . obtain⟨⟨y,q⟩,_⟩:=a.d _ g
   rw[h]at q;cases y<;>cases q
end
section
variable (K:KF)(mg:Str->Option Value)
def rM2(g:Val->Val->Sto->Out Val):L2.R2:=λx y H Q=>∃a s v w,HR K mg a s H/\RD K mg a H v x/\RD K mg a H w y/\yb K mg (RD K mg) a H (g v w s) Q
def rMc(g:List Val->Sto->Out Val):List L2.V->L2.Hp->L2.VK->Prop:=λx H Q=>∃a s v,HR K mg a s H/\RDs K mg a H v x/\yb K mg (RD K mg) a H (g v s) Q
end
def zM(h:HR K mg ρ s H)(r:RD K mg ρ H v x)(w:yb K mg (RD K mg) ρ H (.e v s) Q):Q x H:=w _ _ _ Ext.refl h r
def i8 m:L2.OpR X (BD .Add) (rM2 X.K X.d (binOp m .a)):=by
 intro p s f H x y v u Q I g r h;obtain⟨n,t,a,b,c,k,i,w⟩:=h;simp only[binOp]at w;split at w
 . cases k;cases i
   exact L2.S9 p s f H _ _ v u Q I g r ⟨_,_,rfl,rfl,zM c (.l _) w⟩
 . split at w
   . rename_i hz
     cases k;cases i;exact L2.pR p s f H _ _ v u Q I g r ⟨_,_,rfl,rfl,by rw[<-yh];exact hz,zM c (.D _) w⟩
   . exact w.elim
 . split at w
   . rename_i hz
     cases k with
     |m B h1 q1=>
      cases i with
      |m A h2 q=>
       refine L2.YZ p s f H _ _ v u Q I g r ⟨_,_,_,_,rfl,rfl,h1,h2,?_,uW c (q1.append q) w⟩;rw[<-q1.length,<-q.length,<-yh];exact hz
   . exact w.elim
 . split at w
   . rename_i ea eb
     split at w
     . rename_i hz
       obtain⟨j,z,rfl,h1,q1⟩:=wg c k ea;obtain⟨e,o,rfl,h2,q⟩:=wg c i eb;refine L2.gA p s f H _ _ v u Q I g r ⟨_,_,_,_,rfl,rfl,h1,h2,?_,sR c (q1.append q) w⟩;rw[<-q1.length,<-q.length,<-yh];exact hz
     . exact w.elim
   . exact w.elim
def hX m:L2.OpR X (BD .Sub) (rM2 X.K X.d (binOp m .e)):=by
 intro p s c H x y v u Q I f r h;obtain⟨n,t,a,b,k,i,g,w⟩:=h;simp only[binOp]at w;split at w
 . cases i;cases g
   exact L2.RH p s c H _ _ v u Q I f r ⟨_,_,rfl,rfl,zM k (.l _) w⟩
 . exact w.elim
def hU m:L2.OpR X (BD .Mult) (rM2 X.K X.d (binOp m .b)):=by
 intro p s f H x y v u Q I g r h;obtain⟨j,t,a,b,c,k,i,w⟩:=h;simp only[binOp]at w;split at w
 . split at w
   . rename_i hz
     cases k;cases i;exact L2.RC p s f H _ _ v u Q I g r ⟨_,_,rfl,rfl,hz,zM c (.l _) w⟩
   . exact w.elim
 . split at w
   . rename_i hz
     obtain⟨o,n,z,q⟩:=hz;cases k with
     |m C h1 q1=>
      cases i;refine L2.VR p s f H _ _ v u Q I g r ⟨_,_,_,rfl,rfl,h1,o,n,?_,?_,uW c (q1.rep _) w⟩
      . intro e;subst e;cases q1;exact z rfl
      . rw[<-q1.length];exact q
   . exact w.elim
 . split at w
   . rename_i ea
     split at w
     . rename_i hz
       obtain⟨o,n,z⟩:=hz;obtain⟨B,A,rfl,h1,q1⟩:=wg c k ea;cases i;refine L2.RG p s f H _ _ v u Q I g r ⟨_,_,_,rfl,rfl,h1,⋯,⋯,?_,sR c (q1.rep _) w⟩
       rw[<-q1.length,<-yh];exact z
     . exact w.elim
   . exact w.elim
 . exact w.elim
def kn m:L2.OpR X (BD .FloorDiv) (rM2 X.K X.d (binOp m .d)):=by
 intro p s c H x y v u Q I f r h;obtain⟨n,t,a,b,k,i,g,w⟩:=h;simp only[binOp]at w;split at w
 . split at w
   . rename_i hz
     cases i;cases g;exact L2.VP p s c H _ _ v u Q I f r ⟨_,_,rfl,rfl,hz,zM k (.l _) w⟩
   . exact w.elim
 . exact w.elim
def i9 m:L2.OpR X (BD .Mod) (rM2 X.K X.d (binOp m .c)):=by
 intro p s f H x y v u Q I g r h;obtain⟨o,t,a,b,n,k,i,w⟩:=h;simp only[binOp]at w;split at w
 . split at w
   . rename_i hz
     cases k;cases i;exact L2.RB p s f H _ _ v u Q I g r ⟨_,_,rfl,rfl,hz,zM n (.l _) w⟩
   . exact w.elim
 . exact w.elim
def hV m:L2.OpR X (BD .Pow) (rM2 X.K X.d (binOp m .g)):=by
 intro p s c H x y v u Q I f r h;obtain⟨o,t,a,b,n,k,i,w⟩:=h;simp only[binOp]at w;split at w
 . split at w
   . rename_i hz
     cases k;cases i;exact L2.RE p s c H _ _ v u Q I f r ⟨_,_,rfl,rfl,hz,zM n (.l _) w⟩
   . exact w.elim
 . exact w.elim
end M
end
section
namespace L2
open PySem PyProof PyProof.Rows
section
variable {κ:Type} [DecidableEq κ]
theorem KV.length{k:List (κ × V)}{v:List (κ × Value)}(r:KV k v):k.length=v.length:=G9 r
end
def Inv.big(I:Inv X pins σ H s):Cg<s.heap.objs.size:=by have h:AO<s.heap.objs.size:=(I.mod.c.keeps I.bk).lt;exact Nat.lt_trans (by decide) h
def ay(h:Heap)(a:Cg<h.objs.size):yA P w H (h.push {cls:=.type "dict",data:=.dict #[]}) h.objs.size (.i []):=
 ⟨Be _,beq_eq_false_iff_ne.mpr (Bh (AB a)),[],.nil,Heap.DictOf.new h⟩
def a9(h:Heap)(a:Cg<h.objs.size):yA P w H (h.push {cls:=.type "dict",data:=.dict #[]}) h.objs.size (.m []):=
 ⟨Be _,beq_eq_false_iff_ne.mpr (Bh (AB a)),[],.nil,_,#[],0,Au _ rfl,⟨rfl,rfl,rfl⟩,rfl,rfl,List.nodup_nil⟩
def R9:TE:=λ_ H Q=>∀p,H p=none->Q (.c p) (upd H p (.i []))
def QA:TE:=λ_ H Q=>∀p,H p=none->Q (.c p) (upd H p (.m []))
def Yn:PE X (.Dict [] [] pos) R9:=λp s b H Q I h=>
 Gf ⟨.c s.heap.objs.size,_,I.laid (a:=s.heap.objs.size) (o:=.i []) (t':=s.toks) (λ_ _ q=>rg _ q) (Ac _) (ay s.heap I.big),rfl,h _ (I.j.fresh (Ac _))⟩
def Yo:PE X (.Dict [] [] pos) QA:=λp s b H Q I h=>
 Gf ⟨.c s.heap.objs.size,_,I.laid (a:=s.heap.objs.size) (o:=.m []) (t':=s.toks) (λ_ _ q=>rg _ q) (Ac _) (a9 s.heap I.big),rfl,h _ (I.j.fresh (Ac _))⟩
end L2
end
section
namespace M
open PySem
section
variable {K:KF}{mg:Str->Option Value}{ρ:Own}{H:L2.Hp}{s:Sto}
def RO(K:KF)(mg:Str->Option Value)(ρ:Own)(H:L2.Hp):Option Val->Option L2.V->Prop
 |none,none=>True
 |some v,some x=>RD K mg ρ H v x
 |_,_=>False
theorem RO.isSome(h:RO K mg ρ H o o'):o'.isSome=o.isSome:=by
 cases o with
 |none=>cases o' with|none=>rfl|some _=>exact h.elim
 |some v=>cases o' with|none=>exact h.elim|some _=>rfl
end
section
variable {K:KF}{mg:Str->Option Value}{ρ ρ':Own}{H H':L2.Hp}{s s':Sto}
theorem RD.flat{v:Val}{x:L2.V}(r:RD K mg ρ H v x)(h:flat v=true):L2.wG x=true:=by
 cases r<;>first|rfl|cases h
theorem RD.eqF(r:RD K mg ρ H v x)(q:RD K mg ρ H w y)(h:M.flat v=true)(a:M.flat w=true):L2.eqV x y=M.eqF v w:=by
 cases r<;>first|(cases h;done)|(cases q<;>first|rfl|(cases a;done))
theorem RDs.flat:∀{e:List Val} {xs:List L2.V},RDs K mg ρ H e xs->e.all flat=true->xs.all L2.wG=true
 |_,_,.d,_=>rfl
 |_,_,.a r rs,h=>by rw[B5,cf]at h;rw[B5,r.flat h.1,rs.flat h.2];rfl
theorem RDs.any(q:RD K mg ρ H w y)(b:M.flat w=true):∀{vs} {xs},RDs K mg ρ H vs xs->vs.all M.flat=true->(xs.any λz=>L2.eqV z y)=vs.any λz=>M.eqF z w
 |_,_,.d,_=>rfl
 |_,_,.a r rs,h=>by rw[B5,cf]at h;rw[D1,D1,r.eqF q h.1 b,RDs.any q b rs h.2]
theorem RDs.countP(q:RD K mg ρ H w y)(b:M.flat w=true):∀{vs} {xs},RDs K mg ρ H vs xs->vs.all M.flat=true->(xs.countP λz=>L2.eqV z y)=vs.countP λz=>M.eqF z w
 |_,_,.d,_=>rfl
 |_,_,.a r rs,h=>by rw[B5,cf]at h;rw[DU,DU,r.eqF q h.1 b,RDs.countP q b rs h.2]
theorem RDs.bools:∀{vs} {xs} {bs},RDs K mg ρ H vs xs->boolsOf vs=some bs->xs=bs.map L2.V.f
 |_,_,_,.d,h=>by cases h;rfl
 |_,_,_,.a r rs,h=>by
  cases r with
  |j b=>
   simp only[boolsOf,Bc]at h;obtain⟨y,w,e⟩:=h;subst e;rw[rs.bools w];rfl
  |_=>cases h
theorem RDs.nG:∀{vs} {xs} {ns},RDs K mg ρ H vs xs->intsOf vs=some ns->xs=ns.map L2.V.d
 |_,_,_,.d,h=>by cases h;rfl
 |_,_,_,.a r rs,h=>by
  cases r with
  |l b=>
   simp only[intsOf,Bc]at h;obtain⟨w,j,e⟩:=h;subst e;rw[rs.nG j];rfl
  |_=>cases h
def X9(r:RDs K mg ρ H vs xs)(h:L2.atI vs i=some v):∃x,L2.atI xs i=some x/\RD K mg ρ H v x:=by unfold L2.atI at h ⊢;rw[<-r.length];obtain⟨j,d,c⟩:=Eo.mp h;obtain⟨x,b,a⟩:=r.get c;exact⟨x,by rw[d];exact b,a⟩
def Xm(k:HR K mg ρ s H)(r:RD K mg ρ H v x)(h:truth s v=some b):L2.X8 K x H b:=by
 have d:∀{f:List Val} {xs:List L2.V},RDs K mg ρ H f xs->f.isEmpty=xs.isEmpty:=λr=>by cases r<;>rfl
 cases r with
 |p=>cases h;rfl
 |j b=>cases h;rfl
 |l i=>cases h;rfl
 |D x=>
  simp only[truth]at h;split at h
  . cases h
    rename_i q;exact⟨by rw[<-yh];exact q,rfl⟩
  . cases h
 |m n e q=>cases h;exact .inr (.inl ⟨_,.of e,by rw[d q]⟩)
 |E n e q=>cases h;exact .inl ⟨_,.of e,by rw[d q]⟩
 |B n e=>cases h;exact .inr (.inr ⟨_,e,rfl⟩)
 |s _=>cases h
 |F _=>cases h
 |@C a i e _=>
  simp only[truth]at h;split at h
  . rename_i ws hw
    cases h;obtain⟨c,xs,g,o,q⟩:=k.obj i _ hw;rw[e]at g;cases g;exact .inl ⟨_,.of o,by rw[d q]⟩
  . cases h
 |I _=>cases h
 |J _=>cases h
 |A _ _=>cases h
 |G _ _=>cases h
def O1(t:HR K mg ρ s H)(r:RD K mg ρ H v x)(h:kindOf v=some a):(L2.sE K H x (.type a.nm)):=by
 cases r with
 |p=>cases h;exact .d
 |j b=>cases h;exact .bl b
 |l i=>cases h;exact .c i
 |D x=>cases h;exact .f x
 |m n e q=>cases h;exact .g e
 |E n e q=>cases h;exact .b e
 |B n e=>cases h;exact .dK e
 |C e k=>
  cases h;obtain⟨o,q⟩:=mZ k;exact .b q
 |_=>cases h
def PV(h:uY n=some c):n=c.nm/\c≠.f:=by unfold uY at h;split at h<;>first|(cases h;exact⟨rfl,by decide⟩)|cases h
end
section
variable {X:L2.Cx}{k:Nat}
def Pc(h:td d=true):L2.UC d:=by
 unfold td at h;simp only[cf,decide_eq_true_eq,AN,AI]at h;obtain⟨⟨⟨⟨g,f⟩,c⟩,b⟩,a⟩:=h;have L:L2.oK d.depth d.weight d:=⟨g,f,Ac _,Ac _⟩;refine L.Og c b λz=>?_;rcases a with a|a
 . rw[a]at z;cases z
 . exact a
def cx(m:L2.xM k X.A):L2.OpR X (Bg .Eq) (rM2 X.K X.d (zQ .a)):=by
 intro l s P H x y v u Q I z r h;obtain⟨J,t,a,b,i,C,B,w⟩:=h;simp only[zQ,rH]at w;split at w
 . rename_i p q
   cases C;cases B;have e:decide (L2.V.e p=L2.V.e q)=decide (p=q):=by rw[BL];simp
   refine L2.Ua l s P H _ _ v u Q I z r ⟨rfl,?_⟩;rw[e];exact zM i (.j _) w
 . rename_i a ns
   cases B with
   |s g=>
    by_cases hc:((zi t (.f a)).isD&&(Val.f (ns.map .c)).isD&&decide ((Val.f (ns.map .c)).d.depth<=60))=true
    . rw[if_pos hc]at w
      simp only[cf,decide_eq_true_eq]at hc;obtain⟨O,E,_⟩:=xP I.j i (yf hc.1.1) C z;obtain⟨Y,R,T,_⟩:=I.tuple g.sqt;obtain⟨o,F,G,n,M⟩:=id T;obtain⟨N,q,_⟩:=RDs.reads I.j (RDs.ints (K:=X.K) (mg:=X.d) (ρ:=J) (H:=H) ns) (yf hc.1.2) R;have D:Reads s.heap u (Val.f (ns.map .c)).d N:=by cases r;exact .tuple F G M (by simpa using q)
      have Z:=m.b;have L:=DQ (zi t (.f a)).d.depth (Val.f (ns.map .c)).d.depth;exact SeqAt.compareEq_reads E D (z9 hc.1.1) (z9 hc.1.2) ⋯ ⟨.f _,H,I,rfl,zM i (.j _) w⟩
    . rw[if_neg hc]at w;exact w.elim
 . by_cases hc:((zi t a).isD&&(zi t b).isD&&decide ((zi t b).d.depth<=60))=true
   . rw[if_pos hc]at w
     simp only[cf,decide_eq_true_eq]at hc;obtain⟨O,E,_⟩:=xP I.j i (yf hc.1.1) C z;obtain⟨N,D,_⟩:=xP I.j i (yf hc.1.2) B r;have Z:=m.b;have L:=DQ (zi t a).d.depth (zi t b).d.depth;exact SeqAt.compareEq_reads E D (z9 hc.1.1) (z9 hc.1.2) ⋯ ⟨.f _,H,I,rfl,zM i (.j _) w⟩
   . rw[if_neg hc]at w;exact w.elim
def bE(i:L2.xM k X.A):L2.OpR X (Bg .NotEq) (rM2 X.K X.d (zQ .b)):=by
 intro c s o H x y v u Q I l r h;obtain⟨C,t,a,b,g,n,m,w⟩:=h;simp only[zQ,rH]at w;split at w
 . rename_i p q
   cases n;cases m;have e:decide (L2.V.e p=L2.V.e q)=decide (p=q):=by rw[BL];simp
   refine L2.Ub c s o H _ _ v u Q I l r ⟨rfl,?_⟩;rw[e];exact zM g (.j _) w
 . by_cases hc:((zi t a).isD&&(zi t b).isD&&decide ((zi t b).d.depth<=60))=true
   . rw[if_pos hc]at w
     simp only[cf,decide_eq_true_eq]at hc;obtain⟨J,B,_⟩:=xP I.j g (yf hc.1.1) n l;obtain⟨G,z,_⟩:=xP I.j g (yf hc.1.2) m r;have D:=i.b;have E:=DQ (zi t a).d.depth (zi t b).d.depth;exact SeqAt.compareNe_reads B z (z9 hc.1.1) (z9 hc.1.2) ⋯ ⟨.f _,H,I,rfl,zM g (.j _) w⟩
   . rw[if_neg hc]at w;exact w.elim
def RD.isNone(r:RD K mg ρ H v x):decide (x=.g)=v.isN:=by
 cases r<;>first|rfl|exact decide_eq_false (λz=>nomatch z)
def bB:L2.OpR X (Bg .Is) (rM2 X.K X.d (zQ .m)):=by
 intro g s n H x y v u Q I i r h;obtain⟨q,t,a,b,l,k,o,w⟩:=h;cases o with
 |p=>
  refine L2.RA g s n H _ _ v u Q I i r ⟨rfl,?_⟩;rw[k.isNone];exact zM l (.j _) w
 |j c=>
  cases k with
  |j d=>cases i;cases r;cases c<;>cases d<;>exact Ae ⟨.f _,H,I,rfl,zM l (.j _) w⟩
  |_=>exact w.elim
 |_=>exact w.elim
def m9:L2.OpR X (Bg .IsNot) (rM2 X.K X.d (zQ .d)):=by
 intro g s m H x y v u Q I i r h;obtain⟨o,t,a,b,l,k,n,w⟩:=h;cases n with
 |p=>
  refine L2.VQ g s m H _ _ v u Q I i r ⟨rfl,?_⟩;rw[k.isNone];exact zM l (.j _) w
 |j c=>
  cases k with
  |j d=>cases i;cases r;cases c<;>cases d<;>exact Ae ⟨.f _,H,I,rfl,zM l (.j _) w⟩
  |_=>exact w.elim
 |_=>exact w.elim
theorem qz:∀{vs} {v},v5 vs=true->v∈vs->v.isD=true
 |w::vs,v,h,m=>by
  rw[v5,cf]at h;rcases Al.mp m with rfl|m
  . exact h.1
  . exact qz h.2 m
def ZO{g:Val->Bool}(q:RDs K mg ρ H vs xs)(r:L2.Vals xs its)
 (t:∀z x w,z∈vs->RD K mg ρ H z x->L2.RelV x w->Bi A s w u (g z)):∃f:Value->Bool,(∀w∈its.toArray,Bi A s w u (f w))/\its.toArray.any f=vs.any g:=by
 classical
 have n:∀i w,its[i]?=some w->∃z x,vs[i]?=some z/\RD K mg ρ H z x/\L2.RelV x w:=λi w e=>by
  have b:i<xs.length:=by rw[r.length];exact(Ax.mp e).1
  have p:xs[i]?=some xs[i]:=xd b;obtain⟨D,v,a⟩:=r.get p;rw[e]at v;cases v;obtain⟨z,m,d⟩:=q.Qw p;exact⟨z,_,m,d,a⟩
 refine⟨λw=>decide (∃(i:Nat) (z:Val),its[i]?=some w/\vs[i]?=some z/\g z=true),λw B=>?_,?_⟩
 . obtain⟨i,b⟩:=E9 (by simpa using B:w∈its)
   by_cases hd:∃(i:Nat) (z:Val),its[i]?=some w/\vs[i]?=some z/\g z=true
   . dsimp only;rw[decide_eq_true hd]
     obtain⟨j,z,m,c,l⟩:=hd;obtain⟨C,x,k,d,a⟩:=n j w m;rw[c]at k;cases k;rw[<-l];exact t z x w (AH c) d a
   . dsimp only;rw[decide_eq_false hd]
     obtain⟨z,x,k,d,a⟩:=n i w b;have o:g z=false:=by
      cases o:g z with
      |false=>rfl
      |true=>exact(hd ⟨i,z,b,k,o⟩).elim
     rw[<-o];exact t z x w (AH k) d a
 . rw[BL,Array.any_toList.symm,Bv,Bv]
   constructor
   . rintro ⟨w,_,h⟩
     obtain⟨i,z,_,c,l⟩:=of_decide_eq_true h;exact⟨z,AH c,l⟩
   . rintro ⟨z,y,l⟩
     obtain⟨i,b⟩:=E9 y;obtain⟨x,m,_⟩:=q.get b;obtain⟨w,c,_⟩:=r.get m;exact⟨w,AH c,decide_eq_true ⟨i,z,c,b,l⟩⟩
def eqD(l:A.units+60<cLine)(o:L2.HOk P w H s.heap)(g:RD K mg ρ H a x)(f:L2.RelV x v)(b:a.isD=true)(n:a.d.depth<=60)
 (r:RD K mg ρ H z y) (c:L2.RelV y u) (h:z.isD=true):Bi A s u v (CB z.d a.d):=by
 obtain⟨q,k,_⟩:=RD.reads o g (yf b) f;obtain⟨p,i,_⟩:=RD.reads o r (yf h) c;have m:=DQ z.d.depth a.d.depth;exact SeqAt.eqAt_reads _ _ _ _ _ _ _ _ i k (z9 h) (z9 b) ⋯
def bA(G:L2.xM k X.A):L2.OpR X (Bg .In) (rM2 X.K X.d (zQ .h)):=by
 intro l s R H x y v u Q I C P h;obtain⟨F,t,a,b,o,n,Z,w⟩:=h;simp only[zQ]at w;split at w
 . rename_i vs e
   obtain⟨p,T,rfl,i,q⟩:=lM o Z e;split at w
   . rename_i hf
     rw[cf]at hf;refine L2.bF l s R H _ _ v u Q I C P ⟨p,T,rfl,i,n.flat hf.1,q.flat hf.2,?_⟩;simp only[L2.inV,Bn,if_false];rw[RDs.any n hf.1 q hf.2];exact zM o (.j _) w
   . split at w
     . rename_i hf
       simp only[inD,cf,decide_eq_true_eq]at hf;have L:=G.b;cases P;rcases i with i|i
       . obtain⟨E,r,D,m⟩:=I.list i
         obtain⟨f,N,J⟩:=ZO (A:=X.A.in1) (s:=s) (u:=v) (g:=λz=>CB z.d a.d) q r λz V Y m B c=>eqD (show X.A.units+1+60<cLine by omega) I.j n C hf.1.1 hf.2 B c (qz hf.1.2 m)
         exact SeqAt.in_listAt f D.isList N ⟨.f _,H,I,rfl,by rw[J];exact zM o (.j _) w⟩
       . obtain⟨E,r,D,m⟩:=I.tuple i
         obtain⟨f,N,J⟩:=ZO (A:=X.A.in1) (s:=s) (u:=v) (g:=λz=>CB z.d a.d) q r λz V Y m B c=>eqD (show X.A.units+1+60<cLine by omega) I.j n C hf.1.1 hf.2 B c (qz hf.1.2 m)
         exact SeqAt.in_tupleAt f D N ⟨.f _,H,I,rfl,by rw[J];exact zM o (.j _) w⟩
     . exact w.elim
 . exact w.elim
def bD:L2.OpR X (Bg .Lt) (rM2 X.K X.d (zQ .n)):=by
 intro p s c H x y v u Q I f r h;obtain⟨l,t,a,b,k,i,g,w⟩:=h;simp only[zQ]at w;split at w
 . cases i;cases g
   exact L2.Pn p s c H _ _ v u Q I f r ⟨_,_,rfl,rfl,zM k (.j _) w⟩
 . exact w.elim
def bC:L2.OpR X (Bg .LtE) (rM2 X.K X.d (zQ .c)):=by
 intro p s f H x y v u Q I g r h;obtain⟨m,t,a,b,l,k,i,w⟩:=h;simp only[zQ]at w;split at w
 . cases k;cases i
   exact L2.Pm p s f H _ _ v u Q I g r ⟨_,_,rfl,rfl,zM l (.j _) w⟩
 . exact w.elim
def cz:L2.OpR X (Bg .Gt) (rM2 X.K X.d (zQ .j)):=by
 intro p s c H x y v u Q I f r h;obtain⟨l,t,a,b,k,i,g,w⟩:=h;simp only[zQ]at w;split at w
 . cases i;cases g
   exact L2.Pl p s c H _ _ v u Q I f r ⟨_,_,rfl,rfl,zM k (.j _) w⟩
 . exact w.elim
def cy:L2.OpR X (Bg .GtE) (rM2 X.K X.d (zQ .i)):=by
 intro p s c H x y v u Q I f r h;obtain⟨m,t,a,b,l,k,g,w⟩:=h;simp only[zQ]at w;split at w
 . cases k;cases g
   exact L2.Pk p s c H _ _ v u Q I f r ⟨_,_,rfl,rfl,zM l (.j _) w⟩
 . exact w.elim
noncomputable def Cop.op:Cop->CmpOp
 |.a=>.Eq|.b=>.NotEq|.n=>.Lt|.c=>.LtE|.j=>.Gt|.i=>.GtE|.m=>.Is|.d=>.IsNot|.h=>.In|.g=>.NotIn|.l=>.In|.e=>.NotIn|.f=>.NotIn|.k=>.Gt
noncomputable def okC:Cop->Bool
 |.g|.l|.e|.f|.k=>false
 |_=>true
def tj(o:L2.xM k X.A):∀w:Cop,okC w=true->L2.OpR X (Bg w.op) (rM2 X.K X.d (zQ w))
 |.a,_=>cx o
 |.b,_=>bE o
 |.n,_=>bD
 |.c,_=>bC
 |.j,_=>cz
 |.i,_=>cy
 |.m,_=>bB
 |.d,_=>m9
 |.h,_=>bA o
 |.g,h=>by cases h
 |.l,h=>by cases h
 |.e,h=>by cases h
 |.f,h=>by cases h
 |.k,h=>by cases h
noncomputable def Bop.op:Bop->Operator
 |.a=>.Add|.e=>.Sub|.b=>.Mult|.d=>.FloorDiv|.c=>.Mod|.g=>.Pow|.h=>.LShift|.i=>.RShift|.f=>.BitAnd
noncomputable def okB:Bop->Bool
 |.h|.i|.f=>false
 |_=>true
def YY m:∀j:Bop,okB j=true->L2.OpR X (BD j.op) (rM2 X.K X.d (binOp m j))
 |.a,_=>i8 m
 |.e,_=>hX m
 |.b,_=>hU m
 |.d,_=>kn m
 |.c,_=>i9 m
 |.g,_=>hV m
 |.h,h=>by cases h
 |.i,h=>by cases h
 |.f,h=>by cases h
def Q9:L2.IxR X (rM2 X.K X.d wI):=by
 intro c f g s r H x y v u Q I A j h D;obtain⟨E,t,a,b,k,C,B,w⟩:=h;simp only[wI]at w;split at w
 . split at w
   . rename_i vs e
     split at w
     . rename_i z hz
       obtain⟨p,m,rfl,i,q⟩:=lM k C e;cases B;obtain⟨l,o,n⟩:=X9 q hz;refine L2.To c f g s r H _ _ v u Q I A j ?_ D;rcases i with i|i
       . exact .inl ⟨p,m,_,l,rfl,rfl,i,o,zM k n w⟩
       . exact .inr (.inl ⟨p,m,_,l,rfl,rfl,i,o,zM k n w⟩)
     . exact w.elim
   . exact w.elim
 . exact w.elim
end
noncomputable def Bf.nm:Bf->Str
 |.a=>"len"|.j=>"all"|.q=>"any"|.h=>"tuple"|.k=>"list"|.g=>"sorted"|.b=>"repr"|.l=>"max"|.m=>"min"|.s=>"sum"|.p=>"int"|.i=>"isinstance"|.e=>"divmod"|.r=>"str"|.c=>"sorted"|.o=>"min"|.d=>"sorted"|.n=>"min"
noncomputable def Bf.val:Bf->Value
 |.a=>.builtin "len"|.j=>.builtin "all"|.q=>.builtin "any"|.h=>.type "tuple"|.k=>.type "list"|.g=>.builtin "sorted"|.b=>.builtin "repr"|.l=>.builtin "max"|.m=>.builtin "min"|.s=>.builtin "sum"|.p=>.type "int"
 |.i=>.builtin "isinstance"|.e=>.builtin "divmod"|.r=>.type "str"|.c=>.builtin "sorted"|.o=>.builtin "min"|.d=>.builtin "sorted"|.n=>.builtin "min"
def Bf.boot:∀f:Bf,Cu f.nm=some f.val
 |.a=>boot_len|.j=>PyProof.Rows.boot_all|.q=>PyProof.Rows.boot_any|.h=>Gv|.k=>PyProof.Rows.boot_list|.g=>Ek|.b=>PyProof.Rows.boot_repr|.l=>PyProof.Rows.boot_max|.m=>EU
 |.s=>PyProof.Rows.boot_sum|.p=>PyProof.Rows.boot_int|.i=>PyProof.Rows.boot_isinstance|.e=>PyProof.Rows.boot_divmod|.r=>PyProof.Rows.boot_str|.c=>Ek|.o=>EU|.d=>Ek|.n=>EU
section
variable {X:L2.Cx}{k:Nat}{m:Bool}
def rW(r:RDs K mg ρ H [v] xs):∃x,xs=[x]/\RD K mg ρ H v x:=by
 cases r with
 |a c b=>cases b;exact⟨_,rfl,c⟩
def Rv(r:RDs K mg ρ H [v,w] xs):∃x y,xs=[x,y]/\RD K mg ρ H v x/\RD K mg ρ H w y:=by
 cases r with
 |a d c=>
  obtain⟨y,rfl,b⟩:=rW c;exact⟨_,_,rfl,d,b⟩
def aX:L2.yc X (.builtin "len") (rMc X.K X.d (blt .a m)):=by
 intro b s g H o u Q I r h;obtain⟨n,t,v,f,i,w⟩:=h;simp only[blt]at w;split at w
 . split at w
   . rename_i hz
     obtain⟨x,rfl,c⟩:=rW i;cases c;exact L2.mG b s g H _ u Q I r ⟨_,rfl,by rw[<-yh];exact hz,zM f (.l _) w⟩
   . exact w.elim
 . split at w
   . rename_i e
     obtain⟨x,rfl,c⟩:=rW i;obtain⟨p,y,rfl,k,q⟩:=lM f c e;refine L2.mF b s g H _ u Q I r ⟨p,y,rfl,k,?_⟩;rw[<-q.length];exact zM f (.l _) w
   . exact w.elim
 . exact w.elim
theorem qd(k:X.j=true):L2.yc X (.builtin "all") (rMc X.K X.d (blt .j m)):=by
 intro a s f H n u Q I r h;obtain⟨l,t,v,b,i,w⟩:=h;simp only[blt]at w;split at w
 . split at w
   . rename_i e
     split at w
     . rename_i bs eb
       obtain⟨x,rfl,g⟩:=rW i;obtain⟨p,y,rfl,c,q⟩:=wg b g e;rw[q.bools eb]at c;exact L2.qd k a s f H _ u Q I r ⟨p,bs,rfl,.of c,zM b (.j _) w⟩
     . exact w.elim
   . exact w.elim
 . exact w.elim
def iE:L2.yc X (.type "tuple") (rMc X.K X.d (blt .h m)):=by
 intro a s f H l u Q I r h;obtain⟨k,t,v,c,g,w⟩:=h;simp only[blt]at w;split at w
 . obtain⟨x,rfl,b⟩:=rW g
   cases b with
   |m n e q=>exact L2.tG a s f H _ u Q I r ⟨_,_,rfl,.inr ⟨.of e,zM c (.m n e q) w⟩⟩
 . split at w
   . rename_i e
     obtain⟨x,rfl,b⟩:=rW g;obtain⟨p,y,rfl,i,q⟩:=wg c b e;exact L2.tG a s f H _ u Q I r ⟨p,y,rfl,.inl ⟨.of i,eN c q w⟩⟩
   . exact w.elim
 . exact w.elim
def aa(y:L2.xM k X.A):L2.yc X (.builtin "repr") (rMc X.K X.d (blt .b m)):=by
 intro o s V H xs us Q I r h;obtain⟨W,t,vs,Z,M,w⟩:=h;simp only[blt]at w;split at w
 . rename_i v
   split at w
   . rename_i hc
     rw[cf]at hc;obtain⟨x,rfl,Y⟩:=rW M;obtain⟨u,rfl,c⟩:=L2.vals1 r;have S:=Pc hc.2;have q:Q (.e (zi t v).d.shown) H:=zM Z (.D _) w;have n:∀(N:Tok) (T:Nat),L2.EP X o V Q (.str (zi t v).d.shown N) {s with toks:=T}:=λ_ T=>⟨.e _,H,I.tok _,⟨_,rfl⟩,q⟩
     obtain⟨as,R,O⟩:=xP I.j Z hc.1 Y c;have g:∀a,u=.ref a->wpAny (model X.f X.w) X.A (call (.builtin "repr") [u]) (L2.EP X o V Q) X.i s:=λa e=>by subst e;refine repr_of_reads' R S.sh (λz=>O (S.a z)) y.d ?_ (λ_ _ e=>e) (λh' u T U=>⟨.e _,H,I.kept U,⟨_,rfl⟩,q⟩) S.ln;have:=S.dp;have:=y.b;omega
     cases Y with
     |p=>cases (show u=AY from c);exact PySem.P.repr_of_none (n _ _)
     |j b=>cases (show u=Dz b from c);exact PySem.P.repr_of_bool (n _ _)
     |l i=>obtain⟨L,z⟩:=(show ∃t,u=GA i t from c);cases z;exact PySem.P.repr_of_int (by simpa [zi,yn,Val.d,PyData.showable] using S.sh) (n _ _)
     |D x=>obtain⟨L,z⟩:=(show ∃t,u=GB x t from c);cases z;exact PySem.P.repr_of_str (n _ _) S.ln
     |m _ _ _=>exact g _ c
     |E _ _ _=>exact g _ c
     |B _ _=>exact g _ c
     |C _ _=>exact g _ c
     |s _=>exact g _ c
     |F _=>exact g _ c
     |I _=>exact g _ c
     |J _=>exact absurd hc.1 (by simp[zi,yn,Val.isR])
     |A _ _=>exact g _ c
     |G _ _=>exact g _ c
   . exact w.elim
 . exact w.elim
def aY(i:X.j=true):L2.yc X (.builtin "max") (rMc X.K X.d (blt .l m)):=by
 intro a s f H A u Q I r h;obtain⟨v,t,B,c,g,w⟩:=h;simp only[blt]at w;split at w
 . obtain⟨x,y,rfl,b,o⟩:=Rv g
   cases b;cases o;exact L2.dU i a s f H _ u Q I r ⟨_,_,rfl,zM c (.l _) w⟩
 . split at w
   . rename_i ns en
     split at w
     . rename_i hn
       obtain⟨x,rfl,b⟩:=rW g;cases b with
       |m n e q=>
        rw[q.nG en]at e;exact L2.dX i a s f H _ u Q I r ⟨_,ns,rfl,.of e,hn,zM c (.l _) w⟩
     . exact w.elim
   . exact w.elim
 . split at w
   . rename_i e
     split at w
     . rename_i ns en
       split at w
       . rename_i hn
         obtain⟨x,rfl,b⟩:=rW g;obtain⟨p,z,rfl,k,q⟩:=wg c b e;rw[q.nG en]at k;exact L2.dW i a s f H _ u Q I r ⟨p,ns,rfl,.of k,hn,zM c (.l _) w⟩
       . exact w.elim
     . exact w.elim
   . exact w.elim
 . exact w.elim
def aZ(i:X.j=true):L2.yc X (.builtin "min") (rMc X.K X.d (blt .m m)):=by
 intro a s f H A u Q I r h;obtain⟨v,t,B,c,g,w⟩:=h;simp only[blt]at w;split at w
 . obtain⟨x,y,rfl,b,o⟩:=Rv g
   cases b;cases o;exact L2.dY i a s f H _ u Q I r ⟨_,_,rfl,zM c (.l _) w⟩
 . split at w
   . rename_i ns en
     split at w
     . rename_i hn
       obtain⟨x,rfl,b⟩:=rW g;cases b with
       |m n e q=>
        rw[q.nG en]at e;exact L2.iD i a s f H _ u Q I r ⟨_,ns,rfl,.of e,hn,zM c (.l _) w⟩
     . exact w.elim
   . exact w.elim
 . split at w
   . rename_i e
     split at w
     . rename_i ns en
       split at w
       . rename_i hn
         obtain⟨x,rfl,b⟩:=rW g;obtain⟨p,z,rfl,k,q⟩:=wg c b e;rw[q.nG en]at k;exact L2.dZ i a s f H _ u Q I r ⟨p,ns,rfl,.of k,hn,zM c (.l _) w⟩
       . exact w.elim
     . exact w.elim
   . exact w.elim
 . exact w.elim
def aW:L2.yc X (.type "int") (rMc X.K X.d (blt .p m)):=by
 intro a s c H k u Q I r h;obtain⟨i,t,v,g,f,w⟩:=h;simp only[blt]at w;split at w
 . obtain⟨x,rfl,b⟩:=rW f
   cases b;exact L2.ow a s c H _ u Q I r (.inl ⟨_,rfl,zM g (.l _) w⟩)
 . obtain⟨x,rfl,b⟩:=rW f
   cases b;exact L2.ow a s c H _ u Q I r (.inr ⟨_,rfl,zM g (.l _) w⟩)
 . exact w.elim
theorem qe:L2.yc X (.builtin "isinstance") (rMc X.K X.d (blt .i m)):=by
 intro p s b H n u Q I r h;obtain⟨l,t,v,a,g,w⟩:=h;simp only[blt]at w;split at w
 . split at w
   . rename_i ea ec
     obtain⟨x,y,rfl,f,c⟩:=Rv g;cases c;obtain⟨k,e⟩:=PV ec;subst k;exact L2.qe p s b H _ u Q I r ⟨_,_,_,_,rfl,O1 a f ea,L2.Si X.K _ _ e,zM a (.j _) w⟩
   . exact w.elim
 . exact w.elim
noncomputable def okF:Bf->Bool
 |.q|.k|.g|.s|.e|.r|.c|.o|.d|.n=>false
 |_=>true
def WG(u:X.j=true)(t:L2.xM k X.A):∀f m,okF f=true->L2.yc X f.val (rMc X.K X.d (blt f m))
 |.a,_,_=>aX
 |.j,_,_=>qd u
 |.q,_,h=>by cases h
 |.h,_,_=>iE
 |.k,_,h=>by cases h
 |.g,_,h=>by cases h
 |.b,_,_=>aa t
 |.l,_,_=>aY u
 |.m,_,_=>aZ u
 |.s,_,h=>by cases h
 |.p,_,_=>aW
 |.i,_,_=>qe
 |.e,_,h=>by cases h
 |.r,_,h=>by cases h
 |.c,_,h=>by cases h
 |.d,_,h=>by cases h
 |.o,_,h=>by cases h
 |.n,_,h=>by cases h
end
noncomputable def Out.isOk{a:Type}:Out a->Bool
 |.e _ _=>true
 |.g _ _ _|.d=>false
def zH{o:Out α}(h:o.isOk=false)v s:o≠.e v s:=λe=>by subst e;cases h
noncomputable def plain:Expr->Bool
 |.Starred ..|.Set ..|.Slice ..=>false
 |_=>true
def zN(h:plain e=true):L2.noStar e=true:=by cases e<;>first|rfl|cases h
def wm(h:plain e=true):DY op e=false:=by cases e<;>first|rfl|cases h
def Yy(h:plain e=true):L2.fP e:=by intro o i;cases e<;>first|rfl|cases h
def z6(h:plain e=true)x:A9 e env x=pure x:=by cases e<;>first|rfl|cases h
noncomputable def my:Expr->Bool
 |.Call (.Name _ _) [] [] _=>false
 |_=>true
def vy(h:my o=true):B4 o name env (eval o env)=eval o env:=by
 unfold B4;split
 . cases h
 . rfl
noncomputable def plainT:Expr->Bool
 |.UnaryOp .Not _ _|.BoolOp ..|.IfExp ..|.Compare ..=>false
 |_=>true
def nQ(h:plainT e=true)whole:isTrue e env whole=(do let v <-whole;standAt e.pos;holding [v] (truthy v)):=by
 cases e with
 |UnaryOp o a p=>cases o<;>first|rfl|cases h
 |_=>first|rfl|cases h
def zq:List Expr->Bool
 |[]=>true
 |e::es=>plain e&&zq es
theorem yz:∀{es} {pos} {env},zq es=true->(backTo pos (Av es env)).any (·.1)=false
 |[],_,_,_=>rfl
 |e::es,pos,env,h=>by
  rw[zq,cf]at h;rw[L2.zd (zN h.1)];show (false||(backTo pos (Av es env)).any (·.1))=false
  rw[yz h.2];rfl
def yb.mono(w:yb K mg R ρ H o Q)(x:Ext ρ H ρ' H')(h:HR K mg ρ' s1 H'):yb K mg R ρ' H' o Q:=by
 cases o with
 |e v s'=>exact λa y A b c r=>w a y A (x.trans h b) c r
 |_=>exact w
section
variable {X:L2.Cx}{env:Env}{s:Sto}{E a b c:Expr}
def zK{o:Out Val}(h:∀v j,o≠.e v j):L2.PE X E (tV X.K X.d env s o):=yS λ_ _ _=>Ox h
def un1{g:Val->Sto->Out Val}(h:L2.PE X a (tV X.K X.d env s o))(b:∀F,L2.PE X a F->L2.PE X E (L2.tUn r F))
 (l:∀j H y v x Q,HR X.K X.d j y H->RD X.K X.d j H v x->yb X.K X.d (RD X.K X.d) j H (g v y) Q->r x H Q):L2.PE X E (tV X.K X.d env s (o.bind g)):=by
 cases o with
 |e v y=>exact zV (b _ h) λm H Q ⟨j,hr,er,w⟩=>⟨j,hr,er,λf x A i c k=>l f A y v x Q c k (w.mono i c)⟩
 |g _ _ _=>exact zK (zH rfl)
 |d=>exact zK (zH rfl)
def U3{i:Sto->Out Val}(u:L2.PE X a (tV X.K X.d env s o))(t:∀j,L2.PE X b (tV X.K X.d env j (i j)))
 (r:∀M L,L2.PE X a M->L2.PE X b L->L2.PE X E (L2.tOp (rM2 X.K X.d g) M L)):L2.PE X E (tV X.K X.d env s (o.bind λx j=>(i j).bind λy F=>g x y F)):=by
 cases o with
 |e v j=>
  show L2.PE X E (tV X.K X.d env s ((i j).bind λy F=>g v y F));have f:=t j;cases hb:i j with
  |e w F=>
   rw[hb]at f;exact zV (r _ _ u f) λz H Q ⟨ρ,hr,er,wt⟩=>⟨ρ,hr,er,λl x B n c q=>⟨l,c,er.mono n,λk y A m h p=>⟨k,F,v,w,h,q.mono m,p,wt.mono (n.trans c m) h⟩⟩⟩
  |g _ _ _=>exact zK (zH rfl)
  |d=>exact zK (zH rfl)
 |g _ _ _=>exact zK (zH rfl)
 |d=>exact zK (zH rfl)
def Zy{i h:Cop}{o:Out Val}{N J:Sto->Out Val}{k:Nat}{p:Pos}(k1:okC i=true)(k2:okC h=true)(G:L2.xM k X.A)(h1:L2.PE X a (tV X.K X.d env s o))(h2:∀F,L2.PE X b (tV X.K X.d env F (N F)))(h3:∀F,L2.PE X c (tV X.K X.d env F (J F)))(hm:plain c=true) :
 L2.PE X (.Compare a [i.op,h.op] [b,c] p) (tV X.K X.d env s (o.bind λx F=>(N F).bind λy O=>(zQ i x y O).bind λr L=>match r with
  |.e true=>(J L).bind λz M=>zQ h y z M
  |.e false=>.e (.e false) L
  |_=>.d)):=by
 cases o with
 |e v F=>
  have I:=h2 F;show L2.PE X _ (tV X.K X.d env s ((N F).bind _));cases hb:N F with
  |e w O=>
   rw[hb]at I;show L2.PE X _ (tV X.K X.d env s ((zQ i v w O).bind _));cases hc:zQ i v w O with
   |e r L=>
    cases r with
    |e t=>
     have V:=h3 L;have B:=L2.Ym (pos:=p) (tj G i k1) (tj G h k2) h1 I V (show Hf [i.op,h.op] [b,c]=false from wm hm);refine zV B λσ H Q ⟨ρ,hr,er,wt⟩=>⟨ρ,hr,er,λT x H1 W E r1=>⟨T,E,er.mono W,λR y H2 U D r2=>⟨R,O,v,w,D,r1.mono U,r2,?_⟩⟩⟩;rw[hc];intro m z H3 S l r3;cases r3;refine⟨t,rfl,?_⟩;have Y:=(W.trans E U).trans D S;have n:=wt.mono Y l;cases t with
     |true=>
      rw[if_pos rfl];refine⟨m,l,er.mono Y,?_⟩;have f:yb X.K X.d (RD X.K X.d) m H3 ((J L).bind λz M=>zQ h w z M) Q:=n;cases hz:J L with
      |e u M=>
       rw[hz]at f;exact λP q H4 Z C r4=>⟨P,M,w,u,C,(r2.mono S).mono Z,r4,f.mono Z C⟩
      |g _ _ _=>rw[hz]at f;exact f
      |d=>rw[hz]at f;exact f
     |false=>
      rw[if_neg Aj];exact zM l (.j false) n
    |_=>exact zK (zH rfl)
   |g _ _ _=>exact zK (zH rfl)
   |d=>exact zK (zH rfl)
  |g _ _ _=>exact zK (zH rfl)
  |d=>exact zK (zH rfl)
 |g _ _ _=>exact zK (zH rfl)
 |d=>exact zK (zH rfl)
def SI{o:Out Val}{p:Pos}(h:L2.PE X a (tV X.K X.d env s o)):L2.PE X (.UnaryOp .USub a p) (tV X.K X.d env s (o.bind λx j=>match x with|.c i=>.e (.c (-i)) j|_=>.d)):=by
 refine un1 h (λt q=>L2.OG L2.QS q) λf H j v x Q b r w=>?_;cases r with
 |l i=>exact⟨i,rfl,zM b (.l _) w⟩
 |_=>exact w.elim
def SJ{o:Out Val}{p:Pos}(h:L2.PE X a (tV X.K X.d env s o)):L2.PE X (.UnaryOp .Not a p) (tV X.K X.d env s (o.bind λx y=>match x with|.e b=>.e (.e !b) y|_=>.d)):=by
 refine un1 (r:=λx H Q=>∃c,x=.f c/\Q (.f (!c)) H) h (λt q=>L2.Rh q) λk H y v x Q g r w=>?_;cases r with
 |j i=>exact⟨i,rfl,zM g (.j _) w⟩
 |_=>exact w.elim
def Zw{r:List Expr}{o:Out Val}{i:Sto->Out Val}{p:Pos}(m:L2.PE X a (tV X.K X.d env s o))(l:∀y,L2.PE X (.BoolOp .And (b::r) p) (tV X.K X.d env y (i y))) :
 L2.PE X (.BoolOp .And (a::b::r) p) (tV X.K X.d env s (o.bind λx y=>match x with|.e true=>i y|.e false=>.e (.e false) y|_=>.d)):=by
 cases o with
 |e v y=>
  refine zV (L2.RZ m (l y)) λn H Q ⟨ρ,hr,er,wt⟩=>⟨ρ,hr,er,λc x A f h k=>?_⟩;have w:=wt.mono f h;cases k with
  |j t=>
   refine⟨t,rfl,?_⟩;cases t with
   |true=>exact L2.pB (⟨c,h,er.mono f,w⟩)
   |false=>exact L2.rK (zM h (.j _) w)
  |_=>exact w.elim
 |g _ _ _=>exact zK (zH rfl)
 |d=>exact zK (zH rfl)
def PL{r:List Expr}{o:Out Val}{f:Sto->Out Val}{p:Pos}(m:L2.PE X a (tV X.K X.d env s o))(l:∀j,L2.PE X (.BoolOp .Or (b::r) p) (tV X.K X.d env j (f j))) :
 L2.PE X (.BoolOp .Or (a::b::r) p) (tV X.K X.d env s (o.bind λx j=>match truth j x with|some false=>f j|some true=>.e x j|dS=>.d)):=by
 cases o with
 |e v j=>
  refine zV (L2.Ri m (l j)) λn H Q ⟨ρ,hr,er,wt⟩=>⟨ρ,hr,er,λc x A i h k=>?_⟩;have w:yb X.K X.d (RD X.K X.d) c A (match truth j v with|some false=>f j|some true=>.e v j|dS=>.d) Q:=wt.mono i h
  cases ht:truth j v with
  |none=>rw[ht]at w;exact w.elim
  |some t=>
   rw[ht]at w;refine⟨t,Xm h k ht,?_⟩;cases t with
   |true=>exact L2.pB (zM h k w)
   |false=>exact L2.rK (⟨c,h,er.mono i,w⟩)
 |g _ _ _=>exact zK (zH rfl)
 |d=>exact zK (zH rfl)
def SH{l k:Sto->Out Val}(p:L2.PT X c (tT X.K X.d env s o))(n:∀j,L2.PE X a (tV X.K X.d env j (l j)))(m:∀j,L2.PE X b (tV X.K X.d env j (k j))) :
 L2.PE X (.IfExp c a b pos) (tV X.K X.d env s (o.bind λt j=>if t then l j else k j)):=by
 cases o with
 |e v j=>
  refine zV (L2.k7 p (n j) (m j)) λq H Q ⟨ρ,hr,er,wt⟩=>⟨ρ,hr,er,λf x A i h r=>?_⟩;have w:=wt.mono i h;cases r;cases v with
  |true=>exact L2.pB (⟨f,h,er.mono i,w⟩)
  |false=>exact L2.rK (⟨f,h,er.mono i,w⟩)
 |g _ _ _=>exact zK (zH rfl)
 |d=>exact zK (zH rfl)
def sS{o:Out (List Val)}(h:∀v j,o≠.e v j):L2.PA X es (tVs X.K X.d env s o):=OB λ_ _ _=>QE h
def eH:L2.PA X [] (tVs X.K X.d env s (.e [] s)):=Yj L2.yV λa H Q ⟨ρ,hr,er,wt⟩=>wt ρ [] H Ext.refl hr .d
def kP{f:Sto->Out (List Val)}(p:plain a=true)(t:L2.PE X a (tV X.K X.d env s o))(q:∀j,L2.PA X es (tVs X.K X.d env j (f j))) :
 L2.PA X (a::es) (tVs X.K X.d env s (o.bind λv j=>(f j).bind λF w=>.e (v::F) w)):=by
 cases o with
 |e v j=>
  have b:=q j;show L2.PA X _ (tVs X.K X.d env s ((f j).bind _));cases hb:f j with
  |e ws w=>
   rw[hb]at b;exact Yj (L2.pac t b (zN p)) λu H Q ⟨ρ,hr,er,wt⟩=>⟨ρ,hr,er,λi x B m h n=>⟨i,h,er.mono m,λc y A l k r=>wt c _ A (m.trans h l) k (.a (n.mono l) r)⟩⟩
  |g _ _ _=>exact sS (zH rfl)
  |d=>exact sS (zH rfl)
 |g _ _ _=>exact sS (zH rfl)
 |d=>exact sS (zH rfl)
def Z3(h:L2.PA X es (tVs X.K X.d env s o)):L2.PE X (.Tuple es k pos) (tV X.K X.d env s (o.bind λj y=>if j.length<=zO then .e (.f j) y else .d)):=by
 cases o with
 |e j y=>
  refine zV (L2.gF h) λc H Q ⟨ρ,hr,er,wt⟩=>⟨ρ,hr,er,λb i A x a r=>?_⟩;have w:yb X.K X.d (RD X.K X.d) b A (if j.length<=zO then .e (.f j) y else .d) Q:=wt.mono x a
  by_cases hz:j.length<=zO
  . rw[if_pos hz]at w
    exact⟨by rw[<-r.length,<-yh];exact hz,eN a r w⟩
  . rw[if_neg hz]at w;exact w.elim
 |g _ _ _=>exact zK (zH rfl)
 |d=>exact zK (zH rfl)
def Z0(h:L2.PA X es (tVs X.K X.d env s o)):L2.PE X (.List es pos) (tV X.K X.d env s (o.bind λj y=>if j.length<=zO then newList m j y else .d)):=by
 cases o with
 |e j y=>
  refine zV (L2.pV h) λc H Q ⟨ρ,hr,er,wt⟩=>⟨ρ,hr,er,λb f A x a r=>?_⟩;have w:yb X.K X.d (RD X.K X.d) b A (if j.length<=zO then newList m j y else .d) Q:=wt.mono x a
  by_cases hz:j.length<=zO
  . rw[if_pos hz]at w
    exact⟨by rw[<-r.length,<-yh];exact hz,sR a r w⟩
  . rw[if_neg hz]at w;exact w.elim
 |g _ _ _=>exact zK (zH rfl)
 |d=>exact zK (zH rfl)
def PK(h:L2.PA X es (tVs X.K X.d env s o))(r:∀t,L2.PA X es t->L2.PE X E (L2.tCB (rMc X.K X.d g) t)):L2.PE X E (tV X.K X.d env s (o.bind g)):=by
 cases o with
 |e vs s1=>exact zV (r _ h) λf H Q ⟨ρ,hr,er,wt⟩=>⟨ρ,hr,er,λb i A x a c=>⟨b,s1,vs,a,c,wt.mono x a⟩⟩
 |g _ _ _=>exact zK (zH rfl)
 |d=>exact zK (zH rfl)
def SG(x:okF f=true)(z:X.j=true)(u:L2.xM k X.A)(l:L2.Gl X f.nm)(i:X.d f.nm=none)(v:zq (a::es)=true)(h:L2.PA X (a::es) (tVs X.K X.d env s o)) :
 L2.PE X (.Call (.Name f.nm p) (a::es) [] pos) (tV X.K X.d env s (o.bind (blt f m))):=by
 rw[zq,cf]at v;refine PK h λt c=>?_;have n:=WG z u f m x;have q:=f.boot;have b:=L2.zd (es:=es) (env:=X.a) (zN v.1);have g:=yz (pos:=pos) (env:=X.a) v.2;cases f with
 |h=>exact L2.xA n l i q c (by decide) (by decide) b g
 |k=>exact L2.xA n l i q c (by decide) (by decide) b g
 |p=>exact L2.xA n l i q c (by decide) (by decide) b g
 |r=>exact L2.xA n l i q c (by decide) (by decide) b g
 |_=>exact L2.uc n l i q c (by decide) (by decide) b g
def yK{o:Out Bool}(h:∀v j,o≠.e v j):L2.PT X E (tT X.K X.d env s o):=eW λ_ _ _=>Us h
def SW(k:plainT a=true)(h:L2.PE X a (tV X.K X.d env s o)):L2.PT X a (tT X.K X.d env s o.truth):=by
 cases o with
 |e v s1=>
  refine rT (L2.jH h (nQ k)) λl H Q ⟨ρ,hr,er,wt⟩=>⟨ρ,hr,er,λf x A i c r=>?_⟩;have w:=wt.mono i c;simp only[Out.truth,zT]at w;cases ht:truth s1 v with
  |none=>rw[ht]at w;exact w.elim
  |some b=>rw[ht]at w;exact⟨b,Xm c r ht,w _ _ _ Ext.refl c rfl⟩
 |g _ _ _=>exact yK (zH rfl)
 |d=>exact yK (zH rfl)
def SV(h:L2.PT X a (tT X.K X.d env s o)):L2.PT X (.UnaryOp .Not a pos) (tT X.K X.d env s (o.bind λb j=>.e (!b) j)):=by
 cases o with
 |e v j=>exact rT (L2.gK h) λk H Q ⟨ρ,hr,er,wt⟩=>⟨ρ,hr,er,λf x A i c r=>by cases r;exact wt _ _ _ i c rfl⟩
 |g _ _ _=>exact yK (zH rfl)
 |d=>exact yK (zH rfl)
def sW{o:Out Bool}(h:∀v j,o≠.e v j):L2.PW X E (tT X.K X.d env s o):=OL λ_ _ _=>Us h
def iW:L2.PW X (.BoolOp .And [] pos) (tT X.K X.d env s (.e true s)):=λw p b a H Q I ⟨ρ,hr,er,wt⟩=>PyProof.Rows.isTrue_and_nil ⟨H,I,wt _ _ _ Ext.refl hr rfl⟩
def cI:L2.PW X (.BoolOp .Or [] pos) (tT X.K X.d env s (.e false s)):=λw p b a H Q I ⟨ρ,hr,er,wt⟩=>PyProof.Rows.isTrue_or_nil ⟨H,I,wt _ _ _ Ext.refl hr rfl⟩
def Z8{l:Sto->Out Bool}(D:L2.PT X a (tT X.K X.d env s o))(C:∀j,L2.PW X (.BoolOp .And rest pos) (tT X.K X.d env j (l j))) :
 L2.PW X (.BoolOp .And (a::rest) pos) (tT X.K X.d env s (o.bind λb j=>if b then l j else .e false j)):=by
 cases o with
 |e v j=>
  intro t p u i H Q I h;obtain⟨q,B,n,r⟩:=h;refine PyProof.Rows.isTrue_and (L2.thn (D p u i H (λc A=>if c=true then tT X.K X.d env j (l j) i A Q else Q false A) I ⟨q,B,n,λk x A m f y=>?_⟩) λc z ⟨A,I1,q1⟩=>?_)
  . have w:=r.mono m f
    cases y;cases v with
    |true=>exact L2.pB (⟨k,f,n.mono m,w⟩)
    |false=>exact L2.rK (w _ _ _ Ext.refl f rfl)
  . cases c with
    |true=>exact C j t p z i A Q I1 q1
    |false=>exact⟨A,I1,q1⟩
 |g _ _ _=>exact sW (zH rfl)
 |d=>exact sW (zH rfl)
def UX{l:Sto->Out Bool}(D:L2.PT X a (tT X.K X.d env s o))(C:∀j,L2.PW X (.BoolOp .Or rest pos) (tT X.K X.d env j (l j))) :
 L2.PW X (.BoolOp .Or (a::rest) pos) (tT X.K X.d env s (o.bind λb j=>if b then .e true j else l j)):=by
 cases o with
 |e v j=>
  intro t p u i H Q I h;obtain⟨q,B,n,r⟩:=h;refine PyProof.Rows.isTrue_or (L2.thn (D p u i H (λc A=>if c=true then Q true A else tT X.K X.d env j (l j) i A Q) I ⟨q,B,n,λk x A m f y=>?_⟩) λc z ⟨A,I1,q1⟩=>?_)
  . have w:=r.mono m f
    cases y;cases v with
    |true=>exact L2.pB (w _ _ _ Ext.refl f rfl)
    |false=>exact L2.rK (⟨k,f,n.mono m,w⟩)
  . cases c with
    |true=>exact⟨A,I1,q1⟩
    |false=>exact C j t p z i A Q I1 q1
 |g _ _ _=>exact sW (zH rfl)
 |d=>exact sW (zH rfl)
end
section
variable {X:L2.Cx}{env:Env}{s:Sto}{E a b c:Expr}
def Yz{t a:L2.TO}(h:L2.PO X e t)(i:∀j H Q,a j H Q->t j H Q):L2.PO X e a:=λp s j H Q I q=>h p s j H Q I (i j H Q q)
def Ou{o:Out (Option Int)}(h:∀v j,o≠.e v j):¬tO X.K X.d env s o σ H Q:=by
 rintro ⟨a,_,_,w⟩;cases o with
 |e v j=>exact h v j rfl
 |_=>exact w
def jB{o:Out (Option Int)}(h:∀v j,o≠.e v j):L2.PO X e (tO X.K X.d env s o):=λp b a H Q I q=>(Ou h q).elim
def PQ:L2.PO X none (tO X.K X.d env s (.e none s)):=Yz L2.Vg λa H Q ⟨ρ,hr,er,wt⟩=>wt _ _ _ Ext.refl hr rfl
def SM{o:Out Val}(h:L2.PE X a (tV X.K X.d env s o)):L2.PO X (some a) (tO X.K X.d env s (o.bind λv j=>match v with|.c i=>.e (some i) j|_=>.d)):=by
 cases o with
 |e v j=>
  refine Yz (L2.Vh h) λm H Q ⟨ρ,hr,er,wt⟩=>⟨ρ,hr,er,λf x A k b r=>?_⟩;have w:=wt.mono k b;cases r with
  |l i=>exact⟨i,rfl,w _ _ _ Ext.refl b rfl⟩
  |_=>exact w.elim
 |g _ _ _=>exact jB (zH rfl)
 |d=>exact jB (zH rfl)
def rMs(K:KF)(a:Str->Option Value)(m:Bool):L2.V->Option Int->Option Int->L2.Hp->L2.VK->Prop:=λx l h H Q=>∃b s v,HR K a b s H/\RD K a b H v x/\yb K a (RD K a) b H (pj m v l h none s) Q
def Oh m:L2.SlR X (rMs X.K X.d m):=by
 intro a s g H x v k i l c o Q I u y j z h;obtain⟨B,t,w,f,r,b⟩:=h;simp only[pj]at b;split at b
 . cases r with
   |m n e q=>exact L2.Vp a s g H _ v k i l c o Q I u y j z ⟨_,_,rfl,e,uW f (q.cut l c) b⟩
 . rename_i heq
   cases heq
 . split at b
   . rename_i e
     obtain⟨p,C,rfl,A,q⟩:=wg f r e;exact L2.Vo a s g H _ v k i l c o Q I u y j z ⟨_,_,rfl,.of A,sR f (q.cut l c) b⟩
   . exact b.elim
 . rename_i heq
   cases heq
def PM{f2 W V:Sto->Out (Option Int)}(h1:L2.PE X a (tV X.K X.d env s o))(h2:∀j,L2.PO X lo (tO X.K X.d env j (f2 j)))(h3:∀j,L2.PO X hi (tO X.K X.d env j (W j)))
 (h4:∀j,L2.PO X st (tO X.K X.d env j (V j))) (hst:(st=none/\∀j,V j=.e none j)\/∃e,st=some e/\∀j M,V j≠.e none M) :
 L2.PE X (.Subscript a (.Slice lo hi st p2) pos) (tV X.K X.d env s (o.bind λx j=>(f2 j).bind λl M=>(W M).bind λh L=>(V L).bind λc F=>pj m x l h c F)):=by
 cases o with
 |e v j=>
  have P:=h2 j;show L2.PE X _ (tV X.K X.d env s ((f2 j).bind _));cases hl:f2 j with
  |e l M=>
   rw[hl]at P;have N:=h3 M;show L2.PE X _ (tV X.K X.d env s ((W M).bind _));cases hh:W M with
   |e h L=>
    rw[hh]at N;have T:=h4 L;show L2.PE X _ (tV X.K X.d env s ((V L).bind _));rcases hst with⟨rfl,e4⟩|⟨e,rfl,e4⟩
    . rw[e4 L]
      refine zV (L2.Ys (Oh m) h1 P N) λσ H Q ⟨ρ,hr,er,wt⟩=>⟨ρ,hr,er,λG x H1 A t S=>⟨G,t,er.mono A,λE y H2 u k O=>?_⟩⟩;cases O;refine⟨E,k,(er.mono A).mono u,λD z H3 J i Z=>?_⟩;cases Z;exact⟨D,L,v,i,(S.mono u).mono J,wt.mono ((A.trans t u).trans k J) i⟩
    . cases hc:V L with
      |e cc F=>
       rw[hc]at T;cases cc with
       |none=>exact absurd hc (e4 L F)
       |some b=>
        by_cases hv:∃I,v=.f I
        case neg=>
         refine zV (L2.gE h1 P N T) λσ H Q ⟨ρ,hr,er,wt⟩=>⟨ρ,hr,er,λG x H1 A t S=>⟨G,t,er.mono A,λE y H2 u k O=>?_⟩⟩;cases O;refine⟨E,k,(er.mono A).mono u,λD z H3 J i Z=>?_⟩;cases Z;refine⟨D,i,((er.mono A).mono u).mono J,λC z4 U Y B r4=>?_⟩;cases r4;have w:yb X.K X.d (RD X.K X.d) C U (pj m v l h (some b) F) Q:=wt.mono (((A.trans t u).trans k J).trans i Y) B;have em:pj m v l h (some b) F=(match yW F v with|some I=>if b≠0 then newList m (L2.yC I (L2.uV I.length l h b).1 b (L2.uV I.length l h b).2) F else .d|dS=>.d):=by
          cases v with
          |f I=>exact absurd ⟨I,rfl⟩ hv
          |_=>rfl
         rw[em]at w;cases hl:yW F v with
         |none=>rw[hl]at w;exact w.elim
         |some I=>
          rw[hl]at w;dsimp only at w;obtain⟨p,xs,rfl,hq,q⟩:=wg B (((S.mono u).mono J).mono Y) hl;by_cases c0:b≠0
          . have wt2:yb X.K X.d (RD X.K X.d) C U (newList m (L2.yC I (L2.uV I.length l h b).1 b (L2.uV I.length l h b).2) F) Q:=by rwa [if_pos c0]at w
            refine⟨p,xs,b,rfl,.of hq,rfl,c0,?_⟩;rw[<-q.length];exact sR B (q.yC _ _ _) wt2
          . rw[if_neg c0]at w;exact w.elim
        refine zV (L2.bL h1 P N T) λσ H Q ⟨ρ,hr,er,wt⟩=>⟨ρ,hr,er,λG x H1 A t S=>⟨G,t,er.mono A,λE y H2 u k O=>?_⟩⟩;cases O;refine⟨E,k,(er.mono A).mono u,λD z H3 J i Z=>?_⟩;cases Z;refine⟨D,i,((er.mono A).mono u).mono J,λC z4 U Y B r4=>?_⟩;cases r4;have xx:=((A.trans t u).trans k J).trans i Y;have w:yb X.K X.d (RD X.K X.d) C U (pj m v l h (some b) F) Q:=wt.mono xx B;have r:=((S.mono u).mono J).mono Y;cases r with
        |m n e q=>
         change yb X.K X.d (RD X.K X.d) C U (if b≠0/\(L2.ym (Ey _) l h b).2<=zO then .e (.f (L2.yC _ (L2.ym (Ey _) l h b).1 b (L2.ym (Ey _) l h b).2)) F else .d) Q at w
         split at w
         . rename_i hz
           have R:=q.length;refine⟨_,_,b,rfl,e,rfl,hz.1,by rw[<-R,<-yh];exact hz.2,?_⟩
           rw[<-R];exact uW B (q.yC _ _ _) w
         . exact w.elim
        |_=>obtain⟨_,e⟩:=hv;cases e
      |g _ _ _=>exact zK (zH rfl)
      |d=>exact zK (zH rfl)
   |g _ _ _=>exact zK (zH rfl)
   |d=>exact zK (zH rfl)
  |g _ _ _=>exact zK (zH rfl)
  |d=>exact zK (zH rfl)
 |g _ _ _=>exact zK (zH rfl)
 |d=>exact zK (zH rfl)
noncomputable def Mf.nm:Mf->Str
 |.b=>"count"|.a=>"append"|.c=>"extend"|.f=>"pop"|.d=>"index"|.e=>"join"
noncomputable def okM:Mf->Bool
 |.f|.d|.e=>false
 |_=>true
def Z1{f2:Sto->Out Val}(hm:okM f=true)(hs:my a=true)(W:plain b=true)(u:(apos.endLine == cpos.line)=true)(h1:L2.PE X a (tV X.K X.d env s o))(h2:∀S,L2.PE X b (tV X.K X.d env S (f2 S))) :
 L2.PE X (.Call (.Attribute a f.nm apos) [b] [] cpos) (tV X.K X.d env s (o.bind λx S=>((f2 S).bind λv L=>(Out.e [v] L:Out (List Val))).bind λO L=>yk f x O L)):=by
 cases o with
 |e v S=>
  have I:=h2 S;show L2.PE X _ (tV X.K X.d env s (((f2 S).bind λv L=>(Out.e [v] L:Out (List Val))).bind λO L=>yk f v O L));cases hb:f2 S with
  |e w L=>
   rw[hb]at I;show L2.PE X _ (tV X.K X.d env s (yk f v [w] L));cases f with
   |b=>
    by_cases hv:∃O,v=.f O
    . obtain⟨O,rfl⟩:=hv
      refine zV (L2.bJ h1 I (vy hs) (zN W) u) λσ H Q ⟨ρ,hr,er,wt⟩=>⟨ρ,hr,er,λA x H1 G t P=>?_⟩;cases P with
      |m n e q=>
       refine⟨⟨_,_,rfl,e⟩,A,t,er.mono G,λB y Y D r N=>?_⟩;have h:yb X.K X.d (RD X.K X.d) B Y (yk .b (.f O) [w] L) Q:=wt.mono (G.trans t D) r;simp only[yk]at h;split at h
       . rename_i hf
         rw[cf]at hf;have R:=q.mono D;refine⟨_,_,y,rfl,rfl,L2.SqT.of (D.c _ _ e n.1),N.flat hf.1,R.flat hf.2,?_⟩;rw[RDs.countP N hf.1 R hf.2];exact zM r (.l _) h
       . exact h.elim
    . refine zV (L2.nO h1 I (vy hs) (zN W) u) λσ H Q ⟨ρ,hr,er,wt⟩=>⟨ρ,hr,er,λA x H1 G t P=>?_⟩
      have h:yb X.K X.d (RD X.K X.d) A H1 (yk .b v [w] L) Q:=wt.mono G t;have em:yk .b v [w] L=(match yW L v with|some O=>if M.flat w&&O.all M.flat then .e (.c (O.countP λz=>eqF z w:Nat)) L else .d|dS=>.d):=by
       cases v with
       |f O=>exact absurd ⟨O,rfl⟩ hv
       |_=>rfl
      rw[em]at h;cases hl:yW L v with
      |none=>rw[hl]at h;exact h.elim
      |some O=>
       rw[hl]at h
       have ty:L2.tyV X.K "list" x H1:=by
        cases P with
        |E n e q=>exact .inl ⟨rfl,_,.of e⟩
        |C e k=>
         obtain⟨xs,q⟩:=mZ k;exact .inl ⟨rfl,_,.of q⟩
        |_=>cases hl
       refine⟨ty,A,t,er.mono G,λB y Y D r N=>?_⟩;obtain⟨p,xs,rfl,hq,q⟩:=wg r (P.mono D) hl;have J:=h.mono D r;simp only at J;split at J
       . rename_i hf
         rw[cf]at hf;refine⟨_,_,y,rfl,rfl,L2.SqL.of hq,N.flat hf.1,q.flat hf.2,?_⟩;rw[RDs.countP N hf.1 q hf.2];exact zM r (.l _) J
       . exact J.elim
   |a=>
    cases v with
    |j i=>
     refine zV (L2.bI (es:=[]) h1 I (vy hs) (zN W) u) λσ H Q ⟨ρ,hr,er,wt⟩=>⟨ρ,hr,er,λA x H1 G t P=>?_⟩;cases P with
     |C e k=>
      obtain⟨xs,q⟩:=mZ k;refine⟨.inl ⟨rfl,_,.of q⟩,A,t,er.mono G,λB y Y D r N=>?_⟩;have h:yb X.K X.d (RD X.K X.d) B Y (yk .a (.j i) [w] L) Q:=wt.mono (G.trans t D) r;simp only[yk]at h;split at h
      . rename_i O hv
        split at h
        . rename_i hz
          obtain⟨b',ys,e1,T,R⟩:=r.obj i _ hv;have V:=D.get e;rw[V]at e1;cases e1;refine⟨_,ys,y,rfl,rfl,T,by rw[<-R.length,<-yh];exact hz,?_⟩
          exact h _ _ _ (Ext.write r V T _) (r.write V T (R.append (.a N .d))) .p
        . exact h.elim
      . exact h.elim
    |_=>exact zK (zH rfl)
   |c=>
    cases v with
    |j i=>
     have U:Av [b] X.a=(false,eval b X.a)::Av [] X.a:=L2.zd (zN W);have Z:L2.PE X (.Call (.Attribute a "extend" apos) [b] [] cpos) (L2.tBM X.K "list" L2.eZ _ (L2.xJ _ L2.uz)):=L2.eO Dx PySem.F.slot_list_extend PySem.F.type_list_extend L2.cb h1 (L2.pac I L2.yV (zN W)) (vy hs) (by rw[U];rfl) u U rfl
     refine zV Z λσ H Q ⟨ρ,hr,er,wt⟩=>⟨ρ,hr,er,λA x H1 G t P=>?_⟩;cases P with
     |C e k=>
      obtain⟨xs,q⟩:=mZ k;refine⟨.inl ⟨rfl,_,.of q⟩,A,t,er.mono G,λB y Y D r N=>?_⟩;have h:yb X.K X.d (RD X.K X.d) B Y (yk .c (.j i) [w] L) Q:=wt.mono (G.trans t D) r;simp only[yk]at h;split at h
      . rename_i O ws hv hw
        split at h
        . rename_i hz
          obtain⟨b',ys,e1,T,R⟩:=r.obj i _ hv;obtain⟨p,zs,rfl,hq,q3⟩:=wg r N hw;have V:=D.get e;rw[V]at e1;cases e1;refine⟨_,_,ys,zs,rfl,rfl,T,hq,by rw[<-R.length,<-q3.length,<-yh];exact hz,?_⟩
          exact h _ _ _ (Ext.write r V T _) (r.write V T (R.append q3)) .p
        . exact h.elim
      . exact h.elim
    |_=>exact zK (zH rfl)
   |f=>cases hm
   |d=>cases hm
   |e=>cases hm
  |g _ _ _=>exact zK (zH rfl)
  |d=>exact zK (zH rfl)
 |g _ _ _=>exact zK (zH rfl)
 |d=>exact zK (zH rfl)
end
def spN(T:Tbl)(K:KF)(m:Str->Option Value)(n:Nat)(f:Str)(v:Nat):L2.Sp:=λc H Q _=>∃b s a,HR K m b s H/\RDs K m b H a c/\yb K m (RD K m) b H (zC T n f v a s) Q
structure Callee(T:Tbl)(n:Nat)(X:L2.Cx)(f:Str)(ver:Nat)(F:Fn):Prop where
 a:∃fa fd,X.d f=some (.ref fa)/\BS X.K (.ref fa)=true/\L2.Binds X.K fd F.b []/\L2.t8 X.f X.w X.K X.d X.g L2.CX0 n fa fd F.b (spN T X.K X.d n f ver)
def Zx(C:Callee T n X f ver F)(h:L2.xM n X.A)(g:L2.Gl X f)(k:(f == ("__debug__":Str))=false):L2.PE X (.Call (.Name f p) [] [] pos) (tV X.K X.d env s (zC T n f ver [] s)):=by obtain⟨q,o,b,c,l,i⟩:=C.a;exact zV (L2.ky i h g b c l .nil L2.Ug k) λm H Q ⟨ρ,hr,er,wt⟩=>⟨ρ,s,[],hr,.d,wt⟩
def W4(C:Callee T n X f ver F)(i:L2.xM n X.A)(u:L2.Gl X f)(z:(f == ("__debug__":Str))=false)(k:zq j=true)(l:j≠[])(h:L2.PA X j (tVs X.K X.d env s o)) :
 L2.PE X (.Call (.Name f p) j [] pos) (tV X.K X.d env s (o.bind (zC T n f ver))):=by
 obtain⟨E,D,q,t,w,v⟩:=C.a;cases o with
 |e vs s1=>
  cases j with
  |nil=>exact absurd rfl l
  |cons e j=>
   rw[zq,cf]at k;refine zV (L2.lD v i u q t w .nil L2.Ug h z (L2.zd (zN k.1)) (yz k.2)) λy H Q ⟨ρ,hr,er,wt⟩=>⟨ρ,hr,er,λc x B m b r=>?_⟩;show spN T X.K X.d n f ver (x++[]) B Q L2.E0;rw[AJ];exact⟨c,s1,vs,b,r,wt.mono m b⟩
 |g _ _ _=>exact zK (zH rfl)
 |d=>exact zK (zH rfl)
def xt:∀{c} {p},(c=true->p)->cond c p True
 |true,_,h=>h rfl
 |false,_,_=>A5
def qi(h:cond c p True)(e:c=true):p:=by subst e;exact h
mutual
theorem Qe:∀(a b:Val),cond (a.beq b) (a=b) True
 |.h,b=>by cases b<;>first|exact(rfl:Val.h=Val.h)|exact A5
 |.e x,b=>by cases b with|e y=>exact xt λh=>congrArg Val.e (Cb (show (x == y)=true from h))|_=>exact A5
 |.c x,b=>by cases b with|c y=>exact xt λh=>congrArg Val.c (Cb (show (x == y)=true from h))|_=>exact A5
 |.m x,b=>by cases b with|m y=>exact xt λh=>congrArg Val.m (Cb (show (x == y)=true from h))|_=>exact A5
 |.f x,b=>by cases b with|f y=>exact xt λh=>congrArg Val.f (qi (mE x y) h)|_=>exact A5
 |.g x,b=>by cases b with|g y=>exact xt λh=>congrArg Val.g (qi (mE x y) h)|_=>exact A5
 |.p,b=>by cases b<;>first|exact(rfl:Val.p=Val.p)|exact A5
 |.o x,b=>by cases b with|o y=>exact xt λh=>congrArg Val.o (Cb (show (x == y)=true from h))|_=>exact A5
 |.r x,b=>by cases b with|r y=>exact xt λh=>congrArg Val.r (Cb (show (x == y)=true from h))|_=>exact A5
 |.j x,b=>by cases b with|j y=>exact xt λh=>congrArg Val.j (Cb (show (x == y)=true from h))|_=>exact A5
 |.t x,b=>by cases b with|t y=>exact xt λh=>congrArg Val.t (Cb (show (x == y)=true from h))|_=>exact A5
 |.u x,b=>by cases b with|u y=>exact xt λh=>congrArg Val.u (Cb (show (x == y)=true from h))|_=>exact A5
 |.q x,b=>by cases b with|q y=>exact xt λh=>congrArg Val.q (Cb (show (x == y)=true from h))|_=>exact A5
 |.s x k,b=>by cases b with|s y l=>exact xt λh=>(by rw[show Val.beq (.s x k) (.s y l)=(x == y&&k == l) from rfl,cf]at h;rw[Cb h.1,Cb h.2])|_=>exact A5
theorem mE:∀(a b:List Val),cond (rC a b) (a=b) True
 |[],[]=>(rfl:([]:List Val)=[])
 |[],_::_=>A5
 |_::_,[]=>A5
 |x::xs,y::ys=>xt λh=>by have h:(x.beq y&&rC xs ys)=true:=h;rw[cf]at h;rw[qi (Qe x y) h.1,qi (mE xs ys) h.2]
end
def sH(h:rC a b=true):a=b:=qi (mE a b) h
mutual
theorem beq_refl:∀a:Val,a.beq a=true
 |.h=>rfl
 |.e x=>(beq_self_eq_true x:(x == x)=true)
 |.c x=>(beq_self_eq_true x:(x == x)=true)
 |.m x=>(beq_self_eq_true x:(x == x)=true)
 |.f x=>vN x
 |.g x=>vN x
 |.p=>rfl
 |.o x=>(beq_self_eq_true x:(x == x)=true)
 |.r x=>(beq_self_eq_true x:(x == x)=true)
 |.j x=>(beq_self_eq_true x:(x == x)=true)
 |.t x=>(beq_self_eq_true x:(x == x)=true)
 |.u x=>(beq_self_eq_true x:(x == x)=true)
 |.q x=>(beq_self_eq_true x:(x == x)=true)
 |.s x k=>(by rw[show Val.beq (.s x k) (.s x k)=(x == x&&k == k) from rfl,beq_self_eq_true,beq_self_eq_true];rfl)
theorem vN:∀a:List Val,rC a a=true
 |[]=>rfl
 |x::xs=>by rw[rC,beq_refl x,vN xs];rfl
end
section
variable {K:KF}{mg:Str->Option Value}
def Mv.refl:Mv ρ H ρ H:=⟨λa o e n=>⟨e,n⟩,λi a e=>e,λ_ _=>rfl⟩
theorem Mv.trans(x:Mv ρ H ρ1 H1)(y:Mv ρ1 H1 ρ2 H2):Mv ρ H ρ2 H2:=
 ⟨λa o e n=>y.b a o (x.b a o e n).1 (x.b a o e n).2,λi a e=>y.c i a (x.c i a e),λa h=>by obtain⟨i,f⟩:=E9 h;exact(y.d a (AH (x.c i a f))).trans (x.d a h)⟩
structure Walk(K:KF)(mg:Str->Option Value)(ρ:Own)(H:L2.Hp)(r:Src)(J:L2.It):Prop where
 b:r.a.length<=zO
 c:∀(ρ2:Own) (H2:L2.Hp) (s2:Sto) (i:Nat) (v:Val),Mv ρ H ρ2 H2->HR K mg ρ2 s2 H2->r.ok s2=true->r.a[i]?=some v->J.c i H2/\∀x H3,J.b i H2 x H3->(H3=H2\/∃p o,H2 p=none/\H3=L2.upd H2 p o)/\RD K mg ρ2 H3 v x
 a:∀(ρ2:Own) (H2:L2.Hp) (s2:Sto) (i:Nat),Mv ρ H ρ2 H2->HR K mg ρ2 s2 H2->r.ok s2=true->i=r.a.length->J.a i H2
def Walk.mv(w:Walk K mg ρ H r J)(x:Mv ρ H ρ1 H1):Walk K mg ρ1 H1 r J:=
 ⟨w.b,λd A s i v y=>w.c d A s i v (x.trans y),λd A s i y=>w.a d A s i (x.trans y)⟩
def aK(H:L2.Hp):Prop:=∀a x,(H a=some (.c x)\/H a=some (.b x))->x.length<=Ao
def sT(h:L2.PI X tg it wi):L2.PI X tg it (λy H R=>wi y H λJ F=>aK F->R J F):=λp s y H R I q=>
 L2.thn (h p s y H _ I q) λv m l=>L2.thn l λk g ⟨i,fp,tn,J,H',e,I',T,t0,f,r⟩=>⟨i,fp,tn,J,H',e,I',T,t0,f,r λa x d=>by
  rcases d with d|d
  . obtain⟨z,_⟩:=(show L2.yA X.f X.w H' g.heap a (.c x) from I'.j a _ d);exact z
  . obtain⟨z,_⟩:=(show L2.yA X.f X.w H' g.heap a (.b x) from I'.j a _ d);exact z⟩
def Xw(k:vs.length<=zO)(n:ρ.no a)(e:H a=some (.c xs))(q:RDs K mg ρ H vs xs):Walk K mg ρ H ⟨vs,none⟩ (L2.Itt K a) where
 b:=k
 c:=λd A s i v x m _ l=>by have f:=(x.b a _ e n).1;have g:=RDs.mv x q;obtain⟨y,h,p⟩:=g.get l;refine⟨⟨xs,y,.of f,h⟩,λz B ⟨e3,h3⟩=>⟨.inl e3,?_⟩⟩;subst e3;have:=h3 xs (.of f);rw[h]at this;cases this;exact p
 a:=λd A s i x m _ o=>⟨xs,.of (x.b a _ e n).1,by rw[<-q.length];exact Fb o.symm⟩
def Xu(k:vs.length<=zO)(n:ρ.no a)(e:H a=some (.b xs))(q:RDs K mg ρ H vs xs):Walk K mg ρ H ⟨vs,none⟩ (L2.Itl K a) where
 b:=k
 c:=λd A s i v x m _ l=>by have f:=(x.b a _ e n).1;have g:=RDs.mv x q;obtain⟨y,h,p⟩:=g.get l;refine⟨⟨xs,y,.of f,h⟩,λz B ⟨e3,h3⟩=>⟨.inl e3,?_⟩⟩;subst e3;have:=h3 xs (.of f);rw[h]at this;cases this;exact p
 a:=λd A s i x m _ o=>⟨xs,.of (x.b a _ e n).1,by rw[<-q.length];exact Fb o.symm⟩
def bq{g:List Int}(k:KT K a (g.map L2.V.d)):Walk K mg ρ H ⟨g.map .c,none⟩ (L2.Itt K a) where
 b:=by obtain⟨o,l,n,_,_,_,t,r⟩:=k;have:=r.length;simp only[rt,Dv]at this;show (g.map Val.c).length<=_;rw[rt,yh,this];exact t
 c:=λf A s i v x p _ m=>by obtain⟨y,h,u⟩:=(RDs.ints (K:=K) (mg:=mg) (ρ:=f) (H:=A) g).get m;refine⟨⟨_,y,k.sqt,h⟩,λz B ⟨e3,h3⟩=>⟨.inl e3,?_⟩⟩;subst e3;have:=h3 _ k.sqt;rw[h]at this;cases this;exact u
 a:=λf A s i x p _ q=>⟨_,k.sqt,by rw[rt];rw[q];simp⟩
def Xv(n:vs.length<=zO)(e:ρ.o[i0]?=some a):Walk K mg ρ H ⟨vs,some i0⟩ (L2.Itl K a) where
 b:=n
 c:=λk A s i v x l h p=>by
  simp only[Src.ok]at h;split at h
  . rename_i ws hw
    cases sH h;obtain⟨b,f,d,g,q⟩:=l.obj i0 _ hw;rw[x.c _ _ e]at d;cases d;obtain⟨y,m,t⟩:=q.get p;refine⟨⟨f,y,.of g,m⟩,λz B ⟨e3,h3⟩=>⟨.inl e3,?_⟩⟩;subst e3;have:=h3 f (.of g);rw[m]at this;cases this;exact t
  . cases h
 a:=λk A s i x l h r=>by
  simp only[Src.ok]at h;split at h
  . rename_i ws hw
    cases sH h;obtain⟨b,f,d,g,q⟩:=l.obj i0 _ hw;rw[x.c _ _ e]at d;cases d;exact⟨f,.of g,by rw[<-q.length];exact Fb r.symm⟩
  . cases h
def XA:(yI lo n)[i]?=if i<n then some (.c (lo+i)) else none:=by
 unfold yI;rw[AZ];by_cases h:i<n
 . rw[if_pos h,List.getElem?_range h];rfl
 . rw[if_neg h,List.getElem?_eq_none (by rw[Bl];omega)];rfl
def jN:(yI lo n).length=n:=by unfold yI;rw[rt,Bl]
def jk(g:n<=zO):Walk K mg ρ H ⟨yI lo n,none⟩ (L2.Itr lo n) where
 b:=by show (yI lo n).length<=_;rw[jN];exact g
 c:=λd A s i v x m _ k=>by
  have h:(yI lo n)[i]?=some v:=k;rw[XA]at h;split at h
  . rename_i f
    cases h;refine⟨f,λz B ⟨e3,h3⟩=>⟨.inl e3,?_⟩⟩;subst h3;exact .l _
  . cases h
 a:=λd A s i x m _ f=>by have:i=(yI lo n).length:=f;rw[jN]at this;exact Fb this.symm
theorem rG:∀{vs} {n i:Nat},(yJ n vs)[i]?=(vs[i]?).map λv=>.f [.c ((n+i:Nat):Int),v]
 |[],_,_=>rfl
 |v::vs,n,0=>rfl
 |v::vs,n,i+1=>by show (yJ (n+1) vs)[i]?=(vs[i]?).map _;rw[rG];rw[show n+1+i=n+(i+1) by omega]
theorem vS:∀{vs} {n},(yJ n vs).length=vs.length
 |[],_=>rfl
 |v::vs,n=>by show (yJ (n+1) vs).length+1=_;rw[vS];rfl
def br(r:vs.length<=zO)(n:ρ.no a)(e:H a=some (.c xs))(q:RDs K mg ρ H vs xs):Walk K mg ρ H ⟨yJ 0 vs,none⟩ (L2.Ite K a) where
 b:=by show (yJ 0 vs).length<=_;rw[vS];exact r
 c:=λf C s i v x g _ u=>by have o:=(x.b a _ e n).1;have p:=RDs.mv x q;have h:(yJ 0 vs)[i]?=some v:=u;rw[rG,Bc]at h;obtain⟨w,B,rfl⟩:=h;obtain⟨y,k,A⟩:=p.get B;refine⟨⟨xs,y,.of o,k⟩,λz D ⟨t,y',ht,e3,h3,e4⟩=>⟨.inr ⟨t,_,ht,e4⟩,?_⟩⟩;subst e3 e4;have:=h3 xs (.of o);rw[k]at this;cases this;have X:=Ext.new g ht (.c [.d ((i:Nat):Int),y]);refine .m (g.new ht) L2.zJ (.a ?_ (.a (A.mono X) .d));rw[Gn];exact .l _
 a:=λf C s i x g _ j=>⟨xs,.of (x.b a _ e n).1,by rw[<-q.length,j];exact vS.symm⟩
def fA(r:vs.length<=zO)(n:ρ.no a)(e:H a=some (.b xs))(q:RDs K mg ρ H vs xs):Walk K mg ρ H ⟨yJ 0 vs,none⟩ (L2.Uy K a) where
 b:=by show (yJ 0 vs).length<=_;rw[vS];exact r
 c:=λf C s i v x g _ u=>by have o:=(x.b a _ e n).1;have p:=RDs.mv x q;have h:(yJ 0 vs)[i]?=some v:=u;rw[rG,Bc]at h;obtain⟨w,B,rfl⟩:=h;obtain⟨y,k,A⟩:=p.get B;refine⟨⟨xs,y,.of o,k⟩,λz D ⟨t,y',ht,e3,h3,e4⟩=>⟨.inr ⟨t,_,ht,e4⟩,?_⟩⟩;subst e3 e4;have:=h3 xs (.of o);rw[k]at this;cases this;have X:=Ext.new g ht (.c [.d ((i:Nat):Int),y]);refine .m (g.new ht) L2.zJ (.a ?_ (.a (A.mono X) .d));rw[Gn];exact .l _
 a:=λf C s i x g _ j=>⟨xs,.of (x.b a _ e n).1,by rw[<-q.length,j];exact vS.symm⟩
def tI(c:Env)(s:Sto)(o:Out Src):L2.TI:=λd H R=>∃b,HR K mg b s H/\ER K mg b H c d/\(match o with
 |.e r s'=>∀a A J,Ext b H a A->HR K mg a s' A->Walk K mg a A r J->R J A
 |_=>False)
end
section
variable {X:L2.Cx}{env:Env}{s:Sto}{a b tg:Expr}
def tm{t a:L2.TI}(h:L2.PI X tg it t)(i:∀e H R,a e H R->t e H R):L2.PI X tg it a:=λp s e H R I q=>h p s e H R I (i e H R q)
def yZ{o:Out Src}(h:∀v j,o≠.e v j):L2.PI X tg it (tI (K:=X.K) (mg:=X.d) env s o):=λp c a H R I q=>by
 obtain⟨b,_,_,w⟩:=q;cases o with
 |e v j=>exact(h v j rfl).elim
 |g _ _ _=>exact w.elim
 |d=>exact w.elim
def aK.of(z:aK H){a}(q:RDs K mg ρ H vs xs)(h:H a=some (.c xs)\/H a=some (.b xs)):vs.length<=zO:=by rw[q.length,yh];exact z a xs h
def SK{o:Out Val}(h:L2.PE X a (tV X.K X.d env s o)):L2.PI X tg a (tI (K:=X.K) (mg:=X.d) env s (o.bind λv u=>match srcOf u v with|some r=>.e r u|dS=>.d)):=by
 cases o with
 |e v u=>
  show L2.PI X tg a (tI (K:=X.K) (mg:=X.d) env s (match srcOf u v with|some r=>.e r u|dS=>.d))
  cases v with
  |f vs=>
   refine tm (sT (L2.Yv h)) λy H R ⟨ρ,hr,er,w⟩=>⟨ρ,hr,er,λl x A p b t=>?_⟩;cases t with
   |m n e q=>exact⟨_,rfl,⟨_,.of e⟩,λz=>w l A _ p b (Xw (z.of q (.inl e)) n e q)⟩
  |g vs=>
   refine tm (sT (L2.eT h)) λy H R ⟨ρ,hr,er,w⟩=>⟨ρ,hr,er,λl x A p b t=>?_⟩;cases t with
   |E n e q=>exact⟨_,rfl,⟨_,.of e⟩,λz=>w l A _ p b (Xu (z.of q (.inr e)) n e q)⟩
  |o ns=>
   refine tm (L2.Yv h) λy H R ⟨ρ,hr,er,w⟩=>⟨ρ,hr,er,λl x A p b t=>?_⟩;cases t with
   |s k=>exact⟨_,rfl,⟨_,k.sqt⟩,w l A _ p b (bq k)⟩
  |j i=>
   simp only[srcOf];cases hs:u[i]? with
   |none=>exact yZ (zH rfl)
   |some cl=>
    cases cl with
    |c vs=>
     refine tm (sT (L2.eT h)) λy H R ⟨ρ,hr,er,w⟩=>⟨ρ,hr,er,λl x A p b t=>?_⟩;cases t with
     |C e=>
      obtain⟨I,G,D,B,q⟩:=b.obj i _ hs;rw[e]at D;cases D;exact⟨_,rfl,⟨_,.of B⟩,λz=>w l A _ p b (Xv (z.of q (.inr B)) e)⟩
    |_=>exact yZ (zH rfl)
  |_=>exact yZ (zH rfl)
 |g _ _ _=>exact yZ (zH rfl)
 |d=>exact yZ (zH rfl)
def cF{o:Out Val}{p f:Pos}(m:plain a=true)(u:L2.Gl X "range")(t:X.d "range"=none)(h:L2.PE X a (tV X.K X.d env s o)) :
 L2.PI X tg (.Call (.Name "range" p) [a] [] f) (tI (K:=X.K) (mg:=X.d) env s (o.bind λx k=>match x with
  |.c j=>if -(2 ^ 62)<=j/\j<=zO then .e ⟨yI 0 j.toNat,dS⟩ k else .d
  |_=>.d)):=by
 cases o with
 |e v k=>
  have q:Av [a] X.a=[(false,eval a X.a)]:=L2.zd (zN m);refine tm (L2.bN u t (L2.pac h L2.yV (zN m)) q) λz H R ⟨ρ,hr,er,w⟩=>⟨ρ,hr,er,λb x A n i r=>?_⟩;cases r with
  |l j=>
   simp only[zT]at w;by_cases hz:-(2 ^ 62)<=j/\j<=zO
   . rw[if_pos hz]at w
     have y:(zO:Int)<2 ^ 62:=by decide
     exact⟨j,rfl,hz.1,⋯,w b A _ n i (jk ⋯)⟩
   . rw[if_neg hz]at w;exact w.elim
  |_=>exact w.elim
 |g _ _ _=>exact yZ (zH rfl)
 |d=>exact yZ (zH rfl)
def cH{o:Out Val}{z:Sto->Out Val}{p t:Pos}(C:plain a=true)(m:plain b=true)(N:L2.Gl X "range")(J:X.d "range"=none)(h:L2.PE X a (tV X.K X.d env s o))(P:∀F,L2.PE X b (tV X.K X.d env F (z F))) :
 L2.PI X tg (.Call (.Name "range" p) [a,b] [] t) (tI (K:=X.K) (mg:=X.d) env s (o.bind λx F=>(z F).bind λy B=>match x,y with
  |.c i,.c j=>if -(2 ^ 62)<=i/\i<2 ^ 62∧-(2 ^ 62)<=j/\j<2 ^ 62/\j-i<=zO then .e ⟨yI i (j-i).toNat,dS⟩ B else .d
  |_,_=>.d)):=by
 cases o with
 |e v F=>
  have n:=P F;simp only[zT];cases hb:z F with
  |e w B=>
   rw[hb]at n;have f:Av [b] X.a=[(false,eval b X.a)]:=L2.zd (zN m);have E:Av [a,b] X.a=[(false,eval a X.a),(false,eval b X.a)]:=by rw[L2.zd (zN C),f]
   refine tm (L2.bO N J (L2.pac h (L2.pac n L2.yV (zN m)) (zN C)) E f) λT H R ⟨ρ,hr,er,wt⟩=>⟨ρ,hr,er,λr x V A k I=>⟨r,k,er.mono A,λq y Q D u G=>?_⟩⟩;simp only[zT]at wt;cases I with
   |l i=>
    cases G with
    |l j=>
     simp only at wt;by_cases hz:-(2 ^ 62)<=i/\i<2 ^ 62∧-(2 ^ 62)<=j/\j<2 ^ 62/\j-i<=zO
     . rw[if_pos hz]at wt
       exact⟨i,j,rfl,⟨hz.1,hz.2.1,hz.2.2.1,hz.2.2.2.1⟩,wt q Q _ (A.trans k D) u (jk ⋯)⟩
     . rw[if_neg hz]at wt;exact wt.elim
    |_=>exact wt.elim
   |_=>exact wt.elim
  |g _ _ _=>exact yZ (zH rfl)
  |d=>exact yZ (zH rfl)
 |g _ _ _=>exact yZ (zH rfl)
 |d=>exact yZ (zH rfl)
def W7{D:List Expr}{k:Nat}{o:Out Val}{p l u:Pos}(t:plain a=true)(C:L2.Gl X "enumerate")(B:X.d "enumerate"=none)(h:L2.PE X a (tV X.K X.d env s o)) :
 L2.PI X (.Tuple D k u) (.Call (.Name "enumerate" p) [a] [] l) (tI (K:=X.K) (mg:=X.d) env s (o.bind λv i=>match v with
  |.f vs=>.e ⟨yJ 0 vs,dS⟩ i
  |.g vs=>.e ⟨yJ 0 vs,dS⟩ i
  |_=>.d)):=by
 cases o with
 |e v i=>
  have j:Av [a] X.a=[(false,eval a X.a)]:=L2.zd (zN t);refine tm (sT (L2.Vf C B (L2.pac h L2.yV (zN t)) j)) λG H R ⟨ρ,hr,er,w⟩=>⟨ρ,hr,er,λb x A r c y=>?_⟩;cases y with
  |m n e q=>exact⟨_,rfl,.inl ⟨⟨_,.of e⟩,λz=>w b A _ r c (br (z.of q (.inl e)) n e q)⟩⟩
  |E n e q=>exact⟨_,rfl,.inr ⟨⟨_,.of e⟩,λz=>w b A _ r c (fA (z.of q (.inr e)) n e q)⟩⟩
  |_=>exact w.elim
 |g _ _ _=>exact yZ (zH rfl)
 |d=>exact yZ (zH rfl)
end
def oM(K:KF)(m:Str->Option Value)(t:Tgt)(g:L2.TG):Prop:=∀(ρ:Own) (s:Sto) (H:L2.Hp) (v:Val) (x:L2.V) (b e:Env) (σ:L2.St) (Q:L2.St->L2.Hp->Prop),HR K m ρ s H->RD K m ρ H v x->ER K m ρ H b σ->xj t v b=some e ->
 (∀a,ER K m ρ H e a->Q a H)->g x σ H Q
def dC:oM K mg (.a i) (L2.wH i):=λg s H v x d b f Q h r c e q=>by
 cases e;exact q _ (c.set i r)
def qu:List Nat->L2.TGs
 |[]=>L2.Qt
 |i::is=>L2.UP (L2.wH i) (qu is)
theorem nM:∀{is} {vs} {xs} {env} {σ},RDs K mg ρ H vs xs->ER K mg ρ H env σ->vs.length=is.length ->
 (∀j,ER K mg ρ H ((is.zip vs).foldl (λe p=>e.set p.1 (some p.2)) env) j->Q j H)->qu is xs σ H Q
 |[],[],_,env,σ,.d,er,_,q=>⟨rfl,q σ er⟩
 |[],_::_,_,_,_,_,_,h,_=>by cases h
 |_::_,[],_,_,_,_,_,h,_=>by cases h
 |i::is,v::vs,x::xs,env,σ,.a r rs,er,h,q=>⟨x,xs,rfl,nM rs (er.set i r) (by simpa using h) q⟩
def jh:oM K mg (.b is) (L2.Tb K is.length (qu is)):=λh s H v x f c g Q i r d e q=>by
 simp only[xj]at e;split at e
 . split at e
   . rename_i hl
     cases e;cases r with
     |m n e a=>exact⟨_,_,rfl,.of e,by rw[<-a.length];exact hl,nM a d hl q⟩
   . cases e
 . cases e
noncomputable def sF(s:Scope)(N:List Str):List Nat->List Expr->Bool
 |[],[]=>true
 |i::is,.Name x _::es=>decide (N[i]?=some x)&&(decide (s.names.lookup x=some .local)||decide (s.names.lookup x=some .cell))&&sF s N is es
 |_,_=>false
def ckT(s:Scope)(N:List Str):Tgt->Expr->Bool
 |.a i,.Name x _=>decide (N[i]?=some x)&&(decide (s.names.lookup x=some .local)||decide (s.names.lookup x=some .cell))
 |.b is,.Tuple es _ _=>sF s N is es&&decide (es≠[])
 |_,_=>false
section
variable {X:L2.Cx}
structure Scp(sc:Scope)(N:List Str)(X:L2.Cx):Prop where
 b:X.N=N
 d:N.Nodup
 e:∀x,sc.names.lookup x=some .local\/sc.names.lookup x=some .cell\/sc.names.lookup x=some .free->L2.Vis X.a.scope x
 c:∀x,sc.names.lookup x=some .local\/sc.names.lookup x=some .cell->L2.Loc X.a.scope x/\(X.n x=true\/X.a.scope.names.lookup x=some .local)
 a:∀x,sc.names.lookup x=some .globalImplicit->L2.Gl X x
 f:∀x,sc.names.lookup x=some .cell\/sc.names.lookup x=some .free->X.a.kindOf x=some .cell\/X.a.kindOf x=some .free
def eQ(S:Scp sc N X)(f:N[i]?=some x)(h:sc.names.lookup x=some .local\/sc.names.lookup x=some .cell):L2.PG X (.Name x p) (L2.wH i):=by obtain⟨a,b⟩:=S.c x h;exact L2.Vd (by rw[S.b];exact S.d) (by rw[S.b];exact f) a b
theorem uu(S:Scp sc N X):∀{is} {es},sF sc N is es=true->L2.PGs X es (qu is)/\(Dc es X.a).length=is.length/\(Dc es X.a).findIdx? (·.1)=none
 |[],[],_=>⟨L2.Ve,rfl,rfl⟩
 |[],_::_,h=>by cases h
 |_::_,[],h=>by cases h
 |i::is,e::es,h=>by
  cases e with
  |Name x p=>
   simp only[sF,cf,AN,decide_eq_true_eq]at h;obtain⟨a,b,c⟩:=uu S h.2;refine⟨L2.Yu (eQ S h.1.1 h.1.2) a,?_,?_⟩
   . show (Dc es X.a).length+1=is.length+1
     rw[b]
   . show List.findIdx? (·.1) ((false,assign (.Name x p) X.a)::Dc es X.a)=none
     rw[List.findIdx?_cons];simp only[Bn,if_false];rw[c];rfl
  |_=>cases h
def OH(S:Scp sc N X)(f:X.j=true)(h:ckT sc N t e=true):∃g,L2.PG X e g/\oM X.K X.d t g:=by
 cases t with
 |a i=>
  cases e with
  |Name x p=>
   simp only[ckT,cf,AN,decide_eq_true_eq]at h;exact⟨_,eQ S h.1 h.2,dC⟩
  |_=>cases h
 |b l=>
  cases e with
  |Tuple m k p=>
   simp only[ckT,cf,decide_eq_true_eq]at h;obtain⟨a,b,c⟩:=uu S h.1;exact⟨_,L2.gG f a b c,jh⟩
  |_=>cases h
end
structure Lp(acc:Addr)(ρ:Own)(H:L2.Hp)(ρ':Own)(H':L2.Hp):Prop where
 f:∃new:List Addr,ρ'.o=ρ.o++new/\∀a∈new,H a=none
 c:ρ'.h=acc::ρ.h
 d:∀(a:Addr) (o:L2.HO),H a=some o->a ∉ ρ.o->H' a=some o
 g:∀a∈ρ.o,hk (H' a)=hk (H a)
section
variable {K:KF}{mg:Str->Option Value}{ρ ρ1 ρ2:Own}{H H1 H2:L2.Hp}{s s1:Sto}{acc:Addr}
noncomputable def Own.hide(ρ:Own)(acc:Addr):Own:=⟨ρ.o,acc::ρ.h⟩
def mY(b:HR K mg ρ s H)(h:H acc=none)o:Mv ρ H (ρ.hide acc) (L2.upd H acc o):=
 ⟨λa u e n=>⟨by rw[L2.zG (L2.zR e h)];exact e,n.1,λc=>by
  rcases Al.mp c with z|z
  . exact L2.zR e h z
  . exact n.2 z⟩,λi a e=>e,λa d=>by rw[L2.zG λz=>(b.new h).1 (by rw[<-z];exact d)]⟩
theorem HR.hide(h:HR K mg ρ s H)(b:H acc=none)(o:Hid):HR K mg (ρ.hide acc) s (L2.upd H acc o.o):=by
 refine⟨h.f,h.v,λi c e=>?_,λa g=>?_⟩
 . obtain⟨a,l,q⟩:=h.m i c e
   obtain⟨o,k⟩:=q.there;exact⟨a,l,q.mv (mY h b _) (L2.zG (L2.zR k b))⟩
 . rcases Al.mp g with z|z
   . subst z;exact⟨⟨o,L2.zJ⟩,(h.new b).1⟩
   . obtain⟨⟨y,e⟩,n⟩:=h.d a z
     exact⟨⟨y,by rw[L2.zG (L2.zR e b)];exact e⟩,n⟩
def Lp.start(b:HR K mg ρ s H)(h:H acc=none)o:Lp acc ρ H (ρ.hide acc) (L2.upd H acc o):=
 ⟨⟨[],by simp[Own.hide],λa c=>by cases c⟩,rfl,λa u e _=>by rw[L2.zG (L2.zR e h)];exact e,(mY b h o).d⟩
def Lp.step(l:Lp acc ρ H ρ1 H1)(s:HR K mg ρ1 s1 H1)(x:Ext ρ1 H1 ρ2 H2):Lp acc ρ H ρ2 H2:=by
 obtain⟨p,m,r⟩:=l.f;obtain⟨i,t,k⟩:=x.d;refine⟨⟨p++i,by rw[t,m,A0],λa h=>?_⟩,x.f.trans l.c,λa o e n=>x.c a o (l.d a o e n) ?_,λa h=>(x.g a (by rw[m];exact Br _ h)).trans (l.g a h)⟩
 . rcases Ba.mp h with h|h
   . exact r a h
   . cases q:H a with
     |none=>rfl
     |some o=>
      by_cases b:a∈ρ.o
      . obtain⟨u,e⟩:=s.trk (a:=a) (by rw[m];exact Br _ b)
        rw[k a h]at e;cases e
      . have:=l.d a o q b
        rw[k a h]at this;cases this
 . rw[m]
   intro b;rcases Ba.mp b with b|b
   . exact n b
   . rw[r a b]at e;cases e
def Lp.emit(l:Lp acc ρ H ρ1 H1)(i:HR K mg ρ1 s1 H1)(k:H acc=none)o:Lp acc ρ H ρ1 (L2.upd H1 acc o):=
 ⟨l.f,l.c,λa u e n=>by rw[L2.zG (L2.zR e k)];exact l.d a u e n,λa h=>by
  obtain⟨b,m,_⟩:=l.f;rw[L2.zG λz=>(i.d acc (by rw[l.c];exact Ar)).2 (by rw[<-z,m];exact Br _ h)]
  exact l.g a h⟩
def Lp.here(l:Lp acc ρ H ρ1 H1):acc∈ρ1.h:=by rw[l.c];exact Ar
def mP(c:HR K mg ρ1 s1 H1)(b:acc∈ρ1.h)o:Mv ρ1 H1 ρ1 (L2.upd H1 acc o):=
 ⟨λa u e n=>⟨by rw[L2.zG (λz=>n.2 (by rw[z];exact b))];exact e,n⟩,λi a e=>e,λa h=>by rw[L2.zG λz=>(c.d acc b).2 (by rw[<-z];exact h)]⟩
def HR.emit(b:HR K mg ρ1 s1 H1)(k:acc∈ρ1.h)(o:Hid):HR K mg ρ1 s1 (L2.upd H1 acc o.o):=by
 have g:=(b.d acc k).2;refine⟨b.f,b.v,λi c e=>?_,λa p=>?_⟩
 . obtain⟨a,l,q⟩:=b.m i c e
   exact⟨a,l,q.mv (mP b k _) (L2.zG (λz=>g (by rw[<-z];exact AH l)))⟩
 . obtain⟨⟨y,e⟩,n⟩:=b.d a p
   by_cases z:a=acc
   . subst z;exact⟨⟨o,L2.zJ⟩,n⟩
   . exact⟨⟨y,by rw[L2.zG z];exact e⟩,n⟩
def Lp.drop(l:Lp acc ρ H ρ1 H1)(b:HR K mg ρ1 s1 H1):Ext ρ H ⟨ρ1.o,ρ.h⟩ H1/\HR K mg ⟨ρ1.o,ρ.h⟩ s1 H1/\Mv ρ1 H1 ⟨ρ1.o,ρ.h⟩ H1:=by
 have k:Mv ρ1 H1 ⟨ρ1.o,ρ.h⟩ H1:=⟨λa u e n=>⟨e,n.1,λz=>n.2 (by rw[l.c];exact Af _ z)⟩,λi a e=>e,λ_ _=>rfl⟩
 refine⟨⟨l.f,rfl,l.d,l.g⟩,⟨b.f,b.v,λi w e=>?_,λa p=>?_⟩,k⟩
 . obtain⟨a,q,t⟩:=b.m i w e
   exact⟨a,q,t.mv k rfl⟩
 . exact b.d a (by rw[l.c];exact Af _ p)
def Lp.done(l:Lp acc ρ H ρ1 H1)(Y:HR K mg ρ s H)(R:H acc=none)(r:HR K mg ρ1 s1 H1)(e:H1 acc=some (.b ys))(q:RDs K mg ρ1 H1 vs ys)(w:yb K mg (RD K mg) ρ H (newList m vs s1) Q):Q (.c acc) H1:=by
 have T:=l.here;have p:=(r.d acc T).2;have A:=(Y.new R).2;cases m with
 |false=>
  obtain⟨x,G,y⟩:=l.drop r;exact w ⟨ρ1.o,ρ.h⟩ _ H1 x G (.E ⟨p,A⟩ e (RDs.mv y q))
 |true=>
  have y:Mv ρ1 H1 ⟨ρ1.o++[acc],ρ.h⟩ H1:=by
   refine⟨λa u e n=>⟨e,λk=>?_,λz=>n.2 (by rw[l.c];exact Af _ z)⟩,λi a e=>?_,λ_ _=>rfl⟩
   . rcases Ba.mp k with k|k
     . exact n.1 k
     . rw[Ap.mp k]at n;exact n.2 T
   . show (ρ1.o++[acc])[i]?=_
     rw[AS (Ax.mp e).1];exact e
  have P:(ρ1.o++[acc])[s1.length]?=some acc:=by rw[<-r.f,A3 (Ac _)];simp
  refine w ⟨ρ1.o++[acc],ρ.h⟩ _ H1 ⟨?_,rfl,l.d,l.g⟩ ⟨?_,?_,λi V j=>?_,λa k=>?_⟩ (.C P (by rw[e];rfl))
  . obtain⟨D,N,B⟩:=l.f
    refine⟨D++[acc],by show ρ1.o++[acc]=_;rw[N,A0],λa k=>?_⟩
    rcases Ba.mp k with k|k
    . exact B a k
    . rw[Ap.mp k];exact R
  . show (ρ1.o++[acc]).length=(s1++[Cel.c vs]).length
    rw[Ah,Ah,r.f];rfl
  . show (ρ1.o++[acc]).Nodup
    rw[FU];exact⟨r.v,by simp,λa J b X=>by rw[Ap.mp X];intro z;subst z;exact p J⟩
  . by_cases hi:i<s1.length
    . rw[AS hi]at j
      obtain⟨a,N,t⟩:=r.m i V j;exact⟨a,y.c i a N,t.mv y rfl⟩
    . have I:i=s1.length:=by have:=(Ax.mp j).1;rw[Ah]at this;simp at this;omega
      subst I;rw[A3 (Ac _)]at j;simp at j;subst j;exact⟨acc,P,ys,e,RDs.mv y q⟩
  . obtain⟨x,n⟩:=r.d a (by rw[l.c];exact Af _ k)
    refine⟨x,λz=>?_⟩;rcases Ba.mp z with z|z
    . exact n z
    . rw[Ap.mp z]at k;exact A k
end
section
variable {K:KF}{mg:Str->Option Value}
def kI{J:L2.It}{g:L2.TG}{t:L2.TS}{D:L2.Ends}(P:Nat->L2.St->L2.Hp->Prop)(o:P 0 σ H)(l:∀σ H,P n σ H->J.a n H/\D.a σ H)
 (k:∀i σ H,i<n->P i σ H->J.c i H/\∀x F,J.b i H x F->g x σ F λj L=>t {D with a:=P (i+1),d:=P (i+1),c:=D.a} j L):L2.pY J g t D σ H:=by
 refine⟨λi m σ H=>m=n-i/\i<=n/\P i σ H,⟨n,by simp,Be _,o⟩,?_⟩
 rintro i m σ H ⟨rfl,q,p⟩;by_cases hlt:i<n
 . obtain⟨a,b⟩:=k i σ H hlt p
   exact .inr ⟨a,P (i+1),λf F h=>⟨n-(i+1),⋯,rfl,hlt,h⟩,b⟩
 . have e:i=n:=by omega
   subst e;exact .inl (l σ H p)
structure Acc(K:KF)(mg:Str->Option Value)(acc:Addr) where
 A:Own->L2.Hp->List Val->Prop
 B:List Val->Prop
 d:∀{a b},B (a++b)->B a
 mv:∀{ρ H ρ' H' a},A ρ H a->Mv ρ H ρ' H'->H' acc=H acc->A ρ' H' a
 c:∀{ρ H a},A ρ H a->∃o,H acc=some o
def Acc.step(Z:Acc K mg acc)(h:Z.A ρ H a)(b:HR K mg ρ s H)(f:acc∈ρ.h)(x:Ext ρ H ρ' H'):Z.A ρ' H' a:=by obtain⟨o,e⟩:=Z.c h;exact Z.mv h x.mv (by rw[x.c _ _ e (b.d acc f).2,e])
structure CS{acc:Addr}(Z:Acc K mg acc)(ρ0:Own)(H0:L2.Hp)(a:List Val)(s:Sto)(env:Env)(ρ:Own)(σ:L2.St)(H:L2.Hp):Prop where
 d:Lp acc ρ0 H0 ρ H
 b:HR K mg ρ s H
 c:ER K mg ρ H env σ
 e:Z.A ρ H a
def Grows(c:Env->Sto->List Val->Out (List Val × Env)):Prop:=∀e s a p d,c e s a=.e p d->∃b,p.1=a++b
theorem uZ(f:Grows body):∀{xs} {env} {s} {a} {p} {s'},yQ r t body xs env s a=.e p s'->∃b,p.1=a++b
 |[],env,s,a,p,s',h=>by
  rw[yQ]at h;split at h
  . cases h;exact⟨[],(AJ _).symm⟩
  . cases h
 |x::xs,env,s,a,p,s',h=>by
  rw[yQ]at h;split at h
  . split at h
    . cases h
    . rename_i env' he
      cases hc:body env' s a with
      |e q s1=>
       rw[hc]at h;obtain⟨b,e⟩:=f _ _ _ _ _ hc;obtain⟨c,i⟩:=uZ f h;exact⟨b++c,by rw[i,e,A0]⟩
      |g _ _ _=>rw[hc]at h;cases h
      |d=>rw[hc]at h;cases h
  . cases h
def BodyOk{h:Addr}(Z:Acc K mg h)(c:Own)(C:L2.Hp)(g:Env->Sto->List Val->Out (List Val × Env))(t:L2.TS):Prop:=
 ∀(ρ:Own) (s:Sto) (H:L2.Hp) (f:Env) (σ:L2.St) (a:List Val) (p:List Val × Env) (s':Sto) (D:L2.Ends),CS Z c C a s f ρ σ H->g f s a=.e p s'->Z.B p.1 ->
  (∀d A b,CS Z c C p.1 s' p.2 d b A->Mv ρ H d A->D.a b A)->t D σ H
def vR{Z:Acc K mg acc}
   (W:Walk K mg ρ H r J) (TG:oM K mg t g) (hg:Grows body) (hb:BodyOk Z ρ0 H0 body tb)
 (C:CS Z ρ0 H0 a s env ρ σ H) (h:yQ r t body r.a env s a=.e p sf) (U:Z.B p.1) (T:∀w F j,CS Z ρ0 H0 p.1 sf p.2 w j F->Mv ρ H w F->D.a j F):L2.pY J g tb D σ H:=by
 refine kI (n:=r.a.length) (λi m E=>∃f u k v,CS Z ρ0 H0 v u k f m E/\Mv ρ H f E/\yQ r t body (r.a.drop i) k u v=.e p sf) ⟨ρ,s,env,a,C,Mv.refl,by rw[En];exact h⟩ ?_ ?_
 . rintro m E ⟨f,u,k,v,A,z,l⟩
   rw[List.drop_length,yQ]at l;split at l
   . rename_i ho
     cases l;exact⟨W.a f E _ _ z A.b ho rfl,T f E m A z⟩
   . cases l
 . rintro i m E M ⟨f,u,k,v,A,z,l⟩
   rw[BX M,yQ]at l;split at l
   . rename_i ho
     obtain⟨R,hy⟩:=W.c f E u i (r.a[i]) z A.b ho (xd M);refine⟨R,λx I y=>?_⟩;obtain⟨hH,S⟩:=hy x I y;split at l
     . cases l
     . rename_i env' he
       have G:CS Z ρ0 H0 v u k f m I/\Mv f E f I:=by
        rcases hH with e|⟨q,o,L,e⟩
        . subst e;exact⟨A,Mv.refl⟩
        . subst e
          have X:=Ext.new A.b L o;exact⟨⟨A.d.step A.b X,A.b.more L o,A.c.mono X,Z.step A.e A.b A.d.here X⟩,X.mv⟩
       refine TG f u I _ x k env' m _ G.1.b S G.1.c he λN V=>?_;cases hc:body env' u v with
       |e q Y=>
        rw[hc]at l;obtain⟨b,eb⟩:=uZ hg l;exact hb f u I env' N v q Y _ ⟨G.1.d,G.1.b,V,G.1.e⟩ hc (Z.d (eb▸U)) λP H5 O C5 Q=>⟨P,Y,q.2,q.1,C5,(z.trans G.2).trans Q,l⟩
       |g _ _ _=>rw[hc]at l;cases l
       |d=>rw[hc]at l;cases l
   . cases l
end
section
variable (K:KF)(mg:Str->Option Value)(Φ:Calls)(G:Str->Option Val)
def uE(e:Ex):L2.TE:=λb H Q=>∃a s,tV K mg a s (evE Φ G a e s) b H Q
def uT(e:Cn):L2.TT:=λb H Q=>∃a s,tT K mg a s (evT Φ G a e s) b H Q
def uI(i:Itb):L2.TI:=λa H R=>∃e s,tI (K:=K) (mg:=mg) e s (yM Φ G e i s) a H R
noncomputable def uTs:Cns->List L2.TT
 |.a=>[]
 |.b e es=>uT K mg Φ G e::uTs es
end
section
variable {K:KF}{mg:Str->Option Value}{Φ:Calls}{G:Str->Option Val}
def bM(h:∀j s,L2.PE X E (tV X.K X.d j s (evE Φ G j e s))):L2.PE X E (uE X.K X.d Φ G e):=λp s a H Q I ⟨j,t,q⟩=>h j t p s a H Q I q
def NQ(h:∀j s,L2.PT X E (tT X.K X.d j s (evT Φ G j e s))):L2.PT X E (uT X.K X.d Φ G e):=λp s a H Q I ⟨j,t,q⟩=>h j t p s a H Q I q
def gH(h:∀e s,L2.PI X tg E (tI (K:=X.K) (mg:=X.d) e s (yM Φ G e it s))):L2.PI X tg E (uI X.K X.d Φ G it):=λp s a H Q I ⟨e,t,q⟩=>h e t p s a H Q I q
theorem oA:∀{es} {ρ} {s} {H},HR K mg ρ s H->ER K mg ρ H env σ->yo Φ G env es s=.e b s2 ->
 (∀j F,Ext ρ H j F->HR K mg j s2 F->Q b F)->L2.lS (uTs K mg Φ G es) σ H Q
 |.a,ρ,s,H,hr,er,h,q=>by
  rw[yo]at h;cases h;exact q ρ H Ext.refl hr
 |.b e es,ρ,s,H,hr,er,h,q=>by
  rw[yo]at h;refine⟨env,s,ρ,hr,er,?_⟩;cases hc:evT Φ G env e s with
  |e c s1=>
   rw[hc]at h;intro y W U L w S;cases S;cases c with
   |true=>exact L2.pB (oA w (er.mono L) h λj F O M=>q j F (L.trans w O) M)
   |false=>
    simp only[zT]at h;cases h;exact L2.rK (q y U L w)
  |g _ _ _=>rw[hc]at h;cases h
  |d=>rw[hc]at h;cases h
def tK(Φ:Calls)(G:Str->Option Val)(c:Ex)(i:Cns):Env->Sto->List Val->Out (List Val × Env):=λe f a=>(yo Φ G e i f).bind λb s=>if b then (evE Φ G e c s).bind λv d=>.e (a++[v],e) d else .e (a,e) s
def vB:Grows (tK Φ G elt ifs):=by
 intro e s a p c h;unfold tK at h;cases hc:yo Φ G e ifs s with
 |e b s1=>
  rw[hc]at h;cases b with
  |true=>
   simp only[zT,if_true]at h;cases hv:evE Φ G e elt s1 with
   |e v s2=>rw[hv]at h;cases h;exact⟨_,rfl⟩
   |g _ _ _=>rw[hv]at h;cases h
   |d=>rw[hv]at h;cases h
  |false=>simp only[zT]at h;cases h;exact⟨[],(AJ _).symm⟩
 |g _ _ _=>rw[hc]at h;cases h
 |d=>rw[hc]at h;cases h
def Ux{b:Addr}(Z:Acc K mg b)(i:(L2.St->L2.Hp->Prop)->L2.St->L2.V->L2.Hp->Prop):Prop:=∀{c:Own} {s:Sto} {H:L2.Hp} {a:List Val} {v:Val} {y:L2.V} {Nx:L2.St->L2.Hp->Prop} {σ:L2.St},
 HR K mg c s H->b∈c.h->Z.A c H a->RD K mg c H v y->Z.B (a++[v])->(∀o:Hid,Z.A c (L2.upd H b o.o) (a++[v])->Nx σ (L2.upd H b o.o))->i Nx σ y H
def oF{Z:Acc K mg acc}(R:Ux Z inn)(Q:H0 acc=none):BodyOk Z ρ0 H0 (tK Φ G elt ifs) (L2.tTB (uTs K mg Φ G ifs) λF j H=>uE K mg Φ G elt j H (inn F j)):=by
 intro B s H m j a p L D C h P q;unfold tK at h;cases hc:yo Φ G m ifs s with
 |e b s1=>
  rw[hc]at h;refine oA (ρ:=B) (s:=s) C.b C.c hc λn I x k=>?_;have t:=Z.step C.e C.b C.d.here x;cases b with
  |true=>
   simp only[zT,if_true]at h;refine L2.pB ⟨m,s1,n,k,C.c.mono x,?_⟩;cases hv:evE Φ G m elt s1 with
   |e v s2=>
    rw[hv]at h;cases h;intro z y Y E f N;have w:=x.trans k E;have l:=C.d.step C.b w;refine R f l.here (Z.step t k (C.d.step C.b x).here E) N P λo A=>?_;have r:=mP (H1:=Y) f l.here o.o;refine q z _ j ⟨l.emit f Q _,f.emit l.here o,⟨C.c.b,λi J X=>?_⟩,A⟩ (w.mv.trans r);obtain⟨u,V,T⟩:=(C.c.mono w).a i J X;exact⟨u,V,RD.mv r T⟩
   |g _ _ _=>rw[hv]at h;cases h
   |d=>rw[hv]at h;cases h
  |false=>
   simp only[zT]at h;cases h;exact L2.rK (q n I j ⟨C.d.step C.b x,k,C.c.mono x,t⟩ x.mv)
 |g _ _ _=>rw[hc]at h;cases h
 |d=>rw[hc]at h;cases h
def Pb(K:KF)(mg:Str->Option Value)(f:Addr):Acc K mg f where
 A:=λg H a=>∃y,H f=some (.b y)/\RDs K mg g H a y
 B:=λa=>a.length<=zO
 d:=λh=>Aq (by rw[Ah];exact Nat.le_add_right _ _) h
 mv:=λ⟨y,e1,e2⟩ x e=>⟨y,e.trans e1,RDs.mv x e2⟩
 c:=λ⟨_,e,_⟩=>⟨_,e⟩
def NF(a:Addr)(N:L2.St->L2.Hp->Prop)(d:L2.St)(y:L2.V)(H:L2.Hp):Prop:=∃c,H a=some (.b c)/\c.length<Ao/\N d (L2.upd H a (.b (c++[y])))
def fT:Ux (Pb K mg acc) (NF acc):=λ{ρ s H a v y Nx σ} hr ha ⟨ys,e1,e2⟩ r hz q=>by
 have b:ys.length<Ao:=by have h:(a++[v]).length<=zO:=hz;rw[Ah,e2.length,yh]at h;simp at h;omega
 exact⟨ys,e1,b,q (.a _) ⟨_,L2.zJ,RDs.mv (mP hr ha _) (e2.append (.a r .d))⟩⟩
def rh(Φ:Calls)(G:Str->Option Val)(g:Ex)(f:Cns)(t:Tgt)(d:Itb)(i:Cns):Env->Sto->List Val->Out (List Val × Env):=λe k c=>(yo Φ G e f k).bind λb s=>if b then (yM Φ G e d s).bind λr h=>
 yQ r t (tK Φ G g i) r.a e h c
 else .e (c,e) s
def sk:Grows (rh Φ G elt ifs t2 it2 ifs2):=by
 intro e s a p c h;unfold rh at h;cases hc:yo Φ G e ifs s with
 |e b s1=>
  rw[hc]at h;cases b with
  |true=>
   simp only[zT,if_true]at h;cases hv:yM Φ G e it2 s1 with
   |e v s2=>rw[hv]at h;exact uZ vB h
   |g _ _ _=>rw[hv]at h;cases h
   |d=>rw[hv]at h;cases h
  |false=>simp only[zT]at h;cases h;exact⟨[],(AJ _).symm⟩
 |g _ _ _=>rw[hc]at h;cases h
 |d=>rw[hc]at h;cases h
def nj{Z:Acc K mg acc}(B:Ux Z inn)(A:H0 acc=none)(T:oM K mg t2 g2) :
 BodyOk Z ρ0 H0 (rh Φ G elt ifs t2 it2 ifs2) (L2.tTB (uTs K mg Φ G ifs) (L2.pz (uI K mg Φ G it2) g2 (uTs K mg Φ G ifs2) λF j H=>uE K mg Φ G elt j H (inn F j))):=by
 intro v s H i j a p P D C h y q;unfold rh at h;cases hc:yo Φ G i ifs s with
 |e b s1=>
  rw[hc]at h;refine oA (ρ:=v) (s:=s) C.b C.c hc λk I x f=>?_;have m:=Z.step C.e C.b C.d.here x;have l:=C.d.step C.b x;cases b with
  |true=>
   simp only[zT,if_true]at h;refine L2.pB ⟨i,s1,k,f,C.c.mono x,?_⟩;cases hv:yM Φ G i it2 s1 with
   |e Q s2=>
    rw[hv]at h;intro w R J r u W;have z:=x.trans f r;exact vR W T vB (oF B A) ⟨l.step f r,u,C.c.mono z,Z.step m f l.here r⟩ h y λo E n N t=>q o E n N (z.mv.trans t)
   |g _ _ _=>rw[hv]at h;cases h
   |d=>rw[hv]at h;cases h
  |false=>
   simp only[zT]at h;cases h;exact L2.rK (q k I j ⟨l,f,C.c.mono x,m⟩ x.mv)
 |g _ _ _=>rw[hc]at h;cases h
 |d=>rw[hc]at h;cases h
def bf(c:ER K mg ρ H env σ)fr:ER K mg ρ H (ze fr env) (L2.ze fr σ):=by
 refine⟨by unfold ze L2.ze;rw[rt,rt],λi v e=>?_⟩
 unfold ze at e;unfold L2.ze;rw[AZ]at e ⊢;cases hf:fr[i]? with
 |none=>rw[hf]at e;cases e
 |some o=>
  rw[hf]at e;cases o with
  |none=>cases e
  |some j=>
   have b:(env[j]?).join=some v:=AQ e;have d:env[j]?=some (some v):=by
    cases h1:env[j]? with
    |none=>rw[h1]at b;cases b
    |some w=>rw[h1]at b;have:w=some v:=b;rw[this]
   obtain⟨x,h1,h⟩:=c.a j v d;refine⟨x,?_,h⟩;show some ((σ[j]?).join)=_;rw[h1];rfl
def ak{Z:Acc K mg acc}{D:L2.Ends}(o:Hid)fr(k:HR K mg ρ s H)(G:ER K mg ρ H env σ)(W:Walk K mg ρ H r J)(h:H acc=none)(T:oM K mg t g)(u:Grows body)
 (z:BodyOk Z ρ H body tb) (E:Z.A (ρ.hide acc) (L2.upd H acc o.o) []) (q:yQ r t body r.a (ze fr env) s []=.e p sf) (n:Z.B p.1) (l:∀w F j,CS Z ρ H p.1 sf p.2 w j F->D.a j F):L2.pY J g tb D (L2.ze fr σ) (L2.upd H acc o.o):=by
 have m:=mY (ρ:=ρ) k h o.o;have c:=bf G fr;refine vR (ρ0:=ρ) (H0:=H) (W.mv m) T u z ⟨Lp.start k h _,k.hide h o,⟨c.b,λi v e=>?_⟩,E⟩ q n λf I d N _=>l f I d N;obtain⟨x,C,y⟩:=c.a i v e;exact⟨x,C,RD.mv m y⟩
def uk(T:oM K mg t g)(z:Grows body)
 (A:∀j L M,M j=none->BodyOk (Pb K mg j) L M body (L2.tTB ts (tb j)))    
 (h:tV K mg env s ((yM Φ G env it s).bind λr F=>(yQ r t body r.a (ze fr env) F []).bind λp y=>if chk=true->p.1.length<=zO then newList m p.1 y else .d) σ H Q)
 (i:chk=false->∀r F p y,yQ r t body r.a (ze fr env) F []=.e p y->p.1.length<=r.a.length):L2.ud fr (uI K mg Φ G it) g ts tb σ H Q:=by
 obtain⟨l,v,o,w⟩:=h;refine⟨env,s,l,v,o,?_⟩;cases hi:yM Φ G env it s with
 |e r F=>
  rw[hi]at w;simp only[zT]at w;intro k E J x f W j c;cases hl:yQ r t body r.a (ze fr env) F [] with
  |e p y=>
   rw[hl]at w;simp only[zT]at w;have n:p.1.length<=zO/\yb K mg (RD K mg) l H (newList m p.1 y) Q:=by
    by_cases hc:chk=true->p.1.length<=zO
    . rw[if_pos hc]at w
      refine⟨?_,w⟩;cases chk with
      |true=>exact hc rfl
      |false=>exact Aq (i rfl r F p y hl) W.b
    . rw[if_neg hc]at w;exact w.elim
   refine ak (.a []) fr f (o.mono x) W c T z (A j k E c) ⟨[],L2.zJ,.d⟩ hl n.1 λu N q C=>?_;obtain⟨I,D,B⟩:=C.e;exact C.d.done f c C.b D B (n.2.mono x f)
  |g _ _ _=>rw[hl]at w;exact w.elim
  |d=>rw[hl]at w;exact w.elim
 |g _ _ _=>rw[hi]at w;exact w.elim
 |d=>rw[hi]at w;exact w.elim
theorem rj:∀{xs} {env} {s} {a} {p} {s'},yQ r t (tK Φ G elt ifs) xs env s a=.e p s'->p.1.length<=a.length+xs.length
 |[],env,s,a,p,s',h=>by
  rw[yQ]at h;split at h
  . cases h;exact Ac _
  . cases h
 |x::xs,env,s,a,p,s',h=>by
  rw[yQ]at h;split at h
  . split at h
    . cases h
    . rename_i env' he
      cases hc:tK Φ G elt ifs env' s a with
      |e q s1=>
       rw[hc]at h;have j:=rj h;have c:q.1.length<=a.length+1:=by
        unfold tK at hc;cases h3:yo Φ G env' ifs s with
        |e b s2=>
         rw[h3]at hc;cases b with
         |true=>
          simp only[zT,if_true]at hc;cases h4:evE Φ G env' elt s2 with
          |e v s3=>rw[h4]at hc;cases hc;simp
          |g _ _ _=>rw[h4]at hc;cases hc
          |d=>rw[h4]at hc;cases hc
         |false=>simp only[zT]at hc;cases hc;exact CL _
        |g _ _ _=>rw[h3]at hc;cases hc
        |d=>rw[h3]at hc;cases hc
       rw[AX];omega
      |g _ _ _=>rw[hc]at h;cases h
      |d=>rw[hc]at h;cases h
  . cases h
end
end M
end
section
namespace M
open PySem PySem.W
def DX(g:Own)(H:L2.Hp)(c:Str)(h:List Val)(f:Option Addr):Prop:=if c="TooGreat" then ∃(d:Addr) (a b:Int),f=some d/\h=[.c a,.c b]/\H d=some (.l (L2.grF a b))/\g.no d else f=none
def DX.no{c:Str}(h:c≠"TooGreat"):DX ρ H c as none:=by unfold DX;rw[if_neg h]
def DX.yes(h:H d=some (.l (L2.grF a b)))(n:ρ.no d):DX ρ H "TooGreat" [.c a,.c b] (some d):=by unfold DX;rw[if_pos rfl];exact⟨d,a,b,rfl,rfl,h,n⟩
def DX.get(h:DX ρ H "TooGreat" as dd):∃d a b,dd=some d/\as=[.c a,.c b]/\H d=some (.l (L2.grF a b))/\ρ.no d:=by unfold DX at h;rw[if_pos rfl]at h;exact h
def t9(K:KF)(m:Str->Option Value)(b:Heap):Prop:=∃(C D f:Addr) (a:BB) (A:KF),m "TooGreat"=some (.ref C)/\L2.tL b C (.ref D::L2.veM) f/\L2.ju K m D f a/\L2.GrK A C D/\L2.uP A K/\L2.vv A C/\exmOne A (.ref C) (.ref C)=some true
def oJ(K:KF)(m:Str->Option Value)(b:Own)(H:L2.Hp)(x:tP)(E:L2.XK):Prop:=match x with
 |some (c,as,s')=>∀a A,Ext b H a A->HR K m a s' A->∀C,m c=some (.ref C)->∀d,DX a A c as d->E (.ref C) d A
 |dS=>False
def spX(T:Tbl)(K:KF)(m:Str->Option Value)(n:Nat)(f:Str)(v:Nat):L2.Sp:=λc H Q E=>∃b s a,HR K m b s H/\RDs K m b H a c/\(yb K m (RD K m) b H (zC T n f v a s) Q\/oJ K m b H (zS T n f v a s) E)
structure Sc(T:Tbl)(K:KF)(mg:Str->Option Value):Prop where
 ex:∃(kx:Str) (cs ws:List Str) (pre:Option Str) (hue:Addr),mg "HueError"=some (.ref hue)/\L2.n5 K mg kx cs ws pre/\(∀b,T.f b=true->∃f,L2.aH K mg b kx f) /\
  (∀c w,T.d.lookup c=some w->∃(C:Addr) (i:Nat) (x:Str),mg c=some (.ref C)/\(∃Kc,L2.uP Kc K/\exmOne Kc (.ref C) (.ref hue)=some true)/\L2.Named K mg cs C c/\cs[i]?=some c/\ws[i]?=some x/\w=L2.ans pre x/\(w="great"->c="TooGreat")) /\
  ∀c w,T.d.lookup c=some w->c≠"TooGreat"->∀base,K.In base->∃C,mg c=some (.ref C)/\L2.ClsAt base C (.ref hue::L2.veM)/\L2.ClsAt base hue L2.veM
 gf:mW T=true->∃f,L2.sA K mg f
 a:(T.d.lookup ("TooGreat":Str)).isSome=true->∀base,K.In base->t9 K mg base
 bm:∀base,K.In base->L2.Bm base mg
structure Lv(T:Tbl)(P:Program)(w:World)(K:KF)(mg:Str->Option Value)(base:Heap)(n:Nat):Prop where
 a:∀f v F,T.c f v=some F->∃fa fd,mg f=some (.ref fa)/\BS K (.ref fa)=true/\L2.Binds K fd F.b []/\L2.t8 P w K mg base L2.CX0 n fa fd F.b (spN T K mg n f v)/\L2.t8 P w K mg base (L2.CXE P w) n fa fd F.b (spX T K mg n f v)
structure Sd(T:Tbl)(P:Program)(w:World)(K:KF)(mg:Str->Option Value)(base:Heap)(m:Nat):Prop where
 a:Sc T K mg
 b:∀j,j<=m->Lv T P w K mg base j
def Cod(T:Tbl)(X:L2.Cx):Prop:=∃g∈T.e,∃(b c:Addr) (o:Obj) (f:BB),X.d g=some (.ref b)/\X.K.lookup b=some o/\o.data=.func f/\f.code=.ref c/\X.a.code=.ref c/\X.a.qual=g++(".<locals>.":Str)
theorem kJ:∀{l} {s} {g},zu l s=true->g∈l->∃j:Nat,s[j]?=some (.d g)
 |[],_,_,_,h=>by cases h
 |x::r,[],_,h,_=>by cases h
 |x::r,c::s,g,h,hm=>by
  cases c with
  |d y=>
   rw[zu,cf,decide_eq_true_eq]at h;rcases Al.mp hm with z|z
   . subst z;rw[h.1];exact⟨0,rfl⟩
   . obtain⟨j,e⟩:=kJ h.2 z
     exact⟨j+1,e⟩
  |_=>cases h
def HR.XN(h:HR K mg ρ s H)(g:L2.xq H H'):HR K mg ρ s H'/\Ext ρ H ρ H':=by
 have X:Ext ρ H ρ H':=⟨⟨[],by simp,λa b=>by cases b⟩,rfl,λa o e _=>g a o e,λa b=>by obtain⟨o,e⟩:=h.trk b;rw[e,g a o e]⟩
 refine⟨⟨h.f,h.v,λi c e=>?_,λa b=>?_⟩,X⟩
 . obtain⟨a,l,r⟩:=h.m i c e
   obtain⟨o,k⟩:=r.there;exact⟨a,l,r.mv X.mv (by rw[k,g a o k])⟩
 . obtain⟨⟨x,e⟩,n⟩:=h.d a b
   exact⟨⟨x,g _ _ e⟩,n⟩
def nh(h:Ei l):l=[]\/∃i j t u c r,l=.int i t::.int j u::c::r/\Ei r:=by
 unfold Ei at h;split at h
 . exact .inl rfl
 . exact .inr ⟨_,_,_,_,_,_,rfl,h⟩
 . exact h.elim
theorem nZ:∀n {l},l.length<=n->Ei l->Ei (l++[.int i t,.int j u,c])
 |n,l,hl,h=>by
  rcases nh h with rfl|⟨L,F,y,w,M,r,rfl,e⟩
  . exact A5
  . cases n with
    |zero=>cases hl
    |succ n=>exact nZ n (l:=r) (by simp only[AX]at hl;omega) e
theorem qZ:∀n {l},l.length<=n->Ei l->Eh pos (l++[.int i t,.int j u,c])=some cv->Eh pos l=some cv\/cv=c
 |n,l,hl,h,e=>by
  rcases nh h with rfl|⟨F,y,S,O,L,r,rfl,M⟩
  . have w:(if i == pos.line&&j == pos.col then some c else none)=some cv:=e
    split at w
    . cases w;exact .inr rfl
    . cases w
  . have w:(if F == pos.line&&y == pos.col then some L else Eh pos (r++[.int i t,.int j u,c]))=some cv:=e
    show (if F == pos.line&&y == pos.col then some L else Eh pos r)=some cv\/_
    cases n with
    |zero=>cases hl
    |succ n=>
     split at w
     . rename_i z;rw[if_pos z];exact .inl w
     . rename_i z;rw[if_neg z];exact qZ n (l:=r) (by simp only[AX]at hl;omega) M w
def HR.lam{j:Nat}(h:HR K mg ρ s H)(D:s[j]?=some (.d g))(G:ρ.o[j]?=some P)(R:Qc K mg ρ H P g)(w:H P=some (.g ps))(l:L2.QY H P ps pos (Sk g) c H'):HR K mg ρ s H'/\Ext ρ H ρ H':=by
 rcases l with rfl|⟨o,N,t,hf,r,S,O,rfl⟩
 . exact⟨h,Ext.refl⟩
 . refine byG λF f=>?_
   obtain⟨Z,I,m,k,U⟩:=R;refine f ?_;rw[w]at I;cases I;have q:c≠P:=λz=>by rw[z,w]at r;cases r
   have v:L2.upd (L2.upd H P (.g (ps++#[rawInt pos.line,rawInt pos.col,.ref c]))) c (.e o (.d 0))=L2.upd (L2.upd H c (.e o (.d 0))) P (.g (ps++#[rawInt pos.line,rawInt pos.col,.ref c])):=by
    funext b;unfold L2.upd;by_cases z1:b=c
    . subst z1;rw[if_pos rfl,if_neg q,if_pos rfl]
    . rw[if_neg z1]
      by_cases z2:b=P
      . rw[if_pos z2,if_pos z2]
      . rw[if_neg z2,if_neg z2,if_neg z1]
   rw[v];have y:=h.more r (.e o (.d 0));have J:=Ext.new h r (.e o (.d 0));have x:L2.upd H c (.e o (.d 0)) P=some (.g ps):=by rw[L2.zG (Bh q)];exact w
   have C:hk (some (.g (ps++#[rawInt pos.line,rawInt pos.col,.ref c])))=hk (L2.upd H c (.e o (.d 0)) P):=by rw[x];rfl
   have X:=Ext.rk y G C;have a:ρ.no c:=h.new r;have M:∀b u,ρ.no b->H b=some u->L2.upd (L2.upd H c (.e o (.d 0))) P (.g (ps++#[rawInt pos.line,rawInt pos.col,.ref c])) b=some u:=λb u B e=>X.c b u (J.c b u e B.1) B.1;refine⟨?_,J.trans y X⟩;have E:=y.rk (c:=.d g) G C ⟨_,L2.zJ,?_,λp W n=>?_,U⟩
   . rw[show s.set j (.d g)=s from ?_]at E
     . exact E
     . refine List.ext_getElem? λi=>?_
       by_cases z:j=i
       . subst z;rw[AR (Ax.mp D).1,D]
       . rw[BA z]
   . rw[Array.toList_append];exact nZ _ (Ac _) m
   . rw[Array.toList_append]at n
     rcases qZ _ (Ac _) m n with z|z
     . refine byG λF f=>?_
       obtain⟨b,L,Q,T,q1,A,Y,V⟩:=k p W z;refine f ?_;exact⟨b,L,Q,T,q1,A,M b _ A Y,V⟩
     . exact⟨c,o,N,t,z,a,X.c c _ L2.zJ a.1,S,O⟩
noncomputable def w6(c:List (Str × Addr)):List (Str × DS)->List (Str × Addr)->List (Str × Addr)
 |[],acc=>acc
 |(x,k)::r,acc=>w6 c r (if k == .free then (x,(c.lookup x).getD 0)::acc else acc)
def WJ(h:∀x∈lsc.names,x.2=.free->∃c,env.cells.lookup x.1=some c):G4 lsc env=pure (w6 env.cells lsc.names []):=by
 have a:∀(names:List (Str × DS)) (acc:List (Str × Addr)),(∀x∈names,x.2=.free->∃c,env.cells.lookup x.1=some c) ->
  (forIn names acc λ(x:Str × DS) (cs:List (Str × Addr))=>(do if x.2 == .free then pure (CA ((x.1,<-cellOf env x.1)::cs)) else pure (CA cs):Sem (ForInStep (List (Str × Addr)))))=pure (w6 env.cells names acc):=by
  intro names;induction names with
  |nil=>intro acc _;rfl
  |cons p r i=>
   obtain⟨x,k⟩:=p;intro acc d;rw[E4];by_cases hk:k=.free
   . subst hk
     obtain⟨c,g⟩:=d (x,.free) (Ar ..) rfl;have e:cellOf env x=pure c:=by unfold cellOf;rw[g]
     have f:w6 env.cells ((x,.free)::r) acc=w6 env.cells r ((x,c)::acc):=by show w6 env.cells r ((x,(env.cells.lookup x).getD 0)::acc)=_;rw[g];rfl
     rw[f];simp only[show ((AK == AK)=true) from rfl,if_true,e,Ee];exact i _ λy b=>d y (Af _ b)
   . have l:(k == AK)=false:=by simpa using hk
     have f:w6 env.cells ((x,k)::r) acc=w6 env.cells r acc:=by
      show w6 env.cells r (if k == .free then _ else acc)=_
      rw[l];rfl
     rw[f];simp only[l,Bn,if_false,Ee];exact i _ λy b=>d y (Af _ b)
 unfold G4;have:=a lsc.names [] h;simpa using this
theorem oy:∀{names} {acc} {x} {b},(x,b)∈w6 cells names acc->(x,b)∈acc\/((x,AK)∈names/\b=(cells.lookup x).getD 0)
 |[],_,_,_,h=>.inl h
 |(y,k)::r,acc,x,b,h=>by
  rcases oy (names:=r) h with z|z
  . by_cases hk:k=.free
    . subst hk
      rcases Al.mp z with z|z
      . cases z;exact .inr ⟨Ar ..,rfl⟩
      . exact .inl z
    . have a:(k == AK)=false:=by simpa using hk
      rw[a]at z;exact .inl z
  . exact .inr ⟨Af _ z.1,z.2⟩
theorem ox:∀{names} {acc} {x} {b},(x,b)∈acc->(x,b)∈w6 cells names acc
 |[],_,_,_,h=>h
 |(y,k)::r,acc,x,b,h=>ox (names:=r) (by
  split
  . exact Af _ h
  . exact h)
theorem rE:∀{names} {acc} {x},(x,AK)∈names->(x,(cells.lookup x).getD 0)∈w6 cells names acc
 |(y,k)::r,acc,x,h=>by
  rcases Al.mp h with z|z
  . cases z;exact ox (names:=r) (Ar ..)
  . exact rE (names:=r) z
def lookup_mem{a:Type}{l:List (Str × a)}{b}(h:(x,b)∈l):∃c,l.lookup x=some c:=by
 cases e:l.lookup x with
 |some c=>exact⟨c,rfl⟩
 |none=>
  rw[Gw]at e;have:=e _ h;simp at this
end M
end
section
namespace L2
open PySem PySem.Spec PyProof.Rows
def QZ(t:List Addr)(H:Hp):Prop:=∀b,H b=none\/(∃o x,H b=some (.e o (.b x)))\/(b∈t/\H b=some (.g #[]))
def cL{K}{tabs:List Addr}
 (KX:K.In s₁.heap) (T:s₁.heap.Ns AO mg) (i:s₁.heap.Ns FW mb) (hbb:∀x:Str,x≠"__name__"->mb x=Cu x) (X:s₁.heap.NoLimit) (hg:s₁.gens=#[])
 (Y:s₁.heap.get? a=some {cls:=.type "list",data:=.seq vs.toArray}) (hi:IntsAre vs ns) (hl:ns.length<=Ao) (hr:xM k callerA)
 (G:∀b∈tabs,s₁.heap.get? b=some (Fo #[])/\K.lookup b=none/\GN s₁.heap b)
 (F:∀p:Heap,K.In p->p.Ns AO mg->t8 P w K mg p CX k fa fd [x] sp) (D:∀s u,BindsTo s fd ⟨[u],[]⟩ [(x,u)])
 (W:∀H:Hp,(∀b∈tabs,H b=some (.g #[]))->SqL K H a (ns.map V.d)->sp [.c a] H (λv _=>v=.f true) λ_ _ _=>False)
 (hCX:∀H e l,CX [] H s₁ (λ_ _ _=>False) e l->False) :
 codeAny (model P w) callerA (.call (.ref fa) ⟨[.ref a],[]⟩) (λr l=>r=.ok (.ret (.bool true))/\OldK s₁.heap l.heap/\l.os=s₁.os/\AllBare l.gens) s₁:=by
 have rv:=nk hi;have Q:=hi.length;have N:a ∉ tabs:=λz=>by have:=(G a z).1;rw[Y]at this;cases this
 have C:∀H:Hp,QZ tabs H->(∀b∈tabs,H b=some (.g #[]))->SqL K H a (ns.map V.d)->HOk P w H s₁.heap->(∀b,H b≠none->b=a\/b∈tabs)->(H a≠none->K.lookup a=none) ->
  codeAny (model P w) callerA (.call (.ref fa) ⟨[.ref a],[]⟩) (λr l=>r=.ok (.ret (.bool true))/\OldK s₁.heap l.heap/\l.os=s₁.os/\AllBare l.gens) s₁:=by
  intro H hO hT hS R hA hK;have vy:∀{b:Addr} {o:Obj},s₁.heap.get? b=some o->H b=none->(mX s₁.heap H).get? b=some o:=λe n=>Zb e n;have U:∀{b:Addr} {o:Obj} {I:Array Gx} {J:Nat},s₁.heap.get? b=some o->o.data=.dict I J->H b=none:=λ{b o I J} e d=>by
   cases q:H b with
   |none=>rfl
   |some u=>
    rcases hA b (by rw[q];simp) with E|E
    . subst E
      rw[Y]at e;cases e;have d':Data.seq vs.toArray _=Data.dict I J:=d;cases d'
    . rw[(G b E).1]at e;cases e
      have d':GK #[]=Data.dict I J:=d;cases d'
  have y:∀{b:Addr} {m:Str->Option Value},s₁.heap.Ns b m->(mX s₁.heap H).Ns b m:=λ{b m} ⟨o,I,J,e,d,r⟩=>⟨o,I,J,vy e (U e d),d,r⟩;have Z:K.In (mX s₁.heap H):=λb o e=>vy (KX b o e) (by
   cases q:H b with
   |none=>rfl
   |some u=>
    rcases hA b (by rw[q];simp) with E|E
    . subst E
      rw[hK (by rw[q];simp)]at e;cases e
    . rw[(G b E).2.1]at e;cases e)
  have hM:Mod K mg (mX s₁.heap H):=⟨Z,y T,⟨mb,y i,hbb⟩,let ⟨mc,h1,h2⟩:=X;⟨mc,y h1,h2⟩⟩;have e0:qE P w K mg (mX s₁.heap H) callerA [] s₁ H:=⟨rfl,hM,λb o e=>VL e,Fb (dz _ _),trivial,λb i=>absurd (show b∈([]:List Addr) from i) (by simp),R,.of_eq hg⟩
  refine Cw ((F _ Z (y T)).a callerA [] s₁ H ⟨[.ref a],[]⟩ [.ref a] [.c a] _ _ hr e0 (D s₁ (.ref a)) (.cons rfl .nil) (W H hT hS)) λr l h=>?_;cases r with
  |error e=>exact(hCX H e l h).elim
  |ok fl=>
   cases fl with
   |next=>exact As h
   |brk=>exact As h
   |cont=>exact As h
   |ret u=>
    obtain⟨v,H',os,L,S,B,r',q⟩:=h;have q':v=.f true:=q;subst q';obtain rfl:u=Dz true:=r';have M:∀b o,s₁.heap.get? b=some o->asItWas s₁.heap l.heap b o:=λb o e=>by
     cases q:H b with
     |none=>exact .inl (S.f b o e q (by intro z;exact absurd (show b∈([]:List Addr) from z) (by simp)) (by simp))
     |some u=>
      rcases hO b with z|⟨ob,xs,z⟩|⟨z1,z⟩
      . rw[q]at z;cases z
      . have O:=S.g b ob _ z
        obtain⟨e1,_⟩:=R b _ z;obtain⟨e2,_⟩:=B b _ O;rw[e]at e1;cases e1;exact .inl e2
      . obtain⟨A,O⟩:=S.j b _ z
        have e2:l.heap.get? b=some (Fo (#[]++A)):=B b _ O;obtain⟨t1,_,t3⟩:=G b z1;rw[e]at t1;cases t1;exact .inr (.inl ⟨t3,rfl,#[],A,rfl,e2⟩)
    exact⟨rfl,⟨M,λb o e=>by
     rcases M b o e with z|⟨_,_,_,_,_,z⟩|⟨_,_,⟨o',_,_,z,_⟩,_⟩
     . exact⟨_,z⟩
     . exact⟨_,z⟩
     . exact⟨_,z⟩⟩,os,L⟩
 cases hk:K.lookup a with
 |some o=>
  have e:=KX a o hk;rw[Y]at e;cases e;refine C (λb=>if b∈tabs then some (.g #[]) else none) (λb=>?_) (λb i=>if_pos i) (.inr ⟨_,vs.toArray,_,hk,rfl,rfl,rfl,by rw[Ab,Q];exact hl,by simpa using rv⟩) (λb u z=>?_) (λb z=>?_) λz=>?_
  . by_cases i:b∈tabs
    . exact .inr (.inr ⟨i,if_pos i⟩)
    . exact .inl (if_neg i)
  . by_cases i:b∈tabs
    . have t:=(if_pos i).symm.trans z
      cases t;exact(G b i).1
    . have t:=(if_neg i).symm.trans z
      cases t
  . by_cases i:b∈tabs
    . exact .inr i
    . exact absurd (if_neg i) z
  . exact absurd (if_neg N) z
 |none=>
  refine C (λb=>if b=a then some (.e {cls:=.type "list",data:=.seq vs.toArray} (.b (ns.map V.d))) else if b∈tabs then some (.g #[]) else none) (λb=>?_) (λb i=>(if_neg (λz=>N (by rw[<-z];exact i))).trans (if_pos i)) (.inl (.inr ⟨{cls:=.type "list",data:=.seq vs.toArray},if_pos rfl⟩)) (λb u z=>?_) (λb z=>?_) λ_=>hk
  . by_cases i:b=a
    . exact .inr (.inl ⟨_,_,if_pos i⟩)
    . by_cases hb2:b∈tabs
      . exact .inr (.inr ⟨hb2,(if_neg i).trans (if_pos hb2)⟩)
      . exact .inl ((if_neg i).trans (if_neg hb2))
  . by_cases i:b=a
    . have t:=(if_pos i).symm.trans z
      cases t;subst i;exact⟨Y,by rw[rt];exact hl,vs,_,rv,Y⟩
    . by_cases hb2:b∈tabs
      . have t:=((if_neg i).trans (if_pos hb2)).symm.trans z
        cases t;exact(G b hb2).1
      . have t:=((if_neg i).trans (if_neg hb2)).symm.trans z
        cases t
  . by_cases i:b=a
    . exact .inl i
    . by_cases hb2:b∈tabs
      . exact .inr hb2
      . exact absurd ((if_neg i).trans (if_neg hb2)) z
end L2
end
section
namespace M
open PySem
noncomputable def pA(s:Scope)(x:Str):Bool:=decide (s.names.lookup x=some .local)||decide (s.names.lookup x=some .cell)||decide (s.names.lookup x=some .free)
noncomputable def wR(s:Scope)(x:Str):Bool:=decide (s.names.lookup x=some .globalImplicit)
noncomputable def wc:List Str:=["len","all","any","tuple","list","sorted","repr","max","min","sum","int","isinstance","divmod","str","bool","dict","set","range","enumerate","zip"]
noncomputable def O0(y:Str)(n:String):Bool:=(decide (y="int")&&decide (n="int"))||(decide (y="bool")&&decide (n="bool"))||(decide (y="str")&&decide (n="str"))||(decide (y="list")&&decide (n="list"))||(decide (y="tuple")&&decide (n="tuple"))||(decide (y="dict")&&decide (n="dict"))
noncomputable def vC:Val->Option Const
 |.h=>some .none
 |.e b=>some (.bool b)
 |.c i=>some (.int i)
 |.m x=>some (.str x)
 |_=>none
def Qh(v:Val)(e:Expr):Bool:=WV e λc _ _=>decide (vC v=some c)
noncomputable def isLit:Ex->Int->Bool
 |.g (.c i),j=>decide (i=j)
 |_,_=>false
noncomputable def Th:Ex->Bool
 |.g (.m _)=>true
 |_=>false
def Ws(h:Th e=true):∃t,e=.g (.m t):=by
 unfold Th at h;split at h
 . exact⟨_,rfl⟩
 . cases h
noncomputable def Zg:Ex->Bool
 |.g .h=>true
 |_=>false
def Zh(h:Zg e=true):e=.g .h:=by
 unfold Zg at h;split at h
 . rfl
 . cases h
def eSd(e:Expr)(k:Str->EJ->Str->List Expr->Scope->Bool):Bool:=eCN e λx f=>l1 f λl=>Qp l λa b c _=>eCN b λy d=>k x a y d c
def Wa(h:eSd e k=true):∃x a y w j S O M L F,e=.Call (.Name x S) [.Lambda a (.Call (.Name y O) w [] M) j L] [] F/\k x a y w j=true:=by obtain⟨x,S,i,F,rfl,g⟩:=yt h;obtain⟨l,rfl,f⟩:=yy g;obtain⟨a,b,j,L,rfl,d⟩:=ZI f;obtain⟨y,O,w,M,rfl,c⟩:=yt d;exact⟨x,a,y,w,j,S,O,M,L,F,rfl,c⟩
def uS(a:EJ):Bool:=a.posonlyargs.isEmpty&&a.args.isEmpty&&a.vararg.isNone&&a.kwonlyargs.isEmpty&&a.kw_defaults.isEmpty&&a.kwarg.isNone&&a.defaults.isEmpty
def ckM(f:Mf)(k:Expr->Bool)(l:List Expr->Bool)(e:Expr):Bool:=(eMt e λo x a y c=>decide (x=f.nm)&&k o&&l [y]&&plain y&&my o&&(a.endLine == c.line)&&okM f)
noncomputable def qh(s l:Scope):Bool:=decide (l.kind=.function)&&!l.isCoroutine&&!l.isGenerator&&l.names.all (λy=>decide (y.2=.globalImplicit)||(decide (y.2=.free)&&(decide (s.names.lookup y.1=some .cell)||decide (s.names.lookup y.1=some .free))))&&s.names.any (λy=>decide (s.names.lookup y.1=some .cell))
noncomputable def TR(e:Expr)(k:Expr->Bool):Bool:=match e with
 |.SetComp _ (⟨_,i,_,0⟩::_) _ _=>k i
 |_=>false
def ZK(h:TR e k=true):∃x j i F y w p,e=.SetComp x (⟨j,i,F,0⟩::y) w p/\k i=true:=by
 unfold TR at h;split at h
 . exact⟨_,_,_,_,_,_,_,rfl,h⟩
 . cases h
noncomputable def stF:Exs->Bool
 |.a (.A _) .b=>true
 |_=>false
noncomputable def Pf:Ex->Bool
 |.A _=>false
 |_=>true
noncomputable def okV:Bool:=true
noncomputable def okG:Bool:=true
noncomputable def Xs:Exs->Bool
 |.a (.e _) _=>true
 |_=>false
def dG(h:Xs es=true):∃i j,es=.a (.e i) j:=by
 unfold Xs at h;split at h
 . exact⟨_,_,rfl⟩
 . cases h
mutual
noncomputable def sim:Ex->Bool
 |.g _|.e _|.C _=>true
 |.j m _ a b=>!m&&sim a&&sim b
 |.D a=>sim a
 |.k es=>vX es
 |.s m es=>!m&&vX es
 |.u a b=>sim a&&sim b
 |_=>false
noncomputable def vX:Exs->Bool
 |.b=>true
 |.a e es=>sim e&&vX es
end
def ckA(s:Scope)(f:Str)(q:List Expr->Bool)(e:Expr):Bool:=eCN e λx a=>decide (x=f)&&wR s x&&!(x == ("__debug__":Str))&&q a&&zq a
noncomputable def ckB(s:Scope)(N:List Str)(f:Str)(v:Nat)(a:Exs)(q:Scope->List Expr->Bool)(e:Expr):Bool:=false
def sdV(v:Nat):Str:=if v=302 then "_law_great" else L2.yv (decide (v=301))
def ckV(s:Scope)(N:List Str)(v:Nat)(c:Exs)(q:Scope->List Expr->Bool)(e:Expr):Bool:=(okV&&Xs c)&&eSd e λx a y b l=>decide (x=sdV v)&&wR s x&&uS a&&qh s l&&vX c&&q l (.Name y default::b)&&zq b&&!b.isEmpty&&decide (("!":Str)∈N)&&decide (v≠200)&&(okG||decide (v≠302))
mutual
noncomputable def ck(d:Scope)(N:List Str):Ex->Expr->Bool
 |.g v,e=>Qh v e
 |.e i,e=>(eName e λx _=>decide (N[i]?=some x)&&pA d x&&!(x == ("__debug__":Str))&&!(x == ("__classdict__":Str)))
 |.C y,e=>(eName e λx _=>decide (x=y)&&wR d x&&!(x == ("__debug__":Str)))
 |.P y n,e=>(eName e λx _=>decide (x=y)&&wR d x&&O0 y n)
 |.j _ op a b,e=>(Ql e λl o r _=>(okB op&&decide (o=op.op))&&ck d N a l&&ck d N b r)
 |.D a,e=>(eOp .USub e λx=>ck d N a x)
 |.K a,e=>(eOp .Not e λx=>ck d N a x)
 |.l op a b,e=>(eC1 e λl o r=>(okC op&&decide (o=op.op))&&ck d N a l&&ck d N b r&&plain r)
 |.w op op' a b c,e=>(eC2 e λl o o' r r'=>(okC op&&decide (o=op.op))&&(okC op'&&decide (o'=op'.op))&&ck d N a l&&ck d N b r&&ck d N c r'&&plain r')
 |.y a es,e=>(eBl .And e λx W=>ck d N a x&&ckL d N es W)
 |.M _ _,_=>false
 |.G c a b,e=>(Qo e λt x y _=>ckC d N c t&&ck d N a x&&ck d N b y)
 |.k es,e=>(Qs e λW _ _=>ckL d N es W&&zq W)
 |.s _ es,e=>(Qq e λW _=>ckL d N es W&&zq W)
 |.E,e=>(eD0 e)
 |.F _,e=>(eD0 e)
 |.O _ _,_=>false
 |.A a,e=>TR e λi=>ck d N a i
 |.J _ _,_=>false
 |.I _ _ _ _ _ _ _,_=>false
 |.B _ _ _ _ _ _ _ _ _ _,_=>false
 |.h f ver es,e=>if ver<100 then ckA d f (λW=>ckL d N es W) e else if ver<200 then ckB d N f ver es (λl ys=>ckL l N es ys) e else ckV d N ver es (λl ys=>ckL l N es ys) e
 |.q f _ es,e=>(eCN e λx W=>lc W λy ys=>((okF f||stF es)&&decide (x=f.nm))&&wR d x&&ckL d N es (y::ys)&&zq (y::ys))
 |.H _ _,_=>false
 |.L f _ o es,e=>ckM f (λob=>ck d N o ob) (λys=>ckL d N es ys) e
 |.u a b,e=>(Wb e λl r _=>ck d N a l&&ck d N b r&&plain r)
 |.Q _ a lo hi st,e=>(eSS e λl x y z=>ck d N a l&&ckO d N lo x&&ckO d N hi y&&ckO d N st z)
 |.p _ N' fr elt t it ifs,e=>(eG1 e λx tg U fs S=>L2.tS d N N' S fr&&decide N'.Nodup&&ckT S N' t tg&&ckI d N it U tg&&mK S N' ifs fs&&ck S N' elt x&&plain U)
 |.z _ N' fr elt t it ifs t2 it2 ifs2,e=>(eG2 e λx tg U fs tg2 iter2 fs2 S=>L2.tS d N N' S fr&&decide N'.Nodup&&ckT S N' t tg&&ckI d N it U tg&&mK S N' ifs fs&&ckT S N' t2 tg2&&ckI S N' it2 iter2 tg2&&mK S N' ifs2 fs2&&ck S N' elt x&&plain U&&plain iter2)
 |.r _ z a w,e=>(eCN e λx W=>l1 W λi=>eCN i λy ys=>lc ys λc ds=>if ds.isEmpty then (if Th w then Zg z&&decide (x="len")&&decide (y="set") else false)&&wR d x&&wR d y&&ck d N a c&&plain c else false)
noncomputable def ckL(s:Scope)(N:List Str):Exs->List Expr->Bool
 |.b,j=>j.isEmpty
 |.a a as,j=>(lc j λe j=>ck s N a e&&ckL s N as j)
noncomputable def ckO(s:Scope)(N:List Str):OEx->Option Expr->Bool
 |.b,e=>e.isNone
 |.a a,e=>(o1 e λe=>ck s N a e)
noncomputable def ckC(s:Scope)(N:List Str):Cn->Expr->Bool
 |.a a,e=>ck s N a e&&(plainT e||decide (e.ctorIdx=15))
 |.d c,e=>(eOp .Not e λx=>ckC s N c x)
 |.b c cs,e=>(eBl .And e λx j=>ckC s N c x&&mK s N cs j)
 |.f c cs,e=>(eBl .Or e λx j=>ckC s N c x&&mK s N cs j)
noncomputable def mK(s:Scope)(N:List Str):Cns->List Expr->Bool
 |.a,j=>j.isEmpty
 |.b a as,j=>(lc j λe j=>ckC s N a e&&mK s N as j)
noncomputable def ckI(s:Scope)(N:List Str):Itb->Expr->Expr->Bool
 |.f a,e,_=>ck s N a e
 |.d a,e,_=>(eCN e λx w=>l1 w λy=>decide (x="range")&&wR s x&&ck s N a y&&plain y)
 |.g a b,e,_=>(eCN e λx w=>lc w λy F=>l1 F λz=>decide (x="range")&&wR s x&&ck s N a y&&ck s N b z&&plain y&&plain z)
 |.i _ _ _,_,_=>false
 |.h a,e,tg=>(decide (tg.ctorIdx=25)&&eCN e λx w=>l1 w λy=>decide (x="enumerate")&&wR s x&&ck s N a y&&plain y)
 |.j _ _,_,_=>false
end
structure Ok(T:Tbl)(n:Nat)(sc:Scope)(N:List Str)(X:L2.Cx):Prop where
 d:X.j=true
 c:L2.xM n X.A
 a:Scp sc N X
 p:∀f v F,T.c f v=some F->Callee T n X f v F
 i:∀x v,T.b x=some v->∃u xv,X.d x=some u/\L2.RelV xv u/\∀ρ H,RD X.K X.d ρ H v xv
 g:∀x∈wc,X.d x=none
 xe:X.i=λ_ _=>False
 j:∀f v,100<=v->T.c f v=none
 k:∀m,n=m+1->(∃b,T.f b=true)->Sd T X.f X.w X.K X.d X.g m
 l:(∃b,T.f b=true)->(∃x,sc.names.lookup x=some .cell)->("!":Str)∈N->Cod T X
def kA(S:Scp sc N X)(h:L2.tS sc N N' csc fr=true):L2.zw X N' csc fr:=by
 unfold L2.tS at h;simp only[cf,Ak,AN,decide_eq_true_eq,Am]at h;obtain⟨⟨⟨⟨⟨⟨⟨w,v⟩,u⟩,t⟩,s⟩,r⟩,p⟩,A⟩:=h;refine⟨w,λx o n=>(v _ o).elim (λz=>z rfl) λz=>z _ n rfl,λx a c=>?_,λx a c=>?_,s,λi j x e d=>?_,λx e d=>?_⟩
 . rcases u x a with z|z
   . exact absurd c z
   . exact z
 . rcases t x a with z|z
   . exact absurd c z
   . exact S.f x.1 z
 . have m:i<N'.length:=(Ax.mp e).1
   have q:=r i m;rw[e,d]at q;simp only[cf,decide_eq_true_eq,Bv]at q;obtain⟨q1,y,l,k,g⟩:=q;refine⟨by rw[S.b];exact q1,?_⟩
   have:y=(x,AK):=F5 k g;rw[<-this];exact l
 . rcases p (x,.free) d with z|z
   . exact z rfl
   . exact z e
def vK(h:sc.names.lookup x=some .local):(relabel sc env).names.lookup x=some .local:=lookup_relabel_local h
def gO(h:sc.names.lookup x=some .globalImplicit):(relabel sc env).names.lookup x=some .globalImplicit:=by
 have a:∀(names:List (Str × DS)),names.lookup x=some .globalImplicit->(names.map λ(n,k)=>if (k == AK&&env.scope.kind == .function&&env.kindOf n == some .cell) then (n,Bq) else (n,k)).lookup x=some .globalImplicit:=by
  intro names;induction names with
  |nil=>intro h;simp at h
  |cons p r i=>
   obtain⟨n,k⟩:=p;intro h;rw[AE];dsimp only;cases hx:(x == n) with
   |true=>
    rw[An,hx]at h;cases h;have e:(Er == AK)=false:=rfl;rw[e];simp only[Di,Bn,if_false,An,hx]
   |false=>
    rw[An,hx]at h;have:=i h;split<;>simpa only[An,hx] using this
 exact a sc.names h
theorem Scp.comp(S:Scp sc N X)(b:L2.zw X N' csc fr)(n:N'.Nodup)C s0 H0 ex:Scp csc N' (X.comp N' csc C s0 H0 ex):=by
 refine⟨rfl,n,λx h=>?_,λx h=>?_,λx h=>?_,λx h=>?_⟩
 . rcases h with h|h|h
   . exact .inl (vK h)
   . exact .inr (.inl (L2.uB h))
   . exact(L2.sY b.a h).elim (λz=>.inr (.inl z)) λz=>.inr (.inr z)
 . rcases h with h|h
   . exact⟨.inl (vK h),.inr (vK h)⟩
   . exact⟨.inr (L2.uB h),.inl (Bv.mpr ⟨_,A4 h,decide_eq_true rfl⟩)⟩
 . exact gO h
 . rcases h with h|h
   . exact .inl (L2.uB h)
   . exact L2.sY b.a h
theorem Callee.comp(c:Callee T n X f v F)N' csc C s0 H0 ex:Callee T n (X.comp N' csc C s0 H0 ex) f v F:=⟨c.a⟩
theorem Ok.comp(o:Ok T n sc N X)(t:L2.zw X N' csc fr)(s:N'.Nodup)(b:L2.tS sc N N' csc fr=true)C s0 H0 ex:Ok T n csc N' (X.comp N' csc C s0 H0 ex):=
 ⟨o.d,o.c,o.a.comp t s C s0 H0 ex,λf v F h=>(o.p f v F h).comp N' csc C s0 H0 ex,o.i,o.g,rfl,o.j,o.k,λm _ h=>by
  unfold L2.tS at b;simp only[cf,Bv,AN,decide_eq_true_eq]at b;rcases b.2 with z|⟨r,y,_,q⟩
  . exact absurd h z
  . exact o.l m ⟨y.1,q⟩ r⟩
section
variable {T:Tbl}{n:Nat}
def JE(T:Tbl)(n:Nat)(a:Ex):Prop:=∀(sc:Scope) (N:List Str) (X:L2.Cx) (e:Expr),Ok T n sc N X->ck sc N a e=true->∀c s,L2.PE X e (tV X.K X.d c s (evE (zC T n) T.b c a s))
def JL(T:Tbl)(n:Nat)(a:Exs):Prop:=∀(sc:Scope) (N:List Str) (X:L2.Cx) (f:List Expr),Ok T n sc N X->ckL sc N a f=true ->
 (zq f=true->∀c s,L2.PA X f (tVs X.K X.d c s (zr (zC T n) T.b c a s))) /\
 (∀e g p,f=e::g->∀c s,L2.PE X (.BoolOp .And f p) (tV X.K X.d c s (r0 (zC T n) T.b c a s))) /\
 (∀e g p,f=e::g->∀c s,L2.PE X (.BoolOp .Or f p) (tV X.K X.d c s (kG (zC T n) T.b c a s))) /\
 (∀y,f=[y]->plain y=true->∃b,a=.a b .b/\∀c s,L2.PE X y (tV X.K X.d c s (evE (zC T n) T.b c b s)))
def JO(T:Tbl)(n:Nat)(a:OEx):Prop:=∀(sc:Scope) (N:List Str) (X:L2.Cx) (e:Option Expr),Ok T n sc N X->ckO sc N a e=true->(∀c s,L2.PO X e (tO X.K X.d c s (evO (zC T n) T.b c a s))) /\
 ((e=none/\∀c f,evO (zC T n) T.b c a f=.e none f)\/∃h,e=some h/\∀c f g,evO (zC T n) T.b c a f≠.e none g)
def JC(T:Tbl)(n:Nat)(a:Cn):Prop:=∀(sc:Scope) (N:List Str) (X:L2.Cx) (e:Expr),Ok T n sc N X->ckC sc N a e=true->∀c s,L2.PT X e (tT X.K X.d c s (evT (zC T n) T.b c a s))
def JCs(T:Tbl)(n:Nat)(a:Cns):Prop:=∀(sc:Scope) (N:List Str) (X:L2.Cx) (c:List Expr),Ok T n sc N X->mK sc N a c=true ->
 (∀p e s,L2.PW X (.BoolOp .And c p) (tT X.K X.d e s (yo (zC T n) T.b e a s)))/\(∀p e s,L2.PW X (.BoolOp .Or c p) (tT X.K X.d e s (qF (zC T n) T.b e a s)))/\L2.PTs X c (uTs X.K X.d (zC T n) T.b a)
def JI(T:Tbl)(n:Nat)(a:Itb):Prop:=∀(sc:Scope) (N:List Str) (X:L2.Cx) (e t:Expr),Ok T n sc N X->ckI sc N a e t=true->∀c s,L2.PI X t e (tI (K:=X.K) (mg:=X.d) c s (yM (zC T n) T.b c a s))
def Zz:JE T n (.g v):=by
 intro q N X e o h f s;show L2.PE X e (tV X.K X.d f s (.e v s));replace h:=qj h;obtain⟨c,k,p,rfl,h⟩:=h;have h:=of_decide_eq_true h;cases v with
 |h=>cases h;exact zV L2.Yr λa H Q ⟨ρ,hr,er,w⟩=>zM hr .p w
 |e b=>cases h;exact zV L2.Yk λa H Q ⟨ρ,hr,er,w⟩=>zM hr (.j _) w
 |c i=>cases h;exact zV L2.Yq λa H Q ⟨ρ,hr,er,w⟩=>zM hr (.l _) w
 |m x=>cases h;exact zV L2.rS λa H Q ⟨ρ,hr,er,w⟩=>zM hr (.D _) w
 |_=>cases h
def Z4:JE T n (.e i):=by
 intro j N X e o h c s;replace h:=y9 h;obtain⟨x,p,rfl,h⟩:=h;simp only[cf,decide_eq_true_eq,pA,AN,AI]at h;obtain⟨⟨⟨t,r⟩,q⟩,m⟩:=h;have g:L2.Vis X.a.scope x:=o.a.e x (by rcases r with (z|z)|z;exact .inl z;exact .inr (.inl z);exact .inr (.inr z))
 show L2.PE X _ (tV X.K X.d c s (match c[i]? with|some (some v)=>.e v s|_=>.d))
 refine zV (L2.wU (i:=i) (by rw[o.a.b];exact t) g q m) λu H Q ⟨ρ,hr,er,w⟩=>?_
 split at w
 . rename_i v e
   obtain⟨f,l,k⟩:=er.a i v e;exact⟨f,l,zM hr k w⟩
 . exact w.elim
def UW:JE T n (.C y):=by
 intro z N X e o h c s;replace h:=y9 h;obtain⟨x,p,rfl,h⟩:=h;simp only[cf,decide_eq_true_eq,wR,AI]at h;obtain⟨⟨k,g⟩,f⟩:=h;subst k;show L2.PE X _ (tV X.K X.d c s (match T.b x with|some v=>.e v s|dS=>.d))
 cases hv:T.b x with
 |none=>exact zK (zH rfl)
 |some v=>
  obtain⟨u,t,q,m,l⟩:=o.i x v hv;exact zV (L2.Vb (o.a.a x g) q m f) λr H Q ⟨ρ,hr,er,w⟩=>zM hr (l ρ H) w
def PN:JE T n (.P y m):=by
 intro q N X e o h c s;replace h:=y9 h;obtain⟨x,p,rfl,h⟩:=h;simp only[cf,decide_eq_true_eq,wR]at h;obtain⟨⟨i,f⟩,b⟩:=h;subst i;show L2.PE X _ (tV X.K X.d c s (.e (.u m) s));have k:x∈wc/\Cu x=some (.type m)/\x≠"__name__"/\(x == ("__debug__":Str))=false:=by
  unfold O0 at b;simp only[AN,cf,decide_eq_true_eq]at b;rcases b with ((((⟨rfl,rfl⟩|⟨rfl,rfl⟩)|⟨rfl,rfl⟩)|⟨rfl,rfl⟩)|⟨rfl,rfl⟩)|⟨rfl,rfl⟩
  . exact⟨by decide,PyProof.Rows.boot_int,by decide,by decide⟩
  . exact⟨by decide,PyProof.Rows.boot_bool,by decide,by decide⟩
  . exact⟨by decide,PyProof.Rows.boot_str,by decide,by decide⟩
  . exact⟨by decide,PyProof.Rows.boot_list,by decide,by decide⟩
  . exact⟨by decide,Gv,by decide,by decide⟩
  . exact⟨by decide,PyProof.Rows.boot_dict,by decide,by decide⟩
 exact zV (L2.OF (o.a.a x f) (o.g x k.1) k.2.1 k.2.2.1 k.2.2.2) λl H Q ⟨ρ,hr,er,w⟩=>zM hr (.J _) w
def W6:JE T n (.F t):=by
 intro c N X e o h a s;obtain⟨p,rfl⟩:=fm h;show L2.PE X _ (tV X.K X.d a s (.e (.q s.length) (s++[if t then .f [] else .e []])))
 cases t with
 |true=>exact zV L2.Yo λb H Q ⟨ρ,hr,er,w⟩ p hp=>w _ _ _ (Ext.own hr hp _) (hr.vH hp ⟨[],L2.zJ,rfl,.d⟩) (.A (qR hr p) (by rw[L2.zJ];decide))
 |false=>exact zV L2.Yn λb H Q ⟨ρ,hr,er,w⟩ p hp=>w _ _ _ (Ext.own hr hp _) (hr.vH hp ⟨[],L2.zJ,rfl,.d⟩) (.A (qR hr p) (by rw[L2.zJ];decide))
def W5:JE T n .E:=by intro f N X e o h a s;obtain⟨p,rfl⟩:=fm h;show L2.PE X _ (tV X.K X.d a s (.e .p s));exact zV (L2.Va λb c H s I=>I.big) λc H Q ⟨ρ,hr,er,w⟩ p hp=>w _ _ _ (Ext.new hr hp _) (hr.more hp _) (.B (hr.new hp) L2.zJ)
def l8(h:zQ op x y s=.e v s'):∃b,v=.e b:=by unfold zQ at h;split at h<;>(split at h<;>first|(cases h;exact⟨_,rfl⟩)|cases h|(split at h<;>first|(cases h;exact⟨_,rfl⟩)|cases h|(split at h<;>first|(cases h;exact⟨_,rfl⟩)|cases h|(split at h<;>first|(cases h;exact⟨_,rfl⟩)|cases h))))
def oC{o:Out Val}(l:∀v j,o=.e v j->∃b,v=.e b)(w:yb K mg (λ_ _ a b=>a=b) ρ H o.truth Q):yb K mg (RD K mg) ρ H o λx F=>∃k,x=.f k/\Q k F:=by
 cases o with
 |e v s1=>
  obtain⟨b,rfl⟩:=l v s1 rfl;intro c x A i h r;cases r;exact⟨b,rfl,w _ _ _ i h rfl⟩
 |g _ _ _=>exact w
 |d=>exact w
def SU{l:Sto->Out Val}(z:okC op=true)(p:L2.xM k X.A)(D:L2.PE X a (tV X.K X.d env s o))(C:∀j,L2.PE X b (tV X.K X.d env j (l j)))(B:plain b=true) :
 L2.PT X (.Compare a [op.op] [b] pos) (tT X.K X.d env s (o.bind λx j=>(l j).bind λy F=>zQ op x y F).truth):=by
 cases o with
 |e v j=>
  have i:=C j;show L2.PT X _ (tT X.K X.d env s ((l j).bind λy F=>zQ op v y F).truth);cases hb:l j with
  |e w F=>
   rw[hb]at i;exact rT (L2.lG (tj p op z) D i (wm B)) λE H Q ⟨ρ,hr,er,wt⟩=>⟨ρ,hr,er,λn x I r f u=>⟨n,f,er.mono r,λm y G q c t=>⟨m,F,v,w,c,u.mono q,t,oC (λ_ _ h=>l8 h) (wt.mono (r.trans f q) c)⟩⟩⟩
  |g _ _ _=>exact yK (zH rfl)
  |d=>exact yK (zH rfl)
 |g _ _ _=>exact yK (zH rfl)
 |d=>exact yK (zH rfl)
def Z7{X:L2.Cx}{l:Env}{s:Sto}{a b c:Expr}{m i:Cop}{o:Out Val}{R P:Sto->Out Val}{k:Nat}{p:Pos}(k1:okC m=true)(k2:okC i=true)(J:L2.xM k X.A)(h1:L2.PE X a (tV X.K X.d l s o))(h2:∀j,L2.PE X b (tV X.K X.d l j (R j)))(h3:∀j,L2.PE X c (tV X.K X.d l j (P j)))(hm:plain c=true) :
 L2.PT X (.Compare a [m.op,i.op] [b,c] p) (tT X.K X.d l s (o.bind λx j=>(R j).bind λy M=>(zQ m x y M).bind λr F=>match r with
  |.e true=>(P F).bind λz L=>zQ i y z L
  |.e false=>.e (.e false) F
  |_=>.d).truth):=by
 cases o with
 |e v j=>
  have N:=h2 j;show L2.PT X _ (tT X.K X.d l s ((R j).bind _).truth);cases hb:R j with
  |e w M=>
   rw[hb]at N;show L2.PT X _ (tT X.K X.d l s ((zQ m v w M).bind _).truth);cases hc:zQ m v w M with
   |e r F=>
    cases r with
    |e t=>
     have Z:=h3 F;have D:=L2.Y7 (pos:=p) (tj J m k1) (tj J i k2) h1 N Z (show Hf [m.op,i.op] [b,c]=false from wm hm);refine rT D λσ H Q ⟨ρ,hr,er,wt⟩=>⟨ρ,hr,er,λY x H1 x1 I r1=>⟨Y,I,er.mono x1,λV y H2 W G r2=>⟨V,M,v,w,G,r1.mono W,r2,?_⟩⟩⟩;rw[hc];intro B z H3 U n r3;cases r3;refine⟨t,rfl,?_⟩;have O:=(x1.trans I W).trans G U;have C:=wt.mono O n;cases t with
     |true=>
      rw[if_pos rfl];refine⟨B,n,er.mono O,?_⟩;have f:yb X.K X.d (λ_ _ a b=>a=b) B H3 ((P F).bind λz L=>zQ i w z L).truth Q:=C;cases hz:P F with
      |e u L=>
       rw[hz]at f;exact λT q H4 S E r4=>⟨T,L,w,u,E,(r2.mono U).mono S,r4,oC (λ_ _ h=>l8 h) (f.mono S E)⟩
      |g _ _ _=>rw[hz]at f;exact f
      |d=>rw[hz]at f;exact f
     |false=>
      rw[if_neg Aj];exact⟨false,rfl,C _ _ _ Ext.refl n rfl⟩
    |_=>exact yK (zH rfl)
   |g _ _ _=>exact yK (zH rfl)
   |d=>exact yK (zH rfl)
  |g _ _ _=>exact yK (zH rfl)
  |d=>exact yK (zH rfl)
 |g _ _ _=>exact yK (zH rfl)
 |d=>exact yK (zH rfl)
def SE(i:JE T n a)(j:JE T n b):JC T n (.a (.l op a b)):=by intro r N X e o h d s;replace h:=mO (zU h).1;obtain⟨_,_,_,_,rfl,f⟩:=h;simp only[cf,decide_eq_true_eq]at f;obtain⟨⟨⟨⟨k,rfl⟩,q⟩,p⟩,m⟩:=f;exact SU k o.c (i _ _ _ _ o q d s) (λg=>j _ _ _ _ o p d g) m
def Zv(m:JE T n a)(l:JE T n b)(j:JE T n c):JC T n (.a (.w op op' a b c)):=by intro u N X e o h d s;replace h:=fk (zU h).1;obtain⟨_,_,_,_,_,_,rfl,g⟩:=h;simp only[cf,decide_eq_true_eq]at g;obtain⟨⟨⟨⟨⟨⟨i,rfl⟩,k,rfl⟩,t⟩,r⟩,q⟩,p⟩:=g;exact Z7 i k o.c (m _ _ _ _ o t d s) (λf=>l _ _ _ _ o r d f) (λf=>j _ _ _ _ o q d f) p
noncomputable def US:Ex->Bool
 |.l ..|.w ..=>true
 |_=>false
def ae{os}(h:ck sc N a (.Compare l os rs p)=true):US a=true:=by
 cases a with
 |l _ _ _=>rfl
 |w _ _ _ _ _=>rfl
 |h f v e=>
  replace h:(if v<100 then ckA sc f (λx=>ckL sc N e x) (.Compare l os rs p) else if v<200 then ckB sc N f v e (λl y=>ckL l N e y) (.Compare l os rs p) else ckV sc N v e (λl y=>ckL l N e y) (.Compare l os rs p))=true:=h
  split at h
  . cases h
  . split at h
    . cases h
    . exact absurd (show false=true from (zU h).2) Aj
 |_=>cases h
def ai{e:Expr}(h:e.ctorIdx=15):∃l w j p,e=.Compare l w j p:=FP (motive_1:=λe=>∃l w j p,e=Expr.Compare l w j p) e h λl w j p=>⟨l,w,j,p,rfl⟩
def zy(i:JE T n a)(d:US a=false):JC T n (.a a):=by
 intro g N X e o h c s;obtain⟨f,b⟩:=zU h;have j:=i g N X e o f c s;rcases (AN _ _).mp b with b|b
 . exact SW b j
 . obtain⟨l,k,r,p,rfl⟩:=ai (of_decide_eq_true b)
   rw[ae f]at d;cases d
end
def Zo(q:JE T n a)(i:JE T n b):JE T n (.j m op a b):=by intro z N X e o h c s;replace h:=kB h;obtain⟨l,w,r,p,rfl,h⟩:=h;simp only[cf,decide_eq_true_eq]at h;obtain⟨⟨⟨k,rfl⟩,u⟩,t⟩:=h;exact U3 (q _ _ _ _ o u c s) (λd=>i _ _ _ _ o t c d) λx v g f=>L2.k8 (YY m op k) g f
def Zr(j:JE T n a):JE T n (.D a):=by intro c N X e o h b s;replace h:=qO h;obtain⟨x,p,rfl,h⟩:=h;exact SI (j _ _ _ _ o h b s)
def T3(j:JL T n es):JE T n (.k es):=by intro b N X e o h a s;replace h:=kF h;obtain⟨x,k,p,rfl,h⟩:=h;simp only[cf]at h;exact Z3 ((j _ _ _ _ o h.1).1 h.2 a s)
def Tx(j:JL T n es):JE T n (.s m es):=by intro b N X e o h a s;replace h:=kE h;obtain⟨x,p,rfl,h⟩:=h;simp only[cf]at h;exact Z0 ((j _ _ _ _ o h.1).1 h.2 a s)
def UU(i:JE T n a)(j:JE T n b):JE T n (.u a b):=by intro m N X e o h c s;replace h:=qk h;obtain⟨l,r,p,rfl,h⟩:=h;simp only[cf]at h;exact U3 (i _ _ _ _ o h.1.1 c s) (λd=>j _ _ _ _ o h.1.2 c d) λk t g f=>L2.Uh Q9 g f (Yy h.2)
section
variable {Φ Φ':Calls}{G:Str->Option Val}{env:Env}
mutual
theorem rX:∀(a:Ex) (s:Sto),sim a=true->evE Φ G env a s=evE Φ' G env a s
 |.g _,_,_=>rfl
 |.e _,_,_=>rfl
 |.C _,_,_=>rfl
 |.j m op a b,s,h=>by
  simp only[sim,cf]at h;show (evE Φ G env a s).bind _=(evE Φ' G env a s).bind _;rw[rX a s h.1.2];exact congrArg _ (funext λx=>funext λS=>by rw[rX b S h.2])
 |.D a,s,h=>by
  simp only[sim]at h;show (evE Φ G env a s).bind _=(evE Φ' G env a s).bind _;rw[rX a s h]
 |.k es,s,h=>by
  simp only[sim]at h;show (zr Φ G env es s).bind _=(zr Φ' G env es s).bind _;rw[se es s h]
 |.s m es,s,h=>by
  simp only[sim,cf]at h;show (zr Φ G env es s).bind _=(zr Φ' G env es s).bind _;rw[se es s h.2]
 |.u a b,s,h=>by
  simp only[sim,cf]at h;show (evE Φ G env a s).bind _=(evE Φ' G env a s).bind _;rw[rX a s h.1];exact congrArg _ (funext λx=>funext λS=>by rw[rX b S h.2])
 |.P _ _,_,h=>by cases h
 |.K _,_,h=>by cases h
 |.l _ _ _,_,h=>by cases h
 |.w _ _ _ _ _,_,h=>by cases h
 |.y _ _,_,h=>by cases h
 |.M _ _,_,h=>by cases h
 |.G _ _ _,_,h=>by cases h
 |.E,_,h=>by cases h
 |.h _ _ _,_,h=>by cases h
 |.q _ _ _,_,h=>by cases h
 |.H _ _,_,h=>by cases h
 |.L _ _ _ _,_,h=>by cases h
 |.Q _ _ _ _ _,_,h=>by cases h
 |.p _ _ _ _ _ _ _,_,h=>by cases h
 |.z _ _ _ _ _ _ _ _ _ _,_,h=>by cases h
 |.r _ _ _ _,_,h=>by cases h
 |.F _,_,h=>by cases h
 |.O _ _,_,h=>by cases h
 |.A _,_,h=>by cases h
 |.J _ _,_,h=>by cases h
 |.I _ _ _ _ _ _ _,_,h=>by cases h
 |.B _ _ _ _ _ _ _ _ _ _,_,h=>by cases h
theorem se:∀(j:Exs) (s:Sto),vX j=true->zr Φ G env j s=zr Φ' G env j s
 |.b,_,_=>rfl
 |.a e j,s,h=>by simp only[vX,cf]at h;show (evE Φ G env e s).bind _=(evE Φ' G env e s).bind _;rw[rX e s h.1];exact congrArg _ (funext λx=>funext λw=>by rw[se j w h.2])
end
def pL(h:newList false vs s=.e v s'):s'=s:=by simp only[newList,Bn,if_false]at h;cases h;rfl
def aT(h:binOp false op x y s=.e v s'):s'=s:=by unfold binOp at h;split at h<;>(repeat' split at h)<;>first|exact pL h|(cases h;rfl)|cases h
def Wt(h:wI x y s=.e v s'):s'=s:=by
 unfold wI at h;split at h
 . split at h
   . split at h
     . cases h;rfl
     . cases h
   . cases h
 . cases h
def zf{o:Out α}{f}{b:β}(h:o.bind f=.e b s):∃a j,o=.e a j/\f a j=.e b s:=by
 cases o with
 |e a j=>exact⟨a,j,rfl,h⟩
 |g _ _ _=>cases h
 |d=>cases h
mutual
theorem rY:∀(a:Ex) (s s':Sto) (v:Val),sim a=true->evE Φ G env a s=.e v s'->s'=s
 |.g _,_,_,_,_,h=>by cases h;rfl
 |.e i,s,s',v,_,h=>by
  have S:∀o:Option (Option Val),(match o with|some (some v)=>Out.e v s|_=>.d)=.e v s'->s'=s:=λo h=>by
   cases o with
   |none=>cases h
   |some o=>cases o with
    |none=>cases h
    |some w=>cases h;rfl
  exact S _ h
 |.C x,s,s',v,_,h=>by
  have S:∀o:Option Val,(match o with|some v=>Out.e v s|dS=>.d)=.e v s'->s'=s:=λo h=>by
   cases o with
   |none=>cases h
   |some w=>cases h;rfl
  exact S _ h
 |.j m op a b,s,s',v,z,h=>by
  simp only[sim,cf,AI]at z;obtain⟨⟨rfl,N⟩,t⟩:=z;obtain⟨x,f,c,h⟩:=zf h;obtain⟨y,R,n,h⟩:=zf h;rw[aT h,rY b _ _ _ t n,rY a _ _ _ N c]
 |.D a,s,s',v,z,h=>by
  simp only[sim]at z;obtain⟨x,f,c,h⟩:=zf h;rw[<-rY a _ _ _ z c];split at h
  . cases h;rfl
  . cases h
 |.k es,s,s',v,z,h=>by
  simp only[sim]at z;obtain⟨x,f,c,h⟩:=zf h;rw[<-sg es _ _ _ z c];split at h
  . cases h;rfl
  . cases h
 |.s m es,s,s',v,z,h=>by
  simp only[sim,cf,AI]at z;obtain⟨rfl,z⟩:=z;obtain⟨x,f,c,h⟩:=zf h;rw[<-sg es _ _ _ z c];split at h
  . exact pL h
  . cases h
 |.u a b,s,s',v,z,h=>by
  simp only[sim,cf]at z;obtain⟨x,f,c,h⟩:=zf h;obtain⟨y,R,n,h⟩:=zf h;rw[Wt h,rY b _ _ _ z.2 n,rY a _ _ _ z.1 c]
 |.P _ _,_,_,_,h,_=>by cases h
 |.K _,_,_,_,h,_=>by cases h
 |.l _ _ _,_,_,_,h,_=>by cases h
 |.w _ _ _ _ _,_,_,_,h,_=>by cases h
 |.y _ _,_,_,_,h,_=>by cases h
 |.M _ _,_,_,_,h,_=>by cases h
 |.G _ _ _,_,_,_,h,_=>by cases h
 |.E,_,_,_,h,_=>by cases h
 |.h _ _ _,_,_,_,h,_=>by cases h
 |.q _ _ _,_,_,_,h,_=>by cases h
 |.H _ _,_,_,_,h,_=>by cases h
 |.L _ _ _ _,_,_,_,h,_=>by cases h
 |.Q _ _ _ _ _,_,_,_,h,_=>by cases h
 |.p _ _ _ _ _ _ _,_,_,_,h,_=>by cases h
 |.z _ _ _ _ _ _ _ _ _ _,_,_,_,h,_=>by cases h
 |.r _ _ _ _,_,_,_,h,_=>by cases h
 |.F _,_,_,_,h,_=>by cases h
 |.O _ _,_,_,_,h,_=>by cases h
 |.A _,_,_,_,h,_=>by cases h
 |.J _ _,_,_,_,h,_=>by cases h
 |.I _ _ _ _ _ _ _,_,_,_,h,_=>by cases h
 |.B _ _ _ _ _ _ _ _ _ _,_,_,_,h,_=>by cases h
theorem sg:∀(j:Exs) (s s':Sto) (vs:List Val),vX j=true->zr Φ G env j s=.e vs s'->s'=s
 |.b,_,_,_,_,h=>by cases h;rfl
 |.a e j,s,s',vs,z,h=>by simp only[vX,cf]at z;obtain⟨x,F,w,h⟩:=zf h;obtain⟨y,d,c,h⟩:=zf h;cases h;rw[sg j _ _ _ z.2 c,rY e _ _ _ z.1 w]
end
end
section
variable {T:Tbl}{n:Nat}
mutual
theorem rM:∀(a:Ex),sim a=true->JE T n a
 |.g _,_=>Zz
 |.e _,_=>Z4
 |.C _,_=>UW
 |.j m op a b,h=>by
  simp only[sim,cf]at h;exact Zo (rM a h.1.2) (rM b h.2)
 |.D a,h=>Zr (rM a (by simpa only[sim] using h))
 |.k es,h=>by
  simp only[sim]at h;intro W N X e o S U s;replace S:=kF S;obtain⟨x,k,p,rfl,S⟩:=S;simp only[cf]at S;exact Z3 (lB es h _ _ _ _ o S.1 S.2 U s)
 |.s m es,h=>by
  simp only[sim,cf]at h;intro W N X e o S U s;replace S:=kE S;obtain⟨x,p,rfl,S⟩:=S;simp only[cf]at S;exact Z0 (lB es h.2 _ _ _ _ o S.1 S.2 U s)
 |.u a b,h=>by
  simp only[sim,cf]at h;exact UU (rM a h.1) (rM b h.2)
 |.P _ _,h=>by cases h
 |.K _,h=>by cases h
 |.l _ _ _,h=>by cases h
 |.w _ _ _ _ _,h=>by cases h
 |.y _ _,h=>by cases h
 |.M _ _,h=>by cases h
 |.G _ _ _,h=>by cases h
 |.E,h=>by cases h
 |.h _ _ _,h=>by cases h
 |.q _ _ _,h=>by cases h
 |.H _ _,h=>by cases h
 |.L _ _ _ _,h=>by cases h
 |.Q _ _ _ _ _,h=>by cases h
 |.p _ _ _ _ _ _ _,h=>by cases h
 |.z _ _ _ _ _ _ _ _ _ _,h=>by cases h
 |.r _ _ _ _,h=>by cases h
 |.F _,h=>by cases h
 |.O _ _,h=>by cases h
 |.A _,h=>by cases h
 |.J _ _,h=>by cases h
 |.I _ _ _ _ _ _ _,h=>by cases h
 |.B _ _ _ _ _ _ _ _ _ _,h=>by cases h
theorem lB:∀(w:Exs),vX w=true->∀(sc:Scope) (N:List Str) (X:L2.Cx) (xs:List Expr),Ok T n sc N X->ckL sc N w xs=true->zq xs=true->∀j s,L2.PA X xs (tVs X.K X.d j s (zr (zC T n) T.b j w s))
 |.b,_=>λsc N X xs o h F j s=>by
  cases A1.mp h;exact eH
 |.a e w,hs=>λsc N X xs o h F j s=>by simp only[vX,cf]at hs;replace h:=yX h;obtain⟨y,f,rfl,h⟩:=h;rw[zq,cf]at F;exact kP F.1 (rM e hs.1 _ _ _ _ o (zU h).1 j s) λc=>lB w hs.2 _ _ _ _ o (zU h).2 F.2 j c
end
end
end M
end
section
namespace M
open PySem PySem.W PyProof.Rows
def lA(h:L2.PA X.nox es t):L2.PA X es t:=λa p s b H Q I c=>
 AD (h a p s b H Q (I.wy _) c) (λ_ _ ⟨vs,H',I',r,q⟩=>⟨vs,H',I'.xN,r,q⟩) λ_ _ z=>As z
def cj(h:uS a=true):a=L2.noArgs:=by obtain⟨p,f,v,b,c,k,d⟩:=a;simp only[uS,cf,A1,Bt]at h;obtain⟨⟨⟨⟨⟨⟨rfl,rfl⟩,rfl⟩,rfl⟩,rfl⟩,rfl⟩,rfl⟩:=h;rfl
def XD(r:L2.xM (m+1) A)e1 e2:L2.xM m ((A.deeper e1).deeper e2):=
 ⟨r.a,by have:=r.c;show A.depth+1+1+3*m+5<_;omega,by have:=r.b;show A.units+3+3+16*m+200<_;omega,r.d⟩
def Ui(h:∀v j,o=.e v j->L2.PE X E (tV X.K X.d env s o)):L2.PE X E (tV X.K X.d env s o):=by
 cases o with
 |e v j=>exact h v j rfl
 |g _ _ _=>exact zK (zH rfl)
 |d=>exact zK (zH rfl)
def Zi(h:pA sc x=true):L2.Vis sc x:=by
 simp only[pA,AN,decide_eq_true_eq]at h;rcases h with (h|h)|h
 . exact .inl h
 . exact .inr (.inl h)
 . exact .inr (.inr h)
def Yl{ds}{i:Nat}(F:L2.t8 X.f X.w X.K X.d X.g CX k f fd ps sp)(R:L2.xM k X.A)(O:X.N[i]?=some x)(P:L2.Vis X.a.scope x)(T:BS X.K (.ref f)=true)(L:L2.Binds X.K fd ps ds)(Z:L2.Vals dvs ds)(J:L2.Passes CX X E)
 (M:L2.PA X (e::es) t) (n:(x == ("__debug__":Str))=false) (o:(x == ("__classdict__":Str))=false) (Y:Av (e::es) X.a=(false,eval e X.a)::Av es X.a) (m:(backTo pos (Av es X.a)).any (·.1)=false) :
 L2.PE X (.Call (.Name x p) (e::es) [] pos) (λj H Q=>j[i]?=some (some (.c f))/\L2.ez sp dvs E t j H Q):=by
 rintro b s j H Q I ⟨S,h⟩;refine BZ (L2.thn (L2.wU O P n o b s j H (λv B=>v=L2.V.c f/\B=H) I ⟨_,S,rfl,rfl⟩) λu G y=>?_);obtain⟨v,B,D,r,l,z⟩:=y;subst l z;cases r;refine Eb (h₀:=X.g) D.C.i.a T (L2.thn (M pos b G j B _ D h) λU W ⟨vs,H1,I1,r,q⟩=>⟨I1.kIn,?_⟩) Y m;exact L2.gR F R L Z J I1 r q
section
variable {T:Tbl}{n:Nat}{sc lsc:Scope}{N:List Str}{X:L2.Cx}
def Cal(lsc:Scope)(N:List Str)(e:Env)(y f:Str):Prop:=(y=f/\lsc.names.lookup y=some .globalImplicit/\(y == ("__debug__":Str))=false) \/
 ∃i:Nat,N[i]?=some y/\pA lsc y=true/\(y == ("__debug__":Str))=false/\(y == ("__classdict__":Str))=false/\e[i]?=some (some (.t f))
noncomputable def V5(A:Val->Val)(O:Str × List Val × Sto->Out Val):Out Val->tP->Out Val
 |.e v s,_=>.e (A v) s
 |_,some r=>O r
 |_,dS=>.d
def Xo{OV:Val->Val}{OV2:L2.V->L2.V}{HC:Value->Option Addr->L2.Hp->Prop}
 (o:Ok T (m+1) sc0 N0 X) (nd:N.Nodup) (P:∀x∈lsc.names,x.2=.globalImplicit\/x.2=.free) (h8:vX es=true) (h9:ckL lsc N es ys=true) (h10:zq ys=true) (h11:ys.isEmpty=false) (hcal:Cal lsc N env y f) (ho:zr (zC T m) T.b env es s=.e vs s) (sd:Sd T X.f X.w X.K X.d X.g m) (hOV:∀ρ H v x,RD X.K X.d ρ H v x->RD X.K X.d ρ H (OV v) (OV2 x))
 (I:L2.Inv X pins σq H s0) (L:L2.rn X.h s0.heap H lf c2 qual (.Call (.Name y p2) ys [] p3) lsc cl pm ctv N σ) (hr:HR X.K X.d ρ s H) (er:ER X.K X.d ρ H env σ) (n:yb X.K X.d (RD X.K X.d) ρ H (V5 OV OX (zC T m f 0 vs s) (zS T m f 0 vs s)) Q)
 (hHC:∀U as S M O C dd,yb X.K X.d (RD X.K X.d) ρ H (OX (U,as,S)) Q->Ext ρ H M O->HR X.K X.d M S O->X.d U=some (.ref C)->DX M O U as dd->HC (.ref C) dd O)
 (Y:∀EE tb,(∀wQ S O,L2.PE (L2.tJ (L2.CXE X.f X.w) X.f X.w X.K X.d X.g N qual lsc lf (.ref c2) cl (X.A.deeper wQ) (wQ::X.h) S O EE) (.Call (.Name y p2) ys [] p3) tb)->(tb σ H λv H1=>Q (OV2 v) H1)->(∀W dd O,EE W dd O->HC W dd O) ->
  codeAny (model X.f X.w) X.A (.call (.ref fS) ⟨[.ref lf],[]⟩) (L2.CR L2.CX0 X.h X.f X.w H s0 Q λ_ _ _=>False) s0) :
 wpAny (model X.f X.w) X.A (call (.ref fS) [.ref lf]) (L2.EP X pins σq Q) X.i s0:=by
 cases hfn:T.c f 0 with
 |none=>
  exfalso;have h1:zC T m f 0 vs s=.d:=by
   cases m with
   |zero=>rfl
   |succ m=>simp only[zC,hfn];cases kH vs<;>rfl
  have h2:zS T m f 0 vs s=dS:=by
   cases m with
   |zero=>rfl
   |succ m=>simp only[zS,hfn]
  rw[h1,h2]at n;exact n
 |some F=>
  refine byG λpi D=>?_;obtain⟨fa2,fd2,e1,e2,e3,e4,e5⟩:=(sd.b m (Ac _)).a f 0 F hfn;refine D ?_;refine Dd (Cw (Y (λW dd O=>∃(U:Str) (as:List Val) (S:Sto) (M:Own) (C:Addr),((∀v J,zC T m f 0 vs s≠.e v J)/\zS T m f 0 vs s=some (U,as,S))/\Ext ρ H M O/\HR X.K X.d M S O/\X.d U=some (.ref C)/\W=.ref C/\DX M O U as dd)
   (λR H1 Q1=>(∀i:Nat,env[i]?=some (some (.t f))->R[i]?=some (some (.c fa2)))/\L2.ez (spX T X.K X.d m f 0) [] (λW dd O=>∃(U:Str) (as:List Val) (S:Sto) (M:Own) (C:Addr),((∀v J,zC T m f 0 vs s≠.e v J)/\zS T m f 0 vs s=some (U,as,S))/\Ext ρ H M O/\HR X.K X.d M S O/\X.d U=some (.ref C)/\W=.ref C/\DX M O U as dd) (tVs X.K X.d env s (zr (zC T m) T.b env es s)) R H1 Q1) (λwQ S O=>?_) ?_ λW dd O hEE=>?_) λr S k=>?_)
  . cases ys with
    |nil=>cases h11
    |cons y1 ys=>
     have q:=h10;rw[zq,cf]at q;have okL:Ok T m lsc N (L2.tJ (L2.CXE X.f X.w) X.f X.w X.K X.d X.g N qual lsc lf (.ref c2) cl (X.A.deeper wQ) (wQ::X.h) S O (λW dd O=>∃(U:Str) (as:List Val) (S:Sto) (M:Own) (C:Addr),((∀v J,zC T m f 0 vs s≠.e v J)/\zS T m f 0 vs s=some (U,as,S))/\Ext ρ H M O/\HR X.K X.d M S O/\X.d U=some (.ref C)/\W=.ref C/\DX M O U as dd)).nox:=by
      refine⟨rfl,XD o.c _ _,⟨rfl,nd,λx l=>l,λx l=>?_,λx l=>l,λx l=>l⟩,λf' v' F' hf'=>?_,o.i,o.g,rfl,o.j,λm' hm' hmd'=>⟨sd.a,λj hj=>sd.b j ⋯⟩,λ_ ⟨x,l⟩ _=>?_⟩
      . exfalso
        rcases l with l|l
        . rcases P _ (A4 l) with z|z<;>cases z
        . rcases P _ (A4 l) with z|z<;>cases z
      . refine byG λpi D=>?_
        obtain⟨fa3,fd3,y1,y2,y3,y4,y5⟩:=(sd.b m (Ac _)).a f' v' F' hf';refine D ?_;exact⟨⟨fa3,fd3,y1,y2,y3,y4⟩⟩
      . exfalso
        rcases P _ (A4 l) with z|z<;>cases z
     have Z:=lA (lB es h8 lsc N _ _ okL h9 h10 env s);rcases hcal with⟨rfl,h6,h7⟩|⟨i,c1,c2,c3,c4,c5⟩
     . exact zV (L2.lD e5 (XD o.c _ _) h6 e1 e2 e3 .nil L2.pU Z h7 (L2.zd (zN q.1)) (yz q.2)) λσ H Q h=>h.2
     . exact zV (Yl e5 (XD o.c _ _) c1 (Zi c2) e2 e3 .nil L2.pU Z c3 c4 (L2.zd (zN q.1)) (yz q.2)) λσ H Q h=>⟨h.1 i c5,h.2⟩
  . refine Ad (λi he=>?_) ⟨ρ,hr,er,?_⟩
    . obtain⟨x,l,r⟩:=er.a i _ he
      cases r with
      |I e=>rw[e1]at e;cases e;exact l
    rw[ho];intro ρ1 xs H1 x1 E r1;refine⟨ρ1,s,vs,E,by rw[AJ];exact r1,?_⟩
    cases k:zC T m f 0 vs s with
    |e v S=>
     rw[k]at n;refine .inl λM x O G p r2=>?_;exact n M _ O (x1.trans E G) p (hOV _ _ _ _ r2)
    |g _ _ _=>
     rw[k]at n;cases l:zS T m f 0 vs s with
     |none=>rw[l]at n;exact n.elim
     |some r=>
      obtain⟨U,as,S⟩:=r;exact .inr λM O G p C hC dd B=>⟨U,as,S,M,C,⟨zH rfl,rfl⟩,x1.trans E G,p,hC,rfl,B⟩
    |d=>
     rw[k]at n;cases l:zS T m f 0 vs s with
     |none=>rw[l]at n;exact n.elim
     |some r=>
      obtain⟨U,as,S⟩:=r;exact .inr λM O G p C hC dd B=>⟨U,as,S,M,C,⟨zH rfl,rfl⟩,x1.trans E G,p,hC,rfl,B⟩
  . refine byG λpi D=>?_
    obtain⟨U,as,S,M,C,⟨hno,hexc⟩,G,p,hC,rfl,B⟩:=hEE;refine D ?_;rw[hexc]at n;refine hHC U as S M O C dd ?_ G p hC B;cases hn:zC T m f 0 vs s with
    |e v J=>exact absurd hn (hno v J)
    |g _ _ _=>rw[hn]at n;exact n
    |d=>rw[hn]at n;exact n
  . cases r with
    |error e=>exact As k
    |ok fl=>
     cases fl with
     |ret u=>exact I.after k
     |next=>exact As k
     |brk=>exact As k
     |cont=>exact As k
def jj{OV:Val->Val}{OV2:L2.V->L2.V}{OX:Str × List Val × Sto->Out Val}{HC:Own->L2.Hp->L2.VK->Value->Option Addr->L2.Hp->Prop}(o:Ok T (m+1) sc N X)(h2:sc.names.lookup g0=some .globalImplicit)(h3:uS a=true)(h4:qh sc lsc=true)
 (h8:vX es=true) (h9:ckL lsc N es ys=true) (h10:zq ys=true) (h11:ys.isEmpty=false) (h12:("!":Str)∈N) env s (hcal:Cal lsc N env y f) (ho:zr (zC T m) T.b env es s=.e vs s) (htb:zu T.e s=true) (hmd:T.f md=true) (hOV:∀U H v x,RD X.K X.d U H v x->RD X.K X.d U H (OV v) (OV2 x)) (hmS:X.d g0=some (.ref fS)) (kp:BS X.K (.ref fS)=true) (hdbg:(g0 == ("__debug__":Str))=false)
 (hHC:∀U H Q cc as s' O S C dd,X.K.In X.g->yb X.K X.d (RD X.K X.d) U H (OX (cc,as,s')) Q->Ext U H O S->HR X.K X.d O s' S->X.d cc=some (.ref C)->DX O S cc as dd->HC U H Q (.ref C) dd S)
 (hrun:∀U W s0 σq σ H (Q:L2.VK) lf c2 qual cl pm ctv EE tb,L2.Inv X W σq H s0->L2.rn X.h s0.heap H lf c2 qual (.Call (.Name y p2) ys [] p3) lsc cl pm ctv N σ ->
  (∀wQ s' S,L2.PE (L2.tJ (L2.CXE X.f X.w) X.f X.w X.K X.d X.g N qual lsc lf (.ref c2) cl (X.A.deeper wQ) (wQ::X.h) s' S EE) (.Call (.Name y p2) ys [] p3) tb)->(tb σ H λv H1=>Q (OV2 v) H1)->(∀cls dd S,EE cls dd S->HC U H Q cls dd S) ->
  codeAny (model X.f X.w) X.A (.call (.ref fS) ⟨[.ref lf],[]⟩) (L2.CR L2.CX0 X.h X.f X.w H s0 Q λ_ _ _=>False) s0) :
 L2.PE X (.Call (.Name g0 p1) [.Lambda a (.Call (.Name y p2) ys [] p3) lsc p4] [] p5) (tV X.K X.d env s (V5 OV OX (zC T m f 0 vs s) (zS T m f 0 vs s))):=by
 obtain rfl:=cj h3;rintro W s0 σ H Q I ⟨U,hr,er,wt⟩;have sd:=o.k m rfl ⟨md,hmd⟩;simp only[qh,cf,decide_eq_true_eq,AI,Ak,Bv,AN]at h4;refine byG λpi p=>?_;obtain⟨⟨⟨⟨k1,k2⟩,k3⟩,k4⟩,⟨x0,hx0,hx0f⟩⟩:=h4;refine p ?_;have B:∀x∈lsc.names,x.2=.free->sc.names.lookup x.1=some .cell\/sc.names.lookup x.1=some .free:=λx q hf=>by
  rcases k4 x q with z|z
  . rw[hf]at z;cases z
  . exact z.2
 refine byG λpi p=>?_;obtain⟨g,hg,fa,c,ob,fd,q1,q2,q3,q4,q5,q6⟩:=o.l ⟨md,hmd⟩ ⟨x0.1,hx0f⟩ h12;refine p ?_;obtain⟨j,hj⟩:=kJ htb hg;obtain⟨P,hPo,tr⟩:=hr.m j _ hj;refine byG λpi p=>?_;obtain⟨ps,hP,tok,Y,fa',c',o',fd',w1,w2,w3,w4,w5⟩:=id tr;refine p ?_;rw[q1]at w1;cases w1;rw[q2]at w2;cases w2;rw[q3]at w3;cases w3;rw[q4]at w4;cases w4;have hq:X.a.qual++("<lambda>":Str)=Sk g:=by rw[q6];rfl
 have n:∀x,(x,AK)∈lsc.names->∃b,X.a.cells.lookup x=some b:=λx q=>I.C.r x (o.a.f x (B _ q rfl));have D:∀x b,(w6 X.a.cells lsc.names []).lookup x=some b->(x,AK)∈lsc.names/\X.a.cells.lookup x=some b:=λx b e=>by
  rcases oy (A4 e) with z|⟨E,z2⟩
  . cases z
  . obtain⟨b',t⟩:=n x E
    rw[t]at z2;exact⟨E,by rw[t,z2];rfl⟩
 refine BZ (L2.wA I (o.a.a _ h2) hmS ?_ hdbg);refine Eb (h₀:=X.g) I.C.i.a kp ?_;show wpAny _ _ (spliced ((false,eval (.Lambda L2.noArgs (.Call (.Name y p2) ys [] p3) lsc p4) X.a)::backTo p5 (Av [] X.a))) _ _ s0;refine Calls.spliced_cons (L2.YH (P:=P) (ps:=ps) (c:=c) I rfl (WJ λx q hf=>n x.1 (by rw[<-hf];exact q)) q5 (w5 _ I.kIn) hP tok (sd.a.bm _ I.C.i.a) (λcv hcv=>?_) λlf c2 ctv H' h' tk Z G ⟨nl,_,nf,cdr⟩ obj cr=>Calls.spliced_nil ⟨Z.kIn,?_⟩)
 . refine byG λpi p=>?_
   obtain⟨b,ob',vb,tb,E,_,z3,z4,z5⟩:=Y _ cv hcv;refine p ?_;exact⟨b,ob',vb,tb,E,z3,z4,by rw[hq];exact z5⟩
 rw[hq]at G;obtain⟨hr',X0⟩:=hr.lam hj hPo tr hP G;have L:L2.rn X.h h' H' lf c2 (X.a.qual++("<lambda>":Str)) (.Call (.Name y p2) ys [] p3) lsc (w6 X.a.cells lsc.names []) ((X.d "__name__").getD .none) ctv N σ:=by
  refine⟨obj,.inl nl,nf,cdr,λx y b E z2=>I.C.s x y b (D x b E).2 (D y b z2).2,λx q=>lookup_mem (rE (A4 q)),λx b e=>?_,λi x v E z2 z3=>?_,by rw[<-o.a.b];exact Z.R,k1,k2,k3,λx q=>?_⟩
  . obtain⟨y1,y2⟩:=D x b e
    exact⟨Z.J x b y2,Z.F x b y2⟩
  . have hm3:=A4 z3
    have hcl:=B _ hm3 rfl;obtain⟨mm,hn,hl⟩:=Z.M;obtain⟨u,ru,lk⟩:=hl i x v (by rw[o.a.b];exact E) z2 (o.a.e x (.inr hcl))
    rcases lk with⟨y,_⟩|⟨_,b,y2,y3⟩
    . rcases o.a.f x hcl with y'|y'
      . rw[y]at y';cases y'
      . rw[y]at y';cases y'
    . obtain⟨b',t⟩:=lookup_mem (rE (cells:=X.a.cells) (acc:=[]) hm3)
      have:=(D x b' t).2;rw[y2]at this;cases this;exact⟨u,b,ru,t,y3⟩
  . rcases k4 x q with z|z
    . rw[z];exact⟨nofun,nofun⟩
    . rw[z.1];exact⟨nofun,nofun⟩
 exact Xo o o.a.d (λx q=>(k4 x q).imp id And.left) h8 h9 h10 h11 hcal ho sd hOV Z L hr' (er.mono X0) (wt.mono X0 hr') (λcc as s' O S C dd w=>hHC _ _ _ cc as s' O S C dd I.C.i.a w) λEE tb hb=>hrun _ _ _ _ _ _ _ _ _ _ _ _ _ EE tb Z L hb
def ba(o:Ok T (m+1) sc N X)(h2:sc.names.lookup (L2.yv md)=some .globalImplicit)(h3:uS a=true)(h4:qh sc lsc=true)
 (h8:vX es=true) (h9:ckL lsc N es ys=true) (W:zq ys=true) (U:ys.isEmpty=false) (O:("!":Str)∈N) env s (E:Cal lsc N env y f) (ho:zr (zC T m) T.b env es s=.e vs s) (V:zu T.e s=true) (j:T.f md=true) :
 L2.PE X (.Call (.Name (L2.yv md) p1) [.Lambda a (.Call (.Name y p2) ys [] p3) lsc p4] [] p5) (tV X.K X.d env s (nS T md (zC T m f 0 vs s) (zS T m f 0 vs s))):=by
 have sd:=o.k m rfl ⟨md,j⟩;refine byG λR h=>?_;obtain⟨kx,cs,ws,pre,hue,B,KF,SF,CF,RF⟩:=sd.a.ex;refine h ?_;obtain⟨fS,S⟩:=SF md j;refine byG λR h=>?_;obtain⟨stS,fdS,Z,FnS,_⟩:=id S.ex;refine h ?_;have e:nS T md (zC T m f 0 vs s) (zS T m f 0 vs s)=V5 (λv=>if md then v else .m "told") (λr=>match T.d.lookup r.1 with|some w=>.e (jV md w r.2.1) r.2.2|dS=>.d) (zC T m f 0 vs s) (zS T m f 0 vs s):=by
  cases zC T m f 0 vs s<;>cases zS T m f 0 vs s<;>rfl
 rw[e];refine jj o h2 h3 h4 h8 h9 W U O env s E ho V j (OV2:=λv=>if md then v else .e "told") (λG H v x r=>by cases md;exact .D _;exact r) Z FnS.b (by cases md<;>decide) (λG H Q cc as s' A H2 C dd hk t x2 u hC F=>?_) λG pins s0 σq σ H Q lf c2 qual cl pm ctv EE tb I L hb hq hE=>
  L2.XM I.wQ o.c.a (by have:=o.c.c;omega) S KF B L hb hq hE
 cases hw:T.d.lookup cc with
 |none=>dsimp only at t;rw[hw]at t;exact t.elim
 |some w=>
  dsimp only at t;rw[hw]at t;refine byG λR h=>?_;obtain⟨C',i,x,c1,c2,c3,c4,c5,c6,c7⟩:=CF cc w hw;refine h ?_;rw[hC]at c1;cases c1;refine⟨C,cc,i,x,rfl,c2,c3,c4,c5,?_⟩;by_cases hgr:md=false/\w="great"
  . obtain⟨z,q⟩:=hgr
    subst z q;have M:=c7 rfl;subst M;obtain⟨C0,D0,fI,fd0,Kc,m1,m2,m3,m4,m5,m6,m7⟩:=sd.a.a (by rw[hw];rfl) X.g hk
    rw[hC]at m1;cases m1;refine byG λR h=>?_;obtain⟨d,a,b,rfl,rfl,hd,hno'⟩:=F.get;refine h ?_;refine .inr ⟨rfl,c6.symm,D0,fI,d,a,b,Kc,rfl,hd,m6,m5,m4,m2,λH3 p P Y=>?_⟩;obtain⟨n,J⟩:=u.XN P;exact t A (.c p) _ ((x2.trans u J).trans n (Ext.new n Y _)) (n.more Y _) (.m (n.new Y) L2.zJ (.a (.D _) (.a (.l a) (.a (.l b) .d))))
  . refine .inl ⟨λz=>by rw[<-c6];exact λq=>hgr ⟨z,q⟩,λH3 P=>?_⟩
    obtain⟨n,J⟩:=u.XN P;have hA:jV md w as=.m w:=by
     unfold jV;cases md with
     |true=>rfl
     |false=>rw[if_neg Aj,if_neg λq=>hgr ⟨rfl,q⟩]
    have t:yb X.K X.d (RD X.K X.d) G H (.e (jV md w as) s') Q:=t;rw[hA]at t;have:=t A (.e w) H3 (x2.trans u J) n (.D w);rw[<-c6];exact this
def Z2(o:Ok T n sc N X)(O:¬ver<200)(E:ver≠200)(D:ver≠302)(C:Xs es=true)(h2:sc.names.lookup (L2.yv (decide (ver=301)))=some .globalImplicit)(W:uS a=true)(U:qh sc lsc=true)
 (u:vX es=true) (w:ckL lsc N es (.Name y default::ys)=true) (V:zq ys=true) (R:ys.isEmpty=false) (Q:("!":Str)∈N) env s :
 L2.PE X (.Call (.Name (L2.yv (decide (ver=301))) p1) [.Lambda a (.Call (.Name y p2) ys [] p3) lsc p4] [] p5) (tV X.K X.d env s (evE (zC T n) T.b env (.h f ver es) s)):=by
 show L2.PE X _ (tV X.K X.d env s ((zr (zC T n) T.b env es s).bind λx c=>zC T n f ver x c));obtain⟨i,l,rfl⟩:=dG C;have w:((decide (N[i]?=some y)&&pA lsc y&&!(y == ("__debug__":Str))&&!(y == ("__classdict__":Str)))&&ckL lsc N l ys)=true:=w;simp only[cf,decide_eq_true_eq,AI]at w;obtain⟨⟨⟨⟨c1,c2⟩,c3⟩,c4⟩,c5⟩:=w;have u:vX l=true:=by rw[vX,cf]at u;exact u.2
 cases n with
 |zero=>
  refine zK λv M e=>?_;obtain⟨_,_,_,z⟩:=zf e;cases z
 |succ m=>
  refine Ui λv M e=>?_;obtain⟨x,c,B,p⟩:=zf e;obtain⟨Z,S,G,J⟩:=zf (show ((evE (zC T (m+1)) T.b env (.e i) s).bind λv c=>(zr (zC T (m+1)) T.b env l c).bind λx L=>.e (v::x) L)=.e x c from B);obtain⟨F,L,r,I⟩:=zf J;cases I;have k:(match env[i]? with|some (some v)=>Out.e v s|_=>.d)=.e Z S:=G
  split at k
  case h_2=>cases k
  rename_i v0' he;cases k;rw[se (Φ':=zC T m) l s u]at r;obtain rfl:c=s:=sg l _ _ _ u r;simp only[zC,o.j f ver ⋯]at p
  rw[decide_eq_false (show ¬ver=100 by omega),decide_eq_false (show ¬ver=101 by omega),decide_eq_false E,decide_eq_false D,decide_eq_false (show ¬ver=102 by omega)]at p
  cases Z with
  |t g=>
   have p:(if ((decide (ver=300)&&T.f false)||(decide (ver=301)&&T.f true))&&zu T.e c then nS T (decide (ver=301)) (zC T m g 0 F c) (zS T m g 0 F c) else .d)=.e v M:=p
   by_cases hcond:(((decide (ver=300)&&T.f false)||(decide (ver=301)&&T.f true))&&zu T.e c)=true
   case neg=>rw[if_neg hcond]at p;cases p
   rw[if_pos hcond]at p;rw[cf]at hcond;obtain⟨q,H⟩:=hcond;have P:T.f (decide (ver=301))=true:=by
    simp only[AN,cf,decide_eq_true_eq]at q;rcases q with⟨Y,A⟩|⟨Y,A⟩
    . rw[decide_eq_false ⋯];exact A
    . rw[decide_eq_true Y];exact A
   have:=ba (p1:=p1) (p2:=p2) (p3:=p3) (p4:=p4) (p5:=p5) o h2 W U u c5 V R Q env c (.inr ⟨i,c1,c2,c3,c4,he⟩) r H P;rw[p]at this;rw[e];exact this
  |_=>cases p
end
def iN{c:Str}(h:c="TooGreat"):qw (c,as,s)=.e (.f as) s:=if_pos h
def iO(o:Ok T (m+1) sc N X)(h2:sc.names.lookup ("_law_great":Str)=some .globalImplicit)(h3:uS a=true)(h4:qh sc lsc=true)
 (h8:vX es=true) (h9:ckL lsc N es ys=true) (Y:zq ys=true) (V:ys.isEmpty=false) (R:("!":Str)∈N) env s (u:Cal lsc N env y f) (ho:zr (zC T m) T.b env es s=.e vs s) (A:zu T.e s=true) (D:T.f md=true) (n:X.d "TooGreat"=some (.ref C0)) (cG:L2.tL X.g C0 (.ref D0::L2.veM) fI0) (P:L2.GrK Kc0 C0 D0) (k:L2.uP Kc0 X.K) (J:L2.vv Kc0 C0) (t:exmOne Kc0 (.ref C0) (.ref C0)=some true) (GF:L2.sA X.K X.d fS) :
 L2.PE X (.Call (.Name "_law_great" p1) [.Lambda a (.Call (.Name y p2) ys [] p3) lsc p4] [] p5) (tV X.K X.d env s (qv (zC T m f 0 vs s) (zS T m f 0 vs s))):=by
 refine byG λpi q=>?_;obtain⟨stS,fdS,E,F,_⟩:=id GF.ex;refine q ?_;have e:qv (zC T m f 0 vs s) (zS T m f 0 vs s)=V5 (λ_=>.h) qw (zC T m f 0 vs s) (zS T m f 0 vs s):=by
  cases zC T m f 0 vs s<;>cases zS T m f 0 vs s<;>rfl
 rw[e];refine jj o h2 h3 h4 h8 h9 Y V R env s u ho A D (OV2:=λ_=>.g) (λZ H v x _=>.p) E F.b (by decide) (λZ H Q W as j z H2 C dd _ w x2 r U G=>?_) λZ O s0 σq σ H Q lf c2 M cl pm ctv EE tb I L hb hq hE=>
  L2.dw I.wQ o.c.a (by have:=o.c.c;omega) GF n L hb hq hE
 by_cases hcc:W="TooGreat"
 . subst hcc
   refine byG λpi q=>?_;obtain⟨d,a,b,rfl,rfl,hd,S⟩:=G.get;refine q ?_;rw[n]at U;cases U;refine⟨C0,D0,fI0,d,a,b,Kc0,rfl,rfl,⟨Kc0,k,t⟩,hd,J,k,P,cG,λH3 p sm B=>?_⟩;obtain⟨i,x3⟩:=r.XN sm;rw[show qw ("TooGreat",[.c a,.c b],j)=.e (.f [.c a,.c b]) j from iN rfl]at w;exact w z (.c p) _ ((x2.trans r x3).trans i (Ext.new i B _)) (i.more B _) (.m (i.new B) L2.zJ (.a (.l a) (.a (.l b) .d)))
 . exfalso
   rw[show qw (W,as,j)=.d from if_neg hcc]at w;exact w
def cB(o:Ok T n sc N X)(L:Xs es=true)(h2:sc.names.lookup ("_law_great":Str)=some .globalImplicit)(h3:uS a=true)(h4:qh sc lsc=true)
 (A:vX es=true) (R:ckL lsc N es (.Name y default::ys)=true) (h10:zq ys=true) (h11:ys.isEmpty=false) (h12:("!":Str)∈N) env s :
 L2.PE X (.Call (.Name "_law_great" p1) [.Lambda a (.Call (.Name y p2) ys [] p3) lsc p4] [] p5) (tV X.K X.d env s (evE (zC T n) T.b env (.h f 302 es) s)):=by
 show L2.PE X _ (tV X.K X.d env s ((zr (zC T n) T.b env es s).bind λB p=>zC T n f 302 B p));obtain⟨i,r,rfl⟩:=dG L;have R:((decide (N[i]?=some y)&&pA lsc y&&!(y == ("__debug__":Str))&&!(y == ("__classdict__":Str)))&&ckL lsc N r ys)=true:=R;simp only[cf,decide_eq_true_eq,AI]at R;obtain⟨⟨⟨⟨c1,c2⟩,c3⟩,c4⟩,c5⟩:=R;have A:vX r=true:=by rw[vX,cf]at A;exact A.2
 cases n with
 |zero=>
  refine zK λv Z e=>?_;obtain⟨_,_,_,z⟩:=zf e;cases z
 |succ m=>
  refine Ui λv Z e=>?_;obtain⟨B,p,F,w⟩:=zf e;obtain⟨P,Y,M,U⟩:=zf (show ((evE (zC T (m+1)) T.b env (.e i) s).bind λv p=>(zr (zC T (m+1)) T.b env r p).bind λB s2=>.e (v::B) s2)=.e B p from F);obtain⟨V,s2,x,S⟩:=zf U;cases S;have q:(match env[i]? with|some (some v)=>Out.e v s|_=>.d)=.e P Y:=M
  split at q
  case h_2=>cases q
  rename_i v0' he;cases q;rw[se (Φ':=zC T m) r s A]at x;obtain rfl:p=s:=sg r _ _ _ A x;have G:∀c,c=302->zC T (m+1) f c (P::V) p=.e v Z->∃g,P=.t g/\(if mW T&&zu T.e p then qv (zC T m g 0 V p) (zS T m g 0 V p) else .d)=.e v Z:=λc hv w=>by
   simp only[zC,o.j f c ⋯]at w
   rw[decide_eq_false (show ¬c=100 by omega),decide_eq_false (show ¬c=101 by omega),decide_eq_false (show ¬c=200 by omega),decide_eq_false (show ¬c=300 by omega),decide_eq_false (show ¬c=301 by omega),decide_eq_true hv,decide_eq_false (show ¬c=102 by omega)]at w
   cases P with
   |t g=>exact⟨g,rfl,w⟩
   |_=>cases w
  obtain⟨g,W,u⟩:=G 302 rfl w;subst W;by_cases hcond:(mW T&&zu T.e p)=true
  case neg=>rw[if_neg hcond]at u;cases u
  rw[if_pos hcond]at u;rw[cf]at hcond;obtain⟨J,O⟩:=hcond;have l:=J;simp only[mW,cf,decide_eq_true_eq]at l;have sd:=o.k m rfl ⟨true,l.1⟩;obtain⟨fS,GF⟩:=sd.a.gf J;intro E Y σ H Q I hw;obtain⟨C,D,fI,fd,Kc,m1,m2,m3,m4,m5,m6,m7⟩:=sd.a.a (by rw[l.2];rfl) X.g I.C.i.a
  rw[e,<-u]at hw;exact iO o h2 h3 h4 A c5 h10 h11 h12 env p (.inr ⟨i,c1,c2,c3,c4,he⟩) x O l.1 m1 m2 m4 m5 m6 m7 GF E Y σ H Q I hw
end M
end
section
namespace M
open PySem
def Tz(j:JE T n a):JE T n (.K a):=by intro c N X e o h b s;replace h:=qO h;obtain⟨x,p,rfl,h⟩:=h;exact SJ (j _ _ _ _ o h b s)
def Tv(m:JE T n a)(j:JE T n b):JE T n (.l op a b):=by intro z N X e o h d s;replace h:=mO h;obtain⟨l,w,r,p,rfl,h⟩:=h;simp only[cf,decide_eq_true_eq]at h;obtain⟨⟨⟨⟨k,rfl⟩,u⟩,t⟩,q⟩:=h;exact U3 (m _ _ _ _ o u d s) (λf=>j _ _ _ _ o t d f) λx v i g=>L2.eP (tj o.c op k) i g (wm q)
def Zp(m:JE T n a)(i:JE T n b)(j:JE T n c):JE T n (.w op op' a b c):=by intro x N X e o h d s;replace h:=fk h;obtain⟨l,A,y,r,z,p,rfl,h⟩:=h;simp only[cf,decide_eq_true_eq]at h;obtain⟨⟨⟨⟨⟨⟨g,rfl⟩,k,rfl⟩,v⟩,u⟩,t⟩,q⟩:=h;exact Zy g k o.c (m _ _ _ _ o v d s) (λf=>i _ _ _ _ o u d f) (λf=>j _ _ _ _ o t d f) q
def Tt(j:JE T n a)(l:JL T n es):JE T n (.y a es):=by
 intro q N X e o h c s;replace h:=mM h;obtain⟨x,i,p,rfl,h⟩:=h;simp only[cf]at h;obtain⟨f,d⟩:=h;cases es with
 |b=>
  cases A1.mp d;exact L2.gD (j _ _ _ _ o f c s)
 |a b m=>
  cases i with
  |nil=>cases d
  |cons y g=>exact Zw (j _ _ _ _ o f c s) λk=>(l _ _ _ _ o d).2.1 y g p rfl c k
def Tw(j:JC T n c)(i:JE T n a)(g:JE T n b):JE T n (.G c a b):=by intro k N X e o h d s;replace h:=ZH h;obtain⟨t,x,y,p,rfl,h⟩:=h;simp only[cf]at h;exact SH (j _ _ _ _ o h.1.1 d s) (λf=>i _ _ _ _ o h.1.2 d f) (λf=>g _ _ _ _ o h.2 d f)
def iC(o:ver<100)(h:T.c f ver=none)vs s:zC T n f ver vs s=.d:=by
 cases n with
 |zero=>rfl
 |succ n=>
  have m:decide (ver=100)=false:=decide_eq_false ⋯
  have l:decide (ver=101)=false:=decide_eq_false ⋯
  have k:decide (ver=200)=false:=decide_eq_false ⋯
  have i:decide (ver=300)=false:=decide_eq_false ⋯
  have g:decide (ver=301)=false:=decide_eq_false ⋯
  have b:decide (ver=102)=false:=decide_eq_false ⋯
  have a:decide (ver=302)=false:=decide_eq_false ⋯
  simp only[zC,h,m,l,k,i,g,b,a,Di,Bool.or_self,Bn,if_false];cases kH vs<;>rfl
def Ww(Q:JL T n es):JE T n (.h f ver es):=by
 intro j N X e o h i s;replace h:(if ver<100 then ckA j f (λw=>ckL j N es w) e else if ver<200 then ckB j N f ver es (λl m=>ckL l N es m) e else ckV j N ver es (λl m=>ckL l N es m) e)=true:=h
 split at h
 . rename_i hver
   replace h:=yt h;obtain⟨x,p,w,J,rfl,h⟩:=h;simp only[cf,decide_eq_true_eq,wR,AI]at h;obtain⟨⟨⟨⟨rfl,k⟩,r⟩,q⟩,H⟩:=h;show L2.PE X _ (tV X.K X.d i s ((zr (zC T n) T.b i es s).bind λB D=>zC T n x ver B D));cases hf:T.c x ver with
   |none=>
    refine zK λv V e=>?_;cases hv:zr (zC T n) T.b i es s with
    |e B D=>rw[hv]at e;simp only[zT,iC hver hf]at e;cases e
    |g _ _ _=>rw[hv]at e;cases e
    |d=>rw[hv]at e;cases e
   |some F=>
    have C:=o.p x ver F hf;cases w with
    |nil=>
     cases es with
     |b=>exact Zx C o.c (o.a.a x k) r
     |a _ _=>cases q
    |cons y m=>exact W4 C o.c (o.a.a x k) r H (by simp) ((Q _ _ _ _ o q).1 H i s)
 . rename_i hver
   split at h
   . cases h
   . rename_i hver2
     obtain⟨I,R⟩:=zU h;replace h:=Wa R;obtain⟨x,a,y,m,P,O,M,L,Z,Y,rfl,h⟩:=h;simp only[cf,decide_eq_true_eq,wR,AI]at h;obtain⟨⟨⟨⟨⟨⟨⟨⟨⟨⟨rfl,k⟩,r⟩,q⟩,G⟩,E⟩,z⟩,u⟩,t⟩,A⟩,S⟩:=h;by_cases hv302:ver=302
     . subst hv302
       exact cB o (zU I).2 k r q G E z u t i s
     rw[sdV,if_neg hv302]at k ⊢;exact Z2 o hver2 A hv302 (zU I).2 k r q G E z u t i s
def aS(f:Bf):f.nm∈wc:=by cases f<;>decide
def Tu(j:JL T n es):JE T n (.q f m es):=by
 intro z N X e o h b s;replace h:=yt h;obtain⟨x,p,v,l,rfl,h⟩:=h;replace h:=yX h;obtain⟨y,u,rfl,h⟩:=h;simp only[cf,decide_eq_true_eq,wR]at h;obtain⟨⟨⟨⟨k,rfl⟩,t⟩,r⟩,i⟩:=h;rcases (AN _ _).mp k with k|k
 . exact SG k o.d o.c (o.a.a _ t) (o.g _ (aS f)) i ((j _ _ _ _ o r).1 i b s)
 . unfold stF at k
   split at k
   . exact zK (zH rfl)
   . cases k
def d8(_:JE T n z)(M:JE T n a):JE T n (.r m z a w):=by
 intro sc N X e o h i s;replace h:=yt h;obtain⟨x,p,xs,u,rfl,h⟩:=h;replace h:=yy h;obtain⟨i1,rfl,h⟩:=h;replace h:=yt h;obtain⟨y,L,V,A,rfl,h⟩:=h;replace h:=yX h;obtain⟨c,R,rfl,h⟩:=h;cases R with
 |nil=>
  simp only[List.isEmpty_nil,if_true,cf,wR]at h;obtain⟨⟨⟨⟨B,G⟩,E⟩,U⟩,P⟩:=h;replace G:=of_decide_eq_true G;replace E:=of_decide_eq_true E;split at B
  case isTrue htx=>
   obtain⟨t,rfl⟩:=Ws htx;simp only[cf,decide_eq_true_eq]at B;obtain⟨⟨W,rfl⟩,rfl⟩:=B;obtain rfl:=Zh W;have I:=M _ _ _ _ o U i s;show L2.PE X _ (tV X.K X.d i s ((evE (zC T n) T.b i a s).bind λy Z=>iq m .h y (.m t) Z));cases ho:evE (zC T n) T.b i a s with
   |e v s1=>
    rw[ho]at I;have D:Av [c] X.a=(false,eval c X.a)::Av [] X.a:=L2.zd (zN P);have j:=L2.xA (p:=L) (pos:=A) (L2.da o.d) (o.a.a _ E) (o.g _ (by decide)) PySem.Pv.boot_set (L2.pac I L2.yV (zN P)) (he:=D)
    refine zV (L2.uc (p:=p) (pos:=u) L2.dR (o.a.a _ G) (o.g _ (by decide)) PySem.boot_len (L2.pac j L2.yV rfl)) λσ H Q ⟨ρ,hr,er,w⟩=>⟨ρ,hr,er,λC x H1 Y f F=>?_⟩
    have k:yb X.K X.d (RD X.K X.d) C H1 (iq m .h v (.m t) s1) Q:=w.mono Y f;simp only[iq]at k;split at k
    . rename_i vs hv
      split at k
      . rename_i ns hi
        split at k
        . rename_i hz
          obtain⟨a',V,rfl,O,q⟩:=lM f F hv;obtain rfl:=RDs.nG q hi;refine⟨a',ns,rfl,O,hz,λl S J=>⟨l,S,L2.dN ns,rfl,L2.zJ,Aq (L2.Qi ns) hz,?_⟩⟩;exact k _ _ _ (Ext.new f J _) (f.more J _) (.l _)
        . exact k.elim
      . exact k.elim
    . exact k.elim
   |g _ _ _=>exact zK (zH rfl)
   |d=>exact zK (zH rfl)
  cases B
 |cons d R=>cases h
def Wy(p:JE T n a)(j:JL T n es):JE T n (.L f m a es):=by intro d N X e o k c s;replace k:ckM f (ck d N a) (ckL d N es) e=true:=k;unfold ckM at k;obtain⟨z,x,A,y,w,rfl,h⟩:=WY k;simp only[cf,decide_eq_true_eq]at h;obtain⟨⟨⟨⟨⟨⟨rfl,v⟩,u⟩,g⟩,t⟩,r⟩,q⟩:=h;obtain⟨b,rfl,l⟩:=(j _ _ _ _ o u).2.2.2 y rfl g;exact Z1 q t g r (p _ _ _ _ o v c s) λi=>l c i
def PF(j:JE T n a)(j1:JO T n lo)(j2:JO T n hi)(j3:JO T n st):JE T n (.Q m a lo hi st):=by
 intro u N X e o h b s;replace h:=WZ h;obtain⟨A,x,y,z,w,v,rfl,h⟩:=h;simp only[cf]at h;obtain⟨⟨⟨r,l⟩,k⟩,i⟩:=h;obtain⟨p,q⟩:=j3 _ _ _ _ o i;refine PM (j _ _ _ _ o r b s) (λc=>(j1 _ _ _ _ o l).1 b c) (λc=>(j2 _ _ _ _ o k).1 b c) (λc=>p b c) ?_;rcases q with⟨f,d⟩|⟨t,f,d⟩
 . exact .inl ⟨f,λc=>d b c⟩
 . exact .inr ⟨t,f,λc g=>d b c g⟩
def lU(o:Ok T n sc N X)(f:∀C e F j,Ok T n csc N' (X.comp N' csc C e F j))t tg(h:ckT csc N' t tg=true):∃g,(∀C e F j,L2.PG (X.comp N' csc C e F j) tg g)/\oM X.K X.d t g:=by
 cases t with
 |a i=>
  cases tg with
  |Name y p=>
   simp only[ckT,cf,AN,decide_eq_true_eq]at h;exact⟨_,λC e F j=>eQ (f C e F j).a h.1 h.2,dC⟩
  |_=>cases h
 |b l=>
  cases tg with
  |Tuple m k p=>
   simp only[ckT,cf,decide_eq_true_eq]at h;refine⟨_,λC e F j=>?_,jh (is:=l)⟩;obtain⟨a,b,c⟩:=uu (f C e F j).a h.1;exact L2.gG (X:=X.comp N' csc C e F j) o.d a b c
  |_=>cases h
def Wx(G:JE T n elt)(E:JI T n it)(I:JCs T n ifs):JE T n (.p m N' fr elt t it ifs):=by
 intro W N X e o h c s;replace h:=qN h;obtain⟨x,w,i,O,k,l,rfl,h⟩:=h;simp only[cf,decide_eq_true_eq]at h;obtain⟨⟨⟨⟨⟨⟨y,M⟩,L⟩,F⟩,Z⟩,Y⟩,V⟩:=h;have S:=kA o.a y;have j:=o.comp S M y;obtain⟨g,D,z⟩:=lU o j t w L;have f:L2.PE X (.ListComp x [⟨w,i,O,0⟩] k l) (L2.ud fr (uI X.K X.d (zC T n) T.b it) g (uTs X.K X.d (zC T n) T.b ifs) λq=>L2.qC q (uE X.K X.d (zC T n) T.b elt)):=
  L2.qT o.d S (gH λc s=>E _ _ _ _ _ o F c s) D (λC u A v=>(I _ _ _ _ (j C u A v) Z).2.2) (λC u A v=>bM (X:=X.comp N' k C u A v) λc s=>G _ _ _ _ (j C u A v) Y c s) (z6 V)
 refine zV f λU H Q J=>uk (env:=c) (s:=s) (chk:=false) (m:=m) (body:=tK (zC T n) T.b elt ifs) z vB (λq B A P=>oF fT P) ?_ λ_ r s1 p s2 R=>?_
 . simp only[Bn,false_implies,if_true];exact J
 . have:=rj R
   simpa using this
def Zq(M:JE T n elt)(L:JI T n it)(O:JCs T n ifs)(D:JI T n it2)(E:JCs T n ifs2):JE T n (.z m N' fr elt t it ifs t2 it2 ifs2):=by
 intro sc N X e o h c s;replace h:=fo h;refine byG λZ l=>?_;obtain⟨x,w,R,fs,r,G,P,j,k,rfl,h⟩:=h;refine l ?_;simp only[cf,decide_eq_true_eq]at h;refine byG λZ l=>?_;obtain⟨⟨⟨⟨⟨⟨⟨⟨⟨⟨V,h2⟩,h3⟩,h4⟩,h5⟩,h6⟩,h7⟩,h8⟩,h9⟩,J⟩,I⟩:=h;refine l ?_;have S:=kA o.a V;have v:=o.comp S h2 V;have p:=lU o v;obtain⟨g,F,y⟩:=p t w h3;obtain⟨g2,B,q⟩:=p t2 r h6;have u:=L2.kz (cpos:=k) (elt:=x) (ifs:=fs) (ifs2:=P) (ts:=uTs X.K X.d (zC T n) T.b ifs) (ts2:=uTs X.K X.d (zC T n) T.b ifs2) (wi2:=uI X.K X.d (zC T n) T.b it2) (te:=uE X.K X.d (zC T n) T.b elt) o.d S (gH (tg:=w) λc s=>L _ _ _ _ _ o h4 c s) F (λC f A i=>(O _ _ _ _ (v C f A i) h5).2.2)
  (λC f A i=>gH (X:=X.comp N' j C f A i) (tg:=r) λc s=>D _ _ _ _ _ (v C f A i) h7 c s) B (λC f A i=>(E _ _ _ _ (v C f A i) h8).2.2)
  (λC f A i=>bM (X:=X.comp N' j C f A i) λc s=>M _ _ _ _ (v C f A i) h9 c s) (z6 J) (λc=>z6 I)
 refine zV u λσ H Q U=>uk (env:=c) (s:=s) (chk:=true) (m:=m) (body:=rh (zC T n) T.b elt ifs t2 it2 ifs2) y sk (λacc Y A W=>nj fT W q) ?_ λz=>by cases z
 simp only[true_implies];exact U
def T5:JL T n .b:=by intro d N X f o h;cases A1.mp h;exact⟨λ_ c s=>eH,⟨λe a p z=>(nomatch z),⟨λe a p z=>(nomatch z),λy z=>(nomatch z)⟩⟩⟩
def W0(j:JE T n a)(v:JL T n as):JL T n (.a a as):=by
 intro w N X m o h;replace h:=yX h;obtain⟨e,m,rfl,h⟩:=h;simp only[cf]at h;obtain⟨f,d⟩:=h;obtain⟨u,t,r,A⟩:=v _ _ _ _ o d;refine⟨λi c s=>?_,λx l p z c s=>?_,λx l p z c s=>?_,λy z i=>?_⟩
 . rw[zq,cf]at i
   exact kP i.1 (j _ _ _ _ o f c s) λg=>u i.2 c g
 . cases as with
   |b=>
    cases A1.mp d;exact L2.gD (j _ _ _ _ o f c s)
   |a b q=>
    cases m with
    |nil=>cases d
    |cons y k=>exact Zw (j _ _ _ _ o f c s) λg=>t y k p rfl c g
 . cases as with
   |b=>
    cases A1.mp d;exact L2.gD (j _ _ _ _ o f c s)
   |a b q=>
    cases m with
    |nil=>cases d
    |cons y k=>exact PL (j _ _ _ _ o f c s) λg=>r y k p rfl c g
 . cases z
   cases as with
   |b=>exact⟨a,rfl,λc s=>j _ _ _ _ o f c s⟩
   |a _ _=>cases d
def PH:JO T n .b:=by intro c N X e o h;cases Bt.mp h;exact⟨λa s=>PQ,.inl ⟨rfl,λa d=>rfl⟩⟩
def T6(j:JE T n a):JO T n (.a a):=by
 intro p N X e o h;replace h:=pP h;obtain⟨q,rfl,h⟩:=h;refine⟨λf s=>SM (j _ _ _ _ o h f s),.inr ⟨_,rfl,λf l m z=>?_⟩⟩;have k:((evE (zC T n) T.b f a l).bind λv l=>match v with|.c i=>.e (some i) l|_=>.d)=.e none m:=z
 cases hv:evE (zC T n) T.b f a l with
 |e v s3=>rw[hv]at k;cases v<;>cases k
 |g _ _ _=>rw[hv]at k;cases k
 |d=>rw[hv]at k;cases k
def Ts(j:JC T n c):JC T n (.d c):=by intro b N X e o h a s;replace h:=qO h;obtain⟨x,p,rfl,h⟩:=h;exact SV (j _ _ _ _ o h a s)
def Tr(f:JC T n c)(j:JCs T n cs):JC T n (.b c cs):=by intro i N X e o h a s;replace h:=mM h;obtain⟨g,x,p,rfl,h⟩:=h;simp only[cf]at h;exact(Z8 (f _ _ _ _ o h.1 a s) λd=>(j _ _ _ _ o h.2).1 _ a d).pt
def PD(d:JC T n c)(j:JCs T n cs):JC T n (.f c cs):=by intro i N X e o h a s;replace h:=mM h;obtain⟨g,x,p,rfl,h⟩:=h;simp only[cf]at h;exact(UX (d _ _ _ _ o h.1 a s) λb=>(j _ _ _ _ o h.2).2.1 _ a b).pt
def Wv:JCs T n .a:=by intro c N X d o h;cases A1.mp h;exact⟨λp e s=>iW,λp e s=>cI,.b⟩
def Zn(g:JC T n c)(j:JCs T n cs):JCs T n (.b c cs):=by intro k N X l o h;replace h:=yX h;obtain⟨m,i,rfl,h⟩:=h;simp only[cf]at h;obtain⟨a,b,d⟩:=j _ _ _ _ o h.2;exact⟨λp e s=>Z8 (g _ _ _ _ o h.1 e s) λf=>a p e f,λp e s=>UX (g _ _ _ _ o h.1 e s) λf=>b p e f,.a (NQ λe s=>g _ _ _ _ o h.1 e s) d⟩
def QO{e:Expr}(h:e.ctorIdx=25):∃j k p,e=.Tuple j k p:=GD (motive_1:=λe=>∃j k p,e=Expr.Tuple j k p) e h λj k p=>⟨j,k,p,rfl⟩
def T4(j:JE T n a):JI T n (.f a):=λc N X e t o h b s=>SK (j _ _ _ _ o h b s)
def d9(j:JE T n a):JI T n (.d a):=by intro l N X e t o h b s;replace h:=yt h;obtain⟨k,m,x,p,rfl,h⟩:=h;replace h:=yy h;obtain⟨y,rfl,h⟩:=h;simp only[cf,decide_eq_true_eq,wR]at h;obtain⟨⟨⟨rfl,i⟩,f⟩,c⟩:=h;exact cF c (o.a.a _ i) (o.g _ (by decide)) (j _ _ _ _ o f b s)
def cA(f:JE T n a)(j:JE T n b):JI T n (.g a b):=by intro u N X e t o h c s;replace h:=yt h;obtain⟨r,z,x,v,rfl,h⟩:=h;replace h:=YE h;obtain⟨q,y,rfl,h⟩:=h;simp only[cf,decide_eq_true_eq,wR]at h;obtain⟨⟨⟨⟨⟨rfl,p⟩,m⟩,l⟩,k⟩,i⟩:=h;exact cH k i (o.a.a _ p) (o.g _ (by decide)) (f _ _ _ _ o m c s) λd=>j _ _ _ _ o l c d
def Wz(j:JE T n a):JI T n (.h a):=by intro r N X e q o h b s;obtain⟨l,c⟩:=zU h;obtain⟨t,k,p,rfl⟩:=QO (of_decide_eq_true l);clear h;have h:=c;replace h:=yt h;obtain⟨m,v,x,u,rfl,h⟩:=h;replace h:=yy h;obtain⟨y,rfl,h⟩:=h;simp only[cf,decide_eq_true_eq,wR]at h;obtain⟨⟨⟨rfl,i⟩,f⟩,d⟩:=h;exact W7 d (o.a.a _ i) (o.g _ (by decide)) (j _ _ _ _ o f b s)
section
variable (T:Tbl)(n:Nat)
mutual
theorem jE:∀a:Ex,JE T n a
 |.g _=>Zz
 |.e _=>Z4
 |.C _=>UW
 |.P _ _=>PN
 |.j _ _ a b=>Zo (jE a) (jE b)
 |.D a=>Zr (jE a)
 |.K a=>Tz (jE a)
 |.l _ a b=>Tv (jE a) (jE b)
 |.w _ _ a b c=>Zp (jE a) (jE b) (jE c)
 |.y a es=>Tt (jE a) (jL es)
 |.M _ _=>λS N X e o h=>by cases h
 |.G c a b=>Tw (jC c) (jE a) (jE b)
 |.k es=>T3 (jL es)
 |.s _ es=>Tx (jL es)
 |.E=>W5
 |.F _=>W6
 |.O _ _=>λS N X e o h=>by cases h
 |.A _=>λS N X e o h U s=>zK (zH rfl)
 |.J _ _=>λS N X e o h=>by cases h
 |.I _ _ _ _ _ _ _=>λS N X e o h=>by cases h
 |.B _ _ _ _ _ _ _ _ _ _=>λS N X e o h=>by cases h
 |.h _ _ es=>Ww (jL es)
 |.q _ _ es=>Tu (jL es)
 |.H _ _=>λS N X e o h=>by cases h
 |.L _ _ a es=>Wy (jE a) (jL es)
 |.u a b=>UU (jE a) (jE b)
 |.Q _ a lo hi st=>PF (jE a) (jO lo) (jO hi) (jO st)
 |.p _ _ _ elt _ it ifs=>Wx (jE elt) (jI it) (jCs ifs)
 |.z _ _ _ elt _ it ifs _ it2 ifs2=>Zq (jE elt) (jI it) (jCs ifs) (jI it2) (jCs ifs2)
 |.r _ z a _=>d8 (jE z) (jE a)
theorem jL:∀a:Exs,JL T n a
 |.b=>T5
 |.a a as=>W0 (jE a) (jL as)
theorem jO:∀a:OEx,JO T n a
 |.b=>PH
 |.a a=>T6 (jE a)
theorem jC:∀a:Cn,JC T n a
 |.a (.l _ a b)=>SE (jE a) (jE b)
 |.a (.w _ _ a b c)=>Zv (jE a) (jE b) (jE c)
 |.a (.g v)=>zy (jE (.g v)) rfl
 |.a (.e v)=>zy (jE (.e v)) rfl
 |.a (.C v)=>zy (jE (.C v)) rfl
 |.a (.P v w)=>zy (jE (.P v w)) rfl
 |.a (.j m o a b)=>zy (jE (.j m o a b)) rfl
 |.a (.D a)=>zy (jE (.D a)) rfl
 |.a (.K a)=>zy (jE (.K a)) rfl
 |.a (.y a b)=>zy (jE (.y a b)) rfl
 |.a (.M a b)=>zy (jE (.M a b)) rfl
 |.a (.G a b c)=>zy (jE (.G a b c)) rfl
 |.a (.k a)=>zy (jE (.k a)) rfl
 |.a (.s m a)=>zy (jE (.s m a)) rfl
 |.a .E=>zy (jE .E) rfl
 |.a (.F t)=>zy (jE (.F t)) rfl
 |.a (.O a b)=>zy (jE (.O a b)) rfl
 |.a (.A a)=>zy (jE (.A a)) rfl
 |.a (.J a b)=>zy (jE (.J a b)) rfl
 |.a (.I a b c d e f g)=>zy (jE (.I a b c d e f g)) rfl
 |.a (.B a b c d e f g h i j)=>zy (jE (.B a b c d e f g h i j)) rfl
 |.a (.h a b c)=>zy (jE (.h a b c)) rfl
 |.a (.q a b c)=>zy (jE (.q a b c)) rfl
 |.a (.H a b)=>zy (jE (.H a b)) rfl
 |.a (.L a b c d)=>zy (jE (.L a b c d)) rfl
 |.a (.u a b)=>zy (jE (.u a b)) rfl
 |.a (.Q a b c d e)=>zy (jE (.Q a b c d e)) rfl
 |.a (.p a b c d e f g)=>zy (jE (.p a b c d e f g)) rfl
 |.a (.z a b c d e f g h i j)=>zy (jE (.z a b c d e f g h i j)) rfl
 |.a (.r a b c d)=>zy (jE (.r a b c d)) rfl
 |.d c=>Ts (jC c)
 |.b c cs=>Tr (jC c) (jCs cs)
 |.f c cs=>PD (jC c) (jCs cs)
theorem jCs:∀a:Cns,JCs T n a
 |.a=>Wv
 |.b c cs=>Zn (jC c) (jCs cs)
theorem jI:∀a:Itb,JI T n a
 |.f a=>T4 (jE a)
 |.d a=>d9 (jE a)
 |.g a b=>cA (jE a) (jE b)
 |.h a=>Wz (jE a)
 |.i _ _ _=>λy N X e w o h=>by cases h
 |.j _ _=>λy N X e w o h=>by cases h
end
end
section
variable (K:KF)(mg:Str->Option Value)
def oj(h:Own)(H:L2.Hp)(o:Out Fl)(D:L2.Ends):Prop:=
 match o with
 |.e (.a e) s'=>∀f A g,Ext h H f A->HR K mg f s' A->ER K mg f A e g->D.a g A
 |.e (.c e) s'=>∀f A g,Ext h H f A->HR K mg f s' A->ER K mg f A e g->D.c g A
 |.e (.d e) s'=>∀f A g,Ext h H f A->HR K mg f s' A->ER K mg f A e g->D.d g A
 |.e (.b v) s'=>∀f A x,Ext h H f A->HR K mg f s' A->RD K mg f A v x->D.b x A
 |_=>False
def tSt(e:Env)(s:Sto)(o:Out Fl):L2.TS:=λD b H=>∃a,HR K mg a s H/\ER K mg a H e b/\oj K mg a H o D
end
def oj.mono(w:oj K mg ρ H o D)(x:Ext ρ H ρ' H')(h:HR K mg ρ' s1 H'):oj K mg ρ' H' o D:=by
 cases o with
 |e m s'=>
  cases m with
  |a e=>exact λf A i k l r=>w f A i (x.trans h k) l r
  |c e=>exact λf A i k l r=>w f A i (x.trans h k) l r
  |d e=>exact λf A i k l r=>w f A i (x.trans h k) l r
  |b v=>exact λf A y k l r=>w f A y (x.trans h k) l r
 |g _ _ _=>exact w
 |d=>exact w
noncomputable def uq:Expr->Bool
 |.ListComp ..|.SetComp ..|.DictComp ..=>false
 |_=>true
def sj(h:uq e=true):D9 e t l env=pure false:=by cases e<;>first|rfl|cases h
def bh:swapsWithSole [.Subscript o i p] e l env=pure false:=by cases e<;>rfl
def jZ:swappedStores [.Subscript o i p] e env=pure none:=by cases e<;>rfl
def gc(h:plain i=true)v:assign (.Subscript o i p) env v=(do
 let e <-holding [v] (eval o env);let j <-holding [v,e] (eval i env)
 standAt p
 holding [v,e,j] (setItem e j v)
 release [v,e,j] []):=by
 cases i<;>first|rfl|cases h
section
variable {X:L2.Cx}{env:Env}{s:Sto}
def xQ{t:L2.TS}(h:∀D e H,¬t D e H):L2.PS X st t:=λp s e H D I q=>(h D e H q).elim
def QC(h:∀v j,o≠.e v j):¬tSt X.K X.d env s o D σ H:=by
 rintro ⟨a,_,_,w⟩;cases o with
 |e v j=>exact h v j rfl
 |g _ _ _=>exact w
 |d=>exact w
def zh(h:∀v j,o≠.e v j):L2.PS X st (tSt X.K X.d env s o):=xQ λ_ _ _=>QC h
def W8(k:uq e=true)(h:L2.PE X e (tV X.K X.d env s o)):L2.PS X (.Expr e pos) (tSt X.K X.d env s (o.bind λ_ j=>.e (.a env) j)):=by
 cases o with
 |e v j=>exact yi (L2.sU h (sj k)) λD i H ⟨ρ,hr,er,w⟩=>⟨ρ,hr,er,λb x A f c r=>w b A i f c (er.mono f)⟩
 |g _ _ _=>exact zh (zH rfl)
 |d=>exact zh (zH rfl)
def SR(h:L2.PE X e (tV X.K X.d env s o)):L2.PS X (.Return (some e) pos) (tSt X.K X.d env s (o.bind λv j=>.e (.b v) j)):=by
 cases o with
 |e v j=>exact yi (L2.vI h) λD i H ⟨ρ,hr,er,w⟩=>⟨ρ,hr,er,λa x A f c r=>w a A x f c r⟩
 |g _ _ _=>exact zh (zH rfl)
 |d=>exact zh (zH rfl)
def iV(r:L2.PS X st (L2.tu te (L2.wH i)))(h:∀j H Q,tV X.K X.d env s o j H Q->te j H Q):L2.PS X st (tSt X.K X.d env s (o.bind λv y=>.e (.a (env.set i (some v))) y)):=by
 cases o with
 |e v y=>exact yi r λD j H ⟨ρ,hr,er,w⟩=>h _ _ _ ⟨ρ,hr,er,λb x A f c k=>w b A _ f c ((er.mono f).set i k)⟩
 |g _ _ _=>exact zh (zH rfl)
 |d=>exact zh (zH rfl)
def Tg op m:(∃r,L2.PIp X op.op r/\∀i j H Q v s w,binOp m op (.c i) (.c j) s=.e v w->(∃k:Int,v=.c k/\w=s/\(Q (.d k) H->r (.d i) (.d j) H Q)))\/(op=.g\/op=.h\/op=.i\/op=.f):=by
 cases op with
 |a=>exact .inl ⟨_,L2.Wm,λi j H Q v s w h=>by cases h;exact⟨_,rfl,rfl,λq=>⟨i,j,rfl,rfl,q⟩⟩⟩
 |e=>exact .inl ⟨_,L2.Wq,λi j H Q v s w h=>by cases h;exact⟨_,rfl,rfl,λq=>⟨i,j,rfl,rfl,q⟩⟩⟩
 |b=>exact .inl ⟨_,L2.Wo,λi j H Q v s w h=>by
  simp only[binOp]at h;split at h
  . rename_i hz;cases h;exact⟨_,rfl,rfl,λq=>⟨i,j,rfl,rfl,hz,q⟩⟩
  . cases h⟩
 |d=>exact .inl ⟨_,L2.Zf,λi j H Q v s w h=>by
  simp only[binOp]at h;split at h
  . rename_i hz;cases h;exact⟨_,rfl,rfl,λq=>⟨i,j,rfl,rfl,hz,q⟩⟩
  . cases h⟩
 |c=>exact .inl ⟨_,L2.Wn,λi j H Q v s w h=>by
  simp only[binOp]at h;split at h
  . rename_i hz;cases h;exact⟨_,rfl,rfl,λq=>⟨i,j,rfl,rfl,hz,q⟩⟩
  . cases h⟩
 |g=>exact .inr (.inl rfl)
 |h=>exact .inr (.inr (.inl rfl))
 |i=>exact .inr (.inr (.inr (.inl rfl)))
 |f=>exact .inr (.inr (.inr (.inr rfl)))
def WB{i:Nat}{k:Bop}{f:Sto->Out Val}{r:Fl}{l:Sto}(h:(match env[i]? with
 |some (some (.c x))=>(f s).bind λv j=>match v with
  |.c y=>(binOp false k (.c x) (.c y) j).bind λz w=>.e (Fl.a (env.set i (some z))) w
  |_=>.d
 |some (some (.f x))=>if k=Bop.a then (f s).bind λv j=>match v with
  |.f y=>(binOp false .a (.f x) (.f y) j).bind λz w=>.e (Fl.a (env.set i (some z))) w
  |_=>.d
  else .d
 |_=>.d:Out Fl)=.e r l):(∃a b j z,env[i]?=some (some (.c a))/\f s=.e (.c b) j/\binOp false k (.c a) (.c b) j=.e z l/\r=Fl.a (env.set i (some z))) \/
  (k=Bop.a/\∃a b,env[i]?=some (some (.f a))/\f s=.e (.f b) l/\a.length+b.length<=zO/\r=Fl.a (env.set i (some (.f (a++b))))):=by
 generalize he:env[i]?=o at h;cases o with
 |none=>cases h
 |some n=>
  cases n with
  |none=>cases h
  |some m=>
   cases m with
   |c a=>
    refine .inl ⟨a,?_⟩;generalize hv:f s=o at h;cases o with
    |e v j=>
     cases v with
     |c b=>
      simp only[zT]at h;generalize hb:binOp false k (.c a) (.c b) j=o at h;cases o with
      |e z w=>cases h;exact⟨b,j,z,rfl,rfl,hb,rfl⟩
      |g _ _ _=>cases h
      |d=>cases h
     |_=>cases h
    |g _ _ _=>cases h
    |d=>cases h
   |f a=>
    by_cases ho:k=.a
    . refine .inr ⟨ho,a,?_⟩
      simp only[if_pos ho]at h;generalize hv:f s=o at h;cases o with
      |e v j=>
       cases v with
       |f b=>
        simp only[zT,binOp]at h;by_cases hz:a.length+b.length<=zO
        . rw[if_pos hz]at h;cases h;exact⟨b,rfl,rfl,hz,rfl⟩
        . rw[if_neg hz]at h;cases h
       |_=>cases h
      |g _ _ _=>cases h
      |d=>cases h
    . simp only[if_neg ho]at h;cases h
   |_=>cases h
def OJ(h:∀r j,o=.e r j->L2.PS X st (tSt X.K X.d env s (.e r j))):L2.PS X st (tSt X.K X.d env s o):=by
 cases o with
 |e r j=>exact h r j rfl
 |g _ _ _=>exact zh (zH rfl)
 |d=>exact zh (zH rfl)
def SN{i:Nat}{x:Str}{e:Expr}{p:Bop}{f:Sto->Out Val}{J A:Pos}(V:¬(p=.g\/p=.h\/p=.i\/p=.f))(hN:X.N.Nodup)(hi:X.N[i]?=some x)(hx:L2.Loc X.a.scope x)(hf:X.n x=true\/X.a.scope.names.lookup x=some .local)(h:∀s,L2.PE X e (tV X.K X.d env s (f s))) :
 L2.PS X (.AugAssign (.Name x A) p.op e J) (tSt X.K X.d env s (match env[i]? with
 |some (some (.c x))=>(f s).bind λv F=>match v with
  |.c y=>(binOp false p (.c x) (.c y) F).bind λz L=>.e (.a (env.set i (some z))) L
  |_=>.d
 |some (some (.f x))=>if p=.a then (f s).bind λv F=>match v with
  |.f y=>(binOp false .a (.f x) (.f y) F).bind λz L=>.e (.a (env.set i (some z))) L
  |_=>.d
  else .d
 |_=>.d)):=by
 refine OJ λr s' hO=>?_;have B:=h s;rcases WB hO with⟨a,b,F,z,Y,P,hb,rfl⟩|⟨rfl,a,b,Y,P,hz,rfl⟩
 . rw[P]at B
   rcases Tg (X:=X) p false with⟨r,R,hq⟩|z
   . obtain⟨k,rfl,rfl,q⟩:=hq a b (λ_=>none) (λ_ _=>True) z F s' hb
     refine yi (L2.Y0 hN hi hx B R hf) λD W H G=>?_;obtain⟨E,T,t,w⟩:=G;obtain⟨xv,O,M⟩:=t.a i _ Y;cases M;refine⟨_,O,E,T,t,λj y U u o I=>?_⟩;cases I;obtain⟨k',Z,_,q'⟩:=hq a b U (λz S=>D.a (W.set i (some z)) S) _ _ _ hb;cases Z;exact q' (w j U _ u o ((t.mono u).set i (.l _)))
   . exact absurd z V
 . rw[P]at B
   refine yi (L2.Y0 hN hi hx B L2.d6 hf) λD W H G=>?_;obtain⟨E,T,t,w⟩:=G;obtain⟨xv,O,M⟩:=t.a i _ Y;refine⟨_,O,E,T,t,λj y U u o I=>?_⟩;have Z:=M.mono u;cases Z with
   |m n1 h1 q1=>
    cases I with
    |m n2 h2 q2=>
     refine⟨_,_,_,_,rfl,rfl,h1,h2,?_,uW o (q1.append q2) λC z S x2 Q rz=>w C S _ (u.trans o x2) Q ((t.mono (u.trans o x2)).set i rz)⟩;rw[<-q1.length,<-q2.length,<-yh];exact hz
def Z5{a i e:Expr}{o:Out Val}{R Q:Sto->Out Val}{p l:Pos}(P:plain i=true)(h1:L2.PE X e (tV X.K X.d env s o))(h2:∀F,L2.PE X a (tV X.K X.d env F (R F)))(W:∀F,L2.PE X i (tV X.K X.d env F (Q F))) :
 L2.PS X (.Assign [.Subscript a i p] e l) (tSt X.K X.d env s (o.bind λv F=>(R F).bind λx M=>(Q M).bind λy L=>match x,y with
  |.j r,.c k=>(match L[r]? with
   |some (.c vs)=>(match L2.ixN vs.length k with|some j=>.e (.a env) (upd L r (vs.set j v))|dS=>.d)
   |_=>.d)
  |_,_=>.d)):=by
 cases o with
 |e v F=>
  have u:=h2 F;simp only[zT];cases hb:R F with
  |e x M=>
   rw[hb]at u;have t:=W M;simp only[zT];cases hc:Q M with
   |e y L=>
    rw[hc]at t;simp only[zT];have b:L2.PS X (.Assign [.Subscript a i p] e l) (L2.tu _ (L2.Qu _ _ L2.Ul)):=L2.Ro h1 (L2.Rk u t L2.set_list (gc P)) bh jZ;cases x with
    |j r=>
     cases y with
     |c k=>
      simp only[];cases hs:L[r]? with
      |none=>exact zh (zH rfl)
      |some cl=>
       cases cl with
       |e _=>exact zh (zH rfl)
       |f _=>exact zh (zH rfl)
       |d _=>exact zh (zH rfl)
       |c vs=>
        simp only[];cases hj:L2.ixN vs.length k with
        |none=>exact zh (zH rfl)
        |some j=>
         refine yi b λD Y H ⟨ρ,hr,er,w⟩=>⟨ρ,hr,er,λE xv H1 J n U=>⟨E,n,er.mono J,λB xo H2 I m S=>⟨B,m,(er.mono J).mono I,λA xi H3 G h O=>?_⟩⟩⟩;cases O;have N:=S.mono G;cases N with
         |C e0 _=>
          obtain⟨b',Z,V,z,q⟩:=h.obj r _ hs;rw[e0]at V;cases V;have T:=(J.trans n I).trans m G;refine⟨_,Z,k,j,rfl,rfl,z,by rw[<-q.length];exact hj,?_⟩
          exact w A _ Y (T.trans h (Ext.write h e0 z _)) (h.write e0 z (RDs.set ((U.mono I).mono G) j q)) ((er.mono T).mono (Ext.write h e0 z _))
     |_=>exact zh (zH rfl)
    |_=>exact zh (zH rfl)
   |g _ _ _=>exact zh (zH rfl)
   |d=>exact zh (zH rfl)
  |g _ _ _=>exact zh (zH rfl)
  |d=>exact zh (zH rfl)
 |g _ _ _=>exact zh (zH rfl)
 |d=>exact zh (zH rfl)
end
section
variable {X:L2.Cx}{env:Env}{s:Sto}
def uSs(K:KF)(m:Str->Option Value)(A:Calls)(G:Str->Option Val)(b:Sms):L2.TS:=λD a H=>∃env s,tSt K m env s (zP A G env b s) D a H
def PU{m l:Sto->Out Fl}(q:L2.PT X c (tT X.K X.d env s o))(z:L2.PSs X a ta)(u:L2.PSs X b tb)(p:∀j D w H,tSt X.K X.d env j (m j) D w H->ta D w H)(n:∀j D w H,tSt X.K X.d env j (l j) D w H->tb D w H) :
 L2.PS X (.If c a b pos) (tSt X.K X.d env s (o.bind λt j=>if t then m j else l j)):=by
 cases o with
 |e v j=>
  refine yi (L2.jF q z u) λD w H ⟨ρ,hr,er,wt⟩=>⟨ρ,hr,er,λf x A k h r=>?_⟩;have i:=wt.mono k h;cases r;cases v with
  |true=>exact L2.pB (p j D w A ⟨f,h,er.mono k,i⟩)
  |false=>exact L2.rK (n j D w A ⟨f,h,er.mono k,i⟩)
 |g _ _ _=>exact zh (zH rfl)
 |d=>exact zh (zH rfl)
def ZS{m:Env->Sto->Out Fl}{Y:L2.TS}(W:Walk K mg ρ H r J)(TG:oM K mg t g)(hb:∀env s D F H,tSt K mg env s (m env s) D F H->Y D F H)
 (hr:HR K mg ρ s H) (er:ER K mg ρ H env F) (w:oj K mg ρ H (uF r t m r.a env s) D):L2.pY J g Y D F H:=by
 refine kI (n:=r.a.length) (λi z B=>∃f A l,HR K mg f A B/\ER K mg f B l z/\Ext ρ H f B/\uF r t m (r.a.drop i) l A=uF r t m r.a env s) ⟨ρ,s,env,hr,er,Ext.refl,by rw[En]⟩ ?_ ?_
 . rintro z B ⟨f,A,l,k,I,N,h⟩
   rw[List.drop_length,uF]at h;split at h
   . rename_i ho
     rw[<-h]at w;exact⟨W.a f B A _ N.mv k ho rfl,w f B z N k I⟩
   . rw[<-h]at w;exact w.elim
 . rintro i z B M ⟨f,A,l,k,I,N,h⟩
   rw[BX M,uF]at h;split at h
   . rename_i ho
     obtain⟨V,hy⟩:=W.c f B A i (r.a[i]) N.mv k ho (xd M);refine⟨V,λx Q y=>?_⟩;obtain⟨hH,S⟩:=hy x Q y;split at h
     . rw[<-h]at w;exact w.elim
     . rename_i env' he
       have C:HR K mg f A Q/\Ext f B f Q:=by
        rcases hH with e|⟨q,o,L,e⟩
        . subst e;exact⟨k,Ext.refl⟩
        . subst e;exact⟨k.more L o,Ext.new k L o⟩
       have R:=N.trans k C.2;refine TG f A Q _ x l env' z _ C.1 S (I.mono C.2) he λT X=>hb env' A _ T Q ⟨f,C.1,X,?_⟩;cases hc:m env' A with
       |e fl Z=>
        rw[hc]at h;simp only[zT]at h;cases fl with
        |a e=>exact λp P E G u j=>⟨p,Z,e,u,j,R.trans C.1 G,h⟩
        |d e=>exact λp P E G u j=>⟨p,Z,e,u,j,R.trans C.1 G,h⟩
        |c e=>
         simp only[]at h;rw[<-h]at w;exact λp P E G u j=>w p P E (R.trans C.1 G) u j
        |b v=>
         simp only[]at h;rw[<-h]at w;exact λp P O G u U=>w p P O (R.trans C.1 G) u U
       |g _ _ _=>rw[hc]at h;simp only[aU]at h;rw[<-h]at w;exact w.elim
       |d=>rw[hc]at h;simp only[iB]at h;rw[<-h]at w;exact w.elim
   . rw[<-h]at w;exact w.elim
def SQ(p:X.i=λ_ _=>False)(z:X.j=true)(q:plain iter=true)(u:∀env s,L2.PI X tg iter (tI (K:=X.K) (mg:=X.d) env s (yM Φ G env it s)))(v:L2.PG X tg g)(T:oM X.K X.d t g)
 (y:L2.PSs X body (uSs X.K X.d Φ G b)):L2.PS X (.For tg iter body [] pos) (tSt X.K X.d env s ((yM Φ G env it s).bind λr l=>uF r t (λe o=>zP Φ G e b o) r.a env l)):=by
 have c:PassesOwn (model X.f X.w) X.A X.a X.i:=by rw[p];exact PassesOwn.never
 refine yi (L2.Rp c z (gH u) v y (z6 q)) λD m H ⟨ρ,hr,er,w⟩=>⟨env,s,ρ,hr,er,?_⟩;cases hv:yM Φ G env it s with
 |e r l=>
  rw[hv]at w;exact λn B J x k W=>ZS W T (λenv s D m H h=>⟨env,s,h⟩) k (er.mono x) (w.mono x k)
 |g _ _ _=>rw[hv]at w;exact w.elim
 |d=>rw[hv]at w;exact w.elim
def W9:L2.PSs X [] (tSt X.K X.d env s (.e (.a env) s)):=sV L2.lF λD b H ⟨ρ,hr,er,w⟩=>w ρ H b Ext.refl hr er
def Z6{m:Stmt}{r:List Stmt}{o:Out Fl}{f:Env->Sto->Out Fl}{t:L2.TS}(q:L2.PS X m (tSt X.K X.d env s o))(p:L2.PSs X r t)(n:∀env s D F H,tSt X.K X.d env s (f env s) D F H->t D F H) :
 L2.PSs X (m::r) (tSt X.K X.d env s (o.bind λj y=>match j with|.a e=>f e y|j=>.e j y)):=by
 refine sV (L2.ya q p) λD F H ⟨ρ,hr,er,w⟩=>⟨ρ,hr,er,?_⟩;cases o with
 |e j y=>
  simp only[zT]at w;cases j with
  |a e=>exact λk A i x h l=>n e y D i A ⟨k,h,l,w.mono x h⟩
  |c e=>exact w
  |d e=>exact w
  |b v=>exact w
 |g _ _ _=>exact w.elim
 |d=>exact w.elim
end
def cS(c:Const)(k:Str->Bool):Bool:=el c.ctorIdx 5 λh=>Const.str.elim (motive:=λ_=>Bool) c h k
def U6(h:cS c k=true):∃x,c=.str x/\k x=true:=by obtain⟨a,h⟩:=yB h;obtain⟨x,rfl⟩:∃x,c=.str x:=Const.str.elim (motive:=λc=>∃x,c=Const.str x) c a λx=>⟨x,rfl⟩;exact⟨x,rfl,h⟩
def eS(e:Expr):Bool:=WV e λc _ _=>cS c λx=>decide (x.length<=1000)
def iH(h:eS e=true):∃x k p,e=.Constant (.str x) k p/\x.length<=1000:=by obtain⟨c,k,p,rfl,b⟩:=qj h;obtain⟨x,rfl,a⟩:=U6 b;exact⟨x,k,p,rfl,of_decide_eq_true a⟩
def eF(e:Expr)(k:Expr->Bool):Bool:=Qn e λu c s _=>decide (c=-1)&&s.isNone&&k u
def ZF(h:eF e k=true):∃u p,e=.FormattedValue u (-1) none p/\k u=true:=by obtain⟨u,c,s,p,rfl,d⟩:=ZG h;obtain⟨a,b⟩:=zU d;rw[of_decide_eq_true (zU a).1,Bt.mp (zU a).2];exact⟨u,p,rfl,b⟩
def eFs(e:Expr)(k:Expr->Expr->Bool):Bool:=eJn e λx _=>lc x λd x=>lc x λa x=>lc x λb x=>lc x λf x=>l1 x λc=>(eS d&&(eS b&&eS c))&&eF a λu=>eF f λv=>k u v
def WW(h:eFs e k=true):∃u v F y w k1 k2 W U S O M L j,e=.JoinedStr [.Constant (.str F) k1 U,.FormattedValue u (-1) none S,.Constant (.str y) k2 O,.FormattedValue v (-1) none M,.Constant (.str w) W L] j/\F.length<=1000/\y.length<=1000/\w.length<=1000/\k u v=true:=by obtain⟨x,j,rfl,p⟩:=WX h;obtain⟨A,x,rfl,o⟩:=yX p;obtain⟨t,x,rfl,n⟩:=yX o;obtain⟨s,x,rfl,m⟩:=yX n;obtain⟨r,x,rfl,l⟩:=yX m;obtain⟨q,rfl,i⟩:=yy l;obtain⟨a,g⟩:=zU i;obtain⟨F,k1,U,rfl,d⟩:=iH (zU a).1;obtain⟨y,k2,O,rfl,c⟩:=iH (zU (zU a).2).1;obtain⟨w,W,L,rfl,z⟩:=iH (zU (zU a).2).2;obtain⟨u,S,rfl,f⟩:=ZF g;obtain⟨v,M,rfl,b⟩:=ZF f;exact⟨u,v,F,y,w,k1,k2,W,U,S,O,M,L,j,rfl,d,c,z,b⟩
def NA(s:Scope)(N:List Str)(e:Exs)(a:Expr):Bool:=eFs a λu v=>ckL s N e [u,v]
def U9(s:Scope)(N:List Str)(c:Str)(v:Nat)(e:Exs)(l:List Expr->Bool)(f:Stmt):Bool:=if v=1 then (sRs f λq b _=>b.isNone&&o1 q λq=>eCN q λx d=>decide (x=c)&&wR s x&&!(x == ("__debug__":Str))&&(l d&&zq d&&decide (d.length=2)&&decide (x="TooGreat"))) else (sRs f λq b _=>b.isNone&&o1 q λq=>eCN q λx d=>l1 d λa=>decide (x=c)&&wR s x&&!(x == ("__debug__":Str))&&(((l [a]&&plain a)||NA s N e a)&&decide (x≠"TooGreat")))
noncomputable def Wr:Ex->Bool
 |.p ..|.z ..|.A ..=>true
 |_=>false
def NK(e:Ex)(v:Expr):Bool:=Wr e||uq v
mutual
noncomputable def ckS(z:Scope)(N:List Str):Sm->Stmt->Bool
 |.g e,st=>(Ob st λx _=>ck z N e x&&uq x)
 |.f e,st=>(Od st λq _=>o1 q λx=>ck z N e x)
 |.r,_=>false
 |.d i e,st=>(Rx st λM v _=>l1 M λt=>eName t λx _=>decide (N[i]?=some x)&&(decide (z.names.lookup x=some .local)||decide (z.names.lookup x=some .cell))&&(ck z N e v&&(Pf e&&NK e v)))
 |.p _ _,_=>false
 |.w _ _,_=>false
 |.s i op e,st=>(Oa st λt o v _=>eName t λx _=>decide (N[i]?=some x)&&(decide (z.names.lookup x=some .local)||decide (z.names.lookup x=some .cell))&&decide (o=op.op)&&ck z N e v&&!(decide (op=.g)||decide (op=.h)||decide (op=.i)||decide (op=.f)))
 |.u _ _ _,_=>false
 |.l o i e,st=>(Rx st λM v _=>l1 M λt=>Wb t λa b _=>ck z N o a&&ck z N i b&&ck z N e v&&plain b)
 |.j c a b,st=>(sIf st λt x y _=>ckC z N c t&&l6 z N a x&&l6 z N b y)
 |.h t it b,st=>(Oc st λS F L O _=>O.isEmpty&&(ckT z N t S&&ckI z N it F S&&l6 z N b L&&plain F))
 |.m _ _,_=>false
 |.n,_=>false
 |.v,_=>false
 |.q,_=>false
 |.k e,st=>(match e with
  |.h c v es=>U9 z N c v es (λU=>ckL z N es U) st
  |.g _=>true
  |_=>false)
noncomputable def l6(s:Scope)(N:List Str):Sms->List Stmt->Bool
 |.f,ss=>ss.isEmpty
 |.e c cs,ss=>(lc ss λt j=>ckS s N c t&&l6 s N cs j)
 |.g ..,_=>false
end
structure OkF(T:Tbl)(n:Nat)(sc:Scope)(N:List Str)(X:L2.Cx):Prop where
 a:Ok T n sc N X
 esc:X.a.scope=sc
 bk:X.a.blockKind=.function
section
variable {T:Tbl}{n:Nat}
def JS(T:Tbl)(n:Nat)(a:Sm):Prop:=∀(sc:Scope) (N:List Str) (X:L2.Cx) (st:Stmt),OkF T n sc N X->ckS sc N a st=true->∀e s,L2.PS X st (tSt X.K X.d e s (exS (zC T n) T.b e a s))
def JSs(T:Tbl)(n:Nat)(a:Sms):Prop:=∀(sc:Scope) (N:List Str) (X:L2.Cx) (st:List Stmt),OkF T n sc N X->l6 sc N a st=true->∀e s,L2.PSs X st (tSt X.K X.d e s (zP (zC T n) T.b e a s))
def eV(h:∀e s,L2.PSs X st (tSt X.K X.d e s (zP Φ G e b s))):L2.PSs X st (uSs X.K X.d Φ G b):=λp s a H D I ⟨e,t,q⟩=>h e t p s a H D I q
def W2:JS T n (.g e):=by intro d N X c o h b s;replace h:=jT h;obtain⟨x,p,rfl,h⟩:=h;simp only[cf]at h;exact W8 h.2 (jE T n e _ _ _ _ o.a h.1 b s)
def SD:JS T n (.f e):=by intro d N X c o h b s;replace h:=jU h;obtain⟨q1,p,rfl,h⟩:=h;replace h:=pP h;obtain⟨x,rfl,h⟩:=h;exact SR (jE T n e _ _ _ _ o.a h b s)
def tq:∃b,D9 (.ListComp elt gens csc cpos) (some (.Name y py)) l env=pure b:=⟨_,rfl⟩
def T7:JS T n (.d i e):=by
 intro sc N X st o h f s;replace h:=ph h;obtain⟨ts1,v,W,rfl,h⟩:=h;replace h:=yy h;obtain⟨t1,rfl,h⟩:=h;replace h:=y9 h;obtain⟨x,px,rfl,h⟩:=h;simp only[cf,decide_eq_true_eq,AN]at h;obtain⟨⟨h1,h2⟩,P,hns,hnc⟩:=h;obtain⟨l1,l2⟩:=o.a.a.c x h2;have hN:X.N.Nodup:=by rw[o.a.a.b];exact o.a.a.d
 have hi:X.N[i]?=some x:=by rw[o.a.a.b];exact h1
 by_cases hn:uq v=true
 . exact iV (L2.uA hN hi l1 (jE T n e _ _ _ _ o.a P f s) (sj hn) l2) λσ H Q q=>q
 .
   cases e with
   |p m R fr u t it E=>
    replace P:=qN P;obtain⟨x',U,D,fs,k,G,rfl,P⟩:=P;simp only[cf,decide_eq_true_eq]at P;obtain⟨⟨⟨⟨⟨⟨c1,c2⟩,c3⟩,c4⟩,c5⟩,c6⟩,c7⟩:=P;have S:=kA o.a.a c1;have oc:=o.a.comp S c2 c1;obtain⟨g,pg,tg'⟩:=lU o.a oc t U c3;have F:L2.PI X U D (uI X.K X.d (zC T n) T.b it):=gH λf s=>jI T n it _ _ _ _ _ o.a c4 f s;have Z:∀C j B w,L2.PTs (X.comp R k C j B w) fs (uTs X.K X.d (zC T n) T.b E):=λC j B w=>(jCs T n E _ _ _ _ (oc C j B w) c5).2.2;have L:∀C j B w,L2.PE (X.comp R k C j B w) x' (uE X.K X.d (zC T n) T.b u):=λC j B w=>bM (X:=X.comp R k C j B w) λf s=>jE T n u _ _ _ _ (oc C j B w) c6 f s;have V:L2.PS X (.Assign [.Name x px] (.ListComp x' [⟨U,D,fs,0⟩] k G) W) (L2.tu (L2.ud fr (uI X.K X.d (zC T n) T.b it) g (uTs X.K X.d (zC T n) T.b E) λM=>L2.qC M (uE X.K X.d (zC T n) T.b u)) (L2.wH i)):=by
     obtain⟨b,hb⟩:=tq (elt:=x') (gens:=[⟨U,D,fs,0⟩]) (csc:=k) (cpos:=G) (y:=x) (py:=px) (l:=W.line) (env:=X.a);cases b with
     |true=>exact L2.eU o.a.d S F pg Z L hN hi l1 hb l2 (z6 c7)
     |false=>exact L2.uA hN hi l1 (L2.qT o.a.d S F pg Z L (z6 c7)) hb l2
    refine iV (o:=evE (zC T n) T.b f (.p m R fr u t it E) s) V λσ H Q hq=>uk (env:=f) (s:=s) (chk:=false) (m:=m) (body:=tK (zC T n) T.b u E) tg' vB (λM ρ0 B hn=>oF fT hn) ?_ λ_ r s1 p s2 hl=>?_
    . simp only[Bn,false_implies,if_true];exact hq
    . have:=rj hl
      simpa using this
   |z m R fr u t it E t2 Y I=>
    replace P:=fo P;obtain⟨x',U,D,fs,O,J,fs2,k,G,rfl,P⟩:=P;simp only[cf,decide_eq_true_eq]at P;obtain⟨⟨⟨⟨⟨⟨⟨⟨⟨⟨c1,c2⟩,c3⟩,c4⟩,c5⟩,c6⟩,c7⟩,c8⟩,c9⟩,c10⟩,c11⟩:=P;have S:=kA o.a.a c1;have oc:=o.a.comp S c2 c1;have tgt:=lU o.a oc;obtain⟨g,pg,tg'⟩:=tgt t U c3;obtain⟨g2,pg2,tg2'⟩:=tgt t2 O c6;have F:L2.PI X U D (uI X.K X.d (zC T n) T.b it):=gH λf s=>jI T n it _ _ _ _ _ o.a c4 f s;have Z:∀C j B w,L2.PTs (X.comp R k C j B w) fs (uTs X.K X.d (zC T n) T.b E):=λC j B w=>(jCs T n E _ _ _ _ (oc C j B w) c5).2.2;have hpi2:∀C j B w,L2.PI (X.comp R k C j B w) O J (uI X.K X.d (zC T n) T.b Y):=λC j B w=>gH (X:=X.comp R k C j B w) λf s=>jI T n Y _ _ _ _ _ (oc C j B w) c7 f s;have hts2:∀C j B w,L2.PTs (X.comp R k C j B w) fs2 (uTs X.K X.d (zC T n) T.b I):=λC j B w=>(jCs T n I _ _ _ _ (oc C j B w) c8).2.2;have L:∀C j B w,L2.PE (X.comp R k C j B w) x' (uE X.K X.d (zC T n) T.b u):=λC j B w=>bM (X:=X.comp R k C j B w) λf s=>jE T n u _ _ _ _ (oc C j B w) c9 f s;have V:L2.PS X (.Assign [.Name x px] (.ListComp x' [⟨U,D,fs,0⟩,⟨O,J,fs2,0⟩] k G) W) (L2.tu (L2.ud fr (uI X.K X.d (zC T n) T.b it) g (uTs X.K X.d (zC T n) T.b E) λM=>L2.pz (uI X.K X.d (zC T n) T.b Y) g2 (uTs X.K X.d (zC T n) T.b I) (L2.qC M (uE X.K X.d (zC T n) T.b u))) (L2.wH i)):=by
     obtain⟨b,hb⟩:=tq (elt:=x') (gens:=[⟨U,D,fs,0⟩,⟨O,J,fs2,0⟩]) (csc:=k) (cpos:=G) (y:=x) (py:=px) (l:=W.line) (env:=X.a);cases b with
     |true=>exact L2.Y5 o.a.d S F pg Z hpi2 pg2 hts2 L hN hi l1 hb l2 (z6 c10) (λf=>z6 c11)
     |false=>exact L2.uA hN hi l1 (L2.kz o.a.d S F pg Z hpi2 pg2 hts2 L (z6 c10) (λf=>z6 c11)) hb l2
    refine iV (o:=evE (zC T n) T.b f (.z m R fr u t it E t2 Y I) s) V λσ H Q hq=>uk (env:=f) (s:=s) (chk:=true) (m:=m) (body:=rh (zC T n) T.b u E t2 Y I) tg' sk (λM ρ0 B hn=>nj fT hn tg2') ?_ λz=>by cases z
    simp only[true_implies];exact hq
   |A _=>cases hns
   |_=>exact absurd hnc hn
def T8:JS T n (.s i op e):=by intro w N X j o h g s;replace h:=XI h;obtain⟨u,A,v,p,rfl,h⟩:=h;replace h:=y9 h;obtain⟨x,y,rfl,h⟩:=h;simp only[cf,decide_eq_true_eq,AN,AI,E8,decide_eq_false_iff_not]at h;obtain⟨⟨⟨⟨t,r⟩,rfl⟩,q⟩,k⟩:=h;obtain⟨m,l⟩:=o.a.a.c x r;exact SN (f:=evE (zC T n) T.b g e) (by rintro (z|z|z|z);exact k.1.1.1 z;exact k.1.1.2 z;exact k.1.2 z;exact k.2 z) (by rw[o.a.a.b];exact o.a.a.d) (by rw[o.a.a.b];exact t) m l λs=>jE T n e _ _ _ _ o.a q g s
def Zt:JS T n (.l a i e):=by intro g N X f o h b s;replace h:=ph h;obtain⟨t,v,p,rfl,h⟩:=h;replace h:=yy h;obtain⟨d,rfl,h⟩:=h;replace h:=qk h;obtain⟨q,m,k,rfl,h⟩:=h;simp only[cf]at h;exact Z5 h.2 (jE T n e _ _ _ _ o.a h.1.2 b s) (λc=>jE T n a _ _ _ _ o.a h.1.1.1 b c) λc=>jE T n i _ _ _ _ o.a h.1.1.2 b c
def PJ(i:JSs T n a)(g:JSs T n b):JS T n (.j c a b):=by intro l N X k o h e s;replace h:=ee h;obtain⟨t,x,y,p,rfl,h⟩:=h;simp only[cf]at h;exact PU (jC T n c _ _ _ _ o.a h.1.1 e s) (eV λe s=>i _ _ _ _ o h.1.2 e s) (eV λe s=>g _ _ _ _ o h.2 e s) (λd D f H q=>⟨e,d,q⟩) λd D f H q=>⟨e,d,q⟩
def T9(j:JSs T n b):JS T n (.h t it b):=by intro m N X l o h e s;replace h:=XJ h;obtain⟨c,r,v,u,q,rfl,h⟩:=h;obtain⟨k,i⟩:=zU h;cases A1.mp k;clear h;have h:=i;simp only[cf]at h;obtain⟨g,p,f⟩:=OH o.a.a o.a.d h.1.1.1;exact SQ o.a.xe o.a.d h.2 (λe s=>jI T n it _ _ _ _ _ o.a h.1.1.2 e s) p f (eV λe s=>j _ _ _ _ o h.1.2 e s)
def Zs:JS T n (.k e):=λc N X b o h a s=>zh (zH rfl)
def W3:JSs T n .f:=by intro b N X a o h e s;cases A1.mp h;exact W9
def Zu(d:JS T n c)(j:JSs T n cs):JSs T n (.e c cs):=by intro l N X k o h a s;replace h:=yX h;obtain⟨i,t,rfl,h⟩:=h;simp only[cf]at h;exact Z6 (f:=λe s=>zP (zC T n) T.b e cs s) (d _ _ _ _ o h.1 a s) (eV λa s=>j _ _ _ _ o h.2 a s) λa s D g H q=>⟨a,s,q⟩
section
variable {sc:Scope}{N:List Str}{X:L2.Cx}{i:Nat}{L:Exs}{env:Env}{s s1:Sto}{vs:List Val}{d:Ex}
end
end
section
variable (T:Tbl)(n:Nat)
mutual
theorem jS:∀a:Sm,JS T n a
 |.g _=>W2
 |.f _=>SD
 |.r=>λy N X e o h=>by cases h
 |.d _ _=>T7
 |.p _ _=>λy N X e o h=>by cases h
 |.w _ _=>λy N X e o h=>by cases h
 |.s _ _ _=>T8
 |.l _ _ _=>Zt
 |.u _ _ _=>λy N X e o h=>by cases h
 |.j _ a b=>PJ (jSs a) (jSs b)
 |.h _ _ b=>T9 (jSs b)
 |.m _ _=>λy N X e o h=>by cases h
 |.n=>λy N X e o h=>by cases h
 |.v=>λy N X e o h=>by cases h
 |.q=>λy N X e o h=>by cases h
 |.k _=>Zs
theorem jSs:∀a:Sms,JSs T n a
 |.f=>W3
 |.e c cs=>Zu (jS c) (jSs cs)
 |.g _ _ _ _ _ _ _ _=>λw N X j o h=>by cases h
end
end
structure OkX(T:Tbl)(n:Nat)(sc:Scope)(N:List Str)(X:L2.Cx)(E:L2.XK):Prop where
 a:OkF T n sc N X.nox
 ps:L2.Passes (L2.CXE X.f X.w) X E
 xr:∀C H,E (.ref C) none H->L2.XR X C H
 xg:∀C d H,E (.ref C) (some d) H->L2.XRG X C d H
 lv:Lv T X.f X.w X.K X.d X.g n
 gr:(T.d.lookup ("TooGreat":Str)).isSome=true->t9 X.K X.d X.g
 b:∀c,(T.d.lookup c).isSome=true->c≠"TooGreat"->∃C D,X.d c=some (.ref C)/\L2.ClsAt X.g C (.ref D::L2.veM)/\L2.ClsAt X.g D L2.veM
section
variable (K:KF)(mg:Str->Option Value)(E:L2.XK)
def tX(e:Env)(s:Sto)(x:tP):L2.TS:=λ_ b H=>∃a,HR K mg a s H/\ER K mg a H e b/\oJ K mg a H x E
def tXe(e:Env)(s:Sto)(x:tP):L2.TE:=λb H _=>∃a,HR K mg a s H/\ER K mg a H e b/\oJ K mg a H x E
end
def oJ.mono(h:oJ K mg ρ H x E)(e:Ext ρ H ρ' H')(f:HR K mg ρ' s H'):oJ K mg ρ' H' x E:=by
 cases x with
 |none=>exact h
 |some r=>
  obtain⟨c,k,i⟩:=r;exact λa A d b C g=>h a A (e.trans f d) b C g
noncomputable abbrev wx(T:Tbl):Str->Bool:=λc=>(T.d.lookup c).isSome
section
variable {T:Tbl}{n:Nat}{sc:Scope}{N:List Str}{X:L2.Cx}{E:L2.XK}
def zc:¬tXe X.K X.d E env s dS σ H Q:=λ⟨_,_,_,z⟩=>z
def yw:¬tX X.K X.d E env s dS D σ H:=λ⟨_,_,_,z⟩=>z
def qb(h:T.c f v=dS)vs s:zS T n f v vs s=dS:=by
 cases n with
 |zero=>rfl
 |succ n=>simp only[zS,h]
def ao(o:OkX T n sc N X E)(h:(L2.tS sc N N' csc fr&&decide N'.Nodup&&ckT csc N' t tg&&ckI sc N it iter tg&&mK csc N' ifs fs&&ck csc N' elt x&&plain iter)=true) :
 ∃(S:L2.zw X N' csc fr) (L:∀C j F w,Ok T n csc N' (X.comp N' csc C j F w)) (g:L2.TG),(∀C j F w,L2.PG (X.comp N' csc C j F w) tg g)/\ckI sc N it iter tg=true/\mK csc N' ifs fs=true/\ck csc N' elt x=true/\plain iter=true:=by
 simp only[cf,decide_eq_true_eq]at h;obtain⟨⟨⟨⟨⟨⟨v,z⟩,l⟩,u⟩,s⟩,r⟩,q⟩:=h;have S:=kA o.a.a.a v;have L:=o.a.a.comp S z v;refine⟨⟨S.b,S.e,S.a,S.d,S.g,S.f,S.h⟩,L,?_⟩;cases t with
 |a i=>
  cases tg with
  |Name y p=>
   simp only[ckT,cf,AN,decide_eq_true_eq]at l;exact⟨_,λC j F w=>eQ (L C j F w).a l.1 l.2,u,s,r,q⟩
  |_=>cases l
 |b m=>
  cases tg with
  |Tuple A k p=>
   simp only[ckT,cf,decide_eq_true_eq]at l;refine⟨L2.Tb X.K m.length (qu m),λC j F w=>?_,u,s,r,q⟩;obtain⟨a,b,c⟩:=uu (L C j F w).a l.1;exact L2.gG (X:=X.comp N' csc C j F w) o.a.a.d a b c
  |_=>cases l
def Vc(h:L2.PE X iter (tXe X.K X.d E env s r)):L2.PE X (.SetComp x (⟨tg,iter,fs,0⟩::gs) csc p) (tXe X.K X.d E env s r):=by intro b f c H Q I g;rw[show eval (.SetComp x (⟨tg,iter,fs,0⟩::gs) csc p) X.a=D2 (.SetComp x (⟨tg,iter,fs,0⟩::gs) csc p) csc X.a (firstIterPos (⟨tg,iter,fs,0⟩::gs) p) (newSet (.type "set")) (firstAsync (⟨tg,iter,fs,0⟩::gs)) (firstIter (⟨tg,iter,fs,0⟩::gs) X.a) from rfl];unfold D2;refine lp (AD (h b f c H (λ_ _=>False) I g) (λu i ⟨_,_,_,_,z⟩=>z.elim) λe k z=>z)
mutual
theorem jxE(o:OkX T n sc N X E):∀(a:Ex) (e:Expr),ck sc N a e=true->∀U s,L2.PE X e (tXe X.K X.d E U s (xE (zC T n) (zS T n) T.b U a s))
 |.h f v es,e,h=>λU s=>by
  replace h:(if v<100 then ckA sc f (λxs=>ckL sc N es xs) e else if v<200 then ckB sc N f v es (λl ys=>ckL l N es ys) e else ckV sc N v es (λl ys=>ckL l N es ys) e)=true:=h
  split at h
  . replace h:=yt h
    obtain⟨x,p,xs,pos,rfl,h⟩:=h;simp only[cf,decide_eq_true_eq,wR,AI]at h;obtain⟨⟨⟨⟨rfl,h2⟩,h3⟩,Y⟩,h5⟩:=h;simp only[XQ];cases hv:zr (zC T n) T.b U es s with
    |g _ _ _=>exact yS λ_ _ _=>zc
    |d=>exact yS λ_ _ _=>zc
    |e vs s1=>
     simp only[];cases hf:T.c x v with
     |none=>rw[qb hf];exact yS λ_ _ _=>zc
     |some F=>
      obtain⟨fa,fd,e1,e2,e3,e4,e5⟩:=o.lv.a x v F hf;have hp:=(jL T n es _ _ _ _ o.a.a Y).1 h5 U s;rw[hv]at hp;have hp:=lA hp;cases xs with
      |nil=>
       cases es with
       |a _ _=>cases Y
       |b=>
        cases hv;exact zV (L2.ky e5 o.a.a.c (o.a.a.a.a x h2) e1 e2 e3 .nil o.ps h3) λV H Q ⟨ρ,hr,er,w⟩=>⟨ρ,_,[],hr,.d,.inr w⟩
      |cons y ys=>
       rw[zq,cf]at h5;refine zV (L2.lD e5 o.a.a.c (o.a.a.a.a x h2) e1 e2 e3 .nil o.ps hp h3 (L2.zd (zN h5.1)) (yz h5.2)) λV H Q ⟨ρ,hr,er,w⟩=>⟨ρ,hr,er,λρ1 zs H1 x1 hr1 r1=>?_⟩;show spX T X.K X.d n x v (zs++[]) H1 Q E;rw[AJ];exact⟨ρ1,s1,vs,hr1,r1,.inr (w.mono x1 hr1)⟩
  . rename_i hver
    have hx:xE (zC T n) (zS T n) T.b U (.h f v es) s=dS:=by
     simp only[XQ];cases zr (zC T n) T.b U es s with
     |e vs s1=>exact qb (o.a.a.j f v ⋯) _ _
     |_=>rfl
    rw[hx];exact yS λ_ _ _=>zc
 |.l op a b,e,h=>λU s=>by
  replace h:=mO h;obtain⟨l1,o1,r1,p1,rfl,h⟩:=h;simp only[cf,decide_eq_true_eq]at h;obtain⟨⟨⟨⟨k1,rfl⟩,h1⟩,h2⟩,h3⟩:=h;simp only[XQ];exact zV (L2.eP (tj (X:=X) o.a.a.c op k1) (jxE o a _ h1 U s) (L2.PE.nox (jE T n b _ _ _ _ o.a.a h2 U s)) (wm h3)) λV H Q z=>z
 |.g _,_,_=>λ_ _=>yS λ_ _ _=>zc
 |.e _,_,_=>λ_ _=>yS λ_ _ _=>zc
 |.C _,_,_=>λ_ _=>yS λ_ _ _=>zc
 |.P _ _,_,_=>λ_ _=>yS λ_ _ _=>zc
 |.j m op a b,e,h=>λU s=>by
  replace h:=kB h;obtain⟨l1,o1,r1,p1,rfl,h⟩:=h;simp only[cf,decide_eq_true_eq]at h;obtain⟨⟨⟨k1,rfl⟩,h1⟩,h2⟩:=h;simp only[XQ];exact zV (L2.k8 (YY (X:=X) m op k1) (jxE o a _ h1 U s) (L2.PE.nox (jE T n b _ _ _ _ o.a.a h2 U s))) λV H Q z=>z
 |.D _,_,_=>λ_ _=>yS λ_ _ _=>zc
 |.K _,_,_=>λ_ _=>yS λ_ _ _=>zc
 |.w _ _ _ _ _,_,_=>λ_ _=>yS λ_ _ _=>zc
 |.y _ _,_,_=>λ_ _=>yS λ_ _ _=>zc
 |.M _ _,_,_=>λ_ _=>yS λ_ _ _=>zc
 |.G _ _ _,_,_=>λ_ _=>yS λ_ _ _=>zc
 |.k _,_,_=>λ_ _=>yS λ_ _ _=>zc
 |.s _ _,_,_=>λ_ _=>yS λ_ _ _=>zc
 |.E,_,_=>λ_ _=>yS λ_ _ _=>zc
 |.q f m es,e,h=>λU s=>by
  replace h:=yt h;obtain⟨x,p,xs,pos,rfl,h⟩:=h;replace h:=yX h;obtain⟨y,ys,rfl,h⟩:=h;simp only[cf,decide_eq_true_eq,wR]at h;obtain⟨⟨⟨⟨k1,rfl⟩,h2⟩,h3⟩,Y⟩:=h;simp only[XQ];have R:=jxL o es (y::ys) h3 Y U s;rw[zq,cf]at Y;have bo:=f.boot;have hg:=o.a.a.a.a _ h2;have hm:=o.a.a.g _ (aS f);have st:=L2.zd (es:=ys) (env:=X.a) (zN Y.1);have hn:=yz (pos:=pos) (env:=X.a) Y.2;cases f with
  |h=>exact zV (L2.xA (r:=λ_ _ _=>False) (λ_ _ _ _ _ _ _ _ _ z=>As z) hg hm bo R (by decide) (by decide) st hn) λV H Q z=>z
  |k=>exact zV (L2.xA (r:=λ_ _ _=>False) (λ_ _ _ _ _ _ _ _ _ z=>As z) hg hm bo R (by decide) (by decide) st hn) λV H Q z=>z
  |p=>exact zV (L2.xA (r:=λ_ _ _=>False) (λ_ _ _ _ _ _ _ _ _ z=>As z) hg hm bo R (by decide) (by decide) st hn) λV H Q z=>z
  |r=>exact zV (L2.xA (r:=λ_ _ _=>False) (λ_ _ _ _ _ _ _ _ _ z=>As z) hg hm bo R (by decide) (by decide) st hn) λV H Q z=>z
  |_=>exact zV (L2.uc (r:=λ_ _ _=>False) (λ_ _ _ _ _ _ _ _ _ z=>As z) hg hm bo R (by decide) (by decide) st hn) λV H Q z=>z
 |.H _ _,_,_=>λ_ _=>yS λ_ _ _=>zc
 |.L _ _ _ _,_,_=>λ_ _=>yS λ_ _ _=>zc
 |.u _ _,_,_=>λ_ _=>yS λ_ _ _=>zc
 |.Q _ _ _ _ _,_,_=>λ_ _=>yS λ_ _ _=>zc
 |.p m N' fr elt t it ifs,e,h=>λU s=>by
  replace h:=qN h;obtain⟨x,tg,iter,fs,Z,cpos,rfl,h⟩:=h;obtain⟨S,oc,g,pg,Y,h5,h6,h7⟩:=ao o h;simp only[XQ];have hel:∀C W H0 ex,L2.PE (X.comp N' Z C W H0 ex) x (uE X.K X.d (zC T n) T.b elt):=λC W H0 ex=>bM (X:=X.comp N' Z C W H0 ex) λU s=>jE T n elt _ _ _ _ (oc C W H0 ex) h6 U s;have hts:∀C W H0 ex,L2.PTs (X.comp N' Z C W H0 ex) fs (uTs X.K X.d (zC T n) T.b ifs):=λC W H0 ex=>(jCs T n ifs _ _ _ _ (oc C W H0 ex) h5).2.2;exact zV (L2.qT o.a.a.d S (jxI o it tg iter Y U s) pg hts hel (z6 h7)) λV H Q z=>z
 |.z _ _ _ _ _ _ _ _ _ _,_,_=>λ_ _=>yS λ_ _ _=>zc
 |.r _ _ _ _,_,_=>λ_ _=>yS λ_ _ _=>zc
 |.F _,_,_=>λ_ _=>yS λ_ _ _=>zc
 |.O _ _,_,_=>λ_ _=>yS λ_ _ _=>zc
 |.J _ _,_,_=>λ_ _=>yS λ_ _ _=>zc
 |.I _ _ _ _ _ _ _,_,_=>λ_ _=>yS λ_ _ _=>zc
 |.B _ _ _ _ _ _ _ _ _ _,_,_=>λ_ _=>yS λ_ _ _=>zc
 |.A a,e,h=>λU s=>by obtain⟨x,tg,i,fs,gs,Z,p,rfl,h⟩:=ZK h;simp only[XQ];exact Vc (jxE o a i h U s)
theorem jxL(o:OkX T n sc N X E):∀(y:Exs) (w:List Expr),ckL sc N y w=true->zq w=true->∀j s,L2.PA X w (λF H _=>tXe X.K X.d E j s (xL (zC T n) (zS T n) T.b j y s) F H λ_ _=>False)
 |.b,_,_=>λ_ _ _=>λ_ _ _ _ _ _ _ z=>(zc z).elim
 |.a a y,w,h=>λL j s=>by
  replace h:=yX h;obtain⟨e,w,rfl,h⟩:=h;obtain⟨i,g⟩:=zU h;cases y with
  |a _ _=>exact λ_ _ _ _ _ _ _ z=>(zc z).elim
  |b=>
   cases A1.mp g;simp only[XQ];exact λc p f F H Q I z=>L2.yR (jxE o a e i j s) L2.yV (L2.zd (zN (by rw[zq,cf]at L;exact L.1))) c p f F H Q I z
theorem jxI(o:OkX T n sc N X E):∀(M:Itb) (L e:Expr),ckI sc N M e L=true->∀w s,L2.PI X L e (λF H _=>tXe X.K X.d E w s (xI (zC T n) (zS T n) T.b w M s) F H λ_ _=>False)
 |.f a,L,e,h=>λw s y O F H R I z=>by
  simp only[XQ]at z;exact AD (jxE o a e h w s y O F H (λ_ _=>False) I z) (λv S ⟨_,_,_,_,q⟩=>q.elim) λ_ _ q=>q
 |.d _,_,_,_=>λ_ _ _ _ _ _ _ _ z=>(zc z).elim
 |.g _ _,_,_,_=>λ_ _ _ _ _ _ _ _ z=>(zc z).elim
 |.h _,_,_,_=>λ_ _ _ _ _ _ _ _ z=>(zc z).elim
 |.j _ _,_,_,_=>λ_ _ _ _ _ _ _ _ z=>(zc z).elim
 |.i _ _ _,_,_,_=>λ_ _ _ _ _ _ _ _ z=>(zc z).elim
end
theorem jxT(o:OkX T n sc N X E):∀c e,ckC sc N c e=true->∀j s,L2.PT X e (λy H _=>tXe X.K X.d E j s (xT (zC T n) (zS T n) T.b j c s) y H λ_ _=>False)
 |.a a,e,h=>λj s=>by
  obtain⟨F,w⟩:=zU h;cases a with
  |h f v g=>
   simp only[XQ];rcases (AN _ _).mp w with w|w
   . exact rT (L2.jH (jxE o (.h f v g) e F j s) (nQ w)) λy H Q z=>z
   . exfalso
     obtain⟨l,i,r,p,rfl⟩:=ai (of_decide_eq_true w);cases ae F
  |_=>exact eW λ_ _ _=>zc
 |.d c,e,h=>λj s=>by
  replace h:=qO h;obtain⟨x,p,rfl,h⟩:=h;simp only[XQ];exact rT (L2.gK (jxT o c _ h j s)) λy H Q z=>z
 |.b _ _,_,_=>λ_ _=>eW λ_ _ _=>zc
 |.f _ _,_,_=>λ_ _=>eW λ_ _ _=>zc
def mx(h:r9 vs=true):(∃x,vs=[.m x])\/∃i j:Int,vs=[.c i,.c j]/\i.natAbs<2 ^ 64/\j.natAbs<2 ^ 64:=by
 unfold r9 at h;split at h
 . exact .inl ⟨_,rfl⟩
 . rw[cf,decide_eq_true_eq,decide_eq_true_eq]at h
   exact .inr ⟨_,_,rfl,h⟩
 . cases h
def Z9(o:OkX T n sc N X E)(h:ckS sc N (.k e) st=true)env s:L2.PS X st (tX X.K X.d E env s (xS (wx T) (zC T n) (zS T n) T.b env (.k e) s)):=by
 cases e with
 |h c v p=>
  replace h:U9 sc N c v p (ckL sc N p) st=true:=h;unfold U9 at h;by_cases hv1:v=1
  . rw[if_pos hv1]at h
    replace h:=ef h;obtain⟨q,b,R,rfl,h⟩:=h;obtain⟨h0,hh⟩:=zU h;cases Bt.mp h0;replace h:=pP hh;obtain⟨q,rfl,h⟩:=h;replace h:=yt h;obtain⟨x,np,F,Z,rfl,h⟩:=h;simp only[cf,decide_eq_true_eq,wR,AI]at h;obtain⟨⟨⟨rfl,S⟩,O⟩,⟨⟨m,I⟩,h6⟩,rfl⟩:=h;simp only[XW];cases r:zr (zC T n) T.b env p s with
    |g _ _ _=>exact xQ λ_ _ _=>yw
    |d=>exact xQ λ_ _ _=>yw
    |e vs s1=>
     simp only[];by_cases hm:(r9 vs&&wx T "TooGreat")=true
     case neg=>rw[if_neg hm];exact xQ λ_ _ _=>yw
     rw[if_pos hm];simp only[wx,cf]at hm;obtain⟨hm1,hm2⟩:=hm;obtain⟨C,D,f,fd,Kc,B,M,V,m4,m5,_,_⟩:=o.gr hm2;have Y:=(jL T n p _ _ _ _ o.a.a m).1 I env s;rw[r]at Y;obtain⟨A,J,rfl⟩:∃A J,F=[A,J]:=by
      match F,h6 with
      |[A,J],_=>exact⟨A,J,rfl⟩
     rw[zq,cf]at I;have hbd:L2.Binds X.K fd L2.inN []:=by obtain⟨_,_,_,_,_,z,_⟩:=V.ex;exact z
     refine yi (L2.bQ o.a.a.c (o.a.a.a.a _ S) B M V m4 m5 hbd (lA Y) O (L2.zd (zN I.1)) (yz I.2)) λD' σ H ⟨ρ,hr,er,w⟩=>⟨ρ,hr,er,λy ys U A l P=>?_⟩;rcases mx hm1 with⟨x,rfl⟩|⟨i,j,rfl,hi,hj⟩
     . exfalso
       cases p with
       |b=>cases m
       |a e1 p=>
        cases p with
        |b=>replace m:=(zU m).2;cases m
        |a e2 p=>
         obtain⟨v1,s2,q1,r⟩:=zf r;obtain⟨vs',s3,t,r⟩:=zf r;obtain⟨v2,s4,L,t⟩:=zf t;obtain⟨vs2,s5,q4,t⟩:=zf t;cases t;cases r
     . cases P with
       |a ra rb=>
        cases rb with
        |a rb rc=>
         cases rc;cases ra;cases rb;refine⟨i,j,rfl,hi,hj,λd hd=>o.xg C d _ (w y _ (A.trans l (Ext.new l hd _)) (l.more hd _) C B _ (.yes L2.zJ (l.new hd)))⟩
  rw[if_neg hv1]at h;replace h:=ef h;obtain⟨q,b,R,rfl,h⟩:=h;obtain⟨h0,hh⟩:=zU h;cases Bt.mp h0;replace h:=pP hh;obtain⟨q,rfl,h⟩:=h;replace h:=yt h;obtain⟨x,np,F,Z,rfl,h⟩:=h;replace h:=yy h;obtain⟨a,rfl,h⟩:=h;simp only[cf,decide_eq_true_eq,wR,AI,AN]at h;obtain⟨⟨⟨rfl,S⟩,O⟩,m,G⟩:=h;simp only[XW];cases r:zr (zC T n) T.b env p s with
  |g _ _ _=>exact xQ λ_ _ _=>yw
  |d=>exact xQ λ_ _ _=>yw
  |e vs s1=>
   simp only[];by_cases hm:(r9 vs&&wx T x)=true
   case neg=>rw[if_neg hm];exact xQ λ_ _ _=>yw
   rw[if_pos hm];simp only[wx,cf]at hm;obtain⟨C,D,B,M,V⟩:=o.b x hm.2 G;rcases m with⟨m,I⟩|m
   . have Y:=(jL T n p _ _ _ _ o.a.a m).1 (by rw[zq,zq,ED];exact I) env s
     rw[r]at Y;refine yi (L2.jG o.a.a.c.a (o.a.a.a.a x S) B M V (lA Y) O (L2.zd (zN I)) rfl) λD' σ H ⟨ρ,hr,er,w⟩=>⟨ρ,hr,er,λy F U A l P=>⟨?_,o.xr C U (w y U A l C B _ (.no G))⟩⟩;rw[<-P.length,AL];rcases mx hm.1 with⟨x,rfl⟩|⟨i,j,rfl,_⟩
     . simp
     . simp
   . replace m:=WW m
     obtain⟨u,v',c1,c2,c3,k1,k2,k3,p1,p2,p3,p4,p5,Q,rfl,z1,z2,z3,m⟩:=m;obtain⟨e1,e2,rfl,h41,h42⟩:∃e1 e2,p=.a e1 (.a e2 .b)/\ck sc N e1 u=true/\ck sc N e2 v'=true:=by
      cases p with
      |b=>cases m
      |a e1 p=>
       obtain⟨q1,t⟩:=zU m;cases p with
       |b=>cases t
       |a e2 p=>
        obtain⟨L,q4⟩:=zU t;cases p with
        |b=>exact⟨e1,e2,rfl,q1,L⟩
        |a _ _=>cases q4
     obtain⟨v1,s2,q1,r⟩:=zf r;obtain⟨vs',s3,t,r⟩:=zf r;obtain⟨v2,s4,L,t⟩:=zf t;cases t;cases r;have pe:=L2.OD (c1:=c1) (c2:=c2) (c3:=c3) (k1:=k1) (k2:=k2) (k3:=k3) (p1:=p1) (p2:=p2) (p3:=p3) (p4:=p4) (p5:=p5) (pos:=Q) (L2.PE.nox (jE T n e1 _ _ _ _ o.a.a h41 env s)) (L2.PE.nox (jE T n e2 _ _ _ _ o.a.a h42 env s2)) z1 z2 z3;rcases mx hm.1 with⟨x,z⟩|⟨i,j,z,hi,hj⟩
     . cases z
     . cases z
       rw[q1,L]at pe;refine yi (L2.jG o.a.a.c.a (o.a.a.a.a x S) B M V (L2.yR pe L2.yV) O rfl rfl) λD' σ H ⟨ρ,hr,er,w⟩=>⟨ρ,hr,er,λy y1 U A l P=>?_⟩;cases P;refine⟨i,rfl,hi,y,l,er.mono A,λW y2 H2 J hr2 r2=>?_⟩;cases r2;exact⟨j,rfl,hj,λz=>⟨by rw[AL];simp,o.xr C H2 (w W H2 (A.trans l J) hr2 C B _ (.no G))⟩⟩
 |_=>exact xQ λ_ _ _=>yw
def SX(o:OkX T n sc N X E)(h:ckS sc N (.d i e) st=true)w s:L2.PS X st (tX X.K X.d E w s (xE (zC T n) (zS T n) T.b w e s)):=by
 replace h:=ph h;obtain⟨ts1,v,Z,rfl,h⟩:=h;replace h:=yy h;obtain⟨t1,rfl,h⟩:=h;replace h:=y9 h;obtain⟨x,px,rfl,h⟩:=h;simp only[cf,decide_eq_true_eq,AN]at h;obtain⟨⟨h1,h2⟩,P,M,r⟩:=h;obtain⟨L,F⟩:=o.a.a.a.c x h2;have U:X.N.Nodup:=by have:=o.a.a.a.b;rw[show X.N=N from this];exact o.a.a.a.d
 have O:X.N[i]?=some x:=by have:=o.a.a.a.b;rw[show X.N=N from this];exact h1
 by_cases hn:uq v=true
 . exact yi (L2.uA U O L (jxE o e _ P w s) (sj hn) F) λD σ H z=>z
 . cases e with
   |A _=>cases M
   |h _ _ _=>exact absurd r hn
   |l _ _ _=>exact absurd r hn
   |j _ _ _ _=>exact absurd r hn
   |q _ _ _=>exact absurd r hn
   |p m W fr J t it Q=>
    replace P:=qN P;obtain⟨x',Y,f,fs,k,G,rfl,P⟩:=P;obtain⟨S,oc,g,pg,c4,c5,c6,c7⟩:=ao o P;have R:∀C u I B,L2.PTs (X.comp W k C u I B) fs (uTs X.K X.d (zC T n) T.b Q):=λC u I B=>(jCs T n Q _ _ _ _ (oc C u I B) c5).2.2;have V:∀C u I B,L2.PE (X.comp W k C u I B) x' (uE X.K X.d (zC T n) T.b J):=λC u I B=>bM (X:=X.comp W k C u I B) λw s=>jE T n J _ _ _ _ (oc C u I B) c6 w s;obtain⟨b,hb⟩:=tq (elt:=x') (gens:=[⟨Y,f,fs,0⟩]) (csc:=k) (cpos:=G) (y:=x) (py:=px) (l:=Z.line) (env:=X.a);simp only[XQ];cases b with
    |true=>exact yi (L2.eU o.a.a.d S (jxI o it Y f c4 w s) pg R V U O L hb F (z6 c7)) λD σ H z=>z
    |false=>exact yi (L2.uA U O L (L2.qT o.a.a.d S (jxI o it Y f c4 w s) pg R V (z6 c7)) hb F) λD σ H z=>z
   |_=>exact xQ λ_ _ _=>yw
def uX(T:Tbl)(n:Nat)(X:L2.Cx)(E:L2.XK)(b:Sms):L2.TS:=λD a H=>∃e s,tX X.K X.d E e s (xSs (wx T) (zC T n) (zS T n) T.b e b s) D a H
mutual
theorem jxS(o:OkX T n sc N X E):∀(a:Sm) (st:Stmt),ckS sc N a st=true->∀y s,L2.PS X st (tX X.K X.d E y s (xS (wx T) (zC T n) (zS T n) T.b y a s))
 |.g e,st,h=>λy s=>by
  replace h:=jT h;obtain⟨C,R,rfl,h⟩:=h;simp only[cf]at h;simp only[XW];exact yi (L2.sU (jxE o e _ h.1 y s) (sj h.2)) λD A H z=>z
 |.f e,st,h=>λy s=>by
  replace h:=jU h;obtain⟨q1,R,rfl,h⟩:=h;replace h:=pP h;obtain⟨C,rfl,h⟩:=h;simp only[XW];exact yi (L2.vI (jxE o e _ h y s)) λD A H z=>z
 |.d i e,st,h=>λy s=>by simp only[XW];exact SX o h y s
 |.k e,st,h=>λy s=>Z9 o h y s
 |.j c a b,st,h=>λy s=>by
  replace h:=ee h;obtain⟨M,C,L,R,rfl,h⟩:=h;simp only[cf]at h;have Q:=L2.PT.nox (jC T n c _ _ _ _ o.a.a h.1.1 y s);have P:∀{V:List Stmt},L2.PSs X V (λ_ _ _=>False):=λx J A H D I q=>q.elim;simp only[XW];cases hc:evT (zC T n) T.b y c s with
  |g _ _ _=>exact yi (L2.jF (jxT o c _ h.1.1 y s) P P) λD A H z=>z
  |d=>exact yi (L2.jF (jxT o c _ h.1.1 y s) P P) λD A H z=>z
  |e t s1=>
   rw[hc]at Q;have Z:L2.PSs X _ (uX T n X E a):=λx J A H D I ⟨env',s',q⟩=>VA o a _ h.1.2 env' s' x J A H D I q;have Y:L2.PSs X _ (uX T n X E b):=λx J A H D I ⟨env',s',q⟩=>VA o b _ h.2 env' s' x J A H D I q;refine yi (L2.jF Q Z Y) λD A H ⟨ρ,hr,er,w⟩=>⟨ρ,hr,er,λG O S C B F=>?_⟩;cases F;simp only[]at w;cases t with
   |true=>exact L2.pB ⟨y,s1,G,B,er.mono C,oJ.mono w C B⟩
   |false=>exact L2.rK ⟨y,s1,G,B,er.mono C,oJ.mono w C B⟩
 |.r,_,_=>λ_ _=>xQ λ_ _ _=>yw
 |.p _ _,_,_=>λ_ _=>xQ λ_ _ _=>yw
 |.w _ _,_,_=>λ_ _=>xQ λ_ _ _=>yw
 |.s _ _ _,_,_=>λ_ _=>xQ λ_ _ _=>yw
 |.l _ _ _,_,_=>λ_ _=>xQ λ_ _ _=>yw
 |.h _ _ _,_,_=>λ_ _=>xQ λ_ _ _=>yw
 |.m _ _,_,_=>λ_ _=>xQ λ_ _ _=>yw
 |.n,_,_=>λ_ _=>xQ λ_ _ _=>yw
 |.v,_,_=>λ_ _=>xQ λ_ _ _=>yw
 |.q,_,_=>λ_ _=>xQ λ_ _ _=>yw
 |.u _ _ _,_,_=>λ_ _=>xQ λ_ _ _=>yw
theorem VA(o:OkX T n sc N X E):∀(b:Sms) (st:List Stmt),l6 sc N b st=true->∀y s,L2.PSs X st (tX X.K X.d E y s (xSs (wx T) (zC T n) (zS T n) T.b y b s))
 |.f,_,_=>λ_ _=>λj L F H D I q=>(yw q).elim
 |.e c cs,st,h=>λy s=>by
  replace h:=yX h;obtain⟨v,t,rfl,h⟩:=h;rw[cf]at h;simp only[XW];have r:L2.PSs X t (λ_ _ _=>False):=λj L F H D I q=>q.elim;cases hc:exS (zC T n) T.b y c s with
  |g _ _ _=>exact sV (L2.ya (jxS o c _ h.1 y s) r) λD F H z=>z
  |d=>exact sV (L2.ya (jxS o c _ h.1 y s) r) λD F H z=>z
  |e B s1=>
   simp only[];cases B with
   |a e=>
    have m:=jS T n c _ _ _ _ o.a h.1 y s;rw[hc]at m;have p:L2.PS X v (tSt X.K X.d y s (.e (.a e) s1)):=λj L F H D I q=>AD (m j L F H D (I.wy _) q) (λ_ _ z=>z.xN) λ_ _ z=>As z;have A:L2.PSs X t (uX T n X E cs):=λj L F H D I ⟨env',s',q⟩=>VA o cs _ h.2 env' s' j L F H D I q;refine sV (L2.ya p A) λD F H ⟨ρ,hr,er,w⟩=>⟨ρ,hr,er,λk C u x i l=>?_⟩;exact⟨e,s1,k,i,l,oJ.mono w x i⟩
   |b _=>exact λj L F H D I q=>(yw q).elim
   |c _=>exact λj L F H D I q=>(yw q).elim
   |d _=>exact λj L F H D I q=>(yw q).elim
 |.g _ _ _ _ _ _ _ _,_,_=>λ_ _=>λj L F H D I q=>(yw q).elim
end
end
mutual
noncomputable def nR(n:Nat):Val->Bool
 |.j i|.q i=>decide (i<n)
 |.f vs=>vJ n vs
 |.g vs=>vJ n vs
 |.h|.e _|.c _|.m _|.p|.o _|.r _|.t _|.u _|.s _ _=>true
noncomputable def vJ(n:Nat):List Val->Bool
 |[]=>true
 |v::vs=>nR n v&&vJ n vs
end
mutual
theorem sX{n:Nat}{v:Val}(h:v.noRef=true):nR n v=true:=by
 cases v with
 |j _=>cases h
 |q _=>cases h
 |f vs=>exact vW (vs:=vs) h
 |g vs=>exact vW (vs:=vs) h
 |_=>rfl
theorem vW{n:Nat}{vs:List Val}(h:zt vs=true):vJ n vs=true:=by
 cases vs with
 |nil=>rfl
 |cons v vs=>
  rw[zt,cf]at h;rw[vJ,sX h.1,vW h.2];rfl
end
section
variable {K:KF}{mg:Str->Option Value}
mutual
theorem RD.refs{a:Own}{H:L2.Hp}{v:Val}{x:L2.V}(q:RD K mg a H v x):nR a.o.length v=true:=by
 cases q with
 |m _ _ r=>exact RDs.refs r
 |E _ _ r=>exact RDs.refs r
 |C e _=>exact decide_eq_true (Ax.mp e).1
 |A e _=>exact decide_eq_true (Ax.mp e).1
 |_=>rfl
theorem RDs.refs{b:Own}{H:L2.Hp}{v:List Val}{x:List L2.V}(q:RDs K mg b H v x):vJ b.o.length v=true:=by
 cases q with
 |d=>rfl
 |a r c=>rw[vJ,RD.refs r,RDs.refs c];rfl
end
structure Cut(ρ ρ':Own):Prop where
 b:∃new,ρ'.o=ρ.o++new
 d:ρ'.h=ρ.h
theorem Cut.no(c:Cut ρ ρ')(n:ρ'.no a):ρ.no a:=by obtain⟨f,e⟩:=c.b;exact⟨λh=>n.1 (by rw[e];exact Br _ h),by rw[<-c.d];exact n.2⟩
mutual
theorem RD.uy{f d:Own}{H:L2.Hp}(c:Cut f d){v:Val}{x:L2.V}(q:RD K mg d H v x)(h:nR f.o.length v=true):RD K mg f H v x:=by
 have u:∀{i:Nat} {a:Addr},d.o[i]?=some a->decide (i<f.o.length)=true->f.o[i]?=some a:=λ{i a} e h=>by obtain⟨z,w⟩:=c.b;rw[w,AS (of_decide_eq_true h)]at e;exact e
 cases q with
 |p=>exact .p
 |j b=>exact .j b
 |l i=>exact .l i
 |D t=>exact .D t
 |m n e r=>exact .m (c.no n) e (RDs.uy c r h)
 |E n e r=>exact .E (c.no n) e (RDs.uy c r h)
 |B n e=>exact .B (c.no n) e
 |s g=>exact .s g
 |F g=>
  refine .F ?_;rcases g with⟨n,g⟩|g
  . exact .inl ⟨c.no n,g⟩
  . exact .inr g
 |C e k=>exact .C (u e h) k
 |A e k=>exact .A (u e h) k
 |I e=>exact .I e
 |J n=>exact .J n
 |G a k=>exact .G a k
theorem RDs.uy{f b:Own}{H:L2.Hp}(c:Cut f b){v:List Val}{x:List L2.V}(q:RDs K mg b H v x)(h:vJ f.o.length v=true):RDs K mg f H v x:=by
 cases q with
 |d=>exact .d
 |a r g=>
  rw[vJ,cf]at h;exact .a (RD.uy c r h.1) (RDs.uy c g h.2)
end
noncomputable def mH:Cel->List Val
 |.c vs=>vs
 |.e kvs=>kvs.map (·.2)
 |.f kvs=>kvs.map (·.2)
 |.d _=>[]
def CR.vals(h:CR K mg ρ H a c):∃j,RDs K mg ρ H (mH c) j:=by
 cases c with
 |c vs=>obtain⟨j,_,r⟩:=h;exact⟨_,r⟩
 |e k=>obtain⟨j,_,_,r⟩:=h;exact⟨_,r⟩
 |f k=>obtain⟨j,_,_,r⟩:=h;exact⟨_,r⟩
 |d x=>exact⟨[],.d⟩
def de(h:c.noRef=true):zt (mH c)=true:=by cases c<;>first|exact h|rfl
theorem CR.uy(c:Cut ρ ρ')(h:CR K mg ρ' H a o)(i:vJ ρ.o.length (mH o)=true):CR K mg ρ H a o:=by
 cases o with
 |c vs=>obtain⟨x,e,r⟩:=h;exact⟨x,e,RDs.uy c r i⟩
 |e b=>obtain⟨x,e,k,r⟩:=h;exact⟨x,e,k,RDs.uy c r i⟩
 |f b=>obtain⟨x,e,k,r⟩:=h;exact⟨x,e,k,RDs.uy c r i⟩
 |d y=>
  obtain⟨n,u,k,r,g⟩:=h;refine⟨n,u,k,λp v s=>?_,g⟩;obtain⟨a,o,vs,t,q1,m,l,q⟩:=r p v s;exact⟨a,o,vs,t,q1,c.no m,l,q⟩
theorem lC{d c:Type}:∀{a b:List (d × c)},a.map (·.1)=b.map (·.1)->a.map (·.2)=b.map (·.2)->a=b
 |[],[],_,_=>rfl
 |[],_::_,h,_=>by cases h
 |_::_,[],h,_=>by cases h
 |x::xs,y::ys,h1,h2=>by
  rw[AE,AE]at h1 h2;injection h1 with a1 a2
  injection h2 with b1 b2
  rw[lC a2 b2,F5 a1 b1]
theorem km:∀{s s'} {i} {o'},wk s s'=true->i<s.length->s'[i]?=some o'->o'.noRef=true\/s[i]?=some o'
 |[],_,_,_,_,h,_=>by cases h
 |o::r,[],_,_,h,_,_=>by cases h
 |o::r,o'::r',0,q,h,_,e=>by
  rw[wk,cf,AN]at h;simp only[List.getElem?_cons_zero,DG]at e;subst e;rcases h.1 with z|z
  . exact .inl z
  . right
    cases o' with
    |c a=>cases o with
     |c b=>simp only[Cel.beq]at z;rw[sH z];rfl
     |_=>cases z
    |e a=>cases o with
     |e b=>simp only[Cel.beq,cf,decide_eq_true_eq]at z;rw[lC z.1 (sH z.2)];rfl
     |_=>cases z
    |f a=>cases o with
     |f b=>simp only[Cel.beq,cf,decide_eq_true_eq]at z;rw[lC z.1 (sH z.2)];rfl
     |_=>cases z
    |d a=>cases o with
     |d b=>simp only[Cel.beq,decide_eq_true_eq]at z;rw[z];rfl
     |_=>cases z
 |o::r,o'::r',i+1,q,h,hi,e=>by
  rw[wk,cf]at h;have:=km (i:=i) h.2 (by simpa using hi) (by simpa using e)
  simpa using this
noncomputable def Rl:Val->Bool
 |.j _|.q _|.f _=>false
 |.h|.e _|.c _|.m _|.p|.o _|.r _|.t _|.u _|.g _|.s _ _=>true
def Wh{n:Nat}{s:Sto}{k i:Nat}:w9 n s k (.j i)=if i<n then some (Val.j i) else match s[i]? with
 |some (.c vs)=>if zt vs then some (.g vs) else dS
 |_=>dS:=by cases k<;>rfl
def ZU:w9 n s k (.q i)=if i<n then some (Val.q i) else dS:=by cases k<;>rfl
def ZV(h:Rl v=true):w9 n s k v=if v.noRef then some v else dS:=by
 cases v with
 |j _=>cases h
 |q _=>cases h
 |f _=>cases h
 |_=>cases k<;>rfl
def Wg:sN n s k []=some []:=by cases k<;>rfl
mutual
theorem qt{l g:Own}{H:L2.Hp}{s:Sto}(c:Cut l g)(t:HR K mg g s H){k:Nat}{v p:Val}{x:L2.V}(r:RD K mg g H v x)(h:w9 l.o.length s k v=some p):RD K mg l H p x:=by
 have B:∀{w:Val},RD K mg g H w x->(if w.noRef then some w else dS)=some p->RD K mg l H p x:=λ{w} r h=>by
  split at h
  . rename_i hn;cases h;exact RD.uy c r (sX hn)
  . cases h
 cases v with
 |j i=>
  rw[Wh]at h;cases r with
  |C e z=>
   by_cases hi:i<l.o.length
   . rw[if_pos hi]at h
     cases h;exact RD.uy c (.C e z) (by rw[nR];exact decide_eq_true hi)
   . rw[if_neg hi]at h
     split at h
     . rename_i vs hs
       split at h
       . rename_i hn
         cases h;obtain⟨a,T,D,Q,q⟩:=t.obj i vs hs;rw[e]at D;cases D;obtain⟨G,R⟩:=c.b;have I:=AH e;refine .E ⟨λu=>?_,λJ=>?_⟩ Q (RDs.uy c q (vW hn))
         . obtain⟨j,y,P⟩:=BU u
           have A:g.o[j]?=g.o[i]?:=by rw[e,R,AS y,xd y,P]
           have:=YQ t.v e (A.trans e);exact hi (this▸y)
         . exact(t.d _ (by rw[c.d];exact J)).2 I
       . cases h
     . cases h
 |q i=>
  rw[ZU]at h;split at h
  . rename_i hi
    cases h;exact RD.uy c r (by rw[nR];exact decide_eq_true hi)
  . cases h
 |f vs=>
  cases k with
  |zero=>exact B r h
  |succ k=>
   rw[w9,Bc]at h;obtain⟨X,N,rfl⟩:=h;cases r with
   |m n e q=>exact .m (c.no n) e (qr c t q N)
 |_=>exact B r ((ZV rfl).symm.trans h)
theorem qr{g f:Own}{H:L2.Hp}{s:Sto}(c:Cut g f)(m:HR K mg f s H){k:Nat}{v i:List Val}{x:List L2.V}(r:RDs K mg f H v x)(h:sN g.o.length s k v=some i):RDs K mg g H i x:=by
 cases r with
 |d=>rw[Wg]at h;cases h;exact .d
 |@a v _ vs _ l n=>
  cases k with
  |zero=>cases h
  |succ k=>
   rw[sN]at h;split at h
   . rename_i a b ha hb
     cases h;refine .a ?_ (qr c m n hb);by_cases hn:v.noRef=true
     . rw[if_pos hn]at ha;cases ha;exact RD.uy c l (sX hn)
     . rw[if_neg hn]at ha;exact qt c m l ha
   . cases h
end
def kU(k:HR K mg ρ s H)(w:yb K mg (RD K mg) ρ H (leave F s v s1) Q)(X:Ext ρ H ρ' H')(l:HR K mg ρ' s1 H')(r:RD K mg ρ' H' v x):Q x H':=by
 unfold leave at w;by_cases hk:F.c=true
 . rw[if_pos hk]at w;exact w ρ' x H' X l r
 . rw[if_neg hk]at w
   by_cases ho:wk s s1=true
   . rw[if_pos ho]at w
     have c:Cut ρ ρ':=⟨by obtain⟨h,e,_⟩:=X.d;exact⟨h,e⟩,X.f⟩
     cases hf:freeze s.length s1 v with
     |none=>rw[hf]at w;exact w.elim
     |some G=>
      rw[hf]at w;have j:s.length<=s1.length:=by obtain⟨h,e,_⟩:=X.d;rw[<-k.f,<-l.f,e,Ah];omega
      refine w ρ x H' ⟨⟨[],by simp,λa p=>by cases p⟩,rfl,X.c,X.g⟩ ⟨?_,k.v,λi u e=>?_,λa p=>?_⟩ ?_
      . rw[Dm,k.f];omega
      . have t:i<s.length:=by have:=(Ax.mp e).1;rw[Dm]at this;omega
        rw[Ec t]at e;obtain⟨a,y,q⟩:=l.m i u e;have C:ρ.o[i]?=some a:=by
         obtain⟨h,D,_⟩:=X.d;rw[D,AS (by rw[k.f];exact t)]at y
         exact y
        refine⟨a,C,q.uy c ?_⟩;rcases km ho t e with z|z
        . exact vW (de z)
        . obtain⟨b,_,B⟩:=k.m i u z
          obtain⟨E,A⟩:=B.vals;exact RDs.refs A
      . obtain⟨z,n⟩:=l.d a (by rw[X.f];exact p)
        exact⟨z,(k.d a p).2⟩
      . unfold freeze at hf
        by_cases hn:v.noRef=true
        . rw[if_pos hn]at hf;cases hf;exact RD.uy c r (sX hn)
        . rw[if_neg hn,<-k.f]at hf
          exact qt c l r hf
   . rw[if_neg ho]at w;exact w.elim
def jX(r:RDs K mg ρ H args vs):ER K mg ρ H (zb N args) (L2.start N vs):=by
 refine⟨by unfold zb L2.start;rw[Ah,Ah,rt,rt,EM,EM,r.length],λi v e=>?_⟩
 unfold zb at e;unfold L2.start;by_cases hi:i<args.length
 . rw[AS (by simpa using hi),AZ]at e
   rw[AS (by rw[rt,<-r.length];exact hi),AZ]
   cases ha:args[i]? with
   |none=>rw[ha]at e;cases e
   |some a=>
    rw[ha]at e;have:a=v:=AQ (AQ e);subst this;obtain⟨x,b,h⟩:=r.get ha;exact⟨x,by rw[b];rfl,h⟩
 . rw[A3 (by simpa using hi),Ep]at e
   split at e<;>cases e
end
def argNames(a:EJ):Option (List Str):=
 if a.posonlyargs.isEmpty&&a.vararg.isNone&&a.kwonlyargs.isEmpty&&a.kw_defaults.isEmpty&&a.kwarg.isNone&&a.defaults.isEmpty then some (a.args.map (·.arg)) else none
def dg(s:Stmt)(F:Fn):Bool:=
 match s with
 |.FunctionDef _ args body _ _ _ sc _ _ _=>decide (argNames args=some F.b)&&decide (sc.kind=.function)&&!sc.isCoroutine&&!sc.isGenerator&&decide F.N.Nodup&&decide (F.N.take F.b.length=F.b) &&
  F.b.all (λx=>decide (sc.names.lookup x=some .local)||decide (sc.names.lookup x=some .cell))&&sc.names.all (λy=>decide (y.2≠.free))&&l6 sc F.N F.a body
 |_=>false
def ip:∀{e:List Str} {us:List Value},e.Nodup->us.length=e.length->e.filterMap (λn=>((e.zip us).lookup n).map (n,·))=e.zip us:=by
 have k:∀(e a:List Str) (us ws:List Value),(a++e).Nodup->us.length=e.length->ws.length=a.length->e.filterMap (λn=>(((a++e).zip (ws++us)).lookup n).map (n,·))=e.zip us:=by
  intro e;induction e with
  |nil=>intro a us ws _ _ _;rfl
  |cons p e l=>
   intro a us ws b g f;cases us with
   |nil=>cases g
   |cons u us=>
    have m:((a++p::e).zip (ws++u::us)).lookup p=some u:=by
     rw[List.zip_append f.symm];have:∀(a:List Str) (ws:List Value),p ∉ a->((a.zip ws)++(p::e).zip (u::us)).lookup p=some u:=by
      intro a;induction a with
      |nil=>intro ws _;simp
      |cons q a i=>
       intro ws d;cases ws with
       |nil=>simp
       |cons w ws=>
        have c:(p == q)=false:=by
         have:p≠q:=λz=>d (by rw[z];exact Ar)
         simpa using this
        rw[List.zip_cons_cons,CI,An,c];exact i ws λz=>d (Af _ z)
     refine this a ws λz=>?_;rw[FU]at b;exact b.2.2 p z p Ar rfl
    rw[Bp,m];have:=l (a++[p]) us (ws++[u]) (by simpa using b) (by simpa using g) (by simp[f])
    rw[A0,A0]at this;exact congrArg ((p,u)::·) this
 intro e us b h;simpa using k e [] us [] (by simpa using b) h rfl
theorem lookup_some:∀{e:List Str} {us:List Value},us.length=e.length->∀n∈e,((e.zip us).lookup n).isNone=false
 |[],_,_,n,h=>by cases h
 |p::e,[],h,_,_=>by cases h
 |p::e,u::us,h,n,hn=>by
  rw[List.zip_cons_cons,An];cases hb:(n == p) with
  |true=>rfl
  |false=>
   have:n≠p:=by simpa using hb
   rcases Al.mp hn with z|z
   . exact absurd z this
   . exact lookup_some (by simpa using h) n z
def vO(h:argNames a=some ps)(f:ps.Nodup)us(c:us.length=ps.length) :
 G1 (BH x qual a body sc .none kV doc pm an cdv ct) ⟨us,[]⟩=pure (ps.zip us):=by
 unfold argNames at h;split at h
 . rename_i hc
   simp only[cf,A1,Bt]at hc;obtain⟨⟨⟨⟨⟨o,m⟩,l⟩,k⟩,i⟩,g⟩:=hc;cases h;obtain⟨s,b,v,u,e,t,w⟩:=a;simp only at o m l k i g c f ⊢;subst o m l k i g;have q:((b.map (·.arg)).take ((b.map (·.arg)).length-0)).filter (λn=>(((b.map (·.arg)).zip us).lookup n).isNone)=[]:=by rw[List.filter_eq_nil_iff];intro n p;rw[lookup_some c n (List.mem_of_mem_take p)];decide
   unfold G1;have r:seqItems? AY=pure none:=rfl;have j:¬(us.length > (b.map (·.arg)).length/\True):=by rintro ⟨z,_⟩;omega
   simp only[BH,DK,D7,AJ,GX,Ee,r,F6,List.toList_toArray,CV,List.drop_nil,E7,Option.isNone_none,ED];rw[if_neg (by rw[rt]at c;simp;omega)]
   have d:(List.filter (λn=>(CK n ((Cm (λx=>x.arg) b).zip us)).isNone) (List.take (Cm (λx=>x.arg) b).length (Cm (λx=>x.arg) b)))=[]:=q;rw[d,if_neg (by decide),List.zip_nil_right,GX,Ee,if_neg (by decide),ip f c]
 . cases h
def tx(K:KF)(x:Str)(s:Stmt):Prop:=∃f a,BG K AO x=some (some (.ref f))/\L2.Fun K x x s f a
def TL(a:BG K AO x=some (some (.ref f)))
 (l:K.lookup f=some ⟨oc,od,.func (BH x x (L2.xK st) (L2.yG st) (L2.zD st) .none kV doc pm an cdv ct),osl⟩) (c:B6 K cdv x=true) (k:BS K (.ref f)=true):tx K x st:=
 ⟨f,_,a,L2.ZW l c k⟩
section
variable {P:Program}{w:World}{K:KF}{mg:Str->Option Value}{base:Heap}{T:Tbl}
structure Top(T:Tbl)(K:KF)(mg:Str->Option Value):Prop where
 a:∀f v F,T.c f v=some F->∃st fa fd,mg f=some (.ref fa)/\L2.Fun K f f st fa fd/\dg st F=true/\((∃b,T.f b=true)->("!":Str)∈F.N->f∈T.e)
 e:∀x v,T.b x=some v->∃u xv,mg x=some u/\L2.RelV xv u/\∀ρ H,RD K mg ρ H v xv
 d:∀x∈wc,mg x=none
 no:∀f v,100<=v->T.c f v=none
 c:(T.d≠[]\/∃b,T.f b=true)->Sc T K mg
def vz(h:dg st F=true):argNames (L2.xK st)=some F.b/\L2.x9 F.N F.b (L2.zD st)/\l6 (L2.zD st) F.N F.a (L2.yG st)=true:=by
 unfold dg at h;split at h
 . simp only[cf,decide_eq_true_eq,AI,Ak,AN]at h
   refine byG λp g=>?_;obtain⟨⟨⟨⟨⟨⟨⟨⟨o,n⟩,m⟩,l⟩,k⟩,i⟩,f⟩,d⟩,c⟩:=h;refine g ?_;exact⟨o,⟨n,m,l,k,i,f,d⟩,c⟩
 . cases h
def YW(t:Top T K mg)(I:∀j,j<=n->Lv T P w K mg base j){F:Fn}(p:L2.x9 F.N F.b (L2.zD st))
 (o:mg f=some (.ref fa)) (y:K.lookup fa=some ⟨oc,od,.func (BH f f (L2.xK st) (L2.yG st) (L2.zD st) .none kV doc pm an cdv ct),osl⟩) (k:B6 K cdv f=true) (l:(∃b,T.f b=true)->("!":Str)∈F.N->f∈T.e)
      (z:L2.xM n (A.deeper (PyProof.Rows.envOfC f (L2.zD st) s.heap.objs.size fa cdv))):OkF T n (L2.zD st) F.N (L2.yN CX P w K mg base F.N f (L2.zD st) fa cdv A outer s H E).nox:=by
 refine⟨⟨rfl,z,⟨rfl,p.b,λx h=>h,λx h=>⟨h,.inl rfl⟩,λx h=>h,λx h=>h⟩,λg v G B=>?_,t.e,t.d,rfl,t.no,λm o i=>⟨t.c (.inr i),λj Q=>I j ⋯⟩,λi _ h=>?_⟩,rfl,?_⟩
 . obtain⟨D,C,q1,u,r,q,J⟩:=(I n (Ac _)).a g v G B
   exact⟨D,C,q1,u,r,q⟩
 . have:∃c,cdv=.ref c:=by
    unfold B6 at k;split at k
    . exact⟨_,rfl⟩
    . cases k
   obtain⟨c,rfl⟩:=this;exact⟨f,l i h,fa,c,_,_,o,y,rfl,rfl,rfl,rfl⟩
 . show (if (L2.zD st).kind.isAnnotationScope then ScopeKind.function else (L2.zD st).kind)=.function
   rw[p.a];rfl
def UO(D:Top T K mg)(IH:∀j,j<=n->Lv T P w K mg base j)(h:T.c f v=some F)(O:mg f=some (.ref fa))(e2:L2.Fun K f f st fa fd)(W:dg st F=true)
 (I:(∃b,T.f b=true)->("!":Str)∈F.N->f∈T.e):L2.t8 P w K mg base L2.CX0 (n+1) fa fd F.b (spN T K mg (n+1) f v):=by
 obtain⟨p1,R,Z⟩:=vz W;have i:∀(vs:List Val) (s:Sto),zC T (n+1) f v vs s=run T (zC T n) F vs s:=λvs s=>by simp only[zC,h]
 obtain⟨oc,od,kV,doc,pm,an,cdv,ct,L,rfl,V,u⟩:=e2.a;refine L2.UN V u R (λvs H Q E q=>?_) λA o s H vs Q E M q=>?_
 . obtain⟨B,t,m,_,r,z⟩:=q
   rw[i]at z;unfold run at z;split at z
   . rename_i l;rw[<-r.length];exact l
   . exact z.elim
 . obtain⟨B,t,m,J,r,z⟩:=q
   rw[i]at z;unfold run at z;have l:m.length=F.b.length:=by
    by_cases l:m.length=F.b.length
    . exact l
    . rw[if_neg l]at z;exact z.elim
   rw[if_pos l]at z;have G:=YW (CX:=L2.CX0) (P:=P) (w:=w) (base:=base) (outer:=o) (s:=s) (H:=H) (E:=E) D IH R O V u I M;refine⟨_,(jSs T n F.a (L2.zD st) F.N _ (L2.yG st) G Z (zb F.N m) t).nox,B,J,jX r,?_⟩;show oj K mg B H (zP (zC T n) T.b (zb F.N m) F.a t) _;cases hx:zP (zC T n) T.b (zb F.N m) F.a t with
   |e S s1=>
    rw[hx]at z;cases S with
    |a e=>exact λy H1 X C k U=>kU J z C k .p
    |b v'=>exact λy H1 x C k Y=>kU J z C k Y
    |c e=>exact z.elim
    |d e=>exact z.elim
   |g _ _ _=>rw[hx]at z;exact z.elim
   |d=>rw[hx]at z;exact z.elim
def NB(k:Top T K mg)(O:K.In base)(S:∀j,j<=n->Lv T P w K mg base j)(h:T.c f v=some F)(hm:mg f=some (.ref fa))(e2:L2.Fun K f f st fa fd)(e3:dg st F=true)
 (J:(∃b,T.f b=true)->("!":Str)∈F.N->f∈T.e):L2.t8 P w K mg base (L2.CXE P w) (n+1) fa fd F.b (λy H Q E=>∃M s L,HR K mg M s H/\RDs K mg M H L y/\oJ K mg M H (zS T (n+1) f v L s) E):=by
 obtain⟨p1,Y,p3⟩:=vz e3;have i:∀(y:List Val) (s:Sto),zS T (n+1) f v y s=if y.length=F.b.length then xSs (wx T) (zC T n) (zS T n) T.b (zb F.N y) F.a s else dS:=λy s=>by simp only[zS,h]
 refine byG λx g=>?_;obtain⟨oc,od,kV,doc,pm,an,X,ct,osl,rfl,Z,u⟩:=e2.a;refine g ?_;refine L2.UN Z u Y (λy H Q E q=>?_) λA o s H y Q E hr q=>?_
 . refine byG λx g=>?_
   obtain⟨M,t,B,_,r,z⟩:=q;refine g ?_;rw[i]at z;split at z
   . rename_i p;rw[<-r.length];exact p
   . exact z.elim
 . refine byG λx g=>?_
   obtain⟨M,t,B,h0,r,z⟩:=q;refine g ?_;rw[i]at z;have p:B.length=F.b.length:=by
    by_cases p:B.length=F.b.length
    . exact p
    . rw[if_neg p]at z;exact z.elim
   rw[if_pos p]at z;have G:=YW (CX:=L2.CXE P w) (P:=P) (w:=w) (base:=base) (outer:=o) (s:=s) (H:=H) (E:=E) k S Y hm Z u J hr;have D:OkX T n (L2.zD st) F.N (L2.yN (L2.CXE P w) P w K mg base F.N f (L2.zD st) fa X A o s H E) E:=by
    refine⟨G,L2.bH,λC H V=>L2.V8 V,λC d H V=>L2.X6 V,S n (Ac _),λm=>?_,λc m R=>?_⟩
    . have l:T.d≠[]:=λz=>by rw[z]at m;cases m
      exact(k.c (.inl l)).a m base O
    have l:T.d≠[]:=λz=>by rw[z]at m;cases m
    refine byG λx g=>?_;obtain⟨_,_,_,_,I,_,_,_,_,RF⟩:=(k.c (.inl l)).ex;refine g ?_;obtain⟨U,hw⟩:=Cy.mp m;refine byG λx g=>?_;obtain⟨C,q1,q2,W⟩:=RF c U hw R base O;refine g ?_;exact⟨C,I,q1,q2,W⟩
   exact⟨_,VA D F.a (L2.yG st) p3 (zb F.N B) t,M,h0,jX r,z⟩
def Sw(p:Top T K mg)(hB:K.In base):∀n j,j<=n->Lv T P w K mg base j:=by
 have m:∀n,(∀j,j<n->Lv T P w K mg base j)->Lv T P w K mg base n:=λn IH=>⟨λf v F D=>by
  obtain⟨st,U,G,q1,B,C,N⟩:=p.a f v F D;obtain⟨W,J,r3⟩:=vz C;have nd:F.b.Nodup:=by rw[<-J.c];exact J.b.sublist (FK _ _)
  have Z:L2.Binds K G F.b []:=B.binds λkV doc pm an cdv ct u hl=>vO W nd u hl;cases n with
  |zero=>
   refine⟨U,G,q1,B.b,Z,⟨λk H Q E q=>?_,λA o s H d u k Q E _ _ _ _ q=>?_⟩,⟨λk H Q E q=>?_,λA o s H d u k Q E _ _ _ _ q=>?_⟩⟩
   . obtain⟨g,t,l,_,_,z⟩:=q;exact z.elim
   . obtain⟨g,t,l,_,_,z⟩:=q;exact z.elim
   . obtain⟨g,t,l,_,_,z|z⟩:=q<;>exact z.elim
   . obtain⟨g,t,l,_,_,z|z⟩:=q<;>exact z.elim
  |succ n=>
   have I:∀j,j<=n->Lv T P w K mg base j:=λj X=>IH j ⋯
   have a:=UO (P:=P) (w:=w) (base:=base) p I D q1 B C N;have b:=NB (P:=P) (w:=w) (base:=base) p hB I D q1 B C N;refine⟨U,G,q1,B.b,Z,a,⟨λk H Q E q=>?_,λA o s H d u k Q E S O M L q=>?_⟩⟩
   . obtain⟨g,t,l,y,x,z|z⟩:=q
     . exact a.b k H Q E ⟨g,t,l,y,x,z⟩
     . exact b.b k H Q E ⟨g,t,l,y,x,z⟩
   . obtain⟨g,t,l,y,x,z|z⟩:=q
     . refine Cw (a.a A o s H d u k Q E S O M L ⟨g,t,l,y,x,z⟩) λr s' V=>?_
       cases r with
       |error e=>exact As V
       |ok fl=>cases fl<;>exact V
     . exact b.a A o s H d u k Q E S O M L ⟨g,t,l,y,x,z⟩⟩
 intro n;induction n with
 |zero=>intro j X;exact m j λi Y=>absurd Y ⋯
 |succ n R=>
  intro j X;by_cases h:j<=n
  . exact R j h
  . have:j=n+1:=by omega
    subst this;exact m _ λi Y=>R i ⋯
end
end M
end
section
namespace M
open PySem Hd
def dM(K:KF)(x:Str):Val->Prop
 |.c i=>∃t,BG K AO x=some (some (.int i t))
 |.m y=>∃t,BG K AO x=some (some (.str y t))
 |.o ns=>∃a,BG K AO x=some (some (.ref a))/\KT K a (ns.map L2.V.d)
 |_=>False
noncomputable def glO(f:List ((Str × Nat) × Fn))(g:List (Str × Val))(x:Str):Option Val:=match g.lookup x with
 |some v=>some v
 |dS=>match f.lookup (x,0) with
  |some _=>some (.t x)
  |dS=>dS
def jg(a:List ((Str × Nat) × Fn))(g:List (Str × Val))(t:List Str)(x:List (Str × Str))(m:Bool->Bool):Tbl:=⟨λf v=>a.lookup (f,v),glO a g,t,x,m⟩
def nY(f:List ((Str × Nat) × Fn))(D:List (Str × Stmt)):Bool:=f.all λp=>decide (p.1.2<100)&&match D.lookup p.1.1 with|some st=>dg st p.2|none=>false
theorem xC{f g:Type} [BEq f] [LawfulBEq f]:∀{l:List (f × g)} {a:f} {b:g},l.lookup a=some b->(a,b)∈l
 |[],_,_,h=>by cases h
 |(c,d)::l,a,b,h=>by
  rw[An]at h;cases hb:(a == c) with
  |true=>rw[hb]at h;cases h;rw[Cb hb];exact Ar
  |false=>rw[hb]at h;exact Af _ (xC h)
def QL(X:K.In h)(G:h.Ns AO mg)(w:∀p∈D,tx K p.1 p.2)(P:∀p∈glL,dM K p.1 p.2)(Q:∀x∈wc,BG K AO x=some none)
 (k:nY fnL D=true)    (r:(∃b,md b=true)->fnL.all (λp=>!decide (("!":Str)∈p.2.N)||decide (p.1.1∈tb))=true) (E:(xc≠[]\/∃b,md b=true)->Sc (jg fnL glL tb xc md) K mg):Top (jg fnL glL tb xc md) K mg:=by
 refine⟨λf v F e=>?_,λx v e=>?_,λx J=>PySem.W.mg_none_of X G (Q x J),λf v V=>?_,E⟩
 . have n:((f,v),F)∈fnL:=xC e
   unfold nY at k;rw[Ak]at k;have g:=k _ n;rw[cf]at g;have g:=g.2;split at g
   . rename_i st hs
     obtain⟨j,B,a,C⟩:=w _ (xC hs);refine⟨st,j,B,D4 X G a,C,g,λu R=>?_⟩;have:=Ak.mp (r u) _ n;simp only[AN,AI,decide_eq_false_iff_not,decide_eq_true_eq]at this;exact this.resolve_left λz=>z R
   . cases g
 case refine_3=>
  show fnL.lookup (f,v)=none;cases e:fnL.lookup (f,v) with
  |none=>rfl
  |some F=>
   have n:((f,v),F)∈fnL:=xC e;unfold nY at k;rw[Ak]at k;have g:=k _ n;rw[cf,decide_eq_true_eq]at g;have A:v<100:=g.1;omega
 . have e:glO fnL glL x=some v:=e
   unfold glO at e;split at e
   case h_2=>
    split at e
    . rename_i F hF
      cases e;unfold nY at k;rw[Ak]at k;have g:=k _ (xC hF);rw[cf]at g;have g:=g.2;split at g
      . rename_i st hs
        obtain⟨j,B,a,C⟩:=w _ (xC hs);exact⟨_,.c j,D4 X G a,rfl,λq H=>.I (D4 X G a)⟩
      . cases g
    . cases e
   rename_i v' e';cases e;have n:(x,v)∈glL:=xC e';have g:=P _ n;cases v with
   |c i=>
    obtain⟨t,a⟩:=g;exact⟨_,.d i,D4 X G a,⟨t,rfl⟩,λq H=>.l i⟩
   |m y=>
    obtain⟨t,a⟩:=g;exact⟨_,.e y,D4 X G a,⟨t,rfl⟩,λq H=>.D y⟩
   |o ns=>
    obtain⟨a,A,T⟩:=g;exact⟨_,.c a,D4 X G A,rfl,λq H=>.s T⟩
   |_=>exact g.elim
def int_mk(a:BG K AO x=some (some (.int i t))):dM K x (.c i):=⟨t,a⟩
def str_mk(a:BG K AO x=some (some (.str y t))):dM K x (.m y):=⟨t,a⟩
theorem qx:∀{us} {ns},kL us=some ns->L2.Vals (ns.map L2.V.d) us
 |[],_,h=>by cases h;exact .nil
 |u::us,ns,h=>by
  cases u with
  |int i t=>
   simp only[kL,Bc]at h;obtain⟨j,e,rfl⟩:=h;exact .cons ⟨t,rfl⟩ (qx e)
  |_=>cases h
def WN(h:BG K AO x=some (some (.ref a)))
 (l:K.lookup a=some ⟨.type "tuple",od,.seq us.toArray n,sl⟩) (c:us.length<=1000) (b:kL us=some ns):dM K x (.o ns):=
 ⟨a,h,_,us.toArray,n,l,rfl,rfl,by rw[Ab,AL];omega,by simpa using qx b⟩
structure Qb(T:Tbl)(K:KF)(mg:Str->Option Value)(h:Heap)(tabs:List Addr):Prop where
 nd:tabs.Nodup
 b:tabs.length=T.e.length
 a:∀(i:Nat) (g:Str),T.e[i]?=some g->∃P,tabs[i]?=some P/\h.get? P=some (Fo #[])/\K.lookup P=none/\GN h P /\
  ∃(fa c:Addr) (o:Obj) (fd:BB),mg g=some (.ref fa)/\K.lookup fa=some o/\o.data=.func fd/\fd.code=.ref c/\∀h':Heap,K.In h'->PySem.W.CodeHd h' c P
def Oj(K:KF)(t:List Addr):L2.Sp:=λv H Q _=>∃(a:Addr) (ns:List Int),v=[.c a]/\(∀b∈t,H b=some (.g #[]))/\L2.SqL K H a (ns.map L2.V.d)/\ns.length<=63/\∀A,Q (.f true) A
def walk{l:PySem.W.OpenLaw}(hn:l.most=some 63)(hdf:d.params.defaults=[])(hr:L2.xM n callerA)
 (hY:∀w h,YP w h->K.In h) (hF:T.c d.name 0=some F) (hx:F.b=[x])
 (TOP:∀w L O mb h,PySem.W.Ground q loose [] XP w L O mb h->K.In h->Top T K O/\∃y,Qb T K O h y)
 (HL:∀M:List Int,M.length<=63->∃U,zC T n d.name 0 [.r M] (T.e.map .d)=.e (.e true) U) :
 PySem.W.WalkO q loose XP YP l.row.toRowW d [] (λf S=>PySem.call f S):=by
 refine Att.lu hn hdf λw L m O mb fa o Z cd C a S M G Y ho hd hcd J I B p N=>?_;have KX:=hY w _ Y;obtain⟨A,y,V⟩:=TOP w L O mb _ G KX;obtain⟨st,fa',fd',e1,e2,e3,e4⟩:=A.a _ _ _ hF;obtain⟨p1,p2,p3⟩:=vz e3;have nd:F.b.Nodup:=by rw[<-p2.c];exact p2.b.sublist (FK _ _)
 rw[e1]at J;cases J;cases n with
 |zero=>
  obtain⟨U,hs⟩:=HL [] (by decide)
  cases hs
 |succ n=>
  have D:∀b∈y,m.heap.get? b=some (Fo #[])/\K.lookup b=none/\GN m.heap b:=λb hb=>by
   obtain⟨i,hi,e⟩:=BU hb;obtain⟨P,q1,q2,q3,q4,_⟩:=V.a i _ (xd (by rw[<-V.b];exact hi))
   rw[xd hi,e]at q1;cases q1;exact⟨q2,q3,q4⟩
  refine L2.cL (CX:=L2.CX0) (k:=n+1) (fd:=fd') (x:=x) (sp:=Oj K y) (tabs:=y) KX G.T.g G.T.b G.T.builtins G.T.nolimit N I B (Aq p (by decide)) hr D (λv kb nb=>?_) (λs u=>?_) (λH X t=>⟨a,M,rfl,X,t,p,λ_=>rfl⟩) λ_ _ _ z=>z
  . have f4:=UO (P:=l.prog) (w:=w) (base:=v) A (λj hj=>Sw A kb n j hj) hF e1 e2 e3 e4
    rw[hx]at f4;refine f4.imp λS H Q E zn=>?_;obtain⟨a,M,e,X,t,hl,hq⟩:=zn;subst e;obtain⟨U,hs⟩:=HL M hl;refine⟨⟨y,[]⟩,T.e.map .d,[.r M],⟨by rw[rt];exact V.b,V.nd,λi c z=>?_,λa z=>by cases z⟩,.a (.F ?_) .d,?_⟩
    . rw[AZ]at z
      cases N:T.e[i]? with
      |none=>rw[N]at z;cases z
      |some g=>
       rw[N]at z;cases z;obtain⟨P,q1,q2,q3,q4,fn⟩:=V.a i g N;exact⟨P,q1,#[],X P (AH q1),A5,λpos cv hc=>(nomatch hc),fn⟩
    . rcases t with t|t
      . refine .inl ⟨⟨λhm=>?_,by simp⟩,t⟩
        have:=X a hm;rcases t with z|⟨o,z⟩<;>(rw[this]at z;cases z)
      . exact .inr t
    . rw[hs]
      intro ρ' x' H' _ _ r;cases r;exact hq H'
  . obtain⟨oc,od,kV,C,Z,an,R,ct,osl,e,_⟩:=e2.a
    subst e;refine .of_eq ?_;have:=vO (x:=d.name) (qual:=d.name) (body:=L2.yG st) (sc:=L2.zD st) (kV:=kV) (doc:=C) (pm:=Z) (cdv:=R) (ct:=ct) (an:=an) p1 nd [u] (by rw[hx];rfl)
    rw[hx]at this;exact this
end M
end
section
namespace F
open PySem M
noncomputable def yx:Fn:=⟨["_law_script","_law_k"],["_law_script","_law_k"],false,(.e (.j (.a (.l .n (.e 1) (.q .a false (.a (.e 0) .b)))) (.e (.f (.u (.e 0) (.e 1))) .f) .f) (.e (.f (.g (.c 0))) .f))⟩
noncomputable def uM:Fn:=⟨["thing"],["thing"],false,(.e (.f (.y (.q .i false (.a (.e 0) (.a (.P "tuple" "tuple") .b))) (.a (.w .c .c (.g (.c 1)) (.q .a false (.a (.e 0) .b)) (.q .a false (.a (.C "HUES") .b))) (.a (.h "are_wholes" 0 (.a (.e 0) (.a (.C "LEAST_SIZE") (.a (.C "MOST_SIZE") .b)))) .b)))) .f)⟩
noncomputable def vn:Fn:=⟨["things","least","most"],["things","least","most"],false,(.e (.f (.q .j false (.a (.p false ["thing","least","most"] [none,some 1,some 2] (.h "is_whole" 0 (.a (.e 0) (.a (.e 1) (.a (.e 2) .b)))) (.a 0) (.f (.e 0)) .a) .b))) .f)⟩
noncomputable def tN:Fn:=⟨["thing","least","most"],["thing","least","most"],false,(.e (.f (.y (.q .i false (.a (.e 0) (.a (.P "int" "int") .b))) (.a (.K (.q .i false (.a (.e 0) (.a (.P "bool" "bool") .b)))) (.a (.w .c .c (.e 1) (.e 0) (.e 2)) .b)))) .f)⟩
noncomputable def vG:Fn:=⟨["thing"],["thing"],false,(.e (.g (.h "need_whole" 0 (.a (.e 0) (.a (.g (.c 0)) (.a (.C "MOST_PLACES") .b))))) .f)⟩
noncomputable def xX:Fn:=⟨["thing"],["thing"],false,(.e (.j (.d (.a (.h "are_sizes" 0 (.a (.e 0) .b)))) (.e (.k (.h "NoSizes" 0 (.a (.g (.m "one to four sizes are due")) .b))) .f) .f) .f)⟩
noncomputable def yO:Fn:=⟨["thing","least","most"],["thing","least","most"],false,(.e (.j (.d (.a (.h "is_whole" 0 (.a (.e 0) (.a (.e 1) (.a (.e 2) .b)))))) (.e (.k (.h "NoNumber" 0 (.a (.e 1) (.a (.e 2) .b)))) .f) .f) .f)⟩
end F
end
section
namespace M
open PySem L2
noncomputable def NX(n s f:Nat):List (Nat × Nat):=(Ai ((n-1-f)/(s-1))).map λj=>(f,j+1)
def OZ(n s:Nat):List (Nat × Nat):=(Ai n).flatMap (NX n s)
noncomputable def S8(n:List Int)(f d s:Nat):Bool:=(Ai s).all λk=>decide (n[f+k*d]?=n[f]?)
def WR{n f d s:Nat}(k:0<d)(i:1<=s)(h:f+d*(s-1)<n):ym n (some (f:Int)) (some ((f:Int)+(d:Int)*(s:Int))) (d:Int)=((f:Int),s):=by
 have a:d*s=d*(s-1)+d:=by rw[<-Nat.mul_succ];congr 1;omega
 have g:(d:Int)*(s:Int)=((d*s:Nat):Int):=(CC d s).symm;have c:A7 (some (f:Int)) (some ((f:Int)+(d:Int)*(s:Int))) (d:Int) (n:Int)=((f:Int),((min (f+d*s) n:Nat):Int)):=by
  rw[g];unfold A7;simp only[if_neg (show ¬(d:Int)<0 by omega),if_neg (show ¬(f:Int)<0 by omega),if_neg (show ¬((f:Int)+((d*s:Nat):Int))<0 by omega)]
  refine F5 ?_ ?_
  . show min (f:Int) (n:Int)=f;omega
  . show min ((f:Int)+((d*s:Nat):Int)) (n:Int)=_;omega
 unfold ym;rw[c];refine F5 rfl ?_;show BE (f:Int) ((min (f+d*s) n:Nat):Int) (d:Int)=s;unfold BE;rw[if_pos ⋯,if_pos ⋯]
 have b:(((min (f+d*s) n:Nat):Int)-(f:Int)-1)=((min (f+d*s) n-f-1:Nat):Int):=by omega
 rw[b,<-Int.natCast_ediv];have e:(min (f+d*s) n-f-1)/d=s-1:=by
  refine Nat.div_eq_of_lt_le ?_ ?_
  . rw[BI];omega
  . have:(s-1+1)*d=d*s:=by rw[show s-1+1=s by omega,BI]
    omega
 rw[e];omega
theorem ZR{a b:Type}{f}{g:a->b}:∀{l:List a},(∀x∈l,f x=some (g x))->l.filterMap f=l.map g
 |[],_=>rfl
 |x::l,h=>by rw[Bp,h x (Ar ..),AE,ZR λy e=>h y (Af _ e)]
def Yx{n:List Int}(h:f+d*(s-1)<n.length):yC n (f:Int) (d:Int) s=(Ai s).map λk=>n.getD (f+k*d) 0:=by
 unfold yC;refine ZR λk b=>?_;rw[Am]at b;have c:k*d<=d*(s-1):=by rw[BI];exact Ff d ⋯
 have e:((f:Int)+(k:Int)*(d:Int)).toNat=f+k*d:=by rw[show (k:Int)*(d:Int)=((k*d:Nat):Int) from (CC k d).symm];omega
 have a:f+k*d<n.length:=by omega
 rw[e,xd a];rw[AF,xd a];rfl
noncomputable def NC(z p:Nat)(r:Nat × Nat):Bool:=(Ai z).any λk=>decide (r.1+k*r.2=p)
def atP(n z p:Nat):List (Nat × Nat):=(OZ n z).filter (NC z p)
def Sz(z:List Int):Prop:=1<=z.length/\z.length<=4/\∀x∈z,2<=x/\x<=8
noncomputable def putL(n:List Int)(p:Nat)(h:Int):List Int:=n.take p++h::n.drop (p+1)
def O8(n:List Int)(z p:Nat)(h:Int):List (Nat × Nat):=(atP n.length z p).filter λr=>S8 (putL n p h) r.1 r.2 z
noncomputable def zW(z:List Int)(h:Nat):Nat:=(z.getD h 0).toNat
def Po(z n:List Int)(p:Nat):List Nat:=(Ai z.length).filter λh=>(O8 n (zW z h) p h).isEmpty
def xH(b:Sz zs)(a:h<zs.length):zs[h]?=some ((zW zs h:Nat):Int)/\2<=zW zs h/\zW zs h<=8:=by
 have e:zs.getD h 0=zs[h]:=by rw[AF,xd a];rfl
 have:=b.2.2 zs[h] (BP a);unfold zW;rw[e,xd a];refine⟨?_,⋯,⋯⟩
 congr 1;omega
end M
end
section
namespace M
open PySem
def Out.post{b:Type}(o:Out b)(P:b->Sto->Prop):Prop:=∃a s,o=.e a s/\P a s
def zF{b:Type}{a:b}{s:Sto}{P:b->Sto->Prop}:(Out.e a s).post P↔P a s:=
 ⟨λ⟨_,_,e,h⟩=>(by cases e;exact h),λh=>⟨a,s,rfl,h⟩⟩
def zL{o:Out α}{f}{P:β->Sto->Prop}:(o.bind f).post P↔o.post λa s=>(f a s).post P:=by
 cases o with
 |e a s=>exact(zF (P:=λa s=>(f a s).post P)).symm
 |g c b s=>exact⟨λ⟨_,_,e,_⟩=>(by cases e),λ⟨_,_,e,_⟩=>(by cases e)⟩
 |d=>exact⟨λ⟨_,_,e,_⟩=>(by cases e),λ⟨_,_,e,_⟩=>(by cases e)⟩
def zY{o:Out α}{P Q}(h:o.post P)(i:∀a s,P a s->Q a s):o.post Q:=by obtain⟨a,s,e,h⟩:=h;exact⟨a,s,e,i a s h⟩
def z7{o:Out α}{P Q}(h:∀a s,P a s↔Q a s):o.post P↔o.post Q:=⟨λk=>zY k λa s=>(h a s).mp,λk=>zY k λa s=>(h a s).mpr⟩
def zZ{a:Type}{P:a->Sto->Prop}:(Out.d:Out a).post P↔False:=⟨λ⟨_,_,e,_⟩=>(by cases e),As⟩
def xf{d:Type}{c:Prop} [Decidable c] {a b:Out d}{P:d->Sto->Prop}:(if c then a else b).post P↔if c then a.post P else b.post P:=by split<;>exact Dl
def post_eq{o:Out α}{a}:o=.e a s↔o.post λx t=>x=a/\t=s:=⟨λh=>⟨a,s,h,rfl,rfl⟩,λ⟨_,_,h,e1,e2⟩=>(by rw[h,e1,e2])⟩
section
variable {Φ:Calls}{G:Str->Option Val}{env:Env}{s:Sto}
def P0{v:Val}{P:Val->Sto->Prop}:(evE Φ G env (.g v) s).post P↔P v s:=zF
def Ue{i:Nat}{P:Val->Sto->Prop}:(evE Φ G env (.e i) s).post P↔∃v,env[i]?=some (some v)/\P v s:=by
 show (match env[i]? with|some (some v)=>Out.e v s|_=>.d).post P↔_
 split
 . rename_i v e
   refine zF.trans ⟨λh=>⟨_,e,h⟩,λz=>?_⟩;obtain⟨u,a,b⟩:=z;rw[e]at a;cases a;exact b
 . rename_i hn
   exact⟨λ⟨_,_,e,_⟩=>(by cases e),λ⟨u,a,b⟩=>absurd a (hn u)⟩
def Px{x:Str}{P:Val->Sto->Prop}:(evE Φ G env (.C x) s).post P↔∃v,G x=some v/\P v s:=by
 show (match G x with|some v=>Out.e v s|dS=>.d).post P↔_
 split
 . rename_i v e
   refine zF.trans ⟨λh=>⟨_,e,h⟩,λz=>?_⟩;obtain⟨u,a,b⟩:=z;rw[e]at a;cases a;exact b
 . rename_i e
   exact⟨λ⟨_,_,e,_⟩=>(by cases e),λ⟨u,a,b⟩=>(by rw[e]at a;cases a)⟩
def NN{x:Str}{n:String}{P:Val->Sto->Prop}:(evE Φ G env (.P x n) s).post P↔P (.u n) s:=zF
def Pq{m:Bool}{o:Bop}{a b:Ex}{P:Val->Sto->Prop}:(evE Φ G env (.j m o a b) s).post P↔(evE Φ G env a s).post λx w=>(evE Φ G env b w).post λy e=>(binOp m o x y e).post P:=by show (Out.bind _ _).post P↔_;simp only[zL]
def P2{a:Ex}{P:Val->Sto->Prop}:(evE Φ G env (.D a) s).post P↔(evE Φ G env a s).post λx e=>∃i,x=.c i/\P (.c (-i)) e:=by show (Out.bind _ _).post P↔_;simp only[zL];exact z7 λx e=>by cases x<;>simp[zF,zZ]
def P5{a:Ex}{P:Val->Sto->Prop}:(evE Φ G env (.K a) s).post P↔(evE Φ G env a s).post λx j=>∃b,x=.e b/\P (.e !b) j:=by show (Out.bind _ _).post P↔_;simp only[zL];exact z7 λx j=>by cases x<;>simp[zF,zZ]
def Pu{o:Cop}{a b:Ex}{P:Val->Sto->Prop}:(evE Φ G env (.l o a b) s).post P↔(evE Φ G env a s).post λx j=>(evE Φ G env b j).post λy e=>(zQ o x y e).post P:=by show (Out.bind _ _).post P↔_;simp only[zL]
def VV{d o:Cop}{a b c:Ex}{P:Val->Sto->Prop}:(evE Φ G env (.w d o a b c) s).post P↔(evE Φ G env a s).post λx L=>(evE Φ G env b L).post λy F=>(zQ d x y F).post λr j=>∃t,r=.e t/\if t=true then (evE Φ G env c j).post λz M=>(zQ o y z M).post P else P (.e false) j:=by
 show (Out.bind _ _).post P↔_;simp only[zL];refine z7 λx L=>z7 λy F=>z7 λr j=>?_;cases r with
 |e t=>cases t<;>simp[zF,zZ,zL]
 |_=>simp[zZ]
def Pp{a b:Ex}{c:Exs}{P:Val->Sto->Prop}:(evE Φ G env (.y a (.a b c)) s).post P↔(evE Φ G env a s).post λx j=>∃t,x=.e t/\if t=true then (r0 Φ G env (.a b c) j).post P else P (.e false) j:=by
 show (Out.bind _ _).post P↔_;simp only[zL];refine z7 λx j=>?_;cases x with
 |e t=>cases t<;>simp[zF,zZ]
 |_=>simp[zZ]
def RI{a:Ex}{P:Val->Sto->Prop}:(r0 Φ G env (.a a .b) s).post P↔(evE Φ G env a s).post P:=Dl
def RJ{a b:Ex}{c:Exs}{P:Val->Sto->Prop}:(r0 Φ G env (.a a (.a b c)) s).post P↔(evE Φ G env a s).post λx j=>∃t,x=.e t/\if t=true then (r0 Φ G env (.a b c) j).post P else P (.e false) j:=by
 show ((evE Φ G env a s).bind λx j=>match x with
  |.e true=>r0 Φ G env (.a b c) j
  |.e false=>.e (.e false) j
  |_=>.d).post P↔_
 simp only[zL];refine z7 λx j=>?_;cases x with
 |e t=>cases t<;>simp[zF,zZ]
 |_=>simp[zZ]
def NL{a b:Ex}{c:Exs}{P:Val->Sto->Prop}:(evE Φ G env (.M a (.a b c)) s).post P↔(evE Φ G env a s).post λx e=>∃t,truth e x=some t/\if t=true then P x e else (kG Φ G env (.a b c) e).post P:=by
 show (Out.bind _ _).post P↔_;simp only[zL];refine z7 λx e=>?_;cases truth e x with
 |some t=>cases t<;>simp[zF,zZ]
 |none=>simp[zZ]
def P6{a:Ex}{P:Val->Sto->Prop}:(kG Φ G env (.a a .b) s).post P↔(evE Φ G env a s).post P:=Dl
def P7{a b:Ex}{c:Exs}{P:Val->Sto->Prop}:(kG Φ G env (.a a (.a b c)) s).post P↔(evE Φ G env a s).post λx j=>∃t,truth j x=some t/\if t=true then P x j else (kG Φ G env (.a b c) j).post P:=by
 show ((evE Φ G env a s).bind λx j=>match truth j x with
  |some false=>kG Φ G env (.a b c) j
  |some true=>.e x j
  |dS=>.d).post P↔_
 simp only[zL];refine z7 λx j=>?_;cases truth j x with
 |some t=>cases t<;>simp[zF,zZ]
 |none=>simp[zZ]
def Py{c:Cn}{a b:Ex}{P:Val->Sto->Prop}:(evE Φ G env (.G c a b) s).post P↔(evT Φ G env c s).post λt e=>if t=true then (evE Φ G env a e).post P else (evE Φ G env b e).post P:=by show (Out.bind _ _).post P↔_;simp only[zL,xf]
def OA{a:Exs}{P:Val->Sto->Prop}:(evE Φ G env (.k a) s).post P↔(zr Φ G env a s).post λj w=>(if j.length<=zO then Out.e (Val.f j) w else .d).post P:=by show (Out.bind _ _).post P↔_;simp only[zL]
def P1{m:Bool}{a:Exs}{P:Val->Sto->Prop}:(evE Φ G env (.s m a) s).post P↔(zr Φ G env a s).post λe j=>(if e.length<=zO then newList m e j else .d).post P:=by show (Out.bind _ _).post P↔_;simp only[zL]
def RL{f:Str}{v:Nat}{e:Exs}{P:Val->Sto->Prop}:(evE Φ G env (.h f v e) s).post P↔(zr Φ G env e s).post λj w=>(Φ f v j w).post P:=by show (Out.bind _ _).post P↔_;simp only[zL]
def Pr{f:Bf}{m:Bool}{e:Exs}{P:Val->Sto->Prop}:(evE Φ G env (.q f m e) s).post P↔(zr Φ G env e s).post λj w=>(blt f m j w).post P:=by show (Out.bind _ _).post P↔_;simp only[zL]
def RR{f:Mf}{m:Bool}{o:Ex}{e:Exs}{P:Val->Sto->Prop}:(evE Φ G env (.L f m o e) s).post P↔(evE Φ G env o s).post λx y=>(zr Φ G env e y).post λj w=>(yk f x j w).post P:=by show (Out.bind _ _).post P↔_;simp only[zL]
def Ye{m:Bool}{a b c:Ex}{P:Val->Sto->Prop}:(evE Φ G env (.r m a b c) s).post P↔(evE Φ G env a s).post λx w=>(evE Φ G env b w).post λy j=>(evE Φ G env c j).post λz e=>(iq m x y z e).post P:=by show (Out.bind _ _).post P↔_;simp only[zL]
def Pz{a b:Ex}{P:Val->Sto->Prop}:(evE Φ G env (.u a b) s).post P↔(evE Φ G env a s).post λx j=>(evE Φ G env b j).post λy e=>(wI x y e).post P:=by show (Out.bind _ _).post P↔_;simp only[zL]
def NM{m:Bool}{a:Ex}{d f b:OEx}{P:Val->Sto->Prop}:(evE Φ G env (.Q m a d f b) s).post P↔(evE Φ G env a s).post λx y=>(evO Φ G env d y).post λl w=>(evO Φ G env f w).post λh j=>(evO Φ G env b j).post λc e=>(pj m x l h c e).post P:=by show (Out.bind _ _).post P↔_;simp only[zL]
def RS{P:Option Int->Sto->Prop}:(evO Φ G env .b s).post P↔P none s:=zF
def RT{e:Ex}{P:Option Int->Sto->Prop}:(evO Φ G env (.a e) s).post P↔(evE Φ G env e s).post λv j=>∃i,v=.c i/\P (some i) j:=by show (Out.bind _ _).post P↔_;simp only[zL];exact z7 λx j=>by cases x<;>simp[zF,zZ]
def P4{P:List Val->Sto->Prop}:(zr Φ G env .b s).post P↔P [] s:=zF
def RM{e:Ex}{b:Exs}{P:List Val->Sto->Prop}:(zr Φ G env (.a e b) s).post P↔(evE Φ G env e s).post λv y=>(zr Φ G env b y).post λj w=>P (v::j) w:=by show (Out.bind _ _).post P↔_;simp only[zL,zF]
def Ud{e:Ex}{P:Bool->Sto->Prop}:(evT Φ G env (.a e) s).post P↔(evE Φ G env e s).post λv j=>∃b,truth j v=some b/\P b j:=by
 show (Out.bind (evE Φ G env e s) _).post P↔_;simp only[zL];refine⟨λh=>zY h λv j h=>?_,λh=>zY h λv j h=>?_⟩
 . split at h
   . rename_i b e;exact⟨b,e,zF.mp h⟩
   . obtain⟨_,_,e,_⟩:=h;cases e
 . obtain⟨b,e,h⟩:=h
   rw[e];exact zF.mpr h
def RY{c:Cn}{P:Bool->Sto->Prop}:(evT Φ G env (.d c) s).post P↔(evT Φ G env c s).post λb e=>P (!b) e:=by show (Out.bind _ _).post P↔_;simp only[zL,zF]
def RX{c:Cn}{a:Cns}{P:Bool->Sto->Prop}:(evT Φ G env (.b c a) s).post P↔(evT Φ G env c s).post λb e=>if b=true then (yo Φ G env a e).post P else P false e:=by show (Out.bind _ _).post P↔_;simp only[zL,xf,zF]
def P9{c:Cn}{a:Cns}{P:Bool->Sto->Prop}:(evT Φ G env (.f c a) s).post P↔(evT Φ G env c s).post λb e=>if b=true then P true e else (qF Φ G env a e).post P:=by show (Out.bind _ _).post P↔_;simp only[zL,xf,zF]
def VY{P:Bool->Sto->Prop}:(yo Φ G env .a s).post P↔P true s:=zF
def VX{P:Bool->Sto->Prop}:(qF Φ G env .a s).post P↔P false s:=zF
def Yi{c:Cn}{a:Cns}{P:Bool->Sto->Prop}:(yo Φ G env (.b c a) s).post P↔(evT Φ G env c s).post λb e=>if b=true then (yo Φ G env a e).post P else P false e:=by show (Out.bind _ _).post P↔_;simp only[zL,xf,zF]
def Yh{c:Cn}{a:Cns}{P:Bool->Sto->Prop}:(qF Φ G env (.b c a) s).post P↔(evT Φ G env c s).post λb e=>if b=true then P true e else (qF Φ G env a e).post P:=by show (Out.bind _ _).post P↔_;simp only[zL,xf,zF]
def Yd{e:Ex}{P:Src->Sto->Prop}:(yM Φ G env (.f e) s).post P↔(evE Φ G env e s).post λv j=>∃r,srcOf j v=some r/\P r j:=by
 show (Out.bind _ _).post P↔_;simp only[zL];refine⟨λh=>zY h λv j h=>?_,λh=>zY h λv j h=>?_⟩
 . split at h
   . rename_i b e;exact⟨b,e,zF.mp h⟩
   . obtain⟨_,_,e,_⟩:=h;cases e
 . obtain⟨b,e,h⟩:=h
   rw[e];exact zF.mpr h
def kq{a:Ex}{P:Src->Sto->Prop}:(yM Φ G env (.d a) s).post P↔(evE Φ G env a s).post λx w=>∃j,x=.c j/\(-(2 ^ 62)<=j/\j<=zO)/\P ⟨yI 0 j.toNat,dS⟩ w:=by
 show (Out.bind _ _).post P↔_;simp only[zL];refine⟨λh=>zY h λv w h=>?_,λh=>zY h λv w h=>?_⟩
 . split at h
   . rw[xf]at h
     split at h
     . rename_i j z;exact⟨_,rfl,z,zF.mp h⟩
     . obtain⟨_,_,e,_⟩:=h;cases e
   . obtain⟨_,_,e,_⟩:=h;cases e
 . obtain⟨j,rfl,z,h⟩:=h
   simp only[if_pos z];exact zF.mpr h
def kr{a b:Ex}{P:Src->Sto->Prop}:(yM Φ G env (.g a b) s).post P↔(evE Φ G env a s).post λx L=>(evE Φ G env b L).post λy F=>∃i j,x=.c i/\y=.c j/\(-(2 ^ 62)<=i/\i<2 ^ 62∧-(2 ^ 62)<=j/\j<2 ^ 62/\j-i<=zO)/\P ⟨yI i (j-i).toNat,dS⟩ F:=by
 show (Out.bind _ _).post P↔_;simp only[zL];refine⟨λh=>zY h λv L h=>zY h λw F h=>?_,λh=>zY h λv L h=>zY h λw F h=>?_⟩
 . split at h
   . rw[xf]at h
     split at h
     . rename_i z;exact⟨_,_,rfl,rfl,z,zF.mp h⟩
     . obtain⟨_,_,e,_⟩:=h;cases e
   . obtain⟨_,_,e,_⟩:=h;cases e
 . obtain⟨i,j,rfl,rfl,z,h⟩:=h
   simp only[if_pos z];exact zF.mpr h
def RP{a:Ex}{P:Src->Sto->Prop}:(yM Φ G env (.h a) s).post P↔(evE Φ G env a s).post λx y=>∃w,(x=.f w\/x=.g w)/\P ⟨yJ 0 w,dS⟩ y:=by
 show (Out.bind _ _).post P↔_;simp only[zL];refine⟨λh=>zY h λv y h=>?_,λh=>zY h λv y h=>?_⟩
 . split at h
   . exact⟨_,.inl rfl,zF.mp h⟩
   . exact⟨_,.inr rfl,zF.mp h⟩
   . obtain⟨_,_,e,_⟩:=h;cases e
 . obtain⟨j,rfl|rfl,h⟩:=h<;>exact zF.mpr h
def Yc{e:Ex}{P:Fl->Sto->Prop}:(exS Φ G env (.g e) s).post P↔(evE Φ G env e s).post λ_ j=>P (.a env) j:=by show (Out.bind _ _).post P↔_;simp only[zL,zF]
def Yg{e:Ex}{P:Fl->Sto->Prop}:(exS Φ G env (.f e) s).post P↔(evE Φ G env e s).post λv j=>P (.b v) j:=by show (Out.bind _ _).post P↔_;simp only[zL,zF]
def RV{P:Fl->Sto->Prop}:(exS Φ G env .r s).post P↔P (.b .h) s:=zF
def Uc{i:Nat}{e:Ex}{P:Fl->Sto->Prop}:(exS Φ G env (.d i e) s).post P↔(evE Φ G env e s).post λv j=>P (.a (env.set i (some v))) j:=by show (Out.bind _ _).post P↔_;simp only[zL,zF]
def RK{i:List Nat}{e:Ex}{P:Fl->Sto->Prop}:(exS Φ G env (.p i e) s).post P↔(evE Φ G env e s).post λv w=>∃j,xj (.b i) v env=some j/\P (.a j) w:=by
 show (Out.bind _ _).post P↔_;simp only[zL];refine⟨λh=>zY h λv w h=>?_,λh=>zY h λv w h=>?_⟩
 . split at h
   . rename_i b e;exact⟨b,e,zF.mp h⟩
   . obtain⟨_,_,e,_⟩:=h;cases e
 . obtain⟨b,e,h⟩:=h
   rw[e];exact zF.mpr h
def P8{i:List Nat}{b:Exs}{P:Fl->Sto->Prop}:(exS Φ G env (.w i b) s).post P↔(zr Φ G env b s).post λj y=>(if j.length=i.length then Out.e (Fl.a ((i.zip j).foldl (λe p=>e.set p.1 (some p.2)) env)) y else .d).post P:=by show (Out.bind _ _).post P↔_;simp only[zL]
def VW{o i e:Ex}{P:Fl->Sto->Prop}:(exS Φ G env (.l o i e) s).post P↔(evE Φ G env e s).post λv M=>(evE Φ G env o M).post λx L=>(evE Φ G env i L).post λy F=>∃r k w j,x=.j r/\y=.c k/\F[r]?=some (.c w)/\L2.ixN w.length k=some j/\P (.a env) (upd F r (w.set j v)):=by
 show (Out.bind _ _).post P↔_;simp only[zL];refine z7 λv M=>z7 λx L=>z7 λy F=>⟨λh=>?_,λ⟨r,k,w,j,h1,h2,h3,h4,h5⟩=>?_⟩
 . split at h
   . split at h
     . rename_i e3
       split at h
       . rename_i e4;exact⟨_,_,_,_,rfl,rfl,e3,e4,zF.mp h⟩
       . exact(zZ.mp h).elim
     . exact(zZ.mp h).elim
   . exact(zZ.mp h).elim
 . subst h1;subst h2
   simp only[h3,h4];exact zF.mpr h5
def RQ{c:Cn}{a b:Sms}{P:Fl->Sto->Prop}:(exS Φ G env (.j c a b) s).post P↔(evT Φ G env c s).post λt e=>if t=true then (zP Φ G env a e).post P else (zP Φ G env b e).post P:=by show (Out.bind _ _).post P↔_;simp only[zL,xf]
def RU{P:Fl->Sto->Prop}:(exS Φ G env .n s).post P↔P (.a env) s:=zF
def Pt{P:Fl->Sto->Prop}:(exS Φ G env .v s).post P↔P (.c env) s:=zF
def RN{P:Fl->Sto->Prop}:(exS Φ G env .q s).post P↔P (.d env) s:=zF
def gB{P:Fl->Sto->Prop}:(zP Φ G env .f s).post P↔P (.a env) s:=zF
def oB(Φ:Calls)(G:Str->Option Val)(c:Sms)(P:Fl->Sto->Prop):Fl->Sto->Prop
 |.a e,s1=>(zP Φ G e c s1).post P
 |fl,s1=>P fl s1
def zj{c:Sm}{d:Sms}{P:Fl->Sto->Prop}:(zP Φ G env (.e c d) s).post P↔(exS Φ G env c s).post (oB Φ G d P):=by
 show (Out.bind _ _).post P↔_;simp only[zL];have:∀f b,(match f with|.a e=>zP Φ G e d b|f=>Out.e f b:Out Fl).post P↔oB Φ G d P f b:=λf b=>by
  cases f with
  |a e=>exact Dl
  |_=>exact zF
 exact⟨λh=>zY h λf b h=>(this f b).mp h,λh=>zY h λf b h=>(this f b).mpr h⟩
def V2{c:Sms}{P:Fl->Sto->Prop}{e:Env}:oB Φ G c P (.a e) s↔(zP Φ G e c s).post P:=Dl
def V3{c:Sms}{P:Fl->Sto->Prop}{v:Val}:oB Φ G c P (.b v) s↔P (.b v) s:=Dl
def V0{a:Sms}{P:Fl->Sto->Prop}{v:Env}:oB Φ G a P (.c v) s↔P (.c v) s:=Dl
def V1{c:Sms}{P:Fl->Sto->Prop}{v:Env}:oB Φ G c P (.d v) s↔P (.d v) s:=Dl
theorem rP(Q:List Val->Env->Sto->Prop)(R:Fl->Sto->Prop){r:Src}{t:Tgt}{f:Env->Sto->Out Fl}(g:∀e s,Q [] e s->R (.a e) s):∀(xs:List Val),(∀j e s,Q j e s->r.ok s=true)->(∀x j e s,Q (x::j) e s->∃F,xj t x e=some F/\(f F s).post λy w=>match y with|.a e=>Q j e w|.d e=>Q j e w|.c e=>R (.a e) w|.b v=>R (.b v) w)->∀e s,Q xs e s->(uF r t f xs e s).post R
 |[],hk,_,e,s,q=>by
  simp only[uF,hk _ _ _ q,if_true];exact zF.mpr (g _ _ q)
 |x::xs,hk,h,e,s,q=>by
  obtain⟨F,M,L⟩:=h x xs e s q;simp only[uF,hk _ _ _ q,if_true,M,zL];refine zY L λy w q=>?_;cases y with
  |a e=>exact rP Q R g xs hk h e w q
  |d e=>exact rP Q R g xs hk h e w q
  |c e=>exact zF.mpr q
  |b v=>exact zF.mpr q
def nV(Q:Env->Sto->Prop)(R:Fl->Sto->Prop):Fl->Sto->Prop
 |.a e,s=>Q e s
 |.d e,s=>Q e s
 |.c e,s=>R (.a e) s
 |.b v,s=>R (.b v) s
def Vu{Q:Env->Sto->Prop}{R:Fl->Sto->Prop}{e:Env}:nV Q R (.a e) s↔Q e s:=Dl
def Vt{Q:Env->Sto->Prop}{R:Fl->Sto->Prop}{e:Env}:nV Q R (.d e) s↔Q e s:=Dl
def Vs{Q:Env->Sto->Prop}{R:Fl->Sto->Prop}{e:Env}:nV Q R (.c e) s↔R (.a e) s:=Dl
def Vv{Q:Env->Sto->Prop}{R:Fl->Sto->Prop}{v:Val}:nV Q R (.b v) s↔R (.b v) s:=Dl
def Pw(Q:List Val->Env->Sto->Prop)
 (h:(yM Φ G env it s).post λr y=>Q r.a env y/\(∀j e s,Q j e s->r.ok s=true)/\(∀x j e s,Q (x::j) e s->∃w,xj t x e=some w/\(zP Φ G w b s).post (nV (Q j) R))/\∀e s,Q [] e s->R (.a e) s) :
 (exS Φ G env (.h t it b) s).post R:=by
 obtain⟨r,y,n,l,i,g,f⟩:=h;show (Out.bind (yM Φ G env it s) _).post R;rw[n,zT];refine rP Q R f r.a i (λx j e s q=>?_) _ _ l;obtain⟨w,d,c⟩:=g x j e s q;refine⟨w,d,zY c λm o k=>?_⟩;cases m<;>exact k
def yp(Q:List Val->Env->Sto->Prop)xs(c:yM Φ G env it s=.e ⟨xs,dS⟩ s1)(g:Q xs env s1)
 (f:∀x j e s,Q (x::j) e s->∃w,xj t x e=some w/\(zP Φ G w b s).post (nV (Q j) R)) (d:∀e s,Q [] e s->R (.a e) s) :
 (exS Φ G env (.h t it b) s).post R:=Pw Q ⟨_,_,c,g,λ_ _ _ _=>rfl,f,d⟩
end
def V4{s:Sto}:truth s .h=some false:=rfl
def za{s:Sto}{b:Bool}:truth s (.e b)=some b:=rfl
def QM{s:Sto}{i:Int}:truth s (.c i)=some (i != 0):=rfl
def QN{s:Sto}{v:List Val}:truth s (.f v)=some !v.isEmpty:=rfl
def gu{s:Sto}{v:List Val}:truth s (.g v)=some !v.isEmpty:=rfl
def R5{s:Sto}{v:List Val}:srcOf s (.f v)=some ⟨v,dS⟩:=rfl
def R4{s:Sto}{v:List Val}:srcOf s (.g v)=some ⟨v,dS⟩:=rfl
def Vr{s:Sto}{n:List Int}:srcOf s (.o n)=some ⟨n.map .c,dS⟩:=rfl
def XY{s:Sto}{x:List Val}:Src.ok ⟨x,dS⟩ s=true:=rfl
def Qf{i:Nat}{v:Val}{e:Env}:xj (.a i) v e=some (e.set i (some v)):=rfl
def U5{i:List Nat}{v:List Val}{a:Env}:xj (.b i) (.f v) a=if v.length=i.length then some ((i.zip v).foldl (λe p=>e.set p.1 (some p.2)) a) else dS:=rfl
def aV vs:rC vs vs=true:=vN vs
def lz(c:Cel):c.beq c=true:=by cases c<;>simp[Cel.beq,aV]
theorem vV:∀s t,wk s (s++t)=true
 |[],_=>rfl
 |c::r,t=>by simp[wk,lz c,vV r t]
def i7 s:wk s s=true:=by have:=vV s [];rwa [AJ]at this
theorem pQ:∀s t i c,c.noRef=true->wk s (s.set i c++t)=true
 |[],_,_,_,_=>by simp[wk]
 |_::r,t,0,c,h=>by simp[wk,h,vV r t]
 |o::r,t,i+1,c,h=>by simp[wk,lz o,pQ r t i c h]
def cq s t i vs(h:zt vs=true):wk s (s.set i (.c vs)++t)=true:=pQ s t i _ h
def ur:Val.h.noRef=true:=by rw[Val.noRef]
def yu{b:Bool}:(Val.e b).noRef=true:=by rw[Val.noRef]
def ub{b:Int}:(Val.c b).noRef=true:=by rw[Val.noRef]
def YU{b:Str}:(Val.m b).noRef=true:=by rw[Val.noRef]
def i6{v:List Val}:(Val.f v).noRef=zt v:=by rw[Val.noRef]
def mz{v:List Val}:(Val.g v).noRef=zt v:=by rw[Val.noRef]
def qQ:zt []=true:=by rw[zt]
def wK{v:Val}{a:List Val}:zt (v::a)=(v.noRef&&zt a):=by rw[zt]
theorem wJ:∀e:List Int,zt (e.map .c)=true
 |[]=>rfl
 |_::e=>by simp[zt,Val.noRef,wJ e]
theorem pN:∀e:List (Int × Int),zt (e.map prV)=true
 |[]=>rfl
 |_::e=>by simp[zt,Val.noRef,prV,pN e]
def z0(k:Bool)(a:Sto)(v:Val)(s:Sto):Out Val:=
 if k then .e v s
 else if wk a s then (match freeze a.length s v with|some b=>.e b (s.take a.length)|dS=>.d) else .d
def kT{a s:Sto}{v:Val}:z0 true a v s=.e v s:=rfl
def xy{k:Bool}{s:Sto}{v:Val}(h:v.noRef=true):z0 k s v s=.e v s:=by
 unfold z0;cases k
 . simp[i7,freeze,h]
 . rfl
def ig(h:v.noRef=true):z0 false s v (s++t)=.e v s:=by unfold z0;simp[vV,freeze,h]
def ij(h:v.noRef=true)(a:zt vs=true):z0 false s v (s.set i (.c vs)++t)=.e v (s.set i (.c vs)):=by
 unfold z0;have e:s.length=(s.set i (.c vs)).length:=by rw[CQ]
 simp only[cq s t i vs a,freeze,h,if_true,Bn,if_false,e,List.take_left']
def cO(h:v.noRef=true)(a:zt vs=true):z0 false s v (s.set i (.c vs))=.e v (s.set i (.c vs)):=by
 have:=ij (s:=s) (t:=[]) (i:=i) h a
 rwa [AJ]at this
def pE(b:i ≥ s.length)(a:(s++t)[i]?=some (.c vs))(h:zt vs=true):z0 false s (.j i) (s++t)=.e (.g vs) s:=by
 unfold z0;have:¬i<s.length:=by omega
 simp[vV,freeze,Val.noRef,w9,this,a,h]
def fin(k:Bool)(s:Sto)(P:Val->Sto->Prop):Fl->Sto->Prop
 |.a _,s1=>(z0 k s .h s1).post P
 |.b v,s1=>(z0 k s v s1).post P
 |_,_=>False
def TX{k:Bool}{s b:Sto}{P:Val->Sto->Prop}{e:Env}:fin k s P (.a e) b↔(z0 k s .h b).post P:=Dl
def TY{k:Bool}{s a:Sto}{P:Val->Sto->Prop}{v:Val}:fin k s P (.b v) a↔(z0 k s v a).post P:=Dl
def yY{T:Tbl}{A:Calls}{N p:List Str}{k:Bool}{b:Sms}{v:List Val}{s:Sto}{P:Val->Sto->Prop}:(run T A ⟨N,p,k,b⟩ v s).post P↔v.length=p.length/\(zP A T.b (zb N v) b s).post (fin k s P):=by
 unfold run;by_cases hl:v.length=p.length
 . rw[if_pos hl,zL]
   refine⟨λh=>⟨hl,zY h λf a h=>?_⟩,λh=>zY h.2 λf a h=>?_⟩
   . cases f<;>first|exact h|exact(zZ.mp h).elim
   . cases f<;>first|exact h|exact h.elim
 . rw[if_neg hl]
   exact⟨λh=>(zZ.mp h).elim,λh=>absurd h.1 hl⟩
def wD(h:T.c f v=some F)vs s:zC T (n+1) f v vs s=run T (zC T n) F vs s:=by simp only[zC,h]
def qc(h:T.c f v=some F)(g:vs.length=F.b.length)s:zS T (n+1) f v vs s=xSs (λc=>(T.d.lookup c).isSome) (zC T n) (zS T n) T.b (zb F.N vs) F.a s:=by simp only[zS,h];rw[if_pos g]
def At(T:Tbl)(k:Nat)(C:Calls->Prop):Prop:=∀n,k<=n->C (zC T n)
def EVl:=Ad @P0 <| Ad @Ue <| Ad @Px <| Ad @NN <| Ad @Pq <| Ad @P2 <| Ad @P5 <| Ad @Pu <| Ad @VV <| Ad @Pp <| Ad @RI <| Ad @RJ <| Ad @NL <| Ad @P6 <| Ad @P7 <| Ad @Py <| Ad @OA <| Ad @P1 <| Ad @RL <| Ad @Pr <| Ad @RR <| Ad @Ye <| Ad @Pz <| Ad @NM <| Ad @RS <| Ad @RT <| Ad @P4 <| Ad @RM <| Ad @Ud <| Ad @RY <| Ad @RX <| Ad @P9 <| Ad @VY <| Ad @VX <| Ad @Yi <| Ad @Yh <| Ad @Yd <| Ad @kq <| Ad @kr <| Ad @RP <| Ad @Yc <| Ad @Yg <| Ad @RV <| Ad @Uc <| Ad @RK <| Ad @P8 <| Ad @VW <| Ad @RQ <| Ad @RU <| Ad @Pt <| Ad @RN <| Ad @gB <| Ad @zj <| Ad @V2 <| Ad @V3 <| Ad @V0 <| Ad @V1 <| Ad @Vu <| Ad @Vt <| Ad @Vs <| Ad @Vv <| Ad @zF <| Ad @xf <| Ad @zZ <| Ad @V4 <| Ad @za <| Ad @QM <| Ad @QN <| Ad @gu <| Ad @R5 <| Ad @R4 <| Ad @Vr <| Ad @XY <| Ad @Qf <| Ad @U5 <| Ad @yY <| Ad @TX <| Ad @TY <| Ad @kT <| Ad @xy <| Ad @ur <| Ad @yu <| Ad @ub <| Ad @YU <| Ad @i6 <| Ad @mz <| Ad @qQ <| Ad @wK <| Ad @wJ <| @pN
def bnd{o:Out α}{a}{f}{r:Out β}(h:o=.e a s)(k:f a s=r):o.bind f=r:=by rw[h];exact k
def zI:evE Φ G env (.g v) s=.e v s:=rfl
def zB(h:env[i]?=some (some v)):evE Φ G env (.e i) s=.e v s:=post_eq.mpr (Ue.mpr ⟨v,h,rfl,rfl⟩)
def oH:evE Φ G env (.P x n) s=.e (.u n) s:=rfl
def O3(c:evE Φ G env a s=.e (.e true) s1)(h:evE Φ G env b s1=r):evE Φ G env (.y a (.a b .b)) s=r:=bnd c h
def tF(h:G x=some v):evE Φ G env (.C x) s=.e v s:=post_eq.mpr (Px.mpr ⟨v,h,rfl,rfl⟩)
def lX(h:evE Φ G env a s=.e (.e false) s1):evE Φ G env (.y a (.a b es)) s=.e (.e false) s1:=bnd h rfl
def fC(d:evE Φ G env a s=.e (.e true) s1)(h:evE Φ G env b s1=.e (.e false) s2):evE Φ G env (.y a (.a b (.a c es))) s=.e (.e false) s2:=bnd d (show (evE Φ G env b s1).bind _=_ from bnd h rfl)
def fD(f:evE Φ G env a s=.e (.e true) s1)(d:evE Φ G env b s1=.e (.e true) s2)(h:evE Φ G env c s2=r):evE Φ G env (.y a (.a b (.a c .b))) s=r:=bnd f (show (evE Φ G env b s1).bind _=_ from bnd d h)
def X3(h:evE Φ G env a s=.e (.c i) s1):evE Φ G env (.D a) s=.e (.c (-i)) s1:=bnd h rfl
def zm(d:evE Φ G env a s=.e x s1)(c:evE Φ G env b s1=.e y s2)(h:binOp m op x y s2=r):evE Φ G env (.j m op a b) s=r:=bnd d (bnd c h)
def yU(d:evE Φ G env a s=.e x s1)(c:evE Φ G env b s1=.e y s2)(h:zQ op x y s2=r):evE Φ G env (.l op a b) s=r:=bnd d (bnd c h)
def wN(d:evE Φ G env a s=.e x s1)(c:evE Φ G env b s1=.e y s2)(h:wI x y s2=r):evE Φ G env (.u a b) s=r:=bnd d (bnd c h)
def NJ:evO Φ G env .b s=.e none s:=rfl
def UZ(h:evE Φ G env e s=.e (.c i) s1):evO Φ G env (.a e) s=.e (some i) s1:=bnd h rfl
def Nh(i:evE Φ G env a s=.e x s1)(g:evO Φ G env lo s1=.e l s2)(f:evO Φ G env hi s2=.e h s3)(d:evO Φ G env st s3=.e c s4)(b:pj m x l h c s4=r):evE Φ G env (.Q m a lo hi st) s=r:=bnd i (bnd g (bnd f (bnd d b)))
def zE:zr Φ G env .b s=.e [] s:=rfl
def zA(b:evE Φ G env e s=.e v s1)(h:zr Φ G env es s1=.e vs s2):zr Φ G env (.a e es) s=.e (v::vs) s2:=bnd b (bnd h rfl)
def wV(h:zr Φ G env es s=.e vs s1)(a:vs.length<=zO):evE Φ G env (.k es) s=.e (.f vs) s1:=bnd h (if_pos a)
def vf(h:zr Φ G env es s=.e vs s1)(a:vs.length<=zO):evE Φ G env (.s false es) s=.e (.g vs) s1:=bnd h (if_pos a)
def yT(h:zr Φ G env es s=.e vs s1)(k:blt f m vs s1=r):evE Φ G env (.q f m es) s=r:=bnd h k
def x_call(h:zr Φ G env es s=.e vs s1)(k:Φ f v vs s1=r):evE Φ G env (.h f v es) s=r:=bnd h k
def VU(h:zr Φ G env es s=.e vs s1)(k:(Φ f v vs s1).post P):(evE Φ G env (.h f v es) s).post P:=by rw[x_call h rfl];exact k
def yD(h:evE Φ G env e s=.e v s1)(k:(zP Φ G (env.set i (some v)) cs s1).post P):(zP Φ G env (.e (.d i e) cs) s).post P:=zj.mpr (Uc.mpr (by rw[h];exact zF.mpr k))
def yj(h:evE Φ G env e s=.e v s1)(k:(zP Φ G env cs s1).post P):(zP Φ G env (.e (.g e) cs) s).post P:=zj.mpr (Yc.mpr (by rw[h];exact zF.mpr k))
def z8(h:evE Φ G env e s=.e v s1)(k:P (.b v) s1):(zP Φ G env (.e (.f e) cs) s).post P:=zj.mpr (Yg.mpr (by rw[h];exact zF.mpr k))
def xw(h:evE Φ G env e s=.e v s1)(k:srcOf s1 v=some ⟨xs,none⟩):yM Φ G env (.f e) s=.e ⟨xs,none⟩ s1:=post_eq.mpr (Yd.mpr (by rw[h];exact zF.mpr ⟨_,k,rfl,rfl⟩))
def yH(h:evE Φ G env e s=.e v s1)(k:truth s1 v=some b):evT Φ G env (.a e) s=.e b s1:=post_eq.mpr (Ud.mpr (by rw[h];exact zF.mpr ⟨_,k,rfl,rfl⟩))
def Xj(h:evT Φ G env c s=.e b s1):evT Φ G env (.d c) s=.e (!b) s1:=bnd h rfl
def Oy(h:evT Φ G env c s=.e false s1)(k:qF Φ G env cs s1=.e b s2):evT Φ G env (.f c cs) s=.e b s2:=bnd h k
def Xl:qF Φ G env .a s=.e false s:=rfl
def dD(h:evT Φ G env c s=.e false s1)(k:qF Φ G env cs s1=.e b s2):qF Φ G env (.b c cs) s=.e b s2:=bnd h k
def wq(h:evT Φ G env c s=.e false s1)(k:(zP Φ G env cs s1).post P):(zP Φ G env (.e (.j c a .f) cs) s).post P:=zj.mpr (RQ.mpr (by rw[h];refine zF.mpr ?_;rw[if_neg Aj];exact gB.mpr k))
def qA(h:evT Φ G env c s=.e true s1)(k:(zP Φ G env a s1).post (oB Φ G cs P)):(zP Φ G env (.e (.j c a b) cs) s).post P:=zj.mpr (RQ.mpr (by rw[h];refine zF.mpr ?_;rw[if_pos rfl];exact k))
def fz(h:evE Φ G env e s=.e (.f vs) s1):yM Φ G env (.h e) s=.e ⟨yJ 0 vs,none⟩ s1:=bnd h rfl
def Uw(h:evE Φ G env a s=.e (.e b) s1):evE Φ G env (.K a) s=.e (.e !b) s1:=bnd h rfl
def QV(h:evT Φ G env c s=.e true s1)(k:evE Φ G env a s1=r):evE Φ G env (.G c a b) s=r:=bnd h k
def QU(h:evT Φ G env c s=.e false s1)(k:evE Φ G env b s1=r):evE Φ G env (.G c a b) s=r:=bnd h k
def yl(k:P (.a env) s):(zP Φ G env .f s).post P:=gB.mpr k
def sQ{k:Nat}(h:evE Φ G env e s=.e (.c (k:Int)) s1)(a:k<=zO):yM Φ G env (.d e) s=.e ⟨yI 0 k,none⟩ s1:=by rw[post_eq];refine kq.mpr ?_;rw[h];exact zF.mpr ⟨_,rfl,⟨⋯,⋯⟩,by rw[CD],rfl⟩
def eA{i j:Nat}(h:evE Φ G env a s=.e (.c (i:Int)) s1)(d:evE Φ G env b s1=.e (.c (j:Int)) s2)(k:i<=1000)(f:j<=1000):yM Φ G env (.g a b) s=.e ⟨yI i (j-i),none⟩ s2:=by rw[post_eq];refine kr.mpr ?_;rw[h];refine zF.mpr ?_;rw[d];exact zF.mpr ⟨_,_,rfl,rfl,⟨⋯,⋯,⋯,⋯,by unfold zO;omega⟩,by congr 2;omega,rfl⟩
def Xi(h:evT Φ G env c s=.e a s)(k:evT Φ G env d s=.e b s):evT Φ G env (.b c (.b d .a)) s=.e (a&&b) s:=bnd h (by
 cases a with
 |false=>rfl
 |true=>exact bnd k (by cases b<;>rfl))
def gx(h:evT Φ G env c s=.e b s):yo Φ G env (.b c .a) s=.e b s:=bnd h (by cases b<;>rfl)
def lY(h:zr Φ G env es s=.e vs s1)(a:vs.length<=zO):evE Φ G env (.s true es) s=.e (.j s1.length) (s1++[.c vs]):=bnd h (if_pos a)
def QF(h:evT Φ G env c s=.e false s1):evT Φ G env (.b c cs) s=.e false s1:=bnd h rfl
def QG(h:evT Φ G env c s=.e true s1)(k:yo Φ G env cs s1=.e b s2):evT Φ G env (.b c cs) s=.e b s2:=bnd h k
def ek(g:evE Φ G env e s=.e v s1)(b:evE Φ G env o s1=.e (.j r) s1)(f:evE Φ G env i s1=.e (.c k) s1)(h:s1[r]?=some (.c vs))(d:L2.ixN vs.length k=some j)
 (q:(zP Φ G env cs (s1.set r (.c (vs.set j v)))).post P):(zP Φ G env (.e (.l o i e) cs) s).post P:=by
 have m:exS Φ G env (.l o i e) s=.e (.a env) (s1.set r (.c (vs.set j v))):=by show ((evE Φ G env e s).bind _)=_;rw[g,zT,b,zT,f,zT];simp only[h,d];rfl
 refine zj.mpr ?_;rw[m];exact zF.mpr q
def Xy(g:evE Φ G env a s=.e (.c i) s)(f:evE Φ G env b s=.e (.c j) s)(h:evE Φ G env c s=.e (.c k) s):evE Φ G env (.w .c .c a b c) s=.e (.e (decide (i<=j)&&decide (j<=k))) s:=by
 refine bnd g (bnd f (bnd (show zQ .c (.c i) (.c j) s=.e (.e (decide (i<=j))) s from rfl) ?_));cases decide (i<=j) with
 |true=>
  show (evE Φ G env c s).bind (λz d=>zQ .c (.c j) z d)=_;exact bnd h (by rw[show zQ .c (.c j) (.c k) s=.e (.e (decide (j<=k))) s from rfl,Bool.true_and])
 |false=>rfl
def zk(h:v.noRef=true):(z0 false s v s).post λx t=>x=v/\t=s:=by rw[xy h];exact zF.mpr ⟨rfl,rfl⟩
theorem kZ{b:Type}{f}{g}{I:Env->Prop}(a:r.ok s=true):∀(xs:List b),(∀x∈xs,∀e j,I e->∃L w,xj t (f x) e=some L/\body L s j=.e (j++g x,w) s/\I w)->∀e j,I e->∃F,I F/\yQ r t body (xs.map f) e s j=.e (j++xs.flatMap g,F) s
 |[],_,e,j,h0=>⟨e,h0,by simp[yQ,a]⟩
 |x::xs,h,e,j,h0=>by obtain⟨L,w,S,O,M⟩:=h x (.head _) e j h0;obtain⟨F,i,d⟩:=kZ a xs (λy c=>h y (.tail _ c)) w (j++g x) M;refine⟨F,i,?_⟩;rw[AE,yQ,a,if_pos rfl,S];simp only[O,zT,d,CG,A0]
def YL{d:Type}{x:List d}{f:d->Val}{g:d->List Val}{I:Env->Prop}
 (h:∀a∈x,∀e,I e->∃j,xj t (f a) e=some j/\I j/\∃c,yo Φ G j ifs s=.e c s/\if c=true then ∃v,evE Φ G j elt s=.e v s/\g a=[v] else g a=[])   (r:I e) :
 ∃y,I y/\yQ ⟨x.map f,none⟩ t (λe L acc=>(yo Φ G e ifs L).bind λb w=>if b then (evE Φ G e elt w).bind λv F=>.e (acc++[v],e) F else .e (acc,e) w) (x.map f) e s acc=.e (acc++x.flatMap g,y) s:=
 kZ rfl x (λa q e acc p=>by
  obtain⟨j,o,n,c,m,k⟩:=h a q e p;refine⟨j,j,o,?_,n⟩;show (yo Φ G j ifs s).bind _=_;rw[m,zT];cases c with
  |true=>
   rw[if_pos rfl]at k ⊢;obtain⟨v,i,l⟩:=k;rw[i,zT,l]
  |false=>
   rw[if_neg Aj]at k ⊢;rw[k,AJ]) e acc r
def V7{b:Type}{xs:List b}{f}{g}(I:Env->Prop)(d:yM Φ G env it s=.e ⟨xs.map f,none⟩ s1)(i:I (ze fr env))
 (h:∀a∈xs,∀e,I e->∃j,xj t (f a) e=some j/\I j/\∃c,yo Φ G j ifs s1=.e c s1/\if c=true then ∃v,evE Φ G j elt s1=.e v s1/\g a=[v] else g a=[]) :
 evE Φ G env (.p false N fr elt t it ifs) s=.e (.g (xs.flatMap g)) s1:=by
 obtain⟨l,_,k⟩:=YL h (acc:=[]) i;show (yM Φ G env it s).bind _=_;rw[d,zT];exact bnd k rfl
def So{d l:Type}{x:List d}{f:d->Val}{i:d->List l}{n:d->l->Val}{g:d->l->List Val}{I:Env->Prop}{J:d->Env->Prop}
 (h:∀a∈x,∀e,I e->∃F,xj t (f a) e=some F/\yM Φ G F it2 s=.e ⟨(i a).map (n a),none⟩ s/\J a F) (B:∀a e,J a e->I e)
 (C:∀a∈x,∀b∈i a,∀e,J a e->∃F,xj t2 (n a b) e=some F/\J a F/\∃c,yo Φ G F ifs2 s=.e c s/\if c=true then ∃v,evE Φ G F elt s=.e v s/\g a b=[v] else g a b=[])  (D:I e) :
 ∃y,yQ ⟨x.map f,none⟩ t (λe s' w=>(yo Φ G e .a s').bind λb M=>if b then (yM Φ G e it2 M).bind λO W=>
    yQ O t2 (λy U j=>(yo Φ G y ifs2 U).bind λb' L=>if b' then (evE Φ G y elt L).bind λv S=>.e (j++[v],y) S else .e (j,y) L) O.a e W w
  else .e (w,e) M) (x.map f) e s []=.e (x.flatMap λa=>(i a).flatMap (g a),y) s:=by
 obtain⟨y,_,k⟩:=kZ (s:=s) (r:=⟨x.map f,none⟩) (t:=t) (I:=I) (g:=λa=>(i a).flatMap (g a)) (f:=f) (body:=λe s' w=>(yo Φ G e .a s').bind λb M=>if b then (yM Φ G e it2 M).bind λO W=>
        yQ O t2 (λy U j=>(yo Φ G y ifs2 U).bind λb' L=>if b' then (evE Φ G y elt L).bind λv S=>.e (j++[v],y) S else .e (j,y) L) O.a e W w
  else .e (w,e) M) rfl x (λa m e w A=>by
  obtain⟨F,z,u,q⟩:=h a m e A;obtain⟨E,p,o⟩:=YL (t:=t2) (I:=J a) (C a m) (acc:=w) q;refine⟨F,E,z,?_,B _ _ p⟩;show (yM Φ G F it2 s).bind _=_;rw[u,zT];exact o) e [] D
 exact⟨y,k⟩
def Xz{d i:Type}{xs:List d}{f}{ys:d->List i}{f2:d->i->Val}{g:d->i->List Val}(I:Env->Prop)(J:d->Env->Prop)(m:yM Φ G env it s=.e ⟨xs.map f,none⟩ s1)(p:I (ze fr env))
 (h:∀a∈xs,∀e,I e->∃j,xj t (f a) e=some j/\yM Φ G j it2 s1=.e ⟨(ys a).map (f2 a),none⟩ s1/\J a j) (n:∀a e,J a e->I e)
 (o:∀a∈xs,∀b∈ys a,∀e,J a e->∃j,xj t2 (f2 a b) e=some j/\J a j/\∃c,yo Φ G j ifs2 s1=.e c s1/\if c=true then ∃v,evE Φ G j elt s1=.e v s1/\g a b=[v] else g a b=[]) (l:(xs.flatMap λa=>(ys a).flatMap (g a)).length<=zO) :
 evE Φ G env (.z false N fr elt t it .a t2 it2 ifs2) s=.e (.g (xs.flatMap λa=>(ys a).flatMap (g a))) s1:=by
 obtain⟨q,k⟩:=So h n o p;show (yM Φ G env it s).bind _=_;rw[m,zT];exact bnd k (if_pos l)
def oG{d:Type}{xs:List d}{f}g p R(x:yM Φ G env it s=.e ⟨xs.map f,o⟩ s1)(u:Src.ok ⟨xs.map f,o⟩ s1=true)(y:ze fr env=none::R)
 (h:∀a∈xs,evT Φ G (some (f a)::R) t s1=.e (p a) s1/\(p a=true->evE Φ G (some (f a)::R) elt s1=.e (g a) s1)) :
 evE Φ G env (.p m N fr elt (.a 0) it (.b t .a)) s=newList m ((xs.filter p).map g) s1:=by
 obtain⟨A,_,k⟩:=kZ (I:=λe=>∃o,e=o::R) (g:=λa=>if p a=true then [g a] else []) (t:=.a 0) (body:=λe q c=>(yo Φ G e (.b t .a) q).bind λb i=>if b then (evE Φ G e elt i).bind λv n=>.e (c++[v],e) n else .e (c,e) i) u xs (by
  rintro a z e c ⟨o,rfl⟩;obtain⟨w,j⟩:=h a z;refine⟨some (f a)::R,some (f a)::R,rfl,?_,_,rfl⟩;refine bnd (gx w) ?_;cases hp:p a with
  |true=>exact bnd (j hp) rfl
  |false=>exact congrArg (λl=>Out.e (l,some (f a)::R) s1) (AJ c).symm) (ze fr env) [] ⟨_,y⟩
 show (yM Φ G env it s).bind _=_;refine bnd x (bnd k ?_);have e:∀l:List d,(l.flatMap λa=>if p a=true then [g a] else [])=(l.filter p).map g:=λl=>by
  induction l with
  |nil=>rfl
  |cons a l r=>
   rw[CG,r,DW];cases p a<;>rfl
 rw[e];rfl
def lZ{i:Type}{xs:List i}{f}g R(q:yM Φ G env it s=.e ⟨xs.map f,none⟩ s1)(x:ze fr env=none::R)
 (h:∀a∈xs,evE Φ G (some (f a)::R) elt s1=.e (g a) s1) :
 evE Φ G env (.p m N fr elt (.a 0) it .a) s=newList m (xs.map g) s1:=by
 obtain⟨z,_,k⟩:=kZ (I:=λe=>∃o,e=o::R) (g:=λa=>[g a]) (t:=.a 0) (body:=λe n c=>(yo Φ G e .a n).bind λb d=>if b then (evE Φ G e elt d).bind λv l=>.e (c++[v],e) l else .e (c,e) d) (r:=⟨xs.map f,none⟩) (s:=s1) rfl xs (by rintro a u e c ⟨o,rfl⟩;exact⟨some (f a)::R,some (f a)::R,rfl,bnd rfl (bnd (h a u) rfl),_,rfl⟩) (ze fr env) [] ⟨_,x⟩
 show (yM Φ G env it s).bind _=_;refine bnd q (bnd k ?_);rw[List.map_eq_flatMap];rfl
theorem mQ{b:Type}{p}{f:b->Val}:∀l:List b,((l.filter λa=>!p a).map f).isEmpty=l.all p
 |[]=>rfl
 |a::l=>by rw[DW,B5,<-mQ l];cases p a<;>rfl
def up1(k:run T (zC T n) F vs s=r)(h:T.c f v=some F):zC T (n+1) f v vs s=r:=by rw[wD h];exact k
def O2(k:(run T (zC T n) F vs s).post P)(h:T.c f v=some F):(zC T (n+1) f v vs s).post P:=by rw[wD h];exact k
noncomputable def Sms.tl:Sms->Sms
 |.e _ ss=>ss
 |x=>x
noncomputable def Sms.hd:Sms->Sm
 |.e a _=>a
 |_=>.n
noncomputable def Sm.fb:Sm->Sms
 |.h _ _ b=>b
 |_=>.f
noncomputable def yF(l m:Int):Val->Bool
 |.c i=>decide (l<=i)&&decide (i<=m)
 |_=>false
def nq(a:l<=i)(h:i<=m):yF l m (.c i)=true:=by simp[yF,a,h]
def nu(A:Calls):Prop:=∀(v:Val) (l m:Int) (s:Sto),kindOf v≠none->A "is_whole" 0 [v,.c l,.c m] s=.e (.e (yF l m v)) s
def nv(A:Calls):Prop:=∀(vs:List Val) (l m:Int) (s:Sto),(∀v∈vs,kindOf v≠none)->A "are_wholes" 0 [.f vs,.c l,.c m] s=.e (.e (vs.all (yF l m))) s
def vi(A:Calls):Prop:=∀(i l m:Int) (s:Sto),l<=i->i<=m->A "need_whole" 0 [.c i,.c l,.c m] s=.e .h s
def rl(A:Calls):Prop:=∀(i:Int) (s:Sto),0<=i->i<=40->A "need_length" 0 [.c i] s=.e .h s
def kQ:blt .a m [.f vs] s=.e (.c vs.length) s:=rfl
def YF:blt .a m [.g vs] s=.e (.c vs.length) s:=rfl
def Sj:blt .a m [.o ns] s=.e (.c ns.length) s:=by simp[blt,xk]
def YG:blt .a m [.r ns] s=.e (.c ns.length) s:=by simp[blt,xk]
def le_int:zQ .c (.c a) (.c b) s=.e (.e (decide (a<=b))) s:=rfl
def lt_int:zQ .n (.c a) (.c b) s=.e (.e (decide (a<b))) s:=rfl
def ge_int:zQ .i (.c a) (.c b) s=.e (.e (decide (b<=a))) s:=rfl
def gt_int:zQ .j (.c a) (.c b) s=.e (.e (decide (b<a))) s:=rfl
theorem uR{a:Type}f:∀j:List a,boolsOf (j.map λx=>Val.e (f x))=some (j.map f)
 |[]=>rfl
 |x::j=>by simp[boolsOf,uR f j]
def qa:binOp m .a (.c i) (.c j) s=.e (.c (i+j)) s:=by simp only[binOp]
def WE:binOp m .e (.c i) (.c j) s=.e (.c (i-j)) s:=by simp only[binOp]
def lx(h:-1000000<=i/\i<=1000000):binOp m .b (.c i) (.c j) s=.e (.c (i*j)) s:=by simp only[binOp];rw[if_pos (.inl ⋯)]
def fV(h:-1000000<=j/\j<=1000000):binOp m .b (.c i) (.c j) s=.e (.c (i*j)) s:=by simp only[binOp];rw[if_pos (.inr ⋯)]
def me(h:kindOf v=some a)(b:uY n=some c):blt .i m [v,.u n] s=.e (.e (a.sub c)) s:=by simp only[blt];rw[h,b]
def Sb(h:kindOf v=some a):(∃i,v=.c i)\/(∃b,v=.e b)\/(a.sub .d=false/\∀l m,yF l m v=false):=by
 cases v with
 |c i=>exact .inl ⟨i,rfl⟩
 |e b=>exact .inr (.inl ⟨b,rfl⟩)
 |_=>cases h<;>exact .inr (.inr ⟨rfl,λ_ _=>rfl⟩)
def mj(h:kindOf v≠none):∃a,kindOf v=some a:=Option.ne_none_iff_exists'.mp h
def YA(h:kindOf v=some a):(∃e,v=.f e)\/a.sub .b=false:=by
 cases v with
 |f e=>exact .inl ⟨e,rfl⟩
 |_=>cases h<;>exact .inr rfl
def bZ(o:kindOf v≠none):run T Φ F.tN [v,.c l,.c m] s=.e (.e (yF l m v)) s:=by
 obtain⟨a,h⟩:=mj o;have g:=me (m:=false) (s:=s) h (show uY "int"=some .d from rfl);have k:=me (m:=false) (s:=s) h (show uY "bool"=some .i from rfl);have f:∀{b:Bool},b=yF l m v->(z0 false s (.e b) s).post λx t=>x=.e (yF l m v)/\t=s:=λ{b} e=>by rw[xy yu,e];exact zF.mpr ⟨rfl,rfl⟩
 rw[post_eq,F.tN,yY];refine⟨rfl,?_⟩;show (zP Φ T.b [some v,some (.c l),some (.c m)] _ s).post _;rcases Sb h with⟨i,rfl⟩|⟨b,rfl⟩|⟨r,q⟩
 . cases h
   have p:evE Φ T.b [some (.c i),some (.c l),some (.c m)] (.w .c .c (.e 1) (.e 0) (.e 2)) s=.e (.e (yF l m (.c i))) s:=by
    refine bnd (zB rfl) (bnd (zB rfl) (bnd le_int ?_));show (match Val.e (decide (l<=i)) with
     |.e true=>(evE Φ T.b [some (.c i),some (.c l),some (.c m)] (.e 2) s).bind λz n=>zQ .c (.c i) z n
     |.e false=>.e (.e false) s
     |_=>.d)=Out.e (.e (decide (l<=i)&&decide (i<=m))) s
    cases decide (l<=i) with
    |true=>exact bnd (zB rfl) le_int
    |false=>rfl
   exact z8 (fD (yT (zA (zB rfl) (zA oH zE)) g) (Uw (yT (zA (zB rfl) (zA oH zE)) k)) p) (f rfl)
 . cases h
   exact z8 (fC (yT (zA (zB rfl) (zA oH zE)) g) (Uw (yT (zA (zB rfl) (zA oH zE)) k))) (f rfl)
 . rw[r]at g
   exact z8 (lX (yT (zA (zB rfl) (zA oH zE)) g)) (f (q _ _).symm)
def gZ(c:nu Φ)(i:∀v∈vs,kindOf v≠none):run T Φ F.vn [.f vs,.c l,.c m] s=.e (.e (vs.all (yF l m))) s:=by
 rw[post_eq,F.vn,yY];refine⟨rfl,?_⟩;show (zP Φ T.b [some (.f vs),some (.c l),some (.c m)] _ s).post _;have k:∀N,evE Φ T.b [some (.f vs),some (.c l),some (.c m)] (.p false N [none,some 1,some 2] (.h "is_whole" 0 (.a (.e 0) (.a (.e 1) (.a (.e 2) .b)))) (.a 0) (.f (.e 0)) .a) s=.e (.g (vs.map λv=>.e (yF l m v))) s:=λN=>by
  rw[List.map_eq_flatMap];refine V7 (xs:=vs) (f:=λv=>v) (λe=>∃o,e=[o,some (.c l),some (.c m)]) (xw (zB rfl) (by rw[List.map_id'];rfl)) ⟨none,rfl⟩ ?_
  rintro v d e ⟨o,rfl⟩;exact⟨_,rfl,⟨_,rfl⟩,true,rfl,(if_pos rfl).mpr ⟨_,x_call (zA (zB rfl) (zA (zB rfl) (zA (zB rfl) zE))) (c v l m s (i v d)),rfl⟩⟩
 refine z8 (yT (zA (k _) zE) (by simp[EVl,zb,ze,blt,yW,uR])) (zk yu)
def oV(c:nu Φ)(b:l<=i)(a:i<=m):run T Φ F.yO [.c i,.c l,.c m] s=.e .h s:=by rw[post_eq];simp[F.yO,EVl,zb,ze,c (.c i) l m s (by simp[kindOf]),nq b a]
def VF(h:x∈yI lo n):∃k:Nat,k<n/\x=.c (lo+k):=by unfold yI at h;obtain⟨k,a,rfl⟩:=A2.mp h;exact⟨k,Am.mp a,rfl⟩
def OI ns lo st n:L2.yC (ns.map Val.c) lo st n=(L2.yC ns lo st n).map Val.c:=by unfold L2.yC;rw[List.map_filterMap];congr 1;funext k;simp[AZ]
def fq a b:CB (.int a) (.int b)=decide (a=b):=by by_cases h:a=b<;>simp[CB,h]
def eq_int:zQ .a (.c a) (.c b) s=.e (.e (decide (a=b))) s:=by simp[zQ,zi,yn,rH,Val.isD,Val.d,PyData.depth,fq]
def ne_int:zQ .b (.c a) (.c b) s=.e (.e !(decide (a=b))) s:=by simp[zQ,zi,yn,rH,Val.isD,Val.d,PyData.depth,fq]
def Tj{k:Nat}(h:vs[k]?=some v):wI (.f vs) (.c k) s=.e v s:=by simp[wI,xk,L2.qM h]
def v8{n:List Int}{k:Nat}(h:n[k]?=some i):wI (.f (n.map .c)) (.c k) s=.e (.c i) s:=Tj (by rw[AZ,h];rfl)
def dm(n:List Int):(n.map Val.c).all flat=true:=by rw[E6];simp[flat]
def cK{n:List Int}:∀v∈n.map Val.c,kindOf v≠none:=λv h=>by obtain⟨i,_,rfl⟩:=A2.mp h;simp[kindOf]
def qY{n:List Int}(h:∀x∈n,l<=x/\x<=m):(n.map Val.c).all (yF l m)=true:=by rw[Ak];intro v b;obtain⟨i,a,rfl⟩:=A2.mp b;exact nq (h i a).1 (h i a).2
noncomputable abbrev tpI(n:List Int):Val:=.f (n.map .c)
section
variable {T:Tbl}{Φ:Calls}{s:Sto}
def oa(Φ:Calls):Prop:=∀(zs:List Int) (s:Sto),Sz zs->Φ "are_sizes" 0 [tpI zs] s=.e (.e true) s
def vh(Φ:Calls):Prop:=∀(zs:List Int) (s:Sto),Sz zs->Φ "need_sizes" 0 [tpI zs] s=.e .h s
def oU(c:oa Φ)(h:Sz zs):run T Φ F.xX [tpI zs] s=.e .h s:=by rw[post_eq];simp[F.xX,EVl,zb,ze,c zs s h]
def fR(h:a.length+b.length<=zO):binOp m .a (.f a) (.f b) s=.e (.f (a++b)) s:=by simp only[binOp];rw[if_pos h]
end
def bmod(h:0<j):binOp m .c (.c i) (.c j) s=.e (.c (i%j)) s:=by simp only[binOp];rw[if_pos h]
def bdiv(h:0<j/\j<1073741824):binOp m .d (.c i) (.c j) s=.e (.c (i/j)) s:=by simp only[binOp];rw[if_pos h]
def rL{k:Nat}(h:vs[k]?=some v):wI (.g vs) (.c k) s=.e v s:=by simp[wI,xk,L2.qM h]
def Tn{i k:Nat}(a:s[i]?=some (.c vs))(h:vs[k]?=some v):wI (.j i) (.c k) s=.e v s:=by simp[wI,xk,a,L2.qM h]
section
variable {T:Tbl}{Φ:Calls}{s:Sto}
def V9(Φ:Calls):Prop:=∀(ns:List Int) (k:Nat) (s:Sto),∃c,Φ "_law_cell_at" 0 [.r ns,.c k] s=.e (.c c) s
def XF ns(k:Nat):∃c,run T Φ F.yx [.r ns,.c k] s=.e (.c c) s:=by
 by_cases h:k<ns.length
 . refine⟨ns[k],?_⟩
   rw[post_eq];have a:(k:Int)<ns.length:=by omega
   have e:(ns.map Val.c)[k]?=some (.c ns[k]):=by rw[AZ,xd h];rfl
   have b:wI (.r ns) (.c k) s=.e (.c ns[k]) s:=by simp[wI,xk,L2.qM e]
   simp[F.yx,EVl,zb,ze,YG,lt_int,a,h,b]
 . refine⟨0,?_⟩
   rw[post_eq];have a:¬(k:Int)<ns.length:=by omega
   simp[F.yx,EVl,zb,ze,YG,lt_int,a,h]
end
def cN(h:zt vs=true):z0 false s (.j s.length) (s++[.c vs])=.e (.g vs) s:=pE (Ac _) (by simp) h
def sG(h:vs.length<zO):yk .a (.j s.length) [y] (s++[.c vs])=.e .h (s++[.c (vs++[y])]):=by simp[yk,h,upd]
def Vl lo n:(yI lo n).length=n:=by unfold yI;rw[rt,Bl]
def XB lo k:yI lo (k+1)=.c lo::yI (lo+1) k:=by
 unfold yI;rw[EA,AE,B3];congr 1
 . simp
 . refine Fh λj _=>?_
   show Val.c (lo+((j+1:Nat):Int))=Val.c (lo+1+(j:Int));congr 1;omega
def wa(h:x::rest=yI lo k):∃e,k=e+1/\x=.c lo/\rest=yI (lo+1) e:=by
 cases k with
 |zero=>simp[yI]at h
 |succ k=>
  rw[XB]at h;injection h with h1 h2
  exact⟨k,rfl,h1,h2⟩
def uv(h:[]=yI lo k):k=0:=by have:=congrArg Ey h;rw[Vl]at this;exact this.symm
theorem nI:∀e:List Int,v5 (e.map .c)=true
 |[]=>by rw[DK,v5]
 |k::e=>by rw[AE,v5,nI e,Val.isD];rfl
def eq_nil(h:v5 vs=true):zQ .a (.g vs) (.g []) s=.e (.e vs.isEmpty) s:=by
 have k:(Val.g vs).isD=true:=by rw[Val.isD];exact h
 have i:(Val.g []).isD=true:=by rw[Val.isD,v5]
 have f:(Val.g []).d=.list []:=by rw[Val.d,ds]
 have c:(Val.g vs).d=.list (ds vs):=by rw[Val.d]
 have b:CB (.list (ds vs)) (.list [])=vs.isEmpty:=by
  cases vs with
  |nil=>rw[ds];rfl
  |cons v vs=>rw[ds];rfl
 simp only[zQ,zi,yn,rH,k,i,f,c,b];rfl
def ui(h:env[i]?=some (some (tpI ns))):evE Φ G env (.q .a m (.a (.e i) .b)) s=.e (.c (ns.length:Nat)) s:=yT (zA (zB h) zE) (by rw[kQ,rt])
def X4(d:yM Φ G env it s=.e ⟨yI 0 n,none⟩ s)(i:ze fr env=none::e0)(h:∀k (o:Option Val),k<n->evE Φ G (some (.c k)::e0) elt s=.e (.c (f k)) s)(m:n<=zO):evE Φ G env (.p false N fr elt (.a 0) it .a) s=.e (.g (((Ai n).map f).map .c)) s:=
 (lZ (xs:=Ai n) (f:=λ(k:Nat)=>.c (0+(k:Int))) (λk=>.c (f k)) e0 d i λk b=>by rw[Int.zero_add];exact h k none (Am.mp b)).trans (congrArg (λl=>Out.e (Val.g l) s) (B3 (g:=Val.c)).symm)
def nN(L:L2.oK k w d)(i:k<=50)(g:w<=300000)(h:d.hasDict=false):td d=true:=by
 have:=L.a;have:=L.f;unfold td;rw[L.c,L.b,h,decide_eq_true (show d.depth<=50 by omega),decide_eq_true (show d.weight<=300000 by omega)]
 rfl
theorem mL:∀e:List Int,ds (e.map .c)=e.map F3
 |[]=>by rw[DK,ds];rfl
 |k::e=>by rw[AE,ds,mL e,Val.d];rfl
theorem rJ:∀e:List Int,sP (e.map .c)=true
 |[]=>by rw[DK,sP]
 |k::e=>by rw[AE,sP,rJ e,Val.isR];rfl
def Vj(l:ks.length<=1000)(g:∀k∈ks,0<=k/\k<=100000):blt .b m [tpI ks] s=.e (.m (PyData.tuple (ks.map F3)).shown) s:=by
 have a:(Val.f (ks.map .c)).d=.tuple (ks.map F3):=by rw[Val.d,mL]
 have h:(Val.f (ks.map .c)).isR=true:=by rw[Val.isR];exact rJ ks
 have o:td (.tuple (ks.map F3))=true:=nN (L2.pD (n:=1000) (k:=0) (w:=100) (λd a=>by obtain⟨r,h,rfl⟩:=A2.mp a;exact L2.kS (by have:=g r h;omega) (by have:=g r h;omega)) (by rw[rt];exact l)) (by decide) (by decide) (by rw[GZ];exact L2.uo λd a=>by obtain⟨r,h,rfl⟩:=A2.mp a;rfl)
 have i:zi s (tpI ks)=.f (ks.map .c):=by show Val.f ((ks.map Val.c).map (yn s))=_;rw[B3];rfl
 simp only[blt];rw[i,a,h,o];rfl
theorem kf:∀{n} {vs} {x},x∈yJ n vs->∃k v,vs[k]?=some v/\x=.f [.c ((n+k:Nat):Int),v]
 |_,[],_,h=>by cases h
 |n,v::vs,x,h=>by
  rw[yJ]at h;rcases Al.mp h with e|h
  . exact⟨0,v,rfl,e⟩
  . obtain⟨k,w,y,j⟩:=kf h
    refine⟨k+1,w,by simpa using y,?_⟩
    rw[j];congr 3;omega
def max2:blt .l m [.c i,.c j] s=.e (.c (if j > i then j else i)) s:=rfl
def min2:blt .m m [.c i,.c j] s=.e (.c (if j<i then j else i)) s:=rfl
def ZP{K:Nat}(h:env[0]?=some (some (.r ns)))(f:K<=100) :
 yM Φ G env (.d (.q .l false (.a (.g (.c 1)) (.a (.q .m false (.a (.q .a false (.a (.e 0) .b)) (.a (.g (.c K)) .b))) .b)))) s=.e ⟨yI 0 (max 1 (min ns.length K)),none⟩ s:=by
 rw[post_eq];simp only[EVl,zb,ze];refine⟨_,h,?_⟩;rw[YG];simp only[zF];rw[min2];simp only[zF];rw[max2];simp only[zF];have e:(if (if (K:Int)<(ns.length:Int) then (K:Int) else (ns.length:Int)) > 1 then (if (K:Int)<(ns.length:Int) then (K:Int) else (ns.length:Int)) else 1)=((max 1 (min ns.length K):Nat):Int):=by split<;>split<;>omega
 rw[e];refine⟨_,rfl,⟨⋯,by unfold zO;omega⟩,?_⟩
 simp
def Ti(a:env[j]?=some (some (.j i)))(h:s[i]?=some (.c vs)):yM Φ G env (.f (.e j)) s=.e ⟨vs,some i⟩ s:=by rw[post_eq];simp only[EVl,zb,ze];exact⟨_,a,⟨vs,some i⟩,(by simp[srcOf,h]),rfl,trivial⟩
end M
end
section
namespace M
open L2
noncomputable def dO(n:List Int)(f d z:Nat)(h:Int):Bool:=(Ai z).all λk=>decide (n[f+k*d]?=some h)
def vM:dO ns f d z h=true↔∀k<z,ns[f+k*d]?=some h:=by unfold dO;rw[Ak];exact⟨λH k a=>of_decide_eq_true (H k (Am.mpr a)),λH k a=>decide_eq_true (H k (Am.mp a))⟩
noncomputable def wY(n:List Int)(z:Nat)(h:Int):Bool:=(Ai (n.length/(z-1))).any λj=>(Ai (z-1)).all λk=>decide (n[n.length-(k+1)*(j+1)]?=some h)
def mR(g:2<=z):wY ns z h=true↔∃d,0<d/\(z-1)*d<=ns.length/\∀k,1<=k->k<z->ns[ns.length-k*d]?=some h:=by
 unfold wY;rw[Bv];constructor
 . rintro ⟨j,a,H⟩
   rw[Am,EV,EW ⋯,BI]at a
   rw[Ak]at H;refine⟨j+1,⋯,a,λk f b=>?_⟩
   have:=of_decide_eq_true (H (k-1) (Am.mpr ⋯))
   rwa [show k-1+1=k by omega]at this
 . rintro ⟨d,f,b,H⟩
   refine⟨d-1,?_,?_⟩
   . rw[Am,EV,EW ⋯,show d-1+1=d by omega,BI];exact b
   . rw[Ak]
     intro k c;rw[Am]at c;rw[show d-1+1=d by omega]
     exact decide_eq_true (H (k+1) ⋯ ⋯)
def aA(z n:List Int):Prop:=∀h f d,h<z.length->0<d->f+d*(zW z h-1)<n.length->dO n f d (zW z h) h≠true
structure Fit(zs ns:List Int):Prop where
 a:∀x∈ns,0<=x/\x<zs.length
 b:aA zs ns
def pk{h:Int}(a:i<ns.length):(ns++[h])[i]?=ns[i]?:=AS a
def VD{g:Nat}(p:aA zs ns)(n:h<zs.length)(o:0<d)(i:f+d*(zW zs h-1)<(ns++[(g:Int)]).length)(q:2<=zW zs h)(c:dO (ns++[(g:Int)]) f d (zW zs h) h=true) :
 f+d*(zW zs h-1)=ns.length/\h=g:=by
 rw[Ah,BY]at i;rw[vM]at c;have a:f+d*(zW zs h-1)=ns.length:=by
  apply GH ⋯
  refine Nat.not_lt.mp λb=>p h f d n o b ?_;rw[vM];intro k m;have l:k*d<=(zW zs h-1)*d:=Bs _ ⋯
  have e:=BI d (zW zs h-1);rw[<-c k m,pk ⋯]
 refine⟨a,?_⟩;have:=c (zW zs h-1) ⋯
 rw[BI,a,A3 (Ac _),DN]at this;have:=AQ this;omega
def TU{h:Nat}(g:2<=z)(b:0<d)(n:f+d*(z-1)=ns.length)(c:dO (ns++[(h:Int)]) f d z h=true):wY ns z h=true:=by
 rw[mR g];rw[vM]at c;have e:=BI d (z-1);refine⟨d,b,⋯,λk i o=>?_⟩
 have a:=c (z-1-k) ⋯
 have p:(z-1-k)*d+k*d=(z-1)*d:=by rw[<-Nat.add_mul];congr 1;omega
 have m:1*1<=k*d:=Dj i b;have l:f+(z-1-k)*d=ns.length-k*d:=by omega
 rw[l,pk ⋯]at a
 exact a
def S7{h:Nat}(c:2<=z)(a:wY ns z h=true):∃f d,0<d/\f+d*(z-1)=ns.length/\dO (ns++[(h:Int)]) f d z h=true:=by
 rw[mR c]at a;obtain⟨d,b,l,H⟩:=a;have e:=BI d (z-1);refine⟨ns.length-(z-1)*d,d,b,⋯,?_⟩
 rw[vM];intro k m;have n:(z-1-k)*d+k*d=(z-1)*d:=by rw[<-Nat.add_mul];congr 1;omega
 have g:ns.length-(z-1)*d+k*d=ns.length-(z-1-k)*d:=by omega
 rw[g];by_cases hc:k=z-1
 . subst hc
   rw[DN,Nat.zero_mul,E7,A3 (Ac _),DN];rfl
 . have i:1*1<=(z-1-k)*d:=Dj ⋯ b
   rw[pk ⋯]
   exact H (z-1-k) ⋯ ⋯
def nF(c:Sz zs)(m:aA zs ns)(g:h0<zs.length):aA zs (ns++[(h0:Int)])↔wY ns (zW zs h0) h0=false:=by
 have z:=(xH c g).2.1;constructor
 . intro H
   cases a:wY ns (zW zs h0) h0 with
   |false=>rfl
   |true=>
    obtain⟨f,d,l,p,b⟩:=S7 z a;exact(H h0 f d g l (by rw[Ah,BY];omega) b).elim
 . intro a h f d k i n b
   obtain⟨o,e⟩:=VD m k i n (xH c k).2.1 b;subst e;rw[TU z i o b]at a;cases a
def Fit.snoc(d:Sz zs)(c:Fit zs ns)(f:h0<zs.length)(g:wY ns (zW zs h0) h0=false):Fit zs (ns++[(h0:Int)]):=by
 refine⟨λx h=>?_,(nF d c.b f).mpr g⟩;rcases Ba.mp h with h|h
 . exact c.a x h
 . rw[Ap.mp h];omega
theorem Fit.take(g:Fit zs ns)n:Fit zs (ns.take n):=by
 refine⟨λx i=>g.a x (List.mem_of_mem_take i),λh f d q p o c=>?_⟩;rw[Dm]at o;refine g.b h f d q p ⋯ ?_
 rw[vM]at c ⊢;intro k m;have l:k*d<=(zW zs h-1)*d:=Bs _ ⋯
 have e:=BI d (zW zs h-1);have:=c k m
 rwa [Ec ⋯]at this
def fu zs:Fit zs []:=⟨λx a=>(by cases a),λh f d _ _ b _=>absurd b (Nat.not_lt_zero _)⟩
end M
end
section
namespace F
open PySem M
noncomputable def xV:Fn:=⟨["sizes","hues","place","hue"],["sizes","hues"],false,(.e (.h (.b [2,3]) (.h (.e 1)) (.e (.j (.a (.l .i (.e 3) (.q .a false (.a (.e 0) .b)))) (.e (.f (.e 2)) .f) .f) .f)) (.e (.f (.g .h)) .f))⟩
noncomputable def tM:Fn:=⟨["thing"],["thing"],false,(.e (.f (.y (.q .i false (.a (.e 0) (.a (.P "tuple" "tuple") .b))) (.a (.l .c (.q .a false (.a (.e 0) .b)) (.C "MOST_PLACES")) (.a (.h "are_wholes" 0 (.a (.e 0) (.a (.u (.C "HUES") (.g (.c 0))) (.a (.u (.C "HUES") (.D (.g (.c 1)))) .b)))) .b)))) .f)⟩
noncomputable def vp:Fn:=⟨["sizes","strip","hue","end","others","step"],["sizes","strip","hue"],false,(.e (.d 3 (.q .a false (.a (.e 1) .b))) (.e (.d 4 (.j false .e (.u (.e 0) (.e 2)) (.g (.c 1)))) (.e (.h (.a 5) (.g (.g (.c 1)) (.j false .a (.j false .d (.e 3) (.e 4)) (.g (.c 1)))) (.e (.j (.a (.l .a (.L .b false (.Q false (.e 1) (.a (.j false .e (.e 3) (.j false .b (.e 4) (.e 5)))) .b (.a (.e 5))) (.a (.e 2) .b)) (.e 4))) (.e (.f (.g (.e false))) .f) .f) .f)) (.e (.f (.g (.e true))) .f))))⟩
end F
end
section
namespace M
open PySem
structure Gl4(T:Tbl):Prop where
 mp:T.b "MOST_PLACES"=some (.c 40)
 ls:T.b "LEAST_SIZE"=some (.c 2)
 ms:T.b "MOST_SIZE"=some (.c 8)
 hu:T.b "HUES"=some (.o [0,1,2,3])
def nJ{n:List Int}(h:x∈yJ 0 (n.map .c)):∃k i,n[k]?=some i/\x=.f [.c (k:Nat),.c i]:=by obtain⟨k,v,a,rfl⟩:=kf h;rw[AZ]at a;obtain⟨j,b,rfl⟩:=Bc.mp a;exact⟨k,j,b,by rw[Gn]⟩
def WQ{n f d s:Nat}(b:0<d)(a:1<=s)(h:f+d*s=n):L2.ym n (some (f:Int)) none (d:Int)=((f:Int),s):=by
 have i:d*s=d*(s-1)+d:=by rw[<-Nat.mul_succ];congr 1;omega
 have e:=WR (n:=n) (f:=f) b a ⋯
 have c:A7 (some (f:Int)) none (d:Int) (n:Int)=A7 (some (f:Int)) (some ((f:Int)+(d:Int)*(s:Int))) (d:Int) (n:Int):=by
  have g:(f:Int)+(d:Int)*(s:Int)=(n:Int):=by rw[<-h,GI,CC]
  rw[g];unfold A7;simp only[if_neg (show ¬(d:Int)<0 by omega),if_neg (show ¬(f:Int)<0 by omega),if_neg (show ¬(n:Int)<0 by omega)]
  refine F5 rfl ?_;show (n:Int)=min (n:Int) (n:Int);omega
 unfold L2.ym at e ⊢;rw[c];exact e
noncomputable def tB(n:List Int)(z:Nat)(h:Int)(j:Nat):Bool:=(Ai (z-1)).all λk=>decide (n[n.length-(k+1)*(j+1)]?=some h)
def dh(l:2<=z)(n:(z-1)*(j+1)<=ns.length):decide ((((Ai (z-1)).map λk=>ns.getD (ns.length-(z-1)*(j+1)+k*(j+1)) 0).count h:Int)=((z-1:Nat):Int))=tB ns z h j:=by
 have f:((Ai (z-1)).map λk=>ns.getD (ns.length-(z-1)*(j+1)+k*(j+1)) 0).length=z-1:=by rw[rt,Bl]
 have b:∀k,k<z-1->ns.length-(z-1)*(j+1)+k*(j+1)=ns.length-((z-2-k)+1)*(j+1)/\ns.length-((z-2-k)+1)*(j+1)<ns.length:=λk a=>by
  have c:((z-2-k)+1)*(j+1)+k*(j+1)=(z-1)*(j+1):=by rw[<-Nat.add_mul];congr 1;omega
  have m:1*1<=((z-2-k)+1)*(j+1):=Dj ⋯ ⋯
  omega
 rw[BL,decide_eq_true_iff];unfold tB;rw[Ak];constructor
 . intro e k a
   have a:=Am.mp a;have i:=List.count_eq_length.mp (by rw[f];exact Int.ofNat.inj e)
   obtain⟨d,c⟩:=b (z-2-k) ⋯
   rw[show z-2-(z-2-k)=k by omega]at d c
   have:=i _ (A2.mpr ⟨z-2-k,Am.mpr ⋯,rfl⟩)
   rw[d,AF,xd c]at this;rw[decide_eq_true_iff,xd c];exact congrArg some this.symm
 . intro H
   have:((Ai (z-1)).map λk=>ns.getD (ns.length-(z-1)*(j+1)+k*(j+1)) 0).count h=z-1:=by
    rw[List.count_eq_length.mpr,f];intro x g;obtain⟨k,a,rfl⟩:=A2.mp g;have a:=Am.mp a;obtain⟨d,c⟩:=b k a;have:=of_decide_eq_true (H (z-2-k) (Am.mpr ⋯))
    rw[d,AF,this];rfl
   rw[this]
def QJ:yk .b (tpI st) [.c h] s=.e (.c (st.count h)) s:=by
 have e:∀l:List Int,(l.map Val.c).countP (λz=>eqF z (.c h))=l.count h:=by
  intro l;induction l with
  |nil=>rfl
  |cons a l g=>rw[AE,DU,g,List.count_cons];rfl
 have f:(st.map Val.c).all flat=true:=Ak.mpr λv k=>by obtain⟨i,_,rfl⟩:=A2.mp k;rfl
 show (if (flat (.c h)&&(st.map Val.c).all flat)=true then Out.e (Val.c ((st.map Val.c).countP λz=>eqF z (.c h):Nat)) s else .d)=_
 rw[f,e];rfl
section
variable {T:Tbl}{Φ:Calls}{s:Sto}
def QX(Φ:Calls):Prop:=∀(zs ns:List Int) (h:Nat) (s:Sto),Sz zs->ns.length<=40->h<zs.length->Φ "may_follow" 0 [tpI zs,tpI ns,.c h] s=.e (.e !(wY ns (zW zs h) h)) s
def Vn(P:Sz zs)(X:ns.length<=40)(Z:h<zs.length):run T Φ F.vp [tpI zs,tpI ns,.c h] s=.e (.e !(wY ns (zW zs h) h)) s:=by
 obtain⟨I,H,z3⟩:=xH P Z;generalize hzz:zW zs h=z at *;have hK:ns.length/(z-1)<=40:=Aq (Nat.div_le_self _ _) X;have E:∀j,j<ns.length/(z-1)->(z-1)*(j+1)<=ns.length:=λj m=>by rw[EV,EW ⋯,BI]at m;exact m
 have M:wY ns z h=(Ai (ns.length/(z-1))).any (tB ns z h):=rfl;have A:binOp false .d (.c (ns.length:Nat)) (.c ((z-1:Nat):Int)) s=.e (.c (ns.length/(z-1):Nat)) s:=by rw[bdiv ⋯,<-Int.natCast_ediv]
 generalize hKK:ns.length/(z-1)=K at *;rw[post_eq,F.vp,yY];refine⟨rfl,?_⟩;show (zP Φ T.b [some (tpI zs),some (tpI ns),some (.c h),none,none,none] _ s).post _;refine yD (ui rfl) (yD (zm (wN (zB rfl) (zB rfl) (v8 I)) zI WE) ?_);rw[show ((z:Int)-1)=((z-1:Nat):Int) by omega]
 show (zP Φ T.b [some (tpI zs),some (tpI ns),some (.c h),some (.c ns.length),some (.c ((z-1:Nat):Int)),none] _ s).post _;refine zj.mpr (yp (λr e g=>g=s/\(∃u,e=[some (tpI zs),some (tpI ns),some (.c h),some (.c ns.length),some (.c ((z-1:Nat):Int)),u])/\∃t:List Nat,r=t.map (λ(j:Nat)=>Val.c (1+(j:Int)))/\(∀j∈t,j<K)/\wY ns z h=t.any (tB ns z h)) (yI 1 K) (s1:=s) (eA (i:=1) (j:=K+1) zI (zm (zm (zB rfl) (zB rfl) A) zI qa) ⋯ ⋯) ⟨rfl,⟨_,rfl⟩,Ai K,rfl,λj m=>Am.mp m,M⟩ ?_ ?_)
 . rintro x r e g ⟨rfl,⟨u,rfl⟩,t,o,D,n⟩
   cases t with
   |nil=>cases o
   |cons j t=>
    rw[AE]at o;injection o with hx o
    subst hx;refine⟨_,rfl,?_⟩;have m:=E j (D j (.head _));have q:=dh (h:=(h:Int)) H m;obtain⟨d,C⟩:∃d,d=j+1:=⟨_,rfl⟩;have O:(1+(j:Int))=(d:Int):=by omega
    rw[<-C]at m q;have W:0<d:=by omega
    obtain⟨w,R⟩:∃w,w=z-1:=⟨_,rfl⟩;have G:1<=w:=by omega
    have w8:w<=8:=by omega
    rw[<-R]at m q ⊢;have N:binOp false .b (.c (w:Int)) (.c (d:Int)) g=.e (.c ((w*d:Nat):Int)) g:=by rw[lx ⋯,CC]
    obtain⟨f,y⟩:∃f,f=ns.length-w*d:=⟨_,rfl⟩;rw[<-y]at q;have J:binOp false .e (.c (ns.length:Nat)) (.c ((w*d:Nat):Int)) g=.e (.c (f:Int)) g:=by rw[WE,show ((ns.length:Nat):Int)-((w*d:Nat):Int)=(f:Int) by omega]
    have hm:d*w=d*(w-1)+d:=by rw[<-Nat.mul_succ,Nat.succ_eq_add_one,Nat.sub_add_cancel G]
    have S:=BI d w;have v:pj false (tpI ns) (some (f:Int)) none (some (d:Int)) g=.e (tpI ((Ai w).map λk=>ns.getD (f+k*d) 0)) g:=by
     have U:L2.ym ns.length (some (f:Int)) none (d:Int)=((f:Int),w):=WQ W G ⋯
     have Y:w<=zO:=by unfold zO;omega
     have B:(d:Int)≠0:=by omega
     simp only[pj,rt,U];rw[if_pos ⟨B,Y⟩];simp only[OI];rw[Yx ⋯]
    generalize (Ai w).map (λk=>ns.getD (f+k*d) 0)=xs at *;rw[O];show (zP Φ T.b [some (tpI zs),some (tpI ns),some (.c h),some (.c ns.length),some (.c (w:Int)),some (.c (d:Int))] _ g).post _;rw[D1,<-q]at n;have p:evT Φ T.b [some (tpI zs),some (tpI ns),some (.c h),some (.c ns.length),some (.c (w:Int)),some (.c (d:Int))] (.a (.l .a (.L .b false (.Q false (.e 1) (.a (.j false .e (.e 3) (.j false .b (.e 4) (.e 5)))) .b (.a (.e 5))) (.a (.e 2) .b)) (.e 4))) g=.e (decide ((xs.count (h:Int):Int)=(w:Int))) g:=yH (yU (bnd (Nh (zB rfl) (UZ (zm (zB rfl) (zm (zB rfl) (zB rfl) N) J)) NJ (UZ (zB rfl)) v) (bnd (zA (zB rfl) zE) QJ)) (zB rfl) eq_int) za;by_cases hq:(xs.count (h:Int):Int)=(w:Int)
    . rw[decide_eq_true hq]at p n
      rw[Bool.true_or]at n;refine qA p (z8 zI ?_);rw[n];exact zk yu
    . rw[decide_eq_false hq]at p n
      rw[Bool.false_or]at n;exact wq p (yl ⟨rfl,⟨_,rfl⟩,t,o,λj m=>D j (.tail _ m),n⟩)
 . rintro e g ⟨rfl,⟨u,rfl⟩,t,o,D,n⟩
   have V:t=[]:=by cases t with|nil=>rfl|cons _ _=>cases o
   subst V;rw[n];exact z8 zI (zk yu)
end
end M
end
section
namespace F12
open PySem M
noncomputable def vk:Fn:=⟨["sizes","length","strips","place"],["sizes","length"],false,(.e (.g (.h "need_small_sizes" 0 (.a (.e 0) .b))) (.e (.g (.h "need_length" 0 (.a (.e 1) .b))) (.e (.d 2 (.s false (.a (.k .b) .b))) (.e (.h (.a 3) (.d (.e 1)) (.e (.d 2 (.h "grown" 0 (.a (.e 0) (.a (.e 2) .b)))) .f)) (.e (.f (.e 2)) .f)))))⟩
noncomputable def ny:Fn:=⟨["sizes","strips"],["sizes","strips"],false,(.e (.f (.z false ["strip","hue","sizes"] [none,none,some 0] (.j false .a (.e 0) (.k (.a (.e 1) .b))) (.a 0) (.f (.e 1)) .a (.a 1) (.d (.q .a false (.a (.e 2) .b))) (.b (.a (.h "may_follow" 0 (.a (.e 2) (.a (.e 0) (.a (.e 1) .b))))) .a))) .f)⟩
noncomputable def vq:Fn:=⟨["numbers","product","number"],["numbers"],false,(.e (.d 1 (.g (.c 1))) (.e (.h (.a 2) (.f (.e 0)) (.e (.s 1 .b (.e 2)) .f)) (.e (.f (.e 1)) .f)))⟩
end F12
end
section
namespace M
open L2
def okH(z n:List Int):List Nat:=(Ai z.length).filter λh=>!wY n (zW z h) h
def xa(z:List Int)(L:List (List Int)):List (List Int):=L.flatMap λn=>(okH z n).map λ(h:Nat)=>n++[(h:Int)]
def yg(z:List Int)(L:List (List Int)):Nat->List (List Int)
 |0=>L
 |n+1=>xa z (yg z L n)
def pK:y∈xa zs L↔∃x∈L,∃h:Nat,h<zs.length/\wY x (zW zs h) h=false/\y=x++[(h:Int)]:=by
 unfold xa okH;rw[Ds];constructor
 . rintro ⟨x,a,c⟩
   obtain⟨h,b,rfl⟩:=A2.mp c;rw[BJ,Am,AI]at b;exact⟨x,a,h,b.1,b.2,rfl⟩
 . rintro ⟨x,a,h,f,d,rfl⟩
   refine⟨x,a,A2.mpr ⟨h,?_,rfl⟩⟩;rw[BJ,Am,AI];exact⟨f,d⟩
theorem pH(h:∀x∈L,x.length=k):∀n,∀x∈yg zs L n,x.length=k+n
 |0,x,hx=>h x hx
 |n+1,x,hx=>by obtain⟨y,e,a,_,_,rfl⟩:=pK.mp hx;rw[Ah,pH h n y e];rfl
theorem pG(b:Sz zs)(h:∀x∈L,Fit zs x):∀n,∀x∈yg zs L n,Fit zs x
 |0,x,hx=>h x hx
 |n+1,x,hx=>by obtain⟨y,e,a,w,j,rfl⟩:=pK.mp hx;exact(pG b h n y e).snoc b w j
def aG(L:List (List Int)):Prop:=L.Pairwise λa b=>oQ a b=true
theorem eK:∀{a b x y},oQ a b=true->oQ (a++x) (b++y)=true
 |[],[],_,_,h=>by cases h
 |[],_::_,_,_,h=>by cases h
 |_::_,[],_,_,h=>by cases h
 |u::a,v::b,x,y,h=>by
  rw[CI,CI];unfold oQ at h ⊢;by_cases e:u=v
  . rw[if_pos e]at h ⊢;exact eK h
  . rw[if_neg e]at h ⊢;exact h
theorem kX:∀{a} {x y},x<y->oQ (a++[x]) (a++[y])=true
 |[],x,y,h=>by
  show oQ [x] [y]=true;unfold oQ;rw[if_neg ⋯];exact decide_eq_true h
 |u::a,x,y,h=>by rw[CI,CI];unfold oQ;rw[if_pos rfl];exact kX h
def bR(h:aG L):aG (xa zs L):=by
 unfold aG xa;rw[List.pairwise_flatMap];refine⟨λa _=>?_,h.imp λ{a b} hab x hx y hy=>?_⟩
 . rw[FV]
   exact(List.pairwise_lt_range.filter _).imp λ{i j} hij=>kX ⋯
 . obtain⟨i,_,rfl⟩:=A2.mp hx
   obtain⟨j,_,rfl⟩:=A2.mp hy;exact eK hab
theorem bS(h:aG L):∀n,aG (yg zs L n)
 |0=>h
 |n+1=>bR (bS h n)
theorem pF zs L m:∀n,yg zs (yg zs L m) n=yg zs L (m+n)
 |0=>rfl
 |n+1=>congrArg (xa zs) (pF zs L m n)
theorem ft(c:Sz zs):∀n {ns},ns.length=n->Fit zs ns->ns∈yg zs [[]] n
 |0,ns,hl,_=>by rw[List.eq_nil_of_length_eq_zero hl];exact .head _
 |n+1,ns,hl,hf=>by
  have j:ns≠[]:=λe=>by rw[e]at hl;cases hl
  have e:=List.dropLast_concat_getLast j;have d:(ns.take n)=ns.dropLast:=by rw[List.dropLast_eq_take,hl];rfl
  have f:=ft c n (ns:=ns.dropLast) (by rw[List.length_dropLast,hl];rfl) (by rw[<-d];exact hf.take n)
  have g:=hf.a _ (List.getLast_mem j);obtain⟨h,k⟩:∃h:Nat,ns.getLast j=h:=⟨(ns.getLast j).toNat,⋯⟩
  rw[k]at e g;refine pK.mpr ⟨_,f,h,⋯,?_,e.symm⟩
  have i:aA zs ns.dropLast:=by rw[<-d];exact(hf.take n).b
  rw[<-nF c i ⋯,e]
  exact hf.b
def WU(z:List Int):Nat->List (List Int)->Bool
 |0,L=>L.isEmpty
 |n+1,L=>decide (L.length<=100)&&WU z n (xa z L)
theorem fj:∀{n} {L},WU zs n L=true->yg zs L n=[]/\∀m,m<n->(yg zs L m).length<=100
 |0,L,h=>⟨A1.mp h,λm j=>absurd j (Nat.not_lt_zero _)⟩
 |n+1,L,h=>by
  unfold WU at h;rw[cf]at h;have ⟨h1,h2⟩:=fj h.2;have e:∀m,yg zs (xa zs L) m=yg zs L (m+1):=λm=>by have:=pF zs L 1 m;rw[show yg zs L 1=xa zs L from rfl,F9 1 m]at this;exact this
  rw[e]at h1;refine⟨h1,λm j=>?_⟩;cases m with
  |zero=>exact of_decide_eq_true h.1
  |succ m=>rw[<-e];exact h2 m ⋯
def YJ(h:yg zs L n=[]):∀m,yg zs L (n+m)=[]:=λm=>by
 rw[<-pF,h];induction m with
 |zero=>rfl
 |succ m i=>show xa zs (yg zs [] m)=[];rw[i];rfl
structure zp(zs:List Int):Prop where
 a:Sz zs
 c:zs.foldl (·*·) 1<=12
 d:∀m,18<=m->yg zs [[]] m=[]
 b:∀m,(yg zs [[]] m).length<=100
end M
end
section
namespace M
open PySem
abbrev tps(L:List (List Int)):List Val:=L.map tpI
noncomputable def unI:Val->List Int
 |.f vs=>vs.map λv=>match v with|.c i=>i|_=>0
 |_=>[]
theorem wj:∀L:List (List Int),zt (tps L)=true
 |[]=>rfl
 |ns::L=>by show (Val.noRef (tpI ns)&&zt (tps L))=true;rw[wj L,ED];exact wJ ns
def fQ(h:a.length+b.length<=zO):binOp false .a (.g a) (.g b) s=.e (.g (a++b)) s:=by simp only[binOp,yW];rw[if_pos h];rfl
def dn{G:Nat->Val}{n:Nat}(d:∀k<n,F (.c k)=if f k then [G k] else []):(yI 0 n).flatMap F=((Ai n).filter f).map G:=by
 unfold yI;rw[List.flatMap_map];have:∀l:List Nat,(∀k∈l,k<n)->l.flatMap (λ(k:Nat)=>F (.c (0+(k:Int))))=(l.filter f).map G:=λl=>by
  induction l with
  |nil=>intro _;rfl
  |cons k l i=>
   intro h;rw[CG,i λj b=>h j (.tail _ b),show (0:Int)+(k:Int)=(k:Int) by omega,d k (h k (.head _)),DW]
   cases f k<;>rfl
 exact this _ λk a=>Am.mp a
def bT(z n:List Int):Val->List Val
 |.c a=>if !wY n (zW z a.toNat) a then [tpI (n++[a])] else []
 |_=>[]
def Vm zs ns:(yI 0 zs.length).flatMap (bT zs ns)=tps ((okH zs ns).map λ(h:Nat)=>ns++[(h:Int)]):=by
 rw[dn (f:=λh=>!wY ns (zW zs h) h) (G:=λh=>tpI (ns++[(h:Int)])) (λk _=>by simp[bT])]
 show _=Cm tpI (Cm _ (List.filter _ _));rw[B3];rfl
section
variable {T:Tbl}{Φ:Calls}{s:Sto}
def b9(Φ:Calls):Prop:=∀(zs:List Int) (s:Sto),Sz zs->Φ "product_of" 0 [tpI zs] s=.e (.c (zs.foldl (·*·) 1)) s
def XH(i:Sz zs):run T Φ F12.vq [tpI zs] s=.e (.c (zs.foldl (·*·) 1)) s:=by
 rw[post_eq];simp[F12.vq,EVl,zb,ze];refine yp (λr e d=>d=s/\∃o a t,e=[some (tpI zs),some (.c a),o]/\r=t.map Val.c/\(∀x∈t,2<=x/\x<=8)/\t.foldl (·*·) a=zs.foldl (·*·) 1) (zs.map .c) (s1:=s) ?_ ⟨rfl,_,_,zs,rfl,rfl,i.2.2,rfl⟩ ?_ ?_
 . rw[post_eq]
   simp[EVl,zb,ze]
 . rintro x r e d ⟨rfl,o,a,t,rfl,h,g,f⟩
   cases t with
   |nil=>cases h
   |cons y t=>
    rw[AE]at h;injection h with h1 h2
    subst h1;have m:=g y (.head _);refine⟨_,rfl,?_⟩;rw[zj];show (Out.bind (binOp false .b (.c a) (.c y) d) _).post _;rw[fV ⋯,zT]
    simp only[EVl,zb,ze];exact⟨trivial,_,_,t,rfl,h2,λx k=>g x (.tail _ k),f⟩
 . rintro e d ⟨rfl,o,a,t,rfl,h,g,f⟩
   have l:t=[]:=by cases t with|nil=>rfl|cons _ _=>cases h
   subst l;simp[EVl,zb,ze];exact f
def wb(Φ:Calls):Prop:=∀(zs:List Int) (s:Sto),zp zs->Φ "need_small_sizes" 0 [tpI zs] s=.e .h s
def fJ(Φ:Calls):Prop:=∀(zs:List Int) (L:List (List Int)) (s:Sto),Sz zs->(∀x∈L,x.length<=40)->(xa zs L).length<=zO->Φ "grown" 0 [tpI zs,.g (tps L)] s=.e (.g (tps (xa zs L))) s
def gS(c:QX Φ)(m:Sz zs)(u:∀x∈L,x.length<=40)(r:(xa zs L).length<=zO):run T Φ F12.ny [tpI zs,.g (tps L)] s=.e (.g (tps (xa zs L))) s:=by
 rw[post_eq,F12.ny,yY];refine⟨rfl,?_⟩;have i:(L.flatMap λn=>(Ai zs.length).flatMap λ(k:Nat)=>bT zs n (.c (0+(k:Int))))=tps (xa zs L):=by unfold xa tps;rw[List.map_flatMap];congr 1;funext n;refine G5 ?_ (Vm zs n);unfold yI;rw[List.flatMap_map]
 have o:=Xz (Φ:=Φ) (G:=T.b) (env:=[some (tpI zs),some (.g (tps L))]) (s:=s) (xs:=L) (f:=tpI) (ys:=λ_=>Ai zs.length) (f2:=λ_ k=>.c (0+(k:Int))) (g:=λn k=>bT zs n (.c (0+(k:Int)))) (λe=>∃a b,e=[a,b,some (tpI zs)]) (λx e=>∃b,e=[some (tpI x),b,some (tpI zs)]) (N:=["strip","hue","sizes"]) (fr:=[none,none,some 0]) (t:=.a 0) (t2:=.a 1) (elt:=.j false .a (.e 0) (.k (.a (.e 1) .b))) (it:=.f (.e 1)) (it2:=.d (.q .a false (.a (.e 2) .b))) (ifs2:=.b (.a (.h "may_follow" 0 (.a (.e 2) (.a (.e 0) (.a (.e 1) .b))))) .a) (xw (zB rfl) rfl) ⟨_,_,rfl⟩ (by
  rintro n l e ⟨a,b,rfl⟩;exact⟨_,rfl,sQ (ui rfl) (by have:=m.2.1;unfold zO;omega),_,rfl⟩) (by
  rintro n e ⟨b,rfl⟩;exact⟨_,_,rfl⟩) (by
  rintro n l k hk e ⟨b,rfl⟩;have p:=u n l;have hk:=Am.mp hk;rw[Int.zero_add];refine⟨_,rfl,⟨_,rfl⟩,_,gx (yH (x_call (zA (zB rfl) (zA (zB rfl) (zA (zB rfl) zE))) (c zs n k s m p hk)) za),?_⟩;cases he:wY n (zW zs k) k with
  |true=>simp[bT,he]
  |false=>exact⟨_,zm (zB rfl) (wV (zA (zB rfl) zE) (Gh (Be _))) (fR (by rw[rt];unfold zO;simp;omega)),by simp[bT,he]⟩) (by rw[i];show (Cm tpI _).length<=_;rw[rt];exact r)
 rw[i]at o;exact z8 o (zk (by rw[mz];exact wj _))
theorem ma:∀e:List Int,intsOf (e.map .c)=some e
 |[]=>rfl
 |n::e=>by show (intsOf (e.map .c)).map _=_;rw[ma e];rfl
end
def mn(h:zp zs)n:∀x∈yg zs [[]] n,x.length=n/\n<18:=λx a=>by
 have:=pH (k:=0) (L:=[[]]) (zs:=zs) (λx a=>by rw[Ap.mp a];rfl) n x a
 refine⟨⋯,?_⟩
 by_cases hn:n<18
 . exact hn
 . rw[h.d n ⋯]at a;cases a
def cT(h:zp zs)n:∀x∈yg zs [[]] n,x.length<=40:=λx a=>by have:=mn h n x a;omega
def ZQ(h:zp zs)n:(yg zs [[]] n).length<=zO:=Aq (h.b n) (by unfold zO;omega)
section
variable {T:Tbl}{Φ:Calls}{s:Sto}
def fG(Φ:Calls):Prop:=∀(zs:List Int) (n:Nat) (s:Sto),zp zs->n<=40->Φ "all_strips" 0 [tpI zs,.c n] s=.e (.g (tps (yg zs [[]] n))) s
def XE(q:wb Φ)(p:rl Φ)(c:fJ Φ){n:Nat}(h:zp zs)(t:n<=40):run T Φ F12.vk [tpI zs,.c n] s=.e (.g (tps (yg zs [[]] n))) s:=by
 rw[post_eq,F12.vk,yY];refine⟨rfl,?_⟩;show (zP Φ T.b [some (tpI zs),some (.c n),none,none] _ s).post _;refine yj (x_call (zA (zB rfl) zE) (q zs s h)) (yj (x_call (zA (zB rfl) zE) (p n s ⋯ ⋯)) (yD (v:=.g (tps (yg zs [[]] 0))) rfl (zj.mpr (yp (λr e d=>d=s/\∃m o,m<=n/\r=yI m (n-m)/\e=[some (tpI zs),some (.c n),some (.g (tps (yg zs [[]] m))),o]) (yI 0 n) (s1:=s) (sQ (zB rfl) (by unfold zO;omega)) ⟨rfl,0,_,⋯,rfl,rfl⟩ ?_ ?_))))
 . rintro x r e d ⟨rfl,m,o,l,i,rfl⟩
   obtain⟨k,u,rfl,f⟩:=wa i;exact⟨_,rfl,yD (x_call (zA (zB rfl) (zA (zB rfl) zE)) (c zs (yg zs [[]] m) d h.a (cT h m) (ZQ h (m+1)))) (yl ⟨rfl,m+1,_,⋯,by rw[f];congr 1;omega,rfl⟩)⟩
 . rintro e d ⟨rfl,m,o,l,i,rfl⟩
   have:=uv i;obtain rfl:m=n:=by omega
   exact z8 (zB rfl) (zk (wj _))
def mU(L:List (List Int)):Val:=match L with
 |[]=>.h
 |x::_=>tpI x
def iZ(d:0<=i)(h:i<8):L2.oK 0 4 (.int i):=by
 have:=L2.kS (i:=i) ⋯ ⋯
 refine⟨this.c,this.b,this.a,?_⟩;have:i=0\/i=1\/i=2\/i=3\/i=4\/i=5\/i=6\/i=7:=by omega
 rcases this with rfl|rfl|rfl|rfl|rfl|rfl|rfl|rfl<;>decide
noncomputable def tD(n:List Int):PyData:=.tuple (n.map F3)
theorem az:∀L:List (List Int),ds (tps L)=L.map tD
 |[]=>rfl
 |ns::L=>by show (tpI ns).d::ds (tps L)=tD ns::L.map tD;rw[az L];show PyData.tuple (ds (ns.map .c))::_=_;rw[mL];rfl
theorem kO:∀L:List (List Int),sP (tps L)=true
 |[]=>rfl
 |ns::L=>by show ((tpI ns).isR&&sP (tps L))=true;rw[kO L,ED];exact rJ ns
def cm ns:(tD ns).hasDict=false:=by unfold tD;rw[GZ];exact L2.uo λd h=>by obtain⟨i,a,rfl⟩:=A2.mp h;rfl
def jM(c:zi s x=.g (tps L))(q:L.length<=100)(p:∀j∈L,j.length<=40/\∀i∈j,0<=i/\i<4):blt .b m [x] s=.e (.m (PyData.list (L.map tD)).shown) s:=by
 have h:(Val.g (tps L)).d=.list (L.map tD):=by rw[Val.d,az]
 have a:(Val.g (tps L)).isR=true:=by rw[Val.isR];exact kO L
 have o:td (.list (L.map tD))=true:=nN (L2.cM (n:=100) (k:=1) (w:=200) (λd h=>by
  obtain⟨j,f,rfl⟩:=A2.mp h;have:=p j f;exact L2.pD (k:=0) (w:=4) (n:=40) (λd h=>by
   obtain⟨i,l,rfl⟩:=A2.mp h;have:=this.2 i l;exact iZ this.1 ⋯) (by rw[rt];exact this.1)) (by rw[rt];exact q)) (by decide) (by decide) (by
  rw[GZ];exact L2.uo λd h=>by obtain⟨r,a,rfl⟩:=A2.mp h;exact cm r)
 simp only[blt];rw[c,h,a,o];rfl
end
def endOf(m:List Int)(s:List (Nat × Nat)):List Int:=s.foldl (λm q=>putL m q.1 q.2) m
def SO(z:List Int):List Int->List (Nat × Nat)->Prop
 |_,[]=>True
 |ms,(p,h)::st=>ms[p]?=some (-1)/\Po z ms p=[h]/\SO z (putL ms p h) st
theorem SO.append:∀{st st'} {ms},SO zs ms st->SO zs (endOf ms st) st'->SO zs ms (st++st')
 |[],_,_,_,h=>h
 |(p,h)::st,st',ms,⟨a,b,c⟩,d=>⟨a,b,SO.append c d⟩
noncomputable def R6(z:List Int):Val->List Val
 |.f [.c i,.c h]=>if (z.length:Int)<=h then [.c i] else []
 |_=>[]
def R7(z n:List Int):List Val:=(yJ 0 (n.map .c)).flatMap (R6 z)
def kK(z n:List Int):Val:=match R7 z n with
 |[]=>.h
 |v::_=>v
section
variable {T:Tbl}{Φ:Calls}{s:Sto}
def b7(Φ:Calls):Prop:=∀(zs ns:List Int) (s:Sto),Φ "first_hue_wrong" 0 [tpI zs,tpI ns] s=.e (kK zs ns) s
def bW:run T Φ F.xV [tpI zs,tpI ns] s=.e (kK zs ns) s:=by
 have q:blt .a false [tpI zs] s=.e (.c zs.length) s:=by rw[kQ,rt]
 rw[post_eq,F.xV,yY];refine⟨rfl,?_⟩;show (zP Φ T.b [some (tpI zs),some (tpI ns),none,none] _ s).post _;refine zj.mpr (yp (λr e d=>d=s/\(∃l o,e=[some (tpI zs),some (tpI ns),l,o])/\(∀x∈r,x∈yJ 0 (ns.map .c))/\R7 zs ns=r.flatMap (R6 zs)) (yJ 0 (ns.map .c)) (s1:=s) (fz (zB rfl)) ⟨rfl,⟨_,_,rfl⟩,λx m=>m,rfl⟩ ?_ ?_)
 . rintro x r e d ⟨rfl,⟨l,o,rfl⟩,p,g⟩
   obtain⟨k,i,t,rfl⟩:=nJ (p x (.head _));have n:∀x∈r,x∈yJ 0 (ns.map .c):=λx m=>p x (.tail _ m);refine⟨_,rfl,?_⟩;rw[CG,show R6 zs (.f [.c (k:Nat),.c i])=if (zs.length:Int)<=i then [Val.c (k:Nat)] else [] from rfl]at g
   by_cases hn:(zs.length:Int)<=i
   . rw[if_pos hn]at g
     have:kK zs ns=.c (k:Nat):=by unfold kK;rw[g];rfl
     refine qA (yH (yU (zB rfl) (yT (zA (zB rfl) zE) q) ge_int) (by rw[za,decide_eq_true hn])) (z8 (zB rfl) ?_)
     rw[this];show (z0 false d _ d).post _;rw[xy ub];exact zF.mpr ⟨rfl,rfl⟩
   . rw[if_neg hn]at g
     exact wq (yH (yU (zB rfl) (yT (zA (zB rfl) zE) q) ge_int) (by rw[za,decide_eq_false hn])) (yl ⟨rfl,⟨_,_,rfl⟩,n,g⟩)
 . rintro e d ⟨rfl,⟨l,o,rfl⟩,_,g⟩
   have:kK zs ns=.h:=by unfold kK;rw[g];rfl
   refine z8 zI ?_;rw[this];show (z0 false d _ d).post _;rw[xy ur];exact zF.mpr ⟨rfl,rfl⟩
def jw(n:List Int):Prop:=n.length<=40/\∀x∈n,0<=x/\x<=3
def oh(Φ:Calls):Prop:=∀(ns:List Int) (s:Sto),jw ns->Φ "is_strip" 0 [tpI ns] s=.e (.e true) s
def yq:Val->Bool
 |.f vs=>(decide (1<=vs.length)&&decide (vs.length<=4))&&vs.all (yF 2 8)
 |_=>false
def nt(Φ:Calls):Prop:=∀(v:Val) (s:Sto),kindOf v≠none->(∀a,v=.f a->∀w∈a,kindOf w≠none)->Φ "are_sizes" 0 [v] s=.e (.e (yq v)) s
def XX{v:Val}(h:∀e,v≠.f e):yq v=false:=by
 cases v with
 |f e=>exact absurd rfl (h e)
 |_=>rfl
def gW(g:Gl4 T)(c:nv Φ)(p:kindOf v≠none)(n:∀j,v=.f j->∀w∈j,kindOf w≠none):run T Φ F.uM [v] s=.e (.e (yq v)) s:=by
 obtain⟨a,i⟩:=mj p;have k:=me (m:=false) (s:=s) i (show uY "tuple"=some .b from rfl);have d:∀{b:Bool},b=yq v->(z0 false s (.e b) s).post λx t=>x=.e (yq v)/\t=s:=λ{b} e=>by rw[e];exact zk yu
 rw[post_eq,F.uM,yY];refine⟨rfl,?_⟩;show (zP Φ T.b [some v] _ s).post _;rcases YA i with⟨j,rfl⟩|o
 . have u:a=.b:=by cases i;rfl
   subst u;have r:(decide ((1:Int)<=(j.length:Nat))&&decide (((j.length:Nat):Int)<=4))=(decide (1<=j.length)&&decide (j.length<=4)):=by
    congr 1
    . exact decide_eq_decide.mpr ⋯
    . exact decide_eq_decide.mpr ⋯
   have h:=Xy (Φ:=Φ) (G:=T.b) (env:=[some (.f j)]) (s:=s) (a:=.g (.c 1)) (b:=.q .a false (.a (.e 0) .b)) (c:=.q .a false (.a (.C "HUES") .b)) zI (yT (zA (zB rfl) zE) kQ) (yT (zA (tF g.hu) zE) Sj);rw[show ((([0,1,2,3]:List Int).length:Nat):Int)=4 from rfl,r]at h;have l:yq (.f j)=((decide (1<=j.length)&&decide (j.length<=4))&&j.all (yF 2 8)):=rfl;cases hb:(decide (1<=j.length)&&decide (j.length<=4)) with
   |true=>
    rw[hb]at h l;exact z8 (fD (yT (zA (zB rfl) (zA oH zE)) k) h (x_call (zA (zB rfl) (zA (tF g.ls) (zA (tF g.ms) zE))) (c j 2 8 s (n j rfl)))) (d (by rw[l];rfl))
   |false=>
    rw[hb]at h l;exact z8 (fC (yT (zA (zB rfl) (zA oH zE)) k) h) (d l.symm)
 . rw[o]at k
   exact z8 (lX (yT (zA (zB rfl) (zA oH zE)) k)) (d (XX λj e=>by rw[e]at i;cases i;cases o).symm)
end
def rZ:Val->Bool
 |.f vs=>decide (vs.length<=40)&&vs.all (yF 0 3)
 |_=>false
def Xc(h:∀e,v≠.f e):rZ v=false:=by
 cases v with
 |f e=>exact absurd rfl (h e)
 |_=>rfl
def Xd(h:jw t):rZ (tpI t)=true:=by show (decide ((t.map Val.c).length<=40)&&(t.map Val.c).all (yF 0 3))=true;rw[rt,decide_eq_true h.1,qY h.2];rfl
end M
end
section
namespace F75
open PySem M
noncomputable def uL:Fn:=⟨["_law_pen_here","_law_bound","_law_found","_law_stir"],["_law_pen_here","_law_bound"],false,(.e (.j (.b (.a (.l .a (.u (.e 0) (.g (.c 1))) (.g (.c 1)))) (.b (.a (.l .j (.u (.e 0) (.g (.c 0))) (.g (.c 0)))) .a)) (.e (.d 2 (.j false .c (.u (.e 0) (.g (.c 0))) (.e 1))) (.e (.l (.e 0) (.g (.c 0)) (.j false .d (.u (.e 0) (.g (.c 0))) (.e 1))) (.e (.f (.e 2)) .f))) .f) (.e (.l (.e 0) (.g (.c 2)) (.j false .a (.u (.e 0) (.g (.c 2))) (.g (.c 1)))) (.e (.d 3 (.j false .c (.j false .b (.j false .a (.u (.e 0) (.g (.c 3))) (.g (.c 17))) (.j false .a (.g (.c 69621)) (.j false .b (.g (.c 2)) (.u (.e 0) (.g (.c 2)))))) (.g (.c 2147483647)))) (.e (.d 3 (.j false .c (.j false .a (.j false .a (.j false .b (.e 3) (.e 3)) (.j false .b (.g (.c 40503)) (.u (.e 0) (.g (.c 2))))) (.g (.c 5))) (.g (.c 2147483629)))) (.e (.f (.j false .c (.j false .d (.j false .c (.j false .b (.e 3) (.g (.c 48271))) (.g (.c 2147483647))) (.g (.c 32))) (.e 1))) .f)))))⟩
noncomputable def wW:Fn:=⟨["_law_cell"],["_law_cell"],true,(.e (.f (.s true (.a (.e 0) (.a (.q .p false (.a (.l .i (.e 0) (.j false .g (.g (.c 10)) (.g (.c 18)))) .b)) (.a (.g (.c 0)) (.a (.j false .c (.e 0) (.g (.c 1000000007))) .b)))))) .f)⟩
end F75
end
section
namespace M
open PySem
noncomputable def qJ(a b c d:Int):Cel:=.c [.c a,.c b,.c c,.c d]
def ll(s:Sto)(p:Nat):Prop:=∃a b c d,s[p]?=some (qJ a b c d)/\0<=d/\d<1000000007
def sC(s:Sto)(p:Nat)(f:Sto):Prop:=∃a b c d,f=s.set p (qJ a b c d)/\0<=d/\d<1000000007
def ll.lt(h:ll s p):p<s.length:=by obtain⟨a,b,c,d,h,_⟩:=h;exact(Ax.mp h).1
def sC.at_(h:sC s p s')(f:p<s.length):ll s' p:=by obtain⟨a,b,c,d,rfl,g⟩:=h;exact⟨a,b,c,d,AR f,g⟩
def sC.trans(h:sC s p s1)(k:sC s1 p s2):sC s p s2:=by obtain⟨a,b,c,d,rfl,n⟩:=h;obtain⟨m,l,i,g,rfl,f⟩:=k;exact⟨m,l,i,g,by rw[List.set_set],f⟩
def kW(h:sC s p s')(f:v.noRef=true):z0 false s v s'=.e v s':=by obtain⟨a,b,c,d,rfl,_⟩:=h;exact cO f rfl
section
variable {T:Tbl}{Φ:Calls}{G:Str->Option Val}{env:Env}{s s1 s2 s3:Sto}
def UA(Φ:Calls):Prop:=∀(c:Int) (s:Sto),∃a b e d,Φ "_law_pen" 1 [.c c] s=.e (.j s.length) (s++[qJ a b e d])/\0<=d/\d<1000000007
def XG c:∃a b e d,run T Φ F75.wW [.c c] s=.e (.j s.length) (s++[qJ a b e d])/\0<=d/\d<1000000007:=by
 refine⟨c,if decide ((10:Int) ^ 18<=c) then 1 else 0,0,c%1000000007,?_,GJ _ ⋯,Fw _ ⋯⟩
 rw[post_eq,F75.wW,yY];refine⟨rfl,?_⟩;show (zP Φ T.b [some (.c c)] _ s).post _;refine z8 (lY (zA (zB rfl) (zA (yT (zA (yU (zB rfl) (zm zI zI rfl) ge_int) zE) rfl) (zA zI (zA (zm (zB rfl) zI (bmod ⋯)) zE)))) (show 4<=zO by unfold zO;omega)) ?_
 exact zF.mpr ⟨rfl,rfl⟩
def jq(Φ:Calls):Prop:=∀(p:Nat) (m:Int) (s:Sto),ll s p->0<m->m<1000000->(Φ "_law_draw" 0 [.j p,.c m] s).post λv a=>∃r:Nat,v=.c r/\(r:Int)<m/\sC s p a
def bU(C:ll s p)(A:0<m)(J:m<1000000):(run T Φ F75.uL [.j p,.c m] s).post λv w=>∃r:Nat,v=.c r/\(r:Int)<m/\sC s p w:=by
 have B:=C.lt;obtain⟨a,b,c,d,o,q,hd1⟩:=C;have i:∀{s:Sto} {a b c d:Int} {k:Nat} {v:Val},s[p]?=some (qJ a b c d)->[Val.c a,.c b,.c c,.c d][k]?=some v->wI (.j p) (.c k) s=.e v s:=λh D=>Tn h D;rw[F75.uL,yY];refine⟨rfl,?_⟩;show (zP Φ T.b [some (.j p),some (.c m),none,none] _ s).post _;have z:evT Φ T.b [some (.j p),some (.c m),none,none] (.b (.a (.l .a (.u (.e 0) (.g (.c 1))) (.g (.c 1)))) (.b (.a (.l .j (.u (.e 0) (.g (.c 0))) (.g (.c 0)))) .a)) s=.e (decide (b=1)&&decide (0<a)) s:=Xi (yH (yU (wN (zB rfl) zI (i (k:=1) o rfl)) zI eq_int) za) (yH (yU (wN (zB rfl) zI (i (k:=0) o rfl)) zI gt_int) za);have f:∀{x:Int} {w:Sto},sC s p w->(z0 false s (.c (x%m)) w).post λv w=>∃r:Nat,v=.c r/\(r:Int)<m/\sC s p w:=λ{x w} t=>by
  rw[kW t ub];have I:=GJ x (show m≠0 by omega)
  have H:=Fw x A;exact zF.mpr ⟨(x%m).toNat,by congr 1;omega,⋯,t⟩
 cases hb:(decide (b=1)&&decide (0<a)) with
 |true=>
  rw[hb]at z;refine qA z (yD (zm (wN (zB rfl) zI (i (k:=0) o rfl)) (zB rfl) (bmod A)) ?_);refine ek (j:=0) (zm (wN (zB rfl) zI (i (k:=0) o rfl)) (zB rfl) (bdiv ⟨A,⋯⟩)) (zB rfl) zI o rfl (z8 (zB rfl) ?_)
  exact f ⟨a/m,b,c,d,rfl,q,hd1⟩
 |false=>
  rw[hb]at z;refine wq z ?_;refine ek (j:=2) (zm (wN (zB rfl) zI (i (k:=2) o rfl)) zI qa) (zB rfl) zI o rfl ?_;have n:(s.set p (qJ a b (c+1) d))[p]?=some (qJ a b (c+1) d):=AR B;show (zP Φ T.b [some (.j p),some (.c m),none,none] _ (s.set p (qJ a b (c+1) d))).post _;refine yD (zm (zm (zm (wN (zB rfl) zI (i (k:=3) n rfl)) zI qa) (zm zI (zm zI (wN (zB rfl) zI (i (k:=2) n rfl)) (lx ⋯)) qa) (show binOp false .b (.c (d+17)) _ _=_ by simp only[binOp];rw[if_pos (.inl ⋯)])) zI (bmod ⋯)) ?_
  generalize hx:(d+17)*(69621+2*(c+1))%2147483647=x;have G:0<=x:=by rw[<-hx];exact GJ _ ⋯
  have E:x<2147483647:=by rw[<-hx];exact Fw _ ⋯
  refine yD (zm (zm (zm (zm (zB rfl) (zB rfl) (show binOp false .b (.c x) (.c x) _=_ by simp only[binOp];rw[if_pos (.inl ⋯)])) (zm zI (wN (zB rfl) zI (i (k:=2) n rfl)) (lx ⋯)) qa) zI qa) zI (bmod ⋯)) ?_
  generalize hy:(x*x+40503*(c+1)+5)%2147483629=y;refine z8 (zm (zm (zm (zm (zB rfl) zI (fV ⋯)) zI (bmod ⋯)) zI (bdiv ⟨⋯,⋯⟩)) (zB rfl) (bmod A)) ?_
  exact f ⟨a,b,c+1,d,rfl,q,hd1⟩
end
def lO(z:List Int):Bool:=WU z 18 [[]]&&decide (z.foldl (·*·) 1<=12)&&(decide (1<=z.length)&&decide (z.length<=4)&&z.all λx=>decide (2<=x)&&decide (x<=8))
def nU(h:lO zs=true):zp zs:=by
 unfold lO at h;simp only[cf,decide_eq_true_eq,Ak]at h;obtain⟨⟨k,i⟩,⟨g,f⟩,c⟩:=h;have ⟨n,l⟩:=fj k;have d:∀m,18<=m->yg zs [[]] m=[]:=λm a=>by
  have:=YJ n (m-18)
  rwa [show 18+(m-18)=m by omega]at this
 refine⟨⟨g,f,λx b=>c x b⟩,i,d,λm=>?_⟩;by_cases a:m<18
 . exact l m a
 . rw[d m ⋯];simp
def range_getD(z:List Int):(Ai z.length).map (λh=>z.getD h 0)=z:=by
 apply List.ext_getElem
 . simp
 . intro i b a
   rw[Co,DC,AF,xd a];rfl
def iz ns:(tpI ns).noRef=true:=wJ ns
noncomputable abbrev qH(o:List Nat):List Int:=o.map λ(h:Nat)=>(h:Int)
theorem rQ{c d:Type}{f:c->d}:∀{l:List c},l.Nodup->(∀a∈l,∀b∈l,f a=f b->a=b)->(l.map f).Nodup
 |[],_,_=>.nil
 |a::l,h,hi=>by rw[BV]at h;rw[AE,BV];refine⟨λL=>?_,rQ h.2 λx F y w=>hi x (.tail _ F) y (.tail _ w)⟩;obtain⟨b,j,e⟩:=A2.mp L;exact h.1 (hi b (.tail _ j) a (.head _) e▸j)
abbrev mq(l:List Nat):Val:=tpI (qH l)
def ka ls:(qH ls).map Val.c=ls.map λ(k:Nat)=>Val.c k:=by rw[B3];rfl
def dQ{a:List Bool}:blt .j false [.g (a.map Val.e)] s=.e (.e (a.all id)) s:=by
 show (match boolsOf (a.map Val.e) with|some a=>Out.e (Val.e (a.all id)) s|dS=>.d)=_
 rw[uR (λb=>b),List.map_id']
noncomputable def goN(n f d z:Nat):List Nat:=(Ai z).map λt=>(f+d*t)%n
def nT(r:List Int)(f d z:Nat):Bool:=(goN r.length f d z).all λp=>decide (r[p]?=r[f]?)
def xO(r:List Int)(f d z:Nat):Bool:=nT r f d z&&decide ((goN r.length f d z).Nodup)
def same_iff:nT r f d z=true↔∀t<z,r[(f+d*t)%r.length]?=r[f]?:=by unfold nT goN;rw[E6,Ak];exact⟨λh t a=>of_decide_eq_true (h t (Am.mpr a)),λh t a=>decide_eq_true (h t (Am.mp a))⟩
def Q0:(goN n f d z).Nodup↔∀a b,a<z->b<z->(f+d*a)%n=(f+d*b)%n->a=b:=by
 unfold goN;constructor
 . intro h a b i g e
   have k:=List.pairwise_iff_getElem.mp h;rcases Nat.lt_trichotomy a b with c|c|c
   . exfalso
     have:=k a b (by rw[rt,Bl];exact i) (by rw[rt,Bl];exact g) c
     rw[Co,Co,DC,DC]at this;exact this e
   . exact c
   . exfalso
     have:=k b a (by rw[rt,Bl];exact g) (by rw[rt,Bl];exact i) c
     rw[Co,Co,DC,DC]at this;exact this e.symm
 . intro h
   exact rQ List.nodup_range λa i b g e=>h a b (Am.mp i) (Am.mp g) e
def bt:xO r f d z=true↔(∀t<z,r[(f+d*t)%r.length]?=r[f]?)/\∀a b,a<z->b<z->(f+d*a)%r.length=(f+d*b)%r.length->a=b:=by unfold xO;rw[cf,same_iff,decide_eq_true_eq,Q0]
def lR(z r:List Int)(f:Nat):Nat:=zW z (r.getD f 0).toNat
structure jt(zs r:List Int):Prop where
 c:∀x∈r,0<=x/\x<zs.length
 g:∀f d,f<r.length->0<d->d<r.length->xO r f d (lR zs r f)=false
def ey{h:Nat}(e:r[f]?=some (h:Int)):lR zs r f=zW zs h:=by unfold lR;rw[AF,e];show zW zs ((h:Int)).toNat=_;rw[CD]
def jt.no(z:jt zs r)(s:Sz zs)(v:h<zs.length)(p:f<r.length)(q:∀t<zW zs h,r[(f+d*t)%r.length]?=some (h:Int))(o:∀a b,a<zW zs h->b<zW zs h->(f+d*a)%r.length=(f+d*b)%r.length->a=b):False:=by
 obtain⟨_,j,_⟩:=xH s v;have c:0<r.length:=by omega
 have m:=q 0 ⋯
 rw[Gp,Fc,Dt p]at m;have x:0<d%r.length:=by
  rcases Nat.eq_zero_or_pos (d%r.length) with e|e
  . exfalso
    have:=o 0 1 ⋯ ⋯ (by rw[Gp,Fc,Nat.mul_one,Nat.add_mod,e,Fc,Nat.mod_mod])
    omega
  . exact e
 have i:∀t,(f+d%r.length*t)%r.length=(f+d*t)%r.length:=λt=>by rw[Nat.add_mod,Nat.mul_mod,Nat.mod_mod,<-Nat.mul_mod,<-Nat.add_mod]
 have n:xO r f (d%r.length) (lR zs r f)=true:=by
  rw[ey m,bt];refine⟨λt u=>?_,λa b l k e=>o a b l k ?_⟩
  . rw[i,q t u,m]
  . rwa [i,i]at e
 rw[z.g f _ p x (Nat.mod_lt _ c)]at n;cases n
def jt.fit(k:Sz zs)(l:jt zs r):Fit zs r:=by
 refine⟨l.c,λh f d m q s p=>?_⟩;obtain⟨_,z,_⟩:=xH k m;have g:∀t<zW zs h,f+d*t<r.length:=λt i=>by
  have:d*t<=d*(zW zs h-1):=Ff _ ⋯
  omega
 refine l.no k (f:=f) (d:=d) m ⋯ (λt i=>?_) λa b o n e=>?_
 . rw[Dt (g t i)]
   have:=vM.mp p t i
   rwa [BI t d]at this
 . rw[Dt (g a o),Dt (g b n)]at e
   exact Nat.eq_of_mul_eq_mul_left q ⋯
def xF(z r:List Int):Bool:=(Ai r.length).all λf=>(Ai (r.length-1)).all λj=>!xO r f (j+1) (lR z r f)
def nE(b:∀x∈r,0<=x/\x<zs.length):xF zs r=true↔jt zs r:=by
 unfold xF;rw[Ak];constructor
 . intro h
   refine⟨b,λf d a k i=>?_⟩;have:=Ak.mp (h f (Am.mpr a)) (d-1) (Am.mpr ⋯)
   rw[show d-1+1=d by omega]at this
   simpa using this
 . intro h f a
   refine Ak.mpr λj c=>?_;rw[h.g f (j+1) (Am.mp a) ⋯ (by have:=Am.mp c;omega)];rfl
def yL(z:List Int)(n:Nat):List (List Int):=(yg z [[]] n).filter (xF z)
def cW(h:zp zs):r∈yL zs n↔r.length=n/\jt zs r:=by
 unfold yL;rw[BJ];constructor
 . rintro ⟨d,b⟩
   have g:=pG h.a (L:=[[]]) (λx f=>by rw[Ap.mp f];exact fu zs) n r d
   have i:=pH (zs:=zs) (L:=[[]]) (k:=0) (λx f=>by rw[Ap.mp f];rfl) n r d
   exact⟨⋯,(nE g.a).mp b⟩
 . rintro ⟨d,b⟩
   exact⟨ft h.a n d (b.fit h.a),(nE b.c).mpr b⟩
noncomputable def yE:List (List Int):=[3,3]::[3,4]::[4,3]::[2,6]::[5,2]::[2,2,3]::[3,2,2]::[2,3,2]::[2,2,2]::[8]::[3]::[2,2]::[6,2]::[2,4]::[5]::[3,2]::[]
def jW:(yE.all λe=>lO e&&lO e.reverse)=true:=by decide +kernel
def Vq(h:zs∈yE):zp zs/\zp zs.reverse:=by have:=Ak.mp jW zs h;rw[cf]at this;exact⟨nU this.1,nU this.2⟩
end M
end
section
namespace F66
open PySem M
noncomputable def vj:Fn:=⟨["_law_pen_here","_law_some"],["_law_pen_here"],false,(.e (.d 1 (.s false (.a (.k (.a (.g (.c 3)) (.a (.g (.c 3)) .b))) (.a (.k (.a (.g (.c 3)) (.a (.g (.c 4)) .b))) (.a (.k (.a (.g (.c 4)) (.a (.g (.c 3)) .b))) (.a (.k (.a (.g (.c 2)) (.a (.g (.c 6)) .b))) (.a (.k (.a (.g (.c 5)) (.a (.g (.c 2)) .b))) (.a (.k (.a (.g (.c 2)) (.a (.g (.c 2)) (.a (.g (.c 3)) .b)))) (.a (.k (.a (.g (.c 3)) (.a (.g (.c 2)) (.a (.g (.c 2)) .b)))) (.a (.k (.a (.g (.c 2)) (.a (.g (.c 3)) (.a (.g (.c 2)) .b)))) (.a (.k (.a (.g (.c 2)) (.a (.g (.c 2)) (.a (.g (.c 2)) .b)))) (.a (.k (.a (.g (.c 8)) .b)) (.a (.k (.a (.g (.c 3)) .b)) (.a (.k (.a (.g (.c 2)) (.a (.g (.c 2)) .b))) .b)))))))))))))) (.e (.f (.u (.j false .a (.e 1) (.s false (.a (.k (.a (.g (.c 6)) (.a (.g (.c 2)) .b))) (.a (.k (.a (.g (.c 2)) (.a (.g (.c 4)) .b))) (.a (.k (.a (.g (.c 5)) .b)) (.a (.k (.a (.g (.c 3)) (.a (.g (.c 2)) .b))) .b)))))) (.h "_law_draw" 0 (.a (.e 0) (.a (.g (.c 16)) .b))))) .f))⟩
noncomputable def zx:Fn:=⟨["sizes","length"],["sizes","length"],false,(.e (.g (.h "need_small_sizes" 0 (.a (.e 0) .b))) (.e (.g (.h "need_whole" 0 (.a (.e 1) (.a (.g (.c 1)) (.a (.C "MOST_RING_LENGTH") .b))))) (.e (.f (.p false ["strip","sizes"] [none,some 0] (.e 0) (.a 0) (.f (.h "all_strips" 0 (.a (.e 0) (.a (.e 1) .b)))) (.b (.a (.h "fits_round" 0 (.a (.e 1) (.a (.e 0) .b)))) .a))) .f)))⟩
noncomputable def vm:Fn:=⟨["places"],["places"],false,(.e (.f (.l .a (.r false (.g .h) (.e 0) (.g (.m ""))) (.q .a false (.a (.e 0) .b)))) .f)⟩
noncomputable def xW:Fn:=⟨["sizes","length","rings"],["sizes","length"],false,(.e (.d 2 (.h "all_rings" 0 (.a (.e 0) (.a (.e 1) .b)))) (.e (.f (.G (.a (.e 2)) (.u (.e 2) (.g (.c 0))) (.g .h))) .f))⟩
noncomputable def xB:Fn:=⟨["sizes","ring","place","first","hue","step"],["sizes","ring"],false,(.e (.g (.h "need_sizes" 0 (.a (.e 0) .b))) (.e (.g (.h "need_ring" 0 (.a (.e 1) .b))) (.e (.d 2 (.h "first_hue_wrong" 0 (.a (.e 0) (.a (.e 1) .b)))) (.e (.j (.a (.l .d (.e 2) (.g .h))) (.e (.f (.k (.a (.g (.m "hue")) (.a (.e 2) .b)))) .f) .f) (.e (.h (.b [3,4]) (.h (.e 1)) (.e (.h (.a 5) (.g (.g (.c 1)) (.q .a false (.a (.e 1) .b))) (.e (.j (.a (.h "is_whole_round" 0 (.a (.e 1) (.a (.e 3) (.a (.e 5) (.a (.u (.e 0) (.e 4)) .b)))))) (.e (.f (.k (.a (.g (.m "round")) (.a (.e 3) (.a (.e 5) .b))))) .f) .f) .f)) .f)) (.e (.f (.g .h)) .f))))))⟩
noncomputable def vo:Fn:=⟨["sizes","ring"],["sizes","ring"],false,(.e (.f (.l .m (.h "first_round_wrong" 0 (.a (.e 0) (.a (.e 1) .b))) (.g .h))) .f)⟩
noncomputable def vF:Fn:=⟨["length","first","step","size"],["length","first","step","size"],false,(.e (.f (.q .h false (.a (.p false ["at","length","first","step"] [none,some 0,some 1,some 2] (.j false .c (.j false .a (.e 2) (.j false .b (.e 3) (.e 0))) (.e 1)) (.a 0) (.d (.e 3)) .a) .b))) .f)⟩
noncomputable def xp:Fn:=⟨["ring","first","step","size","places"],["ring","first","step","size"],false,(.e (.d 4 (.h "going_round" 0 (.a (.q .a false (.a (.e 0) .b)) (.a (.e 1) (.a (.e 2) (.a (.e 3) .b)))))) (.e (.f (.y (.q .j false (.a (.p false ["place","ring","first"] [none,some 0,some 1] (.l .a (.u (.e 1) (.e 0)) (.u (.e 1) (.e 2))) (.a 0) (.f (.e 4)) .a) .b)) (.a (.h "are_unlike" 0 (.a (.e 4) .b)) .b))) .f))⟩
noncomputable def uN:Fn:=⟨["thing"],["thing"],false,(.e (.j (.f (.d (.a (.h "is_strip" 0 (.a (.e 0) .b)))) (.b (.a (.l .a (.q .a false (.a (.e 0) .b)) (.g (.c 0)))) .a)) (.e (.k (.h "NoRing" 0 (.a (.g (.m "a strip with one place or more is due")) .b))) .f) .f) .f)⟩
noncomputable def xY:Fn:=⟨["sizes","length"],["sizes","length"],false,(.e (.f (.q .a false (.a (.h "all_rings" 0 (.a (.e 0) (.a (.e 1) .b))) .b))) .f)⟩
end F66
end
section
namespace M
open PySem
def WT ns:L2.dN ns=(ns.foldl Dy []).length:=by unfold L2.dN CU;rw[range_getD]
def TJ{a:List Int}:a.any (· == k)=decide (k∈a):=by rw[BL,Bv,decide_eq_true_eq];exact⟨λ⟨x,hx,e⟩=>by rwa [<-Cb e],λh=>⟨k,h,beq_self_eq_true k⟩⟩
theorem UK:∀(ns acc:List Int),(ns.foldl Dy acc).length=acc.length+ns.length↔ns.Nodup/\∀x∈ns,x ∉ acc
 |[],acc=>⟨λ_=>⟨.nil,λ_ h=>nomatch h⟩,λ_=>rfl⟩
 |k::ns,acc=>by
  have j:=PyProof.Rows.foldl_step_dedup_length_le acc ns;rw[List.foldl_cons,AX,BV];unfold Dy;rw[TJ];by_cases h:k∈acc
  . rw[decide_eq_true h,if_pos rfl]
    constructor
    . intro e
      have:(ns.foldl Dy acc).length=acc.length+(ns.length+1):=e;omega
    . intro e
      exact absurd h (e.2 k (.head _))
  . rw[decide_eq_false h,if_neg Aj]
    have i:=UK ns (acc++[k]);rw[Ah,show acc.length+[k].length+ns.length=acc.length+(ns.length+1) by rw[BY];omega]at i
    refine i.trans ?_;constructor
    . rintro ⟨d,c⟩
      refine⟨⟨λf=>c k f (AU _ (.head _)),d⟩,λx a=>?_⟩;rcases Al.mp a with rfl|a
      . exact h
      . exact λb=>c x a (Br _ b)
    . rintro ⟨⟨d,c⟩,g⟩
      refine⟨c,λx a b=>?_⟩;rcases Ba.mp b with b|b
      . exact g x (.tail _ a) b
      . rw[Ap.mp b]at a;exact d a
def UI:L2.dN ns=ns.length↔ns.Nodup:=by rw[WT];have:=UK ns [];rw[CV,Gn]at this;exact this.trans ⟨λh=>h.1,λh=>⟨h,λ_ _ h=>nomatch h⟩⟩
def Su(h:ns.length<=1000):iq m .h (tpI ns) (.m t) s=.e (.c (L2.dN ns:Nat)) s:=by
 show (match M.intsOf (ns.map .c) with|some ns=>if ns.length<=1000 then Out.e (Val.c (L2.dN ns:Nat)) s else .d|dS=>.d)=_
 rw[ma];exact if_pos h
def Ss(h:ns.length<=1000):iq m .h (.g (ns.map .c)) (.m t) s=.e (.c (L2.dN ns:Nat)) s:=by
 show (match M.intsOf (ns.map .c) with|some ns=>if ns.length<=1000 then Out.e (Val.c (L2.dN ns:Nat)) s else .d|dS=>.d)=_
 rw[ma];exact if_pos h
structure Rg(r:List Int):Prop where
 a:jw r
 ne:r≠[]
def Rg.pos(h:Rg r):0<r.length:=Dw.mpr h.ne
def Rg.le(h:Rg r):r.length<=40:=h.a.1
section
variable {T:Tbl}{Φ:Calls}{s:Sto}
def oi(Φ:Calls):Prop:=∀(r:List Int) (s:Sto),Rg r->Φ "need_ring" 0 [tpI r] s=.e .h s
def lK(c:oh Φ)(h:Rg r):run T Φ F66.uN [tpI r] s=.e .h s:=by
 have d:zQ .a (.c (r.length:Nat)) (.c 0) s=.e (.e false) s:=by rw[eq_int,decide_eq_false (by have:=h.pos;omega)]
 rw[post_eq,F66.uN,yY];refine⟨rfl,?_⟩;show (zP Φ T.b [some (tpI r)] _ s).post _;exact wq (Oy (Xj (yH (x_call (zA (zB rfl) zE) (c r s h.a)) za)) (dD (yH (yU (ui rfl) zI d) za) Xl)) (yl (zk rfl))
def b8(Φ:Calls):Prop:=∀(n f d z:Nat) (s:Sto),0<n->f<=40->d<=40->z<=8->Φ "going_round" 0 [.c n,.c f,.c d,.c z] s=.e (mq (goN n f d z)) s
def bY{n f d z:Nat}(i:0<n)(m:f<=40)(p:d<=40)(a:z<=8):run T Φ F66.vF [.c n,.c f,.c d,.c z] s=.e (mq (goN n f d z)) s:=by
 have h:z<=zO:=Aq a (by decide)
 have g:mq (goN n f d z)=tpI ((Ai z).map λt=>(((f+d*t)%n:Nat):Int)):=by unfold goN;show tpI (Cm _ (Cm _ _))=_;rw[B3];rfl
 rw[post_eq,F66.vF,yY];refine⟨rfl,?_⟩;show (zP Φ T.b [some (.c n),some (.c f),some (.c d),some (.c z)] _ s).post _;rw[g];refine z8 (yT (zA (X4 (n:=z) (f:=λt=>(((f+d*t)%n:Nat):Int)) (sQ (zB rfl) h) rfl (λk o l=>?_) h) zE) rfl) (zk (iz _));have e:((f:Int)+(d:Int)*(k:Int))%(n:Int)=(((f+d*k)%n:Nat):Int):=by rw[Int.natCast_emod,GI,CC]
 exact zm (zm (zB rfl) (zm (zB rfl) (zB rfl) (lx ⋯)) qa) (zB rfl) (by rw[bmod ⋯,e])
def fN(Φ:Calls):Prop:=∀(l:List Nat) (s:Sto),l.length<=40->Φ "are_unlike" 0 [mq l] s=.e (.e (decide l.Nodup)) s
def YO:(qH ls).Nodup↔ls.Nodup:=⟨λh=>(FV.mp h).imp λ{a b} hab e=>hab (by rw[e]),λh=>rQ h λa _ b _ e=>⋯⟩
def gY(h:ls.length<=40):run T Φ F66.vm [mq ls] s=.e (.e (decide ls.Nodup)) s:=by
 have d:zQ .a (.c (L2.dN (qH ls):Nat)) (.c ((qH ls).length:Nat)) s=.e (.e (decide ls.Nodup)) s:=by rw[eq_int];congr 2;refine decide_eq_decide.mpr (Iff.trans ?_ YO);rw[<-UI];omega
 rw[post_eq,F66.vm,yY];refine⟨rfl,?_⟩;show (zP Φ T.b [some (mq ls)] _ s).post _;exact z8 (yU (bnd zI (bnd (zB rfl) (bnd zI (Su (by rw[rt];omega))))) (ui rfl) d) (zk yu)
def iL:(goN n f d z).length=z:=by unfold goN;rw[rt,Bl]
def UQ(a:0<n)(h:p∈goN n f d z):p<n:=by obtain⟨t,_,rfl⟩:=A2.mp h;exact Nat.mod_lt _ a
def lh(Φ:Calls):Prop:=∀(r:List Int) (f d z:Nat) (s:Sto),r.length<=40->f<r.length->d<=40->z<=8->Φ "is_whole_round" 0 [tpI r,.c f,.c d,.c z] s=.e (.e (xO r f d z)) s
def jR(A:b8 Φ)(y:fN Φ){f d z:Nat}(B:r.length<=40)(n:f<r.length)(t:d<=40)(o:z<=8):run T Φ F66.xp [tpI r,.c f,.c d,.c z] s=.e (.e (xO r f d z)) s:=by
 have w:=y (goN r.length f d z) s (by rw[iL];omega)
 rw[post_eq,F66.xp,yY];refine⟨rfl,?_⟩;show (zP Φ T.b [some (tpI r),some (.c f),some (.c d),some (.c z),none] _ s).post _;refine yD (x_call (zA (ui rfl) (zA (zB rfl) (zA (zB rfl) (zA (zB rfl) zE)))) (A r.length f d z s ⋯ ⋯ t o)) ?_
 show (zP Φ T.b [some (tpI r),some (.c f),some (.c d),some (.c z),some (mq (goN r.length f d z))] _ s).post _;have x:evE Φ T.b [some (tpI r),some (.c f),some (.c d),some (.c z),some (mq (goN r.length f d z))] (.p false ["place","ring","first"] [none,some 0,some 1] (.l .a (.u (.e 1) (.e 0)) (.u (.e 1) (.e 2))) (.a 0) (.f (.e 4)) .a) s=.e (.g (((goN r.length f d z).map λp=>decide (r[p]?=r[f]?)).map Val.e)) s:=by
  refine(lZ (xs:=goN r.length f d z) (f:=λ(p:Nat)=>.c p) (λp=>.e (decide (r[p]?=r[f]?))) [some (tpI r),some (.c f)] (xw (zB (v:=mq _) rfl) (by rw[<-ka];rfl)) rfl λp q=>?_).trans (congrArg (λl=>Out.e (Val.g l) s) (B3 (g:=Val.e)).symm)
  have h:=UQ ⋯ q
  refine yU (wN (zB rfl) (zB rfl) (v8 (xd h))) (wN (zB rfl) (zB rfl) (v8 (xd n))) ?_;rw[eq_int,xd h,xd n];congr 2;exact decide_eq_decide.mpr (by rw[DG])
 have i:((goN r.length f d z).map λp=>decide (r[p]?=r[f]?)).all id=nT r f d z:=by unfold nT;rw[E6];rfl
 have k:=yT (f:=.j) (m:=false) (zA x zE) dQ;rw[i]at k;unfold xO;cases hs:nT r f d z with
 |false=>
  rw[hs]at k;exact z8 (lX k) (zk yu)
 |true=>
  rw[hs]at k;exact z8 (O3 k (x_call (zA (zB rfl) zE) w)) (zk yu)
noncomputable def prs(n f:Nat):List (Nat × Nat):=(DF 1 (n-1)).map λd=>(f,d)
def pT(n:Nat):List (Nat × Nat):=(Ai n).flatMap (prs n)
def eM:q∈prs n f↔q.1=f/\1<=q.2/\q.2<n:=by
 unfold prs;rw[A2];constructor
 . rintro ⟨d,h,rfl⟩
   rw[List.mem_range'_1]at h;exact⟨rfl,h.1,by show d<n;omega⟩
 . rintro ⟨rfl,b,a⟩
   exact⟨q.2,by rw[List.mem_range'_1];omega,rfl⟩
def vU:(f,d)∈pT n↔f<n/\1<=d/\d<n:=by
 unfold pT;rw[Ds];constructor
 . rintro ⟨a,g,h⟩
   obtain⟨rfl,c,b⟩:=eM.mp h;exact⟨Am.mp g,c,b⟩
 . rintro ⟨c,b,i⟩
   exact⟨f,Am.mpr c,eM.mpr ⟨rfl,b,i⟩⟩
end
def frP(z r:List Int)(q:Nat × Nat):Bool:=xO r q.1 q.2 (lR z r q.1)
def frO(z r:List Int):Option (Nat × Nat):=(pT r.length).find? (frP z r)
noncomputable def frV(o:Option (Nat × Nat)):Val:=match o with
 |none=>.h
 |some q=>.f [.m "round",.c (q.1:Nat),.c (q.2:Nat)]
def ZT:(frO zs r).isNone=xF zs r:=by
 rw[BL,Bt];unfold frO xF;rw[List.find?_eq_none,Ak];constructor
 . intro h f c
   refine Ak.mpr λj b=>?_;have:=h (f,j+1) (vU.mpr ⟨Am.mp c,⋯,by have:=Am.mp b;omega⟩)
   have this:¬xO r f (j+1) (lR zs r f)=true:=this;rw[Bool.not_eq_true]at this;rw[this];rfl
 . rintro h ⟨f,d⟩ a
   obtain⟨g,k,i⟩:=vU.mp a;have:=Ak.mp (h f (Am.mpr g)) (d-1) (Am.mpr ⋯)
   rw[show d-1+1=d by omega,AI]at this
   show ¬xO r f d (lR zs r f)=true;rw[this];exact Aj
def Ta o:(frV o).isN=o.isNone:=by cases o<;>rfl
def Ph o:(frV o).noRef=true:=by
 cases o with
 |none=>exact ur
 |some q=>rw[frV,i6,wK,wK,wK,qQ,YU,ub,ub];rfl
structure RgZ(zs r:List Int):Prop where
 c:Sz zs
 b:Rg r
 a:∀x∈r,0<=x/\x<zs.length
def Zc(h:∀x∈ns,0<=x/\x<zs.length):kK zs ns=.h:=by
 have:R7 zs ns=[]:=List.flatMap_eq_nil_iff.mpr λx a=>by
  obtain⟨k,i,b,rfl⟩:=nJ a;show (if (zs.length:Int)<=i then [Val.c (k:Nat)] else [])=[]
  have:=h i (AH b);rw[if_neg ⋯]
 unfold kK;rw[this]
def ql(h:x::rest=yJ k vs):∃v w,vs=v::w/\x=.f [.c (k:Nat),v]/\rest=yJ (k+1) w:=by
 cases vs with
 |nil=>cases h
 |cons v w=>
  obtain⟨b,a⟩:=C4 h;exact⟨v,w,rfl,b,a⟩
section
variable {T:Tbl}{Φ:Calls}{s:Sto}
def fH(Φ:Calls):Prop:=∀(zs r:List Int) (s:Sto),RgZ zs r->Φ "first_round_wrong" 0 [tpI zs,tpI r] s=.e (frV (frO zs r)) s
def gQ(W:vh Φ)(U:oi Φ)(S:b7 Φ)(c:lh Φ)(h:RgZ zs r):run T Φ F66.xB [tpI zs,tpI r] s=.e (frV (frO zs r)) s:=by
 have L:=h.b.le;have X:=S zs r s;rw[Zc h.a]at X;rw[post_eq,F66.xB,yY];refine⟨rfl,?_⟩;show (zP Φ T.b [some (tpI zs),some (tpI r),none,none,none,none] _ s).post _;refine yj (x_call (zA (zB rfl) zE) (W zs s h.c)) (yj (x_call (zA (zB rfl) zE) (U r s h.b)) (yD (x_call (zA (zB rfl) (zA (zB rfl) zE)) X) ?_));show (zP Φ T.b [some (tpI zs),some (tpI r),some .h,none,none,none] _ s).post _;refine wq (yH (yU (zB rfl) zI (show zQ .d .h .h s=.e (.e false) s from rfl)) za) ?_;refine zj.mpr (yp (λt e q=>q=s/\(∃I H u,e=[some (tpI zs),some (tpI r),some .h,I,H,u])/\∃k,k<=r.length/\t=yJ k ((r.drop k).map .c)/\((DF k (r.length-k)).flatMap (prs r.length)).find? (frP zs r)=frO zs r) (yJ 0 (r.map .c)) (s1:=s) (fz (zB rfl)) ⟨rfl,⟨_,_,_,rfl⟩,0,Be _,by rw[En],by rw[E7,<-List.range_eq_range'];rfl⟩ ?_ ?_)
 . rintro x t e q ⟨rfl,⟨I,H,u,rfl⟩,k,V,D,z⟩
   obtain⟨v,ws,C,rfl,rfl⟩:=ql D;have p:k<r.length:=by refine Nat.lt_of_not_le λR=>?_;rw[List.drop_eq_nil_of_le R]at C;cases C
   rw[BX p,AE]at C;obtain⟨rfl,rfl⟩:=C4 C;have hx:=h.a r[k] (BP p);obtain⟨o,A⟩:∃c:Nat,r[k]=c:=⟨r[k].toNat,⋯⟩
   have w:o<zs.length:=by omega
   have J:lR zs r k=zW zs o:=ey (by rw[xd p,A])
   obtain⟨E,z2,Y⟩:=xH h.c w;have Q:wI (tpI zs) (.c (o:Int)) q=.e (.c (zW zs o:Nat)) q:=by refine v8 ?_;rw[xd w];unfold zW at E ⊢;rw[AF,xd w]at E ⊢;rw[E];rfl
   refine⟨_,rfl,?_⟩;rw[A];show (zP Φ T.b [some (tpI zs),some (tpI r),some .h,some (.c (k:Nat)),some (.c (o:Nat)),u] _ q).post _;rw[show r.length-k=r.length-(k+1)+1 by omega,List.range'_succ,CG]at z
   generalize hlt:(DF (k+1) (r.length-(k+1))).flatMap (prs r.length)=later at z;refine zj.mpr (yp (λn e l=>l=q/\(∃u,e=[some (tpI zs),some (tpI r),some .h,some (.c (k:Nat)),some (.c (o:Nat)),u])/\∃j,1<=j/\j<=r.length/\n=yI (j:Nat) (r.length-j)/\(((DF j (r.length-j)).map λd=>(k,d))++later).find? (frP zs r)=frO zs r) (yI ((1:Nat):Int) (r.length-1)) (s1:=q) (eA (i:=1) (j:=r.length) zI (ui rfl) ⋯ ⋯) ⟨rfl,⟨_,rfl⟩,1,Ac _,⋯,rfl,z⟩ ?_ ?_)
   . rintro x n e l ⟨rfl,⟨u,rfl⟩,j,P,M,y,g⟩
     obtain⟨m,F,rfl,K⟩:=wa y;refine⟨_,rfl,?_⟩;show (zP Φ T.b [some (tpI zs),some (tpI r),some .h,some (.c (k:Nat)),some (.c (o:Nat)),some (.c (j:Nat))] _ l).post _;have Z:=c r k j (zW zs o) l L p ⋯ Y
     rw[F,List.range'_succ,AE,CI,List.find?_cons]at g;have O:frP zs r (k,j)=xO r k j (zW zs o):=by rw[<-J];rfl
     rw[O]at g;have B:=yH (Φ:=Φ) (G:=T.b) (env:=[some (tpI zs),some (tpI r),some .h,some (.c (k:Nat)),some (.c (o:Nat)),some (.c (j:Nat))]) (x_call (f:="is_whole_round") (v:=0) (zA (zB (i:=1) rfl) (zA (zB (i:=3) rfl) (zA (zB (i:=5) rfl) (zA (wN (zB (i:=0) rfl) (zB (i:=4) rfl) Q) zE)))) Z) za;cases hb:xO r k j (zW zs o) with
     |true=>
      rw[hb]at g B;refine qA B (z8 (wV (zA zI (zA (zB rfl) (zA (zB rfl) zE))) (show 3<=zO by decide)) ?_)
      have g:some (k,j)=frO zs r:=g;rw[<-g];exact zk (Ph (some (k,j)))
     |false=>
      rw[hb]at g B;exact wq B (yl ⟨rfl,⟨_,rfl⟩,j+1,⋯,⋯,by rw[K];congr 1;omega,by rw[show r.length-(j+1)=m by omega];exact g⟩)
   . rintro e l ⟨rfl,⟨u,rfl⟩,j,P,M,y,g⟩
     have:=uv y;rw[this,Gq,DK,D7]at g;refine yl ⟨rfl,⟨_,_,_,rfl⟩,k+1,⋯,rfl,?_⟩
     rw[hlt];exact g
 . rintro e q ⟨rfl,⟨I,H,u,rfl⟩,k,V,D,z⟩
   have N:k=r.length:=by refine GH V (Ga λR=>?_);rw[BX R]at D;cases D
   rw[N,DN,Gq,Gr]at z;have z:none=frO zs r:=z;rw[<-z];exact z8 zI (zk ur)
def nr(Φ:Calls):Prop:=∀(zs r:List Int) (s:Sto),RgZ zs r->Φ "fits_round" 0 [tpI zs,tpI r] s=.e (.e (xF zs r)) s
def bX(c:fH Φ)(h:RgZ zs r):run T Φ F66.vo [tpI zs,tpI r] s=.e (.e (xF zs r)) s:=by
 have a:zQ .m (frV (frO zs r)) .h s=.e (.e (xF zs r)) s:=by show Out.e (Val.e (frV (frO zs r)).isN) s=_;rw[Ta,ZT]
 rw[post_eq,F66.vo,yY];refine⟨rfl,?_⟩;show (zP Φ T.b [some (tpI zs),some (tpI r)] _ s).post _;exact z8 (yU (x_call (zA (zB rfl) (zA (zB rfl) zE)) (c zs r s h)) zI a) (zk yu)
def ik(h:zp zs)(g:1<=n)(c:x∈yg zs [[]] n):RgZ zs x/\x.length=n:=by
 have d:=pG h.a (L:=[[]]) (λx c=>by rw[Ap.mp c];exact fu zs) n x c
 have b:=mn h n x c;refine⟨⟨h.a,⟨⟨⋯,λy f=>?_⟩,λe=>?_⟩,d.a⟩,b.1⟩
 . have:=d.a y f
   have:=h.a.2.1;omega
 . rw[e,CV]at b;omega
def Vk(h:zp zs)(b:1<=n)(a:r∈yL zs n):RgZ zs r/\r.length=n/\jt zs r:=by have:=(BJ.mp a).1;exact⟨(ik h b this).1,(cW h).mp a⟩
def js(Φ:Calls):Prop:=∀(zs:List Int) (n:Nat) (s:Sto),zp zs->1<=n->n<=12->Φ "all_rings" 0 [tpI zs,.c n] s=.e (.g (tps (yL zs n))) s
def qW(Φ:Calls):Prop:=∀(zs:List Int) (n:Nat) (s:Sto),zp zs->1<=n->n<=12->Φ "rings_many" 0 [tpI zs,.c n] s=.e (.c ((yL zs n).length:Nat)) s
def oW(c:js Φ){n:Nat}(h:zp zs)(d:1<=n)(a:n<=12):run T Φ F66.xY [tpI zs,.c n] s=.e (.c ((yL zs n).length:Nat)) s:=by rw[post_eq,F66.xY,yY];refine⟨rfl,?_⟩;show (zP Φ T.b [some (tpI zs),some (.c n)] _ s).post _;exact z8 (yT (zA (x_call (zA (zB rfl) (zA (zB rfl) zE)) (c zs n s h d a)) zE) (by rw[YF,rt])) (zk ub)
def qU(Φ:Calls):Prop:=∀(zs:List Int) (n:Nat) (s:Sto),zp zs->1<=n->n<=12->Φ "first_ring" 0 [tpI zs,.c n] s=.e (mU (yL zs n)) s
def oS(c:js Φ){n:Nat}(h:zp zs)(f:1<=n)(d:n<=12):run T Φ F66.xW [tpI zs,.c n] s=.e (mU (yL zs n)) s:=by
 have a:=c zs n s h f d;rw[post_eq,F66.xW,yY];refine⟨rfl,?_⟩;show (zP Φ T.b [some (tpI zs),some (.c n),none] _ s).post _;refine yD (x_call (zA (zB rfl) (zA (zB rfl) zE)) a) ?_;show (zP Φ T.b [some (tpI zs),some (.c n),some (.g (tps (yL zs n)))] _ s).post _;cases yL zs n with
 |nil=>exact z8 (QU (yH (zB rfl) gu) zI) (zk ur)
 |cons r L=>exact z8 (QV (yH (zB rfl) gu) (wN (zB rfl) zI (show wI (.g (tps (r::L))) (.c ((0:Nat):Int)) s=.e (tpI r) s from rL rfl))) (zk (iz _))
end
section
variable {T:Tbl}{Φ:Calls}{G:Str->Option Val}{s:Sto}
def YR:zQ .b (.c i) (.c i) s=.e (.e false) s:=by rw[ne_int,decide_eq_true rfl];rfl
def lb(Φ:Calls):Prop:=∀(p:Nat) (s:Sto),ll s p->(Φ "_law_small" 0 [.j p] s).post λv a=>∃z,v=tpI z/\z∈yE/\sC s p a
def jQ(u:jq Φ)(o:ll s p):(run T Φ F66.vj [.j p] s).post λv y=>∃w,v=tpI w/\w∈yE/\sC s p y:=by
 have q:(yE.take 12).map tpI++(yE.drop 12).map tpI=yE.map tpI:=by rw[<-CW,List.take_append_drop]
 have i:∀{a:Int} {d:Env},evE Φ T.b d (.k (.a (.g (.c a)) .b)) s=.e (tpI [a]) s:=wV (zA zI zE) (show 1<=zO by decide)
 have t:∀{a b:Int} {d:Env},evE Φ T.b d (.k (.a (.g (.c a)) (.a (.g (.c b)) .b))) s=.e (tpI [a,b]) s:=wV (zA zI (zA zI zE)) (show 2<=zO by decide)
 have f:∀{a b c:Int} {d:Env},evE Φ T.b d (.k (.a (.g (.c a)) (.a (.g (.c b)) (.a (.g (.c c)) .b)))) s=.e (tpI [a,b,c]) s:=wV (zA zI (zA zI (zA zI zE))) (show 3<=zO by decide)
 rw[F66.vj,yY];refine⟨rfl,?_⟩;show (zP Φ T.b [some (.j p),none] _ s).post _;refine yD (vf (zA t (zA t (zA t (zA t (zA t (zA f (zA f (zA f (zA f (zA i (zA i (zA t zE)))))))))))) (show 12<=zO by decide)) ?_
 show (zP Φ T.b [some (.j p),some (.g ((yE.take 12).map tpI))] _ s).post _;refine zj.mpr (Yg.mpr (Pz.mpr ?_));rw[zm (zB rfl) (vf (zA t (zA t (zA i (zA t zE)))) (show 4<=zO by decide)) (show binOp false .a (.g ((yE.take 12).map tpI)) (.g ((yE.drop 12).map tpI)) s=.e (.g (yE.map tpI)) s by rw[fQ (by decide),q])]
 refine zF.mpr (VU (zA (zB rfl) (zA zI zE)) (zY (u p 16 s o ⋯ ⋯) ?_))
 rintro v s1 ⟨r,rfl,x,l⟩;have h:r<yE.length:=by show r<16;omega
 have m:wI (.g (yE.map tpI)) (.c r) s1=.e (tpI yE[r]) s1:=rL (by rw[AZ,xd h];rfl)
 have n:yE[r]∈yE:=BP h;generalize yE[r]=w at m n;rw[m];refine zF.mpr ?_;show (z0 false s (tpI w) s1).post _;rw[kW l (iz _)];exact zF.mpr ⟨w,rfl,n,l⟩
end
end M
end
section
namespace F61
open PySem M
noncomputable def vD:Fn:=⟨["_law_length","_law_size","_law_found","_law_first","_law_step","_law_places"],["_law_length","_law_size"],false,(.e (.d 2 (.s true .b)) (.e (.h (.a 3) (.d (.e 0)) (.e (.h (.a 4) (.g (.g (.c 1)) (.e 0)) (.e (.d 5 (.p false ["_law_k","_law_length","_law_first","_law_step"] [none,some 0,some 3,some 4] (.j false .c (.j false .a (.e 2) (.j false .b (.e 0) (.e 3))) (.e 1)) (.a 0) (.d (.e 1)) .a)) (.e (.j (.a (.l .a (.r false (.g .h) (.e 5) (.g (.m ""))) (.e 1))) (.e (.g (.L .a false (.e 2) (.a (.k (.a (.e 3) (.a (.e 4) (.a (.e 5) .b)))) .b))) .f) .f) .f))) .f)) (.e (.f (.e 2)) .f)))⟩
end F61
end
section
namespace M
open PySem
def iY(h:exS Φ G env c s=.e (.a e) s1):zP Φ G env (.e c cs) s=zP Φ G e cs s1:=bnd h rfl
def we(h:exS Φ G env c s=.d):zP Φ G env (.e c cs) s=.d:=by show (exS Φ G env c s).bind _=_;rw[h];rfl
def Sa(h:evT Φ G env c s=.e true s1)(k:zP Φ G env a s1=.d):exS Φ G env (.j c a b) s=.d:=bnd h k
def um:exS Φ G env (.k e) s=.d:=rfl
def iX(h:evE Φ G env e s=.d):exS Φ G env (.g e) s=.d:=by show (evE Φ G env e s).bind _=_;rw[h];rfl
def eI(h:evE Φ G env e s=.e v s1):exS Φ G env (.g e) s=.e (.a env) s1:=bnd h rfl
def gM(h:exS Φ G env c s=.e (.a e) s1):xSs W Φ Ψ G env (.e c cs) s=xSs W Φ Ψ G e cs s1:=by simp only[XW,h]
def wo(h:exS Φ G env c s=.d):xSs W Φ Ψ G env (.e c cs) s=xS W Φ Ψ G env c s:=by simp only[XW,h]
def Rt(h:evT Φ G env c s=.e true s1):xS W Φ Ψ G env (.j c a b) s=xSs W Φ Ψ G env a s1:=by simp only[XW,h,if_true]
def gL(h:zr Φ G env es s=.e vs s1):xS W Φ Ψ G env (.g (.h f v es)) s=Ψ f v vs s1:=by simp only[XW,XQ,h]
def lH(h:zr Φ G env es s=.e vs s1)(k:(r9 vs&&W c)=true):xS W Φ Ψ G env (.k (.h c v es)) s=some (c,vs,s1):=by simp only[XW,h];rw[if_pos k]
def xR(c:vs.length=F.b.length)(h:zP Φ T.b (zb F.N vs) F.a s=.d):run T Φ F vs s=.d:=by unfold run;rw[if_pos c,h];rfl
def Rz(B:Calls)(A:ye)(f:Str)(v:List Val)(s:Sto)(c:Str):Prop:=B f 0 v s=.d/\∃a,A f 0 v s=some (c,a,s)
section
variable {T:Tbl}{Φ:Calls}{Ψ:ye}{s:Sto}
def UD(Φ:Calls)(Ψ:ye):Prop:=∀(v:Val) (l m:Int) (s:Sto),kindOf v≠none->yF l m v=false->l.natAbs<2 ^ 64->m.natAbs<2 ^ 64->Rz Φ Ψ "need_whole" [v,.c l,.c m] s "NoNumber"
def aR(c:nu Φ)(r:(T.d.lookup ("NoNumber":Str)).isSome=true)(q:kindOf v≠none)(n:yF l m v=false)(p:l.natAbs<2 ^ 64)(o:m.natAbs<2 ^ 64) :
 run T Φ F.yO [v,.c l,.c m] s=.d/\xSs (λc=>(T.d.lookup c).isSome) Φ Ψ T.b (zb F.yO.N [v,.c l,.c m]) F.yO.a s=some (("NoNumber":Str),[Val.c l,Val.c m],s):=by
 have g:evT Φ T.b [some v,some (.c l),some (.c m)] (.d (.a (.h "is_whole" 0 (.a (.e 0) (.a (.e 1) (.a (.e 2) .b)))))) s=.e true s:=by have k:=c v l m s q;rw[n]at k;exact Xj (b:=false) (yH (x_call (zA (zB rfl) (zA (zB rfl) (zA (zB rfl) zE))) k) za)
 have i:=Sa (b:=.f) g (we (cs:=.f) (um (e:=.h "NoNumber" 0 (.a (.e 1) (.a (.e 2) .b)))));refine⟨xR rfl (we i),(wo i).trans ((Rt g).trans ((wo um).trans (lH (zA (zB rfl) (zA (zB rfl) zE)) ?_)))⟩;rw[r];simp[r9,p,o]
def cw(g:T.b "MOST_PLACES"=some (.c 40))(c:vi Φ)(d:0<=i)(a:i<=40):run T Φ F.vG [.c i] s=.e .h s:=by rw[post_eq];simp[F.vG,EVl,zb,ze,g,c i 0 40 s d a]
end
theorem wZ:∀{tb} {s},zu tb s=true↔∃r,s=tb.map Cel.d++r
 |[],s=>⟨λ_=>⟨s,rfl⟩,λ_=>rfl⟩
 |x::tb,s=>by
  constructor
  . intro h
    cases s with
    |nil=>cases h
    |cons c r=>
     cases c with
     |d y=>
      have j:(decide (x=y)&&zu tb r)=true:=h;rw[cf,decide_eq_true_eq]at j;obtain⟨a,e⟩:=wZ.mp j.2;exact⟨a,by rw[j.1,e];rfl⟩
     |_=>cases h
  . rintro ⟨r,rfl⟩
    show (decide (x=x)&&zu tb (tb.map Cel.d++r))=true;rw[decide_eq_true rfl,wZ.mpr ⟨r,rfl⟩];rfl
def lT(h:zu tb s=true):zu tb (s++t)=true:=by obtain⟨r,rfl⟩:=wZ.mp h;exact wZ.mpr ⟨r++t,A0 ..⟩
def Vz(h:zu tb s=true)(a:tb.length<=p):zu tb (s.set p c)=true:=by obtain⟨r,rfl⟩:=wZ.mp h;refine wZ.mpr ⟨r.set (p-tb.length) c,?_⟩;rw[List.set_append_right _ _ (by rw[rt];exact a),rt]
def QI(h:zu tb s=true)(f:tb.length<=p)(t:sC s p s'):zu tb s'=true:=by obtain⟨a,b,c,d,rfl,_⟩:=t;exact Vz h f
def Vy(h:zu tb s=true):tb.length<=s.length:=by obtain⟨r,rfl⟩:=wZ.mp h;rw[Ah,rt];omega
def cP(a:zu tb s=true)(h:v.noRef=true):z0 false (tb.map Cel.d) v s=.e v (tb.map Cel.d):=by obtain⟨r,rfl⟩:=wZ.mp a;exact ig h
def RzF(T:Tbl)(A:Calls)(B:ye)(F:Fn)(v:List Val)(s:Sto)(c:Str):Prop:=run T A F v s=.d/\∃f,xSs (λc=>(T.d.lookup c).isSome) A B T.b (zb F.N v) F.a s=some (c,f,s)
def RzF.up(h:RzF T (zC T n) (zS T n) F vs s c)(d:T.c f 0=some F)(g:vs.length=F.b.length):Rz (zC T (n+1)) (zS T (n+1)) f vs s c:=by obtain⟨a,i,b⟩:=h;exact⟨by rw[wD d];exact a,i,by rw[qc d g];exact b⟩
def om(k:F.a=.e (.g (.h f 0 es)) cs)(l:vs.length=F.b.length)(i:zr Φ T.b (zb F.N vs) es s=.e ws s)(h:Rz Φ Ψ f ws s c):RzF T Φ Ψ F vs s c:=by obtain⟨a,m,b⟩:=h;have d:=iX (x_call i a);refine⟨xR l (by rw[k];exact we d),m,by rw[k];exact(wo d).trans ((gL i).trans b)⟩
def j8(l:F.a=.e (.g (.h f 0 es)) (.e (.g (.h g 0 es2)) cs))(m:vs.length=F.b.length)(n:zr Φ T.b (zb F.N vs) es s=.e ws s)(o:Φ f 0 ws s=.e v s)(d:zr Φ T.b (zb F.N vs) es2 s=.e ys s)(h:Rz Φ Ψ g ys s c):RzF T Φ Ψ F vs s c:=by obtain⟨a,p,b⟩:=h;have i:=iX (x_call d a);have k:=eI (x_call n o);refine⟨xR m (by rw[l];exact(iY k).trans (we i)),p,by rw[l];exact(gM k).trans ((wo i).trans ((gL d).trans b))⟩
structure Kds(v:Val):Prop where
 b:kindOf v≠none
 a:∀vs,v=.f vs->∀w∈vs,kindOf w≠none
section
variable {T:Tbl}{Φ:Calls}{Ψ:ye}{s:Sto}
def fM(Φ:Calls):Prop:=∀(v:Val) (s:Sto),Kds v->Φ "is_strip" 0 [v] s=.e (.e (rZ v)) s
def gX(n:T.b "MOST_PLACES"=some (.c 40))(l:T.b "HUES"=some (.o [0,1,2,3]))(c:nv Φ)(g:Kds v):run T Φ F.tM [v] s=.e (.e (rZ v)) s:=by
 obtain⟨a,h⟩:=mj g.b;have i:=me (m:=false) (s:=s) h (show uY "tuple"=some .b from rfl);have d:∀{b:Bool},b=rZ v->(z0 false s (.e b) s).post λx t=>x=.e (rZ v)/\t=s:=λ{b} e=>by rw[xy yu,e];exact zF.mpr ⟨rfl,rfl⟩
 rw[post_eq,F.tM,yY];refine⟨rfl,?_⟩;show (zP Φ T.b [some v] _ s).post _;rcases YA h with⟨f,rfl⟩|k
 . have p:a=.b:=by cases h;rfl
   subst p;by_cases h4:f.length<=40
   . exact z8 (fD (yT (zA (zB rfl) (zA oH zE)) i) (yU (yT (zA (zB rfl) zE) kQ) (tF n) (by rw[le_int,decide_eq_true ⋯])) (x_call (zA (zB rfl) (zA (wN (tF l) zI rfl) (zA (wN (tF l) (X3 zI) rfl) zE))) (c f 0 3 s (g.a f rfl)))) (d (by show _=(decide (f.length<=40)&&f.all (yF 0 3));rw[decide_eq_true h4];rfl))
   . exact z8 (fC (yT (zA (zB rfl) (zA oH zE)) i) (yU (yT (zA (zB rfl) zE) kQ) (tF n) (by rw[le_int,decide_eq_false ⋯]))) (d (by show _=(decide (f.length<=40)&&f.all (yF 0 3));rw[decide_eq_false h4];rfl))
 . rw[k]at i
   exact z8 (lX (yT (zA (zB rfl) (zA oH zE)) i)) (d (Xc λf e=>by rw[e]at h;cases h;cases k).symm)
def pC ns:Kds (tpI ns):=⟨nofun,λv e=>by cases e;exact cK⟩
def bg(c:fM Φ):oh Φ:=λn s h=>by rw[c _ s (pC n),Xd h]
end
def rdP(n z:Nat)(q:Nat × Nat):Bool:=decide (goN n q.1 q.2 z).Nodup
def rdV(n z:Nat)(q:Nat × Nat):Val:=.f [.c q.1,.c q.2,.g ((qH (goN n q.1 q.2 z)).map .c)]
def oR(n z:Nat):List (Nat × Nat):=(pT n).filter (rdP n z)
def Pj n z q:(rdV n z q).noRef=true:=by unfold rdV;rw[i6,wK,wK,wK,qQ,ub,ub,mz,wJ];rfl
theorem YT n z:∀l:List (Nat × Nat),zt (l.map (rdV n z))=true
 |[]=>qQ
 |q::l=>by rw[AE,wK,Pj,YT n z l];rfl
section
variable {T:Tbl}{Φ:Calls}{s:Sto}
def qV(Φ:Calls):Prop:=∀(n z:Nat) (s:Sto),1<=n->n<=40->z<=8->Φ "_law_rounds" 0 [.c n,.c z] s=.e (.g ((oR n z).map (rdV n z))) s
def jP{n z:Nat}(X:1<=n)(Y:n<=40)(R:z<=8):run T Φ F61.vD [.c n,.c z] s=.e (.g ((oR n z).map (rdV n z))) s:=by
 have N:z<=zO:=Aq R (by decide)
 rw[post_eq,F61.vD,yY];refine⟨rfl,?_⟩;show (zP Φ T.b [some (.c n),some (.c z),none,none,none,none] _ s).post _;refine yD (v:=.j s.length) (s1:=s++[.c []]) (bnd zE rfl) ?_;refine zj.mpr (yp (λq e y=>∃i E w u,i<=n/\q=yI i (n-i)/\e=[some (.c n),some (.c z),some (.j s.length),E,w,u]/\y=s++[.c ((((Ai i).flatMap (prs n)).filter (rdP n z)).map (rdV n z))]) (yI 0 n) (s1:=s++[.c []]) (sQ (zB rfl) (by unfold zO;omega)) ⟨0,_,_,_,⋯,rfl,rfl,rfl⟩ ?_ ?_)
 . rintro x q e y ⟨i,E,w,u,H,C,rfl,rfl⟩
   obtain⟨k,F,rfl,rfl⟩:=wa C;refine⟨_,rfl,?_⟩;show (zP Φ T.b [some (.c n),some (.c z),some (.j s.length),some (.c (i:Nat)),w,u] _ _).post _;generalize hA:(Ai i).flatMap (prs n)=A;have U:A.length<=i*n:=by
    rw[<-hA];have:∀l:List Nat,(l.flatMap (prs n)).length<=l.length*n:=λl=>by
     induction l with
     |nil=>rw[Gr,CV];omega
     |cons a l ih=>
      have e:(prs n a).length=n-1:=by unfold prs;rw[rt,List.length_range']
      rw[CG,Ah,AX,F8,e];omega
    have h:=this (Ai i)
    rwa [Bl]at h
   have L:i*n<=40*40:=Dj ⋯ Y
   refine zj.mpr (yp (λq e y=>∃j w u,j<=n-1/\q=yI (1+(j:Int)) (n-1-j)/\e=[some (.c n),some (.c z),some (.j s.length),some (.c i),w,u]/\y=s++[.c (((A++(DF 1 j).map λd=>(i,d)).filter (rdP n z)).map (rdV n z))]) (yI ((1:Nat):Int) (n-1)) (s1:=s++[.c ((A.filter (rdP n z)).map (rdV n z))]) (eA (i:=1) zI (zB rfl) ⋯ ⋯) ⟨0,_,_,⋯,rfl,rfl,by rw[Gq,DK,AJ]⟩ ?_ ?_)
   . rintro x q e y ⟨j,w,u,G,C,rfl,rfl⟩
     obtain⟨W,Z,rfl,rfl⟩:=wa C;refine⟨[some (.c n),some (.c z),some (.j s.length),some (.c i),some (.c (1+(j:Int))),u],rfl,?_⟩;rw[show (1:Int)+(j:Int)=((j+1:Nat):Int) by omega]
     generalize hd:j+1=d;have P:(A++(DF 1 d).map λd=>(i,d))=(A++(DF 1 j).map λd=>(i,d))++[(i,d)]:=by rw[<-hd,List.range'_concat,CW,<-A0,Nat.one_mul,F9 1 j];rfl
     generalize hB:(A++(DF 1 j).map λd=>(i,d))=B at *;have J:B.length<=2000:=by rw[<-hB,Ah,rt,List.length_range'];omega
     have I:((B.filter (rdP n z)).map (rdV n z)).length<=2000:=by rw[rt];exact Aq (EX _ _) J
     have M:(Ai z).map (λ(t:Nat)=>((((i:Int)+(t:Int)*(d:Int))%(n:Int))))=qH (goN n i d z):=by unfold goN qH;rw[B3];refine Fh λt _=>?_;show _=(((i+d*t)%n:Nat):Int);rw[Int.natCast_emod,GI,CC,Int.mul_comm]
     have O:∀S:Sto,evE Φ T.b [some (.c n),some (.c z),some (.j s.length),some (.c i),some (.c (d:Nat)),u] (.p false ["_law_k","_law_length","_law_first","_law_step"] [none,some 0,some 3,some 4] (.j false .c (.j false .a (.e 2) (.j false .b (.e 0) (.e 3))) (.e 1)) (.a 0) (.d (.e 1)) .a) S=.e (.g ((qH (goN n i d z)).map .c)) S:=λS=>by rw[<-M];exact X4 (n:=z) (f:=λ(t:Nat)=>((((i:Int)+(t:Int)*(d:Int))%(n:Int)))) (sQ (zB rfl) N) rfl (λk o F=>zm (zm (zB rfl) (zm (zB rfl) (zB rfl) (fV ⋯)) qa) (zB rfl) (bmod ⋯)) N
     refine yD (O _) ?_;show (zP Φ T.b [some (.c n),some (.c z),some (.j s.length),some (.c i),some (.c (d:Nat)),some (.g ((qH (goN n i d z)).map .c))] _ _).post _;have V:∀S:Sto,zQ .a (.c (L2.dN (qH (goN n i d z)):Nat)) (.c z) S=.e (.e (rdP n z (i,d))) S:=λS=>by rw[eq_int];congr 2;refine decide_eq_decide.mpr (Iff.trans ?_ (YO (ls:=goN n i d z)));rw[<-UI,rt,iL];omega
     have K:∀S:Sto,evT Φ T.b [some (.c n),some (.c z),some (.j s.length),some (.c i),some (.c (d:Nat)),some (.g ((qH (goN n i d z)).map .c))] (.a (.l .a (.r false (.g .h) (.e 5) (.g (.m ""))) (.e 1))) S=.e (rdP n z (i,d)) S:=λS=>yH (yU (bnd zI (bnd (zB rfl) (bnd zI (Ss (by rw[rt,iL];omega))))) (zB rfl) (V S)) za
     have Q:(B++[(i,d)]).filter (rdP n z)=B.filter (rdP n z)++if rdP n z (i,d) then [(i,d)] else []:=by rw[List.filter_append];congr 1;rw[DW,List.filter_nil]
     cases hp:rdP n z (i,d) with
     |true=>
      have D:=K (s++[.c ((B.filter (rdP n z)).map (rdV n z))]);rw[hp]at D;refine qA D (yj (bnd (zB rfl) (bnd (zA (wV (zA (zB rfl) (zA (zB rfl) (zA (zB rfl) zE))) (show 3<=zO by decide)) zE) (sG (Nat.lt_of_le_of_lt I (by decide))))) (yl (yl ⟨j+1,_,_,⋯,by congr 1<;>omega,rfl,?_⟩)))
      rw[hd,P,Q,hp,if_pos rfl,CW];rfl
     |false=>
      have D:=K (s++[.c ((B.filter (rdP n z)).map (rdV n z))]);rw[hp]at D;refine wq D (yl ⟨j+1,_,_,⋯,by congr 1<;>omega,rfl,?_⟩)
      rw[hd,P,Q,hp,if_neg Aj,AJ]
   . rintro e y ⟨j,w,u,G,C,rfl,rfl⟩
     have:=uv C;have G:j=n-1:=by omega
     subst G;refine yl ⟨i+1,_,_,_,⋯,by congr 1<;>omega,rfl,?_⟩
     rw[List.range_succ,List.flatMap_append,List.flatMap_singleton,hA];rfl
 . rintro e y ⟨i,E,w,u,H,C,rfl,rfl⟩
   have:=uv C;have H:i=n:=by omega
   subst H;refine z8 (zB rfl) ?_;show (z0 false s _ _).post _;rw[cN (YT _ _ _)];exact zF.mpr ⟨rfl,rfl⟩
end
def lr(r:List Int)(h:Nat)(z:Nat)(q:Nat × Nat):Bool:=(goN r.length q.1 q.2 z).all λp=>decide (r[p]?=some (h:Int))
def iJ(z r:List Int)(h:Nat):List (Nat × Nat):=(oR r.length (zW z h)).filter (lr r h (zW z h))
def TZ(z r:List Int):List (Nat × Nat):=(Ai z.length).flatMap (iJ z r)
def eL(h:RgZ zs r)q:q∈TZ zs r↔q∈pT r.length/\frP zs r q=true:=by
 have g:∀(k:Nat),k<zs.length->q.1<r.length->(decide (goN r.length q.1 q.2 (zW zs k)).Nodup=true/\lr r k (zW zs k) q=true↔r[q.1]?=some (k:Int)/\frP zs r q=true):=λk l o=>by
  obtain⟨j,e,z⟩:=xH h.c l;have i:q.1∈goN r.length q.1 q.2 (zW zs k):=A2.mpr ⟨0,Am.mpr ⋯,by rw[Gp,Fc,Dt o]⟩
  constructor
  . rintro ⟨a,b⟩
    have v:=Ak.mp b;have d:r[q.1]?=some (k:Int):=of_decide_eq_true (v _ i);refine⟨d,?_⟩;unfold frP xO;rw[ey d,cf];refine⟨Ak.mpr λp f=>decide_eq_true ?_,a⟩;rw[of_decide_eq_true (v p f),d]
  . rintro ⟨d,f⟩
    unfold frP xO at f;rw[ey d,cf]at f;refine⟨f.2,Ak.mpr λp s=>decide_eq_true ?_⟩;rw[of_decide_eq_true (Ak.mp f.1 p s),d]
 unfold TZ;rw[Ds];constructor
 . rintro ⟨k,l,o⟩
   obtain⟨n,t⟩:=BJ.mp o;obtain⟨u,x⟩:=BJ.mp n;have m:q.1<r.length:=(vU.mp (show (q.1,q.2)∈_ from u)).1;exact⟨u,((g k (Am.mp l) m).mp ⟨x,t⟩).2⟩
 . rintro ⟨n,t⟩
   have m:q.1<r.length:=(vU.mp (show (q.1,q.2)∈_ from n)).1;obtain⟨y,w⟩:=h.a r[q.1] (BP m);obtain⟨k,l⟩:∃k:Nat,r[q.1]=k:=⟨r[q.1].toNat,⋯⟩
   have d:r[q.1]?=some (k:Int):=by rw[xd m,l]
   obtain⟨a,b⟩:=(g k ⋯ m).mpr ⟨d,t⟩
   exact⟨k,Am.mpr ⋯,BJ.mpr ⟨BJ.mpr ⟨n,a⟩,b⟩⟩
section
variable {T:Tbl}{Φ:Calls}{Ψ:ye}{G:Str->Option Val}{s:Sto}
def aO(c:nt Φ):oa Φ:=λz s h=>by rw[c _ s (pC z).b (pC z).a];show Out.e (Val.e (decide (1<=(z.map Val.c).length)&&decide ((z.map Val.c).length<=4)&&(z.map Val.c).all (yF 2 8))) s=_;rw[rt,decide_eq_true h.1,decide_eq_true h.2.1,qY h.2.2];rfl
def aM(Φ:Calls)(Ψ:ye):Prop:=∀(v:Val) (s:Sto),Kds v->yq v=false->Rz Φ Ψ "need_sizes" [v] s "NoSizes"
def dP(c:nt Φ)(p:(T.d.lookup ("NoSizes":Str)).isSome=true)(k:Kds v)(o:yq v=false):RzF T Φ Ψ F.xX [v] s "NoSizes":=by have i:=c v s k.b k.a;rw[o]at i;have l:evT Φ T.b [some v] (.d (.a (.h "are_sizes" 0 (.a (.e 0) .b)))) s=.e true s:=Xj (b:=false) (yH (x_call (zA (zB rfl) zE) i) za);have n:=Sa (b:=.f) l (we (cs:=.f) (um (e:=.h "NoSizes" 0 (.a (.g (.m "one to four sizes are due")) .b))));refine⟨xR rfl (we n),_,(wo n).trans ((Rt l).trans ((wo um).trans (lH (zA zI zE) ?_)))⟩;rw[p];rfl
end
def RzG(B:Calls)(A:ye)(f:Str)(v:List Val)(s:Sto)(c:Str)(a:List Val):Prop:=B f 0 v s=.d/\A f 0 v s=some (c,a,s)
def sy(T:Tbl)(A:Calls)(B:ye)(F:Fn)(v:List Val)(s:Sto)(c:Str)(f:List Val):Prop:=run T A F v s=.d/\xSs (λc=>(T.d.lookup c).isSome) A B T.b (zb F.N v) F.a s=some (c,f,s)
def RzG.rz(h:RzG Φ Ψ f vs s c as):Rz Φ Ψ f vs s c:=⟨h.1,as,h.2⟩
def sy.up(h:sy T (zC T n) (zS T n) F vs s c as)(a:T.c f 0=some F)(d:vs.length=F.b.length):RzG (zC T (n+1)) (zS T (n+1)) f vs s c as:=
 ⟨by rw[wD a];exact h.1,by rw[qc a d];exact h.2⟩
def SY(h:evE Φ G env e s=.e v s1):exS Φ G env (.d i e) s=.e (.a (env.set i (some v))) s1:=bnd h rfl
end M
end
section
namespace F64
open PySem M
noncomputable def xU:Fn:=⟨["_law_sizes","_law_strip","_law_at","_law_size","_law_step","_law_row"],["_law_sizes","_law_strip"],false,(.e (.d 2 (.j false .e (.q .a false (.a (.e 1) .b)) (.g (.c 1)))) (.e (.d 3 (.u (.e 0) (.u (.e 1) (.e 2)))) (.e (.h (.a 4) (.g (.g (.c 1)) (.j false .a (.e 2) (.g (.c 1)))) (.e (.d 5 (.p false ["_law_k","_law_at","_law_step"] [none,some 2,some 4] (.j false .e (.e 1) (.j false .b (.e 0) (.e 2))) (.a 0) (.d (.e 3)) .a)) (.e (.j (.b (.a (.l .i (.u (.e 5) (.D (.g (.c 1)))) (.g (.c 0)))) (.b (.a (.l .a (.p false ["_law_place","_law_strip","_law_at"] [none,some 1,some 2] (.e 0) (.a 0) (.f (.e 5)) (.b (.a (.l .b (.u (.e 1) (.e 0)) (.u (.e 1) (.e 2)))) .a)) (.s false .b))) .a)) (.e (.f (.g (.e false))) .f) .f) .f))) (.e (.f (.g (.e true))) .f))))⟩
noncomputable def y0:Fn:=⟨["_law_sizes","_law_length","_law_some","_law_place","_law_longer","_law_strip","_law_rounds_here","_law_found","_law_ring","_law_wrong","_law_hue","_law_rows"],["_law_sizes","_law_length"],false,(.e (.d 2 (.s false (.a (.k .b) .b))) (.e (.h (.a 3) (.d (.e 1)) (.e (.d 4 (.s true .b)) (.e (.h (.a 5) (.f (.e 2)) (.e (.g (.L .c false (.e 4) (.a (.p false ["_law_hue","_law_strip"] [none,some 5] (.j false .a (.e 1) (.k (.a (.e 0) .b))) (.a 0) (.d (.q .a false (.a (.e 0) .b))) .a) .b))) .f)) (.e (.d 2 (.p false ["_law_strip","_law_sizes"] [none,some 0] (.e 0) (.a 0) (.f (.e 4)) (.b (.a (.h "_law_ends_right" 0 (.a (.e 1) (.a (.e 0) .b)))) .a))) .f)))) (.e (.d 6 (.p false ["_law_size","_law_length"] [none,some 1] (.h "_law_rounds" 0 (.a (.e 1) (.a (.e 0) .b))) (.a 0) (.f (.e 0)) .a)) (.e (.d 7 (.s true .b)) (.e (.h (.a 8) (.f (.e 2)) (.e (.d 9 (.g (.c 0))) (.e (.h (.b [10,11]) (.h (.e 6)) (.e (.j (.b (.a (.l .h (.e 10) (.e 8))) (.b (.a (.l .a (.e 9) (.g (.c 0)))) .a)) (.e (.d 9 (.q .a false (.a (.p false ["_law_row","_law_hue","_law_ring"] [none,some 10,some 8] (.g (.c 1)) (.a 0) (.f (.e 11)) (.b (.a (.l .a (.p false ["_law_at","_law_hue","_law_ring"] [none,some 1,some 2] (.e 0) (.a 0) (.f (.u (.e 0) (.g (.c 2)))) (.b (.a (.l .b (.u (.e 2) (.e 0)) (.e 1))) .a)) (.s false .b))) .a)) .b))) .f) .f) .f)) (.e (.j (.a (.l .a (.e 9) (.g (.c 0)))) (.e (.g (.L .a false (.e 7) (.a (.e 8) .b))) .f) .f) .f)))) (.e (.f (.e 7)) .f))))))⟩
noncomputable def vE:Fn:=⟨["sizes","length"],["sizes","length"],true,(.e (.g (.h "need_small_sizes" 0 (.a (.e 0) .b))) (.e (.g (.h "need_whole" 0 (.a (.e 1) (.a (.g (.c 1)) (.a (.C "MOST_RING_LENGTH") .b))))) (.e (.f (.p true ["strip","sizes"] [none,some 0] (.e 0) (.a 0) (.f (.h "all_strips" 0 (.a (.e 0) (.a (.e 1) .b)))) (.b (.a (.h "fits_round" 0 (.a (.e 1) (.a (.e 0) .b)))) .a))) .f)))⟩
noncomputable def zo:Fn:=⟨["thing","product"],["thing"],false,(.e (.g (.h "need_sizes" 0 (.a (.e 0) .b))) (.e (.d 1 (.h "product_of" 0 (.a (.e 0) .b))) (.e (.j (.a (.l .j (.e 1) (.C "MOST_PRODUCT"))) (.e (.k (.h "TooGreat" 1 (.a (.e 1) (.a (.C "MOST_PRODUCT") .b)))) .f) .f) .f)))⟩
end F64
end
section
namespace M
open PySem
section
variable {T:Tbl}{Φ:Calls}{Ψ:ye}{s:Sto}
def pf(g:T.b "MOST_PRODUCT"=some (.c 12))(k:vh Φ)(i:b9 Φ)(d:zp zs):run T Φ F64.zo [tpI zs] s=.e .h s:=by
 have f:¬(12<zs.foldl (·*·) 1):=by have:=d.c;omega
 rw[post_eq,F64.zo,yY];refine⟨rfl,?_⟩;show (zP Φ T.b [some (tpI zs),none] _ s).post _;refine yj (x_call (zA (zB rfl) zE) (k zs s d.a)) (yD (x_call (zA (zB rfl) zE) (i zs s d.a)) ?_);exact wq (yH (yU (zB rfl) (tF g) (by rw[gt_int,decide_eq_false f])) za) (yl (zk ur))
structure jx(Φ:Calls)(Ψ:ye):Prop where
 a:∀(v:Val) (s:Sto),Kds v->yq v=false->Rz Φ Ψ "need_small_sizes" [v] s "NoSizes"
 b:∀(zs:List Int) (s:Sto),Sz zs->12<zs.foldl (·*·) 1->zs.foldl (·*·) 1<100000->RzG Φ Ψ "need_small_sizes" [tpI zs] s "TooGreat" [.c (zs.foldl (·*·) 1),.c 12]
def j9(c:aM Φ Ψ)(h:Kds v)(a:yq v=false):RzF T Φ Ψ F64.zo [v] s "NoSizes":=om rfl rfl (zA (zB rfl) zE) (c v s h a)
def iA(g:T.b "MOST_PRODUCT"=some (.c 12))(t:vh Φ)(r:b9 Φ)(p:(T.d.lookup ("TooGreat":Str)).isSome=true)(i:Sz zs)(q:12<zs.foldl (·*·) 1)(u:zs.foldl (·*·) 1<100000):sy T Φ Ψ F64.zo [tpI zs] s "TooGreat" [.c (zs.foldl (·*·) 1),.c 12]:=by
 have o:exS Φ T.b [some (tpI zs),none] (.g (.h "need_sizes" 0 (.a (.e 0) .b))) s=.e (.a [some (tpI zs),none]) s:=eI (x_call (zA (zB rfl) zE) (t zs s i));have n:exS Φ T.b [some (tpI zs),none] (.d 1 (.h "product_of" 0 (.a (.e 0) .b))) s=.e (.a [some (tpI zs),some (.c (zs.foldl (·*·) 1))]) s:=SY (x_call (zA (zB rfl) zE) (r zs s i))
 have k:evT Φ T.b [some (tpI zs),some (.c (zs.foldl (·*·) 1))] (.a (.l .j (.e 1) (.C "MOST_PRODUCT"))) s=.e true s:=yH (yU (zB rfl) (tF g) (show zQ .j (.c (zs.foldl (·*·) 1)) (.c 12) s=.e (.e true) s by rw[gt_int,decide_eq_true q])) za
 have m:=Sa (b:=.f) k (we (cs:=.f) (um (e:=.h "TooGreat" 1 (.a (.e 1) (.a (.C "MOST_PRODUCT") .b)))));refine⟨xR rfl ((iY o).trans ((iY n).trans (we m))),(gM o).trans ((gM n).trans ((wo m).trans ((Rt k).trans ((wo um).trans (lH (zA (zB rfl) (zA (tF g) zE)) ?_)))))⟩;rw[p,ED];show (decide (_<2 ^ 64)&&decide (_<2 ^ 64))=true;rw[decide_eq_true ⋯,decide_eq_true (by decide)];rfl
def jz(k:F.a=.e (.g (.h f 0 es)) cs)(l:vs.length=F.b.length)(i:zr Φ T.b (zb F.N vs) es s=.e ws s)(h:RzG Φ Ψ f ws s c as):sy T Φ Ψ F vs s c as:=by have d:=iX (x_call i h.1);refine⟨xR l (by rw[k];exact we d),by rw[k];exact(wo d).trans ((gL i).trans h.2)⟩
def aP(l:F.a=.e (.d i (.h f 0 es)) cs)(m:vs.length=F.b.length)(k:zr Φ T.b (zb F.N vs) es s=.e ws s)(h:RzG Φ Ψ f ws s c as):sy T Φ Ψ F vs s c as:=by
 have g:exS Φ T.b (zb F.N vs) (.d i (.h f 0 es)) s=.d:=by show (evE Φ T.b (zb F.N vs) (.h f 0 es) s).bind _=_;rw[x_call k h.1];rfl
 refine⟨xR m (by rw[l];exact we g),?_⟩
 rw[l,wo g];simp only[XW,XQ,k];exact h.2
def aQ(k:F.a=.e (.f (.q .a m (.a (.h f 0 es) .b))) cs)(l:vs.length=F.b.length)(i:zr Φ T.b (zb F.N vs) es s=.e ws s)(h:RzG Φ Ψ f ws s c as):sy T Φ Ψ F vs s c as:=by
 have g:exS Φ T.b (zb F.N vs) (.f (.q .a m (.a (.h f 0 es) .b))) s=.d:=by show (Out.bind (Out.bind (Out.bind (evE Φ T.b (zb F.N vs) (.h f 0 es) s) _) _) _)=_;rw[x_call i h.1];rfl
 refine⟨xR l (by rw[k];exact we g),?_⟩
 rw[k,wo g];simp only[XW,XQ,i];exact h.2
def RzG.of(h:Rz Φ Ψ f vs s c):∃e,RzG Φ Ψ f vs s c e:=by obtain⟨a,e,b⟩:=h;exact⟨e,a,b⟩
structure aL(f:Str)(Φ:Calls)(Ψ:ye):Prop where
 a:∀(v w:Val) (s:Sto),Kds v->yq v=false->Rz Φ Ψ f [v,w] s "NoSizes"
 b:∀(zs:List Int) (w:Val) (s:Sto),Sz zs->12<zs.foldl (·*·) 1->zs.foldl (·*·) 1<100000->RzG Φ Ψ f [tpI zs,w] s "TooGreat" [.c (zs.foldl (·*·) 1),.c 12]
 c:∀(zs:List Int) (w:Val) (s:Sto),zp zs->kindOf w≠none->yF 1 12 w=false->Rz Φ Ψ f [tpI zs,w] s "NoNumber"
def j4(c:jx Φ Ψ)(h:Kds v)(b:yq v=false):RzF T Φ Ψ F66.zx [v,w] s "NoSizes":=om (F:=F66.zx) rfl rfl (zA (zB rfl) zE) (c.a v s h b)
def j6(f:jx Φ Ψ)(h:Sz zs)(d:12<zs.foldl (·*·) 1)(a:zs.foldl (·*·) 1<100000):sy T Φ Ψ F66.zx [tpI zs,w] s "TooGreat" [.c (zs.foldl (·*·) 1),.c 12]:=jz (F:=F66.zx) rfl rfl (zA (zB rfl) zE) (f.b zs s h d a)
def j7(g:T.b "MOST_RING_LENGTH"=some (.c 12))(i:wb Φ)(f:UD Φ Ψ)(h:zp zs)(d:kindOf w≠none)(a:yF 1 12 w=false):RzF T Φ Ψ F66.zx [tpI zs,w] s "NoNumber":=
 j8 (F:=F66.zx) rfl rfl (zA (zB rfl) zE) (i zs s h) (zA (zB rfl) (zA zI (zA (tF g) zE))) (f w 1 12 s d a (by decide) (by decide))
def fL(Φ:Calls):Prop:=∀(zs:List Int) (n:Nat) (s:Sto),zp zs->1<=n->n<=12->Φ "all_rings" 1 [tpI zs,.c n] s=.e (.j s.length) (s++[.c (tps (yL zs n))])
def dH(i:fG Φ)(c:nr Φ){n:Nat}(h:zp zs)(g:1<=n)(k:n<=12):evE Φ T.b [some (tpI zs),some (.c n)] (.p m ["strip","sizes"] [none,some 0] (.e 0) (.a 0) (.f (.h "all_strips" 0 (.a (.e 0) (.a (.e 1) .b)))) (.b (.a (.h "fits_round" 0 (.a (.e 1) (.a (.e 0) .b)))) .a)) s=newList m (tps (yL zs n)) s:=
 oG (xs:=yg zs [[]] n) (f:=tpI) tpI (xF zs) [some (tpI zs)] (xw (x_call (zA (zB rfl) (zA (zB rfl) zE)) (i zs n s h ⋯)) rfl) rfl rfl λr d=>⟨yH (x_call (zA (zB rfl) (zA (zB rfl) zE)) (c zs r s (ik h g d).1)) za,λ_=>zB rfl⟩
def gU(g:T.b "MOST_RING_LENGTH"=some (.c 12))(k:wb Φ)(i:vi Φ)(f:fG Φ)(c:nr Φ){n:Nat}(h:zp zs)(d:1<=n)(a:n<=12):run T Φ F66.zx [tpI zs,.c n] s=.e (.g (tps (yL zs n))) s:=by rw[post_eq,F66.zx,yY];refine⟨rfl,?_⟩;show (zP Φ T.b [some (tpI zs),some (.c n)] _ s).post _;exact yj (x_call (zA (zB rfl) zE) (k zs s h)) (yj (x_call (zA (zB rfl) (zA zI (zA (tF g) zE))) (i n 1 12 s ⋯ ⋯)) (z8 (dH f c h d a) (zk (by rw[mz];exact wj _))))
def gV(g:T.b "MOST_RING_LENGTH"=some (.c 12))(k:wb Φ)(i:vi Φ)(f:fG Φ)(c:nr Φ){n:Nat}(h:zp zs)(d:1<=n)(a:n<=12):run T Φ F64.vE [tpI zs,.c n] s=.e (.j s.length) (s++[.c (tps (yL zs n))]):=by rw[post_eq,F64.vE,yY];refine⟨rfl,?_⟩;show (zP Φ T.b [some (tpI zs),some (.c n)] _ s).post _;exact yj (x_call (zA (zB rfl) zE) (k zs s h)) (yj (x_call (zA (zB rfl) (zA zI (zA (tF g) zE))) (i n 1 12 s ⋯ ⋯)) (z8 (dH f c h d a) (zF.mpr ⟨rfl,rfl⟩)))
noncomputable def eB(x:List Int)(h:Int)(z d:Nat):Bool:=decide ((z-1)*d<=x.length)&&(Ai z).all λk=>decide ((x++[h])[x.length-k*d]?=some h)
def ZC(g:2<=z)(l:0<d):eB x h z d=true↔(z-1)*d<=x.length/\∀k,1<=k->k<z->x[x.length-k*d]?=some h:=by
 unfold eB;rw[cf,decide_eq_true_eq,Ak];refine and_congr_right λi=>⟨λH k c b=>?_,λH k a=>?_⟩
 . have a:=of_decide_eq_true (H k (Am.mpr b))
   have f:1*d<=k*d:=Bs _ c;have e:k*d<=(z-1)*d:=Bs _ ⋯
   rwa [AS ⋯]at a
 . have a:=Am.mp a
   refine decide_eq_true ?_;by_cases h0:k=0
   . subst h0
     rw[Nat.zero_mul,E7,A3 (Ac _),DN];rfl
   . have f:1*d<=k*d:=Bs _ ⋯
     have e:k*d<=(z-1)*d:=Bs _ ⋯
     rw[AS ⋯]
     exact H k ⋯ a
def ZL(b:2<=z):wY x z h=true↔∃d,1<=d/\d<=x.length/\eB x h z d=true:=by
 rw[mR b];constructor
 . rintro ⟨d,a,f,c⟩
   have:1*d<=(z-1)*d:=Bs _ ⋯
   exact⟨d,a,⋯,(ZC b a).mpr ⟨f,c⟩⟩
 . rintro ⟨d,a,_,f⟩
   obtain⟨c,g⟩:=(ZC b a).mp f;exact⟨d,a,c,g⟩
def Zm(b:1<=z):wI (.g (((Ai z).map f).map .c)) (.c (-1)) s=.e (.c (f (z-1))) s:=by
 have h:(((Ai z).map f).map Val.c).length=z:=by simp
 have e:L2.atI (((Ai z).map f).map Val.c) (-1)=some (.c (f (z-1))):=by
  unfold L2.atI;rw[h];have a:L2.ixN z (-1)=some (z-1):=by unfold L2.ixN;simp;omega
  rw[a];simp[List.getElem?_range (show z-1<z by omega)]
 simp only[wI,xk];rw[e]
def jr(Φ:Calls):Prop:=∀(zs x:List Int) (h:Nat) (s:Sto),Sz zs->x.length<=30->h<zs.length->Φ "_law_ends_right" 0 [tpI zs,tpI (x++[(h:Int)])] s=.e (.e !(wY x (zW zs h) h)) s
def kM{b:Type}{f:b->Int}(l:List b):v5 (l.map λa=>.c (f a))=true:=by
 have:=nI (l.map f)
 rwa [B3]at this
abbrev eE(a x:List Int)(h z:Nat)(b o:Option Val):Env:=[some (tpI a),some (tpI (x++[(h:Int)])),some (.c (x.length:Nat)),some (.c (z:Nat)),b,o]
def bV(F:Sz zs)(U:x.length<=30)(S:h<zs.length):run T Φ F64.xU [tpI zs,tpI (x++[(h:Int)])] s=.e (.e !(wY x (zW zs h) h)) s:=by
 obtain⟨R,J,I⟩:=xH F S;generalize hzz:zW zs h=z at R J I;rw[post_eq,F64.xU,yY];refine⟨rfl,?_⟩;show (zP Φ T.b [some (tpI zs),some (tpI (x++[(h:Int)])),none,none,none,none] _ s).post _;have Q:((x++[(h:Int)]).length:Int)-1=((x.length:Nat):Int):=by rw[Ah,BY];omega
 refine yD (zm (ui rfl) zI (by rw[WE,Q])) ?_
 have m:(x++[(h:Int)])[x.length]?=some (h:Int):=by rw[A3 (Ac _),DN];rfl
 refine yD (wN (zB rfl) (wN (zB rfl) (zB rfl) (v8 m)) (v8 R)) ?_;show (zP Φ T.b (eE zs x h z none none) _ s).post _;refine zj.mpr (yp (λr e q=>q=s/\(∃K G,e=eE zs x h z K G)/\∃j,j<=x.length/\r=yI ((1+j:Nat):Int) (x.length-j)/\∀d,1<=d->d<=j->eB x h z d=false) (yI ((1:Nat):Int) x.length) (s1:=s) (eA (i:=1) (j:=x.length+1) zI (zm (zB rfl) zI qa) ⋯ ⋯) ⟨rfl,⟨_,_,rfl⟩,0,Be _,rfl,λd H Y=>⋯⟩ ?_ ?_)
 . rintro w r e q ⟨rfl,⟨K,G,rfl⟩,j,O,P,t⟩
   obtain⟨k,W,rfl,N⟩:=wa P;generalize hdd:1+j=d;refine⟨eE zs x h z (some (.c (d:Nat))) G,rfl,?_⟩;refine yD (X4 (n:=z) (f:=λi=>(x.length:Int)-(i:Int)*(d:Int)) (sQ (zB rfl) (Aq I (by decide))) rfl (λi o hi=>zm (zB rfl) (zm (zB rfl) (zB rfl) (lx ⋯)) WE) (Aq I (by decide))) ?_
   have B:((Ai z).map λ(i:Nat)=>(x.length:Int)-(i:Int)*(d:Int)).map Val.c=(Ai z).map λ(i:Nat)=>Val.c ((x.length:Int)-(i:Int)*(d:Int)):=B3;have y:wI (.g (((Ai z).map λ(i:Nat)=>(x.length:Int)-(i:Int)*(d:Int)).map .c)) (.c (-1)) q=.e (.c ((x.length:Int)-((z-1:Nat):Int)*(d:Int))) q:=Zm ⋯
   rw[B]at y;show (zP Φ T.b (eE zs x h z (some (.c (d:Nat))) (some (.g (((Ai z).map λ(i:Nat)=>(x.length:Int)-(i:Int)*(d:Int)).map .c)))) _ q).post _;rw[B];generalize hRW:((Ai z).map λ(i:Nat)=>Val.c ((x.length:Int)-(i:Int)*(d:Int)))=RW at y;have L:(((z-1)*d:Nat):Int)=((z-1:Nat):Int)*(d:Int):=CC _ _;have E:evT Φ T.b (eE zs x h z (some (.c (d:Nat))) (some (.g RW))) (.a (.l .i (.u (.e 5) (.D (.g (.c 1)))) (.g (.c 0)))) q=.e (decide ((z-1)*d<=x.length)) q:=yH (yU (wN (zB rfl) (X3 zI) y) zI (by rw[ge_int];congr 2;exact decide_eq_decide.mpr ⋯)) za
   have C:evT Φ T.b (eE zs x h z (some (.c (d:Nat))) (some (.g RW))) (.b (.a (.l .i (.u (.e 5) (.D (.g (.c 1)))) (.g (.c 0)))) (.b (.a (.l .a (.p false ["_law_place","_law_strip","_law_at"] [none,some 1,some 2] (.e 0) (.a 0) (.f (.e 5)) (.b (.a (.l .b (.u (.e 1) (.e 0)) (.u (.e 1) (.e 2)))) .a)) (.s false .b))) .a)) q=.e (eB x h z d) q:=by
    by_cases hl:(z-1)*d<=x.length
    . rw[decide_eq_true hl]at E
      unfold eB;rw[decide_eq_true hl,Bool.true_and,<-mQ (f:=λ(i:Nat)=>Val.c ((x.length:Int)-(i:Int)*(d:Int)))];refine QG E (gx (yH (yU (oG (xs:=Ai z) (f:=λ(i:Nat)=>.c ((x.length:Int)-(i:Int)*(d:Int))) _ (λk=>!decide ((x++[(h:Int)])[x.length-k*d]?=some (h:Int))) [some (tpI (x++[(h:Int)])),some (.c (x.length:Nat))] (xw (zB (v:=.g ((Ai z).map _)) (by rw[hRW];rfl)) rfl) rfl rfl λa V=>⟨?_,λ_=>zB rfl⟩) (vf zE (Be _)) (eq_nil (kM _))) za))
      have V:=Am.mp V;have e2:a*d<=(z-1)*d:=Bs _ ⋯
      rw[show (x.length:Int)-(a:Int)*(d:Int)=((x.length-a*d:Nat):Int) by
       rw[show (a:Int)*(d:Int)=((a*d:Nat):Int) from (CC _ _).symm];omega]
      have A:x.length-a*d<(x++[(h:Int)]).length:=by rw[Ah,BY];omega
      rw[xd A,decide_eq_decide.mpr (Option.some_inj (b:=(h:Int)))];exact yH (yU (wN (zB rfl) (zB rfl) (v8 (xd A))) (wN (zB rfl) (zB rfl) (v8 m)) ne_int) za
    . rw[decide_eq_false hl]at E
      unfold eB;rw[decide_eq_false hl,Di];exact QF E
   cases hb:eB x h z d with
   |true=>
    rw[hb]at C;have:wY x z h=true:=(ZL J).mpr ⟨d,⋯,⋯,hb⟩
    rw[this];exact qA C (z8 zI (zk yu))
   |false=>
    rw[hb]at C;refine wq C (yl ⟨rfl,⟨_,_,rfl⟩,j+1,⋯,by rw[N];congr 1<;>omega,λZ H Y=>?_⟩)
    by_cases e:Z=d
    . rw[e];exact hb
    . exact t Z H ⋯
 . rintro e q ⟨rfl,⟨K,G,rfl⟩,j,O,P,t⟩
   have M:=uv P.symm.symm;have:wY x z h=false:=by
    cases he:wY x z h with
    |false=>rfl
    |true=>
     obtain⟨d,H,Y,X⟩:=(ZL J).mp he;rw[t d H ⋯]at X;cases X
   rw[this];exact z8 zI (zk yu)
end
def et(z y:List Int):Bool:=!(wY y.dropLast (zW z (y.getLastD 0).toNat) (y.getLastD 0))
def nW zs x(h:Nat):et zs (x++[(h:Int)])=!(wY x (zW zs h) h):=by unfold et;rw[List.dropLast_concat,List.getLastD_concat,CD]
noncomputable def xl(m:Nat)(L:List (List Int)):List (List Int):=L.flatMap λx=>(Ai m).map λ(h:Nat)=>x++[(h:Int)]
def bu zs L:(xl zs.length L).filter (et zs)=xa zs L:=by unfold xl xa okH;rw[List.filter_flatMap];congr 1;funext x;rw[List.filter_map];congr 1;refine List.filter_congr λh _=>?_;exact nW zs x h
def Xx m L:(xl m L).length=L.length*m:=by
 unfold xl;induction L with
 |nil=>rw[Gr,CV,Nat.zero_mul]
 |cons x L i=>rw[CG,Ah,i,rt,Bl,AX,F8,F9]
def bw m A x:xl m (A++[x])=xl m A++(Ai m).map λ(h:Nat)=>x++[(h:Int)]:=by unfold xl;rw[List.flatMap_append,List.flatMap_singleton]
def sZ(n:Nat)(a:List Int):List Val:=a.map λz=>.g ((oR n z.toNat).map (rdV n z.toNat))
def We(b:Sz zs)(g:h<zs.length)(d:(h:Int) ∉ r):iJ zs r h=[]:=by
 obtain⟨l,k,z⟩:=xH b g;refine List.filter_eq_nil_iff.mpr λq c i=>d ?_;have a:q.1<r.length:=(vU.mp (show (q.1,q.2)∈_ from (BJ.mp c).1)).1;have f:q.1∈goN r.length q.1 q.2 (zW zs h):=A2.mpr ⟨0,Am.mpr ⋯,by rw[Gp,Fc,Dt a]⟩
 exact AH (of_decide_eq_true (Ak.mp i _ f))
def Wd(h:RgZ zs r):(∀k,k<zs.length->iJ zs r k=[])↔xF zs r=true:=by
 rw[<-ZT,Bt];unfold frO;rw[List.find?_eq_none];constructor
 . intro H q a d
   have:=(eL h q).mpr ⟨a,d⟩;unfold TZ at this;obtain⟨k,b,c⟩:=Ds.mp this;rw[H k (Am.mp b)]at c;cases c
 . intro H k b
   refine List.eq_nil_iff_forall_not_mem.mpr λq a=>?_;obtain⟨g,f⟩:=(eL h q).mp (Ds.mpr ⟨k,Am.mpr b,a⟩);exact H q g f
section
variable {T:Tbl}{Φ:Calls}{s:Sto}
def Oz(k:Rg r):evT Φ T.b [some (rdV r.length z (f,d)),some (.c (h:Nat)),some (tpI r)] (.a (.l .a (.p false ["_law_at","_law_hue","_law_ring"] [none,some 1,some 2] (.e 0) (.a 0) (.f (.u (.e 0) (.g (.c 2)))) (.b (.a (.l .b (.u (.e 2) (.e 0)) (.e 1))) .a)) (.s false .b))) S=.e (lr r h z (f,d)) S:=by
 unfold lr;show _=Out.e ((goN r.length f d z).all λp=>decide (r[p]?=some (h:Int))) S;rw[<-mQ (f:=λ(p:Nat)=>Val.c p)];refine yH (yU (oG (xs:=goN r.length f d z) (f:=λ(p:Nat)=>.c p) _ (λp=>!decide (r[p]?=some (h:Int))) [some (.c (h:Nat)),some (tpI r)] (xw (wN (r:=.e (.g ((goN r.length f d z).map λ(p:Nat)=>.c p)) S) (zB rfl) zI (by rw[<-ka];rfl)) rfl) rfl rfl λp m=>⟨?_,λ_=>zB rfl⟩) (vf zE (Be _)) (eq_nil (kM _))) za
 have i:=UQ k.pos m;rw[xd i,decide_eq_decide.mpr (Option.some_inj (b:=(h:Int)))];exact yH (yU (wN (zB rfl) (zB rfl) (v8 (xd i))) (zB rfl) ne_int) za
def Zk(h:evE Φ G env e s=.e (.g vs) s1):yM Φ G env (.h e) s=.e ⟨yJ 0 vs,none⟩ s1:=bnd h rfl
def Tf:zQ .h (.c (h:Nat)) (tpI r) S=.e (.e (decide ((h:Int)∈r))) S:=by
 have e:∀l:List Int,((l.map Val.c).any λz=>eqF z (.c (h:Int)))=decide ((h:Int)∈l):=λl=>by
  induction l with
  |nil=>rfl
  |cons a l i=>
   rw[AE,D1,i,BL];show ((a == (h:Int))||decide ((h:Int)∈l))=true↔_
   rw[AN,beq_iff_eq,decide_eq_true_eq,decide_eq_true_eq,Al,eq_comm (a:=a)]
 show (if flat (.c (h:Int))&&(r.map Val.c).all flat then Out.e (Val.e ((r.map Val.c).any λz=>eqF z (.c (h:Int)))) S else _)=_
 rw[if_pos (by rw[cf];exact⟨rfl,dm _⟩),e]
def fK(Φ:Calls):Prop:=∀(zs:List Int) (n:Nat) (s:Sto),zp zs->1<=n->n<=12->Φ "_law_rings" 0 [tpI zs,.c n] s=.e (.g (tps (yL zs n))) s
abbrev eR(z:List Int)(m:Nat)(L:List (List Int))(i h f:Option Val)(q:Nat)(d b a o:Option Val):Env:=[some (tpI z),some (.c m),some (.g (tps L)),i,h,f,some (.g (sZ m z)),some (.j q),d,b,a,o]
def Um:Sms:=F64.y0.a.tl.tl.tl.tl.hd.fb
def VE(X:zp zs)(D:RgZ zs r)(E:r.length=m)
 (S:∀w y j,(w=0↔xF zs r=true)->(zP Φ T.b (eR zs m L o3 o4 o5 q (some (tpI r)) (some (.c (w:Nat))) y j) Um.tl.tl S1).post P) :
 (zP Φ T.b (eR zs m L o3 o4 o5 q (some (tpI r)) o9 y j) Um S1).post P:=by
 refine yD zI ?_;show (zP Φ T.b (eR zs m L o3 o4 o5 q (some (tpI r)) (some (.c ((0:Nat):Int))) y j) _ S1).post _;refine zj.mpr (yp (λn e o=>∃k w y j,k<=zs.length/\n=yJ k ((sZ m zs).drop k)/\e=(eR zs m L o3 o4 o5 q (some (tpI r)) (some (.c (w:Nat))) y j)/\o=S1/\(w=0↔∀h,h<k->iJ zs r h=[])) (yJ 0 (sZ m zs)) (s1:=S1) (Zk (zB rfl)) ⟨0,0,_,_,Be _,by rw[En],rfl,rfl,λ_ h R=>⋯,λ_=>rfl⟩ ?_ ?_)
 . rintro x n e o ⟨k,w,y,j,Y,d,rfl,rfl,C⟩
   obtain⟨v,O,G,rfl,rfl⟩:=ql d;have i:k<zs.length:=by
    refine Nat.lt_of_not_le λt=>?_;rw[List.drop_eq_nil_of_le (by unfold sZ;rw[rt];exact t)]at G
    cases G
   obtain⟨K,M,F⟩:=xH X.a i;have B:zs[k].toNat=zW zs k:=by rw[xd i]at K;rw[AQ K,CD]
   have Q:v=.g ((oR m (zW zs k)).map (rdV m (zW zs k)))/\O=(sZ m zs).drop (k+1):=by
    rw[BX (by unfold sZ;rw[rt];exact i)]at G
    obtain⟨W,U⟩:=C4 G;refine⟨?_,U.symm⟩;rw[<-W];unfold sZ;rw[Co,B]
   obtain⟨rfl,rfl⟩:=Q;generalize hzz:zW zs k=z at K M F B;refine⟨(eR zs m L o3 o4 o5 q (some (tpI r)) (some (.c (w:Nat))) (some (.c (k:Nat))) (some (.g ((oR m z).map (rdV m z))))),rfl,?_⟩;have I:evT Φ T.b (eR zs m L o3 o4 o5 q (some (tpI r)) (some (.c (w:Nat))) (some (.c (k:Nat))) (some (.g ((oR m z).map (rdV m z))))) (.b (.a (.l .h (.e 10) (.e 8))) (.b (.a (.l .a (.e 9) (.g (.c 0)))) .a)) o=.e (decide ((k:Int)∈r)&&decide ((w:Int)=0)) o:=Xi (yH (yU (zB rfl) (zB rfl) Tf) za) (yH (yU (zB rfl) zI eq_int) za);by_cases t:(k:Int)∈r/\w=0
   . obtain⟨A,Z⟩:=t
     rw[decide_eq_true A,decide_eq_true (show (w:Int)=0 by omega)]at I
     have V:evE Φ T.b (eR zs m L o3 o4 o5 q (some (tpI r)) (some (.c (w:Nat))) (some (.c (k:Nat))) (some (.g ((oR m z).map (rdV m z))))) (.p false ["_law_row","_law_hue","_law_ring"] [none,some 10,some 8] (.g (.c 1)) (.a 0) (.f (.e 11)) (.b (.a (.l .a (.p false ["_law_at","_law_hue","_law_ring"] [none,some 1,some 2] (.e 0) (.a 0) (.f (.u (.e 0) (.g (.c 2)))) (.b (.a (.l .b (.u (.e 2) (.e 0)) (.e 1))) .a)) (.s false .b))) .a)) o=.e (.g ((iJ zs r k).map λ_=>Val.c 1)) o:=by unfold iJ;rw[hzz,E];refine oG (xs:=oR m z) (f:=rdV m z) (λ_=>.c 1) (lr r k z) [some (.c (k:Nat)),some (tpI r)] (xw (zB rfl) rfl) rfl rfl λq _=>⟨?_,λ_=>zI⟩;rw[<-E];exact Oz D.b
     refine qA I (yD (yT (zA V zE) (by rw[YF,rt])) (yl (yl ⟨k+1,(iJ zs r k).length,_,_,⋯,rfl,rfl,rfl,?_⟩)))
     rw[List.length_eq_zero_iff];constructor
     . intro J h R
       by_cases e:h=k
       . rw[e];exact J
       . exact C.mp Z h ⋯
     . exact λH=>H k ⋯
   . rw[show (decide ((k:Int)∈r)&&decide ((w:Int)=0))=false from by
      by_cases A:(k:Int)∈r
      . rw[decide_eq_false (show ¬(w:Int)=0 from λZ=>t ⟨A,⋯⟩),Bool.and_false]
      . rw[decide_eq_false A,Di]]at I
     refine wq I (yl ⟨k+1,w,_,_,⋯,rfl,rfl,rfl,?_⟩)
     constructor
     . intro J h R
       by_cases e:h=k
       . rw[e];exact We X.a i λA=>t ⟨A,J⟩
       . exact C.mp J h ⋯
     . exact λH=>C.mpr λh R=>H h ⋯
 . rintro e o ⟨k,w,y,j,Y,d,rfl,rfl,C⟩
   have i:k=zs.length:=by
    refine GH Y (Ga λt=>?_);rw[BX (by unfold sZ;rw[rt];exact t)]at d
    cases d
   subst i;have N:w=0↔xF zs r=true:=C.trans (Wd D);exact S w _ _ N
def Sr(M:jr Φ){n m:Nat}(C:zp zs){s:Sto}{P:Fl->Sto->Prop}
 (V:∀w F,P (.a [some (tpI zs),some (.c n),some (.g (tps (yg zs [[]] (m+1)))),some (.c (m:Nat)),some (.j s.length),w,none,none,none,none,none,none]) (s++F)) :
 (zP Φ T.b [some (tpI zs),some (.c n),some (.g (tps (yg zs [[]] m))),some (.c (m:Nat)),o4,w,none,none,none,none,none,none] F64.y0.a.tl.hd.fb s).post P:=by
 have t:=C.a.2.1;generalize hL:yg zs [[]] m=L;have X:L.length<=100:=by rw[<-hL];exact C.b m
 have z:∀x∈L,x.length<=30:=λx D=>by rw[<-hL]at D;have:=mn C m x D;omega
 refine yD (lY zE (Be _)) ?_;show (zP Φ T.b [some (tpI zs),some (.c n),some (.g (tps L)),some (.c (m:Nat)),some (.j s.length),w,none,none,none,none,none,none] _ (s++[.c []])).post _;refine zj.mpr (yp (λr e G=>∃A B w,A++B=L/\r=tps B/\e=[some (tpI zs),some (.c n),some (.g (tps L)),some (.c (m:Nat)),some (.j s.length),w,none,none,none,none,none,none]/\G=s++[.c (tps (xl zs.length A))]) (tps L) (s1:=s++[.c []]) (xw (zB rfl) rfl) ⟨[],L,_,rfl,rfl,rfl,rfl⟩ ?_ ?_)
 . rintro x r e G ⟨A,B,w,i,E,rfl,rfl⟩
   cases B with
   |nil=>cases E
   |cons y B=>
    obtain⟨rfl,rfl⟩:=C4 E;have N:y.length<=30:=z y (by rw[<-i];exact AU _ (.head _))
    refine⟨[some (tpI zs),some (.c n),some (.g (tps L)),some (.c (m:Nat)),some (.j s.length),some (tpI y),none,none,none,none,none,none],rfl,?_⟩;have R:∀S:Sto,evE Φ T.b [some (tpI zs),some (.c n),some (.g (tps L)),some (.c (m:Nat)),some (.j s.length),some (tpI y),none,none,none,none,none,none] (.p false ["_law_hue","_law_strip"] [none,some 5] (.j false .a (.e 1) (.k (.a (.e 0) .b))) (.a 0) (.d (.q .a false (.a (.e 0) .b))) .a) S=.e (.g (tps ((Ai zs.length).map λ(h:Nat)=>y++[(h:Int)]))) S:=λS=>by
     refine(lZ (xs:=Ai zs.length) (f:=λ(k:Nat)=>.c (0+(k:Int))) (λh=>tpI (y++[(h:Int)])) [some (tpI y)] (sQ (ui rfl) (Aq t (by decide))) rfl λa _=>?_).trans (congrArg (λl=>Out.e (Val.g l) S) (B3 (g:=tpI)).symm)
     rw[Int.zero_add];refine zm (zB rfl) (wV (zA (zB rfl) zE) (show 1<=zO by decide)) ((fR (by rw[rt,BY];exact Aq (show _<=31 by omega) (by decide))).trans ?_)
     unfold tpI;rw[CW];rfl
    have Y:A.length<L.length:=by rw[<-i,Ah,AX];omega
    have K:A.length*zs.length<=100*4:=Dj ⋯ t
    have v:yk .c (.j s.length) [.g (tps ((Ai zs.length).map λ(h:Nat)=>y++[(h:Int)]))] (s++[.c (tps (xl zs.length A))])=.e .h (s++[.c (tps (xl zs.length (A++[y])))]):=by
     have Z:(s++[Cel.c (tps (xl zs.length A))])[s.length]?=some (.c (tps (xl zs.length A))):=by simp
     simp only[yk];rw[Z];show (if (tps (xl zs.length A)).length+(tps ((Ai zs.length).map λ(h:Nat)=>y++[(h:Int)])).length<=zO then _ else _)=_
     rw[if_pos (by show (Cm tpI _).length+(Cm tpI _).length<=zO;rw[rt,rt,Xx,rt,Bl];unfold zO;omega)]
     rw[bw];simp[upd,tps]
    exact yj (bnd (zB rfl) (bnd (zA (R _) zE) v)) (yl ⟨A++[y],B,_,by rw[<-i,A0];rfl,rfl,rfl,rfl⟩)
 . rintro e G ⟨A,B,w,i,E,rfl,rfl⟩
   have J:B=[]:=Fi.mp E.symm;subst J;rw[AJ]at i;subst i;have o:(s++[Cel.c (tps (xl zs.length A))])[s.length]?=some (.c (tps (xl zs.length A))):=by simp
   obtain⟨F,u⟩:∃F,s++[Cel.c (tps (xl zs.length A))]=s++F:=⟨_,rfl⟩;generalize s++[Cel.c (tps (xl zs.length A))]=s1 at o u;have I:evE Φ T.b [some (tpI zs),some (.c n),some (.g (tps A)),some (.c (m:Nat)),some (.j s.length),w,none,none,none,none,none,none] (.p false ["_law_strip","_law_sizes"] [none,some 0] (.e 0) (.a 0) (.f (.e 4)) (.b (.a (.h "_law_ends_right" 0 (.a (.e 1) (.a (.e 0) .b)))) .a)) s1=.e (.g (tps (yg zs [[]] (m+1)))) s1:=by
    show _=newList false (tps (xa zs (yg zs [[]] m))) s1;rw[hL,<-bu];refine oG (xs:=xl zs.length A) (f:=tpI) tpI (et zs) [some (tpI zs)] (Ti rfl o) (by simp[Src.ok,o,vN,tps]) rfl λy H=>⟨?_,λ_=>zB rfl⟩
    obtain⟨x,D,H⟩:=Ds.mp H;obtain⟨h,Q,rfl⟩:=A2.mp H;rw[nW];exact yH (x_call (zA (zB rfl) (zA (zB rfl) zE)) (M zs x h s1 C.a (z x D) (Am.mp Q))) za
   exact yD I (yl (by rw[u];exact V _ _))
def Sq(M:qV Φ){m:Nat}(s:zp zs)(I:1<=m)(F:m<=12)(X:P (.b (.j S0.length)) (S0++[.c (tps (yL zs m))])) :
 (zP Φ T.b [some (tpI zs),some (.c m),some (.g (tps (yg zs [[]] m))),o3,o4,o5,none,none,none,none,none,none] F64.y0.a.tl.tl S0).post P:=by
 have N:=s.a.2.1;generalize hL:yg zs [[]] m=L;have G:∀x∈L,RgZ zs x/\x.length=m:=λx Q=>ik s I (by rw[hL];exact Q)
 have Y:L.length<=100:=by rw[<-hL];exact s.b m
 have V:evE Φ T.b [some (tpI zs),some (.c m),some (.g (tps L)),o3,o4,o5,none,none,none,none,none,none] (.p false ["_law_size","_law_length"] [none,some 1] (.h "_law_rounds" 0 (.a (.e 1) (.a (.e 0) .b))) (.a 0) (.f (.e 0)) .a) S0=.e (.g (sZ m zs)) S0:=by
  refine lZ (xs:=zs) (f:=.c) (λi=>.g ((oR m i.toNat).map (rdV m i.toNat))) [some (.c m)] (xw (zB rfl) rfl) rfl λi R=>?_;have O:=s.a.2.2 i R;have K:=M m i.toNat S0 I ⋯ ⋯
  rw[show ((i.toNat:Nat):Int)=i by omega]at K
  exact x_call (zA (zB rfl) (zA (zB rfl) zE)) K
 refine yD V (yD (lY zE (Be _)) ?_);show (zP Φ T.b (eR zs m L o3 o4 o5 (S0.length) none none none none) _ (S0++[.c []])).post _;refine zj.mpr (yp (λn e y=>∃A B C v d o,A++B=L/\n=tps B/\e=(eR zs m L o3 o4 o5 (S0.length) C v d o)/\y=S0++[.c (tps (A.filter (xF zs)))]) (tps L) (s1:=S0++[.c []]) (xw (zB rfl) rfl) ⟨[],L,_,_,_,_,rfl,rfl,rfl,rfl⟩ ?_ ?_)
 . rintro x n e y ⟨A,B,C,v,d,o,k,z,rfl,rfl⟩
   cases B with
   |nil=>cases z
   |cons r B=>
    obtain⟨rfl,rfl⟩:=C4 z;obtain⟨D,E⟩:=G r (by rw[<-k];exact AU _ (.head _))
    have Z:(A.filter (xF zs)).length<=100:=by have:=EX (xF zs) A;have e:=congrArg Ey k;rw[Ah,AX]at e;omega
    generalize hS1:S0++[Cel.c (tps (A.filter (xF zs)))]=S1;refine⟨(eR zs m L o3 o4 o5 (S0.length) (some (tpI r)) v d o),rfl,VE s D E λw d o t=>?_⟩;show (zP Φ T.b (eR zs m L o3 o4 o5 (S0.length) (some (tpI r)) (some (.c (w:Nat))) d o) (.e (.j _ _ _) _) S1).post _;have u:evT Φ T.b (eR zs m L o3 o4 o5 (S0.length) (some (tpI r)) (some (.c (w:Nat))) d o) (.a (.l .a (.e 9) (.g (.c 0)))) S1=.e (decide ((w:Int)=0)) S1:=yH (yU (zB rfl) zI eq_int) za;have J:(A++[r]).filter (xF zs)=A.filter (xF zs)++if xF zs r then [r] else []:=by rw[List.filter_append];congr 1;rw[DW,List.filter_nil]
    have q:(A++[r])++B=L:=by rw[<-k,A0];rfl
    by_cases hf:xF zs r=true
    . rw[decide_eq_true (show (w:Int)=0 by have:=t.mpr hf;omega)]at u
      rw[<-hS1]at u ⊢;refine qA u (yj (bnd (zB rfl) (bnd (zA (zB rfl) zE) (sG (by show (Cm tpI _).length<zO;rw[rt];unfold zO;omega)))) (yl (yl ⟨A++[r],B,_,_,_,_,q,rfl,rfl,?_⟩)))
      rw[J,if_pos hf];unfold tps;rw[CW];rfl
    . rw[decide_eq_false (show ¬(w:Int)=0 from λh=>hf (t.mp ⋯))]at u
      refine wq u (yl ⟨A++[r],B,_,_,_,_,q,rfl,rfl,?_⟩);rw[J,if_neg hf,AJ,hS1]
 . rintro e y ⟨A,B,C,v,d,o,k,z,rfl,rfl⟩
   have H:B=[]:=Fi.mp z.symm;subst H;rw[AJ]at k;subst k;refine z8 (zB rfl) ?_;have e:A.filter (xF zs)=yL zs m:=by unfold yL;rw[hL]
   rw[e];exact X
def gT(B:jr Φ)(A:qV Φ){n:Nat}(p:zp zs)(y:1<=n)(d:n<=12):run T Φ F64.y0 [tpI zs,.c n] s=.e (.g (tps (yL zs n))) s:=by
 have z:=p.a.2.1;rw[post_eq,F64.y0,yY];refine⟨rfl,?_⟩;show (zP Φ T.b [some (tpI zs),some (.c n),none,none,none,none,none,none,none,none,none,none] _ s).post _;refine yD (vf (zA (wV zE (Be _)) zE) (show 1<=zO by decide)) ?_
 show (zP Φ T.b [some (tpI zs),some (.c n),some (.g (tps (yg zs [[]] 0))),none,none,none,none,none,none,none,none,none] _ s).post _;refine zj.mpr (yp (λr e f=>∃m l i o t,m<=n/\r=yI m (n-m)/\e=[some (tpI zs),some (.c n),some (.g (tps (yg zs [[]] m))),l,i,o,none,none,none,none,none,none]/\f=s++t) (yI 0 n) (s1:=s) (sQ (zB rfl) (Aq d (by decide))) ⟨0,_,_,_,[],⋯,rfl,rfl,by rw[AJ]⟩ ?_ ?_)
 . rintro x r e f ⟨m,l,i,o,t,w,u,rfl,rfl⟩
   obtain⟨k,C,rfl,q⟩:=wa u;exact⟨_,rfl,Sr B p λo v=>⟨m+1,_,_,_,t++v,⋯,by rw[q];congr 1;omega,rfl,by rw[A0]⟩⟩
 . rintro e f ⟨m,l,i,o,t,w,u,rfl,rfl⟩
   have h:=uv u;have h:m=n:=by omega
   subst h;refine Sq A p y d ?_;show (z0 false s (.j (s++t).length) ((s++t)++[.c (tps (yL zs m))])).post _;rw[A0,pE (by rw[Ah];omega) (by rw[<-A0,A3 (Ac _),DN];rfl) (wj _)]
   exact zF.mpr ⟨rfl,rfl⟩
end
end M
end
section
namespace M
open PySem Hd
def ZX(h:Heap)(a:Addr):Option Obj:=(h.get? a).bind λo=>if yd o then none else some o
def Wi(e:h.get? a=some o)(n:yd o=false):ZX h a=some o:=by unfold ZX;rw[e];show (if yd o=true then none else some o)=some o;rw[n];rfl
def fv(e:ZX h a=some o):h.get? a=some o/\yd o=false:=by
 unfold ZX at e;obtain⟨d,c,b⟩:=Eo.mp e;split at b
 . cases b
 . rename_i z
   cases b;exact⟨c,by simpa using z⟩
def zg(h:Heap):KF:=(Ai h.objs.size).filterMap λa=>(ZX h a).map λo=>(a,o)
theorem qP{g:Addr->Option Obj}:∀{l:List Addr},a∈l->(l.filterMap λb=>(g b).map λo=>(b,o)).lookup a=g a
 |b::r,hm=>by
  rw[Bp];by_cases e:a=b
  . subst e
    cases hg:g a with
    |none=>
     show (r.filterMap _).lookup a=none;by_cases m:a∈r
     . rw[qP m,hg]
     . exact Gw.mpr λp j=>by
        obtain⟨c,w,e⟩:=CN.mp j;obtain⟨o,_,rfl⟩:=Bc.mp e;have z:a≠c:=λz=>m (by rw[z];exact w)
        simpa using z
    |some o=>show (CK a ((a,o)::_))=_;rw[An,beq_self_eq_true]
  . have m:a∈r:=(Al.mp hm).resolve_left e
    cases hg:g b with
    |none=>exact qP m
    |some o=>
     show (CK a ((b,o)::_))=_;rw[An,beq_false_of_ne e];exact qP m
def zX o(e:h.get? a=some o)(n:yd o=false):(zg h).lookup a=some o:=by rw[<-Wi e n];exact qP (Am.mpr (Ag e))
def sM:(zg h).In h:=λa o e=>by obtain⟨c,_,e⟩:=CN.mp (xC e);obtain⟨f,d,b⟩:=Bc.mp e;cases b;exact(fv d).1
def dq(e:(zg h).lookup a=some o):yd o=false:=by obtain⟨c,_,e⟩:=CN.mp (xC e);obtain⟨f,d,b⟩:=Bc.mp e;cases b;exact(fv d).2
def rR(e:nsH h x=some v):BG (zg h) AO x=some v:=by
 unfold nsH at e;split at e
 . rename_i o ho
   have a:yd o=false:=by
    unfold BG at e;rw[An,beq_self_eq_true]at e;dsimp only at e;split at e
    . rename_i hd;cases hd;unfold yd;simp
    . cases e
   unfold BG at e ⊢;rw[zX o ho a];rw[An,beq_self_eq_true]at e;exact e
 . cases e
def l9(e:fX h cd x=true):B6 (zg h) cd x=true:=by
 unfold fX at e;split at e
 . split at e
   . rename_i c o ho
     rw[cf,AI]at e;obtain⟨a,e⟩:=e;unfold B6 at e ⊢;dsimp only at e ⊢;rw[An,beq_self_eq_true]at e;rw[zX o ho a];exact e
   . cases e
 . cases e
def args_eq st:args st=L2.xK st/\body st=L2.yG st/\scope st=L2.zD st:=by cases st<;>exact⟨rfl,rfl,rfl⟩
def TM(e:VI h p.1=V6 p):tx (zg h) p.1 p.2:=by
 obtain⟨i,d,c⟩:=args_eq p.2;unfold V6 at e;rw[i,d,c]at e;unfold VI at e;split at e
 . rename_i f hf
   split at e
   . rename_i oc od fd osl ho
     split at e
     . rename_i hc
       have a:=AQ e;obtain⟨n,q,k,b,s,g,u,o,m,r,l,z,v,t,x⟩:=fd;injection a with e1 e2 e3 e4 e5 e6 e7 e8 _ _ _ _ _ _ e9
       subst e1 e2 e3 e4 e5 e6 e7 e8 e9;exact TL (rR hf) (zX _ ho (by unfold yd;simp)) (l9 hc) (by unfold BS;dsimp only;rw[zX _ ho (by unfold yd;simp)])
     . cases e
   . cases e
 . cases e
noncomputable def gv:G->Val
 |.a i=>.c i
 |.c x=>.m x
 |.b ns=>.o ns
def Qx(e:glB h x v=true):dM (zg h) x (gv v):=by
 cases v with
 |a i=>
  unfold glB at e;dsimp only at e;split at e
  . rename_i hn;have:=of_decide_eq_true e;subst this;exact int_mk (rR hn)
  . cases e
 |c y=>
  unfold glB at e;dsimp only at e;split at e
  . rename_i hn;have:=of_decide_eq_true e;subst this;exact str_mk (rR hn)
  . cases e
 |b ns=>
  unfold glB at e;dsimp only at e;split at e
  . rename_i hn
    split at e
    . rename_i n od us k sl ho
      obtain⟨d,f⟩:=Fd.mp e;obtain⟨d,g⟩:=Fd.mp d;have:=of_decide_eq_true d;subst this;exact WN (us:=us.toList) (rR hn) (zX _ ho rfl) (of_decide_eq_true g) (of_decide_eq_true f)
    . cases e
  . cases e
def UG(e:blB h x=true):BG (zg h) AO x=some none:=by
 unfold blB at e;split at e
 . rename_i hn;exact rR hn
 . cases e
theorem fh:∀{D:List (Str × Stmt)},(D.map λp=>VI h p.1)=D.map V6->∀p∈D,tx (zg h) p.1 p.2
 |p::D,e,q,j=>by
  rw[AE,AE]at e;obtain⟨y,w⟩:=C4 e;rcases Al.mp j with rfl|j
  . exact TM y
  . exact fh w q j
end M
end
section
namespace M
open PySem Hd PySem.W
noncomputable def scB(N p:List Str)(s:Scope):Bool:=decide (s.kind=.function)&&!s.isCoroutine&&!s.isGenerator&&decide N.Nodup&&decide (N.take p.length=p)&&p.all (λx=>decide (s.names.lookup x=some .local)||decide (s.names.lookup x=some .cell))&&s.names.all (λy=>decide (y.2≠.free))
def lL(h:scB N ps sc=true):L2.x9 N ps sc:=by unfold scB at h;simp only[cf,decide_eq_true_eq,AI,Ak,AN]at h;obtain⟨⟨⟨⟨⟨⟨i,g⟩,f⟩,d⟩,c⟩,b⟩,a⟩:=h;exact⟨i,g,f,d,c,b,a⟩
noncomputable def lkB(s:Scope)(l:List (Str × DS)):Bool:=l.all λp=>decide (s.names.lookup p.1=some p.2)
structure jv(st:Stmt)(cs ws:List Str)(pre:Option Str):Prop where
 b:argNames (L2.xK st)=some [("_law_e":Str)]
 c:scB L2.kN ["_law_e"] (L2.zD st)=true
 sh:L2.aD (L2.zD st) cs ws pre (L2.yG st)
 a:lkB (L2.zD st) [("_law_e",.local),("_law_marks",.local),("_law_words",.local),("isinstance",.globalImplicit),("ValueError",.globalImplicit)]=true
structure n6(m:Bool)(kx:Str)(st:Stmt):Prop where
 b:argNames (L2.xK st)=some [("_law_call":Str)]
 c:scB (L2.xh m) ["_law_call"] (L2.zD st)=true
 sh:L2.aI m kx (L2.yG st)
 a:lkB (L2.zD st) ((("_law_call":Str),NameKind.local)::(("_law_e":Str),NameKind.local)::(("HueError":Str),Er)::(kx,Er)::if m then [] else [(("_law_word":Str),NameKind.local)])=true
noncomputable def wsB(c a:List Str)(p:Option Str):Bool:=decide c.Nodup&&decide (c.length<=100)&&decide (a.length<=100)&&a.all (λw=>decide (w.length<=100))&&(match p with|none=>true|some x=>decide (x.length<=100))
def xcB(r c w:List Str)(a:Option Str)(b:List (Str × Str)):Bool:=b.all λp=>decide (p.1∈r)&&(Ai c.length).any λi=>decide (c[i]?=some p.1)&&(match w[i]? with|some x=>decide (p.2=L2.ans a x)|none=>false)&&(decide (p.2≠"great")||decide (p.1="TooGreat"))
def bG(q:Program)(c:Str):Bool:=(PyProof.Rows.ownsOf q).any λo=>decide (o.name=c)&&(o.bm == Hd.veM)&&(o.newId == "ValueError.__new__")
section
variable {h0 h:Heap}{mg:Str->Option Value}
def n9(e:adH h0 x=some a):nsIn (zg h0) AO x=some (some (.ref a)):=by
 unfold adH at e;split at e
 . rename_i hn;cases e;exact rR hn
 . cases e
def ah(h:p∈TF h0 x):h0.get? p.1=some p.2/\yd p.2=false:=by
 unfold TF at h;split at h
 . split at h
   . rename_i a o ho
     split at h
     . rename_i cd hcd
       rcases Al.mp h with z|z
       . subst z
         refine⟨ho,?_⟩;unfold yd;rw[hcd];simp
       . split at z
         . rename_i n hn
           split at z
           . cases z
           . rename_i hz
             rw[Ap]at z;subst z;exact⟨hn,by simpa using hz⟩
         . cases z
     . cases h
   . cases h
 . cases h
theorem mh:∀{xs},p∈kcH h0 xs->h0.get? p.1=some p.2/\yd p.2=false
 |[],hm=>by cases hm
 |x::xs,hm=>by
  rcases Ba.mp hm with z|z
  . exact ah z
  . exact mh z
def eJ:L2.uP (kcH h0 xs) (zg h0):=λa o e=>by obtain⟨c,b⟩:=mh (xC e);exact zX o c b
def VB:L2.uP (kcG h0 xs) (zg h0):=λa o e=>by
 rcases Ba.mp (xC e) with z|z
 . split at z
   . rename_i o' ho
     split at z
     . cases z
     . rename_i ht
       rw[Ap]at z;cases z;exact zX _ ho (by simpa using ht)
   . cases z
 . obtain⟨c,b⟩:=mh z
   exact zX o c b
def dJ(h:dI K C=true):L2.vv K C:=by unfold dI at h;simp only[cf,beq_iff_eq]at h;obtain⟨⟨⟨⟨⟨g,f⟩,d⟩,c⟩,b⟩,a⟩:=h;exact⟨g,f,d,c,b,a⟩
def l7(T:Du q loose mean mg mb h)(K:(zg h0).In h)(A:(zg h0).In base)(d:bG q c=true)(I:mg c=some (.ref C))(b:YN h0 C bm=true):L2.ClsAt base C bm:=by
 unfold bG at d;rw[Bv]at d;obtain⟨o,f,d⟩:=d;simp only[cf,decide_eq_true_eq,beq_iff_eq]at d;obtain⟨⟨z,M⟩,x⟩:=d;obtain⟨S,O,_⟩:=T.own o f;have k:=O.bound;rw[z,I]at k;cases k;obtain⟨Z,N,j,v,Y,i,u,s,F,m,X,G,E,D,B,y,w,r,J,H,_⟩:=O.obj;rw[x]at r;unfold YN at b;split at b
 . rename_i ob hob
   split at b
   . rename_i cd hcd
     rw[cf,beq_iff_eq]at b;obtain⟨l,a⟩:=b;have p:=zX ob hob (by unfold yd;rw[hcd];simp)
     have e:=K _ _ p;rw[r]at e;cases e;cases hcd;obtain⟨_,rfl⟩:=C4 l;split at a
     . rename_i n hn
       have g:=zX n hn (by simpa using a)
       obtain⟨L,R,V,t,Q,P⟩:=J;rw[K _ _ g]at t;cases t;exact⟨j,v,N,Y,i,u,s,F,m,X,G,E,D,B,y,w,A _ _ p,⟨n,R,V,A _ _ g,Q,P⟩,H _ (.head _)⟩
     . cases a
   . cases b
 . cases b
structure aC(st:Stmt):Prop where
 b:argNames (L2.xK st)=some L2.inN
 c:scB L2.inN L2.inN (L2.zD st)=true
 sh:L2.aB (L2.yG st)
 a:lkB (L2.zD st) [("self",.local),("many",.local),("most",.local),("HueError",.globalImplicit)]=true
structure nz(st:Stmt):Prop where
 a:argNames (L2.xK st)=some [("_law_call":Str)]
 c:scB L2.xZ ["_law_call"] (L2.zD st)=true
 sh:L2.fO (L2.yG st)
 b:lkB (L2.zD st) [("_law_call",.local),("_law_e",.local),("TooGreat",.globalImplicit)]=true
def lkk(a:lkB sc l=true)(h:(x,k)∈l):sc.names.lookup x=some k:=of_decide_eq_true (Ak.mp a _ h)
def iM(T:Du q loose mean mg mb h)(K:(zg h0).In h)(k:tx (zg h0) "_law_great" st)(S:nz st):∃f,L2.sA (zg h0) mg f:=by obtain⟨f,l,o,d⟩:=k;exact⟨f,⟨st,l,mg_of K T.g o,d,lL S.c,d.binds λr m p t n s u i=>vO S.a (by decide) u i,S.sh,lkk S.b (by simp),lkk S.b (by simp),lkk S.b (by simp)⟩⟩
def WK(K:(zg h0).In base)(b:ag h0 C hue=true)(h:fw h0 C=some f)(j:h0.get? f=some o)(A:o.cls=.type "function")(z:yd o=false):L2.tL base C (.ref hue::L2.veM) f:=by
 unfold ag at b;split at b
 . rename_i n dd cd sl hC
   simp only[cf,decide_eq_true_eq,beq_iff_eq,AI]at b;obtain⟨⟨⟨⟨⟨B,l⟩,k⟩,i⟩,a⟩,g⟩:=b;subst B;unfold fw at h;rw[hC]at h;dsimp only at h;split at h
   . rename_i f' hf
     cases h;unfold slB at a;split at a
     . rename_i k0 k1 k2 k3 m k5 hsl
       have a:=of_decide_eq_true a;subst a;have e:sl=#[k0,k1,k2,k3,some (.builtin "ValueError.__new__"),k5]:=Array.toList_inj.mp hsl;subst e;obtain⟨t,I,x,N,q,y,p,s,J,c,w⟩:=cd;dsimp only at l k i g hf;subst l k i;obtain⟨r,D,E,v,d,u⟩:=Heap.Ns.of_isNs g;have H:=K _ _ (zX _ hC (by unfold yd;simp))
       have G:=K _ _ (zX _ v (by unfold yd;rw[d];simp))
       exact⟨t,q,N,I,p,s,J,c,dd,k0,k1,k2,k3,k5,h0.nsMap N,o,H,⟨r,D,E,G,d,u⟩,hf,K _ _ (zX _ j z),A⟩
     . cases a
   . cases h
 . cases b
def Wk(e:Zd h0 C=(Xq st).2):∃f j o,fw h0 C=some f/\h0.get? f=some o/\o.cls=.type "function"/\yd o=false/\L2.Fun (zg h0) "__init__" "TooGreat.__init__" st f j:=by
 obtain⟨h,d,c⟩:=args_eq st;unfold Xq at e;dsimp only at e;rw[h,d,c]at e;unfold Zd at e;split at e
 . rename_i f hf
   split at e
   . rename_i n od j osl ho
     split at e
     . rename_i hc
       rw[cf,decide_eq_true_eq]at hc;have a:=AQ e;obtain⟨k,q,p,b,s,g,u,m,l,r,i,z,v,t,x⟩:=j;injection a with e1 e2 e3 e4 e5 e6 e7 e8 _ _ _ _ _ _ e9
       subst e1 e2 e3 e4 e5 e6 e7 e8 e9;exact⟨f,_,_,hf,ho,congrArg DP hc.1,by unfold yd;simp,L2.ZW (zX _ ho (by unfold yd;simp)) (l9 hc.2) (by unfold BS;dsimp only;rw[zX _ ho (by unfold yd;simp)])⟩
     . cases e
   . cases e
 . cases e
def Td(h:Tc K C D=true):L2.GrK K C D:=by
 unfold Tc at h;simp only[cf,beq_iff_eq]at h;obtain⟨⟨⟨⟨⟨g,f⟩,d⟩,c⟩,b⟩,a⟩:=h;refine⟨g,f,d,c,b,?_⟩;split at a
 . rename_i m hm
   rw[hm,of_decide_eq_true a]
 . cases a
def ZZ(T:Du q loose mean mg mb h)(K:(zg h0).In h)(d:VJ X h0=Xq st)(S:aC st):∀e,(zg h0).In e->t9 (zg h0) mg e:=λe A=>by
 unfold VJ at d;split at d
 . rename_i C hC
   split at d
   . rename_i D hD
     obtain⟨i,l⟩:=GO d;simp only[cf,beq_iff_eq]at i;obtain⟨⟨⟨z,x⟩,v⟩,t⟩:=i;obtain⟨f,j,o,r,p,n,m,k⟩:=Wk (st:=st) l;exact⟨C,D,f,j,_,mg_of K T.g (n9 hC),WK A z r p n m,⟨⟨_,_,st,k,lL S.c,k.binds λE w B H y G u s=>vO S.b (by decide) u s,S.sh,lkk S.a (by simp),lkk S.a (by simp),lkk S.a (by simp),lkk S.a (by simp)⟩,mg_of K T.g (n9 hD)⟩,Td x,VB,dJ t,v⟩
   . cases d
 . cases d
def Oe(s:Bool->Stmt)(A:Du q loose mean mg mb h)(K:(zg h0).In h)(u:m8 X h0=true)
 (hD:tx (zg h0) kx kst) (hS:∀b,T.f b=true->tx (zg h0) (L2.yv b) (s b)/\n6 b kx (s b)) (l:jv kst X.a ws pre) (hb:∀x∈wc,nsIn (zg h0) AO x=some none) (L:(kx == ("__debug__":Str))=false)
 (v:wsB X.a ws pre=true) (V:xcB X.c X.a ws pre T.d=true) (iQ:((("HueError":Str))::X.c).all (λc=>decide (c="TooGreat")||bG q c)=true) (O:mW T=true->∃f,L2.sA (zg h0) mg f) (M:(T.d.lookup ("TooGreat":Str)).isSome=true->∀j,(zg h0).In j->t9 (zg h0) mg j):Sc T (zg h0) mg:=by
 unfold m8 at u;split at u
 . cases u
 . rename_i hue hhue
   simp only[cf,Ak,decide_eq_true_eq]at u;obtain⟨⟨⟨⟨⟨x1,x2⟩,x3⟩,x4⟩,n⟩,x6⟩:=u;have m:=mg_of K A.g (n9 hhue);have k:∀c a,adH h0 c=some a->mg c=some (.ref a):=λc a e=>mg_of K A.g (n9 e);simp only[wsB,cf,decide_eq_true_eq,Ak]at v;obtain⟨⟨⟨⟨w1,w2⟩,w3⟩,w4⟩,w5⟩:=v;have KFn:L2.n5 (zg h0) mg kx X.a ws pre:=by
    obtain⟨f,fd,a1,B⟩:=hD;refine⟨⟨kst,f,fd,mg_of K A.g a1,B,lL l.c,B.binds λkV doc pm an cdv ct Q F=>vO l.b (by decide) Q F,l.sh,lkk l.a (by simp),lkk l.a (by simp),lkk l.a (by simp),lkk l.a (by simp),lkk l.a (by simp)⟩,λc y=>?_,mg_none_of K A.g (hb _ (by decide)),mg_none_of K A.g (UG x2),w1,w2,w3,λw G=>w4 w G,λx Y=>?_⟩
    . obtain⟨a,e⟩:=Cy.mp (x1 c y)
      exact⟨a,k c a e⟩
    . subst Y;exact of_decide_eq_true w5
   have r:∀c∈X.c,∃C,mg c=some (.ref C)/\(∃Kc,L2.uP Kc (zg h0)/\exmOne Kc (.ref C) (.ref hue)=some true)/\L2.Named (zg h0) mg X.a C c/\YN h0 C (.ref hue::Hd.veM)=true:=λc y=>by
    have z:=x3 c y;split at z
    . cases z
    . rename_i C hC
      simp only[cf,Ak,beq_iff_eq]at z;obtain⟨⟨⟨⟨P,N⟩,p⟩,J⟩,I⟩:=z;refine⟨C,k c C hC,⟨_,eJ,N⟩,⟨_,eJ,dJ P,λd hd=>?_,J⟩,I⟩;obtain⟨a,e⟩:=Cy.mp (x1 d hd);have:=p d hd;rw[e]at this;rw[L2.aN (k d a e)];exact this
   have t:∀c w,T.d.lookup c=some w->c∈X.c/\∃(i:Nat) (x:Str),X.a[i]?=some c/\ws[i]?=some x/\w=L2.ans pre x/\(w="great"->c="TooGreat"):=λc w e=>by
    have z:=Ak.mp V _ (xC e);simp only[cf,AN,decide_eq_true_eq,Bv]at z;obtain⟨P,i,_,⟨N,p⟩,J⟩:=z;split at p
    . rename_i x Y
      exact⟨P,i,x,N,Y,of_decide_eq_true p,λhg=>J.resolve_left λI=>I hg⟩
    . cases p
   have G:∀c∈(("HueError":Str))::X.c,c≠"TooGreat"->bG q c=true:=λc y hn=>by
    have:=Ak.mp iQ c y
    rwa [decide_eq_false hn,Bool.false_or]at this
   refine⟨⟨kx,X.a,ws,pre,hue,m,KFn,λb U=>?_,λc w e=>?_,λc w e Z j H=>?_⟩,O,M,λj H=>?_⟩
   . obtain⟨⟨f,fd,a1,B⟩,S⟩:=hS b U
     refine⟨f,⟨⟨s b,fd,mg_of K A.g a1,B,lL S.c,B.binds λkV doc pm an cdv ct Q F=>vO S.b (by decide) Q F,S.sh,lkk S.a (by simp),lkk S.a (by simp),λW=>lkk S.a (by subst W;simp),lkk S.a (by simp),lkk S.a (by simp)⟩,L⟩⟩
   . obtain⟨D,i,x,y2,y3,y4,y5⟩:=t c w e
     obtain⟨C,E,r2,r3,_⟩:=r c D;exact⟨C,i,x,E,r2,r3,y2,y3,y4,y5⟩
   . obtain⟨D,_⟩:=t c w e
     obtain⟨C,E,_,_,r4⟩:=r c D;exact⟨C,E,l7 A K H (G c (Af _ D) Z) E r4,l7 A K H (G _ (Ar ..) (by decide)) m x4⟩
   . obtain⟨bm,R,b1,b2,b3,b4,b5,b6⟩:=A.bmain
     unfold bmB at n;split at n
     . rename_i b hbb
       have:=k _ _ hbb;rw[b1]at this;cases this;split at n
       . rename_i o hob
         have hk:=zX o hob (by simpa using n)
         have e1:=K _ _ hk;rw[b3]at e1;cases e1;exact⟨bm,R,b1,b2,H _ _ hk,b4,b5,b6⟩
       . cases n
     . cases n
def tab_of{D:List (Str × Stmt)}(TT:Du q loose mean mg mb h)(K:(zg h0).In h)(w:m8 X h0=true)(y:T.e=X.b)
 (hd:∀p∈D,tx (zg h0) p.1 p.2) (iR:X.b.all (λg=>(Fj q).any (λd=>decide (d.name=g))&&(D.lookup g).isSome)=true):∃j,Qb T (zg h0) mg h j:=by
 have nd:(X.b.map (gq h0)).Nodup:=by
  unfold m8 at w;split at w
  . cases w
  . simp only[cf,decide_eq_true_eq]at w
    exact w.2
 have v:∀g∈X.b,∃P,gq h0 g=some P/\h.get? P=some (tabObj #[])/\(zg h0).lookup P=none/\GN h P/\∃(s c:Addr) (o:Obj) (Z:BB),mg g=some (.ref s)/\(zg h0).lookup s=some o/\o.data=.func Z/\Z.code=.ref c/\∀Y:Heap,(zg h0).In Y->CodeHd Y c P:=λg V=>by
  have z:=Ak.mp iR g V;rw[cf,Bv]at z;refine byG λu f=>?_;obtain⟨⟨d,d1,F⟩,z2⟩:=z;refine f ?_;have F:=of_decide_eq_true F;obtain⟨st,N⟩:=Cy.mp z2;refine byG λu f=>?_;obtain⟨s,Z,a1,a2⟩:=hd _ (xC N);refine f ?_;refine byG λu f=>?_;obtain⟨oc,od,kV,doc,pm,an,L,ct,osl,rfl,I,l⟩:=a2.a;refine f ?_;have A:=mg_of K TT.g a1;refine byG λu f=>?_;obtain⟨a',o',fd',c,P,W,U,t3,t4,t5,H⟩:=TT.tab d d1;refine f ?_;rw[F,A]at W;cases W;rw[K _ _ I]at U;cases U;cases t3;have C:L=.ref c:=t4;subst C;have k:∃x,(zg h0).lookup c=some x:=by
   unfold codeIn at l;dsimp only at l;split at l
   . rename_i hh;exact⟨_,hh⟩
   . cases l
  obtain⟨x,k⟩:=k;refine byG λu f=>?_;obtain⟨⟨oT,vsT,S,u2,u3,u4⟩,O⟩:=id H;refine f ?_;rw[K _ _ k]at S;cases S;refine⟨P,?_,O,?_,H.isCodeTable,s,c,_,_,A,I,rfl,rfl,λY K'=>?_⟩
  . have g1:adH h0 g=some s:=by
     unfold adH;have m:nsIn (zg h0) AO g=some (some (.ref s)):=a1;unfold nsH;unfold nsIn at m;split at m
     . rename_i c1 d1 es n1 s1 hmn
       have:=sM _ _ hmn;rw[this];dsimp only;unfold nsIn;rw[An,beq_self_eq_true];dsimp only;rw[m]
     . cases m
    unfold gq;rw[g1];dsimp only;rw[sM _ _ I];dsimp only;rw[sM _ _ k];dsimp only;rw[u3];dsimp only;rw[u4]
  . cases e:(zg h0).lookup P with
    |none=>rfl
    |some o=>
     have n1:=dq e;have e2:=K _ _ e;rw[O]at e2;cases e2;cases n1
  . refine byG λu f=>?_
    obtain⟨o2,G,E,tf,n,tg,J,t,tt,M,v2,v3⟩:=CodeHd.of t5 H;refine f ?_;rw[K _ _ k]at M;cases M;exact⟨_,G,E,tf,n,tg,J,t,tt,K' _ _ k,v2,v3⟩
 have B:X.b.map (gq h0)=(X.b.map λg=>(gq h0 g).getD 0).map some:=by rw[B3];refine Fh λg V=>?_;obtain⟨P,e,_⟩:=v g V;simp[e]
 refine⟨X.b.map λg=>(gq h0 g).getD 0,?_,by rw[y,rt],λi g R=>?_⟩
 . rw[B]at nd
   exact(FV.mp nd).imp λQ z=>Q (by rw[z])
 . rw[y]at R
   obtain⟨P,e,r⟩:=v g (AH R);refine⟨P,?_,r⟩;rw[AZ,R];simp[e]
end
def aJ{b:Type}(D:List (Str × Stmt))(g:List (Str × Val))(X:XT)(o:Heap->b)(v:b)(K:KF)(h:Heap):Prop:=K.In h/\(∀p∈D,tx K p.1 p.2)/\(∀p∈g,dM K p.1 p.2)/\(∀x∈wc,nsIn K AO x=some none)/\∃a,K=zg a/\m8 X a=true/\o a=v
def XS(e:(YV D gl s,(m8 X s.heap,og s.heap))=(Xr D,(true,vg))):∃K,aJ D (gl.map λp=>(p.1,gv p.2)) X og vg K s.heap:=by obtain⟨l,a⟩:=GO e;obtain⟨a,g⟩:=GO a;obtain⟨k,b⟩:=GO l;obtain⟨b,i⟩:=Fd.mp b;exact⟨zg s.heap,sM,fh k,λp d=>(by obtain⟨c,f,rfl⟩:=A2.mp d;exact Qx (Ak.mp b c f)),λx h=>UG (Ak.mp i x h),s.heap,rfl,a,g⟩
def TC{v:Heap->γ}{vg}{l:PySem.W.OpenLaw}(i:Bool->Stmt)
 (R1:l.wellSaid=true) (o:PySem.W.LeftO l.row.prog q [] (λs=>Fx l.row.records s) (λz=>(YV D gl z,(m8 X z.heap,v z.heap))) (λ_=>(Xr D,(true,vg))) N) (V:glL=gl.map λp=>(p.1,gv p.2))
 (Za:PySem.W.defOf q l.row.name=some (d,[])) (hp:l.row.prog.theDef l.row.name=some (d.params,d.body,d.scope)) (hk:PySem.W.kwWritten? d.params.kwonlyargs d.params.kw_defaults=some [])
 (I:(!l.row.writes||l.row.records.isEmpty)=true) (ok:(PySem.W.chainsOk q&&PySem.W.opensWell l.row.prog&&(PySem.W.frees l.row.toRowW&&l.row.within.isEmpty))=true) (hb:l.row.prog.bare) (hw:l.row.toRowW.promised)
 (hn:l.most=some 63) (hdf:d.params.defaults=[]) (hr:L2.xM n callerA) (hF:(jg fnL glL tb xc md).c d.name 0=some F) (hx:F.b=[x]) (hc:nY fnL D=true)
 (J:tb=X.b) (t:fnL.all (λp=>!decide (("!":Str)∈p.2.N)||decide (p.1.1∈tb))=true) (P:D.lookup kx=some kst) (hK:jv kst X.a ws pre) (hS:∀b,md b=true->D.lookup (L2.yv b)=some (i b)/\n6 b kx (i b)) (Q:(kx == ("__debug__":Str))=false)
 (H:wsB X.a ws pre=true) (E:xcB X.c X.a ws pre xc=true) (iQ:((("HueError":Str))::X.c).all (λc=>decide (c="TooGreat")||bG q c)=true)
 (Z:mW (jg fnL glL tb xc md)=true->∃st,D.lookup ("_law_great":Str)=some st/\nz st) (R:(xc.lookup ("TooGreat":Str)).isSome=true->∀j U O mb h M,Du q j U O mb h->(zg M).In h->v M=vg->∀L,(zg M).In L->t9 (zg M) O L) (iR:X.b.all (λg=>(Fj q).any (λd=>decide (d.name=g))&&(D.lookup g).isSome)=true)
 (HL:∀ns:List Int,ns.length<=63->∃s',zC (jg fnL glL tb xc md) n d.name 0 [.r ns] (tb.map .d)=.e (.e true) s'):l.Holds:=by
 refine PySem.W.holds_law R1 λm=>PySem.W.holds_open (q:=q) (loose:=[]) (Xt:=λs=>Fx l.row.records s) (XP:=λ_ _=>True) (YP:=λ_ h=>∃K,aJ D glL X v vg K h) o (λw s e=>V▸XS e)
  (λw h h' ⟨K,a,b⟩ k=>⟨K,a.keeps k,b⟩) (λ_ _=>trivial) (λ_ _ _ _ _=>trivial) Za hp hk (λs e=>PySem.W.recFacts_of e) I m ok hb hw ?_
 rintro w f s₁ O mb G ⟨K,Y⟩;obtain⟨Y1,A,Y3,Y4,M,rfl,ob,C⟩:=id Y;refine walk (l:=l) (q:=q) (loose:=[]) (XP:=λ_ _=>True) (YP:=λ_ h=>aJ D glL X v vg (zg M) h) (d:=d) (K:=zg M) (T:=jg fnL glL tb xc md) hn hdf hr (λ_ _ y=>y.1) hF hx (λw f O mb h G B=>⟨?_,?_⟩) HL w f s₁ O mb G Y
 . exact QL B G.T.g A Y3 Y4 hc (λ_=>t) λ_=>Oe i G.T B ob (A _ (xC P)) (λb u=>⟨A _ (xC (hS b u).1),(hS b u).2⟩) hK Y4 Q H E iQ (λhg=>by obtain⟨st,e,S⟩:=Z hg;exact iM G.T B (A _ (xC e)) S) λhg=>R hg _ _ _ _ _ _ G.T B C
 . exact tab_of G.T B ob J A iR
end M
end
section
namespace P64
open PySem M
noncomputable def qX:Fn:=⟨["_law_script","_law_k","_law_pen_here","_law_sizes","_law_lengths","_law_bad","_law_great_here","_law_none","_law_length","_law_due","_law_turn","_law_found","_law_product","_law_size","_law_call","_law_said","!"],["_law_script"],false,(.e (.h (.a 1) (.d (.q .l false (.a (.g (.c 1)) (.a (.q .m false (.a (.q .a false (.a (.e 0) .b)) (.a (.g (.c 2)) .b))) .b)))) (.e (.d 2 (.h "_law_pen" 1 (.a (.h "_law_cell_at" 0 (.a (.e 0) (.a (.e 1) .b))) .b))) (.e (.d 3 (.h "_law_small" 0 (.a (.e 2) .b))) (.e (.d 4 (.s false (.a (.j false .a (.g (.c 1)) (.h "_law_draw" 0 (.a (.e 2) (.a (.g (.c 12)) .b)))) (.a (.j false .a (.g (.c 2)) (.h "_law_draw" 0 (.a (.e 2) (.a (.g (.c 7)) .b)))) .b)))) (.e (.d 5 (.u (.s false (.a (.k .b) (.a (.s false (.a (.g (.c 3)) .b)) (.a (.k (.a (.g (.c 1)) .b)) (.a (.k (.a (.g (.c 9)) .b)) (.a (.j false .b (.k (.a (.g (.c 2)) .b)) (.g (.c 5))) (.a (.g .h) (.a (.g (.m "3")) (.a (.k (.a (.g (.e true)) .b)) (.a .E (.a (.k (.a (.g (.c 3)) (.a (.g (.c 1)) .b))) .b))))))))))) (.h "_law_draw" 0 (.a (.e 2) (.a (.g (.c 10)) .b))))) (.e (.d 6 (.u (.s false (.a (.k (.a (.g (.c 4)) (.a (.g (.c 4)) .b))) (.a (.k (.a (.g (.c 3)) (.a (.g (.c 5)) .b))) (.a (.k (.a (.g (.c 2)) (.a (.g (.c 7)) .b))) (.a (.k (.a (.g (.c 2)) (.a (.g (.c 2)) (.a (.g (.c 4)) .b)))) (.a (.k (.a (.g (.c 8)) (.a (.g (.c 8)) (.a (.g (.c 8)) (.a (.g (.c 8)) .b))))) (.a (.k (.a (.g (.c 2)) (.a (.g (.c 2)) (.a (.g (.c 2)) (.a (.g (.c 2)) .b))))) (.a (.k (.a (.g (.c 3)) (.a (.g (.c 3)) (.a (.g (.c 2)) .b)))) .b)))))))) (.h "_law_draw" 0 (.a (.e 2) (.a (.g (.c 7)) .b))))) (.e (.d 7 (.u (.s false (.a (.g (.c 0)) (.a (.g (.c 13)) (.a (.D (.g (.c 1))) (.a (.g .h) (.a (.g (.e true)) (.a (.g (.m "1")) (.a (.j false .g (.g (.c 10)) (.g (.c 29))) (.a (.k (.a (.g (.c 1)) .b)) .b))))))))) (.h "_law_draw" 0 (.a (.e 2) (.a (.g (.c 8)) .b))))) (.e (.h (.a 8) (.f (.e 4)) (.e (.d 9 (.h "_law_rings" 0 (.a (.e 3) (.a (.e 8) .b)))) (.e (.h (.a 10) (.d (.g (.c 2))) (.e (.d 11 (.h "all_rings" 1 (.a (.e 3) (.a (.e 8) .b)))) (.e (.j (.f (.a (.l .b (.q .b false (.a (.e 11) .b)) (.q .b false (.a (.e 9) .b)))) (.b (.a (.l .b (.h "rings_many" 0 (.a (.e 3) (.a (.e 8) .b))) (.q .a false (.a (.e 9) .b)))) .a)) (.e (.f (.g (.e false))) .f) .f) (.e (.g (.L .a false (.e 11) (.a (.k .b) .b))) .f)))) (.e (.j (.a (.l .b (.q .b false (.a (.h "first_ring" 0 (.a (.e 3) (.a (.e 8) .b))) .b)) (.q .b false (.a (.u (.j false .a (.e 9) (.s false (.a (.g .h) .b))) (.g (.c 0))) .b)))) (.e (.f (.g (.e false))) .f) .f) .f)))) (.e (.d 12 (.g (.c 1))) (.e (.h (.a 13) (.f (.e 6)) (.e (.d 12 (.j false .b (.e 12) (.e 13))) .f)) (.e (.h (.a 14) (.f (.s false (.a (.C "rings_many") (.a (.C "all_rings") (.a (.C "first_ring") .b))))) (.e (.j (.a (.l .b (.h "" 302 (.a (.e 14) (.a (.e 6) (.a (.e 7) .b)))) (.k (.a (.e 12) (.a (.g (.c 12)) .b))))) (.e (.f (.g (.e false))) .f) .f) (.e (.d 15 (.s true (.a (.h "" 301 (.a (.e 14) (.a (.e 5) (.a (.e 7) .b)))) .b))) (.e (.g (.L .a false (.e 15) (.a (.h "" 301 (.a (.e 14) (.a (.e 6) (.a (.e 7) .b)))) .b))) (.e (.g (.L .a false (.e 15) (.a (.h "" 301 (.a (.e 14) (.a (.e 3) (.a (.e 7) .b)))) .b))) (.e (.j (.a (.l .b (.e 15) (.s false (.a (.g (.m "! sizes")) (.a (.g (.m "! great")) (.a (.g (.m "! number")) .b)))))) (.e (.f (.g (.e false))) .f) .f) .f)))))) .f))))))))))) (.e (.f (.g (.e true))) .f))⟩
def fnL:List ((Str × Nat) × Fn):=((("_law_cell_at":Str),(0:Nat)),F.yx)::((("_law_draw":Str),(0:Nat)),F75.uL)::((("_law_ends_right":Str),(0:Nat)),F64.xU)::((("_law_pen":Str),(1:Nat)),F75.wW)::((("_law_rings":Str),(0:Nat)),F64.y0)::((("_law_rounds":Str),(0:Nat)),F61.vD)::((("_law_small":Str),(0:Nat)),F66.vj)::((("all_rings":Str),(0:Nat)),F66.zx)::((("all_rings":Str),(1:Nat)),F64.vE)::((("all_strips":Str),(0:Nat)),F12.vk)::((("are_sizes":Str),(0:Nat)),F.uM)::((("are_unlike":Str),(0:Nat)),F66.vm)::((("are_wholes":Str),(0:Nat)),F.vn)::((("first_hue_wrong":Str),(0:Nat)),F.xV)::((("first_ring":Str),(0:Nat)),F66.xW)::((("first_round_wrong":Str),(0:Nat)),F66.xB)::((("fits_round":Str),(0:Nat)),F66.vo)::((("going_round":Str),(0:Nat)),F66.vF)::((("grown":Str),(0:Nat)),F12.ny)::((("is_strip":Str),(0:Nat)),F.tM)::((("is_whole":Str),(0:Nat)),F.tN)::((("is_whole_round":Str),(0:Nat)),F66.xp)::((("law":Str),(0:Nat)),qX)::((("may_follow":Str),(0:Nat)),F.vp)::((("need_length":Str),(0:Nat)),F.vG)::((("need_ring":Str),(0:Nat)),F66.uN)::((("need_sizes":Str),(0:Nat)),F.xX)::((("need_small_sizes":Str),(0:Nat)),F64.zo)::((("need_whole":Str),(0:Nat)),F.yO)::((("product_of":Str),(0:Nat)),F12.vq)::((("rings_many":Str),(0:Nat)),F66.xY)::[]
noncomputable def glL:List (Str × Val):=[("MOST_PLACES",.c 40),("LEAST_SIZE",.c 2),("MOST_SIZE",.c 8),("HUES",.o [0,1,2,3]),("MOST_PRODUCT",.c 12),("MOST_RING_LENGTH",.c 12)]
noncomputable def tb:List Str:=["law"]
noncomputable def xc:List (Str × Str):=[("NoSizes","! sizes"),("NoNumber","! number"),("TooGreat","! great"),("NoRing","! ring")]
noncomputable def md:Bool->Bool:=λb=>b
def T:Tbl:=jg fnL glL tb xc md
set_option maxHeartbeats 0 in
def QH:nY fnL D=true:=by decide +kernel
def kh:zQ .b (.m x) (.m x) s=.e (.e false) s:=by simp[zQ]
def YS:zQ .b (.f [.c a,.c b]) (.f [.c a,.c b]) s=.e (.e false) s:=by
 have h:rH (.f [.c a,.c b]) (.f [.c a,.c b])=some true:=by
  unfold rH;have i:(Val.f [.c a,.c b]).isD=true:=by rw[Val.isD,v5,v5,v5,Val.isD,Val.isD];rfl
  have g:(Val.f [.c a,.c b]).d=.tuple [.int a,.int b]:=by rw[Val.d,ds,ds,ds,Val.d,Val.d]
  rw[i,g,show decide ((PyData.tuple [.int a,.int b]).depth<=60)=true from rfl];show some (CB (.tuple [.int a,.int b]) (.tuple [.int a,.int b]))=some true;congr 1;simp[CB,PyData.eqvAll]
 show (match rH (zi s (.f [.c a,.c b])) (zi s (.f [.c a,.c b])) with|some b=>Out.e (Val.e !b) s|none=>.d)=_
 rw[show zi s (.f [.c a,.c b])=.f [.c a,.c b] from rfl,h];rfl
def WD:binOp m .g (.c 10) (.c 29) s=.e (.c 100000000000000000000000000000) s:=by
 simp only[binOp];rw[if_pos (by decide)]
 rfl
def UT{k:Nat}(h:k<vs.length):∃v,v∈vs/\∀s,wI (.g vs) (.c k) s=.e v s:=⟨vs[k],BP h,λs=>rL (xd h)⟩
def gP(a:∀j∈L,j.length<=40/\∀i∈j,0<=i/\i<4):∃t,blt .b m [mU L] s=.e (.m t) s:=by
 cases L with
 |nil=>exact⟨_,rfl⟩
 |cons x L=>
  have:=a x (.head _);exact⟨_,Vj ⋯ (λk h=>by have:=this.2 k h;omega)⟩
def Zl:wI (.g (tps L++[.h])) (.c 0) s=.e (mU L) s:=by
 cases L with
 |nil=>exact rL (k:=0) rfl
 |cons x L=>exact rL (k:=0) rfl
def WC:List Val:=[.f [],.g [.c 3],.f [.c 1],.f [.c 9],.f (Ay 5 (.c 2)),.h,.m "3",.f [.e true],.p,.f [.c 3,.c 1]]
def iP:List (List Int):=[[4,4],[3,5],[2,7],[2,2,4],[8,8,8,8],[2,2,2,2],[3,3,2]]
def VH:List Val:=[.c 0,.c 13,.c (-1),.h,.e true,.m "1",.c 100000000000000000000000000000,.f [.c 1]]
def rN(h:∀w∈vs,kindOf w≠none):Kds (.f vs):=⟨nofun,λa e=>by cases e;exact h⟩
def U2:∀v∈WC,Kds v/\yq v=false:=λv a=>by
 simp only[WC,Al,B1,or_false]at a;rcases a with rfl|rfl|rfl|rfl|rfl|rfl|rfl|rfl|rfl|rfl
 . exact⟨rN λw h=>(nomatch h),rfl⟩
 . exact⟨⟨nofun,nofun⟩,rfl⟩
 . exact⟨rN λw h=>by rw[Ap.mp h];nofun,rfl⟩
 . exact⟨rN λw h=>by rw[Ap.mp h];nofun,rfl⟩
 . exact⟨rN λw h=>by rw[List.eq_of_mem_replicate h];nofun,rfl⟩
 . exact⟨⟨nofun,nofun⟩,rfl⟩
 . exact⟨⟨nofun,nofun⟩,rfl⟩
 . exact⟨rN λw h=>by rw[Ap.mp h];nofun,rfl⟩
 . exact⟨⟨nofun,nofun⟩,rfl⟩
 . refine⟨rN λw h=>?_,rfl⟩
   rcases Al.mp h with rfl|h
   . nofun
   . rw[Ap.mp h];nofun
def Q2(z:List Int):Bool:=decide (1<=z.length)&&decide (z.length<=4)&&z.all (λx=>decide (2<=x)&&decide (x<=8))&&decide (12<z.foldl (·*·) 1)&&decide (z.foldl (·*·) 1<100000)
def Wj:iP.all Q2=true:=by decide +kernel
structure Grt(zs:List Int):Prop where
 a:Sz zs
 lo:12<zs.foldl (·*·) 1
 hi:zs.foldl (·*·) 1<100000
def Te(h:zs∈iP):Grt zs:=by have:=Ak.mp Wj zs h;unfold Q2 at this;simp only[cf,decide_eq_true_eq,Ak]at this;obtain⟨⟨⟨⟨a,b⟩,c⟩,d⟩,e⟩:=this;exact⟨⟨a,b,c⟩,d,e⟩
def S6:∀v∈VH,kindOf v≠none/\yF 1 12 v=false:=λv h=>by
 simp only[VH,Al,B1,or_false]at h;rcases h with rfl|rfl|rfl|rfl|rfl|rfl|rfl|rfl<;>exact⟨nofun,rfl⟩
def three:List Str:=["rings_many","all_rings","first_ring"]
structure Cs(Φ:Calls):Prop where
 e:V9 Φ
 i:UA Φ
 a:jq Φ
 d:lb Φ
 c:fK Φ
 h:fL Φ
 g:qW Φ
 b:qU Φ
 g1:∀f∈three,∀(v w:Val) (s:Sto),zu tb s=true->Kds v->yq v=false->Φ "" 301 [.t f,v,w] s=.e (.m "! sizes") s
 g2:∀f∈three,∀(zs:List Int) (w:Val) (s:Sto),zu tb s=true->Grt zs->Φ "" 301 [.t f,tpI zs,w] s=.e (.m "! great") s
 g3:∀f∈three,∀(zs:List Int) (w:Val) (s:Sto),zu tb s=true->zp zs->kindOf w≠none->yF 1 12 w=false->Φ "" 301 [.t f,tpI zs,w] s=.e (.m "! number") s
 gg:∀f∈three,∀(zs:List Int) (w:Val) (s:Sto),zu tb s=true->Grt zs->Φ "" 302 [.t f,tpI zs,w] s=.e (.f [.c (zs.foldl (·*·) 1),.c 12]) s
section
variable {Φ:Calls}{s:Sto}
abbrev en(s:List Int)(q p n m l k i h g f d c b a o:Option Val):M.Env:=[some (.r s),q,p,n,m,l,k,i,h,g,f,d,c,b,a,o,none]
abbrev eG(q:List Int)(k p:Nat)(z:List Int)(s r:Nat)(i:Val)(t:List Int)(n:Val)(m l h f d b a o:Option Val):M.Env:=en q (some (.c k)) (some (.j p)) (some (tpI z)) (some (.g [.c s,.c r])) (some i) (some (tpI t)) (some n) m l h f d b a o
def tw:List Val:=[.m "! sizes",.m "! great",.m "! number"]
def Sy:zQ .b (.j s.length) (.g tw) (s++[Cel.c tw])=.e (.e false) (s++[Cel.c tw]):=by
 have h:zi (s++[Cel.c tw]) (.j s.length)=.g tw:=by simp[zi,yn,tw]
 show (match rH (zi (s++[Cel.c tw]) (.j s.length)) (zi (s++[Cel.c tw]) (.g tw)) with|some b=>Out.e (Val.e !b) (s++[Cel.c tw])|none=>.d)=_
 rw[h,show zi (s++[Cel.c tw]) (.g tw)=.g tw from rfl,show rH (.g tw) (.g tw)=some true from by decide +kernel]
 rfl
def Sx(c:Cs Φ)(I:zp zs)(z:Grt gs)(v:Kds bad)(u:yq bad=false)(q:kindOf non≠none)(o:yF 1 12 non=false)(d:zu tb S=true){P:Fl->Sto->Prop}
 (J:∀W U O M o12 w L F S,zu tb S=true->P (.a (eG ns k p zs n1 n2 bad gs non W U O M o12 w L F)) S) :
 (zP Φ T.b (eG ns k p zs n1 n2 bad gs non W U O M o12 w L F) (qX.a.hd.fb.tl.tl.tl.tl.tl.tl.tl) S).post P:=by
 have D:2<=zO:=by decide
 have H:3<=zO:=by decide
 have K:1<=zO:=by decide
 refine yD zI ?_;show (zP Φ T.b (eG ns k p zs n1 n2 bad gs non W U O M (some (.c (([]:List Int).foldl (·*·) 1))) w L F) _ S).post _
 refine zj.mpr (yp (λr e s=>s=S/\∃A B w,A++B=gs/\r=B.map .c/\e=eG ns k p zs n1 n2 bad gs non W U O M (some (.c (A.foldl (·*·) 1))) w L F) (gs.map .c) (s1:=S) (xw (zB rfl) rfl) ⟨rfl,[],gs,_,rfl,rfl,rfl⟩ ?_ ?_)
 . rintro x r e G ⟨rfl,A,B,w,h,l,rfl⟩
   cases B with
   |nil=>cases l
   |cons y B=>
    obtain⟨rfl,rfl⟩:=C4 l;have N:=z.a.2.2 y (by rw[<-h];exact AU _ (.head _))
    refine⟨_,rfl,yD (zm (zB rfl) (zB rfl) (fV ⋯)) (yl ⟨rfl,A++[y],B,some (.c y),by rw[<-h,A0];rfl,rfl,?_⟩)⟩
    rw[List.foldl_append];rfl
 rintro e G ⟨rfl,A,B,w,h,l,rfl⟩;have C:B=[]:=Fi.mp l.symm;subst C;rw[AJ]at h;subst h;refine zj.mpr (yp (λr e s=>zu tb s=true/\(∃L F,e=eG ns k p zs n1 n2 bad A non W U O M (some (.c (A.foldl (·*·) 1))) w L F)/\∀x∈r,∃f∈three,x=.t f) (three.map .t) (s1:=G) (xw (vf (zA (tF rfl) (zA (tF rfl) (zA (tF rfl) zE))) H) rfl) ⟨d,⟨_,_,rfl⟩,λx n=>?_⟩ ?_ ?_)
 . obtain⟨f,g,rfl⟩:=A2.mp n
   exact⟨f,g,rfl⟩
 . rintro x r e S ⟨d,⟨L,F,rfl⟩,i⟩
   obtain⟨f,g,rfl⟩:=i x (.head _);refine⟨eG ns k p zs n1 n2 bad A non W U O M (some (.c (A.foldl (·*·) 1))) w (some (.t f)) F,rfl,?_⟩
   have Z:∀E:List Val,zu tb (S++[.c E])=true:=λE=>lT d;refine wq (yH (yU (x_call (zA (zB rfl) (zA (zB rfl) (zA (zB rfl) zE))) (c.gg f g A non S d z)) (wV (zA (zB rfl) (zA zI zE)) D) YS) za) ?_;refine yD (lY (zA (x_call (zA (zB rfl) (zA (zB rfl) (zA (zB rfl) zE))) (c.g1 f g bad non S d v u)) zE) K) ?_;show (zP Φ T.b (eG ns k p zs n1 n2 bad A non W U O M (some (.c (A.foldl (·*·) 1))) w (some (.t f)) (some (.j S.length))) _ (S++[.c [.m "! sizes"]])).post _
   refine yj (bnd (zB rfl) (bnd (zA (x_call (zA (zB rfl) (zA (zB rfl) (zA (zB rfl) zE))) (c.g2 f g A non _ (Z _) z)) zE) (sG (show 1<zO by decide)))) ?_
   refine yj (bnd (zB rfl) (bnd (zA (x_call (zA (zB rfl) (zA (zB rfl) (zA (zB rfl) zE))) (c.g3 f g zs non _ (Z _) I q o)) zE) (sG (show 2<zO by decide)))) ?_
   exact wq (yH (yU (zB rfl) (vf (zA zI (zA zI (zA zI zE))) H) Sy) za) (yl ⟨Z _,⟨_,_,rfl⟩,λx n=>i x (.tail _ n)⟩)
 . rintro e S ⟨d,⟨L,F,rfl⟩,_⟩
   exact yl (J _ _ _ _ _ _ _ _ _ d)
def YI(c:Cs Φ)ns:(run T Φ qX [.r ns] (tb.map .d)).post λv _=>v=.e true:=by
 have L10:10<=zO:=by decide
 have L8:8<=zO:=by decide
 have L7:7<=zO:=by decide
 have L5:5<=zO:=by decide
 have L4:4<=zO:=by decide
 have L3:3<=zO:=by decide
 have L2':2<=zO:=by decide
 have L1:1<=zO:=by decide
 have t1:∀{a:Int} {G:M.Env} {s:Sto},evE Φ T.b G (.k (.a (.g (.c a)) .b)) s=.e (tpI [a]) s:=wV (zA zI zE) L1;have t2:∀{a b:Int} {G:M.Env} {s:Sto},evE Φ T.b G (.k (.a (.g (.c a)) (.a (.g (.c b)) .b))) s=.e (tpI [a,b]) s:=wV (zA zI (zA zI zE)) L2';have t3:∀{a b c:Int} {G:M.Env} {s:Sto},evE Φ T.b G (.k (.a (.g (.c a)) (.a (.g (.c b)) (.a (.g (.c c)) .b)))) s=.e (tpI [a,b,c]) s:=wV (zA zI (zA zI (zA zI zE))) L3;have t4:∀{a b c d:Int} {G:M.Env} {s:Sto},evE Φ T.b G (.k (.a (.g (.c a)) (.a (.g (.c b)) (.a (.g (.c c)) (.a (.g (.c d)) .b))))) s=.e (tpI [a,b,c,d]) s:=wV (zA zI (zA zI (zA zI (zA zI zE)))) L4;rw[qX,yY];refine⟨rfl,?_⟩;show (zP Φ T.b (en ns none none none none none none none none none none none none none none none) _ (tb.map .d)).post _;refine zj.mpr (yp (λQ e B=>(∃o1 o2 o3 o4 o5 O Y H E f o y z u q,e=en ns o1 o2 o3 o4 o5 O Y H E f o y z u q)/\zu tb B=true/\∀x∈Q,∃k:Nat,x=.c k) (yI 0 (max 1 (min ns.length 2))) (s1:=tb.map .d) (ZP (K:=2) rfl ⋯) ⟨⟨_,_,_,_,_,_,_,_,_,_,_,_,_,_,_,rfl⟩,wZ.mpr ⟨[],by rw[AJ]⟩,?_⟩ ?_ ?_)
 . intro x Z
   obtain⟨k,_,rfl⟩:=VF Z;exact⟨k,by congr 1;omega⟩
 . rintro x Q e B ⟨⟨o1,o2,o3,o4,o5,O,Y,H,E,f,o,y,z,u,q,rfl⟩,hZ,hr⟩
   obtain⟨k,rfl⟩:=hr x (.head _);have hr':∀x∈Q,∃k:Nat,x=.c k:=λx Z=>hr x (.tail _ Z);refine⟨_,rfl,?_⟩;obtain⟨cv,hcell⟩:=c.e ns k B;refine byG λX l=>?_;obtain⟨pa,pb,pc,pd,hpen,hb⟩:=c.i cv B;refine l ?_;show (zP Φ T.b (en ns (some (.c k)) o2 o3 o4 o5 O Y H E f o y z u q) _ B).post _;refine yD (x_call (zA (x_call (zA (zB rfl) (zA (zB rfl) zE)) hcell) zE) hpen) ?_;have hP:ll (B++[qJ pa pb pc pd]) B.length:=⟨pa,pb,pc,pd,by simp,hb⟩
   have hZ1:zu tb (B++[qJ pa pb pc pd])=true:=lT hZ;have hpl:tb.length<=B.length:=Vy hZ;show (zP Φ T.b (en ns (some (.c k)) (some (.j B.length)) o3 o4 o5 O Y H E f o y z u q) _ (B++[qJ pa pb pc pd])).post _;generalize B++[qJ pa pb pc pd]=s1 at hP hZ1;generalize B.length=p at hP hpl;refine byG λX l=>?_;obtain⟨_,s2,hd2,C,rfl,hzs,u2⟩:=c.d p s1 hP;refine l ?_;have hP2:=u2.at_ hP.lt;have U:=(Vq hzs).1;refine yD (x_call (zA (zB rfl) zE) hd2) ?_;show (zP Φ T.b (en ns (some (.c k)) (some (.j p)) (some (tpI C)) o4 o5 O Y H E f o y z u q) _ s2).post _;refine byG λX l=>?_;obtain⟨_,s3,hd3,a3,rfl,ha3,u3⟩:=c.a p 12 s2 hP2 ⋯ ⋯
   refine l ?_;have hP3:=u3.at_ hP2.lt;refine byG λX l=>?_;obtain⟨_,s4,hd4,a4,rfl,ha4,u4⟩:=c.a p 7 s3 hP3 ⋯ ⋯
   refine l ?_;have hP4:=u4.at_ hP3.lt;refine byG λX l=>?_;obtain⟨N,hn1,hn1l,hn1h⟩:∃n:Nat,(1:Int)+(a3:Int)=(n:Int)/\1<=n/\n<=12:=⟨1+a3,⋯,⋯,⋯⟩
   refine l ?_;refine byG λX l=>?_;obtain⟨J,hn2,hn2l,hn2h⟩:∃n:Nat,(2:Int)+(a4:Int)=(n:Int)/\1<=n/\n<=12:=⟨2+a4,⋯,⋯,⋯⟩
   refine l ?_;refine yD (vf (zA (zm zI (x_call (zA (zB rfl) (zA zI zE)) hd3) qa) (zA (zm zI (x_call (zA (zB rfl) (zA zI zE)) hd4) qa) zE)) L2') ?_;rw[hn1,hn2];show (zP Φ T.b (en ns (some (.c k)) (some (.j p)) (some (tpI C)) (some (.g [.c N,.c J])) o5 O Y H E f o y z u q) _ s4).post _;refine byG λX l=>?_;obtain⟨_,s5,hd5,a5,rfl,ha5,u5⟩:=c.a p 10 s4 hP4 ⋯ ⋯
   refine l ?_;have hP5:=u5.at_ hP4.lt;obtain⟨A,hbm,hbad⟩:=UT (vs:=WC) (k:=a5) (show a5<10 by omega)
   obtain⟨hb1,hb2⟩:=U2 A hbm;refine yD (wN (vf (vs:=WC) (zA (wV zE (Be _)) (zA (vf (zA zI zE) L1) (zA t1 (zA t1 (zA (zm t1 zI rfl) (zA zI (zA zI (zA (wV (zA zI zE) L1) (zA rfl (zA t2 zE)))))))))) L10) (x_call (zA (zB rfl) (zA zI zE)) hd5) (hbad s5)) ?_;show (zP Φ T.b (en ns (some (.c k)) (some (.j p)) (some (tpI C)) (some (.g [.c N,.c J])) (some A) O Y H E f o y z u q) _ s5).post _;refine byG λX l=>?_;obtain⟨_,s6,hd6,a6,rfl,ha6,u6⟩:=c.a p 7 s5 hP5 ⋯ ⋯
   refine l ?_;have hP6:=u6.at_ hP5.lt;have ha6':a6<iP.length:=by show a6<7;omega
   have hG:=Te (BP ha6');have W:wI (.g (iP.map tpI)) (.c a6) s6=.e (tpI iP[a6]) s6:=rL (by rw[AZ,xd ha6'];rfl)
   generalize iP[a6]=gs at hG W;refine yD (wN (vf (vs:=iP.map tpI) (zA t2 (zA t2 (zA t2 (zA t3 (zA t4 (zA t4 (zA t3 zE))))))) L7) (x_call (zA (zB rfl) (zA zI zE)) hd6) W) ?_;show (zP Φ T.b (en ns (some (.c k)) (some (.j p)) (some (tpI C)) (some (.g [.c N,.c J])) (some A) (some (tpI gs)) Y H E f o y z u q) _ s6).post _;refine byG λX l=>?_;obtain⟨_,s7,hd7,a7,rfl,ha7,u7⟩:=c.a p 8 s6 hP6 ⋯ ⋯
   refine l ?_;obtain⟨D,hnm,hnon⟩:=UT (vs:=VH) (k:=a7) (show a7<8 by omega)
   obtain⟨hw1,hw2⟩:=S6 D hnm;refine yD (wN (vf (vs:=VH) (zA zI (zA zI (zA (X3 zI) (zA zI (zA zI (zA zI (zA (zm zI zI WD) (zA t1 zE)))))))) L8) (x_call (zA (zB rfl) (zA zI zE)) hd7) (hnon s7)) ?_;show (zP Φ T.b (eG ns k p C N J A gs D H E f o y z u q) _ s7).post _;have hZ7:=QI hZ1 hpl (((((u2.trans u3).trans u4).trans u5).trans u6).trans u7);refine zj.mpr (yp (λP e B=>zu tb B=true/\(∃H E f o,e=eG ns k p C N J A gs D H E f o y z u q)/\∀x∈P,∃n:Nat,x=.c n/\1<=n/\n<=12) [.c N,.c J] (s1:=s7) (xw (zB rfl) rfl) ⟨hZ7,⟨_,_,_,_,rfl⟩,?_⟩ ?_ ?_)
   . intro x Z
     rcases Al.mp Z with rfl|Z
     . exact⟨N,rfl,hn1l,hn1h⟩
     . rw[Ap.mp Z];exact⟨J,rfl,hn2l,hn2h⟩
   . rintro x P e S ⟨hS,⟨H,E,f,o,rfl⟩,hr2⟩
     refine byG λX l=>?_;obtain⟨n,rfl,hl,hh⟩:=hr2 x (.head _);refine l ?_;refine⟨eG ns k p C N J A gs D (some (.c n)) E f o y z u q,rfl,?_⟩;refine yD (x_call (zA (zB rfl) (zA (zB rfl) zE)) (c.c C n S U hl hh)) ?_;have F:∀r∈yL C n,r.length<=40/\∀i∈r,0<=i/\i<4:=λr hr=>by
      obtain⟨h1,h2,_⟩:=Vk U hl hr;refine⟨⋯,λi hi=>?_⟩
      have:=h1.a i hi;have:=U.a.2.1;omega
     have hLl:(yL C n).length<=100:=Aq (EX _ _) (U.b n);have hall:=λS=>c.h C n S U hl hh;have R:=λS=>c.g C n S U hl hh;have I:=λS=>c.b C n S U hl hh;generalize yL C n=L at F hLl hall R I;show (zP Φ T.b (eG ns k p C N J A gs D (some (.c n)) (some (.g (tps L))) f o y z u q) _ S).post _;refine zj.mpr (yp (λrest3 e B=>zu tb B=true/\∃f o,e=eG ns k p C N J A gs D (some (.c n)) (some (.g (tps L))) f o y z u q) (yI 0 2) (s1:=S) (sQ (k:=2) zI (by decide)) ⟨hS,_,_,rfl⟩ ?_ ?_)
     . rintro w rest3 e V ⟨hS2,f,o,rfl⟩
       refine⟨eG ns k p C N J A gs D (some (.c n)) (some (.g (tps L))) (some w) o y z u q,rfl,?_⟩;refine yD (x_call (zA (zB rfl) (zA (zB rfl) zE)) (hall V)) ?_;show (zP Φ T.b (eG ns k p C N J A gs D (some (.c n)) (some (.g (tps L))) (some w) (some (.j V.length)) y z u q) _ (V++[.c (tps L)])).post _;have hr1:=jM (m:=false) (x:=.j V.length) (L:=L) (s:=V++[.c (tps L)]) (by simp[zi,yn]) hLl F
       have hr3:=jM (m:=false) (x:=.g (tps L)) (L:=L) (s:=V++[.c (tps L)]) rfl hLl F;have hlen:blt .a false [.g (tps L)] (V++[.c (tps L)])=.e (.c (L.length:Nat)) (V++[.c (tps L)]):=by rw[YF];show Out.e (Val.c ((Cm tpI L).length:Nat)) _=_;rw[rt]
       refine wq (Oy (yH (yU (yT (zA (zB rfl) zE) hr1) (yT (zA (zB rfl) zE) hr3) kh) za) (dD (yH (yU (x_call (zA (zB rfl) (zA (zB rfl) zE)) (R _)) (yT (zA (zB rfl) zE) hlen) YR) za) Xl)) ?_;exact yj (bnd (zB rfl) (bnd (zA (wV zE (Be _)) zE) (sG (by show (Cm tpI L).length<zO;rw[rt];unfold zO;omega)))) (yl ⟨lT hS2,_,_,rfl⟩)
     . rintro e V ⟨hS2,f,o,rfl⟩
       obtain⟨t,ht⟩:=gP (m:=false) (s:=V) F;exact wq (yH (yU (yT (zA (x_call (zA (zB rfl) (zA (zB rfl) zE)) (I V)) zE) ht) (yT (zA (wN (zm (zB rfl) (vf (zA zI zE) L1) (fQ (by show (Cm tpI L).length+1<=zO;rw[rt];unfold zO;omega))) zI Zl) zE) ht) kh) za) (yl ⟨hS2,⟨_,_,_,_,rfl⟩,λx Z=>hr2 x (.tail _ Z)⟩)
   rintro e S ⟨hS,⟨H,E,f,o,rfl⟩,_⟩;exact Sx c U hG hb1 hb2 hw1 hw2 hS λ_ _ _ _ _ _ _ _ S hS=>⟨⟨_,_,_,_,_,_,_,_,_,_,_,_,_,_,_,rfl⟩,hS,hr'⟩
 . rintro e B ⟨⟨o1,o2,o3,o4,o5,O,Y,H,E,f,o,y,z,u,q,rfl⟩,hZ,_⟩
   refine z8 zI ?_;show (z0 false (tb.map .d) (.e true) B).post _;rw[cP hZ yu];exact zF.mpr rfl
end
def mV{T}(h:Rz (zC T n) (zS T n) f vs s c)(l:T.c "" 301=none)(k:T.f true=true)(i:zu T.e s=true)(g:T.d.lookup c=some w):zC T (n+1) "" 301 (.t f::vs) s=.e (.m w) s:=by obtain⟨a,o,b⟩:=h;simp only[zC,l,kH,List.tail_cons,a,b,k,i,g,nS];rfl
def dr{T}(h:RzG (zC T n) (zS T n) f vs s "TooGreat" as)(i:T.c "" 302=none)(g:mW T=true)(d:zu T.e s=true):zC T (n+1) "" 302 (.t f::vs) s=.e (.f as) s:=by obtain⟨a,b⟩:=h;simp only[zC,i,kH,List.tail_cons,a,b,g,d];rfl
def cs:At T 9 Cs:=λn hn=>by
 obtain⟨n,rfl⟩:∃m,n=m+9:=⟨n-9,⋯⟩
 have g4:Gl4 T:=⟨rfl,rfl,rfl,rfl⟩;have g3:T.b "MOST_PLACES"=some (.c 40):=rfl;have gp:T.b "MOST_PRODUCT"=some (.c 12):=rfl;have gr:T.b "MOST_RING_LENGTH"=some (.c 12):=rfl;have C:∀m,nu (zC T (m+1)):=λm v l k s h=>up1 (bZ h) rfl;have G:∀m,nv (zC T (m+2)):=λm vs l k s h=>up1 (gZ (C m) h) rfl;have t:∀m,vi (zC T (m+2)):=λm i l k s o g=>up1 (oV (C m) o g) rfl;have B:∀m,rl (zC T (m+3)):=λm i s o g=>up1 (cw g3 (t m) o g) rfl;have V:∀m,fM (zC T (m+3)):=λm v s h=>up1 (gX rfl rfl (G m) h) rfl;have I:∀m,oi (zC T (m+4)):=λm r s h=>up1 (lK (bg (V m)) h) rfl;have yq:∀m,nt (zC T (m+3)):=λm v s h h'=>up1 (gW g4 (G m) h h') rfl;have u:∀m,vh (zC T (m+4)):=λm y s h=>up1 (oU (aO (yq m)) h) rfl;have S:∀m,b9 (zC T (m+1)):=λm y s h=>up1 (XH h) rfl;have q:∀m,wb (zC T (m+5)):=λm y s h=>up1 (pf gp (u m) (S (m+3)) h) rfl;have may:∀m,QX (zC T (m+1)):=λm y ns h s o g j=>up1 (Vn o g j) rfl;have M:∀m,fJ (zC T (m+2)):=λm y L s o g j=>up1 (gS (may m) o g j) rfl;have all:∀m,fG (zC T (m+6)):=λm y k s o g=>up1 (XE (q m) (B (m+2)) (M (m+3)) o g) rfl;have going:∀m,b8 (zC T (m+1)):=λm a f d z s o g j h4=>up1 (bY o g j h4) rfl;have R:∀m,fN (zC T (m+1)):=λm ls s h=>up1 (gY h) rfl;have J:∀m,lh (zC T (m+2)):=λm r f d z s o g j h4=>up1 (jR (going m) (R m) o g j h4) rfl;have fHueG:∀m,b7 (zC T (m+1)):=λm y ns s=>up1 (bW) rfl;have O:∀m,fH (zC T (m+5)):=λm y r s h=>up1 (gQ (u m) (I m) (fHueG (m+3)) (J (m+2)) h) rfl;have N:∀m,nr (zC T (m+6)):=λm y r s h=>up1 (bX (O m) h) rfl;have K:∀m,js (zC T (m+7)):=λm y k s o g j=>up1 (gU gr (q (m+1)) (t (m+4)) (all m) (N m) o g j) rfl;have Y:∀m,fL (zC T (m+7)):=λm y k s o g j=>up1 (gV gr (q (m+1)) (t (m+4)) (all m) (N m) o g j) rfl;have many:∀m,qW (zC T (m+8)):=λm y k s o g j=>up1 (oW (K m) o g j) rfl;have first:∀m,qU (zC T (m+8)):=λm y k s o g j=>up1 (oS (K m) o g j) rfl
 have X:∀m,qV (zC T (m+1)):=λm a z s o g j=>up1 (jP o g j) rfl;have endsR:∀m,jr (zC T (m+1)):=λm y x h s o g j=>up1 (bV o g j) rfl;have Z:∀m,fK (zC T (m+2)):=λm y k s o g j=>up1 (gT (endsR m) (X m) o g j) rfl;have cell:∀m,V9 (zC T (m+1)):=λm ns k s=>by obtain⟨c,h⟩:=XF (T:=T) (Φ:=zC T m) (s:=s) ns k;exact⟨c,by rw[wD (F:=F.yx) rfl];exact h⟩
 have pen:∀m,UA (zC T (m+1)):=λm c s=>by obtain⟨a,b,e,d,h,g⟩:=XG (T:=T) (Φ:=zC T m) (s:=s) c;exact⟨a,b,e,d,by rw[wD (F:=F75.wW) rfl];exact h,g⟩
 have U:∀m,jq (zC T (m+1)):=λm p k s o g j=>O2 (bU o g j) rfl;have small:∀m,lb (zC T (m+2)):=λm p s h=>O2 (jQ (U m) h) rfl;have xNeed:∀m,UD (zC T (m+2)) (zS T (m+2)):=λm v l k s o g j h4=>by obtain⟨a,b⟩:=aR (T:=T) (Φ:=zC T (m+1)) (Ψ:=zS T (m+1)) (s:=s) (C m) rfl o g j h4;exact⟨by rw[wD (F:=F.yO) rfl];exact a,_,by rw[qc (F:=F.yO) rfl rfl];exact b⟩
 have P:∀m,aM (zC T (m+4)) (zS T (m+4)):=λm v s o g=>RzF.up (F:=F.xX) (dP (yq m) rfl o g) rfl rfl;have D:∀m,jx (zC T (m+5)) (zS T (m+5)):=λm=>
  ⟨λv s o g=>RzF.up (F:=F64.zo) (j9 (P m) o g) rfl rfl,
   λy s o g j=>sy.up (F:=F64.zo) (iA gp (u m) (S (m+3)) rfl o g j) rfl rfl⟩
 have E:∀m,aL "all_rings" (zC T (m+6)) (zS T (m+6)):=λm=>
  ⟨λv w s o g=>RzF.up (F:=F66.zx) (j4 (D m) o g) rfl rfl,
   λy w s o g j=>sy.up (F:=F66.zx) (j6 (D m) o g j) rfl rfl,
   λy w s h o g=>RzF.up (F:=F66.zx) (j7 gr (q m) (xNeed (m+3)) h o g) rfl rfl⟩
 have up:∀m (f:Str) (F:Fn),(∀(v w:Val) (s:Sto) (c:Str) (W:List Val),RzG (zC T (m+6)) (zS T (m+6)) "all_rings" [v,w] s c W->sy T (zC T (m+6)) (zS T (m+6)) F [v,w] s c W)->T.c f 0=some F->2=F.b.length->aL f (zC T (m+7)) (zS T (m+7)):=λm f F hF H hl=>
  ⟨λv w s o g=>by
   obtain⟨W,h⟩:=RzG.of ((E m).a v w s o g);exact(sy.up (hF v w s _ W h) H hl).rz,
   λy w s o g j=>sy.up (hF _ w s _ _ ((E m).b y w s o g j)) H hl,
   λy w s h o g=>by obtain⟨W,h⟩:=RzG.of ((E m).c y w s h o g);exact(sy.up (hF _ w s _ W h) H hl).rz⟩
 have xMany:∀m,aL "rings_many" (zC T (m+7)) (zS T (m+7)):=λm=>up m _ F66.xY (λv w s c W h=>aQ (F:=F66.xY) rfl rfl (zA (zB rfl) (zA (zB rfl) zE)) h) rfl rfl;have Q:∀m,aL "first_ring" (zC T (m+7)) (zS T (m+7)):=λm=>up m _ F66.xW (λv w s c W h=>aP (F:=F66.xW) rfl rfl (zA (zB rfl) (zA (zB rfl) zE)) h) rfl rfl;have A:∀f∈three,aL f (zC T (n+8)) (zS T (n+8)):=λf H=>by
  simp only[three,Al,B1,or_false]at H;rcases H with rfl|rfl|rfl
  . exact xMany (n+1)
  . exact E (n+2)
  . exact Q (n+1)
 exact⟨cell (n+8),pen (n+8),U (n+8),small (n+7),Z (n+7),Y (n+2),many (n+1),first (n+1),
  λf H v w s hz o g=>mV ((A f H).a v w s o g) rfl rfl hz rfl,
  λf H y w s hz h=>mV ((A f H).b y w s h.a h.lo h.hi).rz rfl rfl hz rfl,
  λf H y w s hz h o g=>mV ((A f H).c y w s h o g) rfl rfl hz rfl,
  λf H y w s hz h=>dr ((A f H).b y w s h.a h.lo h.hi) rfl rfl hz⟩
def Sl ns:∃j,zC T 10 "law" 0 [.r ns] (tb.map .d)=.e (.e true) j:=by
 obtain⟨v,j,h,rfl⟩:=YI (cs 9 ⋯) ns
 exact⟨j,by rw[wD (F:=qX) rfl];exact h⟩
end P64
end
section
open PySem PySem.W PyProof.Rows
def P64.hx:P64.qX.b=[("_law_script":Str)]:=by kernel_rfl
def P64.hF:(M.jg P64.fnL P64.glL P64.tb P64.xc P64.md).c P64.dd.name 0=some P64.qX:=by kernel_rfl
def P64.hgl:P64.glL=P64.gl.map λp=>(p.1,M.gv p.2):=by kernel_rfl
def P64.ws1:List Str:=["strip","sizes","number","place","hue","draft","paper","fit","great","lot","ring","round"]
def P64.ws2:List Str:=["stand","text","deed","line"]
def P64.kst:M.jv (P64.top 56) P64.X.a (P64.ws1++P64.ws2) (some "! "):=by
 refine⟨by kernel_rfl,by decide +kernel,?_,by decide +kernel⟩
 exact⟨P64.X.a.take 4,(P64.X.a.drop 4).take 4,(P64.X.a.drop 8).take 4,P64.X.a.drop 12,P64.ws1,P64.ws2,_,_,_,_,_,_,_,_,_,_,_,_,_,_,_,_,_,_,_,_,_,_,_,_,_,_,_,_,_,_,_,_,_,_,_,_,_,_,_,_,_,_,_,_,_,_,_,_,_,_,_,_,_,_,_,_,_,_,_,_,_,rfl,rfl,rfl,by decide +kernel,rfl,rfl⟩
def P64.NY:M.n6 true "_law_kind" (P64.top 57):=⟨by kernel_rfl,by decide +kernel,⟨_,_,_,_,default,_,_,_,_,_,_,default,default,default,default,default,default,default,default,default,default,default,default,default,default,0,0,0,rfl⟩,by decide +kernel⟩
def P64.ist:M.aC (Hd.iT (P64.top 17)):=⟨by kernel_rfl,by decide +kernel,⟨_,_,_,_,_,_,_,_,_,_,_,_,_,_,_,_,_,_,_,_,_,by decide,rfl,by decide +kernel⟩,by decide +kernel⟩
def P64.gst:M.nz (P64.top 58):=⟨by kernel_rfl,by decide +kernel,⟨_,_,_,_,_,_,_,_,_,_,_,_,_,_,_,_,rfl⟩,by decide +kernel⟩
def P64.hS:∀b,P64.md b=true->P64.D.lookup (L2.yv b)=some ((λb=>match b with|true=>P64.top 57|false=>P64.top 0) b)/\M.n6 b "_law_kind" ((λb=>match b with|true=>P64.top 57|false=>P64.top 0) b)
 |true,_=>⟨rfl,P64.NY⟩|false,h=>by cases h
def P64.iQ:((("HueError":Str))::P64.X.c).all (λc=>decide (c="TooGreat")||M.bG P64.q c)=true:=by decide +kernel
def P64.iR:P64.X.b.all (λg=>(Fj P64.q).any (λd=>decide (d.name=g))&&(P64.D.lookup g).isSome)=true:=by decide +kernel
theorem PySem.Challenge.cw_evenhues_k64_all_rings_holds : PySem.Challenge.rw_evenhues_k64_all_rings.Holds := by
 exact M.TC (n:=10) _ P64.R1 P64.left P64.hgl P64.Za P64.hp P64.hk P64.hwr P64.ok P64.bare P64.hw (by kernel_rfl) P64.hdf ⟨rfl,by decide,by decide,rfl⟩ P64.hF P64.hx P64.QH rfl (by decide +kernel) rfl P64.kst P64.hS rfl (by decide +kernel) (by decide +kernel) P64.iQ (λ_=>⟨_,rfl,P64.gst⟩) (λ_ _ _ _ _ _ _ TT KX ob=>M.ZZ TT KX ob P64.ist) P64.iR (λns _=>P64.Sl ns)
end
end
