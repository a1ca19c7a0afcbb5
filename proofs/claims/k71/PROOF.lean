import PyProof.Rows.All
import Wide.All
import OpenK.AllK
import Wide.FinOn
import Lean
import PyProof.EqAt
import PyProof.EqKinds
import PyProof.TupleCall
import KE.KTryMore
import PyProof.P3Eq
import PyProof.NeData
import PyProof.P3In
import PyProof.Rows.EnumRows
import PyProof.ZipIter
import PyProof.Rows.SetFrom
import PyProof.ExcClass
import OpenK.KRaise
import PyProof.ExcBaseAll.ValueError
import KE.KLam
import PyProof.ExcArgsOwn
import PyProof.IsiH_list
import PySem.Challenge.RW_evenhues_k71_stands_looked_at
set_option genSizeOf false
set_option genSizeOfSpec false
set_option bootstrap.genMatcherCode false
set_option Elab.async false
set_option linter.all false
set_option maxRecDepth 100000
set_option maxHeartbeats 4000000
set_option autoImplicit true
set_option relaxedAutoImplicit true
noncomputable section
open And renaming intro->Ad
open Array renaming length_toList->CU
open Bool renaming and_eq_true->cf,false_ne_true->Ab,or_eq_true->Ay,not_eq_true'->AQ,false_eq_true->A3,eq_iff_iff->BE,true_and->CZ,false_and->Dc,or_true->EF,or_eq_false_iff->EH,and_eq_true_iff->EK,or_false->E8,and_self->Fg
open Eq renaming trans->Gw
open False renaming elim->Az
open ForInStep renaming yield->Cf
open Iff renaming rfl->CL
open Int renaming toNat_natCast->AN,zero_add->DN,le_trans->ED,emod_lt_of_pos->E2,le_antisymm->F5,natCast_mul->F7,emod_nonneg->F8
open LawfulBEq renaming eq_of_beq->Ci
open LawfulMonad renaming pure_bind->DG
open List renaming getElem?_eq_getElem->xd,length_map->Aa,size_toArray->Ae,mem_cons->Af,mem_cons_of_mem->Ah,getElem?_eq_some_iff->Aj,getD_eq_getElem?_getD->Al,length_append->Am,lookup_cons->An,all_eq_true->Ao,replicate->Ap,range->Aq,mem_cons_self->Ar,forall_mem_cons->As,mem_of_getElem?->AA,mem_singleton->AF,getElem?_map->AG,map_cons->AJ,length_cons->AK,getElem?_set_self->AM,mem_map->AO,isEmpty_iff->AR,not_mem_nil->AU,filterMap_cons->AW,mem_append->AX,mem_range->AZ,getElem?_append_left->A1,append_nil->A8,mem_append_right->Bb,length_range->Bh,any_eq_true->Bl,append_assoc->Bt,mem_append_left->Bv,getElem?_set_ne->Bw,replicate_succ->BA,all_cons->BB,contains_cons->BJ,getElem?_append_right->BL,getElem_of_mem->BM,nodup_cons->BR,map_congr_left->BS,map_map->BV,any_cons->BZ,length_take->B1,getElem_mem->B2,getElem_map->B3,length_replicate->B5,filterMap_map->B6,getElem?_eq_none->B7,length_set->Cb,flatten_cons->Cg,range_succ_eq_map->Cp,mem_filterMap->Ct,nil_append->Cw,map_append->Cy,length_nil->Cz,getElem?_eq_none_iff->CD,findIdx?_eq_some_iff_getElem->CJ,cons_append->CN,countP_cons->CO,flatMap_map->CQ,eq_of_mem_replicate->CT,length_pos_iff->CV,forall_mem_nil->CW,length_drop->Di,getElem?_of_mem->Dm,range'->Ds,getElem?_range->Du,getElem?_take_of_lt->DC,length_filterMap_le->DI,foldl->DQ,getElem?_replicate->DU,flatMap_cons->D0,forall_mem_append->D4,filter_cons->Ec,range'_succ->Ed,getElem?_toArray->Em,mem_filter->Er,of_mem_zip->Ew,forIn_cons->EC,mem_of_mem_take->EJ,drop_zero->EO,set_comm->E5,take_sublist->Fo,nodup_append->Fw,drop_eq_getElem_cons->FE,map_nil->FK,any_map->FR,mem_flatMap->FU,lookup_eq_none_iff->FY,count_cons->F6,filter_map->F9,length->Gb,forIn_nil->Gk,map->Gy
open List.Pairwise renaming nil->Fs
open List.cons renaming inj->Fh
open Nat renaming le_refl->Ac,le_trans->Au,lt_of_lt_of_le->Ax,ne_of_lt->AE,zero_le->A9,lt_irrefl->Bj,mul_le_mul_right->BP,mul_comm->Cv,lt_succ_of_lt->CC,le_succ->C7,le_of_lt->C9,min_le_right->Dh,lt_succ_self->Dl,mul_le_mul_left->Dt,ne_of_gt->DA,lt_of_sub_eq_succ->En,le_of_eq->EI,succ_mul->FJ,zero_add->FT,mul_le_mul->Gm
open Ne renaming symm->Bu
open Option renaming none->dr,map_eq_some_iff->A4,isNone_iff_eq_none->B8,isSome_iff_exists->Ca,bind_eq_some_iff->DT,map_some->Ep,getD_none->FH
open Option.some renaming inj->Aw,injEq->Fi
open Prod renaming ext->Dx
open PyProof.Rows renaming slot_tuple_getitem->A0,callWith_type1->BH,assignInOrder_cons->Cq,boot_sorted->DM,joinParts_cons->DS,boot_list->D3,tupleItemsOf_->D7,boot_min->Eo,entry_tuple_getitem->EL,recsOf->EN,args_tuple_getitem->EV,subscriptTail->E7,assignInOrder_nil->Fm,Top->FV,boot_tuple->FX,Subscript_->Gu
open PySem renaming wpAny_bind->dS,wpAny_pure->Ai,sizeLine->Av,Spec->AD,starEach->AI,mainGlobals->AL,sizeLine_eq->AV,mem_of_lookup->AY,foldedSetIterable->A2,wpAny_mono->A6,strLen_append->A7,compareOp->Ba,wpAny_newObj_type->Bg,wpAny_loadPart_at->Bn,wpAny_standAt->Bp,wpAny_truthy_bool->Br,sliceBounds->Bs,binaryOp->By,letOwnedTupleGo->BD,treeTable->BG,wpAny_Call_Name_kw->BI,wpAny_loadPart'->BN,FuncData->BQ,excClassObj->BU,sysModules->BW,wpAny_holding->BX,swappedStores->BY,bootBuiltins->B9,call_meets->Cc,wpAny_callSpecial?_slot->Cj,wpAny_field->Co,wpAny_pyIter_tuple->Cr,cellsFrom->Cu,assignEach->CG,wpAny_binaryOp_repeat_ref->CH,recursionLimit->CK,NameKind->CM,checkBuiltinCall->CP,attributeBase->CY,typeIs_int->C0,bindName->C4,wpAny_pyIter_list->C8,codeAny_mono->Dd,wpAny_call_entry->Dj,behindInMarks->Dn,wpAny_isSubtype_exc->Dv,wpAny_passesOwn->Dw,compTurn->DH,wpAny_raiseStmt_made_sub->DJ,codeAmong->DK,TriplesOk->DL,wpAny_rule->DO,wpAny_bindName->DP,wpAny_pyIter_enum->DZ,assignInOrder->D5,swapsWithSole->D6,wpAny_execs_cons->D9,Arguments->Ee,swapsWith->Eh,wpAny_execs_nil->Et,wpAny_call->Eu,wpAny_typeOf->Ez,codeAny_call_builtin->EG,constantsAlone->EU,wpAny_newFunctionEnv_cells->E6,Comprehension->E9,wpAny_letOwnedTupleGo_enum->Fc,foldedForSure->Ff,wpAny_sequenceKey->Fp,slot_list_getitem->Fq,wpAny_Call_ofName->Fv,builtinsNs->Fy,cameBackBy->FD,noFill_tuple_add->FG,wpAny_getItem_list_slice->FI,wpAny_comprehension_free->FN,wpAny_Dict_empty->FP,wpAny_pyNext_enum_itemD->FW,DictEntry->FZ,importedModules->F0,isCodeTable->Gd,newFunctionEnv->Gj,wpAny_setField->Gn,bindArgs->Gr,typeLookup->Gs,closureFor->Gv,seq_tuple_add->GB,lastMarks->GF,slicePick->GG
open PySem.Around renaming frames_deeper->Ey
open PySem.AutoSeq1 renaming idx_int->FO
open PySem.Builtin.List renaming listTooLong->DF
open PySem.Builtin.Range renaming rangeSize->AS
open PySem.Builtin.Slice renaming sliceAdjust->Bo,slicePlaces->Bz,sliceApplied->CA,sliceFields->FA
open PySem.Builtin.SmallTypes renaming nextOf->CI
open PySem.Builtin.Tuple renaming tupleExact->Bq,tupleItemsOf->Dp,tupleTooMany->Dq,tupleIsExact->Fb
open PySem.Calls renaming Constant_str->Dz,evalArgs_plain->EA,Name_function_global->E4
open PySem.Code renaming quiet_builtin->E1
open PySem.Data renaming fields->Ga
open PySem.Expr renaming Name->Ek,JoinedStr->Gg,Attribute->Gh,Subscript->Gi,Constant->GC
open PySem.Expr.Compare renaming elim->Ft
open PySem.Expr.FormattedValue renaming elim->FL
open PySem.Expr.ListComp renaming elim->EX
open PySem.Expr.Tuple renaming elim->F4
open PySem.F renaming slot_int_rmul->Ce,slot_tuple_iterator_next->CB,typeOf_object_class->Dg,slot_tuple_mul->Dk,args_tuple_add_2->DE,entry_tuple_add->DV,plainAttrs_list->DW,args_int_rmul_2->DY,slot_tuple_add->D2,slot_int_index->Ea,entry_int_rmul->Eb,fills_int_mul->EB,slot_gs_get->EM,args_tuple_iterator_next_1->ES,args_tuple_mul_2->EY,entry_tuple_iterator_next->EZ,excBase_ValueError->Fd,excAttr_ValueError->Fe,entry_tuple_mul->Fu
open PySem.Flow renaming next->GD
open PySem.Heap renaming get?_push_of_some->nx,lt_size->Ak,get?_push_size->AB,size_push->Bi,get?_update_other->C6,SameBut->Dy,MadeExcOf->DR,get?_update_self->Ej,get?_none_of_le->Es
open PySem.Heap.IsSliceOf renaming new->EW
open PySem.NameKind renaming free->AH,cell->Bk,globalImplicit->DX
open PySem.Obj renaming mapSeq->FC
open PySem.Paired renaming length->GA
open PySem.PyData renaming eqv->B0,weightAll->FQ,canLay0->Gp
open PySem.SeqAt renaming EqAt->Bc
open PySem.Str renaming ofString->De,empty->Ei
open PySem.Value renaming ref->A5,none->Ck,bool->Cm,builtin->D8,type->Fx,int->F1,str->F2
open PySem.Value.type renaming inj->Df
open PySem.W renaming Frag->Ag,behindTheImports->Bx,nsIn->BC,kia_one->BF,fnOf->BK,codeIn->BO,keepIn->B4,topFrame->C1,mg_of->Dr,callWith_K->DB,cellsFrom_some->D1,tabObj->ET,recOk->E3,methodObj->Fj,openGood->FF,instObj->F3,lookIn->Ge,kitOne->Gf,piecesOf->Gq,fencedOpening->Gz
open PySem.Walks renaming list->Gx
open Sum renaming inl->Ef,inr->Eg
open True renaming intro->Be
section
namespace Hd
open PySem
inductive G where
 |a (i:Int)|c (x:Str)|b (ns:List Int)
noncomputable def args(s:Stmt):Ee:=match s with
 |.FunctionDef _ a _ _ _ _ _ _ _ _=>a
 |_=>{posonlyargs:=[],args:=[],vararg:=none,kwonlyargs:=[],kw_defaults:=[],kwarg:=none,defaults:=[]}
noncomputable def body(s:Stmt):List Stmt:=match s with
 |.FunctionDef _ _ b _ _ _ _ _ _ _=>b
 |_=>[]
noncomputable def scope(s:Stmt):Scope:=match s with
 |.FunctionDef _ _ _ _ _ _ sc _ _ _=>sc
 |_=>{kind:=.function,names:=[],isGenerator:=false,isCoroutine:=false}
noncomputable def posOf(s:Stmt):Pos:=match s with
 |.FunctionDef _ _ _ _ _ _ _ _ _ p=>p
 |_=>⟨0,0,0,0⟩
def UA(x:Str)(st:Stmt):DefRec:=⟨x,args st,body st,scope st,posOf st⟩
noncomputable def Pb:List Str:=["len","all","any","tuple","list","sorted","repr","max","min","sum","int","isinstance","divmod","str","bool","dict","set","range","enumerate","zip"]
noncomputable def ly:List Value->Option (List Int)
 |[]=>some []
 |.int i _::r=>(ly r).map (i::·)
 |_=>none
noncomputable def nsH(h:Heap)(x:Str):Option (Option Value):=match h.get? AL with
 |some o=>BC [(AL,o)] AL x
 |none=>none
noncomputable def RE(fd:BQ):BQ:={fd with kwdefaults:=.none,doc:=.none,pyModule:=.none,annotations:=none,code:=.none,closureTuple:=.none}
noncomputable def x8(o:Obj):Bool:=(match o.cls with|.none=>true|_=>false)&&(match o.data with|.fields _=>true|_=>false)
def bK(h:Heap)(cd:Value)(x:Str):Bool:=match cd with
 |.ref c=>(match h.get? c with
  |some o=>!x8 o&&BO [(c,o)] (.ref c) x
  |none=>false)
 |_=>false
def Xr(h:Heap)(x:Str):Option BQ:=match nsH h x with
 |some (some (.ref f))=>(match h.get? f with
  |some ⟨_,_,.func fd,_⟩=>if bK h fd.code x then some (RE fd) else none
  |_=>none)
 |_=>none
def Wx(p:Str × Stmt):Option BQ:=some (BK p.1 p.1 (args p.2) (body p.2) (scope p.2) .none .none .none .none none .none .none)
def glB(h:Heap)(x:Str):G->Bool
 |.a i=>(match nsH h x with|some (some (.int j _))=>decide (i=j)|_=>false)
 |.c y=>(match nsH h x with|some (some (.str z _))=>decide (y=z)|_=>false)
 |.b ns=>(match nsH h x with
  |some (some (.ref a))=>(match h.get? a with
   |some ⟨.type n,_,.seq us _,_⟩=>decide (n="tuple")&&decide (us.toList.length<=1000)&&decide (ly us.toList=some ns)
   |_=>false)
  |_=>false)
def blB(h:Heap)(x:Str):Bool:=match nsH h x with|some none=>true|_=>false
def a9(D:List (Str × Stmt))(gl:List (Str × G))(s:Shared):List (Option BQ) × Bool:=(D.map λp=>Xr s.heap p.1,gl.all (λp=>glB s.heap p.1 p.2)&&Pb.all λx=>blB s.heap x)
def YM(D:List (Str × Stmt)):List (Option BQ) × Bool:=(D.map Wx,true)
end Hd
end
section
namespace Hd
open PySem PySem.W
noncomputable def hsh(w:World)(x:Str):Int:=reduceHash (w.params.strHash x.cps)
def ent(w:World)(x:Str)(t:Tok)(v:Value):FZ:=⟨hsh w x,.str x t,v⟩
def Yj(w:World)(n:Nat)(t:Tok)(b:Addr)(md:Value)(x:Str)(l:Int):List Obj:=
 [{cls:=.type "tuple",data:=.seq #[.ref b]},
  {cls:=.type "builtin_function_or_method",data:=.fields #[.builtin "type.__prepare__",.type "type"]},
  {cls:=.type "dict",data:=.dict #[ent w "__module__" (t+7) md,ent w "__qualname__" (t+9) (.str x (t+8)),ent w "__firstlineno__" (t+11) (.int l (t+10)),ent w "__static_attributes__" (t+12) (.ref (n+7))] 4},
  {cls:=.type "tuple",data:=.seq #[]},
  {cls:=.none,data:=.fields #[]},
  {cls:=.type "code",data:=.fields #[.str x (t+2),.str x (t+3),.str "/claim/cut.py" (t+4),.int l 0,.int 0 0,.int 0 0,.int 0 0,.int 0 0,.ref (n+3),.bool false,.int 181 0,.ref (n+4),.none,.none,.none,.none,.int (t+5) 0,.int l 0,.str "/claim/cut.py" (t+6)]},
  {cls:=.type "frame",data:=.plain,slots:=#[some (.ref (n+5)),some (.ref 3),some (.ref (n+2)),none,some md,none,some (.ref 0)]},
  {cls:=.type "tuple",data:=.seq #[]},
  {cls:=.type "dict",data:=.dict #[ent w "__module__" (t+7) md,ent w "__firstlineno__" (t+11) (.int l (t+10)),ent w "__static_attributes__" (t+12) (.ref (n+7)),ent w "__doc__" (t+13) .none] 2},
  {cls:=.type "type",data:=.cls {name:=x,bases:=[.ref b],mro:=[.ref (n+9),.ref b,.type "ValueError",.type "Exception",.type "BaseException",.type "object"],ns:=n+8,qualname:=x},slots:=#[some (.ref n),none,some (.str x t),some (.str x (t+8)),some (.builtin "ValueError.__new__"),some (.bool true)]},
  {cls:=.type "super",data:=.fields #[.ref (n+9),.ref (n+9),.ref (n+9)]},
  {cls:=.type "builtin_function_or_method",data:=.fields #[.builtin "object.__init_subclass__",.ref (n+9)]}]
def bG(w:World)(b:Addr)(md:Value):Nat->Nat->List (Str × Int)->List Obj
 |_,_,[]=>[]
 |n,t,c::cs=>Yj w n t b md c.1 c.2++bG w b md (n+12) (t+16) cs
def bb(w:World):Nat->Nat->List (Str × Int)->List FZ
 |_,_,[]=>[]
 |n,t,c::cs=>ent w c.1 (t+15) (.ref (n+9))::bb w (n+12) (t+16) cs
noncomputable def bJ:Nat->List (Str × Int)->List Value
 |_,[]=>[]
 |n,c::cs=>.int c.2 0::.int 0 0::.ref (n+5)::bJ (n+12) cs
noncomputable def YC:Nat->List (Str × Int)->List Value
 |_,[]=>[]
 |n,_::cs=>.ref (n+9)::YC (n+12) cs
noncomputable def P9(es':List FZ):Obj->Obj
 |⟨c,d,.dict es n,s⟩=>⟨c,d,.dict ⟨es.toList++es'⟩ (n+es'.length),s⟩
 |o=>o
noncomputable def OB(vs':List Value):Obj->Obj
 |⟨c,d,.fields vs,s⟩=>⟨c,d,.fields ⟨vs.toList++vs'⟩,s⟩
 |o=>o
noncomputable def OA(vs':List Value):Obj->Obj
 |⟨c,d,.cls k,s⟩=>⟨c,d,.cls {k with subclasses:=k.subclasses++vs'},s⟩
 |o=>o
noncomputable def atL(f:Obj->Obj):Nat->List Obj->List Obj
 |_,[]=>[]
 |0,o::os=>f o::os
 |n+1,o::os=>o::atL f n os
noncomputable def bO(st:Stmt):Stmt:=match st with
 |.ClassDef _ _ _ b _ _ _ _ _ _ _=>b.getD 0 st
 |_=>st
def SY(w:World)(n:Nat)(t:Tok)(b:Addr)(md:Value)(st:Stmt)(l:Int):List Obj:=
 let x:Str:="TooGreat";let f:BQ:={name:="__init__",qualname:="TooGreat.__init__",params:=args (bO st),body:=.stmts (body (bO st)),scope:=scope (bO st),globals:=0,closure:=[],defaults:=.none,kwdefaults:=.none}
 [{cls:=.type "tuple",data:=.seq #[.ref b]},
  {cls:=.type "builtin_function_or_method",data:=.fields #[.builtin "type.__prepare__",.type "type"]},
  {cls:=.type "dict",data:=.dict #[ent w "__module__" (t+7) md,ent w "__qualname__" (t+9) (.str x (t+8)),ent w "__firstlineno__" (t+11) (.int l (t+10)),ent w "__init__" (t+20) (.ref (n+13)),ent w "__static_attributes__" (t+23) (.ref (n+14))] 5},
  {cls:=.type "tuple",data:=.seq #[]},
  {cls:=.none,data:=.fields #[.int (l+2) 0,.int 4 0,.ref (n+12)]},
  {cls:=.type "code",data:=.fields #[.str x (t+2),.str x (t+3),.str "/claim/cut.py" (t+4),.int l 0,.int 0 0,.int 0 0,.int 0 0,.int 0 0,.ref (n+3),.bool false,.int 181 0,.ref (n+4),.none,.none,.none,.none,.int (t+5) 0,.int l 0,.str "/claim/cut.py" (t+6)]},
  {cls:=.type "frame",data:=.plain,slots:=#[some (.ref (n+5)),some (.ref 3),some (.ref (n+2)),none,some md,none,some (.ref 0)]},
  {cls:=.type "tuple",data:=.seq #[]},
  {cls:=.none,data:=.fields #[]},
  {cls:=.type "tuple",data:=.seq #[.str "self" (t+15),.str "many" (t+16),.str "most" (t+17)]},
  {cls:=.type "tuple",data:=.seq #[]},
  {cls:=.none,data:=.func f},
  {cls:=.type "code",data:=.fields #[.str "__init__" (t+12),.str "TooGreat.__init__" (t+13),.str "/claim/cut.py" (t+14),.int (l+2) 0,.int 3 0,.int 0 0,.int 0 0,.int 3 0,.ref (n+7),.bool true,.int 181 0,.ref (n+8),.none,.ref (n+9),.ref (n+10),.ref (n+11),.int (t+18) 0,.int (l+2) 0,.str "/claim/cut.py" (t+19)]},
  {cls:=.type "function",data:=.func {f with globals:=3,pyModule:=md,code:=.ref (n+12)}},
  {cls:=.type "tuple",data:=.seq #[.str "many" (t+21),.str "most" (t+22)]},
  {cls:=.type "dict",data:=.dict #[ent w "__module__" (t+7) md,ent w "__firstlineno__" (t+11) (.int l (t+10)),ent w "__init__" (t+20) (.ref (n+13)),ent w "__static_attributes__" (t+23) (.ref (n+14)),ent w "__doc__" (t+24) .none] 2},
  {cls:=.type "type",data:=.cls {name:=x,bases:=[.ref b],mro:=[.ref (n+16),.ref b,.type "ValueError",.type "Exception",.type "BaseException",.type "object"],ns:=n+15,qualname:=x},slots:=#[some (.ref n),none,some (.str x t),some (.str x (t+8)),some (.builtin "ValueError.__new__"),some (.bool true)]},
  {cls:=.type "super",data:=.fields #[.ref (n+16),.ref (n+16),.ref (n+16)]},
  {cls:=.type "builtin_function_or_method",data:=.fields #[.builtin "object.__init_subclass__",.ref (n+16)]}]
def tgF(w:World)(n t:Nat)(b:Addr)(md:Value)(cs:List (Str × Int))(st:Stmt)(l:Int)(s:Shared):Shared:=
 let m:=n+12*cs.length;let u:=t+16*cs.length
 {s with toks:=u+27,heap:={s.heap with objs:=⟨atL (P9 (bb w n t cs++[ent w "TooGreat" (u+26) (.ref (m+16))])) 3 (atL (OB (bJ n cs++[.int l 0,.int 0 0,.ref (m+5)])) 12 (atL (OA (YC n cs++[.ref (m+16)])) b s.heap.objs.toList))++(bG w b md n t cs++SY w m u b md st l)⟩}}
noncomputable def uR(p:Program):Env:={scope:=p.main.scope,locals:=mainNs,globals:=mainNs,cells:=[],code:=.ref 13,frame:=some 14}
noncomputable def n5:Option Value:=some (.ref 6)
noncomputable def S0(p:Program)(w:World):Shared:=(Gz BG p w 100000).getD (start (opening p)).1
def SA(p:Program)(w:World):Shared:=((topGo BG p w 11 n5 12 (S0 p w) (topStub p)).map Prod.fst).getD (S0 p w)
noncomputable def Bd(p:Program)(k:Nat):List Stmt:=(Bx p).take 2++(((Bx p).drop 2).take k++(Bx p).drop (2+k))
def Cd(p:Program)(k:Nat):Code:=.body (Bd p k) (uR p)
def S1(p:Program)(k:Nat)(w:World):Shared:=((segRun BG p w 11 n5 1 1000 (SA p w) (Gq ((Bx p).take 2) (uR p) (Cd p k) default [C1 default])).map λr=>r.2.1).getD (SA p w)
noncomputable def Tu(l:Nat):Pos:=⟨l,0,l+1,8⟩
noncomputable def Tv(l:Nat):Pos:=⟨l,0,l+5,24⟩
def S3(p:Program)(cs:List (Str × Int))(l:Nat)(w:World):Shared:=tgF w 28 207 24 (.str "evenhues.errors" 187) cs ((Bx p).getD (2+cs.length) (.Pass ⟨0,0,0,0⟩)) l (S1 p (cs.length+1) w)
noncomputable def chk(p:Program)(h:Heap)(z:Shared):Option Shared:=match staticsOk (F0 p.main.body) h z.heap&&namesBound p z.heap&&gensDone z&&laidKept h z.heap with
 |true=>some z
 |false=>none
theorem eL{Yf}{Ya:World->α}{T0 TA T1 T2:World->Shared}
 (hc:cd=.body (l1++(l2++l3)) env)
 (h0:∀w,Gz BG p w N=some (T0 w))
 (h1:∀w,((T0 w).heap.isNs AL&&(T0 w).gens.size == 0,(T0 w).heap.objs.size,(T0 w).heap.nsMap AL "__annotations__")=(true,m,ann))
 (hA:∀w,topGo BG p w m ann k0 (T0 w) (topStub p)=some (TA w,⟨denote BG (.body (l1++(l2++l3)) env),cd,b0,[C1 qq]⟩))
 (hB:∀w,segRun BG p w m ann 1 1 (TA w) (blockOf (l1++(l2++l3)) env cd b0 [C1 qq])=some (.next,TA w,cd,b0))
 (hC:∀w,segRun BG p w m ann 1 n1 (TA w) (Gq l1 env cd b0 [C1 qq])=some (.next,T1 w,cd,b1))
 (hD:∀w,segRun BG p w m ann 1 n2 (T1 w) (Gq l2 env cd b1 [C1 qq])=some (.next,T2 w,cd,b2))
 (hE:∀w,((topRun BG p w m ann n3 (T2 w) (restOf l3 env cd b2 [C1 qq])).bind (chk p (T0 w).heap)).map (λz=>(openSeen q loose (F0 p.main.body) Xt true z,Yf z))=some (FF q loose,Ya w))
 (le:Nat.ble (k0+(1+(n1+(n2+n3)))) N=true):LeftO p q loose Xt Yf Ya N:=λw=>by
 have hs:=h1 w;simp only[Prod.mk.injEq]at hs;obtain⟨r,k1,k2⟩:=A4.mp (hE w);obtain⟨r',k3,k4⟩:=DT.mp k1;have go:=topRun_mono (N-(k0+(1+(n1+(n2+n3))))) _ _ _ _ (go_top (hA w) (piece_block (hB w) (piece_app (hC w) (piece_app (hD w) k3))));rw[Nat.add_sub_cancel' (Nat.le_of_ble_eq_true le)]at go;have tf:topFrom BG p w N (T0 w)=some r:=by unfold topFrom;rw[hs.1,hs.2.1,hs.2.2];dsimp only;rw[go];unfold chk at k4;exact k4
 unfold openEnds;rw[h0 w,Option.bind_some,tf];exact congrArg some k2
theorem glue{α β γ δ ε:Type}{o:Option Shared}{f:Shared->α × β × γ × δ}{g}{v}{u:ε}(h0:o.map (λz=>(f z).1)=some v.1)(h1:o.map (λz=>(f z).2.1)=some v.2.1)(h2:o.map (λz=>(f z).2.2.1)=some v.2.2.1)(h3:o.map (λz=>(f z).2.2.2)=some v.2.2.2)(h4:o.map g=some u):o.map (λz=>(f z,g z))=some (v,u):=by
 cases o with
 |none=>cases h4
 |some z=>
  obtain⟨a,b,c,d⟩:=v;exact congrArg some (Dx (Dx (Aw h0) (Dx (Aw h1) (Dx (Aw h2) (Aw h3)))) (Aw h4))
end Hd
end
section
namespace Hd
open PySem PySem.W
structure XT where
 a:List Str
 c:List Str
 b:List Str
def adH(h:Heap)(x:Str):Option Addr:=match nsH h x with
 |some (some (.ref a))=>some a
 |_=>none
def V7(h:Heap)(x:Str):List (Addr × Obj):=match adH h x with
 |some a=>(match h.get? a with
  |some o=>(match o.data with
   |.cls cd=>(a,o)::(match h.get? cd.ns with
    |some n=>if x8 n then [] else [(cd.ns,n)]
    |none=>[])
   |_=>[])
  |none=>[])
 |none=>[]
def kcH(h:Heap):List Str->Frag
 |[]=>[]
 |x::xs=>V7 h x++kcH h xs
noncomputable def veM:List Value:=[.type "ValueError",.type "Exception",.type "BaseException",.type "object"]
noncomputable def YV(K:Frag)(C:Addr):Bool:=(findIn K (.ref C) "__getattribute__" == some (some (.builtin "BaseException.__getattribute__")))&&(findIn K (.ref C) "__getattr__" == some none)&&(findIn K (.ref C) "__class__" == some (some (.builtin "object.__class__"))) &&
 (subIn K (.ref C) (.type "BaseException") == some true)&&(subIn K (.ref C) (.type "object") == some true)&&(clsIn K C).isSome
def aw(h:Heap)(C:Addr)(bm:List Value):Bool:=match h.get? C with
 |some o=>(match o.data with
  |.cls cd=>(cd.mro == .ref C::bm)&&(match h.get? cd.ns with
   |some n=>!x8 n
   |none=>false)
  |_=>false)
 |none=>false
def bmB(h:Heap):Bool:=match adH h "__builtins__" with
 |some b=>(match h.get? b with
  |some o=>!x8 o
  |none=>false)
 |none=>false
def iy(h:Heap)(x:Str):Option Addr:=match adH h x with
 |some f=>(match h.get? f with
  |some o=>(match o.data with
   |.func fd=>(match fd.code with
    |.ref c=>(match h.get? c with
     |some oc=>(match oc.data with
      |.fields vs=>(match (vs[11]?:Option Value) with
       |some (.ref P)=>some P
       |_=>none)
      |_=>none)
     |none=>none)
    |_=>none)
   |_=>none)
  |none=>none)
 |none=>none
def mf(X:XT)(h:Heap):Bool:=match adH h "HueError" with
 |none=>false
 |some hue=>X.a.all (λc=>(adH h c).isSome)&&blB h "ValueError"&&X.c.all (λc=>match adH h c with
  |none=>false
  |some C=>YV (kcH h ("HueError"::X.a)) C&&(exmOne (kcH h ("HueError"::X.a)) (.ref C) (.ref hue) == some true)&&X.a.all (λd=>kitOne (kcH h ("HueError"::X.a)) (.ref C) (.ref ((adH h d).getD 0)) == some (decide (d=c))) &&
   (kitOne (kcH h ("HueError"::X.a)) (.ref C) (.type "ValueError") == some true)&&aw h C (.ref hue::veM)) &&
  aw h hue veM&&bmB h&&decide ((X.b.map (iy h)).Nodup)
theorem Rb{α β γ:Type}{z:Option γ}{f:γ->α}{g:γ->β}{p}{a}{b}(h1:z.map (λz=>(f z,g z))=some (a,b))(h2:z.map p=some true):z.map (λz=>(f z,(g z,p z)))=some (a,(b,true)):=by
 cases z with
 |none=>cases h1
 |some z=>
  simp only[Ep,Fi,Prod.mk.injEq]at h1 h2 ⊢;exact⟨h1.1,h1.2,h2⟩
end Hd
end
section
set_option maxHeartbeats 0
open PySem PySem.W PyProof.Rows
namespace P71
noncomputable def top(i:Nat):Stmt:=PySem.Challenge.pw_evenhues_k71_stands_looked_at.main.body.getD i (.Pass ⟨0,0,0,0⟩)
def D:List (Str × Stmt):=(("is_whole":Str),top 22)::(("are_wholes":Str),top 23)::(("need_whole":Str),top 24)::(("need_size":Str),top 25)::(("need_length":Str),top 26)::(("most_step":Str),top 28)::(("rows_in":Str),top 29)::(("is_one_hue":Str),top 31)::(("other_hand":Str),top 36)::(("has_row":Str),top 37)::(("hand_due":Str),top 38)::(("is_marked":Str),top 39)::(("is_in_turn":Str),top 40)::(("is_stand":Str),top 41)::(("need_stand":Str),top 42)::(("winner":Str),top 43)::(("free_places":Str),top 44)::(("behind_taking":Str),top 45)::(("hand_on":Str),top 46)::(("won_by":Str),top 47)::(("may_take":Str),top 48)::(("taken":Str),top 49)::(("_law_cell_at":Str),top 51)::(("_law_pen":Str),top 52)::(("_law_draw":Str),top 53)::(("_law_kind":Str),top 54)::(("_law_got":Str),top 55)::(("_law_has":Str),top 56)::(("_law_free":Str),top 57)::(("_law_hand":Str),top 58)::(("_law_put":Str),top 59)::(("_law_played":Str),top 60)::(("_law_good":Str),top 62)::(("_law_stand_right":Str),top 63)::(("law":Str),top 64)::[]
noncomputable def gl:List (Str × Hd.G):=[("MOST_PLACES",.a 40),("LEAST_SIZE",.a 2),("MOST_SIZE",.a 8),("FREE",.a 0),("HANDS",.b [1,2]),("MOST_STAND_PLACES",.a 8)]
def q:Program:={PySem.Challenge.pw_evenhues_k71_stands_looked_at with main:={PySem.Challenge.pw_evenhues_k71_stands_looked_at.main with body:=[1,2,3,4,5,6,7,8,9,10,11,12,13,14,15,16,17,19,20,21,22,23,24,25,26,28,29,31,33,34,35,36,37,38,39,40,41,42,43,44,45,46,47,48,49,51,52,53,54,55,56,57,58,59,60,61,62,63,64].map top}}
def dd:DefRec:=Hd.UA "law" (top 64)
noncomputable def X:Hd.XT:=⟨["NoStrip","NoSizes","NoNumber","NoPlace","NoHue","NoDraft","NoPaper","NoFit","TooGreat","NoLot","NoRing","NoRound","NoStand","NoText","NoDeed","NoLine"],["NoNumber","NoPlace","NoStand"],["_law_stand_right","law"]⟩
noncomputable abbrev pr:Program:=PySem.Challenge.rw_evenhues_k71_stands_looked_at.row.prog
noncomputable def V8:List (Str × Int):=[("NoStrip",4),("NoSizes",6),("NoNumber",8),("NoPlace",10),("NoHue",12),("NoDraft",14),("NoPaper",16),("NoFit",18),("NoLot",20),("NoRing",22),("NoRound",24),("NoStand",26),("NoText",28),("NoDeed",30),("NoLine",32)]
def Fz(w:World):Option Shared:=(topRun BG pr w 11 Hd.n5 50000 (Hd.S3 pr V8 34 w) (restOf ((Bx pr).drop 18) (Hd.uR pr) (Hd.Cd pr 16) (Hd.Tv 34) [C1 default])).bind (Hd.chk pr (Hd.S0 pr w).heap)
def Sn(z:Shared):=openSeen q [] (F0 pr.main.body) (λs=>E3 PySem.Challenge.rw_evenhues_k71_stands_looked_at.row.records s) true z
theorem e2:∀w,(Fz w).map (λz=>(Sn z).2.2.1)=some (FF q []).2.2.1:=by
 intro w
 kernel_rfl
theorem e3:∀w,(Fz w).map (λz=>(Sn z).2.2.2)=some (FF q []).2.2.2:=by
 intro w
 kernel_rfl
theorem e1:∀w,(Fz w).map (λz=>(Sn z).2.1)=some (FF q []).2.1:=by
 intro w
 kernel_rfl
theorem e0:∀w,(Fz w).map (λz=>(Sn z).1)=some (FF q []).1:=by
 intro w
 kernel_rfl
theorem e4:∀w,(Fz w).map (Hd.a9 D gl)=some (Hd.YM D):=by
 intro w
 kernel_rfl
theorem e5:∀w,(Fz w).map (λz=>Hd.mf X z.heap)=some true:=by
 intro w
 kernel_rfl
theorem h0:∀w,Gz BG pr w 100000=some (Hd.S0 pr w):=by
 intro w
 kernel_rfl
theorem h1:∀w,((Hd.S0 pr w).heap.isNs AL&&(Hd.S0 pr w).gens.size == 0,(Hd.S0 pr w).heap.objs.size,(Hd.S0 pr w).heap.nsMap AL "__annotations__")=(true,11,Hd.n5):=by
 intro w
 kernel_rfl
theorem hA:∀w,topGo BG pr w 11 Hd.n5 12 (Hd.S0 pr w) (topStub pr)=some (Hd.SA pr w,⟨denote BG (.body (Hd.Bd pr 16) (Hd.uR pr)),Hd.Cd pr 16,default,[C1 default]⟩):=by
 intro w
 kernel_rfl
theorem hB:∀w,segRun BG pr w 11 Hd.n5 1 1 (Hd.SA pr w) (blockOf (Hd.Bd pr 16) (Hd.uR pr) (Hd.Cd pr 16) default [C1 default])=some (.next,Hd.SA pr w,Hd.Cd pr 16,default):=by
 intro w
 kernel_rfl
theorem hC:∀w,segRun BG pr w 11 Hd.n5 1 1000 (Hd.SA pr w) (Gq ((Bx pr).take 2) (Hd.uR pr) (Hd.Cd pr 16) default [C1 default])=some (.next,Hd.S1 pr 16 w,Hd.Cd pr 16,Hd.Tu 2):=by
 intro w
 kernel_rfl
theorem hD:∀w,segRun BG pr w 11 Hd.n5 1 20000 (Hd.S1 pr 16 w) (Gq (((Bx pr).drop 2).take 16) (Hd.uR pr) (Hd.Cd pr 16) (Hd.Tu 2) [C1 default])=some (.next,Hd.S3 pr V8 34 w,Hd.Cd pr 16,(Hd.Tv 34)):=by
 intro w
 kernel_rfl
theorem hE:∀w,(Fz w).map (λz=>(Sn z,Hd.a9 D gl z))=some (FF q [],Hd.YM D):=λw=>Hd.glue (e0 w) (e1 w) (e2 w) (e3 w) (e4 w)
theorem left:PySem.W.LeftO pr q [] (λs=>E3 PySem.Challenge.rw_evenhues_k71_stands_looked_at.row.records s) (λz=>(Hd.a9 D gl z,Hd.mf X z.heap)) (λ_=>(Hd.YM D,true)) 100000:=
 Hd.eL (p:=pr) (T0:=Hd.S0 pr) (TA:=Hd.SA pr) (T1:=Hd.S1 pr 16) (T2:=Hd.S3 pr V8 34) (N:=100000) (m:=11) (k0:=12) (n1:=1000) (n2:=20000) (n3:=50000) (ann:=Hd.n5) (env:=Hd.uR pr) (l1:=(Bx pr).take 2) (l2:=((Bx pr).drop 2).take 16) (l3:=(Bx pr).drop 18) (cd:=Hd.Cd pr 16) (b0:=default) (b1:=Hd.Tu 2) (b2:=(Hd.Tv 34)) (qq:=default) rfl h0 h1 hA hB hC hD (λw=>Hd.Rb (hE w) (e5 w)) (by decide +kernel)
theorem SG:PySem.Challenge.rw_evenhues_k71_stands_looked_at.wellSaid=true:=by kernel_rfl
theorem bt:PySem.W.defOf q PySem.Challenge.rw_evenhues_k71_stands_looked_at.row.name=some (dd,[]):=by kernel_rfl
theorem hp:PySem.Challenge.rw_evenhues_k71_stands_looked_at.row.prog.theDef PySem.Challenge.rw_evenhues_k71_stands_looked_at.row.name=some (dd.params,dd.body,dd.scope):=by kernel_rfl
theorem hk:PySem.W.kwWritten? dd.params.kwonlyargs dd.params.kw_defaults=some []:=by kernel_rfl
theorem hwr:(!PySem.Challenge.rw_evenhues_k71_stands_looked_at.row.writes||PySem.Challenge.rw_evenhues_k71_stands_looked_at.row.records.isEmpty)=true:=by kernel_rfl
theorem ok:(PySem.W.chainsOk q&&PySem.W.opensWell PySem.Challenge.rw_evenhues_k71_stands_looked_at.row.prog&&(PySem.W.frees PySem.Challenge.rw_evenhues_k71_stands_looked_at.row.toRowW&&PySem.Challenge.rw_evenhues_k71_stands_looked_at.row.within.isEmpty))=true:=by kernel_rfl
theorem hdf:dd.params.defaults=[]:=by kernel_rfl
theorem bare:PySem.Challenge.rw_evenhues_k71_stands_looked_at.row.prog.bare:=⟨rfl,rfl,rfl,rfl,rfl,by decide +kernel⟩
theorem hw:PySem.Challenge.rw_evenhues_k71_stands_looked_at.row.toRowW.promised:=by w_witness2
end P71
end
section
namespace L2
open PySem PySem.Spec PyProof.Rows
abbrev Key:=Sum Int Str
noncomputable def VS:Key->Value->Bool
 |.inl k,v=>Value.isInt k v
 |.inr x,v=>Value.isStrOf x v
noncomputable def Pk(w:World):Key->Int
 |.inl k=>hashInt k
 |.inr x=>hashStr w x
theorem yU:∀{k} {v},VS k v=true->(∃i t,k=Ef i/\v=F1 i t)\/(∃x t,k=Eg x/\v=F2 x t)
 |.inl i,v,h=>by
  obtain⟨t,e⟩:=Value.isInt_shape (k:=i) (v:=v) h;exact .inl ⟨i,t,rfl,e⟩
 |.inr x,v,h=>by obtain⟨t,e⟩:=Value.isStrOf_shape (x:=x) (v:=v) h;exact .inr ⟨x,t,rfl,e⟩
theorem Uy a b:decide ((Ef a:Key)=Ef b)=(a == b):=by
 by_cases e:a=b
 . subst e;simp
 . have h:¬(Ef a:Key)=Ef b:=λq=>e (Ef.inj q)
   rw[decide_eq_false h];exact(beq_eq_false_iff_ne.mpr e).symm
theorem U1 a b:decide ((Eg a:Key)=Eg b)=decide (a=b):=by
 by_cases e:a=b
 . subst e;simp
 . have h:¬(Eg a:Key)=Eg b:=λq=>e (Eg.inj q)
   rw[decide_eq_false h,decide_eq_false e]
theorem Uz a b:decide ((Ef a:Key)=Eg b)=false:=decide_eq_false (λq=>nomatch q)
theorem U0 a b:decide ((Eg a:Key)=Ef b)=false:=decide_eq_false (λq=>nomatch q)
def mX(prog:Program)(w:World):PySem.KeyKind prog w Key where
 is:=VS
 hash:=Pk w
 inj:=λv a b ha hb=>by
  rcases yU ha with⟨i,t,rfl,rfl⟩|⟨x,t,rfl,rfl⟩
  . rcases yU hb with⟨j,u,rfl,e⟩|⟨y,u,rfl,e⟩
    . injection e with e1 _;rw[e1]
    . exact nomatch e
  . rcases yU hb with⟨j,u,rfl,e⟩|⟨y,u,rfl,e⟩
    . exact nomatch e
    . injection e with e1 _;rw[e1]
 byValue:=λk v h=>by
  rcases yU h with⟨i,t,rfl,rfl⟩|⟨x,t,rfl,rfl⟩<;>rfl
 pyHash:=λhv h=>by
  rcases yU hv with⟨i,t,rfl,rfl⟩|⟨x,t,rfl,rfl⟩
  . exact wpAny_pyHash_int h
  . exact wpAny_pyHash_str h
 eqBool:=λhu hv h=>by
  rcases yU hu with⟨i,t,rfl,rfl⟩|⟨x,t,rfl,rfl⟩
  . rcases yU hv with⟨j,u,rfl,rfl⟩|⟨y,u,rfl,rfl⟩
    . rw[Uy]at h;exact wpAny_eqBool_int h
    . rw[Uz]at h;exact Bc.int_str i t y u _ _ _ _ h
  . rcases yU hv with⟨j,u,rfl,rfl⟩|⟨y,u,rfl,rfl⟩
    . rw[U0]at h;exact Bc.str_int x t j u _ _ _ _ h
    . rw[U1]at h;exact wpAny_eqBool_str h
 «strs»:=λk x t v h=>by
  rcases yU h with⟨i,u,rfl,e⟩|⟨y,u,rfl,e⟩
  . exact nomatch e
  . injection e with e1 _
    subst e1;cases v<;>rfl
inductive V where
 |g|f (b:Bool)|d (i:Int)|e (x:Str)|h (b:Array UInt8)|j (b:UInt64)|c (a:Addr)|k (n:String)
 deriving DecidableEq
def RelV:V->Value->Prop
 |.g,u=>u=Ck
 |.f b,u=>u=Cm b
 |.d i,u=>∃t,u=F1 i t
 |.e x,u=>∃t,u=F2 x t
 |.h b,u=>∃t,u=Value.bytes b t
 |.j b,u=>∃t,u=Value.float b t
 |.c a,u=>u=A5 a
 |.k n,u=>u=Fx n
abbrev Vals:List V->List Value->Prop:=Paired RelV
theorem Vals.length(r:Vals xs us):xs.length=us.length:=GA r
theorem Vals.get:∀{xs} {us} {i:Nat} {x},Vals xs us->xs[i]?=some x->∃u,us[i]?=some u/\RelV x u
 |_,_,_,_,.nil,e=>by simp at e
 |_,_,0,_,.cons r _,e=>by simp at e;subst e;exact⟨_,rfl,r⟩
 |_,_,i+1,x,.cons _ t,e=>by
  obtain⟨u,h1,h2⟩:=Vals.get (i:=i) (x:=x) t (by simpa using e)
  exact⟨u,by simpa using h1,h2⟩
theorem Vals.set(r:RelV x u):∀{xs} {us} i,Vals xs us->Vals (xs.set i x) (us.set i u)
 |_,_,_,.nil=>.nil
 |_,_,0,.cons _ t=>.cons r t
 |_,_,i+1,.cons q t=>.cons q (Vals.set r i t)
theorem Vals.append:∀{xs ys} {us ws},Vals xs us->Vals ys ws->Vals (xs++ys) (us++ws)
 |_,_,_,_,.nil,s=>s
 |_,_,_,_,.cons r t,s=>.cons r (Vals.append t s)
theorem Vals.take:∀{xs} {us} n,Vals xs us->Vals (xs.take n) (us.take n)
 |_,_,0,_=>.nil
 |_,_,_+1,.nil=>.nil
 |_,_,n+1,.cons r t=>.cons r (Vals.take n t)
theorem Vals.drop:∀{xs} {us} n,Vals xs us->Vals (xs.drop n) (us.drop n)
 |_,_,0,r=>r
 |_,_,_+1,.nil=>.nil
 |_,_,n+1,.cons _ t=>Vals.drop n t
theorem Vals.none_of:∀{xs} {us} {i:Nat},Vals xs us->xs[i]?=none->us[i]?=none:=λ{xs us i} r e=>by have h1:=r.length;have h2:xs.length<=i:=CD.mp e;exact CD.mpr (by omega)
def Vw:Option V->Option Value->Prop
 |some v,some u=>RelV v u
 |none,none=>True
 |_,_=>False
def KV{κ:Type}:List (κ × V)->List (κ × Value)->Prop:=Paired λ(p:κ × V) (q:κ × Value)=>p.1=q.1/\RelV p.2 q.2
noncomputable def kV:Key->V
 |.inl i=>.d i
 |.inr x=>.e x
inductive HO where
 /-- a list -/
 |b (xs:List V)
 /-- a tuple (never changes) -/
 |c (xs:List V)
 /-- a dict whose keys are ints and texts;one whose keys are tuples of ints and texts (the empty one is both) -/
 |i (kvs:List (Key × V))|j (kvs:List (List Key × V))
 /-- a set of ints: its members,its size -/
 |l (S:Int->Bool) (n:Nat)
 /-- an instance of the class at C,its dict at dx,its attributes -/
 |k (C dx:Addr) (fs:List (Str × V))
 /-- the dict of the instance at x -/
 |d (x:Addr)
 /-- the dict of an exception -/
 |r (fs:List (Str × V))
 /-- a bound method,f of x -/
 |p (f x:Addr)
 /-- a range object lo,lo+1,.. below hi -/
 |q (lo hi:Int)
 /-- a thing that is known to the object (the script;a dict while a loop walks it): read,never written while it is so -/
 |e (o:Obj) (u:HO)
 /-- a code object's table -/
 |g (ps:Array Value)
 /-- any other thing,by what is true of its one object (a def of one's own: SetO a S n:=HO.ext λh=>..) -/
 |m (φ:Heap->Prop)
abbrev Hp:=Addr->Option HO
def rH(h:Heap)(a:Addr)(items:Array Value):Prop:=∃o,h.get? a=some o/\o.cls=.type "tuple"/\∃n,o.data=.seq items n/\o.dict=none
theorem rH.tup{h:Heap}{a:Addr}{items:Array Value}(x:rH h a items):IsTup h a items:=let ⟨o,e,c,n,d,_⟩:=x;⟨o,e,c,n,d⟩
theorem rH.lt(x:rH h a items):a<h.objs.size:=let ⟨_,e,_⟩:=x;Ak e
theorem rH.new(h:Heap)items:rH (h.push {cls:=.type "tuple",data:=.seq items}) h.objs.size items:=⟨_,AB _ rfl,rfl,_,rfl,rfl⟩
noncomputable def upd(H:Hp)(a:Addr)(o:HO):Hp:=λb=>if b=a then some o else H b
theorem zN:upd H a o a=some o:=by unfold upd;rw[if_pos rfl]
theorem zL(h:b≠a):upd H a o b=H b:=by unfold upd;rw[if_neg h]
theorem zU{H:Hp}(h:H a=some o)(h':H b=none):a≠b:=by intro e;subst e;rw[h]at h';cases h'
section
variable (P:Program)(w:World)
def yQ(H:Hp)(h:Heap)(a:Addr):HO->Prop
 |.b xs=>xs.length<=Av/\∃(its:List Value) (n:Nat),Vals xs its/\h.get? a=some {cls:=.type "list",data:=.seq its.toArray n}
 |.c xs=>xs.length<=Av/\∃its:List Value,Vals xs its/\rH h a its.toArray
 |.i kvs=>kvs.length<=Av/\(a == BW)=false/\∃vs,KV kvs vs/\h.DictOf (mX P w) a vs
 |.j kvs=>kvs.length<=Av/\(a == BW)=false/\∃xs:List (List Key × Addr × Value),
  Paired (λ(p:List Key × V) (q:List Key × Addr × Value)=>p.1=q.1/\H q.2.1=some (.c (p.1.map kV))/\RelV p.2 q.2.2) kvs xs /\
  ∃o es ep,h.get? a=some o/\o.ExactDict/\o.data=.dict es ep/\es.toList=xs.map (entryOfKey (tupleKind (mX P w)))/\(xs.map (·.1)).Nodup
 |.l S n=>h.SetOf (intKind P w) a S n
 |.k C dx fs=>H dx=some (.d a)/\fs.length<=1000/\dx≠a/\h.get? a=some (F3 C dx) /\
  ∃mA,h.Ns1 dx mA/\(∀f,Vw (fs.lookup f) (mA f))/\PySem.Within mA (fs.map (·.1))
 |.d _=>∃o,h.get? a=some o
 |.r fs=>∃mA,h.Ns1 a mA/\∀f,Vw (fs.lookup f) (mA f)
 |.q lo hi=>∃t u v,h.get? a=some {cls:=.type "range",data:=.fields #[.int lo t,.int hi u,.int 1 v]}
 |.e o u=>h.get? a=some o/\yQ H h a u
 |.g ps=>h.get? a=some {cls:=.none,data:=.fields ps}
 |.p f x=>h.get? a=some (Fj (.ref f) (.ref x))
 |.m φ=>φ h/\(∃o,h.get? a=some o)/\∀h1 h2:Heap,φ h1->(∀o,h1.get? a=some o->h2.get? a=some o)->φ h2
def HOk(H:Hp)(h:Heap):Prop:=∀a o,H a=some o->yQ P w H h a o
end
section
variable {P:Program}{w:World}{H H':Hp}{h h':Heap}{a:Addr}{o:HO}
theorem yQ.lt(x:yQ P w H h a o):a<h.objs.size:=by
 cases o with
 |b xs=>obtain⟨_,_,_,_,e⟩:=x;exact Ak e
 |c xs=>obtain⟨_,_,_,p⟩:=x;exact p.lt
 |i kvs=>obtain⟨_,_,_,_,o,_,_,e,_⟩:=x;exact Ak e
 |j kvs=>obtain⟨_,_,_,_,o,_,_,e,_⟩:=x;exact Ak e
 |l S n=>obtain⟨o,_,_,_,e,_⟩:=x;exact Ak e
 |k C dx fs=>obtain⟨_,_,_,e,_⟩:=x;exact Ak e
 |d y=>obtain⟨_,e⟩:=x;exact Ak e
 |r fs=>obtain⟨_,⟨_,_,_,e,_⟩,_⟩:=x;exact Ak e
 |q lo hi=>obtain⟨_,_,_,e⟩:=x;exact Ak e
 |e ob u=>obtain⟨e,_⟩:=x;exact Ak e
 |g ps=>exact Ak (show h.get? a=some _ from x)
 |p f y=>exact Ak (show h.get? a=some _ from x)
 |m φ=>obtain⟨_,⟨_,e⟩,_⟩:=x;exact Ak e
theorem Paired.R5:∀{l₁} {l₂},Paired F l₁ l₂->(∀a b,F a b->G a b)->Paired G l₁ l₂
 |_,_,.nil,_=>.nil
 |_,_,.cons r t,f=>.cons (f _ _ r) (Paired.R5 t f)
theorem yQ.oU(x:yQ P w H h a o)(k:∀b u,(b=a\/H b=some (.d a))->h.get? b=some u->h'.get? b=some u)
 (ho:∀b,H b=some (.d a)->H' b=some (.d a)) (ht:∀b xs,H b=some (.c xs)->H' b=some (.c xs)):yQ P w H' h' a o:=by
 induction o with
 |b xs=>obtain⟨z,its,n,r,e⟩:=x;exact⟨z,its,n,r,k _ _ (.inl rfl) e⟩
 |c xs=>obtain⟨z,its,r,ob,e,c⟩:=x;exact⟨z,its,r,ob,k _ _ (.inl rfl) e,c⟩
 |i kvs=>obtain⟨z,y,vs,r,ob,es,ep,e,c⟩:=x;exact⟨z,y,vs,r,ob,es,ep,k _ _ (.inl rfl) e,c⟩
 |j kvs=>
  obtain⟨z,y,xs,r,ob,es,ep,e,c⟩:=x;exact⟨z,y,xs,Paired.R5 r λp q z=>⟨z.1,ht _ _ z.2.1,z.2.2⟩,ob,es,ep,k _ _ (.inl rfl) e,c⟩
 |l S n=>obtain⟨ob,es,ep,t,e,c⟩:=x;exact⟨ob,es,ep,t,k _ _ (.inl rfl) e,c⟩
 |k C dx fs=>
  obtain⟨d,z,ne,e,mA,⟨od,es,ep,e2,c⟩,r⟩:=x;exact⟨ho _ d,z,ne,k _ _ (.inl rfl) e,mA,⟨od,es,ep,k _ _ (.inr d) e2,c⟩,r⟩
 |d y=>obtain⟨ob,e⟩:=x;exact⟨ob,k _ _ (.inl rfl) e⟩
 |r fs=>obtain⟨mA,⟨od,es,ep,e,c⟩,r⟩:=x;exact⟨mA,⟨od,es,ep,k _ _ (.inl rfl) e,c⟩,r⟩
 |q lo hi=>obtain⟨t,u,v,e⟩:=x;exact⟨t,u,v,k _ _ (.inl rfl) e⟩
 |e ob u ih=>obtain⟨e,q⟩:=x;exact⟨k _ _ (.inl rfl) e,ih q⟩
 |g ps=>
  have e:h.get? a=some {cls:=.none,data:=.fields ps}:=x;show h'.get? a=some {cls:=.none,data:=.fields ps};exact k a _ (.inl rfl) e
 |p f y=>
  have e:h.get? a=some (Fj (.ref f) (.ref y)):=x;show h'.get? a=some (Fj (.ref f) (.ref y));exact k a _ (.inl rfl) e
 |m φ=>obtain⟨p,⟨o,e⟩,st⟩:=x;exact⟨st _ _ p λo q=>k _ _ (.inl rfl) q,⟨o,k _ _ (.inl rfl) e⟩,st⟩
theorem HOk.lt(x:HOk P w H h)(e:H a=some o):a<h.objs.size:=(x a o e).lt
theorem HOk.fresh(x:HOk P w H h)(e:h.objs.size<=a):H a=none:=by
 cases q:H a with
 |none=>rfl
 |some u=>exact absurd (Ax (x.lt q) e) (Bj _)
theorem HOk.kept(x:HOk P w H h)(k:∀b u,h.get? b=some u->h'.get? b=some u):HOk P w H h':=λa o e=>
 (x a o e).oU (λb u _ q=>k b u q) (λ_ q=>q) λ_ _ q=>q
theorem HOk.laid(x:HOk P w H h)(k:∀b u,h.get? b=some u->h'.get? b=some u)(hp:h.objs.size<=a)(new:yQ P w (upd H a o) h' a o):HOk P w (upd H a o) h':=λb u e=>by
 have hn:=x.fresh hp;by_cases hb:b=a
 . subst hb;rw[zN]at e;cases e;exact new
 . rw[zL hb]at e
   exact(x b u e).oU (λc v _ q=>k c v q) (λc q=>by rw[zL (zU q hn)];exact q) λc xs q=>by rw[zL (zU q hn)];exact q
end
def Rd(H:Hp)(a:Addr)(u:HO):Prop:=H a=some u\/∃o,H a=some (.e o u)
theorem Rd.ok(r:Rd H a u)(x:HOk P w H h):yQ P w H h a u:=by
 rcases r with r|⟨o,r⟩
 . exact x a u r
 . obtain⟨_,q⟩:=x a _ r
   exact q
def Mut:Option HO->Prop
 |some (.b _)=>True
 |some (.i _)=>True
 |some (.j _)=>True
 |some (.l _ _)=>True
 |some (.k _ _ _)=>True
 |some (.m _)=>True
 |_=>False
section
variable {P:Program}{w:World}{H:Hp}{h h':Heap}{x e:Addr}{o':HO}
theorem HOk.write(ok:HOk P w H h)(mu:Mut (H x))(he:e=x\/H e=some (.d x))(k:∀b u,b≠e->h.get? b=some u->h'.get? b=some u)(heo:∃u,h'.get? e=some u)
 (new:yQ P w (upd H x o') h' x o'):HOk P w (upd H x o') h':=λb u q=>by
 have nown:∀c y,H c=some (.d y)->c≠x:=λc y r z=>by subst z;rw[r]at mu;exact mu
 have ntup:∀c xs,H c=some (.c xs)->c≠x:=λc xs r z=>by subst z;rw[r]at mu;exact mu
 by_cases hb:b=x
 . subst hb;rw[zN]at q;cases q;exact new
 . rw[zL hb]at q
   by_cases hbe:b=e
   . have q':H b=some (.d x):=by
      rcases he with z|z
      . exact absurd (hbe.trans z) hb
      . rw[hbe];exact z
     rw[q]at q';cases q';obtain⟨v,hv⟩:=heo;exact⟨v,by rw[hbe];exact hv⟩
   . refine(ok b u q).oU (λc v hc r=>k c v ?_ r) (λc r=>by rw[zL (nown c b r)];exact r) λc xs r=>by rw[zL (ntup c xs r)];exact r
     rcases hc with rfl|hc
     . exact hbe
     . rintro rfl
       rcases he with z|z
       . exact nown c b hc z
       . rw[hc]at z;cases z;exact hb rfl
end
structure Un(fs ex:List Addr)(H H':Hp)(h h':Heap):Prop where
 f:∀b o,h.get? b=some o->H b=none->b ∉ fs->b ∉ ex->h'.get? b=some o
 i:∀b o,h.get? b=some o->H b=none->b∈fs->b ∉ ex->∃sl,h'.get? b=some {o with slots:=sl}
 d:∀b o,h.get? b=some o->H b=none->b ∉ ex->H' b=none
 c:∀b o,h.get? b=some o->b ∉ ex->∃o',h'.get? b=some o'
 l:∀b xs,H b=some (.c xs)->H' b=some (.c xs)
 g:∀b o u,H b=some (.e o u)->H' b=some (.e o u)
 j:∀b ps,H b=some (.g ps)->∃more,H' b=some (.g (ps++more))
section
variable {fs fs' ex ex':List Addr}{H H1 H2:Hp}{h h1 h2 h':Heap}{a x e:Addr}{o:HO}
theorem Un.any(u:Un fs ex H H1 h h1)(q:h.get? b=some ob)(n:H b=none)(hx:b ∉ ex):∃sl,h1.get? b=some {ob with slots:=sl}:=by
 by_cases hb:b∈fs
 . exact u.i b ob q n hb hx
 . exact⟨ob.slots,u.f b ob q n hb hx⟩
theorem Un.kept(k:∀b u,h.get? b=some u->h'.get? b=some u):Un fs ex H H h h':=
 ⟨λb ob q _ _ _=>k b ob q,λb ob q _ _ _=>⟨ob.slots,k b ob q⟩,λ_ _ _ n _=>n,λb ob q _=>⟨ob,k b ob q⟩,λ_ _ q=>q,λ_ _ _ q=>q,λ_ ps q=>⟨#[],by rw[q];simp⟩⟩
theorem Un.refl:Un fs ex H H h h:=Un.kept λ_ _ q=>q
theorem Un.laid(k:∀b u,h.get? b=some u->h'.get? b=some u)(hp:h.objs.size<=a)(hn:H a=none):Un fs ex H (upd H a o) h h' where
 f:=λb u q _ _ _=>k b u q
 i:=λb u q _ _ _=>⟨u.slots,k b u q⟩
 d:=λb u q n _=>by rw[zL (AE (Ax (Ak q) hp))];exact n
 c:=λb u q _=>⟨u,k b u q⟩
 l:=λb xs q=>by rw[zL (zU q hn)];exact q
 g:=λb u xs q=>by rw[zL (zU q hn)];exact q
 j:=λb ps q=>⟨#[],by rw[zL (zU q hn),q];simp⟩
theorem Un.write(mu:Mut (H x))(he:e=x\/H e=some (.d x))(k:∀b u,b≠e->h.get? b=some u->h'.get? b=some u)(heo:∃u,h'.get? e=some u):Un fs ex H (upd H x o) h h':=by
 have hx:∀b,H b=none->b≠x:=λb n z=>by subst z;rw[n]at mu;exact mu
 have hb:∀b,H b=none->b≠e:=λb n z=>by
  subst z;rcases he with r|r
  . exact hx b n r
  . rw[n]at r;cases r
 have hm:∀b u,H b=some u->¬Mut (some u)->b≠x:=λb u q nm z=>by subst z;rw[q]at mu;exact nm mu
 refine⟨λb u q n _ _=>k b u (hb b n) q,λb u q n _ _=>⟨u.slots,k b u (hb b n) q⟩,λb u q n _=>by rw[zL (hx b n)];exact n,λb u q _=>?_,
  λb xs q=>by rw[zL (hm b _ q λz=>z)];exact q,λb u xs q=>by rw[zL (hm b _ q λz=>z)];exact q,λb ps q=>⟨#[],by rw[zL (hm b _ q λz=>z),q];simp⟩⟩
 by_cases hbe:b=e
 . subst hbe;exact heo
 . exact⟨u,k b u hbe q⟩
end
noncomputable def trk(h:Heap)(H:Hp):List Addr:=(Aq h.objs.size).filter λa=>(H a).isSome
def mS(h:Heap)(H:Hp):Heap:=PySem.W.hideAll h (trk h H)
theorem fq h H:(mS h H).objs.size=h.objs.size:=PySem.W.hideAll_size _ _
theorem bu(e:h.get? b=some o)(n:H b=none):(mS h H).get? b=some o:=
 PySem.W.hideAll_get _ e λhm=>by have q:(H b).isSome=true:=(Er.mp hm).2;rw[n]at q;simp at q
theorem Xu(e:(mS h H).get? b=some o):h.get? b=some o/\H b=none:=by
 have e':h.get? b=some o:=PySem.W.of_hideAll (trk h H) e;refine⟨e',?_⟩;cases q:H b with
 |none=>rfl
 |some x=>
  have hm:b∈trk h H:=Er.mpr ⟨AZ.mpr (Ak e'),by simp[q]⟩
  have z:(mS h H).get? b=none:=PySem.W.hideAll_none (trk h H) hm;rw[z]at e;cases e
structure Mod(K:Ag)(mg:Str->Option Value)(base:Heap):Prop where
 a:K.In base
 c:base.Ns AL mg
 d:∃mb,base.Ns Fy mb/\∀x:Str,x≠"__name__"->mb x=B9 x
 b:base.NoLimit
structure Cx where
 f:Program
 w:World
 K:Ag
 d:Str->Option Value
 i:Heap
 A:Around
 N:List Str
 l:Shared
 r:Hp
 a:Env
 k:List Env
 g:List Env
 m:List Addr
 n:Str->Bool
 h:Bool
 q:List (Addr × Obj)
 j:Value->Shared->Prop
noncomputable def frs(l:List Env):List Addr:=l.filterMap (·.frame)
abbrev Cx.fs(X:Cx):List Addr:=frs X.k
def Vis(sc:Scope)(x:Str):Prop:=sc.names.lookup x=some .local\/sc.names.lookup x=some .cell\/sc.names.lookup x=some .free
def Loc(sc:Scope)(x:Str):Prop:=sc.names.lookup x=some .local\/sc.names.lookup x=some .cell
def Look(env:Env)(h:Heap)(m:Str->Option Value)(x:Str)(u:Value):Prop:=
 (env.kindOf x=some .local/\m x=some u)\/((env.kindOf x=some .cell\/env.kindOf x=some .free)/\∃c,env.cells.lookup x=some c/\h.IsCell c (some u))
structure Cx.Ok(X:Cx):Prop where
 j:Mod X.K X.d X.i
 a:X.a.scope.kind=.function
 k:X.a.globals=AL
 t:X.a.builtins=Fy
 d:X.l.heap.objs.size<=X.a.locals
 s:∀x y c,X.a.cells.lookup x=some c->X.a.cells.lookup y=some c->x=y
 r:∀x,(X.a.kindOf x=some .cell\/X.a.kindOf x=some .free)->∃c,X.a.cells.lookup x=some c
 q:∀x c,X.n x=true->X.a.cells.lookup x=some c->X.l.heap.objs.size<=c
 i:X.h=true->X.A.handled=none
 g:X.A.frames=some X.g
 w:X.g=X.k\/(X.g=X.a::X.k/\X.a.frame=some X.a.locals)
 G:∀b∈X.m,b≠X.a.locals/\∀x c,X.a.cells.lookup x=some c->c≠b
 B:∀b o,X.i.get? b=some o->X.l.heap.get? b=some o/\X.r b=none
 p:X.i.objs.size<=X.l.heap.objs.size
 m:∀b o,X.i.get? b=some o->b ∉ X.m
 l:∀b∈X.m,b ∉ X.fs
 D:X.l.heap.FunFrames X.i X.k
 u:∀b∈X.fs,X.r b=none
structure Inv(X:Cx)(pins:List (Addr × Obj))(σ:List (Option V))(H:Hp)(s:Shared):Prop where
 B:X.Ok
 R:s.os=X.l.os
 D:AllBare s.gens
 C:Un X.fs X.m X.r H X.l.heap s.heap
 M:∃m,s.heap.Ns X.a.locals m/\∀(i:Nat) (x:Str) (v:V),X.N[i]?=some x->σ[i]?=some (some v)->Vis X.a.scope x->∃u,RelV v u/\Look X.a s.heap m x u
 F:∀x c,X.a.cells.lookup x=some c->∃v,s.heap.IsCell c v
 G:H X.a.locals=none
 J:∀x c,X.a.cells.lookup x=some c->H c=none
 O:∀p∈X.q++pins,s.heap.get? p.1=some p.2/\H p.1=none/\p.1≠X.a.locals/\p.1 ∉ X.fs/\∀v,p.2.data≠.cell v
 j:HOk X.f X.w H s.heap
 P:σ.length=X.N.length
section
variable {X:Cx}{pins:List (Addr × Obj)}{σ:List (Option V)}{H H':Hp}{s:Shared}{h':Heap}
theorem Cx.Ok.Pm(ok:X.Ok)(e:X.i.get? b=some o):b ∉ X.fs:=λhb=>by have:=(ok.D.mem hb).1;rw[e]at this;cases this
theorem Inv.bs(I:Inv X pins σ H s):∀b o,X.i.get? b=some o->s.heap.get? b=some o/\H b=none:=λb o e=>
 ⟨I.C.f b o (I.B.B b o e).1 (I.B.B b o e).2 (I.B.Pm e) (I.B.m b o e),I.C.d b o (I.B.B b o e).1 (I.B.B b o e).2 (I.B.m b o e)⟩
theorem Inv.bk(I:Inv X pins σ H s):∀b o,X.i.get? b=some o->s.heap.get? b=some o:=λb o e=>(I.bs b o e).1
theorem Inv.mod(I:Inv X pins σ H s):Mod X.K X.d X.i:=I.B.j
theorem Inv.kIn(I:Inv X pins σ H s):X.K.In s.heap:=I.B.j.a.keeps I.bk
theorem Inv.lt(I:Inv X pins σ H s):X.a.locals<s.heap.objs.size:=let ⟨_,hn,_⟩:=I.M;hn.lt
theorem Inv.sz(I:Inv X pins σ H s):X.l.heap.objs.size<=s.heap.objs.size:=Au I.B.d (C9 I.lt)
theorem Inv.Pn(I:Inv X pins σ H s)(h:s.heap.objs.size<=a):a ∉ X.fs:=λhb=>by obtain⟨_,o,ho,_⟩:=I.B.D.mem hb;exact absurd (Ax (Ak ho) (Au I.sz h)) (Bj _)
theorem Inv.cne(I:Inv X pins σ H s):∀x c,X.a.cells.lookup x=some c->c≠X.a.locals:=λx c e z=>by obtain⟨v,o,ho,hd⟩:=I.F x c e;obtain⟨m,⟨o',es,ep,ho',hd',_⟩,_⟩:=I.M;rw[z,ho']at ho;cases ho;rw[hd']at hd;cases hd
theorem Inv.sR(I:Inv X pins σ H s):s.heap.FunFrames X.i X.k:=by
 have all:∀(l:List Env),(∀b∈frs l,b∈X.fs)->X.l.heap.FunFrames X.i l->s.heap.FunFrames X.i l:=by
  intro l;induction l with
  |nil=>intro _ _;trivial
  |cons env r ih=>
   intro hs hl;obtain⟨hk,⟨L,o,hf,hn,ho,hd⟩,hr⟩:=hl;have hL:L∈X.fs:=hs L (by unfold frs;rw[AW,hf];exact Ar)
   obtain⟨sl,e⟩:=I.C.i L o ho (I.B.u L hL) hL λz=>I.B.l L z hL;exact⟨hk,⟨L,_,hf,hn,e,hd⟩,ih (λb hb=>hs b (by unfold frs;rw[AW,hf];exact Ah _ hb)) hr⟩
 exact all X.k (λ_ hb=>hb) I.B.D
theorem Inv.stack(I:Inv X pins σ H s):s.heap.FunFrames X.i X.g:=by
 rcases I.B.w with e|⟨e,hf⟩
 . rw[e];exact I.sR
 . rw[e]
   obtain⟨m,hn,_⟩:=I.M;refine .cons (by rw[I.B.a];decide) hf hn ?_ I.sR
   exact Es (Au I.B.p I.B.d)
theorem Inv.ip(I:Inv X pins σ H s):∀b∈frs X.g,b∈X.a.locals::X.fs:=λb hb=>by
 rcases I.B.w with e|⟨e,hf⟩
 . rw[e]at hb;exact Ah _ hb
 . rw[e]at hb
   unfold frs at hb;rw[AW,hf]at hb;exact hb
theorem Inv.lE(I:Inv X pins σ H s):∀b∈frs X.g,H b=none:=λb hb=>by
 rcases Af.mp (I.ip b hb) with e|hb
 . rw[e];exact I.G
 . obtain⟨_,o,ho,_⟩:=I.B.D.mem hb
   exact I.C.d b o ho (I.B.u b hb) λz=>I.B.l b z hb
theorem Inv.step{ch:List Addr}(I:Inv X pins σ H s)
 (hch:∀b∈ch,(b∈X.m\/X.l.heap.objs.size<=b)/\b≠X.a.locals/\(∀x c,X.a.cells.lookup x=some c->c≠b)/\∀p∈X.q++pins,p.1≠b)
 (keep:∀b o,b≠X.a.locals->b ∉ X.fs->b ∉ ch->s.heap.get? b=some o->H b=none->h'.get? b=some o)
 (slot:∀b o,b≠X.a.locals->b∈X.fs->b ∉ ch->s.heap.get? b=some o->H b=none->∃sl,h'.get? b=some {o with slots:=sl}) (free:∀b o,b ∉ ch->s.heap.get? b=some o->H b=none->H' b=none)
 (there:∀b o,b ∉ ch->s.heap.get? b=some o->∃o',h'.get? b=some o')
 (tups:∀b xs,H b=some (.c xs)->H' b=some (.c xs)) (frzs:∀b o u,H b=some (.e o u)->H' b=some (.e o u)) (tbls:∀b ps,H b=some (.g ps)->∃more,H' b=some (.g (ps++more)))
 (ns:∀m,s.heap.Ns X.a.locals m->h'.Ns X.a.locals m) (hok:HOk X.f X.w H' h') (hg:AllBare g') :
 Inv X pins σ H' {s with heap:=h',gens:=g',drawn:=d',toks:=t'}:=by
 have neL:∀b o,X.l.heap.get? b=some o->b≠X.a.locals:=λb o e=>AE (Ax (Ak e) I.B.d);have neC:∀b o,X.l.heap.get? b=some o->b ∉ X.m->b ∉ ch:=λb o e hx hb=>by
  rcases (hch b hb).1 with z|z
  . exact hx z
  . exact absurd (Ax (Ak e) z) (Bj _)
 have cellK:∀x c,X.a.cells.lookup x=some c->∀v,s.heap.IsCell c v->h'.IsCell c v:=λx c e v ⟨o,ho,hd⟩=>by
  have nch:c ∉ ch:=λz=>(hch c z).2.2.1 x c e rfl;by_cases hc:c∈X.fs
  . obtain⟨sl,q⟩:=slot c o (I.cne x c e) hc nch ho (I.J x c e)
    exact⟨_,q,hd⟩
  . exact⟨o,keep c o (I.cne x c e) hc nch ho (I.J x c e),hd⟩
 refine⟨I.B,I.R,hg,⟨λb o e n hb hx=>?_,λb o e n hb hx=>?_,λb o e n hx=>?_,λb o e hx=>?_,λb xs e=>tups b xs (I.C.l b xs e),λb o xs e=>frzs b o xs (I.C.g b o xs e),λb ps e=>?_⟩,?_,λx c e=>?_,?_,λx c e=>?_,λp hp=>?_,hok,I.P⟩
 . exact keep b o (neL b o e) hb (neC b o e hx) (I.C.f b o e n hb hx) (I.C.d b o e n hx)
 . obtain⟨sl,e1⟩:=I.C.i b o e n hb hx
   obtain⟨sl',e2⟩:=slot b _ (neL b o e) hb (neC b o e hx) e1 (I.C.d b o e n hx);exact⟨sl',e2⟩
 . obtain⟨o',e1⟩:=I.C.c b o e hx
   exact free b o' (neC b o e hx) e1 (I.C.d b o e n hx)
 . obtain⟨o',e1⟩:=I.C.c b o e hx
   exact there b o' (neC b o e hx) e1
 . obtain⟨m1,e1⟩:=I.C.j b ps e
   obtain⟨m2,e2⟩:=tbls b _ e1;exact⟨m1++m2,by rw[e2,Array.append_assoc]⟩
 . obtain⟨m,hn,hl⟩:=I.M
   refine⟨m,ns m hn,λi x v e1 e2 e3=>?_⟩;obtain⟨u,r,l⟩:=hl i x v e1 e2 e3;refine⟨u,r,?_⟩;rcases l with l|⟨k,c,e,z⟩
   . exact .inl l
   . exact .inr ⟨k,c,e,cellK x c e _ z⟩
 . obtain⟨v,z⟩:=I.F x c e
   exact⟨v,cellK x c e v z⟩
 . obtain⟨m,⟨o,_,_,ho,_⟩,_⟩:=I.M
   exact free _ o (λz=>(hch _ z).2.1 rfl) ho I.G
 . obtain⟨v,o,ho,hd⟩:=I.F x c e
   exact free c o (λz=>(hch c z).2.2.1 x c e rfl) ho (I.J x c e)
 . obtain⟨e,n,ne,nf,d⟩:=I.O p hp
   have nch:p.1 ∉ ch:=λz=>(hch p.1 z).2.2.2 p hp rfl;exact⟨keep p.1 p.2 ne nf nch e n,free p.1 p.2 nch e n,ne,nf,d⟩
theorem Inv.un(I:Inv X pins σ H s)(u:Un X.fs [] H H' s.heap h')(hok:HOk X.f X.w H' h'):Inv X pins σ H' {s with heap:=h',toks:=t'}:=by
 obtain⟨m,⟨o,es,ep,ho,r⟩,_⟩:=id I.M;obtain⟨sl,hL⟩:=u.any ho I.G (by simp)
 exact I.step (g':=s.gens) (d':=s.drawn) (ch:=[]) (λ_ z=>nomatch z) (λb o _ hb _ e n=>u.f b o e n hb (by simp)) (λb o _ hb _ e n=>u.i b o e n hb (by simp)) (λb o _ e n=>u.d b o e n (by simp)) (λb o _ e=>u.c b o e (by simp)) u.l u.g u.j (λm' hm=>by obtain⟨o',es',ep',ho',r'⟩:=hm;rw[ho]at ho';cases ho';exact⟨_,es',ep',hL,r'⟩) hok I.D
theorem Inv.call(I:Inv X pins σ H s)(u:Un (frs X.g) ch H H' s.heap h')(hok:HOk X.f X.w H' h')(hg:AllBare g')
 (hch:∀b∈ch,(b∈X.m\/X.l.heap.objs.size<=b)/\b≠X.a.locals/\(∀x c,X.a.cells.lookup x=some c->c≠b)/\∀p∈X.q++pins,p.1≠b) :
 Inv X pins σ H' {s with heap:=h',gens:=g',drawn:=d',toks:=t'}:=by
 obtain⟨m,⟨o,es,ep,ho,r⟩,_⟩:=id I.M;obtain⟨sl,hL⟩:=u.any ho I.G λz=>(hch _ z).2.1 rfl;exact I.step (ch:=ch) hch (λb o hL hb hc e n=>u.f b o e n (λz=>(Af.mp (I.ip b z)).elim hL hb) hc) (λb o _ _ hc e n=>u.any e n hc) (λb o hc e n=>u.d b o e n hc) (λb o hc e=>u.c b o e hc) u.l u.g u.j (λm' hm=>by obtain⟨o',es',ep',ho',r'⟩:=hm;rw[ho]at ho';cases ho';exact⟨_,es',ep',hL,r'⟩) hok hg
theorem Inv.turned(I:Inv X pins σ H s)(k:∀b o,b≠it->s.heap.get? b=some o->h'.get? b=some o)(hn:H it=none)(hL:it≠X.a.locals)
 (h1:it∈X.m\/X.l.heap.objs.size<=it) (h2:∀x c,X.a.cells.lookup x=some c->c≠it) (h3:∀p∈X.q++pins,p.1≠it):Inv X pins σ H {s with heap:=h',toks:=t'}:=by
 have nit:∀b u,H b=some u->b≠it:=λb u e z=>by rw[z,hn]at e;cases e
 refine I.step (g':=s.gens) (d':=s.drawn) (ch:=[it]) (λb hb=>?_) (λb o _ _ hc e _=>k b o (λz=>hc (by simp[z])) e) (λb o _ _ hc e _=>⟨o.slots,k b o (λz=>hc (by simp[z])) e⟩) (λ_ _ _ _ n=>n)
  (λb o hc e=>⟨o,k b o (λz=>hc (by simp[z])) e⟩) (λ_ _ e=>e) (λ_ _ _ e=>e) (λb ps e=>⟨#[],by rw[e];simp⟩) (λm hm=>?_) (λb u e=>?_) I.D
 . have e:b=it:=by simpa using hb
   subst e;exact⟨h1,hL,h2,h3⟩
 . obtain⟨o,es,ep,ho,r⟩:=hm
   exact⟨o,es,ep,k _ o (Bu hL) ho,r⟩
 . refine(I.j b u e).oU (λc v hc q=>k c v ?_ q) (λ_ q=>q) λ_ _ q=>q
   rcases hc with z|z
   . rw[z];exact nit b u e
   . exact nit c _ z
theorem Inv.tok(I:Inv X pins σ H s)t:Inv X pins σ H {s with toks:=t}:=I.un (h':=s.heap) (t':=t) Un.refl I.j
theorem Inv.kept(I:Inv X pins σ H s)(k:∀b u,s.heap.get? b=some u->h'.get? b=some u):Inv X pins σ H {s with heap:=h',toks:=t'}:=I.un (Un.kept k) (I.j.kept k)
theorem Inv.laid(I:Inv X pins σ H s)(k:∀b u,s.heap.get? b=some u->h'.get? b=some u)(hp:s.heap.objs.size<=a)(new:yQ X.f X.w (upd H a o) h' a o) :
 Inv X pins σ (upd H a o) {s with heap:=h',toks:=t'}:=I.un (Un.laid k hp (I.j.fresh hp)) (I.j.laid k hp new)
theorem Inv.write(I:Inv X pins σ H s)(mu:Mut (H x))(he:e=x\/H e=some (.d x))(k:∀b u,b≠e->s.heap.get? b=some u->h'.get? b=some u)(heo:∃u,h'.get? e=some u)
 (new:yQ X.f X.w (upd H x o) h' x o):Inv X pins σ (upd H x o) {s with heap:=h',toks:=t'}:=I.un (Un.write mu he k heo) (I.j.write mu he k heo new)
theorem Inv.my{pins':List (Addr × Obj)}(I:Inv X pins σ H s)(h:∀p∈pins',s.heap.get? p.1=some p.2/\H p.1=none/\p.1≠X.a.locals/\p.1 ∉ X.fs/\∀v,p.2.data≠.cell v):Inv X pins' σ H s:=
 ⟨I.B,I.R,I.D,I.C,I.M,I.F,I.G,I.J,λp hp=>(AX.mp hp).elim (λz=>I.O p (Bv _ z)) (h p),I.j,I.P⟩
theorem kK{N:List Str}(hN:N.Nodup){i j:Nat}(a:N[i]?=some x)(b:N[j]?=some x):i=j:=by obtain⟨h1,e1⟩:=Aj.mp a;obtain⟨h2,e2⟩:=Aj.mp b;exact(List.getElem_inj hN).mp (e1.trans e2.symm)
theorem nU{Q:Unit->Shared->Prop}(I:Inv X pins σ H s)(hN:X.N.Nodup)(hi:X.N[i]?=some x)(hx:Loc X.a.scope x)(r:RelV v u)
 (h:∀s',Inv X pins (σ.set i (some v)) H s'->(∃a,Dy a s.heap s'.heap/\(a=X.a.locals\/X.a.cells.lookup x=some a))->Q () s') (hf:X.n x=true\/X.a.scope.names.lookup x=some .local:=by first|exact .inl rfl|exact .inr rfl|assumption):wpAny M A (storeName X.a x u) Q E s:=by
 obtain⟨m,hn,hl⟩:=id I.M;have hcls:(X.a.scope.kind == .class||(X.a.scope.kind == .module&&X.a.locals != X.a.globals))=false:=by rw[I.B.a];rfl
 have hiσ:i<σ.length:=by rw[I.P];exact(Aj.mp hi).1
 have cne:=I.cne;have tracked:∀{a:Addr} {h':Heap},(∃o,s.heap.get? a=some o/\H a=none)->Dy a s.heap h'->HOk X.f X.w H h':=λ{a h'} ha hs b ob e=>by
  obtain⟨_,_,hfree⟩:=ha;refine(I.j b ob e).oU (λc w' hc q=>(hs.2 c ?_).trans q) (λ_ q=>q) λ_ _ q=>q;rintro rfl;rcases hc with rfl|hc
  . rw[hfree]at e;cases e
  . rw[hfree]at hc;cases hc
 rcases hx with hk|hk
 . refine wpAny_storeName_local hk hn (λh' hn' hs=>?_) hcls
   obtain⟨oL,_,_,hoL,_⟩:=id hn;refine h _ ⟨I.B,I.R,I.D,⟨λb o e n hb hx=>?_,λb o e n hb hx=>?_,I.C.d,λb o e hx=>?_,I.C.l,I.C.g,I.C.j⟩,⟨_,hn',λj y v' e1 e2 e3=>?_⟩,λy c e=>?_,I.G,I.J,λp hp=>?_,tracked ⟨oL,hoL,I.G⟩ hs,by simpa using I.P⟩ ⟨_,hs,.inl rfl⟩
   . exact(hs.2 b (AE (Ax (Ak e) I.B.d))).trans (I.C.f b o e n hb hx)
   . obtain⟨sl,e1⟩:=I.C.i b o e n hb hx
     exact⟨sl,(hs.2 b (AE (Ax (Ak e) I.B.d))).trans e1⟩
   . obtain⟨o',e1⟩:=I.C.c b o e hx
     exact⟨o',(hs.2 b (AE (Ax (Ak e) I.B.d))).trans e1⟩
   . by_cases hj:j=i
     . subst hj
       rw[hi]at e1;cases e1;rw[AM hiσ]at e2;cases e2;exact⟨u,r,.inl ⟨hk,by simp⟩⟩
     . rw[Bw (Bu hj)]at e2
       obtain⟨u',r',q⟩:=hl j y v' e1 e2 e3;refine⟨u',r',?_⟩;rcases q with⟨k,e⟩|⟨k,c,e,z⟩
       . refine .inl ⟨k,?_⟩
         have:y≠x:=λe=>hj (kK hN e1 (e▸hi));simp[this,e]
       . exact .inr ⟨k,c,e,z.sameBut hs (cne y c e)⟩
   . obtain⟨w',z⟩:=I.F y c e
     exact⟨w',z.sameBut hs (cne y c e)⟩
   . obtain⟨e,n,ne,nf,d⟩:=I.O p hp
     exact⟨(hs.2 p.1 ne).trans e,n,ne,nf,d⟩
 . have hfn:X.n x=true:=by
    rcases hf with z|z
    . exact z
    . rw[z]at hk;cases hk
   obtain⟨c,hc⟩:=I.B.r x (.inl hk);obtain⟨w',z⟩:=I.F x c hc;refine wpAny_storeName_cell I.B.a hk hc z (λh' hc' hs=>?_);obtain⟨oc,hoc,hocd⟩:=id z;refine h {s with heap:=h'} ⟨I.B,I.R,I.D,⟨λb o e n hb hx=>?_,λb o e n hb hx=>?_,I.C.d,λb o e hx=>?_,I.C.l,I.C.g,I.C.j⟩,⟨m,hn.sameBut hs (Bu (cne x c hc)),λj y v' e1 e2 e3=>?_⟩,λy c' e=>?_,I.G,I.J,λp hp=>?_,tracked ⟨oc,hoc,I.J x c hc⟩ hs,by simpa using I.P⟩ ⟨c,hs,.inr hc⟩
   . exact(hs.2 b (AE (Ax (Ak e) (I.B.q x c hfn hc)))).trans (I.C.f b o e n hb hx)
   . obtain⟨sl,e1⟩:=I.C.i b o e n hb hx
     exact⟨sl,(hs.2 b (AE (Ax (Ak e) (I.B.q x c hfn hc)))).trans e1⟩
   . obtain⟨o',e1⟩:=I.C.c b o e hx
     exact⟨o',(hs.2 b (AE (Ax (Ak e) (I.B.q x c hfn hc)))).trans e1⟩
   . by_cases hj:j=i
     . subst hj
       rw[hi]at e1;cases e1;rw[AM hiσ]at e2;cases e2;exact⟨u,r,.inr ⟨.inl hk,c,hc,hc'⟩⟩
     . rw[Bw (Bu hj)]at e2
       obtain⟨u',r',q⟩:=hl j y v' e1 e2 e3;refine⟨u',r',?_⟩;rcases q with q|⟨k,c',e,z'⟩
       . exact .inl q
       . refine .inr ⟨k,c',e,z'.sameBut hs ?_⟩
         rintro rfl;exact hj (kK hN e1 (I.B.s _ _ _ e hc▸hi))
   . by_cases hcc:c'=c
     . subst hcc;exact⟨_,hc'⟩
     . obtain⟨w2,z2⟩:=I.F y c' e
       exact⟨w2,z2.sameBut hs hcc⟩
   . obtain⟨e,n,ne,nf,d⟩:=I.O p hp
     refine⟨(hs.2 p.1 ?_).trans e,n,ne,nf,d⟩;intro q;rw[q,hoc]at e;have q':oc=p.2:=Aw e;exact d w' (by rw[<-q'];exact hocd)
theorem wW{Q:Unit->Shared->Prop}(I:Inv X pins σ H s)(hN:X.N.Nodup)(hi:X.N[i]?=some x)(hx:Loc X.a.scope x)(r:RelV v u)
 (h:∀s',Inv X pins (σ.set i (some v)) H s'->Q () s') (hf:X.n x=true\/X.a.scope.names.lookup x=some .local:=by first|exact .inl rfl|exact .inr rfl|assumption):wpAny M A (storeName X.a x u) Q E s:=
 nU I hN hi hx r (λs' I' _=>h s' I') hf
theorem Inv.RJ(I:Inv X pins σ H s)(ho:s'.os=s.os)(u:Un (frs X.g) ch H H' s.heap s'.heap)(hok:HOk X.f X.w H' s'.heap)(hg:AllBare s'.gens)
 (hch:∀b∈ch,(b∈X.m\/X.l.heap.objs.size<=b)/\b≠X.a.locals/\(∀x c,X.a.cells.lookup x=some c->c≠b)/\∀p∈X.q++pins,p.1≠b):Inv X pins σ H' s':=by
 obtain⟨h',g',d',t',o'⟩:=s';have e:o'=s.os:=ho;subst e;exact I.call (g':=g') (t':=t') (d':=d') u hok hg hch
end
abbrev XK:=Value->Option Addr->Hp->Prop
abbrev St:=List (Option V)
abbrev VK:=V->Hp->Prop
abbrev TE:=St->Hp->VK->Prop
abbrev TT:=St->Hp->(Bool->Hp->Prop)->Prop
abbrev TA:=St->Hp->(List V->Hp->Prop)->Prop
structure Ends where
 a:St->Hp->Prop
 b:VK
 c:St->Hp->Prop:=λ_ _=>False
 d:St->Hp->Prop:=λ_ _=>False
abbrev TS:=Ends->St->Hp->Prop
def EP(X:Cx)(pins:List (Addr × Obj))(σ:St)(Q:VK)(u:Value)(s':Shared):Prop:=∃v H',Inv X pins σ H' s'/\RelV v u/\Q v H'
def TP(X:Cx)(pins:List (Addr × Obj))(σ:St)(Q:Bool->Hp->Prop)(b:Bool)(s':Shared):Prop:=∃H',Inv X pins σ H' s'/\Q b H'
def AP(X:Cx)(pins:List (Addr × Obj))(σ:St)(Q:List V->Hp->Prop)(us:List Value)(s':Shared):Prop:=∃vs H',Inv X pins σ H' s'/\Vals vs us/\Q vs H'
def SP(X:Cx)(pins:List (Addr × Obj))(D:Ends)(f:Flow)(s':Shared):Prop:=
 match f with
 |.next=>∃σ' H',Inv X pins σ' H' s'/\D.a σ' H'
 |.brk=>∃σ' H',Inv X pins σ' H' s'/\D.c σ' H'
 |.cont=>∃σ' H',Inv X pins σ' H' s'/\D.d σ' H'
 |.ret u=>∃v σ' H',Inv X pins σ' H' s'/\RelV v u/\D.b v H'
def PE(X:Cx)(e:Expr)(t:TE):Prop:=
 ∀(pins:List (Addr × Obj)) (s:Shared) (σ:St) (H:Hp) (Q:VK),Inv X pins σ H s->t σ H Q->wpAny (model X.f X.w) X.A (eval e X.a) (EP X pins σ Q) X.j s
def PT(X:Cx)(e:Expr)(t:TT):Prop:=
 ∀(pins:List (Addr × Obj)) (s:Shared) (σ:St) (H:Hp) (Q:Bool->Hp->Prop),Inv X pins σ H s->t σ H Q->wpAny (model X.f X.w) X.A (isTrue e X.a (eval e X.a)) (TP X pins σ Q) X.j s
def PW(X:Cx)(e:Expr)(t:TT):Prop:=
 ∀(whole:Sem Value) (pins:List (Addr × Obj)) (s:Shared) (σ:St) (H:Hp) (Q:Bool->Hp->Prop),Inv X pins σ H s->t σ H Q->wpAny (model X.f X.w) X.A (isTrue e X.a whole) (TP X pins σ Q) X.j s
theorem PW.pt(h:PW X e t):PT X e t:=h _
def PA(X:Cx)(es:List Expr)(t:TA):Prop:=
 ∀(pos:Pos) (pins:List (Addr × Obj)) (s:Shared) (σ:St) (H:Hp) (Q:List V->Hp->Prop),Inv X pins σ H s->t σ H Q->wpAny (model X.f X.w) X.A (spliced (backTo pos (AI es X.a))) (AP X pins σ Q) X.j s
def PS(X:Cx)(st:Stmt)(t:TS):Prop:=
 ∀(pins:List (Addr × Obj)) (s:Shared) (σ:St) (H:Hp) (D:Ends),Inv X pins σ H s->t D σ H->wpAny (model X.f X.w) X.A (exec st X.a) (SP X pins D) X.j s
def PSs(X:Cx)(st:List Stmt)(t:TS):Prop:=
 ∀(pins:List (Addr × Obj)) (s:Shared) (σ:St) (H:Hp) (D:Ends),Inv X pins σ H s->t D σ H->wpAny (model X.f X.w) X.A (execs st X.a) (SP X pins D) X.j s
theorem thn(h:wpAny M A t Q E s)(hQ:∀a s,Q a s->Q' a s):wpAny M A t Q' E s:=A6 h hQ λ_ _ x=>x
section
variable {X:Cx}
theorem bin(ha:PE X a ta)(hb:PE X b tb){R:V->V->Hp->Prop}(I:Inv X pins σ H s)(h:ta σ H λx H1=>tb σ H1 λy H2=>R x y H2)
  {Q} {f:Value->Value->Sem α}
 (hf:∀v u s2 x y H2,Inv X pins σ H2 s2->RelV x v->RelV y u->R x y H2->wpAny (model X.f X.w) X.A (f v u) Q X.j s2) :
 wpAny (model X.f X.w) X.A (eval a X.a) (λv s₁=>wpAny (model X.f X.w) X.A (eval b X.a) (λu s₂=>wpAny (model X.f X.w) X.A (f v u) Q X.j s₂) X.j s₁) X.j s:=by
 refine thn (ha pins s σ H _ I h) λv s1 ⟨x,H1,I1,r1,q1⟩=>?_;refine thn (hb pins s1 σ H1 _ I1 q1) λu s2 ⟨y,H2,I2,r2,q2⟩=>?_;exact hf v u s2 x y H2 I2 r1 r2 q2
def sA(i:Nat):TE:=λσ H Q=>∃v,σ[i]?=some (some v)/\Q v H
def tC(v:V):TE:=λ_ H Q=>Q v H
theorem uc(hN:X.N[i]?=some x)(hv:Vis X.a.scope x)(hd:(x == ("__debug__":Str))=false:=by decide)(hcd:(x == ("__classdict__":Str))=false:=by decide):PE X (.Name x pos) (sA i):=by
 intro pins s σ H Q I h;obtain⟨v,e,h⟩:=h;obtain⟨m,hn,hl⟩:=I.M;obtain⟨u,r,l⟩:=hl i x v hN e hv;have fin:EP X pins σ Q u s:=⟨v,H,I,r,h⟩;rcases l with⟨hk,hm⟩|⟨hk,c,hc,hcell⟩
 . exact wpAny_Name (wpAny_loadName_local I.B.a hk hn hm fin) hd
 . rcases hk with hk|hk
   . exact wpAny_Name (wpAny_loadName_cell I.B.a hk hc hcell fin) hd
   . exact wpAny_Name (wpAny_loadName_free I.B.a hk hc hcell fin hcd) hd
theorem Za{i j pos}:PE X (.Constant (.int i) j pos) (tC (.d i)):=λ_ _ _ H _ I h=>wpAny_Constant_int ⟨.d i,H,I.tok _,⟨_,rfl⟩,h⟩
theorem ZU{b j pos}:PE X (.Constant (.bool b) j pos) (tC (.f b)):=λ_ _ _ H _ I h=>Constant_bool ⟨.f b,H,I,rfl,h⟩
theorem Ti{j pos}:PE X (.Constant .none j pos) (tC .g):=λ_ _ _ H _ I h=>Constant_none ⟨.g,H,I,rfl,h⟩
theorem rk{x j pos}:PE X (.Constant (.str x) j pos) (tC (.e x)):=λ_ _ _ H _ I h=>Dz ⟨.e x,H,I.tok _,⟨_,rfl⟩,h⟩
def Gl(X:Cx)(x:Str):Prop:=X.a.kindOf x=some .globalImplicit
theorem vJ(I:Inv X pins σ H s)(hg:Gl X x)(hm:X.d x=some u)(h:Q u s)
 (hd:(x == ("__debug__":Str))=false:=by decide):wpAny (model X.f X.w) X.A (eval (.Name x pos) X.a) Q E s:=
 E4 I.B.a hg (Calls.loadGlobal_global (by rw[I.B.k];exact I.mod.c.keeps I.bk) hm h) hd
theorem vv(I:Inv X pins σ H s)(hg:Gl X x)(hm:X.d x=none)(hv:B9 x=some u)(h:Q u s)
 (hn:x≠"__name__":=by decide) (hd:(x == ("__debug__":Str))=false:=by decide):wpAny (model X.f X.w) X.A (eval (.Name x pos) X.a) Q E s:=by
 obtain⟨mb,h1,h2⟩:=I.mod.d;exact E4 I.B.a hg (Calls.loadGlobal_builtin (by rw[I.B.k];exact I.mod.c.keeps I.bk) hm (by rw[I.B.t];exact h1.keeps I.bk) ((h2 x hn).trans hv) h) hd
theorem WI(hg:Gl X x)(hm:X.d x=some u)(r:RelV v u)(hd:(x == ("__debug__":Str))=false:=by decide):PE X (.Name x pos) (tC v):=
 λ_ _ _ H _ I h=>vJ I hg hm ⟨v,H,I,r,h⟩ hd
theorem WG(hg:Gl X x)(hm:X.d x=none)(hv:B9 x=some u)(r:RelV v u)(hn:x≠"__name__":=by decide)(hd:(x == ("__debug__":Str))=false:=by decide):PE X (.Name x pos) (tC v):=
 λ_ _ _ H _ I h=>vv I hg hm hv ⟨v,H,I,r,h⟩ hn hd
variable {a b:Expr}{ta tb:TE}{pos:Pos}
def PC(X:Cx)(op:CmpOp)(a b:Expr)(t:TE):Prop:=
 ∀(pins:List (Addr × Obj)) (s:Shared) (σ:St) (H:Hp) (Q:VK),Inv X pins σ H s->t σ H Q ->
  wpAny (model X.f X.w) X.A (eval a X.a) (λv s₁=>wpAny (model X.f X.w) X.A (eval b X.a) (λu s₂=>wpAny (model X.f X.w) X.A (Ba op v u) (EP X pins σ Q) X.j s₂) X.j s₁) X.j s
theorem pO b(h:op≠.In)(h2:op≠.NotIn):Dn op b=false:=by
 have e1:(op == CmpOp.In)=false:=by cases op<;>first|rfl|exact absurd rfl h
 have e2:(op == CmpOp.NotIn)=false:=by cases op<;>first|rfl|exact absurd rfl h2
 cases b<;>simp[Dn,e1,e2]
def tB(t:TE):TT:=λσ H Q=>t σ H λx H1=>∃c,x=.f c/\Q c H1
theorem Pt(h:PC X op a b t)(h1:Dn op b=false:=by first|exact pO _ (by decide) (by decide)|rfl):PT X (.Compare a [op] [b] pos) (tB t):=by intro pins s σ H Q I hw;refine wpAny_isTrue_Compare1 (thn (h pins s σ H _ I hw) λv s1 h1=>thn h1 λu s2 h2=>thn h2 λc s3 ⟨x,H1,I1,r1,q1⟩=>?_) h1;obtain⟨d,rfl,q⟩:=q1;cases r1;exact Br ⟨H1,I1,q⟩
theorem Tz(h:PE X e t)(he:∀whole,isTrue e X.a whole=(do let v <-whole;standAt e.pos;holding [v] (truthy v)):=by intro _;rfl):PT X e (tB t):=by intro pins s σ H Q I hw;refine isTrue_plain (thn (h pins s σ H _ I hw) λv s1 ⟨x,H1,I1,r1,q1⟩=>?_) (he _);obtain⟨d,rfl,q⟩:=q1;cases r1;exact Br ⟨H1,I1,q⟩
variable {tA tB':TT}{rest:List Expr}
def tOr(t u:TT):TT:=λσ H Q=>t σ H λc H1=>if c=true then Q true H1 else u σ H1 Q
def Q8(t:TT):TT:=λσ H Q=>t σ H λc H1=>Q (!c) H1
theorem T4(ha:PT X a tA):PW X (.BoolOp .Or [a] pos) tA:=by
 intro wh pins s σ H Q I h;refine isTrue_or (thn (ha pins s σ H Q I h) λc s1 e=>?_);cases c with
 |false=>exact isTrue_or_nil e
 |true=>exact e
theorem Qh(ha:PT X a tA)(hb:PW X (.BoolOp .Or (b::rest) pos) tB'):PW X (.BoolOp .Or (a::b::rest) pos) (tOr tA tB'):=by
 intro wh pins s σ H Q I h;refine isTrue_or (thn (ha pins s σ H _ I h) λc s1 ⟨H1,I1,q1⟩=>?_);cases c with
 |true=>exact⟨H1,I1,q1⟩
 |false=>exact hb wh pins s1 σ H1 Q I1 q1
theorem iR(ha:PT X a tA):PT X (.UnaryOp .Not a pos) (Q8 tA):=by intro pins s σ H Q I h;exact isTrue_not (ha pins s σ H (λc H1=>Q (!c) H1) I h)
def Q5(ta tb:TE):TE:=λσ H Q=>ta σ H λx H1=>∃c,x=.f c/\if c=true then tb σ H1 Q else Q (.f false) H1
def Q9(ta:TE):TE:=λσ H Q=>ta σ H λx H1=>∃c,x=.f c/\Q (.f (!c)) H1
theorem iJ{op}(h:PE X a t):PE X (.BoolOp op [a] pos) t:=λpins s σ H Q I hw=>BoolOp_one (h pins s σ H Q I hw)
theorem Td(ha:PE X a ta)(hb:PE X (.BoolOp .And (b::rest) pos) tb):PE X (.BoolOp .And (a::b::rest) pos) (Q5 ta tb):=by
 intro pins s σ H Q I h;refine BoolOp_and (thn (ha pins s σ H _ I h) λv s1 ⟨x,H1,I1,r1,q1⟩=>?_);obtain⟨c,rfl,q1⟩:=q1;cases r1;refine Br ?_;cases c with
 |true=>exact hb pins s1 σ H1 Q I1 q1
 |false=>exact⟨.f false,H1,I1,rfl,q1⟩
theorem Tj(ha:PE X a ta):PE X (.UnaryOp .Not a pos) (Q9 ta):=by intro pins s σ H Q I h;refine UnaryOp_ (thn (ha pins s σ H _ I h) λv s1 ⟨x,H1,I1,r1,q1⟩=>?_);obtain⟨c,rfl,q1⟩:=q1;cases r1;exact not_of (Br ⟨.f (!c),H1,I1,rfl,q1⟩)
def tIf(t:TT)(ta tb:TE):TE:=λσ H Q=>t σ H λc H1=>if c=true then ta σ H1 Q else tb σ H1 Q
theorem kW(hc:PT X c tA)(ha:PE X a ta)(hb:PE X b tb):PE X (.IfExp c a b pos) (tIf tA ta tb):=by
 intro pins s σ H Q I h;refine wpAny_IfExp (thn (hc pins s σ H _ I h) λd s1 ⟨H1,I1,q1⟩=>?_);cases d with
 |true=>exact ha pins s1 σ H1 Q I1 q1
 |false=>exact hb pins s1 σ H1 Q I1 q1
end
def SqL(K:Ag)(H:Hp)(a:Addr)(xs:List V):Prop:=
 Rd H a (.b xs) \/
  ∃(o:Obj) (its:Array Value) (n:Nat),K.lookup a=some o/\o.cls=.type "list"/\o.dict=none/\o.data=.seq its n/\its.size<=Av/\Vals xs its.toList
def SqT(K:Ag)(H:Hp)(a:Addr)(xs:List V):Prop:=
 Rd H a (.c xs) \/
  ∃(o:Obj) (its:Array Value) (n:Nat),K.lookup a=some o/\o.cls=.type "tuple"/\o.data=.seq its n/\its.size<=Av/\Vals xs its.toList
noncomputable def PZ:Value->Option V
 |.none=>some .g
 |.bool b=>some (.f b)
 |.int i _=>some (.d i)
 |.str x _=>some (.e x)
 |.bytes b _=>some (.h b)
 |.float b _=>some (.j b)
 |.ref a=>some (.c a)
 |.type n=>some (.k n)
 |_=>none
theorem RelV.abs(r:RelV x u):PZ u=some x:=by
 cases x with
 |g=>cases r;rfl
 |f _=>cases r;rfl
 |d _=>obtain⟨t,rfl⟩:=r;rfl
 |e _=>obtain⟨t,rfl⟩:=r;rfl
 |h _=>obtain⟨t,rfl⟩:=r;rfl
 |j _=>obtain⟨t,rfl⟩:=r;rfl
 |c _=>cases r;rfl
 |k _=>cases r;rfl
theorem RelV.inj(r:RelV x u)(q:RelV y u):x=y:=Aw (r.abs.symm.trans q.abs)
theorem Vals.inj:∀{xs ys} {us},Vals xs us->Vals ys us->xs=ys
 |_,_,_,.nil,.nil=>rfl
 |_,_,_,.cons r t,.cons r' t'=>by rw[r.inj r',Vals.inj t t']
section
variable {X:Cx}{pins:List (Addr × Obj)}{σ:St}{H:Hp}{s:Shared}{a:Addr}{xs ys:List V}
theorem SqL.of{K}(h:H a=some (.b xs)):SqL K H a xs:=.inl (.inl h)
theorem SqT.of{K}(h:H a=some (.c xs)):SqT K H a xs:=.inl (.inl h)
theorem Inv.list(I:Inv X pins σ H s)(h:SqL X.K H a xs):∃its:List Value,Vals xs its/\PlainL s.heap a its.toArray/\xs.length<=Av:=by
 rcases h with h|⟨o,its,n,hk,hc,hd,hs,hz,r⟩
 . obtain⟨z,its,n,r,e⟩:=h.ok I.j
   exact⟨its,r,⟨_,n,e,rfl,rfl,rfl⟩,z⟩
 . refine⟨its.toList,r,⟨o,n,I.kIn a o hk,hc,hd,by simpa using hs⟩,?_⟩
   have e:=r.length;simp only[CU]at e;omega
theorem Inv.tuple(I:Inv X pins σ H s)(h:SqT X.K H a xs):∃its:List Value,Vals xs its/\IsTup s.heap a its.toArray/\xs.length<=Av:=by
 rcases h with h|⟨o,its,n,hk,hc,hs,hz,r⟩
 . obtain⟨z,its,r,p⟩:=h.ok I.j
   exact⟨its,r,p.tup,z⟩
 . refine⟨its.toList,r,⟨o,I.kIn a o hk,hc,n,by simpa using hs⟩,?_⟩
   have e:=r.length;simp only[CU]at e;omega
theorem Inv.kD(I:Inv X pins σ H s)(h:SqL X.K H a xs)(h':SqL X.K H a ys):xs=ys:=by
 obtain⟨its,r,⟨o,n,e,_,_,d⟩,_⟩:=I.list h;obtain⟨its',r',⟨o',n',e',_,_,d'⟩,_⟩:=I.list h';rw[e]at e';cases e';rw[d]at d';injection d' with d1 _
 have:its=its':=by simpa using congrArg Array.toList d1
 subst this;exact r.inj r'
theorem Inv.nZ(I:Inv X pins σ H s)(h:SqT X.K H a xs)(h':SqT X.K H a ys):xs=ys:=by
 obtain⟨its,r,⟨o,e,_,n,d⟩,_⟩:=I.tuple h;obtain⟨its',r',⟨o',e',_,n',d'⟩,_⟩:=I.tuple h';rw[e]at e';cases e';rw[d]at d';injection d' with d1 _
 have:its=its':=by simpa using congrArg Array.toList d1
 subst this;exact r.inj r'
end
noncomputable abbrev Cx.vH(X:Cx)(E:Value->Shared->Prop):Cx:={X with j:=E}
abbrev Cx.nox(X:Cx):Cx:=X.vH λ_ _=>False
theorem Cx.Ok.vH{X:Cx}(ok:X.Ok)E:(X.vH E).Ok:=
 ⟨ok.j,ok.a,ok.k,ok.t,ok.d,ok.s,ok.r,ok.q,ok.i,ok.g,ok.w,ok.G,ok.B,ok.p,ok.m,ok.l,ok.D,ok.u⟩
theorem Cx.Ok.xU{X:Cx}(ok:(X.vH E).Ok):X.Ok:=
 ⟨ok.j,ok.a,ok.k,ok.t,ok.d,ok.s,ok.r,ok.q,ok.i,ok.g,ok.w,ok.G,ok.B,ok.p,ok.m,ok.l,ok.D,ok.u⟩
section
variable {X:Cx}{pins:List (Addr × Obj)}{σ:St}{H:Hp}{s:Shared}{E:Value->Shared->Prop}
theorem Inv.vH(I:Inv X pins σ H s)E:Inv (X.vH E) pins σ H s:=⟨I.B.vH E,I.R,I.D,I.C,I.M,I.F,I.G,I.J,I.O,I.j,I.P⟩
theorem Inv.xU(I:Inv (X.vH E) pins σ H s):Inv X pins σ H s:=⟨I.B.xU,I.R,I.D,I.C,I.M,I.F,I.G,I.J,I.O,I.j,I.P⟩
theorem SP.xU(h:SP (X.vH E) pins D f s'):SP X pins D f s':=by
 cases f with
 |next=>obtain⟨σ',H',I,q⟩:=h;exact⟨σ',H',I.xU,q⟩
 |brk=>obtain⟨σ',H',I,q⟩:=h;exact⟨σ',H',I.xU,q⟩
 |cont=>obtain⟨σ',H',I,q⟩:=h;exact⟨σ',H',I.xU,q⟩
 |ret u=>obtain⟨v,σ',H',I,r,q⟩:=h;exact⟨v,σ',H',I.xU,r,q⟩
theorem PE.nox(h:PE X.nox e t):PE X e t:=λpins s σ H Q I hw=>
 A6 (h pins s σ H Q (I.vH _) hw) (λ_ _ ⟨v,H',I',r,q⟩=>⟨v,H',I'.xU,r,q⟩) λ_ _ z=>Az z
theorem PT.nox(h:PT X.nox e t):PT X e t:=λpins s σ H Q I hw=>
 A6 (h pins s σ H Q (I.vH _) hw) (λ_ _ ⟨H',I',q⟩=>⟨H',I'.xU,q⟩) λ_ _ z=>Az z
theorem PSs.nox{st}(h:PSs X.nox st t):PSs X st t:=λpins s σ H D I hw=>
 A6 (h pins s σ H D (I.vH _) hw) (λ_ _ q=>q.xU) λ_ _ z=>Az z
end
section
variable {X:Cx}{st:Stmt}{rest:List Stmt}{t u:TS}{e:Expr}{te:TE}{pos:Pos}
def Vi:TS:=λD σ H=>D.a σ H
def jG(t u:TS):TS:=λD σ H=>t {D with a:=u D} σ H
theorem m5:PSs X [] Vi:=λ_ _ σ H _ I h=>Et ⟨σ,H,I,h⟩
theorem y0(h1:PS X st t)(h2:PSs X rest u):PSs X (st::rest) (jG t u):=by
 intro pins s σ H D I h;refine D9 (thn (h1 pins s σ H {D with a:=u D} I h) λf s1 q=>?_)
 cases f with
 |next=>
  obtain⟨σ',H',I',q⟩:=q;exact h2 pins s1 σ' H' D I' q
 |ret v=>exact q
 |brk=>exact q
 |cont=>exact q
theorem v9(h1:PS X st t):PSs X [st] t:=by
 intro pins s σ H D I h;refine D9 (thn (h1 pins s σ H D I h) λf s1 q=>?_);cases f with
 |next=>exact Et q
 |ret v=>exact q
 |brk=>exact q
 |cont=>exact q
theorem Inv.quiet(I:Inv X pins σ H s):interactive X.a=false:=by simp[interactive,I.B.a]
def Q6(te:TE):TS:=λD σ H=>te σ H λ_ H1=>D.a σ H1
theorem mz(he:PE X e te)(hs:Eh e none pos.line X.a=pure false:=by rfl):PS X (.Expr e pos) (Q6 te):=by intro pins s σ H D I h;exact wpAny_Expr_any (thn (he pins s σ H _ I h) λv s1 ⟨x,H1,I1,r1,q1⟩=>⟨σ,H1,I1,q1⟩) I.quiet hs
def dg(te:TE):TS:=λD σ H=>te σ H D.b
theorem ud(he:PE X e te):PS X (.Return (some e) pos) (dg te):=by intro pins s σ H D I h;exact wpAny_Return_some (thn (he pins s σ H _ I h) λv s1 ⟨x,H1,I1,r1,q1⟩=>⟨x,σ,H1,I1,r1,q1⟩)
def Q7(c:TT)(t u:TS):TS:=λD σ H=>c σ H λb H1=>if b=true then t D σ H1 else u D σ H1
theorem kf(hc:PT X c tc)(ha:PSs X a t)(hb:PSs X b u):PS X (.If c a b pos) (Q7 tc t u):=by
 intro pins s σ H D I h;refine wpAny_If (thn (hc pins s σ H _ I h) λd s1 ⟨H1,I1,q1⟩=>?_);cases d with
 |true=>exact ha pins s1 σ H1 D I1 q1
 |false=>exact hb pins s1 σ H1 D I1 q1
end
abbrev TG:=V->St->Hp->(St->Hp->Prop)->Prop
abbrev TGs:=List V->St->Hp->(St->Hp->Prop)->Prop
def PG(X:Cx)(target:Expr)(t:TG):Prop:=
 ∀(pins:List (Addr × Obj)) (s:Shared) (σ:St) (H:Hp) (v:V) (u:Value) (Q:St->Hp->Prop),Inv X pins σ H s->RelV v u->t v σ H Q ->
  wpAny (model X.f X.w) X.A (assign target X.a u) (λ_ s'=>∃σ' H',Inv X pins σ' H' s'/\Q σ' H') X.j s
def PGs(X:Cx)(ts:List Expr)(t:TGs):Prop:=
 ∀(pins:List (Addr × Obj)) (s:Shared) (σ:St) (H:Hp) (vs:List V) (us:List Value) (Q:St->Hp->Prop),Inv X pins σ H s->Vals vs us->t vs σ H Q ->
  wpAny (model X.f X.w) X.A (D5 ((CG ts X.a).map (·.2)) us) (λ_ s'=>∃σ' H',Inv X pins σ' H' s'/\Q σ' H') X.j s
abbrev Vx:=V->V->V->Hp->(Hp->Prop)->Prop
def S7(X:Cx)(t:Vx):Prop:=
 ∀(pins:List (Addr × Obj)) (s:Shared) (σ:St) (H:Hp) (o i v:V) (ov iv u:Value) (Q:Hp->Prop),Inv X pins σ H s->RelV o ov->RelV i iv->RelV v u->t o i v H Q ->
  wpAny (model X.f X.w) X.A (setItem ov iv u) (λ_ s'=>∃H',Inv X pins σ H' s'/\Q H') X.j s
section
variable {X:Cx}{pos:Pos}
def wM(i:Nat):TG:=λv σ H Q=>Q (σ.set i (some v)) H
theorem WK(hN:X.N.Nodup)(hi:X.N[i]?=some x)(hx:Loc X.a.scope x)(hf:X.n x=true\/X.a.scope.names.lookup x=some .local:=by first|exact .inl rfl|exact .inr rfl|assumption):PG X (.Name x pos) (wM i):=by intro pins s σ H v u Q I r h;exact wpAny_assign_Name (wW I hN hi hx r (λs' I'=>⟨_,H,I',h⟩) hf)
def RW:TGs:=λvs σ H Q=>vs=[]/\Q σ H
def VL(t:TG)(u:TGs):TGs:=λvs σ H Q=>∃v r,vs=v::r/\t v σ H λσ' H'=>u r σ' H' Q
theorem WL:PGs X [] RW:=by intro pins s σ H vs us Q I r h;obtain⟨e,h⟩:=h;subst e;cases r;exact Fm ⟨σ,H,I,h⟩
theorem Zc{e:Expr}{es:List Expr}{t:TG}{u:TGs}(h1:PG X e t)(h2:PGs X es u)
 (hs:(CG (e::es) X.a).map (·.2)=assign e X.a::(CG es X.a).map (·.2):=by rfl):PGs X (e::es) (VL t u):=by
 intro pins s σ H vs us Q I r h;obtain⟨v,vr,e1,h⟩:=h;subst e1;cases r with
 |cons r rr=>
  rw[hs];refine Cq (thn (h1 pins s σ H _ _ _ I r h) λ_ s1 ⟨σ1,H1,I1,q1⟩=>?_);exact h2 pins s1 σ1 H1 _ _ Q I1 rr q1
def RY(K:Ag)(n:Nat)(t:TGs):TG:=λv σ H Q=>∃a xs,v=.c a/\SqT K H a xs/\xs.length=n/\t xs σ H Q
theorem rl(hc:X.h=true)(h:PGs X es t)
 (hn:(CG es X.a).length=n:=by rfl) (hst:(CG es X.a).findIdx? (·.1)=none:=by rfl):PG X (.Tuple es k pos) (RY X.K n t):=by
 intro pins s σ H v u Q I r hw;obtain⟨a,xs,e1,hq,hl,hw⟩:=hw;subst e1;cases r;obtain⟨its,rv,ht,hz⟩:=I.tuple hq;refine assign_Tuple_tuple (I.B.i hc) ht (by simp[hn,<-hl,rv.length]) hst λh' hx=>?_
 have I1:Inv X pins σ H {s with heap:=h'}:=I.kept (t':=s.toks) λb o e=>hx b o (AE (Ak e)) e
 exact h pins _ σ H xs _ Q I1 (by simpa using rv) hw
def RX(to ti:TE)(t:Vx):TG:=λv σ H Q=>to σ H λo H1=>ti σ H1 λi H2=>t o i v H2 λH3=>Q σ H3
theorem Tq(ho:PE X o to)(hi:PE X i ti)(hs:S7 X t)
 (ha:∀v,assign (.Subscript o i pos) X.a v=(do
  let ov <-holding [v] (eval o X.a);let iv <-holding [v,ov] (eval i X.a)
  standAt pos
  holding [v,ov,iv] (setItem ov iv v)
  release [v,ov,iv] []):=by intro _;rfl):PG X (.Subscript o i pos) (RX to ti t):=by
 intro pins s σ H v u Q I r h;rw[ha];refine dS (BX (thn (ho pins s σ H _ I h) λov s1 ⟨x,H1,I1,r1,q1⟩=>?_));refine dS (BX (thn (hi pins s1 σ H1 _ I1 q1) λiv s2 ⟨y,H2,I2,r2,q2⟩=>?_));refine dS (Bp (dS (BX (thn (hs pins s2 σ H2 x y v ov iv u _ I2 r1 r2 r q2) λ_ s3 ⟨H3,I3,q3⟩=>?_))));exact wpAny_release ⟨σ,H3,I3,q3⟩
def tE(te:TE)(g:TG):TS:=λD σ H=>te σ H λx H1=>g x σ H1 D.a
theorem Zi(he:PE X e te)(hg:PG X tg g)(hs:D6 [tg] e pos.line X.a=pure false:=by rfl)(hw:BY [tg] e X.a=pure none:=by rfl)
 (h1:(CG [tg] X.a).map (·.2)=[assign tg X.a]:=by rfl):PS X (.Assign [tg] e pos) (tE te g):=by
 intro pins s σ H D I h;refine wpAny_Assign_stores (thn (he pins s σ H _ I h) λv s1 ⟨x,H1,I1,r1,q1⟩=>?_) hs hw;rw[h1];exact thn (hg pins s1 σ H1 x v _ I1 r1 q1) λ_ s2 q=>q
theorem ue(hN:X.N.Nodup)(hi:X.N[i]?=some x)(hx:Loc X.a.scope x)(he:PE X e te)(hs:Eh e (some (.Name x pos')) pos.line X.a=pure false:=by rfl)(hf:X.n x=true\/X.a.scope.names.lookup x=some .local:=by first|exact .inl rfl|exact .inr rfl|assumption) :
 PS X (.Assign [.Name x pos'] e pos) (tE te (wM i)):=by
 intro pins s σ H D I h;refine wpAny_Assign_Name (thn (he pins s σ H _ I h) λv s1 ⟨y,H1,I1,r1,q1⟩=>?_) hs;exact wW I1 hN hi hx r1 (λs2 I2=>⟨_,H1,I2,q1⟩) hf
def PF(i j:Nat)(ta:TA):TS:=λD σ H=>ta σ H λvs H1=>∃v w,vs=[v,w]/\D.a ((σ.set i (some v)).set j (some w)) H1
theorem Tx{kt k2 pt2}(hc:X.h=true)(hN:X.N.Nodup)(hi:X.N[i]?=some x)(hj:X.N[j]?=some y)(hij:i≠j)
 (hx:X.a.scope.names.lookup x=some .local) (hy:X.a.scope.names.lookup y=some .local) (ha:PA X [a,b] ta)
 (hw:BY [.Tuple [.Name x px,.Name y py] kt pt] (.Tuple [a,b] k2 pt2) X.a=pure (some [x,y]))
 (hs:D6 [.Tuple [.Name x px,.Name y py] kt pt] (.Tuple [a,b] k2 pt2) pos.line X.a=pure false:=by rfl) :
 PS X (.Assign [.Tuple [.Name x px,.Name y py] kt pt] (.Tuple [a,b] k2 pt2) pos) (PF i j ta):=by
 intro pins s σ H D I h;rw[exec_Assign_arm];refine dS (Bp ?_);rw[hs];refine dS (Ai ?_);rw[if_neg (by decide)]
 refine dS (Tuple_ (thn (ha _ pins s σ H _ I h) λus s1 ⟨vs,H1,I1,r1,q1⟩=>?_));obtain⟨v,w,e1,q1⟩:=q1;subst e1;obtain⟨u1,u2,rfl,rv,rw'⟩:∃u1 u2,us=[u1,u2]/\RelV v u1/\RelV w u2:=by
  cases r1 with
  |cons p q=>
   cases q with
   |cons p' q'=>
    cases q';exact⟨_,_,rfl,p,p'⟩
 refine Bg ?_ (by show 2<=Av;decide)
 have I2:Inv X pins σ H1 {s1 with heap:=s1.heap.push {cls:=.type "tuple",data:=.seq [u1,u2].toArray}}:=I1.kept (t':=s1.toks) λb o e=>nx _ e
 rw[hw];refine dS (Ai ?_);show wpAny (model X.f X.w) X.A (do rule "assign.swapped-stores";let items <-unpackItems (.ref s1.heap.objs.size) 2 none;D5 [λv=>C4 X.a y v,λv=>C4 X.a x v] items.reverse;pure GD) _ _ _
 refine dS (DO (dS (unpackItems_tuple (items:=#[u1,u2]) (I.B.i hc) (IsTup.new s1.heap _) λh' hx'=>?_)));have I3:=I2.kept (h':=h') (t':=s1.toks) λb o e=>hx' b o (AE (Ak e)) e;show wpAny _ _ (D5 [λv=>C4 X.a y v,λv=>C4 X.a x v] [u2,u1] >>= λ_=>pure GD) _ _ _;refine dS (Cq (DP (wW I3 hN hj (.inl hy) rw' (λs2 I4=>?_) (.inr hy))));refine Cq (DP (wW I4 hN hi (.inl hx) rv (λs3 I5=>Fm (Ai ?_)) (.inr hx)));rw[E5 _ _ (Bu hij)]at I5;exact⟨_,H1,I5,q1⟩
end
structure It where
 c:Nat->Hp->Prop
 b:Nat->Hp->V->Hp->Prop
 a:Nat->Hp->Prop
def uz(X:Cx)(pins:List (Addr × Obj))(H:Hp)(b:Addr):Prop:=
 H b=none/\b≠X.a.locals/\b ∉ X.fs/\(b∈X.m\/X.l.heap.objs.size<=b)/\(∀x c,X.a.cells.lookup x=some c->c≠b)/\∀p∈X.q++pins,p.1≠b
theorem Inv.Y8(I:Inv X pins σ H s)(hb:s.heap.objs.size<=b)(hn:H' b=none):uz X pins H' b:=by
 refine⟨hn,DA (Ax I.lt hb),I.Pn hb,.inr (Au I.sz hb),λx c e z=>?_,λp hp z=>?_⟩
 . obtain⟨v,q⟩:=I.F x c e
   exact absurd (Ax q.lt (by rw[z];exact hb)) (Bj _)
 . exact absurd (Ax (Ak (I.O p hp).1) (by rw[z];exact hb)) (Bj _)
structure Turn(P:Program)(w:World)(K:Ag)(tg:Expr)(J:It)(fp:List Addr)(it:Addr)(tn:Nat->Heap->Prop):Prop where
 g:it∈fp
 c:∀i h,tn i h->∀b∈fp,∃o,h.get? b=some o/\∀v,o.data≠.cell v
 a:∀i h h',tn i h->(∀b∈fp,∀o,h.get? b=some o->h'.get? b=some o)->tn i h'
 e:∀(X:Cx),X.f=P->X.w=w->X.K=K->X.h=true->∀(i:Nat) (pins:List (Addr × Obj)) (s:Shared) (σ:St) (H:Hp) (E:Value->Shared->Prop),Inv X pins σ H s->(∀b∈fp,uz X pins H b)->tn i s.heap->J.c i H ->
  wpAny (model P w) X.A (pyNext (.ref it)) (λr s1=>∃u,r=some u /\
   wpAny (model P w) X.A (BD tg (.ref it) u) (λ_ s2=>∃x H',Inv X pins σ H' s2/\RelV x u/\J.b i H x H'/\tn (i+1) s2.heap/\∀b∈fp,H' b=none) E s1) E s
 d:∀(X:Cx),X.f=P->X.w=w->X.K=K->X.h=true->∀(i:Nat) (pins:List (Addr × Obj)) (s:Shared) (σ:St) (H:Hp) (E:Value->Shared->Prop),Inv X pins σ H s->(∀b∈fp,uz X pins H b)->tn i s.heap->J.a i H ->
  wpAny (model P w) X.A (pyNext (.ref it)) (λr s1=>r=none/\Inv X pins σ H s1) E s
 f:∀(A:Around) (i:Nat) (s:Shared) (Q:Value->Shared->Prop) (E:Value->Shared->Prop),tn i s.heap->Q (.ref it) s->wpAny (model P w) A (pyIter (.ref it)) Q E s
abbrev TI:=St->Hp->(It->Hp->Prop)->Prop
def PIE(X:Cx)(pins:List (Addr × Obj))(σ:St)(tg:Expr)(R:It->Hp->Prop)(itv:Value)(s2:Shared):Prop:=
 ∃(it:Addr) (fp:List Addr) (tn:Nat->Heap->Prop) (J:It) (H':Hp),itv=.ref it/\Inv X pins σ H' s2/\Turn X.f X.w X.K tg J fp it tn/\tn 0 s2.heap/\(∀b∈fp,uz X pins H' b)/\R J H'
def PI(X:Cx)(tg iter:Expr)(wi:TI):Prop:=
 ∀(pins:List (Addr × Obj)) (s:Shared) (σ:St) (H:Hp) (R:It->Hp->Prop),Inv X pins σ H s->wi σ H R ->
  wpAny (model X.f X.w) X.A (eval iter X.a) (λv s1=>wpAny (model X.f X.w) X.A (pyIter v) (PIE X pins σ tg R) X.j s1) X.j s
theorem br(ho:s.heap.get? it=some o)(hc:o.cls=.type n)(hd:o.data=.fields vs)
 (hn:["enumerate","zip","dict_itemiterator","dict_reverseitemiterator","odict_iterator","itertools.zip_longest","itertools.pairwise"].contains n=false) (hQ:Q () s):wpAny M A (BD tg (.ref it) u) Q E s:=by
 unfold BD;cases tg<;>first
  |exact Ai hQ
  |(cases u<;>first
   |exact Ai hQ
   |(refine dS (wpAny_load ho ?_)
     rw[hc,hd];show wpAny M A (if (["enumerate","zip","dict_itemiterator","dict_reverseitemiterator","odict_iterator","itertools.zip_longest","itertools.pairwise"].contains n&&vs[0]? == some (rawInt _))=true then _ else _) Q E s
     rw[if_neg (by intro h;rw[hn,Dc]at h;cases h)]
     exact Ai hQ))
noncomputable def Itl(K:Ag)(a:Addr):It:=
 ⟨λi H=>∃xs x,SqL K H a xs/\xs[i]?=some x,λi H x H'=>H'=H/\∀xs,SqL K H a xs->xs[i]?=some x,λi H=>∃xs,SqL K H a xs/\xs.length<=i⟩
noncomputable def Itt(K:Ag)(a:Addr):It:=
 ⟨λi H=>∃xs x,SqT K H a xs/\xs[i]?=some x,λi H x H'=>H'=H/\∀xs,SqT K H a xs->xs[i]?=some x,λi H=>∃xs,SqT K H a xs/\xs.length<=i⟩
noncomputable def Itr(lo:Int)(n:Nat):It:=⟨λi _=>i<n,λi H x H'=>H'=H/\x=.d (lo+i),λi _=>n<=i⟩
theorem dk{K}a it:Turn P w K tg (Itl K a) [it] it (λi h=>h.IsListIter it a i) where
 g:=by simp
 c:=λi h st b hb=>by
  have e:b=it:=by simpa using hb
  subst e;obtain⟨o,e,c,d⟩:=st;exact⟨o,e,λv z=>by rw[d]at z;cases z⟩
 a:=λi h h' st k=>st.at λo e=>k it (by simp) o e
 e:=by
  intro X hP hw hK hc i pins s σ H E I hf st hg;subst hP hw hK;obtain⟨xs,x,hq,hx⟩:=hg;obtain⟨its,rv,p,hz⟩:=I.list hq;obtain⟨u,hu,ru⟩:=rv.get hx;obtain⟨f0,f1,f2,f3,f4,f5⟩:=hf it (by simp)
  refine wpAny_pyNext_list_item st p.isList (x:=u) (by simpa using hu) λh' st' sb=>?_
  have I1:Inv X pins σ H {s with heap:=h'}:=I.turned (t':=s.toks) (λb o hb e=>(sb.2 b hb).trans e) f0 f1 f3 f4 f5
  obtain⟨o,e,c,d⟩:=id st';exact⟨u,rfl,br (s:={s with heap:=h'}) e c d (by decide) ⟨x,H,I1,ru,⟨rfl,λys hy=>by rw[I.kD hy hq];exact hx⟩,st',λb hb=>(hf b hb).1⟩⟩
 d:=by
  intro X hP hw hK hc i pins s σ H E I hf st hg;subst hP hw hK;obtain⟨xs,hq,hx⟩:=hg;obtain⟨its,rv,p,hz⟩:=I.list hq;obtain⟨f0,f1,f2,f3,f4,f5⟩:=hf it (by simp)
  have hl:=rv.length;exact wpAny_pyNext_list_end (I.B.i hc) st p.isList (by simp;omega) λh' eb=>⟨rfl,I.turned (t':=s.toks) (λb o hb e=>eb b o hb e) f0 f1 f3 f4 f5⟩
 f:=λ_ _ _ _ _ st h=>wpAny_pyIter_listiter st h
theorem gA{K}a it:Turn P w K tg (Itt K a) [it] it (λi h=>h.IsTupleIter it a i) where
 g:=by simp
 c:=λi h st b hb=>by
  have e:b=it:=by simpa using hb
  subst e;obtain⟨o,e,c,d⟩:=st;exact⟨o,e,λv z=>by rw[d]at z;cases z⟩
 a:=λi h h' st k=>st.at λo e=>k it (by simp) o e
 e:=by
  intro X hP hw hK hc i pins s σ H E I hf st hg;subst hP hw hK;obtain⟨xs,x,hq,hx⟩:=hg;obtain⟨its,rv,p,hz⟩:=I.tuple hq;obtain⟨u,hu,ru⟩:=rv.get hx;obtain⟨f0,f1,f2,f3,f4,f5⟩:=hf it (by simp)
  refine wpAny_pyNext_tuple_item st (show s.heap.IsTuple a its.toArray from p) (x:=u) (by simpa using hu) λh' st' sb=>?_
  have I1:Inv X pins σ H {s with heap:=h'}:=I.turned (t':=s.toks) (λb o hb e=>(sb.2 b hb).trans e) f0 f1 f3 f4 f5
  obtain⟨o,e,c,d⟩:=id st';exact⟨u,rfl,br (s:={s with heap:=h'}) e c d (by decide) ⟨x,H,I1,ru,⟨rfl,λys hy=>by rw[I.nZ hy hq];exact hx⟩,st',λb hb=>(hf b hb).1⟩⟩
 d:=by
  intro X hP hw hK hc i pins s σ H E I hf st hg;subst hP hw hK;obtain⟨xs,hq,hx⟩:=hg;obtain⟨its,rv,p,hz⟩:=I.tuple hq;obtain⟨f0,f1,f2,f3,f4,f5⟩:=hf it (by simp)
  have hl:=rv.length;exact wpAny_pyNext_tuple_end (I.B.i hc) st (show s.heap.IsTuple a its.toArray from p) (by simp;omega) λh' eb=>⟨rfl,I.turned (t':=s.toks) (λb o hb e=>eb b o hb e) f0 f1 f3 f4 f5⟩
 f:=λ_ _ _ _ _ st h=>wpAny_pyIter_tupleiter st h
theorem hX{K}it lo n:Turn P w K tg (Itr lo n) [it] it (λi h=>IsRangeIter h it (lo+(i:Nat)*1) ((n:Int)-(i:Nat)) 1) where
 g:=by simp
 c:=λi h st b hb=>by
  have e:b=it:=by simpa using hb
  subst e;exact⟨_,st,λv z=>by have z':Ga _=Data.cell v:=z;cases z'⟩
 a:=λi h h' st k=>k it (by simp) _ st
 e:=by
  intro X hP hw hK hc i pins s σ H E I hf st hg;subst hP hw hK;obtain⟨f0,f1,f2,f3,f4,f5⟩:=hf it (by simp)
  have W:=Walks.range (prog:=X.f) (w:=X.w) (I.B.i hc) it lo 1 n;refine W.item i s _ _ hg st λv h' tk hv st' kk=>?_;obtain⟨t,rfl⟩:=hv;have I1:Inv X pins σ H {s with heap:=h',toks:=tk}:=I.turned (λb o hb e=>kk b o (by simpa using hb) e) f0 f1 f3 f4 f5
  refine⟨_,rfl,br (s:={s with heap:=h',toks:=tk}) (n:="range_iterator") st' rfl rfl (by decide) ⟨.d (lo+i),H,I1,⟨t,?_⟩,⟨rfl,rfl⟩,st',λb hb=>(hf b hb).1⟩⟩
  rw[Int.mul_one]
 d:=by
  intro X hP hw hK hc i pins s σ H E I hf st hg;subst hP hw hK;obtain⟨f0,f1,f2,f3,f4,f5⟩:=hf it (by simp)
  exact wpAny_pyNext_range_end (I.B.i hc) st (by have:n<=i:=hg;omega) λh' eb=>⟨rfl,I.turned (t':=s.toks) (λb o hb e=>eb b o hb e) f0 f1 f3 f4 f5⟩
 f:=λ_ _ _ _ _ st h=>wpAny_pyIter_rangeiter st h
section
variable {X:Cx}{tg:Expr}
def Rf(K:Ag)(tl:TE):TI:=λσ H R=>tl σ H λx H1=>∃a,x=.c a/\(∃xs,SqL K H1 a xs)/\R (Itl K a) H1
def Ph(K:Ag)(tl:TE):TI:=λσ H R=>tl σ H λx H1=>∃a,x=.c a/\(∃xs,SqT K H1 a xs)/\R (Itt K a) H1
theorem fA(hl:PE X l tl):PI X tg l (Rf X.K tl):=by
 intro pins s σ H R I h;refine thn (hl pins s σ H _ I h) λv s1 ⟨x,H1,I1,r1,q1⟩=>?_;obtain⟨a,e,⟨xs,hq⟩,q⟩:=q1;subst e;cases r1;obtain⟨its,rv,p,hz⟩:=I1.list hq;refine C8 p.isList ?_;refine⟨s1.heap.objs.size,[s1.heap.objs.size],_,_,H1,rfl,I1.kept (t':=s1.toks) λb o e=>nx _ e,dk a _,⟨_,AB _ rfl,rfl,rfl⟩,λb hb=>?_,q⟩;have e:b=s1.heap.objs.size:=by simpa using hb
 subst e;exact I1.Y8 (Ac _) (I1.j.fresh (Ac _))
theorem Zd(hl:PE X l tl):PI X tg l (Ph X.K tl):=by
 intro pins s σ H R I h;refine thn (hl pins s σ H _ I h) λv s1 ⟨x,H1,I1,r1,q1⟩=>?_;obtain⟨a,e,⟨xs,hq⟩,q⟩:=q1;subst e;cases r1;obtain⟨its,rv,p,hz⟩:=I1.tuple hq;refine Cr (show s1.heap.IsTuple a its.toArray from p) ?_;refine⟨s1.heap.objs.size,[s1.heap.objs.size],_,_,H1,rfl,I1.kept (t':=s1.toks) λb o e=>nx _ e,gA a _,⟨_,AB _ rfl,rfl,rfl⟩,λb hb=>?_,q⟩;have e:b=s1.heap.objs.size:=by simpa using hb
 subst e;exact I1.Y8 (Ac _) (I1.j.fresh (Ac _))
theorem kj{lo hi}(I:Inv X pins σ H s)(h1:-(2 ^ 62)<=lo)(h2:lo<2 ^ 62)(h3:-(2 ^ 62)<=hi)(h4:hi<2 ^ 62)
 (q:R (Itr lo (hi-lo).toNat) H):wpAny (model X.f X.w) X.A (pyIter (.ref s.heap.objs.size)) (PIE X pins σ tg R) E {s with heap:=s.heap.push {cls:=.type "range",data:=.fields #[.int lo t,.int hi u,.int 1 v]},toks:=tk}:=by
 refine wpAny_pyIter_range (IsRange.new ..) (small_one h1 h2 h3 h4) ?_;have I1:Inv X pins σ H {s with heap:=s.heap.push {cls:=.type "range",data:=.fields #[.int lo t,.int hi u,.int 1 v]},toks:=tk}:=I.kept λb o e=>nx _ e
 refine⟨(s.heap.push {cls:=.type "range",data:=.fields #[.int lo t,.int hi u,.int 1 v]}).objs.size,[(s.heap.push {cls:=.type "range",data:=.fields #[.int lo t,.int hi u,.int 1 v]}).objs.size],_,_,H,rfl,
  I1.kept (t':=tk) λb o e=>nx _ e,hX _ lo (hi-lo).toNat,?_,λb hb=>?_,q⟩
 . have e1:lo+((0:Nat):Int)*1=lo:=by simp
   have e2:(((hi-lo).toNat:Nat):Int)-((0:Nat):Int)=AS lo hi 1:=by rw[rangeSize_one];split<;>omega
   show IsRangeIter _ _ (lo+((0:Nat):Int)*1) ((((hi-lo).toNat:Nat):Int)-((0:Nat):Int)) 1;rw[e1,e2];exact AB _ rfl
 . have e:b=(s.heap.push {cls:=.type "range",data:=.fields #[.int lo t,.int hi u,.int 1 v]}).objs.size:=by simpa using hb
   subst e;exact I1.Y8 (Ac _) (I1.j.fresh (Ac _))
def Rg(ta:TA):TI:=λσ H R=>ta σ H λvs H1=>∃j:Int,vs=[.d j]∧-(2 ^ 62)<=j/\j<2 ^ 62/\R (Itr 0 j.toNat) H1
def Rh(ta:TA):TI:=λσ H R=>ta σ H λvs H1=>∃i j:Int,vs=[.d i,.d j]/\(-(2 ^ 62)<=i/\i<2 ^ 62∧-(2 ^ 62)<=j/\j<2 ^ 62)/\R (Itr i (j-i).toNat) H1
theorem dC(hg:Gl X "range")(hm:X.d "range"=none)(ha:PA X [a] ta)(hs:AI [a] X.a=[(false,eval a X.a)]:=by rfl):PI X tg (.Call (.Name "range" p) [a] [] pos) (Rg ta):=by
 intro pins s σ H R I h;refine Call_ (vv I hg hm boot_range (BH (thn (ha pos pins s σ H _ I h) λus s1 ⟨vs,H1,I1,r1,q1⟩=>?_) hs rfl));obtain⟨j,e,q1,q2,q⟩:=q1;subst e;cases r1 with
 |cons r rr=>
  cases rr;obtain⟨t,rfl⟩:=r;exact call_range_1 (kj I1 (by omega) (by omega) q1 q2 (by simpa using q))
theorem dD(hg:Gl X "range")(hm:X.d "range"=none)(ha:PA X [a,b] ta)(hs:AI [a,b] X.a=[(false,eval a X.a),(false,eval b X.a)]:=by rfl)(hs2:AI [b] X.a=[(false,eval b X.a)]:=by rfl) :
 PI X tg (.Call (.Name "range" p) [a,b] [] pos) (Rh ta):=by
 intro pins s σ H R I h;refine Call_ (vv I hg hm boot_range (BH (thn (ha pos pins s σ H _ I h) λus s1 ⟨vs,H1,I1,r1,q1⟩=>?_) (by rw[hs,hs2]) (by rw[hs2];rfl)))
 obtain⟨i,j,e,⟨q1,q2,q3,q4⟩,q⟩:=q1;subst e;cases r1 with
 |cons r rr=>
  cases rr with
  |cons r' rr=>
   cases rr;obtain⟨t,rfl⟩:=r;obtain⟨t',rfl⟩:=r';exact call_range_2 (kj I1 q1 q2 q3 q4 q)
def P5(wi:TI)(g:TG)(tb:TS):TS:=λD σ H=>wi σ H λJ H1=>∃W:Nat->Nat->St->Hp->Prop,(∃m,W 0 m σ H1)/\∀i m σ H,W i m σ H ->
 (J.a i H/\D.a σ H)\/(J.c i H/\∃N:St->Hp->Prop,(∀σ' H',N σ' H'->∃m',m'<m/\W (i+1) m' σ' H')/\∀x H',J.b i H x H'->g x σ H' λσ2 H2=>tb {D with a:=N,d:=N,c:=D.a} σ2 H2)
noncomputable def pW(fp:List Addr)(h:Heap):List (Addr × Obj):=fp.filterMap λb=>(h.get? b).map λo=>(b,o)
theorem vy(hb:b∈fp)(e:h.get? b=some o):(b,o)∈pW fp h:=Ct.mpr ⟨b,hb,by rw[e];rfl⟩
theorem eU(hp:p∈pW fp h):p.1∈fp/\h.get? p.1=some p.2:=by
 obtain⟨b,hb,e⟩:=Ct.mp hp;cases q:h.get? b with
 |none=>rw[q]at e;cases e
 |some o=>
  rw[q]at e;have e':(b,o)=p:=Aw e;subst e';exact⟨hb,q⟩
theorem Inv.pinned(I:Inv X pins σ H s)(hf:∀b∈fp,uz X pins H b)(ho:∀b∈fp,∃o,s.heap.get? b=some o/\∀v,o.data≠.cell v):Inv X (pins++pW fp s.heap) σ H s:=
 I.my λp hp=>(AX.mp hp).elim (λz=>I.O p (Bb _ z)) λz=>by obtain⟨hb,e⟩:=eU z;obtain⟨f0,f1,f2,_⟩:=hf p.1 hb;obtain⟨o,e',d⟩:=ho p.1 hb;rw[e]at e';cases e';exact⟨e,f0,f1,f2,d⟩
theorem Inv.rE(I:Inv X (pins++pl) σ H s):Inv X pins σ H s:=I.my λp hp=>I.O p (Bb _ (Bv _ hp))
theorem Tw(hp:PassesOwn (model X.f X.w) X.A X.a X.j)(hc:X.h=true)(hi:PI X tg iter wi)(hg:PG X tg g)(hb:PSs X body tb)
 (hs:∀x,A2 iter X.a x=pure x:=by intro _;rfl):PS X (.For tg iter body [] pos) (P5 wi g tb):=by
 intro pins s σ H D I h;refine wpAny_For (thn (hi pins s σ H _ I h) λv s1 h1=>thn h1 λitv s2 h2=>?_) hs;obtain⟨it,fp,tn,J,H2,e,I2,T,st2,f2,W,⟨m0,w0⟩,turn⟩:=h2;subst e
 -- what stays true of the iterator's objects through the loop
 have stat:∀{H':Hp},(∀b∈fp,H' b=none)->∀b∈fp,uz X pins H' b:=λhn b hb=>⟨hn b hb,(f2 b hb).2⟩;refine codeAny_forLoop_any (λn s'=>∃i σ' H',Inv X pins σ' H' s'/\tn i s'.heap/\(∀b∈fp,H' b=none)/\W i n σ' H') ?_ m0 ⟨0,σ,H2,I2,st2,λb hb=>(f2 b hb).1,w0⟩;rintro n s3 ⟨i,σ3,H3,I3,st3,fr3,w3⟩;rcases turn i n σ3 H3 w3 with⟨stop,qn⟩|⟨go,N,hN,step⟩
 . refine Dw hp (thn (T.d X rfl rfl rfl hc i pins s3 σ3 H3 X.j I3 (stat fr3) st3 stop) λr s4 ⟨hr,I4⟩=>?_)
   subst hr;exact Et ⟨σ3,H3,I4,qn⟩
 . refine Dw hp (thn (T.e X rfl rfl rfl hc i pins s3 σ3 H3 X.j I3 (stat fr3) st3 go) λr s4 ⟨u,hr,h4⟩=>?_)
   subst hr;refine Dw hp (thn h4 λ_ s5 ⟨x,H5,I5,r5,y5,st5,fr5⟩=>?_);have I5':=I5.pinned (stat fr5) (T.c _ _ st5);refine Dw hp (thn (hg _ s5 σ3 H5 x u _ I5' r5 (step x H5 y5)) λ_ s6 ⟨σ6,H6,I6,q6⟩=>?_);refine Dw hp (thn (hb _ s6 σ6 H6 _ I6 q6) λf s7 q7=>?_);have again:∀{σ7:St} {H7:Hp},Inv X (pins++pW fp s5.heap) σ7 H7 s7->N σ7 H7->∃m,m<n/\∃i σ' H',Inv X pins σ' H' s7/\tn i s7.heap/\(∀b∈fp,H' b=none)/\W i m σ' H':=λ{σ7 H7} I7 n7=>by obtain⟨m',hm,w7⟩:=hN σ7 H7 n7;refine⟨m',hm,i+1,σ7,H7,I7.rE,T.a _ _ _ st5 λb hb o e=>(I7.O (b,o) (Bb _ (Bb _ (vy hb e)))).1,λb hb=>?_,w7⟩;obtain⟨o,e,d⟩:=T.c _ _ st5 b hb;exact(I7.O (b,o) (Bb _ (Bb _ (vy hb e)))).2.1
   cases f with
   |next=>obtain⟨σ7,H7,I7,n7⟩:=q7;exact again I7 n7
   |cont=>obtain⟨σ7,H7,I7,n7⟩:=q7;exact again I7 n7
   |brk=>obtain⟨σ7,H7,I7,q7⟩:=q7;exact⟨σ7,H7,I7.rE,q7⟩
   |ret v=>obtain⟨x7,σ7,H7,I7,r7,q7⟩:=q7;exact⟨x7,σ7,H7,I7.rE,r7,q7⟩
end
abbrev R2:=V->V->Hp->VK->Prop
def OpR(X:Cx)(f:Value->Value->Sem Value)(r:R2):Prop:=
 ∀(pins:List (Addr × Obj)) (s:Shared) (σ:St) (H:Hp) (x y:V) (v u:Value) (Q:VK),Inv X pins σ H s->RelV x v->RelV y u->r x y H Q ->
  wpAny (model X.f X.w) X.A (f v u) (EP X pins σ Q) X.j s
def UnR(X:Cx)(f:Value->Sem Value)(r:V->Hp->VK->Prop):Prop:=
 ∀(pins:List (Addr × Obj)) (s:Shared) (σ:St) (H:Hp) (x:V) (v:Value) (Q:VK),Inv X pins σ H s->RelV x v->r x H Q ->
  wpAny (model X.f X.w) X.A (f v) (EP X pins σ Q) X.j s
def yY(X:Cx)(f:Value)(r:List V->Hp->VK->Prop):Prop:=
 ∀(pins:List (Addr × Obj)) (s:Shared) (σ:St) (H:Hp) (xs:List V) (us:List Value) (Q:VK),Inv X pins σ H s->Vals xs us->r xs H Q ->
  wpAny (model X.f X.w) X.A (call f us) (EP X pins σ Q) X.j s
def PY(X:Cx)(r:V->Hp->(Bool->Hp->Prop)->Prop):Prop:=
 ∀(pins:List (Addr × Obj)) (s:Shared) (σ:St) (H:Hp) (x:V) (v:Value) (Q:Bool->Hp->Prop),Inv X pins σ H s->RelV x v->r x H Q ->
  wpAny (model X.f X.w) X.A (truthy v) (TP X pins σ Q) X.j s
def tOp(r:R2)(ta tb:TE):TE:=λσ H Q=>ta σ H λx H1=>tb σ H1 λy H2=>r x y H2 Q
def tUn(r:V->Hp->VK->Prop)(ta:TE):TE:=λσ H Q=>ta σ H λx H1=>r x H1 Q
def rI(C:Int->Int->Prop)(g:Int->Int->V):R2:=λx y H Q=>∃i j,x=.d i/\y=.d j/\C i j/\Q (g i j) H
def rI0(g:Int->Int->V):R2:=λx y H Q=>∃i j,x=.d i/\y=.d j/\Q (g i j) H
def rU(g:Int->V):V->Hp->VK->Prop:=λx H Q=>∃i,x=.d i/\Q (g i) H
section
variable {X:Cx}{a b c:Expr}{ta tb tc:TE}{pos:Pos}
theorem V1(ha:PE X a ta)(hb:PE X b tb){R:V->V->Hp->Prop}(I:Inv X pins σ H s)
 (h:ta σ H λx H1=>tb σ H1 λy H2=>R x y H2)  {f:Value->Value->Sem Value}
 (hf:∀v u s2 x y H2,Inv X pins σ H2 s2->RelV x v->RelV y u->R x y H2->wpAny (model X.f X.w) X.A (f v u) Q X.j s2) :
 wpAny (model X.f X.w) X.A (eval a X.a) (λv s₁=>wpAny (model X.f X.w) X.A (eval b X.a) (λu s₂=>wpAny (model X.f X.w) X.A (f v u) Q X.j s₂) X.j s₁) X.j s:=by
 refine thn (ha pins s σ H _ I h) λv s1 ⟨x,H1,I1,r1,q1⟩=>?_;refine thn (hb pins s1 σ H1 _ I1 q1) λu s2 ⟨y,H2,I2,r2,q2⟩=>?_;exact hf v u s2 x y H2 I2 r1 r2 q2
theorem kX(ho:OpR X (By op) r)(ha:PE X a ta)(hb:PE X b tb):PE X (.BinOp a op b pos) (tOp r ta tb):=by intro pins s σ H Q I h;exact wpAny_BinOp (V1 ha hb I h λv u s2 x y H2 I2 rx ry q=>ho pins s2 σ H2 x y v u Q I2 rx ry q)
theorem Qb(ho:UnR X (unaryOp op) r)(ha:PE X a ta):PE X (.UnaryOp op a pos) (tUn r ta):=by intro pins s σ H Q I h;exact UnaryOp_ (thn (ha pins s σ H _ I h) λv s1 ⟨x,H1,I1,r1,q1⟩=>ho pins s1 σ H1 x v Q I1 r1 q1)
theorem opI{f:Value->Value->Sem Value}{C:Int->Int->Prop}{g:Int->Int->Int}
 (rule:∀i j t u (s:Shared) (Q:Value->Shared->Prop) E,C i j->Q (.int (g i j) s.toks) {s with toks:=s.toks+1}->wpAny (model X.f X.w) X.A (f (.int i t) (.int j u)) Q E s) :
 OpR X f (rI C λi j=>.d (g i j)):=by
 intro pins s σ H x y v u Q I rx ry h;obtain⟨i,j,rfl,rfl,hc,q⟩:=h;obtain⟨t,rfl⟩:=rx;obtain⟨t',rfl⟩:=ry;exact rule i j t t' s _ _ hc ⟨.d (g i j),H,I.tok _,⟨_,rfl⟩,q⟩
theorem R8{f:Value->Value->Sem Value}{g:Int->Int->Int}
 (rule:∀i j t u (s:Shared) (Q:Value->Shared->Prop) E,Q (.int (g i j) s.toks) {s with toks:=s.toks+1}->wpAny (model X.f X.w) X.A (f (.int i t) (.int j u)) Q E s) :
 OpR X f (rI0 λi j=>.d (g i j)):=by
 intro pins s σ H x y v u Q I rx ry h;obtain⟨i,j,rfl,rfl,q⟩:=h;obtain⟨t,rfl⟩:=rx;obtain⟨t',rfl⟩:=ry;exact rule i j t t' s _ _ ⟨.d (g i j),H,I.tok _,⟨_,rfl⟩,q⟩
theorem Xx{f:Value->Value->Sem Value}{g:Int->Int->Bool}
 (rule:∀i j t u s (Q:Value->Shared->Prop) E,Q (.bool (g i j)) s->wpAny (model X.f X.w) X.A (f (.int i t) (.int j u)) Q E s) :
 OpR X f (rI0 λi j=>.f (g i j)):=by
 intro pins s σ H x y v u Q I rx ry h;obtain⟨i,j,rfl,rfl,q⟩:=h;obtain⟨t,rfl⟩:=rx;obtain⟨t',rfl⟩:=ry;exact rule i j t t' s _ _ ⟨.f (g i j),H,I,rfl,q⟩
def PV(i j:Int):Prop:=0<j/\j<1073741824
def PX(i j:Int):Prop:=0<=j/\j<=1000000/\i.natAbs<2 ^ 64
def Vr(i j:Int):Prop:=(-(2 ^ 64)<i/\i<2 ^ 64)\/(-(2 ^ 64)<j/\j<2 ^ 64)
theorem Vr.ok(h:Vr i j):IntMulOk i j:=by
 rcases h with⟨h1,h2⟩|⟨h1,h2⟩
 . exact .of_left (intBits_le_64 h1 h2)
 . exact .of_right (intBits_le_64 h1 h2)
theorem U9:OpR X (By .Add) (rI0 λi j=>.d (i+j)):=R8 λ_ _ _ _ _ _ _ q=>add_int q
theorem TK:OpR X (By .Sub) (rI0 λi j=>.d (i-j)):=R8 λ_ _ _ _ _ _ _ q=>sub_int q
theorem TF:OpR X (By .Mult) (rI Vr λi j=>.d (i*j)):=opI λ_ _ _ _ _ _ _ hc q=>mul_int q hc.ok
theorem Xz:OpR X (By .FloorDiv) (rI PV λi j=>.d (i/j)):=opI λi j _ _ _ _ _ hc q=>by have h1:(0:Int)<j:=hc.1;have h2:j<1073741824:=hc.2;exact floordiv_int (by omega) (by rw[Int.fdiv_eq_ediv_of_nonneg i (by omega)];exact q) (.inl (PyProof.noPylong_small (by omega)))
theorem TC:OpR X (By .Mod) (rI (λ_ j=>0<j) λi j=>.d (i%j)):=opI λi j _ _ _ _ _ hc q=>by have h1:(0:Int)<j:=hc;exact mod_int' (by omega) (by rw[Int.fmod_eq_emod_of_nonneg i (by omega)];exact q)
theorem TH:OpR X (By .Pow) (rI PX λi j=>.d (i ^ j.toNat)):=opI λ_ _ _ _ _ _ _ hc q=>pow_int_small hc.1 hc.2.1 hc.2.2 q
theorem unI{f:Value->Sem Value}{g:Int->Int}
 (rule:∀i t (s:Shared) (Q:Value->Shared->Prop) E,Q (.int (g i) s.toks) {s with toks:=s.toks+1}->wpAny (model X.f X.w) X.A (f (.int i t)) Q E s) :
 UnR X f (rU λi=>.d (g i)):=by
 intro pins s σ H x v Q I rx h;obtain⟨i,rfl,q⟩:=h;obtain⟨t,rfl⟩:=rx;exact rule i t s _ _ ⟨.d (g i),H,I.tok _,⟨_,rfl⟩,q⟩
theorem Sq:UnR X (unaryOp .USub) (rU λi=>.d (-i)):=unI λ_ _ _ _ _ q=>neg_int q
end
noncomputable def Qz:V->V->Bool
 |.g,.g=>true|.g,.d _=>true|.d _,.g=>true|.g,.f _=>true|.f _,.g=>true|.g,.e _=>true|.e _,.g=>true
 |.d _,.d _=>true|.f _,.f _=>true|.e _,.e _=>true|.h _,.h _=>true
 |.d _,.e _=>true|.e _,.d _=>true|.f _,.e _=>true|.e _,.f _=>true
 |_,_=>false
def rEq:R2:=λx y H Q=>Qz x y=true/\Q (.f (decide (x=y))) H
def rNe:R2:=λx y H Q=>Qz x y=true/\Q (.f (!decide (x=y))) H
theorem gQ:decide (V.d i=V.d j)=(i == j):=by rw[BE];simp
theorem bN:decide (V.f i=V.f j)=(i == j):=by rw[BE];simp
theorem gR:decide (V.e i=V.e j)=(i == j):=by rw[BE];simp
theorem gP:decide (V.h i=V.h j)=(i.toList == j.toList):=by rw[BE];cases i;cases j;simp
section
variable {X:Cx}{a b c:Expr}{ta tb tc:TE}{pos:Pos}
theorem zp(I:Inv X pins σ H s)(q:Q (.f k) H)(e:k=k'):EP X pins σ Q (.bool k') s:=by subst e;exact⟨.f k,H,I,rfl,q⟩
theorem VU:OpR X (Ba .Eq) rEq:=by
 intro pins s σ H x y v u Q I rx ry h;obtain⟨hs,q⟩:=h;cases x with
 |g=>
  cases rx;cases y with
  |g=>cases ry;exact PySem.EqNone.eq_none_none (zp I q (by simp))
  |f j=>cases ry;exact PySem.EqNone.eq_none_bool (zp I q (by simp))
  |d j=>obtain⟨t',rfl⟩:=ry;exact PySem.EqNone.eq_none_int (zp I q (by simp))
  |e j=>obtain⟨t',rfl⟩:=ry;exact PySem.EqNone.eq_none_str (zp I q (by simp))
  |_=>exact absurd (show false=true from hs) Ab
 |f i=>
  cases rx;cases y with
  |g=>cases ry;exact PySem.EqNone.eq_bool_none (zp I q (by simp))
  |f j=>cases ry;exact eq_bool (zp I q bN)
  |e j=>obtain⟨t',rfl⟩:=ry;exact PySem.EqMixed.eq_bool_str (zp I q (by simp))
  |_=>exact absurd (show false=true from hs) Ab
 |d i=>
  obtain⟨t,rfl⟩:=rx;cases y with
  |g=>cases ry;exact PySem.EqNone.eq_int_none (zp I q (by simp))
  |d j=>obtain⟨t',rfl⟩:=ry;exact eq_int (zp I q gQ)
  |e j=>obtain⟨t',rfl⟩:=ry;exact PySem.EqMixed.eq_int_str (zp I q (by simp))
  |_=>exact absurd (show false=true from hs) Ab
 |e i=>
  obtain⟨t,rfl⟩:=rx;cases y with
  |g=>cases ry;exact PySem.EqNone.eq_str_none (zp I q (by simp))
  |f j=>cases ry;exact PySem.EqMixed.eq_str_bool (zp I q (by simp))
  |d j=>obtain⟨t',rfl⟩:=ry;exact PySem.EqMixed.eq_str_int (zp I q (by simp))
  |e j=>obtain⟨t',rfl⟩:=ry;exact eq_str (zp I q gR)
  |_=>exact absurd (show false=true from hs) Ab
 |h i=>
  obtain⟨t,rfl⟩:=rx;cases y with
  |h j=>obtain⟨t',rfl⟩:=ry;exact PySem.W.eq_bytes (zp I q gP)
  |_=>exact absurd (show false=true from hs) Ab
 |_=>cases y<;>exact absurd (show false=true from hs) Ab
theorem VV:OpR X (Ba .NotEq) rNe:=by
 intro pins s σ H x y v u Q I rx ry h;obtain⟨hs,q⟩:=h;cases x with
 |g=>
  cases rx;cases y with
  |g=>cases ry;exact PySem.EqNone.ne_none_none (zp I q (by simp))
  |f j=>cases ry;exact PySem.EqNone.ne_none_bool (zp I q (by simp))
  |d j=>obtain⟨t',rfl⟩:=ry;exact PySem.EqNone.ne_none_int (zp I q (by simp))
  |e j=>obtain⟨t',rfl⟩:=ry;exact PySem.EqNone.ne_none_str (zp I q (by simp))
  |_=>exact absurd (show false=true from hs) Ab
 |f i=>
  cases rx;cases y with
  |g=>cases ry;exact PySem.EqNone.ne_bool_none (zp I q (by simp))
  |f j=>cases ry;exact ne_bool (zp I q (congrArg not bN))
  |e j=>obtain⟨t',rfl⟩:=ry;exact PySem.EqMixed.ne_bool_str (zp I q (by simp))
  |_=>exact absurd (show false=true from hs) Ab
 |d i=>
  obtain⟨t,rfl⟩:=rx;cases y with
  |g=>cases ry;exact PySem.EqNone.ne_int_none (zp I q (by simp))
  |d j=>obtain⟨t',rfl⟩:=ry;exact ne_int (zp I q (congrArg not gQ))
  |e j=>obtain⟨t',rfl⟩:=ry;exact PySem.EqMixed.ne_int_str (zp I q (by simp))
  |_=>exact absurd (show false=true from hs) Ab
 |e i=>
  obtain⟨t,rfl⟩:=rx;cases y with
  |g=>cases ry;exact PySem.EqNone.ne_str_none (zp I q (by simp))
  |f j=>cases ry;exact PySem.EqMixed.ne_str_bool (zp I q (by simp))
  |d j=>obtain⟨t',rfl⟩:=ry;exact PySem.EqMixed.ne_str_int (zp I q (by simp))
  |e j=>obtain⟨t',rfl⟩:=ry;exact ne_str (zp I q (congrArg not gR))
  |_=>exact absurd (show false=true from hs) Ab
 |h i=>
  obtain⟨t,rfl⟩:=rx;cases y with
  |h j=>obtain⟨t',rfl⟩:=ry;exact PySem.W.ne_bytes (zp I q (congrArg not gP))
  |_=>exact absurd (show false=true from hs) Ab
 |_=>cases y<;>exact absurd (show false=true from hs) Ab
theorem QC:OpR X (Ba .Lt) (rI0 λi j=>.f (decide (i<j))):=Xx λ_ _ _ _ _ _ _ q=>lt_int q
theorem QB:OpR X (Ba .LtE) (rI0 λi j=>.f (decide (i<=j))):=Xx λ_ _ _ _ _ _ _ q=>le_int q
theorem QA:OpR X (Ba .Gt) (rI0 λi j=>.f (decide (j<i))):=Xx λ_ _ _ _ _ _ _ q=>gt_int q
theorem R9:OpR X (Ba .GtE) (rI0 λi j=>.f (decide (j<=i))):=Xx λ_ _ _ _ _ _ _ q=>ge_int q
theorem X3:OpR X (Ba .IsNot) (λx y H Q=>y=.g/\Q (.f (!decide (x=.g))) H):=by
 intro pins s σ H x y v u Q I rx ry h;obtain⟨rfl,q⟩:=h;cases ry;refine isnot_none_gen (zp I q ?_);cases x<;>first
  |(cases rx;rfl)
  |(obtain⟨t,rfl⟩:=rx;rfl)
theorem g8(ho:OpR X (Ba op) r)(ha:PE X a ta)(hb:PE X b tb)(hm:Dn op b=false):PE X (.Compare a [op] [b] pos) (tOp r ta tb):=by intro pins s σ H Q I h;exact wpAny_Compare1 (V1 ha hb I h λv u s2 x y H2 I2 rx ry q=>ho pins s2 σ H2 x y v u Q I2 rx ry q) hm
def fJ(t:TE):TT:=λσ H Q=>t σ H λx H'=>∃k,x=.f k/\Q k H'
theorem m6(ho:OpR X (Ba op) r)(ha:PE X a ta)(hb:PE X b tb)(hm:Dn op b=false):PT X (.Compare a [op] [b] pos) (fJ (tOp r ta tb)):=by
 intro pins s σ H Q I h;refine wpAny_isTrue_Compare1 (thn (ha pins s σ H _ I h) λv s1 ⟨x,H1,I1,r1,q1⟩=>thn (hb pins s1 σ H1 _ I1 q1) λu s2 ⟨y,H2,I2,r2,q2⟩=>
  thn (ho pins s2 σ H2 x y v u _ I2 r1 r2 q2) λc s3 ⟨z,H3,I3,r3,k,e,q3⟩=>?_) hm
 subst e;cases r3;exact Br ⟨H3,I3,q3⟩
def YD(r r':R2)(ta tb tc:TE):TE:=λσ H Q=>ta σ H λx H1=>tb σ H1 λy H2=>r x y H2 λz H3=>∃k,z=.f k /\
 (if k=true then tc σ H3 λw' H4=>r' y w' H4 Q else Q (.f false) H3)
theorem ZX(ho:OpR X (Ba op) r)(ho':OpR X (Ba op') r')(ha:PE X a ta)(hb:PE X b tb)(hc:PE X c tc)
 (hm:GF [op,op'] [b,c]=false:=by with_unfolding_all rfl):PE X (.Compare a [op,op'] [b,c] pos) (YD r r' ta tb tc):=by
 intro pins s σ H Q I h;refine Compare_chain (thn (ha pins s σ H _ I h) λv s1 ⟨x,H1,I1,r1,q1⟩=>chain_link (thn (hb pins s1 σ H1 _ I1 q1) λu s2 ⟨y,H2,I2,r2,q2⟩=>
  thn (ho pins s2 σ H2 x y v u _ I2 r1 r2 q2) λd s3 ⟨z,H3,I3,r3,k,e,q3⟩=>?_)) hm
 subst e;cases r3;refine Br ?_;cases k with
 |false=>exact ite_ff ⟨.f false,H3,I3,rfl,q3⟩
 |true=>exact ite_tt (chain_last (thn (hc pins s3 σ H3 _ I3 q3) λw' s4 ⟨z',H4,I4,r4,q4⟩=>ho' pins s4 σ H4 y z' u w' Q I4 r2 r4 q4))
theorem Zk(ho:OpR X (Ba op) r)(ho':OpR X (Ba op') r')(ha:PE X a ta)(hb:PE X b tb)(hc:PE X c tc)
 (hm:GF [op,op'] [b,c]=false:=by with_unfolding_all rfl):PT X (.Compare a [op,op'] [b,c] pos) (fJ (YD r r' ta tb tc)):=by
 intro pins s σ H Q I h;refine isTrue_chain (thn (ha pins s σ H _ I h) λv s1 ⟨x,H1,I1,r1,q1⟩=>test_link (thn (hb pins s1 σ H1 _ I1 q1) λu s2 ⟨y,H2,I2,r2,q2⟩=>
  thn (ho pins s2 σ H2 x y v u _ I2 r1 r2 q2) λd s3 ⟨z,H3,I3,r3,k,e,q3⟩=>?_)) hm
 subst e;cases r3;refine Br ?_;cases k with
 |false=>
  obtain⟨k',e',q'⟩:=q3;cases e';exact ite_ff ⟨H3,I3,q'⟩
 |true=>
  refine ite_tt (test_last (thn (hc pins s3 σ H3 _ I3 q3) λw' s4 ⟨z',H4,I4,r4,q4⟩=>thn (ho' pins s4 σ H4 y z' u w' _ I4 r2 r4 q4) λd' s5 ⟨z2,H5,I5,r5,k2,e2,q5⟩=>?_));subst e2;cases r5;exact Br ⟨H5,I5,q5⟩
def Yb(K:Ag)(x:V)(H:Hp)(k:Bool):Prop:=
 match x with
 |.g=>k=false
 |.f b=>k=b
 |.d i=>k=(i != 0)
 |.e y=>y.length<=Av/\k=((y.length:Int) != 0)
 |.h y=>y.size<=Av/\k=((y.size:Int) != 0)
 |.c p=>(∃xs,SqL K H p xs/\k=!xs.isEmpty)\/(∃xs,SqT K H p xs/\k=!xs.isEmpty)\/∃kvs,H p=some (.i kvs)/\k=!kvs.isEmpty
 |_=>False
theorem jq(r:KV kvs vs):(!vs.isEmpty)=!kvs.isEmpty:=by
 cases r<;>rfl
theorem pE(r:Vals xs its):(!its.toArray.isEmpty)=!xs.isEmpty:=by
 cases r<;>simp
theorem td:(Av:Nat)<2 ^ 63:=by rw[AV];decide
theorem YJ:PY X (λx H Q=>∃k,Yb X.K x H k/\Q k H):=by
 intro pins s σ H x v Q I rx h;obtain⟨k,e,q⟩:=h;have hl:=td;have hs:Av=16777216:=AV;cases x with
 |g=>
  cases rx;have e':k=false:=e;subst e';exact truthy_none ⟨H,I,q⟩
 |f b=>
  cases rx;have e':k=b:=e;subst e';exact Br ⟨H,I,q⟩
 |d i=>
  obtain⟨t,rfl⟩:=rx;have e':k=(i != 0):=e;subst e';exact PySem.P.truthy_int ⟨H,I,q⟩
 |e y=>
  obtain⟨t,rfl⟩:=rx;obtain⟨hy,e'⟩:y.length<=Av/\k=((y.length:Int) != 0):=e;subst e';exact PySem.P.truthy_str (by omega) ⟨H,I.tok _,q⟩
 |h y=>
  obtain⟨t,rfl⟩:=rx;obtain⟨hy,e'⟩:y.size<=Av/\k=((y.size:Int) != 0):=e;subst e';exact PySem.W.truthy_bytes (by omega) ⟨H,I.tok _,q⟩
 |c p=>
  cases rx;have e':(∃xs,SqL X.K H p xs/\k=!xs.isEmpty)\/(∃xs,SqT X.K H p xs/\k=!xs.isEmpty)\/∃kvs,H p=some (.i kvs)/\k=!kvs.isEmpty:=e;rcases e' with⟨xs,hx,e'⟩|⟨xs,hx,e'⟩|⟨kvs,hx,e'⟩
  . subst e'
    obtain⟨its,r,pl,hz⟩:=I.list hx;have hlen:=r.length;exact wpAny_truthy_list pl.isList (by simp only[Ae];omega) ⟨H,I.tok _,by rw[pE r];exact q⟩
  . subst e'
    obtain⟨its,r,pl,hz⟩:=I.tuple hx;have hlen:=r.length;exact truthy_tuple pl (by simp only[Ae];omega) ⟨H,I.tok _,by rw[pE r];exact q⟩
  . subst e'
    obtain⟨hz,hS,vs,r,m⟩:kvs.length<=Av/\(p == BW)=false/\∃vs,KV kvs vs/\s.heap.DictOf (mX X.f X.w) p vs:=I.j p _ hx;have hlen:kvs.length=vs.length:=GA r;exact wpAny_truthy_dict hS m (by omega) ⟨H,I.tok _,by rw[jq r];exact q⟩
 |_=>exact(show False from e).elim
theorem kh(ha:PE X a ta)(he:∀whole,isTrue a X.a whole=(do let v <-whole;standAt a.pos;holding [v] (truthy v))) :
 PT X a (λσ H Q=>ta σ H λx H'=>∃k,Yb X.K x H' k/\Q k H'):=by
 intro pins s σ H Q I h;exact isTrue_plain (thn (ha pins s σ H _ I h) λv s1 ⟨x,H1,I1,r1,q1⟩=>YJ pins s1 σ H1 x v Q I1 r1 q1) (he _)
theorem pS:OpR X (By .Add) (λx y H Q=>∃i j,x=.e i/\y=.e j/\i.length+j.length<=Av/\Q (.e (i++j)) H):=by intro pins s σ H x y v u Q I rx ry h;obtain⟨i,j,rfl,rfl,hz,q⟩:=h;obtain⟨t,rfl⟩:=rx;obtain⟨t',rfl⟩:=ry;exact add_str (λt' tk=>⟨.e (i++j),H,I.tok _,⟨_,rfl⟩,q⟩) hz
theorem vals1(r:Vals [x] us):∃u,us=[u]/\RelV x u:=by
 cases r with
 |cons r1 r2=>cases r2;exact⟨_,rfl,r1⟩
theorem vals2(r:Vals [x,y] us):∃u w',us=[u,w']/\RelV x u/\RelV y w':=by
 cases r with
 |cons r1 r2=>
  cases r2 with
  |cons r3 r4=>cases r4;exact⟨_,_,rfl,r1,r3⟩
theorem fT(hc:X.h=true):yY X (.builtin "max") (λxs H Q=>∃i j,xs=[.d i,.d j]/\Q (.d (if j > i then j else i)) H):=by
 intro pins s σ H xs us Q I r h;obtain⟨i,j,rfl,q⟩:=h;obtain⟨u,w',rfl,⟨t,rfl⟩,⟨t',rfl⟩⟩:=vals2 r;refine max_two_ints (I.B.i hc) λh' tk k=>⟨_,H,I.kept k,?_,q⟩;by_cases hj:j > i
 . rw[if_pos hj,if_pos hj];exact⟨_,rfl⟩
 . rw[if_neg hj,if_neg hj];exact⟨_,rfl⟩
theorem fW(hc:X.h=true):yY X (.builtin "min") (λxs H Q=>∃i j,xs=[.d i,.d j]/\Q (.d (if j<i then j else i)) H):=by
 intro pins s σ H xs us Q I r h;obtain⟨i,j,rfl,q⟩:=h;obtain⟨u,w',rfl,⟨t,rfl⟩,⟨t',rfl⟩⟩:=vals2 r;refine min_two_ints (I.B.i hc) λh' tk k=>⟨_,H,I.kept k,?_,q⟩;by_cases hj:j<i
 . rw[if_pos hj,if_pos hj];exact⟨_,rfl⟩
 . rw[if_neg hj,if_neg hj];exact⟨_,rfl⟩
theorem oi:yY X (.type "int") (λxs H Q=>(∃i,xs=[.d i]/\Q (.d i) H)\/∃k,xs=[.f k]/\Q (.d (if k then 1 else 0)) H):=by
 intro pins s σ H xs us Q I r h;rcases h with⟨i,rfl,q⟩|⟨k,rfl,q⟩
 . obtain⟨u,rfl,t,rfl⟩:=vals1 r
   exact call_int_int ⟨.d i,H,I,⟨_,rfl⟩,q⟩
 . obtain⟨u,rfl,r1⟩:=vals1 r
   cases r1;exact call_int_bool ⟨.d (if k then 1 else 0),H,I.tok _,⟨_,rfl⟩,q⟩
end
structure Vv(h:Heap)(x dx C:Addr)(mA:Str->Option Value):Prop where
 a:h.get? x=some (F3 C dx)
 ns:h.Ns1 dx mA
 ne:dx≠x
theorem eM{h:Heap}(n:h.Ns1 dx mA):∃od,h.get? dx=some od/\∀name,Ge name od=some (mA name):=by
 obtain⟨o,es,ep,ho,hd,hk,_,hm⟩:=n;refine⟨o,ho,λname=>?_⟩;have e:=hm name;unfold nsFind findBy at e;rw[<-Array.find?_toList]at e;unfold Ge;rw[hd];dsimp only;split
 . rename_i y q
   rw[q]at e;exact congrArg some e
 . rename_i q
   rw[q]at e;have a:es.toList.any (·.refKey)=false:=by rw[List.any_eq_false];intro y hy;obtain⟨z,t,hkey⟩:=hk y (Array.mem_toList_iff.mp hy);simp[FZ.refKey,hkey]
   have a':¬es.toList.any (·.refKey)=true:=by rw[a];exact Ab
   rw[if_neg a'];exact congrArg some e
theorem Vv.look(I:Vv h x dx C mA):∃od,PySem.W.InstAt h x (F3 C dx) C (some od)/\∀name,Ge name od=some (mA name):=
 let ⟨od,ho,hl⟩:=eM I.ns
 ⟨od,⟨I.a,rfl,rfl,ho⟩,hl⟩
section
variable {P:Program}{w:World}{H H':Hp}{h h':Heap}{a C dx:Addr}{fs fs':List (Str × V)}
theorem XE(hok:HOk P w H h)(e:H a=some (.k C dx fs)):∃mA,Vv h a dx C mA/\(∀f,Vw (fs.lookup f) (mA f))/\PySem.Within mA (fs.map (·.1))/\fs.length<=1000/\H dx=some (.d a):=by obtain⟨d,z,ne,ob,mA,n,r,q⟩:=(show yQ P w H h a (.k C dx fs) from hok a _ e);exact⟨mA,⟨ob,n,ne⟩,r,q,z,d⟩
end
structure Cls(K:Ag)(C:Addr):Prop where
 pg:PySem.W.plainGet K C Ei=true
 hd:PySem.W.hasDictIn K C=true
 po:PySem.W.plainOver K C=true
 sa:PySem.W.findIn K (.ref C) "__setattr__"=some (some (.builtin "object.__setattr__"))
theorem Cls.get{K}(c:Cls K C)f:PySem.W.plainGet K C f=true:=c.pg
section
variable {X:Cx}{pins:List (Addr × Obj)}{σ:St}{H:Hp}{s:Shared}{A:Around}{E:Value->Shared->Prop}{Q:Value->Shared->Prop}{c:Value}{b:Bool}
inductive sG(K:Ag)(H:Hp):V->Value->Prop where
 |d:sG K H .g (.type "NoneType")
 |bl (x:Bool):sG K H (.f x) (.type "bool")
 |c (i:Int):sG K H (.d i) (.type "int")
 |f (x:Str):sG K H (.e x) (.type "str")
 |h (x:UInt64):sG K H (.j x) (.type "float")
 |b {a:Addr} {xs:List V} (e:H a=some (.b xs)):sG K H (.c a) (.type "list")
 |j {a:Addr} {o:Obj} {xs:List V} (e:H a=some (.e o (.b xs))):sG K H (.c a) (.type "list")
 |g {a:Addr} {xs:List V} (e:H a=some (.c xs)):sG K H (.c a) (.type "tuple")
 |dK {a:Addr} {kvs:List (Key × V)} (e:H a=some (.i kvs)):sG K H (.c a) (.type "dict")
 |dT {a:Addr} {kvs:List (List Key × V)} (e:H a=some (.j kvs)):sG K H (.c a) (.type "dict")
 |k {a C dx:Addr} {fs:List (Str × V)} (e:H a=some (.k C dx fs)) (cl:Cls K C) (ha:PySem.W.findIn K (.ref C) "__class__"=some (some (.builtin "object.__class__")))
  (hn:PySem.W.specialIn K (.builtin "object.__class__") "__get__"=some (some (.builtin "getset_descriptor.__get__"))) (htk:PySem.W.takesIn K (.builtin "object.__class__")=some true)
  (hm:PySem.W.mroIn K C (.type "object")=some true):sG K H (.c a) (.ref C)
theorem fu(I:Inv X pins σ H s)(rx:RelV x u)(ty:sG X.K H x t)(e:Gf X.K t c=some b)(h:∀tk,Q (.bool b) {s with toks:=tk}) :
 wpAny (model X.f X.w) A (call (.builtin "isinstance") [u,c]) Q E s:=by
 cases ty with
 |d=>cases (show u=Ck from rx);exact BF PySem.W.kitx_none I.kIn Be e (λz=>nomatch z) h
 |bl y=>cases (show u=Cm y from rx);exact BF PySem.W.kitx_bool I.kIn Be e (λz=>nomatch z) h
 |c i=>obtain⟨t,q⟩:=(show ∃t,u=F1 i t from rx);cases q;exact BF PySem.W.kitx_int I.kIn Be e (λz=>nomatch z) h
 |f y=>obtain⟨t,q⟩:=(show ∃t,u=F2 y t from rx);cases q;exact BF PySem.W.kitx_str I.kIn Be e (λz=>nomatch z) h
 |h y=>obtain⟨t,q⟩:=(show ∃t,u=Value.float y t from rx);cases q;exact BF PySem.W.kitx_float I.kIn Be e (λz=>nomatch z) h
 |@b a xs ea=>
  cases (show u=A5 a from rx);obtain⟨_,_,n,_,h1⟩:=(show yQ X.f X.w H s.heap a (.b xs) from I.j a _ ea);exact BF PySem.W.kitx_list I.kIn ⟨_,h1,rfl⟩ e (λz=>nomatch z) h
 |@j a ob xs ea=>
  cases (show u=A5 a from rx);obtain⟨_,_,_,n,_,h1⟩:=(show yQ X.f X.w H s.heap a (.e ob (.b xs)) from I.j a _ ea);exact BF PySem.W.kitx_list I.kIn ⟨_,h1,rfl⟩ e (λz=>nomatch z) h
 |@g a xs ea=>
  cases (show u=A5 a from rx);obtain⟨_,_,_,p⟩:=(show yQ X.f X.w H s.heap a (.c xs) from I.j a _ ea);obtain⟨o,h1,h2,_⟩:=p;exact BF PySem.W.kitx_tuple I.kIn ⟨o,h1,h2⟩ e (λz=>nomatch z) h
 |@dK a kvs ea=>
  cases (show u=A5 a from rx);obtain⟨_,_,vs,_,p⟩:=(show yQ X.f X.w H s.heap a (.i kvs) from I.j a _ ea);obtain⟨o,es,ep,h1,h2,_⟩:=p;exact BF PySem.W.kitx_dict I.kIn ⟨o,h1,h2.1⟩ e (λz=>nomatch z) h
 |@dT a kvs ea=>
  cases (show u=A5 a from rx);obtain⟨_,_,xs,_,o,es,ep,h1,h2,_⟩:=(show yQ X.f X.w H s.heap a (.j kvs) from I.j a _ ea);exact BF PySem.W.kitx_dict I.kIn ⟨o,h1,h2.1⟩ e (λz=>nomatch z) h
 |@k a C dx fs ea cl ha hn htk hm=>
  cases (show u=A5 a from rx);obtain⟨mA,O,_⟩:=XE I.j ea;obtain⟨od,J,_⟩:=O.look;exact BF (PySem.W.kitx_own (cl.get _) cl.hd ha hn htk hm) I.kIn J e (λz=>nomatch z) h
end
structure xQ(k:Nat)(A:Around):Prop where
 b:A.handled=none
 c:A.depth+3*k+5<CK
 a:A.units+16*k+200<cLine
 d:A.guards=some []
theorem xQ.deeper(r:xQ (k+1) A)env:xQ k (A.deeper env):=
 ⟨r.b,by have:=r.c;show A.depth+1+3*k+5<_;omega,by have:=r.a;show A.units+3+16*k+200<_;omega,r.d⟩
theorem xQ.depth(r:xQ k A):A.depth<CK:=by have:=r.c;omega
def qU:TA:=λ_ H Q=>Q [] H
def vi(ta:TE)(tr:TA):TA:=λσ H Q=>ta σ H λx H1=>tr σ H1 λxs H2=>Q (x::xs) H2
section
variable {X:Cx}{e:Expr}{es:List Expr}{te:TE}{t:TA}{pos:Pos}
theorem xK:PA X [] qU:=λ_ _ _ _ H Q I h=>Calls.spliced_nil ⟨[],H,I,.nil,h⟩
theorem wJ(ha:PE X e te)(hr:PA X es t)(hs:AI (e::es) X.a=(false,eval e X.a)::AI es X.a:=by rfl):PA X (e::es) (vi te t):=by intro pos pins s σ H Q I h;rw[hs];show wpAny _ _ (spliced ((false,eval e X.a)::backTo pos (AI es X.a))) _ _ s;refine Calls.spliced_cons (thn (ha pins s σ H _ I h) λu s1 ⟨x,H1,I1,r1,q1⟩=>?_);exact thn (hr pos pins s1 σ H1 _ I1 q1) λus s2 ⟨xs,H2,I2,r2,q2⟩=>⟨x::xs,H2,I2,.cons r1 r2,q2⟩
def P7(t:TA):TE:=λσ H Q=>t σ H λxs H1=>xs.length<=Av/\∀p,H1 p=none->Q (.c p) (upd H1 p (.c xs))
def iu(t:TA):TE:=λσ H Q=>t σ H λxs H1=>xs.length<=Av/\∀p,H1 p=none->Q (.c p) (upd H1 p (.b xs))
theorem Tp{x1}(h:PA X es t):PE X (.Tuple es x1 pos) (P7 t):=by
 intro pins s σ H Q I hq;refine wpAny_Tuple_spliced (thn (h pos pins s σ H _ I hq) λus s1 ⟨xs,H1,I1,r,z,q⟩=>⟨by rw[<-r.length];exact z,?_⟩)
 have hf:H1 s1.heap.objs.size=none:=I1.j.fresh (Ac _);refine⟨.c s1.heap.objs.size,upd H1 s1.heap.objs.size (.c xs),I1.laid (t':=s1.toks) (λb u e=>nx _ e) (Ac _) ?_,rfl,q _ hf⟩;exact⟨z,us,r,⟨_,AB _ rfl,rfl,_,rfl,rfl⟩⟩
theorem pV(h:PA X es t):PE X (.List es pos) (iu t):=by
 intro pins s σ H Q I hq;refine wpAny_List_spliced (thn (h pos pins s σ H _ I hq) λus s1 ⟨xs,H1,I1,r,z,q⟩=>⟨by rw[<-r.length];exact z,?_⟩)
 have hf:H1 s1.heap.objs.size=none:=I1.j.fresh (Ac _);refine⟨.c s1.heap.objs.size,upd H1 s1.heap.objs.size (.b xs),I1.laid (t':=s1.toks) (λb u e=>nx _ e) (Ac _) ?_,rfl,q _ hf⟩;exact⟨z,us,0,r,AB _ rfl⟩
end
abbrev Sp:=List V->Hp->VK->XK->Prop
abbrev CXT:=List Env->Hp->Shared->XK->Value->Shared->Prop
structure jU(P:Program)(w:World)(K:Ag)(mg:Str->Option Value)(base:Heap)(A:Around)(outer:List Env)(s:Shared)(H:Hp):Prop where
 a:A.frames=some outer
 c:Mod K mg base
 e:∀b o,base.get? b=some o->s.heap.get? b=some o/\H b=none
 g:base.objs.size<=s.heap.objs.size
 i:s.heap.FunFrames base outer
 h:∀b∈frs outer,H b=none
 d:HOk P w H s.heap
 f:AllBare s.gens
def CE(outer:List Env)(P:Program)(w:World)(H:Hp)(s:Shared)(Q:VK)(u:Value)(s':Shared):Prop:=
 ∃v H',s'.os=s.os/\AllBare s'.gens/\Un (frs outer) [] H H' s.heap s'.heap/\HOk P w H' s'.heap/\RelV v u/\Q v H'
def CR(CX:CXT)(outer:List Env)(P:Program)(w:World)(H:Hp)(s:Shared)(Q:VK)(E:XK)(r:Result)(s':Shared):Prop:=
 match r with
 |.ok (.ret u)=>CE outer P w H s Q u s'
 |.ok _=>False
 |.error e=>CX outer H s E e s'
structure sF(P:Program)(w:World)(K:Ag)(mg:Str->Option Value)(base:Heap)(CX:CXT)(k:Nat)(f:Addr)(fd:BQ)(ps:List Str)(sp:Sp):Prop where
 b:∀vs H Q E,sp vs H Q E->vs.length=ps.length
 a:∀(A:Around) (outer:List Env) (s:Shared) (H:Hp) (args:Args) (us:List Value) (vs:List V) (Q:VK) (E:XK),xQ k A->jU P w K mg base A outer s H->BindsTo s fd args (ps.zip us)->Vals vs us->sp vs H Q E ->
  codeAny (model P w) A (.call (.ref f) args) (CR CX outer P w H s Q E) s
theorem sF.imp{K}(F:sF P w K mg base CX k f fd ps sp)
 (h:∀vs H Q E,sp' vs H Q E->sp vs H Q E):sF P w K mg base CX k f fd ps sp':=
 ⟨λvs H Q E q=>F.b vs H Q E (h _ _ _ _ q),λA outer s H args us vs Q E hr he hb hv hs=>F.a A outer s H args us vs Q E hr he hb hv (h _ _ _ _ hs)⟩
section
variable {X:Cx}{pins:List (Addr × Obj)}{σ:St}{H:Hp}{s s':Shared}
theorem Inv.uR(I:Inv X pins σ H s):jU X.f X.w X.K X.d X.i X.A X.g s H:=
 ⟨I.B.g,I.B.j,I.bs,Au I.B.p I.sz,I.stack,I.lE,I.j,I.D⟩
theorem Inv.after(I:Inv X pins σ H s)(h:CE X.g X.f X.w H s Q u s'):EP X pins σ Q u s':=by obtain⟨v,H',os,bare,un,hok,r,q⟩:=h;obtain⟨hh,g,d,t,os'⟩:=s';obtain rfl:os'=s.os:=os;exact⟨v,H',I.call (h':=hh) (g':=g) (d':=d) (t':=t) (ch:=[]) un hok bare (λb z=>absurd z (by simp)),r,q⟩
end
def fH(sp:Sp)(dvs:List V)(E:XK)(t:TA):TE:=λσ H Q=>t σ H λvs H1=>sp (vs++dvs) H1 Q E
def Binds(K:Ag)(fd:BQ)(ps:List Str)(ds:List Value):Prop:=
 ∀(s:Shared) (us:List Value),K.In s.heap->(us++ds).length=ps.length->BindsTo s fd ⟨us,[]⟩ (ps.zip (us++ds))
theorem Binds.all{K}(h:∀us:List Value,us.length=ps.length->Gr fd ⟨us,[]⟩=pure (ps.zip us)):Binds K fd ps []:=λs us _ hl=>by rw[A8]at hl ⊢;exact .of_eq (h us hl)
def Passes(CX:CXT)(X:Cx)(E:XK):Prop:=∀(pins:List (Addr × Obj)) (σ:St) (H:Hp) (s:Shared) (e:Value) (s':Shared),Inv X pins σ H s->CX X.g H s E e s'->X.j e s'
section
variable {X:Cx}{CX:CXT}{k:Nat}{f C:Addr}{fd:BQ}{ps:List Str}{sp:Sp}{dvs:List V}{ds:List Value}{E:XK}{x m:Str}{p pos apos:Pos}{e o:Expr}{es:List Expr}{ta:TE}{t:TA}
theorem iT(F:sF X.f X.w X.K X.d X.i CX k f fd ps sp)(hr:xQ k X.A)(hb:Binds X.K fd ps ds)(hd:Vals dvs ds)(hx:Passes CX X E)
 (I:Inv X pins σ H s) (r:Vals vs us) (h:sp (vs++dvs) H Q E):wpAny (model X.f X.w) X.A (call (.ref f) us) (EP X pins σ Q) X.j s:=by
 have r2:Vals (vs++dvs) (us++ds):=r.append hd;have hl:(us++ds).length=ps.length:=by rw[<-r2.length];exact F.b _ _ _ _ h
 refine Eu (Dd (F.a X.A X.g s H ⟨us,[]⟩ (us++ds) (vs++dvs) Q E hr I.uR (hb s us I.kIn hl) r2 h) λr s' hq=>?_);cases r with
 |error e=>exact hx pins σ H s e s' I hq
 |ok fl=>
  cases fl with
  |ret u=>exact I.after hq
  |next=>exact Az hq
  |brk=>exact Az hq
  |cont=>exact Az hq
theorem mx(F:sF X.f X.w X.K X.d X.i CX k f fd ps sp)(hr:xQ k X.A)(hg:Gl X x)(hm:X.d x=some (.ref f))(hk:B4 X.K (.ref f)=true)(hb:Binds X.K fd ps ds)(hd:Vals dvs ds)(hx:Passes CX X E)
 (ha:PA X (e::es) t) (hdb:(x == ("__debug__":Str))=false:=by decide) (he:AI (e::es) X.a=(false,eval e X.a)::AI es X.a:=by rfl) (hpl:(backTo pos (AI es X.a)).any (·.1)=false:=by rfl) :
 PE X (.Call (.Name x p) (e::es) [] pos) (fH sp dvs E t):=by
 intro pins s σ H Q I h;refine BI (vJ I hg hm ?_ hdb);refine DB (h₀:=X.i) I.B.j.a hk (thn (ha pos pins s σ H _ I h) λus s1 ⟨vs,H1,I1,r,q⟩=>⟨I1.kIn,?_⟩) he hpl;exact iT F hr hb hd hx I1 r q
theorem kS(F:sF X.f X.w X.K X.d X.i CX k f fd ps sp)(hr:xQ k X.A)(hg:Gl X x)(hm:X.d x=some (.ref f))(hk:B4 X.K (.ref f)=true)(hb:Binds X.K fd ps ds)(hd:Vals dvs ds)(hx:Passes CX X E)
 (hdb:(x == ("__debug__":Str))=false:=by decide):PE X (.Call (.Name x p) [] [] pos) (fH sp dvs E qU):=by
 intro pins s σ H Q I h;refine BI (vJ I hg hm ?_ hdb);exact PySem.W.callWith_K0 I.kIn hk (iT (us:=[]) F hr hb hd hx I .nil h)
end
structure vI(N P:List Str)(sc:Scope):Prop where
 a:sc.kind=.function
 co:sc.isCoroutine=false
 f:sc.isGenerator=false
 b:N.Nodup
 c:N.take P.length=P
 e:∀x∈P,sc.names.lookup x=some .local\/sc.names.lookup x=some .cell
 d:∀y∈sc.names,y.2≠.free
theorem oh{kindOf}:∀{binds} {m},(∀v,(x,v) ∉ binds)->bindL kindOf binds m x=m x
 |[],_,_=>rfl
 |(n,v)::r,m,h=>by
  unfold bindL;rw[oh λw hw=>h w (Ah _ hw)];split
  . have:x≠n:=by rintro rfl;exact h v Ar
    simp[this]
  . rfl
theorem oZ{kindOf}:∀{binds} {m},(∀v,(x,v) ∉ binds)->bindC kindOf binds m x=m x
 |[],_,_=>rfl
 |(n,v)::r,m,h=>by
  unfold bindC;rw[oZ λw hw=>h w (Ah _ hw)];split
  . rfl
  . have:x≠n:=by rintro rfl;exact h v Ar
    simp[this]
theorem oa{kindOf}:∀{P:List Str} {vs} {i:Nat} {m},P.Nodup->P[i]?=some x->vs[i]?=some v->kindOf x=some .local ->
 bindL kindOf (P.zip vs) m x=some v
 |[],_,_,_,_,h,_,_=>by simp at h
 |_::_,[],_,_,_,_,h,_=>by simp at h
 |p::P,w::vs,0,m,nd,h1,h2,hk=>by
  simp at h1 h2;subst h1;subst h2;show bindL kindOf ((p,w)::P.zip vs) m p=_;unfold bindL;rw[oh λv hv=>(BR.mp nd).1 (Ew hv).1,if_pos hk];simp
 |p::P,w::vs,i+1,m,nd,h1,h2,hk=>by show bindL kindOf ((p,w)::P.zip vs) m x=_;unfold bindL;exact oa (i:=i) (BR.mp nd).2 (by simpa using h1) (by simpa using h2) hk
theorem oY{kindOf}:∀{P:List Str} {vs} {i:Nat} {m},P.Nodup->P[i]?=some x->vs[i]?=some v->kindOf x≠some .local ->
 bindC kindOf (P.zip vs) m x=some v
 |[],_,_,_,_,h,_,_=>by simp at h
 |_::_,[],_,_,_,_,h,_=>by simp at h
 |p::P,w::vs,0,m,nd,h1,h2,hk=>by
  simp at h1 h2;subst h1;subst h2;show bindC kindOf ((p,w)::P.zip vs) m p=_;unfold bindC;rw[oZ λv hv=>(BR.mp nd).1 (Ew hv).1,if_neg hk];simp
 |p::P,w::vs,i+1,m,nd,h1,h2,hk=>by show bindC kindOf ((p,w)::P.zip vs) m x=_;unfold bindC;exact oY (i:=i) (BR.mp nd).2 (by simpa using h1) (by simpa using h2) hk
noncomputable def start(N:List Str)(vs:List V):St:=vs.map some++Ap (N.length-vs.length) none
noncomputable def wL(CX:CXT)(P:Program)(w:World)(K:Ag)(mg:Str->Option Value)(base:Heap)(N:List Str)(qual:Str)(scope:Scope)(f:Addr)(cd:Value)(A:Around)(outer:List Env)(s:Shared)(H:Hp)(E:XK):Cx where
 f:=P
 w:=w
 K:=K
 d:=mg
 i:=base
 A:=A.deeper (envOfC qual scope s.heap.objs.size f cd)
 N:=N
 l:=s
 r:=H
 a:=envOfC qual scope s.heap.objs.size f cd
 k:=outer
 g:=envOfC qual scope s.heap.objs.size f cd::outer
 m:=[]
 h:=true
 n:=λ_=>true
 q:=[]
 j:=λe s'=>wpAny (model P w) (A.deeper (envOfC qual scope s.heap.objs.size f cd)) (leaving (envOfC qual scope s.heap.objs.size f cd) e) (λ_ s''=>CX outer H s E e s'') (λe' s''=>CX outer H s E e' s'') s'
theorem lV{sc:Scope}(h:sc.names.lookup x=some .cell):∃c,(Cu n sc.names []).lookup x=some c:=by have q:=D1 sc.names n [] (.inl h);exact Ca.mp q
theorem ox{K}
 (S:vI N ps scope) (hd:A.handled=none) (e0:jU P w K mg base A outer s H) (hl:vs.length=ps.length) (r:Vals vs us)
 (x:InCallC s s.heap.objs.size (bindL (envOfC qual scope s.heap.objs.size f cd).kindOf (ps.zip us) λ_=>none) (Cu (s.heap.objs.size+1) scope.names []) (bindC (envOfC qual scope s.heap.objs.size f cd).kindOf (ps.zip us) λ_=>none) s1) :
 Inv (wL CX P w K mg base N qual scope f cd A outer s H E) [] (start N vs) H s1:=by
 have hpl:ps.length<=N.length:=by have:=congrArg Gb S.c;rw[B1]at this;omega
 obtain⟨h1,tk,rfl,hk⟩:=x.done;have noA:∀b:Addr,b ∉ (wL CX P w K mg base N qual scope f cd A outer s H E).m:=λb z=>absurd (show b∈([]:List Addr) from z) (by simp)
 refine⟨⟨e0.c,S.a,rfl,rfl,Ac _,λy z c h1 h2=>?_,λy hy=>?_,λy c _ h=>?_,λ_=>hd,Ey e0.a,.inr ⟨rfl,rfl⟩,λb z=>absurd z (noA b),e0.e,e0.g,λb _ _=>noA b,λb z=>absurd z (noA b),e0.i,e0.h⟩,
  rfl,e0.f,Un.kept hk,⟨_,x.toInCall.ns,λi y v h1 h2 h3=>?_⟩,λy c h=>⟨_,x.cell y c h⟩,e0.d.fresh (Ac _),λy c h=>?_,λp hp=>absurd (show p∈([]:List (Addr × Obj)) from hp) (by simp),e0.d.kept hk,?_⟩
 . exact name_of_addr x.apart (AY h1) (AY h2)
 . have hy:scope.names.lookup y=some .cell\/scope.names.lookup y=some .free:=hy
   rcases hy with hy|hy
   . exact lV hy
   . exact absurd rfl (S.d _ (AY hy))
 . exact C9 (x.above y c (AY h))
 . have hi:i<vs.length:=by
    unfold start at h2;by_cases hi:i<vs.length
    . exact hi
    . rw[BL (by simpa using hi)]at h2
      rw[DU]at h2;split at h2<;>cases h2
   have ha:vs[i]?=some v:=by
    unfold start at h2;rw[A1 (by simpa using hi),AG]at h2
    cases e:vs[i]? with
    |none=>rw[e]at h2;cases h2
    |some a=>rw[e]at h2;cases h2;rfl
   obtain⟨u,hu,rv⟩:=r.get ha;have hp:ps[i]?=some y:=by rw[<-S.c,DC (by omega)];exact h1
   have ndP:ps.Nodup:=by rw[<-S.c];exact S.b.sublist (Fo _ _)
   refine⟨u,rv,?_⟩;rcases S.e y (AA hp) with k|k
   . exact .inl ⟨k,oa ndP hp hu k⟩
   . obtain⟨c,e⟩:=lV (n:=s.heap.objs.size+1) k
     refine .inr ⟨.inl k,c,e,?_⟩;have q:=x.cell y c e;rw[oY ndP hp hu (by show scope.names.lookup y≠_;rw[k];decide)]at q
     exact q
 . exact e0.d.fresh (C9 (x.above y c (AY h)))
 . unfold start
   show _=N.length;rw[Am,Aa,B5];omega
theorem VH{K}{dV kV doc pm cdv ct oc}
    (lk:K.lookup f=some ⟨oc,od,.func (BK name qual params body scope dV kV doc pm an cdv ct),osl⟩) (hcd:BO K cdv qual=true) (S:vI N ps scope)
 (len:∀vs H Q E,sp vs H Q E->vs.length=ps.length)
 (hbody:∀A outer s H vs Q E,xQ k (A.deeper (envOfC qual scope s.heap.objs.size f cdv))->sp vs H Q E ->
  ∃t,PSs (wL CX P w K mg base N qual scope f cdv A outer s H E) body t/\t {a:=λ_ H'=>Q .g H',b:=Q} (start N vs) H) :
 sF P w K mg base CX (k+1) f (BK name qual params body scope dV kV doc pm an cdv ct) ps sp:=by
 refine⟨len,λA outer s H args us vs Q E hr e0 hb r hsp=>?_⟩;have hl:=len _ _ _ _ hsp;have KX:K.In s.heap:=e0.c.a.keeps λb o e=>(e0.e b o e).1;have lim:s.heap.NoLimit:=e0.c.b.keeps λb o e=>(e0.e b o e).1;have hkind:∀y∈ps.zip us,scope.names.lookup y.1=some .local\/(scope.names.lookup y.1=some .cell/\((Cu (s.heap.objs.size+1) scope.names []).lookup y.1).isSome=true):=λ⟨n,v⟩ hy=>by
  rcases S.e n (Ew hy).1 with q|q
  . exact .inl q
  . exact .inr ⟨q,D1 _ _ _ (.inl q)⟩
 refine codeAny_call_function hr.depth (KX _ _ lk) rfl S.co S.f rfl (PySem.W.codeRec_of KX hcd) (hb _ _ _ _ ?_);refine E6 S.a hkind λenv he s1 x=>?_;subst he;refine⟨lim.keeps x.toInCall.keep,codeAny_func ?_⟩;obtain⟨t,ht,hq⟩:=hbody A outer s H vs Q E (hr.deeper _) hsp;have I:Inv (wL CX P w K mg base N qual scope f cdv A outer s H E) [] (start N vs) H s1:=ox S hr.b e0 hl r x;refine A6 (ht [] s1 (start N vs) H _ I hq) (λfl s' hs=>?_) λe s' hs=>hs;have fin:∀{σ':St} {H':Hp} {v:V} {u:Value},Inv (wL CX P w K mg base N qual scope f cdv A outer s H E) [] σ' H' s'->RelV v u->Q v H'->CE outer P w H s Q u s':=
  λ{σ' H' v u} J rv q=>⟨v,H',J.R,J.D,J.C,J.j,rv,q⟩
 cases fl with
 |ret u=>
  obtain⟨v,σ',H',J,rv,q⟩:=hs;exact fin J rv q
 |next=>
  obtain⟨σ',H',J,q⟩:=hs;exact fin (v:=V.g) (u:=Ck) J rfl q
 |brk=>
  obtain⟨_,_,_,q⟩:=hs;exact Az q
 |cont=>
  obtain⟨_,_,_,q⟩:=hs;exact Az q
section
variable {X:Cx}{x:Str}{p pos:Pos}{e:Expr}{es:List Expr}{t:TA}{id T:String}{r:List V->Hp->VK->Prop}
def tCB(r:List V->Hp->VK->Prop)(t:TA):TE:=λσ H Q=>t σ H λvs H1=>r vs H1 Q
theorem sZ(hc:yY X (.builtin id) r)(hg:Gl X x)(hm:X.d x=none)(hv:B9 x=some (.builtin id))(ha:PA X (e::es) t)(hn:x≠"__name__":=by decide)(hdb:(x == ("__debug__":Str))=false:=by decide)
 (he:AI (e::es) X.a=(false,eval e X.a)::AI es X.a:=by rfl) (hpl:(backTo pos (AI es X.a)).any (·.1)=false:=by rfl):PE X (.Call (.Name x p) (e::es) [] pos) (tCB r t):=by
 intro pins s σ H Q I h;refine BI (vv I hg hm hv ?_ hn hdb);exact PyProof.Rows.callWith_builtin1 (thn (ha pos pins s σ H _ I h) λus s1 ⟨vs,H1,I1,r1,q1⟩=>hc pins s1 σ H1 vs us Q I1 r1 q1) he hpl
theorem xg(hc:yY X (.type T) r)(hg:Gl X x)(hm:X.d x=none)(hv:B9 x=some (.type T))(ha:PA X (e::es) t)(hn:x≠"__name__":=by decide)(hdb:(x == ("__debug__":Str))=false:=by decide)
 (he:AI (e::es) X.a=(false,eval e X.a)::AI es X.a:=by rfl) (hpl:(backTo pos (AI es X.a)).any (·.1)=false:=by rfl):PE X (.Call (.Name x p) (e::es) [] pos) (tCB r t):=by
 intro pins s σ H Q I h;refine BI (vv I hg hm hv ?_ hn hdb);exact BH (thn (ha pos pins s σ H _ I h) λus s1 ⟨vs,H1,I1,r1,q1⟩=>hc pins s1 σ H1 vs us Q I1 r1 q1) he hpl
end
end L2
namespace HT
open PySem PyProof.Rows
section
variable {prog:Program}{w:World}{A:Around}{E:Value->Shared->Prop}{s:Shared}
theorem Yh(ht:IsTup s.heap t vs.toArray)(hb:IsTup s.heap b ws.toArray)(hv:vs≠[])
 (h1:ws=[]->Q (.ref t) s) (h2:ws≠[]->Q (.ref s.heap.objs.size) {s with heap:=s.heap.push {cls:=.type "tuple",data:=.seq (vs++ws).toArray}})
 (hsz:vs.length+ws.length<=Av):wpAny (model prog w) A (By .Add (.ref t) (.ref b)) Q E s:=by
 obtain⟨⟨cls,dd,data,sl⟩,ho,hc,n,hd⟩:=id ht;obtain⟨⟨cls2,dd2,data2,sl2⟩,ho2,hc2,n2,hd2⟩:=id hb;simp only at hc hd hc2 hd2;subst hc hd hc2 hd2;have e:vs.toArray++ws.toArray=(vs++ws).toArray:=by simp
 by_cases hw:ws=[]
 . exact concat_meets ⟨_,ho,rfl⟩ ⟨_,ho2,rfl⟩ FG GB D2 DV (DE _ _)
    (tuple_addW1 t b vs.toArray ws.toArray n n2 dd dd2 sl sl2 (by simpa using hv) (by simp[hw])) ⟨ho,ho2,h1 hw⟩
 . refine concat_meets ⟨_,ho,rfl⟩ ⟨_,ho2,rfl⟩ FG GB D2 DV (DE _ _)
    (tuple_addW2 t b vs.toArray ws.toArray n n2 dd dd2 sl sl2 (by simpa using hv) (by simpa using hw) (by rw[Ae,Ae];exact hsz)) ⟨ho,ho2,?_⟩
   rw[e];exact h2 hw
noncomputable def sIx(n d:Nat):Option Int->Nat
 |none=>d
 |some v=>if v<0 then (v+(n:Int)).toNat else min v.toNat n
theorem fF(n d k:Nat):sIx n d (some (k:Int))=min k n:=by
 show (if (k:Int)<0 then ((k:Int)+(n:Int)).toNat else min (k:Int).toNat n)=min k n
 rw[if_neg (by omega),AN]
theorem SE n d(hd:d<=n)o:sIx n d o<=n:=by
 cases o with
 |none=>exact hd
 |some v=>
  show (if v<0 then (v+(n:Int)).toNat else min v.toNat n)<=n
  by_cases hv:v<0
  . rw[if_pos hv];omega
  . rw[if_neg hv];exact Dh _ _
theorem gN v(n d:Nat):(if v<0 then max (v+(n:Int)) 0 else min v (n:Int))=((sIx n d (some v):Nat):Int):=by
 show (if v<0 then max (v+(n:Int)) 0 else min v (n:Int))=(((if v<0 then (v+(n:Int)).toNat else min v.toNat n):Nat):Int)
 by_cases hv:v<0
 . simp only[if_pos hv];omega
 . simp only[if_neg hv];omega
theorem jX lo hi(n:Nat):Bo lo hi 1 (n:Int)=(((sIx n 0 lo:Nat):Int),((sIx n n hi:Nat):Int)):=by
 have h1:¬((1:Int)<0):=by omega
 unfold Bo;simp only[h1,if_false];refine Dx ?_ ?_
 . cases lo with
   |none=>rfl
   |some v=>exact gN v n 0
 . cases hi with
   |none=>rfl
   |some v=>exact gN v n n
theorem iP(i j:Nat):Bz (i:Int) (j:Int) 1=j-i:=by
 unfold Bz;have h1:(1:Int) > 0:=by omega
 simp only[h1,if_true,Int.ediv_one];split<;>omega
theorem vE(p:IsPart v o)(h:Q o s):wpAny (model prog w) A (Builtin.Slice.slicePartIndex v) Q E s:=by
 cases p with
 |none=>exact slicePart_none h
 |int i t=>exact slicePart_int h
theorem vh{lo hi}{n:Nat}(hs:s.heap.IsSliceOf sl vl vu .none)(pl:IsPart vl lo)(pu:IsPart vu hi)
 (h:Q (((sIx n 0 lo:Nat):Int),1,sIx n n hi-sIx n 0 lo) s):wpAny (model prog w) A (CA (.ref sl) (pure (n:Int))) Q E s:=by
 obtain⟨os,hos,hcs,hds⟩:=id hs;unfold CA FA;refine dS (dS (Co hos hds (x:=vl) rfl (dS (Co hos hds (x:=vu) rfl (dS (Co hos hds (x:=.none) rfl (Ai ?_)))))));refine dS (slicePart_none ?_);show wpAny _ _ (if ((1:Int) == 0)=true then _ else _) _ _ s
 rw[if_neg (by decide)]
 refine dS (vE pl (dS (vE pu (dS (Ai ?_)))));show wpAny _ _ (match Bo lo hi 1 (n:Int) with|(lo,hi)=>pure (lo,(1:Int),Bz lo hi 1)) _ _ s
 rw[jX lo hi n];show wpAny _ _ (pure (((sIx n 0 lo:Nat):Int),(1:Int),Bz ((sIx n 0 lo:Nat):Int) ((sIx n n hi:Nat):Int) 1)) _ _ s;rw[iP];exact Ai h
theorem Ze(xs:Array Value)(i k:Nat):((Aq k).filterMap λ(m:Nat)=>xs[((i:Int)+(m:Int)*1).toNat]?).toArray=((xs.toList.drop i).take k).toArray:=by
 have e:(λ(m:Nat)=>xs[((i:Int)+(m:Int)*1).toNat]?)=λm=>xs[i+m]?:=by
  funext m;have:((i:Int)+(m:Int)*1).toNat=i+m:=by omega
  rw[this]
 rw[e];have:=pick_run xs i k;rw[B6]at this;have e2:((λx=>xs[x]?)∘λx=>i+x)=λm=>xs[i+m]?:=rfl;rw[e2]at this;rw[this]
theorem sS{lo hi}(ht:IsTup s.heap t items)(hs:s.heap.IsSliceOf sl vl vu .none)(pl:IsPart vl lo)(pu:IsPart vu hi)
 (hw:¬(sIx items.size 0 lo=0/\sIx items.size items.size hi=items.size))
 (h:Q (.ref s.heap.objs.size) {s with heap:=s.heap.push {cls:=.type "tuple",data:=.seq ((items.toList.drop (sIx items.size 0 lo)).take (sIx items.size items.size hi-sIx items.size 0 lo)).toArray}})
 (hsz:items.size<=Av):wpAny (model prog w) A (getItem (.ref t) (.ref sl)) Q E s:=by
 have htake:sizeOk (.seq ((items.toList.drop (sIx items.size 0 lo)).take (sIx items.size items.size hi-sIx items.size 0 lo)).toArray):=by show ((items.toList.drop (sIx items.size 0 lo)).take (sIx items.size items.size hi-sIx items.size 0 lo)).toArray.size<=Av;rw[Ae,B1,Di,CU];omega
 have hj:sIx items.size items.size hi<=items.size:=SE _ _ (Ac _) hi;obtain⟨os,hos,hcs,hds⟩:=id hs;have hTs:s.TypeIs (.ref sl) "slice":=⟨os,hos,hcs⟩;unfold getItem
 try with_reducible refine BX ?_
 first|refine dS (Ai ?_)|skip
 refine dS (Fp ht.typeIs (by decide) ?_)
 refine dS (Cj (name:=De "__getitem__") ht.typeIs A0
  (Dj A0 ht.typeIs EL ?_ (EV _ _)))
 show wpAny _ _ (Dp (.ref t) >>= _) _ _ s;refine dS (D7 ht ?_);refine dS (Ez hTs ?_);rw[if_pos (by decide)]
 refine dS (vh hs pl pu ?_);have hno:¬((((sIx items.size 0 lo:Nat):Int) == 0&&(1:Int) == 1&&(sIx items.size items.size hi-sIx items.size 0 lo) == items.size)=true):=by intro q;rw[cf,cf]at q;have q1:((sIx items.size 0 lo:Nat):Int)=0:=Ci q.1.1;have q2:sIx items.size items.size hi-sIx items.size 0 lo=items.size:=Ci q.2;exact hw ⟨by omega,by omega⟩
 show wpAny _ _ (if (((sIx items.size 0 lo:Nat):Int) == 0&&(1:Int) == 1&&(sIx items.size items.size hi-sIx items.size 0 lo) == items.size)=true then _ else _) _ _ s
 rw[if_neg hno,Ze]
 first
  |exact dS (m:=Bq _) (Bg (Ai ⟨_,rfl,Ai h⟩) htake)
  |exact dS (m:=Bq _) (Bg (dS (Ai (Ai ⟨_,rfl,Ai h⟩))) htake)
  |exact dS (dS (m:=Bq _) (Bg (Ai (Ai ⟨_,rfl,Ai h⟩)) htake))
  |exact dS (dS (m:=Bq _) (Bg (Ai ⟨_,rfl,Ai h⟩) htake))
end
end HT
namespace L2
open PySem PySem.Spec PyProof.Rows
abbrev TO:=St->Hp->(Option Int->Hp->Prop)->Prop
def PO(X:Cx)(e:Option Expr)(t:TO):Prop:=
 ∀(pins:List (Addr × Obj)) (s:Shared) (σ:St) (H:Hp) (Q:Option Int->Hp->Prop),Inv X pins σ H s->t σ H Q ->
  wpAny (model X.f X.w) X.A (evalPart e X.a) (λu s'=>∃o H',Inv X pins σ H' s'/\IsPart u o/\Q o H') X.j s
def Wk:TO:=λ_ H Q=>Q none H
def PH(t:TE):TO:=λσ H Q=>t σ H λx H1=>∃i,x=.d i/\Q (some i) H1
section
variable {X:Cx}{e:Expr}{te:TE}{lo hi:Option Expr}{tl th:TO}{pos p2:Pos}
theorem WO:PO X none Wk:=by intro pins s σ H Q I h;rw[evalPart_none];exact Ai ⟨none,H,I,.none,h⟩
theorem WQ(h:PE X e te):PO X (some e) (PH te):=by intro pins s σ H Q I hw;rw[evalPart_some];refine thn (h pins s σ H _ I hw) λu s1 ⟨x,H1,I1,r1,q1⟩=>?_;obtain⟨i,rfl,q⟩:=q1;obtain⟨t,rfl⟩:=r1;exact⟨some i,H1,I1,.int i t,q⟩
def SlR(X:Cx)(r:V->Option Int->Option Int->Hp->VK->Prop):Prop:=
 ∀(pins:List (Addr × Obj)) (s:Shared) (σ:St) (H:Hp) (x:V) (v vl vu:Value) (lo hi:Option Int) (sl:Addr) (Q:VK),Inv X pins σ H s->RelV x v->s.heap.IsSliceOf sl vl vu .none->IsPart vl lo->IsPart vu hi->r x lo hi H Q ->
  ∃T id,Gs (.type T) "__getitem__"=pure (some (.builtin id))/\s.TypeIs v T/\wpAny (model X.f X.w) X.A (getItem v (.ref sl)) (EP X pins σ Q) X.j s
def tSl(r:V->Option Int->Option Int->Hp->VK->Prop)(te:TE)(tl th:TO):TE:=λσ H Q=>te σ H λx H1=>tl σ H1 λl H2=>th σ H2 λu H3=>r x l u H3 Q
theorem Zb(hr:SlR X r)(he:PE X e te)(hl:PO X lo tl)(hu:PO X hi th):PE X (.Subscript e (.Slice lo hi none p2) pos) (tSl r te tl th):=by
 intro pins s σ H Q I h;refine Gu (thn (he pins s σ H _ I h) λv s1 ⟨x,H1,I1,r1,q1⟩=>?_);refine wpAny_Slice (thn (hl pins s1 σ H1 _ I1 q1) λvl s2 ⟨l,H2,I2,pl,q2⟩=>thn (hu pins s2 σ H2 _ I2 q2) λvu s3 ⟨u,H3,I3,pu,q3⟩=>?_);rw[evalPart_none];refine Ai ?_;have I4:Inv X pins σ H3 {s3 with heap:=s3.heap.push {cls:=.type "slice",data:=.fields #[vl,vu,.none]}}:=I3.kept (t':=s3.toks) λb ob q=>nx _ q
 obtain⟨T,id,hT,ht,hg⟩:=hr pins {s3 with heap:=s3.heap.push {cls:=.type "slice",data:=.fields #[vl,vu,.none]}} σ H3 x v vl vu l u s3.heap.objs.size Q I4 r1 (EW ..) pl pu q3
 show wpAny (model X.f X.w) X.A (E7 e (.Slice lo hi none p2) v (.ref s3.heap.objs.size)) (EP X pins σ Q) X.j {s3 with heap:=s3.heap.push {cls:=.type "slice",data:=.fields #[vl,vu,.none]}}
 exact tail_any (ops:=[.ref s3.heap.objs.size,v]) ht hT hg (by with_unfolding_all rfl)
def oI(xs:List V)(lo hi:Option Int):List V:=(xs.drop (HT.sIx xs.length 0 lo)).take (HT.sIx xs.length xs.length hi-HT.sIx xs.length 0 lo)
theorem qI xs lo hi:(oI xs lo hi).length<=xs.length:=by unfold oI;rw[B1,Di];omega
def P0(K:Ag):V->Option Int->Option Int->Hp->VK->Prop:=λx lo hi H Q=>∃a xs,x=.c a/\SqT K H a xs /\
 ¬(HT.sIx xs.length 0 lo=0/\HT.sIx xs.length xs.length hi=xs.length)/\∀p,H p=none->Q (.c p) (upd H p (.c (oI xs lo hi)))
theorem r0:SlR X (P0 X.K):=by
 intro pins s σ H x v vl vu lo hi sl Q I rx hs pl pu h;obtain⟨a,xs,rfl,hx,hw,q⟩:=h;cases rx;obtain⟨its,r,ht,hz⟩:=I.tuple hx;have hlen:its.toArray.size=xs.length:=by rw[Ae];exact r.length.symm
 refine⟨"tuple",_,A0.lookup,ht.typeIs,?_⟩;refine HT.sS ht hs pl pu (by rw[hlen];exact hw) ?_ (by rw[hlen];exact hz)
 rw[hlen];refine⟨.c s.heap.objs.size,_,I.laid (t':=s.toks) (o:=.c (oI xs lo hi)) (λb ob q=>nx _ q) (Ac _) ?_,rfl,q _ (I.j.fresh (Ac _))⟩;exact⟨Au (qI xs lo hi) hz,_,(r.drop (HT.sIx xs.length 0 lo)).take (HT.sIx xs.length xs.length hi-HT.sIx xs.length 0 lo),rH.new _ _⟩
def Ql(K:Ag):R2:=λx y H Q=>∃a b xs ys,x=.c a/\y=.c b/\SqT K H a xs/\SqT K H b ys/\xs≠[]/\xs.length+ys.length<=Av /\
 (ys=[]->Q (.c a) H)/\(ys≠[]->∀p,H p=none->Q (.c p) (upd H p (.c (xs++ys))))
theorem Vals.sW(r:Vals xs us):us=[]↔xs=[]:=by
 cases r with
 |nil=>simp
 |cons _ _=>simp
theorem Xy:OpR X (By .Add) (Ql X.K):=by
 intro pins s σ H x y v u Q I rx ry h;obtain⟨a,b,xs,ys,rfl,rfl,ha,hb,hx,hz,q1,q2⟩:=h;cases rx;cases ry;obtain⟨its,r1,p1,_⟩:=I.tuple ha;obtain⟨its2,r2,p2,_⟩:=I.tuple hb;refine HT.Yh p1 p2 (λz=>hx (r1.sW.mp z)) (λz=>⟨.c a,H,I,rfl,q1 (r2.sW.mp z)⟩) (λz=>?_) (by rw[<-r1.length,<-r2.length];exact hz)
 refine⟨.c s.heap.objs.size,_,I.laid (t':=s.toks) (o:=.c (xs++ys)) (λb ob q=>nx _ q) (Ac _) ?_,rfl,q2 (λw=>z (r2.sW.mpr w)) _ (I.j.fresh (Ac _))⟩;exact⟨by rw[Am];exact hz,_,r1.append r2,rH.new _ _⟩
end
noncomputable def ixN(n:Nat)(i:Int):Option Nat:=if 0<=i then (if i<n then some i.toNat else none) else if -(n:Int)<=i then some (i+n).toNat else none
def atI{α:Type}(xs:List α)(i:Int):Option α:=(ixN xs.length i).bind λj=>xs[j]?
theorem gk(h:ixN n i=some j):seqIndex? i n=some j/\j<n∧-(n:Int)<=i/\i<n:=by
 unfold ixN at h;by_cases h0:0<=i
 . rw[if_pos h0]at h
   by_cases h1:i<n
   . rw[if_pos h1]at h
     have e:i.toNat=j:=Aw h;exact⟨by rw[seqIndex_of h0 h1,e],by omega,by omega,h1⟩
   . rw[if_neg h1]at h;cases h
 . rw[if_neg h0]at h
   by_cases h1:-(n:Int)<=i
   . rw[if_pos h1]at h
     have e:(i+n).toNat=j:=Aw h;exact⟨by rw[seqIndex_neg (by omega) h1,e],by omega,h1,by omega⟩
   . rw[if_neg h1]at h;cases h
theorem n9(h:atI xs i=some v):∃j,seqIndex? i xs.length=some j/\xs[j]?=some v/\j<xs.length∧-(xs.length:Int)<=i/\i<xs.length:=by
 unfold atI at h;cases e:ixN xs.length i with
 |none=>rw[e]at h;cases h
 |some j=>
  rw[e]at h;obtain⟨h1,h2,h3,h4⟩:=gk e;exact⟨j,h1,h,h2,h3,h4⟩
theorem qV{xs}{j:Nat}{v:α}(h:xs[j]?=some v):atI xs (j:Int)=some v:=by
 have hj:j<xs.length:=(Aj.mp h).1;have e:ixN xs.length (j:Int)=some j:=by unfold ixN;rw[if_pos (by omega),if_pos (by omega)];simp
 unfold atI;rw[e];exact h
theorem cm xs(v:α):atI (xs++[v]) (-1)=some v:=by
 have hl:(xs++[v]).length=xs.length+1:=by simp
 have e:ixN (xs++[v]).length (-1)=some xs.length:=by
  unfold ixN;rw[hl,if_neg (by decide),if_pos (by omega)]
  congr 1;omega
 unfold atI;rw[e];show (xs++[v])[xs.length]?=some v;simp
def gK(b:Expr):Prop:=∀o i,subscripted b false o i=operate [o,i] (getItem o i)
def IxR(X:Cx)(r:R2):Prop:=
 ∀(value slice:Expr) (pins:List (Addr × Obj)) (s:Shared) (σ:St) (H:Hp) (x y:V) (v u:Value) (Q:VK),Inv X pins σ H s->RelV x v->RelV y u->r x y H Q ->
  subscripted slice false v u=operate [v,u] (getItem v u)->wpAny (model X.f X.w) X.A (E7 value slice v u) (EP X pins σ Q) X.j s
def MtR(X:Cx)(id:String)(r:V->List V->Hp->VK->Prop):Prop:=
 ∀(pins:List (Addr × Obj)) (s:Shared) (σ:St) (H:Hp) (x:V) (xs:List V) (v:Value) (us:List Value) (Q:VK),Inv X pins σ H s->RelV x v->Vals xs us->r x xs H Q ->
  wpAny (model X.f X.w) X.A (call (.builtin id) (v::us)) (EP X pins σ Q) X.j s
section
variable {X:Cx}{a b:Expr}{ta tb:TE}{pos:Pos}
theorem IxR.or(h:IxR X r)(h':IxR X r'):IxR X (λx y H Q=>r x y H Q\/r' x y H Q):=by
 intro value slice pins s σ H x y v u Q I rx ry q hs;rcases q with q|q
 . exact h value slice pins s σ H x y v u Q I rx ry q hs
 . exact h' value slice pins s σ H x y v u Q I rx ry q hs
theorem VZ(hr:IxR X r)(ha:PE X a ta)(hb:PE X b tb)(hs:gK b):PE X (.Subscript a b pos) (tOp r ta tb):=by intro pins s σ H Q I h;exact Gu (V1 ha hb I h λv u s2 x y H2 I2 rx ry q=>hr a b pins s2 σ H2 x y v u Q I2 rx ry q (hs _ _))
def T8(K:Ag):R2:=λx y H Q=>∃p xs i v,x=.c p/\y=.d i/\SqL K H p xs/\atI xs i=some v/\Q v H
def Qo(K:Ag):R2:=λx y H Q=>∃p xs i v,x=.c p/\y=.d i/\SqT K H p xs/\atI xs i=some v/\Q v H
def Qn:R2:=λx y H Q=>∃z i c,x=.e z/\y=.d i/\z.length<=Av/\atI z.cps.toList i=some c/\Q (.e ⟨#[c]⟩) H
theorem gm:IxR X (T8 X.K):=by
 intro value slice pins s σ H x y v u Q I rx ry h hs;obtain⟨p,xs,i,z,rfl,rfl,hq,he,q⟩:=h;cases rx;obtain⟨t,rfl⟩:=ry;obtain⟨its,r,pl,hz⟩:=I.list hq;obtain⟨j,h1,h2,h3,h4,h5⟩:=n9 he;obtain⟨w,ew,rw'⟩:=r.get h2;have hl:=r.length;have hn:=td;have fin:EP X pins σ Q w s:=⟨z,H,I,rw',q⟩;by_cases h0:0<=i
 . have hj:i.toNat=j:=by rw[seqIndex_of h0 h5]at h1;exact Aw h1
   exact item_listR pl.isList h0 (by omega) (by rw[hj];simpa using ew) fin hs
 . have hj:(i+(its.toArray.size:Int)).toNat=j:=by
    rw[seqIndex_neg (by omega) h4]at h1
    rw[Ae,<-hl];exact Aw h1
   exact subscriptTail_builtinR (x:=w) pl.isList.typeIs Fq.lookup
    (wpAny_getItem_list_neg (Q:=λr s'=>r=w/\EP X pins σ Q r s') pl.isList (by omega) (by rw[Ae]<;>omega) (by omega) (by rw[hj];simpa using ew) ⟨rfl,fin⟩) hs
theorem UO:IxR X (Qo X.K):=by
 intro value slice pins s σ H x y v u Q I rx ry h hs;obtain⟨p,xs,i,z,rfl,rfl,hq,he,q⟩:=h;cases rx;obtain⟨t,rfl⟩:=ry;obtain⟨its,r,pl,hz⟩:=I.tuple hq;obtain⟨j,h1,h2,h3,h4,h5⟩:=n9 he;obtain⟨w,ew,rw'⟩:=r.get h2;have hl:=r.length;have hn:=td;have fin:EP X pins σ Q w s:=⟨z,H,I,rw',q⟩;exact subscriptTail_builtinR (x:=w) pl.typeIs slot_tuple_getitem.lookup
  (getItem_tuple (j:=j) (Q:=λr s'=>r=w/\EP X pins σ Q r s') pl (by omega) (by omega) (by rw[Ae,<-hl];exact h1) (by simpa using ew) ⟨rfl,fin⟩) hs
theorem UN:IxR X Qn:=by
 intro value slice pins s σ H x y v u Q I rx ry h hs;obtain⟨z,i,c,rfl,rfl,hz,he,q⟩:=h;obtain⟨t,rfl⟩:=rx;obtain⟨t',rfl⟩:=ry;obtain⟨j,h1,h2,h3,h4,h5⟩:=n9 he;have hl:z.cps.toList.length=z.length:=by simp[Str.length]
 rw[hl]at h1 h4 h5;have hn:=td;exact tail_any (typeIs_str s z t) slot_str_getitem.lookup (getItem_str (c:=c) (by
  have e1:decide (i < -(2 ^ 63:Int))=false:=decide_eq_false (by omega)
  have e2:decide (i ≥ 2 ^ 63)=false:=decide_eq_false (by omega)
  rw[e1,e2,E8]) (by rw[h1];simpa using h2) ⟨.e ⟨#[c]⟩,H,I.tok _,⟨_,rfl⟩,q⟩) hs
def rIx(K:Ag):R2:=λx y H Q=>T8 K x y H Q\/Qo K x y H Q\/Qn x y H Q
theorem UM:IxR X (rIx X.K):=gm.or (UO.or UN)
theorem jz(its:List Value)n j u:FC (·.setIfInBounds j u) {cls:=.type "list",data:=.seq its.toArray n}={cls:=.type "list",data:=.seq (its.set j u).toArray n}:=by simp[FC]
theorem Inv.lst{pins:List (Addr × Obj)}{σ:St}{H:Hp}{s:Shared}{p:Addr}{xs:List V}(I:Inv X pins σ H s)(h:H p=some (.b xs)) :
 ∃(its:List Value) (n:Nat),Vals xs its/\s.heap.get? p=some {cls:=.type "list",data:=.seq its.toArray n}/\xs.length<=Av:=by
 obtain⟨z,its,n,r,e⟩:=I.j p _ h;exact⟨its,n,r,e,z⟩
theorem Inv.U5{its its':List Value}(I:Inv X pins σ H s)(h:H p=some (.b xs))
 (ho:s.heap.get? p=some {cls:=.type "list",data:=.seq its.toArray n}) (hf:f {cls:=.type "list",data:=.seq its.toArray n}={cls:=.type "list",data:=.seq its'.toArray n'}) (r:Vals ys its') (hz:ys.length<=Av) t :
 Inv X pins σ (upd H p (.b ys)) {s with heap:=s.heap.update p f,toks:=t}:=by
 have e:(s.heap.update p f).get? p=some {cls:=.type "list",data:=.seq its'.toArray n'}:=by rw[Ej f ho (by rw[hf]<;>rfl),hf]
 refine I.write (x:=p) (e:=p) (by rw[h];trivial) (.inl rfl) (λb u hb q=>(C6 _ _ (Bu hb)).trans q) ⟨_,e⟩ ?_
 exact⟨hz,its',n',r,e⟩
def Vc:V->V->V->Hp->(Hp->Prop)->Prop:=λo i v H Q=>∃p xs k j,o=.c p/\i=.d k/\H p=some (.b xs)/\ixN xs.length k=some j/\Q (upd H p (.b (xs.set j v)))
theorem set_list:S7 X Vc:=by
 intro pins s σ H o i v ov iv u Q I ro ri rv h;obtain⟨p,xs,k,j,rfl,rfl,hp,hj,q⟩:=h;cases ro;obtain⟨t,rfl⟩:=ri;obtain⟨its,n,r,ho,hz⟩:=I.lst hp;obtain⟨h1,h2,h3,h4⟩:=gk hj;have hl:=r.length;have hn:=td;have I':Inv X pins σ (upd H p (.b (xs.set j v))) {s with heap:=s.heap.update p (FC (·.setIfInBounds j u))}:=
  I.U5 hp ho (jz its n j u) (r.set rv j) (by rw[Cb];exact hz) s.toks
 by_cases h0:0<=k
 . have hk:k.toNat=j:=by rw[seqIndex_of h0 h4]at h1;exact Aw h1
   exact PySem.W.ki_setAt ho h0 (by omega) (by rw[Ae,<-hl];exact h4) (by rw[hk];exact⟨_,I',q⟩)
 . have hk:(k+(its.toArray.size:Int)).toNat=j:=by
    rw[seqIndex_neg (by omega) h3]at h1
    rw[Ae,<-hl];exact Aw h1
   exact PySem.W.ki_setBack ho (by omega) (by rw[Ae,<-hl];exact h3) (by omega) (by rw[hk];exact⟨_,I',q⟩)
theorem lD lo hi n:(Bs lo hi none n).1=((HT.sIx n 0 lo:Nat):Int)/\(Bs lo hi none n).2.1=((HT.sIx n n hi:Nat):Int)/\(Bs lo hi none n).2.2=1:=by
 refine⟨?_,?_,rfl⟩
 . cases lo with
   |none=>simp[Bs,HT.sIx]
   |some i=>
    simp only[Bs,HT.sIx,FH,show (1:Int) > 0 by decide,if_true]
    by_cases h:i<0
    . simp only[h,if_true]<;>omega
    . simp only[h,if_false]<;>omega
 . cases hi with
   |none=>simp[Bs,HT.sIx]
   |some i=>
    simp only[Bs,HT.sIx,FH,show (1:Int) > 0 by decide,if_true]
    by_cases h:i<0
    . simp only[h,if_true]<;>omega
    . simp only[h,if_false]<;>omega
theorem oS(its:List Value)lo hi:GG its.toArray lo hi none=((its.drop (HT.sIx its.length 0 lo)).take (HT.sIx its.length its.length hi-HT.sIx its.length 0 lo)).toArray:=by obtain⟨h1,h2,h3⟩:=lD lo hi its.toArray.size;unfold GG;rw[h1,h2,h3];simp only[sliceRange_one,pick_run,Ae]<;>rfl
def Pz(K:Ag):V->Option Int->Option Int->Hp->VK->Prop:=λx lo hi H Q=>∃a xs,x=.c a/\SqL K H a xs/\∀p,H p=none->Q (.c p) (upd H p (.b (oI xs lo hi)))
theorem Wc:SlR X (Pz X.K):=by
 intro pins s σ H x v vl vu lo hi sl Q I rx hs pl pu h;obtain⟨a,xs,rfl,hx,q⟩:=h;cases rx;obtain⟨its,r,ht,hz⟩:=I.list hx;have hlen:=r.length;refine⟨"list",_,Fq.lookup,ht.isList.typeIs,?_⟩;refine FI ht.isList hs pl pu .none (by simp) ?_ (by rw[Ae]<;>omega)
 rw[oS,<-hlen];refine⟨.c s.heap.objs.size,_,I.laid (t':=s.toks) (o:=.b (oI xs lo hi)) (λb ob q=>nx _ q) (Ac _) ?_,rfl,q _ (I.j.fresh (Ac _))⟩;exact⟨Au (qI xs lo hi) hz,_,0,(r.drop (HT.sIx xs.length 0 lo)).take (HT.sIx xs.length xs.length hi-HT.sIx xs.length 0 lo),AB _ rfl⟩
noncomputable def xy:V->Bool
 |.g=>true
 |.f _=>true
 |.d _=>true
 |.e _=>true
 |_=>false
noncomputable def eqV:V->V->Bool
 |.g,.g=>true
 |.f a,.f b=>a == b
 |.f a,.d b=>(if a then 1 else 0) == b
 |.d a,.f b=>a == (if b then 1 else 0)
 |.d a,.d b=>a == b
 |.e a,.e b=>a == b
 |_,_=>false
theorem UG(ry:RelV y u)(rx:RelV x v)(fy:xy y=true)(fx:xy x=true):Bc A s u v (eqV y x):=by
 cases y with
 |g=>
  cases ry;cases x with
  |g=>cases rx;exact Bc.same _
  |f b=>cases rx;exact Bc.none_bool b
  |d b=>obtain⟨t,rfl⟩:=rx;exact Bc.none_int b t
  |e b=>obtain⟨t,rfl⟩:=rx;exact Bc.none_str b t
  |_=>exact absurd (show false=true from fx) Ab
 |f a=>
  cases ry;cases x with
  |g=>cases rx;exact Bc.bool_none a
  |f b=>cases rx;exact Bc.bool_bool a b
  |d b=>obtain⟨t,rfl⟩:=rx;exact Bc.bool_int a b t
  |e b=>obtain⟨t,rfl⟩:=rx;exact Bc.bool_str a b t
  |_=>exact absurd (show false=true from fx) Ab
 |d a=>
  obtain⟨t',rfl⟩:=ry;cases x with
  |g=>cases rx;exact Bc.int_none a t'
  |f b=>cases rx;exact Bc.int_bool a t' b
  |d b=>obtain⟨t,rfl⟩:=rx;exact Bc.int_int a t' b t
  |e b=>obtain⟨t,rfl⟩:=rx;exact Bc.int_str a t' b t
  |_=>exact absurd (show false=true from fx) Ab
 |e a=>
  obtain⟨t',rfl⟩:=ry;cases x with
  |g=>cases rx;exact Bc.str_none a t'
  |f b=>cases rx;exact Bc.str_bool a t' b
  |d b=>obtain⟨t,rfl⟩:=rx;exact Bc.str_int a t' b t
  |e b=>obtain⟨t,rfl⟩:=rx;exact Bc.str_str a t' b t
  |_=>exact absurd (show false=true from fx) Ab
 |_=>exact absurd (show false=true from fy) Ab
def eqU(x:V)(u:Value):Bool:=match u with
 |.none=>eqV .g x
 |.bool b=>eqV (.f b) x
 |.int i _=>eqV (.d i) x
 |.str z _=>eqV (.e z) x
 |_=>false
theorem mO(r:RelV y u)(f:xy y=true):eqU x u=eqV y x:=by
 cases y with
 |g=>cases r;rfl
 |f b=>cases r;rfl
 |d i=>obtain⟨t,rfl⟩:=r;rfl
 |e z=>obtain⟨t,rfl⟩:=r;rfl
 |_=>exact absurd (show false=true from f) Ab
theorem sH:∀{xs} {us},Vals xs us->xs.all xy=true->us.any (eqU x)=xs.any λy=>eqV y x
 |_,_,.nil,_=>rfl
 |y::xs,u::us,.cons r t,f=>by rw[BB,cf]at f;rw[BZ,BZ,mO r f.1,sH t f.2]
theorem wQ(rx:RelV x v)(fx:xy x=true):∀{xs} {us},Vals xs us->xs.all xy=true->∀u∈us,Bc A s u v (eqU x u)
 |_,_,.nil,_=>λu hu=>by cases hu
 |y::xs,u::us,.cons r t,f=>λu' hu=>by
  rw[BB,cf]at f;rcases Af.mp hu with rfl|hu
  . rw[mO r f.1];exact UG r rx f.1 fx
  . exact wQ rx fx t f.2 u' hu
def inV(x:V)(xs:List V):Bool:=xs.any λy=>eqV y x
def rIn(K:Ag)(neg:Bool):R2:=λx y H Q=>∃p xs,y=.c p/\(SqL K H p xs\/SqT K H p xs)/\xy x=true/\xs.all xy=true/\Q (.f (if neg then !inV x xs else inV x xs)) H
theorem et:OpR X (Ba .In) (rIn X.K false):=by
 intro pins s σ H x y v u Q I rx ry h;obtain⟨p,xs,rfl,hq,fx,fs,q⟩:=h;cases ry;rcases hq with hq|hq
 . obtain⟨its,r,pl,hz⟩:=I.list hq
   refine SeqAt.in_listAt (eqU x) pl.isList (λw hw=>wQ rx fx r fs w (by simpa using hw)) ⟨.f _,H,I,rfl,?_⟩
   rw[show its.toArray.any (eqU x)=its.any (eqU x) by simp,sH r fs]
   exact q
 . obtain⟨its,r,pl,hz⟩:=I.tuple hq
   refine SeqAt.in_tupleAt (eqU x) pl (λw hw=>wQ rx fx r fs w (by simpa using hw)) ⟨.f _,H,I,rfl,?_⟩
   rw[show its.toArray.any (eqU x)=its.any (eqU x) by simp,sH r fs]
   exact q
theorem ml:OpR X (Ba .NotIn) (rIn X.K true):=by
 intro pins s σ H x y v u Q I rx ry h;obtain⟨p,xs,rfl,hq,fx,fs,q⟩:=h;cases ry;rcases hq with hq|hq
 . obtain⟨its,r,pl,hz⟩:=I.list hq
   refine SeqAt.notIn_listAt (eqU x) pl.isList (λw hw=>wQ rx fx r fs w (by simpa using hw)) ⟨.f _,H,I,rfl,?_⟩
   rw[show its.toArray.any (eqU x)=its.any (eqU x) by simp,sH r fs]
   exact q
 . obtain⟨its,r,pl,hz⟩:=I.tuple hq
   refine SeqAt.notIn_tupleAt (eqU x) pl (λw hw=>wQ rx fx r fs w (by simpa using hw)) ⟨.f _,H,I,rfl,?_⟩
   rw[show its.toArray.any (eqU x)=its.any (eqU x) by simp,sH r fs]
   exact q
theorem mD:yY X (.builtin "len") (λxs H Q=>∃p ys,xs=[.c p]/\(SqL X.K H p ys\/SqT X.K H p ys)/\Q (.d ys.length) H):=by
 intro pins s σ H xs us Q I r h;obtain⟨p,ys,rfl,hq,q⟩:=h;obtain⟨u,rfl,rx⟩:=vals1 r;cases rx;have hn:=td;rcases hq with hq|hq
 . obtain⟨its,r',pl,hz⟩:=I.list hq
   have hlen:=r'.length;exact Calls.call_len_list pl.isList (by simp only[Ae]<;>omega) ⟨.d ys.length,H,I.tok _,⟨s.toks+1,by rw[Ae,hlen]⟩,q⟩
 . obtain⟨its,r',pl,hz⟩:=I.tuple hq
   have hlen:=r'.length;exact len_tuple pl (by simp only[Ae]<;>omega) ⟨.d ys.length,H,I.tok _,⟨s.toks+1,by rw[Ae,hlen]⟩,q⟩
theorem mE:yY X (.builtin "len") (λxs H Q=>∃z,xs=[.e z]/\z.length<=Av/\Q (.d z.length) H):=by intro pins s σ H xs us Q I r h;obtain⟨z,rfl,hz,q⟩:=h;obtain⟨u,rfl,t,rfl⟩:=vals1 r;have hn:=td;exact len_str (by omega) ⟨.d z.length,H,I.tok _,⟨_,rfl⟩,q⟩
theorem mF:yY X (.type "list") (λxs H Q=>∃p ys,xs=[.c p]/\(SqL X.K H p ys\/SqT X.K H p ys)/\∀l,H l=none->Q (.c l) (upd H l (.b ys))):=by
 intro pins s σ H xs us Q I r h;obtain⟨p,ys,rfl,hq,q⟩:=h;obtain⟨u,rfl,rx⟩:=vals1 r;cases rx;have fin:∀(its:List Value),Vals ys its->ys.length<=Av->∀(h':Heap) (c':Nat),(∀b o',s.heap.get? b=some o'->h'.get? b=some o') ->
  h'.get? s.heap.objs.size=some {cls:=.type "list",dict:=none,data:=.seq its.toArray c',slots:=#[]}->EP X pins σ Q (.ref s.heap.objs.size) {s with heap:=h'}:=λits r' hz h' c' kp e=>
  ⟨.c s.heap.objs.size,_,I.laid (t':=s.toks) kp (Ac _) (show yQ X.f X.w _ h' _ (.b ys) from ⟨hz,its,c',r',e⟩),rfl,q _ (I.j.fresh (Ac _))⟩
 rcases hq with hq|hq
 . obtain⟨its,r',pl,hz⟩:=I.list hq
   have hlen:=r'.length;obtain⟨o,ho,hc,n,hd⟩:=pl.isList;exact call_list_seq p (.inl rfl) ho hc hd (λh' c' kp e=>fin its r' hz h' c' kp e) (by simp only[Ae]<;>omega)
 . obtain⟨its,r',pl,hz⟩:=I.tuple hq
   have hlen:=r'.length;obtain⟨o,ho,hc,n,hd⟩:=pl;exact call_list_seq p (.inr rfl) ho hc hd (λh' c' kp e=>fin its r' hz h' c' kp e) (by simp only[Ae]<;>omega)
theorem tH:yY X (.type "tuple") (λxs H Q=>∃p ys,xs=[.c p]/\((SqL X.K H p ys/\∀l,H l=none->Q (.c l) (upd H l (.c ys)))\/(SqT X.K H p ys/\Q (.c p) H))):=by
 intro pins s σ H xs us Q I r h;obtain⟨p,ys,rfl,h⟩:=h;obtain⟨u,rfl,rx⟩:=vals1 r;cases rx;rcases h with⟨hq,q⟩|⟨hq,q⟩
 . obtain⟨its,r',pl,hz⟩:=I.list hq
   have hlen:=r'.length;refine call_tuple_list pl.isList (λh' kp=>?_) (by simp only[Ae]<;>omega)
   have I1:Inv X pins σ H {s with heap:=h'}:=I.kept (t':=s.toks) kp
   have I2:Inv X pins σ (upd H h'.objs.size (.c ys)) {s with heap:=h'.push {cls:=.type "tuple",data:=.seq its.toArray}}:=
    I1.laid (t':=s.toks) (λb o e=>nx _ e) (Ac _) (show yQ X.f X.w _ _ _ (.c ys) from ⟨hz,its,r',rH.new _ _⟩)
   exact⟨.c h'.objs.size,_,I2,rfl,q _ (I1.j.fresh (Ac _))⟩
 . obtain⟨its,r',pl,hz⟩:=I.tuple hq
   exact call_tuple_same pl ⟨.c p,H,I,rfl,q⟩
def tyV(K:Ag)(T:String)(x:V)(H:Hp):Prop:=match x with
 |.e _=>T="str"
 |.d _=>T="int"
 |.c p=>(T="list"/\∃xs,SqL K H p xs)\/(T="tuple"/\∃o,K.lookup p=some o/\o.cls=.type "tuple"/\o.dict=none) \/
  (T="dict"/\((∃kvs,H p=some (.i kvs))\/∃kvs,H p=some (.j kvs)))\/(T="set"/\∃S n,H p=some (.l S n))
 |_=>False
theorem So(I:Inv X pins σ H s)(r:RelV x v)(ty:tyV X.K T x H) :
 s.TypeIs v T/\∀a,v=.ref a->∃ob,s.heap.get? a=some ob/\ob.dict=none:=by
 cases x with
 |e z=>
  obtain⟨t,rfl⟩:=r;cases (show T="str" from ty);exact⟨typeIs_str s z t,λ_ e=>nomatch e⟩
 |d i=>
  obtain⟨t,rfl⟩:=r;cases (show T="int" from ty);exact⟨C0 s i t,λ_ e=>nomatch e⟩
 |c p=>
  cases r;rcases ty with⟨rfl,xs,hq⟩|⟨rfl,o,hk,hc,hd⟩|⟨rfl,hk⟩|⟨rfl,S,n,hk⟩
  . obtain⟨its,_,pl,_⟩:=I.list hq
    refine⟨pl.isList.typeIs,λa e=>?_⟩;cases e;obtain⟨o,n,e,c,hd,_⟩:=pl;exact⟨o,e,hd⟩
  . refine⟨⟨o,I.kIn p o hk,hc⟩,λa e=>?_⟩
    cases e;exact⟨o,I.kIn _ o hk,hd⟩
  . have z:∃o,s.heap.get? p=some o/\o.ExactDict:=by
     rcases hk with⟨kvs,hk⟩|⟨kvs,hk⟩
     . obtain⟨_,_,_,_,o,_,_,e,ex,_⟩:=I.j p _ hk
       exact⟨o,e,ex⟩
     . obtain⟨_,_,_,_,o,_,_,e,ex,_⟩:=I.j p _ hk
       exact⟨o,e,ex⟩
    obtain⟨o,e,ex⟩:=z;refine⟨⟨o,e,ex.1⟩,λa e2=>?_⟩;cases e2;exact⟨o,e,ex.2.1⟩
  . obtain⟨o,_,_,_,e,ex,_⟩:=I.j p _ hk
    refine⟨⟨o,e,ex.1⟩,λa e2=>?_⟩;cases e2;exact⟨o,e,ex.2.1⟩
 |_=>exact Az ty
def tBM(K:Ag)(T:String)(r:V->List V->Hp->VK->Prop)(to:TE)(t:TA):TE:=λσ H Q=>to σ H λx H1=>tyV K T x H1/\t σ H1 λxs H2=>r x xs H2 Q
variable {o e:Expr}{es:List Expr}{to:TE}{t:TA}{name:Str}{apos cpos:Pos}{T id:String}{r:V->List V->Hp->VK->Prop}
theorem ZV(pa:PlainAttrs T)(slot:Slot T name id)(hty:typeOf (.builtin id)=pure (.type "method_descriptor"))(hm:MtR X id r)(ho:PE X o to)(ha:PA X (e::es) t)
 (hbase:CY o name X.a (eval o X.a)=eval o X.a:=by rfl)
 (hfew:((backTo cpos (AI (e::es) X.a)).all (λx=>!x.1)&&(backToKw cpos (keywordEach [] X.a)).all (λx=>x.1.isSome)
  && decide ((e::es).length+([]:List Keyword).length+(if ([]:List Keyword).isEmpty then 0 else 1)<30))=true:=by rfl)
 (hline:(apos.endLine == cpos.line)=true:=by rfl) (hs:AI (e::es) X.a=(false,eval e X.a)::AI es X.a:=by rfl) (hplain:(backTo cpos (AI es X.a)).any (·.1)=false:=by rfl) :
 PE X (.Call (.Attribute o name apos) (e::es) [] cpos) (tBM X.K T r to t):=by
 intro pins s σ H Q I h;refine wpAny_Call_method_late hbase hfew hline rfl (thn (ho pins s σ H _ I h) λv s1 ⟨x,H1,I1,r1,ty,q1⟩=>?_);obtain⟨h1,h2⟩:=So I1 r1 ty;refine⟨T,id,pa,slot,hty,h1,h2,?_⟩;have hA:=ha cpos pins s1 σ H1 _ I1 q1;rw[hs]at hA ⊢;refine Calls.callWith_builtin (by show (false||(backTo cpos (AI es X.a)).any (·.1))=false;rw[hplain]<;>rfl) (EA ?_)
 exact thn hA λus s2 ⟨vs,H2,I2,r2,q2⟩=>hm pins s2 σ H2 x vs v us Q I2 r1 r2 q2
/- xs.append(e),list.index on a module's tuple .. are MtR facts of 06m -/
end
def MtM(X:Cx)(id:String)(r:V->List V->Hp->VK->Prop):Prop:=
 ∀(pins:List (Addr × Obj)) (s:Shared) (σ:St) (H:Hp) (x:V) (xs:List V) (v:Value) (us:List Value) (Q:VK),Inv X pins σ H s->RelV x v->Vals xs us->r x xs H Q ->
  wpAny (model X.f X.w) X.A (call (.builtin id) (v::us)) (EP X pins σ Q) X.j s
theorem Vals.one:∀{x} {us},Vals [x] us->∃u,us=[u]/\RelV x u
 |_,_,.cons r .nil=>⟨_,rfl,r⟩
theorem Vals.rep(h:Vals xs us):∀k:Nat,Vals (Ap k xs).flatten (Ap k us).flatten
 |0=>.nil
 |k+1=>by rw[BA,BA,Cg,Cg];exact Vals.append h (Vals.rep h k)
theorem foldl_rep its:∀k (acc:List Value),
 DQ (λx1 x2=>x1++x2) acc.toArray (Ap k its.toArray)=(acc++(Ap k its).flatten).toArray
 |0,acc=>by simp
 |k+1,acc=>by
  have e:acc.toArray++its.toArray=(acc++its).toArray:=by simp
  have e2:(acc++its)++(Ap k its).flatten=acc++(Ap (k+1) its).flatten:=by rw[BA,Cg,Bt]
  rw[<-e2,<-foldl_rep its k (acc++its),<-e,BA,List.foldl_cons]
section
variable {X:Cx}{pins:List (Addr × Obj)}{σ:St}{H:Hp}{s:Shared}{l b:Addr}{xs ys zs:List V}
theorem Inv.Pl{its its':List Value}(I:Inv X pins σ H s)(hH:H l=some (.b xs))
 (e:s.heap.get? l=some {cls:=.type "list",data:=.seq its.toArray n}) (hf:f its.toArray=its'.toArray) (hv:Vals ys its') (hz:ys.length<=Av) :
 Inv X pins σ (upd H l (.b ys)) {s with heap:=s.heap.update l (FC f),toks:=t'}:=by
 have q:=PySem.IsL.update e f;rw[hf]at q;refine I.write (x:=l) (e:=l) (by rw[hH];exact trivial) (.inl rfl) (λb' u hb hu=>(C6 s.heap (FC f) (Bu hb)).trans hu) ⟨_,q⟩ ?_
 exact⟨hz,its',_,hv,q⟩
theorem Inv.R3(I:Inv X pins σ H s)(hv:Vals ys its)(hz:ys.length<=Av) :
 Inv X pins σ (upd H s.heap.objs.size (.b ys)) {s with heap:=s.heap.push {cls:=.type "list",data:=.seq its.toArray},toks:=t'}:=
 I.laid (λ_ _ q=>nx _ q) (Ac _) ⟨hz,its,0,hv,AB _ rfl⟩
theorem Inv.fresh(I:Inv X pins σ H s):H s.heap.objs.size=none:=I.j.fresh (Ac _)
theorem Inv.Xm(I:Inv X pins σ H s)(hH:H l=some (.b xs)):xs.length<=Av/\∃its n,Vals xs its/\xs.length=its.length/\s.heap.get? l=some {cls:=.type "list",data:=.seq its.toArray n}:=by obtain⟨z,its,n,r,e⟩:=I.j l _ hH;exact⟨z,its,n,r,r.length,e⟩
theorem ay(h:n<=Av):DF n=false:=by unfold DF;exact decide_eq_false (by omega)
end
section
variable {X:Cx}
def fD:V->List V->Hp->VK->Prop:=λx vs H Q=>∃l xs y,x=.c l/\vs=[y]/\H l=some (.b xs)/\xs.length<Av/\Q .g (upd H l (.b (xs++[y])))
theorem nD:MtM X "list.append" fD:=by
 intro pins s σ H x vs v us Q I rx rv h;obtain⟨l,xs,y,rfl,rfl,hH,hz,q⟩:=h;cases rx;obtain⟨u,rfl,ru⟩:=rv.one;obtain⟨z,its,n,r,hl,e⟩:=I.Xm hH;refine Cc F.slot_list_append ⟨_,e,rfl⟩ F.entry_list_append (F.args_list_append_2 _ _) (PySem.list_append l its.toArray n u (by rw[Ae];omega)) ⟨e,?_⟩
 refine⟨.g,_,I.Pl (its':=its++[u]) hH e (by simp) (r.append (.cons ru .nil)) ?_,rfl,q⟩
 rw[Am,List.length_singleton];omega
def WT:R2:=λx y H Q=>∃l b xs zs,x=.c l/\y=.c b/\H l=some (.b xs)/\H b=some (.b zs)/\xs.length+zs.length<=Av/\∀p,H p=none->Q (.c p) (upd H p (.b (xs++zs)))
theorem iF:OpR X (By .Add) WT:=by
 intro pins s σ H x y v u Q I rx ry h;obtain⟨l,b,xs,zs,rfl,rfl,hH,hB,hz,q⟩:=h;cases rx;cases ry;obtain⟨z,its,n,r,hl,e⟩:=I.Xm hH;obtain⟨z2,its2,n2,r2,hl2,e2⟩:=I.Xm hB;refine PySem.P.add_list e e2 ?_ (by rw[Ae,Ae];omega)
 have ea:its.toArray++its2.toArray=(its++its2).toArray:=by simp
 rw[ea];exact⟨.c _,_,I.R3 (t':=s.toks) (r.append r2) (by rw[Am];omega),rfl,q _ I.fresh⟩
def Pw:R2:=λx y H Q=>∃l k xs,x=.c l/\y=.d k/\H l=some (.b xs)∧-(2 ^ 63)<=k/\k<2 ^ 63/\xs.length*k.toNat<=Av /\
 ∀p,H p=none->Q (.c p) (upd H p (.b (Ap k.toNat xs).flatten))
theorem len_rep{α:Type}(xs:List α)k:(Ap k xs).flatten.length=k*xs.length:=by
 induction k with
 |zero=>simp
 |succ k ih=>rw[BA,Cg,Am,ih,FJ,Nat.add_comm]
theorem TJ:OpR X (By .Mult) Pw:=by
 intro pins s σ H x y v u Q I rx ry h;obtain⟨l,k,xs,rfl,rfl,hH,h1,h2,hz,q⟩:=h;cases rx;obtain⟨t,rfl⟩:=ry;obtain⟨z,its,n,r,hl,e⟩:=I.Xm hH;have hlen:its.toArray.size*k.toNat<=Av:=by rw[Ae,<-hl];exact hz
 have hcap:¬its.toArray.size*k.toNat > (2 ^ 63-1)/8:=by
  have:(Av:Nat)<=(2 ^ 63-1)/8:=by decide
  omega
 have hfit:¬(!Builtin.List.listFitsIndex k)=true:=by rw[fitsIndex_both h1 h2];exact Ab
 have hlong:¬DF (its.toArray.size*k.toNat)=true:=by rw[ay hlen];exact Ab
 have hnew:DQ (λx1 x2=>x1++x2) #[] (Ap (if its.toArray.isEmpty=true then 0 else k.toNat) its.toArray)=(Ap k.toNat its).flatten.toArray:=by
  have f0:∀m:Nat,DQ (λx1 x2=>x1++x2) #[] (Ap m its.toArray)=(Ap m its).flatten.toArray:=λm=>by have:=foldl_rep its m [];rw[Cw]at this;exact this
  rw[f0];cases its with
  |nil=>simp
  |cons a r'=>rw[if_neg (by simp)]
 refine CH (T:="list") (U:="int") (by decide) ⟨_,e,rfl⟩ (λs'=>C0 s' k t) noFill_list_mul EB Ce repeat_list Ea.lookup
  (Cc Ce (C0 s k t) Eb (DY _ _) (int___rmul___int_list k t l its.toArray n)
   ⟨e,rfl,⟨_,e,rfl⟩,Cc F.slot_list_mul ⟨_,e,rfl⟩ F.entry_list_mul (F.args_list_mul_2 _ _) (AutoListH.list___mul___list_int_3 l its.toArray n k t hfit hcap hlong) ⟨e,?_⟩⟩)
 rw[hnew];exact⟨.c _,_,I.R3 (t':=s.toks) (r.rep k.toNat) (by rw[len_rep,Cv];exact hz),rfl,q _ I.fresh⟩
end
end L2
namespace Att
open PySem PySem.W PySem.Calls PyProof.Rows
theorem qO:∀ns vs,WellAll P h vs (ns.map WData.int)->IntsAre vs ns:=by
 intro ns;induction ns with
 |nil=>
  intro vs w;rw[FK]at w;cases w;exact .nil
 |cons n ns ih=>
  intro vs w;rw[AJ]at w;cases w with
  |cons a b=>
   cases a;exact .cons _ _ (ih _ b)
theorem dY{l:OpenLaw}(hn:l.most=some n)
 (hpre:l.row.toRowW.claim.pre args=true) (hwl:WellAll P h vals args) :
 ∃a vs ns,vals=[A5 a]/\args=[WData.list (ns.map WData.int)]/\h.get? a=some {cls:=.type "list",data:=.seq vs.toArray}/\IntsAre vs ns/\ns.length<=n:=by
 have hsh:WShape.hasAll [] args [.list .int]=true:=(pre_splitW hpre).1;have hc:l.pre.holds [] {args:=args}=true:=(pre_splitW hpre).2;obtain⟨d,r,rfl,h1,h2⟩:=hasAllW_cons hsh;obtain rfl:=hasAllW_nil h2;obtain⟨xs,rfl,h3⟩:=hasW_list h1;obtain⟨ns,rfl⟩:=items_int h3;have hlen:ns.length<=n:=by
  unfold OpenLaw.pre at hc;have h4:(WTm.not (.lt (.lit (.int (n:Int))) (.len (.arg 0)))).holds [] {args:=[.list (ns.map .int)]}=true:=by have h4:=(holds_andW hc).1;rw[hn]at h4;exact h4
  have h5:=condW_of h4 (w_not (w_lt w_lit (w_len_list (w_arg rfl))));rw[Aa]at h5;refine Nat.le_of_not_lt λq=>?_;have q':(n:Int)<((ns.length:Nat):Int):=by omega
  first
   |(rw[decide_eq_true q']at h5;exact absurd h5 (by decide))
   |(simp at h5;omega)
 cases hwl with
 |cons w1 w2=>
  cases w2;cases w1 with
  |list ho hall=>exact⟨_,_,ns,rfl,rfl,ho,qO ns _ hall,hlen⟩
theorem dE(l:OpenLaw)args:l.row.toRowW.claim.post args (.bool true) args=true:=
 postW_of (r:=l.row.toRowW) (X:=(true == true))
  (show WShape.has [] (.bool true) .bool=true by first|rfl|decide|simp[WShape.has,WShape.arms,WShape.armsAll])
  (show (WTm.eq .res (.lit (.bool true))).value [] {args:=args,res:=some (.bool true),after:=args}=some (.bool (true == true)) from w_eq_bool (w_res rfl) w_lit) rfl
theorem lR{l:OpenLaw}
 (hn:l.most=some n) (hdf:d.params.defaults=[])
 (call:∀w s₀ s₁ mg mb fa o pm cd doc a vs ns,
  Ground q loose [] XP w s₀ mg mb s₁.heap->YP w s₁.heap ->
  s₁.heap.get? fa=some o->o.data=.func (docDef d.name d.params d.body d.scope pm cd doc)->s₁.heap.CodeRec cd d.name->mg d.name=some (.ref fa) ->
  s₁.heap.get? a=some {cls:=.type "list",data:=.seq vs.toArray}->IntsAre vs ns->ns.length<=n->s₁.gens=#[] ->
  codeAny (model l.prog w) callerA (.call (.ref fa) ⟨[.ref a],[]⟩) (λr s'=>r=.ok (.ret (.bool true))/\OldK s₁.heap s'.heap/\s'.os=s₁.os/\AllBare s'.gens) s₁) :
 WalkO q loose XP YP l.row.toRowW d [] (λf vs=>PySem.call f vs):=by
 intro w s₀ s₁ mg mb G Y fa o pm cd doc dV kV ho hd hcd hD hmg hg args vals as hpre hlay hrd hwl hlo;obtain rfl:dV=.none:=Dflts.none hD hdf;obtain rfl:kV=.none:=Dflts.noKw hD;obtain⟨a,vs,ns,rfl,rfl,hobj,hints,hlen⟩:=dY hn hpre hwl;refine enter_call (Dd (call w s₀ s₁ mg mb fa o pm cd doc a vs ns G Y ho (fd_plain hd) hcd hmg hobj hints hlen hg) λr s' hq=>?_);obtain⟨rfl,h2,h3,h4⟩:=hq;exact⟨.inl ⟨.bool true,.bool true,[],rfl,λ_=>rfl,.bool true,dE l _,λ_=>⟨Fs,λ_ hm=>(nomatch hm)⟩⟩,h2,h3,h4⟩
end Att
namespace L2
open PySem PySem.Spec PyProof.Rows
theorem nj:∀{vs} {ns},IntsAre vs ns->Vals (ns.map V.d) vs
 |_,_,.nil=>.nil
 |_,_,.cons n t h=>.cons ⟨t,rfl⟩ (nj h)
end L2
/- THE LAST THEOREM (shape;LID,My.* are yours):
   My.Adr: a structure of the addresses that your layer names (classes,functions);My.Txt K t: a structure (Prop) of the equations over K;
   My.txt_mk:{K} {implicit addresses ..} (e1:nsIn K AL "law"=some (some (.ref f))) (e2:K.lookup f=some ⟨oc,od,.func (fnOf "law" "law" params body scope dV kV doc pm an cdv ct),sl⟩) (e3:codeIn K cdv "law"=true) ..:∃t,My.Txt K t
(the tactic k_is has no namespace: write k_is) -/
namespace L2
open PySem PySem.Spec PyProof.Rows
noncomputable def wI(s:Stmt):Ee:=match s with
 |.FunctionDef _ a _ _ _ _ _ _ _ _=>a
 |_=>{posonlyargs:=[],args:=[],vararg:=none,kwonlyargs:=[],kw_defaults:=[],kwarg:=none,defaults:=[]}
noncomputable def yh(s:Stmt):List Stmt:=match s with
 |.FunctionDef _ _ b _ _ _ _ _ _ _=>b
 |_=>[]
noncomputable def zH(s:Stmt):Scope:=match s with
 |.FunctionDef _ _ _ _ _ _ sc _ _ _=>sc
 |_=>{kind:=.function,names:=[],isGenerator:=false,isCoroutine:=false}
abbrev CX0:CXT:=λ_ _ _ _ _ _=>False
abbrev E0:XK:=λ_ _ _=>False
theorem VY:Passes CX0 X E0:=λ_ _ _ _ _ _ _ h=>h.elim
structure Fun(K:Ag)(x qual:Str)(st:Stmt)(f:Addr)(fd:BQ):Prop where
 a:∃(oc:Value) (od:Option Addr) (kV doc pm:Value) (an:Option Addr) (cdv ct:Value) (osl:Array (Option Value)),
  fd=BK x qual (wI st) (yh st) (zH st) .none kV doc pm an cdv ct/\K.lookup f=some ⟨oc,od,.func fd,osl⟩/\BO K cdv qual=true
 b:B4 K (.ref f)=true
section
variable {P:Program}{w:World}{K:Ag}{mg:Str->Option Value}{base:Heap}
theorem Fun.binds{st}{ps:List Str}(F:Fun K x qual st f fd)
 (h:∀kV doc pm an cdv ct (us:List Value),us.length=ps.length->Gr (BK x qual (wI st) (yh st) (zH st) .none kV doc pm an cdv ct) ⟨us,[]⟩=pure (ps.zip us)):Binds K fd ps []:=by
 obtain⟨oc,od,kV,doc,pm,an,cdv,ct,osl,rfl,lk,hcd⟩:=F.a;exact .all (h kV doc pm an cdv ct)
theorem UJ{st}{kV doc pm cdv ct}(l:K.lookup f=some ⟨oc,od,.func (BK x qual (wI st) (yh st) (zH st) .none kV doc pm an cdv ct),osl⟩)
 (c:BO K cdv qual=true) (k:B4 K (.ref f)=true):Fun K x qual st f (BK x qual (wI st) (yh st) (zH st) .none kV doc pm an cdv ct):=⟨⟨oc,od,kV,doc,pm,an,cdv,ct,osl,rfl,l,c⟩,k⟩
end
theorem rY{A B:Prop}(h:B):if false=true then A else B:=by rw[if_neg Ab];exact h
theorem oJ{A B:Prop}(h:A):if true=true then A else B:=by rw[if_pos rfl];exact h
def wq(H H':Hp):Prop:=∀b o,H b=some o->H' b=some o
theorem wq.refl H:wq H H:=λ_ _ h=>h
theorem wq.trans(a:wq H H1)(b:wq H1 H2):wq H H2:=λc o h=>b c o (a c o h)
end L2
end
section
namespace M
open PySem
noncomputable def el(a n:Nat)(f:a=n->Bool):Bool:=if h:a=n then f h else false
theorem yG(h:el a n f=true):∃hc,f hc=true:=by
 unfold el at h;by_cases hc:a=n
 . rw[dif_pos hc]at h;exact⟨hc,h⟩
 . rw[dif_neg hc]at h;cases h
def VF(e:Expr)(k:BoolOp->List Expr->Pos->Bool):Bool:=el e.ctorIdx 0 λh=>Expr.BoolOp.elim (motive_1:=λ_=>Bool) e h k
theorem fh(h:VF e k=true):∃o xs p,e=.BoolOp o xs p/\k o xs p=true:=by obtain⟨hc,h⟩:=yG h;obtain⟨o,xs,p,rfl⟩:∃o xs p,e=.BoolOp o xs p:=Expr.BoolOp.elim (motive_1:=λe=>∃o xs p,e=Expr.BoolOp o xs p) e hc λo xs p=>⟨o,xs,p,rfl⟩;exact⟨o,xs,p,rfl,h⟩
def RN(e:Expr)(k:Expr->Operator->Expr->Pos->Bool):Bool:=el e.ctorIdx 2 λh=>Expr.BinOp.elim (motive_1:=λ_=>Bool) e h k
theorem lZ(h:RN e k=true):∃l o r p,e=.BinOp l o r p/\k l o r p=true:=by obtain⟨hc,h⟩:=yG h;obtain⟨l,o,r,p,rfl⟩:∃l o r p,e=.BinOp l o r p:=Expr.BinOp.elim (motive_1:=λe=>∃l o r p,e=Expr.BinOp l o r p) e hc λl o r p=>⟨l,o,r,p,rfl⟩;exact⟨l,o,r,p,rfl,h⟩
def eUn(e:Expr)(k:UnaryOp->Expr->Pos->Bool):Bool:=el e.ctorIdx 3 λh=>Expr.UnaryOp.elim (motive_1:=λ_=>Bool) e h k
theorem Yz(h:eUn e k=true):∃o x p,e=.UnaryOp o x p/\k o x p=true:=by obtain⟨hc,h⟩:=yG h;obtain⟨o,x,p,rfl⟩:∃o x p,e=.UnaryOp o x p:=Expr.UnaryOp.elim (motive_1:=λe=>∃o x p,e=Expr.UnaryOp o x p) e hc λo x p=>⟨o,x,p,rfl⟩;exact⟨o,x,p,rfl,h⟩
def RS(e:Expr)(k:Ee->Expr->Scope->Pos->Bool):Bool:=el e.ctorIdx 4 λh=>Expr.Lambda.elim (motive_1:=λ_=>Bool) e h k
theorem bZ(h:RS e k=true):∃a b c p,e=.Lambda a b c p/\k a b c p=true:=by obtain⟨hc,h⟩:=yG h;obtain⟨a,b,c,p,rfl⟩:∃a b c p,e=.Lambda a b c p:=Expr.Lambda.elim (motive_1:=λe=>∃a b c p,e=Expr.Lambda a b c p) e hc λa b c p=>⟨a,b,c,p,rfl⟩;exact⟨a,b,c,p,rfl,h⟩
def RR(e:Expr)(k:Expr->Expr->Expr->Pos->Bool):Bool:=el e.ctorIdx 5 λh=>Expr.IfExp.elim (motive_1:=λ_=>Bool) e h k
theorem bY(h:RR e k=true):∃t x y p,e=.IfExp t x y p/\k t x y p=true:=by obtain⟨hc,h⟩:=yG h;obtain⟨t,x,y,p,rfl⟩:∃t x y p,e=.IfExp t x y p:=Expr.IfExp.elim (motive_1:=λe=>∃t x y p,e=Expr.IfExp t x y p) e hc λt x y p=>⟨t,x,y,p,rfl⟩;exact⟨t,x,y,p,rfl,h⟩
def RP(e:Expr)(k:List (Option Expr)->List Expr->Pos->Bool):Bool:=el e.ctorIdx 6 λh=>Expr.Dict.elim (motive_1:=λ_=>Bool) e h k
theorem bV(h:RP e k=true):∃ks vs p,e=.Dict ks vs p/\k ks vs p=true:=by obtain⟨hc,h⟩:=yG h;obtain⟨ks,vs,p,rfl⟩:∃ks vs p,e=.Dict ks vs p:=Expr.Dict.elim (motive_1:=λe=>∃ks vs p,e=Expr.Dict ks vs p) e hc λks vs p=>⟨ks,vs,p,rfl⟩;exact⟨ks,vs,p,rfl,h⟩
def UD(e:Expr)(k:Expr->List E9->Scope->Pos->Bool):Bool:=el e.ctorIdx 8 λh=>EX (motive_1:=λ_=>Bool) e h k
theorem la(h:UD e k=true):∃x gs sc p,e=.ListComp x gs sc p/\k x gs sc p=true:=by obtain⟨hc,h⟩:=yG h;obtain⟨x,gs,sc,p,rfl⟩:∃x gs sc p,e=.ListComp x gs sc p:=EX (motive_1:=λe=>∃x gs sc p,e=Expr.ListComp x gs sc p) e hc λx gs sc p=>⟨x,gs,sc,p,rfl⟩;exact⟨x,gs,sc,p,rfl,h⟩
def UE(e:Expr)(k:Expr->List CmpOp->List Expr->Pos->Bool):Bool:=el e.ctorIdx 15 λh=>Ft (motive_1:=λ_=>Bool) e h k
theorem lb(h:UE e k=true):∃l os rs p,e=.Compare l os rs p/\k l os rs p=true:=by obtain⟨hc,h⟩:=yG h;obtain⟨l,os,rs,p,rfl⟩:∃l os rs p,e=.Compare l os rs p:=Ft (motive_1:=λe=>∃l os rs p,e=Expr.Compare l os rs p) e hc λl os rs p=>⟨l,os,rs,p,rfl⟩;exact⟨l,os,rs,p,rfl,h⟩
def bU(e:Expr)(k:Expr->List Expr->List Keyword->Pos->Bool):Bool:=el e.ctorIdx 16 λh=>Expr.Call.elim (motive_1:=λ_=>Bool) e h k
theorem ou(h:bU e k=true):∃f xs ks p,e=.Call f xs ks p/\k f xs ks p=true:=by obtain⟨hc,h⟩:=yG h;obtain⟨f,xs,ks,p,rfl⟩:∃f xs ks p,e=.Call f xs ks p:=Expr.Call.elim (motive_1:=λe=>∃f xs ks p,e=Expr.Call f xs ks p) e hc λf xs ks p=>⟨f,xs,ks,p,rfl⟩;exact⟨f,xs,ks,p,rfl,h⟩
def RQ(e:Expr)(k:Expr->Int->Option Expr->Pos->Bool):Bool:=el e.ctorIdx 17 λh=>FL (motive_1:=λ_=>Bool) e h k
theorem bX(h:RQ e k=true):∃x c s p,e=.FormattedValue x c s p/\k x c s p=true:=by obtain⟨hc,h⟩:=yG h;obtain⟨x,c,s,p,rfl⟩:∃x c s p,e=.FormattedValue x c s p:=FL (motive_1:=λe=>∃x c s p,e=Expr.FormattedValue x c s p) e hc λx c s p=>⟨x,c,s,p,rfl⟩;exact⟨x,c,s,p,rfl,h⟩
def eJn(e:Expr)(k:List Expr->Pos->Bool):Bool:=el e.ctorIdx 18 λh=>Gg.elim (motive_1:=λ_=>Bool) e h k
theorem Yu(h:eJn e k=true):∃xs p,e=.JoinedStr xs p/\k xs p=true:=by obtain⟨hc,h⟩:=yG h;obtain⟨xs,p,rfl⟩:∃xs p,e=.JoinedStr xs p:=Gg.elim (motive_1:=λe=>∃xs p,e=Gg xs p) e hc λxs p=>⟨xs,p,rfl⟩;exact⟨xs,p,rfl,h⟩
def Ys(e:Expr)(k:Const->Nat->Pos->Bool):Bool:=el e.ctorIdx 19 λh=>GC.elim (motive_1:=λ_=>Bool) e h k
theorem qw(h:Ys e k=true):∃c n p,e=.Constant c n p/\k c n p=true:=by obtain⟨hc,h⟩:=yG h;obtain⟨c,n,p,rfl⟩:∃c n p,e=.Constant c n p:=GC.elim (motive_1:=λe=>∃c n p,e=GC c n p) e hc λc n p=>⟨c,n,p,rfl⟩;exact⟨c,n,p,rfl,h⟩
def RM(e:Expr)(k:Expr->Str->Pos->Bool):Bool:=el e.ctorIdx 20 λh=>Gh.elim (motive_1:=λ_=>Bool) e h k
theorem bT(h:RM e k=true):∃o x p,e=.Attribute o x p/\k o x p=true:=by obtain⟨hc,h⟩:=yG h;obtain⟨o,x,p,rfl⟩:∃o x p,e=.Attribute o x p:=Gh.elim (motive_1:=λe=>∃o x p,e=Gh o x p) e hc λo x p=>⟨o,x,p,rfl⟩;exact⟨o,x,p,rfl,h⟩
def Yx(e:Expr)(k:Expr->Expr->Pos->Bool):Bool:=el e.ctorIdx 21 λh=>Gi.elim (motive_1:=λ_=>Bool) e h k
theorem qx(h:Yx e k=true):∃l r p,e=.Subscript l r p/\k l r p=true:=by obtain⟨hc,h⟩:=yG h;obtain⟨l,r,p,rfl⟩:∃l r p,e=.Subscript l r p:=Gi.elim (motive_1:=λe=>∃l r p,e=Gi l r p) e hc λl r p=>⟨l,r,p,rfl⟩;exact⟨l,r,p,rfl,h⟩
def eName(e:Expr)(k:Str->Pos->Bool):Bool:=el e.ctorIdx 23 λh=>Ek.elim (motive_1:=λ_=>Bool) e h k
theorem xf(h:eName e k=true):∃x p,e=.Name x p/\k x p=true:=by obtain⟨hc,h⟩:=yG h;obtain⟨x,p,rfl⟩:∃x p,e=.Name x p:=Ek.elim (motive_1:=λe=>∃x p,e=Ek x p) e hc λx p=>⟨x,p,rfl⟩;exact⟨x,p,rfl,h⟩
def RT(e:Expr)(k:List Expr->Pos->Bool):Bool:=el e.ctorIdx 24 λh=>Expr.List.elim (motive_1:=λ_=>Bool) e h k
theorem lg(h:RT e k=true):∃xs p,e=.List xs p/\k xs p=true:=by obtain⟨hc,h⟩:=yG h;obtain⟨xs,p,rfl⟩:∃xs p,e=.List xs p:=Expr.List.elim (motive_1:=λe=>∃xs p,e=Expr.List xs p) e hc λxs p=>⟨xs,p,rfl⟩;exact⟨xs,p,rfl,h⟩
def Yy(e:Expr)(k:List Expr->Nat->Pos->Bool):Bool:=el e.ctorIdx 25 λh=>F4 (motive_1:=λ_=>Bool) e h k
theorem sN(h:Yy e k=true):∃xs n p,e=.Tuple xs n p/\k xs n p=true:=by obtain⟨hc,h⟩:=yG h;obtain⟨xs,n,p,rfl⟩:∃xs n p,e=.Tuple xs n p:=F4 (motive_1:=λe=>∃xs n p,e=Expr.Tuple xs n p) e hc λxs n p=>⟨xs,n,p,rfl⟩;exact⟨xs,n,p,rfl,h⟩
def RU(e:Expr)(k:Option Expr->Option Expr->Option Expr->Pos->Bool):Bool:=el e.ctorIdx 26 λh=>Expr.Slice.elim (motive_1:=λ_=>Bool) e h k
theorem ba(h:RU e k=true):∃x y z p,e=.Slice x y z p/\k x y z p=true:=by obtain⟨hc,h⟩:=yG h;obtain⟨x,y,z,p,rfl⟩:∃x y z p,e=.Slice x y z p:=Expr.Slice.elim (motive_1:=λe=>∃x y z p,e=Expr.Slice x y z p) e hc λx y z p=>⟨x,y,z,p,rfl⟩;exact⟨x,y,z,p,rfl,h⟩
def Qw(e:Stmt)(k:Option Expr->Pos->Bool):Bool:=el e.ctorIdx 3 λh=>Stmt.Return.elim (motive_2:=λ_=>Bool) e h k
theorem kr(h:Qw e k=true):∃o p,e=.Return o p/\k o p=true:=by obtain⟨hc,h⟩:=yG h;obtain⟨o,p,rfl⟩:∃o p,e=.Return o p:=Stmt.Return.elim (motive_2:=λe=>∃o p,e=Stmt.Return o p) e hc λo p=>⟨o,p,rfl⟩;exact⟨o,p,rfl,h⟩
def Wa(e:Stmt)(k:List Expr->Expr->Pos->Bool):Bool:=el e.ctorIdx 5 λh=>Stmt.Assign.elim (motive_2:=λ_=>Bool) e h k
theorem sr(h:Wa e k=true):∃ts v p,e=.Assign ts v p/\k ts v p=true:=by obtain⟨hc,h⟩:=yG h;obtain⟨ts,v,p,rfl⟩:∃ts v p,e=.Assign ts v p:=Stmt.Assign.elim (motive_2:=λe=>∃ts v p,e=Stmt.Assign ts v p) e hc λts v p=>⟨ts,v,p,rfl⟩;exact⟨ts,v,p,rfl,h⟩
def Qu(e:Stmt)(k:Expr->Expr->List Stmt->List Stmt->Pos->Bool):Bool:=el e.ctorIdx 9 λh=>Stmt.For.elim (motive_2:=λ_=>Bool) e h k
theorem Z3(h:Qu e k=true):∃t i b c p,e=.For t i b c p/\k t i b c p=true:=by obtain⟨hc,h⟩:=yG h;obtain⟨t,i,b,c,p,rfl⟩:∃t i b c p,e=.For t i b c p:=Stmt.For.elim (motive_2:=λe=>∃t i b c p,e=Stmt.For t i b c p) e hc λt i b c p=>⟨t,i,b,c,p,rfl⟩;exact⟨t,i,b,c,p,rfl,h⟩
def sIf(e:Stmt)(k:Expr->List Stmt->List Stmt->Pos->Bool):Bool:=el e.ctorIdx 12 λh=>Stmt.If.elim (motive_2:=λ_=>Bool) e h k
theorem fE(h:sIf e k=true):∃c a b p,e=.If c a b p/\k c a b p=true:=by obtain⟨hc,h⟩:=yG h;obtain⟨c,a,b,p,rfl⟩:∃c a b p,e=.If c a b p:=Stmt.If.elim (motive_2:=λe=>∃c a b p,e=Stmt.If c a b p) e hc λc a b p=>⟨c,a,b,p,rfl⟩;exact⟨c,a,b,p,rfl,h⟩
def sRs(e:Stmt)(k:Option Expr->Option Expr->Pos->Bool):Bool:=el e.ctorIdx 16 λh=>Stmt.Raise.elim (motive_2:=λ_=>Bool) e h k
theorem Wb(h:sRs e k=true):∃a b p,e=.Raise a b p/\k a b p=true:=by obtain⟨hc,h⟩:=yG h;obtain⟨a,b,p,rfl⟩:∃a b p,e=.Raise a b p:=Stmt.Raise.elim (motive_2:=λe=>∃a b p,e=Stmt.Raise a b p) e hc λa b p=>⟨a,b,p,rfl⟩;exact⟨a,b,p,rfl,h⟩
def Qt(e:Stmt)(k:Expr->Pos->Bool):Bool:=el e.ctorIdx 24 λh=>Stmt.Expr.elim (motive_2:=λ_=>Bool) e h k
theorem kq(h:Qt e k=true):∃x p,e=.Expr x p/\k x p=true:=by obtain⟨hc,h⟩:=yG h;obtain⟨x,p,rfl⟩:∃x p,e=.Expr x p:=Stmt.Expr.elim (motive_2:=λe=>∃x p,e=Stmt.Expr x p) e hc λx p=>⟨x,p,rfl⟩;exact⟨x,p,rfl,h⟩
noncomputable def l1{α:Type}(xs:List α)(k:α->Bool):Bool:=match xs with
 |[x]=>k x
 |_=>false
theorem yr(h:l1 xs k=true):∃x,xs=[x]/\k x=true:=by
 cases xs with
 |nil=>cases h
 |cons x xs=>cases xs with
  |nil=>exact⟨x,rfl,h⟩
  |cons _ _=>cases h
noncomputable def lc{α:Type}(xs:List α)(k:α->List α->Bool):Bool:=match xs with
 |x::xs=>k x xs
 |[]=>false
theorem ya(h:lc xs k=true):∃x ys,xs=x::ys/\k x ys=true:=by
 cases xs with
 |nil=>cases h
 |cons x ys=>exact⟨x,ys,rfl,h⟩
theorem ae{xs}{k:α->α->Bool}(h:(lc xs λx ys=>l1 ys (k x))=true):∃x y,xs=[x,y]/\k x y=true:=by obtain⟨x,ys,rfl,h⟩:=ya h;obtain⟨y,rfl,h⟩:=yr h;exact⟨x,y,rfl,h⟩
noncomputable def o1{α:Type}(x:Option α)(k:α->Bool):Bool:=match x with
 |some x=>k x
 |none=>false
theorem me(h:o1 x k=true):∃y,x=some y/\k y=true:=by
 cases x with
 |none=>cases h
 |some x=>exact⟨x,rfl,h⟩
theorem za(h:(a&&b)=true):a=true/\b=true:=by
 cases a with
 |false=>cases h
 |true=>exact⟨rfl,h⟩
def eOp(u:UnaryOp)(e:Expr)(k:Expr->Bool):Bool:=eUn e λo x _=>decide (o=u)&&k x
theorem qY(h:eOp u e k=true):∃x p,e=.UnaryOp u x p/\k x=true:=by obtain⟨o,x,p,rfl,h2⟩:=Yz h;obtain⟨h1,h3⟩:=za h2;cases of_decide_eq_true h1;exact⟨x,p,rfl,h3⟩
def eBl(u:BoolOp)(e:Expr)(k:Expr->List Expr->Bool):Bool:=VF e λo xs _=>decide (o=u)&&lc xs k
theorem mK(h:eBl u e k=true):∃x xs p,e=.BoolOp u (x::xs) p/\k x xs=true:=by obtain⟨o,xs,p,rfl,h2⟩:=fh h;obtain⟨h1,h3⟩:=za h2;cases of_decide_eq_true h1;obtain⟨x,ys,rfl,h4⟩:=ya h3;exact⟨x,ys,p,rfl,h4⟩
def eC1(e:Expr)(k:Expr->CmpOp->Expr->Bool):Bool:=UE e λl os rs _=>l1 os λo=>l1 rs λr=>k l o r
theorem mL(h:eC1 e k=true):∃l o r p,e=.Compare l [o] [r] p/\k l o r=true:=by obtain⟨l,os,rs,p,rfl,h⟩:=lb h;obtain⟨o,rfl,h⟩:=yr h;obtain⟨r,rfl,h⟩:=yr h;exact⟨l,o,r,p,rfl,h⟩
def eC2(e:Expr)(k:Expr->CmpOp->CmpOp->Expr->Expr->Bool):Bool:=UE e λl os rs _=>lc os λo os=>l1 os λo'=>lc rs λr rs=>l1 rs λr'=>k l o o' r r'
theorem gU(h:eC2 e k=true):∃l o o' r r' p,e=.Compare l [o,o'] [r,r'] p/\k l o o' r r'=true:=by obtain⟨l,os,rs,p,rfl,h⟩:=lb h;obtain⟨o,os,rfl,h⟩:=ya h;obtain⟨o',rfl,h⟩:=yr h;obtain⟨r,rs,rfl,h⟩:=ya h;obtain⟨r',rfl,h⟩:=yr h;exact⟨l,o,o',r,r',p,rfl,h⟩
def eD0(e:Expr):Bool:=RP e λks vs _=>ks.isEmpty&&vs.isEmpty
theorem gV(h:eD0 e=true):∃p,e=.Dict [] [] p:=by obtain⟨ks,vs,p,rfl,h⟩:=bV h;obtain⟨h1,h2⟩:=za h;rw[AR.mp h1,AR.mp h2];exact⟨p,rfl⟩
def eCN(e:Expr)(k:Str->List Expr->Bool):Bool:=bU e λf xs ks _=>ks.isEmpty&&eName f λx _=>k x xs
theorem xF(h:eCN e k=true):∃x p xs pos,e=.Call (.Name x p) xs [] pos/\k x xs=true:=by obtain⟨f,xs,ks,pos,rfl,h⟩:=ou h;obtain⟨h1,h⟩:=za h;obtain⟨x,p,rfl,h⟩:=xf h;rw[AR.mp h1];exact⟨x,p,xs,pos,rfl,h⟩
def eMt(e:Expr)(k:Expr->Str->Pos->Expr->Pos->Bool):Bool:=bU e λf xs ks cp=>ks.isEmpty&&RM f λob x ap=>l1 xs λy=>k ob x ap y cp
theorem Yv(h:eMt e k=true):∃ob x ap y cp,e=.Call (.Attribute ob x ap) [y] [] cp/\k ob x ap y cp=true:=by obtain⟨f,xs,ks,pos,rfl,h⟩:=ou h;obtain⟨h1,h⟩:=za h;obtain⟨ob,x,ap,rfl,h⟩:=bT h;obtain⟨y,rfl,h⟩:=yr h;rw[AR.mp h1];exact⟨ob,x,ap,y,pos,rfl,h⟩
def eSS(e:Expr)(k:Expr->Option Expr->Option Expr->Option Expr->Bool):Bool:=Yx e λl r _=>RU r λx y z _=>k l x y z
theorem Yw(h:eSS e k=true):∃l x y z p pos,e=.Subscript l (.Slice x y z p) pos/\k l x y z=true:=by obtain⟨l,r,pos,rfl,h⟩:=qx h;obtain⟨x,y,z,p,rfl,h⟩:=ba h;exact⟨l,x,y,z,p,pos,rfl,h⟩
noncomputable def gC(g:E9)(k:Expr->Expr->List Expr->Bool):Bool:=decide (g.is_async=0)&&k g.target g.iter g.ifs
theorem jk(h:gC g k=true):∃t i f,g=⟨t,i,f,0⟩/\k t i f=true:=by obtain⟨t,i,f,a⟩:=g;obtain⟨h1,h⟩:=za h;have h1:a=0:=of_decide_eq_true h1;subst h1;exact⟨t,i,f,rfl,h⟩
def eG1(e:Expr)(k:Expr->Expr->Expr->List Expr->Scope->Bool):Bool:=UD e λx gs sc _=>l1 gs λg=>gC g λt i f=>k x t i f sc
theorem gW(h:eG1 e k=true):∃x t i f sc p,e=.ListComp x [⟨t,i,f,0⟩] sc p/\k x t i f sc=true:=by obtain⟨x,gs,sc,p,rfl,h2⟩:=la h;obtain⟨g,rfl,h3⟩:=yr h2;obtain⟨t,i,f,rfl,h4⟩:=jk h3;exact⟨x,t,i,f,sc,p,rfl,h4⟩
def eG2(e:Expr)(k:Expr->Expr->Expr->List Expr->Expr->Expr->List Expr->Scope->Bool):Bool:=UD e λx gs sc _=>lc gs λg gs=>l1 gs λg2=>gC g λt i f=>gC g2 λt2 i2 f2=>k x t i f t2 i2 f2 sc
theorem gX(h:eG2 e k=true):∃x t i f t2 i2 f2 sc p,e=.ListComp x [⟨t,i,f,0⟩,⟨t2,i2,f2,0⟩] sc p/\k x t i f t2 i2 f2 sc=true:=by obtain⟨x,gs,sc,p,rfl,h2⟩:=la h;obtain⟨g,gs,rfl,h3⟩:=ya h2;obtain⟨g2,rfl,h4⟩:=yr h3;obtain⟨t,i,f,rfl,h5⟩:=jk h4;obtain⟨t2,i2,f2,rfl,h6⟩:=jk h5;exact⟨x,t,i,f,t2,i2,f2,sc,p,rfl,h6⟩
end M
end
section
namespace L2
open PySem PySem.Spec PyProof.Rows
noncomputable def u0(cells:List (Str × Addr)):List (Str × CM)->List (Str × Addr)->List (Str × Addr)
 |[],acc=>acc
 |(n,k)::r,acc=>if k == .free then (match cells.lookup n with|some c=>u0 cells r ((n,c)::acc)|none=>u0 cells r acc) else u0 cells r acc
theorem tW:∀names acc,(∀x∈names,x.2=.free->∃c,env.cells.lookup x.1=some c) ->
 (forIn names acc λx cs =>(if x.2 == .free then do let a <-cellOf env x.1;pure (Cf ((x.1,a)::cs)) else pure (Cf cs):Sem (ForInStep (List (Str × Addr)))))=pure (u0 env.cells names acc)
 |[],acc,_=>rfl
 |(n,k)::r,acc,h=>by
  rw[EC];dsimp only;unfold u0;by_cases hk:(k == AH)=true
  . have hk':k=.free:=by simpa using hk
    obtain⟨c,hc⟩:=h (n,k) Ar hk';have hc':env.cells.lookup n=some c:=hc;have hcell:cellOf env n=pure c:=by unfold cellOf;rw[hc']
    rw[if_pos hk,if_pos hk,hcell,hc',DG,DG];exact tW r _ λx hx=>h x (Ah _ hx)
  . rw[if_neg hk,if_neg hk,DG]
    exact tW r _ λx hx=>h x (Ah _ hx)
theorem tJ(h:∀x∈scope.names,x.2=.free->∃c,env.cells.lookup x.1=some c):Gv scope env=pure (u0 env.cells scope.names []):=by
 have e:=tW (env:=env) scope.names [] h;show (do let cs <-forIn scope.names [] _;pure cs)=_
 refine Gw ?_ e;refine Gw (bind_pure _) ?_;congr 1
theorem sL:∀names acc,(∀x c,acc.lookup x=some c->cells.lookup x=some c)->∀x c,(u0 cells names acc).lookup x=some c->cells.lookup x=some c
 |[],acc,h,x,c,e=>h x c e
 |(n,k)::r,acc,h,x,c,e=>by
  unfold u0 at e;by_cases hk:(k == AH)=true
  . rw[if_pos hk]at e
    cases hc:cells.lookup n with
    |none=>rw[hc]at e;exact sL r acc h x c e
    |some d=>
     rw[hc]at e;refine sL r _ (λy z q=>?_) x c e;rw[An]at q;cases hy:(y == n) with
     |true=>rw[hy]at q;have hy':y=n:=by simpa using hy
            cases q;rw[hy'];exact hc
     |false=>rw[hy]at q;exact h y z q
  . rw[if_neg hk]at e;exact sL r acc h x c e
theorem vW:∀names acc x c,cells.lookup x=some c->(acc.lookup x=some c\/(x,AH)∈names)->(∀y d,acc.lookup y=some d->cells.lookup y=some d)->(u0 cells names acc).lookup x=some c
 |[],acc,x,c,_,h,_=>by
  rcases h with h|h
  . exact h
  . cases h
 |(n,k)::r,acc,x,c,hc,h,ha=>by
  unfold u0;by_cases hk:(k == AH)=true
  . rw[if_pos hk]
    cases hn:cells.lookup n with
    |none=>
     refine vW r acc x c hc ?_ ha;rcases h with h|h
     . exact .inl h
     . rcases Af.mp h with e|e
       . cases e;rw[hn]at hc;cases hc
       . exact .inr e
    |some d=>
     have ha':∀y z,((n,d)::acc).lookup y=some z->cells.lookup y=some z:=λy z q=>by
      rw[An]at q;cases hy:(y == n) with
      |true=>rw[hy]at q;have hy':y=n:=by simpa using hy
             cases q;rw[hy'];exact hn
      |false=>rw[hy]at q;exact ha y z q
     by_cases hx:x=n
     . subst hx
       refine vW r _ x c hc (.inl ?_) ha';rw[hn]at hc;cases hc;simp[An]
     . refine vW r _ x c hc ?_ ha'
       rcases h with h|h
       . refine .inl ?_
         have:(x == n)=false:=by simpa using hx
         rw[An,this];exact h
       . rcases Af.mp h with e|e
         . cases e;exact absurd rfl hx
         . exact .inr e
  . rw[if_neg hk]
    refine vW r acc x c hc ?_ ha;rcases h with h|h
    . exact .inl h
    . rcases Af.mp h with e|e
      . cases e;exact absurd (by decide) hk
      . exact .inr e
theorem tS:∀names n acc,Cu n names acc=Cu n names []++acc
 |[],_,_=>rfl
 |(x,k)::r,n,acc=>by
  unfold Cu;split
  . rw[tS r (n+1) ((x,n)::acc),tS r (n+1) [(x,n)],Bt];rfl
  . exact tS r n acc
theorem mI:∀names n {x} {c},(x,c)∈Cu n names []->(x,Bk)∈names/\n<=c
 |[],_,_,_,h=>by cases h
 |(y,k)::r,n,x,c,h=>by
  unfold Cu at h;split at h
  . rename_i hk
    rw[tS]at h;rcases AX.mp h with h|h
    . obtain⟨h1,h2⟩:=mI r (n+1) h
      exact⟨Ah _ h1,by omega⟩
    . cases AF.mp h
      have:k=.cell:=by simpa using hk
      rw[this];exact⟨Ar,Ac _⟩
  . obtain⟨h1,h2⟩:=mI r n h
    exact⟨Ah _ h1,h2⟩
theorem mH:∀names n {x},(x,Bk)∈names->∃c,(x,c)∈Cu n names []
 |[],_,_,h=>by cases h
 |(y,k)::r,n,x,h=>by
  unfold Cu;rcases Af.mp h with e|h
  . cases e
    rw[if_pos (by rfl),tS]
    exact⟨n,Bb _ Ar⟩
  . split
    . obtain⟨c,hc⟩:=mH r (n+1) h
      rw[tS];exact⟨c,Bv _ hc⟩
    . exact mH r n h
theorem ao{l:List (Str × Addr)}:(x,c)∈l->∃d,l.lookup x=some d:=by
 induction l with
 |nil=>intro h;cases h
 |cons p r ih=>
  intro h;rw[An];cases hx:x == p.1 with
  |true=>exact⟨_,rfl⟩
  |false=>
   rcases Af.mp h with e|h
   . rw[<-e]at hx;simp at hx
   . exact ih h
theorem jx{l m:List (Str × Addr)}{x:Str}:(l++m).lookup x=match l.lookup x with|some c=>some c|none=>m.lookup x:=by
 induction l with
 |nil=>rfl
 |cons p r ih=>
  rw[CN,An,An];cases hx:x == p.1 with
  |true=>rfl
  |false=>exact ih
noncomputable def vO(sc:Scope)(C:Addr):List (Str × Addr):=Cu (C+1) sc.names []
theorem X8(h:Heap)sc:∃h',CellsOk h' (h.objs.size+1) (vO sc h.objs.size):=by
 have ok:=cellsFrom_ok sc.names (h.push {cls:=.type "dict",data:=.dict #[]}) (h.objs.size+1) [] ⟨λ_ _ hm=>(nomatch hm),Fs⟩ (by rw[Bi];exact Ac _)
 rw[Bi]at ok;exact⟨_,ok⟩
abbrev Cx.comp(X:Cx)(N:List Str)(sc:Scope)(C:Addr)(s:Shared)(H:Hp)(ex:List Addr):Cx:=
 {X with N:=N,l:=s,r:=H,a:=compEnvC sc (vO sc C++u0 X.a.cells sc.names []) C X.a,k:=X.g,m:=ex,n:=λx=>sc.names.any λp=>decide (p=(x,Bk)),q:=[],j:=λ_ _=>False}
structure z0(X:Cx)(N:List Str)(sc:Scope)(fr:List (Option Nat)):Prop where
 b:sc.kind=.function
 e:∀x,(x,Bk)∈sc.names->(x,AH)∈sc.names->False
 a:∀x∈sc.names,x.2=.local->sc.names.lookup x.1=some .local
 d:∀x∈sc.names,x.2=.free->X.a.kindOf x.1=some .cell\/X.a.kindOf x.1=some .free
 g:fr.length=N.length
 f:∀(i j:Nat) (x:Str),N[i]?=some x->fr[i]?=some (some j)->X.N[j]?=some x/\(x,AH)∈sc.names
 h:∀x,sc.names.lookup x=some .local->(x,AH)∈sc.names->False
noncomputable def ze(fr:List (Option Nat))(σ:St):St:=fr.map λo=>match o with|some j=>(σ[j]?).join|none=>none
theorem lC(h:(relabel sc env).names.lookup x=some .cell\/(relabel sc env).names.lookup x=some .free):(x,AH)∈sc.names\/(x,Bk)∈sc.names:=by
 have key:∀(names:List (Str × CM)),((names.map λ(n,k)=>if (k == AH&&env.scope.kind == .function&&env.kindOf n == some .cell) then (n,Bk) else (n,k)).lookup x=some .cell \/
  (names.map λ(n,k)=>if (k == AH&&env.scope.kind == .function&&env.kindOf n == some .cell) then (n,Bk) else (n,k)).lookup x=some .free)->(x,AH)∈names\/(x,Bk)∈names:=by
  intro names;induction names with
  |nil=>intro h;simp at h
  |cons p r ih=>
   obtain⟨n,k⟩:=p;intro h;rw[AJ]at h;dsimp only at h;by_cases hx:x=n
   . subst hx
     by_cases hf:k=.free
     . subst hf;exact .inl Ar
     . have hf':(k == AH)=false:=by simpa using hf
       rw[hf']at h;simp only[Dc,A3,if_false,An,beq_self_eq_true]at h;rcases h with h|h
       . cases h;exact .inr Ar
       . cases h;exact absurd rfl hf
   . have hx':(x == n)=false:=by simpa using hx
     have:=ih (by split at h<;>simpa only[An,hx'] using h)
     exact this.elim (λz=>.inl (Ah _ z)) λz=>.inr (Ah _ z)
 exact key sc.names h
theorem uB(h:sc.names.lookup x=some .cell):(relabel sc env).names.lookup x=some .cell:=by
 have key:∀(names:List (Str × CM)),names.lookup x=some .cell->(names.map λ(n,k)=>if (k == AH&&env.scope.kind == .function&&env.kindOf n == some .cell) then (n,Bk) else (n,k)).lookup x=some .cell:=by
  intro names;induction names with
  |nil=>intro h;simp at h
  |cons p r ih=>
   obtain⟨n,k⟩:=p;intro h;rw[AJ];dsimp only;cases hx:(x == n) with
   |true=>
    rw[An,hx]at h;cases h;have e:(Bk == AH)=false:=rfl;rw[e];simp only[Dc,A3,if_false,An,hx]
   |false=>
    rw[An,hx]at h;have:=ih h;split<;>simpa only[An,hx] using this
 exact key sc.names h
theorem sq(hl:∀y∈sc.names,y.2=.local->sc.names.lookup y.1=some .local)(h:sc.names.lookup x=some .free) :
 (relabel sc env).names.lookup x=some .cell\/(relabel sc env).names.lookup x=some .free:=by
 have key:∀(names:List (Str × CM)),names.lookup x=some .free->((names.map λ(n,k)=>if (k == AH&&env.scope.kind == .function&&env.kindOf n == some .cell) then (n,Bk) else (n,k)).lookup x=some .cell \/
  (names.map λ(n,k)=>if (k == AH&&env.scope.kind == .function&&env.kindOf n == some .cell) then (n,Bk) else (n,k)).lookup x=some .free):=by
  intro names;induction names with
  |nil=>intro h;simp at h
  |cons p r ih=>
   obtain⟨n,k⟩:=p;intro h;rw[AJ];dsimp only;cases hx:(x == n) with
   |true=>
    rw[An,hx]at h;cases h;split
    . left;simp only[An,hx]
    . right;simp only[An,hx]
   |false=>
    rw[An,hx]at h;have:=ih h;split<;>simpa only[An,hx] using this
 exact key sc.names h
section
variable {X:Cx}{pins:List (Addr × Obj)}{σ:St}{H:Hp}{s:Shared}{N:List Str}{sc:Scope}{fr:List (Option Nat)}{fp:List Addr}
theorem z0.cells(S:z0 X N sc fr)(ok:X.Ok):∀x∈sc.names,x.2=.free->∃c,X.a.cells.lookup x.1=some c:=λx hx hk=>ok.r x.1 (S.d x hx hk)
theorem vV(h:(vO sc C++u0 cells sc.names []).lookup x=some c):((vO sc C).lookup x=some c)\/((vO sc C).lookup x=none/\cells.lookup x=some c):=by
 rw[jx]at h;cases ho:(vO sc C).lookup x with
 |some d=>rw[ho]at h;exact .inl h
 |none=>rw[ho]at h;exact .inr ⟨rfl,sL sc.names [] (λx c e=>by simp at e) x c h⟩
theorem pT(h:(vO sc C).lookup x=some c):@LE.le Nat _ (C+1) c:=(mI sc.names (C+1) (mem_of_lookup h)).2
theorem ZJ(S:z0 X N sc fr)(h:(x,AH)∈sc.names):(vO sc C).lookup x=none:=by
 cases ho:(vO sc C).lookup x with
 |none=>rfl
 |some d=>exact(S.e x (mI sc.names (C+1) (mem_of_lookup ho)).1 h).elim
theorem Yk(I:Inv X pins σ H s)(S:z0 X N sc fr)(hf:∀b∈fp,uz X pins H b)(hlt:∀b∈fp,b<s.heap.objs.size):(X.comp N sc s.heap.objs.size s H fp).Ok:=by
 obtain⟨h',hok⟩:=X8 s.heap sc;have old:∀x c,X.a.cells.lookup x=some c->@LT.lt Nat _ c s.heap.objs.size:=λx c e=>by obtain⟨v,z⟩:=I.F x c e;exact z.lt
 refine⟨I.B.j,S.b,I.B.k,I.B.t,Ac _,λx y c e1 e2=>?_,λx h=>?_,λx c h e=>?_,I.B.i,I.B.g,.inl rfl,λb hb=>?_,λb o e=>I.bs b o e,?_,λb o e hb=>?_,λb hb z=>?_,I.stack,I.lE⟩
 . rcases vV e1 with e1|⟨_,e1⟩<;>rcases vV e2 with e2|⟨_,e2⟩
   . exact name_of_addr hok.apart (mem_of_lookup e1) (mem_of_lookup e2)
   . exact absurd (Ax (old _ _ e2) (Au (C7 _) (pT e1))) (Bj _)
   . exact absurd (Ax (old _ _ e1) (Au (C7 _) (pT e2))) (Bj _)
   . exact I.B.s x y c e1 e2
 . show ∃c,(vO sc s.heap.objs.size++u0 X.a.cells sc.names []).lookup x=some c
   rw[jx];rcases lC h with m|m
   . obtain⟨c,hc⟩:=S.cells I.B (x,.free) m rfl
     rw[ZJ S m];exact⟨c,vW sc.names [] x c hc (.inr m) (λy d e=>by simp at e)⟩
   . obtain⟨c,hc⟩:=mH sc.names (s.heap.objs.size+1) m
     obtain⟨d,hd⟩:=ao hc;have hd':(vO sc s.heap.objs.size).lookup x=some d:=hd;rw[hd'];exact⟨d,rfl⟩
 . have m:(x,Bk)∈sc.names:=by obtain⟨p,hp,e'⟩:=Bl.mp h;rw[<-of_decide_eq_true e'];exact hp
   rcases vV e with e|⟨e,_⟩
   . exact Au (C7 _) (pT e)
   . obtain⟨c',hc⟩:=mH sc.names (s.heap.objs.size+1) m
     obtain⟨d,hd⟩:=ao hc;have hd':(vO sc s.heap.objs.size).lookup x=some d:=hd;rw[hd']at e;cases e
 . obtain⟨f0,f1,f2,f3,f4,f5⟩:=hf b hb
   refine⟨AE (hlt b hb),λx c e=>?_⟩;rcases vV e with e|⟨_,e⟩
   . exact λz=>absurd (Ax (z▸hlt b hb) (Au (C7 _) (pT e))) (Bj _)
   . exact f4 x c e
 . exact Au I.B.p I.sz
 . obtain⟨f0,f1,f2,f3,f4,f5⟩:=hf b hb
   rcases f3 with f3|f3
   . exact I.B.m b o e f3
   . exact absurd (Ax (Ak e) (Au I.B.p f3)) (Bj _)
 . obtain⟨f0,f1,f2,f3,f4,f5⟩:=hf b hb
   rcases Af.mp (I.ip b z) with e|e
   . exact f1 e
   . exact f2 e
theorem jh(I:Inv X pins σ H s)(S:z0 X N sc fr)(hf:∀b∈fp,uz X pins H b)(hlt:∀b∈fp,b<s.heap.objs.size)
 (hns:h'.Ns s.heap.objs.size (λ_=>none)) (k:∀b o,s.heap.get? b=some o->h'.get? b=some o) (jn:∀x c,(vO sc s.heap.objs.size).lookup x=some c->h'.IsCell c none):Inv (X.comp N sc s.heap.objs.size s H fp) [] (ze fr σ) H {s with heap:=h',toks:=tk}:=by
 refine⟨Yk I S hf hlt,rfl,I.D,Un.kept k,⟨_,hns,λi x v e1 e2 e3=>?_⟩,λx c e=>?_,I.j.fresh (Ac _),λx c e=>?_,λp hp=>(by simp at hp),I.j.kept k,?_⟩
 . have e2':(fr.map λo=>match o with|some j=>(σ[j]?).join|none=>none)[i]?=some (some v):=e2
   rw[AG]at e2';cases hfi:fr[i]? with
   |none=>rw[hfi]at e2';cases e2'
   |some o=>
    rw[hfi]at e2';cases o with
    |none=>cases e2'
    |some j=>
     obtain⟨n1,n2⟩:=S.f i j x e1 hfi;have e3':σ[j]?=some (some v):=by
      have q:(σ[j]?).join=some v:=Aw e2';cases hσ:σ[j]? with
      |none=>rw[hσ]at q;cases q
      |some w=>rw[hσ]at q;cases w with
       |none=>cases q
       |some w'=>have:w'=v:=Aw q
                 rw[this]
     have hk:=S.d (x,.free) n2 rfl;obtain⟨m,hn,hl⟩:=I.M;obtain⟨u,r,l⟩:=hl j x v n1 e3' (hk.elim (λz=>.inr (.inl z)) λz=>.inr (.inr z));refine⟨u,r,?_⟩;rcases l with⟨hk',_⟩|⟨_,c,hc,z⟩
     . rcases hk with hk|hk<;>(rw[hk]at hk';cases hk')
     . refine .inr ⟨?_,c,(by show (vO sc s.heap.objs.size++u0 X.a.cells sc.names []).lookup x=some c;rw[jx,ZJ S n2];exact vW sc.names [] x c hc (.inr n2) (λy d e=>by simp at e)),?_⟩
       . rcases e3 with e3|e3|e3
         . -- a local of that name: cannot be,the name is free in the block
           exfalso;have hloc:sc.names.lookup x=some .local:=by
            have key:∀(names:List (Str × CM)),(names.map λ(n,k)=>if (k == AH&&X.a.scope.kind == .function&&X.a.kindOf n == some .cell) then (n,Bk) else (n,k)).lookup x=some .local->names.lookup x=some .local:=by
             intro names;induction names with
             |nil=>intro h;simp at h
             |cons p r ih=>
              obtain⟨n,kk⟩:=p;intro h;rw[AJ]at h;dsimp only at h;cases hx:(x == n) with
              |true=>
               split at h
               . simp only[An,hx]at h;cases h
               . simp only[An,hx]at h ⊢;exact h
              |false=>
               rw[An,hx];refine ih ?_;split at h<;>simpa only[An,hx] using h
            exact key sc.names e3
           exact S.h x hloc n2
         . exact .inl e3
         . exact .inr e3
       . obtain⟨o,ho,hd⟩:=z
         exact⟨o,k _ _ ho,hd⟩
 . rcases vV e with e|⟨_,e⟩
   . exact⟨none,jn x c e⟩
   . obtain⟨v,o,ho,hd⟩:=I.F x c e
     exact⟨v,o,k _ _ ho,hd⟩
 . rcases vV e with e|⟨_,e⟩
   . exact I.j.fresh (Au (C7 _) (pT e))
   . exact I.J x c e
 . show (fr.map _).length=N.length
   rw[Aa];exact S.g
end
end L2
end
section
namespace L2
open PySem PySem.Spec PyProof.Rows
def lF:List TT->TT
 |[]=>λ_ H Q=>Q true H
 |t::ts=>λσ H Q=>t σ H λc H1=>if c=true then lF ts σ H1 Q else Q false H1
inductive PTs(X:Cx):List Expr->List TT->Prop
 |b:PTs X [] []
 |a {c:Expr} {cs:List Expr} {t:TT} {ts:List TT}:PT X c t->PTs X cs ts->PTs X (c::cs) (t::ts)
theorem qM{X:Cx}(h:Q false s):∀cs:List Expr,
 wpAny (model X.f X.w) X.A (forIn cs false λc r=>if r=true then do let ok <-isTrue c X.a (eval c X.a);pure (Cf ok) else pure (Cf r)) Q E s
 |[]=>Ai h
 |c::cs=>by rw[EC];exact dS (Ai (qM h cs))
theorem PTs.run:∀{cs} {ts},PTs X cs ts->∀{pins} {s} {σ} {H} {Q},Inv X pins σ H s->lF ts σ H Q ->
 wpAny (model X.f X.w) X.A (forIn cs true λc r=>if r=true then do let ok <-isTrue c X.a (eval c X.a);pure (Cf ok) else pure (Cf r)) (TP X pins σ Q) X.j s
 |_,_,.b,pins,s,σ,H,Q,I,h=>Ai ⟨H,I,h⟩
 |_,_,.a hc hs,pins,s,σ,H,Q,I,h=>by
  rw[EC];refine dS (dS (thn (hc pins s σ H _ I h) λc s1 ⟨H1,I1,q1⟩=>Ai ?_));cases c with
  |true=>exact hs.run I1 q1
  |false=>exact qM ⟨H1,I1,q1⟩ _
abbrev TB:=(St->Hp->Prop)->St->Hp->Prop
def PB(X:Cx)(B:Sem PUnit)(tb:TB):Prop:=
 ∀(pins:List (Addr × Obj)) (s:Shared) (σ:St) (H:Hp) (Nx:St->Hp->Prop),Inv X pins σ H s->tb Nx σ H->wpAny (model X.f X.w) X.A B (λ_ s'=>∃σ' H',Inv X pins σ' H' s'/\Nx σ' H') X.j s
def tTB(ts:List TT)(tb:TB):TS:=λD σ H=>lF ts σ H λc H1=>if c=true then tb D.a σ H1 else D.a σ H1
def nM(J:It)(g:TG)(tb:TS)(D:Ends)(σ:St)(H:Hp):Prop:=∃W:Nat->Nat->St->Hp->Prop,(∃m,W 0 m σ H)/\∀i m σ H,W i m σ H ->
 (J.a i H/\D.a σ H)\/(J.c i H/\∃N:St->Hp->Prop,(∀σ' H',N σ' H'->∃m',m'<m/\W (i+1) m' σ' H')/\∀x H',J.b i H x H'->g x σ H' λσ2 H2=>tb {D with a:=N,d:=N,c:=D.a} σ2 H2)
theorem vX{X:Cx}{elt:Expr}{gens:List E9}{csc:Scope}{cpos:Pos}{d:Nat}{tg:Expr}{p:Pos}{ifs:List Expr}{B:Sem PUnit}{acc:Value}{it:Addr}{fp:List Addr}{tn:Nat->Heap->Prop}{J:It}{g:TG}{ts:List TT}{tb:TB}{D:Ends}
 {pins:List (Addr × Obj)} {σ:St} {H:Hp} {s:Shared} {R:Result->Shared->Prop}
 (heq:DH (.ListComp elt gens csc cpos) d (.ref it) acc X.a=(do
  standAt p
  match <-pyNext (.ref it) with
  |none=>pure (.done .next)
  |some v=>
   BD tg (.ref it) v
   assign tg X.a v
   let mut ok:=true
   for c in ifs do
    if ok then ok <-isTrue c X.a (eval c X.a)
   if ok then B
   again (.compLoop (.ListComp elt gens csc cpos) d (.ref it) acc X.a)))
 (hx:X.j=λ_ _=>False) (hc:X.h=true) (T:Turn X.f X.w X.K tg J fp it tn) (hg:PG X tg g) (ht:PTs X ifs ts) (hb:PB X B tb)
 (I:Inv X pins σ H s) (st:tn 0 s.heap) (f:∀b∈fp,uz X pins H b) (h:nM J g (tTB ts tb) D σ H)
 (hR:∀σ' H' s',Inv X pins σ' H' s'->D.a σ' H'->(∀b∈fp,H' b=none)->R (.ok .next) s') :
 codeAny (model X.f X.w) X.A (.compLoop (.ListComp elt gens csc cpos) d (.ref it) acc X.a) R s:=by
 obtain⟨W,⟨m0,w0⟩,turn⟩:=h;have stat:∀{H':Hp},(∀b∈fp,H' b=none)->∀b∈fp,uz X pins H' b:=λhn b hb=>⟨hn b hb,(f b hb).2⟩;have no:∀{α:Type} {t:Sem α} {Q:α->Shared->Prop} {E':Value->Shared->Prop} {s:Shared},wpAny (model X.f X.w) X.A t Q X.j s->wpAny (model X.f X.w) X.A t Q E' s:=λh=>A6 h (λ_ _ q=>q) λ_ _ z=>by rw[hx]at z;exact z.elim
 refine codeAny_loop rfl (λn s'=>∃i σ' H',Inv X pins σ' H' s'/\tn i s'.heap/\(∀b∈fp,H' b=none)/\W i n σ' H') (λn s3 hI=>?_) m0 ⟨0,σ,H,I,st,λb hb=>(f b hb).1,w0⟩;obtain⟨i,σ3,H3,I3,st3,fr3,w3⟩:=hI;show wpAny _ _ ((DH (.ListComp elt gens csc cpos) d (.ref it) acc X.a).onRaise (λx=>do noteFrame x X.a;theTreesLotGoes x)) _ _ s3
 refine wpAny_noted ?_;rw[heq];refine dS (Bp (dS ?_));rcases turn i n σ3 H3 w3 with⟨stop,qn⟩|⟨go,N,hN,step⟩
 . refine no (thn (T.d X rfl rfl rfl hc i pins s3 σ3 H3 X.j I3 (stat fr3) st3 stop) λr s4 ⟨hr,I4⟩=>?_)
   subst hr;exact Ai (hR σ3 H3 s4 I4 qn fr3)
 . refine no (thn (T.e X rfl rfl rfl hc i pins s3 σ3 H3 X.j I3 (stat fr3) st3 go) λr s4 ⟨u,hr,h4⟩=>?_)
   subst hr;refine dS (no (thn h4 λ_ s5 ⟨x,H5,I5,r5,y5,st5,fr5⟩=>?_));have I5':=I5.pinned (stat fr5) (T.c _ _ st5);refine dS (no (thn (hg _ s5 σ3 H5 x u _ I5' r5 (step x H5 y5)) λ_ s6 ⟨σ6,H6,I6,q6⟩=>?_));refine dS (no (thn (ht.run I6 q6) λok s7 ⟨H7,I7,q7⟩=>?_));have again':∀{σ7:St} {H7:Hp} {s7:Shared},Inv X (pins++pW fp s5.heap) σ7 H7 s7->N σ7 H7->∃m,m<n/\∃i σ' H',Inv X pins σ' H' s7/\tn i s7.heap/\(∀b∈fp,H' b=none)/\W i m σ' H':=λ{σ7 H7 s7} I7 n7=>by obtain⟨m',hm,w7⟩:=hN σ7 H7 n7;refine⟨m',hm,i+1,σ7,H7,I7.rE,T.a _ _ _ st5 λb hb o e=>(I7.O (b,o) (Bb _ (Bb _ (vy hb e)))).1,λb hb=>?_,w7⟩;obtain⟨o,e,d⟩:=T.c _ _ st5 b hb;exact(I7.O (b,o) (Bb _ (Bb _ (vy hb e)))).2.1
   cases ok with
   |false=>exact Ai ⟨rfl,again' I7 q7⟩
   |true=>exact dS (no (thn (hb _ s7 σ6 H7 N I7 q7) λ_ s8 ⟨σ8,H8,I8,n8⟩=>Ai ⟨rfl,again' I8 n8⟩))
def tN(acc:Addr)(te:TE):TB:=λNx σ H=>te σ H λy H1=>∃ys,H1 acc=some (.b ys)/\ys.length<Av/\Nx σ (upd H1 acc (.b (ys++[y])))
theorem qf(he:PE X elt te):PB X (do let _ <-call (.builtin "list.append") [.ref acc,<-eval elt X.a]) (tN acc te):=by intro pins s σ H Nx I h;refine dS (thn (he pins s σ H _ I h) λu s1 ⟨y,H1,I1,r1,ys,hl,hz,q⟩=>?_);refine dS (thn (nD pins s1 σ H1 (.c acc) [y] (.ref acc) [u] (λ_ H'=>Nx σ H') I1 rfl (.cons r1 .nil) ⟨acc,ys,y,rfl,rfl,hl,hz,q⟩) λ_ s2 ⟨_,H2,I2,_,q2⟩=>?_);exact Ai ⟨σ,H2,I2,q2⟩
end L2
end
section
namespace L2
open PySem PySem.Spec PyProof.Rows
def uf(fr:List (Option Nat))(wi:TI)(g:TG)(ts:List TT)(tb:Addr->TB)(σ:St)(H:Hp)(Q:VK):Prop:=
 wi σ H λJ H1=>∀acc,H1 acc=none->nM J g (tTB ts (tb acc)) ⟨λ_ H'=>Q (.c acc) H',λ_ _=>False,λ_ _=>False,λ_ _=>False⟩ (ze fr σ) (upd H1 acc (.b []))
section
variable {X:Cx}{pins:List (Addr × Obj)}{σ:St}{H:Hp}{s:Shared}{N:List Str}{csc:Scope}{fr:List (Option Nat)}{elt tg iter:Expr}{ifs:List Expr}{rest:List E9}{cpos:Pos}{wi:TI}{g:TG}{ts:List TT}{tb:Addr->TB}
theorem gD{outer:Env}{Q:Env->Shared->Prop}
 (hQ:∀h':Heap,h'.Ns s.heap.objs.size (λ_=>none)->(∀b o,s.heap.get? b=some o->h'.get? b=some o)->(∀x c,(vO scope s.heap.objs.size).lookup x=some c->h'.IsCell c none) ->
  Q {scope:=scope,locals:=s.heap.objs.size,globals:=globals,cells:=vO scope s.heap.objs.size++cl,qual:=qual,func:=none,code:=outer.code,frame:=outer.frame,builtins:=outer.builtins} {s with heap:=h'}) :
 wpAny M A (Gj scope globals cl [] qual none .none (some outer)) Q E s:=by
 simp only[Gj,Option.isSome_some,if_true];refine dS (wpAny_alloc ?_);refine dS (wpAny_layCells _ (λname kind cells=>by cases hkc:kind == Bk<;>simp[hkc]) _ _ _ _ ?_)
 have ok:=cellsFrom_ok scope.names (s.heap.push {cls:=.type "dict",data:=.dict #[]}) (s.heap.objs.size+1) [] ⟨λ_ _ hm=>(nomatch hm),Fs⟩ (by rw[Bi];exact Ac _)
 rw[Bi]at ok;rw[show ({s with heap:=s.heap.push {cls:=.type "dict",data:=.dict #[]}}:Shared).heap.objs.size=s.heap.objs.size+1 from Bi ..]
 rw[Gk];refine dS (Ai (Ai ?_));rw[tS];exact hQ _ ((Heap.Ns.new s.heap (.type "dict")).keeps (pushCells_keeps _ _)) (λb o e=>pushCells_keeps _ _ b o (nx _ e)) λx c hc=>(ok.empty x c (mem_of_lookup hc)).1
theorem oq{use:Option (Value->Sem Unit)}{QQ:Value->Shared->Prop}{Qv:VK}{B:Value->Env->Sem PUnit}{E:Value->Shared->Prop}(hE:E=X.j)(hc:X.h=true)(S:z0 X N csc fr)(hi:PI X tg iter wi)
 (hturn:∀(it:Addr) (acc:Value) (env:Env),DH (.ListComp elt (⟨tg,iter,ifs,0⟩::rest) csc cpos) 0 (.ref it) acc env=(do
  standAt iter.pos
  match <-pyNext (.ref it) with
  |none=>pure (.done .next)
  |some v=>
   BD tg (.ref it) v
   assign tg env v
   let mut ok:=true
   for c in ifs do
    if ok then ok <-isTrue c env (eval c env)
   if ok then B acc env
   again (.compLoop (.ListComp elt (⟨tg,iter,ifs,0⟩::rest) csc cpos) 0 (.ref it) acc env)))
 (hg:∀C s0 H0 ex,PG (X.comp N csc C s0 H0 ex) tg g) (ht:∀C s0 H0 ex,PTs (X.comp N csc C s0 H0 ex) ifs ts)
 (hb:∀C s0 H0 ex acc,PB (X.comp N csc C s0 H0 ex) (B (.ref acc) (X.comp N csc C s0 H0 ex).a) (tb acc))
 (I:Inv X pins σ H s) (h:uf fr wi g ts tb σ H Qv)
 (hfin:∀acc C H' s',Inv X pins σ H' s'->Qv (.c acc) H'->(∃m,s'.heap.Ns C m)->H' C=none->C≠X.a.locals->X.l.heap.objs.size<=C->(∀x c,X.a.cells.lookup x=some c->c≠C)->(∀p∈X.q++pins,p.1≠C) ->
  compPost (model X.f X.w) X.A X.j use QQ (.ref acc) C (.ok .next) s') :
 wpAny (model X.f X.w) X.A (eval iter X.a) (λx s₁=>wpAny (model X.f X.w) X.A (pyIter x) (λit s₂=>wpAny (model X.f X.w) X.A (newList []) (λacc s₃=>
  wpAny (model X.f X.w) X.A (Gj csc X.a.globals (u0 X.a.cells csc.names []) [] X.a.qual none .none (some X.a)) (λcenv s₄=>
   codeAny (model X.f X.w) X.A (.compStart (.ListComp elt (⟨tg,iter,ifs,0⟩::rest) csc cpos) 0 it acc {cenv with scope:=relabel csc X.a}) (compPost (model X.f X.w) X.A E use QQ acc cenv.locals) s₄) E s₃) E s₂) E s₁) E s:=by
 subst hE;refine thn (hi pins s σ H _ I h) λv s1 h1=>thn h1 λitv s2 h2=>?_;obtain⟨it,fp,tn,J,H2,e,I2,T,st2,f2,q2⟩:=h2;subst e;refine Bg ?_;have hfr:H2 s2.heap.objs.size=none:=I2.j.fresh (Ac _);have q3:=q2 s2.heap.objs.size hfr;generalize hs3:({s2 with heap:=s2.heap.push {cls:=.type "list",dict:=none,data:=.seq ([]:List Value).toArray}}:Shared)=s3
 have k23:∀b u,s2.heap.get? b=some u->s3.heap.get? b=some u:=λb u e=>by rw[<-hs3];exact nx _ e
 have new3:s3.heap.get? s2.heap.objs.size=some {cls:=.type "list",dict:=none,data:=.seq ([]:List Value).toArray}:=by rw[<-hs3];exact AB _ rfl
 have I3:Inv X pins σ (upd H2 s2.heap.objs.size (.b [])) s3:=by rw[<-hs3];exact I2.laid (t':=s2.toks) (λb u e=>nx _ e) (Ac _) ⟨A9 _,[],0,.nil,AB _ rfl⟩
 have lt2:∀b∈fp,b<s2.heap.objs.size:=λb hb=>by obtain⟨o,e,_⟩:=T.c _ _ st2 b hb;exact Ak e
 have hsz:s3.heap.objs.size=s2.heap.objs.size+1:=by rw[<-hs3];exact Bi ..
 have f3:∀b∈fp,uz X pins (upd H2 s2.heap.objs.size (.b [])) b:=λb hb=>⟨by rw[zL (AE (lt2 b hb))];exact(f2 b hb).1,(f2 b hb).2⟩
 have lt3:∀b∈fp,b<s3.heap.objs.size:=λb hb=>by rw[hsz];exact CC (lt2 b hb)
 refine gD λh4 hns4' k34 own4=>?_;have I4:=jh (tk:=s3.toks) I3 S f3 lt3 hns4' k34 own4;have st4:tn 0 h4:=T.a _ _ _ st2 λb hb o e=>k34 b o (k23 b o e);have f4:∀b∈fp,uz (X.comp N csc s3.heap.objs.size s3 (upd H2 s2.heap.objs.size (.b [])) fp) [] (upd H2 s2.heap.objs.size (.b [])) b:=λb hb=>by have ok:=I4.B;obtain⟨g1,g2⟩:=ok.G b hb;exact⟨(f3 b hb).1,g1,ok.l b hb,.inl hb,g2,λp hp=>by simp at hp⟩
 have fin:∀σ' H' s',Inv (X.comp N csc s3.heap.objs.size s3 (upd H2 s2.heap.objs.size (.b [])) fp) [] σ' H' s'->Qv (.c s2.heap.objs.size) H'->(∀b∈fp,H' b=none) ->
  compPost (model X.f X.w) X.A X.j use QQ (.ref s2.heap.objs.size) s3.heap.objs.size (.ok .next) s':=λσ' H' s' I' q' _=>by
  have IX:Inv X pins σ H' s':=I3.RJ I'.R I'.C I'.j I'.D λb hb=>by obtain⟨g0,g1,g2,g3,g4,g5⟩:=f3 b hb;exact⟨g3,g1,g4,g5⟩
  obtain⟨m,hn,_⟩:=I'.M;refine hfin _ _ H' s' IX q' ⟨m,hn⟩ I'.G (DA I3.lt) I3.sz (λx c e=>?_) λp hp=>?_
  . obtain⟨w',z⟩:=I3.F x c e
    exact AE z.lt
  . exact AE (Ak (I3.O p hp).1)
 have loop:codeAny (model X.f X.w) X.A (.compLoop (.ListComp elt (⟨tg,iter,ifs,0⟩::rest) csc cpos) 0 (.ref it) (.ref s2.heap.objs.size) (compEnvC csc (vO csc s3.heap.objs.size++u0 X.a.cells csc.names []) s3.heap.objs.size X.a))
  (compPost (model X.f X.w) X.A X.j use QQ (.ref s2.heap.objs.size) s3.heap.objs.size) {s3 with heap:=h4}:=
  vX (X:=X.comp N csc s3.heap.objs.size s3 (upd H2 s2.heap.objs.size (.b [])) fp) (hturn it _ _) rfl hc T (hg _ _ _ _) (ht _ _ _ _) (hb _ _ _ _ _) I4 st4 f4 q3 fin
 exact codeAny_compStart_list loop (T.f X.A 0 _ _ _ st4 loop)
theorem kU{B:Value->Env->Sem PUnit}(hc:X.h=true)(S:z0 X N csc fr)(hi:PI X tg iter wi)
 (hturn:∀(it:Addr) (acc:Value) (env:Env),DH (.ListComp elt (⟨tg,iter,ifs,0⟩::rest) csc cpos) 0 (.ref it) acc env=(do
  standAt iter.pos
  match <-pyNext (.ref it) with
  |none=>pure (.done .next)
  |some v=>
   BD tg (.ref it) v
   assign tg env v
   let mut ok:=true
   for c in ifs do
    if ok then ok <-isTrue c env (eval c env)
   if ok then B acc env
   again (.compLoop (.ListComp elt (⟨tg,iter,ifs,0⟩::rest) csc cpos) 0 (.ref it) acc env)))
 (hg:∀C s0 H0 ex,PG (X.comp N csc C s0 H0 ex) tg g) (ht:∀C s0 H0 ex,PTs (X.comp N csc C s0 H0 ex) ifs ts)
 (hb:∀C s0 H0 ex acc,PB (X.comp N csc C s0 H0 ex) (B (.ref acc) (X.comp N csc C s0 H0 ex).a) (tb acc))
 (hs:∀x,A2 iter X.a x=pure x:=by intro _;rfl) :
 PE X (.ListComp elt (⟨tg,iter,ifs,0⟩::rest) csc cpos) (uf fr wi g ts tb):=by
 intro pins s σ H Q I h;rw[eval_ListComp];refine FN (use:=none) rfl hs (tJ (S.cells I.B)) S.b S.a ?_;refine oq (use:=none) rfl hc S hi hturn hg ht hb I h λacc C H' s' I' q' hn hC hL h0 hcl hpn=>?_;obtain⟨m,hn⟩:=hn;refine⟨m,hn,λh' sb=>⟨.c acc,H',?_,rfl,q'⟩⟩;exact I'.turned (t':=s'.toks) (λb o hb e=>(sb.2 b hb).trans e) hC (Bu (Bu hL)) (.inr h0) hcl hpn
theorem ke{B:Value->Env->Sem PUnit}{y:Str}{py spos:Pos}{i:Nat}(hc:X.h=true)(S:z0 X N csc fr)(hi:PI X tg iter wi)
 (hturn:∀(it:Addr) (acc:Value) (env:Env),DH (.ListComp elt (⟨tg,iter,ifs,0⟩::rest) csc cpos) 0 (.ref it) acc env=(do
  standAt iter.pos
  match <-pyNext (.ref it) with
  |none=>pure (.done .next)
  |some v=>
   BD tg (.ref it) v
   assign tg env v
   let mut ok:=true
   for c in ifs do
    if ok then ok <-isTrue c env (eval c env)
   if ok then B acc env
   again (.compLoop (.ListComp elt (⟨tg,iter,ifs,0⟩::rest) csc cpos) 0 (.ref it) acc env)))
 (hg:∀C s0 H0 ex,PG (X.comp N csc C s0 H0 ex) tg g) (ht:∀C s0 H0 ex,PTs (X.comp N csc C s0 H0 ex) ifs ts)
 (hb:∀C s0 H0 ex acc,PB (X.comp N csc C s0 H0 ex) (B (.ref acc) (X.comp N csc C s0 H0 ex).a) (tb acc))
 (hN:X.N.Nodup) (hy:X.N[i]?=some y) (hx:Loc X.a.scope y)
 (hsw:Eh (.ListComp elt (⟨tg,iter,ifs,0⟩::rest) csc cpos) (some (.Name y py)) spos.line X.a=pure true:=by rfl)
 (hf:X.n y=true\/X.a.scope.names.lookup y=some .local:=by first|exact .inl rfl|exact .inr rfl|assumption)
 (hs:∀x,A2 iter X.a x=pure x:=by intro _;rfl) :
 PS X (.Assign [.Name y py] (.ListComp elt (⟨tg,iter,ifs,0⟩::rest) csc cpos) spos) (tE (uf fr wi g ts tb) (wM i)):=by
 intro pins s σ H D I h;rw[exec_Assign_Name_used _ _ _ _ hsw];refine dS (Bp (dS ?_));show wpAny _ X.A (do let _ <-comprehension (.ListComp elt (⟨tg,iter,ifs,0⟩::rest) csc cpos) csc X.a _ (newList []) false (eval iter X.a) (some (assign (.Name y py) X.a))) _ _ s
 refine dS (A6 (FN (use:=some (assign (.Name y py) X.a)) (Q:=λ_ s'=>SP X pins D .next s') rfl hs (tJ (S.cells I.B)) S.b S.a ?_) (λ_ s' hq=>Ai (Ai hq)) λ_ _ e=>e);refine oq (use:=some (assign (.Name y py) X.a)) rfl hc S hi hturn hg ht hb I h λacc C H' s' I' q' hn hC hL h0 hcl hpn=>?_;obtain⟨m,hn⟩:=hn;show wpAny _ X.A (assign (.Name y py) X.a (.ref acc)) _ _ _;refine wpAny_assign_Name (nU I' hN hy hx (show RelV (.c acc) (.ref acc) from rfl) (λs2 I2 ⟨a,sb,ha⟩=>?_) hf);have haC:C≠a:=by
  rcases ha with ha|ha
  . rw[ha];exact hL
  . exact Bu (hcl y a ha)
 refine⟨m,hn.sameBut sb haC,λh' sb'=>⟨_,H',?_,q'⟩⟩;exact I2.turned (t':=s2.toks) (λb o hb e=>(sb'.2 b hb).trans e) hC hL (.inr h0) hcl hpn
theorem Vm(elt tg iter:Expr)(ifs:List Expr)(csc:Scope)(cpos:Pos)(it:Addr)(acc:Value)(env:Env) :
 DH (.ListComp elt [⟨tg,iter,ifs,0⟩] csc cpos) 0 (.ref it) acc env=(do
  standAt iter.pos
  match <-pyNext (.ref it) with
  |none=>pure (.done .next)
  |some v=>
   BD tg (.ref it) v
   assign tg env v
   let mut ok:=true
   for c in ifs do
    if ok then ok <-isTrue c env (eval c env)
   if ok then (do let _ <-call (.builtin "list.append") [acc,<-eval elt env])
   again (.compLoop (.ListComp elt [⟨tg,iter,ifs,0⟩] csc cpos) 0 (.ref it) acc env)):=by rfl
theorem Vn(elt tg iter:Expr)(ifs:List Expr)(tg2 iter2:Expr)(ifs2:List Expr)(csc:Scope)(cpos:Pos)(it:Addr)(acc:Value)(env:Env) :
 DH (.ListComp elt [⟨tg,iter,ifs,0⟩,⟨tg2,iter2,ifs2,0⟩] csc cpos) 0 (.ref it) acc env=(do
  standAt iter.pos
  match <-pyNext (.ref it) with
  |none=>pure (.done .next)
  |some v=>
   BD tg (.ref it) v
   assign tg env v
   let mut ok:=true
   for c in ifs do
    if ok then ok <-isTrue c env (eval c env)
   if ok then (do
    let x <-eval iter2 env
    standAt iter2.pos
    let x <-A2 iter2 env x;let _ <-runOwn (.compStart (.ListComp elt [⟨tg,iter,ifs,0⟩,⟨tg2,iter2,ifs2,0⟩] csc cpos) 1 (<-holding [x] (pyIter x)) acc env) env)
   again (.compLoop (.ListComp elt [⟨tg,iter,ifs,0⟩,⟨tg2,iter2,ifs2,0⟩] csc cpos) 0 (.ref it) acc env)):=by
 have e:DH (.ListComp elt [⟨tg,iter,ifs,0⟩,⟨tg2,iter2,ifs2,0⟩] csc cpos) 0 (.ref it) acc env=(do
  standAt iter.pos
  match <-pyNext (.ref it) with
  |none=>pure (.done .next)
  |some v=>
   BD tg (.ref it) v
   assign tg env v
   let mut ok:=true
   for c in ifs do
    if ok then ok <-isTrue c env (eval c env)
   if ok then
    let x <-eval iter2 env
    standAt iter2.pos
    let x <-A2 iter2 env x;let _ <-runOwn (.compStart (.ListComp elt [⟨tg,iter,ifs,0⟩,⟨tg2,iter2,ifs2,0⟩] csc cpos) 1 (<-holding [x] (pyIter x)) acc env) env
   again (.compLoop (.ListComp elt [⟨tg,iter,ifs,0⟩,⟨tg2,iter2,ifs2,0⟩] csc cpos) 0 (.ref it) acc env)):=by rfl
 rw[e];simp only[bind_assoc,DG]
theorem Sl(elt tg iter:Expr)(ifs:List Expr)(tg2 iter2:Expr)(ifs2:List Expr)(csc:Scope)(cpos:Pos)(it:Addr)(acc:Value)(env:Env) :
 DH (.ListComp elt [⟨tg,iter,ifs,0⟩,⟨tg2,iter2,ifs2,0⟩] csc cpos) 1 (.ref it) acc env=(do
  standAt iter2.pos
  match <-pyNext (.ref it) with
  |none=>pure (.done .next)
  |some v=>
   BD tg2 (.ref it) v
   assign tg2 env v
   let mut ok:=true
   for c in ifs2 do
    if ok then ok <-isTrue c env (eval c env)
   if ok then (do let _ <-call (.builtin "list.append") [acc,<-eval elt env])
   again (.compLoop (.ListComp elt [⟨tg,iter,ifs,0⟩,⟨tg2,iter2,ifs2,0⟩] csc cpos) 1 (.ref it) acc env)):=by rfl
end
end L2
end
section
namespace L2
open PySem PySem.Spec PyProof.Rows
theorem jg
 (h0:codeAny (model prog w) A (.compLoop (.ListComp elt [⟨tg,iter,ifs,0⟩,⟨tg2,iter2,ifs2,0⟩] csc cpos) 1 it acc env) R s)
 (h:wpAny (model prog w) A (pyIter it) (λit' s'=>codeAny (model prog w) A (.compLoop (.ListComp elt [⟨tg,iter,ifs,0⟩,⟨tg2,iter2,ifs2,0⟩] csc cpos) 1 it' acc env) R s')
  (notedBy (model prog w) A env λx s'=>R (.error x) s') s) :
 codeAny (model prog w) A (.compStart (.ListComp elt [⟨tg,iter,ifs,0⟩,⟨tg2,iter2,ifs2,0⟩] csc cpos) 1 it acc env) R s:=by
 refine codeAny_of_tree ?_;show wpAny _ _ ((compStart (.ListComp elt [⟨tg,iter,ifs,0⟩,⟨tg2,iter2,ifs2,0⟩] csc cpos) 1 it acc env).onRaise (λx=>do noteFrame x env;standAt theWindowsPlace)) _ _ s
 refine wpAny_notedAt ?_;unfold compStart;show wpAny _ _ (ask >>= _) _ _ s;refine dS (wpAny_askSetting (wpAny_ite ?_));split
 . first
    |exact dS (Ai (Ai (Ad rfl h0)))
    |exact Ai (Ad rfl h0)
 . first
    |exact dS (DO (dS (Bp (dS (A6 h (λit' s' h'=>Ai (Ad rfl h')) λ_ _ x=>x)))))
    |(refine dS (DO ?_);show wpAny _ _ (standAt iter2.pos >>= _) _ _ s;exact dS (Bp (dS (A6 h (λit' s' h'=>Ai (Ad rfl h')) λ_ _ x=>x))))
def pj(wi:TI)(g:TG)(ts:List TT)(tb:TB):TB:=λNx σ H=>wi σ H λJ H1=>nM J g (tTB ts tb) ⟨Nx,λ_ _=>False,λ_ _=>False,λ_ _=>False⟩ σ H1
theorem kR
 (hx:X.j=λ_ _=>False) (hc:X.h=true) (hi:PI X tg2 iter2 wi) (hg:PG X tg2 g) (ht:PTs X ifs2 ts) (hb:PB X (do let _ <-call (.builtin "list.append") [.ref acc,<-eval elt X.a]) tb)
 (hs:∀x,A2 iter2 X.a x=pure x:=by intro _;rfl) :
 PB X (do
       let x <-eval iter2 X.a
       standAt iter2.pos
       let x <-A2 iter2 X.a x;let _ <-runOwn (.compStart (.ListComp elt [⟨tg,iter,ifs,0⟩,⟨tg2,iter2,ifs2,0⟩] csc cpos) 1 (<-holding [x] (pyIter x)) (.ref acc) X.a) X.a) (pj wi g ts tb):=by
 intro pins s σ H Nx I h;refine dS (thn (hi pins s σ H _ I h) λv s1 h1=>dS (Bp (dS (wpAny_of_eq (hs v) (dS (BX (thn h1 λitv s2 h2=>?_)))))));obtain⟨it,fp,tn,J,H2,e,I2,T,st2,f2,q2⟩:=h2;subst e;refine dS (wpAny_runOwn ?_);have loop:codeAny (model X.f X.w) X.A (.compLoop (.ListComp elt [⟨tg,iter,ifs,0⟩,⟨tg2,iter2,ifs2,0⟩] csc cpos) 1 (.ref it) (.ref acc) X.a)
  (λr s'=>match r with|.ok f=>wpAny (model X.f X.w) X.A (pure PUnit.unit:Sem PUnit) (λ_ s'=>∃σ' H',Inv X pins σ' H' s'/\Nx σ' H') X.j s'|.error e=>FD (model X.f X.w) X.A X.a X.j e s') s2:=
  vX (Sl ..) hx hc T hg ht hb I2 st2 f2 q2 λσ' H' s' I' n' _=>Ai ⟨σ',H',I',n'⟩
 exact jg loop (T.f X.A 0 _ _ _ st2 loop)
section
variable {X:Cx}{N:List Str}{csc:Scope}{fr:List (Option Nat)}{elt tg iter tg2 iter2:Expr}{ifs ifs2:List Expr}{cpos:Pos}{wi wi2:TI}{g g2:TG}{ts ts2:List TT}{te:TE}
theorem g9(hc:X.h=true)(S:z0 X N csc fr)(hi:PI X tg iter wi)(hg:∀C s0 H0 ex,PG (X.comp N csc C s0 H0 ex) tg g)(ht:∀C s0 H0 ex,PTs (X.comp N csc C s0 H0 ex) ifs ts)
 (he:∀C s0 H0 ex,PE (X.comp N csc C s0 H0 ex) elt te) (hs:∀x,A2 iter X.a x=pure x:=by intro _;rfl) :
 PE X (.ListComp elt [⟨tg,iter,ifs,0⟩] csc cpos) (uf fr wi g ts λacc=>tN acc te):=
 kU hc S hi (B:=λacc env=>(do let _ <-call (.builtin "list.append") [acc,<-eval elt env])) (Vm elt tg iter ifs csc cpos) hg ht (λC s0 H0 ex acc=>qf (he C s0 H0 ex)) hs
theorem WR(hc:X.h=true)(S:z0 X N csc fr)(hi:PI X tg iter wi)(hg:∀C s0 H0 ex,PG (X.comp N csc C s0 H0 ex) tg g)(ht:∀C s0 H0 ex,PTs (X.comp N csc C s0 H0 ex) ifs ts)
 (he:∀C s0 H0 ex,PE (X.comp N csc C s0 H0 ex) elt te) (hN:X.N.Nodup) (hy:X.N[i]?=some y) (hx:Loc X.a.scope y)
 (hsw:Eh (.ListComp elt [⟨tg,iter,ifs,0⟩] csc cpos) (some (.Name y py)) spos.line X.a=pure true:=by rfl)
 (hf:X.n y=true\/X.a.scope.names.lookup y=some .local:=by first|exact .inl rfl|exact .inr rfl|assumption)
 (hs:∀x,A2 iter X.a x=pure x:=by intro _;rfl) :
 PS X (.Assign [.Name y py] (.ListComp elt [⟨tg,iter,ifs,0⟩] csc cpos) spos) (tE (uf fr wi g ts λacc=>tN acc te) (wM i)):=
 ke hc S hi (B:=λacc env=>(do let _ <-call (.builtin "list.append") [acc,<-eval elt env])) (Vm elt tg iter ifs csc cpos) hg ht (λC s0 H0 ex acc=>qf (he C s0 H0 ex)) hN hy hx hsw hf hs
theorem kT(hc:X.h=true)(S:z0 X N csc fr)(hi:PI X tg iter wi)(hg:∀C s0 H0 ex,PG (X.comp N csc C s0 H0 ex) tg g)(ht:∀C s0 H0 ex,PTs (X.comp N csc C s0 H0 ex) ifs ts)
 (hi2:∀C s0 H0 ex,PI (X.comp N csc C s0 H0 ex) tg2 iter2 wi2) (hg2:∀C s0 H0 ex,PG (X.comp N csc C s0 H0 ex) tg2 g2) (ht2:∀C s0 H0 ex,PTs (X.comp N csc C s0 H0 ex) ifs2 ts2)
 (he:∀C s0 H0 ex,PE (X.comp N csc C s0 H0 ex) elt te) (hs:∀x,A2 iter X.a x=pure x:=by intro _;rfl)
 (hs2:∀env x,A2 iter2 env x=pure x:=by intro _ _;rfl) :
 PE X (.ListComp elt [⟨tg,iter,ifs,0⟩,⟨tg2,iter2,ifs2,0⟩] csc cpos) (uf fr wi g ts λacc=>pj wi2 g2 ts2 (tN acc te)):=
 kU hc S hi (B:=λacc env=>(do
         let x <-eval iter2 env
         standAt iter2.pos
         let x <-A2 iter2 env x;let _ <-runOwn (.compStart (.ListComp elt [⟨tg,iter,ifs,0⟩,⟨tg2,iter2,ifs2,0⟩] csc cpos) 1 (<-holding [x] (pyIter x)) acc env) env)) (Vn elt tg iter ifs tg2 iter2 ifs2 csc cpos) hg ht
  (λC s0 H0 ex acc=>kR rfl hc (hi2 C s0 H0 ex) (hg2 C s0 H0 ex) (ht2 C s0 H0 ex) (qf (he C s0 H0 ex)) (hs2 _)) hs
end
end L2
end
section
namespace L2
open PySem PySem.Spec PyProof.Rows
section
variable {X:Cx}
theorem qt:yY X (.builtin "isinstance") (λxs H Q=>∃x c t b,xs=[x,.k c]/\sG X.K H x (.type t)/\Gf X.K (.type t) (.type c)=some b/\Q (.f b) H):=by intro pins s σ H xs us Q I r h;obtain⟨x,c,t,b,rfl,ty,e,q⟩:=h;obtain⟨u,w',rfl,rx,rc⟩:=vals2 r;cases (show w'=Fx c from rc);exact fu I rx ty e λtk=>⟨.f b,H,I.tok _,rfl,q⟩
end
inductive Kd where
 |e|i|b|g|d|h|f
 deriving DecidableEq
noncomputable def Kd.nm:Kd->String
 |.e=>"NoneType"|.i=>"bool"|.b=>"int"|.g=>"str"|.d=>"list"|.h=>"tuple"|.f=>"dict"
noncomputable def Kd.sub(a c:Kd):Bool:=decide (a=c)||(decide (a=.i)&&decide (c=.b))
theorem U2 K(a c:Kd)(hc:c≠.e):Gf K (.type a.nm) (.type c.nm)=some (a.sub c):=by
 cases c with
 |e=>exact absurd rfl hc
 |i=>cases a<;>rfl
 |b=>cases a<;>rfl
 |g=>cases a<;>rfl
 |d=>cases a<;>rfl
 |h=>cases a<;>rfl
 |f=>cases a<;>rfl
section
variable {X:Cx}
theorem all_range:∀(bs:List Bool),((Aq bs.length).all λi=>bs.getD i false)=bs.all id:=by
 intro bs;induction bs with
 |nil=>rfl
 |cons b bs ih=>
  rw[AK,Cp,BB,BB,List.all_map];exact congrArg (b&&·) (Gw (by congr 1) ih)
theorem Vals.bools:∀{bs:List Bool} {us},Vals (bs.map V.f) us->us=bs.map Cm
 |[],us,r=>by cases r;rfl
 |b::bs,us,r=>by
  rw[AJ]at r;cases r with
  |cons r1 r2=>
   cases (show _=Cm b from r1);rw[Vals.bools r2,AJ]
theorem qp(hc:X.h=true):yY X (.builtin "all") (λxs H Q=>∃(a:Addr) (bs:List Bool),xs=[.c a]/\SqL X.K H a (bs.map V.f)/\Q (.f (bs.all id)) H):=by
 intro pins s σ H xs us Q I r h;obtain⟨a,bs,rfl,ha,q⟩:=h;obtain⟨u,rfl,ru⟩:=vals1 r;cases ru;obtain⟨its,rv,pl,hz⟩:=I.list ha;have hits:=rv.bools;have alt:a<s.heap.objs.size:=by obtain⟨o,ho,_⟩:=pl.isList;exact Ak ho
 refine call_all_walk (C8 pl.isList ?_);refine⟨s.heap.objs.size,_,_,_,_,_,λi=>bs.getD i false,rfl,Gx (A:=X.A.in1) (I.B.i hc) s.heap.objs.size a (AE alt) its.toArray,⟨⟨_,AB _ rfl,rfl,rfl⟩,?_⟩,?_,λh' tk hk=>?_⟩
 . obtain⟨o,ho,hc',n,hd⟩:=pl.isList
   exact⟨o,nx _ ho,hc',n,hd⟩
 . intro i v s' Q' E' hv hq
   have hv':(bs.map Cm)[i]?=some v:=by rw[<-hits];simpa using hv
   rw[AG]at hv';cases hb:bs[i]? with
   |none=>rw[hb]at hv';cases hv'
   |some b=>
    rw[hb]at hv';have:v=Cm b:=(Aw hv').symm;subst this;have e:bs.getD i false=b:=by rw[Al,hb];rfl
    have hq':Q' (bs.getD i false) s':=hq;rw[e]at hq';exact Br hq'
 . have e:(Aq its.toArray.size).all (λi=>bs.getD i false)=bs.all id:=by rw[Ae,hits,Aa];exact all_range bs
   rw[e];refine⟨.f (bs.all id),H,I.kept λb o ho=>hk b o ?_ (nx _ ho),rfl,q⟩;simpa using AE (Ak ho)
end
end L2
end
section
namespace L2
open PySem PySem.Spec PyProof.Rows
theorem Z6(h:H p=none)o:wq H (upd H p o):=λb u q=>by rw[zL (zU q h)];exact q
def qH(H:Hp)(ys:List V)(Q:VK):Prop:=∀p H',wq H H'->H' p=some (.c ys)->Q (.c p) H'
theorem qH.new(g:qH H ys Q):∀p,H p=none->Q (.c p) (upd H p (.c ys)):=λp hp=>g p _ (Z6 hp _) zN
def Px:V->Option Int->Option Int->Hp->VK->Prop:=λx lo hi H Q=>∃a xs,x=.c a/\H a=some (.c xs)/\qH H (oI xs lo hi) Q
def Qk:R2:=λx y H Q=>∃a b xs ys,x=.c a/\y=.c b/\H a=some (.c xs)/\H b=some (.c ys)/\xs.length+ys.length<=Av/\qH H (xs++ys) Q
def Qp:R2:=λx y H Q=>∃a k xs,x=.c a/\y=.d k/\H a=some (.c xs)/\2<=k/\k<=1000/\xs≠[]/\xs.length<=1000/\qH H (Ap k.toNat xs).flatten Q
section
variable {X:Cx}
theorem fg{lo hi}(ht:IsTup s.heap t items)(hs:s.heap.IsSliceOf sl vl vu .none)(pl:IsPart vl lo)(pu:IsPart vu hi)
 (h0:HT.sIx items.size 0 lo=0) (h1:HT.sIx items.size items.size hi=items.size) (h:Q (.ref t) s):wpAny (model prog w) A (getItem (.ref t) (.ref sl)) Q E s:=by
 obtain⟨os,hos,hcs,hds⟩:=id hs;have hTs:s.TypeIs (.ref sl) "slice":=⟨os,hos,hcs⟩;unfold getItem
 try with_reducible refine BX ?_
 first|refine dS (Ai ?_)|skip
 refine dS (Fp ht.typeIs (by decide) ?_)
 refine dS (Cj (name:=De "__getitem__") ht.typeIs A0
  (Dj A0 ht.typeIs EL ?_ (EV _ _)))
 show wpAny _ _ (Dp (.ref t) >>= _) _ _ s;refine dS (D7 ht ?_);refine dS (Ez hTs ?_);rw[if_pos (by decide)]
 refine dS (HT.vh hs pl pu ?_);have hyes:(((HT.sIx items.size 0 lo:Nat):Int) == 0&&(1:Int) == 1&&(HT.sIx items.size items.size hi-HT.sIx items.size 0 lo) == items.size)=true:=by rw[h0,h1];simp
 show wpAny _ _ (if (((HT.sIx items.size 0 lo:Nat):Int) == 0&&(1:Int) == 1&&(HT.sIx items.size items.size hi-HT.sIx items.size 0 lo) == items.size)=true then _ else _) _ _ s
 rw[if_pos hyes];unfold Fb;refine dS (dS (Ez ht.typeIs (Ai ?_)));rw[if_pos (by decide)]
 exact dS (DO (Ai ⟨_,rfl,Ai h⟩))
theorem Wd:SlR X Px:=by
 intro pins s σ H x v vl vu lo hi sl Q I rx hs pl pu h;obtain⟨a,xs,rfl,hx,g⟩:=h;by_cases hw:HT.sIx xs.length 0 lo=0/\HT.sIx xs.length xs.length hi=xs.length
 . cases rx
   obtain⟨its,r,ht,hz⟩:=I.tuple (.inl (.inl hx));have hlen:its.toArray.size=xs.length:=by rw[Ae];exact r.length.symm
   refine⟨"tuple",_,A0.lookup,ht.typeIs,?_⟩;refine fg ht hs pl pu (by rw[hlen];exact hw.1) (by rw[hlen];exact hw.2) ⟨.c a,H,I,rfl,g a H (wq.refl H) ?_⟩
   rw[hx];unfold oI;rw[hw.1,hw.2,EO,Nat.sub_zero,List.take_length]
 . exact r0 pins s σ H (.c a) v vl vu lo hi sl Q I rx hs pl pu ⟨a,xs,rfl,.inl (.inl hx),hw,g.new⟩
theorem ZF:OpR X (By .Add) Qk:=by
 intro pins s σ H x y v u Q I rx ry h;obtain⟨a,b,xs,ys,rfl,rfl,ha,hb,hz,g⟩:=h;by_cases hx:xs=[]
 . cases rx
   cases ry;subst hx;obtain⟨its,r1,p1,_⟩:=I.tuple (.inl (.inl ha));obtain⟨its2,r2,p2,_⟩:=I.tuple (.inl (.inl hb));cases r1;obtain⟨⟨cls,dd,data,sl⟩,ho,hc,n,hd⟩:=id p1;obtain⟨⟨cls2,dd2,data2,sl2⟩,ho2,hc2,n2,hd2⟩:=id p2;simp only at hc hd hc2 hd2;subst hc hd hc2 hd2;exact concat_meets ⟨_,ho,rfl⟩ ⟨_,ho2,rfl⟩ FG GB D2 DV (DE _ _)
    (tuple_addW0 a b #[] its2.toArray n n2 dd dd2 sl sl2 rfl) ⟨ho,ho2,⟨.c b,H,I,rfl,g b H (wq.refl H) hb⟩⟩
 . refine Xy pins s σ H (.c a) (.c b) v u Q I rx ry ⟨a,b,xs,ys,rfl,rfl,.inl (.inl ha),.inl (.inl hb),hx,hz,λe=>?_,λ_=>g.new⟩
   subst e;rw[A8]at g;exact g a H (wq.refl H) ha
theorem wG:fillsNumberSlot (.type "tuple") "mul"=pure false:=
 PySem.fillsNumberSlot_seq (id:="tuple.__mul__") (r:=some (.builtin "tuple.__rmul__")) Dk.lookup (by decide +kernel) F.slot_tuple_rmul.lookup (by decide +kernel)
theorem uC:seqRepeat? (.type "tuple")=pure (some (.builtin "tuple.__mul__")):=by
 unfold seqRepeat?;rw[PySem.seqSlot_of (T:="tuple") (name:="__mul__") (id:="tuple.__mul__") Dk.lookup (by decide +kernel),PySem.seqSlot_of (T:="tuple") (name:="__rmul__") (id:="tuple.__rmul__") F.slot_tuple_rmul.lookup (by decide +kernel)]
 rfl
theorem w8 a t l items n dd sl :
 Meets (Builtin.«int.__rmul__» ⟨[.int a t,.ref l],[]⟩) (λ_ R s=>s.heap.get? l=some {cls:=.type "tuple",dict:=dd,data:=.seq items n,slots:=sl}/\R (.ok (.ret Value.notImplemented)) s):=
 .of_wp λprog w A R s h=>by obtain⟨hp,g,d,tk,os⟩:=s;obtain⟨hl,h⟩:=h;wp_walk;exact⟨_,rfl,h⟩
theorem hU l items n x u dd sl(h1:2<=x)(h2:x<=1000)(h3:¬items.isEmpty=true)(h4:items.size<=1000) :
 Meets (Builtin.«tuple.__mul__» ⟨[.ref l,.int x u],[]⟩) (λ_ R s=>s.heap.get? l=some {cls:=.type "tuple",dict:=dd,data:=.seq items n,slots:=sl} /\
  R (.ok (.ret (A5 s.heap.objs.size))) {s with heap:=s.heap.push {cls:=Fx "tuple",data:=Data.seq (DQ (λx1 x2=>x1++x2) #[] (Ap x.toNat items))},toks:=s.toks}):=
 .of_wp λprog w A R s h=>by
  obtain⟨hp,g,d,tk,os⟩:=s;obtain⟨hl,h⟩:=h;have f1:=FO;have c1:¬((decide (x < -(2 ^ 63))||decide (x ≥ 2 ^ 63))=true):=by simp;omega
  have c2:¬((items.isEmpty||x == 1)=true):=by simp at h3 ⊢;exact⟨h3,by omega⟩
  have c3:¬((decide (x<=0)||items.isEmpty)=true):=by simp at h3 ⊢;exact⟨by omega,h3⟩
  have hprod:(items.size:Int)*x<=1000*1000:=Int.mul_le_mul (by omega) h2 (by omega) (by omega)
  have c4:¬((items.size:Int)*x > (2 ^ 63-1)/8):=by omega
  have hL:Av=16777216:=AV;have c5:¬(Dq ((items.size:Int)*x)=true):=by unfold Dq;rw[hL];simp only[decide_eq_true_eq];omega
  have hn:(DQ (λx1 x2=>x1++x2) #[] (Ap x.toNat items)).size=x.toNat*items.size:=by have e:=foldl_rep items.toList x.toNat [];simp only[Array.toArray_toList,Cw]at e;rw[e,Ae,len_rep,CU]
  have htake:sizeOk (.seq (DQ (λx1 x2=>x1++x2) #[] (Ap x.toNat items))):=by
   show (DQ (λx1 x2=>x1++x2) #[] (Ap x.toNat items)).size<=Av;rw[hn,hL];have:x.toNat*items.size<=1000*1000:=Gm (by omega) h4
   omega
  wp_walk using BN hl
  rw[if_neg c1];refine dS (D7 (items:=items) ⟨_,hl,rfl,n,rfl⟩ ?_);rw[if_neg c2];show wpAny _ _ (if (decide (x<=0)||items.isEmpty)=true then _ else _) _ _ _
  rw[if_neg c3];show wpAny _ _ (if (items.size:Int)*x > (2 ^ 63-1)/8 then _ else _) _ _ _
  rw[if_neg c4];show wpAny _ _ (if Dq ((items.size:Int)*x)=true then _ else _) _ _ _
  rw[if_neg c5];exact dS (m:=Bq _) (Bg (Ai ⟨_,rfl,h⟩) htake)
theorem X5:OpR X (By .Mult) Qp:=by
 intro pins s σ H x y v u Q I rx ry h;obtain⟨a,k,xs,rfl,rfl,ha,h1,h2,h3,h4,g⟩:=h;cases rx;obtain⟨t,rfl⟩:=ry;obtain⟨its,r,p1,_⟩:=I.tuple (.inl (.inl ha));obtain⟨⟨cls,dd,data,sl⟩,ho,hc,n,hd⟩:=id p1;simp only at hc hd;subst hc hd;have hl:=r.length;have hne:¬its.toArray.isEmpty=true:=by simp;intro e;exact h3 (r.sW.mp e)
 refine CH (T:="tuple") (U:="int") (by decide) ⟨_,ho,rfl⟩ (λs'=>C0 s' k t) wG EB Ce uC Ea.lookup
  (Cc Ce (C0 s k t) Eb (DY _ _) (w8 k t a its.toArray n dd sl)
   ⟨ho,rfl,⟨_,ho,rfl⟩,Cc Dk ⟨_,ho,rfl⟩ Fu (EY _ _) (hU a its.toArray n k t dd sl h1 h2 hne (by rw[Ae,<-hl];exact h4)) ⟨ho,?_⟩⟩)
 have e:=foldl_rep its k.toNat [];rw[Cw]at e;have hz:(Ap k.toNat xs).flatten.length<=Av:=by
  rw[len_rep,AV];have:k.toNat*xs.length<=1000*1000:=Gm (by omega) h4
  omega
 refine⟨.c s.heap.objs.size,_,I.laid (t':=s.toks) (o:=.c (Ap k.toNat xs).flatten) (λb ob q=>nx _ q) (Ac _) ⟨hz,(Ap k.toNat its).flatten,r.rep k.toNat,?_⟩,rfl,g.new _ (I.j.fresh (Ac _))⟩;rw[show (#[]:Array Value)=([]:List Value).toArray from rfl,e];exact rH.new _ _
end
end L2
end
section
namespace L2
open PySem PySem.Spec PyProof.Rows
section
variable {X:Cx}{pos:Pos}
def Vj(i j k:Nat)(ta:TA):TS:=λD σ H=>ta σ H λvs H1=>∃v w z,vs=[v,w,z]/\D.a (((σ.set i (some v)).set j (some w)).set k (some z)) H1
theorem vals3(r:Vals [x,y,z] us):∃u1 u2 u3,us=[u1,u2,u3]/\RelV x u1/\RelV y u2/\RelV z u3:=by
 cases r with
 |cons r1 r2=>
  cases r2 with
  |cons r3 r4=>
   cases r4 with
   |cons r5 r6=>cases r6;exact⟨_,_,_,rfl,r1,r3,r5⟩
theorem WS{kt k2 pt2}(hc:X.h=true)(hN:X.N.Nodup)(hi:X.N[i]?=some x)(hj:X.N[j]?=some y)(hk:X.N[k]?=some z)(hij:i≠j)(hik:i≠k)(hjk:j≠k)
 (hx:X.a.scope.names.lookup x=some .local) (hy:X.a.scope.names.lookup y=some .local) (hz:X.a.scope.names.lookup z=some .local) (ha:PA X [a,b,c] ta)
 (hw:BY [.Tuple [.Name x px,.Name y py,.Name z pz] kt pt] (.Tuple [a,b,c] k2 pt2) X.a=pure (some [x,y,z]))
 (hs:D6 [.Tuple [.Name x px,.Name y py,.Name z pz] kt pt] (.Tuple [a,b,c] k2 pt2) pos.line X.a=pure false:=by rfl) :
 PS X (.Assign [.Tuple [.Name x px,.Name y py,.Name z pz] kt pt] (.Tuple [a,b,c] k2 pt2) pos) (Vj i j k ta):=by
 intro pins s σ H D I h;rw[exec_Assign_arm];refine dS (Bp ?_);rw[hs];refine dS (Ai ?_);rw[if_neg (by decide)]
 refine dS (Tuple_ (thn (ha _ pins s σ H _ I h) λus s1 ⟨vs,H1,I1,r1,q1⟩=>?_));obtain⟨v,w,zz,e1,q1⟩:=q1;subst e1;obtain⟨u1,u2,u3,rfl,rv,rw',rz⟩:=vals3 r1;refine Bg ?_ (by show 3<=Av;decide)
 have I2:Inv X pins σ H1 {s1 with heap:=s1.heap.push {cls:=.type "tuple",data:=.seq [u1,u2,u3].toArray}}:=I1.kept (t':=s1.toks) λb o e=>nx _ e
 rw[hw];refine dS (Ai ?_);show wpAny (model X.f X.w) X.A (do rule "assign.swapped-stores";let items <-unpackItems (.ref s1.heap.objs.size) 3 none;D5 [λv=>C4 X.a z v,λv=>C4 X.a y v,λv=>C4 X.a x v] items.reverse;pure GD) _ _ _
 refine dS (DO (dS (unpackItems_tuple (items:=#[u1,u2,u3]) (I.B.i hc) (IsTup.new s1.heap _) λh' hx'=>?_)));have I3:=I2.kept (h':=h') (t':=s1.toks) λb o e=>hx' b o (AE (Ak e)) e;show wpAny _ _ (D5 [λv=>C4 X.a z v,λv=>C4 X.a y v,λv=>C4 X.a x v] [u3,u2,u1] >>= λ_=>pure GD) _ _ _;refine dS (Cq (DP (wW I3 hN hk (.inl hz) rz (λs2 I4=>?_) (.inr hz))));refine Cq (DP (wW I4 hN hj (.inl hy) rw' (λs3 I5=>?_) (.inr hy)));refine Cq (DP (wW I5 hN hi (.inl hx) rv (λs4 I6=>Fm (Ai ?_)) (.inr hx)));refine⟨_,H1,?_,q1⟩;have e:((σ.set k (some zz)).set j (some w)).set i (some v)=((σ.set i (some v)).set j (some w)).set k (some zz):=by rw[E5 _ _ (Bu hij),E5 _ _ (Bu hik),E5 _ _ (Bu hjk)]
 rw[<-e];exact I6
theorem WH(hb:∀pins σ H s,Inv X pins σ H s->BW<s.heap.objs.size):PE X (.Dict [] [] pos) (λ_ H Q=>∀p,H p=none->Q (.c p) (upd H p (.i []))):=λpins s σ H Q I h=>
 FP ⟨.c s.heap.objs.size,_,I.laid (a:=s.heap.objs.size) (o:=.i []) (t':=s.toks) (λ_ _ q=>nx _ q) (Ac _)
  ⟨A9 _,beq_eq_false_iff_ne.mpr (Bu (AE (hb pins σ H s I))),[],.nil,Heap.DictOf.new s.heap⟩,rfl,h _ (I.j.fresh (Ac _))⟩
end
mutual
inductive DD(H:Hp)(p:Addr):V->PyData->Prop
 |non:DD H p .g .none
 |bl (b:Bool):DD H p (.f b) (.bool b)
 |int (i:Int):DD H p (.d i) (.int i)
 |str (x:Str):DD H p (.e x) (.str x)
 |lst {a:Addr} {xs:List V} {ds:List PyData}:H a=some (.b xs)->a≠p->DDs H p xs ds->DD H p (.c a) (.list ds)
 |tup {a:Addr} {xs:List V} {ds:List PyData}:H a=some (.c xs)->a≠p->DDs H p xs ds->DD H p (.c a) (.tuple ds)
 |dct {a:Addr}:H a=some (.i [])->a≠p->DD H p (.c a) (.dict [])
inductive DDs(H:Hp)(p:Addr):List V->List PyData->Prop
 |b:DDs H p [] []
 |a {x:V} {xs:List V} {d:PyData} {ds:List PyData}:DD H p x d->DDs H p xs ds->DDs H p (x::xs) (d::ds)
end
theorem DDs.length:∀{vs} {ds},DDs H p vs ds->vs.length=ds.length
 |_,_,.b=>rfl
 |_,_,.a _ rs=>by rw[AK,AK,rs.length]
theorem DDs.append:∀{vs ws} {ds es},DDs H p vs ds->DDs H p ws es->DDs H p (vs++ws) (ds++es)
 |_,_,_,_,.b,r=>r
 |_,_,_,_,.a r rs,q=>.a r (rs.append q)
mutual
noncomputable def xn:PyData->Bool
 |.none|.bool _|.int _|.str _=>false
 |.list _=>true
 |.tuple xs=>wD xs
 |.dict _=>false
noncomputable def wD:List PyData->Bool
 |[]=>false
 |x::xs=>xn x||wD xs
end
structure VA(d:PyData):Prop where
 sh:d.showable=true
 a:d.hasDict=true->xn d=false
 dp:d.depth<=50
 ln:d.shown.length<=Av
end L2
end
section
namespace L2
open PySem PySem.Spec PyProof.Rows
structure uM(k w:Nat)(d:PyData):Prop where
 c:d.showable=true
 b:d.leavesShort 40=true
 a:d.depth<=k
 f:d.weight<=w
theorem uM.mono(h:uM k w d)(h1:k<=k')(h2:w<=w'):uM k' w' d:=⟨h.c,h.b,Au h.a h1,Au h.f h2⟩
theorem aj(h1:-(10 ^ 30)<i)(h2:i<10 ^ 30):uM 0 100 (.int i):=by
 have hn:i.natAbs<10 ^ 30:=by omega
 have h100:i.natAbs<2 ^ 100:=Nat.lt_trans hn (by decide)
 have hlog:i.natAbs≠0->i.natAbs.log2<100:=λz=>(Nat.log2_lt z).mpr h100;refine⟨?_,?_,A9 _,?_⟩
 . show decide (i.natAbs.log2<1920)=true
   by_cases z:i.natAbs=0
   . rw[z];decide
   . exact decide_eq_true (Nat.lt_trans (hlog z) (by decide))
 . show decide ((PyData.shown (.int i)).length<=40)=true
   refine decide_eq_true ?_;show (De (toString i)).length<=40;by_cases z:0<=i
   . exact Au (toString_length_le z (k:=30) (by decide) h2) (by decide)
   . have e:=len_text_negI (n:=i) (by omega)
     have e2:=toString_length_le (v:=0-i) (k:=30) (by omega) (by decide) (by omega)
     omega
 . show (if i == 0 then 0 else i.natAbs.log2+1)<=100
   split
   . exact A9 _
   . rename_i z
     have z':i≠0:=by simpa using z
     exact hlog (by omega)
theorem eI:uM 0 0 .none:=⟨rfl,rfl,Ac _,Ac _⟩
theorem eG b:uM 0 0 (.bool b):=⟨rfl,rfl,Ac _,Ac _⟩
theorem vn:∀{ds},(∀d∈ds,d.showable=true)->PyData.showableAll ds=true
 |[],_=>rfl
 |d::ds,h=>by rw[PyData.showableAll,h d Ar,vn λx hx=>h x (Ah _ hx)];rfl
theorem rL:∀{ds},(∀d∈ds,d.leavesShort 40=true)->PyData.leavesShortAll 40 ds=true
 |[],_=>rfl
 |d::ds,h=>by rw[PyData.leavesShortAll,h d Ar,rL λx hx=>h x (Ah _ hx)];rfl
theorem rK:∀{ds},(∀d∈ds,d.depth<=k)->PyData.depthAll ds<=k
 |[],_=>A9 _
 |d::ds,h=>by rw[PyData.depthAll];exact Nat.max_le.mpr ⟨h d Ar,rK λx hx=>h x (Ah _ hx)⟩
theorem tR:∀{ds},(∀d∈ds,d.weight<=w)->FQ ds<=ds.length*(w+1)
 |[],_=>by simp[FQ]
 |d::ds,h=>by rw[FQ,AK,FJ];have h1:=h d Ar;have h2:=tR λx hx=>h x (Ah _ hx);omega
theorem jv(h:∀d∈ds,uM k w d)(hn:ds.length<=n):uM (k+1) (n*(w+1)) (.tuple ds):=by refine⟨vn λd hd=>(h d hd).c,rL λd hd=>(h d hd).b,Nat.succ_le_succ (rK λd hd=>(h d hd).a),?_⟩;exact Au (tR λd hd=>(h d hd).f) (BP _ hn)
theorem eH(h:∀d∈ds,uM k w d)(hn:ds.length<=n):uM (k+1) (n*(w+1)) (.list ds):=by refine⟨vn λd hd=>(h d hd).c,rL λd hd=>(h d hd).b,Nat.succ_le_succ (rK λd hd=>(h d hd).a),?_⟩;exact Au (tR λd hd=>(h d hd).f) (BP _ hn)
theorem ak(h1:∀c∈x.cps.toList,c<16 ^ 8)(h2:x.cps.size<=100):uM 0 100 (.str x):=by refine⟨rfl,?_,A9 _,h2⟩;show (x.cps.toList.all λc=>decide (c<16 ^ 8))=true;rw[Ao];exact λc hc=>decide_eq_true (h1 c hc)
theorem uM.Q0(h:uM k w d)(hk:k<=50)(hw:w<=300000)(mix:d.hasDict=true->xn d=false):VA d:=by
 refine⟨h.c,mix,Au h.a hk,?_⟩;have e:=PyData.shown_le 40 (by decide) d h.b
 have e2:=h.f;rw[AV];have:(40+2)*d.weight<=42*300000:=Dt _ (Au e2 hw);omega
theorem rh:∀{ds},(∀d∈ds,d.hasDict=false)->PyData.hasDictAll ds=false
 |[],_=>rfl
 |d::ds,h=>by rw[PyData.hasDictAll,h d Ar,rh λx hx=>h x (Ah _ hx)];rfl
end L2
end
section
namespace L2
open PySem PySem.Spec PyProof.Rows
section
variable {X:Cx}{pos:Pos}
theorem Qa(hg:Gl X x)(hm:X.d x=none)(hv:B9 x=some (.type n))(hn:x≠"__name__":=by decide)(hd:(x == ("__debug__":Str))=false:=by decide):PE X (.Name x pos) (tC (.k n)):=
 WG hg hm hv (show RelV (.k n) (.type n) from rfl) hn hd
theorem Qf(ha:PT X a tA)(hb:PW X (.BoolOp .Or (b::rest) pos) tB'):PT X (.BoolOp .Or (a::b::rest) pos) (tOr tA tB'):=(Qh ha hb).pt
noncomputable def noStar:Expr->Bool
 |.Starred ..=>false
 |_=>true
theorem zg(h:noStar e=true):AI (e::es) env=(false,eval e env)::AI es env:=by
 cases e<;>first|rfl|cases h
theorem pac(ha:PE X e te)(hr:PA X es t)(hs:noStar e=true:=by rfl):PA X (e::es) (vi te t):=wJ ha hr (zg hs)
noncomputable def rO(sc0:Scope)(N0 N:List Str)(csc:Scope)(fr:List (Option Nat)):Bool:=
 decide (csc.kind=.function)&&csc.names.all (λx=>decide (x.2≠.cell)||csc.names.all λy=>decide (y≠(x.1,AH)))&&csc.names.all (λx=>decide (x.2≠.local)||decide (csc.names.lookup x.1=some .local)) &&
 csc.names.all (λx=>decide (x.2≠.free)||(decide (sc0.names.lookup x.1=some .cell)||decide (sc0.names.lookup x.1=some .free)))&&decide (fr.length=N.length) &&
 (Aq N.length).all (λi=>match fr[i]?,N[i]? with|some (some j),some x=>decide (N0[j]?=some x)&&csc.names.any (λy=>decide (y.1=x)&&decide (y.2=.free))|_,_=>true) &&
 csc.names.all (λx=>decide (x.2≠.free)||decide (csc.names.lookup x.1≠some .local))&&(decide (("!":Str) ∉ N)||(decide (("!":Str)∈N0)&&sc0.names.any (λy=>decide (sc0.names.lookup y.1=some .cell))))
end
end L2
end
section
namespace L2
open PySem PySem.Spec PyProof.Rows
noncomputable def zm{α:Type}(xs:List α)(lo st:Int)(n:Nat):List α:=(Aq n).filterMap λ(k:Nat)=>xs[(lo+(k:Int)*st).toNat]?
theorem Vals.pick(r:Vals xs us):∀(is:List Nat),Vals (is.filterMap λi=>xs[i]?) (is.filterMap λi=>us[i]?)
 |[]=>.nil
 |i::is=>by
  rw[AW,AW];cases hx:xs[i]? with
  |none=>rw[r.none_of hx];exact Vals.pick r is
  |some x=>
   obtain⟨u,hu,ru⟩:=r.get hx;rw[hu];exact .cons ru (Vals.pick r is)
theorem Vals.zm{xs:List V}{us:List Value}(r:Vals xs us)(lo st:Int)(n:Nat):Vals (zm xs lo st n) (L2.zm us lo st n):=by have h:=r.pick ((Aq n).map λ(k:Nat)=>(lo+(k:Int)*st).toNat);rw[B6,B6]at h;exact h
theorem kY(xs:List α)lo st n:(zm xs lo st n).length<=n:=by have:=DI (λ(k:Nat)=>xs[(lo+(k:Int)*st).toNat]?) (Aq n);rw[Bh]at this;exact this
noncomputable def yx(n:Nat)(lo hi:Option Int)(st:Int):Int × Nat:=((Bo lo hi st (n:Int)).1,Bz (Bo lo hi st (n:Int)).1 (Bo lo hi st (n:Int)).2 st)
section
variable {prog:Program}{w:World}{A:Around}{E:Value->Shared->Prop}{s:Shared}
theorem oR{lo hi}{st}{n:Nat}(hs:s.heap.IsSliceOf sl vl vu vc)(pl:IsPart vl lo)(pu:IsPart vu hi)(pc:IsPart vc (some st))(h0:st≠0)
 (h:Q ((yx n lo hi st).1,st,(yx n lo hi st).2) s):wpAny (model prog w) A (CA (.ref sl) (pure (n:Int))) Q E s:=by
 obtain⟨os,hos,hcs,hds⟩:=id hs;unfold CA FA;refine dS (dS (Co hos hds (x:=vl) rfl (dS (Co hos hds (x:=vu) rfl (dS (Co hos hds (x:=vc) rfl (Ai ?_)))))));refine dS (HT.vE pc ?_);show wpAny _ _ (if (st == 0)=true then _ else _) _ _ s
 rw[if_neg (by simpa using h0)]
 exact dS (HT.vE pl (dS (HT.vE pu (dS (Ai (Ai h))))))
theorem YL{lo hi}{st}(ht:IsTup s.heap t items)(hs:s.heap.IsSliceOf sl vl vu vc)(pl:IsPart vl lo)(pu:IsPart vu hi)(pc:IsPart vc (some st))(h0:st≠0)
 (hq1:(yx items.size lo hi st).1=0->st=1->(yx items.size lo hi st).2=items.size->Q (.ref t) s)
 (hq2:Q (.ref s.heap.objs.size) {s with heap:=s.heap.push {cls:=.type "tuple",data:=.seq (zm items.toList (yx items.size lo hi st).1 st (yx items.size lo hi st).2).toArray}})
 (hsz:(yx items.size lo hi st).2<=Av):wpAny (model prog w) A (getItem (.ref t) (.ref sl)) Q E s:=by
 obtain⟨os,hos,hcs,hds⟩:=id hs;have hTs:s.TypeIs (.ref sl) "slice":=⟨os,hos,hcs⟩;have htake:sizeOk (.seq (zm items.toList (yx items.size lo hi st).1 st (yx items.size lo hi st).2).toArray):=by show (zm items.toList (yx items.size lo hi st).1 st (yx items.size lo hi st).2).toArray.size<=Av;rw[Ae];exact Au (kY _ _ _ _) hsz
 have epick:((Aq (yx items.size lo hi st).2).filterMap λ(k:Nat)=>items[((yx items.size lo hi st).1+(k:Int)*st).toNat]?).toArray=(zm items.toList (yx items.size lo hi st).1 st (yx items.size lo hi st).2).toArray:=by unfold zm;simp only[Array.getElem?_toList]
 unfold getItem
 try with_reducible refine BX ?_
 first|refine dS (Ai ?_)|skip
 refine dS (Fp ht.typeIs (by decide) ?_)
 refine dS (Cj (name:=De "__getitem__") ht.typeIs A0
  (Dj A0 ht.typeIs EL ?_ (EV _ _)))
 show wpAny _ _ (Dp (.ref t) >>= _) _ _ s;refine dS (D7 ht ?_);refine dS (Ez hTs ?_);rw[if_pos (by decide)]
 refine dS (oR (n:=items.size) hs pl pu pc h0 ?_);by_cases hw:((yx items.size lo hi st).1 == 0&&st == 1&&(yx items.size lo hi st).2 == items.size)=true
 . show wpAny _ _ (if ((yx items.size lo hi st).1 == 0&&st == 1&&(yx items.size lo hi st).2 == items.size)=true then _ else _) _ _ s
   rw[if_pos hw];simp only[cf,beq_iff_eq]at hw;unfold Fb;refine dS (dS (Ez ht.typeIs (Ai ?_)));rw[if_pos (by decide)]
   exact dS (DO (Ai ⟨_,rfl,Ai (hq1 hw.1.1 hw.1.2 hw.2)⟩))
 . show wpAny _ _ (if ((yx items.size lo hi st).1 == 0&&st == 1&&(yx items.size lo hi st).2 == items.size)=true then _ else _) _ _ s
   rw[if_neg hw,epick]
   first
    |exact dS (m:=Bq _) (Bg (Ai ⟨_,rfl,Ai hq2⟩) htake)
    |exact dS (dS (m:=Bq _) (Bg (Ai ⟨_,rfl,Ai hq2⟩) htake))
end
theorem kZ{α:Type}:∀xs:List α,(Aq xs.length).filterMap (λk=>xs[k]?)=xs
 |[]=>rfl
 |x::xs=>by
  rw[AK,Cp,AW,B6];show x::_=_;refine congrArg (x::·) (Gw ?_ (kZ xs))
  congr 1
theorem iM(xs:List α):zm xs 0 1 xs.length=xs:=by
 unfold zm;have e:(λ(k:Nat)=>xs[(0+(k:Int)*1).toNat]?)=λk=>xs[k]?:=by funext k;rw[show (0+(k:Int)*1).toNat=k by omega]
 rw[e];exact kZ xs
def Py:V->Option Int->Option Int->Option Int->Hp->VK->Prop:=λx lo hi st H Q=>∃a xs c,x=.c a/\H a=some (.c xs)/\st=some c/\c≠0/\(yx xs.length lo hi c).2<=Av/\qH H (zm xs (yx xs.length lo hi c).1 c (yx xs.length lo hi c).2) Q
def PJ(r:V->Option Int->Option Int->Option Int->Hp->VK->Prop)(te:TE)(tl th tc:TO):TE:=λσ H Q=>te σ H λx H1=>tl σ H1 λl H2=>th σ H2 λu H3=>tc σ H3 λc H4=>r x l u c H4 Q
theorem dB{lo hi}{st}(he:PE X e te)(hl:PO X lo tl)(hu:PO X hi th)(hc:PO X (some st) tc):PE X (.Subscript e (.Slice lo hi (some st) p2) pos) (PJ Py te tl th tc):=by
 intro pins s σ H Q I h;refine Gu (thn (he pins s σ H _ I h) λv s1 ⟨x,H1,I1,r1,q1⟩=>?_);refine wpAny_Slice (thn (hl pins s1 σ H1 _ I1 q1) λvl s2 ⟨l,H2,I2,pl,q2⟩=>thn (hu pins s2 σ H2 _ I2 q2) λvu s3 ⟨u,H3,I3,pu,q3⟩=>thn (hc pins s3 σ H3 _ I3 q3) λvc s4 ⟨c,H4,I4,pc,q4⟩=>?_);obtain⟨a,xs,cc,rfl,hx,ec,h0,hsz,g⟩:=q4;subst ec;cases r1;have I5:Inv X pins σ H4 {s4 with heap:=s4.heap.push {cls:=.type "slice",data:=.fields #[vl,vu,vc]}}:=I4.kept (t':=s4.toks) λb ob q=>nx _ q
 obtain⟨its,r,ht,hz⟩:=I5.tuple (.inl (.inl hx));have hlen:its.toArray.size=xs.length:=by rw[Ae];exact r.length.symm
 show wpAny (model X.f X.w) X.A (E7 e (.Slice lo hi (some st) p2) (.ref a) (.ref s4.heap.objs.size)) (EP X pins σ Q) X.j {s4 with heap:=s4.heap.push {cls:=.type "slice",data:=.fields #[vl,vu,vc]}}
 refine tail_any (ops:=[.ref a,.ref s4.heap.objs.size]) ht.typeIs A0.lookup (YL ht (EW ..) pl pu pc h0 (λz1 z2 z3=>?_) ?_ (by rw[hlen];exact hsz)) (by with_unfolding_all rfl)
 . refine⟨.c a,H4,I5,rfl,g a H4 (wq.refl H4) ?_⟩
   rw[hlen]at z1 z3;rw[hx,z1,z3,z2,iM]
 . rw[hlen]
   refine⟨.c _,_,I5.laid (t':=s4.toks) (o:=.c (zm xs (yx xs.length l u cc).1 cc (yx xs.length l u cc).2)) (λb ob q=>nx _ q) (Ac _) ?_,rfl,g.new _ (I5.j.fresh (Ac _))⟩;refine⟨Au (kY _ _ _ _) hsz,_,r.zm _ _ _,?_⟩;exact rH.new _ _
end L2
end
section
namespace L2
open PySem PyProof.Rows
section
variable {X:Cx}
noncomputable def uG(d:Int):List Int->Int
 |[]=>d
 |n::ns=>ns.foldl (λa b=>if b > a then b else a) n
theorem qy:∀(ns:List Int) a,a<=ns.foldl (λa b=>if b > a then b else a) a/\(∀x∈ns,x<=ns.foldl (λa b=>if b > a then b else a) a)/\(ns.foldl (λa b=>if b > a then b else a) a=a\/ns.foldl (λa b=>if b > a then b else a) a∈ns)
 |[],a=>⟨Int.le_refl _,λ_ h=>(nomatch h),.inl rfl⟩
 |n::ns,a=>by
  obtain⟨h1,h2,h3⟩:=qy ns (if n > a then n else a)
  show a<=ns.foldl _ (if n > a then n else a)/\_
  have hc:a<=(if n > a then n else a)/\n<=(if n > a then n else a):=by split<;>omega
  refine⟨ED hc.1 h1,λx hx=>?_,?_⟩
  . rcases Af.mp hx with e|hx
    . rw[e];exact ED hc.2 h1
    . exact h2 x hx
  . rcases h3 with h3|h3
    . show ns.foldl _ (if n > a then n else a)=a\/ns.foldl _ (if n > a then n else a)∈n::ns
      rw[h3];split
      . exact .inr (Ar ..)
      . exact .inl rfl
    . exact .inr (Ah _ h3)
theorem j4(h:ns≠[]):uG d ns∈ns/\∀x∈ns,x<=uG d ns:=by
 cases ns with
 |nil=>exact absurd rfl h
 |cons n ns=>
  obtain⟨h1,h2,h3⟩:=qy ns n;refine⟨?_,λx hx=>?_⟩
  . rcases h3 with h3|h3
    . show ns.foldl _ n∈_;rw[h3];exact Ar ..
    . exact Ah _ h3
  . rcases Af.mp hx with e|hx
    . rw[e];exact h1
    . exact h2 x hx
theorem kE(h1:M∈ns)(h2:∀x∈ns,x<=M):uG d ns=M:=by
 have hne:ns≠[]:=λe=>by rw[e]at h1;exact nomatch h1
 obtain⟨a,b⟩:=j4 (d:=d) hne;exact F5 (h2 _ a) (b _ h1)
theorem Vals.ints:∀{ns:List Int} {us},Vals (ns.map V.d) us->∀{i:Nat} {v},us[i]?=some v->∃t,v=.int (ns.getD i 0) t
 |[],_,.nil,_,_,h=>by cases h
 |n::ns,_,.cons r rs,0,v,h=>by
  obtain⟨t,e⟩:=r;have:v=.int n t:=(Aw h).symm.trans e;exact⟨t,this⟩
 |n::ns,_,.cons r rs,i+1,v,h=>by have:=Vals.ints rs (i:=i) (v:=v) h;exact this
end
end L2
end
section
namespace L2
open PySem PyProof PyProof.Rows
section
variable {X:Cx}
theorem hG l items n u dd sl :
 Meets (Builtin.«tuple.__mul__» ⟨[.ref l,.int 1 u],[]⟩) (λ_ R s=>s.heap.get? l=some {cls:=.type "tuple",dict:=dd,data:=.seq items n,slots:=sl}/\R (.ok (.ret (A5 l))) s):=
 .of_wp λprog w A R s h=>by
  obtain⟨hp,g,d,tk,os⟩:=s;obtain⟨hl,h⟩:=h;have f1:=FO;have c1:¬((decide ((1:Int) < -(2 ^ 63))||decide ((1:Int) ≥ 2 ^ 63))=true):=by decide
  have c2:((items.isEmpty||((1:Int) == 1))=true):=by simp
  wp_walk using BN hl
  exact⟨_,rfl,h⟩
theorem i9 l items n x u dd sl(h1:x<=0)(h2:-1000<=x)(h3:¬items.isEmpty=true) :
 Meets (Builtin.«tuple.__mul__» ⟨[.ref l,.int x u],[]⟩) (λ_ R s=>s.heap.get? l=some {cls:=.type "tuple",dict:=dd,data:=.seq items n,slots:=sl} /\
  R (.ok (.ret (A5 s.heap.objs.size))) {s with heap:=s.heap.push {cls:=Fx "tuple",data:=Data.seq #[]},toks:=s.toks}):=
 .of_wp λprog w A R s h=>by
  obtain⟨hp,g,d,tk,os⟩:=s;obtain⟨hl,h⟩:=h;have f1:=FO;have c1:¬((decide (x < -(2 ^ 63))||decide (x ≥ 2 ^ 63))=true):=by simp;omega
  have c2:¬((items.isEmpty||x == 1)=true):=by simp at h3 ⊢;exact⟨h3,by omega⟩
  have c3:((decide (x<=0)||items.isEmpty)=true):=by simp;exact .inl h1
  wp_walk using BN hl
  rw[if_neg c1];refine dS (D7 (items:=items) ⟨_,hl,rfl,n,rfl⟩ ?_);rw[if_neg c2];show wpAny _ _ (if (decide (x<=0)||items.isEmpty)=true then _ else _) _ _ _
  rw[if_pos c3];exact dS (m:=Bq _) (Bg (Ai ⟨_,rfl,h⟩))
def Qq:R2:=λx y H Q=>∃a k xs,x=.c a/\y=.d k/\H a=some (.c xs)∧-1000<=k/\k<=1000/\xs≠[]/\xs.length<=1000/\qH H (Ap k.toNat xs).flatten Q
theorem X4:OpR X (By .Mult) Qq:=by
 intro pins s σ H x y v u Q I rx ry h;obtain⟨a,k,xs,rfl,rfl,ha,h1,h2,h3,h4,g⟩:=h;by_cases hk2:2<=k
 . exact X5 pins s σ H _ _ v u Q I rx ry ⟨a,k,xs,rfl,rfl,ha,hk2,h2,h3,h4,g⟩
 cases rx;obtain⟨t,rfl⟩:=ry;obtain⟨its,r,p1,_⟩:=I.tuple (.inl (.inl ha));obtain⟨⟨cls,dd,data,sl⟩,ho,hc,n,hd⟩:=id p1;simp only at hc hd;subst hc hd;by_cases hk1:k=1
 . subst hk1
   refine CH (T:="tuple") (U:="int") (by decide) ⟨_,ho,rfl⟩ (λs'=>C0 s' 1 t) wG EB Ce uC Ea.lookup
    (Cc Ce (C0 s 1 t) Eb (DY _ _) (w8 1 t a its.toArray n dd sl)
     ⟨ho,rfl,⟨_,ho,rfl⟩,Cc Dk ⟨_,ho,rfl⟩ Fu (EY _ _) (hG a its.toArray n t dd sl) ⟨ho,?_⟩⟩)
   refine⟨.c a,H,I,rfl,g a H (wq.refl H) ?_⟩;rw[ha];simp
 . have hne:¬its.toArray.isEmpty=true:=by simp;intro e;exact h3 (r.sW.mp e)
   have e0:k.toNat=0:=by omega
   refine CH (T:="tuple") (U:="int") (by decide) ⟨_,ho,rfl⟩ (λs'=>C0 s' k t) wG EB Ce uC Ea.lookup
    (Cc Ce (C0 s k t) Eb (DY _ _) (w8 k t a its.toArray n dd sl)
     ⟨ho,rfl,⟨_,ho,rfl⟩,Cc Dk ⟨_,ho,rfl⟩ Fu (EY _ _) (i9 a its.toArray n k t dd sl (by omega) h1 hne) ⟨ho,?_⟩⟩)
   rw[e0]at g;refine⟨.c s.heap.objs.size,_,I.laid (t':=s.toks) (o:=.c []) (λb ob q=>nx _ q) (Ac _) ⟨A9 _,[],.nil,rH.new _ _⟩,rfl,g.new _ (I.j.fresh (Ac _))⟩
noncomputable def yj(a b c:Int):List Int:=(Aq (AS a b c).toNat).map λ(i:Nat)=>a+(i:Int)*c
theorem ow:∀{ns:List Int} {us},ns.length=us.length->(∀(i:Nat) v,us[i]?=some v->∃t,v=.int (ns.getD i 0) t)->Vals (ns.map V.d) us
 |[],[],_,_=>.nil
 |[],_::_,h,_=>by cases h
 |_::_,[],h,_=>by cases h
 |n::ns,u::us,h,hv=>.cons (by obtain⟨t,e⟩:=hv 0 u rfl;exact⟨t,e⟩) (ow (Nat.succ.inj h) λi v e=>hv (i+1) v e)
theorem lB a b c(hc:0<c):0<=AS a b c:=by
 unfold AS;rw[if_pos hc];split
 . have:=Int.ediv_nonneg (a:=b-a-1) (b:=c) (by omega) (by omega);omega
 . omega
theorem oO{x y:Str}(hcalm:X.h=true)(hx:x="list")(hy:y="range")(hg:Gl X x)(hm:X.d x=none)(hg2:Gl X y)(hm2:X.d y=none)(ha:PA X [a] ta)
 (hs:AI [a] X.a=[(false,eval a X.a)]:=by rfl) :
 PE X (.Call (.Name x p) [.Call (.Name y p2) [a] [] pos2] [] pos) (λσ H Q=>ta σ H λvs H1=>∃j:Int,vs=[.d j]∧-(2 ^ 30)<=j/\j<=2 ^ 30/\(AS 0 j 1)<=1000/\∀l,H1 l=none->Q (.c l) (upd H1 l (.b ((yj 0 j 1).map V.d)))):=by
 intro pins s σ H Q I h;subst hx hy;refine BI (vv I hg hm D3 ?_ (by decide) (by decide))
 refine BH (PyProof.Rows.spliced_more (Call_ (vv I hg2 hm2 boot_range (BH (thn (ha pos2 pins s σ H _ I h) λus s1 ⟨vs,H1,I1,r1,q1⟩=>?_) hs rfl) (by decide) (by decide))))
 obtain⟨j,rfl,j0,j1,hz,q⟩:=q1;cases r1 with
 |cons r rr=>
  cases rr;obtain⟨t,rfl⟩:=r;have hn0:=lB 0 j 1 (by omega)
  refine call_range_1 ?_;refine PyProof.Rows.spliced_none ?_;have I2:Inv X pins σ H1 {s1 with heap:=s1.heap.push {cls:=.type "range",data:=.fields #[.int 0 s1.toks,.int j t,.int 1 (s1.toks+1)]},toks:=s1.toks+1+1}:=I1.kept λb o e=>nx _ e
  refine call_list_range (n:=(AS 0 j 1).toNat) (I1.B.i hcalm) (IsRange.new ..) ?_ (by omega) (by omega) λh' tk acc' c' kp e hit=>?_
  . unfold Builtin.Range.small
    rw[if_pos (by omega)]
    simp only[Builtin.Range.rangeFitsLong,cf,Ay,decide_eq_true_eq,beq_iff_eq];omega
  . obtain⟨hs1,hs2⟩:=hit
    have hl:(yj 0 j 1).length=acc'.toList.length:=by unfold yj;rw[Aa,Bh];simpa using hs1.symm
    have hv:Vals ((yj 0 j 1).map V.d) acc'.toList:=by
     refine ow hl λm v hm=>?_;have hm':acc'[m]?=some v:=by simpa using hm
     obtain⟨t,e⟩:=hs2 m v hm';have hlt:m<(AS 0 j 1).toNat:=by have:=(Array.getElem?_eq_some_iff.mp hm').1;omega
     refine⟨t,?_⟩;rw[e];congr 1;unfold yj;rw[Al,AG,Du hlt];rfl
    have hz2:((yj 0 j 1).map V.d).length<=Av:=by unfold yj;rw[Aa,Aa,Bh,AV];omega
    exact⟨.c _,_,I2.laid (t':=tk) (o:=.b ((yj 0 j 1).map V.d)) kp (Ac _) ⟨hz2,acc'.toList,c',hv,by simpa using e⟩,rfl,q _ (I2.j.fresh (Ac _))⟩
end
end L2
end
section
namespace L2
open PySem PyProof PyProof.Rows
section
variable {X:Cx}
theorem rR:∀{xs} {us},Vals xs us->xs.all xy=true->us.countP (eqU x)=xs.countP λy=>eqV y x
 |_,_,.nil,_=>rfl
 |y::ys,u::us,.cons r rs,h=>by rw[BB,cf]at h;rw[CO,CO,rR rs h.2,mO r h.1]
def pX(K:Ag)(tup:Bool):V->List V->Hp->VK->Prop:=λx vs H Q=>∃t xs y,x=.c t/\vs=[y]/\(if tup=true then SqT K H t xs else SqL K H t xs)/\xy y=true/\xs.all xy=true/\Q (.d (xs.countP λz=>eqV z y:Nat)) H
theorem eP:MtR X "tuple.count" (pX X.K true):=by
 intro pins s σ H x xs v us Q I rx rs h;obtain⟨t,ys,y,rfl,rfl,ht,fy,fs,q⟩:=h;cases rx;obtain⟨u,rfl,ru⟩:=vals1 rs;obtain⟨its,r,p1,_⟩:=I.tuple ht;obtain⟨⟨cls,dd,data,sl⟩,ho,hc,n,hd⟩:=id p1;simp only at hc hd;subst hc hd;refine Cc F.slot_tuple_count ⟨_,ho,rfl⟩ F.entry_tuple_count (F.args_tuple_count_2 _ _) (SeqAt.tuple_countAt t its.toArray n dd sl u (eqU y)) ⟨ho,λw hw=>wQ ru fy r fs w (by simpa using hw),?_⟩
 rw[show its.toArray.toList=its from rfl,rR r fs];exact⟨.d _,H,I.tok _,⟨s.toks,rfl⟩,q⟩
theorem eO:MtR X "list.count" (pX X.K false):=by
 intro pins s σ H x xs v us Q I rx rs h;obtain⟨t,ys,y,rfl,rfl,ht,fy,fs,q⟩:=h;cases rx;obtain⟨u,rfl,ru⟩:=vals1 rs;obtain⟨its,r,p1,_⟩:=I.list ht;obtain⟨⟨cls,dd,data,sl⟩,ho,hc,n,hd⟩:=id p1.isList;simp only at hc hd;subst hc hd;refine Cc F.slot_list_count ⟨_,ho,rfl⟩ F.entry_list_count (F.args_list_count_2 _ _) (SeqAt.list_countAt t its.toArray n dd sl u (eqU y)) ⟨ho,λw hw=>wQ ru fy r fs w (by simpa using hw),?_⟩
 rw[show its.toArray.toList=its from rfl,rR r fs];exact⟨.d _,H,I.tok _,⟨s.toks,rfl⟩,q⟩
theorem tY h:∀ns:List Int,((ns.map V.d).countP λz=>eqV z (.d h))=ns.count h
 |[]=>rfl
 |n::ns=>by rw[AJ,CO,tY h ns,F6];rfl
theorem rV:∀ns:List Int,(ns.map V.d).all xy=true
 |[]=>rfl
 |n::ns=>by rw[AJ,BB,rV ns];rfl
noncomputable def uY(d:Int):List Int->Int
 |[]=>d
 |n::ns=>ns.foldl (λa b=>if b<a then b else a) n
theorem qz:∀(ns:List Int) a,ns.foldl (λa b=>if b<a then b else a) a<=a/\(∀x∈ns,ns.foldl (λa b=>if b<a then b else a) a<=x)/\(ns.foldl (λa b=>if b<a then b else a) a=a\/ns.foldl (λa b=>if b<a then b else a) a∈ns)
 |[],a=>⟨Int.le_refl _,λ_ h=>(nomatch h),.inl rfl⟩
 |n::ns,a=>by
  obtain⟨h1,h2,h3⟩:=qz ns (if n<a then n else a)
  show ns.foldl _ (if n<a then n else a)<=a/\_
  have hc:(if n<a then n else a)<=a/\(if n<a then n else a)<=n:=by split<;>omega
  refine⟨ED h1 hc.1,λx hx=>?_,?_⟩
  . rcases Af.mp hx with e|hx
    . rw[e];exact ED h1 hc.2
    . exact h2 x hx
  . rcases h3 with h3|h3
    . show ns.foldl _ (if n<a then n else a)=a\/ns.foldl _ (if n<a then n else a)∈n::ns
      rw[h3];split
      . exact .inr (Ar ..)
      . exact .inl rfl
    . exact .inr (Ah _ h3)
theorem j6(h:ns≠[]):uY d ns∈ns/\∀x∈ns,uY d ns<=x:=by
 cases ns with
 |nil=>exact absurd rfl h
 |cons n ns=>
  obtain⟨h1,h2,h3⟩:=qz ns n;refine⟨?_,λx hx=>?_⟩
  . rcases h3 with h3|h3
    . show ns.foldl _ n∈_;rw[h3];exact Ar ..
    . exact Ah _ h3
  . rcases Af.mp hx with e|hx
    . rw[e];exact h1
    . exact h2 x hx
theorem kI(h1:M∈ns)(h2:∀x∈ns,M<=x):uY d ns=M:=by
 have hne:ns≠[]:=λe=>by rw[e]at h1;exact nomatch h1
 obtain⟨a,b⟩:=j6 (d:=d) hne;exact F5 (b _ h1) (h2 _ a)
def Vb(K:Ag)(g:List Int->Int):List V->Hp->VK->Prop:=λxs H Q=>∃(a:Addr) (ns:List Int),xs=[.c a]/\SqL K H a (ns.map V.d)/\ns≠[]/\Q (.d (g ns)) H
theorem fU(hc:X.h=true):yY X (.builtin "max") (Vb X.K (uG 0)):=by
 intro pins s σ H xs us Q I r h;obtain⟨a,ns,rfl,ha,hne,q⟩:=h;obtain⟨u,rfl,ru⟩:=vals1 r;cases ru;obtain⟨its,rv,pl,hz⟩:=I.list ha;have hlen:=rv.length;have alt:a<s.heap.objs.size:=by obtain⟨o,ho,_⟩:=pl.isList;exact Ak ho
 have hl:its.toArray.size=ns.length:=by rw[Ae,<-hlen,Aa]
 have hpos:0<ns.length:=CV.mpr hne;have hat:∀(i:Nat) (v:Value),its.toArray[i]?=some v->∃t,v=.int (ns.getD i 0) t:=λi v hv=>rv.ints (by simpa using hv)
 refine call_max_walk (C8 pl.isList ?_);refine⟨s.heap.objs.size,_,_,_,_,_,_,rfl,Gx (A:=X.A.in1) (I.B.i hc) s.heap.objs.size a (AE alt) its.toArray,⟨⟨_,AB _ rfl,rfl,rfl⟩,?_⟩,λb hb=>?_,by omega,CmpOf.ints_gt (λi=>ns.getD i 0) hat,λv h' tk hP hk=>?_⟩
 . obtain⟨o,ho,hc',n,hd⟩:=pl.isList
   exact⟨o,nx _ ho,hc',n,hd⟩
 . rw[Bi]
   simp only[Af,AU,or_false]at hb;rcases hb with e|e
   . rw[e];exact Dl _
   . rw[e];exact CC alt
 . obtain⟨t,rfl⟩:=hat _ _ hP
   obtain⟨b1,b2⟩:=argBest_gt (λi=>ns.getD i 0) (its.toArray.size-1);have e:uG 0 ns=ns.getD (argBest (λi j=>decide (ns.getD i 0 > ns.getD j 0)) (its.toArray.size-1)) 0:=by
    refine kE ?_ λx hx=>?_
    . have:argBest (λi j=>decide (ns.getD i 0 > ns.getD j 0)) (its.toArray.size-1)<ns.length:=by omega
      rw[Al,xd this];exact B2 this
    . obtain⟨i,hi,rfl⟩:=BM hx
      have:=b2 i (by omega)
      simpa [Al,xd hi] using this
   refine⟨.d (uG 0 ns),H,I.kept λb o ho=>hk b o ?_ (nx _ ho),⟨t,by rw[e]⟩,q⟩
   simpa using AE (Ak ho)
theorem fX(hc:X.h=true):yY X (.builtin "min") (Vb X.K (uY 0)):=by
 intro pins s σ H xs us Q I r h;obtain⟨a,ns,rfl,ha,hne,q⟩:=h;obtain⟨u,rfl,ru⟩:=vals1 r;cases ru;obtain⟨its,rv,pl,hz⟩:=I.list ha;have hlen:=rv.length;have alt:a<s.heap.objs.size:=by obtain⟨o,ho,_⟩:=pl.isList;exact Ak ho
 have hl:its.toArray.size=ns.length:=by rw[Ae,<-hlen,Aa]
 have hpos:0<ns.length:=CV.mpr hne;have hat:∀(i:Nat) (v:Value),its.toArray[i]?=some v->∃t,v=.int (ns.getD i 0) t:=λi v hv=>rv.ints (by simpa using hv)
 refine call_min_walk (C8 pl.isList ?_);refine⟨s.heap.objs.size,_,_,_,_,_,_,rfl,Gx (A:=X.A.in1) (I.B.i hc) s.heap.objs.size a (AE alt) its.toArray,⟨⟨_,AB _ rfl,rfl,rfl⟩,?_⟩,λb hb=>?_,by omega,CmpOf.ints_lt (λi=>ns.getD i 0) hat,λv h' tk hP hk=>?_⟩
 . obtain⟨o,ho,hc',n,hd⟩:=pl.isList
   exact⟨o,nx _ ho,hc',n,hd⟩
 . rw[Bi]
   simp only[Af,AU,or_false]at hb;rcases hb with e|e
   . rw[e];exact Dl _
   . rw[e];exact CC alt
 . obtain⟨t,rfl⟩:=hat _ _ hP
   obtain⟨b1,b2⟩:=argBest_lt (λi=>ns.getD i 0) (its.toArray.size-1);have e:uY 0 ns=ns.getD (argBest (λi j=>decide (ns.getD i 0<ns.getD j 0)) (its.toArray.size-1)) 0:=by
    refine kI ?_ λx hx=>?_
    . have:argBest (λi j=>decide (ns.getD i 0<ns.getD j 0)) (its.toArray.size-1)<ns.length:=by omega
      rw[Al,xd this];exact B2 this
    . obtain⟨i,hi,rfl⟩:=BM hx
      have:=b2 i (by omega)
      simpa [Al,xd hi] using this
   refine⟨.d (uY 0 ns),H,I.kept λb o ho=>hk b o ?_ (nx _ ho),⟨t,by rw[e]⟩,q⟩
   simpa using AE (Ak ho)
theorem ey{o e:Expr}{to te:TE}{apos cpos:Pos}{es:List Expr}(ho:PE X o to)(he:PE X e te)(hbase:CY o "append" X.a (eval o X.a)=eval o X.a:=by rfl)(hst:noStar e=true:=by rfl)(hline:(apos.endLine == cpos.line)=true:=by rfl) :
 PE X (.Call (.Attribute o "append" apos) [e] [] cpos) (tBM X.K "list" fD to (vi te qU)):=by
 have hs1:AI [e] X.a=(false,eval e X.a)::AI [] X.a:=zg hst;refine ZV DW PySem.F.slot_list_append PySem.F.type_list_append nD ho (pac he xK hst) hbase ?_ hline hs1 rfl;rw[hs1];rfl
theorem nI(ho:PE X o to)(he:PE X e te)(hbase:CY o "count" X.a (eval o X.a)=eval o X.a:=by rfl)(hst:noStar e=true:=by rfl)(hline:(apos.endLine == cpos.line)=true:=by rfl) :
 PE X (.Call (.Attribute o "count" apos) [e] [] cpos) (tBM X.K "list" (pX X.K false) to (vi te qU)):=by
 have hs1:AI [e] X.a=(false,eval e X.a)::AI [] X.a:=zg hst;refine ZV DW PySem.F.slot_list_count PySem.F.type_list_count eO ho (pac he xK hst) hbase ?_ hline hs1 rfl;rw[hs1];rfl
def P4(r:V->List V->Hp->VK->Prop)(to:TE)(t:TA):TE:=λσ H Q=>to σ H λx H1=>(∃a xs,x=.c a/\H1 a=some (.c xs))/\t σ H1 λxs H2=>r x xs H2 Q
theorem ez(ho:PE X o to)(he:PE X e te)(hbase:CY o "count" X.a (eval o X.a)=eval o X.a:=by rfl)(hst:noStar e=true:=by rfl)(hline:(apos.endLine == cpos.line)=true:=by rfl) :
 PE X (.Call (.Attribute o "count" apos) [e] [] cpos) (P4 (pX X.K true) to (vi te qU)):=by
 have hs1:AI [e] X.a=(false,eval e X.a)::AI [] X.a:=zg hst;intro pins s σ H Q I h;refine wpAny_Call_method_late hbase (by rw[hs1];rfl) hline rfl (thn (ho pins s σ H _ I h) λv s1 ⟨x,H1,I1,r1,ty,q1⟩=>?_)
 obtain⟨a,xs,rfl,hx⟩:=ty;cases r1;obtain⟨z,its,rv,ob,e1,c1,n,d1,nd⟩:=(show yQ X.f X.w H1 s1.heap a (.c xs) from I1.j a _ hx);refine⟨"tuple",_,PySem.F.plainAttrs_tuple,PySem.F.slot_tuple_count,PySem.F.type_tuple_count,⟨ob,e1,c1⟩,λb hb=>?_,?_⟩
 . cases hb;exact⟨ob,e1,nd⟩
 have hA:=(pac he xK hst:PA X [e] _) cpos pins s1 σ H1 _ I1 q1;rw[hs1]at hA ⊢;refine Calls.callWith_builtin rfl (EA ?_);exact thn hA λus s2 ⟨vs,H2,I2,r2,q2⟩=>eP pins s2 σ H2 (.c a) vs _ us Q I2 rfl r2 q2
end
end L2
namespace L2
open PySem
end L2
end
section
namespace L2
open PySem PySem.W PySem.Calls PyProof PyProof.Rows
noncomputable def VD(z:Int × Int):Int:=z.1*1000+z.2
end L2
end
section
namespace L2
open PySem PySem.W PySem.Calls PyProof PyProof.Rows
noncomputable def oK:List Int->List Int->Bool
 |x::xs,y::ys=>if x=y then oK xs ys else decide (x<y)
 |_,_=>false
end L2
end
section
namespace L2
open PySem PySem.W PySem.Calls PyProof PyProof.Rows
noncomputable def R0:List Int->List Int->Bool
 |x::xs,y::ys=>if x=y then R0 xs ys else decide (x<y)
 |[],_::_=>true
 |_,[]=>false
def Rj(z:List Int):List (List Int)->List (List Int)
 |[]=>[z]
 |y::ys=>if R0 y z then y::Rj z ys else z::y::ys
def Vf:List (List Int)->List (List Int)
 |[]=>[]
 |z::zs=>Rj z (Vf zs)
end L2
end
section
namespace L2
open PySem PyProof.Rows
section
variable {X:Cx}{N:List Str}{csc:Scope}{fr:List (Option Nat)}{elt tg iter tg2 iter2:Expr}{ifs ifs2:List Expr}{cpos:Pos}{wi wi2:TI}{g g2:TG}{ts ts2:List TT}{te:TE}
theorem Zj(hc:X.h=true)(S:z0 X N csc fr)(hi:PI X tg iter wi)(hg:∀C s0 H0 ex,PG (X.comp N csc C s0 H0 ex) tg g)(ht:∀C s0 H0 ex,PTs (X.comp N csc C s0 H0 ex) ifs ts)
 (hi2:∀C s0 H0 ex,PI (X.comp N csc C s0 H0 ex) tg2 iter2 wi2) (hg2:∀C s0 H0 ex,PG (X.comp N csc C s0 H0 ex) tg2 g2) (ht2:∀C s0 H0 ex,PTs (X.comp N csc C s0 H0 ex) ifs2 ts2)
 (he:∀C s0 H0 ex,PE (X.comp N csc C s0 H0 ex) elt te) (hN:X.N.Nodup) (hy:X.N[i]?=some y) (hx:Loc X.a.scope y)
 (hsw:Eh (.ListComp elt [⟨tg,iter,ifs,0⟩,⟨tg2,iter2,ifs2,0⟩] csc cpos) (some (.Name y py)) spos.line X.a=pure true:=by rfl)
 (hf:X.n y=true\/X.a.scope.names.lookup y=some .local:=by first|exact .inl rfl|exact .inr rfl|assumption)
 (hs:∀x,A2 iter X.a x=pure x:=by intro _;rfl)
 (hs2:∀env x,A2 iter2 env x=pure x:=by intro _ _;rfl) :
 PS X (.Assign [.Name y py] (.ListComp elt [⟨tg,iter,ifs,0⟩,⟨tg2,iter2,ifs2,0⟩] csc cpos) spos) (tE (uf fr wi g ts λacc=>pj wi2 g2 ts2 (tN acc te)) (wM i)):=
 ke hc S hi (B:=λacc env=>(do
         let x <-eval iter2 env
         standAt iter2.pos
         let x <-A2 iter2 env x;let _ <-runOwn (.compStart (.ListComp elt [⟨tg,iter,ifs,0⟩,⟨tg2,iter2,ifs2,0⟩] csc cpos) 1 (<-holding [x] (pyIter x)) acc env) env)) (Vn elt tg iter ifs tg2 iter2 ifs2 csc cpos) hg ht
  (λC s0 H0 ex acc=>kR rfl hc (hi2 C s0 H0 ex) (hg2 C s0 H0 ex) (ht2 C s0 H0 ex) (qf (he C s0 H0 ex)) (hs2 _)) hN hy hx hsw hf hs
end
end L2
end
section
namespace L2
open PySem PySem.Calls PyProof PyProof.Rows
open AutoSeq1 (wpAny_loadPart')
section
variable {prog:Program}{w:World}{A:Around}{E:Value->Shared->Prop}{s:Shared}
theorem qQ(hit:s.heap.IsTupleIter it t i)(ht:s.heap.IsTuple t items)(hx:items[i]?=some x)
 (hQ:∀h',h'.IsTupleIter it t (i+1)->Dy it s.heap h'->Q x {s with heap:=h'}):wpAny (model prog w) A (CI (.ref it)) Q E s:=by
 obtain⟨o,ho,hc,hd⟩:=id hit;obtain⟨ol,hol,_,nl,hdl⟩:=ht;unfold CI;refine dS (Cj (name:=De "__next__") hit.typeIs CB
  (Dj CB hit.typeIs EZ ?_ (ES _)))
 show wpAny _ _ (field (.ref it) 0 >>= _) _ _ s;refine dS (Co ho hd (x:=.ref t) rfl ?_);show wpAny _ _ (if (A5 t == Ck)=true then _ else _) _ _ s
 rw[if_neg (show ¬((A5 t == Ck)=true) from Ab)];show wpAny _ _ (field (.ref it) 1 >>= _) _ _ s;refine dS (Co ho hd (x:=.int i 0) rfl ?_);show wpAny _ _ (seqItems? (.ref t) >>= _) _ _ s;refine dS (wpAny_seqItems hol hdl ?_);simp only[AN,hx];refine dS (Gn ho hd (by simp) (Ai ⟨x,rfl,Ai (hQ _ ?_ (Dy.update ..))⟩))
 exact⟨_,Ej _ ho (Obj.isFreed_of_fields (Obj.data_mapFields hd _)),(Obj.cls_mapFields ..).trans hc,by
  rw[Obj.data_mapFields hd];simp[rawInt]⟩
theorem pL(hh:A.handled=none)(hit:s.heap.IsTupleIter it t i)(ht:s.heap.IsTuple t items)(hx:items[i]?=none)
 (hE:∀h' e,Heap.ExtBut it s.heap h'->(∃o,h'.get? e=some o/\o.cls=.type "StopIteration")->E (.ref e) {s with heap:=h'}):wpAny (model prog w) A (CI (.ref it)) Q E s:=by
 obtain⟨o,ho,hc,hd⟩:=id hit;obtain⟨ol,hol,_,nl,hdl⟩:=ht;unfold CI;refine dS (Cj (name:=De "__next__") hit.typeIs CB
  (Dj CB hit.typeIs EZ ?_ (ES _)))
 show wpAny _ _ (field (.ref it) 0 >>= _) _ _ s;refine dS (Co ho hd (x:=.ref t) rfl ?_);show wpAny _ _ (if (A5 t == Ck)=true then _ else _) _ _ s
 rw[if_neg (show ¬((A5 t == Ck)=true) from Ab)];show wpAny _ _ (field (.ref it) 1 >>= _) _ _ s;refine dS (Co ho hd (x:=.int i 0) rfl ?_);show wpAny _ _ (seqItems? (.ref t) >>= _) _ _ s;refine dS (wpAny_seqItems hol hdl ?_);simp only[AN,hx]
 first
  |refine dS (DO (dS (Gn ho hd (by simp) ?_)))
  |refine dS (Gn ho hd (by simp) ?_)
 first
  |show wpAny _ _ (newExc (.type "StopIteration") [] >>= _) _ _ _
  |(refine dS (wpAny_letGo ?_);show wpAny _ _ (newExc (.type "StopIteration") [] >>= _) _ _ _)
 refine dS ?_;simp only[newExc,newTuple];refine dS (Bg ?_ (by size_fits))
 refine dS (m:=firstArgMember _ _) (wpAny_of_eq (a:=Ck) (by first|rfl|(simp only[firstArgMember];rfl)) ?_)
 refine Bg ?_ (by size_fits)
 simp only[raiseNew];refine dS (wpAny_handled ?_)
 first|rw[show A.in1.handled=none from hh]|rw[hh]
 refine dS (Ai (wpAny_throw ?_));exact hE _ _ (((Dy.update ..).extBut.push _).push _) ⟨_,AB _ rfl,rfl⟩
end
theorem ot(hh:A.handled=none)it t(hne:t≠it)items :
 Draws prog w A it [it,t] items.size (λi v=>items[i]?=some v) (λi h=>h.IsTupleIter it t i/\h.IsTuple t items) where
 live:=λ_ _ st=>let ⟨o,ho,_⟩:=st.1;⟨o,ho⟩
 frame:=λ_ _ _ st hk=>⟨st.1.at λo e=>hk it (by simp) o e,let ⟨o,ho,r⟩:=st.2;⟨o,hk t (by simp) o ho,r⟩⟩
 item:=λi s Q E hi st hQ=>by
  refine qQ st.1 st.2 (x:=items[i]) (by simp[hi]) λh' hit' hs'=>?_
  exact hQ _ h' s.toks (by simp[hi]) ⟨hit',let ⟨o,ho,r⟩:=st.2;⟨o,hs'.extBut t o hne ho,r⟩⟩ hs'
 done:=λs Q E st hE=>pL hh st.1 st.2 (by simp) hE
theorem pI l items n dct sl :
 Meets (Builtin.«enumerate.__new__» ⟨[.type "enumerate",.ref l],[]⟩) (λ_ R s=>s.heap.get? l=some {cls:=.type "tuple",dict:=dct,data:=.seq items n,slots:=sl} /\
  R (.ok (.ret (.ref (s.heap.push {cls:=.type "tuple_iterator",data:=.fields #[.ref l,.int 0 0]}).objs.size)))
    {s with heap:=(s.heap.push {cls:=.type "tuple_iterator",data:=.fields #[.ref l,.int 0 0]}).push {cls:=.type "enumerate",data:=.fields #[.none,.bool false,.ref s.heap.objs.size,rawInt 0,.none,.none]}}):=
 .of_wp λprog w A R s h=>by
  obtain⟨hp,g,d,tk,os⟩:=s;obtain⟨hl,h⟩:=h;have hsub:=sub_enumerate;have hL:Heap.IsTuple (Shared.heap ⟨hp,g,d,tk,os⟩) l items:=⟨_,hl,rfl,n,rfl⟩
  wp_walk using BN hl
  refine wpAny_stack_any λst=>Ai ?_;split
  . rename_i c _ _ _ _ _
    cases (c == Fx "enumerate")
    . wp_walk using BN hl,Cr hL
      exact⟨_,rfl,h⟩
    . wp_walk using BN hl,Cr hL
      exact⟨_,rfl,h⟩
  . wp_walk using BN hl,Cr hL
    exact⟨_,rfl,h⟩
section
variable {prog:Program}{w:World}{A:Around}{E:Value->Shared->Prop}{s:Shared}
theorem oH(hL:s.heap.IsTuple l items)
 (h:∀h',IsEnum h' (s.heap.objs.size+1) s.heap.objs.size 0 .none->h'.IsTupleIter s.heap.objs.size l 0->h'.objs.size=s.heap.objs.size+2 ->
  (∀b o,s.heap.get? b=some o->h'.get? b=some o)->Q (.ref (s.heap.objs.size+1)) {s with heap:=h'}) :
 wpAny (model prog w) A (call (.type "enumerate") [.ref l]) Q E s:=by
 obtain⟨⟨c,dct,dt,sl⟩,hl,hc,n,hd⟩:=hL;replace hc:c=.type "tuple":=hc;replace hd:dt=.seq items n:=hd;subst hc hd;refine callType_new F.called_enumerate (by decide) (F.typeCall_enumerate_1 _) (F.newCall_enumerate_1 _) (λobj=>F.args_object_init_2 obj _) F.entry_enumerate_new
  (pI l items n dct sl) ⟨hl,?_⟩
 have hz:(s.heap.push {cls:=.type "tuple_iterator",data:=.fields #[.ref l,.int 0 0]}).objs.size=s.heap.objs.size+1:=Bi ..;show _/\_;rw[hz];have he:IsEnum ((s.heap.push {cls:=.type "tuple_iterator",data:=.fields #[.ref l,.int 0 0]}).push
  {cls:=.type "enumerate",data:=.fields #[.none,.bool false,.ref s.heap.objs.size,rawInt 0,.none,.none]}) (s.heap.objs.size+1) s.heap.objs.size 0 .none:=by
  have:=AB (s.heap.push {cls:=.type "tuple_iterator",data:=.fields #[.ref l,.int 0 0]})
   (o:={cls:=.type "enumerate",data:=.fields #[.none,.bool false,.ref s.heap.objs.size,rawInt 0,.none,.none]}) rfl
  rw[hz]at this;exact this
 refine⟨⟨_,he,rfl⟩,h _ he ⟨_,nx _ (AB _ rfl),rfl,rfl⟩ (by rw[Bi,hz]) λb o x=>nx _ (nx _ x)⟩
end
end L2
end
section
namespace L2
open PySem PySem.Calls PyProof PyProof.Rows
noncomputable def Ite(K:Ag)(a:Addr):It:=
 ⟨λi H=>∃xs x,SqT K H a xs/\xs[i]?=some x,λi H x H'=>∃t y,H t=none/\x=.c t/\(∀xs,SqT K H a xs->xs[i]?=some y)/\H'=upd H t (.c [.d (i:Nat),y]),λi H=>∃xs,SqT K H a xs/\xs.length=i⟩
theorem Inv.fM(I:Inv X pins σ H s)(fe:uz X pins H e)(fi:uz X pins H it)
 (k:∀b o,b≠e->b≠it->s.heap.get? b=some o->h'.get? b=some o) (hT:s.heap.objs.size<=T) (hz:ys.length<=Av) (r:Vals ys its) (ho:h'.get? T=some {cls:=.type "tuple",data:=.seq its.toArray n}) :
 Inv X pins σ (upd H T (.c ys)) {s with heap:=h',toks:=t'}:=by
 obtain⟨e0,e1,e2,e3,e4,e5⟩:=fe;obtain⟨i0,i1,i2,i3,i4,i5⟩:=fi;have hn:H T=none:=I.j.fresh hT;have neT:∀b u,H b=some u->b≠T:=λb u q z=>by rw[z,hn]at q;cases q
 have nee:∀b u,H b=some u->b≠e:=λb u q z=>by rw[z,e0]at q;cases q
 have nei:∀b u,H b=some u->b≠it:=λb u q z=>by rw[z,i0]at q;cases q
 have neoT:∀b o,s.heap.get? b=some o->b≠T:=λb o q z=>absurd (Ax (Ak q) hT) (by rw[z];exact Bj _)
 refine I.step (g':=s.gens) (d':=s.drawn) (ch:=[e,it]) (λb hb=>?_) (λb o _ _ hc q _=>k b o (λz=>hc (by simp[z])) (λz=>hc (by simp[z])) q) (λb o _ _ hc q _=>⟨o.slots,k b o (λz=>hc (by simp[z])) (λz=>hc (by simp[z])) q⟩)
  (λb o _ q m=>by rw[zL (neoT b o q)];exact m) (λb o hc q=>⟨o,k b o (λz=>hc (by simp[z])) (λz=>hc (by simp[z])) q⟩) (λb xs q=>by rw[zL (neT b _ q)];exact q) (λb o u q=>by rw[zL (neT b _ q)];exact q)
  (λb ps q=>⟨#[],by rw[zL (neT b _ q),q];simp⟩) (λm hm=>?_) (λb u q=>?_) I.D
 . rcases Af.mp hb with z|hb
   . subst z;exact⟨e3,e1,e4,e5⟩
   . have z:=AF.mp hb
     subst z;exact⟨i3,i1,i4,i5⟩
 . obtain⟨o,es,ep,ho,r⟩:=hm
   exact⟨o,es,ep,k _ o (Bu e1) (Bu i1) ho,r⟩
 . by_cases hb:b=T
   . subst hb
     rw[zN]at q;cases q;exact⟨hz,its,r,_,ho,rfl,n,rfl,rfl⟩
   . rw[zL hb]at q
     refine(I.j b u q).oU (λc v hc w=>k c v ?_ ?_ w) (λc hc=>by rw[zL (neT c _ hc)];exact hc) λc xs hc=>by rw[zL (neT c _ hc)];exact hc
     . rcases hc with z|z
       . rw[z];exact nee b u q
       . exact nee c _ z
     . rcases hc with z|z
       . rw[z];exact nei b u q
       . exact nei c _ z
theorem Inv.fL(I:Inv X pins σ H s)(fi:uz X pins H it)(k:∀b o,b≠it->s.heap.get? b=some o->h'.get? b=some o):Inv X pins σ H {s with heap:=h',toks:=t'}:=by obtain⟨i0,i1,i2,i3,i4,i5⟩:=fi;exact I.turned k i0 i1 i3 i4 i5
theorem dj{K}a e it(hei:e≠it):Turn P w K (.Tuple elts x1 pos) (Ite K a) [e,it] e (λi h=>(∃old,IsEnum h e it (i:Nat) old)/\h.IsTupleIter it a i) where
 g:=by simp
 c:=λi h st b hb=>by
  rcases Af.mp hb with z|hb
  . subst z
    obtain⟨old,he⟩:=st.1;exact⟨_,he,λv z=>by cases (show Ga _=Data.cell v from z)⟩
  . have z:=AF.mp hb
    subst z;obtain⟨o,q,c,d⟩:=st.2;exact⟨o,q,λv z=>by rw[d]at z;cases z⟩
 a:=λi h h' st k=>⟨let ⟨old,he⟩:=st.1;⟨old,k e (by simp) _ he⟩,st.2.at λo q=>k it (by simp) o q⟩
 e:=by
  intro X hP hw hK hc i pins s σ H E I hf st hg;subst hP hw hK;obtain⟨xs,x,hq,hx⟩:=hg;obtain⟨⟨old,he⟩,hit⟩:=st;obtain⟨its,rv,p,hz⟩:=I.tuple hq;obtain⟨u,hu,ru⟩:=rv.get hx;have hlen:=rv.length;have hi:i<xs.length:=(Aj.mp hx).1;have hai:a≠it:=λz=>by obtain⟨o1,q1,c1,_⟩:=id p;obtain⟨o2,q2,c2,_⟩:=id hit;rw[z,q2]at q1;cases q1;rw[c2]at c1;exact absurd (Df c1) (by decide)
  have hae:a≠e:=λz=>by obtain⟨o1,q1,c1,_⟩:=id p;have he':s.heap.get? e=_:=he;rw[z,he']at q1;cases q1;exact absurd (Df c1) (by decide)
  have D:=ot (prog:=X.f) (w:=X.w) (A:=X.A.in1) (I.B.i hc) it a hai its.toArray;refine FW D he ⟨hit,p⟩ (by rw[Ae];omega) hei (λm=>?_) λv h1 tk hP ho hs1 hT hsz hk=>?_
  . rcases Af.mp m with z|m
    . exact hei z
    . exact hae (AF.mp m).symm
  . have hP:its.toArray[i]?=some v:=hP
    have ev:v=u:=by rw[Em,hu]at hP;exact(Aw hP).symm
    subst ev;refine⟨_,rfl,Fc (s:={s with heap:=h1,toks:=tk+1}) ho λh2 he2 sb=>?_⟩
    have sz:s.heap.objs.size≠e:=DA (Ak he);refine⟨.c s.heap.objs.size,_,Inv.fM (s:=s) (h':=h2) (t':=tk+1) (T:=s.heap.objs.size) (ys:=[.d (i:Nat),x]) (its:=[.int (i:Nat) tk,v]) (n:=0) I (hf e (by simp)) (hf it (by simp)) (λb o h1' h2' q=>(sb.2 b h1').trans (hk b o h1' h2' q)) (Ac _) (by rw[AV];show 2<=_;decide) (.cons ⟨tk,rfl⟩ (.cons ru .nil)) ((sb.2 _ sz).trans hT),rfl,
     ⟨s.heap.objs.size,x,I.j.fresh (Ac _),rfl,λys hy=>by rw[I.nZ hy hq];exact hx,rfl⟩,⟨⟨v,by simpa using he2⟩,hs1.1.at λo q=>(sb.2 it (Bu hei)).trans q⟩,λb hb=>?_⟩
    rw[zL (λz=>?_)]
    . exact(hf b hb).1
    . have hlt:b<s.heap.objs.size:=by
       rcases Af.mp hb with y|hb
       . rw[y];exact Ak he
       . rw[AF.mp hb];obtain⟨o,q,_⟩:=hit;exact Ak q
      exact absurd z (AE hlt)
 d:=by
  intro X hP hw hK hc i pins s σ H E I hf st hg;subst hP hw hK;obtain⟨xs,hq,hx⟩:=hg;obtain⟨⟨old,he⟩,hit⟩:=st;obtain⟨its,rv,p,hz⟩:=I.tuple hq;have hlen:=rv.length;have hai:a≠it:=λz=>by obtain⟨o1,q1,c1,_⟩:=id p;obtain⟨o2,q2,c2,_⟩:=id hit;rw[z,q2]at q1;cases q1;rw[c2]at c1;exact absurd (Df c1) (by decide)
  have D:=ot (prog:=X.f) (w:=X.w) (A:=X.A.in1) (I.B.i hc) it a hai its.toArray;have en:its.toArray.size=i:=by rw[Ae];omega
  exact wpAny_pyNext_enum_endD D he ⟨by rw[en];exact hit,p⟩ λh' eb=>⟨rfl,I.fL (t':=s.toks) (hf it (by simp)) λb o hb q=>eb b o hb q⟩
 f:=λ_ _ _ _ _ st h=>let ⟨old,he⟩:=st.1;DZ he h
noncomputable def Vt(K:Ag)(a:Addr):It:=
 ⟨λi H=>∃xs x,SqL K H a xs/\xs[i]?=some x,λi H x H'=>∃t y,H t=none/\x=.c t/\(∀xs,SqL K H a xs->xs[i]?=some y)/\H'=upd H t (.c [.d (i:Nat),y]),λi H=>∃xs,SqL K H a xs/\xs.length=i⟩
theorem hV{K}a e it(hei:e≠it):Turn P w K (.Tuple elts x1 pos) (Vt K a) [e,it] e (λi h=>(∃old,IsEnum h e it (i:Nat) old)/\h.IsListIter it a i) where
 g:=by simp
 c:=λi h st b hb=>by
  rcases Af.mp hb with z|hb
  . subst z
    obtain⟨old,he⟩:=st.1;exact⟨_,he,λv z=>by cases (show Ga _=Data.cell v from z)⟩
  . have z:=AF.mp hb
    subst z;obtain⟨o,q,c,d⟩:=st.2;exact⟨o,q,λv z=>by rw[d]at z;cases z⟩
 a:=λi h h' st k=>⟨let ⟨old,he⟩:=st.1;⟨old,k e (by simp) _ he⟩,st.2.at λo q=>k it (by simp) o q⟩
 e:=by
  intro X hP hw hK hc i pins s σ H E I hf st hg;subst hP hw hK;obtain⟨xs,x,hq,hx⟩:=hg;obtain⟨⟨old,he⟩,hit⟩:=st;obtain⟨its,rv,p0,hz⟩:=I.list hq;have p:=p0.isList;obtain⟨u,hu,ru⟩:=rv.get hx;have hlen:=rv.length;have hi:i<xs.length:=(Aj.mp hx).1;have hai:a≠it:=λz=>by obtain⟨o1,q1,c1,_⟩:=id p;obtain⟨o2,q2,c2,_⟩:=id hit;rw[z,q2]at q1;cases q1;rw[c2]at c1;exact absurd (Df c1) (by decide)
  have hae:a≠e:=λz=>by obtain⟨o1,q1,c1,_⟩:=id p;have he':s.heap.get? e=_:=he;rw[z,he']at q1;cases q1;exact absurd (Df c1) (by decide)
  have D:=Draws.list (prog:=X.f) (w:=X.w) (A:=X.A.in1) (I.B.i hc) it a hai its.toArray;refine FW D he ⟨hit,p⟩ (by rw[Ae];omega) hei (λm=>?_) λv h1 tk hP ho hs1 hT hsz hk=>?_
  . rcases Af.mp m with z|m
    . exact hei z
    . exact hae (AF.mp m).symm
  . have hP:its.toArray[i]?=some v:=hP
    have ev:v=u:=by rw[Em,hu]at hP;exact(Aw hP).symm
    subst ev;refine⟨_,rfl,Fc (s:={s with heap:=h1,toks:=tk+1}) ho λh2 he2 sb=>?_⟩
    have sz:s.heap.objs.size≠e:=DA (Ak he);refine⟨.c s.heap.objs.size,_,Inv.fM (s:=s) (h':=h2) (t':=tk+1) (T:=s.heap.objs.size) (ys:=[.d (i:Nat),x]) (its:=[.int (i:Nat) tk,v]) (n:=0) I (hf e (by simp)) (hf it (by simp)) (λb o h1' h2' q=>(sb.2 b h1').trans (hk b o h1' h2' q)) (Ac _) (by rw[AV];show 2<=_;decide) (.cons ⟨tk,rfl⟩ (.cons ru .nil)) ((sb.2 _ sz).trans hT),rfl,
     ⟨s.heap.objs.size,x,I.j.fresh (Ac _),rfl,λys hy=>by rw[I.kD hy hq];exact hx,rfl⟩,⟨⟨v,by simpa using he2⟩,hs1.1.at λo q=>(sb.2 it (Bu hei)).trans q⟩,λb hb=>?_⟩
    rw[zL (λz=>?_)]
    . exact(hf b hb).1
    . have hlt:b<s.heap.objs.size:=by
       rcases Af.mp hb with y|hb
       . rw[y];exact Ak he
       . rw[AF.mp hb];obtain⟨o,q,_⟩:=hit;exact Ak q
      exact absurd z (AE hlt)
 d:=by
  intro X hP hw hK hc i pins s σ H E I hf st hg;subst hP hw hK;obtain⟨xs,hq,hx⟩:=hg;obtain⟨⟨old,he⟩,hit⟩:=st;obtain⟨its,rv,p0,hz⟩:=I.list hq;have p:=p0.isList;have hlen:=rv.length;have hai:a≠it:=λz=>by obtain⟨o1,q1,c1,_⟩:=id p;obtain⟨o2,q2,c2,_⟩:=id hit;rw[z,q2]at q1;cases q1;rw[c2]at c1;exact absurd (Df c1) (by decide)
  have D:=Draws.list (prog:=X.f) (w:=X.w) (A:=X.A.in1) (I.B.i hc) it a hai its.toArray;have en:its.toArray.size=i:=by rw[Ae];omega
  exact wpAny_pyNext_enum_endD D he ⟨by rw[en];exact hit,p⟩ λh' eb=>⟨rfl,I.fL (t':=s.toks) (hf it (by simp)) λb o hb q=>eb b o hb q⟩
 f:=λ_ _ _ _ _ st h=>let ⟨old,he⟩:=st.1;DZ he h
def Rc(K:Ag)(ta:TA):TI:=λσ H R=>ta σ H λvs H1=>∃a,vs=[.c a]/\(((∃xs,SqT K H1 a xs)/\R (Ite K a) H1)\/((∃xs,SqL K H1 a xs)/\R (Vt K a) H1))
theorem WM(hg:Gl X "enumerate")(hm:X.d "enumerate"=none)(ha:PA X [a] ta)(hs:AI [a] X.a=[(false,eval a X.a)]:=by rfl):PI X (.Tuple elts x1 tpos) (.Call (.Name "enumerate" p) [a] [] pos) (Rc X.K ta):=by
 intro pins s σ H R I h;refine Call_ (vv I hg hm boot_enumerate (BH (thn (ha pos pins s σ H _ I h) λus s1 ⟨vs,H1,I1,r1,q1⟩=>?_) hs rfl));obtain⟨c,e,q⟩:=q1;subst e;cases r1 with
 |cons r rr=>
  cases rr;cases r;have fp:∀b∈[s1.heap.objs.size+1,s1.heap.objs.size],uz X pins H1 b:=λb hb=>by
   have hb':s1.heap.objs.size<=b:=by
    rcases Af.mp hb with z|hb
    . rw[z];exact C7 _
    . rw[AF.mp hb];exact Ac _
   exact I1.Y8 hb' (I1.j.fresh hb')
  rcases q with⟨⟨xs,hq⟩,q⟩|⟨⟨xs,hq⟩,q⟩
  . obtain⟨its,rv,pt,hz⟩:=I1.tuple hq
    refine oH (show s1.heap.IsTuple c its.toArray from pt) λh' he hit hsz hk=>DZ he ?_;exact⟨s1.heap.objs.size+1,[s1.heap.objs.size+1,s1.heap.objs.size],_,_,H1,rfl,I1.kept (t':=s1.toks) hk,dj c _ _ (Nat.succ_ne_self _),⟨⟨_,he⟩,hit⟩,fp,q⟩
  . obtain⟨its,rv,pt,hz⟩:=I1.list hq
    refine call_enumerate_list pt.isList λh' he hit hsz hk=>DZ he ?_;exact⟨s1.heap.objs.size+1,[s1.heap.objs.size+1,s1.heap.objs.size],_,_,H1,rfl,I1.kept (t':=s1.toks) hk,hV c _ _ (Nat.succ_ne_self _),⟨⟨_,he⟩,hit⟩,fp,q⟩
end L2
end
section
namespace L2
open PySem PyProof.Rows
noncomputable def intsOf:List Expr->Option (List Int)
 |[]=>some []
 |.Constant (.int i) _ _::es=>(intsOf es).map λr=>i::r
 |.UnaryOp .USub (.Constant (.int i) _ _) _::es=>(intsOf es).map λr=>-i::r
 |_=>none
end L2
end
section
namespace L2
open PySem PyProof.Rows
section
variable {X:Cx}{a b:Expr}{rest:List Expr}{ta tb:TE}{pos:Pos}
def P6(K:Ag)(ta tb:TE):TE:=λσ H Q=>ta σ H λx H1=>∃c,Yb K x H1 c/\if c=true then Q x H1 else tb σ H1 Q
theorem Tn(ha:PE X a ta)(hb:PE X (.BoolOp .Or (b::rest) pos) tb):PE X (.BoolOp .Or (a::b::rest) pos) (P6 X.K ta tb):=by
 intro pins s σ H Q I h;refine BoolOp_or (thn (ha pins s σ H _ I h) λv s1 ⟨x,H1,I1,r1,c,ht,q1⟩=>?_);refine thn (YJ pins s1 σ H1 x v (λk H2=>if k=true then Q x H2 else tb σ H2 Q) I1 r1 ⟨c,ht,q1⟩) λk s2 ⟨H2,I2,q2⟩=>?_
 cases k with
 |false=>exact hb pins s2 σ H2 Q I2 q2
 |true=>exact⟨x,H2,I2,r1,q2⟩
end
noncomputable def uQ(n:Nat)(lo hi:Option Int)(c:Int):Int × Nat:=((Bs lo hi (some c) n).1,(if c > 0 then (if (Bs lo hi (some c) n).1<(Bs lo hi (some c) n).2.1 then ((Bs lo hi (some c) n).2.1-(Bs lo hi (some c) n).1+c-1)/c else 0) else (if (Bs lo hi (some c) n).1 > (Bs lo hi (some c) n).2.1 then ((Bs lo hi (some c) n).1-(Bs lo hi (some c) n).2.1-c-1)/(-c) else 0):Int).toNat)
theorem ug its lo hi c:GG its.toArray lo hi (some c)=(zm its (uQ its.length lo hi c).1 c (uQ its.length lo hi c).2).toArray:=by unfold GG sliceRange zm uQ;rw[B6];refine congrArg List.toArray ?_;have e:(Bs lo hi (some c) its.toArray.size).2.2=c:=rfl;rw[e];simp only[Ae];refine congrArg (λf=>List.filterMap f _) ?_;funext k;show its.toArray[_]?=_;rw[Em,Int.mul_comm]
def Qr(K:Ag):V->Option Int->Option Int->Option Int->Hp->VK->Prop:=λx lo hi st H Q=>∃a xs c,x=.c a/\SqL K H a xs/\st=some c/\c≠0/\∀p,H p=none->Q (.c p) (upd H p (.b (zm xs (uQ xs.length lo hi c).1 c (uQ xs.length lo hi c).2)))
theorem iK{lo hi}{st}(he:PE X e te)(hl:PO X lo tl)(hu:PO X hi th)(hc:PO X (some st) tc):PE X (.Subscript e (.Slice lo hi (some st) p2) pos) (PJ (Qr X.K) te tl th tc):=by
 intro pins s σ H Q I h;refine Gu (thn (he pins s σ H _ I h) λv s1 ⟨x,H1,I1,r1,q1⟩=>?_);refine wpAny_Slice (thn (hl pins s1 σ H1 _ I1 q1) λvl s2 ⟨l,H2,I2,pl,q2⟩=>thn (hu pins s2 σ H2 _ I2 q2) λvu s3 ⟨u,H3,I3,pu,q3⟩=>thn (hc pins s3 σ H3 _ I3 q3) λvc s4 ⟨c,H4,I4,pc,q4⟩=>?_);obtain⟨a,xs,cc,rfl,hx,ec,h0,g⟩:=q4;subst ec;cases r1;have I5:Inv X pins σ H4 {s4 with heap:=s4.heap.push {cls:=.type "slice",data:=.fields #[vl,vu,vc]}}:=I4.kept (t':=s4.toks) λb ob q=>nx _ q
 obtain⟨its,r,ht,hz⟩:=I5.list hx;have hlen:=r.length;show wpAny (model X.f X.w) X.A (E7 e (.Slice lo hi (some st) p2) (.ref a) (.ref s4.heap.objs.size)) (EP X pins σ Q) X.j {s4 with heap:=s4.heap.push {cls:=.type "slice",data:=.fields #[vl,vu,vc]}}
 refine tail_any (ops:=[.ref a,.ref s4.heap.objs.size]) ht.isList.typeIs Fq.lookup (FI ht.isList (EW ..) pl pu pc (λz=>h0 (Aw z)) ?_ (by rw[Ae]<;>omega)) (by with_unfolding_all rfl)
 rw[ug,<-hlen];refine⟨.c _,_,I5.laid (t':=s4.toks) (o:=.b (zm xs (uQ xs.length l u cc).1 cc (uQ xs.length l u cc).2)) (λb ob q=>nx _ q) (Ac _) ?_,rfl,g _ (I5.j.fresh (Ac _))⟩;have rp:=r.zm (uQ xs.length l u cc).1 cc (uQ xs.length l u cc).2;have bound:(zm xs (uQ xs.length l u cc).1 cc (uQ xs.length l u cc).2).length<=xs.length:=by have:=slicePick_size_le its.toArray l u (some cc);rw[ug,Ae,Ae,<-hlen,<-rp.length]at this;exact this
 exact⟨Au bound hz,_,0,rp,AB _ rfl⟩
end L2
end
section
namespace L2
open PySem PyProof PyProof.Rows
section
variable {X:Cx}
theorem any_range:∀(bs:List Bool),((Aq bs.length).any λi=>bs.getD i false)=bs.any id:=by
 intro bs;induction bs with
 |nil=>rfl
 |cons b bs ih=>
  rw[AK,Cp,BZ,BZ,FR];exact congrArg (b||·) (Gw (by congr 1) ih)
theorem qr(hc:X.h=true):yY X (.builtin "any") (λxs H Q=>∃(a:Addr) (bs:List Bool),xs=[.c a]/\SqL X.K H a (bs.map V.f)/\Q (.f (bs.any id)) H):=by
 intro pins s σ H xs us Q I r h;obtain⟨a,bs,rfl,ha,q⟩:=h;obtain⟨u,rfl,ru⟩:=vals1 r;cases ru;obtain⟨its,rv,pl,hz⟩:=I.list ha;have hits:=rv.bools;have alt:a<s.heap.objs.size:=by obtain⟨o,ho,_⟩:=pl.isList;exact Ak ho
 refine call_any_walk (C8 pl.isList ?_);refine⟨s.heap.objs.size,_,_,_,_,_,λi=>bs.getD i false,rfl,Gx (A:=X.A.in1) (I.B.i hc) s.heap.objs.size a (AE alt) its.toArray,⟨⟨_,AB _ rfl,rfl,rfl⟩,?_⟩,?_,λh' tk hk=>?_⟩
 . obtain⟨o,ho,hc',n,hd⟩:=pl.isList
   exact⟨o,nx _ ho,hc',n,hd⟩
 . intro i v s' Q' E' hv hq
   have hv':(bs.map Cm)[i]?=some v:=by rw[<-hits];simpa using hv
   rw[AG]at hv';cases hb:bs[i]? with
   |none=>rw[hb]at hv';cases hv'
   |some b=>
    rw[hb]at hv';have:v=Cm b:=(Aw hv').symm;subst this;have e:bs.getD i false=b:=by rw[Al,hb];rfl
    have hq':Q' (bs.getD i false) s':=hq;rw[e]at hq';exact Br hq'
 . have e:(Aq its.toArray.size).any (λi=>bs.getD i false)=bs.any id:=by rw[Ae,hits,Aa];exact any_range bs
   rw[e];refine⟨.f (bs.any id),H,I.kept λb o ho=>hk b o ?_ (nx _ ho),rfl,q⟩;simpa using AE (Ak ho)
noncomputable def Rv(z:Str)(ys:List Str):Str:=Txt.join z ys
end
end L2
end
section
namespace L2
open PySem PySem.Spec PyProof PyProof.Rows
section
variable {X:Cx}
noncomputable def Q4(ns:List Int):Bool:=decide (ns.length<=1000)&&ns.all λn=>decide (-1000000<=n)&&decide (n<=1000000)
end
end L2
end
section
namespace L2
open PySem PySem.W PySem.Calls PyProof PyProof.Rows
open AutoSeq1 (wpAny_loadPart')
open SeqAt
theorem bc:∀{xs} {us},Vals xs us->xs.all xy=true->us.map (eqU x)=xs.map λy=>eqV y x
 |_,_,.nil,_=>rfl
 |y::ys,u::us,.cons r rs,h=>by rw[BB,cf]at h;rw[AJ,AJ,bc rs h.2,mO r h.1]
section
variable {X:Cx}
def Zn(K:Ag)(g:List Int->Int):List V->Hp->VK->Prop:=λxs H Q=>∃(a:Addr) (ns:List Int),xs=[.c a]/\SqT K H a (ns.map V.d)/\ns≠[]/\Q (.d (g ns)) H
theorem fV(hc:X.h=true):yY X (.builtin "max") (Zn X.K (uG 0)):=by
 intro pins s σ H xs us Q I r h;obtain⟨a,ns,rfl,ha,hne,q⟩:=h;obtain⟨u,rfl,ru⟩:=vals1 r;cases ru;obtain⟨its,rv,pl,hz⟩:=I.tuple ha;have hlen:=rv.length;have alt:a<s.heap.objs.size:=by obtain⟨o,ho,_⟩:=id pl;exact Ak ho
 have hl:its.toArray.size=ns.length:=by rw[Ae,<-hlen,Aa]
 have hpos:0<ns.length:=CV.mpr hne;have hat:∀(i:Nat) (v:Value),its.toArray[i]?=some v->∃t,v=.int (ns.getD i 0) t:=λi v hv=>rv.ints (by simpa using hv)
 refine call_max_walk (Cr pl ?_);refine⟨s.heap.objs.size,_,_,_,_,_,_,rfl,Walks.tuple (A:=X.A.in1) (I.B.i hc) s.heap.objs.size a (AE alt) its.toArray,⟨⟨_,AB _ rfl,rfl,rfl⟩,?_⟩,λb hb=>?_,by omega,CmpOf.ints_gt (λi=>ns.getD i 0) hat,λv h' tk hP hk=>?_⟩
 . obtain⟨o,ho,hc',n,hd⟩:=id pl
   exact⟨o,nx _ ho,hc',n,hd⟩
 . rw[Bi]
   simp only[Af,AU,or_false]at hb;rcases hb with e|e
   . rw[e];exact Dl _
   . rw[e];exact CC alt
 . obtain⟨t,rfl⟩:=hat _ _ hP
   obtain⟨b1,b2⟩:=argBest_gt (λi=>ns.getD i 0) (its.toArray.size-1);have e:uG 0 ns=ns.getD (argBest (λi j=>decide (ns.getD i 0 > ns.getD j 0)) (its.toArray.size-1)) 0:=by
    refine kE ?_ λx hx=>?_
    . have:argBest (λi j=>decide (ns.getD i 0 > ns.getD j 0)) (its.toArray.size-1)<ns.length:=by omega
      rw[Al,xd this];exact B2 this
    . obtain⟨i,hi,rfl⟩:=BM hx
      have:=b2 i (by omega)
      simpa [Al,xd hi] using this
   refine⟨.d (uG 0 ns),H,I.kept λb o ho=>hk b o ?_ (nx _ ho),⟨t,by rw[e]⟩,q⟩
   simpa using AE (Ak ho)
theorem jZ(hc:X.h=true):yY X (.builtin "min") (Zn X.K (uY 0)):=by
 intro pins s σ H xs us Q I r h;obtain⟨a,ns,rfl,ha,hne,q⟩:=h;obtain⟨u,rfl,ru⟩:=vals1 r;cases ru;obtain⟨its,rv,pl,hz⟩:=I.tuple ha;have hlen:=rv.length;have alt:a<s.heap.objs.size:=by obtain⟨o,ho,_⟩:=id pl;exact Ak ho
 have hl:its.toArray.size=ns.length:=by rw[Ae,<-hlen,Aa]
 have hpos:0<ns.length:=CV.mpr hne;have hat:∀(i:Nat) (v:Value),its.toArray[i]?=some v->∃t,v=.int (ns.getD i 0) t:=λi v hv=>rv.ints (by simpa using hv)
 refine call_min_walk (Cr pl ?_);refine⟨s.heap.objs.size,_,_,_,_,_,_,rfl,Walks.tuple (A:=X.A.in1) (I.B.i hc) s.heap.objs.size a (AE alt) its.toArray,⟨⟨_,AB _ rfl,rfl,rfl⟩,?_⟩,λb hb=>?_,by omega,CmpOf.ints_lt (λi=>ns.getD i 0) hat,λv h' tk hP hk=>?_⟩
 . obtain⟨o,ho,hc',n,hd⟩:=id pl
   exact⟨o,nx _ ho,hc',n,hd⟩
 . rw[Bi]
   simp only[Af,AU,or_false]at hb;rcases hb with e|e
   . rw[e];exact Dl _
   . rw[e];exact CC alt
 . obtain⟨t,rfl⟩:=hat _ _ hP
   obtain⟨b1,b2⟩:=argBest_lt (λi=>ns.getD i 0) (its.toArray.size-1);have e:uY 0 ns=ns.getD (argBest (λi j=>decide (ns.getD i 0<ns.getD j 0)) (its.toArray.size-1)) 0:=by
    refine kI ?_ λx hx=>?_
    . have:argBest (λi j=>decide (ns.getD i 0<ns.getD j 0)) (its.toArray.size-1)<ns.length:=by omega
      rw[Al,xd this];exact B2 this
    . obtain⟨i,hi,rfl⟩:=BM hx
      have:=b2 i (by omega)
      simpa [Al,xd hi] using this
   refine⟨.d (uY 0 ns),H,I.kept λb o ho=>hk b o ?_ (nx _ ho),⟨t,by rw[e]⟩,q⟩
   simpa using AE (Ak ho)
end
end L2
end
section
namespace L2
open PySem PySem.W PySem.Calls PyProof PyProof.Rows
open AutoSeq1 (wpAny_loadPart')
open SeqAt
noncomputable def R1:List Int->List Int->Bool
 |[],[]=>false
 |[],_::_=>true
 |_::_,[]=>false
 |x::xs,y::ys=>if x=y then R1 xs ys else decide (x<y)
end L2
namespace L2
open PySem PySem.W PySem.Calls PyProof PyProof.Rows
def R6:List (List Int)->List Int
 |[]=>[]
 |z::t=>t.foldl (λm y=>if R1 y m then y else m) z
end L2
end
section
namespace L2
open PySem PySem.W PySem.Calls PyProof PyProof.Rows
noncomputable def dN(ns:List Int):Nat:=(firstMet (λi=>ns.getD i 0) ns.length).length
end L2
end
section
namespace PySem
open Sem (wp)
structure wm(B newId initId:String)(bm:List Value):Prop extends ExcCallFacts B newId initId where
 b:splitId newId=some (B,"__new__")
 d:builtinKind newId=some .builtinFn
 e:Manifest.signature? newId=some ⟨.any,B,B,.cls,[⟨"args",.varPos,false⟩,⟨"kwargs",.varKw,false⟩]⟩
 a:bm.contains (.type B)=true
 c:bm.contains (.type "BaseException")=true
 f:bm.contains (.type "AttributeError")=false
 g:bm.contains (.type "NameError")=false
 h:Manifest.canonical newId=Manifest.canonical "BaseException.__new__"
theorem ExcBaseFacts.two(F:ExcBaseFacts B newId initId bm)D:wm B newId initId (.ref D::bm):=
 ⟨F.toExcCallFacts,F.newSplit,F.newKind,F.newRow,by rw[BJ,F.hasB,EF],by rw[BJ,F.hasBase,EF],by rw[BJ,F.noAttr];rfl,by rw[BJ,F.noName];rfl,F.canon⟩
section
variable {M:Model}{A:Around}{E:Value->Shared->Prop}{h:Heap}{g:Array GenState}{d:Drawn}{t:Nat}{os:OsState}
variable {nm q:Str}{C N:Addr}{bs bm:List Value}{hdct:Bool}{sn:List Str}{sub:List Value}{ab:Bool}{col:Option Bool}{dd:Option Addr}{k0 k1 k2 k3 k5:Option Value}{B newId initId:String}
theorem uK
 (hC:h.get? C=some (BU nm q C N bs bm hdct sn sub ab col dd k0 k1 k2 k3 k5 newId)) (hn:h.Ns N mN) (hni:mN name=none)
 (hD:h.get? D=some (BU nm1 q1 D N1 bs1 bm1 hd1 sn1 sub1 ab1 col1 dd1 j0 j1 j2 j3 j5 new1)) (hn1:h.Ns N1 mN1) (hni1:mN1 name=none) (hbm:bm=.ref D::bm1) (hb1:mroOf (.type B)=pure bm1) (hB:Gs (.type B) name=pure y)
 (hq:Q y ⟨h,g,d,t,os⟩):wpAny M A (Gs (.ref C) name) Q E ⟨h,g,d,t,os⟩:=by
 have hrest:lookupAlong bm1 name=pure y:=by rw[typeLookup_eq,hb1]at hB;exact hB
 rw[typeLookup_eq];refine dS (wpAny_mroOf_exc hC ?_);rw[lookupAlong_cons];refine dS (wpAny_classOwn_exc hC hn ?_);rw[hni,hbm];show wpAny M A (lookupAlong (.ref D::bm1) name) Q E _;rw[lookupAlong_cons];refine dS (wpAny_classOwn_exc hD hn1 ?_);rw[hni1,hrest];exact Ai hq
theorem uj(F:wm B newId initId bm)(hC:h.get? C=some (BU nm q C N bs bm hdct sn sub ab col dd k0 k1 k2 k3 k5 newId))
 (hq:Q () ⟨h,g,d,t,os⟩):wpAny M A (CP newId ⟨.ref C::rest,[]⟩) Q E ⟨h,g,d,t,os⟩:=by
 have hcont:(A5 C::bm).contains (.type B)=true:=by rw[BJ,F.a,EF]
 have hstar:=F.noStar;simp only[CP,F.d,F.b,F.e]
 repeat (first|refine Bn hC ?_|(refine Dv hC ?_;rw[hcont])|refine wpAny_staticBase_exc hC ?_|refine wpAny_madeBy_exc hC ?_|simp only[bne_self_eq_false,A3,if_false]|wp_step)
 exact hq
end
section
variable {prog:Program}{w:World}{A:Around}{R:Result->Shared->Prop}{h:Heap}{g:Array GenState}{d:Drawn}{t:Nat}{os:OsState}
variable {nm q:Str}{C N:Addr}{bs bm:List Value}{hdct:Bool}{sn:List Str}{sub:List Value}{ab:Bool}{col:Option Bool}{dd:Option Addr}{k0 k1 k2 k3 k5:Option Value}{B newId initId:String}
theorem uP(F:wm B newId initId bm)(hC:h.get? C=some (BU nm q C N bs bm hdct sn sub ab col dd k0 k1 k2 k3 k5 newId))
 (hq:R (.ok (.ret (.ref (h.objs.size+1)))) ⟨(h.push {cls:=.type "tuple",data:=.seq rest.toArray}).push
  {cls:=.ref C,data:=.fields #[.ref h.objs.size,.none,.none,.none,.bool false,.none]},g,d,t,os⟩) (hrest:rest.length<=Av:=by size_fits) :
 codeAny (model prog w) A (.builtin newId ⟨.ref C::rest,[]⟩) R ⟨h,g,d,t,os⟩:=by
 have hends:=F.ends;have hcB:(A5 C::bm).contains (.type B)=true:=by rw[BJ,F.a,EF]
 have hcA:(A5 C::bm).contains (.type "AttributeError")=false:=by rw[BJ,F.f];rfl
 have hcN:(A5 C::bm).contains (.type "NameError")=false:=by rw[BJ,F.g];rfl
 refine codeAny_builtinAt F.entry ?_;unfold Builtin.«BaseException.__new__»;refine wpAt_bind ?_;show wpAt _ _ _ (stack >>= _) _ _ _;refine wpAt_bind (wpAt_stack λp below=>wpAt_of_wpAny ?_)
 wp_walk
 refine wpAt_of_wpAny ?_;rw[F.owner]
 repeat (first|with_reducible refine wpAny_madeHere_exc F.h hC ?_|with_reducible refine Bn hC ?_|(with_reducible refine Dv hC ?_;first|rw[hcB]|rw[hcA]|rw[hcN])|wp_step)
 show R _ _;rw[Bi];exact hq
end
section
variable {prog:Program}{w:World}{A:Around}{E:Value->Shared->Prop}{h:Heap}{g:Array GenState}{d:Drawn}{t:Nat}{os:OsState}
variable {nm q:Str}{C N:Addr}{bs bm:List Value}{hdct:Bool}{sn:List Str}{sub:List Value}{ab:Bool}{col:Option Bool}{dd:Option Addr}{k0 k1 k2 k3 k5:Option Value}{B newId initId:String}
theorem uJ(F:wm B newId initId bm)
 (hC:h.get? C=some (BU nm q C N bs bm hdct sn sub ab col dd k0 k1 k2 k3 k5 newId)) (he:h.get? e=some oe) (hcls:oe.cls=.ref C) (hq:Q () ⟨h,g,d,t,os⟩) :
 wpAny M A (CP initId ⟨.ref e::rest,[]⟩) Q E ⟨h,g,d,t,os⟩:=by
 have hcB:(A5 C::bm).contains (.type B)=true:=by rw[BJ,F.a,EF]
 have hshort:=F.noStar;simp only[CP,F.initKind,F.initSplit,F.initRow]
 repeat (first|(with_reducible refine Bn he ?_;rw[hcls])|with_reducible refine Bn hC ?_|(with_reducible refine Dv hC ?_;rw[hcB])|wp_step)
 refine wpAny_onRaise ?_;rw[show ∀(a b:String) (n:Nat),Bind.check ⟨.positional,"*",B,.self,[⟨"args",.varPos,false⟩]⟩ a b n (Gy (λx=>x.fst) ({pos:=A5 e::rest}:Args).kw)=pure () from
  λa b n=>check_star_args _ _ _ _ _ _]
 exact Ai hq
theorem vS(F:wm B newId initId bm)
 (hC:h.get? C=some (BU nm q C N bs bm hdct sn sub ab col dd k0 k1 k2 k3 k5 newId)) (hn:h.Ns N mN) (hni:mN "__init__"=none) (hD:h.get? D=some (BU nm1 q1 D N1 bs1 bm1 hd1 sn1 sub1 ab1 col1 dd1 j0 j1 j2 j3 j5 new1)) (hn1:h.Ns N1 mN1) (hni1:mN1 "__init__"=none) (hbm:bm=.ref D::bm1) (hb1:mroOf (.type B)=pure bm1) 
 (hq:∀h' e,DR h h' e (.ref C) rest->Q (.done (.ret (.ref e))) ⟨h',g,d,t,os⟩) (hrest:rest.length<=Av:=by size_fits) :
 wpAny (model prog w) A (Builtin.«type.__call__» ⟨.ref C::rest,[]⟩) Q E ⟨h,g,d,t,os⟩:=by
 repeat (first|with_reducible refine Bn hC ?_|with_reducible refine wpAny_madeBy_exc hC ?_|wp_step)
 refine codeAny_call_builtin_code (E1 _ F.quiet) (uj F hC ?_);refine uP F hC ?_ hrest;show wpAny _ _ _ _ _ _;have hC₁:=nx {cls:=.ref C,data:=.fields #[.ref h.objs.size,.none,.none,.none,.bool false,.none]}
  (nx {cls:=.type "tuple",data:=.seq rest.toArray} hC)
 have hn₁:((h.push {cls:=.type "tuple",data:=.seq rest.toArray}).push {cls:=.ref C,data:=.fields #[.ref h.objs.size,.none,.none,.none,.bool false,.none]}).Ns N mN:=
  let ⟨o,es,ep,e,r⟩:=hn;⟨o,es,ep,nx _ (nx _ e),r⟩
 have hget:((h.push {cls:=.type "tuple",data:=.seq rest.toArray}).push
  {cls:=.ref C,data:=.fields #[.ref h.objs.size,.none,.none,.none,.bool false,.none]}).get? (h.objs.size+1)=some
  {cls:=.ref C,data:=.fields #[.ref h.objs.size,.none,.none,.none,.bool false,.none]}:=by heap_get
 have hcC:(A5 C::bm).contains (.ref C)=true:=by simp
 unfold isInstance
 repeat (first|with_reducible refine Bn hget ?_|(with_reducible refine Dv hC₁ ?_;rw[hcC])|wp_step)
 show wpAny _ _ (Gs (.ref C) _) _ _ _;have hD₁:=nx {cls:=.ref C,data:=.fields #[.ref h.objs.size,.none,.none,.none,.bool false,.none]}
  (nx {cls:=.type "tuple",data:=.seq rest.toArray} hD)
 have hn1₁:((h.push {cls:=.type "tuple",data:=.seq rest.toArray}).push {cls:=.ref C,data:=.fields #[.ref h.objs.size,.none,.none,.none,.bool false,.none]}).Ns N1 mN1:=
  let ⟨o,es,ep,e,r⟩:=hn1;⟨o,es,ep,nx _ (nx _ e),r⟩
 refine uK hC₁ hn₁ hni hD₁ hn1₁ hni1 hbm hb1 F.init.lookup ?_;refine BX (dS (wpAny_of_eq (F.init.bind _) ?_));refine dS (Eu (EG F.init.plain F.initEntry (uJ F hC₁ hget rfl ?_)))
 wp_walk
 refine hq _ _ ⟨λb o hb=>?_,Es (C7 _),h.objs.size+2,?_,Es (by omega),?_⟩
 . rw[C6 _ _ (DA (CC (Ak hb)))]
   exact nx _ (nx _ (nx _ hb))
 . rw[Ej _ (nx _ hget) rfl]
   simp only[Bi];rfl
 . rw[C6 _ _ (show h.objs.size+1≠h.objs.size+2 by omega)]
   exact Heap.get?_push_at (by simp only[Bi]) rfl
theorem tF(F:wm B newId initId bm)
 (hC:h.get? C=some (BU nm q C N bs bm hdct sn sub ab col dd k0 k1 k2 k3 k5 newId)) (hn:h.Ns N mN) (hni:mN "__init__"=none) (hD:h.get? D=some (BU nm1 q1 D N1 bs1 bm1 hd1 sn1 sub1 ab1 col1 dd1 j0 j1 j2 j3 j5 new1)) (hn1:h.Ns N1 mN1) (hni1:mN1 "__init__"=none) (hbm:bm=.ref D::bm1) (hb1:mroOf (.type B)=pure bm1) 
 (hq:∀h' e,DR h h' e (.ref C) rest->Q (.ref e) ⟨h',g,d,t,os⟩) (hrest:rest.length<=Av:=by size_fits) :
 wpAny (model prog w) A (call (.ref C) rest) Q E ⟨h,g,d,t,os⟩:=by
 have f1:=tc_lookup;have f2:=tc_bind (.ref C);have hT:(⟨h,g,d,t,os⟩:Shared).TypeIs (.ref C) "type":=⟨_,hC,rfl⟩;refine Eu (codeAny_of_tree ?_);show wpAny _ _ (callAny (.ref C) _) _ _ _
 repeat (any_goals (first|assumption|with_reducible refine Bn hC ?_|wp_step))
 refine⟨rfl,?_⟩;refine codeAny_call_builtin_at (E1 _ (by decide +kernel)) entry_typeCall (wpAny_check_type_call_sub hC (vS (hrest:=hrest) F hC hn hni hD hn1 hni1 hbm hb1 λh' e hm=>?_))
 exact hq h' e hm
end
section
variable {prog:Program}{w:World}{A:Around}{E:Value->Shared->Prop}{s:Shared}{env:Env}
variable {nm q:Str}{C N:Addr}{bs bm:List Value}{hdct:Bool}{sn:List Str}{sub:List Value}{ab:Bool}{col:Option Bool}{dd:Option Addr}{k0 k1 k2 k3 k5:Option Value}{B newId initId:String}
theorem uH(F:wm B newId initId bm)
 (hh:A.handled=none) (hplain:(backTo cpos (AI args env)).any (·.1)=false) (hni:mN "__init__"=none) (hni1:mN1 "__init__"=none) (hbm:bm=.ref D::bm1) (hb1:mroOf (.type B)=pure bm1)
 (h:wpAny (model prog w) A (eval (.Name x np) env) (λf s₁=>f=.ref C/\wpAny (model prog w) A (evalArgs (.ref C) true (backTo cpos (AI args env)) [])
  (λa s₂=>a.kw=[]/\a.pos.length<=Av/\s₂.heap.get? C=some (BU nm q C N bs bm hdct sn sub ab col dd k0 k1 k2 k3 k5 newId)/\s₂.heap.Ns N mN/\s₂.heap.get? D=some (BU nm1 q1 D N1 bs1 bm1 hd1 sn1 sub1 ab1 col1 dd1 j0 j1 j2 j3 j5 new1)/\s₂.heap.Ns N1 mN1 /\
   ∀h' e,DR s₂.heap h' e (.ref C) a.pos->E (.ref e) {s₂ with heap:=h'}) E s₁) E s) :
 wpAny (model prog w) A (exec (.Raise (some (.Call (.Name x np) args [] cpos)) none pos) env) Q E s:=by
 rw[arm_exec_Raise]
 first
  |refine dS (Bp (DJ (C:=C) (nm:=nm) (q:=q) (N:=N) (bs:=bs) (bm:=bm) (hdct:=hdct) (sn:=sn) (sub:=sub) (ab:=ab) (col:=col) (dd:=dd) (k0:=k0) (k1:=k1) (k2:=k2) (k3:=k3) (k5:=k5) (newId:=newId) F.c hh (dS (A6 (Fv (A6 h (λf s₁ h₁=>?_) λ_ _ x=>x)) (λv s₃ h₃=>dS (Bp (Ai h₃))) λ_ _ x=>x))))
  |(simp only[evalOpt,Option.map];refine dS (Bp (DJ (C:=C) (nm:=nm) (q:=q) (N:=N) (bs:=bs) (bm:=bm) (hdct:=hdct) (sn:=sn) (sub:=sub) (ab:=ab) (col:=col) (dd:=dd) (k0:=k0) (k1:=k1) (k2:=k2) (k3:=k3) (k5:=k5) (newId:=newId) F.hasBase hh (dS (A6 (Fv (A6 h (λf s₁ h₁=>?_) λ_ _ x=>x)) (λv s₃ h₃=>dS (Bp (Ai h₃))) λ_ _ x=>x)))))
  |(refine dS (Bp (DJ (C:=C) (nm:=nm) (q:=q) (N:=N) (bs:=bs) (bm:=bm) (hdct:=hdct) (sn:=sn) (sub:=sub) (ab:=ab) (col:=col) (dd:=dd) (k0:=k0) (k1:=k1) (k2:=k2) (k3:=k3) (k5:=k5) (newId:=newId) F.hasBase hh ?_));refine dS (A6 (Fv (A6 h (λf s₁ h₁=>?_) λ_ _ x=>x)) (λv s₃ h₃=>dS (Bp (Ai h₃))) λ_ _ x=>x))
 obtain⟨rfl,h₁⟩:=h₁;unfold callWith;refine dS (BX (A6 h₁ (λa s₂ h₂=>dS (Bp ?_)) λ_ _ x=>x));obtain⟨apos,akw⟩:=a;obtain⟨hkw,hlen,hC,hn,hD,hn1,h₂⟩:=h₂;obtain rfl:akw=[]:=hkw;obtain⟨hp,g,d,tk,os⟩:=s₂;simp only[hplain];refine dS (wpAny_keeperOf_exc hC ?_);refine dS (tF (hrest:=hlen) F hC hn hni hD hn1 hni1 hbm hb1 λh' e hm=>dS (BX (wpAny_point (Ai ?_))));obtain⟨t,ht,_,_⟩:=hm.there;exact⟨e,t,rfl,hm.keeps _ _ hC,ht,h₂ h' e hm⟩
end
end PySem
end
section
namespace L2
open PySem PySem.W PySem.Spec PyProof PyProof.Rows
structure sE(P:Program)(w:World)(outer:List Env)(H:Hp)(s:Shared)(H':Hp)(a:Addr)(cls:Value)(s':Shared):Prop where
 j:s'.os=s.os
 d:AllBare s'.gens
 i:∀b∈frs outer,H' b=none
 h:∃(t:Addr) (g B:Heap),Un (frs outer) [] H H' s.heap g/\HOk P w H' g/\(∀b o,g.get? b=some o->b ∉ frs outer->(b<s.heap.objs.size\/H' b≠none)->B.get? b=some o) /\
  (∀b o,g.get? b=some o->b∈frs outer->∃sl,s'.heap.get? b=some {o with slots:=sl})/\Heap.FlyingW B outer a cls (.ref t) s'.heap
def CXE(P:Program)(w:World):CXT:=λouter H s E e s'=>∃(a:Addr) (cls:Value) (H':Hp),e=.ref a/\sE P w outer H s H' a cls s'/\E cls none H'
theorem sE.un(f:sE P w outer H s H' a cls s'):Un (frs outer) [] H H' s.heap s'.heap/\HOk P w H' s'.heap:=by
 obtain⟨t,g,B,u,hk,cov,fr,k,_⟩:=f.h;have go:∀b o,s.heap.get? b=some o->b ∉ frs outer->∀o',g.get? b=some o'->s'.heap.get? b=some o':=λb o e n o' e'=>k b o' (cov b o' e' n (.inl (Ak e)));refine⟨⟨λb o e n hb hx=>go b o e hb o (u.f b o e n hb hx),λb o e n hb hx=>?_,u.d,λb o e hx=>?_,u.l,u.g,u.j⟩,λb o e=>(hk b o e).oU (λc v hc e'=>?_) (λ_ q=>q) λ_ _ q=>q⟩
 . obtain⟨sl,e1⟩:=u.i b o e n hb hx
   obtain⟨sl',e2⟩:=fr b _ e1 hb;exact⟨sl',e2⟩
 . obtain⟨o',e1⟩:=u.c b o e hx
   by_cases hb:b∈frs outer
   . obtain⟨sl,e2⟩:=fr b o' e1 hb
     exact⟨_,e2⟩
   . exact⟨o',go b o e hb o' e1⟩
 . have hc':H' c≠none:=by
    rcases hc with rfl|hc
    . rw[e];exact nofun
    . rw[hc];exact nofun
   exact k c v (cov c v e' (λhm=>hc' (f.i c hm)) (.inr hc'))
section
variable {P:Program}{w:World}{K:Ag}{mg:Str->Option Value}{base:Heap}{N:List Str}{qual:Str}{scope:Scope}{f:Addr}{cd:Value}{A:Around}{outer:List Env}{s₀:Shared}{H₀:Hp}{E:XK}
theorem eu:Passes (CXE P w) (wL (CXE P w) P w K mg base N qual scope f cd A outer s₀ H₀ E) E:=by
 rintro pins σ H s e s' I ⟨a,cls,H',rfl,fl,hE⟩;obtain⟨t,g,B,u,hk,cov,fr,fly⟩:=fl.h;show wpAny _ _ _ _ _ _;have I1:Inv (wL (CXE P w) P w K mg base N qual scope f cd A outer s₀ H₀ E) pins σ H' {s with heap:=g}:=I.call (g':=s.gens) (t':=s.toks) (d':=s.drawn) (ch:=[]) u hk I.D λb z=>absurd z (by simp)
 have hL:∀b,(b<s₀.heap.objs.size\/H' b≠none)->b≠s₀.heap.objs.size:=λb hb z=>by
  subst z;rcases hb with hb|hb
  . exact Bj _ hb
  . exact hb I1.G
 have hmem:∀b,b∈frs outer->b∈frs (envOfC qual scope s₀.heap.objs.size f cd::outer):=λb hb=>Ah _ hb;refine wpAny_leaves_onW (base:=B) (env:=envOfC qual scope s₀.heap.objs.size f cd) (outer:=outer) (L:=s₀.heap.objs.size) I.B.g rfl fly λh' x1 x2=>?_;refine⟨a,cls,H',rfl,⟨fl.j.trans I.R,fl.d,λb hb=>fl.i b (hmem b hb),t,g,B,I1.C,hk,λb o e n hb=>?_,λb o e hb=>?_,x1⟩,hE⟩
 . refine cov b o e (λhm=>?_) ?_
   . rcases Af.mp (show b∈s₀.heap.objs.size::frs outer from hm) with z|z
     . exact hL b hb z
     . exact n z
   . rcases hb with hb|hb
     . exact .inl (Ax hb I.sz)
     . exact .inr hb
 . obtain⟨sl,e1⟩:=fr b o e (hmem b hb)
   obtain⟨_,o',e2,hd⟩:=fly.2.2.1.mem (hmem b hb);rw[e1]at e2;cases e2;obtain⟨sl',e3⟩:=x2 b _ e1 hd;exact⟨sl',e3⟩
theorem ki(I:Inv (wL (CXE P w) P w K mg base N qual scope f cd A outer s₀ H₀ E) pins σ H s)(m:DR s.heap h1 a (.ref C) us)(hE:E (.ref C) none H) :
 (wL (CXE P w) P w K mg base N qual scope f cd A outer s₀ H₀ E).j (.ref a) {s with heap:=h1}:=by
 have hmem:∀b,b∈frs outer->b∈frs (envOfC qual scope s₀.heap.objs.size f cd::outer):=λb hb=>Ah _ hb;have hin:∀env∈(envOfC qual scope s₀.heap.objs.size f cd::outer),∀b,env.frame=some b->b∈frs (envOfC qual scope s₀.heap.objs.size f cd::outer):=λenv he b hb=>Ct.mpr ⟨env,he,hb⟩;have hst:s.heap.FunFrames base (envOfC qual scope s₀.heap.objs.size f cd::outer):=I.stack;show wpAny _ _ _ _ _ _;refine wpAny_leaves_madeW (base:=hideAll s.heap (frs (envOfC qual scope s₀.heap.objs.size f cd::outer))) (h:=s.heap) (env:=envOfC qual scope s₀.heap.objs.size f cd) (outer:=outer) (L:=s₀.heap.objs.size) I.B.g rfl (λb o q=>of_hideAll _ q) (funFrames_hide hst hin) m λh' t x1 x2 x3 x4=>?_;refine⟨a,_,H,rfl,⟨I.R,I.D,λb hb=>I.lE b (hmem b hb),t,s.heap,_,I.C,I.j,λb o e n hb=>hideAll_get _ e λhm=>?_,λb o e hb=>?_,x1⟩,hE⟩
 . rcases Af.mp (show b∈s₀.heap.objs.size::frs outer from hm) with z|z
   . subst z
     rcases hb with hb|hb
     . exact Bj _ hb
     . exact hb I.G
   . exact n z
 . obtain⟨_,o',e2,hd⟩:=hst.mem (hmem b hb)
   rw[e]at e2;cases e2;obtain⟨sl,e3⟩:=x4 b o (m.keeps b o e) hd;exact⟨sl,e3⟩
end
end L2
end
section
namespace L2
open PySem PySem.W PySem.Spec PyProof PyProof.Rows
noncomputable def veM:List Value:=[.type "ValueError",.type "Exception",.type "BaseException",.type "object"]
def ClsAt(h:Heap)(C:Addr)(bm:List Value):Prop:=∃(nm q:Str) (N:Addr) (bs:List Value) (hdct:Bool) (sn:List Str) (sub:List Value) (ab:Bool) (col:Option Bool) (dd:Option Addr) (k0 k1 k2 k3 k5:Option Value) (mN:Str->Option Value),
 h.get? C=some (BU nm q C N bs bm hdct sn sub ab col dd k0 k1 k2 k3 k5 "ValueError.__new__")/\h.Ns N mN/\mN "__init__"=none
def XR(X:Cx)(C:Addr)(H:Hp):Prop:=∀(pins:List (Addr × Obj)) (σ:St) (s:Shared),Inv X pins σ H s->∀(h1:Heap) (a:Addr) (us:List Value),DR s.heap h1 a (.ref C) us->X.j (.ref a) {s with heap:=h1}
def SQ(X:Cx)(C:Addr)(t:TA):TS:=λ_ σ H=>t σ H λvs H1=>vs.length<=Av/\XR X C H1
section
variable {X:Cx}
theorem kg(hc:X.A.handled=none)(hg:Gl X x)(hm:X.d x=some (.ref C))(cC:ClsAt X.i C (.ref D::veM))(cD:ClsAt X.i D veM)(ha:PA X (e::es) t)
 (hdb:(x == ("__debug__":Str))=false) (he:AI (e::es) X.a=(false,eval e X.a)::AI es X.a) (hpl:(backTo cpos (AI es X.a)).any (·.1)=false):PS X (.Raise (some (.Call (.Name x np) (e::es) [] cpos)) none pos) (SQ X C t):=by
 intro pins s σ H D' I h;obtain⟨nm,q,N,bs,hdct,sn,sub,ab,col,dd,k0,k1,k2,k3,k5,mN,hC,hN,hz⟩:=cC;obtain⟨nm1,q1,N1,bs1,hd1,sn1,sub1,ab1,col1,dd1,j0,j1,j2,j3,j5,mN1,hD,hN1,hz1⟩:=cD;refine uH (C:=C) (D:=D) (nm:=nm) (q:=q) (N:=N) (bs:=bs) (hdct:=hdct) (sn:=sn) (sub:=sub) (ab:=ab) (col:=col) (dd:=dd) (k0:=k0) (k1:=k1) (k2:=k2) (k3:=k3) (k5:=k5) (mN:=mN)
  (nm1:=nm1) (q1:=q1) (N1:=N1) (bs1:=bs1) (hd1:=hd1) (sn1:=sn1) (sub1:=sub1) (ab1:=ab1) (col1:=col1) (dd1:=dd1) (j0:=j0) (j1:=j1) (j2:=j2) (j3:=j3) (j5:=j5) (mN1:=mN1) (new1:="ValueError.__new__") (Fd.two D) hc ?_ hz hz1 rfl Fd.mroIs (vJ I hg hm ⟨rfl,?_⟩ hdb)
 . rw[he];exact hpl
 . rw[he]
   refine EA ?_;have q:=ha cpos pins s σ H _ I h;rw[he]at q;refine A6 q (λus s1 hq=>?_) λ_ _ z=>z;obtain⟨vs,H1,I1,r,hl,hx⟩:=hq;exact⟨rfl,by rw[<-r.length];exact hl,I1.bk _ _ hC,hN.keeps I1.bk,I1.bk _ _ hD,hN1.keeps I1.bk,λh' e' m=>hx pins σ s1 I1 h' e' _ m⟩
end
theorem W5{K}
 (hE:E (.ref C) none H):XR (wL (CXE P w) P w K mg base N qual scope f cd A outer s₀ H₀ E) C H:=λ_ _ _ I _ _ _ m=>ki I m hE
end L2
end
section
namespace L2
open PySem PySem.W PySem.Spec PyProof PyProof.Rows
def tFs(ta tb:TE):TE:=λσ H Q=>ta σ H λx H1=>∃i:Int,x=.d i/\i.natAbs<2 ^ 64/\tb σ H1 λy H2=>∃j:Int,y=.d j/\j.natAbs<2 ^ 64/\∀z,Q (.e z) H2
theorem r8{i:Int}(h:i.natAbs<2 ^ 64):i.natAbs.log2<64:=by
 by_cases z:i.natAbs=0
 . rw[z];decide
 . exact(Nat.log2_lt z).mpr h
theorem nS{i:Int}(h:i.natAbs<2 ^ 64):(De (toString i)).length<=65:=by rw[PySem.ofString_length];exact int_text_length_le (by decide) (r8 h)
section
variable {X:Cx}
theorem QX(ha:PE X a ta)(hb:PE X b tb)(h1:c1.length<=1000)(h2:c2.length<=1000)(h3:c3.length<=1000) :
 PE X (.JoinedStr [.Constant (.str c1) k1 p1,.FormattedValue a (-1) none p2,.Constant (.str c2) k2 p3,.FormattedValue b (-1) none p4,.Constant (.str c3) k3 p5] pos) (tFs ta tb):=by
 intro pins s σ H Q I h;refine JoinedStr_many (DS (Dz ⟨?_,DS (FormattedValue_plain ?_)⟩))
 . rw[A7,AV,show Ei.length=0 from rfl];omega
 refine thn (ha pins _ σ H _ (I.tok _) h) λu s1 ⟨x,H1,I1,r1,i,e1,hi,q1⟩=>?_;subst e1;obtain⟨t1,rfl⟩:=r1;have l1:=nS hi;refine formatField_int_small (Ax (r8 hi) (by decide)) ⟨?_,DS (Dz ⟨?_,DS (FormattedValue_plain ?_)⟩)⟩
 . rw[A7,A7,AV,show Ei.length=0 from rfl];omega
 . rw[A7,A7,A7,AV,show Ei.length=0 from rfl];omega
 refine thn (hb pins _ σ H1 _ (I1.tok _) q1) λu2 s2 ⟨y,H2,I2,r2,j,e2,hj,q2⟩=>?_;subst e2;obtain⟨t2,rfl⟩:=r2;have l2:=nS hj;refine formatField_int_small (Ax (r8 hj) (by decide)) ⟨?_,DS (Dz ⟨?_,joinParts_nil ⟨.e _,H2,I2.tok _,⟨_,rfl⟩,q2 _⟩ ?_⟩)⟩
 . rw[A7,A7,A7,A7,AV,show Ei.length=0 from rfl];omega
 . rw[A7,A7,A7,A7,A7,AV,show Ei.length=0 from rfl];omega
 . rw[A7,A7,A7,A7,A7,AV,show Ei.length=0 from rfl];omega
end
end L2
end
section
namespace L2
open PySem PySem.W PySem.Spec PyProof PyProof.Rows
def Bm(base:Heap)(mg:Str->Option Value):Prop:=∃(bm:Addr) (ob:Obj),mg "__builtins__"=some (.ref bm)/\bm≠Fy/\base.get? bm=some ob/\ob.cls=.type "module"/\ob.dict=some Fy/\ob.data=.plain
def Sy(H:Hp)(P:Addr)(ps:Array Value)(pos:Pos)(q:Str)(c:Addr)(H':Hp):Prop:=H'=H \/
 ∃(o:Obj) (vs:Array Value) (t:Tok),DK pos ps.toList=none/\H c=none/\o.data=.fields vs/\vs[1]?=some (.str q t)/\H'=upd (upd H P (.g (ps++#[rawInt pos.line,rawInt pos.col,.ref c]))) c (.e o (.d 0))
section
variable {X:Cx}{pins:List (Addr × Obj)}{σ:St}{H:Hp}{s:Shared}{M:Model}{A:Around}{E:Value->Shared->Prop}
theorem ah(I:Inv X pins σ H s)(bt:defaultsOf a X.a=([],[]))(hcl:Gv lsc X.a=pure clos)
 (hcode:X.a.code=.ref c) (C:CodeHd s.heap c P) (hP:H P=some (.g ps)) (ht:DL ps.toList) (B:Bm X.i X.d)
 (hit:∀cv,DK pos ps.toList=some cv->∃c' o vs t,cv=.ref c'/\H c'=some (.e o (.d 0))/\o.data=.fields vs/\vs[1]?=some (.str (X.a.qual++("<lambda>":Str)) t))
 (h:∀lf c' ctv H' h' tk,Inv X pins σ H' {s with heap:=h',toks:=tk}->Sy H P ps pos (X.a.qual++("<lambda>":Str)) c' H'->(H' lf=none/\lf ∉ frs X.g/\∃o vs t,H' c'=some (.e o (.d 0))/\o.data=.fields vs/\vs[1]?=some (.str (X.a.qual++("<lambda>":Str)) t)) ->
  h'.get? lf=some (kla_obj "<lambda>" (X.a.qual++("<lambda>":Str)) a body lsc clos ((X.d "__name__").getD .none) c' ctv)->h'.CodeRec (.ref c') (X.a.qual++("<lambda>":Str))->Q (.ref lf) {s with heap:=h',toks:=tk}) :
 wpAny M A (eval (.Lambda a body lsc pos) X.a) Q E s:=by
 obtain⟨bm,ob,b1,b2,b3,b4,b5,b6⟩:=B;have hPo:s.heap.get? P=some (tabObj ps):=I.j P _ hP;have hg:s.heap.Ns AL X.d:=I.mod.c.keeps I.bk;have hbH:H bm=none:=(I.bs _ _ b3).2;have hbP:bm≠P:=λz=>by rw[z,hP]at hbH;cases hbH
 obtain⟨og,eg,pg,g1,g2,_⟩:=I.mod.c;have hgH:H AL=none:=(I.bs _ _ g1).2;have hgP:AL≠P:=λz=>by rw[z,hP]at hgH;cases hgH
 have hbG:bm≠AL:=λz=>by rw[z,g1]at b3;cases b3;rw[g2]at b6;cases b6
 have hb:s.heap.BuiltinsAt X.d P:=⟨bm,ob,b1,b2,hbG,hbP,I.bk _ _ b3,b4,b5,b6⟩;have nst:∀lf,s.heap.objs.size<=lf->lf ∉ frs X.g:=λlf hl hm=>by obtain⟨_,o,e,_⟩:=I.stack.mem hm;exact absurd (Ax (Ak e) hl) (Bj _)
 refine kla_eval bt ?_;cases hf:DK pos ps.toList with
 |some cv=>
  obtain⟨c',o,vs,t,rfl,q1,q2,q3⟩:=hit cv hf;refine kla_makeFunctionHit (mg:=X.d) hcl I.B.k hg hcode C hPo ht hf hb λctv h' tk hk hsz=>?_;have hk2:∀b u,s.heap.get? b=some u->(h'.push {cls:=.type "function",data:=.func (kla_fn "<lambda>" (X.a.qual++("<lambda>":Str)) a body lsc clos ((X.d "__name__").getD .none) (.ref c') ctv)}).get? b=some u:=λb u e=>nx _ (hk b u e);have hcr:s.heap.CodeRec (.ref c') (X.a.qual++("<lambda>":Str)):=⟨c',o,vs,t,rfl,(I.j c' _ q1).1,q2,q3⟩;refine h _ c' ctv H _ tk (I.kept hk2) (.inl rfl) ⟨I.j.fresh hsz,nst _ hsz,o,vs,t,q1,q2,q3⟩ (AB _ rfl) ?_;obtain⟨c2,o2,vs2,t2,e1,e2,e3⟩:=hcr;exact⟨c2,o2,vs2,t2,e1,hk2 _ _ e2,e3⟩
 |none=>
  refine kla_makeFunction (mg:=X.d) hcl I.B.k hg hcode C hPo ht hf hgP hb λc' ctv h' tk hx hge hlt jo htb=>?_;obtain⟨c2,oc,vs,t,e1,e2,e3,e4⟩:=jo;cases e1;have hcn:H c'=none:=I.j.fresh hge;have hcP:c'≠P:=λz=>by rw[z,hP]at hcn;cases hcn
  have hk2:∀b u,b≠P->s.heap.get? b=some u->(h'.push (kla_obj "<lambda>" (X.a.qual++("<lambda>":Str)) a body lsc clos ((X.d "__name__").getD .none) c' ctv)).get? b=some u:=λb u n e=>nx _ (hx b u n e);have nP:∀b,H b=none->b≠P:=λb n z=>by rw[z,hP]at n;cases n
  have nc:∀b o,s.heap.get? b=some o->b≠c':=λb o e z=>absurd (Ax (Ak e) hge) (by rw[z];exact Bj _)
  refine h _ c' ctv (upd (upd H P (.g (ps++#[rawInt pos.line,rawInt pos.col,.ref c']))) c' (.e oc (.d 0))) _ tk (I.un (t':=tk) ⟨λb o e n _ _=>hk2 b o (nP b n) e,λb o e n _ _=>⟨o.slots,hk2 b o (nP b n) e⟩,λb o e n _=>?_,λb o e _=>?_,λb xs e=>?_,λb o u e=>?_,λb qs e=>?_⟩ λb u e=>?_)
   (.inr ⟨oc,vs,t,hf,hcn,e3,e4,rfl⟩) ⟨by rw[zL (DA hlt),zL (nP _ (I.j.fresh (Au hge (C9 hlt))))];exact I.j.fresh (Au hge (C9 hlt)),nst _ (Au hge (C9 hlt)),oc,vs,t,zN,e3,e4⟩ (AB _ rfl) ⟨c',oc,vs,t,rfl,nx _ e2,e3,e4⟩
  . rw[zL (nc b o e),zL (nP b n)];exact n
  . by_cases z:b=P
    . rw[z];exact⟨_,nx _ htb⟩
    . exact⟨o,hk2 b o z e⟩
  . have z1:b≠c':=λz=>by rw[z,hcn]at e;cases e
    have z2:b≠P:=λz=>by rw[z,hP]at e;cases e
    rw[zL z1,zL z2];exact e
  . have z1:b≠c':=λz=>by rw[z,hcn]at e;cases e
    have z2:b≠P:=λz=>by rw[z,hP]at e;cases e
    rw[zL z1,zL z2];exact e
  . have z1:b≠c':=λz=>by rw[z,hcn]at e;cases e
    rw[zL z1];by_cases z:b=P
    . subst z
      rw[hP]at e;cases e;exact⟨_,zN⟩
    . rw[zL z];exact⟨#[],by rw[e];simp⟩
  . by_cases z1:b=c'
    . subst z1
      rw[zN]at e;cases e;exact⟨nx _ e2,oc,nx _ e2⟩
    . rw[zL z1]at e
      by_cases z:b=P
      . subst z
        rw[zN]at e;cases e;exact nx _ htb
      . rw[zL z]at e
        have own:∀d y,H d=some (.d y)->d≠c'/\d≠P:=λd y r=>⟨λz=>(by rw[z,hcn]at r;cases r),λz=>(by rw[z,hP]at r;cases r)⟩
        refine(I.j b u e).oU (λd v hd q=>hk2 d v ?_ q) (λd r=>by rw[zL (own d b r).1,zL (own d b r).2];exact r) λd xs r=>?_
        . rcases hd with rfl|hd
          . exact z
          . exact(own d b hd).2
        . have y1:d≠c':=λz=>by rw[z,hcn]at r;cases r
          have y2:d≠P:=λz=>by rw[z,hP]at r;cases r
          rw[zL y1,zL y2];exact r
end
end L2
end
section
namespace L2
open PySem PySem.W PySem.Spec PyProof PyProof.Rows
section
variable {P:Program}{w:World}{K:Ag}{mg:Str->Option Value}{base:Heap}{CX:CXT}{A:Around}{outer:List Env}{s:Shared}{H:Hp}{E:XK}{R:Result->Shared->Prop}
noncomputable abbrev Cx.loud(X:Cx)(A:Around):Cx:={X with A:=A,h:=false}
theorem Inv.loud(I:Inv X pins σ H s)(hf:A'.frames=some X.g):Inv (X.loud A') pins σ H s:=
 ⟨⟨I.B.j,I.B.a,I.B.k,I.B.t,I.B.d,I.B.s,I.B.r,I.B.q,λz=>absurd z Ab,hf,I.B.w,I.B.G,I.B.B,I.B.p,I.B.m,I.B.l,I.B.D,I.B.u⟩,I.R,I.D,I.C,I.M,I.F,I.G,I.J,I.O,I.j,I.P⟩
theorem Inv.calm(I:Inv (X.loud A') pins σ H s)(ok:X.Ok):Inv X pins σ H s:=
 ⟨ok,I.R,I.D,I.C,I.M,I.F,I.G,I.J,I.O,I.j,I.P⟩
abbrev cK(P:Program)(w:World)(A:Around)(env:Env)(R:Result->Shared->Prop)(body:List Stmt)(s1:Shared):Prop:=
 wpAny (model P w) (A.deeper env) (execs body env) (λfl s'=>R (.ok (.ret (match fl with|.ret v=>v|_=>.none))) s')
  (λe s'=>wpAny (model P w) (A.deeper env) (leaving env e) (λ_ s''=>R (.error e) s'') (λe' s''=>R (.error e') s'') s') s1
theorem lq{dV kV doc pm cdv ct oc}
 (lk:K.lookup f=some ⟨oc,od,.func (BK name qual params body scope dV kV doc pm an cdv ct),osl⟩) (hcd:BO K cdv qual=true) (S:vI N ps scope) (hdp:A.depth<CK)
 (e0:jU P w K mg base A outer s H) (hb:BindsTo s (BK name qual params body scope dV kV doc pm an cdv ct) args (ps.zip us)) (hl:vs.length=ps.length) (r:Vals vs us)
 (h:∀s1:Shared,Inv (wL CX P w K mg base N qual scope f cdv {A with handled:=none} outer s H E) [] (start N vs) H s1->(∀b o,s.heap.get? b=some o->s1.heap.get? b=some o)->cK P w A (envOfC qual scope s.heap.objs.size f cdv) R body s1) :
 codeAny (model P w) A (.call (.ref f) args) R s:=by
 have KX:K.In s.heap:=e0.c.a.keeps λb o e=>(e0.e b o e).1;have lim:s.heap.NoLimit:=e0.c.b.keeps λb o e=>(e0.e b o e).1;have hkind:∀y∈ps.zip us,scope.names.lookup y.1=some .local\/(scope.names.lookup y.1=some .cell/\((Cu (s.heap.objs.size+1) scope.names []).lookup y.1).isSome=true):=λ⟨n,v⟩ hy=>by
  rcases S.e n (Ew hy).1 with q|q
  . exact .inl q
  . exact .inr ⟨q,D1 _ _ _ (.inl q)⟩
 refine codeAny_call_function hdp (KX _ _ lk) rfl S.co S.f rfl (PySem.W.codeRec_of KX hcd) (hb _ _ _ _ ?_);refine E6 S.a hkind λenv he s1 x=>?_;subst he;refine⟨lim.keeps x.toInCall.keep,codeAny_func ?_⟩;exact h s1 (ox (A:={A with handled:=none}) S rfl ⟨e0.a,e0.c,e0.e,e0.g,e0.i,e0.h,e0.d,e0.f⟩ hl r x) x.toInCall.keep
theorem lQ(h:A.handled=none):{A with handled:=none}=A:=by
 cases A;simp only at h;subst h;rfl
noncomputable def noArgs:Ee:=⟨[],[],none,[],[],none,[]⟩
noncomputable def qv(CX:CXT)(P:Program)(w:World)(K:Ag)(mg:Str->Option Value)(base:Heap)(N:List Str)(qual:Str)(scope:Scope)(f:Addr)(cd:Value)(cl:List (Str × Addr))(A:Around)(outer:List Env)(s:Shared)(H:Hp)(E:XK):Cx where
 f:=P
 w:=w
 K:=K
 d:=mg
 i:=base
 A:=A.deeper (envX qual scope s.heap.objs.size f cd cl)
 N:=N
 l:=s
 r:=H
 a:=envX qual scope s.heap.objs.size f cd cl
 k:=outer
 g:=envX qual scope s.heap.objs.size f cd cl::outer
 m:=[]
 h:=true
 n:=λ_=>false
 q:=[]
 j:=λe s'=>wpAny (model P w) (A.deeper (envX qual scope s.heap.objs.size f cd cl)) (leaving (envX qual scope s.heap.objs.size f cd cl) e) (λ_ s''=>CX outer H s E e s'') (λe' s''=>CX outer H s E e' s'') s'
theorem Xl(hdp:A.depth<CK)(hh:A.handled=none)(e0:jU P w K mg base A outer s H)
 (ho:s.heap.get? lf=some (kla_obj nm qual noArgs body lsc cl pm c ctv)) (hcr:s.heap.CodeRec (.ref c) qual) (hk:lsc.kind=.function) (hco:lsc.isCoroutine=false) (hgen:lsc.isGenerator=false)
 (hnm:∀x∈lsc.names,x.2≠.cell/\x.2≠.local) (hinj:∀x y b,cl.lookup x=some b->cl.lookup y=some b->x=y) (hhas:∀x,lsc.names.lookup x=some .free->∃b,cl.lookup x=some b)
 (hcel:∀x b,cl.lookup x=some b->(∃v,s.heap.IsCell b v)/\H b=none)
 (hval:∀(i:Nat) x v,N[i]?=some x->σ[i]?=some (some v)->lsc.names.lookup x=some .free->∃u b,RelV v u/\cl.lookup x=some b/\s.heap.IsCell b (some u)) (hlen:σ.length=N.length)
 (h:∀s1:Shared,Inv (qv CX P w K mg base N qual lsc lf (.ref c) cl A outer s H E) [] σ H s1->wpAny (model P w) (A.deeper (envX qual lsc s.heap.objs.size lf (.ref c) cl)) (eval body (envX qual lsc s.heap.objs.size lf (.ref c) cl)) (λv s'=>R (.ok (.ret v)) s')
  (λe s'=>wpAny (model P w) (A.deeper (envX qual lsc s.heap.objs.size lf (.ref c) cl)) (leaving (envX qual lsc s.heap.objs.size lf (.ref c) cl) e) (λ_ s''=>R (.error e) s'') (λe' s''=>R (.error e') s'') s') s1) :
 codeAny (model P w) A (.call (.ref lf) ⟨[],[]⟩) R s:=by
 have lim:s.heap.NoLimit:=e0.c.b.keeps λb o e=>(e0.e b o e).1;refine kla_callFunE hdp ho rfl hco hgen rfl hcr ?_;have hb:Gr (kla_fn nm qual noArgs body lsc cl pm (.ref c) ctv) ⟨[],[]⟩=pure []:=rfl;rw[hb];refine Ai (wpAny_newFunctionEnv (λx hx=>(hnm x hx).1) (λx hx=>absurd hx (by simp)) (λh₁ hns hsb=>⟨lim.fresh _ hsb,?_⟩) hk)
 show codeAny _ _ (.expr body (envX qual lsc s.heap.objs.size lf (.ref c) cl)) _ _;have hk₁:∀b o,s.heap.get? b=some o->h₁.get? b=some o:=λb o e=>hsb.extBut b o (AE (Ak e)) (nx _ e);have noA:∀b:Addr,b ∉ (qv CX P w K mg base N qual lsc lf (.ref c) cl A outer s H E).m:=λb z=>absurd (show b∈([]:List Addr) from z) (by simp)
 have cellK:∀b v,s.heap.IsCell b v->h₁.IsCell b v:=λb v ⟨o,e,d⟩=>⟨o,hk₁ b o e,d⟩;refine kla_codeExpr (h _ ⟨⟨e0.c,hk,rfl,rfl,Ac _,hinj,λy hy=>?_,λy b z _=>absurd z Ab,λ_=>hh,Ey e0.a,.inr ⟨rfl,rfl⟩,λb z=>absurd z (noA b),e0.e,e0.g,λb _ _=>noA b,λb z=>absurd z (noA b),e0.i,e0.h⟩,
  rfl,e0.f,Un.kept hk₁,⟨_,hns,λi y v h1 h2 h3=>?_⟩,λy b e=>?_,e0.d.fresh (Ac _),λy b e=>(hcel y b e).2,λp hp=>absurd (show p∈([]:List (Addr × Obj)) from hp) (by simp),e0.d.kept hk₁,hlen⟩)
 . have hy:lsc.names.lookup y=some .cell\/lsc.names.lookup y=some .free:=hy
   rcases hy with hy|hy
   . exact absurd rfl (hnm _ (AY hy)).1
   . exact hhas y hy
 . have h3:lsc.names.lookup y=some .local\/lsc.names.lookup y=some .cell\/lsc.names.lookup y=some .free:=h3
   rcases h3 with z|z|z
   . exact absurd rfl (hnm _ (AY z)).2
   . exact absurd rfl (hnm _ (AY z)).1
   . obtain⟨u,b,q1,q2,q3⟩:=hval i y v h1 h2 z
     exact⟨u,q1,.inr ⟨.inr z,b,q2,cellK _ _ q3⟩⟩
 . obtain⟨v,q⟩:=(hcel y b e).1
   exact⟨v,cellK b v q⟩
end
end L2
end
section
namespace L2
open PySem PySem.W PySem.Spec PyProof PyProof.Rows
section
variable {P:Program}{w:World}{K:Ag}{mg:Str->Option Value}{base:Heap}{A:Around}{outer:List Env}{s₀:Shared}{H₀:Hp}{E:XK}
theorem pU:Passes (CXE P w) (qv (CXE P w) P w K mg base N qual scope f cd cl A outer s₀ H₀ E) E:=by
 rintro pins σ H s e s' I ⟨a,cls,H',rfl,fl,hE⟩;obtain⟨t,g,B,u,hk,cov,fr,fly⟩:=fl.h;show wpAny _ _ _ _ _ _;have I1:Inv (qv (CXE P w) P w K mg base N qual scope f cd cl A outer s₀ H₀ E) pins σ H' {s with heap:=g}:=I.call (g':=s.gens) (t':=s.toks) (d':=s.drawn) (ch:=[]) u hk I.D λb z=>absurd z (by simp)
 have hL:∀b,(b<s₀.heap.objs.size\/H' b≠none)->b≠s₀.heap.objs.size:=λb hb z=>by
  subst z;rcases hb with hb|hb
  . exact Bj _ hb
  . exact hb I1.G
 have hmem:∀b,b∈frs outer->b∈frs (envX qual scope s₀.heap.objs.size f cd cl::outer):=λb hb=>Ah _ hb;refine wpAny_leaves_onW (base:=B) (env:=envX qual scope s₀.heap.objs.size f cd cl) (outer:=outer) (L:=s₀.heap.objs.size) I.B.g rfl fly λh' x1 x2=>?_;refine⟨a,cls,H',rfl,⟨fl.j.trans I.R,fl.d,λb hb=>fl.i b (hmem b hb),t,g,B,I1.C,hk,λb o e n hb=>?_,λb o e hb=>?_,x1⟩,hE⟩
 . refine cov b o e (λhm=>?_) ?_
   . rcases Af.mp (show b∈s₀.heap.objs.size::frs outer from hm) with z|z
     . exact hL b hb z
     . exact n z
   . rcases hb with hb|hb
     . exact .inl (Ax hb I.sz)
     . exact .inr hb
 . obtain⟨sl,e1⟩:=fr b o e (hmem b hb)
   obtain⟨_,o',e2,hd⟩:=fly.2.2.1.mem (hmem b hb);rw[e1]at e2;cases e2;obtain⟨sl',e3⟩:=x2 b _ e1 hd;exact⟨sl',e3⟩
end
section
variable {X:Cx}{pins:List (Addr × Obj)}{σ:St}{H H':Hp}{s s':Shared}{a:Addr}{cls:Value}
theorem Inv.VG(I:Inv X pins σ H s)(f:sE X.f X.w X.g H s H' a cls s'):Inv X pins σ H' s':=by obtain⟨u,hk⟩:=f.un;obtain⟨hh,g,d,t,os⟩:=s';obtain rfl:os=s.os:=f.j;exact I.call (h':=hh) (g':=g) (d':=d) (t':=t) (ch:=[]) u hk f.d λb z=>absurd z (by simp)
theorem sE.obj(f:sE X.f X.w X.g H s H' a cls s')(I:Inv X pins σ H s):∃oe,s'.heap.get? a=some oe/\oe.cls=cls/\H' a=none/\s.heap.get? a=none/\(∃vs,oe.data=.fields vs):=by
 obtain⟨t,g,B,u,hk,cov,fr,fly⟩:=f.h;obtain⟨f1,f2,f3,oe,vs,_,_,_,he,hc,hd,_⟩:=id fly;have nfr:a ∉ frs X.g:=λhm=>by obtain⟨_,o',e2,hd'⟩:=f3.mem hm;rw[he]at e2;cases e2;exact hd' vs hd
 refine⟨oe,he,hc.1,?_,?_,vs,hd⟩
 . cases q:H' a with
   |none=>rfl
   |some o=>
    have ht:=(hk a o q);have:∃ob,g.get? a=some ob:=by
     have hlt:=ht.lt;cases qg:g.get? a with
     |some ob=>exact⟨ob,rfl⟩
     |none=>
      exfalso;cases o with
      |b xs=>obtain⟨_,_,_,_,e⟩:=ht;rw[qg]at e;cases e
      |c xs=>obtain⟨_,_,_,ob,e,_⟩:=ht;rw[qg]at e;cases e
      |i kvs=>obtain⟨_,_,_,_,ob,_,_,e,_⟩:=ht;rw[qg]at e;cases e
      |j kvs=>obtain⟨_,_,_,_,ob,_,_,e,_⟩:=ht;rw[qg]at e;cases e
      |l S n=>obtain⟨ob,_,_,_,e,_⟩:=ht;rw[qg]at e;cases e
      |k C dx fs=>obtain⟨_,_,_,e,_⟩:=ht;rw[qg]at e;cases e
      |d y=>obtain⟨_,e⟩:=ht;rw[qg]at e;cases e
      |r fs=>obtain⟨_,⟨_,_,_,e,_⟩,_⟩:=ht;rw[qg]at e;cases e
      |q lo hi=>obtain⟨_,_,_,e⟩:=ht;rw[qg]at e;cases e
      |e ob u=>obtain⟨e,_⟩:=ht;rw[qg]at e;cases e
      |g ps=>have e:g.get? a=some _:=ht;rw[qg]at e;cases e
      |p f y=>have e:g.get? a=some _:=ht;rw[qg]at e;cases e
      |m φ=>obtain⟨_,⟨_,e⟩,_⟩:=ht;rw[qg]at e;cases e
    obtain⟨ob,e⟩:=this;rw[cov a ob e nfr (.inr (by rw[q];exact nofun))]at f2
    cases f2
 . cases q:s.heap.get? a with
   |none=>rfl
   |some o=>
    obtain⟨o',e⟩:=u.c a o q (by simp)
    rw[cov a o' e nfr (.inl (Ak q))]at f2;cases f2
theorem Inv.adopt(I:Inv X [] σ H s)(hn:H a=none)(he:s.heap.get? a=some oe)(hd:oe.data=.fields vs)(h0:X.l.heap.get? a=none)(hpn:X.q=[]):Inv X [] σ (upd H a (.e oe (.d 0))) s:=by
 have ne:∀b,H b≠none->b≠a:=λb n z=>n (by rw[z];exact hn)
 have nL:X.a.locals≠a:=λz=>by obtain⟨m,⟨o,es,ep,e,d,_⟩,_⟩:=I.M;rw[z,he]at e;cases e;rw[hd]at d;cases d
 have nC:∀x c,X.a.cells.lookup x=some c->c≠a:=λx c e z=>by obtain⟨v,o,e2,d⟩:=I.F x c e;rw[z,he]at e2;cases e2;rw[hd]at d;cases d
 have ob:∀b u,H b=some u->upd H a (.e oe (.d 0)) b=some u:=λb u e=>by rw[zL (ne b (by rw[e];exact nofun))];exact e
 refine⟨I.B,I.R,I.D,⟨I.C.f,I.C.i,λb o e n hx=>?_,I.C.c,λb xs e=>ob _ _ (I.C.l b xs e),λb o u e=>ob _ _ (I.C.g b o u e),λb ps e=>?_⟩,I.M,I.F,?_,λx c e=>?_,λp hp=>?_,λb u e=>?_,I.P⟩
 . rw[zL (λz=>by rw[z,h0]at e;cases e)];exact I.C.d b o e n hx
 . obtain⟨more,q⟩:=I.C.j b ps e
   exact⟨more,ob _ _ q⟩
 . rw[zL nL];exact I.G
 . rw[zL (nC x c e)];exact I.J x c e
 . rw[hpn]at hp;cases hp
 . by_cases z:b=a
   . subst z
     rw[zN]at e;cases e;exact⟨he,oe,he⟩
   . rw[zL z]at e
     exact(I.j b u e).oU (λ_ _ _ q=>q) (λc q=>ob _ _ q) λc xs q=>ob _ _ q
theorem Inv.gone(I:Inv X [] σ H s)(hn:h'.Ns X.a.locals m')(hs:Dy X.a.locals s.heap h')(hpn:X.q=[]):Inv X [] (Ap X.N.length none) H {s with heap:=h',toks:=tk}:=by
 have neL:∀b o,X.l.heap.get? b=some o->b≠X.a.locals:=λb o e=>AE (Ax (Ak e) I.B.d);refine⟨I.B,I.R,I.D,⟨λb o e n hb hx=>?_,λb o e n hb hx=>?_,I.C.d,λb o e hx=>?_,I.C.l,I.C.g,I.C.j⟩,⟨m',hn,λi x v e1 e2 e3=>?_⟩,λy c e=>?_,I.G,I.J,λp hp=>?_,λb u e=>?_,by simp⟩
 . exact(hs.2 b (neL b o e)).trans (I.C.f b o e n hb hx)
 . obtain⟨sl,e1⟩:=I.C.i b o e n hb hx
   exact⟨sl,(hs.2 b (neL b o e)).trans e1⟩
 . obtain⟨o',e1⟩:=I.C.c b o e hx
   exact⟨o',(hs.2 b (neL b o e)).trans e1⟩
 . rw[DU]at e2
   split at e2<;>cases e2
 . obtain⟨v,z⟩:=I.F y c e
   exact⟨v,z.sameBut hs (I.cne y c e)⟩
 . rw[hpn]at hp;cases hp
 . refine(I.j b u e).oU (λc v hc q=>(hs.2 c ?_).trans q) (λ_ q=>q) λ_ _ q=>q
   rintro rfl;have z:=I.G;rcases hc with rfl|hc
   . rw[z]at e;cases e
   . rw[z]at hc;cases hc
end
end L2
end
section
namespace L2
open PySem PySem.W PySem.Spec PyProof PyProof.Rows
section
variable {prog:Program}{w:World}{A:Around}{E:Value->Shared->Prop}{s:Shared}{env:Env}
theorem fo
 (h:wpAny (model prog w) (A.mark (some (.ref e))) (eval t env) (λc s₁=>Looks (model prog w) s₁.heap (excMatches (.ref e) c) true /\
  wpAny (model prog w) (A.mark (some (.ref e))) (setFlight (.ref e) none) (λ_ s₂=>
   wpAny (model prog w) (A.mark (some (.ref e))) (storeName env n (.ref e)) (λ_ s₃=>
    wpAny (model prog w) (A.mark (some (.ref e))) (execs (b₀::suite) env)
     (λf s₄=>wpAny (model prog w) A (do C4 env n .none;unbindBehindTheSuite env n pos) (λ_ s₅=>Q f s₅) E s₄)
     (AsSuiteRaised (model prog w) (A.mark (some (.ref e))) env n pos (notedBy (model prog w) (A.mark (some (.ref e))) env (FD (model prog w) A env E))) s₃) (notedBy (model prog w) (A.mark (some (.ref e))) env (FD (model prog w) A env E)) s₂) (notedBy (model prog w) (A.mark (some (.ref e))) env (FD (model prog w) A env E)) s₁) (notedBy (model prog w) (A.mark (some (.ref e))) env (FD (model prog w) A env E)) s) :
 wpAny (model prog w) A (handleBy (.ref e) env (.ExceptHandler (some t) (some n) (b₀::suite) pos::rest)) Q E s:=by
 refine wpAny_handleBy_cons (codeAny_handlers_test (A6 h (λc s₁ h₁=>?_) λ_ _ y=>y)) (by intro q;cases q)
 obtain⟨L,hk⟩:=h₁;exact L.here (codeAny_handlers_suite_as hk)
end
def oG(Kc K:Ag):Prop:=∀a o,Kc.lookup a=some o->K.lookup a=some o
theorem oG.inn{Kc K}(s:oG Kc K)(x:K.In h):Kc.In h:=λa o e=>x a o (s a o e)
def XC(X:Cx)(EE:Value->Hp->Prop)(e:Value)(s':Shared):Prop:=∃(a:Addr) (cls:Value) (σ2:St) (H2:Hp) (s2:Shared) (H':Hp),e=.ref a/\Inv X [] σ2 H2 s2/\sE X.f X.w X.g H2 s2 H' a cls s'/\EE cls H'
theorem pH(e:h.get? a=some o)(hc:o.cls=cls):Looks M h (typeOf (.ref a)) cls:=hc▸(Looks.ld e).andThen .now
theorem q0{g B h h':Heap}(fr:∀b o,g.get? b=some o->b∈frs l->∃sl,h.get? b=some {o with slots:=sl})(ff:h.FunFrames B l)(sm:h.UpToSlots h'):∀b o,g.get? b=some o->b∈frs l->∃sl,h'.get? b=some {o with slots:=sl}:=λb o e hb=>by obtain⟨sl,e1⟩:=fr b o e hb;obtain⟨_,o',e2,hd⟩:=ff.mem hb;rw[e1]at e2;cases e2;obtain⟨sl',e3⟩:=sm b _ e1 hd;exact⟨sl',e3⟩
section
variable {X:Cx}{σ:St}{H:Hp}{s:Shared}{D:Ends}{EE:Value->Hp->Prop}
theorem YK(I:Inv X [] σ H s)(hpn:X.q=[])(hxn:X.m=[])(hN:X.N.Nodup)(hl:X.a.scope.names.lookup n=some .local)(hi:X.N[ie]?=some n)
 (hst:X.g=X.a::X.k) (hfr:X.a.frame=some X.a.locals) (hg:Gl X hx) (hdb:(hx == ("__debug__":Str))=false) (hm:X.d hx=some (.ref hue)) (hb:PSs (X.vH (XC X EE)) body tb) (hq:tb D σ H)
 (hex:∀cls H',EE cls H'->(∃Kc,oG Kc X.K/\exmOne Kc cls (.ref hue)=some true)/\∀a oe (σ2:St),H' a=none->oe.cls=cls->σ2.length=X.N.length->ts {a:=λ_ _=>False,b:=D.b} (σ2.set ie (some (.c a))) (upd H' a (.e oe (.d 0))))
 (hs:∀a:Addr,PSs (X.loud (X.A.mark (some (.ref a)))).nox (b₀::suite) ts) :
 wpAny (model X.f X.w) X.A (exec (.Try body [.ExceptHandler (some (.Name hx np)) (some n) (b₀::suite) hpos] [] [] pos) X.a) (SP X [] D) X.j s:=by
 refine wpAny_Try_except (A6 (hb [] s σ H D (I.vH _) hq) (λf s1 hsp=>?_) λe s1 hx'=>?_)
 . have q:=hsp.xU
   cases f with
   |next=>
    obtain⟨σ1,H1,I1,q1⟩:=q;exact m5 [] s1 σ1 H1 D I1 q1
   |brk=>exact q
   |cont=>exact q
   |ret u=>exact q
 . obtain⟨a,cls,σ2,H2,s2,H',rfl,I2,f,hE⟩:=hx'
   obtain⟨hx1,hx2⟩:=hex cls H' hE;obtain⟨t,g,B,u,hk,cov,fr,fly⟩:=f.h;have fl0:=fly;rw[hst]at fly;have hA:X.A.frames=some (X.a::X.k):=by rw[<-hst];exact I.B.g
   refine wpAny_looks_onW hA hfr fly λh4 held4 sm4=>?_;refine wpAny_landsW held4 λh5 fly5 sm5=>?_;have fly5':Heap.FlyingW B X.g a cls (.ref t) h5:=by rw[hst];exact fly5
   have f5:sE X.f X.w X.g H2 s2 H' a cls {s1 with heap:=h5}:=⟨f.j,f.d,f.i,t,g,B,u,hk,cov,q0 fr fl0.2.2.1 (sm4.trans sm5),fly5'⟩
   have I5:=(I2.VG f5).loud (A':=X.A.mark (some (.ref a))) (by rw[hst];exact hA)
   refine fo (vJ (X:=X.loud (X.A.mark (some (.ref a)))) I5 hg hm ⟨?_,?_⟩ hdb)
   . obtain⟨oe,e1,e2,_⟩:=f5.obj I2
     obtain⟨Kc,sub,hx1⟩:=hx1;exact exm_one (sub.inn I5.kIn) (pH e1 e2) hx1
   . refine lands_againW fly5' λh6 fly6 sm6=>?_
     have f6:sE X.f X.w X.g H2 s2 H' a cls {s1 with heap:=h6}:=⟨f.j,f.d,f.i,t,g,B,u,hk,cov,q0 (q0 fr fl0.2.2.1 (sm4.trans sm5)) fly5'.2.2.1 sm6,fly6⟩
     obtain⟨oe,e1,e2,e3,e4,vs,e5⟩:=f6.obj I2;have I6:=I2.VG f6;have h0:X.l.heap.get? a=none:=by
      cases q:X.l.heap.get? a with
      |none=>rfl
      |some o=>
       have hne:a ∉ X.m:=by rw[hxn];exact nofun
       obtain⟨o',q'⟩:=I2.C.c a o q hne;rw[e4]at q';cases q'
     have I7:=(I6.adopt e3 e1 e5 h0 hpn).loud (A':=X.A.mark (some (.ref a))) (by rw[hst];exact hA)
     refine wW (X:=X.loud (X.A.mark (some (.ref a)))) (v:=.c a) I7 hN hi (.inl hl) rfl (λs8 I8=>?_) (.inr hl);refine A6 ((hs a) [] s8 _ _ {a:=λ_ _=>False,b:=D.b} (I8.vH _) (hx2 a oe σ2 e3 e2 I2.P)) (λfl s9 hsp=>?_) λ_ _ z=>Az z;have q:=hsp.xU;cases fl with
     |next=>obtain⟨_,_,_,z⟩:=q;exact Az z
     |brk=>obtain⟨_,_,_,z⟩:=q;exact Az z
     |cont=>obtain⟨_,_,_,z⟩:=q;exact Az z
     |ret u=>
      obtain⟨v,σ',H3,I9,rv,q9⟩:=q;have I10:Inv X [] σ' H3 s9:=I9.calm I.B;obtain⟨m,hn,_⟩:=I10.M;exact wpAny_nameGoes hl hn (by rw[I.B.a];rfl) λh' m' hn' hs'=>⟨v,_,H3,I10.gone hn' hs' hpn,rv,q9⟩
end
end L2
end
section
namespace L2
open PySem PySem.W PySem.Spec PyProof PyProof.Rows
open Sem (wp)
structure qj(K:Ag)(C:Addr):Prop where
 ga:findIn K (.ref C) "__getattribute__"=some (some (.builtin "BaseException.__getattribute__"))
 gt:findIn K (.ref C) "__getattr__"=some none
 cl:findIn K (.ref C) "__class__"=some (some (.builtin "object.__class__"))
 be:subIn K (.ref C) (.type "BaseException")=some true
 ob:subIn K (.ref C) (.type "object")=some true
 it:(clsIn K C).isSome=true
section
variable {prog:Program}{w:World}{A:Around}{E:Value->Shared->Prop}{h:Heap}{g:Array GenState}{d:Drawn}{t:Nat}{os:OsState}{a C:Addr}{o:Obj}{K:Ag}
theorem gF(F:qj K C)(X:K.In h)(hx:h.get? a=some o)(hc:o.cls=.ref C)(hq:R (.ok (.ret (.ref C))) ⟨h,g,d,t,os⟩) :
 codeAny (model prog w) A (.call (.builtin "getset_descriptor.__get__") ⟨[.builtin "object.__class__",.ref a,.ref C],[]⟩) R ⟨h,g,d,t,os⟩:=by
 have hT5:(⟨h,g,d,t,os⟩:Shared).TypeIs (.builtin "object.__class__") "getset_descriptor":=Dg;have L1:Looks (model prog w) h (isSubtype (.ref C) (.type (".".intercalate ("object.__class__".cutAt '.').dropLast))) true:=by rw[PySem.F.owner_object_class];exact looks_subIn X F.ob
 refine EG EM.plain PySem.F.entry_gs_get (EM.check _ _ _ _ _ _ _ _ hT5 (PySem.F.args_gs_get _ _ _) ?_)
 repeat (any_goals (first|assumption|(with_reducible refine Bn hx ?_;rw[hc])|with_reducible refine L1.at ?_|wp_step))
 refine⟨E1 _ (by decide +kernel),codeAny_builtin PySem.F.entry_object_class ?_⟩
 repeat (any_goals (first|assumption|(with_reducible refine Bn hx ?_;rw[hc])|wp_step))
theorem lO(F:qj K C)(X:K.In h)(hx:h.get? a=some o)(hc:o.cls=.ref C)(hq:Q (.done (.ret (.ref C))) ⟨h,g,d,t,os⟩) :
 wpAny (model prog w) A (Builtin.«object.__getattribute__» ⟨[.ref a,.str "__class__" tk],[]⟩) Q E ⟨h,g,d,t,os⟩:=by
 have hT5:(⟨h,g,d,t,os⟩:Shared).TypeIs (.builtin "object.__class__") "getset_descriptor":=Dg;have f5:=Dg;have f6:=EM.lookup;have f7:=PySem.F.slot_gs_set.lookup;have L1:=looks_findIn (M:=model prog w) X F.cl
 repeat (any_goals (first|assumption|(with_reducible refine Bn hx ?_;rw[hc])|with_reducible refine L1.at ?_|wp_step))
 refine gF F X hx hc ?_
 repeat (any_goals (first|assumption|wp_step))
theorem lN(F:qj K C)(X:K.In h)(hx:h.get? a=some o)(hc:o.cls=.ref C)(hq:Q () ⟨h,g,d,t,os⟩):wpAny M A (CP "BaseException.__getattribute__" ⟨[.ref a,nameV],[]⟩) Q E ⟨h,g,d,t,os⟩:=by
 have hk:builtinKind "BaseException.__getattribute__"=some .slot:=by decide +kernel
 have hsplit:splitId "BaseException.__getattribute__"=some ("BaseException","__getattribute__"):=by decide +kernel
 have L1:=looks_subIn (M:=M) X F.be;have ha:=PySem.F.args_bexc_ga (.ref a) nameV;simp only[CP,hk,hsplit];refine dS ?_
 . unfold isInstance
   repeat (first|(with_reducible refine Bn hx ?_;rw[hc])|with_reducible refine L1.at ?_|wp_step)
   exact hq
theorem jP(F:qj K C)(X:K.In h)(hx:h.get? a=some o)(hc:o.cls=.ref C)(hq:R (.ok (.ret (.ref C))) ⟨h,g,d,t,os⟩) :
 codeAny (model prog w) A (.call (.builtin "BaseException.__getattribute__") ⟨[.ref a,.str "__class__" tk],[]⟩) R ⟨h,g,d,t,os⟩:=
 EG Fe.ga.plain PySem.F.entry_bexc_ga (lN F X hx hc (lO F X hx hc hq))
theorem dw{fill expr}(F:qj K C)(X:K.In h)(hx:h.get? a=some o)(hc:o.cls=.ref C)(hq:Q (.ref C) ⟨h,g,d,t,os⟩) :
 wpAny (model prog w) A (getAttrBy (.ref a) (.str "__class__" tk) fill expr) Q E ⟨h,g,d,t,os⟩:=by
 have f3:=Fe.ga.bind (.ref a);have hx0:(expr&&onTheHeap (D8 "BaseException.__getattribute__"))=false:=by cases expr<;>rfl
 have hx2:(D8 "BaseException.__getattribute__" == D8 "object.__getattribute__")=false:=by decide +kernel
 have hx1:(onTheHeap (A5 C)&&D8 "BaseException.__getattribute__" == D8 "object.__getattribute__")=false:=by rw[hx2];rfl
 have L1:=looks_findIn (M:=model prog w) X F.ga;have L2:=looks_findIn (M:=model prog w) X F.gt
 repeat (any_goals (first|assumption|(with_reducible refine Bn hx ?_;rw[hc])|with_reducible refine L1.at ?_|with_reducible refine L2.at ?_|wp_step))
 refine jP F X hx hc ?_
 repeat (any_goals (first|assumption|wp_step))
theorem jN(F:qj K C)(X:K.In h)(hx:h.get? a=some o)(hc:o.cls=.ref C)(hq:Q (some (.ref C)) ⟨h,g,d,t+1,os⟩):wpAny (model prog w) A (getAttr? (.ref a) "__class__") Q E ⟨h,g,d,t,os⟩:=by
 unfold getAttr? getAttrBy?
 repeat (any_goals (first|assumption|with_reducible apply dw F X hx hc|wp_step))
theorem aa(F:qj K C)(hc:o.cls=.ref C):KitX K (.ref a) (.ref C) (λh=>h.get? a=some o) where
 ty:=λM h _ e=>pH e hc
 it:=λM h X _=>by
  have z:=F.it;unfold clsIn at z;split at z
  . rename_i c' d' cd' sl' ho
    intro A' Q' E' s' k q;unfold isType loadHead;exact dS (wpAny_loadPart (k _ _ (X _ _ ho)) (Ai q))
  . cases z
 ne:=λh tp dd its n sl X htp=>by
  have z:=F.it;refine Bool.eq_false_iff.mpr λq=>?_;have e:C=tp:=A5.inj (beq_iff_eq.mp q);subst e;unfold clsIn at z;split at z
  . rename_i c' d' cd' sl' ho
    have z:=(X _ _ ho).symm.trans htp;cases z
  . cases z
 ca:=λ{prog w A E Q s} X e k=>by obtain⟨h,g,d,t,os⟩:=s;exact jN F X e hc k
end
end L2
end
section
namespace L2
open PySem PySem.W PySem.Spec PySem.Calls PyProof PyProof.Rows
open SeqAt
def lA(K:Ag):V->List V->Hp->VK->Prop:=λx vs H Q=>∃t xs y j,x=.c t/\vs=[y]/\SqL K H t xs/\xy y=true/\xs.all xy=true/\xs.findIdx? (λz=>eqV z y)=some j/\Q (.d (j:Nat)) H
def Qm(K:Ag):List V->Hp->VK->Prop:=λxs H Q=>∃(a:Addr) (oe:Obj) (C:Addr) (dv:V) (du:Value) (b:Bool) (Kc:Ag),xs=[.c a,dv]/\H a=some (.e oe (.d 0))/\oe.cls=.ref C/\oG Kc K/\qj Kc C/\(∀u,RelV dv u->u=du)/\kitOne Kc (.ref C) du=some b/\Q (.f b) H
section
variable {X:Cx}
theorem eQ:MtR X "list.index" (lA X.K):=by
 intro pins s σ H x xs v us Q I rx rs h;obtain⟨t,ys,y,j,rfl,rfl,ht,fy,fs,hx,q⟩:=h;cases rx;obtain⟨u,rfl,ru⟩:=vals1 rs;obtain⟨its,r,p1,hz⟩:=I.list ht;obtain⟨⟨cls,dd,data,sl⟩,ho,hc,n,hd⟩:=id p1.isList;simp only at hc hd;subst hc hd;have hm:=bc (x:=y) r fs;have at_:∀(i:Nat) (h1:i<its.length) (h2:i<ys.length),eqU y its[i]=eqV ys[i] y:=λi h1 h2=>by
  have:=congrArg (·[i]?) hm
  simp only[AG,xd h1,xd h2,Ep,Fi]at this;exact this
 have hl:=r.length;obtain⟨hj,hit,hno⟩:=CJ.mp hx;have hsz:its.length<=Av:=by first|exact hz|(rw[<-hl];exact hz)|simpa using hz
 rw[AV]at hsz;refine Cc F.slot_list_index ⟨_,ho,rfl⟩ F.entry_list_index (F.args_list_index_2 _ _) (list_indexAt t its.toArray n dd sl u (eqU y) j (by rw[Ae];omega) (by omega) ?_ λm hm hmj=>?_) ⟨ho,λw hw=>wQ ru fy r fs w (by simpa using hw),?_⟩
 . rw[List.getElem_toArray,at_ j (by omega) hj];exact hit
 . rw[Ae]at hm
   rw[List.getElem_toArray,at_ m hm (by omega)]
   have:=hno m hmj;simpa using this
 . exact⟨.d _,H,I.tok _,⟨s.toks,rfl⟩,q⟩
theorem dA(ho:PE X o to)(he:PE X e te)(hbase:CY o "index" X.a (eval o X.a)=eval o X.a:=by rfl)(hst:noStar e=true:=by rfl)(hline:(apos.endLine == cpos.line)=true:=by rfl) :
 PE X (.Call (.Attribute o "index" apos) [e] [] cpos) (tBM X.K "list" (lA X.K) to (vi te qU)):=by
 have hs1:AI [e] X.a=(false,eval e X.a)::AI [] X.a:=zg hst;refine ZV DW PySem.F.slot_list_index PySem.F.type_list_index eQ ho (pac he xK hst) hbase ?_ hline hs1 rfl;rw[hs1];rfl
theorem lT:yY X (.builtin "isinstance") (Qm X.K):=by
 intro pins s σ H vs us Q I r h;obtain⟨a,oe,C,dv,du,b,Kc,rfl,ha,hc,sub,F,hd,hk,q⟩:=h;cases r with
 |cons r1 r2=>
  cases r2 with
  |cons r2 r3=>
   cases r3;cases r1;rw[hd _ r2];exact kia_one (aa F hc) (sub.inn I.kIn) (I.j a _ ha).1 hk (λz=>nomatch z) λtk=>⟨.f b,H,I.tok tk,rfl,q⟩
theorem To(hg:Gl X c)(hm:X.d c=some (.ref D))(hdb:(c == ("__debug__":Str))=false):PE X (.Name c p) (tC (.c D)):=λpins s σ H Q I h=>vJ I hg hm ⟨.c D,H,I,rfl,h⟩ hdb
theorem Te(hg:Gl X c)(hm:X.d c=none)(hv:B9 c=some (.type n))(hn:c≠"__name__")(hdb:(c == ("__debug__":Str))=false):PE X (.Name c p) (tC (.k n)):=λpins s σ H Q I h=>vv I hg hm hv ⟨.k n,H,I,rfl,h⟩ hn hdb
end
end L2
end
section
namespace L2
open PySem PySem.W PySem.Spec PySem.Calls PyProof PyProof.Rows
def uO(sc:Scope):List Str->List Expr->Bool
 |[],es=>es.isEmpty
 |c::cs,es=>M.lc es λe es=>(M.eCN e λf xs=>M.lc xs λa ys=>M.l1 ys λb=>M.eName a λy _=>M.eName b λx _=>decide (f="isinstance")&&decide (y="_law_e")&&decide (x=c)&&decide (sc.names.lookup c=some .globalImplicit)&&!(c == ("__debug__":Str)))&&uO sc cs es
def rP:List Str->List Expr->Bool
 |[],es=>es.isEmpty
 |w::ws,es=>M.lc es λe es=>(M.Ys e λc _ _=>decide (c=.str w))&&rP ws es
noncomputable def adr(mg:Str->Option Value)(c:Str):Addr:=match mg c with|some (.ref D)=>D|_=>0
theorem cb(h:mg c=some (.ref D)):adr mg c=D:=by unfold adr;rw[h]
def YE(K:Ag)(dv:V):TE:=tCB (Qm K) (vi (sA 0) (vi (tC dv) qU))
def ir(K:Ag)(mg:Str->Option Value):List Str->TA
 |[]=>qU
 |c::cs=>vi (YE K (.c (adr mg c))) (ir K mg cs)
def jH:List Str->TA
 |[]=>qU
 |w::ws=>vi (tC (.e w)) (jH ws)
structure KB(X:Cx)(sc:Scope):Prop where
 d:X.a.scope=sc
 l:X.N.Nodup
 n0:X.N[0]?=some ("_law_e":Str)
 j:X.N[1]?=some ("_law_marks":Str)
 n2:X.N[2]?=some ("_law_words":Str)
 l0:sc.names.lookup ("_law_e":Str)=some .local
 g:sc.names.lookup ("_law_marks":Str)=some .local
 i:sc.names.lookup ("_law_words":Str)=some .local
 gi:sc.names.lookup ("isinstance":Str)=some .globalImplicit
 gv:sc.names.lookup ("ValueError":Str)=some .globalImplicit
 mi:X.d "isinstance"=none
 mv:X.d "ValueError"=none
structure KS(K Kc:Ag)(C a:Addr)(oe:Obj)(H0:Hp)(σ:St)(H:Hp):Prop where
 c:σ[0]?=some (some (.c a))
 d:H a=some (.e oe (.d 0))
 e:oe.cls=.ref C
 F:qj Kc C
 b:oG Kc K
 f:wq H0 H
section
variable {X:Cx}{sc:Scope}
theorem KB.gl(B:KB X sc)(h:sc.names.lookup x=some .globalImplicit):Gl X x:=by show X.a.scope.names.lookup x=_;rw[B.d];exact h
theorem KB.vis(B:KB X sc)(h:sc.names.lookup x=some .local):Vis X.a.scope x:=by rw[B.d];exact .inl h
theorem KB.QW(B:KB X sc):PE X (.Name "_law_e" p) (sA 0):=uc B.n0 (B.vis B.l0) (by decide) (by decide)
theorem KB.Tg(B:KB X sc):PE X (.Name "_law_marks" p) (sA 1):=uc B.j (B.vis B.g) (by decide) (by decide)
theorem KB.Pr(B:KB X sc):PE X (.Name "_law_words" p) (sA 2):=uc B.n2 (B.vis B.i) (by decide) (by decide)
theorem KB.QY(B:KB X sc)(hg:sc.names.lookup c=some .globalImplicit)(hdb:(c == ("__debug__":Str))=false)(hm:X.d c=some (.ref D)):PE X (.Call (.Name "isinstance" p1) [.Name "_law_e" p2,.Name c p3] [] p4) (YE X.K (.c D)):=
 sZ lT (B.gl B.gi) B.mi boot_isinstance (wJ B.QW (wJ (To (B.gl hg) hm hdb) xK))
theorem KB.Tf(B:KB X sc):PE X (.Call (.Name "isinstance" p1) [.Name "_law_e" p2,.Name "ValueError" p3] [] p4) (YE X.K (.k "ValueError")):=
 sZ lT (B.gl B.gi) B.mi boot_isinstance (wJ B.QW (wJ (Te (B.gl B.gv) B.mv (by first|rfl|decide +kernel) (by decide) (by decide)) xK))
theorem KB.isl(B:KB X sc):∀{cs} {es},uO sc cs es=true->(∀c∈cs,∃D,X.d c=some (.ref D))->PA X es (ir X.K X.d cs)
 |[],es,h,_=>by cases AR.mp h;exact xK
 |c::cs,es,h,hm=>by replace h:=M.ya h;obtain⟨e,es,rfl,h⟩:=h;obtain⟨h0,h6⟩:=M.za h;replace h0:=M.xF h0;obtain⟨f,p1,xs,p4,rfl,h0⟩:=h0;replace h0:=M.ae h0;obtain⟨a,b,rfl,h0⟩:=h0;replace h0:=M.xf h0;obtain⟨y,p2,rfl,h0⟩:=h0;replace h0:=M.xf h0;obtain⟨x,p3,rfl,h0⟩:=h0;clear h;simp only[cf,decide_eq_true_eq,AQ]at h0;obtain⟨⟨⟨⟨rfl,rfl⟩,rfl⟩,h4⟩,h5⟩:=h0;obtain⟨D,hD⟩:=hm _ (Ar ..);refine wJ ?_ (KB.isl B h6 λc' hc'=>hm c' (Ah _ hc'));rw[cb hD];exact B.QY h4 h5 hD
theorem SJ:∀{ws} {es},rP ws es=true->PA X es (jH ws)
 |[],es,h=>by cases AR.mp h;exact xK
 |w::ws,es,h=>by replace h:=M.ya h;obtain⟨e,es,rfl,h⟩:=h;obtain⟨h0,h6⟩:=M.za h;obtain⟨c,k,p,rfl,h1⟩:=M.qw h0;obtain rfl:=of_decide_eq_true h1;exact wJ rk (SJ h6)
end
section
variable {K Kc:Ag}{mg:Str->Option Value}{C a:Addr}{oe:Obj}{H0 H:Hp}{σ:St}
theorem b7(S:KS K Kc C a oe H0 σ H)(hd:∀u,RelV dv u->u=du)(hk:kitOne Kc (.ref C) du=some b)(q:Q (.f b) H):YE K dv σ H Q:=
 ⟨_,S.c,a,oe,C,dv,du,b,Kc,rfl,S.d,S.e,S.b,S.F,hd,hk,q⟩
theorem mU(S:KS K Kc C a oe H0 σ H)(b:Str->Bool):∀{cs} {Q},(∀c∈cs,kitOne Kc (.ref C) (.ref (adr mg c))=some (b c))->Q (cs.map λc=>.f (b c)) H->ir K mg cs σ H Q
 |[],_,_,q=>q
 |c::cs,Q,hk,q=>b7 S (λu z=>z) (hk c (Ar ..)) (mU S b (λc' hc'=>hk c' (Ah _ hc')) q)
theorem pf:∀{ws} {Q},Q (ws.map V.e) H->jH ws σ H Q
 |[],_,q=>q
 |w::ws,Q,q=>pf (ws:=ws) q
theorem wV(h:H p=none):wq H (upd H p o):=λb u e=>by rw[zL (zU e h)];exact e
theorem KS.new(S:KS K Kc C a oe H0 σ H)(h:H p=none):KS K Kc C a oe H0 σ (upd H p o):=⟨S.c,wV h _ _ S.d,S.e,S.F,S.b,S.f.trans (wV h)⟩
theorem KS.put(S:KS K Kc C a oe H0 σ H):KS K Kc C a oe H0 (σ.set (i+1) (some v)) H:=⟨by rw[Bw (by omega)];exact S.c,S.d,S.e,S.F,S.b,S.f⟩
theorem Xo{b:Str->Bool}(S:KS K Kc C a oe H0 σ H)(hl:3<=σ.length)(hz:cs.length<=1000)(hk:∀c∈cs,kitOne Kc (.ref C) (.ref (adr mg c))=some (b c))
 (q:∀p σ' H',KS K Kc C a oe H0 σ' H'->σ'.length=σ.length->σ'[1]?=some (some (.c p))->H' p=some (.b (cs.map λc=>.f (b c)))->D.a σ' H'):tE (iu (ir K mg cs)) (wM 1) D σ H:=
 mU S b hk ⟨by rw[Aa,AV];omega,λp hp=>q p _ _ (S.new hp).put (by simp) (by rw[AM (by omega)]) zN⟩
theorem mY{b:Str->Bool}(S:KS K Kc C a oe H0 σ H)(hl:3<=σ.length)(h1:σ[1]?=some (some (.c p0)))(h2:H p0=some (.b (ds.map λc=>.f (b c))))(hz:ds.length+cs.length<=1000)(hk:∀c∈cs,kitOne Kc (.ref C) (.ref (adr mg c))=some (b c))
 (q:∀p σ' H',KS K Kc C a oe H0 σ' H'->σ'.length=σ.length->σ'[1]?=some (some (.c p))->H' p=some (.b ((ds++cs).map λc=>.f (b c)))->D.a σ' H'):tE (tOp WT (sA 1) (iu (ir K mg cs))) (wM 1) D σ H:=by
 refine⟨_,h1,mU S b hk ⟨by rw[Aa,AV];omega,λp1 hp1=>⟨p0,p1,_,_,rfl,rfl,by rw[zL (zU h2 hp1)];exact h2,zN,by rw[Aa,Aa,AV];omega,λp hp=>?_⟩⟩⟩
 refine q p _ _ ((S.new hp1).new hp).put (by simp) (by rw[AM (by omega)]) ?_
 rw[zN,Cy]
end
end L2
end
section
namespace L2
open PySem PySem.W PySem.Spec PySem.Calls PyProof PyProof.Rows
noncomputable def ans(pre:Option Str)(w:Str):Str:=match pre with|none=>w|some x=>x++w
def Qj:R2:=λx y H Q=>∃i j,x=.e i/\y=.e j/\i.length+j.length<=Av/\Q (.e (i++j)) H
def fI(K:Ag)(ws2:List Str):TE:=tOp (T8 K) (tOp WT (sA 2) (iu (jH ws2))) (tBM K "list" (lA K) (sA 1) (vi (tC (.f true)) qU))
def iw(K:Ag)(pre:Option Str)(ws2:List Str):TE:=match pre with
 |none=>fI K ws2
 |some x=>tOp Qj (tC (.e x)) (fI K ws2)
def tMk(K:Ag)(mg:Str->Option Value)(cs:List Str):TS:=tE (tOp WT (sA 1) (iu (ir K mg cs))) (wM 1)
def Vh(K:Ag)(mg:Str->Option Value)(cs1 cs2 cs3 cs4 ws1 ws2:List Str)(pre:Option Str)(odd:Str):TS:=
 jG (tE (iu (ir K mg cs1)) (wM 1)) (jG (tMk K mg cs2) (jG (tMk K mg cs3) (jG (tMk K mg cs4)
  (jG (Q7 (tOr (Q8 (tB (YE K (.k "ValueError")))) (fJ (tOp rNe (tBM K "list" (pX K false) (sA 1) (vi (tC (.f true)) qU)) (tC (.d 1))))) (dg (tC (.e odd))) Vi)
   (jG (tE (iu (jH ws1)) (wM 2)) (dg (iw K pre ws2)))))))
section
variable {X:Cx}{sc:Scope}
theorem KB.pick(B:KB X sc){l2}(w2:rP ws2 l2=true)(hline:(ap.endLine == cp.line)=true) :
 PE X (.Subscript (.BinOp (.Name "_law_words" p1) .Add (.List l2 p2) p3) (.Call (.Attribute (.Name "_law_marks" p4) "index" ap) [.Constant (.bool true) k p5] [] cp) p6) (fI X.K ws2):=
 VZ gm (kX iF B.Pr (pV (SJ w2))) (dA B.Tg ZU (hline:=hline)) (λ_ _=>rfl)
theorem KB.mks(B:KB X sc){es}(h:uO sc cs es=true)(hm:∀c∈cs,∃D,X.d c=some (.ref D)) :
 PS X (.Assign [.Name "_law_marks" p1] (.BinOp (.Name "_law_marks" p2) .Add (.List es p3) p4) p5) (tMk X.K X.d cs):=
 ue B.l B.j (by rw[B.d];exact .inl B.g) (kX iF B.Tg (pV (B.isl h hm))) (hf:=.inr (by rw[B.d];exact B.g))
theorem aY(B:KB X sc)
 (h1:uO sc cs1 e1=true) (h2:uO sc cs2 e2=true) (h3:uO sc cs3 e3=true) (h4:uO sc cs4 e4=true) (hm:∀c∈cs1++cs2++cs3++cs4,∃D,X.d c=some (.ref D)) (w1:rP ws1 l1=true) (hline:(ap.endLine == cp.line)=true) (hr:PE X r (iw X.K pre ws2)) :
 PSs X [.Assign [.Name "_law_marks" a1] (.List e1 a2) a3,.Assign [.Name "_law_marks" b1] (.BinOp (.Name "_law_marks" b2) .Add (.List e2 b3) b4) b5,.Assign [.Name "_law_marks" c1] (.BinOp (.Name "_law_marks" c2) .Add (.List e3 c3) c4) c5,
  .Assign [.Name "_law_marks" d1] (.BinOp (.Name "_law_marks" d2) .Add (.List e4 d3) d4) d5,
  .If (.BoolOp .Or [.UnaryOp .Not (.Call (.Name "isinstance" f1) [.Name "_law_e" f2,.Name "ValueError" f3] [] f4) f5,.Compare (.Call (.Attribute (.Name "_law_marks" f6) "count" ap) [.Constant (.bool true) k1 f7] [] cp) [.NotEq] [.Constant (.int 1) k2 f8] f9] fa) [.Return (some (.Constant (.str odd) k3 fb)) fc] [] fd,
  .Assign [.Name "_law_words" g1] (.List l1 g2) g3,.Return (some r) r1] (Vh X.K X.d cs1 cs2 cs3 cs4 ws1 ws2 pre odd):=by
 have m1:∀c∈cs1,∃D,X.d c=some (.ref D):=λc h=>hm c (by simp[h])
 have m2:∀c∈cs2,∃D,X.d c=some (.ref D):=λc h=>hm c (by simp[h])
 have m3:∀c∈cs3,∃D,X.d c=some (.ref D):=λc h=>hm c (by simp[h])
 have m4:∀c∈cs4,∃D,X.d c=some (.ref D):=λc h=>hm c (by simp[h])
 refine y0 (ue B.l B.j (by rw[B.d];exact .inl B.g) (pV (B.isl h1 m1)) (hf:=.inr (by rw[B.d];exact B.g))) (y0 (B.mks h2 m2) (y0 (B.mks h3 m3) (y0 (B.mks h4 m4) (y0 ?_ (y0
  (ue B.l B.n2 (by rw[B.d];exact .inl B.i) (pV (SJ w1)) (hf:=.inr (by rw[B.d];exact B.i))) (v9 (ud hr)))))))
 exact kf (Qf (iR (Tz B.Tf)) (T4 (m6 VV (nI B.Tg ZU (hline:=hline)) Za (pO _ (by decide) (by decide))))) (v9 (ud rk)) m5
end
section
variable {K Kc:Ag}{mg:Str->Option Value}{C a:Addr}{oe:Obj}{H0 H:Hp}{σ:St}
theorem gM{cs:List Str}{b:Str->Bool}:(cs.map λc=>V.f (b c)).all xy=true:=by rw[List.all_map,Ao];intro _ _;rfl
theorem ZD{cs:List Str}(nd:cs.Nodup)(hm:c0∈cs):((cs.map λc=>V.f (decide (c=c0))).countP λz=>eqV z (.f true))=1:=by
 rw[List.countP_map];have e:((λz=>eqV z (.f true))∘λc=>V.f (decide (c=c0)))=λc:Str=>c == c0:=by
  funext c;by_cases z:c=c0
  . subst z;simp[eqV]
  . simp[eqV,z]
 rw[e];have h1:cs.count c0<=1:=List.nodup_iff_count.mp nd c0;have h2:0<cs.count c0:=List.count_pos_iff.mpr hm;show cs.count c0=1;omega
theorem XJ{cs:List Str}(nd:cs.Nodup)(hi:cs[i]?=some c0):(cs.map λc=>V.f (decide (c=c0))).findIdx? (λz=>eqV z (.f true))=some i:=by
 obtain⟨h1,h2⟩:=Aj.mp hi;rw[CJ];refine⟨by rw[Aa];exact h1,by rw[B3,h2];simp[eqV],λj hj=>?_⟩
 rw[B3];have:cs[j]≠c0:=λz=>by rw[<-h2]at z;exact absurd ((List.getElem_inj nd).mp z) (by omega)
 simp[eqV,this]
theorem aZ{i:Nat}(S:KS K Kc C a oe H0 σ H)(hl:3<=σ.length)(nd:(cs1++cs2++cs3++cs4).Nodup)(hz:(cs1++cs2++cs3++cs4).length<=100)(hz2:(ws1++ws2).length<=100)
 (hi:(cs1++cs2++cs3++cs4)[i]?=some c0) (hw:(ws1++ws2)[i]?=some w) (hwl:w.length<=100) (hpl:∀x,pre=some x->x.length<=100) (hk:∀c∈cs1++cs2++cs3++cs4,kitOne Kc (.ref C) (.ref (adr mg c))=some (decide (c=c0))) (hv:kitOne Kc (.ref C) (.type "ValueError")=some true)
 (q:∀H',wq H0 H'->D.b (.e (ans pre w)) H'):Vh K mg cs1 cs2 cs3 cs4 ws1 ws2 pre odd D σ H:=by
 simp only[Am]at hz hz2;have k1:∀c∈cs1,kitOne Kc (.ref C) (.ref (adr mg c))=some (decide (c=c0)):=λc h=>hk c (by simp[h])
 have k2:∀c∈cs2,kitOne Kc (.ref C) (.ref (adr mg c))=some (decide (c=c0)):=λc h=>hk c (by simp[h])
 have k3:∀c∈cs3,kitOne Kc (.ref C) (.ref (adr mg c))=some (decide (c=c0)):=λc h=>hk c (by simp[h])
 have k4:∀c∈cs4,kitOne Kc (.ref C) (.ref (adr mg c))=some (decide (c=c0)):=λc h=>hk c (by simp[h])
 refine Xo (b:=λc=>decide (c=c0)) S hl (by omega) k1 λp1 σ1 H1 S1 n1 e1 q1=>?_
 refine mY (b:=λc=>decide (c=c0)) (ds:=cs1) S1 (by omega) e1 q1 (by omega) k2 λp2 σ2 H2 S2 n2 e2 q2=>?_
 refine mY (b:=λc=>decide (c=c0)) (ds:=cs1++cs2) S2 (by omega) e2 q2 (by rw[Am];omega) k3 λp3 σ3 H3 S3 n3 e3 q3=>?_
 refine mY (b:=λc=>decide (c=c0)) (ds:=cs1++cs2++cs3) S3 (by omega) e3 q3 (by rw[Am,Am];omega) k4 λp4 σ4 H4 S4 n4 e4 q4=>?_
 have hmem:c0∈cs1++cs2++cs3++cs4:=AA hi;refine b7 S4 (λu z=>z) hv ⟨true,rfl,?_⟩;refine rY ?_;refine⟨_,e4,?_,p4,_,.f true,rfl,rfl,.inl (.inl q4),rfl,gM,rfl,_,rfl,?_⟩
 . exact .inl ⟨rfl,_,.inl (.inl q4)⟩
 rw[ZD nd hmem];refine rY ?_;refine pf ⟨by rw[Aa,AV];omega,λp5 hp5=>?_⟩
 have S5:KS K Kc C a oe H0 (σ4.set 2 (some (.c p5))) (upd H4 p5 (.b (ws1.map V.e))):=(S4.new hp5).put;have e5:(σ4.set 2 (some (V.c p5)))[1]?=some (some (.c p4)):=by rw[Bw (by omega)];exact e4
 have q5:upd H4 p5 (.b (ws1.map V.e)) p4=some (.b ((cs1++cs2++cs3++cs4).map λc=>V.f (decide (c=c0)))):=by rw[zL (zU q4 hp5)];exact q4
 have pick:∀Q:VK,(∀H',wq H0 H'->Q (.e w) H')->fI K ws2 (σ4.set 2 (some (.c p5))) (upd H4 p5 (.b (ws1.map V.e))) Q:=λQ hQ=>by
  refine⟨_,by rw[AM (by omega)],pf ⟨by rw[Aa,AV];omega,λp6 hp6=>⟨p5,p6,_,_,rfl,rfl,by rw[zL (zU zN hp6)];exact zN,zN,by rw[Aa,Aa,AV];omega,λp7 hp7=>?_⟩⟩⟩
  have q6:=wV (o:=.b (ws1.map V.e++ws2.map V.e)) hp7 _ _ (wV (o:=.b (ws2.map V.e)) hp6 _ _ q5);refine⟨_,e5,.inl ⟨rfl,_,.inl (.inl q6)⟩,p4,_,.f true,i,rfl,rfl,.inl (.inl q6),rfl,gM,XJ nd hi,p7,_,i,.e w,rfl,rfl,.inl (.inl zN),?_,hQ _ ((S5.f.trans (wV hp6)).trans (wV hp7))⟩;obtain⟨h1,h2⟩:=Aj.mp hw;rw[Am]at h1;unfold atI ixN;rw[<-Cy,if_pos (by omega),Aa,Am,if_pos (by omega)]
  show (Gy V.e (ws1++ws2))[(i:Int).toNat]?=_;rw[AN,AG,hw];rfl
 cases pre with
 |none=>exact pick _ q
 |some x=>
  refine pick _ λH' sm=>⟨x,w,rfl,rfl,?_,q H' sm⟩;have:=hpl x rfl;rw[AV];omega
end
end L2
end
section
namespace L2
open PySem PySem.W PySem.Spec PySem.Calls PyProof PyProof.Rows
noncomputable def kN:List Str:=["_law_e","_law_marks","_law_words"]
def cP(sc:Scope)(cs ws:List Str)(pre:Option Str)(body:List Stmt):Prop:=
 ∃(cs1 cs2 cs3 cs4 ws1 ws2:List Str) (odd:Str) (e1 e2 e3 e4 l1 l2:List Expr) (r s:Expr) (a1 a2 a3 b1 b2 b3 b4 b5 c1 c2 c3 c4 c5 d1 d2 d3 d4 d5 f1 f2 f3 f4 f5 f6 f7 f8 f9 fa fb fc fd g1 g2 g3 ap cp r1 q1 q2 q3 q4 q5 q6 ap2 cp2 t1 t2:Pos) (k1 k2 k3 k4 k5:Nat),
  body=[.Assign [.Name "_law_marks" a1] (.List e1 a2) a3,.Assign [.Name "_law_marks" b1] (.BinOp (.Name "_law_marks" b2) .Add (.List e2 b3) b4) b5,.Assign [.Name "_law_marks" c1] (.BinOp (.Name "_law_marks" c2) .Add (.List e3 c3) c4) c5,
   .Assign [.Name "_law_marks" d1] (.BinOp (.Name "_law_marks" d2) .Add (.List e4 d3) d4) d5,
   .If (.BoolOp .Or [.UnaryOp .Not (.Call (.Name "isinstance" f1) [.Name "_law_e" f2,.Name "ValueError" f3] [] f4) f5,.Compare (.Call (.Attribute (.Name "_law_marks" f6) "count" ap) [.Constant (.bool true) k1 f7] [] cp) [.NotEq] [.Constant (.int 1) k2 f8] f9] fa) [.Return (some (.Constant (.str odd) k3 fb)) fc] [] fd,
   .Assign [.Name "_law_words" g1] (.List l1 g2) g3,.Return (some r) r1] /\
  s=.Subscript (.BinOp (.Name "_law_words" q1) .Add (.List l2 q2) q3) (.Call (.Attribute (.Name "_law_marks" q4) "index" ap2) [.Constant (.bool true) k4 q5] [] cp2) q6 /\
  (match pre with|none=>r=s|some x=>r=.BinOp (.Constant (.str x) k5 t1) .Add s t2) /\
  (uO sc cs1 e1&&uO sc cs2 e2&&uO sc cs3 e3&&uO sc cs4 e4&&rP ws1 l1&&rP ws2 l2&&(ap.endLine == cp.line)&&(ap2.endLine == cp2.line))=true/\cs=cs1++cs2++cs3++cs4/\ws=ws1++ws2
structure nv(K:Ag)(mg:Str->Option Value)(x:Str)(cs ws:List Str)(pre:Option Str):Prop where
 ex:∃(st:Stmt) (f:Addr) (fd:BQ),mg x=some (.ref f)/\Fun K x x st f fd/\vI kN ["_law_e"] (zH st)/\Binds K fd ["_law_e"] []/\cP (zH st) cs ws pre (yh st) /\
  ((zH st).names.lookup ("_law_e":Str)=some .local/\(zH st).names.lookup ("_law_marks":Str)=some .local/\(zH st).names.lookup ("_law_words":Str)=some .local/\(zH st).names.lookup ("isinstance":Str)=some .globalImplicit/\(zH st).names.lookup ("ValueError":Str)=some .globalImplicit)
 b:∀c∈cs,∃D,mg c=some (.ref D)
 mi:mg "isinstance"=none
 mv:mg "ValueError"=none
 nd:cs.Nodup
 hz:cs.length<=100
 a:ws.length<=100
 hw:∀w∈ws,w.length<=100
 hp:∀x,pre=some x->x.length<=100
structure Vu(Kc:Ag)(mg:Str->Option Value)(cs:List Str)(C:Addr)(c0:Str):Prop where
 F:qj Kc C
 a:∀c∈cs,kitOne Kc (.ref C) (.ref (adr mg c))=some (decide (c=c0))
 ve:kitOne Kc (.ref C) (.type "ValueError")=some true
def Named(K:Ag)(mg:Str->Option Value)(cs:List Str)(C:Addr)(c0:Str):Prop:=∃Kc,oG Kc K/\Vu Kc mg cs C c0
def tKC(K:Ag)(mg:Str->Option Value)(cs ws:List Str)(pre:Option Str)(ie:Nat):TE:=λσ H Q=>∃(a:Addr) (oe:Obj) (C:Addr) (c0:Str) (i:Nat) (w:Str),σ[ie]?=some (some (.c a))/\H a=some (.e oe (.d 0))/\oe.cls=.ref C/\Named K mg cs C c0 /\
 cs[i]?=some c0/\ws[i]?=some w/\∀H',wq H H'->Q (.e (ans pre w)) H'
section
variable {X:Cx}
theorem eD(F:nv X.K X.d x cs ws pre)(hdp:X.A.depth<CK)(hg:Gl X x)(hdb:(x == ("__debug__":Str))=false)(hN:X.N[ie]?=some e)(hv:Vis X.a.scope e)(hd1:(e == ("__debug__":Str))=false)(hd2:(e == ("__classdict__":Str))=false) :
 PE X (.Call (.Name x p) [.Name e p2] [] pos) (tKC X.K X.d cs ws pre ie):=by
 intro pins s σ H Q I ⟨a,oe,C,c0,i,w,h0,ha,hc,nm,hi,hw,q⟩;obtain⟨st,f,fd,hm,Fn,S,hb,sh,hl0,hl1,hl2,hgi,hgv⟩:=F.ex;refine BI (vJ I hg hm ?_ hdb);have hpa:PA X [.Name e p2] (vi (sA ie) qU):=wJ (uc hN hv hd1 hd2) xK;refine DB (h₀:=X.i) I.B.j.a Fn.b (thn (hpa pos pins s σ H (λvs H1=>vs=[V.c a]/\H1=H) I ⟨_,h0,rfl,rfl⟩) λus s1 ⟨vs,H1,I1,r,hvs,hH⟩=>⟨I1.kIn,?_⟩);subst hvs hH;obtain⟨oc,od,kV,doc,pm,an,cdv,ct,osl,rfl,lk,hcd⟩:=Fn.a;have hl:us.length=1:=by rw[<-r.length];rfl
 have hbt:=hb s1 us I1.kIn (by rw[A8];exact hl)
 rw[A8]at hbt;refine Eu (Dd (lq (CX:=CX0) (E:=E0) (R:=CR CX0 X.g X.f X.w H1 s1 Q E0) (N:=kN) lk hcd S hdp I1.uR hbt rfl r λs2 I2 _=>?_) λr s' hq=>?_)
 . have I3:=I2.loud (A':=X.A.deeper (envOfC x (zH st) s1.heap.objs.size f cdv)) (Ey I1.uR.a)
   have B:KB ((wL CX0 X.f X.w X.K X.d X.i kN x (zH st) f cdv {X.A with handled:=none} X.g s1 H1 E0).loud (X.A.deeper (envOfC x (zH st) s1.heap.objs.size f cdv))).nox (zH st):=
    ⟨rfl,S.b,rfl,rfl,rfl,hl0,hl1,hl2,hgi,hgv,F.mi,F.mv⟩
   obtain⟨cs1,cs2,cs3,cs4,ws1,ws2,odd,e1,e2,e3,e4,l1,l2,rr,ss,a1,a2,a3,b1,b2,b3,b4,b5,c1,c2,c3,c4,c5,d1,d2,d3,d4,d5,f1,f2,f3,f4,f5,f6,f7,f8,f9,fa,fb,fc,fd,g1,g2,g3,ap,cp,r1,q1,q2,q3,q4,q5,q6,ap2,cp2,t1,t2,k1,k2,k3,k4,k5,hbody,hs,hr,hck,hcs,hws⟩:=sh;simp only[cf]at hck;obtain⟨⟨⟨⟨⟨⟨⟨y1,y2⟩,y3⟩,y4⟩,y5⟩,y6⟩,y7⟩,y8⟩:=hck;subst hcs hws hs;have hpe:PE ((wL CX0 X.f X.w X.K X.d X.i kN x (zH st) f cdv {X.A with handled:=none} X.g s1 H1 E0).loud (X.A.deeper (envOfC x (zH st) s1.heap.objs.size f cdv))).nox rr (iw X.K pre ws2):=by
    cases pre with
    |none=>subst hr;exact B.pick y6 y8
    |some x=>subst hr;exact kX pS rk (B.pick y6 y8)
   have t:=aY B (a1:=a1) (a2:=a2) (a3:=a3) (b1:=b1) (b2:=b2) (b3:=b3) (b4:=b4) (b5:=b5) (c1:=c1) (c2:=c2) (c3:=c3) (c4:=c4) (c5:=c5) (d1:=d1) (d2:=d2) (d3:=d3) (d4:=d4) (d5:=d5) (f1:=f1) (f2:=f2) (f3:=f3) (f4:=f4) (f5:=f5) (f6:=f6) (f7:=f7) (f8:=f8) (f9:=f9) (fa:=fa) (fb:=fb) (fc:=fc) (fd:=fd) (g1:=g1) (g2:=g2) (g3:=g3) (ap:=ap) (cp:=cp) (r1:=r1) (k1:=k1) (k2:=k2) (k3:=k3) (odd:=odd) (pre:=pre) (ws2:=ws2) y1 y2 y3 y4 F.b y5 y7 hpe;unfold cK;rw[hbody];obtain⟨Kc,sub,nm⟩:=nm;have KS0:KS X.K Kc C a oe H1 (start kN [.c a]) H1:=⟨rfl,ha,hc,nm.F,sub,wq.refl _⟩;refine A6 (t [] s2 (start kN [.c a]) H1 {a:=λ_ _=>False,b:=Q} (I3.vH _) (aZ KS0 (show 3<=3 from Ac _) F.nd F.hz F.a hi hw (F.hw _ (AA hw)) F.hp nm.a nm.ve λH' sm=>q H' sm)) (λfl s' hs=>?_) λ_ _ z=>Az z;cases fl with
   |ret u=>
    obtain⟨v,σ',H',J,rv,q'⟩:=hs;exact⟨v,H',J.R,J.D,J.C,J.j,rv,q'⟩
   |next=>obtain⟨_,_,_,z⟩:=hs;exact Az z
   |brk=>obtain⟨_,_,_,z⟩:=hs;exact Az z
   |cont=>obtain⟨_,_,_,z⟩:=hs;exact Az z
 . cases r with
   |error e=>exact Az hq
   |ok fl=>
    cases fl with
    |ret u=>exact I1.after hq
    |next=>exact Az hq
    |brk=>exact Az hq
    |cont=>exact Az hq
end
end L2
end
section
namespace L2
open PySem PySem.W PySem.Spec PySem.Calls PyProof PyProof.Rows
structure gJ(outer:List Env)(h:Heap)(H:Hp)(lf c:Addr)(qual:Str)(body:Expr)(lsc:Scope)(cl:List (Str × Addr))(pm ctv:Value)(N:List Str)(σ:St):Prop where
 ob:h.get? lf=some (kla_obj "<lambda>" qual noArgs body lsc cl pm c ctv)
 nl:H lf=none
 fl:lf ∉ frs outer
 cd:∃(o:Obj) (vs:Array Value) (t:Tok),H c=some (.e o (.d 0))/\o.data=.fields vs/\vs[1]?=some (.str qual t)
 e:∀x y b,cl.lookup x=some b->cl.lookup y=some b->x=y
 d:∀x,lsc.names.lookup x=some .free->∃b,cl.lookup x=some b
 a:∀x b,cl.lookup x=some b->(∃v,h.IsCell b v)/\H b=none
 g:∀(i:Nat) (x:Str) (v:V),N[i]?=some x->σ[i]?=some (some v)->lsc.names.lookup x=some .free->∃u b,RelV v u/\cl.lookup x=some b/\h.IsCell b (some u)
 f:σ.length=N.length
 kd:lsc.kind=.function
 co:lsc.isCoroutine=false
 gn:lsc.isGenerator=false
 nm:∀x∈lsc.names,x.2≠.cell/\x.2≠.local
section
variable {X:Cx}{EE:Value->Hp->Prop}
theorem ag{ic:Nat}(L:gJ X.k X.l.heap X.r lf c qual body lsc cl pm ctv N σ)(hxn:X.m=[])(hdp:X.A.depth<CK)(hh:X.A.handled=none)
 (hN:X.N[ic]?=some ("_law_call":Str)) (hv:Vis X.a.scope "_law_call")
 (hbody:∀s' H',PE (qv (CXE X.f X.w) X.f X.w X.K X.d X.i N qual lsc lf (.ref c) cl X.A X.g s' H' (λcls _ H'=>EE cls H')) body tb) :
 PE (X.vH (XC X EE)) (.Call (.Name "_law_call" p) [] [] pos) (λσ1 H1 Q=>σ1[ic]?=some (some (.c lf))/\tb σ H1 Q):=by
 intro pins s1 σ1 H1 Q I ⟨h0,hq⟩;have hpe:PE (X.vH (XC X EE)) (.Name "_law_call" p) (sA ic):=uc hN hv (by decide) (by decide)
 refine BI (thn (hpe pins s1 σ1 H1 (λv H2=>v=V.c lf/\H2=H1) I ⟨_,h0,rfl,rfl⟩) λu s2 ⟨v,H2,I2,r,hv2,hH2⟩=>?_);subst hv2 hH2;cases r;have un:Un (frs X.k) [] X.r H2 X.l.heap s2.heap:=by have:=I2.C;rw[show (X.vH (XC X EE)).m=[] from hxn]at this;exact this
 have ob2:s2.heap.get? lf=some (kla_obj "<lambda>" qual noArgs body lsc cl pm c ctv):=un.f _ _ L.ob L.nl L.fl (by simp)
 have cr2:s2.heap.CodeRec (.ref c) qual:=by obtain⟨o,vs,t,q1,q2,q3⟩:=L.cd;exact⟨c,o,vs,t,rfl,(I2.j c _ (un.g c o _ q1)).1,q2,q3⟩
 have cell2:∀b v,X.l.heap.IsCell b v->X.r b=none->s2.heap.IsCell b v:=λb v ⟨o,e,d⟩ n=>by
  by_cases f:b∈frs X.k
  . obtain⟨sl,e1⟩:=un.i b o e n f (by simp)
    exact⟨_,e1,d⟩
  . exact⟨o,un.f b o e n f (by simp),d⟩
 refine callWith_of (P:=λh=>h.get? lf=some (kla_obj "<lambda>" qual noArgs body lsc cl pm c ctv)) rfl (λh e=>⟨.frame,.inl rfl,(Looks.ld (part:=none) e).andThen .now⟩) (evalArgs_nil3 ⟨ob2,?_⟩);refine Eu (Dd (Xl (CX:=CXE X.f X.w) (E:=λcls _ H'=>EE cls H') (R:=CR (CXE X.f X.w) X.g X.f X.w H2 s2 Q (λcls _ H'=>EE cls H')) (N:=N) (σ:=σ) hdp hh I2.uR ob2 cr2 L.kd L.co L.gn L.nm L.e L.d (λx b e=>?_) (λi x v e1 e2 e3=>?_) L.f λs3 I3=>?_) λr s' hq=>?_)
 . obtain⟨⟨v,z⟩,n⟩:=L.a x b e
   obtain⟨o,eo,_⟩:=id z;exact⟨⟨v,cell2 b v z n⟩,un.d b o eo n (by simp)⟩
 . obtain⟨u,b,q1,q2,q3⟩:=L.g i x v e1 e2 e3
   obtain⟨_,n⟩:=L.a x b q2;exact⟨u,b,q1,q2,cell2 b _ q3 n⟩
 . refine A6 (hbody s2 H2 [] s3 σ H2 Q I3 hq) (λu s' ⟨v,H',J,rv,q⟩=>?_) λe s' z=>z
   exact⟨v,H',J.R,J.D,J.C,J.j,rv,q⟩
 . cases r with
   |error e=>
    obtain⟨a,cls,H',rfl,fl,hE⟩:=hq;exact⟨a,cls,σ1,H2,s2,H',rfl,I2.xU.my λp hp=>absurd hp (by simp),fl,hE⟩
   |ok fl=>
    cases fl with
    |ret u=>exact I2.after hq
    |next=>exact Az hq
    |brk=>exact Az hq
    |cont=>exact Az hq
end
end L2
end
section
namespace L2
open PySem PySem.W PySem.Spec PySem.Calls PyProof PyProof.Rows
noncomputable def yf(m:Bool):Str:=if m then "_law_got" else "_law_said"
noncomputable def wU(m:Bool):List Str:=if m then ["_law_call","_law_e"] else ["_law_call","_law_e","_law_word"]
def cV(m:Bool)(kx:Str)(body:List Stmt):Prop:=∃(te:Expr) (p1 p2 p3 p4 p5 p6 p7 p8 p9 pa pb q1 q2 q3 q4 q5 q6 q7 q8:Pos) (k1 k2:Nat),body=if m then
 [.Try [.Return (some (.Call (.Name "_law_call" p1) [] [] p2)) p3] [.ExceptHandler (some (.Name "HueError" p4)) (some "_law_e") [.Return (some (.Call (.Name kx p6) [.Name "_law_e" p7] [] p8)) p9] pa] [] [] pb]
 else [.Try [.Expr (.Call (.Name "_law_call" p1) [] [] p2) p3] [.ExceptHandler (some (.Name "HueError" p4)) (some "_law_e") [.Assign [.Name "_law_word" p5] (.Call (.Name kx p6) [.Name "_law_e" p7] [] p8) p9,
  .Return (some (.IfExp (.Compare (.Name "_law_word" q1) [.Eq] [.Constant (.str "great") k1 q2] q3) te (.Name "_law_word" q4) q5)) q6] pa] [] [] pb,.Return (some (.Constant (.str "told") k2 q7)) q8]
structure cU(K:Ag)(mg:Str->Option Value)(m:Bool)(kx:Str)(f:Addr):Prop where
 ex:∃(st:Stmt) (fd:BQ),mg (yf m)=some (.ref f)/\Fun K (yf m) (yf m) st f fd/\vI (wU m) ["_law_call"] (zH st)/\Binds K fd ["_law_call"] []/\cV m kx (yh st) /\
  (zH st).names.lookup ("_law_call":Str)=some .local/\(zH st).names.lookup ("_law_e":Str)=some .local/\(m=false->(zH st).names.lookup ("_law_word":Str)=some .local)/\(zH st).names.lookup ("HueError":Str)=some .globalImplicit/\(zH st).names.lookup kx=some .globalImplicit
 kd:(kx == ("__debug__":Str))=false
section
variable {X:Cx}{D:Ends}{s:Shared}{E:Value->Shared->Prop}
theorem fj{st}(h:wpAny (model X.f X.w) X.A (exec st X.a) (SP X [] D) E s):wpAny (model X.f X.w) X.A (execs [st] X.a) (SP X [] D) E s:=by
 refine D9 (thn h λf s1 q=>?_);cases f with
 |next=>exact Et q
 |brk=>exact q
 |cont=>exact q
 |ret u=>exact q
theorem fk{st st2}(h:wpAny (model X.f X.w) X.A (exec st X.a) (SP X [] {D with a:=t D}) X.j s)(h2:PS X st2 t):wpAny (model X.f X.w) X.A (execs [st,st2] X.a) (SP X [] D) X.j s:=by
 refine D9 (thn h λf s1 q=>?_);cases f with
 |next=>obtain⟨σ',H',I,q⟩:=q;exact v9 h2 [] s1 σ' H' D I q
 |brk=>exact q
 |cont=>exact q
 |ret u=>exact q
end
section
variable {P:Program}{w:World}{K:Ag}{mg:Str->Option Value}{base:Heap}{A:Around}{outer:List Env}{s:Shared}{H:Hp}{Q:VK}
theorem Z5{EE:Value->Hp->Prop}
 (e0:jU P w K mg base A outer s H) (hh:A.handled=none) (hdp:A.depth+1<CK) (S:cU K mg m kx f) (KF:nv K mg kx cs ws pre) (hu:mg "HueError"=some (.ref hue)) (L:gJ outer s.heap H lf c qual body lsc cl pm ctv N σ)
 (hbody:∀env s' H',PE (qv (CXE P w) P w K mg base N qual lsc lf (.ref c) cl (A.deeper env) (env::outer) s' H' (λcls _ H'=>EE cls H')) body tb)
 (hq:tb σ H λv H1=>Q (if m then v else .e "told") H1)
 (hE:∀cls H',EE cls H'->∃(C:Addr) (c0:Str) (i:Nat) (x:Str),cls=.ref C/\(∃Kc,oG Kc K/\exmOne Kc (.ref C) (.ref hue)=some true)/\Named K mg cs C c0/\cs[i]?=some c0/\ws[i]?=some x/\(m=false->ans pre x≠"great")/\∀H'',wq H' H''->Q (.e (ans pre x)) H'') :
 codeAny (model P w) A (.call (.ref f) ⟨[.ref lf],[]⟩) (CR CX0 outer P w H s Q E0) s:=by
 obtain⟨st,fd,hm,Fn,Sc,hb,sh,l0,l1,l2,g0,g1⟩:=S.ex;obtain⟨oc,od,kV,doc,pm',an,cdv,ct,osl,rfl,lk,hcd⟩:=Fn.a;have KX:K.In s.heap:=e0.c.a.keeps λb o e=>(e0.e b o e).1;have hbt:=hb s [.ref lf] KX rfl;refine lq (CX:=CX0) (E:=E0) (R:=CR CX0 outer P w H s Q E0) (N:=wU m) (vs:=[.c lf]) lk hcd Sc (by omega) e0 hbt rfl (.cons rfl .nil) λs1 I1 _=>?_
 rw[lQ hh]at I1;obtain⟨te,p1,p2,p3,p4,p5,p6,p7,p8,p9,pa,pb,q1,q2,q3,q4,q5,q6,q7,q8,k1,k2,hbd⟩:=sh;have hLam:gJ (wL CX0 P w K mg base (wU m) (yf m) (zH st) f cdv A outer s H E0).k (wL CX0 P w K mg base (wU m) (yf m) (zH st) f cdv A outer s H E0).l.heap (wL CX0 P w K mg base (wU m) (yf m) (zH st) f cdv A outer s H E0).r lf c qual body lsc cl pm ctv N σ:=L;have hA:(wL CX0 P w K mg base (wU m) (yf m) (zH st) f cdv A outer s H E0).A.depth=A.depth+1:=rfl;have hlam:∀{p pos:Pos},PE ((wL CX0 P w K mg base (wU m) (yf m) (zH st) f cdv A outer s H E0).vH (XC (wL CX0 P w K mg base (wU m) (yf m) (zH st) f cdv A outer s H E0) EE)) (.Call (.Name "_law_call" p) [] [] pos) (λσ1 H1 Q=>σ1[0]?=some (some (.c lf))/\tb σ H1 Q):=λ{p pos}=>
  ag hLam rfl (by rw[hA];exact hdp) hh (by cases m<;>rfl) (.inl l0) λs' H'=>hbody _ s' H'
 have n1:(wU m)[1]?=some ("_law_e":Str):=by cases m<;>rfl
 have fin:∀(fl:Flow) (s':Shared),SP (wL CX0 P w K mg base (wU m) (yf m) (zH st) f cdv A outer s H E0) [] {a:=λ_ _=>False,b:=Q} fl s'->CR CX0 outer P w H s Q E0 (.ok (.ret (match fl with|.ret v=>v|_=>.none))) s':=λfl s' hs=>by
  cases fl with
  |ret u=>
   obtain⟨v,σ',H',J,rv,q'⟩:=hs;exact⟨v,H',J.R,J.D,J.C,J.j,rv,q'⟩
  |next=>obtain⟨_,_,_,z⟩:=hs;exact Az z
  |brk=>obtain⟨_,_,_,z⟩:=hs;exact Az z
  |cont=>obtain⟨_,_,_,z⟩:=hs;exact Az z
 have kc:∀(a:Addr) {p p2 pos:Pos},PE ((wL CX0 P w K mg base (wU m) (yf m) (zH st) f cdv A outer s H E0).loud ((wL CX0 P w K mg base (wU m) (yf m) (zH st) f cdv A outer s H E0).A.mark (some (.ref a)))).nox (.Call (.Name kx p) [.Name "_law_e" p2] [] pos) (tKC K mg cs ws pre 1):=λa {p p2 pos}=>
  eD KF (by show A.depth+1<_;exact hdp) g1 S.kd n1 (.inl l1) (by decide) (by decide)
 unfold cK;rw[hbd];cases m with
 |true=>
  rw[if_pos rfl];refine A6 (fj (X:=wL CX0 P w K mg base (wU true) (yf true) (zH st) f cdv A outer s H E0) (D:={a:=λ_ _=>False,b:=Q}) (YK (EE:=EE) (ts:=dg (tKC K mg cs ws pre 1)) (ie:=1) I1 rfl rfl Sc.b l1 n1 rfl rfl g0 (by decide) hu (v9 (ud hlam)) ⟨rfl,hq⟩ (λcls H' hc=>?_) λa=>v9 (ud (kc a)))) fin λe s' z=>z
  obtain⟨C,c0,i,x,rfl,hx,nm,hi,hw,_,qq⟩:=hE cls H' hc;refine⟨hx,λa oe σ2 hn hcl hl=>⟨a,oe,C,c0,i,x,?_,zN,hcl,nm,hi,hw,λH'' sm=>qq H'' ((wV hn).trans sm)⟩⟩;rw[AM (by rw[hl];exact(by decide:1<2))]
 |false=>
  rw[if_neg Ab];have n2:(wU false)[2]?=some ("_law_word":Str):=rfl;refine A6 (fk (X:=wL CX0 P w K mg base (wU false) (yf false) (zH st) f cdv A outer s H E0) (D:={a:=λ_ _=>False,b:=Q}) (t:=dg (tC (.e "told"))) (YK (EE:=EE) (ts:=jG (tE (tKC K mg cs ws pre 1) (wM 2)) (dg (tIf (fJ (tOp rEq (sA 2) (tC (.e "great")))) (λ_ _ _=>False) (sA 2)))) (ie:=1) I1 rfl rfl Sc.b l1 n1 rfl rfl g0 (by decide) hu (v9 (mz hlam)) ⟨rfl,hq⟩ (λcls H' hc=>?_) λa=>?_) (ud rk)) fin λe s' z=>z
  . obtain⟨C,c0,i,x,rfl,hx,nm,hi,hw,ng,qq⟩:=hE cls H' hc
    refine⟨hx,λa oe σ2 hn hcl hl=>⟨a,oe,C,c0,i,x,?_,zN,hcl,nm,hi,hw,λH'' sm=>?_⟩⟩
    . rw[AM (by rw[hl];exact(by decide:1<3))]
    . have e2:((σ2.set 1 (some (V.c a))).set 2 (some (V.e (ans pre x))))[2]?=some (some (.e (ans pre x))):=by rw[AM (by rw[Cb,hl];exact(by decide:2<3))]
      refine⟨_,e2,rfl,_,rfl,?_⟩;have hne:¬(V.e (ans pre x)=V.e "great"):=λz=>ng rfl (V.e.inj z);rw[decide_eq_false hne];exact rY ⟨_,e2,qq H'' ((wV hn).trans sm)⟩
  . have vw:Vis (zH st) "_law_word":=.inl (l2 rfl)
    have pw:∀{X':Cx} {p:Pos},X'.N=wU false->X'.a.scope=zH st->PE X' (.Name "_law_word" p) (sA 2):=λ{X' p} h1 h2=>uc (by rw[h1];exact n2) (by rw[h2];exact vw) (by decide) (by decide)
    exact y0 (ue Sc.b n2 (.inl (l2 rfl)) (kc a) (hf:=.inr (l2 rfl))) (v9 (ud (kW (m6 VU (pw rfl rfl) rk (pO _ (by decide) (by decide))) (λ_ _ _ _ _ _ z=>Az z) (pw rfl rfl))))
end
end L2
end
section
namespace M
open PySem
inductive Val where
 |h|e (b:Bool)|c (i:Int)|g (x:Str)
 |f (vs:List Val)|j (vs:List Val)|l
 |m (ns:List Int)|p (ns:List Int)
 |k (i:Nat)|q (x:Str)|r (n:String)|o (i:Nat)
 deriving Inhabited
inductive Cel where
 |c (vs:List Val)
 |e (kvs:List (Str × Val))
 |f (kvs:List (List Int × Val))
 /-- the table of the codes that lie within the def x -/
 |d (x:Str)
 deriving Inhabited
abbrev Sto:=List Cel
abbrev Env:=List (Option Val)
inductive Out(α:Type) where
 |e (a:α) (s:Sto)
 |g (c:Str) (args:List Val) (s:Sto)
 |d
noncomputable def Out.bind{α β:Type}(o:Out α)(f:α->Sto->Out β):Out β:=
 match o with
 |.e a s=>f a s
 |.g c as s=>.g c as s
 |.d=>.d
@[simp] theorem zO a s(f:α->Sto->Out β):(Out.e a s).bind f=f a s:=rfl
@[simp] theorem qm(f:α->Sto->Out β):(Out.d:Out α).bind f=.d:=rfl
@[simp] theorem cx c as s(f:α->Sto->Out β):(Out.g c as s:Out α).bind f=.g c as s:=rfl
mutual
noncomputable def Val.isD:Val->Bool
 |.h|.e _|.c _=>true
 |.g x=>PyData.strOk x
 |.f vs=>wF vs
 |.j vs=>wF vs
 |.l|.m _|.p _|.k _|.q _|.r _|.o _=>false
noncomputable def wF:List Val->Bool
 |[]=>true
 |v::vs=>v.isD&&wF vs
end
mutual
noncomputable def Val.isR:Val->Bool
 |.h|.e _|.c _|.g _|.l=>true
 |.f vs=>qP vs
 |.j vs=>qP vs
 |.m _|.p _|.k _|.q _|.r _|.o _=>false
noncomputable def qP:List Val->Bool
 |[]=>true
 |v::vs=>v.isR&&qP vs
end
mutual
noncomputable def Val.d:Val->PyData
 |.h=>.none
 |.e b=>.bool b
 |.c i=>.int i
 |.g x=>.str x
 |.f vs=>.tuple (ds vs)
 |.j vs=>.list (ds vs)
 |.l=>.dict []
 |.m _|.p _|.k _|.q _|.r _|.o _=>.none
noncomputable def ds:List Val->List PyData
 |[]=>[]
 |v::vs=>v.d::ds vs
end
mutual
noncomputable def Val.noRef:Val->Bool
 |.k _|.o _=>false
 |.f vs=>z7 vs
 |.j vs=>z7 vs
 |.h|.e _|.c _|.g _|.l|.m _|.p _|.q _|.r _=>true
noncomputable def z7:List Val->Bool
 |[]=>true
 |v::vs=>v.noRef&&z7 vs
end
def Cel.noRef:Cel->Bool
 |.c vs=>z7 vs
 |.e kvs=>z7 (kvs.map (·.2))
 |.f kvs=>z7 (kvs.map (·.2))
 |.d _=>true
mutual
noncomputable def Val.beq:Val->Val->Bool
 |.h,.h=>true
 |.e a,.e b=>a == b
 |.c a,.c b=>a == b
 |.g a,.g b=>a == b
 |.f a,.f b=>rN a b
 |.j a,.j b=>rN a b
 |.l,.l=>true
 |.m a,.m b=>a == b
 |.p a,.p b=>a == b
 |.k a,.k b=>a == b
 |.q a,.q b=>a == b
 |.r a,.r b=>a == b
 |.o a,.o b=>a == b
 |_,_=>false
noncomputable def rN:List Val->List Val->Bool
 |[],[]=>true
 |a::as,b::bs=>a.beq b&&rN as bs
 |_,_=>false
end
def Cel.beq:Cel->Cel->Bool
 |.c a,.c b=>rN a b
 |.e a,.e b=>decide (a.map (·.1)=b.map (·.1))&&rN (a.map (·.2)) (b.map (·.2))
 |.f a,.f b=>decide (a.map (·.1)=b.map (·.1))&&rN (a.map (·.2)) (b.map (·.2))
 |.d a,.d b=>decide (a=b)
 |_,_=>false
def vB:Sto->Sto->Bool
 |[],_=>true
 |o::r,o'::r'=>(o'.noRef||o'.beq o)&&vB r r'
 |_::_,[]=>false
mutual
noncomputable def vp(n0:Nat)(s:Sto):Nat->Val->Option Val
 |_,.o i=>if i<n0 then some (.o i) else dr
 |_,.k i=>if i<n0 then some (.k i) else match s[i]? with
  |some (.c vs)=>if z7 vs then some (.j vs) else dr
  |_=>dr
 |k+1,.f vs=>(sQ n0 s k vs).map .f
 |_,v=>if v.noRef then some v else dr
noncomputable def sQ(n0:Nat)(s:Sto):Nat->List Val->Option (List Val)
 |_,[]=>some []
 |0,_::_=>dr
 |k+1,v::vs=>match (if v.noRef then some v else vp n0 s k v),sQ n0 s k vs with
  |some v',some vs'=>some (v'::vs')
  |_,_=>dr
end
def freeze(n0:Nat)(s:Sto)(v:Val):Option Val:=if v.noRef then some v else vp n0 s 20 v
inductive Bop|a|d|b|e|c|f|h|i|g
 deriving DecidableEq
inductive Cop|d|b|j|e|i|k|m|c|h|a|l|f|g
 deriving DecidableEq
inductive Bf|b|q|o|c|j|i|a|k|l|s|p|h|g|r|d|n|e|m
 deriving DecidableEq
inductive Mf|a|b|d|f|c|e
 deriving DecidableEq
inductive Tgt
 |a (i:Nat)
 |b (is:List Nat)
mutual
inductive Ex
 |g (v:Val)|e (i:Nat)|A (x:Str)|J (x:Str) (n:String)
 |j (m:Bool) (op:Bop) (a b:Ex)|B (a:Ex)|I (a:Ex)
 |l (op:Cop) (a b:Ex)|w (op op':Cop) (a b c:Ex)
 |y (a:Ex) (es:Exs)|K (a:Ex) (es:Exs)|C (c:Cn) (a b:Ex)
 |r (es:Exs)|u (m:Bool) (es:Exs)|E
 |h (f:Str) (ver:Nat) (es:Exs)|k (f:Bf) (m:Bool) (es:Exs)|H (a d:Ex)
 |D (f:Mf) (m:Bool) (o:Ex) (es:Exs)
 |s (a b:Ex)|G (m:Bool) (a:Ex) (lo hi st:OEx)
 |q (m:Bool) (N:List Str) (fr:List (Option Nat)) (elt:Ex) (t:Tgt) (it:Itb) (ifs:Cns)
 |z (m:Bool) (N:List Str) (fr:List (Option Nat)) (elt:Ex) (t:Tgt) (it:Itb) (ifs:Cns) (t2:Tgt) (it2:Itb) (ifs2:Cns)
 |p (m:Bool) (a b c:Ex)
 |F (t:Bool)|L (a b:Ex)
inductive Exs
 |b|a (e:Ex) (es:Exs)
inductive OEx
 |b|a (e:Ex)
inductive Cn
 |a (e:Ex)|b (c:Cn)|d (c:Cn) (cs:Cns)|f (c:Cn) (cs:Cns)
inductive Cns
 |b|a (c:Cn) (cs:Cns)
inductive Itb
 |d (e:Ex)|c (a:Ex)|f (a b:Ex)|g (e:Ex)|h (a b:Ex)
end
mutual
inductive Sm
 |h (e:Ex)|d (e:Ex)|s|f (i:Nat) (e:Ex)|p (is:List Nat) (e:Ex)|m (is:List Nat) (es:Exs)
 |w (i:Nat) (op:Bop) (e:Ex)|l (o i e:Ex)
 |g (c:Cn) (a b:Sms)|k (t:Tgt) (it:Itb) (b:Sms)|n (c:Cn) (b:Sms)
 |r|v|q|j (e:Ex)|u (o i e:Ex)
inductive Sms
 |b|a (s:Sm) (ss:Sms)
end
structure Fn where
 N:List Str
 b:List Str
 c:Bool
 a:Sms
abbrev Calls:=Str->Nat->List Val->Sto->Out Val
noncomputable def zR:Nat:=16777216
noncomputable def newList(m:Bool)(vs:List Val)(s:Sto):Out Val:=if m then .e (.k s.length) (s++[.c vs]) else .e (.j vs) s
noncomputable def wc(s:Sto):Val->Option (List Val)
 |.f vs=>some vs
 |.j vs=>some vs
 |.m ns=>some (ns.map .c)
 |.p ns=>some (ns.map .c)
 |.k i=>match s[i]? with
  |some (.c vs)=>some vs
  |_=>dr
 |_=>dr
noncomputable def yb(s:Sto):Val->Option (List Val)
 |.j vs=>some vs
 |.k i=>match s[i]? with
  |some (.c vs)=>some vs
  |_=>dr
 |_=>dr
def truth(s:Sto):Val->Option Bool
 |.h=>some false
 |.e b=>some b
 |.c i=>some (i != 0)
 |.g x=>if x.length<=zR then some ((x.length:Int) != 0) else dr
 |.f vs=>some !vs.isEmpty
 |.j vs=>some !vs.isEmpty
 |.l=>some false
 |.k i=>match s[i]? with
  |some (.c vs)=>some !vs.isEmpty
  |_=>dr
 |_=>dr
def Out.truth(o:Out Val):Out Bool:=o.bind λv s=>match M.truth s v with
 |some b=>.e b s
 |dr=>.d
noncomputable def yR(s:Sto):Val->Val
 |.k i=>match s[i]? with
  |some (.c vs)=>.j vs
  |_=>.k i
 |v=>v
def zt(s:Sto):Val->Val
 |.f vs=>.f (vs.map (yR s))
 |v=>yR s v
def tj(d:PyData):Bool:=d.showable&&d.leavesShort 40&&decide (d.depth<=50)&&decide (d.weight<=300000)&&(!d.hasDict||!L2.xn d)
noncomputable def flat:Val->Bool
 |.h|.e _|.c _|.g _=>true
 |_=>false
noncomputable def eqF:Val->Val->Bool
 |.h,.h=>true
 |.e a,.e b=>a == b
 |.e a,.c b=>(if a then 1 else 0) == b
 |.c a,.e b=>a == (if b then 1 else 0)
 |.c a,.c b=>a == b
 |.g a,.g b=>a == b
 |_,_=>false
def rT(a b:Val):Option Bool:=if a.isD&&b.isD&&decide (b.d.depth<=60) then some (B0 a.d b.d) else dr
noncomputable def intsOf:List Val->Option (List Int)
 |[]=>some []
 |.c i::vs=>(intsOf vs).map (i::·)
 |_=>dr
noncomputable def Val.isN:Val->Bool
 |.h=>true
 |_=>false
def inD(x:Val)(vs:List Val):Bool:=x.isD&&wF vs&&decide (x.d.depth<=60)
noncomputable def Yr{κ:Type} [DecidableEq κ]:List (κ × Val)->κ->Option Val
 |[],_=>dr
 |p::r,k=>if p.1=k then some p.2 else Yr r k
def RL{κ:Type} [DecidableEq κ] (kvs:List (κ × Val))(k:κ)(v:Val):List (κ × Val):=
 if (Yr kvs k).isSome then kvs.map (λp=>if p.1=k then (p.1,v) else p) else kvs++[(k,v)]
noncomputable def VE(s:Sto):Val->Option (Nat × Cel)
 |.o i=>(s[i]?).map λc=>(i,c)
 |_=>dr
def V4:Cel->Val->Option (Option Val)
 |.e kvs,.g k=>some (Yr kvs k)
 |.f kvs,.f vs=>(intsOf vs).map λk=>Yr kvs k
 |_,_=>dr
def V5:Cel->Val->Val->Option Cel
 |.e kvs,.g k,v=>if kvs.length<zR then some (.e (RL kvs k v)) else dr
 |.f kvs,.f vs,v=>(intsOf vs).bind λk=>if kvs.length<zR then some (.f (RL kvs k v)) else dr
 |_,_,_=>dr
def getD(d y:Val)(s:Sto):Option (Option Val):=(VE s d).bind λc=>V4 c.2 y
def ixD(d y:Val)(s:Sto):Out Val:=match getD d y s with
 |some (some v)=>.e v s
 |_=>.d
def putD(d y v:Val)(s:Sto):Option Sto:=(VE s d).bind λc=>(V5 c.2 y v).map λc'=>s.set c.1 c'
noncomputable def strsOf:List Val->Option (List Str)
 |[]=>some []
 |.g x::vs=>(strsOf vs).map (x::·)
 |_=>dr
def zW(op:Cop)(x y:Val)(s:Sto):Out Val:=
 match op with
 |.d=>match x,y with
  |.g a,.g b=>.e (.e (decide (a=b))) s
  |.f a,.m ns=>match rT (zt s (.f a)) (.f (ns.map .c)) with|some b=>.e (.e b) s|dr=>.d
  |_,_=>match rT (zt s x) (zt s y) with|some b=>.e (.e b) s|dr=>.d
 |.b=>match x,y with
  |.g a,.g b=>.e (.e !(decide (a=b))) s
  |_,_=>match rT (zt s x) (zt s y) with|some b=>.e (.e !b) s|dr=>.d
 |.m=>match y with|.h=>.e (.e x.isN) s|.e b=>(match x with|.e a=>.e (.e (decide (a=b))) s|_=>.d)|_=>.d
 |.c=>match y with|.h=>.e (.e !x.isN) s|.e b=>(match x with|.e a=>.e (.e !(decide (a=b))) s|_=>.d)|_=>.d
 |.h=>match wc s y with
  |some vs=>if flat x&&vs.all flat then .e (.e (vs.any λz=>eqF z x)) s else if inD x vs then .e (.e (vs.any λz=>B0 z.d x.d)) s else .d
  |dr=>.d
 |.a=>match wc s y with
  |some vs=>if flat x&&vs.all flat then .e (.e !(vs.any λz=>eqF z x)) s else if inD x vs then .e (.e !(vs.any λz=>B0 z.d x.d)) s else .d
  |dr=>.d
 |.l=>match getD y x s with|some o=>.e (.e o.isSome) s|dr=>.d
 |.f=>match getD y x s with|some o=>.e (.e !o.isSome) s|dr=>.d
 |.g=>match x with
  |.l=>(match wc s y with
   |some vs=>(match M.intsOf vs with|some _=>.e (.e true) s|dr=>.d)
   |dr=>.d)
  |_=>(match wc s y with
   |some vs=>if flat x&&vs.all flat then .e (.e !(vs.any λz=>eqF z x)) s else if inD x vs then .e (.e !(vs.any λz=>B0 z.d x.d)) s else .d
   |dr=>.d)
 |.j=>match x,y with|.c i,.c j=>.e (.e (decide (i<j))) s|_,_=>.d
 |.e=>match x,y with|.c i,.c j=>.e (.e (decide (i<=j))) s|_,_=>.d
 |.i=>match x,y with|.c i,.c j=>.e (.e (decide (j<i))) s|_,_=>.d
 |.k=>match x,y with|.c i,.c j=>.e (.e (decide (j<=i))) s|_,_=>.d
def binOp(m:Bool)(op:Bop)(x y:Val)(s:Sto):Out Val:=
 match op with
 |.a=>match x,y with
  |.c i,.c j=>.e (.c (i+j)) s
  |.g a,.g b=>if a.length+b.length<=zR then .e (.g (a++b)) s else .d
  |.f a,.f b=>if a.length+b.length<=zR then .e (.f (a++b)) s else .d
  |_,_=>match yb s x,yb s y with
   |some a,some b=>if a.length+b.length<=zR then newList m (a++b) s else .d
   |_,_=>.d
 |.d=>match x,y with|.c i,.c j=>.e (.c (i-j)) s|_,_=>.d
 |.b=>match x,y with
  |.c i,.c j=>if (-(2 ^ 64)<i/\i<2 ^ 64)\/(-(2 ^ 64)<j/\j<2 ^ 64) then .e (.c (i*j)) s else .d
  |.f a,.c k=>if -1000<=k/\k<=1000/\a≠[]/\a.length<=1000 then .e (.f (Ap k.toNat a).flatten) s else .d
  |_,.c k=>match yb s x with
   |some a=>if -1000<=k/\k<=1000/\a.length*k.toNat<=zR then newList m (Ap k.toNat a).flatten s else .d
   |dr=>.d
  |_,_=>.d
 |.e=>match x,y with|.c i,.c j=>if 0<j/\j<1073741824 then .e (.c (i/j)) s else .d|_,_=>.d
 |.c=>match x,y with|.c i,.c j=>if 0<j then .e (.c (i%j)) s else .d|_,_=>.d
 |.f=>match x,y with|.c i,.c j=>if 0<=j/\j<=1000000/\i.natAbs<2 ^ 64 then .e (.c (i ^ j.toNat)) s else .d|_,_=>.d
 |.h=>match x,y with|.c i,.c j=>if 0<=j/\j<=1000000/\i.natAbs<2 ^ 64 then .e (.c (i*2 ^ j.toNat)) s else .d|_,_=>.d
 |.i=>match x,y with|.c i,.c j=>if 0<=j then .e (.c (i/2 ^ j.toNat)) s else .d|_,_=>.d
 |.g=>match x,y with|.c i,.c j=>.e (.c (Builtin.bitAnd i j)) s|_,_=>.d
noncomputable def kindOf:Val->Option L2.Kd
 |.h=>some .e
 |.e _=>some .i
 |.c _=>some .b
 |.g _=>some .g
 |.f _=>some .h
 |.j _=>some .d
 |.l=>some .f
 |.k _=>some .d
 |_=>dr
noncomputable def rd:String->Option L2.Kd
 |"bool"=>some .i
 |"int"=>some .b
 |"str"=>some .g
 |"list"=>some .d
 |"tuple"=>some .h
 |"dict"=>some .f
 |_=>dr
noncomputable def boolsOf:List Val->Option (List Bool)
 |[]=>some []
 |.e b::vs=>(boolsOf vs).map (b::·)
 |_=>dr
noncomputable def pairsOf:List Val->Option (List (Int × Int))
 |[]=>some []
 |.f [.c a,.c b]::vs=>(pairsOf vs).map ((a,b)::·)
 |_=>dr
noncomputable def prV(z:Int × Int):Val:=.f [.c z.1,.c z.2]
def Ri(z:Int × Int):List (Int × Int)->List (Int × Int)
 |[]=>[z]
 |y::ys=>if L2.VD z<=L2.VD y then z::y::ys else y::Ri z ys
def Ve:List (Int × Int)->List (Int × Int)
 |[]=>[]
 |z::zs=>Ri z (Ve zs)
def lK:List Val->Option (List (List Int))
 |[]=>some []
 |.f a::vs=>match intsOf a,lK vs with
  |some z,some zs=>some (z::zs)
  |_,_=>dr
 |_=>dr
noncomputable def tpV(z:List Int):Val:=.f (z.map .c)
noncomputable def tpS(x:Str)(z:List Int):Val:=.f (.g x::z.map .c)
def Vl(x:Str):List Val->Option (List (List Int))
 |[]=>some []
 |.f (.g y::a)::vs=>if y=x then (match intsOf a,Vl x vs with
  |some z,some zs=>some (z::zs)
  |_,_=>dr) else dr
 |_=>dr
noncomputable def VM:List Val->Str
 |.f (.g x::_)::_=>x
 |_=>""
def YB(m:Bool)(vs:List Val)(s:Sto):Out Val:=match lK vs with
 |some zs=>if zs.Nodup/\(zs.length<2\/∀z∈zs,z≠[]) then newList m ((L2.Vf zs).map tpV) s else .d
 |dr=>.d
def Qs(zs:List (List Int)):Bool:=decide (zs.length<2)||match zs with
 |[]=>true
 |z::_=>decide (0<z.length)&&zs.all (λy=>decide (y.length=z.length))&&(Aq (zs.length-1)).all λi=>!L2.oK (zs.getD (i+1) []) (zs.getD i [])
def T9(m:Bool)(vs:List Val)(s:Sto):Out Val:=match lK vs with
 |some zs=>if Qs zs then newList m vs s else .d
 |dr=>.d
noncomputable def insI(z:Int):List Int->List Int
 |[]=>[z]
 |y::ys=>if z<=y then z::y::ys else y::insI z ys
def sortI:List Int->List Int
 |[]=>[]
 |z::zs=>insI z (sortI zs)
def blt(f:Bf)(m:Bool)(xs:List Val)(s:Sto):Out Val:=
 match f with
 |.b=>match xs with
  |[.g x]=>if x.length<=zR then .e (.c x.length) s else .d
  |[x]=>match wc s x with|some vs=>.e (.c vs.length) s|dr=>.d
  |_=>.d
 |.q=>match xs with
  |[x]=>match yb s x with|some vs=>(match boolsOf vs with|some bs=>.e (.e (bs.all id)) s|dr=>.d)|dr=>.d
  |_=>.d
 |.o=>match xs with
  |[x]=>match yb s x with|some vs=>(match boolsOf vs with|some bs=>.e (.e (bs.any id)) s|dr=>.d)|dr=>.d
  |_=>.d
 |.c=>match xs with
  |[.f vs]=>.e (.f vs) s
  |[x]=>match yb s x with|some vs=>.e (.f vs) s|dr=>.d
  |_=>.d
 |.j=>match xs with
  |[x]=>match wc s x with|some vs=>newList m vs s|dr=>.d
  |_=>.d
 |.a=>match xs with
  |[x]=>if (zt s x).isR&&tj (zt s x).d then .e (.g (zt s x).d.shown) s else .d
  |_=>.d
 |.k=>match xs with
  |[.c i,.c j]=>.e (.c (if j > i then j else i)) s
  |[.f vs]=>(match M.intsOf vs with|some ns=>if ns≠[] then .e (.c (L2.uG 0 ns)) s else .d|dr=>.d)
  |[x]=>match yb s x with|some vs=>(match M.intsOf vs with|some ns=>if ns≠[] then .e (.c (L2.uG 0 ns)) s else .d|dr=>.d)|dr=>.d
  |_=>.d
 |.l=>match xs with
  |[.c i,.c j]=>.e (.c (if j<i then j else i)) s
  |[.f vs]=>(match M.intsOf vs with|some ns=>if ns≠[] then .e (.c (L2.uY 0 ns)) s else .d|dr=>.d)
  |[x]=>match yb s x with|some vs=>(match M.intsOf vs with|some ns=>if ns≠[] then .e (.c (L2.uY 0 ns)) s else .d|dr=>.d)|dr=>.d
  |_=>.d
 |.p=>match xs with
  |[.c i]=>.e (.c i) s
  |[.e b]=>.e (.c (if b then 1 else 0)) s
  |_=>.d
 |.h=>match xs with
  |[x,.r n]=>match kindOf x,rd n with|some a,some c=>.e (.e (a.sub c)) s|_,_=>.d
  |_=>.d
 |.g=>match xs with
  |[.c i,.c j]=>if 0<j/\j<1073741824 then .e (.f [.c (i/j),.c (i%j)]) s else .d
  |_=>.d
 |.r=>match xs with
  |[.c i]=>if i.natAbs.log2<1920 then .e (.g (toString i)) s else .d
  |_=>.d
 |.s=>match xs with
  |[x]=>match yb s x with|some vs=>(match M.intsOf vs with|some ns=>if L2.Q4 ns then .e (.c ns.sum) s else .d|dr=>.d)|dr=>.d
  |_=>.d
 |.i=>match xs with
  |[x]=>match yb s x with
   |some vs=>(match pairsOf vs with
    |some zs=>if zs.Nodup/\∀z∈zs,0<=z.2/\z.2<1000 then newList m ((Ve zs).map prV) s else YB m vs s
    |dr=>YB m vs s)
   |dr=>.d
  |_=>.d
 |.n=>match xs with
  |[x]=>match yb s x with|some vs=>(match lK vs with|some zs=>if zs≠[] then .e (tpV (L2.R6 zs)) s else .d|dr=>.d)|dr=>.d
  |_=>.d
 |.m=>match xs with
  |[x]=>match yb s x with|some vs=>(match Vl (VM vs) vs with|some zs=>if zs≠[] then .e (tpS (VM vs) (L2.R6 zs)) s else .d|dr=>.d)|dr=>.d
  |_=>.d
 |.e=>match xs with
  |[x]=>match yb s x with|some vs=>T9 m vs s|dr=>.d
  |_=>.d
 |.d=>match xs with
  |[x]=>match wc s x with|some vs=>(match M.intsOf vs with|some ns=>if ns.length<64 then newList m ((sortI ns).map .c) s else .d|dr=>.d)|dr=>.d
  |_=>.d
def mxD(x y:Val)(s:Sto):Out Val:=match y with
 |.c k=>(match yb s x with|some vs=>(match M.intsOf vs with|some ns=>.e (.c (L2.uG k ns)) s|dr=>.d)|dr=>.d)
 |_=>.d
noncomputable def upd(s:Sto)(i:Nat)(vs:List Val):Sto:=s.set i (.c vs)
def yK(f:Mf)(o:Val)(xs:List Val)(s:Sto):Out Val:=
 match f with
 |.a=>match o,xs with
  |.f vs,[y]=>if flat y&&vs.all flat then .e (.c (vs.countP λz=>eqF z y:Nat)) s else .d
  |_,[y]=>match yb s o with|some vs=>if flat y&&vs.all flat then .e (.c (vs.countP λz=>eqF z y:Nat)) s else .d|dr=>.d
  |_,_=>.d
 |.b=>match o,xs with
  |.k i,[y]=>match s[i]? with|some (.c vs)=>if vs.length<zR then .e .h (upd s i (vs++[y])) else .d|_=>.d
  |_,_=>.d
 |.d=>match o,xs with
  |.k i,[y]=>match s[i]?,yb s y with|some (.c vs),some ws=>if vs.length+ws.length<=zR then .e .h (upd s i (vs++ws)) else .d|_,_=>.d
  |_,_=>.d
 |.f=>match o,xs with
  |.k i,[.c k]=>(match s[i]? with
   |some (.c vs)=>if -(2 ^ 63)<=k/\k<2 ^ 63 then (match seqIndex? k vs.length with
    |some j=>(match vs[j]? with|some y=>.e y (upd s i (vs.eraseIdx j))|dr=>.d)
    |dr=>.d) else .d
   |_=>.d)
  |_,_=>.d
 |.c=>match o,xs with
  |.f vs,[y]=>if flat y&&vs.all flat then (match vs.findIdx? λz=>eqF z y with|some j=>.e (.c (j:Nat)) s|dr=>.d) else .d
  |_,_=>.d
 |.e=>match o,xs with
  |.g z,[y]=>(match yb s y with
   |some vs=>(match strsOf vs with|some ys=>if (ys.map (·.length)).sum+ys.length*z.length<=16777216 then .e (.g (L2.Rv z ys)) s else .d|dr=>.d)
   |dr=>.d)
  |_,_=>.d
def wd(a b:Val)(s:Sto):Out Val:=
 match b with
 |.c i=>match wc s a with|some vs=>(match L2.atI vs i with|some v=>.e v s|dr=>.d)|dr=>.d
 |_=>.d
def xk{α:Type}(xs:List α)(lo hi:Option Int):List α:=(xs.drop (HT.sIx xs.length 0 lo)).take (HT.sIx xs.length xs.length hi-HT.sIx xs.length 0 lo)
def uD(m:Bool)(a:Val)(lo hi st:Option Int)(s:Sto):Out Val:=
 match a,st with
 |.f vs,dr=>.e (.f (xk vs lo hi)) s
 |.f vs,some c=>if c≠0/\(L2.yx vs.length lo hi c).2<=zR then .e (.f (L2.zm vs (L2.yx vs.length lo hi c).1 c (L2.yx vs.length lo hi c).2)) s else .d
 |_,dr=>match yb s a with|some vs=>newList m (xk vs lo hi) s|dr=>.d
 |_,some c=>match yb s a with|some vs=>if c≠0 then newList m (L2.zm vs (L2.uQ vs.length lo hi c).1 c (L2.uQ vs.length lo hi c).2) s else .d|dr=>.d
def au(m:Bool)(x y z:Val)(s:Sto):Out Val:=match x,y,z with
 |.c i,.c j,.c k=>if -(2 ^ 30)<=i/\i<=2 ^ 30∧-(2 ^ 30)<=j/\j<=2 ^ 30/\0<k/\k<=2 ^ 29/\AS i j k<=1000 then newList m ((L2.yj i j k).map .c) s else .d
 |.h,y,.g _=>(match wc s y with|some vs=>(match M.intsOf vs with|some ns=>if ns.length<=1000 then .e (.c (L2.dN ns:Nat)) s else .d|dr=>.d)|dr=>.d)
 |.c i,.c j,.e _=>if -(2 ^ 30)<=i/\i<=2 ^ 30∧-(2 ^ 30)<=j/\j<=2 ^ 30/\AS i j 1<=1000 then newList m ((L2.yj i j 1).map .c) s else .d
 |.c i,.c j,.h=>if -(2 ^ 30)<=i/\i<=2 ^ 30∧-(2 ^ 30)<=j/\j<=2 ^ 30/\AS i j 1<=1000 then .e (.f ((L2.yj i j 1).map .c)) s else .d
 |_,_,_=>.d
noncomputable def yt(t:Tgt)(v:Val)(env:Env):Option Env:=
 match t with
 |.a i=>some (env.set i (some v))
 |.b is=>match v with
  |.f vs=>if vs.length=is.length then some ((is.zip vs).foldl (λe p=>e.set p.1 (some p.2)) env) else dr
  |_=>dr
structure Src where
 a:List Val
 b:Option Nat
def Src.ok(r:Src)(s:Sto):Bool:=match r.b with
 |dr=>true
 |some i=>match s[i]? with
  |some (.c vs)=>rN vs r.a
  |_=>false
noncomputable def PU:List Val->List Val->List Val
 |v::vs,w::ws=>.f [v,w]::PU vs ws
 |_,_=>[]
noncomputable def xI(n:Nat):List Val->List Val
 |[]=>[]
 |v::vs=>.f [.c n,v]::xI (n+1) vs
noncomputable def srcOf(s:Sto):Val->Option Src
 |.f vs=>some ⟨vs,dr⟩
 |.j vs=>some ⟨vs,dr⟩
 |.m ns=>some ⟨ns.map .c,dr⟩
 |.k i=>match s[i]? with
  |some (.c vs)=>some ⟨vs,some i⟩
  |_=>dr
 |_=>dr
noncomputable def yu(lo:Int)(n:Nat):List Val:=(Aq n).map λ(k:Nat)=>Val.c (lo+k)
def yl(r:Src)(t:Tgt)(body:Env->Sto->List Val->Out (List Val × Env)):List Val->Env->Sto->List Val->Out (List Val × Env)
 |[],env,s,acc=>if r.ok s then .e (acc,env) s else .d
 |x::xs,env,s,acc=>if r.ok s then match yt t x env with
    |dr=>.d
    |some env'=>(body env' s acc).bind λp s'=>yl r t body xs p.2 s' p.1
  else .d
noncomputable def ze(fr:List (Option Nat))(env:Env):Env:=fr.map λo=>match o with|some j=>(env[j]?).join|dr=>dr
inductive Fl
 |a (env:Env)|c (env:Env)|d (env:Env)|b (v:Val)
def uF(r:Src)(t:Tgt)(body:Env->Sto->Out Fl):List Val->Env->Sto->Out Fl
 |[],env,s=>if r.ok s then .e (.a env) s else .d
 |x::xs,env,s=>if r.ok s then match yt t x env with
    |dr=>.d
    |some env'=>(body env' s).bind λfl s'=>match fl with
     |.a e=>uF r t body xs e s'
     |.d e=>uF r t body xs e s'
     |.c e=>.e (.a e) s'
     |.b v=>.e (.b v) s'
  else .d
def aq(c:Env->Sto->Out Bool)(body:Env->Sto->Out Fl):Nat->Env->Sto->Out Fl
 |0,_,_=>.d
 |n+1,env,s=>(c env s).bind λb s1=>if b then (body env s1).bind λfl s2=>match fl with
    |.a e=>aq c body n e s2
    |.d e=>aq c body n e s2
    |.c e=>.e (.a e) s2
    |.b v=>.e (.b v) s2
  else .e (.a env) s1
noncomputable def RB:Nat:=100000
section
variable (Φ:Calls)(G:Str->Option Val)
mutual
noncomputable def evE(env:Env):Ex->Sto->Out Val
 |.g v,s=>.e v s
 |.e i,s=>match env[i]? with|some (some v)=>.e v s|_=>.d
 |.A x,s=>match G x with|some v=>.e v s|dr=>.d
 |.J _ n,s=>.e (.r n) s
 |.j m op a b,s=>(evE env a s).bind λx s1=>(evE env b s1).bind λy s2=>binOp m op x y s2
 |.B a,s=>(evE env a s).bind λx s1=>match x with|.c i=>.e (.c (-i)) s1|_=>.d
 |.I a,s=>(evE env a s).bind λx s1=>match x with|.e b=>.e (.e !b) s1|_=>.d
 |.l op a b,s=>(evE env a s).bind λx s1=>(evE env b s1).bind λy s2=>zW op x y s2
 |.w op op' a b c,s=>(evE env a s).bind λx s1=>(evE env b s1).bind λy s2=>(zW op x y s2).bind λr s3=>match r with
  |.e true=>(evE env c s3).bind λz s4=>zW op' y z s4
  |.e false=>.e (.e false) s3
  |_=>.d
 |.y a es,s=>match es with
  |.b=>evE env a s
  |.a _ _=>(evE env a s).bind λx s1=>match x with
   |.e true=>qJ env es s1
   |.e false=>.e (.e false) s1
   |_=>.d
 |.K a es,s=>match es with
  |.b=>evE env a s
  |.a _ _=>(evE env a s).bind λx s1=>match truth s1 x with
   |some false=>lh env es s1
   |some true=>.e x s1
   |dr=>.d
 |.C c a b,s=>(evT env c s).bind λt s1=>if t then evE env a s1 else evE env b s1
 |.r es,s=>(zo env es s).bind λvs s1=>if vs.length<=zR then .e (.f vs) s1 else .d
 |.u m es,s=>(zo env es s).bind λvs s1=>if vs.length<=zR then newList m vs s1 else .d
 |.E,s=>.e .l s
 |.h f ver es,s=>(zo env es s).bind λvs s1=>Φ f ver vs s1
 |.k f m es,s=>(zo env es s).bind λvs s1=>blt f m vs s1
 |.H a d,s=>(evE env a s).bind λx s1=>(evE env d s1).bind λy s2=>mxD x y s2
 |.D f _ o es,s=>(evE env o s).bind λx s1=>(zo env es s1).bind λvs s2=>yK f x vs s2
 |.s a b,s=>(evE env a s).bind λx s1=>(evE env b s1).bind λy s2=>wd x y s2
 |.G m a lo hi st,s=>(evE env a s).bind λx s1=>(evO env lo s1).bind λl s2=>(evO env hi s2).bind λh s3=>(evO env st s3).bind λc s4=>uD m x l h c s4
 |.q m _ fr elt t it ifs,s=>(yk env it s).bind λr s1=>
  (yl r t (λe s' acc=>(xJ e ifs s').bind λb s2=>if b then (evE e elt s2).bind λv s3=>.e (acc++[v],e) s3 else .e (acc,e) s2) r.a (ze fr env) s1 []).bind λp s2=>newList m p.1 s2
 |.z m _ fr elt t it ifs t2 it2 ifs2,s=>(yk env it s).bind λr s1=>
  (yl r t (λe s' acc=>(xJ e ifs s').bind λb s2=>if b then (yk e it2 s2).bind λr2 s3=>
      yl r2 t2 (λe' s4 acc'=>(xJ e' ifs2 s4).bind λb' s5=>if b' then (evE e' elt s5).bind λv s6=>.e (acc'++[v],e') s6 else .e (acc',e') s5) r2.a e s3 acc
   else .e (acc,e) s2) r.a (ze fr env) s1 []).bind λp s2=>if p.1.length<=zR then newList m p.1 s2 else .d
 |.F t,s=>.e (.o s.length) (s++[if t then .f [] else .e []])
 |.L a b,s=>(evE env a s).bind λx s1=>(evE env b s1).bind λy s2=>ixD x y s2
 |.p m a b c,s=>(evE env a s).bind λx s1=>(evE env b s1).bind λy s2=>(evE env c s2).bind λz s3=>au m x y z s3
noncomputable def qJ(env:Env):Exs->Sto->Out Val
 |.b,_=>.d
 |.a a es,s=>match es with
  |.b=>evE env a s
  |.a _ _=>(evE env a s).bind λx s1=>match x with
   |.e true=>qJ env es s1
   |.e false=>.e (.e false) s1
   |_=>.d
noncomputable def lh(env:Env):Exs->Sto->Out Val
 |.b,_=>.d
 |.a a es,s=>match es with
  |.b=>evE env a s
  |.a _ _=>(evE env a s).bind λx s1=>match truth s1 x with
   |some false=>lh env es s1
   |some true=>.e x s1
   |dr=>.d
noncomputable def zo(env:Env):Exs->Sto->Out (List Val)
 |.b,s=>.e [] s
 |.a e es,s=>(evE env e s).bind λv s1=>(zo env es s1).bind λvs s2=>.e (v::vs) s2
noncomputable def evO(env:Env):OEx->Sto->Out (Option Int)
 |.b,s=>.e dr s
 |.a e,s=>(evE env e s).bind λv s1=>match v with|.c i=>.e (some i) s1|_=>.d
/-- a test -/
noncomputable def evT(env:Env):Cn->Sto->Out Bool
 |.a e,s=>(evE env e s).truth
 |.b a,s=>(evT env a s).bind λb s1=>.e (!b) s1
 |.d a es,s=>(evT env a s).bind λb s1=>if b then xJ env es s1 else .e false s1
 |.f a es,s=>(evT env a s).bind λb s1=>if b then .e true s1 else u6 env es s1
noncomputable def xJ(env:Env):Cns->Sto->Out Bool
 |.b,s=>.e true s
 |.a a es,s=>(evT env a s).bind λb s1=>if b then xJ env es s1 else .e false s1
noncomputable def u6(env:Env):Cns->Sto->Out Bool
 |.b,s=>.e false s
 |.a a es,s=>(evT env a s).bind λb s1=>if b then .e true s1 else u6 env es s1
noncomputable def yk(env:Env):Itb->Sto->Out Src
 |.d e,s=>(evE env e s).bind λv s1=>match srcOf s1 v with|some r=>.e r s1|dr=>.d
 |.c a,s=>(evE env a s).bind λx s1=>match x with
  |.c j=>if -(2 ^ 62)<=j/\j<=zR then .e ⟨yu 0 j.toNat,dr⟩ s1 else .d
  |_=>.d
 |.f a b,s=>(evE env a s).bind λx s1=>(evE env b s1).bind λy s2=>match x,y with
  |.c i,.c j=>if -(2 ^ 62)<=i/\i<2 ^ 62∧-(2 ^ 62)<=j/\j<2 ^ 62/\j-i<=zR then .e ⟨yu i (j-i).toNat,dr⟩ s2 else .d
  |_,_=>.d
 |.g e,s=>(evE env e s).bind λv s1=>match v with
  |.f vs=>.e ⟨xI 0 vs,dr⟩ s1
  |.j vs=>.e ⟨xI 0 vs,dr⟩ s1
  |_=>.d
 |.h a b,s=>(evE env a s).bind λx s1=>(evE env b s1).bind λy s2=>match x,y with
  |.f vs,.f ws=>if ws.length<=vs.length then .e ⟨PU vs ws,dr⟩ s2 else .d
  |_,_=>.d
end
mutual
noncomputable def exS(env:Env):Sm->Sto->Out Fl
 |.h e,s=>(evE Φ G env e s).bind λ_ s1=>.e (.a env) s1
 |.d e,s=>(evE Φ G env e s).bind λv s1=>.e (.b v) s1
 |.s,s=>.e (.b .h) s
 |.f i e,s=>(evE Φ G env e s).bind λv s1=>.e (.a (env.set i (some v))) s1
 |.p is e,s=>(evE Φ G env e s).bind λv s1=>match yt (.b is) v env with|some env'=>.e (.a env') s1|dr=>.d
 |.m is es,s=>(zo Φ G env es s).bind λvs s1=>if vs.length=is.length then .e (.a ((is.zip vs).foldl (λe p=>e.set p.1 (some p.2)) env)) s1 else .d
 |.w i op e,s=>match env[i]? with
  |some (some (.c x))=>(evE Φ G env e s).bind λv s1=>match v with
   |.c y=>(binOp false op (.c x) (.c y) s1).bind λz s2=>.e (.a (env.set i (some z))) s2
   |_=>.d
  |some (some (.f x))=>if op=.a then (evE Φ G env e s).bind λv s1=>match v with
   |.f y=>(binOp false .a (.f x) (.f y) s1).bind λz s2=>.e (.a (env.set i (some z))) s2
   |_=>.d
   else .d
  |_=>.d
 |.l o i e,s=>(evE Φ G env e s).bind λv s1=>(evE Φ G env o s1).bind λx s2=>(evE Φ G env i s2).bind λy s3=>match x,y with
  |.k r,.c k=>(match s3[r]? with
   |some (.c vs)=>(match L2.ixN vs.length k with|some j=>.e (.a env) (upd s3 r (vs.set j v))|dr=>.d)
   |_=>.d)
  |_,_=>.d
 |.g c a b,s=>(evT Φ G env c s).bind λt s1=>if t then zS env a s1 else zS env b s1
 |.k t it b,s=>(yk Φ G env it s).bind λr s1=>uF r t (λe s'=>zS e b s') r.a env s1
 |.n c b,s=>aq (λe s'=>evT Φ G e c s') (λe s'=>zS e b s') RB env s
 |.r,s=>.e (.a env) s
 |.v,s=>.e (.c env) s
 |.q,s=>.e (.d env) s
 |.j _,_=>.d
 |.u o i e,s=>(evE Φ G env e s).bind λv s1=>(evE Φ G env o s1).bind λx s2=>(evE Φ G env i s2).bind λy s3=>match putD x y v s3 with|some s4=>.e (.a env) s4|dr=>.d
noncomputable def zS(env:Env):Sms->Sto->Out Fl
 |.b,s=>.e (.a env) s
 |.a c cs,s=>(exS env c s).bind λfl s1=>match fl with
  |.a e=>zS e cs s1
  |fl=>.e fl s1
end
end
abbrev qk:=Option (Str × List Val × Sto)
abbrev wu:=Str->Nat->List Val->Sto->qk
noncomputable def nB:List Val->Bool
 |[.g _]=>true
 |[.c i,.c j]=>decide (i.natAbs<2 ^ 64)&&decide (j.natAbs<2 ^ 64)
 |_=>false
section
variable (W:Str->Bool)(Φ:Calls)(Ψ:wu)(G:Str->Option Val)
mutual
noncomputable def xE(env:Env):Ex->Sto->qk
 |.h f v es,s=>match zo Φ G env es s with
  |.e vs s1=>Ψ f v vs s1
  |_=>dr
 |.l _ a _,s=>xE env a s
 |.j _ _ a _,s=>xE env a s
 |.k _ _ es,s=>xL env es s
 |_,_=>dr
/-- one argument that raises -/
noncomputable def xL(env:Env):Exs->Sto->qk
 |.a a es,s=>match es with
  |.b=>xE env a s
  |.a _ _=>dr
 |.b,_=>dr
end
def xT(env:Env):Cn->Sto->qk
 |.a e,s=>match e with
  |.h f v es=>xE Φ Ψ G env (.h f v es) s
  |_=>dr
 |.b c,s=>xT env c s
 |_,_=>dr
mutual
noncomputable def xS(env:Env):Sm->Sto->qk
 |.h e,s=>xE Φ Ψ G env e s
 |.d e,s=>xE Φ Ψ G env e s
 |.f _ e,s=>xE Φ Ψ G env e s
 |.g c a b,s=>match evT Φ G env c s with
  |.e t s1=>if t then xSs env a s1 else xSs env b s1
  |_=>xT Φ Ψ G env c s
 |.j e,s=>match e with
  |.h c _ es=>(match zo Φ G env es s with
   |.e vs s1=>if nB vs&&W c then some (c,vs,s1) else dr
   |_=>dr)
  |_=>dr
 |_,_=>dr
noncomputable def xSs(env:Env):Sms->Sto->qk
 |.b,_=>dr
 |.a c cs,s=>match exS Φ G env c s with
  |.e fl s1=>(match fl with
   |.a e=>xSs e cs s1
   |_=>dr)
  |_=>xS env c s
end
end
noncomputable def zk(N:List Str)(vs:List Val):Env:=vs.map some++Ap (N.length-vs.length) dr
def leave(F:Fn)(s0:Sto)(v:Val)(s:Sto):Out Val:=
 if F.c then .e v s
 else if vB s0 s then (match freeze s0.length s v with|some v'=>.e v' (s.take s0.length)|dr=>.d) else .d
structure Tbl where
 d:Str->Nat->Option Fn
 b:Str->Option Val
 /-- the defs whose tables the store holds,from its start -/
 f:List Str:=[]
 /-- the classes of exceptions,and what the law's def says of each -/
 e:List (Str × Str):=[]
 /-- which of the law's two defs that try a call is there -/
 c:Bool->Bool:=λ_=>false
noncomputable def zf:List Str->Sto->Bool
 |[],_=>true
 |x::r,.d y::s=>decide (x=y)&&zf r s
 |_::_,_=>false
noncomputable def qL(T:Tbl)(m:Bool)(o:Out Val)(x:qk):Out Val:=match o with
 |.e v s=>.e (if m then v else .g "told") s
 |_=>match x with
  |some (c,_,s)=>(match T.e.lookup c with
   |some w=>.e (.g w) s
   |dr=>.d)
  |dr=>.d
def run(T:Tbl)(Φ:Calls)(F:Fn)(vs:List Val)(s:Sto):Out Val:=
 if vs.length=F.b.length then (zS Φ T.b (zk F.N vs) F.a s).bind λfl s1=>match fl with
  |.a _=>leave F s .h s1
  |.b v=>leave F s v s1
  |_=>.d
 else .d
noncomputable def ll:List Val->Option Str
 |.q g::_=>some g
 |_=>dr
mutual
noncomputable def zF(T:Tbl):Nat->Calls
 |0=>λ_ _ _ _=>.d
 |n+1=>λf ver vs s=>match T.d f ver with|some F=>run T (zF T n) F vs s|dr=>if ((decide (ver=100)&&T.c false)||(decide (ver=101)&&T.c true))&&zf T.f s then qL T (decide (ver=101)) (zF T n f 0 vs s) (zl T n f 0 vs s) else (match ll vs with|some g=>if decide (ver=200) then (match T.d g 0 with|some F=>run T (zF T n) F vs.tail s|dr=>.d) else if ((decide (ver=300)&&T.c false)||(decide (ver=301)&&T.c true))&&zf T.f s then qL T (decide (ver=301)) (zF T n g 0 vs.tail s) (zl T n g 0 vs.tail s) else .d|dr=>.d)
noncomputable def zl(T:Tbl):Nat->wu
 |0=>λ_ _ _ _=>dr
 |n+1=>λf ver vs s=>match T.d f ver with
  |some F=>if vs.length=F.b.length then xSs (λc=>(T.e.lookup c).isSome) (zF T n) (zl T n) T.b (zk F.N vs) F.a s else dr
  |dr=>dr
end
end M
end
section
namespace M
open PySem
abbrev KF:=Ag
structure Own where
 o:List Addr
 h:List Addr
def Own.no(ρ:Own)(a:Addr):Prop:=a ∉ ρ.o/\a ∉ ρ.h
def KT(K:KF)(a:Addr)(xs:List L2.V):Prop:=∃(o:Obj) (its:Array Value) (n:Nat),K.lookup a=some o/\o.cls=.type "tuple"/\o.data=.seq its n/\its.size<=Av/\L2.Vals xs its.toList
def SC(K:KF)(ρ:Own)(H:L2.Hp)(a:Addr)(xs:List L2.V):Prop:=(ρ.no a/\L2.Rd H a (.b xs)) \/
 ∃(o:Obj) (its:Array Value) (n:Nat),K.lookup a=some o/\o.cls=.type "list"/\o.dict=none/\o.data=.seq its n/\its.size<=Av/\L2.Vals xs its.toList
noncomputable def hk:Option L2.HO->Nat
 |some (.b _)=>1
 |some (.i _)=>2
 |some (.j _)=>3
 |some (.g _)=>4
 |_=>0
mutual
inductive RD(K:KF)(mg:Str->Option Value)(ρ:Own)(H:L2.Hp):Val->L2.V->Prop
 |s:RD K mg ρ H .h .g
 |j (b:Bool):RD K mg ρ H (.e b) (.f b)
 |l (i:Int):RD K mg ρ H (.c i) (.d i)
 |D (x:Str):RD K mg ρ H (.g x) (.e x)
 |m {a:Addr} {vs:List Val} {xs:List L2.V}:ρ.no a->H a=some (.c xs)->RDs K mg ρ H vs xs->RD K mg ρ H (.f vs) (.c a)
 |E {a:Addr} {vs:List Val} {xs:List L2.V}:ρ.no a->H a=some (.b xs)->RDs K mg ρ H vs xs->RD K mg ρ H (.j vs) (.c a)
 |B {a:Addr}:ρ.no a->H a=some (.i [])->RD K mg ρ H .l (.c a)
 |p {a:Addr} {ns:List Int}:KT K a (ns.map L2.V.d)->RD K mg ρ H (.m ns) (.c a)
 |F {a:Addr} {ns:List Int}:SC K ρ H a (ns.map L2.V.d)->RD K mg ρ H (.p ns) (.c a)
 |C {a:Addr} {i:Nat}:ρ.o[i]?=some a->hk (H a)=1->RD K mg ρ H (.k i) (.c a)
 |A {a:Addr} {i:Nat}:ρ.o[i]?=some a->1<hk (H a)->RD K mg ρ H (.o i) (.c a)
 |G {x:Str} {f:Addr}:mg x=some (.ref f)->RD K mg ρ H (.q x) (.c f)
 |I (n:String):RD K mg ρ H (.r n) (.k n)
inductive RDs(K:KF)(mg:Str->Option Value)(ρ:Own)(H:L2.Hp):List Val->List L2.V->Prop
 |d:RDs K mg ρ H [] []
 |a {v:Val} {x:L2.V} {vs:List Val} {xs:List L2.V}:RD K mg ρ H v x->RDs K mg ρ H vs xs->RDs K mg ρ H (v::vs) (x::xs)
end
noncomputable def U3(x:Str):Str:=(x++(".<locals>.":Str))++("<lambda>":Str)
def RA(K:KF)(mg:Str->Option Value)(ρ:Own)(H:L2.Hp)(P:Addr)(x:Str):Prop:=∃ps,H P=some (.g ps)/\DL ps.toList /\
 (∀(pos:Pos) (cv:Value),DK pos ps.toList=some cv->∃(c:Addr) (o:Obj) (vs:Array Value) (t:Tok),cv=.ref c/\ρ.no c/\H c=some (.e o (.d 0))/\o.data=.fields vs/\vs[1]?=some (.str (U3 x) t)) /\
 ∃(fa c:Addr) (o:Obj) (fd:BQ),mg x=some (.ref fa)/\K.lookup fa=some o/\o.data=.func fd/\fd.code=.ref c/\∀h:Heap,K.In h->PySem.W.CodeHd h c P
def CR(K:KF)(mg:Str->Option Value)(ρ:Own)(H:L2.Hp)(a:Addr):Cel->Prop
 |.c vs=>∃xs,H a=some (.b xs)/\RDs K mg ρ H vs xs
 |.e kvs=>∃kxs,H a=some (.i kxs)/\kxs.map (·.1)=kvs.map (λp=>Eg p.1)/\RDs K mg ρ H (kvs.map (·.2)) (kxs.map (·.2))
 |.f kvs=>∃kxs,H a=some (.j kxs)/\kxs.map (·.1)=kvs.map (λp=>p.1.map Ef)/\RDs K mg ρ H (kvs.map (·.2)) (kxs.map (·.2))
 |.d x=>RA K mg ρ H a x
structure HR(K:KF)(mg:Str->Option Value)(ρ:Own)(s:Sto)(H:L2.Hp):Prop where
 f:ρ.o.length=s.length
 v:ρ.o.Nodup
 m:∀(i:Nat) (c:Cel),s[i]?=some c->∃a:Addr,ρ.o[i]?=some a/\CR K mg ρ H a c
 d:∀a∈ρ.h,(∃xs,H a=some (.b xs))/\a ∉ ρ.o
structure Ext(ρ:Own)(H:L2.Hp)(ρ':Own)(H':L2.Hp):Prop where
 d:∃new:List Addr,ρ'.o=ρ.o++new/\∀a∈new,H a=none
 f:ρ'.h=ρ.h
 c:∀(a:Addr) (o:L2.HO),H a=some o->a ∉ ρ.o->H' a=some o
 g:∀a∈ρ.o,hk (H' a)=hk (H a)
structure ER(K:KF)(mg:Str->Option Value)(ρ:Own)(H:L2.Hp)(env:Env)(σ:L2.St):Prop where
 b:env.length=σ.length
 a:∀(i:Nat) (v:Val),env[i]?=some (some v)->∃x:L2.V,σ[i]?=some (some x)/\RD K mg ρ H v x
section
variable {K:KF}{mg:Str->Option Value}{ρ ρ' ρ'':Own}{H H' H'':L2.Hp}{s s':Sto}
theorem HR.obj(h:HR K mg ρ s H)(i:Nat)vs(e:s[i]?=some (Cel.c vs)):∃(a:Addr) (xs:List L2.V),ρ.o[i]?=some a/\H a=some (.b xs)/\RDs K mg ρ H vs xs:=by obtain⟨a,e1,xs,e2,r⟩:=h.m i _ e;exact⟨a,xs,e1,e2,r⟩
theorem CR.there(h:CR K mg ρ H a c):∃o,H a=some o:=by
 cases c with
 |c vs=>obtain⟨xs,e,_⟩:=h;exact⟨_,e⟩
 |e kvs=>obtain⟨xs,e,_⟩:=h;exact⟨_,e⟩
 |f kvs=>obtain⟨xs,e,_⟩:=h;exact⟨_,e⟩
 |d x=>obtain⟨ps,e,_⟩:=h;exact⟨_,e⟩
theorem CR.hk{a:Addr}{c:Cel}(h:CR K mg ρ H a c):0<hk (H a):=by
 cases c with
 |c vs=>obtain⟨xs,e,_⟩:=h;rw[e];exact Dl 0
 |e kvs=>obtain⟨xs,e,_⟩:=h;rw[e];exact En rfl
 |f kvs=>obtain⟨xs,e,_⟩:=h;rw[e];exact En rfl
 |d x=>obtain⟨ps,e,_⟩:=h;rw[e];exact En rfl
theorem HR.trk(h:HR K mg ρ s H)(ha:a∈ρ.o):∃o,H a=some o:=by
 obtain⟨i,hi,e⟩:=BM ha;have hs:i<s.length:=by rw[<-h.f];exact hi
 obtain⟨b,e1,e2⟩:=h.m i _ (xd hs);rw[xd hi,e]at e1;cases e1;exact e2.there
theorem jm(h:hk (H a)=1):∃xs,H a=some (.b xs):=by
 cases e:H a with
 |none=>rw[e]at h;cases h
 |some o=>
  rw[e]at h;cases o with
  |b xs=>exact⟨xs,rfl⟩
  |_=>cases h
theorem HR.new(h:HR K mg ρ s H)(hp:H p=none):ρ.no p:=by
 refine⟨λhm=>?_,λhm=>?_⟩
 . obtain⟨xs,e⟩:=h.trk hm
   rw[hp]at e;cases e
 . obtain⟨⟨xs,e⟩,_⟩:=h.d p hm
   rw[hp]at e;cases e
theorem Ext.refl:Ext ρ H ρ H:=⟨⟨[],by simp,λa ha=>by cases ha⟩,rfl,λa o e _=>e,λ_ _=>rfl⟩
theorem Ext.R7(x:Ext ρ H ρ' H')(e:H a=some o)(n:ρ.no a):ρ'.no a:=by
 obtain⟨new,e1,hn⟩:=x.d;refine⟨?_,by rw[x.f];exact n.2⟩
 rw[e1];intro hm;rcases AX.mp hm with hm|hm
 . exact n.1 hm
 . rw[hn a hm]at e;cases e
theorem Ext.get(x:Ext ρ H ρ' H'){i:Nat}(e:ρ.o[i]?=some a):ρ'.o[i]?=some a:=by obtain⟨new,e1,hn⟩:=x.d;have hi:i<ρ.o.length:=(Aj.mp e).1;rw[e1,A1 hi];exact e
theorem Ext.trans(x:Ext ρ H ρ' H')(h:HR K mg ρ' s H')(y:Ext ρ' H' ρ'' H''):Ext ρ H ρ'' H'':=by
 obtain⟨new,e1,hn⟩:=x.d;obtain⟨new2,e2,hn2⟩:=y.d;refine⟨⟨new++new2,by rw[e2,e1,Bt],λa ha=>?_⟩,y.f.trans x.f,λa o e n=>y.c a o (x.c a o e n) ?_,λa ha=>(y.g a (by rw[e1];exact Bv _ ha)).trans (x.g a ha)⟩
 . rcases AX.mp ha with ha|ha
   . exact hn a ha
   . cases q:H a with
     |none=>rfl
     |some o=>
      by_cases hm:a∈ρ.o
      . obtain⟨xs,e⟩:=h.trk (a:=a) (by rw[e1];exact Bv _ hm)
        rw[hn2 a ha]at e;cases e
      . have:=x.c a o q hm
        rw[hn2 a ha]at this;cases this
 . rw[e1]
   intro hm;rcases AX.mp hm with hm|hm
   . exact n hm
   . rw[hn a hm]at e;cases e
theorem SC.sql(h:SC K ρ H a xs):L2.SqL K H a xs:=by
 rcases h with⟨_,h⟩|h
 . exact .inl h
 . exact .inr h
theorem KT.sqt(h:KT K a xs):L2.SqT K H a xs:=.inr h
structure Mv(ρ:Own)(H:L2.Hp)(ρ':Own)(H':L2.Hp):Prop where
 b:∀(a:Addr) (o:L2.HO),H a=some o->ρ.no a->H' a=some o/\ρ'.no a
 c:∀(i:Nat) (a:Addr),ρ.o[i]?=some a->ρ'.o[i]?=some a
 d:∀a∈ρ.o,hk (H' a)=hk (H a)
theorem Ext.mv(x:Ext ρ H ρ' H'):Mv ρ H ρ' H':=⟨λa o e n=>⟨x.c a o e n.1,x.R7 e n⟩,λi a e=>x.get e,x.g⟩
theorem SC.mv(x:Mv ρ H ρ' H')(h:SC K ρ H a xs):SC K ρ' H' a xs:=by
 rcases h with⟨n,h|⟨o,h⟩⟩|h
 . exact .inl ⟨(x.b _ _ h n).2,.inl (x.b _ _ h n).1⟩
 . exact .inl ⟨(x.b _ _ h n).2,.inr ⟨o,(x.b _ _ h n).1⟩⟩
 . exact .inr h
end
mutual
theorem RD.mv{K:KF}{mg:Str->Option Value}{ρ ρ':Own}{H H':L2.Hp}(x:Mv ρ H ρ' H'){v:Val}{u:L2.V}(q:RD K mg ρ H v u):RD K mg ρ' H' v u:=by
 cases q with
 |s=>exact .s
 |j b=>exact .j b
 |l i=>exact .l i
 |D t=>exact .D t
 |m n e r=>exact .m (x.b _ _ e n).2 (x.b _ _ e n).1 (RDs.mv x r)
 |E n e r=>exact .E (x.b _ _ e n).2 (x.b _ _ e n).1 (RDs.mv x r)
 |B n e=>exact .B (x.b _ _ e n).2 (x.b _ _ e n).1
 |p h=>exact .p h
 |F h=>exact .F (h.mv x)
 |C e k=>exact .C (x.c _ _ e) ((x.d _ (AA e)).trans k)
 |A e k=>exact .A (x.c _ _ e) (by rw[x.d _ (AA e)];exact k)
 |G e=>exact .G e
 |I n=>exact .I n
theorem RDs.mv{K:KF}{mg:Str->Option Value}{ρ ρ':Own}{H H':L2.Hp}(x:Mv ρ H ρ' H'){vs:List Val}{us:List L2.V}(q:RDs K mg ρ H vs us):RDs K mg ρ' H' vs us:=by
 cases q with
 |d=>exact .d
 |a r rs=>exact .a (RD.mv x r) (RDs.mv x rs)
end
theorem CR.mv(x:Mv ρ H ρ' H')(e:H' a=H a)(h:CR K mg ρ H a c):CR K mg ρ' H' a c:=by
 cases c with
 |c vs=>obtain⟨xs,e1,r⟩:=h;exact⟨xs,e.trans e1,RDs.mv x r⟩
 |e kvs=>obtain⟨xs,e1,k,r⟩:=h;exact⟨xs,e.trans e1,k,RDs.mv x r⟩
 |f kvs=>obtain⟨xs,e1,k,r⟩:=h;exact⟨xs,e.trans e1,k,RDs.mv x r⟩
 |d y=>
  obtain⟨ps,e1,k,r,g⟩:=h;refine⟨ps,e.trans e1,k,λpos cv hc=>?_,g⟩;obtain⟨c,o,vs,t,q1,q2,q3,q4⟩:=r pos cv hc;exact⟨c,o,vs,t,q1,(x.b _ _ q3 q2).2,(x.b _ _ q3 q2).1,q4⟩
theorem RD.mono(r:RD K mg ρ H v u)(x:Ext ρ H ρ' H'):RD K mg ρ' H' v u:=RD.mv x.mv r
theorem RDs.mono(r:RDs K mg ρ H v u)(x:Ext ρ H ρ' H'):RDs K mg ρ' H' v u:=RDs.mv x.mv r
end M
end
section
namespace M
open PySem
section
variable {K:KF}{mg:Str->Option Value}{ρ ρ' ρ'':Own}{H H' H'':L2.Hp}{s s':Sto}
theorem RDs.length(q:RDs K mg ρ H vs xs):vs.length=xs.length:=by
 cases q with
 |d=>rfl
 |a _ r=>rw[AK,AK,r.length]
theorem RDs.get{i:Nat}(q:RDs K mg ρ H vs xs)(e:vs[i]?=some v):∃x,xs[i]?=some x/\RD K mg ρ H v x:=by
 cases q with
 |d=>cases e
 |a r rs=>
  cases i with
  |zero=>cases e;exact⟨_,rfl,r⟩
  |succ i=>exact RDs.get (i:=i) rs e
theorem RDs.RZ{i:Nat}(q:RDs K mg ρ H vs xs)(e:xs[i]?=some x):∃v,vs[i]?=some v/\RD K mg ρ H v x:=by
 cases q with
 |d=>cases e
 |a r rs=>
  cases i with
  |zero=>cases e;exact⟨_,rfl,r⟩
  |succ i=>exact RDs.RZ (i:=i) rs e
theorem RDs.append(p:RDs K mg ρ H vs xs)(q:RDs K mg ρ H ws ys):RDs K mg ρ H (vs++ws) (xs++ys):=by
 cases p with
 |d=>exact q
 |a r rs=>exact .a r (rs.append q)
theorem RDs.take n(q:RDs K mg ρ H vs xs):RDs K mg ρ H (vs.take n) (xs.take n):=by
 cases n with
 |zero=>exact .d
 |succ n=>cases q with
  |d=>exact .d
  |a r rs=>exact .a r (rs.take n)
theorem RDs.drop n(q:RDs K mg ρ H vs xs):RDs K mg ρ H (vs.drop n) (xs.drop n):=by
 cases n with
 |zero=>exact q
 |succ n=>cases q with
  |d=>exact .d
  |a _ rs=>exact rs.drop n
theorem RDs.set(r:RD K mg ρ H v x)i(q:RDs K mg ρ H vs xs):RDs K mg ρ H (vs.set i v) (xs.set i x):=by
 cases q with
 |d=>exact .d
 |a q t=>cases i with
  |zero=>exact .a r t
  |succ i=>exact .a q (RDs.set r i t)
theorem RDs.rep(r:RDs K mg ρ H vs xs):∀k:Nat,RDs K mg ρ H (Ap k vs).flatten (Ap k xs).flatten
 |0=>.d
 |k+1=>by rw[BA,BA,Cg,Cg];exact r.append (RDs.rep r k)
theorem RDs.pick(r:RDs K mg ρ H vs xs):∀(is:List Nat),RDs K mg ρ H (is.filterMap λi=>vs[i]?) (is.filterMap λi=>xs[i]?)
 |[]=>.d
 |i::is=>by
  rw[AW,AW];cases hx:vs[i]? with
  |none=>
   have:xs[i]?=none:=by have h2:vs.length<=i:=CD.mp hx;exact CD.mpr (by rw[<-r.length];exact h2)
   rw[this];exact RDs.pick r is
  |some v=>
   obtain⟨u,hu,ru⟩:=r.get hx;rw[hu];exact .a ru (RDs.pick r is)
theorem RDs.zm(r:RDs K mg ρ H vs xs)lo st n:RDs K mg ρ H (L2.zm vs lo st n) (L2.zm xs lo st n):=by have h:=r.pick ((Aq n).map λ(k:Nat)=>(lo+(k:Int)*st).toNat);rw[B6,B6]at h;exact h
theorem RDs.ints:∀(ns:List Int),RDs K mg ρ H (ns.map .c) (ns.map .d)
 |[]=>.d
 |n::ns=>.a (.l n) (RDs.ints ns)
theorem RDs.cut(r:RDs K mg ρ H vs xs)lo hi:RDs K mg ρ H (xk vs lo hi) (L2.oI xs lo hi):=by unfold xk L2.oI;rw[r.length];exact(r.drop _).take _
theorem ax{α:Type}:∀{l:List α} {i j:Nat} {x},l.Nodup->l[i]?=some x->l[j]?=some x->i=j
 |[],_,_,_,_,e,_=>by simp at e
 |a::l,0,0,_,_,_,_=>rfl
 |a::l,0,j+1,x,nd,e1,e2=>by
  simp at e1 e2;subst e1;exact absurd (AA e2) (BR.mp nd).1
 |a::l,i+1,0,x,nd,e1,e2=>by
  simp at e1 e2;subst e2;exact absurd (AA e1) (BR.mp nd).1
 |a::l,i+1,j+1,x,nd,e1,e2=>by simp at e1 e2;rw[ax (BR.mp nd).2 e1 e2]
theorem Ext.new(h:HR K mg ρ s H)(hp:H p=none)o:Ext ρ H ρ (L2.upd H p o):=
 ⟨⟨[],by simp,λa ha=>by cases ha⟩,rfl,λa u e _=>by rw[L2.zL (L2.zU e hp)];exact e,λa ha=>by rw[L2.zL λz=>(h.new hp).1 (by rw[<-z];exact ha)]⟩
theorem HR.more(h:HR K mg ρ s H)(hp:H p=none)o:HR K mg ρ s (L2.upd H p o):=by
 refine⟨h.f,h.v,λi c e=>?_,λa ha=>?_⟩
 . obtain⟨a,e1,r⟩:=h.m i c e
   obtain⟨u,e2⟩:=r.there;exact⟨a,e1,r.mv (Ext.new h hp o).mv (L2.zL (L2.zU e2 hp))⟩
 . obtain⟨⟨xs,e⟩,n⟩:=h.d a ha
   exact⟨⟨xs,by rw[L2.zL (L2.zU e hp)];exact e⟩,n⟩
noncomputable def Own.more(ρ:Own)(p:Addr):Own:=⟨ρ.o++[p],ρ.h⟩
theorem Ext.own(h:HR K mg ρ s H)(hp:H p=none)o:Ext ρ H (ρ.more p) (L2.upd H p o):=
 ⟨⟨[p],rfl,λa ha=>by rw[AF.mp ha];exact hp⟩,rfl,λa u e _=>by rw[L2.zL (L2.zU e hp)];exact e,λa ha=>by rw[L2.zL λz=>(h.new hp).1 (by rw[<-z];exact ha)]⟩
theorem qe(h:HR K mg ρ s H)p:(ρ.more p).o[s.length]?=some p:=by show (ρ.o++[p])[s.length]?=some p;rw[<-h.f,BL (Ac _)];simp
theorem HR.vO(h:HR K mg ρ s H)(hp:H p=none)(r:CR K mg (ρ.more p) (L2.upd H p o) p c):HR K mg (ρ.more p) (s++[c]) (L2.upd H p o):=by
 have X:=Ext.own h hp o;refine⟨by show (ρ.o++[p]).length=_;rw[Am,Am,h.f];rfl,?_,λi ws q=>?_,λa ha=>?_⟩
 . show (ρ.o++[p]).Nodup
   rw[Fw];exact⟨h.v,by simp,λa ha b hb=>by rw[AF.mp hb];intro z;subst z;exact(h.new hp).1 ha⟩
 . by_cases hi:i<s.length
   . rw[A1 hi]at q
     obtain⟨a,e1,t⟩:=h.m i ws q;obtain⟨u,e2⟩:=t.there;exact⟨a,X.get e1,t.mv X.mv (L2.zL (L2.zU e2 hp))⟩
   . have hi':i=s.length:=by have:=(Aj.mp q).1;rw[Am]at this;simp at this;omega
     subst hi';rw[BL (Ac _)]at q;simp at q;subst q;exact⟨p,qe h p,r⟩
 . obtain⟨⟨ys,q⟩,n⟩:=h.d a ha
   refine⟨⟨ys,by rw[L2.zL (L2.zU q hp)];exact q⟩,λhm=>?_⟩
   rcases AX.mp hm with hm|hm
   . exact n hm
   . rw[AF.mp hm,hp]at q;cases q
theorem HR.own(h:HR K mg ρ s H)(hp:H p=none)(r:RDs K mg ρ H vs xs):HR K mg (ρ.more p) (s++[.c vs]) (L2.upd H p (.b xs)):=h.vO hp ⟨xs,L2.zN,r.mono (Ext.own h hp _)⟩
theorem Ext.qE(h:HR K mg ρ s H){i:Nat}(e:ρ.o[i]?=some a)(k:hk (some o)=hk (H a)):Ext ρ H ρ (L2.upd H a o):=
 ⟨⟨[],by simp,λa ha=>by cases ha⟩,rfl,λb u q n=>by rw[L2.zL (λz=>n (by rw[z];exact AA e))];exact q,λb hb=>by
   by_cases z:b=a
   . subst z;rw[L2.zN];exact k
   . rw[L2.zL z]⟩
theorem Ext.write(h:HR K mg ρ s H){i:Nat}(e:ρ.o[i]?=some a)(k:H a=some (.b ys))xs:Ext ρ H ρ (L2.upd H a (.b xs)):=Ext.qE h e (by rw[k];rfl)
theorem HR.qE(h:HR K mg ρ s H)(e:ρ.o[i]?=some a)(k:hk (some o)=hk (H a))(r:CR K mg ρ (L2.upd H a o) a c):HR K mg ρ (s.set i c) (L2.upd H a o):=by
 have X:=Ext.qE h e k;refine⟨by rw[Cb];exact h.f,h.v,λj ws q=>?_,λb hb=>?_⟩
 . skip
   by_cases hij:i=j
   . subst hij
     have hi:i<s.length:=by rw[<-h.f];exact(Aj.mp e).1
     rw[AM hi]at q;cases q;exact⟨a,e,r⟩
   . rw[Bw hij]at q
     obtain⟨b,e1,t⟩:=h.m j ws q;refine⟨b,e1,t.mv X.mv ?_⟩;have hb:b≠a:=by intro z;subst z;exact hij (ax h.v e e1)
     rw[L2.zL hb]
 . obtain⟨⟨ys,q⟩,n⟩:=h.d b hb
   exact⟨⟨ys,by rw[L2.zL (λz=>n (by rw[z];exact AA e))];exact q⟩,n⟩
theorem HR.write(h:HR K mg ρ s H)(e:ρ.o[i]?=some a)(k:H a=some (.b ys))(r:RDs K mg ρ H vs xs):HR K mg ρ (upd s i vs) (L2.upd H a (.b xs)):=
 h.qE e (by rw[k];rfl) ⟨xs,L2.zN,r.mono (Ext.write h e k xs)⟩
theorem ER.mono(x:Ext ρ H ρ' H')(h:ER K mg ρ H env σ):ER K mg ρ' H' env σ:=⟨h.b,λi v e=>by obtain⟨u,h1,h2⟩:=h.a i v e;exact⟨u,h1,h2.mono x⟩⟩
theorem ER.set(h:ER K mg ρ H env σ)i(r:RD K mg ρ H v x):ER K mg ρ H (env.set i (some v)) (σ.set i (some x)):=by
 refine⟨by rw[Cb,Cb,h.b],λj w e=>?_⟩
 by_cases hij:i=j
 . subst hij
   by_cases hi:i<env.length
   . rw[AM hi]at e
     cases e;exact⟨x,by rw[AM (by rw[<-h.b];exact hi)],r⟩
   . rw[B7 (by rw[Cb];omega)]at e
     cases e
 . rw[Bw hij]at e
   rw[Bw hij];exact h.a j w e
end
section
variable (K:KF)(mg:Str->Option Value)
def yq{α β:Type}(R:Own->L2.Hp->α->β->Prop)(ρ:Own)(H:L2.Hp)(o:Out α)(Q:β->L2.Hp->Prop):Prop:=
 match o with
 |.e v s'=>∀ρ' x H',Ext ρ H ρ' H'->HR K mg ρ' s' H'->R ρ' H' v x->Q x H'
 |_=>False
def tV(env:Env)(s:Sto)(o:Out Val):L2.TE:=λσ H Q=>∃ρ,HR K mg ρ s H/\ER K mg ρ H env σ/\yq K mg (RD K mg) ρ H o Q
def tVs(env:Env)(s:Sto)(o:Out (List Val)):L2.TA:=λσ H Q=>∃ρ,HR K mg ρ s H/\ER K mg ρ H env σ/\yq K mg (RDs K mg) ρ H o Q
def tT(env:Env)(s:Sto)(o:Out Bool):L2.TT:=λσ H Q=>∃ρ,HR K mg ρ s H/\ER K mg ρ H env σ/\yq K mg (λ_ _ a b=>a=b) ρ H o Q
def tO(env:Env)(s:Sto)(o:Out (Option Int)):L2.TO:=λσ H Q=>∃ρ,HR K mg ρ s H/\ER K mg ρ H env σ/\yq K mg (λ_ _ a b=>a=b) ρ H o Q
end
section
variable {X:L2.Cx}{e:Expr}
theorem zb(h:L2.PE X e t)(i:∀σ H Q,t' σ H Q->t σ H Q):L2.PE X e t':=λpins s σ H Q I q=>h pins s σ H Q I (i σ H Q q)
theorem rm(h:L2.PT X e t)(i:∀σ H Q,t' σ H Q->t σ H Q):L2.PT X e t':=λpins s σ H Q I q=>h pins s σ H Q I (i σ H Q q)
theorem ZT{t t':L2.TA}(h:L2.PA X es t)(i:∀σ H Q,t' σ H Q->t σ H Q):L2.PA X es t':=λpos pins s σ H Q I q=>h pos pins s σ H Q I (i σ H Q q)
theorem yz{t t':L2.TS}(h:L2.PS X st t)(i:∀D σ H,t' D σ H->t D σ H):L2.PS X st t':=λpins s σ H D I q=>h pins s σ H D I (i D σ H q)
theorem sg{t t':L2.TS}(h:L2.PSs X st t)(i:∀D σ H,t' D σ H->t D σ H):L2.PSs X st t':=λpins s σ H D I q=>h pins s σ H D I (i D σ H q)
theorem yc(h:∀σ H Q,¬t σ H Q):L2.PE X e t:=λpins s σ H Q I q=>(h σ H Q q).elim
theorem fC(h:∀σ H Q,¬t σ H Q):L2.PT X e t:=λpins s σ H Q I q=>(h σ H Q q).elim
theorem Qg(h:∀σ H Q,¬t σ H Q):L2.PW X e t:=λwh pins s σ H Q I q=>(h σ H Q q).elim
theorem QV{t:L2.TA}(h:∀σ H Q,¬t σ H Q):L2.PA X es t:=λpos pins s σ H Q I q=>(h σ H Q q).elim
end
section
variable {K:KF}{mg:Str->Option Value}{env:Env}{s:Sto}
theorem PK(h:∀v s',o≠.e v s'):¬tV K mg env s o σ H Q:=by
 rintro ⟨ρ,_,_,w⟩;cases o with
 |e v s'=>exact h v s' rfl
 |_=>exact w
theorem SU(h:∀v s',o≠.e v s'):¬tVs K mg env s o σ H Q:=by
 rintro ⟨ρ,_,_,w⟩;cases o with
 |e v s'=>exact h v s' rfl
 |_=>exact w
theorem Vk(h:∀v s',o≠.e v s'):¬tT K mg env s o σ H Q:=by
 rintro ⟨ρ,_,_,w⟩;cases o with
 |e v s'=>exact h v s' rfl
 |_=>exact w
end
end M
end
section
namespace M
open PySem
theorem xG:zR=Av:=by rw[AV];rfl
section
variable {K:KF}{mg:Str->Option Value}{ρ ρ':Own}{H H':L2.Hp}{s s':Sto}
theorem w9(hr:HR K mg ρ s H)(r:RD K mg ρ H v x)(e:yb s v=some vs):∃a xs,x=.c a/\H a=some (.b xs)/\RDs K mg ρ H vs xs:=by
 cases r with
 |E n h q=>cases e;exact⟨_,_,rfl,h,q⟩
 |@C a i h _=>
  simp only[yb]at e;split at e
  . rename_i ws hw
    cases e;obtain⟨b,xs,e1,e2,q⟩:=hr.obj i _ hw;rw[h]at e1;cases e1;exact⟨_,_,rfl,e2,q⟩
  . cases e
 |_=>cases e
theorem pZ(hr:HR K mg ρ s H)(r:RD K mg ρ H v x)(e:wc s v=some vs):∃a xs,x=.c a/\(L2.SqL K H a xs\/L2.SqT K H a xs)/\RDs K mg ρ H vs xs:=by
 cases r with
 |E n h q=>cases e;exact⟨_,_,rfl,.inl (.of h),q⟩
 |m n h q=>cases e;exact⟨_,_,rfl,.inr (.of h),q⟩
 |p h=>cases e;exact⟨_,_,rfl,.inr h.sqt,RDs.ints _⟩
 |F h=>cases e;exact⟨_,_,rfl,.inl h.sql,RDs.ints _⟩
 |@C a i h _=>
  simp only[wc]at e;split at e
  . rename_i ws hw
    cases e;obtain⟨b,xs,e1,e2,q⟩:=hr.obj i _ hw;rw[h]at e1;cases e1;exact⟨_,_,rfl,.inl (.of e2),q⟩
  . cases e
 |_=>cases e
mutual
theorem RD.reads{P:Program}{w:World}{h:Heap}(ok:L2.HOk P w H h){v:Val}{x:L2.V}{u:Value}(q:RD K mg ρ H v x)(hv:v.isR=true)(r:L2.RelV x u):∃as,Reads h u v.d as/\(L2.xn v.d=false->BW ∉ as):=by
 cases q with
 |s=>cases (show u=Ck from r);exact⟨[],.none,λ_=>by simp⟩
 |j b=>cases (show u=Cm b from r);exact⟨[],.bool b,λ_=>by simp⟩
 |l i=>obtain⟨t,q⟩:=(show ∃t,u=F1 i t from r);cases q;exact⟨[],.int i t,λ_=>by simp⟩
 |D x=>obtain⟨t,q⟩:=(show ∃t,u=F2 x t from r);cases q;exact⟨[],.str x t,λ_=>by simp⟩
 |@E a vs xs n ha rs=>
  cases (show u=A5 a from r);obtain⟨z,its,n,rv,e⟩:=(show L2.yQ P w H h a (.b xs) from ok a _ ha);obtain⟨as,q,_⟩:=RDs.reads ok rs (by simpa only[Val.isR] using hv) rv
  exact⟨a::as,.list e rfl rfl (by simpa using q),λz=>by simp[Val.d,L2.xn]at z⟩
 |@m a vs xs n ha rs=>
  cases (show u=A5 a from r);obtain⟨z,its,rv,o,e,c,n,dd⟩:=(show L2.yQ P w H h a (.c xs) from ok a _ ha);obtain⟨as,q,q2⟩:=RDs.reads ok rs (by simpa only[Val.isR] using hv) rv
  exact⟨as,.tuple e c dd.1 (by simpa using q),λz=>q2 (by simpa [Val.d,L2.xn] using z)⟩
 |@B a n ha=>
  cases (show u=A5 a from r);obtain⟨z,y,vs,rv,o,es,ep,e,c,dd,k⟩:=(show L2.yQ P w H h a (.i []) from ok a _ ha);cases rv;have hes:es=#[]:=by
   have h2:=k.2.1;cases hl:es.toList with
   |nil=>simpa using hl
   |cons a r=>rw[hl]at h2;cases h2
  subst hes;refine⟨[a]++[],Reads.dict (as:=[]) (bs:=[]) e c.1 dd .nil .nil,λ_=>?_⟩;have:a≠BW:=by simpa using y
  simpa using Bu this
 |p _=>cases hv
 |F _=>cases hv
 |C _ _=>cases hv
 |A _ _=>cases hv
 |G _=>cases hv
 |I _=>cases hv
theorem RDs.reads{P:Program}{w:World}{h:Heap}(ok:L2.HOk P w H h){vs:List Val}{xs:List L2.V}{us:List Value}(p:RDs K mg ρ H vs xs)(hv:qP vs=true)(q:L2.Vals xs us):∃as,ReadsAll h us (ds vs) as/\(L2.wD (ds vs)=false->BW ∉ as):=by
 cases p with
 |d=>cases q;exact⟨[],.nil,λ_=>by simp⟩
 |a r rs=>
  cases q with
  |cons q1 q2=>
   rw[qP,cf]at hv;obtain⟨as,h1,h2⟩:=RD.reads ok r hv.1 q1;obtain⟨bs,h3,h4⟩:=RDs.reads ok rs hv.2 q2;refine⟨as++bs,.cons h1 h3,λz=>?_⟩;rw[ds,L2.wD,EH]at z;intro hm;rcases AX.mp hm with hm|hm
   . exact h2 z.1 hm
   . exact h4 z.2 hm
end
theorem sM(ok:L2.HOk P w H h)(hr:HR K mg ρ s H)(hv:(yR s v).isR=true)(r:RD K mg ρ H v x)(ru:L2.RelV x u) :
 ∃as,Reads h u (yR s v).d as/\(L2.xn (yR s v).d=false->BW ∉ as):=by
 cases v with
 |k i=>
  cases r with
  |@C a _ e0=>
  simp only[yR]at hv ⊢;split at hv
  . rename_i ws hw
    obtain⟨b,xs,e1,e2,q⟩:=hr.obj i _ hw;rw[e0]at e1;cases e1;cases (show u=A5 a from ru);obtain⟨z,its,n,rv,e⟩:=(show L2.yQ P w H h a (.b xs) from ok a _ e2);obtain⟨as,q,_⟩:=RDs.reads ok q (by simpa only[Val.isR] using hv) rv
    exact⟨a::as,.list e rfl rfl (by simpa using q),λz=>by simp[Val.d,L2.xn]at z⟩
  . cases hv
 |_=>exact RD.reads ok r hv ru
theorem RDs.Zp(ok:L2.HOk P w H h)(hr:HR K mg ρ s H):∀{vs} {xs} {us},RDs K mg ρ H vs xs->qP (vs.map (yR s))=true->L2.Vals xs us->∃as,ReadsAll h us (ds (vs.map (yR s))) as/\(L2.wD (ds (vs.map (yR s)))=false->BW ∉ as)
 |_,_,_,.d,_,r=>by cases r;exact⟨[],.nil,λ_=>by simp⟩
 |_,_,_,.a r rs,hv,q=>by
  cases q with
  |cons q1 q2=>
   rw[AJ,qP,cf]at hv;obtain⟨as,h1,h2⟩:=sM ok hr hv.1 r q1;obtain⟨bs,h3,h4⟩:=RDs.Zp ok hr rs hv.2 q2;rw[AJ];refine⟨as++bs,.cons h1 h3,λz=>?_⟩;rw[ds,L2.wD,EH]at z;intro hm;rcases AX.mp hm with hm|hm
   . exact h2 z.1 hm
   . exact h4 z.2 hm
theorem bP{v:Val}(h:∀vs,v≠.f vs):zt s v=yR s v:=by
 cases v<;>first|rfl|exact absurd rfl (h _)
theorem xa(ok:L2.HOk P w H h)(hr:HR K mg ρ s H)(hv:(zt s v).isR=true)(r:RD K mg ρ H v x)(ru:L2.RelV x u) :
 ∃as,Reads h u (zt s v).d as/\(L2.xn (zt s v).d=false->BW ∉ as):=by
 cases v with
 |f vs=>
  cases r with
  |@m a _ xs n ha rs=>
   cases (show u=A5 a from ru);obtain⟨z,its,rv,o,e,c,n,dd⟩:=(show L2.yQ P w H h a (.c xs) from ok a _ ha);obtain⟨as,q,q2⟩:=RDs.Zp ok hr rs (by simpa only[zt,Val.isR] using hv) rv
   exact⟨as,.tuple e c dd.1 (by simpa using q),λz=>q2 (by simpa [zt,Val.d,L2.xn] using z)⟩
 |_=>exact(show _ from by rw[bP (λ_ h=>by cases h)]at hv ⊢;exact sM ok hr hv r ru)
mutual
theorem yi:∀{v:Val},v.isD=true->v.isR=true
 |.h,_=>rfl
 |.e _,_=>rfl
 |.c _,_=>rfl
 |.g _,_=>rfl
 |.f vs,h=>by rw[Val.isR];exact vq (by simpa only[Val.isD] using h)
 |.j vs,h=>by rw[Val.isR];exact vq (by simpa only[Val.isD] using h)
 |.l,h=>by cases h
 |.m _,h=>by cases h
 |.p _,h=>by cases h
 |.k _,h=>by cases h
 |.q _,h=>by cases h
 |.r _,h=>by cases h
theorem vq:∀{vs:List Val},wF vs=true->qP vs=true
 |[],_=>rfl
 |v::vs,h=>by rw[wF,cf]at h;rw[qP,yi h.1,vq h.2];rfl
end
mutual
theorem yB:∀{v:Val},v.isD=true->v.d.canLay0=true
 |.h,_=>rfl
 |.e _,_=>rfl
 |.c _,_=>rfl
 |.g _,h=>by simpa only[Val.isD,Val.d,Gp] using h
 |.f vs,h=>by rw[Val.d,Gp];exact wX (by simpa only[Val.isD] using h)
 |.j vs,h=>by rw[Val.d,Gp];exact wX (by simpa only[Val.isD] using h)
 |.l,h=>by cases h
 |.m _,h=>by cases h
 |.p _,h=>by cases h
 |.k _,h=>by cases h
 |.q _,h=>by cases h
 |.r _,h=>by cases h
theorem wX:∀{vs:List Val},wF vs=true->PyData.canLayAll0 (ds vs)=true
 |[],_=>rfl
 |v::vs,h=>by rw[wF,cf]at h;rw[ds,PyData.canLayAll0,yB h.1,wX h.2];rfl
end
theorem vz(hr:HR K mg ρ s H)(r:RDs K mg ρ H vs xs)(w:yq K mg (RD K mg) ρ H (newList m vs s) Q):∀p,H p=none->Q (.c p) (L2.upd H p (.b xs)):=λp hp=>by
 cases m with
 |true=>exact w _ _ _ (Ext.own hr hp _) (hr.own hp r) (.C (qe hr p) (by rw[L2.zN];rfl))
 |false=>exact w _ _ _ (Ext.new hr hp _) (hr.more hp _) (.E (hr.new hp) L2.zN (r.mono (Ext.new hr hp _)))
theorem gy(hr:HR K mg ρ s H)(r:RDs K mg ρ H vs xs)(w:yq K mg (RD K mg) ρ H (.e (.f vs) s) Q):∀p,H p=none->Q (.c p) (L2.upd H p (.c xs)):=λp hp=>
 w _ _ _ (Ext.new hr hp _) (hr.more hp _) (.m (hr.new hp) L2.zN (r.mono (Ext.new hr hp _)))
theorem Ext.same(hr:HR K mg ρ s H)(e:L2.wq H H'):Ext ρ H ρ H':=⟨⟨[],by simp,λa ha=>by cases ha⟩,rfl,λa o h _=>e a o h,λa ha=>by obtain⟨o,q⟩:=hr.trk ha;rw[q,e a o q]⟩
theorem HR.same(hr:HR K mg ρ s H)(e:L2.wq H H'):HR K mg ρ s H':=⟨hr.f,hr.v,λi c q=>by
 obtain⟨a,e1,r⟩:=hr.m i c q;obtain⟨o,e2⟩:=r.there;exact⟨a,e1,r.mv (Ext.same hr e).mv ((e a _ e2).trans e2.symm)⟩,λa ha=>by
 obtain⟨⟨ys,q⟩,n⟩:=hr.d a ha;exact⟨⟨ys,e a _ q⟩,n⟩⟩
theorem sT(hr:HR K mg ρ s H)(r:RDs K mg ρ H vs xs)(w:yq K mg (RD K mg) ρ H (.e (.f vs) s) Q):L2.qH H xs Q:=λp H' e h=>by
 have hr':=hr.same e;refine w _ _ _ (Ext.same hr e) hr' (.m ⟨λhm=>?_,λhm=>?_⟩ h (r.mono (Ext.same hr e)))
 . obtain⟨i,hi,q⟩:=BM hm
   have hs:i<s.length:=by rw[<-hr'.f];exact hi
   obtain⟨b,e1,e2⟩:=hr'.m i _ (xd hs);rw[xd hi,q]at e1;cases e1;have:=e2.hk;rw[h]at this;exact absurd this (Bj 0)
 . obtain⟨⟨ys,q⟩,_⟩:=hr'.d _ hm
   rw[h]at q;cases q
end
section
variable (K:KF)(mg:Str->Option Value)
def rM2(g:Val->Val->Sto->Out Val):L2.R2:=λx y H Q=>∃ρ s v w,HR K mg ρ s H/\RD K mg ρ H v x/\RD K mg ρ H w y/\yq K mg (RD K mg) ρ H (g v w s) Q
def rMc(g:List Val->Sto->Out Val):List L2.V->L2.Hp->L2.VK->Prop:=λxs H Q=>∃ρ s vs,HR K mg ρ s H/\RDs K mg ρ H vs xs/\yq K mg (RD K mg) ρ H (g vs s) Q
end
section
variable {X:L2.Cx}{k:Nat}
theorem zM(hr:HR K mg ρ s H)(r:RD K mg ρ H v x)(w:yq K mg (RD K mg) ρ H (.e v s) Q):Q x H:=w _ _ _ Ext.refl hr r
theorem iA m:L2.OpR X (By .Add) (rM2 X.K X.d (binOp m .a)):=by
 intro pins s σ H x y v u Q I rx ry h;obtain⟨ρ,t,a,b,hr,ra,rb,w⟩:=h;simp only[binOp]at w;split at w
 . cases ra;cases rb
   exact L2.U9 pins s σ H _ _ v u Q I rx ry ⟨_,_,rfl,rfl,zM hr (.l _) w⟩
 . split at w
   . rename_i hz
     cases ra;cases rb;exact L2.pS pins s σ H _ _ v u Q I rx ry ⟨_,_,rfl,rfl,by rw[<-xG];exact hz,zM hr (.D _) w⟩
   . exact w.elim
 . split at w
   . rename_i hz
     cases ra with
     |m n1 h1 q1=>
      cases rb with
      |m n2 h2 q2=>
       refine L2.ZF pins s σ H _ _ v u Q I rx ry ⟨_,_,_,_,rfl,rfl,h1,h2,?_,sT hr (q1.append q2) w⟩;rw[<-q1.length,<-q2.length,<-xG];exact hz
   . exact w.elim
 . split at w
   . rename_i ea eb
     split at w
     . rename_i hz
       obtain⟨p1,xs,rfl,h1,q1⟩:=w9 hr ra ea;obtain⟨p2,ys,rfl,h2,q2⟩:=w9 hr rb eb;refine L2.iF pins s σ H _ _ v u Q I rx ry ⟨_,_,_,_,rfl,rfl,h1,h2,?_,vz hr (q1.append q2) w⟩;rw[<-q1.length,<-q2.length,<-xG];exact hz
     . exact w.elim
   . exact w.elim
theorem iE m:L2.OpR X (By .Sub) (rM2 X.K X.d (binOp m .d)):=by
 intro pins s σ H x y v u Q I rx ry h;obtain⟨ρ,t,a,b,hr,ra,rb,w⟩:=h;simp only[binOp]at w;split at w
 . cases ra;cases rb
   exact L2.TK pins s σ H _ _ v u Q I rx ry ⟨_,_,rfl,rfl,zM hr (.l _) w⟩
 . exact w.elim
theorem iC m:L2.OpR X (By .Mult) (rM2 X.K X.d (binOp m .b)):=by
 intro pins s σ H x y v u Q I rx ry h;obtain⟨ρ,t,a,b,hr,ra,rb,w⟩:=h;simp only[binOp]at w;split at w
 . split at w
   . rename_i hz
     cases ra;cases rb;exact L2.TF pins s σ H _ _ v u Q I rx ry ⟨_,_,rfl,rfl,hz,zM hr (.l _) w⟩
   . exact w.elim
 . split at w
   . rename_i hz
     obtain⟨z1,z2,z3,z4⟩:=hz;cases ra with
     |m n1 h1 q1=>
      cases rb;refine L2.X4 pins s σ H _ _ v u Q I rx ry ⟨_,_,_,rfl,rfl,h1,z1,z2,?_,?_,sT hr (q1.rep _) w⟩
      . intro e;subst e;cases q1;exact z3 rfl
      . rw[<-q1.length];exact z4
   . exact w.elim
 . split at w
   . rename_i ea
     split at w
     . rename_i hz
       obtain⟨z1,z2,z3⟩:=hz;obtain⟨p1,xs,rfl,h1,q1⟩:=w9 hr ra ea;cases rb;refine L2.TJ pins s σ H _ _ v u Q I rx ry ⟨_,_,_,rfl,rfl,h1,by omega,by omega,?_,vz hr (q1.rep _) w⟩
       rw[<-q1.length,<-xG];exact z3
     . exact w.elim
   . exact w.elim
 . exact w.elim
theorem kO m:L2.OpR X (By .FloorDiv) (rM2 X.K X.d (binOp m .e)):=by
 intro pins s σ H x y v u Q I rx ry h;obtain⟨ρ,t,a,b,hr,ra,rb,w⟩:=h;simp only[binOp]at w;split at w
 . split at w
   . rename_i hz
     cases ra;cases rb;exact L2.Xz pins s σ H _ _ v u Q I rx ry ⟨_,_,rfl,rfl,hz,zM hr (.l _) w⟩
   . exact w.elim
 . exact w.elim
theorem iB m:L2.OpR X (By .Mod) (rM2 X.K X.d (binOp m .c)):=by
 intro pins s σ H x y v u Q I rx ry h;obtain⟨ρ,t,a,b,hr,ra,rb,w⟩:=h;simp only[binOp]at w;split at w
 . split at w
   . rename_i hz
     cases ra;cases rb;exact L2.TC pins s σ H _ _ v u Q I rx ry ⟨_,_,rfl,rfl,hz,zM hr (.l _) w⟩
   . exact w.elim
 . exact w.elim
theorem iD m:L2.OpR X (By .Pow) (rM2 X.K X.d (binOp m .f)):=by
 intro pins s σ H x y v u Q I rx ry h;obtain⟨ρ,t,a,b,hr,ra,rb,w⟩:=h;simp only[binOp]at w;split at w
 . split at w
   . rename_i hz
     cases ra;cases rb;exact L2.TH pins s σ H _ _ v u Q I rx ry ⟨_,_,rfl,rfl,hz,zM hr (.l _) w⟩
   . exact w.elim
 . exact w.elim
end
end M
end
section
namespace L2
open PySem PyProof PyProof.Rows
section
variable {κ:Type} [DecidableEq κ]
theorem KV.length{kvs:List (κ × V)}{vs:List (κ × Value)}(r:KV kvs vs):kvs.length=vs.length:=GA r
end
section
variable {X:Cx}{pins:List (Addr × Obj)}{σ:St}{H:Hp}{s:Shared}{a:Addr}{y v:V}{u r:Value}{o:Option V}{A:Around}{E:Value->Shared->Prop}
theorem Inv.big(I:Inv X pins σ H s):BW<s.heap.objs.size:=by have h:AL<s.heap.objs.size:=(I.mod.c.keeps I.bk).lt;exact Nat.lt_trans (by decide) h
end
theorem bR(h:Heap)(hb:BW<h.objs.size):yQ P w H (h.push {cls:=.type "dict",data:=.dict #[]}) h.objs.size (.i []):=
 ⟨A9 _,beq_eq_false_iff_ne.mpr (Bu (AE hb)),[],.nil,Heap.DictOf.new h⟩
theorem bS(h:Heap)(hb:BW<h.objs.size):yQ P w H (h.push {cls:=.type "dict",data:=.dict #[]}) h.objs.size (.j []):=
 ⟨A9 _,beq_eq_false_iff_ne.mpr (Bu (AE hb)),[],.nil,_,#[],0,AB _ rfl,⟨rfl,rfl,rfl⟩,rfl,rfl,List.nodup_nil⟩
def SM:TE:=λ_ H Q=>∀p,H p=none->Q (.c p) (upd H p (.i []))
def SN:TE:=λ_ H Q=>∀p,H p=none->Q (.c p) (upd H p (.j []))
section
variable {X:Cx}{pos:Pos}
theorem ZY:PE X (.Dict [] [] pos) SM:=λpins s σ H Q I h=>
 FP ⟨.c s.heap.objs.size,_,I.laid (a:=s.heap.objs.size) (o:=.i []) (t':=s.toks) (λ_ _ q=>nx _ q) (Ac _) (bR s.heap I.big),rfl,h _ (I.j.fresh (Ac _))⟩
theorem ZZ:PE X (.Dict [] [] pos) SN:=λpins s σ H Q I h=>
 FP ⟨.c s.heap.objs.size,_,I.laid (a:=s.heap.objs.size) (o:=.j []) (t':=s.toks) (λ_ _ q=>nx _ q) (Ac _) (bS s.heap I.big),rfl,h _ (I.j.fresh (Ac _))⟩
end
end L2
end
section
namespace M
open PySem
section
variable {K:KF}{mg:Str->Option Value}{ρ:Own}{H:L2.Hp}{s:Sto}
def RO(K:KF)(mg:Str->Option Value)(ρ:Own)(H:L2.Hp):Option Val->Option L2.V->Prop
 |none,none=>True
 |some v,some x=>RD K mg ρ H v x
 |_,_=>False
theorem RO.isSome(h:RO K mg ρ H o o'):o'.isSome=o.isSome:=by
 cases o with
 |none=>cases o' with|none=>rfl|some _=>exact h.elim
 |some v=>cases o' with|none=>exact h.elim|some _=>rfl
end
end M
end
section
namespace M
open PySem
section
variable {K:KF}{mg:Str->Option Value}{ρ ρ':Own}{H H':L2.Hp}{s s':Sto}
theorem RD.flat{v:Val}{x:L2.V}(r:RD K mg ρ H v x)(h:flat v=true):L2.xy x=true:=by
 cases r<;>first|rfl|cases h
theorem RD.eqF(r:RD K mg ρ H v x)(q:RD K mg ρ H w y)(h:M.flat v=true)(h':M.flat w=true):L2.eqV x y=M.eqF v w:=by
 cases r<;>first|(cases h;done)|(cases q<;>first|rfl|(cases h';done))
theorem RDs.flat:∀{vs:List Val} {xs:List L2.V},RDs K mg ρ H vs xs->vs.all flat=true->xs.all L2.xy=true
 |_,_,.d,_=>rfl
 |_,_,.a r rs,h=>by rw[BB,cf]at h;rw[BB,r.flat h.1,rs.flat h.2];rfl
theorem RDs.any(q:RD K mg ρ H w y)(hw:M.flat w=true):∀{vs} {xs},RDs K mg ρ H vs xs->vs.all M.flat=true->(xs.any λz=>L2.eqV z y)=vs.any λz=>M.eqF z w
 |_,_,.d,_=>rfl
 |_,_,.a r rs,h=>by rw[BB,cf]at h;rw[BZ,BZ,r.eqF q h.1 hw,RDs.any q hw rs h.2]
theorem RDs.countP(q:RD K mg ρ H w y)(hw:M.flat w=true):∀{vs} {xs},RDs K mg ρ H vs xs->vs.all M.flat=true->(xs.countP λz=>L2.eqV z y)=vs.countP λz=>M.eqF z w
 |_,_,.d,_=>rfl
 |_,_,.a r rs,h=>by rw[BB,cf]at h;rw[CO,CO,r.eqF q h.1 hw,RDs.countP q hw rs h.2]
theorem RDs.bools:∀{vs} {xs} {bs},RDs K mg ρ H vs xs->boolsOf vs=some bs->xs=bs.map L2.V.f
 |_,_,_,.d,h=>by cases h;rfl
 |_,_,_,.a r rs,h=>by
  cases r with
  |j b=>
   simp only[boolsOf,A4]at h;obtain⟨bs',h1,h2⟩:=h;subst h2;rw[rs.bools h1];rfl
  |_=>cases h
theorem RDs.lz:∀{vs} {xs} {ns},RDs K mg ρ H vs xs->intsOf vs=some ns->xs=ns.map L2.V.d
 |_,_,_,.d,h=>by cases h;rfl
 |_,_,_,.a r rs,h=>by
  cases r with
  |l b=>
   simp only[intsOf,A4]at h;obtain⟨bs',h1,h2⟩:=h;subst h2;rw[rs.lz h1];rfl
  |_=>cases h
theorem Yc(r:RDs K mg ρ H vs xs)(h:L2.atI vs i=some v):∃x,L2.atI xs i=some x/\RD K mg ρ H v x:=by unfold L2.atI at h ⊢;rw[<-r.length];obtain⟨j,h1,h2⟩:=DT.mp h;obtain⟨x,h3,h4⟩:=r.get h2;exact⟨x,by rw[h1];exact h3,h4⟩
theorem YI(hr:HR K mg ρ s H)(r:RD K mg ρ H v x)(h:truth s v=some b):L2.Yb K x H b:=by
 have hz:∀{vs:List Val} {xs:List L2.V},RDs K mg ρ H vs xs->vs.isEmpty=xs.isEmpty:=λr=>by cases r<;>rfl
 cases r with
 |s=>cases h;rfl
 |j b=>cases h;rfl
 |l i=>cases h;rfl
 |D x=>
  simp only[truth]at h;split at h
  . cases h
    rename_i q;exact⟨by rw[<-xG];exact q,rfl⟩
  . cases h
 |m n e q=>cases h;exact .inr (.inl ⟨_,.of e,by rw[hz q]⟩)
 |E n e q=>cases h;exact .inl ⟨_,.of e,by rw[hz q]⟩
 |B n e=>cases h;exact .inr (.inr ⟨_,e,rfl⟩)
 |p _=>cases h
 |F _=>cases h
 |@C a i e _=>
  simp only[truth]at h;split at h
  . rename_i ws hw
    cases h;obtain⟨c,xs,e1,e2,q⟩:=hr.obj i _ hw;rw[e]at e1;cases e1;exact .inl ⟨_,.of e2,by rw[hz q]⟩
  . cases h
 |G _=>cases h
 |I _=>cases h
 |A _ _=>cases h
theorem PQ(hr:HR K mg ρ s H)(r:RD K mg ρ H v x)(h:kindOf v=some a):(L2.sG K H x (.type a.nm)):=by
 cases r with
 |s=>cases h;exact .d
 |j b=>cases h;exact .bl b
 |l i=>cases h;exact .c i
 |D x=>cases h;exact .f x
 |m n e q=>cases h;exact .g e
 |E n e q=>cases h;exact .b e
 |B n e=>cases h;exact .dK e
 |C e k=>
  cases h;obtain⟨xs,q⟩:=jm k;exact .b q
 |_=>cases h
theorem Ry(h:rd n=some c):n=c.nm/\c≠.e:=by unfold rd at h;split at h<;>first|(cases h;exact⟨rfl,by decide⟩)|cases h
end
section
variable {X:L2.Cx}{k:Nat}
theorem R4(h:tj d=true):L2.VA d:=by
 unfold tj at h;simp only[cf,decide_eq_true_eq,Ay,AQ]at h;obtain⟨⟨⟨⟨h1,h2⟩,h3⟩,h4⟩,h5⟩:=h;have L:L2.uM d.depth d.weight d:=⟨h1,h2,Ac _,Ac _⟩;refine L.Q0 h3 h4 λz=>?_;rcases h5 with h5|h5
 . rw[h5]at z;cases z
 . exact h5
theorem eY(hr0:L2.xQ k X.A):L2.OpR X (Ba .Eq) (rM2 X.K X.d (zW .d)):=by
 intro pins s σ H x y v u Q I rx ry h;obtain⟨ρ,t,a,b,hr,ra,rb,w⟩:=h;simp only[zW,rT]at w;split at w
 . rename_i p q
   cases ra;cases rb;have e:decide (L2.V.e p=L2.V.e q)=decide (p=q):=by rw[BE];simp
   refine L2.VU pins s σ H _ _ v u Q I rx ry ⟨rfl,?_⟩;rw[e];exact zM hr (.j _) w
 . rename_i a ns
   cases rb with
   |p g=>
    by_cases hc:((zt t (.f a)).isD&&(Val.f (ns.map .c)).isD&&decide ((Val.f (ns.map .c)).d.depth<=60))=true
    . rw[if_pos hc]at w
      simp only[cf,decide_eq_true_eq]at hc;obtain⟨as,r1,_⟩:=xa I.j hr (yi hc.1.1) ra rx;obtain⟨its,rv,p1,_⟩:=I.tuple g.sqt;obtain⟨o,ho,hcl,n,hd⟩:=id p1;obtain⟨bs,q,_⟩:=RDs.reads I.j (RDs.ints (K:=X.K) (mg:=X.d) (ρ:=ρ) (H:=H) ns) (yi hc.1.2) rv;have r2:Reads s.heap u (Val.f (ns.map .c)).d bs:=by cases ry;exact .tuple ho hcl hd (by simpa using q)
      have hu:=hr0.a;have hm:=Dh (zt t (.f a)).d.depth (Val.f (ns.map .c)).d.depth;exact SeqAt.compareEq_reads r1 r2 (yB hc.1.1) (yB hc.1.2) (by omega) ⟨.f _,H,I,rfl,zM hr (.j _) w⟩
    . rw[if_neg hc]at w;exact w.elim
 . by_cases hc:((zt t a).isD&&(zt t b).isD&&decide ((zt t b).d.depth<=60))=true
   . rw[if_pos hc]at w
     simp only[cf,decide_eq_true_eq]at hc;obtain⟨as,r1,_⟩:=xa I.j hr (yi hc.1.1) ra rx;obtain⟨bs,r2,_⟩:=xa I.j hr (yi hc.1.2) rb ry;have hu:=hr0.a;have hm:=Dh (zt t a).d.depth (zt t b).d.depth;exact SeqAt.compareEq_reads r1 r2 (yB hc.1.1) (yB hc.1.2) (by omega) ⟨.f _,H,I,rfl,zM hr (.j _) w⟩
   . rw[if_neg hc]at w;exact w.elim
theorem ek(hr0:L2.xQ k X.A):L2.OpR X (Ba .NotEq) (rM2 X.K X.d (zW .b)):=by
 intro pins s σ H x y v u Q I rx ry h;obtain⟨ρ,t,a,b,hr,ra,rb,w⟩:=h;simp only[zW,rT]at w;split at w
 . rename_i p q
   cases ra;cases rb;have e:decide (L2.V.e p=L2.V.e q)=decide (p=q):=by rw[BE];simp
   refine L2.VV pins s σ H _ _ v u Q I rx ry ⟨rfl,?_⟩;rw[e];exact zM hr (.j _) w
 . by_cases hc:((zt t a).isD&&(zt t b).isD&&decide ((zt t b).d.depth<=60))=true
   . rw[if_pos hc]at w
     simp only[cf,decide_eq_true_eq]at hc;obtain⟨as,r1,_⟩:=xa I.j hr (yi hc.1.1) ra rx;obtain⟨bs,r2,_⟩:=xa I.j hr (yi hc.1.2) rb ry;have hu:=hr0.a;have hm:=Dh (zt t a).d.depth (zt t b).d.depth;exact SeqAt.compareNe_reads r1 r2 (yB hc.1.1) (yB hc.1.2) (by omega) ⟨.f _,H,I,rfl,zM hr (.j _) w⟩
   . rw[if_neg hc]at w;exact w.elim
theorem RD.isNone(r:RD K mg ρ H v x):decide (x=.g)=v.isN:=by
 cases r<;>first|rfl|exact decide_eq_false (λz=>nomatch z)
theorem mh:L2.OpR X (Ba .IsNot) (rM2 X.K X.d (zW .c)):=by
 intro pins s σ H x y v u Q I rx ry h;obtain⟨ρ,t,a,b,hr,ra,rb,w⟩:=h;cases rb with
 |s=>
  refine L2.X3 pins s σ H _ _ v u Q I rx ry ⟨rfl,?_⟩;rw[ra.isNone];exact zM hr (.j _) w
 |j c=>
  cases ra with
  |j d=>cases rx;cases ry;cases c<;>cases d<;>exact Ai ⟨.f _,H,I,rfl,zM hr (.j _) w⟩
  |_=>exact w.elim
 |_=>exact w.elim
theorem uU:∀{vs} {v},wF vs=true->v∈vs->v.isD=true
 |w::vs,v,h,m=>by
  rw[wF,cf]at h;rcases Af.mp m with rfl|m
  . exact h.1
  . exact uU h.2 m
theorem mP{g:Val->Bool}(q:RDs K mg ρ H vs xs)(r:L2.Vals xs its)
 (hE:∀z x w,z∈vs->RD K mg ρ H z x->L2.RelV x w->Bc A s w u (g z)):∃f:Value->Bool,(∀w∈its.toArray,Bc A s w u (f w))/\its.toArray.any f=vs.any g:=by
 classical
 have at_:∀i w,its[i]?=some w->∃z x,vs[i]?=some z/\RD K mg ρ H z x/\L2.RelV x w:=λi w e=>by
  have hi:i<xs.length:=by rw[r.length];exact(Aj.mp e).1
  have hx:xs[i]?=some xs[i]:=xd hi;obtain⟨w',e',rw'⟩:=r.get hx;rw[e]at e';cases e';obtain⟨z,e1,rz⟩:=q.RZ hx;exact⟨z,_,e1,rz,rw'⟩
 refine⟨λw=>decide (∃(i:Nat) (z:Val),its[i]?=some w/\vs[i]?=some z/\g z=true),λw hw=>?_,?_⟩
 . obtain⟨i,hi⟩:=Dm (by simpa using hw:w∈its)
   by_cases hd:∃(i:Nat) (z:Val),its[i]?=some w/\vs[i]?=some z/\g z=true
   . dsimp only;rw[decide_eq_true hd]
     obtain⟨j,z,e1,e2,e3⟩:=hd;obtain⟨z',x,e4,rz,rw'⟩:=at_ j w e1;rw[e2]at e4;cases e4;rw[<-e3];exact hE z x w (AA e2) rz rw'
   . dsimp only;rw[decide_eq_false hd]
     obtain⟨z,x,e4,rz,rw'⟩:=at_ i w hi;have hg:g z=false:=by
      cases hg:g z with
      |false=>rfl
      |true=>exact(hd ⟨i,z,hi,e4,hg⟩).elim
     rw[<-hg];exact hE z x w (AA e4) rz rw'
 . rw[BE,Array.any_toList.symm,Bl,Bl]
   constructor
   . rintro ⟨w,_,h⟩
     obtain⟨i,z,_,e2,e3⟩:=of_decide_eq_true h;exact⟨z,AA e2,e3⟩
   . rintro ⟨z,hz,e3⟩
     obtain⟨i,hi⟩:=Dm hz;obtain⟨x,e1,_⟩:=q.get hi;obtain⟨w,e2,_⟩:=r.get e1;exact⟨w,AA e2,decide_eq_true ⟨i,z,e2,hi,e3⟩⟩
theorem eqD(hu:A.units+60<cLine)(ok:L2.HOk P w H s.heap)(ra:RD K mg ρ H a x)(rx:L2.RelV x v)(ha:a.isD=true)(hd:a.d.depth<=60)
 (rz:RD K mg ρ H z y) (ry:L2.RelV y u) (hz:z.isD=true):Bc A s u v (B0 z.d a.d):=by
 obtain⟨as,r1,_⟩:=RD.reads ok ra (yi ha) rx;obtain⟨bs,r2,_⟩:=RD.reads ok rz (yi hz) ry;have hm:=Dh z.d.depth a.d.depth;exact SeqAt.eqAt_reads _ _ _ _ _ _ _ _ r2 r1 (yB hz) (yB ha) (by omega)
theorem ee(hr0:L2.xQ k X.A):L2.OpR X (Ba .In) (rM2 X.K X.d (zW .h)):=by
 intro pins s σ H x y v u Q I rx ry h;obtain⟨ρ,t,a,b,hr,ra,rb,w⟩:=h;simp only[zW]at w;split at w
 . rename_i vs e
   obtain⟨p,xs,rfl,hq,q⟩:=pZ hr rb e;split at w
   . rename_i hf
     rw[cf]at hf;refine L2.et pins s σ H _ _ v u Q I rx ry ⟨p,xs,rfl,hq,ra.flat hf.1,q.flat hf.2,?_⟩;simp only[L2.inV,A3,if_false];rw[RDs.any ra hf.1 q hf.2];exact zM hr (.j _) w
   . split at w
     . rename_i hf
       simp only[inD,cf,decide_eq_true_eq]at hf;have hu:=hr0.a;cases ry;rcases hq with hq|hq
       . obtain⟨its,r,pl,hz⟩:=I.list hq
         obtain⟨f,f1,f2⟩:=mP (A:=X.A.in1) (s:=s) (u:=v) (g:=λz=>B0 z.d a.d) q r λz x' w' hz rz ry'=>eqD (show X.A.units+1+60<cLine by omega) I.j ra rx hf.1.1 hf.2 rz ry' (uU hf.1.2 hz)
         exact SeqAt.in_listAt f pl.isList f1 ⟨.f _,H,I,rfl,by rw[f2];exact zM hr (.j _) w⟩
       . obtain⟨its,r,pl,hz⟩:=I.tuple hq
         obtain⟨f,f1,f2⟩:=mP (A:=X.A.in1) (s:=s) (u:=v) (g:=λz=>B0 z.d a.d) q r λz x' w' hz rz ry'=>eqD (show X.A.units+1+60<cLine by omega) I.j ra rx hf.1.1 hf.2 rz ry' (uU hf.1.2 hz)
         exact SeqAt.in_tupleAt f pl f1 ⟨.f _,H,I,rfl,by rw[f2];exact zM hr (.j _) w⟩
     . exact w.elim
 . exact w.elim
theorem mj(hr0:L2.xQ k X.A):L2.OpR X (Ba .NotIn) (rM2 X.K X.d (zW .a)):=by
 intro pins s σ H x y v u Q I rx ry h;obtain⟨ρ,t,a,b,hr,ra,rb,w⟩:=h;simp only[zW]at w;split at w
 . rename_i vs e
   obtain⟨p,xs,rfl,hq,q⟩:=pZ hr rb e;split at w
   . rename_i hf
     rw[cf]at hf;refine L2.ml pins s σ H _ _ v u Q I rx ry ⟨p,xs,rfl,hq,ra.flat hf.1,q.flat hf.2,?_⟩;simp only[L2.inV,if_true];rw[RDs.any ra hf.1 q hf.2];exact zM hr (.j _) w
   . split at w
     . rename_i hf
       simp only[inD,cf,decide_eq_true_eq]at hf;have hu:=hr0.a;cases ry;rcases hq with hq|hq
       . obtain⟨its,r,pl,hz⟩:=I.list hq
         obtain⟨f,f1,f2⟩:=mP (A:=X.A.in1) (s:=s) (u:=v) (g:=λz=>B0 z.d a.d) q r λz x' w' hz rz ry'=>eqD (show X.A.units+1+60<cLine by omega) I.j ra rx hf.1.1 hf.2 rz ry' (uU hf.1.2 hz)
         exact SeqAt.notIn_listAt f pl.isList f1 ⟨.f _,H,I,rfl,by rw[f2];exact zM hr (.j _) w⟩
       . obtain⟨its,r,pl,hz⟩:=I.tuple hq
         obtain⟨f,f1,f2⟩:=mP (A:=X.A.in1) (s:=s) (u:=v) (g:=λz=>B0 z.d a.d) q r λz x' w' hz rz ry'=>eqD (show X.A.units+1+60<cLine by omega) I.j ra rx hf.1.1 hf.2 rz ry' (uU hf.1.2 hz)
         exact SeqAt.notIn_tupleAt f pl f1 ⟨.f _,H,I,rfl,by rw[f2];exact zM hr (.j _) w⟩
     . exact w.elim
 . exact w.elim
theorem eh:L2.OpR X (Ba .Lt) (rM2 X.K X.d (zW .j)):=by
 intro pins s σ H x y v u Q I rx ry h;obtain⟨ρ,t,a,b,hr,ra,rb,w⟩:=h;simp only[zW]at w;split at w
 . cases ra;cases rb
   exact L2.QC pins s σ H _ _ v u Q I rx ry ⟨_,_,rfl,rfl,zM hr (.j _) w⟩
 . exact w.elim
theorem ef:L2.OpR X (Ba .LtE) (rM2 X.K X.d (zW .e)):=by
 intro pins s σ H x y v u Q I rx ry h;obtain⟨ρ,t,a,b,hr,ra,rb,w⟩:=h;simp only[zW]at w;split at w
 . cases ra;cases rb
   exact L2.QB pins s σ H _ _ v u Q I rx ry ⟨_,_,rfl,rfl,zM hr (.j _) w⟩
 . exact w.elim
theorem ed:L2.OpR X (Ba .Gt) (rM2 X.K X.d (zW .i)):=by
 intro pins s σ H x y v u Q I rx ry h;obtain⟨ρ,t,a,b,hr,ra,rb,w⟩:=h;simp only[zW]at w;split at w
 . cases ra;cases rb
   exact L2.QA pins s σ H _ _ v u Q I rx ry ⟨_,_,rfl,rfl,zM hr (.j _) w⟩
 . exact w.elim
theorem eZ:L2.OpR X (Ba .GtE) (rM2 X.K X.d (zW .k)):=by
 intro pins s σ H x y v u Q I rx ry h;obtain⟨ρ,t,a,b,hr,ra,rb,w⟩:=h;simp only[zW]at w;split at w
 . cases ra;cases rb
   exact L2.R9 pins s σ H _ _ v u Q I rx ry ⟨_,_,rfl,rfl,zM hr (.j _) w⟩
 . exact w.elim
noncomputable def Cop.op:Cop->CmpOp
 |.d=>.Eq|.b=>.NotEq|.j=>.Lt|.e=>.LtE|.i=>.Gt|.k=>.GtE|.m=>.Is|.c=>.IsNot|.h=>.In|.a=>.NotIn|.l=>.In|.f=>.NotIn|.g=>.NotIn
noncomputable def okC:Cop->Bool
 |.m|.l|.f|.g=>false
 |_=>true
theorem tm(hr0:L2.xQ k X.A):∀op:Cop,okC op=true->L2.OpR X (Ba op.op) (rM2 X.K X.d (zW op))
 |.d,_=>eY hr0
 |.b,_=>ek hr0
 |.j,_=>eh
 |.e,_=>ef
 |.i,_=>ed
 |.k,_=>eZ
 |.m,h=>by cases h
 |.c,_=>mh
 |.h,_=>ee hr0
 |.a,_=>mj hr0
 |.l,h=>by cases h
 |.f,h=>by cases h
 |.g,h=>by cases h
noncomputable def Bop.op:Bop->Operator
 |.a=>.Add|.d=>.Sub|.b=>.Mult|.e=>.FloorDiv|.c=>.Mod|.f=>.Pow|.h=>.LShift|.i=>.RShift|.g=>.BitAnd
noncomputable def okB:Bop->Bool
 |.h|.i|.g=>false
 |_=>true
theorem ZE m:∀op:Bop,okB op=true->L2.OpR X (By op.op) (rM2 X.K X.d (binOp m op))
 |.a,_=>iA m
 |.d,_=>iE m
 |.b,_=>iC m
 |.e,_=>kO m
 |.c,_=>iB m
 |.f,_=>iD m
 |.h,h=>by cases h
 |.i,h=>by cases h
 |.g,h=>by cases h
theorem Rk:L2.IxR X (rM2 X.K X.d wd):=by
 intro value slice pins s σ H x y v u Q I rx ry h hs;obtain⟨ρ,t,a,b,hr,ra,rb,w⟩:=h;simp only[wd]at w;split at w
 . split at w
   . rename_i vs e
     split at w
     . rename_i z hz
       obtain⟨p,xs,rfl,hq,q⟩:=pZ hr ra e;cases rb;obtain⟨xz,h1,h2⟩:=Yc q hz;refine L2.UM value slice pins s σ H _ _ v u Q I rx ry ?_ hs;rcases hq with hq|hq
       . exact .inl ⟨p,xs,_,xz,rfl,rfl,hq,h1,zM hr h2 w⟩
       . exact .inr (.inl ⟨p,xs,_,xz,rfl,rfl,hq,h1,zM hr h2 w⟩)
     . exact w.elim
   . exact w.elim
 . exact w.elim
end
end M
end
section
namespace M
open PySem
noncomputable def Bf.nm:Bf->Str
 |.b=>"len"|.q=>"all"|.o=>"any"|.c=>"tuple"|.j=>"list"|.i=>"sorted"|.a=>"repr"|.k=>"max"|.l=>"min"|.s=>"sum"|.p=>"int"|.h=>"isinstance"|.g=>"divmod"|.r=>"str"|.d=>"sorted"|.n=>"min"|.e=>"sorted"|.m=>"min"
noncomputable def Bf.val:Bf->Value
 |.b=>.builtin "len"|.q=>.builtin "all"|.o=>.builtin "any"|.c=>.type "tuple"|.j=>.type "list"|.i=>.builtin "sorted"|.a=>.builtin "repr"|.k=>.builtin "max"|.l=>.builtin "min"|.s=>.builtin "sum"|.p=>.type "int"
 |.h=>.builtin "isinstance"|.g=>.builtin "divmod"|.r=>.type "str"|.d=>.builtin "sorted"|.n=>.builtin "min"|.e=>.builtin "sorted"|.m=>.builtin "min"
theorem Bf.boot:∀f:Bf,B9 f.nm=some f.val
 |.b=>boot_len|.q=>PyProof.Rows.boot_all|.o=>PyProof.Rows.boot_any|.c=>FX|.j=>D3|.i=>DM|.a=>PyProof.Rows.boot_repr|.k=>PyProof.Rows.boot_max|.l=>Eo
 |.s=>PyProof.Rows.boot_sum|.p=>PyProof.Rows.boot_int|.h=>PyProof.Rows.boot_isinstance|.g=>PyProof.Rows.boot_divmod|.r=>PyProof.Rows.boot_str|.d=>DM|.n=>Eo|.e=>DM|.m=>Eo
section
variable {X:L2.Cx}{k:Nat}{m:Bool}
theorem tu(r:RDs K mg ρ H [v] xs):∃x,xs=[x]/\RD K mg ρ H v x:=by
 cases r with
 |a r1 r2=>cases r2;exact⟨_,rfl,r1⟩
theorem Zo(r:RDs K mg ρ H [v,w] xs):∃x y,xs=[x,y]/\RD K mg ρ H v x/\RD K mg ρ H w y:=by
 cases r with
 |a r1 r2=>
  obtain⟨y,rfl,r3⟩:=tu r2;exact⟨_,_,rfl,r1,r3⟩
theorem bB:L2.yY X (.builtin "len") (rMc X.K X.d (blt .b m)):=by
 intro pins s σ H xs us Q I r h;obtain⟨ρ,t,vs,hr,rv,w⟩:=h;simp only[blt]at w;split at w
 . split at w
   . rename_i hz
     obtain⟨x,rfl,rx⟩:=tu rv;cases rx;exact L2.mE pins s σ H _ us Q I r ⟨_,rfl,by rw[<-xG];exact hz,zM hr (.l _) w⟩
   . exact w.elim
 . split at w
   . rename_i e
     obtain⟨x,rfl,rx⟩:=tu rv;obtain⟨p,ys,rfl,hq,q⟩:=pZ hr rx e;refine L2.mD pins s σ H _ us Q I r ⟨p,ys,rfl,hq,?_⟩;rw[<-q.length];exact zM hr (.l _) w
   . exact w.elim
 . exact w.elim
theorem qp(hc:X.h=true):L2.yY X (.builtin "all") (rMc X.K X.d (blt .q m)):=by
 intro pins s σ H xs us Q I r h;obtain⟨ρ,t,vs,hr,rv,w⟩:=h;simp only[blt]at w;split at w
 . split at w
   . rename_i e
     split at w
     . rename_i bs eb
       obtain⟨x,rfl,rx⟩:=tu rv;obtain⟨p,ys,rfl,hq,q⟩:=w9 hr rx e;rw[q.bools eb]at hq;exact L2.qp hc pins s σ H _ us Q I r ⟨p,bs,rfl,.of hq,zM hr (.j _) w⟩
     . exact w.elim
   . exact w.elim
 . exact w.elim
theorem qr(hc:X.h=true):L2.yY X (.builtin "any") (rMc X.K X.d (blt .o m)):=by
 intro pins s σ H xs us Q I r h;obtain⟨ρ,t,vs,hr,rv,w⟩:=h;simp only[blt]at w;split at w
 . split at w
   . rename_i e
     split at w
     . rename_i bs eb
       obtain⟨x,rfl,rx⟩:=tu rv;obtain⟨p,ys,rfl,hq,q⟩:=w9 hr rx e;rw[q.bools eb]at hq;exact L2.qr hc pins s σ H _ us Q I r ⟨p,bs,rfl,.of hq,zM hr (.j _) w⟩
     . exact w.elim
   . exact w.elim
 . exact w.elim
theorem jd:L2.yY X (.type "tuple") (rMc X.K X.d (blt .c m)):=by
 intro pins s σ H xs us Q I r h;obtain⟨ρ,t,vs,hr,rv,w⟩:=h;simp only[blt]at w;split at w
 . obtain⟨x,rfl,rx⟩:=tu rv
   cases rx with
   |m n e q=>exact L2.tH pins s σ H _ us Q I r ⟨_,_,rfl,.inr ⟨.of e,zM hr (.m n e q) w⟩⟩
 . split at w
   . rename_i e
     obtain⟨x,rfl,rx⟩:=tu rv;obtain⟨p,ys,rfl,hq,q⟩:=w9 hr rx e;exact L2.tH pins s σ H _ us Q I r ⟨p,ys,rfl,.inl ⟨.of hq,gy hr q w⟩⟩
   . exact w.elim
 . exact w.elim
theorem fR:L2.yY X (.type "list") (rMc X.K X.d (blt .j m)):=by
 intro pins s σ H xs us Q I r h;obtain⟨ρ,t,vs,hr,rv,w⟩:=h;simp only[blt]at w;split at w
 . split at w
   . rename_i e
     obtain⟨x,rfl,rx⟩:=tu rv;obtain⟨p,ys,rfl,hq,q⟩:=pZ hr rx e;exact L2.mF pins s σ H _ us Q I r ⟨p,ys,rfl,hq,vz hr q w⟩
   . exact w.elim
 . exact w.elim
theorem bE(hr0:L2.xQ k X.A):L2.yY X (.builtin "repr") (rMc X.K X.d (blt .a m)):=by
 intro pins s σ H xs us Q I r h;obtain⟨ρ,t,vs,hr,rv,w⟩:=h;simp only[blt]at w;split at w
 . rename_i v
   split at w
   . rename_i hc
     rw[cf]at hc;obtain⟨x,rfl,rx⟩:=tu rv;obtain⟨u,rfl,ru⟩:=L2.vals1 r;have S:=R4 hc.2;have q:Q (.e (zt t v).d.shown) H:=zM hr (.D _) w;have fin:∀(tk':Tok) (tk:Nat),L2.EP X pins σ Q (.str (zt t v).d.shown tk') {s with toks:=tk}:=λ_ tk=>⟨.e _,H,I.tok _,⟨_,rfl⟩,q⟩
     obtain⟨as,R,hs⟩:=xa I.j hr hc.1 rx ru;have fr:∀a,u=.ref a->wpAny (model X.f X.w) X.A (call (.builtin "repr") [u]) (L2.EP X pins σ Q) X.j s:=λa e=>by subst e;refine repr_of_reads' R S.sh (λz=>hs (S.a z)) hr0.d ?_ (λ_ _ e=>e) (λh' u tk hk=>⟨.e _,H,I.kept hk,⟨_,rfl⟩,q⟩) S.ln;have:=S.dp;have:=hr0.a;omega
     cases rx with
     |s=>cases (show u=Ck from ru);exact PySem.P.repr_of_none (fin _ _)
     |j b=>cases (show u=Cm b from ru);exact PySem.P.repr_of_bool (fin _ _)
     |l i=>obtain⟨t',z⟩:=(show ∃t,u=F1 i t from ru);cases z;exact PySem.P.repr_of_int (by simpa [zt,yR,Val.d,PyData.showable] using S.sh) (fin _ _)
     |D x=>obtain⟨t',z⟩:=(show ∃t,u=F2 x t from ru);cases z;exact PySem.P.repr_of_str (fin _ _) S.ln
     |m _ _ _=>exact fr _ ru
     |E _ _ _=>exact fr _ ru
     |B _ _=>exact fr _ ru
     |C _ _=>exact fr _ ru
     |p _=>exact fr _ ru
     |F _=>exact fr _ ru
     |G _=>exact fr _ ru
     |I _=>exact absurd hc.1 (by simp[zt,yR,Val.isR])
     |A _ _=>exact fr _ ru
   . exact w.elim
 . exact w.elim
theorem bC(hc:X.h=true):L2.yY X (.builtin "max") (rMc X.K X.d (blt .k m)):=by
 intro pins s σ H xs us Q I r h;obtain⟨ρ,t,vs,hr,rv,w⟩:=h;simp only[blt]at w;split at w
 . obtain⟨x,y,rfl,rx,ry⟩:=Zo rv
   cases rx;cases ry;exact L2.fT hc pins s σ H _ us Q I r ⟨_,_,rfl,zM hr (.l _) w⟩
 . split at w
   . rename_i ns en
     split at w
     . rename_i hn
       obtain⟨x,rfl,rx⟩:=tu rv;cases rx with
       |m n e q=>
        rw[q.lz en]at e;exact L2.fV hc pins s σ H _ us Q I r ⟨_,ns,rfl,.of e,hn,zM hr (.l _) w⟩
     . exact w.elim
   . exact w.elim
 . split at w
   . rename_i e
     split at w
     . rename_i ns en
       split at w
       . rename_i hn
         obtain⟨x,rfl,rx⟩:=tu rv;obtain⟨p,ys,rfl,hq,q⟩:=w9 hr rx e;rw[q.lz en]at hq;exact L2.fU hc pins s σ H _ us Q I r ⟨p,ns,rfl,.of hq,hn,zM hr (.l _) w⟩
       . exact w.elim
     . exact w.elim
   . exact w.elim
 . exact w.elim
theorem bD(hc:X.h=true):L2.yY X (.builtin "min") (rMc X.K X.d (blt .l m)):=by
 intro pins s σ H xs us Q I r h;obtain⟨ρ,t,vs,hr,rv,w⟩:=h;simp only[blt]at w;split at w
 . obtain⟨x,y,rfl,rx,ry⟩:=Zo rv
   cases rx;cases ry;exact L2.fW hc pins s σ H _ us Q I r ⟨_,_,rfl,zM hr (.l _) w⟩
 . split at w
   . rename_i ns en
     split at w
     . rename_i hn
       obtain⟨x,rfl,rx⟩:=tu rv;cases rx with
       |m n e q=>
        rw[q.lz en]at e;exact L2.jZ hc pins s σ H _ us Q I r ⟨_,ns,rfl,.of e,hn,zM hr (.l _) w⟩
     . exact w.elim
   . exact w.elim
 . split at w
   . rename_i e
     split at w
     . rename_i ns en
       split at w
       . rename_i hn
         obtain⟨x,rfl,rx⟩:=tu rv;obtain⟨p,ys,rfl,hq,q⟩:=w9 hr rx e;rw[q.lz en]at hq;exact L2.fX hc pins s σ H _ us Q I r ⟨p,ns,rfl,.of hq,hn,zM hr (.l _) w⟩
       . exact w.elim
     . exact w.elim
   . exact w.elim
 . exact w.elim
theorem bA:L2.yY X (.type "int") (rMc X.K X.d (blt .p m)):=by
 intro pins s σ H xs us Q I r h;obtain⟨ρ,t,vs,hr,rv,w⟩:=h;simp only[blt]at w;split at w
 . obtain⟨x,rfl,rx⟩:=tu rv
   cases rx;exact L2.oi pins s σ H _ us Q I r (.inl ⟨_,rfl,zM hr (.l _) w⟩)
 . obtain⟨x,rfl,rx⟩:=tu rv
   cases rx;exact L2.oi pins s σ H _ us Q I r (.inr ⟨_,rfl,zM hr (.l _) w⟩)
 . exact w.elim
theorem qt:L2.yY X (.builtin "isinstance") (rMc X.K X.d (blt .h m)):=by
 intro pins s σ H xs us Q I r h;obtain⟨ρ,t,vs,hr,rv,w⟩:=h;simp only[blt]at w;split at w
 . split at w
   . rename_i ea ec
     obtain⟨x,y,rfl,rx,ry⟩:=Zo rv;cases ry;obtain⟨e1,e2⟩:=Ry ec;subst e1;exact L2.qt pins s σ H _ us Q I r ⟨_,_,_,_,rfl,PQ hr rx ea,L2.U2 X.K _ _ e2,zM hr (.j _) w⟩
   . exact w.elim
 . exact w.elim
theorem insI_perm z:∀l:List Int,(insI z l).Perm (z::l)
 |[]=>.refl _
 |y::ys=>by
  unfold insI;split
  . exact .refl _
  . exact((insI_perm z ys).cons y).trans (.swap z y ys)
theorem sortI_perm:∀l:List Int,(sortI l).Perm l
 |[]=>.refl _
 |z::zs=>(insI_perm z _).trans ((sortI_perm zs).cons z)
theorem gj z:∀{l},l.Pairwise (·<=·)->(insI z l).Pairwise (·<=·)
 |[],_=>List.pairwise_singleton _ _
 |y::ys,h=>by
  rw[List.pairwise_cons]at h;unfold insI;split
  . rename_i hz
    exact .cons (λx hx=>by rcases Af.mp hx with rfl|hx;exact hz;exact ED hz (h.1 x hx)) (.cons h.1 h.2)
  . rename_i hz
    exact .cons (λx hx=>by rcases Af.mp ((insI_perm z ys).mem_iff.mp hx) with rfl|hx;omega;exact h.1 x hx) (gj z h.2)
theorem jA:∀l:List Int,(sortI l).Pairwise (·<=·)
 |[]=>.nil
 |z::zs=>gj z (jA zs)
noncomputable def okF:Bf->Bool
 |.i|.s|.g|.r|.d|.n|.e|.m=>false
 |_=>true
theorem Yg(hc:X.h=true)(hr0:L2.xQ k X.A):∀f m,okF f=true->L2.yY X f.val (rMc X.K X.d (blt f m))
 |.b,_,_=>bB
 |.q,_,_=>qp hc
 |.o,_,_=>qr hc
 |.c,_,_=>jd
 |.j,_,_=>fR
 |.i,_,h=>by cases h
 |.a,_,_=>bE hr0
 |.k,_,_=>bC hc
 |.l,_,_=>bD hc
 |.s,_,h=>by cases h
 |.p,_,_=>bA
 |.h,_,_=>qt
 |.g,_,h=>by cases h
 |.r,_,h=>by cases h
 |.d,_,h=>by cases h
 |.e,_,h=>by cases h
 |.n,_,h=>by cases h
 |.m,_,h=>by cases h
end
end M
end
section
namespace M
open PySem
noncomputable def Out.isOk{α:Type}:Out α->Bool
 |.e _ _=>true
 |.g _ _ _|.d=>false
theorem zG{o:Out α}(h:o.isOk=false)v s:o≠.e v s:=λe=>by subst e;cases h
noncomputable def plain:Expr->Bool
 |.Starred ..|.Set ..|.Slice ..|.SetComp ..=>false
 |_=>true
theorem zV(h:plain e=true):L2.noStar e=true:=by cases e<;>first|rfl|cases h
theorem vD(h:plain e=true):Dn op e=false:=by cases e<;>first|rfl|cases h
theorem Zg(h:plain e=true):L2.gK e:=by intro o i;cases e<;>first|rfl|cases h
theorem yX(h:plain e=true)x:A2 e env x=pure x:=by cases e<;>first|rfl|cases h
noncomputable def mZ:Expr->Bool
 |.Call (.Name _ _) [] [] _=>false
 |_=>true
theorem um(h:mZ o=true):CY o name env (eval o env)=eval o env:=by
 unfold CY;split
 . cases h
 . rfl
noncomputable def plainT:Expr->Bool
 |.UnaryOp .Not _ _|.BoolOp ..|.IfExp ..|.Compare ..=>false
 |_=>true
theorem nK(h:plainT e=true)whole:isTrue e env whole=(do let v <-whole;standAt e.pos;holding [v] (truthy v)):=by
 cases e with
 |UnaryOp op a p=>cases op<;>first|rfl|cases h
 |_=>first|rfl|cases h
def zj:List Expr->Bool
 |[]=>true
 |e::es=>plain e&&zj es
theorem xR:∀{es} {pos} {env},zj es=true->(backTo pos (AI es env)).any (·.1)=false
 |[],_,_,_=>rfl
 |e::es,pos,env,h=>by
  rw[zj,cf]at h;rw[L2.zg (zV h.1)];show (false||(backTo pos (AI es env)).any (·.1))=false
  rw[xR h.2];rfl
section
variable {K:KF}{mg:Str->Option Value}{env:Env}{s s1:Sto}{ρ ρ':Own}{H H':L2.Hp}
theorem yq.mono(w:yq K mg R ρ H o Q)(x:Ext ρ H ρ' H')(h:HR K mg ρ' s1 H'):yq K mg R ρ' H' o Q:=by
 cases o with
 |e v s'=>exact λρ2 y H2 x2 h2 r2=>w ρ2 y H2 (x.trans h x2) h2 r2
 |_=>exact w
end
section
variable {X:L2.Cx}{env:Env}{s:Sto}{E a b c:Expr}
theorem zK{o:Out Val}(h:∀v s',o≠.e v s'):L2.PE X E (tV X.K X.d env s o):=yc λ_ _ _=>PK h
theorem un1{g:Val->Sto->Out Val}(h:L2.PE X a (tV X.K X.d env s o))(rule:∀ta,L2.PE X a ta->L2.PE X E (L2.tUn r ta))
 (op:∀ρ H s1 v x Q,HR X.K X.d ρ s1 H->RD X.K X.d ρ H v x->yq X.K X.d (RD X.K X.d) ρ H (g v s1) Q->r x H Q):L2.PE X E (tV X.K X.d env s (o.bind g)):=by
 cases o with
 |e v s1=>exact zb (rule _ h) λσ H Q ⟨ρ,hr,er,w⟩=>⟨ρ,hr,er,λρ1 x H1 x1 hr1 r1=>op ρ1 H1 s1 v x Q hr1 r1 (w.mono x1 hr1)⟩
 |g _ _ _=>exact zK (zG rfl)
 |d=>exact zK (zG rfl)
theorem V0{f2:Sto->Out Val}(h1:L2.PE X a (tV X.K X.d env s o))(h2:∀s1,L2.PE X b (tV X.K X.d env s1 (f2 s1)))
 (rule:∀ta tb,L2.PE X a ta->L2.PE X b tb->L2.PE X E (L2.tOp (rM2 X.K X.d g) ta tb)):L2.PE X E (tV X.K X.d env s (o.bind λx s1=>(f2 s1).bind λy s2=>g x y s2)):=by
 cases o with
 |e v s1=>
  show L2.PE X E (tV X.K X.d env s ((f2 s1).bind λy s2=>g v y s2));have h2':=h2 s1;cases hb:f2 s1 with
  |e w s2=>
   rw[hb]at h2';exact zb (rule _ _ h1 h2') λσ H Q ⟨ρ,hr,er,wt⟩=>⟨ρ,hr,er,λρ1 x H1 x1 hr1 r1=>⟨ρ1,hr1,er.mono x1,λρ2 y H2 x2 hr2 r2=>⟨ρ2,s2,v,w,hr2,r1.mono x2,r2,wt.mono (x1.trans hr1 x2) hr2⟩⟩⟩
  |g _ _ _=>exact zK (zG rfl)
  |d=>exact zK (zG rfl)
 |g _ _ _=>exact zK (zG rfl)
 |d=>exact zK (zG rfl)
theorem aM{op op':Cop}{o:Out Val}{f2 f3:Sto->Out Val}{k:Nat}{pos:Pos}(k1:okC op=true)(k2:okC op'=true)(hr0:L2.xQ k X.A)(h1:L2.PE X a (tV X.K X.d env s o))(h2:∀s1,L2.PE X b (tV X.K X.d env s1 (f2 s1)))(h3:∀s1,L2.PE X c (tV X.K X.d env s1 (f3 s1)))(hm:plain c=true) :
 L2.PE X (.Compare a [op.op,op'.op] [b,c] pos) (tV X.K X.d env s (o.bind λx s1=>(f2 s1).bind λy s2=>(zW op x y s2).bind λr s3=>match r with
  |.e true=>(f3 s3).bind λz s4=>zW op' y z s4
  |.e false=>.e (.e false) s3
  |_=>.d)):=by
 cases o with
 |e v s1=>
  have h2':=h2 s1;show L2.PE X _ (tV X.K X.d env s ((f2 s1).bind _));cases hb:f2 s1 with
  |e w s2=>
   rw[hb]at h2';show L2.PE X _ (tV X.K X.d env s ((zW op v w s2).bind _));cases hc:zW op v w s2 with
   |e r s3=>
    cases r with
    |e t=>
     have h3':=h3 s3;have rule:=L2.ZX (pos:=pos) (tm hr0 op k1) (tm hr0 op' k2) h1 h2' h3' (show GF [op.op,op'.op] [b,c]=false from vD hm);refine zb rule λσ H Q ⟨ρ,hr,er,wt⟩=>⟨ρ,hr,er,λρ1 x H1 x1 hr1 r1=>⟨ρ1,hr1,er.mono x1,λρ2 y H2 x2 hr2 r2=>⟨ρ2,s2,v,w,hr2,r1.mono x2,r2,?_⟩⟩⟩;rw[hc];intro ρ3 z H3 x3 hr3 r3;cases r3;refine⟨t,rfl,?_⟩;have xx:=(x1.trans hr1 x2).trans hr2 x3;have wt':=wt.mono xx hr3;cases t with
     |true=>
      rw[if_pos rfl];refine⟨ρ3,hr3,er.mono xx,?_⟩;have wt2:yq X.K X.d (RD X.K X.d) ρ3 H3 ((f3 s3).bind λz s4=>zW op' w z s4) Q:=wt';cases hz:f3 s3 with
      |e u s4=>
       rw[hz]at wt2;exact λρ4 q H4 x4 hr4 r4=>⟨ρ4,s4,w,u,hr4,(r2.mono x3).mono x4,r4,wt2.mono x4 hr4⟩
      |g _ _ _=>rw[hz]at wt2;exact wt2
      |d=>rw[hz]at wt2;exact wt2
     |false=>
      rw[if_neg Ab];exact zM hr3 (.j false) wt'
    |_=>exact zK (zG rfl)
   |g _ _ _=>exact zK (zG rfl)
   |d=>exact zK (zG rfl)
  |g _ _ _=>exact zK (zG rfl)
  |d=>exact zK (zG rfl)
 |g _ _ _=>exact zK (zG rfl)
 |d=>exact zK (zG rfl)
theorem Uk{o:Out Val}{pos:Pos}(h:L2.PE X a (tV X.K X.d env s o)):L2.PE X (.UnaryOp .USub a pos) (tV X.K X.d env s (o.bind λx s1=>match x with|.c i=>.e (.c (-i)) s1|_=>.d)):=by
 refine un1 h (λta q=>L2.Qb L2.Sq q) λρ H s1 v x Q hr r w=>?_;cases r with
 |l i=>exact⟨i,rfl,zM hr (.l _) w⟩
 |_=>exact w.elim
theorem Ul{o:Out Val}{pos:Pos}(h:L2.PE X a (tV X.K X.d env s o)):L2.PE X (.UnaryOp .Not a pos) (tV X.K X.d env s (o.bind λx s1=>match x with|.e b=>.e (.e !b) s1|_=>.d)):=by
 refine un1 (r:=λx H Q=>∃c,x=.f c/\Q (.f (!c)) H) h (λta q=>L2.Tj q) λρ H s1 v x Q hr r w=>?_;cases r with
 |j i=>exact⟨i,rfl,zM hr (.j _) w⟩
 |_=>exact w.elim
theorem aK{rest:List Expr}{o:Out Val}{f2:Sto->Out Val}{pos:Pos}(h1:L2.PE X a (tV X.K X.d env s o))(h2:∀s1,L2.PE X (.BoolOp .And (b::rest) pos) (tV X.K X.d env s1 (f2 s1))) :
 L2.PE X (.BoolOp .And (a::b::rest) pos) (tV X.K X.d env s (o.bind λx s1=>match x with|.e true=>f2 s1|.e false=>.e (.e false) s1|_=>.d)):=by
 cases o with
 |e v s1=>
  refine zb (L2.Td h1 (h2 s1)) λσ H Q ⟨ρ,hr,er,wt⟩=>⟨ρ,hr,er,λρ1 x H1 x1 hr1 r1=>?_⟩;have wt':=wt.mono x1 hr1;cases r1 with
  |j t=>
   refine⟨t,rfl,?_⟩;cases t with
   |true=>exact L2.oJ (⟨ρ1,hr1,er.mono x1,wt'⟩)
   |false=>exact L2.rY (zM hr1 (.j _) wt')
  |_=>exact wt'.elim
 |g _ _ _=>exact zK (zG rfl)
 |d=>exact zK (zG rfl)
theorem Rq{rest:List Expr}{o:Out Val}{f2:Sto->Out Val}{pos:Pos}(h1:L2.PE X a (tV X.K X.d env s o))(h2:∀s1,L2.PE X (.BoolOp .Or (b::rest) pos) (tV X.K X.d env s1 (f2 s1))) :
 L2.PE X (.BoolOp .Or (a::b::rest) pos) (tV X.K X.d env s (o.bind λx s1=>match truth s1 x with|some false=>f2 s1|some true=>.e x s1|dr=>.d)):=by
 cases o with
 |e v s1=>
  refine zb (L2.Tn h1 (h2 s1)) λσ H Q ⟨ρ,hr,er,wt⟩=>⟨ρ,hr,er,λρ1 x H1 x1 hr1 r1=>?_⟩;have wt':yq X.K X.d (RD X.K X.d) ρ1 H1 (match truth s1 v with|some false=>f2 s1|some true=>.e v s1|dr=>.d) Q:=wt.mono x1 hr1
  cases ht:truth s1 v with
  |none=>rw[ht]at wt';exact wt'.elim
  |some t=>
   rw[ht]at wt';refine⟨t,YI hr1 r1 ht,?_⟩;cases t with
   |true=>exact L2.oJ (zM hr1 r1 wt')
   |false=>exact L2.rY (⟨ρ1,hr1,er.mono x1,wt'⟩)
 |g _ _ _=>exact zK (zG rfl)
 |d=>exact zK (zG rfl)
theorem Uj{f2 f3:Sto->Out Val}(h1:L2.PT X c (tT X.K X.d env s o))(h2:∀s1,L2.PE X a (tV X.K X.d env s1 (f2 s1)))(h3:∀s1,L2.PE X b (tV X.K X.d env s1 (f3 s1))) :
 L2.PE X (.IfExp c a b pos) (tV X.K X.d env s (o.bind λt s1=>if t then f2 s1 else f3 s1)):=by
 cases o with
 |e v s1=>
  refine zb (L2.kW h1 (h2 s1) (h3 s1)) λσ H Q ⟨ρ,hr,er,wt⟩=>⟨ρ,hr,er,λρ1 x H1 x1 hr1 r1=>?_⟩;have wt':=wt.mono x1 hr1;cases r1;cases v with
  |true=>exact L2.oJ (⟨ρ1,hr1,er.mono x1,wt'⟩)
  |false=>exact L2.rY (⟨ρ1,hr1,er.mono x1,wt'⟩)
 |g _ _ _=>exact zK (zG rfl)
 |d=>exact zK (zG rfl)
theorem sY{o:Out (List Val)}(h:∀v s',o≠.e v s'):L2.PA X es (tVs X.K X.d env s o):=QV λ_ _ _=>SU h
theorem gp:L2.PA X [] (tVs X.K X.d env s (.e [] s)):=ZT L2.xK λσ H Q ⟨ρ,hr,er,wt⟩=>wt ρ [] H Ext.refl hr .d
theorem l7{f2:Sto->Out (List Val)}(hp:plain a=true)(h1:L2.PE X a (tV X.K X.d env s o))(h2:∀s1,L2.PA X es (tVs X.K X.d env s1 (f2 s1))) :
 L2.PA X (a::es) (tVs X.K X.d env s (o.bind λv s1=>(f2 s1).bind λvs s2=>.e (v::vs) s2)):=by
 cases o with
 |e v s1=>
  have h2':=h2 s1;show L2.PA X _ (tVs X.K X.d env s ((f2 s1).bind _));cases hb:f2 s1 with
  |e ws s2=>
   rw[hb]at h2';exact ZT (L2.pac h1 h2' (zV hp)) λσ H Q ⟨ρ,hr,er,wt⟩=>⟨ρ,hr,er,λρ1 x H1 x1 hr1 r1=>⟨ρ1,hr1,er.mono x1,λρ2 y H2 x2 hr2 r2=>wt ρ2 _ H2 (x1.trans hr1 x2) hr2 (.a (r1.mono x2) r2)⟩⟩
  |g _ _ _=>exact sY (zG rfl)
  |d=>exact sY (zG rfl)
 |g _ _ _=>exact sY (zG rfl)
 |d=>exact sY (zG rfl)
theorem jr(h:L2.PA X es (tVs X.K X.d env s o)):L2.PE X (.Tuple es k pos) (tV X.K X.d env s (o.bind λvs s1=>if vs.length<=zR then .e (.f vs) s1 else .d)):=by
 cases o with
 |e vs s1=>
  refine zb (L2.Tp h) λσ H Q ⟨ρ,hr,er,wt⟩=>⟨ρ,hr,er,λρ1 xs H1 x1 hr1 r1=>?_⟩;have wt':yq X.K X.d (RD X.K X.d) ρ1 H1 (if vs.length<=zR then .e (.f vs) s1 else .d) Q:=wt.mono x1 hr1
  by_cases hz:vs.length<=zR
  . rw[if_pos hz]at wt'
    exact⟨by rw[<-r1.length,<-xG];exact hz,gy hr1 r1 wt'⟩
  . rw[if_neg hz]at wt';exact wt'.elim
 |g _ _ _=>exact zK (zG rfl)
 |d=>exact zK (zG rfl)
theorem aO(h:L2.PA X es (tVs X.K X.d env s o)):L2.PE X (.List es pos) (tV X.K X.d env s (o.bind λvs s1=>if vs.length<=zR then newList m vs s1 else .d)):=by
 cases o with
 |e vs s1=>
  refine zb (L2.pV h) λσ H Q ⟨ρ,hr,er,wt⟩=>⟨ρ,hr,er,λρ1 xs H1 x1 hr1 r1=>?_⟩;have wt':yq X.K X.d (RD X.K X.d) ρ1 H1 (if vs.length<=zR then newList m vs s1 else .d) Q:=wt.mono x1 hr1
  by_cases hz:vs.length<=zR
  . rw[if_pos hz]at wt'
    exact⟨by rw[<-r1.length,<-xG];exact hz,vz hr1 r1 wt'⟩
  . rw[if_neg hz]at wt';exact wt'.elim
 |g _ _ _=>exact zK (zG rfl)
 |d=>exact zK (zG rfl)
theorem Rp(h:L2.PA X es (tVs X.K X.d env s o))(rule:∀t,L2.PA X es t->L2.PE X E (L2.tCB (rMc X.K X.d g) t)):L2.PE X E (tV X.K X.d env s (o.bind g)):=by
 cases o with
 |e vs s1=>exact zb (rule _ h) λσ H Q ⟨ρ,hr,er,wt⟩=>⟨ρ,hr,er,λρ1 xs H1 x1 hr1 r1=>⟨ρ1,s1,vs,hr1,r1,wt.mono x1 hr1⟩⟩
 |g _ _ _=>exact zK (zG rfl)
 |d=>exact zK (zG rfl)
theorem Ui(k1:okF f=true)(hc:X.h=true)(hr0:L2.xQ k X.A)(hg:L2.Gl X f.nm)(hm:X.d f.nm=none)(hp:zj (a::es)=true)(h:L2.PA X (a::es) (tVs X.K X.d env s o)) :
 L2.PE X (.Call (.Name f.nm p) (a::es) [] pos) (tV X.K X.d env s (o.bind (blt f m))):=by
 rw[zj,cf]at hp;refine Rp h λt ht=>?_;have hb:=Yg hc hr0 f m k1;have bo:=f.boot;have st:=L2.zg (es:=es) (env:=X.a) (zV hp.1);have hn:=xR (pos:=pos) (env:=X.a) hp.2;cases f with
 |c=>exact L2.xg hb hg hm bo ht (by decide) (by decide) st hn
 |j=>exact L2.xg hb hg hm bo ht (by decide) (by decide) st hn
 |p=>exact L2.xg hb hg hm bo ht (by decide) (by decide) st hn
 |r=>exact L2.xg hb hg hm bo ht (by decide) (by decide) st hn
 |_=>exact L2.sZ hb hg hm bo ht (by decide) (by decide) st hn
theorem yP{o:Out Bool}(h:∀v s',o≠.e v s'):L2.PT X E (tT X.K X.d env s o):=fC λ_ _ _=>Vk h
theorem Ut(hp:plainT a=true)(h:L2.PE X a (tV X.K X.d env s o)):L2.PT X a (tT X.K X.d env s o.truth):=by
 cases o with
 |e v s1=>
  refine rm (L2.kh h (nK hp)) λσ H Q ⟨ρ,hr,er,wt⟩=>⟨ρ,hr,er,λρ1 x H1 x1 hr1 r1=>?_⟩;have wt':=wt.mono x1 hr1;simp only[Out.truth,zO]at wt';cases ht:truth s1 v with
  |none=>rw[ht]at wt';exact wt'.elim
  |some b=>rw[ht]at wt';exact⟨b,YI hr1 r1 ht,wt' _ _ _ Ext.refl hr1 rfl⟩
 |g _ _ _=>exact yP (zG rfl)
 |d=>exact yP (zG rfl)
theorem Us(h:L2.PT X a (tT X.K X.d env s o)):L2.PT X (.UnaryOp .Not a pos) (tT X.K X.d env s (o.bind λb s1=>.e (!b) s1)):=by
 cases o with
 |e v s1=>exact rm (L2.iR h) λσ H Q ⟨ρ,hr,er,wt⟩=>⟨ρ,hr,er,λρ1 x H1 x1 hr1 r1=>by cases r1;exact wt _ _ _ x1 hr1 rfl⟩
 |g _ _ _=>exact yP (zG rfl)
 |d=>exact yP (zG rfl)
theorem sj{o:Out Bool}(h:∀v s',o≠.e v s'):L2.PW X E (tT X.K X.d env s o):=Qg λ_ _ _=>Vk h
theorem jt:L2.PW X (.BoolOp .And [] pos) (tT X.K X.d env s (.e true s)):=λwh pins sh σ H Q I ⟨ρ,hr,er,wt⟩=>PyProof.Rows.isTrue_and_nil ⟨H,I,wt _ _ _ Ext.refl hr rfl⟩
theorem eC:L2.PW X (.BoolOp .Or [] pos) (tT X.K X.d env s (.e false s)):=λwh pins sh σ H Q I ⟨ρ,hr,er,wt⟩=>PyProof.Rows.isTrue_or_nil ⟨H,I,wt _ _ _ Ext.refl hr rfl⟩
theorem aV{f2:Sto->Out Bool}(h1:L2.PT X a (tT X.K X.d env s o))(h2:∀s1,L2.PW X (.BoolOp .And rest pos) (tT X.K X.d env s1 (f2 s1))) :
 L2.PW X (.BoolOp .And (a::rest) pos) (tT X.K X.d env s (o.bind λb s1=>if b then f2 s1 else .e false s1)):=by
 cases o with
 |e v s1=>
  intro wh pins sh σ H Q I h;obtain⟨ρ,hr,er,wt⟩:=h;refine PyProof.Rows.isTrue_and (L2.thn (h1 pins sh σ H (λc H1=>if c=true then tT X.K X.d env s1 (f2 s1) σ H1 Q else Q false H1) I ⟨ρ,hr,er,λρ1 x H1 x1 hr1 r1=>?_⟩) λc s' ⟨H1,I1,q1⟩=>?_)
  . have wt':=wt.mono x1 hr1
    cases r1;cases v with
    |true=>exact L2.oJ (⟨ρ1,hr1,er.mono x1,wt'⟩)
    |false=>exact L2.rY (wt' _ _ _ Ext.refl hr1 rfl)
  . cases c with
    |true=>exact h2 s1 wh pins s' σ H1 Q I1 q1
    |false=>exact⟨H1,I1,q1⟩
 |g _ _ _=>exact sj (zG rfl)
 |d=>exact sj (zG rfl)
theorem VR{f2:Sto->Out Bool}(h1:L2.PT X a (tT X.K X.d env s o))(h2:∀s1,L2.PW X (.BoolOp .Or rest pos) (tT X.K X.d env s1 (f2 s1))) :
 L2.PW X (.BoolOp .Or (a::rest) pos) (tT X.K X.d env s (o.bind λb s1=>if b then .e true s1 else f2 s1)):=by
 cases o with
 |e v s1=>
  intro wh pins sh σ H Q I h;obtain⟨ρ,hr,er,wt⟩:=h;refine PyProof.Rows.isTrue_or (L2.thn (h1 pins sh σ H (λc H1=>if c=true then Q true H1 else tT X.K X.d env s1 (f2 s1) σ H1 Q) I ⟨ρ,hr,er,λρ1 x H1 x1 hr1 r1=>?_⟩) λc s' ⟨H1,I1,q1⟩=>?_)
  . have wt':=wt.mono x1 hr1
    cases r1;cases v with
    |true=>exact L2.oJ (wt' _ _ _ Ext.refl hr1 rfl)
    |false=>exact L2.rY (⟨ρ1,hr1,er.mono x1,wt'⟩)
  . cases c with
    |true=>exact⟨H1,I1,q1⟩
    |false=>exact h2 s1 wh pins s' σ H1 Q I1 q1
 |g _ _ _=>exact sj (zG rfl)
 |d=>exact sj (zG rfl)
end
end M
end
section
namespace M
open PySem
section
variable {X:L2.Cx}{env:Env}{s:Sto}{E a b c:Expr}
theorem Zh{t t':L2.TO}(h:L2.PO X e t)(i:∀σ H Q,t' σ H Q->t σ H Q):L2.PO X e t':=λpins s σ H Q I q=>h pins s σ H Q I (i σ H Q q)
theorem PD{o:Out (Option Int)}(h:∀v s',o≠.e v s'):¬tO X.K X.d env s o σ H Q:=by
 rintro ⟨ρ,_,_,w⟩;cases o with
 |e v s'=>exact h v s' rfl
 |_=>exact w
theorem ka{o:Out (Option Int)}(h:∀v s',o≠.e v s'):L2.PO X e (tO X.K X.d env s o):=λpins sh σ H Q I q=>(PD h q).elim
theorem Ru:L2.PO X none (tO X.K X.d env s (.e none s)):=Zh L2.WO λσ H Q ⟨ρ,hr,er,wt⟩=>wt _ _ _ Ext.refl hr rfl
theorem Uo{o:Out Val}(h:L2.PE X a (tV X.K X.d env s o)):L2.PO X (some a) (tO X.K X.d env s (o.bind λv s1=>match v with|.c i=>.e (some i) s1|_=>.d)):=by
 cases o with
 |e v s1=>
  refine Zh (L2.WQ h) λσ H Q ⟨ρ,hr,er,wt⟩=>⟨ρ,hr,er,λρ1 x H1 x1 hr1 r1=>?_⟩;have wt':=wt.mono x1 hr1;cases r1 with
  |l i=>exact⟨i,rfl,wt' _ _ _ Ext.refl hr1 rfl⟩
  |_=>exact wt'.elim
 |g _ _ _=>exact ka (zG rfl)
 |d=>exact ka (zG rfl)
def rMs(K:KF)(mg:Str->Option Value)(m:Bool):L2.V->Option Int->Option Int->L2.Hp->L2.VK->Prop:=λx lo hi H Q=>∃ρ s v,HR K mg ρ s H/\RD K mg ρ H v x/\yq K mg (RD K mg) ρ H (uD m v lo hi none s) Q
theorem Q2 m:L2.SlR X (rMs X.K X.d m):=by
 intro pins s σ H x v vl vu lo hi sl Q I rx hs pl pu h;obtain⟨ρ,t,w,hr,rw',wt⟩:=h;simp only[uD]at wt;split at wt
 . cases rw' with
   |m n e q=>exact L2.Wd pins s σ H _ v vl vu lo hi sl Q I rx hs pl pu ⟨_,_,rfl,e,sT hr (q.cut lo hi) wt⟩
 . rename_i heq
   cases heq
 . split at wt
   . rename_i e
     obtain⟨p,xs,rfl,hq,q⟩:=w9 hr rw' e;exact L2.Wc pins s σ H _ v vl vu lo hi sl Q I rx hs pl pu ⟨_,_,rfl,.of hq,vz hr (q.cut lo hi) wt⟩
   . exact wt.elim
 . rename_i heq
   cases heq
theorem Rr{f2 f3 f4:Sto->Out (Option Int)}(h1:L2.PE X a (tV X.K X.d env s o))(h2:∀s1,L2.PO X lo (tO X.K X.d env s1 (f2 s1)))(h3:∀s1,L2.PO X hi (tO X.K X.d env s1 (f3 s1)))
 (h4:∀s1,L2.PO X st (tO X.K X.d env s1 (f4 s1))) (hst:(st=none/\∀s1,f4 s1=.e none s1)\/∃e,st=some e/\∀s1 s2,f4 s1≠.e none s2) :
 L2.PE X (.Subscript a (.Slice lo hi st p2) pos) (tV X.K X.d env s (o.bind λx s1=>(f2 s1).bind λl s2=>(f3 s2).bind λh s3=>(f4 s3).bind λc s4=>uD m x l h c s4)):=by
 cases o with
 |e v s1=>
  have h2':=h2 s1;show L2.PE X _ (tV X.K X.d env s ((f2 s1).bind _));cases hl:f2 s1 with
  |e l s2=>
   rw[hl]at h2';have h3':=h3 s2;show L2.PE X _ (tV X.K X.d env s ((f3 s2).bind _));cases hh:f3 s2 with
   |e h s3=>
    rw[hh]at h3';have h4':=h4 s3;show L2.PE X _ (tV X.K X.d env s ((f4 s3).bind _));rcases hst with⟨rfl,e4⟩|⟨e,rfl,e4⟩
    . rw[e4 s3]
      refine zb (L2.Zb (Q2 m) h1 h2' h3') λσ H Q ⟨ρ,hr,er,wt⟩=>⟨ρ,hr,er,λρ1 x H1 x1 hr1 r1=>⟨ρ1,hr1,er.mono x1,λρ2 y H2 x2 hr2 r2=>?_⟩⟩;cases r2;refine⟨ρ2,hr2,(er.mono x1).mono x2,λρ3 z H3 x3 hr3 r3=>?_⟩;cases r3;exact⟨ρ3,s3,v,hr3,(r1.mono x2).mono x3,wt.mono ((x1.trans hr1 x2).trans hr2 x3) hr3⟩
    . cases hc:f4 s3 with
      |e cc s4=>
       rw[hc]at h4';cases cc with
       |none=>exact absurd hc (e4 s3 s4)
       |some ci=>
        by_cases hv:∃vs,v=.f vs
        case neg=>
         refine zb (L2.iK h1 h2' h3' h4') λσ H Q ⟨ρ,hr,er,wt⟩=>⟨ρ,hr,er,λρ1 x H1 x1 hr1 r1=>⟨ρ1,hr1,er.mono x1,λρ2 y H2 x2 hr2 r2=>?_⟩⟩;cases r2;refine⟨ρ2,hr2,(er.mono x1).mono x2,λρ3 z H3 x3 hr3 r3=>?_⟩;cases r3;refine⟨ρ3,hr3,((er.mono x1).mono x2).mono x3,λρ4 z4 H4 x4 hr4 r4=>?_⟩;cases r4;have wt':yq X.K X.d (RD X.K X.d) ρ4 H4 (uD m v l h (some ci) s4) Q:=wt.mono (((x1.trans hr1 x2).trans hr2 x3).trans hr3 x4) hr4;have em:uD m v l h (some ci) s4=(match yb s4 v with|some vs=>if ci≠0 then newList m (L2.zm vs (L2.uQ vs.length l h ci).1 ci (L2.uQ vs.length l h ci).2) s4 else .d|dr=>.d):=by
          cases v with
          |f vs=>exact absurd ⟨vs,rfl⟩ hv
          |_=>rfl
         rw[em]at wt';cases hl:yb s4 v with
         |none=>rw[hl]at wt';exact wt'.elim
         |some vs=>
          rw[hl]at wt';dsimp only at wt';obtain⟨p,xs,rfl,hq,q⟩:=w9 hr4 (((r1.mono x2).mono x3).mono x4) hl;by_cases c0:ci≠0
          . have wt2:yq X.K X.d (RD X.K X.d) ρ4 H4 (newList m (L2.zm vs (L2.uQ vs.length l h ci).1 ci (L2.uQ vs.length l h ci).2) s4) Q:=by rwa [if_pos c0]at wt'
            refine⟨p,xs,ci,rfl,.of hq,rfl,c0,?_⟩;rw[<-q.length];exact vz hr4 (q.zm _ _ _) wt2
          . rw[if_neg c0]at wt';exact wt'.elim
        refine zb (L2.dB h1 h2' h3' h4') λσ H Q ⟨ρ,hr,er,wt⟩=>⟨ρ,hr,er,λρ1 x H1 x1 hr1 r1=>⟨ρ1,hr1,er.mono x1,λρ2 y H2 x2 hr2 r2=>?_⟩⟩;cases r2;refine⟨ρ2,hr2,(er.mono x1).mono x2,λρ3 z H3 x3 hr3 r3=>?_⟩;cases r3;refine⟨ρ3,hr3,((er.mono x1).mono x2).mono x3,λρ4 z4 H4 x4 hr4 r4=>?_⟩;cases r4;have xx:=((x1.trans hr1 x2).trans hr2 x3).trans hr3 x4;have wt':yq X.K X.d (RD X.K X.d) ρ4 H4 (uD m v l h (some ci) s4) Q:=wt.mono xx hr4;have r:=((r1.mono x2).mono x3).mono x4;cases r with
        |m n e q=>
         change yq X.K X.d (RD X.K X.d) ρ4 H4 (if ci≠0/\(L2.yx (Gb _) l h ci).2<=zR then .e (.f (L2.zm _ (L2.yx (Gb _) l h ci).1 ci (L2.yx (Gb _) l h ci).2)) s4 else .d) Q at wt'
         split at wt'
         . rename_i hz
           have hlen:=q.length;refine⟨_,_,ci,rfl,e,rfl,hz.1,by rw[<-hlen,<-xG];exact hz.2,?_⟩
           rw[<-hlen];exact sT hr4 (q.zm _ _ _) wt'
         . exact wt'.elim
        |_=>obtain⟨_,e⟩:=hv;cases e
      |g _ _ _=>exact zK (zG rfl)
      |d=>exact zK (zG rfl)
   |g _ _ _=>exact zK (zG rfl)
   |d=>exact zK (zG rfl)
  |g _ _ _=>exact zK (zG rfl)
  |d=>exact zK (zG rfl)
 |g _ _ _=>exact zK (zG rfl)
 |d=>exact zK (zG rfl)
noncomputable def Mf.nm:Mf->Str
 |.a=>"count"|.b=>"append"|.d=>"extend"|.f=>"pop"|.c=>"index"|.e=>"join"
noncomputable def okM:Mf->Bool
 |.d|.f|.c|.e=>false
 |_=>true
theorem aP{f2:Sto->Out Val}(hm:okM f=true)(hs:mZ a=true)(hp:plain b=true)(hline:(apos.endLine == cpos.line)=true)(h1:L2.PE X a (tV X.K X.d env s o))(h2:∀s1,L2.PE X b (tV X.K X.d env s1 (f2 s1))) :
 L2.PE X (.Call (.Attribute a f.nm apos) [b] [] cpos) (tV X.K X.d env s (o.bind λx s1=>((f2 s1).bind λv s2=>(Out.e [v] s2:Out (List Val))).bind λvs s2=>yK f x vs s2)):=by
 cases o with
 |e v s1=>
  have h2':=h2 s1;show L2.PE X _ (tV X.K X.d env s (((f2 s1).bind λv s2=>(Out.e [v] s2:Out (List Val))).bind λvs s2=>yK f v vs s2));cases hb:f2 s1 with
  |e w s2=>
   rw[hb]at h2';show L2.PE X _ (tV X.K X.d env s (yK f v [w] s2));cases f with
   |a=>
    by_cases hv:∃vs,v=.f vs
    . obtain⟨vs,rfl⟩:=hv
      refine zb (L2.ez h1 h2' (um hs) (zV hp) hline) λσ H Q ⟨ρ,hr,er,wt⟩=>⟨ρ,hr,er,λρ1 x H1 x1 hr1 r1=>?_⟩;cases r1 with
      |m n e q=>
       refine⟨⟨_,_,rfl,e⟩,ρ1,hr1,er.mono x1,λρ2 y H2 x2 hr2 r2=>?_⟩;have wt':yq X.K X.d (RD X.K X.d) ρ2 H2 (yK .a (.f vs) [w] s2) Q:=wt.mono (x1.trans hr1 x2) hr2;simp only[yK]at wt';split at wt'
       . rename_i hf
         rw[cf]at hf;have q2:=q.mono x2;refine⟨_,_,y,rfl,rfl,L2.SqT.of (x2.c _ _ e n.1),r2.flat hf.1,q2.flat hf.2,?_⟩;rw[RDs.countP r2 hf.1 q2 hf.2];exact zM hr2 (.l _) wt'
       . exact wt'.elim
    . refine zb (L2.nI h1 h2' (um hs) (zV hp) hline) λσ H Q ⟨ρ,hr,er,wt⟩=>⟨ρ,hr,er,λρ1 x H1 x1 hr1 r1=>?_⟩
      have wt':yq X.K X.d (RD X.K X.d) ρ1 H1 (yK .a v [w] s2) Q:=wt.mono x1 hr1;have em:yK .a v [w] s2=(match yb s2 v with|some vs=>if M.flat w&&vs.all M.flat then .e (.c (vs.countP λz=>eqF z w:Nat)) s2 else .d|dr=>.d):=by
       cases v with
       |f vs=>exact absurd ⟨vs,rfl⟩ hv
       |_=>rfl
      rw[em]at wt';cases hl:yb s2 v with
      |none=>rw[hl]at wt';exact wt'.elim
      |some vs=>
       rw[hl]at wt'
       -- the receiver is a list already ahead of the argument
       have ty:L2.tyV X.K "list" x H1:=by
        cases r1 with
        |E n e q=>exact .inl ⟨rfl,_,.of e⟩
        |C e k=>
         obtain⟨xs,q⟩:=jm k;exact .inl ⟨rfl,_,.of q⟩
        |_=>cases hl
       refine⟨ty,ρ1,hr1,er.mono x1,λρ2 y H2 x2 hr2 r2=>?_⟩;obtain⟨p,xs,rfl,hq,q⟩:=w9 hr2 (r1.mono x2) hl;have wt2:=wt'.mono x2 hr2;simp only at wt2;split at wt2
       . rename_i hf
         rw[cf]at hf;refine⟨_,_,y,rfl,rfl,L2.SqL.of hq,r2.flat hf.1,q.flat hf.2,?_⟩;rw[RDs.countP r2 hf.1 q hf.2];exact zM hr2 (.l _) wt2
       . exact wt2.elim
   |b=>
    cases v with
    |k i=>
     refine zb (L2.ey (es:=[]) h1 h2' (um hs) (zV hp) hline) λσ H Q ⟨ρ,hr,er,wt⟩=>⟨ρ,hr,er,λρ1 x H1 x1 hr1 r1=>?_⟩;cases r1 with
     |C e k=>
      obtain⟨xs,q⟩:=jm k;refine⟨.inl ⟨rfl,_,.of q⟩,ρ1,hr1,er.mono x1,λρ2 y H2 x2 hr2 r2=>?_⟩;have wt':yq X.K X.d (RD X.K X.d) ρ2 H2 (yK .b (.k i) [w] s2) Q:=wt.mono (x1.trans hr1 x2) hr2;simp only[yK]at wt';split at wt'
      . rename_i vs hv
        split at wt'
        . rename_i hz
          obtain⟨b',ys,e1,e2,q2⟩:=hr2.obj i _ hv;have e':=x2.get e;rw[e']at e1;cases e1;refine⟨_,ys,y,rfl,rfl,e2,by rw[<-q2.length,<-xG];exact hz,?_⟩
          exact wt' _ _ _ (Ext.write hr2 e' e2 _) (hr2.write e' e2 (q2.append (.a r2 .d))) .s
        . exact wt'.elim
      . exact wt'.elim
    |_=>exact zK (zG rfl)
   |d=>cases hm
   |f=>cases hm
   |c=>cases hm
   |e=>cases hm
  |g _ _ _=>exact zK (zG rfl)
  |d=>exact zK (zG rfl)
 |g _ _ _=>exact zK (zG rfl)
 |d=>exact zK (zG rfl)
end
def spN(T:Tbl)(K:KF)(mg:Str->Option Value)(n:Nat)(f:Str)(ver:Nat):L2.Sp:=λvs H Q _=>∃ρ s args,HR K mg ρ s H/\RDs K mg ρ H args vs/\yq K mg (RD K mg) ρ H (zF T n f ver args s) Q
structure Callee(T:Tbl)(n:Nat)(X:L2.Cx)(f:Str)(ver:Nat)(F:Fn):Prop where
 a:∃fa fd,X.d f=some (.ref fa)/\B4 X.K (.ref fa)=true/\L2.Binds X.K fd F.b []/\L2.sF X.f X.w X.K X.d X.i L2.CX0 n fa fd F.b (spN T X.K X.d n f ver)
section
variable {X:L2.Cx}{env:Env}{s:Sto}{T:Tbl}{n ver:Nat}{f:Str}{F:Fn}
theorem aL(C:Callee T n X f ver F)(hr0:L2.xQ n X.A)(hg:L2.Gl X f)(hd:(f == ("__debug__":Str))=false):L2.PE X (.Call (.Name f p) [] [] pos) (tV X.K X.d env s (zF T n f ver [] s)):=by obtain⟨fa,fd,hm,hk,hb,hf⟩:=C.a;exact zb (L2.kS hf hr0 hg hm hk hb .nil L2.VY hd) λσ H Q ⟨ρ,hr,er,wt⟩=>⟨ρ,s,[],hr,.d,wt⟩
theorem XY(C:Callee T n X f ver F)(hr0:L2.xQ n X.A)(hg:L2.Gl X f)(hd:(f == ("__debug__":Str))=false)(hp:zj es=true)(hne:es≠[])(h:L2.PA X es (tVs X.K X.d env s o)) :
 L2.PE X (.Call (.Name f p) es [] pos) (tV X.K X.d env s (o.bind (zF T n f ver))):=by
 obtain⟨fa,fd,hm,hk,hb,hf⟩:=C.a;cases o with
 |e vs s1=>
  cases es with
  |nil=>exact absurd rfl hne
  |cons e es=>
   rw[zj,cf]at hp;refine zb (L2.mx hf hr0 hg hm hk hb .nil L2.VY h hd (L2.zg (zV hp.1)) (xR hp.2)) λσ H Q ⟨ρ,hr,er,wt⟩=>⟨ρ,hr,er,λρ1 xs H1 x1 hr1 r1=>?_⟩;show spN T X.K X.d n f ver (xs++[]) H1 Q L2.E0;rw[A8];exact⟨ρ1,s1,vs,hr1,r1,wt.mono x1 hr1⟩
 |g _ _ _=>exact zK (zG rfl)
 |d=>exact zK (zG rfl)
end
end M
end
section
namespace M
open PySem
theorem wY:∀{c} {p},(c=true->p)->cond c p True
 |true,_,h=>h rfl
 |false,_,_=>Be
theorem qu(h:cond c p True)(e:c=true):p:=by subst e;exact h
mutual
theorem RG:∀(a b:Val),cond (a.beq b) (a=b) True
 |.h,b=>by cases b<;>first|exact(rfl:Val.h=Val.h)|exact Be
 |.e x,b=>by cases b with|e y=>exact wY λh=>congrArg Val.e (Ci (show (x == y)=true from h))|_=>exact Be
 |.c x,b=>by cases b with|c y=>exact wY λh=>congrArg Val.c (Ci (show (x == y)=true from h))|_=>exact Be
 |.g x,b=>by cases b with|g y=>exact wY λh=>congrArg Val.g (Ci (show (x == y)=true from h))|_=>exact Be
 |.f x,b=>by cases b with|f y=>exact wY λh=>congrArg Val.f (qu (mB x y) h)|_=>exact Be
 |.j x,b=>by cases b with|j y=>exact wY λh=>congrArg Val.j (qu (mB x y) h)|_=>exact Be
 |.l,b=>by cases b<;>first|exact(rfl:Val.l=Val.l)|exact Be
 |.m x,b=>by cases b with|m y=>exact wY λh=>congrArg Val.m (Ci (show (x == y)=true from h))|_=>exact Be
 |.p x,b=>by cases b with|p y=>exact wY λh=>congrArg Val.p (Ci (show (x == y)=true from h))|_=>exact Be
 |.k x,b=>by cases b with|k y=>exact wY λh=>congrArg Val.k (Ci (show (x == y)=true from h))|_=>exact Be
 |.q x,b=>by cases b with|q y=>exact wY λh=>congrArg Val.q (Ci (show (x == y)=true from h))|_=>exact Be
 |.r x,b=>by cases b with|r y=>exact wY λh=>congrArg Val.r (Ci (show (x == y)=true from h))|_=>exact Be
 |.o x,b=>by cases b with|o y=>exact wY λh=>congrArg Val.o (Ci (show (x == y)=true from h))|_=>exact Be
theorem mB:∀(a b:List Val),cond (rN a b) (a=b) True
 |[],[]=>(rfl:([]:List Val)=[])
 |[],_::_=>Be
 |_::_,[]=>Be
 |x::xs,y::ys=>wY λh=>by have h:(x.beq y&&rN xs ys)=true:=h;rw[cf]at h;rw[qu (RG x y) h.1,qu (mB xs ys) h.2]
end
theorem sI(h:rN a b=true):a=b:=qu (mB a b) h
mutual
theorem beq_refl:∀a:Val,a.beq a=true
 |.h=>rfl
 |.e x=>(beq_self_eq_true x:(x == x)=true)
 |.c x=>(beq_self_eq_true x:(x == x)=true)
 |.g x=>(beq_self_eq_true x:(x == x)=true)
 |.f x=>uo x
 |.j x=>uo x
 |.l=>rfl
 |.m x=>(beq_self_eq_true x:(x == x)=true)
 |.p x=>(beq_self_eq_true x:(x == x)=true)
 |.k x=>(beq_self_eq_true x:(x == x)=true)
 |.q x=>(beq_self_eq_true x:(x == x)=true)
 |.r x=>(beq_self_eq_true x:(x == x)=true)
 |.o x=>(beq_self_eq_true x:(x == x)=true)
theorem uo:∀a:List Val,rN a a=true
 |[]=>rfl
 |x::xs=>by rw[rN,beq_refl x,uo xs];rfl
end
section
variable {K:KF}{mg:Str->Option Value}
theorem Mv.refl:Mv ρ H ρ H:=⟨λa o e n=>⟨e,n⟩,λi a e=>e,λ_ _=>rfl⟩
theorem Mv.trans(x:Mv ρ H ρ1 H1)(y:Mv ρ1 H1 ρ2 H2):Mv ρ H ρ2 H2:=
 ⟨λa o e n=>y.b a o (x.b a o e n).1 (x.b a o e n).2,λi a e=>y.c i a (x.c i a e),λa ha=>by obtain⟨i,hi⟩:=Dm ha;exact(y.d a (AA (x.c i a hi))).trans (x.d a ha)⟩
structure Walk(K:KF)(mg:Str->Option Value)(ρ:Own)(H:L2.Hp)(r:Src)(J:L2.It):Prop where
 b:r.a.length<=zR
 c:∀(ρ2:Own) (H2:L2.Hp) (s2:Sto) (i:Nat) (v:Val),Mv ρ H ρ2 H2->HR K mg ρ2 s2 H2->r.ok s2=true->r.a[i]?=some v->J.c i H2/\∀x H3,J.b i H2 x H3->(H3=H2\/∃p o,H2 p=none/\H3=L2.upd H2 p o)/\RD K mg ρ2 H3 v x
 a:∀(ρ2:Own) (H2:L2.Hp) (s2:Sto) (i:Nat),Mv ρ H ρ2 H2->HR K mg ρ2 s2 H2->r.ok s2=true->i=r.a.length->J.a i H2
theorem Walk.mv(w:Walk K mg ρ H r J)(x:Mv ρ H ρ1 H1):Walk K mg ρ1 H1 r J:=
 ⟨w.b,λρ2 H2 s2 i v y=>w.c ρ2 H2 s2 i v (x.trans y),λρ2 H2 s2 i y=>w.a ρ2 H2 s2 i (x.trans y)⟩
def cY(H:L2.Hp):Prop:=∀a xs,(H a=some (.c xs)\/H a=some (.b xs))->xs.length<=Av
theorem se(h:L2.PI X tg it wi):L2.PI X tg it (λσ H R=>wi σ H λJ H1=>cY H1->R J H1):=λpins s σ H R I q=>
 L2.thn (h pins s σ H _ I q) λv s1 h1=>L2.thn h1 λitv s2 ⟨i,fp,tn,J,H',e,I',T,t0,f,r⟩=>⟨i,fp,tn,J,H',e,I',T,t0,f,r λa xs hx=>by
  rcases hx with hx|hx
  . obtain⟨z,_⟩:=(show L2.yQ X.f X.w H' s2.heap a (.c xs) from I'.j a _ hx);exact z
  . obtain⟨z,_⟩:=(show L2.yQ X.f X.w H' s2.heap a (.b xs) from I'.j a _ hx);exact z⟩
theorem YQ(hz:vs.length<=zR)(n:ρ.no a)(e:H a=some (.c xs))(q:RDs K mg ρ H vs xs):Walk K mg ρ H ⟨vs,none⟩ (L2.Itt K a) where
 b:=hz
 c:=λρ2 H2 s2 i v x hr _ hv=>by have e2:=(x.b a _ e n).1;have q2:=RDs.mv x q;obtain⟨y,h1,h2⟩:=q2.get hv;refine⟨⟨xs,y,.of e2,h1⟩,λz H3 ⟨e3,h3⟩=>⟨.inl e3,?_⟩⟩;subst e3;have:=h3 xs (.of e2);rw[h1]at this;cases this;exact h2
 a:=λρ2 H2 s2 i x hr _ hi=>⟨xs,.of (x.b a _ e n).1,by rw[<-q.length];exact EI hi.symm⟩
theorem YN(hz:vs.length<=zR)(n:ρ.no a)(e:H a=some (.b xs))(q:RDs K mg ρ H vs xs):Walk K mg ρ H ⟨vs,none⟩ (L2.Itl K a) where
 b:=hz
 c:=λρ2 H2 s2 i v x hr _ hv=>by have e2:=(x.b a _ e n).1;have q2:=RDs.mv x q;obtain⟨y,h1,h2⟩:=q2.get hv;refine⟨⟨xs,y,.of e2,h1⟩,λz H3 ⟨e3,h3⟩=>⟨.inl e3,?_⟩⟩;subst e3;have:=h3 xs (.of e2);rw[h1]at this;cases this;exact h2
 a:=λρ2 H2 s2 i x hr _ hi=>⟨xs,.of (x.b a _ e n).1,by rw[<-q.length];exact EI hi.symm⟩
theorem dn{ns:List Int}(k:KT K a (ns.map L2.V.d)):Walk K mg ρ H ⟨ns.map .c,none⟩ (L2.Itt K a) where
 b:=by obtain⟨o,its,n,_,_,_,h4,h5⟩:=k;have:=h5.length;simp only[Aa,CU]at this;show (ns.map Val.c).length<=_;rw[Aa,xG,this];exact h4
 c:=λρ2 H2 s2 i v x hr _ hv=>by obtain⟨y,h1,h2⟩:=(RDs.ints (K:=K) (mg:=mg) (ρ:=ρ2) (H:=H2) ns).get hv;refine⟨⟨_,y,k.sqt,h1⟩,λz H3 ⟨e3,h3⟩=>⟨.inl e3,?_⟩⟩;subst e3;have:=h3 _ k.sqt;rw[h1]at this;cases this;exact h2
 a:=λρ2 H2 s2 i x hr _ hi=>⟨_,k.sqt,by rw[Aa];rw[hi];simp⟩
theorem YO(hz:vs.length<=zR)(e:ρ.o[i0]?=some a):Walk K mg ρ H ⟨vs,some i0⟩ (L2.Itl K a) where
 b:=hz
 c:=λρ2 H2 s2 i v x hr ho hv=>by
  simp only[Src.ok]at ho;split at ho
  . rename_i ws hw
    cases sI ho;obtain⟨b,xs,e1,e2,q⟩:=hr.obj i0 _ hw;rw[x.c _ _ e]at e1;cases e1;obtain⟨y,h1,h2⟩:=q.get hv;refine⟨⟨xs,y,.of e2,h1⟩,λz H3 ⟨e3,h3⟩=>⟨.inl e3,?_⟩⟩;subst e3;have:=h3 xs (.of e2);rw[h1]at this;cases this;exact h2
  . cases ho
 a:=λρ2 H2 s2 i x hr ho hi=>by
  simp only[Src.ok]at ho;split at ho
  . rename_i ws hw
    cases sI ho;obtain⟨b,xs,e1,e2,q⟩:=hr.obj i0 _ hw;rw[x.c _ _ e]at e1;cases e1;exact⟨xs,.of e2,by rw[<-q.length];exact EI hi.symm⟩
  . cases ho
theorem Zs:(yu lo n)[i]?=if i<n then some (.c (lo+i)) else none:=by
 unfold yu;rw[AG];by_cases h:i<n
 . rw[if_pos h,Du h];rfl
 . rw[if_neg h,B7 (by rw[Bh];omega)];rfl
theorem kl:(yu lo n).length=n:=by unfold yu;rw[Aa,Bh]
theorem jK(hz:n<=zR):Walk K mg ρ H ⟨yu lo n,none⟩ (L2.Itr lo n) where
 b:=by show (yu lo n).length<=_;rw[kl];exact hz
 c:=λρ2 H2 s2 i v x hr _ hv=>by
  have hv':(yu lo n)[i]?=some v:=hv;rw[Zs]at hv';split at hv'
  . rename_i hi
    cases hv';refine⟨hi,λz H3 ⟨e3,h3⟩=>⟨.inl e3,?_⟩⟩;subst h3;exact .l _
  . cases hv'
 a:=λρ2 H2 s2 i x hr _ hi=>by have:i=(yu lo n).length:=hi;rw[kl]at this;exact EI this.symm
theorem rS:∀{vs} {n i:Nat},(xI n vs)[i]?=(vs[i]?).map λv=>.f [.c ((n+i:Nat):Int),v]
 |[],_,_=>rfl
 |v::vs,n,0=>rfl
 |v::vs,n,i+1=>by show (xI (n+1) vs)[i]?=(vs[i]?).map _;rw[rS];rw[show n+1+i=n+(i+1) by omega]
theorem vY:∀{vs} {n},(xI n vs).length=vs.length
 |[],_=>rfl
 |v::vs,n=>by show (xI (n+1) vs).length+1=_;rw[vY];rfl
theorem dq(hz:vs.length<=zR)(n:ρ.no a)(e:H a=some (.c xs))(q:RDs K mg ρ H vs xs):Walk K mg ρ H ⟨xI 0 vs,none⟩ (L2.Ite K a) where
 b:=by show (xI 0 vs).length<=_;rw[vY];exact hz
 c:=λρ2 H2 s2 i v x hr _ hv=>by have e2:=(x.b a _ e n).1;have q2:=RDs.mv x q;have hv':(xI 0 vs)[i]?=some v:=hv;rw[rS,A4]at hv';obtain⟨w,h0,rfl⟩:=hv';obtain⟨y,h1,h2⟩:=q2.get h0;refine⟨⟨xs,y,.of e2,h1⟩,λz H3 ⟨t,y',ht,e3,h3,e4⟩=>⟨.inr ⟨t,_,ht,e4⟩,?_⟩⟩;subst e3 e4;have:=h3 xs (.of e2);rw[h1]at this;cases this;have X:=Ext.new hr ht (.c [.d ((i:Nat):Int),y]);refine .m (hr.new ht) L2.zN (.a ?_ (.a (h2.mono X) .d));rw[FT];exact .l _
 a:=λρ2 H2 s2 i x hr _ hi=>⟨xs,.of (x.b a _ e n).1,by rw[<-q.length,hi];exact vY.symm⟩
theorem gB(hz:vs.length<=zR)(n:ρ.no a)(e:H a=some (.b xs))(q:RDs K mg ρ H vs xs):Walk K mg ρ H ⟨xI 0 vs,none⟩ (L2.Vt K a) where
 b:=by show (xI 0 vs).length<=_;rw[vY];exact hz
 c:=λρ2 H2 s2 i v x hr _ hv=>by have e2:=(x.b a _ e n).1;have q2:=RDs.mv x q;have hv':(xI 0 vs)[i]?=some v:=hv;rw[rS,A4]at hv';obtain⟨w,h0,rfl⟩:=hv';obtain⟨y,h1,h2⟩:=q2.get h0;refine⟨⟨xs,y,.of e2,h1⟩,λz H3 ⟨t,y',ht,e3,h3,e4⟩=>⟨.inr ⟨t,_,ht,e4⟩,?_⟩⟩;subst e3 e4;have:=h3 xs (.of e2);rw[h1]at this;cases this;have X:=Ext.new hr ht (.c [.d ((i:Nat):Int),y]);refine .m (hr.new ht) L2.zN (.a ?_ (.a (h2.mono X) .d));rw[FT];exact .l _
 a:=λρ2 H2 s2 i x hr _ hi=>⟨xs,.of (x.b a _ e n).1,by rw[<-q.length,hi];exact vY.symm⟩
def tI(env:Env)(s:Sto)(o:Out Src):L2.TI:=λσ H R=>∃ρ,HR K mg ρ s H/\ER K mg ρ H env σ/\(match o with
 |.e r s'=>∀ρ' H' J,Ext ρ H ρ' H'->HR K mg ρ' s' H'->Walk K mg ρ' H' r J->R J H'
 |_=>False)
end
section
variable {X:L2.Cx}{env:Env}{s:Sto}{a b tg:Expr}
theorem tq{t t':L2.TI}(h:L2.PI X tg it t)(i:∀σ H R,t' σ H R->t σ H R):L2.PI X tg it t':=λpins s σ H R I q=>h pins s σ H R I (i σ H R q)
theorem yd{o:Out Src}(h:∀v s',o≠.e v s'):L2.PI X tg it (tI (K:=X.K) (mg:=X.d) env s o):=λpins sh σ H R I q=>by
 obtain⟨ρ,_,_,w⟩:=q;cases o with
 |e v s'=>exact(h v s' rfl).elim
 |g _ _ _=>exact w.elim
 |d=>exact w.elim
theorem cY.of(z:cY H){a}(q:RDs K mg ρ H vs xs)(h:H a=some (.c xs)\/H a=some (.b xs)):vs.length<=zR:=by rw[q.length,xG];exact z a xs h
theorem Um{o:Out Val}(h:L2.PE X a (tV X.K X.d env s o)):L2.PI X tg a (tI (K:=X.K) (mg:=X.d) env s (o.bind λv s1=>match srcOf s1 v with|some r=>.e r s1|dr=>.d)):=by
 cases o with
 |e v s1=>
  show L2.PI X tg a (tI (K:=X.K) (mg:=X.d) env s (match srcOf s1 v with|some r=>.e r s1|dr=>.d))
  cases v with
  |f vs=>
   refine tq (se (L2.Zd h)) λσ H R ⟨ρ,hr,er,w⟩=>⟨ρ,hr,er,λρ1 x H1 x1 hr1 r1=>?_⟩;cases r1 with
   |m n e q=>exact⟨_,rfl,⟨_,.of e⟩,λz=>w ρ1 H1 _ x1 hr1 (YQ (z.of q (.inl e)) n e q)⟩
  |j vs=>
   refine tq (se (L2.fA h)) λσ H R ⟨ρ,hr,er,w⟩=>⟨ρ,hr,er,λρ1 x H1 x1 hr1 r1=>?_⟩;cases r1 with
   |E n e q=>exact⟨_,rfl,⟨_,.of e⟩,λz=>w ρ1 H1 _ x1 hr1 (YN (z.of q (.inr e)) n e q)⟩
  |m ns=>
   refine tq (L2.Zd h) λσ H R ⟨ρ,hr,er,w⟩=>⟨ρ,hr,er,λρ1 x H1 x1 hr1 r1=>?_⟩;cases r1 with
   |p k=>exact⟨_,rfl,⟨_,k.sqt⟩,w ρ1 H1 _ x1 hr1 (dn k)⟩
  |k i=>
   simp only[srcOf];cases hs:s1[i]? with
   |none=>exact yd (zG rfl)
   |some cl=>
    cases cl with
    |c vs=>
     refine tq (se (L2.fA h)) λσ H R ⟨ρ,hr,er,w⟩=>⟨ρ,hr,er,λρ1 x H1 x1 hr1 r1=>?_⟩;cases r1 with
     |C e=>
      obtain⟨b',xs,e1,e2,q⟩:=hr1.obj i _ hs;rw[e]at e1;cases e1;exact⟨_,rfl,⟨_,.of e2⟩,λz=>w ρ1 H1 _ x1 hr1 (YO (z.of q (.inr e2)) e)⟩
    |_=>exact yd (zG rfl)
  |_=>exact yd (zG rfl)
 |g _ _ _=>exact yd (zG rfl)
 |d=>exact yd (zG rfl)
theorem eA{o:Out Val}{p pos:Pos}(hp:plain a=true)(hg:L2.Gl X "range")(hm:X.d "range"=none)(h:L2.PE X a (tV X.K X.d env s o)) :
 L2.PI X tg (.Call (.Name "range" p) [a] [] pos) (tI (K:=X.K) (mg:=X.d) env s (o.bind λx s1=>match x with
  |.c j=>if -(2 ^ 62)<=j/\j<=zR then .e ⟨yu 0 j.toNat,dr⟩ s1 else .d
  |_=>.d)):=by
 cases o with
 |e v s1=>
  have st:AI [a] X.a=[(false,eval a X.a)]:=L2.zg (zV hp);refine tq (L2.dC hg hm (L2.pac h L2.xK (zV hp)) st) λσ H R ⟨ρ,hr,er,w⟩=>⟨ρ,hr,er,λρ1 x H1 x1 hr1 r1=>?_⟩;cases r1 with
  |l j=>
   simp only[zO]at w;by_cases hz:-(2 ^ 62)<=j/\j<=zR
   . rw[if_pos hz]at w
     have hl:(zR:Int)<2 ^ 62:=by decide
     exact⟨j,rfl,hz.1,by omega,w ρ1 H1 _ x1 hr1 (jK (by omega))⟩
   . rw[if_neg hz]at w;exact w.elim
  |_=>exact w.elim
 |g _ _ _=>exact yd (zG rfl)
 |d=>exact yd (zG rfl)
theorem eB{o:Out Val}{f2:Sto->Out Val}{p pos:Pos}(hp:plain a=true)(hp2:plain b=true)(hg:L2.Gl X "range")(hm:X.d "range"=none)(h:L2.PE X a (tV X.K X.d env s o))(h2:∀s1,L2.PE X b (tV X.K X.d env s1 (f2 s1))) :
 L2.PI X tg (.Call (.Name "range" p) [a,b] [] pos) (tI (K:=X.K) (mg:=X.d) env s (o.bind λx s1=>(f2 s1).bind λy s2=>match x,y with
  |.c i,.c j=>if -(2 ^ 62)<=i/\i<2 ^ 62∧-(2 ^ 62)<=j/\j<2 ^ 62/\j-i<=zR then .e ⟨yu i (j-i).toNat,dr⟩ s2 else .d
  |_,_=>.d)):=by
 cases o with
 |e v s1=>
  have h2':=h2 s1;simp only[zO];cases hb:f2 s1 with
  |e w s2=>
   rw[hb]at h2';have st2:AI [b] X.a=[(false,eval b X.a)]:=L2.zg (zV hp2);have st:AI [a,b] X.a=[(false,eval a X.a),(false,eval b X.a)]:=by rw[L2.zg (zV hp),st2]
   refine tq (L2.dD hg hm (L2.pac h (L2.pac h2' L2.xK (zV hp2)) (zV hp)) st st2) λσ H R ⟨ρ,hr,er,wt⟩=>⟨ρ,hr,er,λρ1 x H1 x1 hr1 r1=>⟨ρ1,hr1,er.mono x1,λρ2 y H2 x2 hr2 r2=>?_⟩⟩;simp only[zO]at wt;cases r1 with
   |l i=>
    cases r2 with
    |l j=>
     simp only at wt;by_cases hz:-(2 ^ 62)<=i/\i<2 ^ 62∧-(2 ^ 62)<=j/\j<2 ^ 62/\j-i<=zR
     . rw[if_pos hz]at wt
       exact⟨i,j,rfl,⟨hz.1,hz.2.1,hz.2.2.1,hz.2.2.2.1⟩,wt ρ2 H2 _ (x1.trans hr1 x2) hr2 (jK (by omega))⟩
     . rw[if_neg hz]at wt;exact wt.elim
    |_=>exact wt.elim
   |_=>exact wt.elim
  |g _ _ _=>exact yd (zG rfl)
  |d=>exact yd (zG rfl)
 |g _ _ _=>exact yd (zG rfl)
 |d=>exact yd (zG rfl)
theorem Xc{es:List Expr}{k:Nat}{o:Out Val}{p pos tp:Pos}(hp:plain a=true)(hg:L2.Gl X "enumerate")(hm:X.d "enumerate"=none)(h:L2.PE X a (tV X.K X.d env s o)) :
 L2.PI X (.Tuple es k tp) (.Call (.Name "enumerate" p) [a] [] pos) (tI (K:=X.K) (mg:=X.d) env s (o.bind λv s1=>match v with
  |.f vs=>.e ⟨xI 0 vs,dr⟩ s1
  |.j vs=>.e ⟨xI 0 vs,dr⟩ s1
  |_=>.d)):=by
 cases o with
 |e v s1=>
  have st:AI [a] X.a=[(false,eval a X.a)]:=L2.zg (zV hp);refine tq (se (L2.WM hg hm (L2.pac h L2.xK (zV hp)) st)) λσ H R ⟨ρ,hr,er,w⟩=>⟨ρ,hr,er,λρ1 x H1 x1 hr1 r1=>?_⟩;cases r1 with
  |m n e q=>exact⟨_,rfl,.inl ⟨⟨_,.of e⟩,λz=>w ρ1 H1 _ x1 hr1 (dq (z.of q (.inl e)) n e q)⟩⟩
  |E n e q=>exact⟨_,rfl,.inr ⟨⟨_,.of e⟩,λz=>w ρ1 H1 _ x1 hr1 (gB (z.of q (.inr e)) n e q)⟩⟩
  |_=>exact w.elim
 |g _ _ _=>exact yd (zG rfl)
 |d=>exact yd (zG rfl)
end
end M
end
section
namespace M
open PySem
def rJ(K:KF)(mg:Str->Option Value)(t:Tgt)(g:L2.TG):Prop:=∀(ρ:Own) (s:Sto) (H:L2.Hp) (v:Val) (x:L2.V) (env env':Env) (σ:L2.St) (Q:L2.St->L2.Hp->Prop),HR K mg ρ s H->RD K mg ρ H v x->ER K mg ρ H env σ->yt t v env=some env' ->
 (∀σ',ER K mg ρ H env' σ'->Q σ' H)->g x σ H Q
theorem rA:rJ K mg (.a i) (L2.wM i):=λρ s H v x env env' σ Q hr r er e q=>by
 cases e;exact q _ (er.set i r)
def mQ:List Nat->L2.TGs
 |[]=>L2.RW
 |i::is=>L2.VL (L2.wM i) (mQ is)
theorem nE:∀{is} {vs} {xs} {env} {σ},RDs K mg ρ H vs xs->ER K mg ρ H env σ->vs.length=is.length ->
 (∀σ',ER K mg ρ H ((is.zip vs).foldl (λe p=>e.set p.1 (some p.2)) env) σ'->Q σ' H)->mQ is xs σ H Q
 |[],[],_,env,σ,.d,er,_,q=>⟨rfl,q σ er⟩
 |[],_::_,_,_,_,_,_,h,_=>by cases h
 |_::_,[],_,_,_,_,_,h,_=>by cases h
 |i::is,v::vs,x::xs,env,σ,.a r rs,er,h,q=>⟨x,xs,rfl,nE rs (er.set i r) (by simpa using h) q⟩
theorem vk:rJ K mg (.b is) (L2.RY K is.length (mQ is)):=λρ s H v x env env' σ Q hr r er e q=>by
 simp only[yt]at e;split at e
 . split at e
   . rename_i hl
     cases e;cases r with
     |m n e q2=>exact⟨_,_,rfl,.of e,by rw[<-q2.length];exact hl,nE q2 er hl q⟩
   . cases e
 . cases e
noncomputable def yT(sc:Scope)(N:List Str):List Nat->List Expr->Bool
 |[],[]=>true
 |i::is,.Name x _::es=>decide (N[i]?=some x)&&(decide (sc.names.lookup x=some .local)||decide (sc.names.lookup x=some .cell))&&yT sc N is es
 |_,_=>false
def ckT(sc:Scope)(N:List Str):Tgt->Expr->Bool
 |.a i,.Name x _=>decide (N[i]?=some x)&&(decide (sc.names.lookup x=some .local)||decide (sc.names.lookup x=some .cell))
 |.b is,.Tuple es _ _=>yT sc N is es&&decide (es≠[])
 |_,_=>false
section
variable {X:L2.Cx}
structure Scp(sc:Scope)(N:List Str)(X:L2.Cx):Prop where
 b:X.N=N
 d:N.Nodup
 e:∀x,sc.names.lookup x=some .local\/sc.names.lookup x=some .cell\/sc.names.lookup x=some .free->L2.Vis X.a.scope x
 c:∀x,sc.names.lookup x=some .local\/sc.names.lookup x=some .cell->L2.Loc X.a.scope x/\(X.n x=true\/X.a.scope.names.lookup x=some .local)
 a:∀x,sc.names.lookup x=some .globalImplicit->L2.Gl X x
 f:∀x,sc.names.lookup x=some .cell\/sc.names.lookup x=some .free->X.a.kindOf x=some .cell\/X.a.kindOf x=some .free
theorem nJ(S:Scp sc N X)(h1:N[i]?=some x)(h2:sc.names.lookup x=some .local\/sc.names.lookup x=some .cell):L2.PG X (.Name x p) (L2.wM i):=by obtain⟨a,b⟩:=S.c x h2;exact L2.WK (by rw[S.b];exact S.d) (by rw[S.b];exact h1) a b
theorem wH(S:Scp sc N X):∀{is} {es},yT sc N is es=true->L2.PGs X es (mQ is)/\(CG es X.a).length=is.length/\(CG es X.a).findIdx? (·.1)=none
 |[],[],_=>⟨L2.WL,rfl,rfl⟩
 |[],_::_,h=>by cases h
 |_::_,[],h=>by cases h
 |i::is,e::es,h=>by
  cases e with
  |Name x p=>
   simp only[yT,cf,Ay,decide_eq_true_eq]at h;obtain⟨a,b,c⟩:=wH S h.2;refine⟨L2.Zc (nJ S h.1.1 h.1.2) a,?_,?_⟩
   . show (CG es X.a).length+1=is.length+1
     rw[b]
   . show List.findIdx? (·.1) ((false,assign (.Name x p) X.a)::CG es X.a)=none
     rw[List.findIdx?_cons];simp only[A3,if_false];rw[c];rfl
  |_=>cases h
theorem Qd(S:Scp sc N X)(hc:X.h=true)(h:ckT sc N t e=true):∃g,L2.PG X e g/\rJ X.K X.d t g:=by
 cases t with
 |a i=>
  cases e with
  |Name x p=>
   simp only[ckT,cf,Ay,decide_eq_true_eq]at h;exact⟨_,nJ S h.1 h.2,rA⟩
  |_=>cases h
 |b is=>
  cases e with
  |Tuple es k p=>
   simp only[ckT,cf,decide_eq_true_eq]at h;obtain⟨a,b,c⟩:=wH S h.1;exact⟨_,L2.rl hc a b c,vk⟩
  |_=>cases h
end
structure Lp(acc:Addr)(ρ:Own)(H:L2.Hp)(ρ':Own)(H':L2.Hp):Prop where
 f:∃new:List Addr,ρ'.o=ρ.o++new/\∀a∈new,H a=none
 c:ρ'.h=acc::ρ.h
 d:∀(a:Addr) (o:L2.HO),H a=some o->a ∉ ρ.o->H' a=some o
 g:∀a∈ρ.o,hk (H' a)=hk (H a)
section
variable {K:KF}{mg:Str->Option Value}{ρ ρ1 ρ2:Own}{H H1 H2:L2.Hp}{s s1:Sto}{acc:Addr}
noncomputable def Own.hide(ρ:Own)(acc:Addr):Own:=⟨ρ.o,acc::ρ.h⟩
theorem mT(hr:HR K mg ρ s H)(hn:H acc=none)o:Mv ρ H (ρ.hide acc) (L2.upd H acc o):=
 ⟨λa u e n=>⟨by rw[L2.zL (L2.zU e hn)];exact e,n.1,λhm=>by
  rcases Af.mp hm with z|z
  . exact L2.zU e hn z
  . exact n.2 z⟩,λi a e=>e,λa ha=>by rw[L2.zL λz=>(hr.new hn).1 (by rw[<-z];exact ha)]⟩
theorem HR.hide(hr:HR K mg ρ s H)(hn:H acc=none):HR K mg (ρ.hide acc) s (L2.upd H acc (.b xs)):=by
 refine⟨hr.f,hr.v,λi c e=>?_,λa ha=>?_⟩
 . obtain⟨a,e1,q⟩:=hr.m i c e
   obtain⟨o,e2⟩:=q.there;exact⟨a,e1,q.mv (mT hr hn _) (L2.zL (L2.zU e2 hn))⟩
 . rcases Af.mp ha with z|z
   . subst z;exact⟨⟨xs,L2.zN⟩,(hr.new hn).1⟩
   . obtain⟨⟨ys,e⟩,n⟩:=hr.d a z
     exact⟨⟨ys,by rw[L2.zL (L2.zU e hn)];exact e⟩,n⟩
theorem Lp.start(hr:HR K mg ρ s H)(hn:H acc=none)o:Lp acc ρ H (ρ.hide acc) (L2.upd H acc o):=
 ⟨⟨[],by simp[Own.hide],λa ha=>by cases ha⟩,rfl,λa u e _=>by rw[L2.zL (L2.zU e hn)];exact e,(mT hr hn o).d⟩
theorem Lp.step(l:Lp acc ρ H ρ1 H1)(hr:HR K mg ρ1 s1 H1)(x:Ext ρ1 H1 ρ2 H2):Lp acc ρ H ρ2 H2:=by
 obtain⟨new,e1,hn⟩:=l.f;obtain⟨new2,e2,hn2⟩:=x.d;refine⟨⟨new++new2,by rw[e2,e1,Bt],λa ha=>?_⟩,x.f.trans l.c,λa o e n=>x.c a o (l.d a o e n) ?_,λa ha=>(x.g a (by rw[e1];exact Bv _ ha)).trans (l.g a ha)⟩
 . rcases AX.mp ha with ha|ha
   . exact hn a ha
   . cases q:H a with
     |none=>rfl
     |some o=>
      by_cases hm:a∈ρ.o
      . obtain⟨xs,e⟩:=hr.trk (a:=a) (by rw[e1];exact Bv _ hm)
        rw[hn2 a ha]at e;cases e
      . have:=l.d a o q hm
        rw[hn2 a ha]at this;cases this
 . rw[e1]
   intro hm;rcases AX.mp hm with hm|hm
   . exact n hm
   . rw[hn a hm]at e;cases e
theorem Lp.emit(l:Lp acc ρ H ρ1 H1)(hr:HR K mg ρ1 s1 H1)(hn:H acc=none)o:Lp acc ρ H ρ1 (L2.upd H1 acc o):=
 ⟨l.f,l.c,λa u e n=>by rw[L2.zL (L2.zU e hn)];exact l.d a u e n,λa ha=>by
  obtain⟨new,e1,_⟩:=l.f;rw[L2.zL λz=>(hr.d acc (by rw[l.c];exact Ar)).2 (by rw[<-z,e1];exact Bv _ ha)]
  exact l.g a ha⟩
theorem Lp.here(l:Lp acc ρ H ρ1 H1):acc∈ρ1.h:=by rw[l.c];exact Ar
theorem gZ(hr:HR K mg ρ1 s1 H1)(ha:acc∈ρ1.h)o:Mv ρ1 H1 ρ1 (L2.upd H1 acc o):=
 ⟨λa u e n=>⟨by rw[L2.zL (λz=>n.2 (by rw[z];exact ha))];exact e,n⟩,λi a e=>e,λa h=>by rw[L2.zL λz=>(hr.d acc ha).2 (by rw[<-z];exact h)]⟩
theorem HR.emit(hr:HR K mg ρ1 s1 H1)(ha:acc∈ρ1.h):HR K mg ρ1 s1 (L2.upd H1 acc (.b xs)):=by
 have hno:=(hr.d acc ha).2;refine⟨hr.f,hr.v,λi c e=>?_,λa hm=>?_⟩
 . obtain⟨a,e1,q⟩:=hr.m i c e
   exact⟨a,e1,q.mv (gZ hr ha _) (L2.zL (λz=>hno (by rw[<-z];exact AA e1)))⟩
 . obtain⟨⟨ys,e⟩,n⟩:=hr.d a hm
   by_cases z:a=acc
   . subst z;exact⟨⟨xs,L2.zN⟩,n⟩
   . exact⟨⟨ys,by rw[L2.zL z];exact e⟩,n⟩
theorem Lp.done(l:Lp acc ρ H ρ1 H1)(h0:HR K mg ρ s H)(hn:H acc=none)(hr:HR K mg ρ1 s1 H1)(e:H1 acc=some (.b ys))(q:RDs K mg ρ1 H1 vs ys)(w:yq K mg (RD K mg) ρ H (newList m vs s1) Q):Q (.c acc) H1:=by
 have ha:=l.here;have hacc:=(hr.d acc ha).2;have hnh:=(h0.new hn).2;cases m with
 |false=>
  have mv:Mv ρ1 H1 ⟨ρ1.o,ρ.h⟩ H1:=⟨λa u e n=>⟨e,n.1,λz=>n.2 (by rw[l.c];exact Ah _ z)⟩,λi a e=>e,λ_ _=>rfl⟩
  refine w ⟨ρ1.o,ρ.h⟩ _ H1 ⟨l.f,rfl,l.d,l.g⟩ ⟨hr.f,hr.v,λi ws e=>?_,λa hm=>?_⟩ (.E ⟨hacc,hnh⟩ e (RDs.mv mv q))
  . obtain⟨a,e1,t⟩:=hr.m i ws e
    exact⟨a,e1,t.mv mv rfl⟩
  . exact hr.d a (by rw[l.c];exact Ah _ hm)
 |true=>
  have mv:Mv ρ1 H1 ⟨ρ1.o++[acc],ρ.h⟩ H1:=by
   refine⟨λa u e n=>⟨e,λhm=>?_,λz=>n.2 (by rw[l.c];exact Ah _ z)⟩,λi a e=>?_,λ_ _=>rfl⟩
   . rcases AX.mp hm with hm|hm
     . exact n.1 hm
     . rw[AF.mp hm]at n;exact n.2 ha
   . show (ρ1.o++[acc])[i]?=_
     rw[A1 (Aj.mp e).1];exact e
  have rf:(ρ1.o++[acc])[s1.length]?=some acc:=by rw[<-hr.f,BL (Ac _)];simp
  refine w ⟨ρ1.o++[acc],ρ.h⟩ _ H1 ⟨?_,rfl,l.d,l.g⟩ ⟨?_,?_,λi ws q'=>?_,λa hm=>?_⟩ (.C rf (by rw[e];rfl))
  . obtain⟨new,e1,hnew⟩:=l.f
    refine⟨new++[acc],by show ρ1.o++[acc]=_;rw[e1,Bt],λa hm=>?_⟩
    rcases AX.mp hm with hm|hm
    . exact hnew a hm
    . rw[AF.mp hm];exact hn
  . show (ρ1.o++[acc]).length=(s1++[Cel.c vs]).length
    rw[Am,Am,hr.f];rfl
  . show (ρ1.o++[acc]).Nodup
    rw[Fw];exact⟨hr.v,by simp,λa ha' b hb=>by rw[AF.mp hb];intro z;subst z;exact hacc ha'⟩
  . by_cases hi:i<s1.length
    . rw[A1 hi]at q'
      obtain⟨a,e1,t⟩:=hr.m i ws q';exact⟨a,mv.c i a e1,t.mv mv rfl⟩
    . have hi':i=s1.length:=by have:=(Aj.mp q').1;rw[Am]at this;simp at this;omega
      subst hi';rw[BL (Ac _)]at q';simp at q';subst q';exact⟨acc,rf,ys,e,RDs.mv mv q⟩
  . obtain⟨x,n⟩:=hr.d a (by rw[l.c];exact Ah _ hm)
    refine⟨x,λz=>?_⟩;rcases AX.mp z with z|z
    . exact n z
    . rw[AF.mp z]at hm;exact hnh hm
end
end M
end
section
namespace M
open PySem
section
variable {K:KF}{mg:Str->Option Value}
theorem lr{J:L2.It}{g:L2.TG}{tb:L2.TS}{D:L2.Ends}(Pv:Nat->L2.St->L2.Hp->Prop)(h0:Pv 0 σ H)(hd:∀σ H,Pv n σ H->J.a n H/\D.a σ H)
 (hs:∀i σ H,i<n->Pv i σ H->J.c i H/\∀x H',J.b i H x H'->g x σ H' λσ2 H2=>tb {D with a:=Pv (i+1),d:=Pv (i+1),c:=D.a} σ2 H2):L2.nM J g tb D σ H:=by
 refine⟨λi m σ H=>m=n-i/\i<=n/\Pv i σ H,⟨n,by simp,A9 _,h0⟩,?_⟩
 rintro i m σ H ⟨rfl,hi,p⟩;by_cases hlt:i<n
 . obtain⟨a,b⟩:=hs i σ H hlt p
   exact .inr ⟨a,Pv (i+1),λσ' H' p'=>⟨n-(i+1),by omega,rfl,hlt,p'⟩,b⟩
 . have e:i=n:=by omega
   subst e;exact .inl (hd σ H p)
structure CS(K:KF)(mg:Str->Option Value)(acc:Addr)(ρ0:Own)(H0:L2.Hp)(a:List Val)(s:Sto)(env:Env)(ρ:Own)(σ:L2.St)(H:L2.Hp):Prop where
 d:Lp acc ρ0 H0 ρ H
 b:HR K mg ρ s H
 c:ER K mg ρ H env σ
 e:∃ys,H acc=some (.b ys)/\RDs K mg ρ H a ys
def Grows(body:Env->Sto->List Val->Out (List Val × Env)):Prop:=∀e s a p s',body e s a=.e p s'->a.length<=p.1.length
theorem uW(hb:Grows body):∀{xs} {env} {s} {a} {p} {s'},yl r t body xs env s a=.e p s'->a.length<=p.1.length
 |[],env,s,a,p,s',h=>by
  rw[yl]at h;split at h
  . cases h;exact Ac _
  . cases h
 |x::xs,env,s,a,p,s',h=>by
  rw[yl]at h;split at h
  . split at h
    . cases h
    . rename_i env' he
      cases hc:body env' s a with
      |e q s1=>
       rw[hc]at h;exact Au (hb _ _ _ _ _ hc) (uW hb h)
      |g _ _ _=>rw[hc]at h;cases h
      |d=>rw[hc]at h;cases h
  . cases h
def BodyOk(K:KF)(mg:Str->Option Value)(acc:Addr)(ρ0:Own)(H0:L2.Hp)(body:Env->Sto->List Val->Out (List Val × Env))(tb:L2.TS):Prop:=
 ∀(ρ:Own) (s:Sto) (H:L2.Hp) (env:Env) (σ:L2.St) (a:List Val) (p:List Val × Env) (s':Sto) (D:L2.Ends),CS K mg acc ρ0 H0 a s env ρ σ H->body env s a=.e p s'->p.1.length<=zR ->
  (∀ρ' H' σ',CS K mg acc ρ0 H0 p.1 s' p.2 ρ' σ' H'->Mv ρ H ρ' H'->D.a σ' H')->tb D σ H
theorem vX
   (W:Walk K mg ρ H r J) (TG:rJ K mg t g) (hg:Grows body) (hb:BodyOk K mg acc ρ0 H0 body tb)
 (C:CS K mg acc ρ0 H0 a s env ρ σ H) (h:yl r t body r.a env s a=.e p sf) (hz:p.1.length<=zR) (fin:∀ρ' H' σ',CS K mg acc ρ0 H0 p.1 sf p.2 ρ' σ' H'->Mv ρ H ρ' H'->D.a σ' H'):L2.nM J g tb D σ H:=by
 refine lr (n:=r.a.length) (λi σ2 H2=>∃ρ2 s2 env2 a2,CS K mg acc ρ0 H0 a2 s2 env2 ρ2 σ2 H2/\Mv ρ H ρ2 H2/\yl r t body (r.a.drop i) env2 s2 a2=.e p sf) ⟨ρ,s,env,a,C,Mv.refl,by rw[EO];exact h⟩ ?_ ?_
 . rintro σ2 H2 ⟨ρ2,s2,env2,a2,C2,mv,h2⟩
   rw[List.drop_length,yl]at h2;split at h2
   . rename_i ho
     cases h2;exact⟨W.a ρ2 H2 _ _ mv C2.b ho rfl,fin ρ2 H2 σ2 C2 mv⟩
   . cases h2
 . rintro i σ2 H2 hi ⟨ρ2,s2,env2,a2,C2,mv,h2⟩
   rw[FE hi,yl]at h2;split at h2
   . rename_i ho
     obtain⟨hgo,hy⟩:=W.c ρ2 H2 s2 i (r.a[i]) mv C2.b ho (xd hi);refine⟨hgo,λx H3 y=>?_⟩;obtain⟨hH,rx⟩:=hy x H3 y;split at h2
     . cases h2
     . rename_i env' he
       -- the item is there: perhaps a new thing
       have C3:CS K mg acc ρ0 H0 a2 s2 env2 ρ2 σ2 H3/\Mv ρ2 H2 ρ2 H3:=by
        rcases hH with e|⟨q,o,hq,e⟩
        . subst e;exact⟨C2,Mv.refl⟩
        . subst e
          have X:=Ext.new C2.b hq o;refine⟨⟨C2.d.step C2.b X,C2.b.more hq o,C2.c.mono X,?_⟩,X.mv⟩;obtain⟨ys,e1,e2⟩:=C2.e;exact⟨ys,by rw[L2.zL (L2.zU e1 hq)];exact e1,e2.mono X⟩
       refine TG ρ2 s2 H3 _ x env2 env' σ2 _ C3.1.b rx C3.1.c he λσ4 er4=>?_;cases hc:body env' s2 a2 with
       |e q s5=>
        rw[hc]at h2;have hlen:q.1.length<=zR:=Au (uW hg h2) hz;exact hb ρ2 s2 H3 env' σ4 a2 q s5 _ ⟨C3.1.d,C3.1.b,er4,C3.1.e⟩ hc hlen λρ5 H5 σ5 C5 mv5=>⟨ρ5,s5,q.2,q.1,C5,(mv.trans C3.2).trans mv5,h2⟩
       |g _ _ _=>rw[hc]at h2;cases h2
       |d=>rw[hc]at h2;cases h2
   . cases h2
end
section
variable (K:KF)(mg:Str->Option Value)(Φ:Calls)(G:Str->Option Val)
def uE(e:Ex):L2.TE:=λσ H Q=>∃env s,tV K mg env s (evE Φ G env e s) σ H Q
def uT(e:Cn):L2.TT:=λσ H Q=>∃env s,tT K mg env s (evT Φ G env e s) σ H Q
def uI(it:Itb):L2.TI:=λσ H R=>∃env s,tI (K:=K) (mg:=mg) env s (yk Φ G env it s) σ H R
noncomputable def uTs:Cns->List L2.TT
 |.b=>[]
 |.a e es=>uT K mg Φ G e::uTs es
end
section
variable {K:KF}{mg:Str->Option Value}{Φ:Calls}{G:Str->Option Val}
theorem WJ(h:∀env s,L2.PE X E (tV X.K X.d env s (evE Φ G env e s))):L2.PE X E (uE X.K X.d Φ G e):=λpins s σ H Q I ⟨env,t,q⟩=>h env t pins s σ H Q I q
theorem Pu(h:∀env s,L2.PT X E (tT X.K X.d env s (evT Φ G env e s))):L2.PT X E (uT X.K X.d Φ G e):=λpins s σ H Q I ⟨env,t,q⟩=>h env t pins s σ H Q I q
theorem iL(h:∀env s,L2.PI X tg E (tI (K:=X.K) (mg:=X.d) env s (yk Φ G env it s))):L2.PI X tg E (uI X.K X.d Φ G it):=λpins s σ H Q I ⟨env,t,q⟩=>h env t pins s σ H Q I q
theorem pq:∀{es} {ρ} {s} {H},HR K mg ρ s H->ER K mg ρ H env σ->xJ Φ G env es s=.e b s2 ->
 (∀ρ' H',Ext ρ H ρ' H'->HR K mg ρ' s2 H'->Q b H')->L2.lF (uTs K mg Φ G es) σ H Q
 |.b,ρ,s,H,hr,er,h,q=>by
  rw[xJ]at h;cases h;exact q ρ H Ext.refl hr
 |.a e es,ρ,s,H,hr,er,h,q=>by
  rw[xJ]at h;refine⟨env,s,ρ,hr,er,?_⟩;cases hc:evT Φ G env e s with
  |e c s1=>
   rw[hc]at h;intro ρ1 c' H1 x1 hr1 e1;cases e1;cases c with
   |true=>exact L2.oJ (pq hr1 (er.mono x1) h λρ' H' x' hr'=>q ρ' H' (x1.trans hr1 x') hr')
   |false=>
    simp only[zO]at h;cases h;exact L2.rY (q ρ1 H1 x1 hr1)
  |g _ _ _=>rw[hc]at h;cases h
  |d=>rw[hc]at h;cases h
def tP(Φ:Calls)(G:Str->Option Val)(elt:Ex)(ifs:Cns):Env->Sto->List Val->Out (List Val × Env):=λe s' acc=>(xJ Φ G e ifs s').bind λb s2=>if b then (evE Φ G e elt s2).bind λv s3=>.e (acc++[v],e) s3 else .e (acc,e) s2
theorem vM:Grows (tP Φ G elt ifs):=by
 intro e s a p s' h;unfold tP at h;cases hc:xJ Φ G e ifs s with
 |e b s1=>
  rw[hc]at h;cases b with
  |true=>
   simp only[zO,if_true]at h;cases hv:evE Φ G e elt s1 with
   |e v s2=>rw[hv]at h;cases h;simp
   |g _ _ _=>rw[hv]at h;cases h
   |d=>rw[hv]at h;cases h
  |false=>simp only[zO]at h;cases h;exact Ac _
 |g _ _ _=>rw[hc]at h;cases h
 |d=>rw[hc]at h;cases h
theorem oB(hn:H0 acc=none):BodyOk K mg acc ρ0 H0 (tP Φ G elt ifs) (L2.tTB (uTs K mg Φ G ifs) (L2.tN acc (uE K mg Φ G elt))):=by
 intro ρ s H env σ a p s' D C h hz q;unfold tP at h;cases hc:xJ Φ G env ifs s with
 |e b s1=>
  rw[hc]at h;refine pq (ρ:=ρ) (s:=s) C.b C.c hc λρ1 H1 x1 hr1=>?_;have hacc1:∃ys,H1 acc=some (.b ys)/\RDs K mg ρ1 H1 a ys:=by obtain⟨ys,e1,e2⟩:=C.e;exact⟨ys,x1.c _ _ e1 (C.b.d acc C.d.here).2,e2.mono x1⟩
  cases b with
  |true=>
   simp only[zO,if_true]at h;refine L2.oJ ⟨env,s1,ρ1,hr1,C.c.mono x1,?_⟩;cases hv:evE Φ G env elt s1 with
   |e v s2=>
    rw[hv]at h;cases h;intro ρ2 y H2 x2 hr2 r2;have xx:=x1.trans hr1 x2;have lp2:=C.d.step C.b xx;obtain⟨ys,e1,e2⟩:=hacc1;have e3:H2 acc=some (.b ys):=x2.c _ _ e1 (hr1.d acc (C.d.step C.b x1).here).2;have e4:=e2.mono x2;have hl:ys.length<Av:=by have h1:(a++[v]).length<=zR:=hz;rw[Am,e2.length,xG]at h1;simp at h1;omega
    have mv2:=gZ (H1:=H2) hr2 lp2.here (.b (ys++[y]));refine⟨ys,e3,hl,q ρ2 _ σ ⟨lp2.emit hr2 hn _,hr2.emit lp2.here,⟨C.c.b,λi v' e'=>?_⟩,⟨_,L2.zN,RDs.mv mv2 (e4.append (.a r2 .d))⟩⟩ (xx.mv.trans mv2)⟩;obtain⟨u,h1,h2⟩:=(C.c.mono xx).a i v' e';exact⟨u,h1,RD.mv mv2 h2⟩
   |g _ _ _=>rw[hv]at h;cases h
   |d=>rw[hv]at h;cases h
  |false=>
   simp only[zO]at h;cases h;exact L2.rY (q ρ1 H1 σ ⟨C.d.step C.b x1,hr1,C.c.mono x1,hacc1⟩ x1.mv)
 |g _ _ _=>rw[hc]at h;cases h
 |d=>rw[hc]at h;cases h
def qC(Φ:Calls)(G:Str->Option Val)(elt:Ex)(ifs:Cns)(t2:Tgt)(it2:Itb)(ifs2:Cns):Env->Sto->List Val->Out (List Val × Env):=λe s' acc=>(xJ Φ G e ifs s').bind λb s2=>if b then (yk Φ G e it2 s2).bind λr2 s3=>
 yl r2 t2 (tP Φ G elt ifs2) r2.a e s3 acc
 else .e (acc,e) s2
theorem rC:Grows (qC Φ G elt ifs t2 it2 ifs2):=by
 intro e s a p s' h;unfold qC at h;cases hc:xJ Φ G e ifs s with
 |e b s1=>
  rw[hc]at h;cases b with
  |true=>
   simp only[zO,if_true]at h;cases hv:yk Φ G e it2 s1 with
   |e v s2=>rw[hv]at h;exact uW vM h
   |g _ _ _=>rw[hv]at h;cases h
   |d=>rw[hv]at h;cases h
  |false=>simp only[zO]at h;cases h;exact Ac _
 |g _ _ _=>rw[hc]at h;cases h
 |d=>rw[hc]at h;cases h
theorem ni(hn:H0 acc=none)(TG:rJ K mg t2 g2) :
 BodyOk K mg acc ρ0 H0 (qC Φ G elt ifs t2 it2 ifs2) (L2.tTB (uTs K mg Φ G ifs) (L2.pj (uI K mg Φ G it2) g2 (uTs K mg Φ G ifs2) (L2.tN acc (uE K mg Φ G elt)))):=by
 intro ρ s H env σ a p s' D C h hz q;unfold qC at h;cases hc:xJ Φ G env ifs s with
 |e b s1=>
  rw[hc]at h;refine pq (ρ:=ρ) (s:=s) C.b C.c hc λρ1 H1 x1 hr1=>?_;have hacc1:∃ys,H1 acc=some (.b ys)/\RDs K mg ρ1 H1 a ys:=by obtain⟨ys,e1,e2⟩:=C.e;exact⟨ys,x1.c _ _ e1 (C.b.d acc C.d.here).2,e2.mono x1⟩
  have lp1:=C.d.step C.b x1;cases b with
  |true=>
   simp only[zO,if_true]at h;refine L2.oJ ⟨env,s1,ρ1,hr1,C.c.mono x1,?_⟩;cases hv:yk Φ G env it2 s1 with
   |e r2 s2=>
    rw[hv]at h;intro ρ2 H2 J x2 hr2 W;have xx:=x1.trans hr1 x2;obtain⟨ys,e1,e2⟩:=hacc1;have e3:H2 acc=some (.b ys):=x2.c _ _ e1 (hr1.d acc lp1.here).2;exact vX W TG vM (oB hn) ⟨lp1.step hr1 x2,hr2,C.c.mono xx,⟨ys,e3,e2.mono x2⟩⟩ h hz λρ3 H3 σ3 C3 mv3=>q ρ3 H3 σ3 C3 (xx.mv.trans mv3)
   |g _ _ _=>rw[hv]at h;cases h
   |d=>rw[hv]at h;cases h
  |false=>
   simp only[zO]at h;cases h;exact L2.rY (q ρ1 H1 σ ⟨lp1,hr1,C.c.mono x1,hacc1⟩ x1.mv)
 |g _ _ _=>rw[hc]at h;cases h
 |d=>rw[hc]at h;cases h
theorem da(er:ER K mg ρ H env σ)fr:ER K mg ρ H (ze fr env) (L2.ze fr σ):=by
 refine⟨by unfold ze L2.ze;rw[Aa,Aa],λi v e=>?_⟩
 unfold ze at e;unfold L2.ze;rw[AG]at e ⊢;cases hf:fr[i]? with
 |none=>rw[hf]at e;cases e
 |some o=>
  rw[hf]at e;cases o with
  |none=>cases e
  |some j=>
   have e':(env[j]?).join=some v:=Aw e;have e2:env[j]?=some (some v):=by
    cases h1:env[j]? with
    |none=>rw[h1]at e';cases e'
    |some w=>rw[h1]at e';have:w=some v:=e';rw[this]
   obtain⟨x,h1,h2⟩:=er.a j v e2;refine⟨x,?_,h2⟩;show some ((σ[j]?).join)=_;rw[h1];rfl
theorem uq(TG:rJ K mg t g)(hg:Grows body)
 (hb:∀acc ρ0 H0,H0 acc=none->BodyOk K mg acc ρ0 H0 body (L2.tTB ts (tb acc)))    
 (h:tV K mg env s ((yk Φ G env it s).bind λr s1=>(yl r t body r.a (ze fr env) s1 []).bind λp s2=>if chk=true->p.1.length<=zR then newList m p.1 s2 else .d) σ H Q)
 (hlen:chk=false->∀r s1 p s2,yl r t body r.a (ze fr env) s1 []=.e p s2->p.1.length<=r.a.length):L2.uf fr (uI K mg Φ G it) g ts tb σ H Q:=by
 obtain⟨ρ,hr,er,w⟩:=h;refine⟨env,s,ρ,hr,er,?_⟩;cases hi:yk Φ G env it s with
 |e r s1=>
  rw[hi]at w;simp only[zO]at w;intro ρ1 H1 J x1 hr1 W acc hacc;cases hl:yl r t body r.a (ze fr env) s1 [] with
  |e p s2=>
   rw[hl]at w;simp only[zO]at w;have hz:p.1.length<=zR/\yq K mg (RD K mg) ρ H (newList m p.1 s2) Q:=by
    by_cases hc:chk=true->p.1.length<=zR
    . rw[if_pos hc]at w
      refine⟨?_,w⟩;cases chk with
      |true=>exact hc rfl
      |false=>exact Au (hlen rfl r s1 p s2 hl) W.b
    . rw[if_neg hc]at w;exact w.elim
   have mv:=mT (ρ:=ρ1) hr1 hacc (.b []);have ers:=da (er.mono x1) fr;refine vX (ρ0:=ρ1) (H0:=H1) (W.mv mv) TG hg (hb acc ρ1 H1 hacc) ⟨Lp.start hr1 hacc _,hr1.hide hacc,⟨ers.b,λi v e=>?_⟩,⟨[],L2.zN,.d⟩⟩ hl hz.1 λρ3 H3 σ3 C3 _=>?_
   . obtain⟨x,h1,h2⟩:=ers.a i v e
     exact⟨x,h1,RD.mv mv h2⟩
   . obtain⟨ys,e1,e2⟩:=C3.e
     exact C3.d.done hr1 hacc C3.b e1 e2 (hz.2.mono x1 hr1)
  |g _ _ _=>rw[hl]at w;exact w.elim
  |d=>rw[hl]at w;exact w.elim
 |g _ _ _=>rw[hi]at w;exact w.elim
 |d=>rw[hi]at w;exact w.elim
theorem qD:∀{xs} {env} {s} {a} {p} {s'},yl r t (tP Φ G elt ifs) xs env s a=.e p s'->p.1.length<=a.length+xs.length
 |[],env,s,a,p,s',h=>by
  rw[yl]at h;split at h
  . cases h;exact Ac _
  . cases h
 |x::xs,env,s,a,p,s',h=>by
  rw[yl]at h;split at h
  . split at h
    . cases h
    . rename_i env' he
      cases hc:tP Φ G elt ifs env' s a with
      |e q s1=>
       rw[hc]at h;have h1:=qD h;have h2:q.1.length<=a.length+1:=by
        unfold tP at hc;cases h3:xJ Φ G env' ifs s with
        |e b s2=>
         rw[h3]at hc;cases b with
         |true=>
          simp only[zO,if_true]at hc;cases h4:evE Φ G env' elt s2 with
          |e v s3=>rw[h4]at hc;cases hc;simp
          |g _ _ _=>rw[h4]at hc;cases hc
          |d=>rw[h4]at hc;cases hc
         |false=>simp only[zO]at hc;cases hc;exact C7 _
        |g _ _ _=>rw[h3]at hc;cases hc
        |d=>rw[h3]at hc;cases hc
       rw[AK];omega
      |g _ _ _=>rw[hc]at h;cases h
      |d=>rw[hc]at h;cases h
  . cases h
end
end M
end
section
namespace M
open PySem PySem.W
def oF(K:KF)(mg:Str->Option Value)(ρ:Own)(H:L2.Hp)(x:qk)(E:L2.XK):Prop:=match x with
 |some (c,_,s')=>∀ρ' H',Ext ρ H ρ' H'->HR K mg ρ' s' H'->∀C,mg c=some (.ref C)->E (.ref C) none H'
 |dr=>False
def spX(T:Tbl)(K:KF)(mg:Str->Option Value)(n:Nat)(f:Str)(ver:Nat):L2.Sp:=λvs H Q E=>∃ρ s args,HR K mg ρ s H/\RDs K mg ρ H args vs/\(yq K mg (RD K mg) ρ H (zF T n f ver args s) Q\/oF K mg ρ H (zl T n f ver args s) E)
structure Sc(T:Tbl)(K:KF)(mg:Str->Option Value):Prop where
 ex:∃(kx:Str) (cs ws:List Str) (pre:Option Str) (hue:Addr),mg "HueError"=some (.ref hue)/\L2.nv K mg kx cs ws pre/\(∀b,T.c b=true->∃f,L2.cU K mg b kx f) /\
  (∀c w,T.e.lookup c=some w->∃(C:Addr) (i:Nat) (x:Str),mg c=some (.ref C)/\(∃Kc,L2.oG Kc K/\exmOne Kc (.ref C) (.ref hue)=some true)/\L2.Named K mg cs C c/\cs[i]?=some c/\ws[i]?=some x/\w=L2.ans pre x/\w≠"great") /\
  ∀c w,T.e.lookup c=some w->∀base,K.In base->∃C,mg c=some (.ref C)/\L2.ClsAt base C (.ref hue::L2.veM)/\L2.ClsAt base hue L2.veM
 bm:∀base,K.In base->L2.Bm base mg
structure Lv(T:Tbl)(P:Program)(w:World)(K:KF)(mg:Str->Option Value)(base:Heap)(n:Nat):Prop where
 a:∀f v F,T.d f v=some F->∃fa fd,mg f=some (.ref fa)/\B4 K (.ref fa)=true/\L2.Binds K fd F.b []/\L2.sF P w K mg base L2.CX0 n fa fd F.b (spN T K mg n f v)/\L2.sF P w K mg base (L2.CXE P w) n fa fd F.b (spX T K mg n f v)
structure Sd(T:Tbl)(P:Program)(w:World)(K:KF)(mg:Str->Option Value)(base:Heap)(m:Nat):Prop where
 b:Sc T K mg
 a:∀j,j<=m->Lv T P w K mg base j
def Cod(T:Tbl)(X:L2.Cx):Prop:=∃g∈T.f,∃(fa c:Addr) (o:Obj) (fd:BQ),X.d g=some (.ref fa)/\X.K.lookup fa=some o/\o.data=.func fd/\fd.code=.ref c/\X.a.code=.ref c/\X.a.qual=g++(".<locals>.":Str)
theorem lx:∀{l} {s} {g},zf l s=true->g∈l->∃j:Nat,s[j]?=some (.d g)
 |[],_,_,_,h=>by cases h
 |x::r,[],_,h,_=>by cases h
 |x::r,c::s,g,h,hm=>by
  cases c with
  |d y=>
   rw[zf,cf,decide_eq_true_eq]at h;rcases Af.mp hm with z|z
   . subst z;rw[h.1];exact⟨0,rfl⟩
   . obtain⟨j,e⟩:=lx h.2 z
     exact⟨j+1,e⟩
  |_=>cases h
section
variable {K:KF}{mg:Str->Option Value}{ρ:Own}{H H':L2.Hp}{s:Sto}
theorem HR.Qx(h:HR K mg ρ s H)(sm:L2.wq H H'):HR K mg ρ s H'/\Ext ρ H ρ H':=by
 have X:Ext ρ H ρ H':=⟨⟨[],by simp,λa ha=>by cases ha⟩,rfl,λa o e _=>sm a o e,λa ha=>by obtain⟨o,e⟩:=h.trk ha;rw[e,sm a o e]⟩
 refine⟨⟨h.f,h.v,λi c e=>?_,λa ha=>?_⟩,X⟩
 . obtain⟨a,e1,r⟩:=h.m i c e
   obtain⟨o,e2⟩:=r.there;exact⟨a,e1,r.mv X.mv (by rw[e2,sm a o e2])⟩
 . obtain⟨⟨xs,e⟩,n⟩:=h.d a ha
   exact⟨⟨xs,sm _ _ e⟩,n⟩
theorem nY(h:DL l):l=[]\/∃i j t u c r,l=.int i t::.int j u::c::r/\DL r:=by
 unfold DL at h;split at h
 . exact .inl rfl
 . exact .inr ⟨_,_,_,_,_,_,rfl,h⟩
 . exact h.elim
theorem nX:∀n {l},l.length<=n->DL l->DL (l++[.int i t,.int j u,c])
 |n,l,hl,h=>by
  rcases nY h with rfl|⟨i',j',t',u',c',r,rfl,h'⟩
  . exact Be
  . cases n with
    |zero=>cases hl
    |succ n=>exact nX n (l:=r) (by simp only[AK]at hl;omega) h'
theorem ql:∀n {l},l.length<=n->DL l->DK pos (l++[.int i t,.int j u,c])=some cv->DK pos l=some cv\/cv=c
 |n,l,hl,h,e=>by
  rcases nY h with rfl|⟨i',j',t',u',c',r,rfl,h'⟩
  . have e':(if i == pos.line&&j == pos.col then some c else none)=some cv:=e
    split at e'
    . cases e';exact .inr rfl
    . cases e'
  . have e':(if i' == pos.line&&j' == pos.col then some c' else DK pos (r++[.int i t,.int j u,c]))=some cv:=e
    show (if i' == pos.line&&j' == pos.col then some c' else DK pos r)=some cv\/_
    cases n with
    |zero=>cases hl
    |succ n=>
     split at e'
     . rename_i z;rw[if_pos z];exact .inl e'
     . rename_i z;rw[if_neg z];exact ql n (l:=r) (by simp only[AK]at hl;omega) h' e'
theorem HR.lam{j:Nat}(h:HR K mg ρ s H)(hs:s[j]?=some (.d g))(hj:ρ.o[j]?=some P)(tr:RA K mg ρ H P g)(hP:H P=some (.g ps))(l:L2.Sy H P ps pos (U3 g) c H'):HR K mg ρ s H'/\Ext ρ H ρ H':=by
 rcases l with rfl|⟨o,vs,t,hf,hc,hd,hv,rfl⟩
 . exact⟨h,Ext.refl⟩
 . obtain⟨ps',e1,tok,among,fn⟩:=tr
   rw[hP]at e1;cases e1;have hcP:c≠P:=λz=>by rw[z,hP]at hc;cases hc
   have comm:L2.upd (L2.upd H P (.g (ps++#[rawInt pos.line,rawInt pos.col,.ref c]))) c (.e o (.d 0))=L2.upd (L2.upd H c (.e o (.d 0))) P (.g (ps++#[rawInt pos.line,rawInt pos.col,.ref c])):=by
    funext b;unfold L2.upd;by_cases z1:b=c
    . subst z1;rw[if_pos rfl,if_neg hcP,if_pos rfl]
    . rw[if_neg z1]
      by_cases z2:b=P
      . rw[if_pos z2,if_pos z2]
      . rw[if_neg z2,if_neg z2,if_neg z1]
   rw[comm];have h1:=h.more hc (.e o (.d 0));have X1:=Ext.new h hc (.e o (.d 0));have hP1:L2.upd H c (.e o (.d 0)) P=some (.g ps):=by rw[L2.zL (Bu hcP)];exact hP
   have kk:hk (some (.g (ps++#[rawInt pos.line,rawInt pos.col,.ref c])))=hk (L2.upd H c (.e o (.d 0)) P):=by rw[hP1];rfl
   have X2:=Ext.qE h1 hj kk;have hnoc:ρ.no c:=h.new hc;have kc:∀b u,ρ.no b->H b=some u->L2.upd (L2.upd H c (.e o (.d 0))) P (.g (ps++#[rawInt pos.line,rawInt pos.col,.ref c])) b=some u:=λb u nb e=>X2.c b u (X1.c b u e nb.1) nb.1;refine⟨?_,X1.trans h1 X2⟩;have hr:=h1.qE (c:=.d g) hj kk ⟨_,L2.zN,?_,λpos' cv hcv=>?_,fn⟩
   . rw[show s.set j (.d g)=s from ?_]at hr
     . exact hr
     . refine List.ext_getElem? λi=>?_
       by_cases z:j=i
       . subst z;rw[AM (Aj.mp hs).1,hs]
       . rw[Bw z]
   . rw[Array.toList_append];exact nX _ (Ac _) tok
   . rw[Array.toList_append]at hcv
     rcases ql _ (Ac _) tok hcv with z|z
     . obtain⟨b,ob,vb,tb,q1,q2,q3,q4⟩:=among pos' cv z
       exact⟨b,ob,vb,tb,q1,q2,kc b _ q2 q3,q4⟩
     . exact⟨c,o,vs,t,z,hnoc,X2.c c _ L2.zN hnoc.1,hd,hv⟩
end
noncomputable def wz(cells:List (Str × Addr)):List (Str × CM)->List (Str × Addr)->List (Str × Addr)
 |[],acc=>acc
 |(x,k)::r,acc=>wz cells r (if k == .free then (x,(cells.lookup x).getD 0)::acc else acc)
theorem Yi(h:∀x∈lsc.names,x.2=.free->∃c,env.cells.lookup x.1=some c):Gv lsc env=pure (wz env.cells lsc.names []):=by
 have key:∀(names:List (Str × CM)) (acc:List (Str × Addr)),(∀x∈names,x.2=.free->∃c,env.cells.lookup x.1=some c) ->
  (forIn names acc λ(x:Str × CM) (cs:List (Str × Addr))=>(do if x.2 == .free then pure (Cf ((x.1,<-cellOf env x.1)::cs)) else pure (Cf cs):Sem (ForInStep (List (Str × Addr)))))=pure (wz env.cells names acc):=by
  intro names;induction names with
  |nil=>intro acc _;rfl
  |cons p r ih=>
   obtain⟨x,k⟩:=p;intro acc hh;rw[EC];by_cases hk:k=.free
   . subst hk
     obtain⟨c,hc⟩:=hh (x,.free) (Ar ..) rfl;have e:cellOf env x=pure c:=by unfold cellOf;rw[hc]
     have e2:wz env.cells ((x,.free)::r) acc=wz env.cells r ((x,c)::acc):=by show wz env.cells r ((x,(env.cells.lookup x).getD 0)::acc)=_;rw[hc];rfl
     rw[e2];simp only[show ((AH == AH)=true) from rfl,if_true,e,DG];exact ih _ λy hy=>hh y (Ah _ hy)
   . have hb:(k == AH)=false:=by simpa using hk
     have e2:wz env.cells ((x,k)::r) acc=wz env.cells r acc:=by
      show wz env.cells r (if k == .free then _ else acc)=_
      rw[hb];rfl
     rw[e2];simp only[hb,A3,if_false,DG];exact ih _ λy hy=>hh y (Ah _ hy)
 unfold Gv;have:=key lsc.names [] h;simpa using this
theorem oo:∀{names} {acc} {x} {b},(x,b)∈wz cells names acc->(x,b)∈acc\/((x,AH)∈names/\b=(cells.lookup x).getD 0)
 |[],_,_,_,h=>.inl h
 |(y,k)::r,acc,x,b,h=>by
  rcases oo (names:=r) h with z|z
  . by_cases hk:k=.free
    . subst hk
      rcases Af.mp z with z|z
      . cases z;exact .inr ⟨Ar ..,rfl⟩
      . exact .inl z
    . have hb:(k == AH)=false:=by simpa using hk
      rw[hb]at z;exact .inl z
  . exact .inr ⟨Ah _ z.1,z.2⟩
theorem om:∀{names} {acc} {x} {b},(x,b)∈acc->(x,b)∈wz cells names acc
 |[],_,_,_,h=>h
 |(y,k)::r,acc,x,b,h=>om (names:=r) (by
  split
  . exact Ah _ h
  . exact h)
theorem rQ:∀{names} {acc} {x},(x,AH)∈names->(x,(cells.lookup x).getD 0)∈wz cells names acc
 |(y,k)::r,acc,x,h=>by
  rcases Af.mp h with z|z
  . cases z;exact om (names:=r) (Ar ..)
  . exact rQ (names:=r) z
theorem lookup_mem{α:Type}{l:List (Str × α)}{b}(h:(x,b)∈l):∃c,l.lookup x=some c:=by
 cases e:l.lookup x with
 |some c=>exact⟨c,rfl⟩
 |none=>
  rw[FY]at e;have:=e _ h;simp at this
end M
end
section
namespace L2
open PySem PySem.Spec PyProof.Rows
def S6(tabs:List Addr)(H:Hp):Prop:=∀b,H b=none\/(∃o xs,H b=some (.e o (.b xs)))\/(b∈tabs/\H b=some (.g #[]))
theorem eE{K}{tabs:List Addr}
 (KX:K.In s₁.heap) (hns:s₁.heap.Ns AL mg) (hb:s₁.heap.Ns Fy mb) (hbb:∀x:Str,x≠"__name__"->mb x=B9 x) (hlim:s₁.heap.NoLimit) (hg:s₁.gens=#[])
 (ha:s₁.heap.get? a=some {cls:=.type "list",data:=.seq vs.toArray}) (hi:IntsAre vs ns) (hl:ns.length<=Av) (hr:xQ k callerA)
 (ht:∀b∈tabs,s₁.heap.get? b=some (ET #[])/\K.lookup b=none/\Gd s₁.heap b)
 (F:∀base:Heap,K.In base->base.Ns AL mg->sF P w K mg base CX k fa fd [x] sp) (hbind:∀s u,BindsTo s fd ⟨[u],[]⟩ [(x,u)])
 (hsp:∀H:Hp,(∀b∈tabs,H b=some (.g #[]))->SqL K H a (ns.map V.d)->sp [.c a] H (λv _=>v=.f true) λ_ _ _=>False)
 (hCX:∀H e s',CX [] H s₁ (λ_ _ _=>False) e s'->False) :
 codeAny (model P w) callerA (.call (.ref fa) ⟨[.ref a],[]⟩) (λr s'=>r=.ok (.ret (.bool true))/\OldK s₁.heap s'.heap/\s'.os=s₁.os/\AllBare s'.gens) s₁:=by
 have rv:=nj hi;have lenV:=hi.length;have nat:a ∉ tabs:=λz=>by have:=(ht a z).1;rw[ha]at this;cases this
 have core:∀H:Hp,S6 tabs H->(∀b∈tabs,H b=some (.g #[]))->SqL K H a (ns.map V.d)->HOk P w H s₁.heap->(∀b,H b≠none->b=a\/b∈tabs)->(H a≠none->K.lookup a=none) ->
  codeAny (model P w) callerA (.call (.ref fa) ⟨[.ref a],[]⟩) (λr s'=>r=.ok (.ret (.bool true))/\OldK s₁.heap s'.heap/\s'.os=s₁.os/\AllBare s'.gens) s₁:=by
  intro H hO hT hS hok hA hK;have um:∀{b:Addr} {o:Obj},s₁.heap.get? b=some o->H b=none->(mS s₁.heap H).get? b=some o:=λe n=>bu e n;have noA:∀{b:Addr} {o:Obj} {es:Array FZ} {ep:Nat},s₁.heap.get? b=some o->o.data=.dict es ep->H b=none:=λ{b o es ep} e d=>by
   cases q:H b with
   |none=>rfl
   |some u=>
    rcases hA b (by rw[q];simp) with e'|e'
    . subst e'
      rw[ha]at e;cases e;have d':Data.seq vs.toArray _=Data.dict es ep:=d;cases d'
    . rw[(ht b e').1]at e;cases e
      have d':Ga #[]=Data.dict es ep:=d;cases d'
  have nsK:∀{b:Addr} {m:Str->Option Value},s₁.heap.Ns b m->(mS s₁.heap H).Ns b m:=λ{b m} ⟨o,es,ep,e,d,r⟩=>⟨o,es,ep,um e (noA e d),d,r⟩;have hKb:K.In (mS s₁.heap H):=λb o e=>um (KX b o e) (by
   cases q:H b with
   |none=>rfl
   |some u=>
    rcases hA b (by rw[q];simp) with e'|e'
    . subst e'
      rw[hK (by rw[q];simp)]at e;cases e
    . rw[(ht b e').2.1]at e;cases e)
  have hM:Mod K mg (mS s₁.heap H):=⟨hKb,nsK hns,⟨mb,nsK hb,hbb⟩,let ⟨mc,h1,h2⟩:=hlim;⟨mc,nsK h1,h2⟩⟩;have e0:jU P w K mg (mS s₁.heap H) callerA [] s₁ H:=⟨rfl,hM,λb o e=>Xu e,EI (fq _ _),trivial,λb hb=>absurd (show b∈([]:List Addr) from hb) (by simp),hok,.of_eq hg⟩
  refine Dd ((F _ hKb (nsK hns)).a callerA [] s₁ H ⟨[.ref a],[]⟩ [.ref a] [.c a] _ _ hr e0 (hbind s₁ (.ref a)) (.cons rfl .nil) (hsp H hT hS)) λr s' h=>?_;cases r with
  |error e=>exact(hCX H e s' h).elim
  |ok fl=>
   cases fl with
   |next=>exact Az h
   |brk=>exact Az h
   |cont=>exact Az h
   |ret u=>
    obtain⟨v,H',os,bare,un,hok',r',q⟩:=h;have q':v=.f true:=q;subst q';obtain rfl:u=Cm true:=r';have all:∀b o,s₁.heap.get? b=some o->asItWas s₁.heap s'.heap b o:=λb o e=>by
     cases q:H b with
     |none=>exact .inl (un.f b o e q (by intro z;exact absurd (show b∈([]:List Addr) from z) (by simp)) (by simp))
     |some u=>
      rcases hO b with z|⟨ob,xs,z⟩|⟨z1,z⟩
      . rw[q]at z;cases z
      . have z2:=un.g b ob _ z
        obtain⟨e1,_⟩:=hok b _ z;obtain⟨e2,_⟩:=hok' b _ z2;rw[e]at e1;cases e1;exact .inl e2
      . obtain⟨more,z2⟩:=un.j b _ z
        have e2:s'.heap.get? b=some (ET (#[]++more)):=hok' b _ z2;obtain⟨t1,_,t3⟩:=ht b z1;rw[e]at t1;cases t1;exact .inr (.inl ⟨t3,rfl,#[],more,rfl,e2⟩)
    exact⟨rfl,⟨all,λb o e=>by
     rcases all b o e with z|⟨_,_,_,_,_,z⟩|⟨_,_,⟨o',_,_,z,_⟩,_⟩
     . exact⟨_,z⟩
     . exact⟨_,z⟩
     . exact⟨_,z⟩⟩,os,bare⟩
 cases hk:K.lookup a with
 |some o=>
  have e:=KX a o hk;rw[ha]at e;cases e;refine core (λb=>if b∈tabs then some (.g #[]) else none) (λb=>?_) (λb hb=>if_pos hb) (.inr ⟨_,vs.toArray,_,hk,rfl,rfl,rfl,by rw[Ae,lenV];exact hl,by simpa using rv⟩) (λb u z=>?_) (λb z=>?_) λz=>?_
  . by_cases hb:b∈tabs
    . exact .inr (.inr ⟨hb,if_pos hb⟩)
    . exact .inl (if_neg hb)
  . by_cases hb:b∈tabs
    . have z':=(if_pos hb).symm.trans z
      cases z';exact(ht b hb).1
    . have z':=(if_neg hb).symm.trans z
      cases z'
  . by_cases hb:b∈tabs
    . exact .inr hb
    . exact absurd (if_neg hb) z
  . exact absurd (if_neg nat) z
 |none=>
  refine core (λb=>if b=a then some (.e {cls:=.type "list",data:=.seq vs.toArray} (.b (ns.map V.d))) else if b∈tabs then some (.g #[]) else none) (λb=>?_) (λb hb=>(if_neg (λz=>nat (by rw[<-z];exact hb))).trans (if_pos hb)) (.inl (.inr ⟨{cls:=.type "list",data:=.seq vs.toArray},if_pos rfl⟩)) (λb u z=>?_) (λb z=>?_) λ_=>hk
  . by_cases hb:b=a
    . exact .inr (.inl ⟨_,_,if_pos hb⟩)
    . by_cases hb2:b∈tabs
      . exact .inr (.inr ⟨hb2,(if_neg hb).trans (if_pos hb2)⟩)
      . exact .inl ((if_neg hb).trans (if_neg hb2))
  . by_cases hb:b=a
    . have z':=(if_pos hb).symm.trans z
      cases z';subst hb;exact⟨ha,by rw[Aa];exact hl,vs,_,rv,ha⟩
    . by_cases hb2:b∈tabs
      . have z':=((if_neg hb).trans (if_pos hb2)).symm.trans z
        cases z';exact(ht b hb2).1
      . have z':=((if_neg hb).trans (if_neg hb2)).symm.trans z
        cases z'
  . by_cases hb:b=a
    . exact .inl hb
    . by_cases hb2:b∈tabs
      . exact .inr hb2
      . exact absurd ((if_neg hb).trans (if_neg hb2)) z
end L2
end
section
namespace M
open PySem
noncomputable def oy(sc:Scope)(x:Str):Bool:=decide (sc.names.lookup x=some .local)||decide (sc.names.lookup x=some .cell)||decide (sc.names.lookup x=some .free)
noncomputable def wO(sc:Scope)(x:Str):Bool:=decide (sc.names.lookup x=some .globalImplicit)
noncomputable def wy:List Str:=["len","all","any","tuple","list","sorted","repr","max","min","sum","int","isinstance","divmod","str","bool","dict","set","range","enumerate","zip"]
noncomputable def PN(y:Str)(n:String):Bool:=(decide (y="int")&&decide (n="int"))||(decide (y="bool")&&decide (n="bool"))||(decide (y="str")&&decide (n="str"))||(decide (y="list")&&decide (n="list"))||(decide (y="tuple")&&decide (n="tuple"))||(decide (y="dict")&&decide (n="dict"))
noncomputable def vC:Val->Option Const
 |.h=>some .none
 |.e b=>some (.bool b)
 |.c i=>some (.int i)
 |.g x=>some (.str x)
 |_=>none
def RK(v:Val)(e:Expr):Bool:=Ys e λc _ _=>decide (vC v=some c)
noncomputable def isLit:Ex->Int->Bool
 |.g (.c i),j=>decide (i=j)
 |_,_=>false
noncomputable def Pj:Ex->Bool
 |.g (.g _)=>true
 |_=>false
theorem l6(h:isLit e j=true):e=.g (.c j):=by
 unfold isLit at h;split at h
 . rw[of_decide_eq_true h]
 . cases h
def eSd(e:Expr)(k:Str->Ee->Str->List Expr->Scope->Bool):Bool:=eCN e λx xs=>l1 xs λl=>RS l λa b lsc _=>eCN b λy ys=>k x a y ys lsc
theorem gY(h:eSd e k=true):∃x a y ys lsc p1 p2 p3 p4 p5,e=.Call (.Name x p1) [.Lambda a (.Call (.Name y p2) ys [] p3) lsc p4] [] p5/\k x a y ys lsc=true:=by obtain⟨x,p1,xs,p5,rfl,h1⟩:=xF h;obtain⟨l,rfl,h2⟩:=yr h1;obtain⟨a,b,lsc,p4,rfl,h3⟩:=bZ h2;obtain⟨y,p2,ys,p3,rfl,h4⟩:=xF h3;exact⟨x,a,y,ys,lsc,p1,p2,p3,p4,p5,rfl,h4⟩
noncomputable def tU(a:Ee):Bool:=a.posonlyargs.isEmpty&&a.args.isEmpty&&a.vararg.isNone&&a.kwonlyargs.isEmpty&&a.kw_defaults.isEmpty&&a.kwarg.isNone&&a.defaults.isEmpty
noncomputable def oj(sc lsc:Scope):Bool:=decide (lsc.kind=.function)&&!lsc.isCoroutine&&!lsc.isGenerator&&lsc.names.all (λy=>decide (y.2=.globalImplicit)||(decide (y.2=.free)&&(decide (sc.names.lookup y.1=some .cell)||decide (sc.names.lookup y.1=some .free))))&&lsc.names.any (λy=>decide (y.2=.free)&&decide (sc.names.lookup y.1=some .cell))
noncomputable def okV:Bool:=true
noncomputable def Wy:Exs->Bool
 |.a (.e _) _=>true
 |_=>false
theorem Wz(h:Wy es=true):∃i es',es=.a (.e i) es':=by
 unfold Wy at h;split at h
 . exact⟨_,_,rfl⟩
 . cases h
mutual
noncomputable def sim:Ex->Bool
 |.g _|.e _|.A _=>true
 |.j m _ a b=>!m&&sim a&&sim b
 |.B a=>sim a
 |.r es=>tD es
 |.u m es=>!m&&tD es
 |.s a b=>sim a&&sim b
 |_=>false
noncomputable def tD:Exs->Bool
 |.b=>true
 |.a e es=>sim e&&tD es
end
def ckA(sc:Scope)(f:Str)(q:List Expr->Bool)(e:Expr):Bool:=eCN e λx xs=>decide (x=f)&&wO sc x&&!(x == ("__debug__":Str))&&q xs&&zj xs
def ckB(sc:Scope)(N:List Str)(f:Str)(ver:Nat)(es:Exs)(q:Scope->List Expr->Bool)(e:Expr):Bool:=eSd e λx a y ys lsc=>decide (x=L2.yf (decide (ver=101)))&&wO sc x&&tU a&&oj sc lsc&&decide (y=f)&&wO lsc y&&!(y == ("__debug__":Str))&&tD es&&q lsc ys&&zj ys&&!ys.isEmpty&&decide (("!":Str)∈N)
def ckV(sc:Scope)(N:List Str)(ver:Nat)(es:Exs)(q:Scope->List Expr->Bool)(e:Expr):Bool:=(okV&&Wy es)&&eSd e λx a y ys lsc=>decide (x=L2.yf (decide (ver=301)))&&wO sc x&&tU a&&oj sc lsc&&tD es&&q lsc (.Name y default::ys)&&zj ys&&!ys.isEmpty&&decide (("!":Str)∈N)&&decide (ver≠200)
mutual
noncomputable def ck(sc:Scope)(N:List Str):Ex->Expr->Bool
 |.g v,e=>RK v e
 |.e i,e=>(eName e λx _=>decide (N[i]?=some x)&&oy sc x&&!(x == ("__debug__":Str))&&!(x == ("__classdict__":Str)))
 |.A y,e=>(eName e λx _=>decide (x=y)&&wO sc x&&!(x == ("__debug__":Str)))
 |.J y n,e=>(eName e λx _=>decide (x=y)&&wO sc x&&PN y n)
 |.j _ op a b,e=>(RN e λl o r _=>(okB op&&decide (o=op.op))&&ck sc N a l&&ck sc N b r)
 |.B a,e=>(eOp .USub e λx=>ck sc N a x)
 |.I a,e=>(eOp .Not e λx=>ck sc N a x)
 |.l op a b,e=>(eC1 e λl o r=>(okC op&&decide (o=op.op))&&ck sc N a l&&ck sc N b r&&plain r)
 |.w op op' a b c,e=>(eC2 e λl o o' r r'=>(okC op&&decide (o=op.op))&&(okC op'&&decide (o'=op'.op))&&ck sc N a l&&ck sc N b r&&ck sc N c r'&&plain r')
 |.y a es,e=>(eBl .And e λx xs=>ck sc N a x&&ckL sc N es xs)
 |.K _ _,_=>false
 |.C c a b,e=>(RR e λt x y _=>ckC sc N c t&&ck sc N a x&&ck sc N b y)
 |.r es,e=>(Yy e λxs _ _=>ckL sc N es xs&&zj xs)
 |.u _ es,e=>(RT e λxs _=>ckL sc N es xs&&zj xs)
 |.E,e=>(eD0 e)
 |.F _,e=>(eD0 e)
 |.L _ _,_=>false
 |.h f ver es,e=>if ver<100 then ckA sc f (λxs=>ckL sc N es xs) e else if ver<200 then ckB sc N f ver es (λl ys=>ckL l N es ys) e else ckV sc N ver es (λl ys=>ckL l N es ys) e
 |.k f _ es,e=>(eCN e λx xs=>lc xs λy ys=>(okF f&&decide (x=f.nm))&&wO sc x&&ckL sc N es (y::ys)&&zj (y::ys))
 |.H _ _,_=>false
 |.D f _ o es,e=>(eMt e λob x ap y cp=>decide (x=f.nm)&&ck sc N o ob&&ckL sc N es [y]&&plain y&&mZ ob&&(ap.endLine == cp.line)&&okM f)
 |.s a b,e=>(Yx e λl r _=>ck sc N a l&&ck sc N b r&&plain r)
 |.G _ a lo hi st,e=>(eSS e λl x y z=>ck sc N a l&&ckO sc N lo x&&ckO sc N hi y&&ckO sc N st z)
 |.q _ N' fr elt t it ifs,e=>(eG1 e λx tg iter fs csc=>L2.rO sc N N' csc fr&&decide N'.Nodup&&ckT csc N' t tg&&ckI sc N it iter tg&&jf csc N' ifs fs&&ck csc N' elt x&&plain iter)
 |.z _ N' fr elt t it ifs t2 it2 ifs2,e=>(eG2 e λx tg iter fs tg2 iter2 fs2 csc=>L2.rO sc N N' csc fr&&decide N'.Nodup&&ckT csc N' t tg&&ckI sc N it iter tg&&jf csc N' ifs fs&&ckT csc N' t2 tg2&&ckI csc N' it2 iter2 tg2&&jf csc N' ifs2 fs2&&ck csc N' elt x&&plain iter&&plain iter2)
 |.p _ z a w,e=>(eCN e λx xs=>l1 xs λi=>eCN i λy ys=>lc ys λc ds=>if ds.isEmpty then (if Pj w then false else isLit z 0&&isLit w 1&&decide (x="list")&&decide (y="range"))&&wO sc x&&wO sc y&&ck sc N a c&&plain c else false)
noncomputable def ckL(sc:Scope)(N:List Str):Exs->List Expr->Bool
 |.b,es=>es.isEmpty
 |.a a as,es=>(lc es λe es=>ck sc N a e&&ckL sc N as es)
noncomputable def ckO(sc:Scope)(N:List Str):OEx->Option Expr->Bool
 |.b,e=>e.isNone
 |.a a,e=>(o1 e λe=>ck sc N a e)
noncomputable def ckC(sc:Scope)(N:List Str):Cn->Expr->Bool
 |.a a,e=>ck sc N a e&&(plainT e||decide (e.ctorIdx=15))
 |.b c,e=>(eOp .Not e λx=>ckC sc N c x)
 |.d c cs,e=>(eBl .And e λx xs=>ckC sc N c x&&jf sc N cs xs)
 |.f c cs,e=>(eBl .Or e λx xs=>ckC sc N c x&&jf sc N cs xs)
noncomputable def jf(sc:Scope)(N:List Str):Cns->List Expr->Bool
 |.b,es=>es.isEmpty
 |.a a as,es=>(lc es λe es=>ckC sc N a e&&jf sc N as es)
noncomputable def ckI(sc:Scope)(N:List Str):Itb->Expr->Expr->Bool
 |.d a,e,_=>ck sc N a e
 |.c a,e,_=>(eCN e λx xs=>l1 xs λy=>decide (x="range")&&wO sc x&&ck sc N a y&&plain y)
 |.f a b,e,_=>(eCN e λx xs=>lc xs λy ys=>l1 ys λz=>decide (x="range")&&wO sc x&&ck sc N a y&&ck sc N b z&&plain y&&plain z)
 |.g a,e,tg=>(decide (tg.ctorIdx=25)&&eCN e λx xs=>l1 xs λy=>decide (x="enumerate")&&wO sc x&&ck sc N a y&&plain y)
 |.h _ _,_,_=>false
end
structure Ok(T:Tbl)(n:Nat)(sc:Scope)(N:List Str)(X:L2.Cx):Prop where
 c:X.h=true
 d:L2.xQ n X.A
 a:Scp sc N X
 l:∀f v F,T.d f v=some F->Callee T n X f v F
 i:∀x v,T.b x=some v->∃u xv,X.d x=some u/\L2.RelV xv u/\∀ρ H,RD X.K X.d ρ H v xv
 g:∀x∈wy,X.d x=none
 xe:X.j=λ_ _=>False
 j:∀f v,100<=v->T.d f v=none
 sd:∀m,n=m+1->(∃b,T.c b=true)->Sd T X.f X.w X.K X.d X.i m
 k:(∃b,T.c b=true)->(∃x,sc.names.lookup x=some .cell)->("!":Str)∈N->Cod T X
theorem gO(S:Scp sc N X)(h:L2.rO sc N N' csc fr=true):L2.z0 X N' csc fr:=by
 unfold L2.rO at h;simp only[cf,Ao,Ay,decide_eq_true_eq,AZ]at h;obtain⟨⟨⟨⟨⟨⟨⟨a1,a2⟩,a3⟩,a4⟩,a5⟩,a6⟩,a7⟩,a8⟩:=h;refine⟨a1,λx h1 h2=>(a2 _ h1).elim (λz=>z rfl) λz=>z _ h2 rfl,λx hx hk=>?_,λx hx hk=>?_,a5,λi j x e1 e2=>?_,λx e1 e2=>?_⟩
 . rcases a3 x hx with z|z
   . exact absurd hk z
   . exact z
 . rcases a4 x hx with z|z
   . exact absurd hk z
   . exact S.f x.1 z
 . have hi:i<N'.length:=(Aj.mp e1).1
   have q:=a6 i hi;rw[e1,e2]at q;simp only[cf,decide_eq_true_eq,Bl]at q;obtain⟨q1,y,q2,q3,q4⟩:=q;refine⟨by rw[S.b];exact q1,?_⟩
   have:y=(x,AH):=Dx q3 q4;rw[<-this];exact q2
 . rcases a7 (x,.free) e2 with z|z
   . exact z rfl
   . exact z e1
theorem vR(h:sc.names.lookup x=some .local):(relabel sc env).names.lookup x=some .local:=lookup_relabel_local h
theorem iS(h:sc.names.lookup x=some .globalImplicit):(relabel sc env).names.lookup x=some .globalImplicit:=by
 have key:∀(names:List (Str × CM)),names.lookup x=some .globalImplicit->(names.map λ(n,k)=>if (k == AH&&env.scope.kind == .function&&env.kindOf n == some .cell) then (n,Bk) else (n,k)).lookup x=some .globalImplicit:=by
  intro names;induction names with
  |nil=>intro h;simp at h
  |cons p r ih=>
   obtain⟨n,k⟩:=p;intro h;rw[AJ];dsimp only;cases hx:(x == n) with
   |true=>
    rw[An,hx]at h;cases h;have e:(DX == AH)=false:=rfl;rw[e];simp only[Dc,A3,if_false,An,hx]
   |false=>
    rw[An,hx]at h;have:=ih h;split<;>simpa only[An,hx] using this
 exact key sc.names h
theorem Scp.comp(S:Scp sc N X)(hc:L2.z0 X N' csc fr)(nd:N'.Nodup)C s0 H0 ex:Scp csc N' (X.comp N' csc C s0 H0 ex):=by
 refine⟨rfl,nd,λx h=>?_,λx h=>?_,λx h=>?_,λx h=>?_⟩
 . rcases h with h|h|h
   . exact .inl (vR h)
   . exact .inr (.inl (L2.uB h))
   . exact(L2.sq hc.a h).elim (λz=>.inr (.inl z)) λz=>.inr (.inr z)
 . rcases h with h|h
   . exact⟨.inl (vR h),.inr (vR h)⟩
   . exact⟨.inr (L2.uB h),.inl (Bl.mpr ⟨_,AY h,decide_eq_true rfl⟩)⟩
 . exact iS h
 . rcases h with h|h
   . exact .inl (L2.uB h)
   . exact L2.sq hc.a h
theorem Callee.comp(c:Callee T n X f v F)N' csc C s0 H0 ex:Callee T n (X.comp N' csc C s0 H0 ex) f v F:=⟨c.a⟩
theorem Ok.comp(o:Ok T n sc N X)(hc:L2.z0 X N' csc fr)(nd:N'.Nodup)(hck:L2.rO sc N N' csc fr=true)C s0 H0 ex:Ok T n csc N' (X.comp N' csc C s0 H0 ex):=
 ⟨o.c,o.d,o.a.comp hc nd C s0 H0 ex,λf v F h=>(o.l f v F h).comp N' csc C s0 H0 ex,o.i,o.g,rfl,o.j,o.sd,λhmd _ h=>by
  unfold L2.rO at hck;simp only[cf,Bl,Ay,decide_eq_true_eq]at hck;rcases hck.2 with z|⟨z1,y,_,z2⟩
  . exact absurd h z
  . exact o.k hmd ⟨y.1,z2⟩ z1⟩
end M
end
section
namespace M
open PySem
section
variable {T:Tbl}{n:Nat}
def JE(T:Tbl)(n:Nat)(a:Ex):Prop:=∀(sc:Scope) (N:List Str) (X:L2.Cx) (e:Expr),Ok T n sc N X->ck sc N a e=true->∀env s,L2.PE X e (tV X.K X.d env s (evE (zF T n) T.b env a s))
def JL(T:Tbl)(n:Nat)(a:Exs):Prop:=∀(sc:Scope) (N:List Str) (X:L2.Cx) (es:List Expr),Ok T n sc N X->ckL sc N a es=true ->
 (zj es=true->∀env s,L2.PA X es (tVs X.K X.d env s (zo (zF T n) T.b env a s))) /\
 (∀e es' pos,es=e::es'->∀env s,L2.PE X (.BoolOp .And es pos) (tV X.K X.d env s (qJ (zF T n) T.b env a s))) /\
 (∀e es' pos,es=e::es'->∀env s,L2.PE X (.BoolOp .Or es pos) (tV X.K X.d env s (lh (zF T n) T.b env a s))) /\
 (∀y,es=[y]->plain y=true->∃b,a=.a b .b/\∀env s,L2.PE X y (tV X.K X.d env s (evE (zF T n) T.b env b s)))
def JO(T:Tbl)(n:Nat)(a:OEx):Prop:=∀(sc:Scope) (N:List Str) (X:L2.Cx) (e:Option Expr),Ok T n sc N X->ckO sc N a e=true->(∀env s,L2.PO X e (tO X.K X.d env s (evO (zF T n) T.b env a s))) /\
 ((e=none/\∀env s1,evO (zF T n) T.b env a s1=.e none s1)\/∃e',e=some e'/\∀env s1 s2,evO (zF T n) T.b env a s1≠.e none s2)
def JC(T:Tbl)(n:Nat)(a:Cn):Prop:=∀(sc:Scope) (N:List Str) (X:L2.Cx) (e:Expr),Ok T n sc N X->ckC sc N a e=true->∀env s,L2.PT X e (tT X.K X.d env s (evT (zF T n) T.b env a s))
def JCs(T:Tbl)(n:Nat)(a:Cns):Prop:=∀(sc:Scope) (N:List Str) (X:L2.Cx) (es:List Expr),Ok T n sc N X->jf sc N a es=true ->
 (∀pos env s,L2.PW X (.BoolOp .And es pos) (tT X.K X.d env s (xJ (zF T n) T.b env a s)))/\(∀pos env s,L2.PW X (.BoolOp .Or es pos) (tT X.K X.d env s (u6 (zF T n) T.b env a s)))/\L2.PTs X es (uTs X.K X.d (zF T n) T.b a)
def JI(T:Tbl)(n:Nat)(a:Itb):Prop:=∀(sc:Scope) (N:List Str) (X:L2.Cx) (e tg:Expr),Ok T n sc N X->ckI sc N a e tg=true->∀env s,L2.PI X tg e (tI (K:=X.K) (mg:=X.d) env s (yk (zF T n) T.b env a s))
theorem aN:JE T n (.g v):=by
 intro sc N X e o h env s;show L2.PE X e (tV X.K X.d env s (.e v s));replace h:=qw h;obtain⟨c,k,p,rfl,h⟩:=h;have h:=of_decide_eq_true h;cases v with
 |h=>cases h;exact zb L2.Ti λσ H Q ⟨ρ,hr,er,w⟩=>zM hr .s w
 |e b=>cases h;exact zb L2.ZU λσ H Q ⟨ρ,hr,er,w⟩=>zM hr (.j _) w
 |c i=>cases h;exact zb L2.Za λσ H Q ⟨ρ,hr,er,w⟩=>zM hr (.l _) w
 |g x=>cases h;exact zb L2.rk λσ H Q ⟨ρ,hr,er,w⟩=>zM hr (.D _) w
 |_=>cases h
theorem aR:JE T n (.e i):=by
 intro sc N X e o h env s;replace h:=xf h;obtain⟨x,p,rfl,h⟩:=h;simp only[cf,decide_eq_true_eq,oy,Ay,AQ]at h;obtain⟨⟨⟨h1,h2⟩,h3⟩,h4⟩:=h;have hv:L2.Vis X.a.scope x:=o.a.e x (by rcases h2 with (z|z)|z;exact .inl z;exact .inr (.inl z);exact .inr (.inr z))
 show L2.PE X _ (tV X.K X.d env s (match env[i]? with|some (some v)=>.e v s|_=>.d))
 refine zb (L2.uc (i:=i) (by rw[o.a.b];exact h1) hv h3 h4) λσ H Q ⟨ρ,hr,er,w⟩=>?_
 split at w
 . rename_i v e
   obtain⟨x',h5,h6⟩:=er.a i v e;exact⟨x',h5,zM hr h6 w⟩
 . exact w.elim
theorem VQ:JE T n (.A y):=by
 intro sc N X e o h env s;replace h:=xf h;obtain⟨x,p,rfl,h⟩:=h;simp only[cf,decide_eq_true_eq,wO,AQ]at h;obtain⟨⟨h1,h2⟩,h3⟩:=h;subst h1;show L2.PE X _ (tV X.K X.d env s (match T.b x with|some v=>.e v s|dr=>.d))
 cases hv:T.b x with
 |none=>exact zK (zG rfl)
 |some v=>
  obtain⟨u,xv,e1,e2,e3⟩:=o.i x v hv;exact zb (L2.WI (o.a.a x h2) e1 e2 h3) λσ H Q ⟨ρ,hr,er,w⟩=>zM hr (e3 ρ H) w
theorem Rt:JE T n (.J y m):=by
 intro sc N X e o h env s;replace h:=xf h;obtain⟨x,p,rfl,h⟩:=h;simp only[cf,decide_eq_true_eq,wO]at h;obtain⟨⟨h1,h2⟩,h3⟩:=h;subst h1;show L2.PE X _ (tV X.K X.d env s (.e (.r m) s));have key:x∈wy/\B9 x=some (.type m)/\x≠"__name__"/\(x == ("__debug__":Str))=false:=by
  unfold PN at h3;simp only[Ay,cf,decide_eq_true_eq]at h3;rcases h3 with ((((⟨rfl,rfl⟩|⟨rfl,rfl⟩)|⟨rfl,rfl⟩)|⟨rfl,rfl⟩)|⟨rfl,rfl⟩)|⟨rfl,rfl⟩
  . exact⟨by decide,PyProof.Rows.boot_int,by decide,by decide⟩
  . exact⟨by decide,PyProof.Rows.boot_bool,by decide,by decide⟩
  . exact⟨by decide,PyProof.Rows.boot_str,by decide,by decide⟩
  . exact⟨by decide,D3,by decide,by decide⟩
  . exact⟨by decide,FX,by decide,by decide⟩
  . exact⟨by decide,PyProof.Rows.boot_dict,by decide,by decide⟩
 exact zb (L2.Qa (o.a.a x h2) (o.g x key.1) key.2.1 key.2.2.1 key.2.2.2) λσ H Q ⟨ρ,hr,er,w⟩=>zM hr (.I _) w
theorem Xa:JE T n (.F t):=by
 intro sc N X e o h env s;obtain⟨p,rfl⟩:=gV h;show L2.PE X _ (tV X.K X.d env s (.e (.o s.length) (s++[if t then .f [] else .e []])))
 cases t with
 |true=>exact zb L2.ZZ λσ H Q ⟨ρ,hr,er,w⟩ p hp=>w _ _ _ (Ext.own hr hp _) (hr.vO hp ⟨[],L2.zN,rfl,.d⟩) (.A (qe hr p) (by rw[L2.zN];decide))
 |false=>exact zb L2.ZY λσ H Q ⟨ρ,hr,er,w⟩ p hp=>w _ _ _ (Ext.own hr hp _) (hr.vO hp ⟨[],L2.zN,rfl,.d⟩) (.A (qe hr p) (by rw[L2.zN];decide))
theorem XZ:JE T n .E:=by intro sc N X e o h env s;obtain⟨p,rfl⟩:=gV h;show L2.PE X _ (tV X.K X.d env s (.e .l s));exact zb (L2.WH λpins σ H s I=>I.big) λσ H Q ⟨ρ,hr,er,w⟩ p hp=>w _ _ _ (Ext.new hr hp _) (hr.more hp _) (.B (hr.new hp) L2.zN)
theorem lY(h:zW op x y s=.e v s'):∃b,v=.e b:=by unfold zW at h;split at h<;>(split at h<;>first|(cases h;exact⟨_,rfl⟩)|cases h|(split at h<;>first|(cases h;exact⟨_,rfl⟩)|cases h|(split at h<;>first|(cases h;exact⟨_,rfl⟩)|cases h|(split at h<;>first|(cases h;exact⟨_,rfl⟩)|cases h))))
theorem oA{o:Out Val}(hb:∀v s',o=.e v s'->∃b,v=.e b)(w:yq K mg (λ_ _ a b=>a=b) ρ H o.truth Q):yq K mg (RD K mg) ρ H o λx H'=>∃k,x=.f k/\Q k H':=by
 cases o with
 |e v s1=>
  obtain⟨b,rfl⟩:=hb v s1 rfl;intro ρ1 x H1 x1 hr1 r1;cases r1;exact⟨b,rfl,w _ _ _ x1 hr1 rfl⟩
 |g _ _ _=>exact w
 |d=>exact w
theorem Ur{f2:Sto->Out Val}(k1:okC op=true)(hr0:L2.xQ k X.A)(h1:L2.PE X a (tV X.K X.d env s o))(h2:∀s1,L2.PE X b (tV X.K X.d env s1 (f2 s1)))(hm:plain b=true) :
 L2.PT X (.Compare a [op.op] [b] pos) (tT X.K X.d env s (o.bind λx s1=>(f2 s1).bind λy s2=>zW op x y s2).truth):=by
 cases o with
 |e v s1=>
  have h2':=h2 s1;show L2.PT X _ (tT X.K X.d env s ((f2 s1).bind λy s2=>zW op v y s2).truth);cases hb:f2 s1 with
  |e w s2=>
   rw[hb]at h2';exact rm (L2.m6 (tm hr0 op k1) h1 h2' (vD hm)) λσ H Q ⟨ρ,hr,er,wt⟩=>⟨ρ,hr,er,λρ1 x H1 x1 hr1 r1=>⟨ρ1,hr1,er.mono x1,λρ2 y H2 x2 hr2 r2=>⟨ρ2,s2,v,w,hr2,r1.mono x2,r2,oA (λ_ _ h=>lY h) (wt.mono (x1.trans hr1 x2) hr2)⟩⟩⟩
  |g _ _ _=>exact yP (zG rfl)
  |d=>exact yP (zG rfl)
 |g _ _ _=>exact yP (zG rfl)
 |d=>exact yP (zG rfl)
theorem aU{X:L2.Cx}{env:Env}{s:Sto}{a b c:Expr}{op op':Cop}{o:Out Val}{f2 f3:Sto->Out Val}{k:Nat}{pos:Pos}(k1:okC op=true)(k2:okC op'=true)(hr0:L2.xQ k X.A)(h1:L2.PE X a (tV X.K X.d env s o))(h2:∀s1,L2.PE X b (tV X.K X.d env s1 (f2 s1)))(h3:∀s1,L2.PE X c (tV X.K X.d env s1 (f3 s1)))(hm:plain c=true) :
 L2.PT X (.Compare a [op.op,op'.op] [b,c] pos) (tT X.K X.d env s (o.bind λx s1=>(f2 s1).bind λy s2=>(zW op x y s2).bind λr s3=>match r with
  |.e true=>(f3 s3).bind λz s4=>zW op' y z s4
  |.e false=>.e (.e false) s3
  |_=>.d).truth):=by
 cases o with
 |e v s1=>
  have h2':=h2 s1;show L2.PT X _ (tT X.K X.d env s ((f2 s1).bind _).truth);cases hb:f2 s1 with
  |e w s2=>
   rw[hb]at h2';show L2.PT X _ (tT X.K X.d env s ((zW op v w s2).bind _).truth);cases hc:zW op v w s2 with
   |e r s3=>
    cases r with
    |e t=>
     have h3':=h3 s3;have rule:=L2.Zk (pos:=pos) (tm hr0 op k1) (tm hr0 op' k2) h1 h2' h3' (show GF [op.op,op'.op] [b,c]=false from vD hm);refine rm rule λσ H Q ⟨ρ,hr,er,wt⟩=>⟨ρ,hr,er,λρ1 x H1 x1 hr1 r1=>⟨ρ1,hr1,er.mono x1,λρ2 y H2 x2 hr2 r2=>⟨ρ2,s2,v,w,hr2,r1.mono x2,r2,?_⟩⟩⟩;rw[hc];intro ρ3 z H3 x3 hr3 r3;cases r3;refine⟨t,rfl,?_⟩;have xx:=(x1.trans hr1 x2).trans hr2 x3;have wt':=wt.mono xx hr3;cases t with
     |true=>
      rw[if_pos rfl];refine⟨ρ3,hr3,er.mono xx,?_⟩;have wt2:yq X.K X.d (λ_ _ a b=>a=b) ρ3 H3 ((f3 s3).bind λz s4=>zW op' w z s4).truth Q:=wt';cases hz:f3 s3 with
      |e u s4=>
       rw[hz]at wt2;exact λρ4 q H4 x4 hr4 r4=>⟨ρ4,s4,w,u,hr4,(r2.mono x3).mono x4,r4,oA (λ_ _ h=>lY h) (wt2.mono x4 hr4)⟩
      |g _ _ _=>rw[hz]at wt2;exact wt2
      |d=>rw[hz]at wt2;exact wt2
     |false=>
      rw[if_neg Ab];exact⟨false,rfl,wt' _ _ _ Ext.refl hr3 rfl⟩
    |_=>exact yP (zG rfl)
   |g _ _ _=>exact yP (zG rfl)
   |d=>exact yP (zG rfl)
  |g _ _ _=>exact yP (zG rfl)
  |d=>exact yP (zG rfl)
 |g _ _ _=>exact yP (zG rfl)
 |d=>exact yP (zG rfl)
theorem Uh(ja:JE T n a)(jb:JE T n b):JC T n (.a (.l op a b)):=by intro sc N X e o h env s;replace h:=mL (za h).1;obtain⟨_,_,_,_,rfl,h1⟩:=h;simp only[cf,decide_eq_true_eq]at h1;obtain⟨⟨⟨⟨k1,rfl⟩,h3⟩,h4⟩,h5⟩:=h1;exact Ur k1 o.d (ja _ _ _ _ o h3 env s) (λs1=>jb _ _ _ _ o h4 env s1) h5
theorem aJ(ja:JE T n a)(jb:JE T n b)(jc:JE T n c):JC T n (.a (.w op op' a b c)):=by intro sc N X e o h env s;replace h:=gU (za h).1;obtain⟨_,_,_,_,_,_,rfl,h1⟩:=h;simp only[cf,decide_eq_true_eq]at h1;obtain⟨⟨⟨⟨⟨⟨k1,rfl⟩,k2,rfl⟩,h3⟩,h4⟩,h5⟩,h6⟩:=h1;exact aU k1 k2 o.d (ja _ _ _ _ o h3 env s) (λs1=>jb _ _ _ _ o h4 env s1) (λs1=>jc _ _ _ _ o h5 env s1) h6
noncomputable def VN:Ex->Bool
 |.l ..|.w ..=>true
 |_=>false
theorem bF{os}(h:ck sc N a (.Compare l os rs p)=true):VN a=true:=by
 cases a with
 |l _ _ _=>rfl
 |w _ _ _ _ _=>rfl
 |h f v es=>
  replace h:(if v<100 then ckA sc f (λxs=>ckL sc N es xs) (.Compare l os rs p) else if v<200 then ckB sc N f v es (λl ys=>ckL l N es ys) (.Compare l os rs p) else ckV sc N v es (λl ys=>ckL l N es ys) (.Compare l os rs p))=true:=h
  split at h
  . cases h
  . split at h
    . cases h
    . exact absurd (show false=true from (za h).2) Ab
 |_=>cases h
theorem bI{e:Expr}(h:e.ctorIdx=15):∃l os rs p,e=.Compare l os rs p:=Ft (motive_1:=λe=>∃l os rs p,e=Expr.Compare l os rs p) e h λl os rs p=>⟨l,os,rs,p,rfl⟩
theorem yJ(ja:JE T n a)(hn:VN a=false):JC T n (.a a):=by
 intro sc N X e o h env s;obtain⟨h1,h2⟩:=za h;have je:=ja sc N X e o h1 env s;rcases (Ay _ _).mp h2 with h2|h2
 . exact Ut h2 je
 . obtain⟨l,os,rs,p,rfl⟩:=bI (of_decide_eq_true h2)
   rw[bF h1]at hn;cases hn
end
end M
end
section
namespace M
open PySem
section
variable {T:Tbl}{n:Nat}
theorem aC(ja:JE T n a)(jb:JE T n b):JE T n (.j m op a b):=by intro sc N X e o h env s;replace h:=lZ h;obtain⟨l,o1,r,p,rfl,h⟩:=h;simp only[cf,decide_eq_true_eq]at h;obtain⟨⟨⟨k1,rfl⟩,h1⟩,h2⟩:=h;exact V0 (ja _ _ _ _ o h1 env s) (λs1=>jb _ _ _ _ o h2 env s1) λta tb pa pb=>L2.kX (ZE m op k1) pa pb
theorem aF(ja:JE T n a):JE T n (.B a):=by intro sc N X e o h env s;replace h:=qY h;obtain⟨x,p,rfl,h⟩:=h;exact Uk (ja _ _ _ _ o h env s)
theorem UY(jl:JL T n es):JE T n (.r es):=by intro sc N X e o h env s;replace h:=sN h;obtain⟨xs,k,p,rfl,h⟩:=h;simp only[cf]at h;exact jr ((jl _ _ _ _ o h.1).1 h.2 env s)
theorem UW(jl:JL T n es):JE T n (.u m es):=by intro sc N X e o h env s;replace h:=lg h;obtain⟨xs,p,rfl,h⟩:=h;simp only[cf]at h;exact aO ((jl _ _ _ _ o h.1).1 h.2 env s)
theorem VP(ja:JE T n a)(jb:JE T n b):JE T n (.s a b):=by intro sc N X e o h env s;replace h:=qx h;obtain⟨l,r,p,rfl,h⟩:=h;simp only[cf]at h;exact V0 (ja _ _ _ _ o h.1.1 env s) (λs1=>jb _ _ _ _ o h.1.2 env s1) λta tb pa pb=>L2.VZ Rk pa pb (Zg h.2)
end
section
variable {Φ Φ':Calls}{G:Str->Option Val}{env:Env}
mutual
theorem rn:∀(a:Ex) (s:Sto),sim a=true->evE Φ G env a s=evE Φ' G env a s
 |.g _,_,_=>rfl
 |.e _,_,_=>rfl
 |.A _,_,_=>rfl
 |.j m op a b,s,h=>by
  simp only[sim,cf]at h;show (evE Φ G env a s).bind _=(evE Φ' G env a s).bind _;rw[rn a s h.1.2];exact congrArg _ (funext λx=>funext λs1=>by rw[rn b s1 h.2])
 |.B a,s,h=>by
  simp only[sim]at h;show (evE Φ G env a s).bind _=(evE Φ' G env a s).bind _;rw[rn a s h]
 |.r es,s,h=>by
  simp only[sim]at h;show (zo Φ G env es s).bind _=(zo Φ' G env es s).bind _;rw[su es s h]
 |.u m es,s,h=>by
  simp only[sim,cf]at h;show (zo Φ G env es s).bind _=(zo Φ' G env es s).bind _;rw[su es s h.2]
 |.s a b,s,h=>by
  simp only[sim,cf]at h;show (evE Φ G env a s).bind _=(evE Φ' G env a s).bind _;rw[rn a s h.1];exact congrArg _ (funext λx=>funext λs1=>by rw[rn b s1 h.2])
 |.J _ _,_,h=>by cases h
 |.I _,_,h=>by cases h
 |.l _ _ _,_,h=>by cases h
 |.w _ _ _ _ _,_,h=>by cases h
 |.y _ _,_,h=>by cases h
 |.K _ _,_,h=>by cases h
 |.C _ _ _,_,h=>by cases h
 |.E,_,h=>by cases h
 |.h _ _ _,_,h=>by cases h
 |.k _ _ _,_,h=>by cases h
 |.H _ _,_,h=>by cases h
 |.D _ _ _ _,_,h=>by cases h
 |.G _ _ _ _ _,_,h=>by cases h
 |.q _ _ _ _ _ _ _,_,h=>by cases h
 |.z _ _ _ _ _ _ _ _ _ _,_,h=>by cases h
 |.p _ _ _ _,_,h=>by cases h
 |.F _,_,h=>by cases h
 |.L _ _,_,h=>by cases h
theorem su:∀(es:Exs) (s:Sto),tD es=true->zo Φ G env es s=zo Φ' G env es s
 |.b,_,_=>rfl
 |.a e es,s,h=>by simp only[tD,cf]at h;show (evE Φ G env e s).bind _=(evE Φ' G env e s).bind _;rw[rn e s h.1];exact congrArg _ (funext λx=>funext λs1=>by rw[su es s1 h.2])
end
theorem pK(h:newList false vs s=.e v s'):s'=s:=by simp only[newList,A3,if_false]at h;cases h;rfl
theorem cw(h:binOp false op x y s=.e v s'):s'=s:=by unfold binOp at h;split at h<;>(repeat' split at h)<;>first|exact pK h|(cases h;rfl)|cases h
theorem XI(h:wd x y s=.e v s'):s'=s:=by
 unfold wd at h;split at h
 . split at h
   . split at h
     . cases h;rfl
     . cases h
   . cases h
 . cases h
theorem yC{o:Out α}{f}{b:β}(h:o.bind f=.e b s):∃a s1,o=.e a s1/\f a s1=.e b s:=by
 cases o with
 |e a s1=>exact⟨a,s1,rfl,h⟩
 |g _ _ _=>cases h
 |d=>cases h
mutual
theorem rq:∀(a:Ex) (s s':Sto) (v:Val),sim a=true->evE Φ G env a s=.e v s'->s'=s
 |.g _,_,_,_,_,h=>by cases h;rfl
 |.e i,s,s',v,_,h=>by
  have key:∀o:Option (Option Val),(match o with|some (some v)=>Out.e v s|_=>.d)=.e v s'->s'=s:=λo h=>by
   cases o with
   |none=>cases h
   |some o=>cases o with
    |none=>cases h
    |some w=>cases h;rfl
  exact key _ h
 |.A x,s,s',v,_,h=>by
  have key:∀o:Option Val,(match o with|some v=>Out.e v s|dr=>.d)=.e v s'->s'=s:=λo h=>by
   cases o with
   |none=>cases h
   |some w=>cases h;rfl
  exact key _ h
 |.j m op a b,s,s',v,z,h=>by
  simp only[sim,cf,AQ]at z;obtain⟨⟨rfl,z1⟩,z2⟩:=z;obtain⟨x,s1,e1,h⟩:=yC h;obtain⟨y,s2,e2,h⟩:=yC h;rw[cw h,rq b _ _ _ z2 e2,rq a _ _ _ z1 e1]
 |.B a,s,s',v,z,h=>by
  simp only[sim]at z;obtain⟨x,s1,e1,h⟩:=yC h;rw[<-rq a _ _ _ z e1];split at h
  . cases h;rfl
  . cases h
 |.r es,s,s',v,z,h=>by
  simp only[sim]at z;obtain⟨x,s1,e1,h⟩:=yC h;rw[<-sx es _ _ _ z e1];split at h
  . cases h;rfl
  . cases h
 |.u m es,s,s',v,z,h=>by
  simp only[sim,cf,AQ]at z;obtain⟨rfl,z⟩:=z;obtain⟨x,s1,e1,h⟩:=yC h;rw[<-sx es _ _ _ z e1];split at h
  . exact pK h
  . cases h
 |.s a b,s,s',v,z,h=>by
  simp only[sim,cf]at z;obtain⟨x,s1,e1,h⟩:=yC h;obtain⟨y,s2,e2,h⟩:=yC h;rw[XI h,rq b _ _ _ z.2 e2,rq a _ _ _ z.1 e1]
 |.J _ _,_,_,_,h,_=>by cases h
 |.I _,_,_,_,h,_=>by cases h
 |.l _ _ _,_,_,_,h,_=>by cases h
 |.w _ _ _ _ _,_,_,_,h,_=>by cases h
 |.y _ _,_,_,_,h,_=>by cases h
 |.K _ _,_,_,_,h,_=>by cases h
 |.C _ _ _,_,_,_,h,_=>by cases h
 |.E,_,_,_,h,_=>by cases h
 |.h _ _ _,_,_,_,h,_=>by cases h
 |.k _ _ _,_,_,_,h,_=>by cases h
 |.H _ _,_,_,_,h,_=>by cases h
 |.D _ _ _ _,_,_,_,h,_=>by cases h
 |.G _ _ _ _ _,_,_,_,h,_=>by cases h
 |.q _ _ _ _ _ _ _,_,_,_,h,_=>by cases h
 |.z _ _ _ _ _ _ _ _ _ _,_,_,_,h,_=>by cases h
 |.p _ _ _ _,_,_,_,h,_=>by cases h
 |.F _,_,_,_,h,_=>by cases h
 |.L _ _,_,_,_,h,_=>by cases h
theorem sx:∀(es:Exs) (s s':Sto) (vs:List Val),tD es=true->zo Φ G env es s=.e vs s'->s'=s
 |.b,_,_,_,_,h=>by cases h;rfl
 |.a e es,s,s',vs,z,h=>by simp only[tD,cf]at z;obtain⟨x,s1,e1,h⟩:=yC h;obtain⟨y,s2,e2,h⟩:=yC h;cases h;rw[sx es _ _ _ z.2 e2,rq e _ _ _ z.1 e1]
end
end
section
variable {T:Tbl}{n:Nat}
mutual
theorem rZ:∀(a:Ex),sim a=true->JE T n a
 |.g _,_=>aN
 |.e _,_=>aR
 |.A _,_=>VQ
 |.j m op a b,h=>by
  simp only[sim,cf]at h;exact aC (rZ a h.1.2) (rZ b h.2)
 |.B a,h=>aF (rZ a (by simpa only[sim] using h))
 |.r es,h=>by
  simp only[sim]at h;intro sc N X e o hc env s;replace hc:=sN hc;obtain⟨xs,k,p,rfl,hc⟩:=hc;simp only[cf]at hc;exact jr (mq es h _ _ _ _ o hc.1 hc.2 env s)
 |.u m es,h=>by
  simp only[sim,cf]at h;intro sc N X e o hc env s;replace hc:=lg hc;obtain⟨xs,p,rfl,hc⟩:=hc;simp only[cf]at hc;exact aO (mq es h.2 _ _ _ _ o hc.1 hc.2 env s)
 |.s a b,h=>by
  simp only[sim,cf]at h;exact VP (rZ a h.1) (rZ b h.2)
 |.J _ _,h=>by cases h
 |.I _,h=>by cases h
 |.l _ _ _,h=>by cases h
 |.w _ _ _ _ _,h=>by cases h
 |.y _ _,h=>by cases h
 |.K _ _,h=>by cases h
 |.C _ _ _,h=>by cases h
 |.E,h=>by cases h
 |.h _ _ _,h=>by cases h
 |.k _ _ _,h=>by cases h
 |.H _ _,h=>by cases h
 |.D _ _ _ _,h=>by cases h
 |.G _ _ _ _ _,h=>by cases h
 |.q _ _ _ _ _ _ _,h=>by cases h
 |.z _ _ _ _ _ _ _ _ _ _,h=>by cases h
 |.p _ _ _ _,h=>by cases h
 |.F _,h=>by cases h
 |.L _ _,h=>by cases h
theorem mq:∀(es:Exs),tD es=true->∀(sc:Scope) (N:List Str) (X:L2.Cx) (xs:List Expr),Ok T n sc N X->ckL sc N es xs=true->zj xs=true->∀env s,L2.PA X xs (tVs X.K X.d env s (zo (zF T n) T.b env es s))
 |.b,_=>λsc N X xs o h hp env s=>by
  cases AR.mp h;exact gp
 |.a e es,hs=>λsc N X xs o h hp env s=>by simp only[tD,cf]at hs;replace h:=ya h;obtain⟨y,ys,rfl,h⟩:=h;rw[zj,cf]at hp;exact l7 hp.1 (rZ e hs.1 _ _ _ _ o (za h).1 env s) λs1=>mq es hs.2 _ _ _ _ o (za h).2 hp.2 env s1
end
end
end M
end
section
namespace M
open PySem PySem.W PyProof.Rows
theorem iI(h:L2.PA X.nox es t):L2.PA X es t:=λpos pins s σ H Q I hw=>
 A6 (h pos pins s σ H Q (I.vH _) hw) (λ_ _ ⟨vs,H',I',r,q⟩=>⟨vs,H',I'.xU,r,q⟩) λ_ _ z=>Az z
theorem eR(h:tU a=true):a=L2.noArgs:=by obtain⟨po,ar,va,ko,kd,kw,df⟩:=a;simp only[tU,cf,AR,B8]at h;obtain⟨⟨⟨⟨⟨⟨rfl,rfl⟩,rfl⟩,rfl⟩,rfl⟩,rfl⟩,rfl⟩:=h;rfl
theorem Zv(r:L2.xQ (m+1) A)e1 e2:L2.xQ m ((A.deeper e1).deeper e2):=
 ⟨r.b,by have:=r.c;show A.depth+1+1+3*m+5<_;omega,by have:=r.a;show A.units+3+3+16*m+200<_;omega,r.d⟩
theorem QZ(h:∀v s',o=.e v s'->L2.PE X E (tV X.K X.d env s o)):L2.PE X E (tV X.K X.d env s o):=by
 cases o with
 |e v s'=>exact h v s' rfl
 |g _ _ _=>exact zK (zG rfl)
 |d=>exact zK (zG rfl)
theorem bz(h:oy sc x=true):L2.Vis sc x:=by
 simp only[oy,Ay,decide_eq_true_eq]at h;rcases h with (h|h)|h
 . exact .inl h
 . exact .inr (.inl h)
 . exact .inr (.inr h)
theorem ZW{ds}{i:Nat}(F:L2.sF X.f X.w X.K X.d X.i CX k f fd ps sp)(hr:L2.xQ k X.A)(hN:X.N[i]?=some x)(hv:L2.Vis X.a.scope x)(hk:B4 X.K (.ref f)=true)(hb:L2.Binds X.K fd ps ds)(hd:L2.Vals dvs ds)(hx:L2.Passes CX X E)
 (ha:L2.PA X (e::es) t) (hdb:(x == ("__debug__":Str))=false) (hcd:(x == ("__classdict__":Str))=false) (he:AI (e::es) X.a=(false,eval e X.a)::AI es X.a) (hpl:(backTo pos (AI es X.a)).any (·.1)=false) :
 L2.PE X (.Call (.Name x p) (e::es) [] pos) (λσ H Q=>σ[i]?=some (some (.c f))/\L2.fH sp dvs E t σ H Q):=by
 intro pins s σ H Q I ⟨h0,h⟩;refine BI (L2.thn (L2.uc hN hv hdb hcd pins s σ H (λv H2=>v=L2.V.c f/\H2=H) I ⟨_,h0,rfl,rfl⟩) λu s2 ⟨v,H2,I2,r,hv2,hH2⟩=>?_);subst hv2 hH2;cases r;refine DB (h₀:=X.i) I2.B.j.a hk (L2.thn (ha pos pins s2 σ H2 _ I2 h) λus s1 ⟨vs,H1,I1,r,q⟩=>⟨I1.kIn,?_⟩) he hpl;exact L2.iT F hr hb hd hx I1 r q
section
variable {T:Tbl}{n:Nat}{sc lsc:Scope}{N:List Str}{X:L2.Cx}
def Cal(lsc:Scope)(N:List Str)(env:Env)(y f:Str):Prop:=(y=f/\lsc.names.lookup y=some .globalImplicit/\(y == ("__debug__":Str))=false) \/
 ∃i:Nat,N[i]?=some y/\oy lsc y=true/\(y == ("__debug__":Str))=false/\(y == ("__classdict__":Str))=false/\env[i]?=some (some (.q f))
theorem nR(o:Ok T (m+1) sc N X)(h2:sc.names.lookup (L2.yf md)=some .globalImplicit)(h3:tU a=true)(h4:oj sc lsc=true)
 (h8:tD es=true) (h9:ckL lsc N es ys=true) (h10:zj ys=true) (h11:ys.isEmpty=false) (h12:("!":Str)∈N) env s (hcal:Cal lsc N env y f) (ho:zo (zF T m) T.b env es s=.e vs s) (htb:zf T.f s=true) (hmd:T.c md=true) :
 L2.PE X (.Call (.Name (L2.yf md) p1) [.Lambda a (.Call (.Name y p2) ys [] p3) lsc p4] [] p5) (tV X.K X.d env s (qL T md (zF T m f 0 vs s) (zl T m f 0 vs s))):=by
 obtain rfl:=eR h3;intro pins s0 σ H Q I ⟨ρ,hr,er,wt⟩;have sd:=o.sd m rfl ⟨md,hmd⟩;obtain⟨kx,cs,ws,pre,hue,hhue,KF,SF,CF,RF⟩:=sd.b.ex;obtain⟨fS,SF'⟩:=SF md hmd;obtain⟨stS,fdS,hmS,FnS,_⟩:=id SF'.ex;simp only[oj,cf,decide_eq_true_eq,AQ,Ao,Bl,Ay]at h4;obtain⟨⟨⟨⟨k1,k2⟩,k3⟩,k4⟩,⟨x0,hx0,hx0f⟩⟩:=h4;have fcell:∀x∈lsc.names,x.2=.free->sc.names.lookup x.1=some .cell\/sc.names.lookup x.1=some .free:=λx hx hf=>by
  rcases k4 x hx with z|z
  . rw[hf]at z;cases z
  . exact z.2
 obtain⟨g,hg,fa,c,ob,fd,q1,q2,q3,q4,q5,q6⟩:=o.k ⟨md,hmd⟩ ⟨x0.1,hx0f.2⟩ h12;obtain⟨j,hj⟩:=lx htb hg;obtain⟨P,hPo,tr⟩:=hr.m j _ hj;obtain⟨ps,hP,tok,among,fa',c',o',fd',w1,w2,w3,w4,w5⟩:=id tr;rw[q1]at w1;cases w1;rw[q2]at w2;cases w2;rw[q3]at w3;cases w3;rw[q4]at w4;cases w4;have hq:X.a.qual++("<lambda>":Str)=U3 g:=by rw[q6];rfl
 have cellOf':∀x,(x,AH)∈lsc.names->∃b,X.a.cells.lookup x=some b:=λx hx=>I.B.r x (o.a.f x (fcell _ hx rfl));have clk:∀x b,(wz X.a.cells lsc.names []).lookup x=some b->(x,AH)∈lsc.names/\X.a.cells.lookup x=some b:=λx b e=>by
  rcases oo (AY e) with z|⟨z1,z2⟩
  . cases z
  . obtain⟨b',hb'⟩:=cellOf' x z1
    rw[hb']at z2;exact⟨z1,by rw[hb',z2];rfl⟩
 have hdbg:(L2.yf md == ("__debug__":Str))=false:=by cases md<;>decide
 refine BI (L2.vJ I (o.a.a _ h2) hmS ?_ hdbg);refine DB (h₀:=X.i) I.B.j.a FnS.b ?_;show wpAny _ _ (spliced ((false,eval (.Lambda L2.noArgs (.Call (.Name y p2) ys [] p3) lsc p4) X.a)::backTo p5 (AI [] X.a))) _ _ s0;refine Calls.spliced_cons (L2.ah (P:=P) (ps:=ps) (c:=c) I rfl (Yi λx hx hf=>cellOf' x.1 (by rw[<-hf];exact hx)) q5 (w5 _ I.kIn) hP tok (sd.b.bm _ I.B.j.a) (λcv hcv=>?_) λlf c2 ctv H' h' tk I' lamh ⟨nl,nf,cdr⟩ obj cr=>Calls.spliced_nil ⟨I'.kIn,?_⟩)
 . obtain⟨b,ob',vb,tb,z1,_,z3,z4,z5⟩:=among _ cv hcv
   exact⟨b,ob',vb,tb,z1,z3,z4,by rw[hq];exact z5⟩
 rw[hq]at lamh;obtain⟨hr',X0⟩:=hr.lam hj hPo tr hP lamh;cases hfn:T.d f 0 with
 |none=>
  exfalso;have h1:zF T m f 0 vs s=.d:=by
   cases m with
   |zero=>rfl
   |succ m=>simp only[zF,hfn];cases ll vs<;>rfl
  have h2:zl T m f 0 vs s=dr:=by
   cases m with
   |zero=>rfl
   |succ m=>simp only[zl,hfn]
  rw[h1,h2]at wt;exact wt
 |some F=>
  obtain⟨fa2,fd2,e1,e2,e3,e4,e5⟩:=(sd.a m (Ac _)).a f 0 F hfn;have L:L2.gJ X.g h' H' lf c2 (X.a.qual++("<lambda>":Str)) (.Call (.Name y p2) ys [] p3) lsc (wz X.a.cells lsc.names []) ((X.d "__name__").getD .none) ctv N σ:=by
   refine⟨obj,nl,nf,cdr,λx y b z1 z2=>I.B.s x y b (clk x b z1).2 (clk y b z2).2,λx hx=>lookup_mem (rQ (AY hx)),λx b e=>?_,λi x v z1 z2 z3=>?_,by rw[<-o.a.b];exact I'.P,k1,k2,k3,λx hx=>?_⟩
   . obtain⟨y1,y2⟩:=clk x b e
     exact⟨I'.F x b y2,I'.J x b y2⟩
   . have hm3:=AY z3
     have hcl:=fcell _ hm3 rfl;obtain⟨mm,hn,hl⟩:=I'.M;obtain⟨u,ru,lk⟩:=hl i x v (by rw[o.a.b];exact z1) z2 (o.a.e x (.inr hcl))
     rcases lk with⟨y,_⟩|⟨_,b,y2,y3⟩
     . rcases o.a.f x hcl with y'|y'
       . rw[y]at y';cases y'
       . rw[y]at y';cases y'
     . obtain⟨b',hb'⟩:=lookup_mem (rQ (cells:=X.a.cells) (acc:=[]) hm3)
       have:=(clk x b' hb').2;rw[y2]at this;cases this;exact⟨u,b,ru,hb',y3⟩
   . rcases k4 x hx with z|z
     . rw[z];exact⟨nofun,nofun⟩
     . rw[z.1];exact⟨nofun,nofun⟩
  refine Eu (Dd (L2.Z5 (EE:=λcls H2=>∃(cc:Str) (as:List Val) (s':Sto) (ρ2:Own) (C:Addr),((∀v s1,zF T m f 0 vs s≠.e v s1)/\zl T m f 0 vs s=some (cc,as,s'))/\Ext ρ H' ρ2 H2/\HR X.K X.d ρ2 s' H2/\X.d cc=some (.ref C)/\cls=.ref C)
   (Q:=Q) (tb:=λσ1 H1 Q1=>(∀i:Nat,env[i]?=some (some (.q f))->σ1[i]?=some (some (.c fa2)))/\L2.fH (spX T X.K X.d m f 0) [] (λcls _ H2=>∃(cc:Str) (as:List Val) (s':Sto) (ρ2:Own) (C:Addr),((∀v s1,zF T m f 0 vs s≠.e v s1)/\zl T m f 0 vs s=some (cc,as,s'))/\Ext ρ H' ρ2 H2/\HR X.K X.d ρ2 s' H2/\X.d cc=some (.ref C)/\cls=.ref C) (tVs X.K X.d env s (zo (zF T m) T.b env es s)) σ1 H1 Q1)
   I'.uR o.d.b (by have:=o.d.c;omega) SF' KF hhue L (λuR s' H2=>?_) ?_ λcls H2 hEE=>?_) λr s' hres=>?_)
  . cases ys with
    |nil=>cases h11
    |cons y1 ys=>
     have hp2:=h10;rw[zj,cf]at hp2;have okL:Ok T m lsc N (L2.qv (L2.CXE X.f X.w) X.f X.w X.K X.d X.i N (X.a.qual++("<lambda>":Str)) lsc lf (.ref c2) (wz X.a.cells lsc.names []) (X.A.deeper uR) (uR::X.g) s' H2 (λcls _ H2=>∃(cc:Str) (as:List Val) (s':Sto) (ρ2:Own) (C:Addr),((∀v s1,zF T m f 0 vs s≠.e v s1)/\zl T m f 0 vs s=some (cc,as,s'))/\Ext ρ H' ρ2 H2/\HR X.K X.d ρ2 s' H2/\X.d cc=some (.ref C)/\cls=.ref C)).nox:=by
      refine⟨rfl,Zv o.d _ _,⟨rfl,o.a.d,λx hx=>hx,λx hx=>?_,λx hx=>hx,λx hx=>hx⟩,λf' v' F' hf'=>?_,o.i,o.g,rfl,o.j,λm' hm' hmd'=>⟨sd.b,λj hj=>sd.a j (by omega)⟩,λ_ ⟨x,hx⟩ _=>?_⟩
      . exfalso
        rcases hx with hx|hx
        . rcases k4 _ (AY hx) with z|z
          . cases z
          . cases z.1
        . rcases k4 _ (AY hx) with z|z
          . cases z
          . cases z.1
      . obtain⟨fa3,fd3,y1,y2,y3,y4,y5⟩:=(sd.a m (Ac _)).a f' v' F' hf'
        exact⟨⟨fa3,fd3,y1,y2,y3,y4⟩⟩
      . exfalso
        rcases k4 _ (AY hx) with z|z
        . cases z
        . cases z.1
     have hpa:=iI (mq es h8 lsc N _ _ okL h9 h10 env s);rcases hcal with⟨rfl,h6,h7⟩|⟨i,c1,c2,c3,c4,c5⟩
     . exact zb (L2.mx e5 (Zv o.d _ _) h6 e1 e2 e3 .nil L2.pU hpa h7 (L2.zg (zV hp2.1)) (xR hp2.2)) λσ H Q h=>h.2
     . exact zb (ZW e5 (Zv o.d _ _) c1 (bz c2) e2 e3 .nil L2.pU hpa c3 c4 (L2.zg (zV hp2.1)) (xR hp2.2)) λσ H Q h=>⟨h.1 i c5,h.2⟩
  . refine Ad (λi he=>?_) ⟨ρ,hr',er.mono X0,?_⟩
    . obtain⟨x,hx,r⟩:=er.a i _ he
      cases r with
      |G e=>rw[e1]at e;cases e;exact hx
    rw[ho];intro ρ1 xs H1 x1 hr1 r1;refine⟨ρ1,s,vs,hr1,by rw[A8];exact r1,?_⟩
    cases hres:zF T m f 0 vs s with
    |e v s'=>
     rw[hres]at wt;refine .inl λρ2 x H2 x2 hr2 r2=>?_;have X2:=X0.trans hr' (x1.trans hr1 x2);cases md with
     |true=>exact wt ρ2 x H2 X2 hr2 r2
     |false=>exact wt ρ2 _ H2 X2 hr2 (.D _)
    |g _ _ _=>
     rw[hres]at wt;cases hx:zl T m f 0 vs s with
     |none=>rw[hx]at wt;exact wt.elim
     |some r=>
      obtain⟨cc,as,s'⟩:=r;exact .inr λρ2 H2 x2 hr2 C hC=>⟨cc,as,s',ρ2,C,⟨zG rfl,rfl⟩,x1.trans hr1 x2,hr2,hC,rfl⟩
    |d=>
     rw[hres]at wt;cases hx:zl T m f 0 vs s with
     |none=>rw[hx]at wt;exact wt.elim
     |some r=>
      obtain⟨cc,as,s'⟩:=r;exact .inr λρ2 H2 x2 hr2 C hC=>⟨cc,as,s',ρ2,C,⟨zG rfl,rfl⟩,x1.trans hr1 x2,hr2,hC,rfl⟩
  . obtain⟨cc,as,s',ρ2,C,⟨hno,hexc⟩,x2,hr2,hC,rfl⟩:=hEE
    have wt:yq X.K X.d (RD X.K X.d) ρ H (match T.e.lookup cc with|some w=>.e (.g w) s'|dr=>.d) Q:=by
     rw[hexc]at wt;cases hn:zF T m f 0 vs s with
     |e v s1=>exact absurd hn (hno v s1)
     |g _ _ _=>rw[hn]at wt;exact wt
     |d=>rw[hn]at wt;exact wt
    cases hw:T.e.lookup cc with
    |none=>rw[hw]at wt;exact wt.elim
    |some w=>
     rw[hw]at wt;obtain⟨C',i,x,c1,c2,c3,c4,c5,c6,c7⟩:=CF cc w hw;rw[hC]at c1;cases c1;refine⟨C,cc,i,x,rfl,c2,c3,c4,c5,λ_=>by rw[<-c6];exact c7,λH3 sm=>?_⟩
     obtain⟨hr3,x3⟩:=hr2.Qx sm;have:=wt ρ2 (.e w) H3 (X0.trans hr' (x2.trans hr2 x3)) hr3 (.D w);rw[<-c6];exact this
  . cases r with
    |error e=>exact Az hres
    |ok fl=>
     cases fl with
     |ret u=>exact I'.after hres
     |next=>exact Az hres
     |brk=>exact Az hres
     |cont=>exact Az hres
theorem Xb(o:Ok T n sc N X)(hver:¬ver<100)(hver2:ver<200)(h2:sc.names.lookup (L2.yf (decide (ver=101)))=some .globalImplicit)(h3:tU a=true)(h4:oj sc lsc=true)(h6:lsc.names.lookup f=some .globalImplicit)
 (h7:(f == ("__debug__":Str))=false) (h8:tD es=true) (h9:ckL lsc N es ys=true) (h10:zj ys=true) (h11:ys.isEmpty=false) (h12:("!":Str)∈N) env s :
 L2.PE X (.Call (.Name (L2.yf (decide (ver=101))) p1) [.Lambda a (.Call (.Name f p2) ys [] p3) lsc p4] [] p5) (tV X.K X.d env s (evE (zF T n) T.b env (.h f ver es) s)):=by
 show L2.PE X _ (tV X.K X.d env s ((zo (zF T n) T.b env es s).bind λvs s1=>zF T n f ver vs s1));cases n with
 |zero=>
  refine zK λv s' e=>?_;obtain⟨_,_,_,z⟩:=yC e;cases z
 |succ m=>
  rw[su (Φ':=zF T m) es s h8];cases ho:zo (zF T m) T.b env es s with
  |g _ _ _=>exact zK (zG rfl)
  |d=>exact zK (zG rfl)
  |e vs s1=>
   obtain rfl:s=s1:=(sx es _ _ _ h8 ho).symm;rw[zO];have hcall:zF T (m+1) f ver vs s=if ((decide (ver=100)&&T.c false)||(decide (ver=101)&&T.c true))&&zf T.f s then qL T (decide (ver=101)) (zF T m f 0 vs s) (zl T m f 0 vs s) else .d:=by
    simp only[zF,o.j f ver (by omega)]
    rw[decide_eq_false (show ¬ver=200 by omega),decide_eq_false (show ¬ver=300 by omega),decide_eq_false (show ¬ver=301 by omega)]
    congr 1;cases ll vs<;>rfl
   rw[hcall];by_cases hcond:(((decide (ver=100)&&T.c false)||(decide (ver=101)&&T.c true))&&zf T.f s)=true
   case neg=>rw[if_neg hcond];exact zK (zG rfl)
   rw[if_pos hcond];rw[cf]at hcond;obtain⟨hmd0,htb⟩:=hcond;have hmd:T.c (decide (ver=101))=true:=by
    simp only[Ay,cf,decide_eq_true_eq]at hmd0;rcases hmd0 with⟨z1,z2⟩|⟨z1,z2⟩
    . rw[decide_eq_false (by omega)];exact z2
    . rw[decide_eq_true z1];exact z2
   exact nR o h2 h3 h4 h8 h9 h10 h11 h12 env s (.inl ⟨rfl,h6,h7⟩) ho htb hmd
theorem aQ(o:Ok T n sc N X)(hver:¬ver<200)(hv2:ver≠200)(hvf:Wy es=true)(h2:sc.names.lookup (L2.yf (decide (ver=301)))=some .globalImplicit)(h3:tU a=true)(h4:oj sc lsc=true)
 (h8:tD es=true) (h9:ckL lsc N es (.Name y default::ys)=true) (h10:zj ys=true) (h11:ys.isEmpty=false) (h12:("!":Str)∈N) env s :
 L2.PE X (.Call (.Name (L2.yf (decide (ver=301))) p1) [.Lambda a (.Call (.Name y p2) ys [] p3) lsc p4] [] p5) (tV X.K X.d env s (evE (zF T n) T.b env (.h f ver es) s)):=by
 show L2.PE X _ (tV X.K X.d env s ((zo (zF T n) T.b env es s).bind λvs s1=>zF T n f ver vs s1));obtain⟨i,es',rfl⟩:=Wz hvf;have h9:((decide (N[i]?=some y)&&oy lsc y&&!(y == ("__debug__":Str))&&!(y == ("__classdict__":Str)))&&ckL lsc N es' ys)=true:=h9;simp only[cf,decide_eq_true_eq,AQ]at h9;obtain⟨⟨⟨⟨c1,c2⟩,c3⟩,c4⟩,c5⟩:=h9;have h8:tD es'=true:=by rw[tD,cf]at h8;exact h8.2
 cases n with
 |zero=>
  refine zK λv s' e=>?_;obtain⟨_,_,_,z⟩:=yC e;cases z
 |succ m=>
  refine QZ λv s' e=>?_;obtain⟨vs,s1,hvs,hc⟩:=yC e;obtain⟨v0,s0,hv0,hr0⟩:=yC (show ((evE (zF T (m+1)) T.b env (.e i) s).bind λv s1=>(zo (zF T (m+1)) T.b env es' s1).bind λvs s2=>.e (v::vs) s2)=.e vs s1 from hvs);obtain⟨us,s2,hus,hr1⟩:=yC hr0;cases hr1;have hv0':(match env[i]? with|some (some v)=>Out.e v s|_=>.d)=.e v0 s0:=hv0
  split at hv0'
  case h_2=>cases hv0'
  rename_i v0' he;cases hv0';rw[su (Φ':=zF T m) es' s h8]at hus;obtain rfl:s1=s:=sx es' _ _ _ h8 hus;simp only[zF,o.j f ver (by omega)]at hc
  rw[decide_eq_false (show ¬ver=100 by omega),decide_eq_false (show ¬ver=101 by omega),decide_eq_false hv2]at hc
  cases v0 with
  |q g=>
   have hc:(if ((decide (ver=300)&&T.c false)||(decide (ver=301)&&T.c true))&&zf T.f s1 then qL T (decide (ver=301)) (zF T m g 0 us s1) (zl T m g 0 us s1) else .d)=.e v s':=hc
   by_cases hcond:(((decide (ver=300)&&T.c false)||(decide (ver=301)&&T.c true))&&zf T.f s1)=true
   case neg=>rw[if_neg hcond]at hc;cases hc
   rw[if_pos hcond]at hc;rw[cf]at hcond;obtain⟨hmd0,htb⟩:=hcond;have hmd:T.c (decide (ver=301))=true:=by
    simp only[Ay,cf,decide_eq_true_eq]at hmd0;rcases hmd0 with⟨z1,z2⟩|⟨z1,z2⟩
    . rw[decide_eq_false (by omega)];exact z2
    . rw[decide_eq_true z1];exact z2
   have:=nR (p1:=p1) (p2:=p2) (p3:=p3) (p4:=p4) (p5:=p5) o h2 h3 h4 h8 c5 h10 h11 h12 env s1 (.inr ⟨i,c1,c2,c3,c4,he⟩) hus htb hmd;rw[hc]at this;rw[e];exact this
  |_=>cases hc
end
end M
end
section
namespace M
open PySem
section
variable {T:Tbl}{n:Nat}
theorem UX(ja:JE T n a):JE T n (.I a):=by intro sc N X e o h env s;replace h:=qY h;obtain⟨x,p,rfl,h⟩:=h;exact Ul (ja _ _ _ _ o h env s)
theorem UT(ja:JE T n a)(jb:JE T n b):JE T n (.l op a b):=by intro sc N X e o h env s;replace h:=mL h;obtain⟨l,o1,r,p,rfl,h⟩:=h;simp only[cf,decide_eq_true_eq]at h;obtain⟨⟨⟨⟨k1,rfl⟩,h1⟩,h2⟩,h3⟩:=h;exact V0 (ja _ _ _ _ o h1 env s) (λs1=>jb _ _ _ _ o h2 env s1) λta tb pa pb=>L2.g8 (tm o.d op k1) pa pb (vD h3)
theorem aD(ja:JE T n a)(jb:JE T n b)(jc:JE T n c):JE T n (.w op op' a b c):=by intro sc N X e o h env s;replace h:=gU h;obtain⟨l,o1,o2,r,r2,p,rfl,h⟩:=h;simp only[cf,decide_eq_true_eq]at h;obtain⟨⟨⟨⟨⟨⟨k1,rfl⟩,k2,rfl⟩,h3⟩,h4⟩,h5⟩,h6⟩:=h;exact aM k1 k2 o.d (ja _ _ _ _ o h3 env s) (λs1=>jb _ _ _ _ o h4 env s1) (λs1=>jc _ _ _ _ o h5 env s1) h6
theorem UR(ja:JE T n a)(jl:JL T n es):JE T n (.y a es):=by
 intro sc N X e o h env s;replace h:=mK h;obtain⟨x,xs,pos,rfl,h⟩:=h;simp only[cf]at h;obtain⟨h1,h2⟩:=h;cases es with
 |b=>
  cases AR.mp h2;exact L2.iJ (ja _ _ _ _ o h1 env s)
 |a b es'=>
  cases xs with
  |nil=>cases h2
  |cons y ys=>exact aK (ja _ _ _ _ o h1 env s) λs1=>(jl _ _ _ _ o h2).2.1 y ys pos rfl env s1
theorem UU(jc:JC T n c)(ja:JE T n a)(jb:JE T n b):JE T n (.C c a b):=by intro sc N X e o h env s;replace h:=bY h;obtain⟨t,x,y,p,rfl,h⟩:=h;simp only[cf]at h;exact Uj (jc _ _ _ _ o h.1.1 env s) (λs1=>ja _ _ _ _ o h.1.2 env s1) (λs1=>jb _ _ _ _ o h.2 env s1)
theorem jY(hv:ver<100)(h:T.d f ver=none)vs s:zF T n f ver vs s=.d:=by
 cases n with
 |zero=>rfl
 |succ n=>
  have h1:decide (ver=100)=false:=decide_eq_false (by omega)
  have h2:decide (ver=101)=false:=decide_eq_false (by omega)
  have h3:decide (ver=200)=false:=decide_eq_false (by omega)
  have h4:decide (ver=300)=false:=decide_eq_false (by omega)
  have h5:decide (ver=301)=false:=decide_eq_false (by omega)
  simp only[zF,h,h1,h2,h3,h4,h5,Dc,Bool.or_self,A3,if_false];cases ll vs<;>rfl
theorem XN(jl:JL T n es):JE T n (.h f ver es):=by
 intro sc N X e o h env s;replace h:(if ver<100 then ckA sc f (λxs=>ckL sc N es xs) e else if ver<200 then ckB sc N f ver es (λl ys=>ckL l N es ys) e else ckV sc N ver es (λl ys=>ckL l N es ys) e)=true:=h
 split at h
 . rename_i hver
   replace h:=xF h;obtain⟨x,p,xs,pos,rfl,h⟩:=h;simp only[cf,decide_eq_true_eq,wO,AQ]at h;obtain⟨⟨⟨⟨rfl,h2⟩,h3⟩,h4⟩,h5⟩:=h;show L2.PE X _ (tV X.K X.d env s ((zo (zF T n) T.b env es s).bind λvs s1=>zF T n x ver vs s1));cases hf:T.d x ver with
   |none=>
    refine zK λv s' e=>?_;cases hv:zo (zF T n) T.b env es s with
    |e vs s1=>rw[hv]at e;simp only[zO,jY hver hf]at e;cases e
    |g _ _ _=>rw[hv]at e;cases e
    |d=>rw[hv]at e;cases e
   |some F=>
    have C:=o.l x ver F hf;cases xs with
    |nil=>
     cases es with
     |b=>exact aL C o.d (o.a.a x h2) h3
     |a _ _=>cases h4
    |cons y ys=>exact XY C o.d (o.a.a x h2) h3 h5 (by simp) ((jl _ _ _ _ o h4).1 h5 env s)
 . rename_i hver
   split at h
   . rename_i hver2
     replace h:=gY h;obtain⟨x,a,y,ys,lsc,p1,p2,p3,p4,p5,rfl,h⟩:=h;simp only[cf,decide_eq_true_eq,wO,AQ]at h;obtain⟨⟨⟨⟨⟨⟨⟨⟨⟨⟨⟨rfl,h2⟩,h3⟩,h4⟩,rfl⟩,h6⟩,h7⟩,h8⟩,h9⟩,h10⟩,h11⟩,h12⟩:=h;exact Xb o hver hver2 h2 h3 h4 h6 h7 h8 h9 h10 h11 h12 env s
   . rename_i hver2
     obtain⟨h0,hh⟩:=za h;replace h:=gY hh;obtain⟨x,a,y,ys,lsc,p1,p2,p3,p4,p5,rfl,h⟩:=h;simp only[cf,decide_eq_true_eq,wO,AQ]at h;obtain⟨⟨⟨⟨⟨⟨⟨⟨⟨rfl,h2⟩,h3⟩,h4⟩,h8⟩,h9⟩,h10⟩,h11⟩,h12⟩,h13⟩:=h;exact aQ o hver2 h13 (za h0).2 h2 h3 h4 h8 h9 h10 h11 h12 env s
theorem cu(f:Bf):f.nm∈wy:=by cases f<;>decide
theorem US(jl:JL T n es):JE T n (.k f m es):=by intro sc N X e o h env s;replace h:=xF h;obtain⟨x,p,xs,pos,rfl,h⟩:=h;replace h:=ya h;obtain⟨y,ys,rfl,h⟩:=h;simp only[cf,decide_eq_true_eq,wO]at h;obtain⟨⟨⟨⟨k1,rfl⟩,h2⟩,h3⟩,h4⟩:=h;exact Ui k1 o.c o.d (o.a.a _ h2) (o.g _ (cu f)) h4 ((jl _ _ _ _ o h3).1 h4 env s)
theorem fv(_:JE T n z)(ja:JE T n a):JE T n (.p m z a w):=by
 intro sc N X e o h env s;replace h:=xF h;obtain⟨x,p,xs,pos,rfl,h⟩:=h;replace h:=yr h;obtain⟨i1,rfl,h⟩:=h;replace h:=xF h;obtain⟨y,p2,ys,pos2,rfl,h⟩:=h;replace h:=ya h;obtain⟨c,ds,rfl,h⟩:=h;cases ds with
 |nil=>
  simp only[List.isEmpty_nil,if_true,cf,wO]at h;obtain⟨⟨⟨⟨hw,h3⟩,h4⟩,h5⟩,h6⟩:=h;replace h3:=of_decide_eq_true h3;replace h4:=of_decide_eq_true h4;split at hw
  case isTrue htx=>cases hw
  simp only[cf,decide_eq_true_eq]at hw;obtain⟨⟨⟨h1,h2⟩,rfl⟩,rfl⟩:=hw;obtain rfl:=l6 h1;obtain rfl:=l6 h2;have je:=ja _ _ _ _ o h5 env s;show L2.PE X _ (tV X.K X.d env s ((evE (zF T n) T.b env a s).bind λy s2=>au m (.c 0) y (.c 1) s2));cases ho:evE (zF T n) T.b env a s with
  |e v s1=>
   rw[ho]at je;refine zb (L2.oO o.c rfl rfl (o.a.a _ h3) (o.g _ (by decide)) (o.a.a _ h4) (o.g _ (by decide)) (L2.pac je L2.xK (zV h6)) (L2.zg (zV h6))) λσ H Q ⟨ρ,hr,er,w⟩=>⟨ρ,hr,er,λρ1 x H1 x1 hr1 r1=>?_⟩
   have w':=w.mono x1 hr1;cases r1 with
   |l j=>
    by_cases hc:-(2 ^ 30)<=(0:Int)/\(0:Int)<=2 ^ 30∧-(2 ^ 30)<=j/\j<=2 ^ 30/\(0:Int)<1/\(1:Int)<=2 ^ 29/\AS 0 j 1<=1000
    . have w2:yq X.K X.d (RD X.K X.d) ρ1 H1 (if -(2 ^ 30)<=(0:Int)/\(0:Int)<=2 ^ 30∧-(2 ^ 30)<=j/\j<=2 ^ 30/\(0:Int)<1/\(1:Int)<=2 ^ 29/\AS 0 j 1<=1000 then newList m ((L2.yj 0 j 1).map .c) s1 else .d) Q:=w'
      rw[if_pos hc]at w2;exact⟨j,rfl,hc.2.2.1,hc.2.2.2.1,hc.2.2.2.2.2.2,vz hr1 (RDs.ints _) w2⟩
    . have w2:yq X.K X.d (RD X.K X.d) ρ1 H1 (if -(2 ^ 30)<=(0:Int)/\(0:Int)<=2 ^ 30∧-(2 ^ 30)<=j/\j<=2 ^ 30/\(0:Int)<1/\(1:Int)<=2 ^ 29/\AS 0 j 1<=1000 then newList m ((L2.yj 0 j 1).map .c) s1 else .d) Q:=w'
      rw[if_neg hc]at w2;exact w2.elim
   |_=>exact w'.elim
  |g _ _ _=>exact zK (zG rfl)
  |d=>exact zK (zG rfl)
 |cons d ds=>cases h
theorem XQ(ja:JE T n a)(jl:JL T n es):JE T n (.D f m a es):=by intro sc N X e o h env s;replace h:=Yv h;obtain⟨ob,x,ap,y,cp,rfl,h⟩:=h;simp only[cf,decide_eq_true_eq]at h;obtain⟨⟨⟨⟨⟨⟨rfl,h1⟩,h2⟩,h3⟩,h4⟩,h5⟩,hm⟩:=h;obtain⟨b,rfl,jb⟩:=(jl _ _ _ _ o h2).2.2.2 y rfl h3;exact aP hm h4 h3 h5 (ja _ _ _ _ o h1 env s) λs1=>jb env s1
theorem Rm(ja:JE T n a)(j1:JO T n lo)(j2:JO T n hi)(j3:JO T n st):JE T n (.G m a lo hi st):=by
 intro sc N X e o h env s;replace h:=Yw h;obtain⟨l1,x1,y1,z1,p1,p2,rfl,h⟩:=h;simp only[cf]at h;obtain⟨⟨⟨h1,h2⟩,h3⟩,h4⟩:=h;obtain⟨p3,q3⟩:=j3 _ _ _ _ o h4;refine Rr (ja _ _ _ _ o h1 env s) (λs1=>(j1 _ _ _ _ o h2).1 env s1) (λs1=>(j2 _ _ _ _ o h3).1 env s1) (λs1=>p3 env s1) ?_;rcases q3 with⟨e1,e2⟩|⟨e',e1,e2⟩
 . exact .inl ⟨e1,λs1=>e2 env s1⟩
 . exact .inr ⟨e',e1,λs1 s2=>e2 env s1 s2⟩
theorem XO(je:JE T n elt)(ji:JI T n it)(jc:JCs T n ifs):JE T n (.q m N' fr elt t it ifs):=by
 intro sc N X e o h env s;replace h:=gW h;obtain⟨x,tg,iter,fs,csc,cpos,rfl,h⟩:=h;simp only[cf,decide_eq_true_eq]at h;obtain⟨⟨⟨⟨⟨⟨h1,h2⟩,h3⟩,h4⟩,h5⟩,h6⟩,h7⟩:=h;have S:=gO o.a h1;have oc:=o.comp S h2 h1;obtain⟨g,pg,tg'⟩:∃g,(∀C s0 H0 ex,L2.PG (X.comp N' csc C s0 H0 ex) tg g)/\rJ X.K X.d t g:=by
  cases t with
  |a i=>
   cases tg with
   |Name y p=>
    simp only[ckT,cf,Ay,decide_eq_true_eq]at h3;exact⟨_,λC s0 H0 ex=>nJ (oc C s0 H0 ex).a h3.1 h3.2,rA⟩
   |_=>cases h3
  |b is=>
   cases tg with
   |Tuple es k p=>
    simp only[ckT,cf,decide_eq_true_eq]at h3;refine⟨_,λC s0 H0 ex=>?_,vk (is:=is)⟩;obtain⟨a,b,c⟩:=wH (oc C s0 H0 ex).a h3.1;exact L2.rl (X:=X.comp N' csc C s0 H0 ex) o.c a b c
   |_=>cases h3
 have rule:L2.PE X (.ListComp x [⟨tg,iter,fs,0⟩] csc cpos) (L2.uf fr (uI X.K X.d (zF T n) T.b it) g (uTs X.K X.d (zF T n) T.b ifs) λacc=>L2.tN acc (uE X.K X.d (zF T n) T.b elt)):=
  L2.g9 o.c S (iL λenv s=>ji _ _ _ _ _ o h4 env s) pg (λC s0 H0 ex=>(jc _ _ _ _ (oc C s0 H0 ex) h5).2.2) (λC s0 H0 ex=>WJ (X:=X.comp N' csc C s0 H0 ex) λenv s=>je _ _ _ _ (oc C s0 H0 ex) h6 env s) (yX h7)
 refine zb rule λσ H Q hq=>uq (env:=env) (s:=s) (chk:=false) (m:=m) (body:=tP (zF T n) T.b elt ifs) tg' vM (λacc ρ0 H0 hn=>oB hn) ?_ λ_ r s1 p s2 hl=>?_
 . simp only[A3,false_implies,if_true];exact hq
 . have:=qD hl
   simpa using this
theorem aE(je:JE T n elt)(ji:JI T n it)(jc:JCs T n ifs)(ji2:JI T n it2)(jc2:JCs T n ifs2):JE T n (.z m N' fr elt t it ifs t2 it2 ifs2):=by
 intro sc N X e o h env s;replace h:=gX h;obtain⟨x,tg,iter,fs,tg2,iter2,fs2,csc,cpos,rfl,h⟩:=h;simp only[cf,decide_eq_true_eq]at h;obtain⟨⟨⟨⟨⟨⟨⟨⟨⟨⟨h1,h2⟩,h3⟩,h4⟩,h5⟩,h6⟩,h7⟩,h8⟩,h9⟩,h10⟩,h11⟩:=h;have S:=gO o.a h1;have oc:=o.comp S h2 h1;have tgt:∀(t:Tgt) (tg:Expr),ckT csc N' t tg=true->∃g,(∀C s0 H0 ex,L2.PG (X.comp N' csc C s0 H0 ex) tg g)/\rJ X.K X.d t g:=by
  intro t tg h3;cases t with
  |a i=>
   cases tg with
   |Name y p=>
    simp only[ckT,cf,Ay,decide_eq_true_eq]at h3;exact⟨_,λC s0 H0 ex=>nJ (oc C s0 H0 ex).a h3.1 h3.2,rA⟩
   |_=>cases h3
  |b is=>
   cases tg with
   |Tuple es k p=>
    simp only[ckT,cf,decide_eq_true_eq]at h3;refine⟨_,λC s0 H0 ex=>?_,vk (is:=is)⟩;obtain⟨a,b,c⟩:=wH (oc C s0 H0 ex).a h3.1;exact L2.rl (X:=X.comp N' csc C s0 H0 ex) o.c a b c
   |_=>cases h3
 obtain⟨g,pg,tg'⟩:=tgt t tg h3;obtain⟨g2,pg2,tg2'⟩:=tgt t2 tg2 h6;have rule:=L2.kT (cpos:=cpos) (elt:=x) (ifs:=fs) (ifs2:=fs2) (ts:=uTs X.K X.d (zF T n) T.b ifs) (ts2:=uTs X.K X.d (zF T n) T.b ifs2) (wi2:=uI X.K X.d (zF T n) T.b it2) (te:=uE X.K X.d (zF T n) T.b elt) o.c S (iL (tg:=tg) λenv s=>ji _ _ _ _ _ o h4 env s) pg (λC s0 H0 ex=>(jc _ _ _ _ (oc C s0 H0 ex) h5).2.2)
  (λC s0 H0 ex=>iL (X:=X.comp N' csc C s0 H0 ex) (tg:=tg2) λenv s=>ji2 _ _ _ _ _ (oc C s0 H0 ex) h7 env s) pg2 (λC s0 H0 ex=>(jc2 _ _ _ _ (oc C s0 H0 ex) h8).2.2)
  (λC s0 H0 ex=>WJ (X:=X.comp N' csc C s0 H0 ex) λenv s=>je _ _ _ _ (oc C s0 H0 ex) h9 env s) (yX h10) (λenv=>yX h11)
 refine zb rule λσ H Q hq=>uq (env:=env) (s:=s) (chk:=true) (m:=m) (body:=qC (zF T n) T.b elt ifs t2 it2 ifs2) tg' rC (λacc ρ0 H0 hn=>ni hn tg2') ?_ λz=>by cases z
 simp only[true_implies];exact hq
theorem Ua:JL T n .b:=by intro sc N X es o h;cases AR.mp h;exact⟨λ_ env s=>gp,⟨λe es' pos z=>(nomatch z),⟨λe es' pos z=>(nomatch z),λy z=>(nomatch z)⟩⟩⟩
theorem XU(ja:JE T n a)(jl:JL T n as):JL T n (.a a as):=by
 intro sc N X es o h;replace h:=ya h;obtain⟨e,es,rfl,h⟩:=h;simp only[cf]at h;obtain⟨h1,h2⟩:=h;obtain⟨l1,l2,l3,l4⟩:=jl _ _ _ _ o h2;refine⟨λhp env s=>?_,λe' es' pos z env s=>?_,λe' es' pos z env s=>?_,λy z hp=>?_⟩
 . rw[zj,cf]at hp
   exact l7 hp.1 (ja _ _ _ _ o h1 env s) λs1=>l1 hp.2 env s1
 . cases as with
   |b=>
    cases AR.mp h2;exact L2.iJ (ja _ _ _ _ o h1 env s)
   |a b as'=>
    cases es with
    |nil=>cases h2
    |cons y ys=>exact aK (ja _ _ _ _ o h1 env s) λs1=>l2 y ys pos rfl env s1
 . cases as with
   |b=>
    cases AR.mp h2;exact L2.iJ (ja _ _ _ _ o h1 env s)
   |a b as'=>
    cases es with
    |nil=>cases h2
    |cons y ys=>exact Rq (ja _ _ _ _ o h1 env s) λs1=>l3 y ys pos rfl env s1
 . cases z
   cases as with
   |b=>exact⟨a,rfl,λenv s=>ja _ _ _ _ o h1 env s⟩
   |a _ _=>cases h2
theorem Rn:JO T n .b:=by intro sc N X e o h;cases B8.mp h;exact⟨λenv s=>Ru,.inl ⟨rfl,λenv s1=>rfl⟩⟩
theorem Ub(ja:JE T n a):JO T n (.a a):=by
 intro sc N X e o h;replace h:=me h;obtain⟨e1,rfl,h⟩:=h;refine⟨λenv s=>Uo (ja _ _ _ _ o h env s),.inr ⟨_,rfl,λenv s1 s2 z=>?_⟩⟩;have z':((evE (zF T n) T.b env a s1).bind λv s1=>match v with|.c i=>.e (some i) s1|_=>.d)=.e none s2:=z
 cases hv:evE (zF T n) T.b env a s1 with
 |e v s3=>rw[hv]at z';cases v<;>cases z'
 |g _ _ _=>rw[hv]at z';cases z'
 |d=>rw[hv]at z';cases z'
theorem UQ(jc:JC T n c):JC T n (.b c):=by intro sc N X e o h env s;replace h:=qY h;obtain⟨x1,p1,rfl,h⟩:=h;exact Us (jc _ _ _ _ o h env s)
theorem UP(jc:JC T n c)(jcs:JCs T n cs):JC T n (.d c cs):=by intro sc N X e o h env s;replace h:=mK h;obtain⟨x1,xs1,p1,rfl,h⟩:=h;simp only[cf]at h;exact(aV (jc _ _ _ _ o h.1 env s) λs1=>(jcs _ _ _ _ o h.2).1 _ env s1).pt
theorem Rl(jc:JC T n c)(jcs:JCs T n cs):JC T n (.f c cs):=by intro sc N X e o h env s;replace h:=mK h;obtain⟨x1,xs1,p1,rfl,h⟩:=h;simp only[cf]at h;exact(VR (jc _ _ _ _ o h.1 env s) λs1=>(jcs _ _ _ _ o h.2).2.1 _ env s1).pt
theorem XM:JCs T n .b:=by intro sc N X es o h;cases AR.mp h;exact⟨λpos env s=>jt,λpos env s=>eC,.b⟩
theorem aB(jc:JC T n c)(jcs:JCs T n cs):JCs T n (.a c cs):=by intro sc N X es o h;replace h:=ya h;obtain⟨e1,es1,rfl,h⟩:=h;simp only[cf]at h;obtain⟨a,b,d⟩:=jcs _ _ _ _ o h.2;exact⟨λpos env s=>aV (jc _ _ _ _ o h.1 env s) λs1=>a pos env s1,λpos env s=>VR (jc _ _ _ _ o h.1 env s) λs1=>b pos env s1,.a (Pu λenv s=>jc _ _ _ _ o h.1 env s) d⟩
theorem Sk{e:Expr}(h:e.ctorIdx=25):∃xs k p,e=.Tuple xs k p:=F4 (motive_1:=λe=>∃xs k p,e=Expr.Tuple xs k p) e h λxs k p=>⟨xs,k,p,rfl⟩
theorem UZ(ja:JE T n a):JI T n (.d a):=λsc N X e tg o h env s=>Um (ja _ _ _ _ o h env s)
theorem fw(ja:JE T n a):JI T n (.c a):=by intro sc N X e tg o h env s;replace h:=xF h;obtain⟨x1,p1,xs1,p2,rfl,h⟩:=h;replace h:=yr h;obtain⟨y1,rfl,h⟩:=h;simp only[cf,decide_eq_true_eq,wO]at h;obtain⟨⟨⟨rfl,h1⟩,h2⟩,h3⟩:=h;exact eA h3 (o.a.a _ h1) (o.g _ (by decide)) (ja _ _ _ _ o h2 env s)
theorem fz(ja:JE T n a)(jb:JE T n b):JI T n (.f a b):=by intro sc N X e tg o h env s;replace h:=xF h;obtain⟨x1,p1,xs1,p2,rfl,h⟩:=h;replace h:=ae h;obtain⟨y1,y2,rfl,h⟩:=h;simp only[cf,decide_eq_true_eq,wO]at h;obtain⟨⟨⟨⟨⟨rfl,h1⟩,h2⟩,h3⟩,h4⟩,h5⟩:=h;exact eB h4 h5 (o.a.a _ h1) (o.g _ (by decide)) (ja _ _ _ _ o h2 env s) λs1=>jb _ _ _ _ o h3 env s1
theorem XS(ja:JE T n a):JI T n (.g a):=by intro sc N X e tg o h env s;obtain⟨h0,hh⟩:=za h;obtain⟨ts,k,tp,rfl⟩:=Sk (of_decide_eq_true h0);clear h;have h:=hh;replace h:=xF h;obtain⟨x1,p1,xs1,p2,rfl,h⟩:=h;replace h:=yr h;obtain⟨y1,rfl,h⟩:=h;simp only[cf,decide_eq_true_eq,wO]at h;obtain⟨⟨⟨rfl,h1⟩,h2⟩,h3⟩:=h;exact Xc h3 (o.a.a _ h1) (o.g _ (by decide)) (ja _ _ _ _ o h2 env s)
end
section
variable (T:Tbl)(n:Nat)
mutual
theorem jE:∀a:Ex,JE T n a
 |.g _=>aN
 |.e _=>aR
 |.A _=>VQ
 |.J _ _=>Rt
 |.j _ _ a b=>aC (jE a) (jE b)
 |.B a=>aF (jE a)
 |.I a=>UX (jE a)
 |.l _ a b=>UT (jE a) (jE b)
 |.w _ _ a b c=>aD (jE a) (jE b) (jE c)
 |.y a es=>UR (jE a) (jL es)
 |.K _ _=>λsc N X e o h=>by cases h
 |.C c a b=>UU (jC c) (jE a) (jE b)
 |.r es=>UY (jL es)
 |.u _ es=>UW (jL es)
 |.E=>XZ
 |.F _=>Xa
 |.L _ _=>λsc N X e o h=>by cases h
 |.h _ _ es=>XN (jL es)
 |.k _ _ es=>US (jL es)
 |.H _ _=>λsc N X e o h=>by cases h
 |.D _ _ a es=>XQ (jE a) (jL es)
 |.s a b=>VP (jE a) (jE b)
 |.G _ a lo hi st=>Rm (jE a) (jO lo) (jO hi) (jO st)
 |.q _ _ _ elt _ it ifs=>XO (jE elt) (jI it) (jCs ifs)
 |.z _ _ _ elt _ it ifs _ it2 ifs2=>aE (jE elt) (jI it) (jCs ifs) (jI it2) (jCs ifs2)
 |.p _ z a _=>fv (jE z) (jE a)
theorem jL:∀a:Exs,JL T n a
 |.b=>Ua
 |.a a as=>XU (jE a) (jL as)
theorem jO:∀a:OEx,JO T n a
 |.b=>Rn
 |.a a=>Ub (jE a)
theorem jC:∀a:Cn,JC T n a
 |.a (.l _ a b)=>Uh (jE a) (jE b)
 |.a (.w _ _ a b c)=>aJ (jE a) (jE b) (jE c)
 |.a (.g v)=>yJ (jE (.g v)) rfl
 |.a (.e v)=>yJ (jE (.e v)) rfl
 |.a (.A v)=>yJ (jE (.A v)) rfl
 |.a (.J v w)=>yJ (jE (.J v w)) rfl
 |.a (.j m o a b)=>yJ (jE (.j m o a b)) rfl
 |.a (.B a)=>yJ (jE (.B a)) rfl
 |.a (.I a)=>yJ (jE (.I a)) rfl
 |.a (.y a b)=>yJ (jE (.y a b)) rfl
 |.a (.K a b)=>yJ (jE (.K a b)) rfl
 |.a (.C a b c)=>yJ (jE (.C a b c)) rfl
 |.a (.r a)=>yJ (jE (.r a)) rfl
 |.a (.u m a)=>yJ (jE (.u m a)) rfl
 |.a .E=>yJ (jE .E) rfl
 |.a (.F t)=>yJ (jE (.F t)) rfl
 |.a (.L a b)=>yJ (jE (.L a b)) rfl
 |.a (.h a b c)=>yJ (jE (.h a b c)) rfl
 |.a (.k a b c)=>yJ (jE (.k a b c)) rfl
 |.a (.H a b)=>yJ (jE (.H a b)) rfl
 |.a (.D a b c d)=>yJ (jE (.D a b c d)) rfl
 |.a (.s a b)=>yJ (jE (.s a b)) rfl
 |.a (.G a b c d e)=>yJ (jE (.G a b c d e)) rfl
 |.a (.q a b c d e f g)=>yJ (jE (.q a b c d e f g)) rfl
 |.a (.z a b c d e f g h i j)=>yJ (jE (.z a b c d e f g h i j)) rfl
 |.a (.p a b c d)=>yJ (jE (.p a b c d)) rfl
 |.b c=>UQ (jC c)
 |.d c cs=>UP (jC c) (jCs cs)
 |.f c cs=>Rl (jC c) (jCs cs)
theorem jCs:∀a:Cns,JCs T n a
 |.b=>XM
 |.a c cs=>aB (jC c) (jCs cs)
theorem jI:∀a:Itb,JI T n a
 |.d a=>UZ (jE a)
 |.c a=>fw (jE a)
 |.f a b=>fz (jE a) (jE b)
 |.g a=>XS (jE a)
 |.h _ _=>λsc N X e tg o h=>by cases h
end
end
end M
end
section
namespace M
open PySem
section
variable (K:KF)(mg:Str->Option Value)
def oX(ρ:Own)(H:L2.Hp)(o:Out Fl)(D:L2.Ends):Prop:=
 match o with
 |.e (.a e) s'=>∀ρ' H' σ',Ext ρ H ρ' H'->HR K mg ρ' s' H'->ER K mg ρ' H' e σ'->D.a σ' H'
 |.e (.c e) s'=>∀ρ' H' σ',Ext ρ H ρ' H'->HR K mg ρ' s' H'->ER K mg ρ' H' e σ'->D.c σ' H'
 |.e (.d e) s'=>∀ρ' H' σ',Ext ρ H ρ' H'->HR K mg ρ' s' H'->ER K mg ρ' H' e σ'->D.d σ' H'
 |.e (.b v) s'=>∀ρ' H' x,Ext ρ H ρ' H'->HR K mg ρ' s' H'->RD K mg ρ' H' v x->D.b x H'
 |_=>False
def tSt(env:Env)(s:Sto)(o:Out Fl):L2.TS:=λD σ H=>∃ρ,HR K mg ρ s H/\ER K mg ρ H env σ/\oX K mg ρ H o D
end
section
variable {K:KF}{mg:Str->Option Value}{ρ ρ':Own}{H H':L2.Hp}
theorem oX.mono(w:oX K mg ρ H o D)(x:Ext ρ H ρ' H')(h:HR K mg ρ' s1 H'):oX K mg ρ' H' o D:=by
 cases o with
 |e fl s'=>
  cases fl with
  |a e=>exact λρ2 H2 σ2 x2 h2 r2=>w ρ2 H2 σ2 (x.trans h x2) h2 r2
  |c e=>exact λρ2 H2 σ2 x2 h2 r2=>w ρ2 H2 σ2 (x.trans h x2) h2 r2
  |d e=>exact λρ2 H2 σ2 x2 h2 r2=>w ρ2 H2 σ2 (x.trans h x2) h2 r2
  |b v=>exact λρ2 H2 y x2 h2 r2=>w ρ2 H2 y (x.trans h x2) h2 r2
 |g _ _ _=>exact w
 |d=>exact w
end
noncomputable def uv:Expr->Bool
 |.ListComp ..|.SetComp ..|.DictComp ..=>false
 |_=>true
theorem sy(h:uv e=true):Eh e t l env=pure false:=by cases e<;>first|rfl|cases h
theorem qA:D6 [.Tuple ts k p] e l env=pure false:=by cases e<;>rfl
theorem de:D6 [.Subscript o i p] e l env=pure false:=by cases e<;>rfl
theorem jD:BY [.Subscript o i p] e env=pure none:=by cases e<;>rfl
noncomputable def Vg(sc:Scope)(ts vs:List Expr):Bool:=
 match ts with
 |[.Name x px,.Name y py]=>decide (sc.names.lookup x=some .local)&&decide (sc.names.lookup y=some .local)&&(px.line == py.line)&&decide (x≠y)&&!(vs.all (Ff 8))&&!(vs.all (EU 8))
 |[.Name x px,.Name y py,.Name z pz]=>decide (sc.names.lookup x=some .local)&&decide (sc.names.lookup y=some .local)&&decide (sc.names.lookup z=some .local)&&(px.line == py.line)&&(px.line == pz.line)&&decide (x≠y)&&decide (x≠z)&&decide (y≠z)&&!(vs.all (Ff 8))&&!(vs.all (EU 8))
 |_=>false
noncomputable def Vo(sc:Scope)(ts:List Expr):Bool:=ts.any (λ|.Name x _=>decide (sc.names.lookup x≠some .local)|_=>false)||decide (3<ts.length)
theorem pN{vs:List Expr}(h:zj vs=true):(vs.any λ|.Starred ..=>true|_=>false)=false:=by
 induction vs with
 |nil=>rfl
 |cons v vs ih=>
  rw[zj,cf]at h;rw[BZ,ih h.2];cases v<;>first|rfl|(have z:=h.1;cases z)
theorem jF(hb:env.blockKind=.function)(hx:env.kindOf x=some .local)(hy:env.kindOf y=some .local)(hl:(px.line == py.line)=true)(hne:x≠y)(hp:zj [a,b]=true)
 (hf:[a,b].all (Ff 8)=false) (hc:[a,b].all (EU 8)=false):BY [.Tuple [.Name x px,.Name y py] kt pt] (.Tuple [a,b] k2 pt2) env=pure (some [x,y]):=by
 have hs:=pN hp;have hl':(py.line == px.line)=true:=by rw[beq_iff_eq]at hl ⊢;exact hl.symm
 unfold BY;have e1:([x,y].eraseDups.length != [x,y].length)=false:=by
  have:(y == x)=false:=by simpa using Bu hne
  simp[List.eraseDups_cons,this]
 simp only[AK,Cz,hb,hf,hs,hc,hx,hy,hl',List.head?_cons,Ep,Option.getD_some,AW,List.filterMap_nil,beq_self_eq_true,Fg,if_true];have hpos:(Ek x px).pos.line=px.line:=rfl;refine(if_neg (by decide)).trans ((if_neg (λz=>Ab (hs.symm.trans z))).trans ?_)
 simp only[hpos,beq_self_eq_true,hl',Fg,if_true,e1,AK,Cz,bne_self_eq_false,Bool.or_self,A3,if_false];exact if_neg (λz=>Ab (e1.symm.trans (by rw[Bool.false_or]at z;exact z)))
theorem oV(hb:env.blockKind=.function)(hx:env.kindOf x=some .local)(hy:env.kindOf y=some .local)(hz:env.kindOf z=some .local)(hl:(px.line == py.line)=true)(hl2:(px.line == pz.line)=true)
 (hne:x≠y) (hne2:x≠z) (hne3:y≠z) (hp:zj [a,b,c]=true) (hf:[a,b,c].all (Ff 8)=false) (hc:[a,b,c].all (EU 8)=false):BY [.Tuple [.Name x px,.Name y py,.Name z pz] kt pt] (.Tuple [a,b,c] k2 pt2) env=pure (some [x,y,z]):=by
 have hs:=pN hp;have hl':(py.line == px.line)=true:=by rw[beq_iff_eq]at hl ⊢;exact hl.symm
 have hl2':(pz.line == px.line)=true:=by rw[beq_iff_eq]at hl2 ⊢;exact hl2.symm
 unfold BY;have e1:([x,y,z].eraseDups.length != [x,y,z].length)=false:=by
  have h1:(y == x)=false:=by simpa using Bu hne
  have h2:(z == x)=false:=by simpa using Bu hne2
  have h3:(z == y)=false:=by simpa using Bu hne3
  simp[List.eraseDups_cons,h1,h2,h3]
 simp only[AK,Cz,hb,hf,hs,hc,hx,hy,hz,hl',hl2',List.head?_cons,Ep,Option.getD_some,AW,List.filterMap_nil,beq_self_eq_true,Fg,if_true];have hpos:(Ek x px).pos.line=px.line:=rfl;refine(if_neg (by decide)).trans ((if_neg (λz=>Ab (hs.symm.trans z))).trans ?_)
 simp only[hpos,beq_self_eq_true,hl',hl2',Fg,if_true,e1,AK,Cz,bne_self_eq_false,Bool.or_self,A3,if_false];exact if_neg (λz=>Ab (e1.symm.trans (by rw[Bool.false_or]at z;exact z)))
theorem sO{α β:Type}{f:α->Option β}:∀{l:List α},(∃a∈l,f a=none)->(l.filterMap f).length<l.length
 |[],⟨a,h,_⟩=>by cases h
 |b::l,⟨a,h,e⟩=>by
  rw[AW];have hle:=DI f l;rcases Af.mp h with z|z
  . subst z;rw[e];simp only[AK];omega
  . have:=sO ⟨a,z,e⟩
    cases f b with
    |none=>simp only[AK];omega
    |some _=>simp only[AK];omega
theorem dm(h:(∃x p,Ek x p∈ts/\env.kindOf x≠some .local)\/3<ts.length):BY [.Tuple ts kt pt] (.Tuple vs k2 pt2) env=pure none:=by
 unfold BY;simp only[];split
 . rfl
 . rename_i h1
   split
   . rfl
   . rw[if_pos]
     rcases h with⟨x,p,hm,hk⟩|h
     . rw[Ay]
       left;rw[bne_iff_ne];refine AE (sO ⟨_,hm,?_⟩);have:(env.kindOf x == some .local)=false:=by simpa using hk
       simp only[this,Dc,A3,if_false]
     . exfalso
       apply h1;have:(ts.length == 2||ts.length == 3)=false:=by rw[EH];constructor<;>(rw[beq_eq_false_iff_ne];omega)
       rw[this];rfl
theorem iq(h:plain i=true)v:assign (.Subscript o i p) env v=(do
 let ov <-holding [v] (eval o env);let iv <-holding [v,ov] (eval i env)
 standAt p
 holding [v,ov,iv] (setItem ov iv v)
 release [v,ov,iv] []):=by
 cases i<;>first|rfl|cases h
section
variable {X:L2.Cx}{env:Env}{s:Sto}
theorem wR{t:L2.TS}(h:∀D σ H,¬t D σ H):L2.PS X st t:=λpins s σ H D I q=>(h D σ H q).elim
theorem SR(h:∀v s',o≠.e v s'):¬tSt X.K X.d env s o D σ H:=by
 rintro ⟨ρ,_,_,w⟩;cases o with
 |e v s'=>exact h v s' rfl
 |g _ _ _=>exact w
 |d=>exact w
theorem zP(h:∀v s',o≠.e v s'):L2.PS X st (tSt X.K X.d env s o):=wR λ_ _ _=>SR h
theorem Xe(hn:uv e=true)(h:L2.PE X e (tV X.K X.d env s o)):L2.PS X (.Expr e pos) (tSt X.K X.d env s (o.bind λ_ s1=>.e (.a env) s1)):=by
 cases o with
 |e v s1=>exact yz (L2.mz h (sy hn)) λD σ H ⟨ρ,hr,er,w⟩=>⟨ρ,hr,er,λρ1 x H1 x1 hr1 r1=>w ρ1 H1 σ x1 hr1 (er.mono x1)⟩
 |g _ _ _=>exact zP (zG rfl)
 |d=>exact zP (zG rfl)
theorem Uq(h:L2.PE X e (tV X.K X.d env s o)):L2.PS X (.Return (some e) pos) (tSt X.K X.d env s (o.bind λv s1=>.e (.b v) s1)):=by
 cases o with
 |e v s1=>exact yz (L2.ud h) λD σ H ⟨ρ,hr,er,w⟩=>⟨ρ,hr,er,λρ1 x H1 x1 hr1 r1=>w ρ1 H1 x x1 hr1 r1⟩
 |g _ _ _=>exact zP (zG rfl)
 |d=>exact zP (zG rfl)
theorem js(rule:L2.PS X st (L2.tE te (L2.wM i)))(h:∀σ H Q,tV X.K X.d env s o σ H Q->te σ H Q):L2.PS X st (tSt X.K X.d env s (o.bind λv s1=>.e (.a (env.set i (some v))) s1)):=by
 cases o with
 |e v s1=>exact yz rule λD σ H ⟨ρ,hr,er,w⟩=>h _ _ _ ⟨ρ,hr,er,λρ1 x H1 x1 hr1 r1=>w ρ1 H1 _ x1 hr1 ((er.mono x1).set i r1)⟩
 |g _ _ _=>exact zP (zG rfl)
 |d=>exact zP (zG rfl)
theorem Xd{t:Tgt}{g:L2.TG}{o:Out Val}{st:Stmt}{te:L2.TE}(TG:rJ X.K X.d t g)(rule:L2.PS X st (L2.tE te g))(h:∀σ H Q,tV X.K X.d env s o σ H Q->te σ H Q) :
 L2.PS X st (tSt X.K X.d env s (o.bind λv s1=>match yt t v env with|some env'=>.e (.a env') s1|dr=>.d)):=by
 cases o with
 |e v s1=>
  show L2.PS X st (tSt X.K X.d env s (match yt t v env with|some env'=>.e (.a env') s1|dr=>.d))
  cases hb:yt t v env with
  |none=>exact zP (zG rfl)
  |some env'=>exact yz rule λD σ H ⟨ρ,hr,er,w⟩=>h _ _ _ ⟨ρ,hr,er,λρ1 x H1 x1 hr1 r1=>TG ρ1 s1 H1 v x env env' σ _ hr1 r1 (er.mono x1) hb λσ' er'=>w ρ1 H1 σ' x1 hr1 er'⟩
 |g _ _ _=>exact zP (zG rfl)
 |d=>exact zP (zG rfl)
theorem aS{a i e:Expr}{o:Out Val}{f2 f3:Sto->Out Val}{p pos:Pos}(hi0:plain i=true)(h1:L2.PE X e (tV X.K X.d env s o))(h2:∀s1,L2.PE X a (tV X.K X.d env s1 (f2 s1)))(h3:∀s1,L2.PE X i (tV X.K X.d env s1 (f3 s1))) :
 L2.PS X (.Assign [.Subscript a i p] e pos) (tSt X.K X.d env s (o.bind λv s1=>(f2 s1).bind λx s2=>(f3 s2).bind λy s3=>match x,y with
  |.k r,.c k=>(match s3[r]? with
   |some (.c vs)=>(match L2.ixN vs.length k with|some j=>.e (.a env) (upd s3 r (vs.set j v))|dr=>.d)
   |_=>.d)
  |_,_=>.d)):=by
 cases o with
 |e v s1=>
  have h2':=h2 s1;simp only[zO];cases hb:f2 s1 with
  |e x s2=>
   rw[hb]at h2';have h3':=h3 s2;simp only[zO];cases hc:f3 s2 with
   |e y s3=>
    rw[hc]at h3';simp only[zO];have rule:L2.PS X (.Assign [.Subscript a i p] e pos) (L2.tE _ (L2.RX _ _ L2.Vc)):=L2.Zi h1 (L2.Tq h2' h3' L2.set_list (iq hi0)) de jD;cases x with
    |k r=>
     cases y with
     |c k=>
      simp only[];cases hs:s3[r]? with
      |none=>exact zP (zG rfl)
      |some cl=>
       cases cl with
       |e _=>exact zP (zG rfl)
       |f _=>exact zP (zG rfl)
       |d _=>exact zP (zG rfl)
       |c vs=>
        simp only[];cases hj:L2.ixN vs.length k with
        |none=>exact zP (zG rfl)
        |some j=>
         refine yz rule λD σ H ⟨ρ,hr,er,w⟩=>⟨ρ,hr,er,λρ1 xv H1 x1 hr1 r1=>⟨ρ1,hr1,er.mono x1,λρ2 xo H2 x2 hr2 r2=>⟨ρ2,hr2,(er.mono x1).mono x2,λρ3 xi H3 x3 hr3 r3=>?_⟩⟩⟩;cases r3;have r2':=r2.mono x3;cases r2' with
         |C e0 _=>
          obtain⟨b',xs,e1,e2,q⟩:=hr3.obj r _ hs;rw[e0]at e1;cases e1;have xx:=(x1.trans hr1 x2).trans hr2 x3;refine⟨_,xs,k,j,rfl,rfl,e2,by rw[<-q.length];exact hj,?_⟩
          exact w ρ3 _ σ (xx.trans hr3 (Ext.write hr3 e0 e2 _)) (hr3.write e0 e2 (RDs.set ((r1.mono x2).mono x3) j q)) ((er.mono xx).mono (Ext.write hr3 e0 e2 _))
     |_=>exact zP (zG rfl)
    |_=>exact zP (zG rfl)
   |g _ _ _=>exact zP (zG rfl)
   |d=>exact zP (zG rfl)
  |g _ _ _=>exact zP (zG rfl)
  |d=>exact zP (zG rfl)
 |g _ _ _=>exact zP (zG rfl)
 |d=>exact zP (zG rfl)
end
end M
end
section
namespace M
open PySem
section
variable {X:L2.Cx}{env:Env}{s:Sto}
theorem Xf(rule:L2.PS X st (L2.PF i j ta))(h:∀σ H Q,tVs X.K X.d env s o σ H Q->ta σ H Q) :
 L2.PS X st (tSt X.K X.d env s (o.bind λvs s1=>if vs.length=[i,j].length then .e (.a (([i,j].zip vs).foldl (λe p=>e.set p.1 (some p.2)) env)) s1 else .d)):=by
 cases o with
 |e vs s1=>
  show L2.PS X st (tSt X.K X.d env s (if vs.length=[i,j].length then .e (.a (([i,j].zip vs).foldl (λe p=>e.set p.1 (some p.2)) env)) s1 else .d))
  match vs with
  |[v,w]=>
   refine yz rule λD σ H ⟨ρ,hr,er,wt⟩=>h _ _ _ ⟨ρ,hr,er,λρ1 xs H1 x1 hr1 r1=>?_⟩;obtain⟨x,y,rfl,rx,ry⟩:=Zo r1;exact⟨x,y,rfl,wt ρ1 H1 _ x1 hr1 (((er.mono x1).set i rx).set j ry)⟩
  |[]=>exact zP (zG rfl)
  |[_]=>exact zP (zG rfl)
  |_::_::_::r=>exact zP (λ_ _ e=>by simp at e)
 |g _ _ _=>exact zP (zG rfl)
 |d=>exact zP (zG rfl)
theorem P1(r:RDs K mg ρ H [v,w,z] xs):∃x y t,xs=[x,y,t]/\RD K mg ρ H v x/\RD K mg ρ H w y/\RD K mg ρ H z t:=by
 cases r with
 |a r1 r2=>
  obtain⟨y,t,rfl,r3,r4⟩:=Zo r2;exact⟨_,_,_,rfl,r1,r3,r4⟩
theorem Xg(rule:L2.PS X st (L2.Vj i j k ta))(h:∀σ H Q,tVs X.K X.d env s o σ H Q->ta σ H Q) :
 L2.PS X st (tSt X.K X.d env s (o.bind λvs s1=>if vs.length=[i,j,k].length then .e (.a (([i,j,k].zip vs).foldl (λe p=>e.set p.1 (some p.2)) env)) s1 else .d)):=by
 cases o with
 |e vs s1=>
  show L2.PS X st (tSt X.K X.d env s (if vs.length=[i,j,k].length then .e (.a (([i,j,k].zip vs).foldl (λe p=>e.set p.1 (some p.2)) env)) s1 else .d))
  match vs with
  |[v,w,z]=>
   refine yz rule λD σ H ⟨ρ,hr,er,wt⟩=>h _ _ _ ⟨ρ,hr,er,λρ1 xs H1 x1 hr1 r1=>?_⟩;obtain⟨x,y,t,rfl,rx,ry,rt⟩:=P1 r1;exact⟨x,y,t,rfl,wt ρ1 H1 _ x1 hr1 ((((er.mono x1).set i rx).set j ry).set k rt)⟩
  |[]=>exact zP (zG rfl)
  |[_]=>exact zP (zG rfl)
  |[_,_]=>exact zP (zG rfl)
  |_::_::_::_::r=>exact zP (λ_ _ e=>by simp at e)
 |g _ _ _=>exact zP (zG rfl)
 |d=>exact zP (zG rfl)
def uSs(K:KF)(mg:Str->Option Value)(Φ:Calls)(G:Str->Option Val)(b:Sms):L2.TS:=λD σ H=>∃env s,tSt K mg env s (zS Φ G env b s) D σ H
theorem Rw{f2 f3:Sto->Out Fl}(hc:L2.PT X c (tT X.K X.d env s o))(ha:L2.PSs X a ta)(hb:L2.PSs X b tb)(ia:∀s1 D σ H,tSt X.K X.d env s1 (f2 s1) D σ H->ta D σ H)(ib:∀s1 D σ H,tSt X.K X.d env s1 (f3 s1) D σ H->tb D σ H) :
 L2.PS X (.If c a b pos) (tSt X.K X.d env s (o.bind λt s1=>if t then f2 s1 else f3 s1)):=by
 cases o with
 |e v s1=>
  refine yz (L2.kf hc ha hb) λD σ H ⟨ρ,hr,er,wt⟩=>⟨ρ,hr,er,λρ1 x H1 x1 hr1 r1=>?_⟩;have wt':=wt.mono x1 hr1;cases r1;cases v with
  |true=>exact L2.oJ (ia s1 D σ H1 ⟨ρ1,hr1,er.mono x1,wt'⟩)
  |false=>exact L2.rY (ib s1 D σ H1 ⟨ρ1,hr1,er.mono x1,wt'⟩)
 |g _ _ _=>exact zP (zG rfl)
 |d=>exact zP (zG rfl)
theorem bh{body:Env->Sto->Out Fl}{tb:L2.TS}(W:Walk K mg ρ H r J)(TG:rJ K mg t g)(hb:∀env s D σ H,tSt K mg env s (body env s) D σ H->tb D σ H)
 (hr:HR K mg ρ s H) (er:ER K mg ρ H env σ) (w:oX K mg ρ H (uF r t body r.a env s) D):L2.nM J g tb D σ H:=by
 refine lr (n:=r.a.length) (λi σ2 H2=>∃ρ2 s2 env2,HR K mg ρ2 s2 H2/\ER K mg ρ2 H2 env2 σ2/\Ext ρ H ρ2 H2/\uF r t body (r.a.drop i) env2 s2=uF r t body r.a env s) ⟨ρ,s,env,hr,er,Ext.refl,by rw[EO]⟩ ?_ ?_
 . rintro σ2 H2 ⟨ρ2,s2,env2,hr2,er2,x2,h2⟩
   rw[List.drop_length,uF]at h2;split at h2
   . rename_i ho
     rw[<-h2]at w;exact⟨W.a ρ2 H2 s2 _ x2.mv hr2 ho rfl,w ρ2 H2 σ2 x2 hr2 er2⟩
   . rw[<-h2]at w;exact w.elim
 . rintro i σ2 H2 hi ⟨ρ2,s2,env2,hr2,er2,x2,h2⟩
   rw[FE hi,uF]at h2;split at h2
   . rename_i ho
     obtain⟨hgo,hy⟩:=W.c ρ2 H2 s2 i (r.a[i]) x2.mv hr2 ho (xd hi);refine⟨hgo,λx H3 y=>?_⟩;obtain⟨hH,rx⟩:=hy x H3 y;split at h2
     . rw[<-h2]at w;exact w.elim
     . rename_i env' he
       have C3:HR K mg ρ2 s2 H3/\Ext ρ2 H2 ρ2 H3:=by
        rcases hH with e|⟨q,o,hq,e⟩
        . subst e;exact⟨hr2,Ext.refl⟩
        . subst e;exact⟨hr2.more hq o,Ext.new hr2 hq o⟩
       have x3:=x2.trans hr2 C3.2;refine TG ρ2 s2 H3 _ x env2 env' σ2 _ C3.1 rx (er2.mono C3.2) he λσ4 er4=>hb env' s2 _ σ4 H3 ⟨ρ2,C3.1,er4,?_⟩;cases hc:body env' s2 with
       |e fl s5=>
        rw[hc]at h2;simp only[zO]at h2;cases fl with
        |a e=>exact λρ5 H5 σ5 x5 hr5 er5=>⟨ρ5,s5,e,hr5,er5,x3.trans C3.1 x5,h2⟩
        |d e=>exact λρ5 H5 σ5 x5 hr5 er5=>⟨ρ5,s5,e,hr5,er5,x3.trans C3.1 x5,h2⟩
        |c e=>
         simp only[]at h2;rw[<-h2]at w;exact λρ5 H5 σ5 x5 hr5 er5=>w ρ5 H5 σ5 (x3.trans C3.1 x5) hr5 er5
        |b v=>
         simp only[]at h2;rw[<-h2]at w;exact λρ5 H5 y5 x5 hr5 r5=>w ρ5 H5 y5 (x3.trans C3.1 x5) hr5 r5
       |g _ _ _=>rw[hc]at h2;simp only[cx]at h2;rw[<-h2]at w;exact w.elim
       |d=>rw[hc]at h2;simp only[qm]at h2;rw[<-h2]at w;exact w.elim
   . rw[<-h2]at w;exact w.elim
theorem Up(hx:X.j=λ_ _=>False)(hc:X.h=true)(hp:plain iter=true)(hi:∀env s,L2.PI X tg iter (tI (K:=X.K) (mg:=X.d) env s (yk Φ G env it s)))(hg:L2.PG X tg g)(TG:rJ X.K X.d t g)
 (hb:L2.PSs X body (uSs X.K X.d Φ G b)):L2.PS X (.For tg iter body [] pos) (tSt X.K X.d env s ((yk Φ G env it s).bind λr s1=>uF r t (λe s'=>zS Φ G e b s') r.a env s1)):=by
 have hpass:PassesOwn (model X.f X.w) X.A X.a X.j:=by rw[hx];exact PassesOwn.never
 refine yz (L2.Tw hpass hc (iL hi) hg hb (yX hp)) λD σ H ⟨ρ,hr,er,w⟩=>⟨env,s,ρ,hr,er,?_⟩;cases hv:yk Φ G env it s with
 |e r s1=>
  rw[hv]at w;exact λρ1 H1 J x1 hr1 W=>bh W TG (λenv s D σ H h=>⟨env,s,h⟩) hr1 (er.mono x1) (w.mono x1 hr1)
 |g _ _ _=>rw[hv]at w;exact w.elim
 |d=>rw[hv]at w;exact w.elim
theorem Xh:L2.PSs X [] (tSt X.K X.d env s (.e (.a env) s)):=sg L2.m5 λD σ H ⟨ρ,hr,er,w⟩=>w ρ H σ Ext.refl hr er
theorem aT{st:Stmt}{rest:List Stmt}{o:Out Fl}{f:Env->Sto->Out Fl}{tr:L2.TS}(h1:L2.PS X st (tSt X.K X.d env s o))(h2:L2.PSs X rest tr)(i2:∀env s D σ H,tSt X.K X.d env s (f env s) D σ H->tr D σ H) :
 L2.PSs X (st::rest) (tSt X.K X.d env s (o.bind λfl s1=>match fl with|.a e=>f e s1|fl=>.e fl s1)):=by
 refine sg (L2.y0 h1 h2) λD σ H ⟨ρ,hr,er,w⟩=>⟨ρ,hr,er,?_⟩;cases o with
 |e fl s1=>
  simp only[zO]at w;cases fl with
  |a e=>exact λρ1 H1 σ1 x1 hr1 er1=>i2 e s1 D σ1 H1 ⟨ρ1,hr1,er1,w.mono x1 hr1⟩
  |c e=>exact w
  |d e=>exact w
  |b v=>exact w
 |g _ _ _=>exact w.elim
 |d=>exact w.elim
end
end M
end
section
namespace M
open PySem
def cS(c:Const)(k:Str->Bool):Bool:=el c.ctorIdx 5 λh=>Const.str.elim (motive:=λ_=>Bool) c h k
theorem V3(h:cS c k=true):∃x,c=.str x/\k x=true:=by obtain⟨hc,h⟩:=yG h;obtain⟨x,rfl⟩:∃x,c=.str x:=Const.str.elim (motive:=λc=>∃x,c=Const.str x) c hc λx=>⟨x,rfl⟩;exact⟨x,rfl,h⟩
def eS(e:Expr):Bool:=Ys e λc _ _=>cS c λx=>decide (x.length<=1000)
theorem jj(h:eS e=true):∃x k p,e=.Constant (.str x) k p/\x.length<=1000:=by obtain⟨c,k,p,rfl,h1⟩:=qw h;obtain⟨x,rfl,h2⟩:=V3 h1;exact⟨x,k,p,rfl,of_decide_eq_true h2⟩
def eF(e:Expr)(k:Expr->Bool):Bool:=RQ e λu c s _=>decide (c=-1)&&s.isNone&&k u
theorem bW(h:eF e k=true):∃u p,e=.FormattedValue u (-1) none p/\k u=true:=by obtain⟨u,c,s,p,rfl,h1⟩:=bX h;obtain⟨h2,h3⟩:=za h1;rw[of_decide_eq_true (za h2).1,B8.mp (za h2).2];exact⟨u,p,rfl,h3⟩
def eFs(e:Expr)(k:Expr->Expr->Bool):Bool:=eJn e λxs _=>lc xs λc1 xs=>lc xs λf1 xs=>lc xs λc2 xs=>lc xs λf2 xs=>l1 xs λc3=>(eS c1&&(eS c2&&eS c3))&&eF f1 λu=>eF f2 λv=>k u v
theorem Yt(h:eFs e k=true):∃u v c1 c2 c3 k1 k2 k3 p1 p2 p3 p4 p5 pos,e=.JoinedStr [.Constant (.str c1) k1 p1,.FormattedValue u (-1) none p2,.Constant (.str c2) k2 p3,.FormattedValue v (-1) none p4,.Constant (.str c3) k3 p5] pos/\c1.length<=1000/\c2.length<=1000/\c3.length<=1000/\k u v=true:=by obtain⟨xs,pos,rfl,h1⟩:=Yu h;obtain⟨a1,xs,rfl,h2⟩:=ya h1;obtain⟨a2,xs,rfl,h3⟩:=ya h2;obtain⟨a3,xs,rfl,h4⟩:=ya h3;obtain⟨a4,xs,rfl,h5⟩:=ya h4;obtain⟨a5,rfl,h6⟩:=yr h5;obtain⟨h7,h8⟩:=za h6;obtain⟨c1,k1,p1,rfl,z1⟩:=jj (za h7).1;obtain⟨c2,k2,p3,rfl,z2⟩:=jj (za (za h7).2).1;obtain⟨c3,k3,p5,rfl,z3⟩:=jj (za (za h7).2).2;obtain⟨u,p2,rfl,h9⟩:=bW h8;obtain⟨v,p4,rfl,h10⟩:=bW h9;exact⟨u,v,c1,c2,c3,k1,k2,k3,p1,p2,p3,p4,p5,pos,rfl,z1,z2,z3,h10⟩
def Pc(sc:Scope)(N:List Str)(es:Exs)(a:Expr):Bool:=eFs a λu v=>ckL sc N es [u,v]
mutual
noncomputable def ckS(sc:Scope)(N:List Str):Sm->Stmt->Bool
 |.h e,st=>(Qt st λx _=>ck sc N e x&&uv x)
 |.d e,st=>(Qw st λq _=>o1 q λx=>ck sc N e x)
 |.s,_=>false
 |.f i e,st=>(Wa st λts v _=>l1 ts λt=>eName t λx _=>decide (N[i]?=some x)&&(decide (sc.names.lookup x=some .local)||decide (sc.names.lookup x=some .cell))&&ck sc N e v)
 |.p _ _,_=>false
 |.m is es,st=>(Wa st λt0 v _=>l1 t0 λt=>Yy t λts _ _=>Yy v λvs _ _=>yT sc N is ts&&ckL sc N es vs&&zj vs&&decide (is.length<=8)&&decide is.Nodup&&decide (ts.length=vs.length)&&(Vg sc ts vs||Vo sc ts))
 |.w _ _ _,_=>false
 |.u _ _ _,_=>false
 |.l o i e,st=>(Wa st λts v _=>l1 ts λt=>Yx t λa b _=>ck sc N o a&&ck sc N i b&&ck sc N e v&&plain b)
 |.g c a b,st=>(sIf st λt x y _=>ckC sc N c t&&lW sc N a x&&lW sc N b y)
 |.k t it b,st=>(Qu st λtg iter body els _=>els.isEmpty&&(ckT sc N t tg&&ckI sc N it iter tg&&lW sc N b body&&plain iter))
 |.n _ _,_=>false
 |.r,_=>false
 |.v,_=>false
 |.q,_=>false
 |.j e,st=>(match e with
  |.h c _ es=>(sRs st λq b _=>b.isNone&&o1 q λq=>eCN q λx xs=>l1 xs λa=>decide (x=c)&&wO sc x&&!(x == ("__debug__":Str))&&((ckL sc N es [a]&&plain a)||Pc sc N es a))
  |.g _=>true
  |_=>false)
noncomputable def lW(sc:Scope)(N:List Str):Sms->List Stmt->Bool
 |.b,ss=>ss.isEmpty
 |.a c cs,ss=>(lc ss λt ts=>ckS sc N c t&&lW sc N cs ts)
end
structure OkF(T:Tbl)(n:Nat)(sc:Scope)(N:List Str)(X:L2.Cx):Prop where
 a:Ok T n sc N X
 b:X.a.scope=sc
 bk:X.a.blockKind=.function
section
variable {T:Tbl}{n:Nat}
def JS(T:Tbl)(n:Nat)(a:Sm):Prop:=∀(sc:Scope) (N:List Str) (X:L2.Cx) (st:Stmt),OkF T n sc N X->ckS sc N a st=true->∀env s,L2.PS X st (tSt X.K X.d env s (exS (zF T n) T.b env a s))
def JSs(T:Tbl)(n:Nat)(a:Sms):Prop:=∀(sc:Scope) (N:List Str) (X:L2.Cx) (st:List Stmt),OkF T n sc N X->lW sc N a st=true->∀env s,L2.PSs X st (tSt X.K X.d env s (zS (zF T n) T.b env a s))
theorem fB(h:∀env s,L2.PSs X st (tSt X.K X.d env s (zS Φ G env b s))):L2.PSs X st (uSs X.K X.d Φ G b):=λpins s σ H D I ⟨env,t,q⟩=>h env t pins s σ H D I q
theorem XW:JS T n (.h e):=by intro sc N X st o h env s;replace h:=kq h;obtain⟨x1,p1,rfl,h⟩:=h;simp only[cf]at h;exact Xe h.2 (jE T n e _ _ _ _ o.a h.1 env s)
theorem Ug:JS T n (.d e):=by intro sc N X st o h env s;replace h:=kr h;obtain⟨q1,p1,rfl,h⟩:=h;replace h:=me h;obtain⟨x1,rfl,h⟩:=h;exact Uq (jE T n e _ _ _ _ o.a h env s)
theorem ph:∃b,Eh (.ListComp elt gens csc cpos) (some (.Name y py)) l env=pure b:=⟨_,rfl⟩
noncomputable def XF:Ex->Bool
 |.q ..|.z ..=>true
 |_=>false
theorem kJ(h:ck sc N a e=true)(ha:XF a=false):uv e=true:=by
 have no:∀{e:Expr},ck sc N a e=true->e.ctorIdx=8\/e.ctorIdx=9\/e.ctorIdx=10->False:=λ{e} h hc=>by
  have key:(∃x g c p,e=.ListComp x g c p)\/(∃x g c p,e=.SetComp x g c p)\/∃k x g c p,e=.DictComp k x g c p:=by
   rcases hc with hc|hc|hc
   . exact .inl (EX (motive_1:=λe=>∃x g c p,e=Expr.ListComp x g c p) e hc λx g c p=>⟨x,g,c,p,rfl⟩)
   . exact .inr (.inl (Expr.SetComp.elim (motive_1:=λe=>∃x g c p,e=Expr.SetComp x g c p) e hc λx g c p=>⟨x,g,c,p,rfl⟩))
   . exact .inr (.inr (Expr.DictComp.elim (motive_1:=λe=>∃k x g c p,e=Expr.DictComp k x g c p) e hc λk x g c p=>⟨k,x,g,c,p,rfl⟩))
  rcases key with⟨x,g,c,p,rfl⟩|⟨x,g,c,p,rfl⟩|⟨k,x,g,c,p,rfl⟩ <;>
  . cases a with
    |q _ _ _ _ _ _ _=>cases ha
    |z _ _ _ _ _ _ _ _ _ _=>cases ha
    |h f v es=>
     have h:(if v<100 then _ else if v<200 then _ else _)=true:=h
     split at h
     . cases h
     . split at h
       . cases h
       . exact absurd (show false=true from (za h).2) Ab
    |_=>cases h
 cases e with
 |ListComp _ _ _ _=>exact(no h (.inl rfl)).elim
 |SetComp _ _ _ _=>exact(no h (.inr (.inl rfl))).elim
 |DictComp _ _ _ _ _=>exact(no h (.inr (.inr rfl))).elim
 |_=>rfl
theorem Uc:JS T n (.f i e):=by
 intro sc N X st o h env s;replace h:=sr h;obtain⟨ts1,v,pos,rfl,h⟩:=h;replace h:=yr h;obtain⟨t1,rfl,h⟩:=h;replace h:=xf h;obtain⟨x,px,rfl,h⟩:=h;simp only[cf,decide_eq_true_eq,Ay]at h;obtain⟨⟨h1,h2⟩,h3⟩:=h;obtain⟨l1,l2⟩:=o.a.a.c x h2;have hN:X.N.Nodup:=by rw[o.a.a.b];exact o.a.a.d
 have hi:X.N[i]?=some x:=by rw[o.a.a.b];exact h1
 by_cases hn:uv v=true
 . exact js (L2.ue hN hi l1 (jE T n e _ _ _ _ o.a h3 env s) (sy hn) l2) λσ H Q q=>q
 . -- a comprehension
   cases e with
   |q m N' fr elt t it ifs=>
    replace h3:=gW h3;obtain⟨x',tg,iter,fs,csc,cpos,rfl,h3⟩:=h3;simp only[cf,decide_eq_true_eq]at h3;obtain⟨⟨⟨⟨⟨⟨c1,c2⟩,c3⟩,c4⟩,c5⟩,c6⟩,c7⟩:=h3;have S:=gO o.a.a c1;have oc:=o.a.comp S c2 c1;obtain⟨g,pg,tg'⟩:∃g,(∀C s0 H0 ex,L2.PG (X.comp N' csc C s0 H0 ex) tg g)/\rJ X.K X.d t g:=by
     cases t with
     |a i=>
      cases tg with
      |Name y p=>
       simp only[ckT,cf,Ay,decide_eq_true_eq]at c3;exact⟨_,λC s0 H0 ex=>nJ (oc C s0 H0 ex).a c3.1 c3.2,rA⟩
      |_=>cases c3
     |b is=>
      cases tg with
      |Tuple es k p=>
       simp only[ckT,cf,decide_eq_true_eq]at c3;refine⟨_,λC s0 H0 ex=>?_,vk (is:=is)⟩;obtain⟨a,b,c⟩:=wH (oc C s0 H0 ex).a c3.1;exact L2.rl (X:=X.comp N' csc C s0 H0 ex) o.a.c a b c
      |_=>cases c3
    have hpi:L2.PI X tg iter (uI X.K X.d (zF T n) T.b it):=iL λenv s=>jI T n it _ _ _ _ _ o.a c4 env s;have hts:∀C s0 H0 ex,L2.PTs (X.comp N' csc C s0 H0 ex) fs (uTs X.K X.d (zF T n) T.b ifs):=λC s0 H0 ex=>(jCs T n ifs _ _ _ _ (oc C s0 H0 ex) c5).2.2;have hel:∀C s0 H0 ex,L2.PE (X.comp N' csc C s0 H0 ex) x' (uE X.K X.d (zF T n) T.b elt):=λC s0 H0 ex=>WJ (X:=X.comp N' csc C s0 H0 ex) λenv s=>jE T n elt _ _ _ _ (oc C s0 H0 ex) c6 env s;have rule:L2.PS X (.Assign [.Name x px] (.ListComp x' [⟨tg,iter,fs,0⟩] csc cpos) pos) (L2.tE (L2.uf fr (uI X.K X.d (zF T n) T.b it) g (uTs X.K X.d (zF T n) T.b ifs) λacc=>L2.tN acc (uE X.K X.d (zF T n) T.b elt)) (L2.wM i)):=by
     obtain⟨b,hb⟩:=ph (elt:=x') (gens:=[⟨tg,iter,fs,0⟩]) (csc:=csc) (cpos:=cpos) (y:=x) (py:=px) (l:=pos.line) (env:=X.a);cases b with
     |true=>exact L2.WR o.a.c S hpi pg hts hel hN hi l1 hb l2 (yX c7)
     |false=>exact L2.ue hN hi l1 (L2.g9 o.a.c S hpi pg hts hel (yX c7)) hb l2
    refine js (o:=evE (zF T n) T.b env (.q m N' fr elt t it ifs) s) rule λσ H Q hq=>uq (env:=env) (s:=s) (chk:=false) (m:=m) (body:=tP (zF T n) T.b elt ifs) tg' vM (λacc ρ0 H0 hn=>oB hn) ?_ λ_ r s1 p s2 hl=>?_
    . simp only[A3,false_implies,if_true];exact hq
    . have:=qD hl
      simpa using this
   |z m N' fr elt t it ifs t2 it2 ifs2=>
    replace h3:=gX h3;obtain⟨x',tg,iter,fs,tg2,iter2,fs2,csc,cpos,rfl,h3⟩:=h3;simp only[cf,decide_eq_true_eq]at h3;obtain⟨⟨⟨⟨⟨⟨⟨⟨⟨⟨c1,c2⟩,c3⟩,c4⟩,c5⟩,c6⟩,c7⟩,c8⟩,c9⟩,c10⟩,c11⟩:=h3;have S:=gO o.a.a c1;have oc:=o.a.comp S c2 c1;have tgt:∀(t:Tgt) (tg:Expr),ckT csc N' t tg=true->∃g,(∀C s0 H0 ex,L2.PG (X.comp N' csc C s0 H0 ex) tg g)/\rJ X.K X.d t g:=by
     intro t tg c3;cases t with
     |a i=>
      cases tg with
      |Name y p=>
       simp only[ckT,cf,Ay,decide_eq_true_eq]at c3;exact⟨_,λC s0 H0 ex=>nJ (oc C s0 H0 ex).a c3.1 c3.2,rA⟩
      |_=>cases c3
     |b is=>
      cases tg with
      |Tuple es k p=>
       simp only[ckT,cf,decide_eq_true_eq]at c3;refine⟨_,λC s0 H0 ex=>?_,vk (is:=is)⟩;obtain⟨a,b,c⟩:=wH (oc C s0 H0 ex).a c3.1;exact L2.rl (X:=X.comp N' csc C s0 H0 ex) o.a.c a b c
      |_=>cases c3
    obtain⟨g,pg,tg'⟩:=tgt t tg c3;obtain⟨g2,pg2,tg2'⟩:=tgt t2 tg2 c6;have hpi:L2.PI X tg iter (uI X.K X.d (zF T n) T.b it):=iL λenv s=>jI T n it _ _ _ _ _ o.a c4 env s;have hts:∀C s0 H0 ex,L2.PTs (X.comp N' csc C s0 H0 ex) fs (uTs X.K X.d (zF T n) T.b ifs):=λC s0 H0 ex=>(jCs T n ifs _ _ _ _ (oc C s0 H0 ex) c5).2.2;have hpi2:∀C s0 H0 ex,L2.PI (X.comp N' csc C s0 H0 ex) tg2 iter2 (uI X.K X.d (zF T n) T.b it2):=λC s0 H0 ex=>iL (X:=X.comp N' csc C s0 H0 ex) λenv s=>jI T n it2 _ _ _ _ _ (oc C s0 H0 ex) c7 env s;have hts2:∀C s0 H0 ex,L2.PTs (X.comp N' csc C s0 H0 ex) fs2 (uTs X.K X.d (zF T n) T.b ifs2):=λC s0 H0 ex=>(jCs T n ifs2 _ _ _ _ (oc C s0 H0 ex) c8).2.2;have hel:∀C s0 H0 ex,L2.PE (X.comp N' csc C s0 H0 ex) x' (uE X.K X.d (zF T n) T.b elt):=λC s0 H0 ex=>WJ (X:=X.comp N' csc C s0 H0 ex) λenv s=>jE T n elt _ _ _ _ (oc C s0 H0 ex) c9 env s;have rule:L2.PS X (.Assign [.Name x px] (.ListComp x' [⟨tg,iter,fs,0⟩,⟨tg2,iter2,fs2,0⟩] csc cpos) pos) (L2.tE (L2.uf fr (uI X.K X.d (zF T n) T.b it) g (uTs X.K X.d (zF T n) T.b ifs) λacc=>L2.pj (uI X.K X.d (zF T n) T.b it2) g2 (uTs X.K X.d (zF T n) T.b ifs2) (L2.tN acc (uE X.K X.d (zF T n) T.b elt))) (L2.wM i)):=by
     obtain⟨b,hb⟩:=ph (elt:=x') (gens:=[⟨tg,iter,fs,0⟩,⟨tg2,iter2,fs2,0⟩]) (csc:=csc) (cpos:=cpos) (y:=x) (py:=px) (l:=pos.line) (env:=X.a);cases b with
     |true=>exact L2.Zj o.a.c S hpi pg hts hpi2 pg2 hts2 hel hN hi l1 hb l2 (yX c10) (λenv=>yX c11)
     |false=>exact L2.ue hN hi l1 (L2.kT o.a.c S hpi pg hts hpi2 pg2 hts2 hel (yX c10) (λenv=>yX c11)) hb l2
    refine js (o:=evE (zF T n) T.b env (.z m N' fr elt t it ifs t2 it2 ifs2) s) rule λσ H Q hq=>uq (env:=env) (s:=s) (chk:=true) (m:=m) (body:=qC (zF T n) T.b elt ifs t2 it2 ifs2) tg' rC (λacc ρ0 H0 hn=>ni hn tg2') ?_ λz=>by cases z
    simp only[true_implies];exact hq
   |_=>exact absurd (kJ h3 rfl) hn
theorem Ue:JS T n (.m is es):=by
 intro sc N X st o h env s;replace h:=sr h;obtain⟨ts1,v,pos,rfl,h⟩:=h;replace h:=yr h;obtain⟨t1,rfl,h⟩:=h;replace h:=sN h;obtain⟨ts,k,p,rfl,h⟩:=h;replace h:=sN h;obtain⟨vs,k2,p2,rfl,h⟩:=h;simp only[cf,decide_eq_true_eq,Ay]at h;obtain⟨⟨⟨⟨⟨⟨h1,h2⟩,h3⟩,h4⟩,h5⟩,h6⟩,h7⟩:=h;have hes:=(jL T n es _ _ _ _ o.a h2).1 h3 env s;have hN:X.N.Nodup:=by rw[o.a.a.b];exact o.a.a.d
 have kind:∀x,X.a.kindOf x=sc.names.lookup x:=λx=>by show X.a.scope.names.lookup x=_;rw[o.b]
 rcases h7 with h7|h7
 . unfold Vg at h7
   split at h7
   . rename_i x px y py
     simp only[cf,decide_eq_true_eq,AQ]at h7;obtain⟨⟨⟨⟨⟨q1,q2⟩,q3⟩,q4⟩,q5⟩,q6⟩:=h7
     match is,h1,h5 with
     |[i,j],h1,h5=>
      simp only[yT,cf,decide_eq_true_eq,Ay]at h1;obtain⟨⟨i1,i2⟩,⟨j1,j2⟩,_⟩:=h1
      match vs,h6 with
      |[a,b],_=>
       have hij:i≠j:=by rw[BR]at h5;exact λz=>h5.1 (by rw[z];exact AF.mpr rfl)
       exact Xf (L2.Tx o.a.c hN (by rw[o.a.a.b];exact i1) (by rw[o.a.a.b];exact j1) hij (by rw[o.b];exact q1) (by rw[o.b];exact q2) hes
        (jF o.bk (by rw[kind];exact q1) (by rw[kind];exact q2) q3 q4 h3 q5 q6) qA) λσ H Q q=>q
     |[],h1,_=>exact absurd h1 (by simp[yT])
     |[_],h1,_=>exact absurd h1 (by simp[yT])
     |_::_::_::_,h1,_=>exact absurd h1 (by simp[yT])
   . rename_i x px y py z pz
     simp only[cf,decide_eq_true_eq,AQ]at h7;obtain⟨⟨⟨⟨⟨⟨⟨⟨⟨q1,q2⟩,q3⟩,q4⟩,q5⟩,q6⟩,q7⟩,q8⟩,q9⟩,q10⟩:=h7
     match is,h1,h5 with
     |[i,j,l],h1,h5=>
      simp only[yT,cf,decide_eq_true_eq,Ay]at h1;obtain⟨⟨i1,i2⟩,⟨j1,j2⟩,⟨l1,l2⟩,_⟩:=h1
      match vs,h6 with
      |[a,b,c],_=>
       simp only[BR,Af,AU,or_false,not_or]at h5;exact Xg (L2.WS o.a.c hN (by rw[o.a.a.b];exact i1) (by rw[o.a.a.b];exact j1) (by rw[o.a.a.b];exact l1) h5.1.1 h5.1.2 h5.2.1 (by rw[o.b];exact q1) (by rw[o.b];exact q2) (by rw[o.b];exact q3) hes
        (oV o.bk (by rw[kind];exact q1) (by rw[kind];exact q2) (by rw[kind];exact q3) q4 q5 q6 q7 q8 h3 q9 q10) qA) λσ H Q q=>q
     |[],h1,_=>exact absurd h1 (by simp[yT])
     |[_],h1,_=>exact absurd h1 (by simp[yT])
     |[_,_],h1,_=>exact absurd h1 (by simp[yT])
     |_::_::_::_::_,h1,_=>exact absurd h1 (by simp[yT])
   . cases h7
 . have hun:(∃x p,Ek x p∈ts/\X.a.kindOf x≠some .local)\/3<ts.length:=by
    unfold Vo at h7;simp only[Ay,decide_eq_true_eq,Bl]at h7;rcases h7 with⟨e,hm,he⟩|h7
    . cases e with
      |Name x px=>
       simp only[decide_eq_true_eq]at he;exact .inl ⟨x,px,hm,by rw[kind];exact he⟩
      |_=>cases he
    . exact .inr h7
   obtain⟨a,b,c⟩:=wH o.a.a h1;have rule:=Xd (t:=.b is) (env:=env) (s:=s) vk (L2.Zi (pos:=pos) (jr (k:=k2) (pos:=p2) hes) (L2.rl (k:=k) (pos:=p) o.a.c a b c) qA (dm hun)) λσ H Q q=>q;have e:((zo (zF T n) T.b env es s).bind λvs s1=>if vs.length=is.length then (.e:Fl->Sto->Out Fl) (.a ((is.zip vs).foldl (λe p=>e.set p.1 (some p.2)) env)) s1 else .d)=(((zo (zF T n) T.b env es s).bind λvs s1=>if vs.length<=zR then (.e:Val->Sto->Out Val) (.f vs) s1 else .d).bind λv s1=>match yt (.b is) v env with|some env'=>(.e:Fl->Sto->Out Fl) (.a env') s1|dr=>.d):=by
    cases zo (zF T n) T.b env es s with
    |e ws s1=>
     simp only[zO];by_cases hl:ws.length=is.length
     . have hz:ws.length<=zR:=by rw[hl];exact Au h4 (by decide)
       simp only[if_pos hl,if_pos hz,zO,yt]
     . rw[if_neg hl]
       by_cases hz:ws.length<=zR
       . simp only[if_neg hl,if_pos hz,zO,yt]
       . simp only[if_neg hz,qm]
    |g _ _ _=>rfl
    |d=>rfl
   show L2.PS X _ (tSt X.K X.d env s ((zo (zF T n) T.b env es s).bind λvs s1=>if vs.length=is.length then .e (.a ((is.zip vs).foldl (λe p=>e.set p.1 (some p.2)) env)) s1 else .d))
   rw[e];exact rule
theorem aH:JS T n (.l a i e):=by intro sc N X st o h env s;replace h:=sr h;obtain⟨ts1,v,pos,rfl,h⟩:=h;replace h:=yr h;obtain⟨t1,rfl,h⟩:=h;replace h:=qx h;obtain⟨a1,b1,p1,rfl,h⟩:=h;simp only[cf]at h;exact aS h.2 (jE T n e _ _ _ _ o.a h.1.2 env s) (λs1=>jE T n a _ _ _ _ o.a h.1.1.1 env s1) λs1=>jE T n i _ _ _ _ o.a h.1.1.2 env s1
theorem Ro(ja:JSs T n a)(jb:JSs T n b):JS T n (.g c a b):=by intro sc N X st o h env s;replace h:=fE h;obtain⟨t1,x1,y1,p1,rfl,h⟩:=h;simp only[cf]at h;exact Rw (jC T n c _ _ _ _ o.a h.1.1 env s) (fB λenv s=>ja _ _ _ _ o h.1.2 env s) (fB λenv s=>jb _ _ _ _ o h.2 env s) (λs1 D σ H q=>⟨env,s1,q⟩) λs1 D σ H q=>⟨env,s1,q⟩
theorem Ud(jb:JSs T n b):JS T n (.k t it b):=by intro sc N X st o h env s;replace h:=Z3 h;obtain⟨tg1,i1,b1,e1,p1,rfl,h⟩:=h;obtain⟨h0,hh⟩:=za h;cases AR.mp h0;clear h;have h:=hh;simp only[cf]at h;obtain⟨g,pg,tg⟩:=Qd o.a.a o.a.c h.1.1.1;exact Up o.a.xe o.a.c h.2 (λenv s=>jI T n it _ _ _ _ _ o.a h.1.1.2 env s) pg tg (fB λenv s=>jb _ _ _ _ o h.1.2 env s)
theorem aG:JS T n (.j e):=λsc N X st o h env s=>zP (zG rfl)
theorem XX:JSs T n .b:=by intro sc N X st o h env s;cases AR.mp h;exact Xh
theorem aI(jc:JS T n c)(jcs:JSs T n cs):JSs T n (.a c cs):=by intro sc N X st o h env s;replace h:=ya h;obtain⟨t1,ts1,rfl,h⟩:=h;simp only[cf]at h;exact aT (f:=λe s=>zS (zF T n) T.b e cs s) (jc _ _ _ _ o h.1 env s) (fB λenv s=>jcs _ _ _ _ o h.2 env s) λenv s D σ H q=>⟨env,s,q⟩
end
section
variable (T:Tbl)(n:Nat)
mutual
theorem jS:∀a:Sm,JS T n a
 |.h _=>XW
 |.d _=>Ug
 |.s=>λsc N X e o h=>by cases h
 |.f _ _=>Uc
 |.p _ _=>λsc N X e o h=>by cases h
 |.m _ _=>Ue
 |.w _ _ _=>λsc N X e o h=>by cases h
 |.l _ _ _=>aH
 |.u _ _ _=>λsc N X e o h=>by cases h
 |.g _ a b=>Ro (jSs a) (jSs b)
 |.k _ _ b=>Ud (jSs b)
 |.n _ _=>λsc N X e o h=>by cases h
 |.r=>λsc N X e o h=>by cases h
 |.v=>λsc N X e o h=>by cases h
 |.q=>λsc N X e o h=>by cases h
 |.j _=>aG
theorem jSs:∀a:Sms,JSs T n a
 |.b=>XX
 |.a c cs=>aI (jS c) (jSs cs)
end
end
end M
end
section
namespace M
open PySem
structure OkX(T:Tbl)(n:Nat)(sc:Scope)(N:List Str)(X:L2.Cx)(E:L2.XK):Prop where
 a:OkF T n sc N X.nox
 ps:L2.Passes (L2.CXE X.f X.w) X E
 xr:∀C H,E (.ref C) none H->L2.XR X C H
 lv:Lv T X.f X.w X.K X.d X.i n
 b:∀c,(T.e.lookup c).isSome=true->∃C D,X.d c=some (.ref C)/\L2.ClsAt X.i C (.ref D::L2.veM)/\L2.ClsAt X.i D L2.veM
section
variable (K:KF)(mg:Str->Option Value)(E:L2.XK)
def tX(env:Env)(s:Sto)(x:qk):L2.TS:=λ_ σ H=>∃ρ,HR K mg ρ s H/\ER K mg ρ H env σ/\oF K mg ρ H x E
def tXe(env:Env)(s:Sto)(x:qk):L2.TE:=λσ H _=>∃ρ,HR K mg ρ s H/\ER K mg ρ H env σ/\oF K mg ρ H x E
end
theorem oF.mono(h:oF K mg ρ H x E)(e:Ext ρ H ρ' H')(hr:HR K mg ρ' s H'):oF K mg ρ' H' x E:=by
 cases x with
 |none=>exact h
 |some r=>
  obtain⟨c,as,s'⟩:=r;exact λρ2 H2 x2 hr2 C hC=>h ρ2 H2 (e.trans hr x2) hr2 C hC
noncomputable abbrev wx(T:Tbl):Str->Bool:=λc=>(T.e.lookup c).isSome
section
variable {T:Tbl}{n:Nat}{sc:Scope}{N:List Str}{X:L2.Cx}{E:L2.XK}
theorem zr:¬tXe X.K X.d E env s dr σ H Q:=λ⟨_,_,_,z⟩=>z
theorem xj:¬tX X.K X.d E env s dr D σ H:=λ⟨_,_,_,z⟩=>z
theorem qo(h:T.d f v=dr)vs s:zl T n f v vs s=dr:=by
 cases n with
 |zero=>rfl
 |succ n=>simp only[zl,h]
mutual
theorem jxE(o:OkX T n sc N X E):∀(a:Ex) (e:Expr),ck sc N a e=true->∀env s,L2.PE X e (tXe X.K X.d E env s (xE (zF T n) (zl T n) T.b env a s))
 |.h f v es,e,h=>λenv s=>by
  replace h:(if v<100 then ckA sc f (λxs=>ckL sc N es xs) e else if v<200 then ckB sc N f v es (λl ys=>ckL l N es ys) e else ckV sc N v es (λl ys=>ckL l N es ys) e)=true:=h
  split at h
  . replace h:=xF h
    obtain⟨x,p,xs,pos,rfl,h⟩:=h;simp only[cf,decide_eq_true_eq,wO,AQ]at h;obtain⟨⟨⟨⟨rfl,h2⟩,h3⟩,h4⟩,h5⟩:=h;simp only[xE];cases hv:zo (zF T n) T.b env es s with
    |g _ _ _=>exact yc λ_ _ _=>zr
    |d=>exact yc λ_ _ _=>zr
    |e vs s1=>
     simp only[];cases hf:T.d x v with
     |none=>rw[qo hf];exact yc λ_ _ _=>zr
     |some F=>
      obtain⟨fa,fd,e1,e2,e3,e4,e5⟩:=o.lv.a x v F hf;have hp:=(jL T n es _ _ _ _ o.a.a h4).1 h5 env s;rw[hv]at hp;have hp:=iI hp;cases xs with
      |nil=>
       cases es with
       |a _ _=>cases h4
       |b=>
        cases hv;exact zb (L2.kS e5 o.a.a.d (o.a.a.a.a x h2) e1 e2 e3 .nil o.ps h3) λσ H Q ⟨ρ,hr,er,w⟩=>⟨ρ,_,[],hr,.d,.inr w⟩
      |cons y ys=>
       rw[zj,cf]at h5;refine zb (L2.mx e5 o.a.a.d (o.a.a.a.a x h2) e1 e2 e3 .nil o.ps hp h3 (L2.zg (zV h5.1)) (xR h5.2)) λσ H Q ⟨ρ,hr,er,w⟩=>⟨ρ,hr,er,λρ1 zs H1 x1 hr1 r1=>?_⟩;show spX T X.K X.d n x v (zs++[]) H1 Q E;rw[A8];exact⟨ρ1,s1,vs,hr1,r1,.inr (w.mono x1 hr1)⟩
  . rename_i hver
    have hx:xE (zF T n) (zl T n) T.b env (.h f v es) s=dr:=by
     simp only[xE];cases zo (zF T n) T.b env es s with
     |e vs s1=>exact qo (o.a.a.j f v (by omega)) _ _
     |_=>rfl
    rw[hx];exact yc λ_ _ _=>zr
 |.l op a b,e,h=>λenv s=>by
  replace h:=mL h;obtain⟨l1,o1,r1,p1,rfl,h⟩:=h;simp only[cf,decide_eq_true_eq]at h;obtain⟨⟨⟨⟨k1,rfl⟩,h1⟩,h2⟩,h3⟩:=h;simp only[xE];exact zb (L2.g8 (tm (X:=X) o.a.a.d op k1) (jxE o a _ h1 env s) (L2.PE.nox (jE T n b _ _ _ _ o.a.a h2 env s)) (vD h3)) λσ H Q z=>z
 |.g _,_,_=>λ_ _=>yc λ_ _ _=>zr
 |.e _,_,_=>λ_ _=>yc λ_ _ _=>zr
 |.A _,_,_=>λ_ _=>yc λ_ _ _=>zr
 |.J _ _,_,_=>λ_ _=>yc λ_ _ _=>zr
 |.j m op a b,e,h=>λenv s=>by
  replace h:=lZ h;obtain⟨l1,o1,r1,p1,rfl,h⟩:=h;simp only[cf,decide_eq_true_eq]at h;obtain⟨⟨⟨k1,rfl⟩,h1⟩,h2⟩:=h;simp only[xE];exact zb (L2.kX (ZE (X:=X) m op k1) (jxE o a _ h1 env s) (L2.PE.nox (jE T n b _ _ _ _ o.a.a h2 env s))) λσ H Q z=>z
 |.B _,_,_=>λ_ _=>yc λ_ _ _=>zr
 |.I _,_,_=>λ_ _=>yc λ_ _ _=>zr
 |.w _ _ _ _ _,_,_=>λ_ _=>yc λ_ _ _=>zr
 |.y _ _,_,_=>λ_ _=>yc λ_ _ _=>zr
 |.K _ _,_,_=>λ_ _=>yc λ_ _ _=>zr
 |.C _ _ _,_,_=>λ_ _=>yc λ_ _ _=>zr
 |.r _,_,_=>λ_ _=>yc λ_ _ _=>zr
 |.u _ _,_,_=>λ_ _=>yc λ_ _ _=>zr
 |.E,_,_=>λ_ _=>yc λ_ _ _=>zr
 |.k f m es,e,h=>λenv s=>by
  replace h:=xF h;obtain⟨x,p,xs,pos,rfl,h⟩:=h;replace h:=ya h;obtain⟨y,ys,rfl,h⟩:=h;simp only[cf,decide_eq_true_eq,wO]at h;obtain⟨⟨⟨⟨k1,rfl⟩,h2⟩,h3⟩,h4⟩:=h;simp only[xE];have hpa:=jxL o es (y::ys) h3 h4 env s;rw[zj,cf]at h4;have bo:=f.boot;have hg:=o.a.a.a.a _ h2;have hm:=o.a.a.g _ (cu f);have st:=L2.zg (es:=ys) (env:=X.a) (zV h4.1);have hn:=xR (pos:=pos) (env:=X.a) h4.2;cases f with
  |c=>exact zb (L2.xg (r:=λ_ _ _=>False) (λ_ _ _ _ _ _ _ _ _ z=>Az z) hg hm bo hpa (by decide) (by decide) st hn) λσ H Q z=>z
  |j=>exact zb (L2.xg (r:=λ_ _ _=>False) (λ_ _ _ _ _ _ _ _ _ z=>Az z) hg hm bo hpa (by decide) (by decide) st hn) λσ H Q z=>z
  |p=>exact zb (L2.xg (r:=λ_ _ _=>False) (λ_ _ _ _ _ _ _ _ _ z=>Az z) hg hm bo hpa (by decide) (by decide) st hn) λσ H Q z=>z
  |r=>exact zb (L2.xg (r:=λ_ _ _=>False) (λ_ _ _ _ _ _ _ _ _ z=>Az z) hg hm bo hpa (by decide) (by decide) st hn) λσ H Q z=>z
  |_=>exact zb (L2.sZ (r:=λ_ _ _=>False) (λ_ _ _ _ _ _ _ _ _ z=>Az z) hg hm bo hpa (by decide) (by decide) st hn) λσ H Q z=>z
 |.H _ _,_,_=>λ_ _=>yc λ_ _ _=>zr
 |.D _ _ _ _,_,_=>λ_ _=>yc λ_ _ _=>zr
 |.s _ _,_,_=>λ_ _=>yc λ_ _ _=>zr
 |.G _ _ _ _ _,_,_=>λ_ _=>yc λ_ _ _=>zr
 |.q _ _ _ _ _ _ _,_,_=>λ_ _=>yc λ_ _ _=>zr
 |.z _ _ _ _ _ _ _ _ _ _,_,_=>λ_ _=>yc λ_ _ _=>zr
 |.p _ _ _ _,_,_=>λ_ _=>yc λ_ _ _=>zr
 |.F _,_,_=>λ_ _=>yc λ_ _ _=>zr
 |.L _ _,_,_=>λ_ _=>yc λ_ _ _=>zr
theorem jxL(o:OkX T n sc N X E):∀(as:Exs) (es:List Expr),ckL sc N as es=true->zj es=true->∀env s,L2.PA X es (λσ H _=>tXe X.K X.d E env s (xL (zF T n) (zl T n) T.b env as s) σ H λ_ _=>False)
 |.b,_,_=>λ_ _ _=>λ_ _ _ _ _ _ _ z=>(zr z).elim
 |.a a as,es,h=>λhp env s=>by
  replace h:=ya h;obtain⟨e,es,rfl,h⟩:=h;obtain⟨h1,h2⟩:=za h;cases as with
  |a _ _=>exact λ_ _ _ _ _ _ _ z=>(zr z).elim
  |b=>
   cases AR.mp h2;simp only[xL];exact λpos pins s0 σ H Q I z=>L2.wJ (jxE o a e h1 env s) L2.xK (L2.zg (zV (by rw[zj,cf]at hp;exact hp.1))) pos pins s0 σ H Q I z
end
theorem jxT(o:OkX T n sc N X E):∀c e,ckC sc N c e=true->∀env s,L2.PT X e (λσ H _=>tXe X.K X.d E env s (xT (zF T n) (zl T n) T.b env c s) σ H λ_ _=>False)
 |.a a,e,h=>λenv s=>by
  obtain⟨h1,h2⟩:=za h;cases a with
  |h f v es=>
   simp only[xT];rcases (Ay _ _).mp h2 with h2|h2
   . exact rm (L2.kh (jxE o (.h f v es) e h1 env s) (nK h2)) λσ H Q z=>z
   . exfalso
     obtain⟨l,os,rs,p,rfl⟩:=bI (of_decide_eq_true h2);cases bF h1
  |_=>exact fC λ_ _ _=>zr
 |.b c,e,h=>λenv s=>by
  replace h:=qY h;obtain⟨x,p,rfl,h⟩:=h;simp only[xT];exact rm (L2.iR (jxT o c _ h env s)) λσ H Q z=>z
 |.d _ _,_,_=>λ_ _=>fC λ_ _ _=>zr
 |.f _ _,_,_=>λ_ _=>fC λ_ _ _=>zr
theorem gx(h:nB vs=true):(∃x,vs=[.g x])\/∃i j:Int,vs=[.c i,.c j]/\i.natAbs<2 ^ 64/\j.natAbs<2 ^ 64:=by
 unfold nB at h;split at h
 . exact .inl ⟨_,rfl⟩
 . rw[cf,decide_eq_true_eq,decide_eq_true_eq]at h
   exact .inr ⟨_,_,rfl,h⟩
 . cases h
theorem aW(o:OkX T n sc N X E)(h:ckS sc N (.j e) st=true)env s:L2.PS X st (tX X.K X.d E env s (xS (wx T) (zF T n) (zl T n) T.b env (.j e) s)):=by
 cases e with
 |h c v es=>
  replace h:=Wb h;obtain⟨q,b,pos,rfl,h⟩:=h;obtain⟨h0,hh⟩:=za h;cases B8.mp h0;replace h:=me hh;obtain⟨q,rfl,h⟩:=h;replace h:=xF h;obtain⟨x,np,xs,cpos,rfl,h⟩:=h;replace h:=yr h;obtain⟨a,rfl,h⟩:=h;simp only[cf,decide_eq_true_eq,wO,AQ,Ay]at h;obtain⟨⟨⟨rfl,h2⟩,h3⟩,h4⟩:=h;simp only[xS];cases hv:zo (zF T n) T.b env es s with
  |g _ _ _=>exact wR λ_ _ _=>xj
  |d=>exact wR λ_ _ _=>xj
  |e vs s1=>
   simp only[];by_cases hm:(nB vs&&(T.e.lookup x).isSome)=true
   case neg=>rw[if_neg hm];exact wR λ_ _ _=>xj
   rw[if_pos hm];rw[cf]at hm;obtain⟨C,D,m1,m2,m3⟩:=o.b x hm.2;rcases h4 with⟨h4,h5⟩|h4
   . have hp:=(jL T n es _ _ _ _ o.a.a h4).1 (by rw[zj,zj,Bool.and_true];exact h5) env s
     rw[hv]at hp;refine yz (L2.kg o.a.a.d.b (o.a.a.a.a x h2) m1 m2 m3 (iI hp) h3 (L2.zg (zV h5)) rfl) λD' σ H ⟨ρ,hr,er,w⟩=>⟨ρ,hr,er,λρ1 xs H1 x1 hr1 r1=>⟨?_,o.xr C H1 (w ρ1 H1 x1 hr1 C m1)⟩⟩;rw[<-r1.length,AV];rcases gx hm.1 with⟨x,rfl⟩|⟨i,j,rfl,_⟩
     . simp
     . simp
   . replace h4:=Yt h4
     obtain⟨u,v',c1,c2,c3,k1,k2,k3,p1,p2,p3,p4,p5,pos',rfl,z1,z2,z3,h4⟩:=h4;obtain⟨e1,e2,rfl,h41,h42⟩:∃e1 e2,es=.a e1 (.a e2 .b)/\ck sc N e1 u=true/\ck sc N e2 v'=true:=by
      cases es with
      |b=>cases h4
      |a e1 es=>
       obtain⟨q1,q2⟩:=za h4;cases es with
       |b=>cases q2
       |a e2 es=>
        obtain⟨q3,q4⟩:=za q2;cases es with
        |b=>exact⟨e1,e2,rfl,q1,q3⟩
        |a _ _=>cases q4
     obtain⟨v1,s2,q1,hv⟩:=yC hv;obtain⟨vs',s3,q2,hv⟩:=yC hv;obtain⟨v2,s4,q3,q2⟩:=yC q2;cases q2;cases hv;have pe:=L2.QX (c1:=c1) (c2:=c2) (c3:=c3) (k1:=k1) (k2:=k2) (k3:=k3) (p1:=p1) (p2:=p2) (p3:=p3) (p4:=p4) (p5:=p5) (pos:=pos') (L2.PE.nox (jE T n e1 _ _ _ _ o.a.a h41 env s)) (L2.PE.nox (jE T n e2 _ _ _ _ o.a.a h42 env s2)) z1 z2 z3;rcases gx hm.1 with⟨x,z⟩|⟨i,j,z,hi,hj⟩
     . cases z
     . cases z
       rw[q1,q3]at pe;refine yz (L2.kg o.a.a.d.b (o.a.a.a.a x h2) m1 m2 m3 (L2.wJ pe L2.xK) h3 rfl rfl) λD' σ H ⟨ρ,hr,er,w⟩=>⟨ρ,hr,er,λρ1 y1 H1 x1 hr1 r1=>?_⟩;cases r1;refine⟨i,rfl,hi,ρ1,hr1,er.mono x1,λρ2 y2 H2 x2 hr2 r2=>?_⟩;cases r2;exact⟨j,rfl,hj,λz=>⟨by rw[AV];simp,o.xr C H2 (w ρ2 H2 (x1.trans hr1 x2) hr2 C m1)⟩⟩
 |_=>exact wR λ_ _ _=>xj
theorem Uu(o:OkX T n sc N X E)(h:ckS sc N (.f i e) st=true)env s:L2.PS X st (tX X.K X.d E env s (xE (zF T n) (zl T n) T.b env e s)):=by
 replace h:=sr h;obtain⟨ts1,v,pos,rfl,h⟩:=h;replace h:=yr h;obtain⟨t1,rfl,h⟩:=h;replace h:=xf h;obtain⟨x,px,rfl,h⟩:=h;simp only[cf,decide_eq_true_eq,Ay]at h;obtain⟨⟨h1,h2⟩,h3⟩:=h;obtain⟨l1,l2⟩:=o.a.a.a.c x h2;have hN:X.N.Nodup:=by have:=o.a.a.a.b;rw[show X.N=N from this];exact o.a.a.a.d
 have hi:X.N[i]?=some x:=by have:=o.a.a.a.b;rw[show X.N=N from this];exact h1
 by_cases hn:uv v=true
 . exact yz (L2.ue hN hi l1 (jxE o e _ h3 env s) (sy hn) l2) λD σ H z=>z
 . cases e with
   |h _ _ _=>exact absurd (kJ h3 rfl) hn
   |l _ _ _=>exact absurd (kJ h3 rfl) hn
   |j _ _ _ _=>exact absurd (kJ h3 rfl) hn
   |k _ _ _=>exact absurd (kJ h3 rfl) hn
   |_=>exact wR λ_ _ _=>xj
def uX(T:Tbl)(n:Nat)(X:L2.Cx)(E:L2.XK)(b:Sms):L2.TS:=λD σ H=>∃env s,tX X.K X.d E env s (xSs (wx T) (zF T n) (zl T n) T.b env b s) D σ H
mutual
theorem jxS(o:OkX T n sc N X E):∀(a:Sm) (st:Stmt),ckS sc N a st=true->∀env s,L2.PS X st (tX X.K X.d E env s (xS (wx T) (zF T n) (zl T n) T.b env a s))
 |.h e,st,h=>λenv s=>by
  replace h:=kq h;obtain⟨x1,p1,rfl,h⟩:=h;simp only[cf]at h;simp only[xS];exact yz (L2.mz (jxE o e _ h.1 env s) (sy h.2)) λD σ H z=>z
 |.d e,st,h=>λenv s=>by
  replace h:=kr h;obtain⟨q1,p1,rfl,h⟩:=h;replace h:=me h;obtain⟨x1,rfl,h⟩:=h;simp only[xS];exact yz (L2.ud (jxE o e _ h env s)) λD σ H z=>z
 |.f i e,st,h=>λenv s=>by simp only[xS];exact Uu o h env s
 |.j e,st,h=>λenv s=>aW o h env s
 |.g c a b,st,h=>λenv s=>by
  replace h:=fE h;obtain⟨t1,x1,y1,p1,rfl,h⟩:=h;simp only[cf]at h;have pc:=L2.PT.nox (jC T n c _ _ _ _ o.a.a h.1.1 env s);have pn:∀{ss:List Stmt},L2.PSs X ss (λ_ _ _=>False):=λpins s0 σ H D I q=>q.elim;simp only[xS];cases hc:evT (zF T n) T.b env c s with
  |g _ _ _=>exact yz (L2.kf (jxT o c _ h.1.1 env s) pn pn) λD σ H z=>z
  |d=>exact yz (L2.kf (jxT o c _ h.1.1 env s) pn pn) λD σ H z=>z
  |e t s1=>
   rw[hc]at pc;have pa:L2.PSs X _ (uX T n X E a):=λpins s0 σ H D I ⟨env',s',q⟩=>Xi o a _ h.1.2 env' s' pins s0 σ H D I q;have pb:L2.PSs X _ (uX T n X E b):=λpins s0 σ H D I ⟨env',s',q⟩=>Xi o b _ h.2 env' s' pins s0 σ H D I q;refine yz (L2.kf pc pa pb) λD σ H ⟨ρ,hr,er,w⟩=>⟨ρ,hr,er,λρ1 t' H1 x1 hr1 ht=>?_⟩;cases ht;simp only[]at w;cases t with
   |true=>exact L2.oJ ⟨env,s1,ρ1,hr1,er.mono x1,oF.mono w x1 hr1⟩
   |false=>exact L2.rY ⟨env,s1,ρ1,hr1,er.mono x1,oF.mono w x1 hr1⟩
 |.s,_,_=>λ_ _=>wR λ_ _ _=>xj
 |.p _ _,_,_=>λ_ _=>wR λ_ _ _=>xj
 |.m _ _,_,_=>λ_ _=>wR λ_ _ _=>xj
 |.w _ _ _,_,_=>λ_ _=>wR λ_ _ _=>xj
 |.l _ _ _,_,_=>λ_ _=>wR λ_ _ _=>xj
 |.k _ _ _,_,_=>λ_ _=>wR λ_ _ _=>xj
 |.n _ _,_,_=>λ_ _=>wR λ_ _ _=>xj
 |.r,_,_=>λ_ _=>wR λ_ _ _=>xj
 |.v,_,_=>λ_ _=>wR λ_ _ _=>xj
 |.q,_,_=>λ_ _=>wR λ_ _ _=>xj
 |.u _ _ _,_,_=>λ_ _=>wR λ_ _ _=>xj
theorem Xi(o:OkX T n sc N X E):∀(b:Sms) (st:List Stmt),lW sc N b st=true->∀env s,L2.PSs X st (tX X.K X.d E env s (xSs (wx T) (zF T n) (zl T n) T.b env b s))
 |.b,_,_=>λ_ _=>λpins s0 σ H D I q=>(xj q).elim
 |.a c cs,st,h=>λenv s=>by
  replace h:=ya h;obtain⟨t0,ts,rfl,h⟩:=h;rw[cf]at h;simp only[xSs];have no:L2.PSs X ts (λ_ _ _=>False):=λpins s0 σ H D I q=>q.elim;cases hc:exS (zF T n) T.b env c s with
  |g _ _ _=>exact sg (L2.y0 (jxS o c _ h.1 env s) no) λD σ H z=>z
  |d=>exact sg (L2.y0 (jxS o c _ h.1 env s) no) λD σ H z=>z
  |e fl s1=>
   simp only[];cases fl with
   |a e=>
    have p1:=jS T n c _ _ _ _ o.a h.1 env s;rw[hc]at p1;have p1':L2.PS X t0 (tSt X.K X.d env s (.e (.a e) s1)):=λpins s0 σ H D I q=>A6 (p1 pins s0 σ H D (I.vH _) q) (λ_ _ z=>z.xU) λ_ _ z=>Az z;have p2:L2.PSs X ts (uX T n X E cs):=λpins s0 σ H D I ⟨env',s',q⟩=>Xi o cs _ h.2 env' s' pins s0 σ H D I q;refine sg (L2.y0 p1' p2) λD σ H ⟨ρ,hr,er,w⟩=>⟨ρ,hr,er,λρ1 H1 σ1 x1 hr1 er1=>?_⟩;exact⟨e,s1,ρ1,hr1,er1,oF.mono w x1 hr1⟩
   |b _=>exact λpins s0 σ H D I q=>(xj q).elim
   |c _=>exact λpins s0 σ H D I q=>(xj q).elim
   |d _=>exact λpins s0 σ H D I q=>(xj q).elim
end
end
end M
end
section
namespace M
open PySem
mutual
noncomputable def nN(n:Nat):Val->Bool
 |.k i|.o i=>decide (i<n)
 |.f vs=>vQ n vs
 |.j vs=>vQ n vs
 |.h|.e _|.c _|.g _|.l|.m _|.p _|.q _|.r _=>true
noncomputable def vQ(n:Nat):List Val->Bool
 |[]=>true
 |v::vs=>nN n v&&vQ n vs
end
mutual
theorem sk{n:Nat}{v:Val}(h:v.noRef=true):nN n v=true:=by
 cases v with
 |k _=>cases h
 |o _=>cases h
 |f vs=>exact vf (vs:=vs) h
 |j vs=>exact vf (vs:=vs) h
 |_=>rfl
theorem vf{n:Nat}{vs:List Val}(h:z7 vs=true):vQ n vs=true:=by
 cases vs with
 |nil=>rfl
 |cons v vs=>
  rw[z7,cf]at h;rw[vQ,sk h.1,vf h.2];rfl
end
section
variable {K:KF}{mg:Str->Option Value}
mutual
theorem RD.refs{ρ:Own}{H:L2.Hp}{v:Val}{x:L2.V}(q:RD K mg ρ H v x):nN ρ.o.length v=true:=by
 cases q with
 |m _ _ r=>exact RDs.refs r
 |E _ _ r=>exact RDs.refs r
 |C e _=>exact decide_eq_true (Aj.mp e).1
 |A e _=>exact decide_eq_true (Aj.mp e).1
 |_=>rfl
theorem RDs.refs{ρ:Own}{H:L2.Hp}{v:List Val}{x:List L2.V}(q:RDs K mg ρ H v x):vQ ρ.o.length v=true:=by
 cases q with
 |d=>rfl
 |a r rs=>rw[vQ,RD.refs r,RDs.refs rs];rfl
end
structure Cut(ρ ρ':Own):Prop where
 b:∃new,ρ'.o=ρ.o++new
 d:ρ'.h=ρ.h
theorem Cut.no(c:Cut ρ ρ')(n:ρ'.no a):ρ.no a:=by obtain⟨new,e⟩:=c.b;exact⟨λh=>n.1 (by rw[e];exact Bv _ h),by rw[<-c.d];exact n.2⟩
mutual
theorem RD.u9{ρ ρ':Own}{H:L2.Hp}(c:Cut ρ ρ'){v:Val}{x:L2.V}(q:RD K mg ρ' H v x)(h:nN ρ.o.length v=true):RD K mg ρ H v x:=by
 have at':∀{i:Nat} {a:Addr},ρ'.o[i]?=some a->decide (i<ρ.o.length)=true->ρ.o[i]?=some a:=λ{i a} e h=>by obtain⟨new,e'⟩:=c.b;rw[e',A1 (of_decide_eq_true h)]at e;exact e
 cases q with
 |s=>exact .s
 |j b=>exact .j b
 |l i=>exact .l i
 |D t=>exact .D t
 |m n e r=>exact .m (c.no n) e (RDs.u9 c r h)
 |E n e r=>exact .E (c.no n) e (RDs.u9 c r h)
 |B n e=>exact .B (c.no n) e
 |p g=>exact .p g
 |F g=>
  refine .F ?_;rcases g with⟨n,g⟩|g
  . exact .inl ⟨c.no n,g⟩
  . exact .inr g
 |C e k=>exact .C (at' e h) k
 |A e k=>exact .A (at' e h) k
 |G e=>exact .G e
 |I n=>exact .I n
theorem RDs.u9{ρ ρ':Own}{H:L2.Hp}(c:Cut ρ ρ'){v:List Val}{x:List L2.V}(q:RDs K mg ρ' H v x)(h:vQ ρ.o.length v=true):RDs K mg ρ H v x:=by
 cases q with
 |d=>exact .d
 |a r rs=>
  rw[vQ,cf]at h;exact .a (RD.u9 c r h.1) (RDs.u9 c rs h.2)
end
noncomputable def mG:Cel->List Val
 |.c vs=>vs
 |.e kvs=>kvs.map (·.2)
 |.f kvs=>kvs.map (·.2)
 |.d _=>[]
theorem CR.vals(h:CR K mg ρ H a c):∃xs,RDs K mg ρ H (mG c) xs:=by
 cases c with
 |c vs=>obtain⟨xs,_,r⟩:=h;exact⟨_,r⟩
 |e kvs=>obtain⟨xs,_,_,r⟩:=h;exact⟨_,r⟩
 |f kvs=>obtain⟨xs,_,_,r⟩:=h;exact⟨_,r⟩
 |d x=>exact⟨[],.d⟩
theorem fY(h:c.noRef=true):z7 (mG c)=true:=by cases c<;>first|exact h|rfl
theorem CR.u9(c:Cut ρ ρ')(h:CR K mg ρ' H a o)(hb:vQ ρ.o.length (mG o)=true):CR K mg ρ H a o:=by
 cases o with
 |c vs=>obtain⟨xs,e,r⟩:=h;exact⟨xs,e,RDs.u9 c r hb⟩
 |e kvs=>obtain⟨xs,e,k,r⟩:=h;exact⟨xs,e,k,RDs.u9 c r hb⟩
 |f kvs=>obtain⟨xs,e,k,r⟩:=h;exact⟨xs,e,k,RDs.u9 c r hb⟩
 |d y=>
  obtain⟨ps,e1,k,r,g⟩:=h;refine⟨ps,e1,k,λpos cv hc=>?_,g⟩;obtain⟨a,o,vs,t,q1,q2,q3,q4⟩:=r pos cv hc;exact⟨a,o,vs,t,q1,c.no q2,q3,q4⟩
theorem mr{α β:Type}:∀{a b:List (α × β)},a.map (·.1)=b.map (·.1)->a.map (·.2)=b.map (·.2)->a=b
 |[],[],_,_=>rfl
 |[],_::_,h,_=>by cases h
 |_::_,[],h,_=>by cases h
 |x::xs,y::ys,h1,h2=>by
  rw[AJ,AJ]at h1 h2;injection h1 with a1 a2
  injection h2 with b1 b2
  rw[mr a2 b2,Dx a1 b1]
theorem kM:∀{s s'} {i} {o'},vB s s'=true->i<s.length->s'[i]?=some o'->o'.noRef=true\/s[i]?=some o'
 |[],_,_,_,_,h,_=>by cases h
 |o::r,[],_,_,h,_,_=>by cases h
 |o::r,o'::r',0,q,h,_,e=>by
  rw[vB,cf,Ay]at h;simp only[List.getElem?_cons_zero,Fi]at e;subst e;rcases h.1 with z|z
  . exact .inl z
  . right
    cases o' with
    |c a=>cases o with
     |c b=>simp only[Cel.beq]at z;rw[sI z];rfl
     |_=>cases z
    |e a=>cases o with
     |e b=>simp only[Cel.beq,cf,decide_eq_true_eq]at z;rw[mr z.1 (sI z.2)];rfl
     |_=>cases z
    |f a=>cases o with
     |f b=>simp only[Cel.beq,cf,decide_eq_true_eq]at z;rw[mr z.1 (sI z.2)];rfl
     |_=>cases z
    |d a=>cases o with
     |d b=>simp only[Cel.beq,decide_eq_true_eq]at z;rw[z];rfl
     |_=>cases z
 |o::r,o'::r',i+1,q,h,hi,e=>by
  rw[vB,cf]at h;have:=kM (i:=i) h.2 (by simpa using hi) (by simpa using e)
  simpa using this
noncomputable def Tt:Val->Bool
 |.k _|.o _|.f _=>false
 |.h|.e _|.c _|.g _|.l|.m _|.p _|.q _|.r _|.j _=>true
theorem XA{n:Nat}{s:Sto}{k i:Nat}:vp n s k (.k i)=if i<n then some (Val.k i) else match s[i]? with
 |some (.c vs)=>if z7 vs then some (.j vs) else dr
 |_=>dr:=by cases k<;>rfl
theorem bj:vp n s k (.o i)=if i<n then some (Val.o i) else dr:=by cases k<;>rfl
theorem bp(h:Tt v=true):vp n s k v=if v.noRef then some v else dr:=by
 cases v with
 |k _=>cases h
 |o _=>cases h
 |f _=>cases h
 |_=>cases k<;>rfl
theorem Y9:sQ n s k []=some []:=by cases k<;>rfl
mutual
theorem pC{ρ ρ':Own}{H:L2.Hp}{s:Sto}(c:Cut ρ ρ')(hr:HR K mg ρ' s H){k:Nat}{v v':Val}{x:L2.V}(r:RD K mg ρ' H v x)(h:vp ρ.o.length s k v=some v'):RD K mg ρ H v' x:=by
 have sv:∀{w:Val},RD K mg ρ' H w x->(if w.noRef then some w else dr)=some v'->RD K mg ρ H v' x:=λ{w} r h=>by
  split at h
  . rename_i hn;cases h;exact RD.u9 c r (sk hn)
  . cases h
 cases v with
 |k i=>
  rw[XA]at h;cases r with
  |C e hkd=>
   by_cases hi:i<ρ.o.length
   . rw[if_pos hi]at h
     cases h;exact RD.u9 c (.C e hkd) (by rw[nN];exact decide_eq_true hi)
   . rw[if_neg hi]at h
     split at h
     . rename_i vs hs
       split at h
       . rename_i hn
         cases h;obtain⟨a,xs,e1,e2,q⟩:=hr.obj i vs hs;rw[e]at e1;cases e1;obtain⟨new,e'⟩:=c.b;have hm:=AA e;refine .E ⟨λhm'=>?_,λhh=>?_⟩ e2 (RDs.u9 c q (vf hn))
         . obtain⟨j,hj,ej⟩:=BM hm'
           have ej':ρ'.o[j]?=ρ'.o[i]?:=by rw[e,e',A1 hj,xd hj,ej]
           have:=ax hr.v e (ej'.trans e);exact hi (this▸hj)
         . exact(hr.d _ (by rw[c.d];exact hh)).2 hm
       . cases h
     . cases h
 |o i=>
  rw[bj]at h;split at h
  . rename_i hi
    cases h;exact RD.u9 c r (by rw[nN];exact decide_eq_true hi)
  . cases h
 |f vs=>
  cases k with
  |zero=>exact sv r h
  |succ k=>
   rw[vp,A4]at h;obtain⟨ws,h1,rfl⟩:=h;cases r with
   |m n e q=>exact .m (c.no n) e (pB c hr q h1)
 |_=>exact sv r ((bp rfl).symm.trans h)
theorem pB{ρ ρ':Own}{H:L2.Hp}{s:Sto}(c:Cut ρ ρ')(hr:HR K mg ρ' s H){k:Nat}{v v':List Val}{x:List L2.V}(r:RDs K mg ρ' H v x)(h:sQ ρ.o.length s k v=some v'):RDs K mg ρ H v' x:=by
 cases r with
 |d=>rw[Y9]at h;cases h;exact .d
 |@a v _ vs _ r1 r2=>
  cases k with
  |zero=>cases h
  |succ k=>
   rw[sQ]at h;split at h
   . rename_i a b ha hb
     cases h;refine .a ?_ (pB c hr r2 hb);by_cases hn:v.noRef=true
     . rw[if_pos hn]at ha;cases ha;exact RD.u9 c r1 (sk hn)
     . rw[if_neg hn]at ha;exact pC c hr r1 ha
   . cases h
end
theorem l9(h0:HR K mg ρ s H)(w:yq K mg (RD K mg) ρ H (leave F s v s1) Q)(X:Ext ρ H ρ' H')(hr:HR K mg ρ' s1 H')(r:RD K mg ρ' H' v x):Q x H':=by
 unfold leave at w;by_cases hk:F.c=true
 . rw[if_pos hk]at w;exact w ρ' x H' X hr r
 . rw[if_neg hk]at w
   by_cases ho:vB s s1=true
   . rw[if_pos ho]at w
     have c:Cut ρ ρ':=⟨by obtain⟨new,e,_⟩:=X.d;exact⟨new,e⟩,X.f⟩
     cases hf:freeze s.length s1 v with
     |none=>rw[hf]at w;exact w.elim
     |some v'=>
      rw[hf]at w;have hlen:s.length<=s1.length:=by obtain⟨new,e,_⟩:=X.d;rw[<-h0.f,<-hr.f,e,Am];omega
      refine w ρ x H' ⟨⟨[],by simp,λa ha=>by cases ha⟩,rfl,X.c,X.g⟩ ⟨?_,h0.v,λi vs e=>?_,λa ha=>?_⟩ ?_
      . rw[B1,h0.f];omega
      . have hi:i<s.length:=by have:=(Aj.mp e).1;rw[B1]at this;omega
        rw[DC hi]at e;obtain⟨a,e1,q⟩:=hr.m i vs e;have e3:ρ.o[i]?=some a:=by
         obtain⟨new,e',_⟩:=X.d;rw[e',A1 (by rw[h0.f];exact hi)]at e1
         exact e1
        refine⟨a,e3,q.u9 c ?_⟩;rcases kM ho hi e with z|z
        . exact vf (fY z)
        . obtain⟨b,_,q'⟩:=h0.m i vs z
          obtain⟨xs,q2⟩:=q'.vals;exact RDs.refs q2
      . obtain⟨z,n⟩:=hr.d a (by rw[X.f];exact ha)
        exact⟨z,(h0.d a ha).2⟩
      . unfold freeze at hf
        by_cases hn:v.noRef=true
        . rw[if_pos hn]at hf;cases hf;exact RD.u9 c r (sk hn)
        . rw[if_neg hn,<-h0.f]at hf
          exact pC c hr r hf
   . rw[if_neg ho]at w;exact w.elim
theorem jB(r:RDs K mg ρ H args vs):ER K mg ρ H (zk N args) (L2.start N vs):=by
 refine⟨by unfold zk L2.start;rw[Am,Am,Aa,Aa,B5,B5,r.length],λi v e=>?_⟩
 unfold zk at e;unfold L2.start;by_cases hi:i<args.length
 . rw[A1 (by simpa using hi),AG]at e
   rw[A1 (by rw[Aa,<-r.length];exact hi),AG]
   cases ha:args[i]? with
   |none=>rw[ha]at e;cases e
   |some a=>
    rw[ha]at e;have:a=v:=Aw (Aw e);subst this;obtain⟨x,h1,h2⟩:=r.get ha;exact⟨x,by rw[h1];rfl,h2⟩
 . rw[BL (by simpa using hi),DU]at e
   split at e<;>cases e
end
noncomputable def argNames(a:Ee):Option (List Str):=
 if a.posonlyargs.isEmpty&&a.vararg.isNone&&a.kwonlyargs.isEmpty&&a.kw_defaults.isEmpty&&a.kwarg.isNone&&a.defaults.isEmpty then some (a.args.map (·.arg)) else none
def fZ(st:Stmt)(F:Fn):Bool:=
 match st with
 |.FunctionDef _ args body _ _ _ sc _ _ _=>decide (argNames args=some F.b)&&decide (sc.kind=.function)&&!sc.isCoroutine&&!sc.isGenerator&&decide F.N.Nodup&&decide (F.N.take F.b.length=F.b) &&
  F.b.all (λx=>decide (sc.names.lookup x=some .local)||decide (sc.names.lookup x=some .cell))&&sc.names.all (λy=>decide (y.2≠.free))&&lW sc F.N F.a body
 |_=>false
theorem jy:∀{ps:List Str} {us:List Value},ps.Nodup->us.length=ps.length->ps.filterMap (λn=>((ps.zip us).lookup n).map (n,·))=ps.zip us:=by
 have key:∀(ps qs:List Str) (us ws:List Value),(qs++ps).Nodup->us.length=ps.length->ws.length=qs.length->ps.filterMap (λn=>(((qs++ps).zip (ws++us)).lookup n).map (n,·))=ps.zip us:=by
  intro ps;induction ps with
  |nil=>intro qs us ws _ _ _;rfl
  |cons p ps ih=>
   intro qs us ws nd h1 h2;cases us with
   |nil=>cases h1
   |cons u us=>
    have hl:((qs++p::ps).zip (ws++u::us)).lookup p=some u:=by
     rw[List.zip_append h2.symm];have:∀(qs:List Str) (ws:List Value),p ∉ qs->((qs.zip ws)++(p::ps).zip (u::us)).lookup p=some u:=by
      intro qs;induction qs with
      |nil=>intro ws _;simp
      |cons q qs ih2=>
       intro ws hn;cases ws with
       |nil=>simp
       |cons w ws=>
        have hpq:(p == q)=false:=by
         have:p≠q:=λz=>hn (by rw[z];exact Ar)
         simpa using this
        rw[List.zip_cons_cons,CN,An,hpq];exact ih2 ws λz=>hn (Ah _ z)
     refine this qs ws λz=>?_;rw[Fw]at nd;exact nd.2.2 p z p Ar rfl
    rw[AW,hl];have:=ih (qs++[p]) us (ws++[u]) (by simpa using nd) (by simpa using h1) (by simp[h2])
    rw[Bt,Bt]at this;exact congrArg ((p,u)::·) this
 intro ps us nd h;simpa using key ps [] us [] (by simpa using nd) h rfl
theorem lookup_some:∀{ps:List Str} {us:List Value},us.length=ps.length->∀n∈ps,((ps.zip us).lookup n).isNone=false
 |[],_,_,n,h=>by cases h
 |p::ps,[],h,_,_=>by cases h
 |p::ps,u::us,h,n,hn=>by
  rw[List.zip_cons_cons,An];cases hb:(n == p) with
  |true=>rfl
  |false=>
   have:n≠p:=by simpa using hb
   rcases Af.mp hn with z|z
   . exact absurd z this
   . exact lookup_some (by simpa using h) n z
theorem sJ(h:argNames a=some ps)(nd:ps.Nodup)us(hl:us.length=ps.length) :
 Gr (BK x qual a body sc .none kV doc pm an cdv ct) ⟨us,[]⟩=pure (ps.zip us):=by
 unfold argNames at h;split at h
 . rename_i hc
   simp only[cf,AR,B8]at hc;obtain⟨⟨⟨⟨⟨h1,h2⟩,h3⟩,h4⟩,h5⟩,h6⟩:=hc;cases h;obtain⟨po,ar,va,ko,kd,kw,df⟩:=a;simp only at h1 h2 h3 h4 h5 h6 hl nd ⊢;subst h1 h2 h3 h4 h5 h6;have hm:((ar.map (·.arg)).take ((ar.map (·.arg)).length-0)).filter (λn=>(((ar.map (·.arg)).zip us).lookup n).isNone)=[]:=by rw[List.filter_eq_nil_iff];intro n hn;rw[lookup_some hl n (EJ hn)];decide
   unfold Gr;have hd:seqItems? Ck=pure none:=rfl;have hg:¬(us.length > (ar.map (·.arg)).length/\True):=by rintro ⟨z,_⟩;omega
   simp only[BK,FK,Cw,A8,Gk,DG,hd,FH,List.toList_toArray,Cz,List.drop_nil,Nat.sub_zero,Option.isNone_none,Bool.and_true];rw[if_neg (by rw[Aa]at hl;simp;omega)]
   have hm':(List.filter (λn=>(List.lookup n ((Gy (λx=>x.arg) ar).zip us)).isNone) (List.take (Gy (λx=>x.arg) ar).length (Gy (λx=>x.arg) ar)))=[]:=hm;rw[hm',if_neg (by decide),List.zip_nil_right,Gk,DG,if_neg (by decide),jy nd hl]
 . cases h
def qG(K:KF)(x:Str)(st:Stmt):Prop:=∃f fd,BC K AL x=some (some (.ref f))/\L2.Fun K x x st f fd
theorem UB(a:BC K AL x=some (some (.ref f)))
 (l:K.lookup f=some ⟨oc,od,.func (BK x x (L2.wI st) (L2.yh st) (L2.zH st) .none kV doc pm an cdv ct),osl⟩) (c:BO K cdv x=true) (k:B4 K (.ref f)=true):qG K x st:=
 ⟨f,_,a,L2.UJ l c k⟩
section
variable {P:Program}{w:World}{K:KF}{mg:Str->Option Value}{base:Heap}{T:Tbl}
structure Top(T:Tbl)(K:KF)(mg:Str->Option Value):Prop where
 a:∀f v F,T.d f v=some F->∃st fa fd,mg f=some (.ref fa)/\L2.Fun K f f st fa fd/\fZ st F=true/\((∃b,T.c b=true)->("!":Str)∈F.N->f∈T.f)
 d:∀x v,T.b x=some v->∃u xv,mg x=some u/\L2.RelV xv u/\∀ρ H,RD K mg ρ H v xv
 c:∀x∈wy,mg x=none
 no:∀f v,100<=v->T.d f v=none
 sc:(T.e≠[]\/∃b,T.c b=true)->Sc T K mg
theorem vo(h:fZ st F=true):argNames (L2.wI st)=some F.b/\L2.vI F.N F.b (L2.zH st)/\lW (L2.zH st) F.N F.a (L2.yh st)=true:=by
 unfold fZ at h;split at h
 . simp only[cf,decide_eq_true_eq,AQ,Ao,Ay]at h
   obtain⟨⟨⟨⟨⟨⟨⟨⟨h1,h2⟩,h3⟩,h4⟩,h5⟩,h6⟩,h7⟩,h8⟩,h9⟩:=h;exact⟨h1,⟨h2,h3,h4,h5,h6,h7,h8⟩,h9⟩
 . cases h
theorem ZC(top:Top T K mg)(IH:∀j,j<=n->Lv T P w K mg base j){F:Fn}(p2:L2.vI F.N F.b (L2.zH st))
 (hm:mg f=some (.ref fa)) (hk:K.lookup fa=some ⟨oc,od,.func (BK f f (L2.wI st) (L2.yh st) (L2.zH st) .none kV doc pm an cdv ct),osl⟩) (hcd:BO K cdv f=true) (htb:(∃b,T.c b=true)->("!":Str)∈F.N->f∈T.f)
       (hr:L2.xQ n (A.deeper (PyProof.Rows.envOfC f (L2.zH st) s.heap.objs.size fa cdv))):OkF T n (L2.zH st) F.N (L2.wL CX P w K mg base F.N f (L2.zH st) fa cdv A outer s H E).nox:=by
 refine⟨⟨rfl,hr,⟨rfl,p2.b,λx hx=>hx,λx hx=>⟨hx,.inl rfl⟩,λx hx=>hx,λx hx=>hx⟩,λg v' G hg=>?_,top.d,top.c,rfl,top.no,λm hm hmd=>⟨top.sc (.inr hmd),λj hj=>IH j (by omega)⟩,λhmd _ hx=>?_⟩,rfl,?_⟩
 . obtain⟨ga,gd,q1,q2,q3,q4,q5⟩:=(IH n (Ac _)).a g v' G hg
   exact⟨ga,gd,q1,q2,q3,q4⟩
 . have:∃c,cdv=.ref c:=by
    unfold BO at hcd;split at hcd
    . exact⟨_,rfl⟩
    . cases hcd
   obtain⟨c,rfl⟩:=this;exact⟨f,htb hmd hx,fa,c,_,_,hm,hk,rfl,rfl,rfl,rfl⟩
 . show (if (L2.zH st).kind.isAnnotationScope then ScopeKind.function else (L2.zH st).kind)=.function
   rw[p2.a];rfl
theorem VI(top:Top T K mg)(IH:∀j,j<=n->Lv T P w K mg base j)(h:T.d f v=some F)(hm:mg f=some (.ref fa))(e2:L2.Fun K f f st fa fd)(e3:fZ st F=true)
 (htb:(∃b,T.c b=true)->("!":Str)∈F.N->f∈T.f):L2.sF P w K mg base L2.CX0 (n+1) fa fd F.b (spN T K mg (n+1) f v):=by
 obtain⟨p1,p2,p3⟩:=vo e3;have hcall:∀(vs:List Val) (s:Sto),zF T (n+1) f v vs s=run T (zF T n) F vs s:=λvs s=>by simp only[zF,h]
 obtain⟨oc,od,kV,doc,pm,an,cdv,ct,osl,rfl,lk,hcd⟩:=e2.a;refine L2.VH lk hcd p2 (λvs H Q E q=>?_) λA outer s H vs Q E hr q=>?_
 . obtain⟨ρ,t,as,_,r,z⟩:=q
   rw[hcall]at z;unfold run at z;split at z
   . rename_i hl;rw[<-r.length];exact hl
   . exact z.elim
 . obtain⟨ρ,t,as,h0,r,z⟩:=q
   rw[hcall]at z;unfold run at z;have hl:as.length=F.b.length:=by
    by_cases hl:as.length=F.b.length
    . exact hl
    . rw[if_neg hl]at z;exact z.elim
   rw[if_pos hl]at z;have okf:=ZC (CX:=L2.CX0) (P:=P) (w:=w) (base:=base) (outer:=outer) (s:=s) (H:=H) (E:=E) top IH p2 hm lk hcd htb hr;refine⟨_,(jSs T n F.a (L2.zH st) F.N _ (L2.yh st) okf p3 (zk F.N as) t).nox,ρ,h0,jB r,?_⟩;show oX K mg ρ H (zS (zF T n) T.b (zk F.N as) F.a t) _;cases hx:zS (zF T n) T.b (zk F.N as) F.a t with
   |e fl s1=>
    rw[hx]at z;cases fl with
    |a e=>exact λρ1 H1 σ1 x1 hr1 er1=>l9 h0 z x1 hr1 .s
    |b v'=>exact λρ1 H1 x x1 hr1 r1=>l9 h0 z x1 hr1 r1
    |c e=>exact z.elim
    |d e=>exact z.elim
   |g _ _ _=>rw[hx]at z;exact z.elim
   |d=>rw[hx]at z;exact z.elim
theorem Pf(top:Top T K mg)(hB:K.In base)(IH:∀j,j<=n->Lv T P w K mg base j)(h:T.d f v=some F)(hm:mg f=some (.ref fa))(e2:L2.Fun K f f st fa fd)(e3:fZ st F=true)
 (htb:(∃b,T.c b=true)->("!":Str)∈F.N->f∈T.f):L2.sF P w K mg base (L2.CXE P w) (n+1) fa fd F.b (λvs H Q E=>∃ρ s args,HR K mg ρ s H/\RDs K mg ρ H args vs/\oF K mg ρ H (zl T (n+1) f v args s) E):=by
 obtain⟨p1,p2,p3⟩:=vo e3;have hcall:∀(vs:List Val) (s:Sto),zl T (n+1) f v vs s=if vs.length=F.b.length then xSs (wx T) (zF T n) (zl T n) T.b (zk F.N vs) F.a s else dr:=λvs s=>by simp only[zl,h]
 obtain⟨oc,od,kV,doc,pm,an,cdv,ct,osl,rfl,lk,hcd⟩:=e2.a;refine L2.VH lk hcd p2 (λvs H Q E q=>?_) λA outer s H vs Q E hr q=>?_
 . obtain⟨ρ,t,as,_,r,z⟩:=q
   rw[hcall]at z;split at z
   . rename_i hl;rw[<-r.length];exact hl
   . exact z.elim
 . obtain⟨ρ,t,as,h0,r,z⟩:=q
   rw[hcall]at z;have hl:as.length=F.b.length:=by
    by_cases hl:as.length=F.b.length
    . exact hl
    . rw[if_neg hl]at z;exact z.elim
   rw[if_pos hl]at z;have okf:=ZC (CX:=L2.CXE P w) (P:=P) (w:=w) (base:=base) (outer:=outer) (s:=s) (H:=H) (E:=E) top IH p2 hm lk hcd htb hr;have okx:OkX T n (L2.zH st) F.N (L2.wL (L2.CXE P w) P w K mg base F.N f (L2.zH st) fa cdv A outer s H E) E:=by
    refine⟨okf,L2.eu,λC H hE=>L2.W5 hE,IH n (Ac _),λc hc=>?_⟩;have hne:T.e≠[]:=λz=>by rw[z]at hc;cases hc
    obtain⟨_,_,_,_,hue,_,_,_,_,RF⟩:=(top.sc (.inl hne)).ex;obtain⟨w',hw⟩:=Ca.mp hc;obtain⟨C,q1,q2,q3⟩:=RF c w' hw base hB;exact⟨C,hue,q1,q2,q3⟩
   exact⟨_,Xi okx F.a (L2.yh st) p3 (zk F.N as) t,ρ,h0,jB r,z⟩
theorem U6(top:Top T K mg)(hB:K.In base):∀n j,j<=n->Lv T P w K mg base j:=by
 have step:∀n,(∀j,j<n->Lv T P w K mg base j)->Lv T P w K mg base n:=λn IH=>⟨λf v F hf=>by
  obtain⟨st,fa,fd,q1,q2,q3,q4⟩:=top.a f v F hf;obtain⟨r1,r2,r3⟩:=vo q3;have nd:F.b.Nodup:=by rw[<-r2.c];exact r2.b.sublist (Fo _ _)
  have hb:L2.Binds K fd F.b []:=q2.binds λkV doc pm an cdv ct us hl=>sJ r1 nd us hl;cases n with
  |zero=>
   refine⟨fa,fd,q1,q2.b,hb,⟨λvs H Q E q=>?_,λA outer s H args us vs Q E _ _ _ _ q=>?_⟩,⟨λvs H Q E q=>?_,λA outer s H args us vs Q E _ _ _ _ q=>?_⟩⟩
   . obtain⟨ρ,t,as,_,_,z⟩:=q;exact z.elim
   . obtain⟨ρ,t,as,_,_,z⟩:=q;exact z.elim
   . obtain⟨ρ,t,as,_,_,z|z⟩:=q<;>exact z.elim
   . obtain⟨ρ,t,as,_,_,z|z⟩:=q<;>exact z.elim
  |succ n=>
   have IH':∀j,j<=n->Lv T P w K mg base j:=λj hj=>IH j (by omega)
   have a:=VI (P:=P) (w:=w) (base:=base) top IH' hf q1 q2 q3 q4;have b:=Pf (P:=P) (w:=w) (base:=base) top hB IH' hf q1 q2 q3 q4;refine⟨fa,fd,q1,q2.b,hb,a,⟨λvs H Q E q=>?_,λA outer s H args us vs Q E h1 h2 h3 h4 q=>?_⟩⟩
   . obtain⟨ρ,t,as,x1,x2,z|z⟩:=q
     . exact a.b vs H Q E ⟨ρ,t,as,x1,x2,z⟩
     . exact b.b vs H Q E ⟨ρ,t,as,x1,x2,z⟩
   . obtain⟨ρ,t,as,x1,x2,z|z⟩:=q
     . refine Dd (a.a A outer s H args us vs Q E h1 h2 h3 h4 ⟨ρ,t,as,x1,x2,z⟩) λr s' hq=>?_
       cases r with
       |error e=>exact Az hq
       |ok fl=>cases fl<;>exact hq
     . exact b.a A outer s H args us vs Q E h1 h2 h3 h4 ⟨ρ,t,as,x1,x2,z⟩⟩
 intro n;induction n with
 |zero=>intro j hj;exact step j λi hi=>absurd hi (by omega)
 |succ n ih=>
  intro j hj;by_cases h:j<=n
  . exact ih j h
  . have:j=n+1:=by omega
    subst this;exact step _ λi hi=>ih i (by omega)
end
end M
end
section
namespace M
open PySem Hd
def fO(K:KF)(x:Str):Val->Prop
 |.c i=>∃t,BC K AL x=some (some (.int i t))
 |.g y=>∃t,BC K AL x=some (some (.str y t))
 |.m ns=>∃a,BC K AL x=some (some (.ref a))/\KT K a (ns.map L2.V.d)
 |_=>False
noncomputable def glO(fnL:List ((Str × Nat) × Fn))(glL:List (Str × Val))(x:Str):Option Val:=match glL.lookup x with
 |some v=>some v
 |dr=>match fnL.lookup (x,0) with
  |some _=>some (.q x)
  |dr=>dr
def i6(fnL:List ((Str × Nat) × Fn))(glL:List (Str × Val))(tb:List Str)(xc:List (Str × Str))(md:Bool->Bool):Tbl:=⟨λf v=>fnL.lookup (f,v),glO fnL glL,tb,xc,md⟩
def nV(fnL:List ((Str × Nat) × Fn))(D:List (Str × Stmt)):Bool:=fnL.all λp=>decide (p.1.2<100)&&match D.lookup p.1.1 with|some st=>fZ st p.2|none=>false
theorem xq{α β:Type} [BEq α] [LawfulBEq α]:∀{l:List (α × β)} {a:α} {b:β},l.lookup a=some b->(a,b)∈l
 |[],_,_,h=>by cases h
 |(c,d)::l,a,b,h=>by
  rw[An]at h;cases hb:(a == c) with
  |true=>rw[hb]at h;cases h;rw[Ci hb];exact Ar
  |false=>rw[hb]at h;exact Ah _ (xq h)
theorem Sg(X:K.In h)(G:h.Ns AL mg)(hd:∀p∈D,qG K p.1 p.2)(hg:∀p∈glL,fO K p.1 p.2)(hb:∀x∈wy,BC K AL x=some none)
 (hc:nV fnL D=true)    (htb:(∃b,md b=true)->fnL.all (λp=>!decide (("!":Str)∈p.2.N)||decide (p.1.1∈tb))=true) (sc:(xc≠[]\/∃b,md b=true)->Sc (i6 fnL glL tb xc md) K mg):Top (i6 fnL glL tb xc md) K mg:=by
 refine⟨λf v F e=>?_,λx v e=>?_,λx hx=>PySem.W.mg_none_of X G (hb x hx),λf v hv=>?_,sc⟩
 . have hm:((f,v),F)∈fnL:=xq e
   unfold nV at hc;rw[Ao]at hc;have h1:=hc _ hm;rw[cf]at h1;have h1:=h1.2;split at h1
   . rename_i st hs
     obtain⟨fa,fd,a,F'⟩:=hd _ (xq hs);refine⟨st,fa,fd,Dr X G a,F',h1,λhmd hN=>?_⟩;have:=Ao.mp (htb hmd) _ hm;simp only[Ay,AQ,decide_eq_false_iff_not,decide_eq_true_eq]at this;exact this.resolve_left λz=>z hN
   . cases h1
 case refine_3=>
  show fnL.lookup (f,v)=none;cases e:fnL.lookup (f,v) with
  |none=>rfl
  |some F=>
   have hm:((f,v),F)∈fnL:=xq e;unfold nV at hc;rw[Ao]at hc;have h1:=hc _ hm;rw[cf,decide_eq_true_eq]at h1;have h2:v<100:=h1.1;omega
 . have e:glO fnL glL x=some v:=e
   unfold glO at e;split at e
   case h_2=>
    split at e
    . rename_i F hF
      cases e;unfold nV at hc;rw[Ao]at hc;have h1:=hc _ (xq hF);rw[cf]at h1;have h1:=h1.2;split at h1
      . rename_i st hs
        obtain⟨fa,fd,a,F'⟩:=hd _ (xq hs);exact⟨_,.c fa,Dr X G a,rfl,λρ H=>.G (Dr X G a)⟩
      . cases h1
    . cases e
   rename_i v' e';cases e;have hm:(x,v)∈glL:=xq e';have h1:=hg _ hm;cases v with
   |c i=>
    obtain⟨t,a⟩:=h1;exact⟨_,.d i,Dr X G a,⟨t,rfl⟩,λρ H=>.l i⟩
   |g y=>
    obtain⟨t,a⟩:=h1;exact⟨_,.e y,Dr X G a,⟨t,rfl⟩,λρ H=>.D y⟩
   |m ns=>
    obtain⟨a,h2,h3⟩:=h1;exact⟨_,.c a,Dr X G h2,rfl,λρ H=>.p h3⟩
   |_=>exact h1.elim
theorem int_mk(a:BC K AL x=some (some (.int i t))):fO K x (.c i):=⟨t,a⟩
theorem str_mk(a:BC K AL x=some (some (.str y t))):fO K x (.g y):=⟨t,a⟩
theorem pD:∀{us} {ns},ly us=some ns->L2.Vals (ns.map L2.V.d) us
 |[],_,h=>by cases h;exact .nil
 |u::us,ns,h=>by
  cases u with
  |int i t=>
   simp only[ly,A4]at h;obtain⟨ms,h1,rfl⟩:=h;exact .cons ⟨t,rfl⟩ (pD h1)
  |_=>cases h
theorem Yl(h:BC K AL x=some (some (.ref a)))
 (l:K.lookup a=some ⟨.type "tuple",od,.seq us.toArray n,sl⟩) (hz:us.length<=1000) (hi:ly us=some ns):fO K x (.m ns):=
 ⟨a,h,_,us.toArray,n,l,rfl,rfl,by rw[Ae,AV];omega,by simpa using pD hi⟩
structure S9(T:Tbl)(K:KF)(mg:Str->Option Value)(h:Heap)(tabs:List Addr):Prop where
 nd:tabs.Nodup
 b:tabs.length=T.f.length
 a:∀(i:Nat) (g:Str),T.f[i]?=some g->∃P,tabs[i]?=some P/\h.get? P=some (ET #[])/\K.lookup P=none/\Gd h P /\
  ∃(fa c:Addr) (o:Obj) (fd:BQ),mg g=some (.ref fa)/\K.lookup fa=some o/\o.data=.func fd/\fd.code=.ref c/\∀h':Heap,K.In h'->PySem.W.CodeHd h' c P
def Q3(K:KF)(tabs:List Addr):L2.Sp:=λvs H Q _=>∃(a:Addr) (ns:List Int),vs=[.c a]/\(∀b∈tabs,H b=some (.g #[]))/\L2.SqL K H a (ns.map L2.V.d)/\ns.length<=63/\∀H',Q (.f true) H'
theorem walk{l:PySem.W.OpenLaw}(hn:l.most=some 63)(hdf:d.params.defaults=[])(hr:L2.xQ n callerA)
 (hY:∀w h,YP w h->K.In h) (hF:T.d d.name 0=some F) (hx:F.b=[x])
 (TOP:∀w s₀ mg mb h,PySem.W.Ground q loose [] XP w s₀ mg mb h->K.In h->Top T K mg/\∃tabs,S9 T K mg h tabs)
 (HL:∀ns:List Int,ns.length<=63->∃s',zF T n d.name 0 [.p ns] (T.f.map .d)=.e (.e true) s') :
 PySem.W.WalkO q loose XP YP l.row.toRowW d [] (λf vs=>PySem.call f vs):=by
 refine Att.lR hn hdf λw s₀ s₁ mg mb fa o pm cd doc a vs ns G Y ho hd hcd hmg hobj hints hlen hg=>?_;have KX:=hY w _ Y;obtain⟨top,tabs,TE⟩:=TOP w s₀ mg mb _ G KX;obtain⟨st,fa',fd',e1,e2,e3,e4⟩:=top.a _ _ _ hF;obtain⟨p1,p2,p3⟩:=vo e3;have nd:F.b.Nodup:=by rw[<-p2.c];exact p2.b.sublist (Fo _ _)
 rw[e1]at hmg;cases hmg;cases n with
 |zero=>
  obtain⟨s',hs⟩:=HL [] (by decide)
  cases hs
 |succ n=>
  have htab:∀b∈tabs,s₁.heap.get? b=some (ET #[])/\K.lookup b=none/\Gd s₁.heap b:=λb hb=>by
   obtain⟨i,hi,e⟩:=BM hb;obtain⟨P,q1,q2,q3,q4,_⟩:=TE.a i _ (xd (by rw[<-TE.b];exact hi))
   rw[xd hi,e]at q1;cases q1;exact⟨q2,q3,q4⟩
  refine L2.eE (CX:=L2.CX0) (k:=n+1) (fd:=fd') (x:=x) (sp:=Q3 K tabs) (tabs:=tabs) KX G.T.g G.T.b G.T.builtins G.T.nolimit hg hobj hints (Au hlen (by decide)) hr htab (λbase kb nb=>?_) (λs u=>?_) (λH hT hS=>⟨a,ns,rfl,hT,hS,hlen,λ_=>rfl⟩) λ_ _ _ z=>z
  . have f4:=VI (P:=l.prog) (w:=w) (base:=base) top (λj hj=>U6 top kb n j hj) hF e1 e2 e3 e4
    rw[hx]at f4;refine f4.imp λvs H Q E ⟨a,ns,e,hT,hS,hl,hq⟩=>?_;subst e;obtain⟨s',hs⟩:=HL ns hl;refine⟨⟨tabs,[]⟩,T.f.map .d,[.p ns],⟨by rw[Aa];exact TE.b,TE.nd,λi c z=>?_,λa z=>by cases z⟩,.a (.F ?_) .d,?_⟩
    . rw[AG]at z
      cases hg:T.f[i]? with
      |none=>rw[hg]at z;cases z
      |some g=>
       rw[hg]at z;cases z;obtain⟨P,q1,q2,q3,q4,fn⟩:=TE.a i g hg;exact⟨P,q1,#[],hT P (AA q1),Be,λpos cv hc=>(nomatch hc),fn⟩
    . rcases hS with hS|hS
      . refine .inl ⟨⟨λhm=>?_,by simp⟩,hS⟩
        have:=hT a hm;rcases hS with z|⟨o,z⟩<;>(rw[this]at z;cases z)
      . exact .inr hS
    . rw[hs]
      intro ρ' x' H' _ _ r;cases r;exact hq H'
  . obtain⟨oc,od,kV,doc,pm,an,cdv,ct,osl,e,_⟩:=e2.a
    subst e;refine .of_eq ?_;have:=sJ (x:=d.name) (qual:=d.name) (body:=L2.yh st) (sc:=L2.zH st) (kV:=kV) (doc:=doc) (pm:=pm) (cdv:=cdv) (ct:=ct) (an:=an) p1 nd [u] (by rw[hx];rfl)
    rw[hx]at this;exact this
end M
end
section
namespace F
open PySem M
noncomputable def yN:Fn:=⟨["_law_script","_law_k"],["_law_script","_law_k"],false,(.a (.g (.a (.l .j (.e 1) (.k .b false (.a (.e 0) .b)))) (.a (.d (.s (.e 0) (.e 1))) .b) .b) (.a (.d (.g (.c 0))) .b))⟩
noncomputable def yv:Fn:=⟨["_law_pen_here","_law_many","_law_left","_law_found","_law_mixed"],["_law_pen_here","_law_many"],false,(.a (.g (.a (.l .i (.s (.e 0) (.g (.c 0))) (.g (.c 0)))) (.a (.p [2,3] (.k .g false (.a (.s (.e 0) (.g (.c 0))) (.a (.e 1) .b)))) (.a (.l (.e 0) (.g (.c 0)) (.e 2)) (.a (.d (.e 3)) .b))) .b) (.a (.l (.e 0) (.g (.c 1)) (.j false .c (.j false .a (.j false .b (.s (.e 0) (.g (.c 1))) (.g (.c 48271))) (.g (.c 30269))) (.g (.c 2147483629)))) (.a (.f 4 (.j false .c (.j false .a (.j false .a (.j false .b (.s (.e 0) (.g (.c 1))) (.s (.e 0) (.g (.c 1)))) (.j false .b (.g (.c 40692)) (.s (.e 0) (.g (.c 1))))) (.g (.c 7))) (.g (.c 2147483587)))) (.a (.d (.j false .c (.j false .e (.e 4) (.g (.c 64))) (.e 1))) .b))))⟩
noncomputable def yg:Fn:=⟨["_law_cell","_law_left"],["_law_cell"],true,(.a (.f 1 (.k .k false (.a (.e 0) (.a (.j false .d (.g (.c 0)) (.e 0)) .b)))) (.a (.d (.u true (.a (.j false .b (.e 1) (.k .p false (.a (.l .k (.e 1) (.j false .f (.g (.c 10)) (.g (.c 18)))) .b))) (.a (.j false .c (.e 1) (.g (.c 2147483629))) .b)))) .b))⟩
noncomputable def xP:Fn:=⟨["_law_draft_here","_law_place","_law_hue"],["_law_draft_here","_law_place","_law_hue"],false,(.a (.d (.j false .a (.j false .a (.G false (.e 0) .b (.a (.e 1)) .b) (.r (.a (.e 2) .b))) (.G false (.e 0) (.a (.j false .a (.e 1) (.g (.c 1)))) .b .b))) .b)⟩
noncomputable def y9:Fn:=⟨["things","least","most"],["things","least","most"],false,(.a (.d (.k .q false (.a (.q false ["thing","least","most"] [none,some 1,some 2] (.h "is_whole" 0 (.a (.e 0) (.a (.e 1) (.a (.e 2) .b)))) (.a 0) (.d (.e 0)) .b) .b))) .b)⟩
noncomputable def xB:Fn:=⟨["hues","first","step","size"],["hues","first","step","size"],false,(.a (.d (.l .d (.D .a false (.G false (.e 0) (.a (.e 1)) (.a (.j false .a (.e 1) (.j false .b (.e 2) (.e 3)))) (.a (.e 2))) (.a (.s (.e 0) (.e 1)) .b)) (.e 3))) .b)⟩
noncomputable def wC:Fn:=⟨["thing","least","most"],["thing","least","most"],false,(.a (.d (.y (.k .h false (.a (.e 0) (.a (.J "int" "int") .b))) (.a (.I (.k .h false (.a (.e 0) (.a (.J "bool" "bool") .b)))) (.a (.w .e .e (.e 1) (.e 0) (.e 2)) .b)))) .b)⟩
noncomputable def xZ:Fn:=⟨["length","first","size"],["length","first","size"],false,(.a (.d (.j false .e (.j false .d (.j false .d (.e 0) (.g (.c 1))) (.e 1)) (.j false .d (.e 2) (.g (.c 1))))) .b)⟩
noncomputable def yp:Fn:=⟨["thing"],["thing"],false,(.a (.h (.h "need_whole" 0 (.a (.e 0) (.a (.g (.c 0)) (.a (.A "MOST_PLACES") .b))))) .b)⟩
noncomputable def yL:Fn:=⟨["thing"],["thing"],false,(.a (.h (.h "need_whole" 0 (.a (.e 0) (.a (.A "LEAST_SIZE") (.a (.A "MOST_SIZE") .b))))) .b)⟩
noncomputable def zw:Fn:=⟨["thing","least","most"],["thing","least","most"],false,(.a (.g (.b (.a (.h "is_whole" 0 (.a (.e 0) (.a (.e 1) (.a (.e 2) .b)))))) (.a (.j (.h "NoNumber" 0 (.a (.e 1) (.a (.e 2) .b)))) .b) .b) .b)⟩
end F
end
section
namespace M
open PySem L2
noncomputable def qS(n s f:Nat):List (Nat × Nat):=(Aq ((n-1-f)/(s-1))).map λj=>(f,j+1)
def xh(n s:Nat):List (Nat × Nat):=(Aq n).flatMap (qS n s)
theorem Zw n s f:(qS n s f).length=(n-1-f)/(s-1):=by unfold qS;rw[Aa,Bh]
theorem WV n s f:(qS n s f).length<=n:=by rw[Zw];have:=Nat.div_le_self (n-1-f) (s-1);omega
theorem gc n s:∀i,((Aq i).flatMap (qS n s)).length<=i*n
 |0=>by simp
 |i+1=>by
  rw[List.range_succ,List.flatMap_append,Am];have h1:=gc n s i;have h2:=WV n s i;have e:List.flatMap (qS n s) [i]=qS n s i:=by simp
  rw[e,FJ];omega
theorem eN(hs:2<=s)(h:r∈xh n s):0<r.2/\r.1+r.2*(s-1)<n:=by
 unfold xh qS at h;obtain⟨f,hf,h⟩:=FU.mp h;obtain⟨j,hj,rfl⟩:=AO.mp h;rw[AZ]at hf hj;have:(j+1)*(s-1)<=n-1-f:=(Nat.le_div_iff_mul_le (by omega)).mp hj
 refine⟨Nat.succ_pos _,?_⟩;show f+(j+1)*(s-1)<n;omega
noncomputable def ua(ns:List Int)(f d s:Nat):Bool:=(Aq s).all λk=>decide (ns[f+k*d]?=ns[f]?)
theorem Yq{n f d s:Nat}(hd:0<d)(hs:1<=s)(h:f+d*(s-1)<n):yx n (some (f:Int)) (some ((f:Int)+(d:Int)*(s:Int))) (d:Int)=((f:Int),s):=by
 have hmul:d*s=d*(s-1)+d:=by rw[<-Nat.mul_succ];congr 1;omega
 have e0:(d:Int)*(s:Int)=((d*s:Nat):Int):=(F7 d s).symm;have e1:Bo (some (f:Int)) (some ((f:Int)+(d:Int)*(s:Int))) (d:Int) (n:Int)=((f:Int),((min (f+d*s) n:Nat):Int)):=by
  rw[e0];unfold Bo;simp only[if_neg (show ¬(d:Int)<0 by omega),if_neg (show ¬(f:Int)<0 by omega),if_neg (show ¬((f:Int)+((d*s:Nat):Int))<0 by omega)]
  refine Dx ?_ ?_
  . show min (f:Int) (n:Int)=f;omega
  . show min ((f:Int)+((d*s:Nat):Int)) (n:Int)=_;omega
 unfold yx;rw[e1];refine Dx rfl ?_;show Bz (f:Int) ((min (f+d*s) n:Nat):Int) (d:Int)=s;unfold Bz;rw[if_pos (by omega),if_pos (by omega)]
 have e2:(((min (f+d*s) n:Nat):Int)-(f:Int)-1)=((min (f+d*s) n-f-1:Nat):Int):=by omega
 rw[e2,<-Int.natCast_ediv];have e3:(min (f+d*s) n-f-1)/d=s-1:=by
  refine Nat.div_eq_of_lt_le ?_ ?_
  . rw[Cv];omega
  . have:(s-1+1)*d=d*s:=by rw[show s-1+1=s by omega,Cv]
    omega
 rw[e3];omega
theorem bg{α β:Type}{f}{g:α->β}:∀{l:List α},(∀x∈l,f x=some (g x))->l.filterMap f=l.map g
 |[],_=>rfl
 |x::l,h=>by rw[AW,h x (Ar ..),AJ,bg λy hy=>h y (Ah _ hy)]
theorem Zf{ns:List Int}(h:f+d*(s-1)<ns.length):zm ns (f:Int) (d:Int) s=(Aq s).map λk=>ns.getD (f+k*d) 0:=by
 unfold zm;refine bg λk hk=>?_;rw[AZ]at hk;have h1:k*d<=d*(s-1):=by rw[Cv];exact Dt d (by omega)
 have e:((f:Int)+(k:Int)*(d:Int)).toNat=f+k*d:=by rw[show (k:Int)*(d:Int)=((k*d:Nat):Int) from (F7 k d).symm];omega
 have hlt:f+k*d<ns.length:=by omega
 rw[e,xd hlt];rw[Al,xd hlt];rfl
theorem Xw(h:f+d*(s-1)<ns.length):ua ns f d s=true↔∀x∈(Aq s).map (λk=>ns.getD (f+k*d) 0),x=ns.getD f 0:=by
 unfold ua;rw[Ao];constructor
 . intro h1 x hx
   obtain⟨k,hk,rfl⟩:=AO.mp hx;have:=of_decide_eq_true (h1 k hk);rw[Al,this,<-Al]
 . intro h1 k hk
   have:=h1 _ (AO.mpr ⟨k,hk,rfl⟩);rw[AZ]at hk;have h2:k*d<=d*(s-1):=by rw[Cv];exact Dt d (by omega)
   have hlt:f+k*d<ns.length:=by omega
   have hf:f<ns.length:=by omega
   rw[Al,Al,xd hlt,xd hf]at this;refine decide_eq_true ?_;rw[xd hlt,xd hf];exact congrArg some this
noncomputable def Pg(z p:Nat)(r:Nat × Nat):Bool:=(Aq z).any λk=>decide (r.1+k*r.2=p)
def atP(n z p:Nat):List (Nat × Nat):=(xh n z).filter (Pg z p)
theorem pJ(hz:2<=z):(f,d)∈xh n z↔0<d/\f+d*(z-1)<n:=by
 constructor
 . exact λh=>eN hz h
 . rintro ⟨h1,h2⟩
   unfold xh qS;refine FU.mpr ⟨f,AZ.mpr (by omega),AO.mpr ⟨d-1,AZ.mpr ?_,?_⟩⟩
   . have:d<=(n-1-f)/(z-1):=(Nat.le_div_iff_mul_le (by omega)).mpr (by omega)
     omega
   . show (f,d-1+1)=(f,d)
     rw[show d-1+1=d by omega]
def Sz(zs:List Int):Prop:=1<=zs.length/\zs.length<=4/\∀x∈zs,2<=x/\x<=8
noncomputable def putL(ns:List Int)(p:Nat)(h:Int):List Int:=ns.take p++h::ns.drop (p+1)
def Pa(ns:List Int)(z p:Nat)(h:Int):List (Nat × Nat):=(atP ns.length z p).filter λr=>ua (putL ns p h) r.1 r.2 z
noncomputable def vL(zs:List Int)(h:Nat):Nat:=(zs.getD h 0).toNat
def QD(zs ns:List Int)(p:Nat):List Nat:=(Aq zs.length).filter λh=>(Pa ns (vL zs h) p h).isEmpty
theorem ku(hz:Sz zs)(hh:h<zs.length):zs[h]?=some ((vL zs h:Nat):Int)/\2<=vL zs h/\vL zs h<=8:=by
 have e:zs.getD h 0=zs[h]:=by rw[Al,xd hh];rfl
 have:=hz.2.2 zs[h] (B2 hh);unfold vL;rw[e,xd hh];refine⟨?_,by omega,by omega⟩
 congr 1;omega
noncomputable def zx(f d z:Nat):List Int:=(Aq z).map λk=>((f+k*d:Nat):Int)
end M
end
section
namespace M
open PySem
def Out.post{α:Type}(o:Out α)(P:α->Sto->Prop):Prop:=∃a s,o=.e a s/\P a s
theorem zE{α:Type}{a:α}{s:Sto}{P:α->Sto->Prop}:(Out.e a s).post P↔P a s:=
 ⟨λ⟨_,_,e,h⟩=>(by cases e;exact h),λh=>⟨a,s,rfl,h⟩⟩
theorem zI{o:Out α}{f}{P:β->Sto->Prop}:(o.bind f).post P↔o.post λa s=>(f a s).post P:=by
 cases o with
 |e a s=>exact(zE (P:=λa s=>(f a s).post P)).symm
 |g c as s=>exact⟨λ⟨_,_,e,_⟩=>(by cases e),λ⟨_,_,e,_⟩=>(by cases e)⟩
 |d=>exact⟨λ⟨_,_,e,_⟩=>(by cases e),λ⟨_,_,e,_⟩=>(by cases e)⟩
theorem zT{o:Out α}{P Q}(h:o.post P)(i:∀a s,P a s->Q a s):o.post Q:=by obtain⟨a,s,e,h⟩:=h;exact⟨a,s,e,i a s h⟩
theorem z9{o:Out α}{P Q}(h:∀a s,P a s↔Q a s):o.post P↔o.post Q:=⟨λk=>zT k λa s=>(h a s).mp,λk=>zT k λa s=>(h a s).mpr⟩
theorem zd{α:Type}{P:α->Sto->Prop}:(Out.d:Out α).post P↔False:=⟨λ⟨_,_,e,_⟩=>(by cases e),Az⟩
theorem xt{α:Type}{c:Prop} [Decidable c] {a b:Out α}{P:α->Sto->Prop}:(if c then a else b).post P↔if c then a.post P else b.post P:=by split<;>exact CL
theorem post_eq{o:Out α}{a}:o=.e a s↔o.post λx t=>x=a/\t=s:=⟨λh=>⟨a,s,h,rfl,rfl⟩,λ⟨_,_,h,e1,e2⟩=>(by rw[h,e1,e2])⟩
section
variable {Φ:Calls}{G:Str->Option Val}{env:Env}{s:Sto}
theorem QM{v:Val}{P:Val->Sto->Prop}:(evE Φ G env (.g v) s).post P↔P v s:=zE
theorem g7{i:Nat}{P:Val->Sto->Prop}:(evE Φ G env (.e i) s).post P↔∃v,env[i]?=some (some v)/\P v s:=by
 show (match env[i]? with|some (some v)=>Out.e v s|_=>.d).post P↔_
 split
 . rename_i v e
   refine zE.trans ⟨λh=>⟨_,e,h⟩,λ⟨u,h1,h2⟩=>?_⟩;rw[e]at h1;cases h1;exact h2
 . rename_i hn
   exact⟨λ⟨_,_,e,_⟩=>(by cases e),λ⟨u,h1,h2⟩=>absurd h1 (hn u)⟩
theorem QJ{x:Str}{P:Val->Sto->Prop}:(evE Φ G env (.A x) s).post P↔∃v,G x=some v/\P v s:=by
 show (match G x with|some v=>Out.e v s|dr=>.d).post P↔_
 split
 . rename_i v e
   refine zE.trans ⟨λh=>⟨_,e,h⟩,λ⟨u,h1,h2⟩=>?_⟩;rw[e]at h1;cases h1;exact h2
 . rename_i e
   exact⟨λ⟨_,_,e,_⟩=>(by cases e),λ⟨u,h1,h2⟩=>(by rw[e]at h1;cases h1)⟩
theorem Pq{x:Str}{n:String}{P:Val->Sto->Prop}:(evE Φ G env (.J x n) s).post P↔P (.r n) s:=zE
theorem QF{m:Bool}{op:Bop}{a b:Ex}{P:Val->Sto->Prop}:(evE Φ G env (.j m op a b) s).post P↔(evE Φ G env a s).post λx s1=>(evE Φ G env b s1).post λy s2=>(binOp m op x y s2).post P:=by show (Out.bind _ _).post P↔_;simp only[zI]
theorem QO{a:Ex}{P:Val->Sto->Prop}:(evE Φ G env (.B a) s).post P↔(evE Φ G env a s).post λx s1=>∃i,x=.c i/\P (.c (-i)) s1:=by show (Out.bind _ _).post P↔_;simp only[zI];exact z9 λx s1=>by cases x<;>simp[zE,zd]
theorem QP{a:Ex}{P:Val->Sto->Prop}:(evE Φ G env (.I a) s).post P↔(evE Φ G env a s).post λx s1=>∃b,x=.e b/\P (.e !b) s1:=by show (Out.bind _ _).post P↔_;simp only[zI];exact z9 λx s1=>by cases x<;>simp[zE,zd]
theorem QH{op:Cop}{a b:Ex}{P:Val->Sto->Prop}:(evE Φ G env (.l op a b) s).post P↔(evE Φ G env a s).post λx s1=>(evE Φ G env b s1).post λy s2=>(zW op x y s2).post P:=by show (Out.bind _ _).post P↔_;simp only[zI]
theorem X9{op op':Cop}{a b c:Ex}{P:Val->Sto->Prop}:(evE Φ G env (.w op op' a b c) s).post P↔(evE Φ G env a s).post λx s1=>(evE Φ G env b s1).post λy s2=>(zW op x y s2).post λr s3=>∃t,r=.e t/\if t=true then (evE Φ G env c s3).post λz s4=>(zW op' y z s4).post P else P (.e false) s3:=by
 show (Out.bind _ _).post P↔_;simp only[zI];refine z9 λx s1=>z9 λy s2=>z9 λr s3=>?_;cases r with
 |e t=>cases t<;>simp[zE,zd,zI]
 |_=>simp[zd]
theorem QE{a b:Ex}{es:Exs}{P:Val->Sto->Prop}:(evE Φ G env (.y a (.a b es)) s).post P↔(evE Φ G env a s).post λx s1=>∃t,x=.e t/\if t=true then (qJ Φ G env (.a b es) s1).post P else P (.e false) s1:=by
 show (Out.bind _ _).post P↔_;simp only[zI];refine z9 λx s1=>?_;cases x with
 |e t=>cases t<;>simp[zE,zd]
 |_=>simp[zd]
theorem TL{a:Ex}{P:Val->Sto->Prop}:(qJ Φ G env (.a a .b) s).post P↔(evE Φ G env a s).post P:=CL
theorem TM{a b:Ex}{es:Exs}{P:Val->Sto->Prop}:(qJ Φ G env (.a a (.a b es)) s).post P↔(evE Φ G env a s).post λx s1=>∃t,x=.e t/\if t=true then (qJ Φ G env (.a b es) s1).post P else P (.e false) s1:=by
 show ((evE Φ G env a s).bind λx s1=>match x with
  |.e true=>qJ Φ G env (.a b es) s1
  |.e false=>.e (.e false) s1
  |_=>.d).post P↔_
 simp only[zI];refine z9 λx s1=>?_;cases x with
 |e t=>cases t<;>simp[zE,zd]
 |_=>simp[zd]
theorem Po{a b:Ex}{es:Exs}{P:Val->Sto->Prop}:(evE Φ G env (.K a (.a b es)) s).post P↔(evE Φ G env a s).post λx s1=>∃t,truth s1 x=some t/\if t=true then P x s1 else (lh Φ G env (.a b es) s1).post P:=by
 show (Out.bind _ _).post P↔_;simp only[zI];refine z9 λx s1=>?_;cases truth s1 x with
 |some t=>cases t<;>simp[zE,zd]
 |none=>simp[zd]
theorem QR{a:Ex}{P:Val->Sto->Prop}:(lh Φ G env (.a a .b) s).post P↔(evE Φ G env a s).post P:=CL
theorem QS{a b:Ex}{es:Exs}{P:Val->Sto->Prop}:(lh Φ G env (.a a (.a b es)) s).post P↔(evE Φ G env a s).post λx s1=>∃t,truth s1 x=some t/\if t=true then P x s1 else (lh Φ G env (.a b es) s1).post P:=by
 show ((evE Φ G env a s).bind λx s1=>match truth s1 x with
  |some false=>lh Φ G env (.a b es) s1
  |some true=>.e x s1
  |dr=>.d).post P↔_
 simp only[zI];refine z9 λx s1=>?_;cases truth s1 x with
 |some t=>cases t<;>simp[zE,zd]
 |none=>simp[zd]
theorem QK{c:Cn}{a b:Ex}{P:Val->Sto->Prop}:(evE Φ G env (.C c a b) s).post P↔(evT Φ G env c s).post λt s1=>if t=true then (evE Φ G env a s1).post P else (evE Φ G env b s1).post P:=by show (Out.bind _ _).post P↔_;simp only[zI,xt]
theorem QU{es:Exs}{P:Val->Sto->Prop}:(evE Φ G env (.r es) s).post P↔(zo Φ G env es s).post λvs s1=>(if vs.length<=zR then Out.e (Val.f vs) s1 else .d).post P:=by show (Out.bind _ _).post P↔_;simp only[zI]
theorem QN{m:Bool}{es:Exs}{P:Val->Sto->Prop}:(evE Φ G env (.u m es) s).post P↔(zo Φ G env es s).post λvs s1=>(if vs.length<=zR then newList m vs s1 else .d).post P:=by show (Out.bind _ _).post P↔_;simp only[zI]
theorem ZL{f:Str}{v:Nat}{es:Exs}{P:Val->Sto->Prop}:(evE Φ G env (.h f v es) s).post P↔(zo Φ G env es s).post λvs s1=>(Φ f v vs s1).post P:=by show (Out.bind _ _).post P↔_;simp only[zI]
theorem VW{f:Bf}{m:Bool}{es:Exs}{P:Val->Sto->Prop}:(evE Φ G env (.k f m es) s).post P↔(zo Φ G env es s).post λvs s1=>(blt f m vs s1).post P:=by show (Out.bind _ _).post P↔_;simp only[zI]
theorem TV{f:Mf}{m:Bool}{o:Ex}{es:Exs}{P:Val->Sto->Prop}:(evE Φ G env (.D f m o es) s).post P↔(evE Φ G env o s).post λx s1=>(zo Φ G env es s1).post λvs s2=>(yK f x vs s2).post P:=by show (Out.bind _ _).post P↔_;simp only[zI]
theorem ZP{m:Bool}{a b c:Ex}{P:Val->Sto->Prop}:(evE Φ G env (.p m a b c) s).post P↔(evE Φ G env a s).post λx s1=>(evE Φ G env b s1).post λy s2=>(evE Φ G env c s2).post λz s3=>(au m x y z s3).post P:=by show (Out.bind _ _).post P↔_;simp only[zI]
theorem QL{a b:Ex}{P:Val->Sto->Prop}:(evE Φ G env (.s a b) s).post P↔(evE Φ G env a s).post λx s1=>(evE Φ G env b s1).post λy s2=>(wd x y s2).post P:=by show (Out.bind _ _).post P↔_;simp only[zI]
theorem Pp{m:Bool}{a:Ex}{lo hi st:OEx}{P:Val->Sto->Prop}:(evE Φ G env (.G m a lo hi st) s).post P↔(evE Φ G env a s).post λx s1=>(evO Φ G env lo s1).post λl s2=>(evO Φ G env hi s2).post λh s3=>(evO Φ G env st s3).post λc s4=>(uD m x l h c s4).post P:=by show (Out.bind _ _).post P↔_;simp only[zI]
theorem TX{P:Option Int->Sto->Prop}:(evO Φ G env .b s).post P↔P none s:=zE
theorem TY{e:Ex}{P:Option Int->Sto->Prop}:(evO Φ G env (.a e) s).post P↔(evE Φ G env e s).post λv s1=>∃i,v=.c i/\P (some i) s1:=by show (Out.bind _ _).post P↔_;simp only[zI];exact z9 λx s1=>by cases x<;>simp[zE,zd]
theorem nH{P:List Val->Sto->Prop}:(zo Φ G env .b s).post P↔P [] s:=zE
theorem mn{e:Ex}{es:Exs}{P:List Val->Sto->Prop}:(zo Φ G env (.a e es) s).post P↔(evE Φ G env e s).post λv s1=>(zo Φ G env es s1).post λvs s2=>P (v::vs) s2:=by show (Out.bind _ _).post P↔_;simp only[zI,zE]
theorem VX{e:Ex}{P:Bool->Sto->Prop}:(evT Φ G env (.a e) s).post P↔(evE Φ G env e s).post λv s1=>∃b,truth s1 v=some b/\P b s1:=by
 show (Out.bind (evE Φ G env e s) _).post P↔_;simp only[zI];refine⟨λh=>zT h λv s1 h=>?_,λh=>zT h λv s1 h=>?_⟩
 . split at h
   . rename_i b e;exact⟨b,e,zE.mp h⟩
   . obtain⟨_,_,e,_⟩:=h;cases e
 . obtain⟨b,e,h⟩:=h
   rw[e];exact zE.mpr h
theorem Tc{c:Cn}{P:Bool->Sto->Prop}:(evT Φ G env (.b c) s).post P↔(evT Φ G env c s).post λb s1=>P (!b) s1:=by show (Out.bind _ _).post P↔_;simp only[zI,zE]
theorem Tb{c:Cn}{cs:Cns}{P:Bool->Sto->Prop}:(evT Φ G env (.d c cs) s).post P↔(evT Φ G env c s).post λb s1=>if b=true then (xJ Φ G env cs s1).post P else P false s1:=by show (Out.bind _ _).post P↔_;simp only[zI,xt,zE]
theorem QT{c:Cn}{cs:Cns}{P:Bool->Sto->Prop}:(evT Φ G env (.f c cs) s).post P↔(evT Φ G env c s).post λb s1=>if b=true then P true s1 else (u6 Φ G env cs s1).post P:=by show (Out.bind _ _).post P↔_;simp only[zI,xt,zE]
theorem v8{P:Bool->Sto->Prop}:(xJ Φ G env .b s).post P↔P true s:=zE
theorem WE{P:Bool->Sto->Prop}:(u6 Φ G env .b s).post P↔P false s:=zE
theorem ZS{c:Cn}{cs:Cns}{P:Bool->Sto->Prop}:(xJ Φ G env (.a c cs) s).post P↔(evT Φ G env c s).post λb s1=>if b=true then (xJ Φ G env cs s1).post P else P false s1:=by show (Out.bind _ _).post P↔_;simp only[zI,xt,zE]
theorem ZR{c:Cn}{cs:Cns}{P:Bool->Sto->Prop}:(u6 Φ G env (.a c cs) s).post P↔(evT Φ G env c s).post λb s1=>if b=true then P true s1 else (u6 Φ G env cs s1).post P:=by show (Out.bind _ _).post P↔_;simp only[zI,xt,zE]
theorem ZO{e:Ex}{P:Src->Sto->Prop}:(yk Φ G env (.d e) s).post P↔(evE Φ G env e s).post λv s1=>∃r,srcOf s1 v=some r/\P r s1:=by
 show (Out.bind _ _).post P↔_;simp only[zI];refine⟨λh=>zT h λv s1 h=>?_,λh=>zT h λv s1 h=>?_⟩
 . split at h
   . rename_i b e;exact⟨b,e,zE.mp h⟩
   . obtain⟨_,_,e,_⟩:=h;cases e
 . obtain⟨b,e,h⟩:=h
   rw[e];exact zE.mpr h
theorem kP{a:Ex}{P:Src->Sto->Prop}:(yk Φ G env (.c a) s).post P↔(evE Φ G env a s).post λx s1=>∃j,x=.c j/\(-(2 ^ 62)<=j/\j<=zR)/\P ⟨yu 0 j.toNat,dr⟩ s1:=by
 show (Out.bind _ _).post P↔_;simp only[zI];refine⟨λh=>zT h λv s1 h=>?_,λh=>zT h λv s1 h=>?_⟩
 . split at h
   . rw[xt]at h
     split at h
     . rename_i j z;exact⟨_,rfl,z,zE.mp h⟩
     . obtain⟨_,_,e,_⟩:=h;cases e
   . obtain⟨_,_,e,_⟩:=h;cases e
 . obtain⟨j,rfl,z,h⟩:=h
   simp only[if_pos z];exact zE.mpr h
theorem kQ{a b:Ex}{P:Src->Sto->Prop}:(yk Φ G env (.f a b) s).post P↔(evE Φ G env a s).post λx s1=>(evE Φ G env b s1).post λy s2=>∃i j,x=.c i/\y=.c j/\(-(2 ^ 62)<=i/\i<2 ^ 62∧-(2 ^ 62)<=j/\j<2 ^ 62/\j-i<=zR)/\P ⟨yu i (j-i).toNat,dr⟩ s2:=by
 show (Out.bind _ _).post P↔_;simp only[zI];refine⟨λh=>zT h λv s1 h=>zT h λw s2 h=>?_,λh=>zT h λv s1 h=>zT h λw s2 h=>?_⟩
 . split at h
   . rw[xt]at h
     split at h
     . rename_i z;exact⟨_,_,rfl,rfl,z,zE.mp h⟩
     . obtain⟨_,_,e,_⟩:=h;cases e
   . obtain⟨_,_,e,_⟩:=h;cases e
 . obtain⟨i,j,rfl,rfl,z,h⟩:=h
   simp only[if_pos z];exact zE.mpr h
theorem TR{a:Ex}{P:Src->Sto->Prop}:(yk Φ G env (.g a) s).post P↔(evE Φ G env a s).post λx s1=>∃vs,(x=.f vs\/x=.j vs)/\P ⟨xI 0 vs,dr⟩ s1:=by
 show (Out.bind _ _).post P↔_;simp only[zI];refine⟨λh=>zT h λv s1 h=>?_,λh=>zT h λv s1 h=>?_⟩
 . split at h
   . exact⟨_,.inl rfl,zE.mp h⟩
   . exact⟨_,.inr rfl,zE.mp h⟩
   . obtain⟨_,_,e,_⟩:=h;cases e
 . obtain⟨j,rfl|rfl,h⟩:=h<;>exact zE.mpr h
theorem ZN{e:Ex}{P:Fl->Sto->Prop}:(exS Φ G env (.h e) s).post P↔(evE Φ G env e s).post λ_ s1=>P (.a env) s1:=by show (Out.bind _ _).post P↔_;simp only[zI,zE]
theorem ZQ{e:Ex}{P:Fl->Sto->Prop}:(exS Φ G env (.d e) s).post P↔(evE Φ G env e s).post λv s1=>P (.b v) s1:=by show (Out.bind _ _).post P↔_;simp only[zI,zE]
theorem Ta{P:Fl->Sto->Prop}:(exS Φ G env .s s).post P↔P (.b .h) s:=zE
theorem ZK{i:Nat}{e:Ex}{P:Fl->Sto->Prop}:(exS Φ G env (.f i e) s).post P↔(evE Φ G env e s).post λv s1=>P (.a (env.set i (some v))) s1:=by show (Out.bind _ _).post P↔_;simp only[zI,zE]
theorem TN{is:List Nat}{e:Ex}{P:Fl->Sto->Prop}:(exS Φ G env (.p is e) s).post P↔(evE Φ G env e s).post λv s1=>∃env',yt (.b is) v env=some env'/\P (.a env') s1:=by
 show (Out.bind _ _).post P↔_;simp only[zI];refine⟨λh=>zT h λv s1 h=>?_,λh=>zT h λv s1 h=>?_⟩
 . split at h
   . rename_i b e;exact⟨b,e,zE.mp h⟩
   . obtain⟨_,_,e,_⟩:=h;cases e
 . obtain⟨b,e,h⟩:=h
   rw[e];exact zE.mpr h
theorem g6{is:List Nat}{es:Exs}{P:Fl->Sto->Prop}:(exS Φ G env (.m is es) s).post P↔(zo Φ G env es s).post λvs s1=>(if vs.length=is.length then Out.e (Fl.a ((is.zip vs).foldl (λe p=>e.set p.1 (some p.2)) env)) s1 else .d).post P:=by show (Out.bind _ _).post P↔_;simp only[zI]
theorem WD{o i e:Ex}{P:Fl->Sto->Prop}:(exS Φ G env (.l o i e) s).post P↔(evE Φ G env e s).post λv s1=>(evE Φ G env o s1).post λx s2=>(evE Φ G env i s2).post λy s3=>∃r k vs j,x=.k r/\y=.c k/\s3[r]?=some (.c vs)/\L2.ixN vs.length k=some j/\P (.a env) (upd s3 r (vs.set j v)):=by
 show (Out.bind _ _).post P↔_;simp only[zI];refine z9 λv s1=>z9 λx s2=>z9 λy s3=>⟨λh=>?_,λ⟨r,k,vs,j,h1,h2,h3,h4,h5⟩=>?_⟩
 . split at h
   . split at h
     . rename_i e3
       split at h
       . rename_i e4;exact⟨_,_,_,_,rfl,rfl,e3,e4,zE.mp h⟩
       . exact(zd.mp h).elim
     . exact(zd.mp h).elim
   . exact(zd.mp h).elim
 . subst h1;subst h2
   simp only[h3,h4];exact zE.mpr h5
theorem TU{c:Cn}{a b:Sms}{P:Fl->Sto->Prop}:(exS Φ G env (.g c a b) s).post P↔(evT Φ G env c s).post λt s1=>if t=true then (zS Φ G env a s1).post P else (zS Φ G env b s1).post P:=by show (Out.bind _ _).post P↔_;simp only[zI,xt]
theorem TZ{P:Fl->Sto->Prop}:(exS Φ G env .r s).post P↔P (.a env) s:=zE
theorem QG{P:Fl->Sto->Prop}:(exS Φ G env .v s).post P↔P (.c env) s:=zE
theorem TQ{P:Fl->Sto->Prop}:(exS Φ G env .q s).post P↔P (.d env) s:=zE
theorem iH{P:Fl->Sto->Prop}:(zS Φ G env .b s).post P↔P (.a env) s:=zE
def pv(Φ:Calls)(G:Str->Option Val)(cs:Sms)(P:Fl->Sto->Prop):Fl->Sto->Prop
 |.a e,s1=>(zS Φ G e cs s1).post P
 |fl,s1=>P fl s1
theorem yE{c:Sm}{cs:Sms}{P:Fl->Sto->Prop}:(zS Φ G env (.a c cs) s).post P↔(exS Φ G env c s).post (pv Φ G cs P):=by
 show (Out.bind _ _).post P↔_;simp only[zI];have:∀fl s1,(match fl with|.a e=>zS Φ G e cs s1|fl=>Out.e fl s1:Out Fl).post P↔pv Φ G cs P fl s1:=λfl s1=>by
  cases fl with
  |a e=>exact CL
  |_=>exact zE
 exact⟨λh=>zT h λfl s1 h=>(this fl s1).mp h,λh=>zT h λfl s1 h=>(this fl s1).mpr h⟩
theorem Wr{cs:Sms}{P:Fl->Sto->Prop}{e:Env}:pv Φ G cs P (.a e) s↔(zS Φ G e cs s).post P:=CL
theorem Ws{cs:Sms}{P:Fl->Sto->Prop}{v:Val}:pv Φ G cs P (.b v) s↔P (.b v) s:=CL
theorem Wo{cs:Sms}{P:Fl->Sto->Prop}{v:Env}:pv Φ G cs P (.c v) s↔P (.c v) s:=CL
theorem Wq{cs:Sms}{P:Fl->Sto->Prop}{v:Env}:pv Φ G cs P (.d v) s↔P (.d v) s:=CL
theorem vx{I:Env->Prop}(hr:r.ok s=true):∀xs,(∀x∈xs,∀e acc,I e->∃e1 e2,yt t x e=some e1/\body e1 s acc=.e (acc++g x,e2) s/\I e2)->∀e acc,I e->∃e',I e'/\yl r t body xs e s acc=.e (acc++xs.flatMap g,e') s
 |[],_,e,acc,h0=>⟨e,h0,by simp[yl,hr]⟩
 |x::xs,h,e,acc,h0=>by obtain⟨e1,e2,h1,h2,h3⟩:=h x (.head _) e acc h0;obtain⟨e',h4,h5⟩:=vx hr xs (λy hy=>h y (.tail _ hy)) e2 (acc++g x) h3;refine⟨e',h4,?_⟩;simp only[yl,hr,if_true,h1,h2,zO,h5,D0,Bt]
theorem ZM(I:Env->Prop)g
 (h:(yk Φ G env it s).post λr s1=>r.ok s1=true/\I (ze fr env)/\(∀x∈r.a,∀e,I e->∃e1,yt t x e=some e1/\I e1/\(xJ Φ G e1 ifs s1).post λb s2=>s2=s1/\if b=true then (evE Φ G e1 elt s1).post (λv s2=>s2=s1/\g x=[v]) else g x=[])/\(newList m (r.a.flatMap g) s1).post P) :
 (evE Φ G env (.q m N fr elt t it ifs) s).post P:=by
 obtain⟨r,s1,ei,h1,h2,h3,h4⟩:=h;obtain⟨e',_,h5⟩:=vx (I:=I) (g:=g) (body:=λe s' acc=>(xJ Φ G e ifs s').bind λb s2=>if b then (evE Φ G e elt s2).bind λv s3=>.e (acc++[v],e) s3 else .e (acc,e) s2) h1 r.a (λx hx e acc he=>by
  obtain⟨e1,k1,k2,b,s2,k3,rfl,k4⟩:=h3 x hx e he;refine⟨e1,e1,k1,?_,k2⟩;rw[k3,zO];cases b with
  |true=>
   rw[if_pos rfl]at k4 ⊢;obtain⟨v,s3,kw,rfl,kv⟩:=k4;rw[kw,zO,kv]
  |false=>
   rw[if_neg Ab]at k4 ⊢;rw[k4,A8]) (ze fr env) [] h2
 show (Out.bind (yk Φ G env it s) _).post P;rw[ei,zO];rw[h5,zO];exact h4
def Small(l:List Val):Prop:=l.length<=zR
theorem WA(I:Env->Prop)g(J:Val->Env->Prop)(g2:Val->Val->List Val)
 (h:(yk Φ G env it s).post λr s1=>r.ok s1=true/\I (ze fr env)/\(∀x∈r.a,∀e,I e->∃e1,yt t x e=some e1/\(xJ Φ G e1 ifs s1).post λb s2=>s2=s1/\if b=true then (yk Φ G e1 it2 s1).post (λr2 s2=>s2=s1/\r2.ok s1=true/\J x e1/\(∀e,J x e->I e)/\g x=r2.a.flatMap (g2 x)/\∀y∈r2.a,∀e,J x e->∃e2,yt t2 y e=some e2/\J x e2/\(xJ Φ G e2 ifs2 s1).post λb s2=>s2=s1/\if b=true then (evE Φ G e2 elt s1).post (λv s2=>s2=s1/\g2 x y=[v]) else g2 x y=[]) else g x=[]/\I e1)/\Small (r.a.flatMap g)/\(newList m (r.a.flatMap g) s1).post P) :
 (evE Φ G env (.z m N fr elt t it ifs t2 it2 ifs2) s).post P:=by
 obtain⟨r,s1,ei,h1,h2,h3,hl,h4⟩:=h;obtain⟨e',_,h5⟩:=vx (I:=I) (g:=g) (body:=λe s' acc=>(xJ Φ G e ifs s').bind λb s2=>if b then (yk Φ G e it2 s2).bind λr2 s3=>
        yl r2 t2 (λe' s4 acc'=>(xJ Φ G e' ifs2 s4).bind λb' s5=>if b' then (evE Φ G e' elt s5).bind λv s6=>.e (acc'++[v],e') s6 else .e (acc',e') s5) r2.a e s3 acc
  else .e (acc,e) s2) h1 r.a (λx hx e acc he=>by
  obtain⟨e1,k1,b,s2,k3,rfl,k4⟩:=h3 x hx e he;cases b with
  |true=>
   rw[if_pos rfl]at k4;obtain⟨r2,s3,k5,rfl,k6,k7,k8,k9,k10⟩:=k4;obtain⟨e2,k11,k12⟩:=vx (I:=J x) (g:=g2 x) (body:=λe' s4 acc'=>(xJ Φ G e' ifs2 s4).bind λb' s5=>if b' then (evE Φ G e' elt s5).bind λv s6=>.e (acc'++[v],e') s6 else .e (acc',e') s5) k6 r2.a (λy hy e acc he=>by
    obtain⟨e1,k1,k2,b,s2,k3,rfl,k4⟩:=k10 y hy e he;refine⟨e1,e1,k1,?_,k2⟩;rw[k3,zO];cases b with
    |true=>
     rw[if_pos rfl]at k4 ⊢;obtain⟨v,s3,kw,rfl,kv⟩:=k4;rw[kw,zO,kv]
    |false=>
     rw[if_neg Ab]at k4 ⊢;rw[k4,A8]) e1 acc k7
   refine⟨e1,e2,k1,?_,k8 _ k11⟩;rw[k3,zO,if_pos rfl,k5,zO,k12,k9]
  |false=>
   rw[if_neg Ab]at k4;refine⟨e1,e1,k1,?_,k4.2⟩;rw[k3,zO,if_neg Ab,k4.1,A8]) (ze fr env) [] h2
 show (Out.bind (yk Φ G env it s) _).post P;rw[ei,zO];rw[h5,zO];simp only[Cw];rw[if_pos (show (r.a.flatMap g).length<=zR from hl)];exact h4
theorem oz(Q:List Val->Env->Sto->List Val->Prop):∀xs,(∀e s acc,Q [] e s acc->r.ok s=true)->(∀x rest e s acc,Q (x::rest) e s acc->r.ok s=true/\∃e1,yt t x e=some e1/\(body e1 s acc).post λp s2=>Q rest p.2 s2 p.1)->∀e s acc,Q xs e s acc->(yl r t body xs e s acc).post λp s2=>Q [] p.2 s2 p.1
 |[],h0,_,e,s,acc,q=>by
  simp only[yl,h0 e s acc q,if_true];exact zE.mpr q
 |x::xs,h0,h,e,s,acc,q=>by obtain⟨h1,e1,h2,h3⟩:=h x xs e s acc q;simp only[yl,h1,if_true,h2,zI];exact zT h3 λp s2 q=>oz Q xs h0 h p.2 s2 p.1 q
theorem WB(Q:List Val->Env->Sto->List Val->Prop)
 (h:(yk Φ G env it s).post λr s1=>Q r.a (ze fr env) s1 []/\(∀rest e s acc,Q rest e s acc->r.ok s=true)/\(∀x rest e s acc,Q (x::rest) e s acc->∃e1,yt t x e=some e1/\(xJ Φ G e1 ifs s).post λb s2=>if b=true then (evE Φ G e1 elt s2).post (λv s3=>Q rest e1 s3 (acc++[v])) else Q rest e1 s2 acc)/\∀e s acc,Q [] e s acc->(newList m acc s).post P) :
 (evE Φ G env (.q m N fr elt t it ifs) s).post P:=by
 obtain⟨r,s1,ei,h1,h2,h3,h4⟩:=h;show (Out.bind (yk Φ G env it s) _).post P;rw[ei,zO,zI];refine zT (oz Q r.a (λe s acc q=>h2 _ e s acc q) (λx rest e s acc q=>⟨h2 _ e s acc q,?_⟩) _ _ _ h1) λp s2 q=>h4 _ _ _ q;obtain⟨e1,k1,k2⟩:=h3 x rest e s acc q;refine⟨e1,k1,?_⟩;simp only[zI];refine zT k2 λb s2 k=>?_;cases b with
 |true=>
  rw[if_pos rfl]at k ⊢;simp only[zI,zE];exact k
 |false=>
  rw[if_neg Ab]at k ⊢;exact zE.mpr k
theorem rg(Q:List Val->Env->Sto->Prop)(R:Fl->Sto->Prop){r:Src}{t:Tgt}{body:Env->Sto->Out Fl}(h0:∀e s,Q [] e s->R (.a e) s):∀(xs:List Val),(∀rest e s,Q rest e s->r.ok s=true)->(∀x rest e s,Q (x::rest) e s->∃e1,yt t x e=some e1/\(body e1 s).post λfl s2=>match fl with|.a e=>Q rest e s2|.d e=>Q rest e s2|.c e=>R (.a e) s2|.b v=>R (.b v) s2)->∀e s,Q xs e s->(uF r t body xs e s).post R
 |[],hk,_,e,s,q=>by
  simp only[uF,hk _ _ _ q,if_true];exact zE.mpr (h0 _ _ q)
 |x::xs,hk,h,e,s,q=>by
  obtain⟨e1,h2,h3⟩:=h x xs e s q;simp only[uF,hk _ _ _ q,if_true,h2,zI];refine zT h3 λfl s2 q=>?_;cases fl with
  |a e=>exact rg Q R h0 xs hk h e s2 q
  |d e=>exact rg Q R h0 xs hk h e s2 q
  |c e=>exact zE.mpr q
  |b v=>exact zE.mpr q
def nT(Q:Env->Sto->Prop)(R:Fl->Sto->Prop):Fl->Sto->Prop
 |.a e,s=>Q e s
 |.d e,s=>Q e s
 |.c e,s=>R (.a e) s
 |.b v,s=>R (.b v) s
theorem Wh{Q:Env->Sto->Prop}{R:Fl->Sto->Prop}{e:Env}:nT Q R (.a e) s↔Q e s:=CL
theorem Wg{Q:Env->Sto->Prop}{R:Fl->Sto->Prop}{e:Env}:nT Q R (.d e) s↔Q e s:=CL
theorem Wf{Q:Env->Sto->Prop}{R:Fl->Sto->Prop}{e:Env}:nT Q R (.c e) s↔R (.a e) s:=CL
theorem Wi{Q:Env->Sto->Prop}{R:Fl->Sto->Prop}{v:Val}:nT Q R (.b v) s↔R (.b v) s:=CL
theorem QI(Q:List Val->Env->Sto->Prop)
 (h:(yk Φ G env it s).post λr s1=>Q r.a env s1/\(∀rest e s,Q rest e s->r.ok s=true)/\(∀x rest e s,Q (x::rest) e s->∃e1,yt t x e=some e1/\(zS Φ G e1 b s).post (nT (Q rest) R))/\∀e s,Q [] e s->R (.a e) s) :
 (exS Φ G env (.k t it b) s).post R:=by
 obtain⟨r,s1,ei,h1,h2,h3,h4⟩:=h;show (Out.bind (yk Φ G env it s) _).post R;rw[ei,zO];refine rg Q R h4 r.a h2 (λx rest e s q=>?_) _ _ h1;obtain⟨e1,k1,k2⟩:=h3 x rest e s q;refine⟨e1,k1,zT k2 λfl s2 k=>?_⟩;cases fl<;>exact k
theorem ub(Q:List Val->Env->Sto->Prop)xs(hi:yk Φ G env it s=.e ⟨xs,dr⟩ s1)(h0:Q xs env s1)
 (h1:∀x rest e s,Q (x::rest) e s->∃e1,yt t x e=some e1/\(zS Φ G e1 b s).post (nT (Q rest) R)) (h2:∀e s,Q [] e s->R (.a e) s) :
 (exS Φ G env (.k t it b) s).post R:=QI Q ⟨_,_,hi,h0,λ_ _ _ _=>rfl,h1,h2⟩
theorem v5(I:Env->Prop)g xs(hi:yk Φ G env it s=.e ⟨xs,dr⟩ s1)(h0:I (ze fr env))
 (h1:∀x∈xs,∀e,I e->∃e1,yt t x e=some e1/\I e1/\(xJ Φ G e1 ifs s1).post λb s2=>s2=s1/\if b=true then (evE Φ G e1 elt s1).post (λv s2=>s2=s1/\g x=[v]) else g x=[]) (h2:(newList m (xs.flatMap g) s1).post P) :
 (evE Φ G env (.q m N fr elt t it ifs) s).post P:=ZM I g ⟨_,_,hi,rfl,h0,h1,h2⟩
end
theorem Wu{s:Sto}:truth s .h=some false:=rfl
theorem zJ{s:Sto}{b:Bool}:truth s (.e b)=some b:=rfl
theorem Sh{s:Sto}{i:Int}:truth s (.c i)=some (i != 0):=rfl
theorem Sj{s:Sto}{vs:List Val}:truth s (.f vs)=some !vs.isEmpty:=rfl
theorem Si{s:Sto}{vs:List Val}:truth s (.j vs)=some !vs.isEmpty:=rfl
theorem SI{s:Sto}{vs:List Val}:srcOf s (.f vs)=some ⟨vs,dr⟩:=rfl
theorem SH{s:Sto}{vs:List Val}:srcOf s (.j vs)=some ⟨vs,dr⟩:=rfl
theorem We{s:Sto}{ns:List Int}:srcOf s (.m ns)=some ⟨ns.map .c,dr⟩:=rfl
theorem YA{s:Sto}{xs:List Val}:Src.ok ⟨xs,dr⟩ s=true:=rfl
theorem RI{i:Nat}{v:Val}{env:Env}:yt (.a i) v env=some (env.set i (some v)):=rfl
theorem V2{is:List Nat}{vs:List Val}{env:Env}:yt (.b is) (.f vs) env=if vs.length=is.length then some ((is.zip vs).foldl (λe p=>e.set p.1 (some p.2)) env) else dr:=rfl
theorem cz vs:rN vs vs=true:=uo vs
theorem lU(c:Cel):c.beq c=true:=by cases c<;>simp[Cel.beq,cz]
theorem ux:∀s t,vB s (s++t)=true
 |[],_=>rfl
 |c::r,t=>by simp[vB,lU c,ux r t]
theorem j9 s:vB s s=true:=by have:=ux s [];rwa [A8]at this
theorem pR:∀s t i c,c.noRef=true->vB s (s.set i c++t)=true
 |[],_,_,_,_=>by simp[vB]
 |_::r,t,0,c,h=>by simp[vB,h,ux r t]
 |o::r,t,i+1,c,h=>by simp[vB,lU o,pR r t i c h]
theorem eV s t i vs(h:z7 vs=true):vB s (s.set i (.c vs)++t)=true:=pR s t i _ h
theorem uw:Val.h.noRef=true:=by rw[Val.noRef]
theorem yV{b:Bool}:(Val.e b).noRef=true:=by rw[Val.noRef]
theorem vA{b:Int}:(Val.c b).noRef=true:=by rw[Val.noRef]
theorem az{b:Str}:(Val.g b).noRef=true:=by rw[Val.noRef]
theorem pP{vs:List Val}:(Val.f vs).noRef=z7 vs:=by rw[Val.noRef]
theorem j8{vs:List Val}:(Val.j vs).noRef=z7 vs:=by rw[Val.noRef]
theorem qc:z7 []=true:=by rw[z7]
theorem uZ{v:Val}{vs:List Val}:z7 (v::vs)=(v.noRef&&z7 vs):=by rw[z7]
theorem vK:∀ns:List Int,z7 (ns.map .c)=true
 |[]=>rfl
 |_::ns=>by simp[z7,Val.noRef,vK ns]
theorem pM:∀zs:List (Int × Int),z7 (zs.map prV)=true
 |[]=>rfl
 |_::zs=>by simp[z7,Val.noRef,prV,pM zs]
def zi(k:Bool)(s0:Sto)(v:Val)(s:Sto):Out Val:=
 if k then .e v s
 else if vB s0 s then (match freeze s0.length s v with|some v'=>.e v' (s.take s0.length)|dr=>.d) else .d
theorem l8{s0 s:Sto}{v:Val}:zi true s0 v s=.e v s:=rfl
theorem zq{k:Bool}{s:Sto}{v:Val}(h:v.noRef=true):zi k s v s=.e v s:=by
 unfold zi;cases k
 . simp[j9,freeze,h]
 . rfl
theorem pG(h:v.noRef=true):zi false s v (s++t)=.e v s:=by unfold zi;simp[ux,freeze,h]
theorem jw(h:v.noRef=true)(hv:z7 vs=true):zi false s v (s.set i (.c vs)++t)=.e v (s.set i (.c vs)):=by
 unfold zi;have e:s.length=(s.set i (.c vs)).length:=by rw[Cb]
 simp only[eV s t i vs hv,freeze,h,if_true,A3,if_false,e,List.take_left']
theorem eJ(h:v.noRef=true)(hv:z7 vs=true):zi false s v (s.set i (.c vs))=.e v (s.set i (.c vs)):=by
 have:=jw (s:=s) (t:=[]) (i:=i) h hv
 rwa [A8]at this
def fin(k:Bool)(s:Sto)(P:Val->Sto->Prop):Fl->Sto->Prop
 |.a _,s1=>(zi k s .h s1).post P
 |.b v,s1=>(zi k s v s1).post P
 |_,_=>False
theorem UH{k:Bool}{s s1:Sto}{P:Val->Sto->Prop}{e:Env}:fin k s P (.a e) s1↔(zi k s .h s1).post P:=CL
theorem UI{k:Bool}{s s1:Sto}{P:Val->Sto->Prop}{v:Val}:fin k s P (.b v) s1↔(zi k s v s1).post P:=CL
theorem yZ{T:Tbl}{Φ:Calls}{N ps:List Str}{k:Bool}{b:Sms}{vs:List Val}{s:Sto}{P:Val->Sto->Prop}:(run T Φ ⟨N,ps,k,b⟩ vs s).post P↔vs.length=ps.length/\(zS Φ T.b (zk N vs) b s).post (fin k s P):=by
 unfold run;by_cases hl:vs.length=ps.length
 . rw[if_pos hl,zI]
   refine⟨λh=>⟨hl,zT h λfl s1 h=>?_⟩,λh=>zT h.2 λfl s1 h=>?_⟩
   . cases fl<;>first|exact h|exact(zd.mp h).elim
   . cases fl<;>first|exact h|exact h.elim
 . rw[if_neg hl]
   exact⟨λh=>(zd.mp h).elim,λh=>absurd h.1 hl⟩
theorem zQ(h:T.d f v=some F)vs s:zF T (n+1) f v vs s=run T (zF T n) F vs s:=by simp only[zF,h]
theorem lS(h:T.d f v=some F)(hl:vs.length=F.b.length)s:zl T (n+1) f v vs s=xSs (λc=>(T.e.lookup c).isSome) (zF T n) (zl T n) T.b (zk F.N vs) F.a s:=by simp only[zl,h];rw[if_pos hl]
def At(T:Tbl)(k:Nat)(C:Calls->Prop):Prop:=∀n,k<=n->C (zF T n)
def EVl:=Ad @QM <| Ad @g7 <| Ad @QJ <| Ad @Pq <| Ad @QF <| Ad @QO <| Ad @QP <| Ad @QH <| Ad @X9 <| Ad @QE <| Ad @TL <| Ad @TM <| Ad @Po <| Ad @QR <| Ad @QS <| Ad @QK <| Ad @QU <| Ad @QN <| Ad @ZL <| Ad @VW <| Ad @TV <| Ad @ZP <| Ad @QL <| Ad @Pp <| Ad @TX <| Ad @TY <| Ad @nH <| Ad @mn <| Ad @VX <| Ad @Tc <| Ad @Tb <| Ad @QT <| Ad @v8 <| Ad @WE <| Ad @ZS <| Ad @ZR <| Ad @ZO <| Ad @kP <| Ad @kQ <| Ad @TR <| Ad @ZN <| Ad @ZQ <| Ad @Ta <| Ad @ZK <| Ad @TN <| Ad @g6 <| Ad @WD <| Ad @TU <| Ad @TZ <| Ad @QG <| Ad @TQ <| Ad @iH <| Ad @yE <| Ad @Wr <| Ad @Ws <| Ad @Wo <| Ad @Wq <| Ad @Wh <| Ad @Wg <| Ad @Wf <| Ad @Wi <| Ad @zE <| Ad @xt <| Ad @zd <| Ad @Wu <| Ad @zJ <| Ad @Sh <| Ad @Sj <| Ad @Si <| Ad @SI <| Ad @SH <| Ad @We <| Ad @YA <| Ad @RI <| Ad @V2 <| Ad @yZ <| Ad @UH <| Ad @UI <| Ad @l8 <| Ad @zq <| Ad @uw <| Ad @yV <| Ad @vA <| Ad @az <| Ad @pP <| Ad @j8 <| Ad @qc <| Ad @uZ <| Ad @vK <| @pM
end M
end
section
namespace M
open PySem
theorem bnd{o:Out α}{a}{f}{r:Out β}(h:o=.e a s)(k:f a s=r):o.bind f=r:=by rw[h];exact k
section
variable {Φ:Calls}{G:Str->Option Val}{env:Env}{s s1 s2 s3 s4:Sto}
theorem zD:evE Φ G env (.g v) s=.e v s:=rfl
theorem zB(h:env[i]?=some (some v)):evE Φ G env (.e i) s=.e v s:=post_eq.mpr (g7.mpr ⟨v,h,rfl,rfl⟩)
theorem tG:evE Φ G env (.J x n) s=.e (.r n) s:=rfl
theorem fN(h1:evE Φ G env a s=.e (.e true) s1)(h2:evE Φ G env b s1=r):evE Φ G env (.y a (.a b .b)) s=r:=bnd h1 h2
theorem uL(h:G x=some v):evE Φ G env (.A x) s=.e v s:=post_eq.mpr (QJ.mpr ⟨v,h,rfl,rfl⟩)
theorem oD(h1:evE Φ G env a s=.e (.e false) s1):evE Φ G env (.y a (.a b es)) s=.e (.e false) s1:=bnd h1 rfl
theorem YR(h1:evE Φ G env a s=.e (.e true) s1)(h2:evE Φ G env b s1=.e (.e false) s2):evE Φ G env (.y a (.a b (.a c es))) s=.e (.e false) s2:=bnd h1 (show (evE Φ G env b s1).bind _=_ from bnd h2 rfl)
theorem YS(h1:evE Φ G env a s=.e (.e true) s1)(h2:evE Φ G env b s1=.e (.e true) s2)(h3:evE Φ G env c s2=r):evE Φ G env (.y a (.a b (.a c .b))) s=r:=bnd h1 (show (evE Φ G env b s1).bind _=_ from bnd h2 h3)
theorem jM(h:evE Φ G env a s=.e (.c i) s1):evE Φ G env (.B a) s=.e (.c (-i)) s1:=bnd h rfl
theorem zc(h1:evE Φ G env a s=.e x s1)(h2:evE Φ G env b s1=.e y s2)(h3:binOp m op x y s2=r):evE Φ G env (.j m op a b) s=r:=bnd h1 (bnd h2 h3)
theorem yF(h1:evE Φ G env a s=.e x s1)(h2:evE Φ G env b s1=.e y s2)(h3:zW op x y s2=r):evE Φ G env (.l op a b) s=r:=bnd h1 (bnd h2 h3)
theorem xw(h1:evE Φ G env a s=.e x s1)(h2:evE Φ G env b s1=.e y s2)(h3:wd x y s2=r):evE Φ G env (.s a b) s=r:=bnd h1 (bnd h2 h3)
theorem sX:evO Φ G env .b s=.e none s:=rfl
theorem pQ(h:evE Φ G env e s=.e (.c i) s1):evO Φ G env (.a e) s=.e (some i) s1:=bnd h rfl
theorem gE(h0:evE Φ G env a s=.e x s1)(h1:evO Φ G env lo s1=.e l s2)(h2:evO Φ G env hi s2=.e h s3)(h3:evO Φ G env st s3=.e c s4)(h4:uD m x l h c s4=r):evE Φ G env (.G m a lo hi st) s=r:=bnd h0 (bnd h1 (bnd h2 (bnd h3 h4)))
theorem zC:zo Φ G env .b s=.e [] s:=rfl
theorem zA(h1:evE Φ G env e s=.e v s1)(h2:zo Φ G env es s1=.e vs s2):zo Φ G env (.a e es) s=.e (v::vs) s2:=bnd h1 (bnd h2 rfl)
theorem v7{P:List Val->Sto->Prop}(h:evE Φ G env e s=.e v s1)(k:(zo Φ G env es s1).post λvs s2=>P (v::vs) s2):(zo Φ G env (.a e es) s).post P:=mn.mpr (by rw[h];exact zE.mpr k)
theorem yM(h:zo Φ G env es s=.e vs s1)(hl:vs.length<=zR):evE Φ G env (.r es) s=.e (.f vs) s1:=bnd h (if_pos hl)
theorem vG(h:zo Φ G env es s=.e vs s1)(hl:vs.length<=zR):evE Φ G env (.u false es) s=.e (.j vs) s1:=bnd h (if_pos hl)
theorem zh(h:zo Φ G env es s=.e vs s1)(k:blt f m vs s1=r):evE Φ G env (.k f m es) s=r:=bnd h k
theorem x_call(h:zo Φ G env es s=.e vs s1)(k:Φ f v vs s1=r):evE Φ G env (.h f v es) s=r:=bnd h k
theorem gz(h:zo Φ G env es s=.e vs s1)(k:(Φ f v vs s1).post P):(evE Φ G env (.h f v es) s).post P:=by rw[x_call h rfl];exact k
theorem ye(h:evE Φ G env e s=.e v s1)(k:(zS Φ G (env.set i (some v)) cs s1).post P):(zS Φ G env (.a (.f i e) cs) s).post P:=yE.mpr (ZK.mpr (by rw[h];exact zE.mpr k))
theorem ig(h:(evE Φ G env e s).post λv s1=>(zS Φ G (env.set i (some v)) cs s1).post P):(zS Φ G env (.a (.f i e) cs) s).post P:=yE.mpr (ZK.mpr h)
theorem wK(h:evE Φ G env e s=.e v s1)(k:(zS Φ G env cs s1).post P):(zS Φ G env (.a (.h e) cs) s).post P:=yE.mpr (ZN.mpr (by rw[h];exact zE.mpr k))
theorem zu(h:evE Φ G env e s=.e v s1)(k:P (.b v) s1):(zS Φ G env (.a (.d e) cs) s).post P:=yE.mpr (ZQ.mpr (by rw[h];exact zE.mpr k))
theorem uV(h:evE Φ G env e s=.e v s1)(k:srcOf s1 v=some ⟨xs,none⟩):yk Φ G env (.d e) s=.e ⟨xs,none⟩ s1:=post_eq.mpr (ZO.mpr (by rw[h];exact zE.mpr ⟨_,k,rfl,rfl⟩))
theorem zX(h:evE Φ G env e s=.e v s1)(k:truth s1 v=some b):evT Φ G env (.a e) s=.e b s1:=post_eq.mpr (VX.mpr (by rw[h];exact zE.mpr ⟨_,k,rfl,rfl⟩))
theorem vj(h:evT Φ G env c s=.e b s1):evT Φ G env (.b c) s=.e (!b) s1:=bnd h rfl
theorem qB(h:evT Φ G env c s=.e false s1)(k:u6 Φ G env cs s1=.e b s2):evT Φ G env (.f c cs) s=.e b s2:=bnd h k
theorem lJ:u6 Φ G env .b s=.e false s:=rfl
theorem uy(h:evT Φ G env c s=.e false s1)(k:u6 Φ G env cs s1=.e b s2):u6 Φ G env (.a c cs) s=.e b s2:=bnd h k
theorem fK(h:evT Φ G env c s=.e true s1):evT Φ G env (.f c cs) s=.e true s1:=bnd h rfl
theorem jJ(h:evT Φ G env c s=.e true s1):u6 Φ G env (.a c cs) s=.e true s1:=bnd h rfl
theorem xu(h:evT Φ G env c s=.e false s1)(k:(zS Φ G env cs s1).post P):(zS Φ G env (.a (.g c a .b) cs) s).post P:=yE.mpr (TU.mpr (by rw[h];refine zE.mpr ?_;rw[if_neg Ab];exact iH.mpr k))
theorem tM(h:evT Φ G env c s=.e true s1)(k:(zS Φ G env a s1).post (pv Φ G cs P)):(zS Φ G env (.a (.g c a b) cs) s).post P:=yE.mpr (TU.mpr (by rw[h];refine zE.mpr ?_;rw[if_pos rfl];exact k))
theorem Z4{J:Env->Sto->Prop}(h:evT Φ G env c s=.e b s1)(k1:b=true->(zS Φ G env a s1).post λfl s2=>∃e,fl=.a e/\J e s2)(k0:b=false->J env s1)(k:∀e s2,J e s2->(zS Φ G e cs s2).post P):(zS Φ G env (.a (.g c a .b) cs) s).post P:=by
 cases b with
 |true=>exact tM h (zT (k1 rfl) λfl s2 ⟨e,he,j⟩=>by subst he;exact k e s2 j)
 |false=>exact xu h (k env s1 (k0 rfl))
theorem XH(h:evE Φ G env e s=.e (.f vs) s1):yk Φ G env (.g e) s=.e ⟨xI 0 vs,none⟩ s1:=bnd h rfl
theorem YU(h:evE Φ G env a s=.e (.e b) s1):evE Φ G env (.I a) s=.e (.e !b) s1:=bnd h rfl
theorem lM(h:evT Φ G env c s=.e true s1)(k:evE Φ G env a s1=r):evE Φ G env (.C c a b) s=r:=bnd h k
theorem lL(h:evT Φ G env c s=.e false s1)(k:evE Φ G env b s1=r):evE Φ G env (.C c a b) s=r:=bnd h k
theorem vg(k:P (.a env) s):(zS Φ G env .b s).post P:=iH.mpr k
theorem mw{is:List Nat}{vs:List Val}{P:Fl->Sto->Prop}(hl:vs.length=is.length)(k:P (.a ((is.zip vs).foldl (λe p=>e.set p.1 (some p.2)) env)) s):(if vs.length=is.length then Out.e (Fl.a ((is.zip vs).foldl (λe p=>e.set p.1 (some p.2)) env)) s else .d).post P:=by rw[if_pos hl];exact zE.mpr k
theorem qK{k:Nat}(h:evE Φ G env e s=.e (.c (k:Int)) s1)(hk:k<=zR):yk Φ G env (.c e) s=.e ⟨yu 0 k,none⟩ s1:=by rw[post_eq];refine kP.mpr ?_;rw[h];exact zE.mpr ⟨_,rfl,⟨by omega,by omega⟩,by rw[AN],rfl⟩
theorem VO{i j:Nat}(h:evE Φ G env a s=.e (.c (i:Int)) s1)(h':evE Φ G env b s1=.e (.c (j:Int)) s2)(hi:i<=1000)(hj:j<=1000):yk Φ G env (.f a b) s=.e ⟨yu i (j-i),none⟩ s2:=by rw[post_eq];refine kQ.mpr ?_;rw[h];refine zE.mpr ?_;rw[h'];exact zE.mpr ⟨_,_,rfl,rfl,⟨by omega,by omega,by omega,by omega,by unfold zR;omega⟩,by congr 2;omega,rfl⟩
theorem pk(h:evT Φ G env c s=.e a s)(k:evT Φ G env d s=.e b s):evT Φ G env (.d c (.a d .b)) s=.e (a&&b) s:=bnd h (by
 cases a with
 |false=>rfl
 |true=>exact bnd k (by cases b<;>rfl))
theorem sC(h:evT Φ G env c s=.e b s):xJ Φ G env (.a c .b) s=.e b s:=bnd h (by cases b<;>rfl)
end
end M
end
section
namespace M
open PySem
noncomputable def zZ(l m:Int):Val->Bool
 |.c i=>decide (l<=i)&&decide (i<=m)
 |_=>false
theorem nk(h1:l<=i)(h2:i<=m):zZ l m (.c i)=true:=by simp[zZ,h1,h2]
def rG(Φ:Calls):Prop:=∀(v:Val) (l m:Int) (s:Sto),kindOf v≠none->Φ "is_whole" 0 [v,.c l,.c m] s=.e (.e (zZ l m v)) s
def gI(Φ:Calls):Prop:=∀(vs:List Val) (l m:Int) (s:Sto),(∀v∈vs,kindOf v≠none)->Φ "are_wholes" 0 [.f vs,.c l,.c m] s=.e (.e (vs.all (zZ l m))) s
def tQ(Φ:Calls):Prop:=∀(i l m:Int) (s:Sto),l<=i->i<=m->Φ "need_whole" 0 [.c i,.c l,.c m] s=.e .h s
def rF(Φ:Calls):Prop:=∀(i:Int) (s:Sto),2<=i->i<=8->Φ "need_size" 0 [.c i] s=.e .h s
def qF(Φ:Calls):Prop:=∀(i:Int) (s:Sto),0<=i->i<=40->Φ "need_length" 0 [.c i] s=.e .h s
def W7(Φ:Calls):Prop:=∀(n i z:Nat) (s:Sto),i<n->2<=z->z<=8->Φ "most_step" 0 [.c n,.c i,.c z] s=.e (.c ((n-1-i)/(z-1):Nat)) s
theorem tL:blt .b m [.f vs] s=.e (.c vs.length) s:=rfl
theorem af:blt .b m [.p ns] s=.e (.c ns.length) s:=by simp[blt,wc]
theorem le_int:zW .e (.c a) (.c b) s=.e (.e (decide (a<=b))) s:=rfl
theorem lt_int:zW .j (.c a) (.c b) s=.e (.e (decide (a<b))) s:=rfl
theorem ge_int:zW .k (.c a) (.c b) s=.e (.e (decide (b<=a))) s:=rfl
theorem gt_int:zW .i (.c a) (.c b) s=.e (.e (decide (b<a))) s:=rfl
theorem XG:blt .h m [.f vs,.r "tuple"] s=.e (.e true) s:=rfl
theorem uN{α:Type}f:∀xs:List α,boolsOf (xs.map λx=>Val.e (f x))=some (xs.map f)
 |[]=>rfl
 |x::xs=>by simp[boolsOf,uN f xs]
theorem lj{α β:Type}(f:α->β)(xs:List α):xs.flatMap (λx=>[f x])=xs.map f:=by
 induction xs with
 |nil=>rfl
 |cons x xs ih=>simp[ih]
theorem rM:binOp m .a (.c i) (.c j) s=.e (.c (i+j)) s:=by simp only[binOp]
theorem fQ:binOp m .d (.c i) (.c j) s=.e (.c (i-j)) s:=by simp only[binOp]
theorem cy(h:-1000000<=i/\i<=1000000):binOp m .b (.c i) (.c j) s=.e (.c (i*j)) s:=by simp only[binOp];rw[if_pos (.inl (by omega))]
theorem RH(h:-1000000<=j/\j<=1000000):binOp m .b (.c i) (.c j) s=.e (.c (i*j)) s:=by simp only[binOp];rw[if_pos (.inr (by omega))]
section
variable {T:Tbl}{Φ:Calls}{s:Sto}
theorem b8(h:kindOf v=some a)(h':rd n=some c):blt .h m [v,.r n] s=.e (.e (a.sub c)) s:=by simp only[blt];rw[h,h']
theorem Ux(h:kindOf v=some a):(∃i,v=.c i)\/(∃b,v=.e b)\/(a.sub .b=false/\∀l m,zZ l m v=false):=by
 cases v with
 |c i=>exact .inl ⟨i,rfl⟩
 |e b=>exact .inr (.inl ⟨b,rfl⟩)
 |_=>cases h<;>exact .inr (.inr ⟨rfl,λ_ _=>rfl⟩)
theorem Xk(h:kindOf v≠none):∃a,kindOf v=some a:=Option.ne_none_iff_exists'.mp h
theorem dW(hk:kindOf v≠none):run T Φ F.wC [v,.c l,.c m] s=.e (.e (zZ l m v)) s:=by
 obtain⟨a,ha⟩:=Xk hk;have e1:=b8 (m:=false) (s:=s) ha (show rd "int"=some .b from rfl);have e2:=b8 (m:=false) (s:=s) ha (show rd "bool"=some .i from rfl);have end':∀{b:Bool},b=zZ l m v->(zi false s (.e b) s).post λx t=>x=.e (zZ l m v)/\t=s:=λ{b} e=>by rw[zq yV,e];exact zE.mpr ⟨rfl,rfl⟩
 rw[post_eq,F.wC,yZ];refine⟨rfl,?_⟩;show (zS Φ T.b [some v,some (.c l),some (.c m)] _ s).post _;rcases Ux ha with⟨i,rfl⟩|⟨b,rfl⟩|⟨h1,h2⟩
 . cases ha
   have hc:evE Φ T.b [some (.c i),some (.c l),some (.c m)] (.w .e .e (.e 1) (.e 0) (.e 2)) s=.e (.e (zZ l m (.c i))) s:=by
    refine bnd (zB rfl) (bnd (zB rfl) (bnd le_int ?_));show (match Val.e (decide (l<=i)) with
     |.e true=>(evE Φ T.b [some (.c i),some (.c l),some (.c m)] (.e 2) s).bind λz s4=>zW .e (.c i) z s4
     |.e false=>.e (.e false) s
     |_=>.d)=Out.e (.e (decide (l<=i)&&decide (i<=m))) s
    cases decide (l<=i) with
    |true=>exact bnd (zB rfl) le_int
    |false=>rfl
   exact zu (YS (zh (zA (zB rfl) (zA tG zC)) e1) (YU (zh (zA (zB rfl) (zA tG zC)) e2)) hc) (end' rfl)
 . cases ha
   exact zu (YR (zh (zA (zB rfl) (zA tG zC)) e1) (YU (zh (zA (zB rfl) (zA tG zC)) e2))) (end' rfl)
 . rw[h1]at e1
   exact zu (oD (zh (zA (zB rfl) (zA tG zC)) e1)) (end' (h2 _ _).symm)
theorem iY(c:rG Φ)(hk:∀v∈vs,kindOf v≠none):run T Φ F.y9 [.f vs,.c l,.c m] s=.e (.e (vs.all (zZ l m))) s:=by
 rw[post_eq];simp[F.y9,EVl,zk,ze];refine ZM (λe=>∃o,e=[o,some (.c l),some (.c m)]) (λx=>[.e (zZ l m x)]) ?_;simp[EVl,zk,ze];refine⟨?_,?_⟩
 . intro x hx
   simp[EVl,zk,ze,c x l m s (hk x hx)]
 . simp[newList,EVl,zk,ze,blt,lj,yb,uN]
theorem oQ(c:rG Φ)(h1:l<=i)(h2:i<=m):run T Φ F.zw [.c i,.c l,.c m] s=.e .h s:=by rw[post_eq];simp[F.zw,EVl,zk,ze,c (.c i) l m s (by simp[kindOf]),nk h1 h2]
theorem Z1{n i z:Nat}(h1:i<n)(h2:2<=z)(h3:z<=8):run T Φ F.xZ [.c n,.c i,.c z] s=.e (.c ((n-1-i)/(z-1):Nat)) s:=by
 rw[post_eq];have a1:(0:Int)<(z:Int)-1/\(z:Int)-1<1073741824:=by omega
 have a2:((n:Int)-1-(i:Int))/((z:Int)-1)=(((n-1-i)/(z-1):Nat):Int):=by rw[Int.natCast_ediv];congr 1<;>omega
 simp[F.xZ,EVl,zk,ze,binOp];refine⟨by omega,?_⟩
 rw[a2];simp
end
end M
end
section
namespace M
open PySem
noncomputable def pY(r:Nat × Nat):Val:=.f [.c r.1,.c r.2]
theorem qb(h:x∈yu lo n):∃k:Nat,k<n/\x=.c (lo+k):=by unfold yu at h;obtain⟨k,h1,rfl⟩:=AO.mp h;exact⟨k,AZ.mp h1,rfl⟩
theorem Qe ns lo st n:L2.zm (ns.map Val.c) lo st n=(L2.zm ns lo st n).map Val.c:=by unfold L2.zm;rw[List.map_filterMap];congr 1;funext k;simp[AG]
theorem gb a b:B0 (.int a) (.int b)=decide (a=b):=by by_cases h:a=b<;>simp[B0,h]
theorem eq_int:zW .d (.c a) (.c b) s=.e (.e (decide (a=b))) s:=by simp[zW,zt,yR,rT,Val.isD,Val.d,PyData.depth,gb]
theorem ne_int:zW .b (.c a) (.c b) s=.e (.e !(decide (a=b))) s:=by simp[zW,zt,yR,rT,Val.isD,Val.d,PyData.depth,gb]
theorem aA{k:Nat}(h:vs[k]?=some v):wd (.f vs) (.c k) s=.e v s:=by simp[wd,wc,L2.qV h]
theorem pF{ns:List Int}{k:Nat}(h:ns[k]?=some i):wd (.f (ns.map .c)) (.c k) s=.e (.c i) s:=aA (by rw[AG,h];rfl)
theorem rV(ns:List Int):(ns.map Val.c).all flat=true:=by rw[List.all_map];simp[flat]
theorem tY(ns:List Int)y:(ns.map Val.c).countP (λz=>eqF z (.c y))=ns.count y:=by rw[List.countP_map];rfl
section
variable {T:Tbl}{Φ:Calls}{s:Sto}
def Sw(Φ:Calls):Prop:=∀(ns:List Int) (f d z:Nat) (s:Sto),0<d->1<=z->f+d*(z-1)<ns.length->z<=zR->Φ "is_one_hue" 0 [.f (ns.map .c),.c f,.c d,.c z] s=.e (.e (ua ns f d z)) s
theorem WZ{f d z:Nat}(hd:0<d)(hz:1<=z)(h:f+d*(z-1)<ns.length)(hl:z<=zR):run T Φ F.xB [.f (ns.map .c),.c f,.c d,.c z] s=.e (.e (ua ns f d z)) s:=by
 have hf:f<ns.length:=by have:0<=d*(z-1):=A9 _;omega
 have a1:=Yq hd hz h;have hdI:(d:Int)≠0:=by omega
 rw[post_eq];have hm:-(2 ^ 64)<(z:Int)/\(z:Int)<2 ^ 64:=by unfold zR at hl;omega
 have hmul:binOp false .b (.c d) (.c z) s=.e (.c ((d:Int)*z)) s:=by simp only[binOp];rw[if_pos (.inr hm)]
 have hix:wd (.f (ns.map .c)) (.c f) s=.e (.c (ns.getD f 0)) s:=pF (by rw[xd hf,Al,xd hf];rfl)
 have hadd:binOp false .a (.c f) (.c ((d:Int)*z)) s=.e (.c ((f:Int)+(d:Int)*z)) s:=by simp only[binOp]
 have hsl:uD false (.f (ns.map .c)) (some (f:Int)) (some ((f:Int)+(d:Int)*z)) (some (d:Int)) s=.e (.f (((Aq z).map λk=>ns.getD (f+k*d) 0).map .c)) s:=by simp only[uD,Aa];rw[a1,if_pos ⟨hdI,hl⟩];simp only[Qe,Zf h]
 have key:decide ((((Aq z).map λk=>ns.getD (f+k*d) 0).count (ns.getD f 0):Int)=(z:Int))=ua ns f d z:=by
  rw[BE,Xw h,decide_eq_true_iff];have hl:((Aq z).map λk=>ns.getD (f+k*d) 0).length=z:=by rw[Aa,Bh]
  constructor
  . intro e x hx
    exact(List.count_eq_length.mp (by rw[hl];exact Int.ofNat.inj e) x hx).symm
  . intro e
    rw[List.count_eq_length.mpr λx hx=>(e x hx).symm,hl]
 generalize hy:ns.getD f 0=y at hix key;generalize hxs:(Aq z).map (λk=>ns.getD (f+k*d) 0)=xs at hsl key;simp only[F.xB,EVl,zk,ze];simp[EVl,zk,ze,hmul,hadd,hix,hsl,yK,rV,tY,eq_int,flat];exact key
end
end M
end
section
namespace M
open PySem
theorem Yn{xs:List α}(hp:p<=xs.length):xk xs none (some (p:Int))=xs.take p:=by
 unfold xk;have h1:HT.sIx xs.length 0 none=0:=rfl;have h2:HT.sIx xs.length xs.length (some (p:Int))=p:=by rw[HT.fF];omega
 rw[h1,h2,EO,Nat.sub_zero]
theorem Ym{xs:List α}(hp:p<=xs.length):xk xs (some (p:Int)) none=xs.drop p:=by
 unfold xk;have h1:HT.sIx xs.length 0 (some (p:Int))=p:=by rw[HT.fF];omega
 have h2:HT.sIx xs.length xs.length none=xs.length:=rfl;rw[h1,h2,List.take_of_length_le (by rw[Di];omega)]
noncomputable abbrev tpI(ns:List Int):Val:=.f (ns.map .c)
section
variable {T:Tbl}{Φ:Calls}{s:Sto}
theorem nz(h:a.length+b.length<=zR):binOp m .a (.f a) (.f b) s=.e (.f (a++b)) s:=by simp only[binOp];rw[if_pos h]
end
end M
end
section
namespace M
open PySem
theorem Y6{α β:Type}f(g:α->β)(xs:List α):xs.flatMap (λx=>if f x then [g x] else [])=(xs.filter f).map g:=by
 induction xs with
 |nil=>rfl
 |cons x xs ih=>
  rw[D0,ih];cases h:f x<;>simp[h]
section
variable {T:Tbl}{Φ:Calls}{s:Sto}
noncomputable def xp(hs:List Nat):Val:=.f (hs.map λ(k:Nat)=>Val.c k)
end
end M
end
section
namespace M
open PySem
noncomputable def Qc(a b:Int):Cel:=.c [.c a,.c b]
def S8(s:Sto)(p:Nat):Prop:=∃a b,s[p]?=some (Qc a b)/\0<=b/\b<2147483629
def W9(s:Sto)(p:Nat)(s':Sto):Prop:=∃a b,s'=s.set p (Qc a b)/\0<=b/\b<2147483629
theorem W9.at_(h:W9 s p s')(hp:p<s.length):S8 s' p:=by obtain⟨a,b,rfl,h1⟩:=h;exact⟨a,b,AM hp,h1⟩
theorem bmod(h:0<j):binOp m .c (.c i) (.c j) s=.e (.c (i%j)) s:=by simp only[binOp];rw[if_pos h]
theorem bdiv(h:0<j/\j<1073741824):binOp m .e (.c i) (.c j) s=.e (.c (i/j)) s:=by simp only[binOp];rw[if_pos h]
theorem mV{k:Nat}(h:vs[k]?=some v):wd (.j vs) (.c k) s=.e v s:=by simp[wd,wc,L2.qV h]
theorem UL{i k:Nat}(hs:s[i]?=some (.c vs))(h:vs[k]?=some v):wd (.k i) (.c k) s=.e v s:=by simp[wd,wc,hs,L2.qV h]
section
variable {T:Tbl}{Φ:Calls}{s:Sto}
def W6(Φ:Calls):Prop:=∀(ns:List Int) (k:Nat) (s:Sto),∃c,Φ "_law_cell_at" 0 [.p ns,.c k] s=.e (.c c) s
theorem Zy ns(k:Nat):∃c,run T Φ F.yN [.p ns,.c k] s=.e (.c c) s:=by
 by_cases h:k<ns.length
 . refine⟨ns[k],?_⟩
   rw[post_eq];have h':(k:Int)<ns.length:=by omega
   have e:(ns.map Val.c)[k]?=some (.c ns[k]):=by rw[AG,xd h];rfl
   have c1:wd (.p ns) (.c k) s=.e (.c ns[k]) s:=by simp[wd,wc,L2.qV e]
   simp[F.yN,EVl,zk,ze,af,lt_int,h',h,c1]
 . refine⟨0,?_⟩
   rw[post_eq];have h':¬(k:Int)<ns.length:=by omega
   simp[F.yN,EVl,zk,ze,af,lt_int,h',h]
end
end M
end
section
namespace M
open PySem
theorem n6(h:vs.length<zR):yK .b (.k s.length) [y] (s++[.c vs])=.e .h (s++[.c (vs++[y])]):=by simp[yK,h,upd]
end M
end
section
namespace M
open PySem
theorem rX:∀ks:List Int,wF (ks.map .c)=true
 |[]=>by rw[FK,wF]
 |k::ks=>by rw[AJ,wF,rX ks,Val.isD];rfl
theorem eq_nil(h:wF vs=true):zW .d (.j vs) (.j []) s=.e (.e vs.isEmpty) s:=by
 have h1:(Val.j vs).isD=true:=by rw[Val.isD];exact h
 have h2:(Val.j []).isD=true:=by rw[Val.isD,wF]
 have h3:(Val.j []).d=.list []:=by rw[Val.d,ds]
 have h4:(Val.j vs).d=.list (ds vs):=by rw[Val.d]
 have h5:B0 (.list (ds vs)) (.list [])=vs.isEmpty:=by
  cases vs with
  |nil=>rw[ds];rfl
  |cons v vs=>rw[ds];rfl
 simp only[zW,zt,yR,rT,h1,h2,h3,h4,h5];rfl
theorem si(hp:p<ns.length):putL ns p h=ns.set p h:=by rw[List.set_eq_take_append_cons_drop,if_pos hp];rfl
noncomputable def RV(bad:Int->Bool):Val->List Val
 |.c x=>if bad x then [.c x] else []
 |_=>[]
theorem Y5 bad(ks:List Int):(ks.map Val.c).flatMap (RV bad)=(ks.filter bad).map .c:=by rw[CQ,<-Y6];rfl
section
variable {T:Tbl}{Φ:Calls}{s:Sto}
theorem Vp{ks:List Int}{bad:Int->Bool}(hi:yk Φ G env it s=.e ⟨ks.map .c,none⟩ s)(h0:ze fr env=none::e0)(h:∀k∈ks,xJ Φ G (some (.c k)::e0) ifs s=.e (bad k) s):evE Φ G env (.q false N fr (.e 0) (.a 0) it ifs) s=.e (.j ((ks.filter bad).map .c)) s:=by
 refine post_eq.mpr (v5 (λe=>∃o,e=o::e0) (RV bad) (ks.map .c) (s1:=s) hi ⟨none,h0⟩ ?_ (by rw[Y5];exact zE.mpr ⟨rfl,rfl⟩))
 rintro v hv e ⟨o,rfl⟩;obtain⟨k,hk,rfl⟩:=AO.mp hv;refine⟨_,rfl,⟨_,rfl⟩,?_⟩;show (xJ Φ G (some (.c k)::e0) ifs s).post _;rw[h k hk];refine zE.mpr ⟨rfl,?_⟩;show if bad k=true then _ else (if bad k then [Val.c k] else [])=[]
 cases hb:bad k with
 |true=>
  rw[if_pos rfl];refine g7.mpr ⟨_,rfl,rfl,?_⟩;show (if bad k then [Val.c k] else [])=_
  rw[hb,if_pos rfl]
 |false=>rw[if_neg Ab,if_neg Ab]
end
end M
end
section
namespace M
open PySem
theorem nG(L:L2.uM k w d)(hk:k<=50)(hw:w<=300000)(hd:d.hasDict=false):tj d=true:=by
 have:=L.a;have:=L.f;unfold tj;rw[L.c,L.b,hd,decide_eq_true (show d.depth<=50 by omega),decide_eq_true (show d.weight<=300000 by omega)]
 rfl
theorem gT:∀ks:List Int,ds (ks.map .c)=ks.map PyData.int
 |[]=>by rw[FK,ds];rfl
 |k::ks=>by rw[AJ,ds,gT ks,Val.d];rfl
theorem gh hs:xp hs=tpI (hs.map λ(k:Nat)=>(k:Int)):=by unfold xp tpI;rw[BV];rfl
theorem kF:∀{n} {vs} {x},x∈xI n vs->∃k v,vs[k]?=some v/\x=.f [.c ((n+k:Nat):Int),v]
 |_,[],_,h=>by cases h
 |n,v::vs,x,h=>by
  rw[xI]at h;rcases Af.mp h with e|h
  . exact⟨0,v,rfl,e⟩
  . obtain⟨k,w,h1,h2⟩:=kF h
    refine⟨k+1,w,by simpa using h1,?_⟩
    rw[h2];congr 3;omega
theorem max2:blt .k m [.c i,.c j] s=.e (.c (if j > i then j else i)) s:=rfl
theorem min2:blt .l m [.c i,.c j] s=.e (.c (if j<i then j else i)) s:=rfl
theorem bf{K:Nat}(h0:env[0]?=some (some (.p ns)))(hK:K<=100) :
 yk Φ G env (.c (.k .k false (.a (.g (.c 1)) (.a (.k .l false (.a (.k .b false (.a (.e 0) .b)) (.a (.g (.c K)) .b))) .b)))) s=.e ⟨yu 0 (max 1 (min ns.length K)),none⟩ s:=by
 rw[post_eq];simp only[EVl,zk,ze];refine⟨_,h0,?_⟩;rw[af];simp only[zE];rw[min2];simp only[zE];rw[max2];simp only[zE];have e:(if (if (K:Int)<(ns.length:Int) then (K:Int) else (ns.length:Int)) > 1 then (if (K:Int)<(ns.length:Int) then (K:Int) else (ns.length:Int)) else 1)=((max 1 (min ns.length K):Nat):Int):=by split<;>split<;>omega
 rw[e];refine⟨_,rfl,⟨by omega,by unfold zR;omega⟩,?_⟩
 simp
end M
end
section
namespace M
open L2
noncomputable def xl(ns:List Int)(f d z:Nat)(h:Int):Bool:=(Aq z).all λk=>decide (ns[f+k*d]?=some h)
theorem xm:xl ns f d z h=true↔∀k<z,ns[f+k*d]?=some h:=by unfold xl;rw[Ao];exact⟨λH k hk=>of_decide_eq_true (H k (AZ.mpr hk)),λH k hk=>decide_eq_true (H k (AZ.mp hk))⟩
noncomputable def Pd(ns:List Int)(z:Nat)(h:Int):Bool:=(Aq (ns.length/(z-1))).any λj=>(Aq (z-1)).all λk=>decide (ns[ns.length-(k+1)*(j+1)]?=some h)
def YZ(zs ns:List Int):Prop:=∀h f d,h<zs.length->0<d->f+d*(vL zs h-1)<ns.length->xl ns f d (vL zs h) h≠true
structure Fit(zs ns:List Int):Prop where
 b:∀x∈ns,0<=x/\x<zs.length
 c:YZ zs ns
theorem cj(hz:1<=z)(hl:f+d*(z-1)<ns.length):xl ns.reverse f d z h=xl ns (ns.length-1-(f+d*(z-1))) d z h:=by
 rw[BE,xm,xm];have e:=Cv d (z-1);have key:∀k,k<z->ns.reverse[f+k*d]?=ns[ns.length-1-(f+d*(z-1))+(z-1-k)*d]?:=λk hk=>by
  have e2:(z-1-k)*d+k*d=(z-1)*d:=by rw[<-Nat.add_mul];congr 1;omega
  rw[List.getElem?_reverse (by omega)]
  congr 1;omega
 constructor
 . intro H k hk
   have:=key (z-1-k) (by omega)
   rw[H _ (by omega),show z-1-(z-1-k)=k by omega]at this
   exact this.symm
 . intro H k hk
   rw[key k hk];exact H _ (by omega)
theorem YZ.rev(hz:Sz zs)(hF:YZ zs ns):YZ zs ns.reverse:=λh f d h1 h2 h3 ha=>by
 rw[List.length_reverse]at h3;have z2:=(ku hz h1).2.1;rw[cj (by omega) h3]at ha
 exact hF h _ d h1 h2 (by omega) ha
theorem Fit.rev(hz:Sz zs)(hF:Fit zs ns):Fit zs ns.reverse:=⟨λx hx=>hF.b x (List.mem_reverse.mp hx),hF.c.rev hz⟩
theorem Fit.take(hF:Fit zs ns)n:Fit zs (ns.take n):=by
 refine⟨λx hx=>hF.b x (EJ hx),λh f d h1 h2 h3 ha=>?_⟩;rw[B1]at h3;refine hF.c h f d h1 h2 (by omega) ?_
 rw[xm]at ha ⊢;intro k hk;have hk':k*d<=(vL zs h-1)*d:=BP _ (by omega)
 have e:=Cv d (vL zs h-1);have:=ha k hk
 rwa [DC (by omega)]at this
end M
end
section
namespace M
open PySem
section
variable {T:Tbl}{Φ:Calls}{s:Sto}
def d6(Φ:Calls):Prop:=∀(zs ns:List Int) (s:Sto),Sz zs->Fit zs ns->ns.length<=40->Φ "is_strip" 0 [tpI ns] s=.e (.e true) s
def Sv(Φ:Calls):Prop:=∀(zs ns:List Int) (s:Sto),Sz zs->Fit zs ns->ns.length<=40->Φ "fits" 0 [tpI zs,tpI ns] s=.e (.e true) s
def YW(Φ:Calls):Prop:=∀(zs ns:List Int) (s:Sto),Sz zs->Fit zs ns->ns.length<=40->Φ "first_wrong" 0 [tpI zs,tpI ns] s=.e .h s
end
end M
end
section
namespace M
open PySem
theorem ne_nil(h:wF vs=true):zW .b (.j vs) (.j []) s=.e (.e !vs.isEmpty) s:=by
 have h1:(Val.j vs).isD=true:=by rw[Val.isD];exact h
 have h2:(Val.j []).isD=true:=by rw[Val.isD,wF]
 have h3:(Val.j []).d=.list []:=by rw[Val.d,ds]
 have h4:(Val.j vs).d=.list (ds vs):=by rw[Val.d]
 have h5:B0 (.list (ds vs)) (.list [])=vs.isEmpty:=by
  cases vs with
  |nil=>rw[ds];rfl
  |cons v vs=>rw[ds];rfl
 simp only[zW,zt,yR,rT,h1,h2,h3,h4,h5];rfl
section
variable {T:Tbl}{Φ:Calls}{s:Sto}
theorem iQ{r:Nat × Nat}{z h:Nat}:(((zx r.1 r.2 z).filter λx=>!decide (ns[x.toNat]?=some (h:Int))).map Val.c).isEmpty=xl ns r.1 r.2 z h:=by
 rw[BE,AR,List.map_eq_nil_iff,List.filter_eq_nil_iff,xm];unfold zx;constructor
 . intro H k hk
   have:=H _ (AO.mpr ⟨k,AZ.mpr hk,rfl⟩);rw[AN]at this;simpa using this
 . intro H x hx
   obtain⟨k,hk,rfl⟩:=AO.mp hx;have:=H k (AZ.mp hk);rw[AN];simpa using this
end
end M
end
section
namespace M
open L2
def okH(zs ns:List Int):List Nat:=(Aq zs.length).filter λh=>!Pd ns (vL zs h) h
def tK(zs:List Int)(L:List (List Int)):List (List Int):=L.flatMap λns=>(okH zs ns).map λ(h:Nat)=>ns++[(h:Int)]
def vZ(zs:List Int)(L:List (List Int)):Nat->List (List Int)
 |0=>L
 |n+1=>tK zs (vZ zs L n)
def cQ(L:List (List Int)):Prop:=L.Pairwise λa b=>oK a b=true
theorem gw:∀{a b x y},oK a b=true->oK (a++x) (b++y)=true
 |[],[],_,_,h=>by cases h
 |[],_::_,_,_,h=>by cases h
 |_::_,[],_,_,h=>by cases h
 |u::a,v::b,x,y,h=>by
  rw[CN,CN];unfold oK at h ⊢;by_cases e:u=v
  . rw[if_pos e]at h ⊢;exact gw h
  . rw[if_neg e]at h ⊢;exact h
theorem kC:∀{a} {x y},x<y->oK (a++[x]) (a++[y])=true
 |[],x,y,h=>by
  show oK [x] [y]=true;unfold oK;rw[if_neg (by omega)];exact decide_eq_true h
 |u::a,x,y,h=>by rw[CN,CN];unfold oK;rw[if_pos rfl];exact kC h
theorem dF(h:cQ L):cQ (tK zs L):=by
 unfold cQ tK;rw[List.pairwise_flatMap];refine⟨λa _=>?_,h.imp λ{a b} hab x hx y hy=>?_⟩
 . rw[List.pairwise_map]
   exact(List.pairwise_lt_range.filter _).imp λ{i j} hij=>kC (by omega)
 . obtain⟨i,_,rfl⟩:=AO.mp hx
   obtain⟨j,_,rfl⟩:=AO.mp hy;exact gw hab
theorem dG(h:cQ L):∀n,cQ (vZ zs L n)
 |0=>h
 |n+1=>dF (dG h n)
theorem sV zs L m:∀n,vZ zs (vZ zs L m) n=vZ zs L (m+n)
 |0=>rfl
 |n+1=>congrArg (tK zs) (sV zs L m n)
def bQ(zs:List Int):Nat->List (List Int)->Bool
 |0,L=>L.isEmpty
 |n+1,L=>decide (L.length<=100)&&bQ zs n (tK zs L)
theorem mJ:∀{n} {L},bQ zs n L=true->vZ zs L n=[]/\∀m,m<n->(vZ zs L m).length<=100
 |0,L,h=>⟨AR.mp h,λm hm=>absurd hm (Nat.not_lt_zero _)⟩
 |n+1,L,h=>by
  unfold bQ at h;rw[cf]at h;have ⟨h1,h2⟩:=mJ h.2;have e:∀m,vZ zs (tK zs L) m=vZ zs L (m+1):=λm=>by have:=sV zs L 1 m;rw[show vZ zs L 1=tK zs L from rfl,Nat.add_comm 1 m]at this;exact this
  rw[e]at h1;refine⟨h1,λm hm=>?_⟩;cases m with
  |zero=>exact of_decide_eq_true h.1
  |succ m=>rw[<-e];exact h2 m (by omega)
noncomputable def r9:List (List Int):=[3,3]::[3,4]::[4,3]::[2,2,3]::[2,3,2]::[3,2,2]::[2,6]::[5,2]::[2,4]::[3,2]::[2,2]::[2,2,2]::[2]::[3]::[5]::[8]::[]
theorem il:(r9.all λzs=>bQ zs 18 [[]]&&decide (zs.foldl (·*·) 1<=12)&&(decide (1<=zs.length)&&decide (zs.length<=4)&&zs.all λx=>decide (2<=x)&&decide (x<=8)))=true:=by decide +kernel
theorem kB(h:vZ zs L n=[]):∀m,vZ zs L (n+m)=[]:=λm=>by
 rw[<-sV,h];induction m with
 |zero=>rfl
 |succ m ih=>show tK zs (vZ zs [] m)=[];rw[ih];rfl
structure jW(zs:List Int):Prop where
 sz:Sz zs
 prod:zs.foldl (·*·) 1<=12
 a:∀m,18<=m->vZ zs [[]] m=[]
 few:∀m,(vZ zs [[]] m).length<=100
theorem ky(h:zs∈r9):jW zs:=by
 have:=Ao.mp il zs h;simp only[cf,decide_eq_true_eq,Ao]at this;obtain⟨⟨h1,h2⟩,⟨h3,h4⟩,h5⟩:=this;have ⟨d1,d2⟩:=mJ h1;have d3:∀m,18<=m->vZ zs [[]] m=[]:=λm hm=>by
  have:=kB d1 (m-18)
  rwa [show 18+(m-18)=m by omega]at this
 refine⟨⟨h3,h4,λx hx=>h5 x hx⟩,h2,d3,λm=>?_⟩;by_cases hm:m<18
 . exact d2 m hm
 . rw[d3 m (by omega)];simp
end M
end
section
namespace M
open PySem
theorem Fit.drop(hz:Sz zs)(hF:Fit zs ns)n:Fit zs (ns.drop n):=by
 have:=((hF.rev hz).take (ns.length-n)).rev hz
 rwa [List.take_reverse,List.reverse_reverse,show ns.length-(ns.length-n)=min n ns.length by omega,show ns.drop (min n ns.length)=ns.drop n by
  by_cases h:n<=ns.length
  . rw[Nat.min_eq_left h]
  . rw[Nat.min_eq_right (by omega),List.drop_of_length_le (Ac _),List.drop_of_length_le (by omega)]]at this
theorem Yo:∃a b,uD false (tpI ns) lo hi none s=.e (tpI ((ns.drop a).take b)) s:=by refine⟨HT.sIx (ns.map Val.c).length 0 lo,HT.sIx (ns.map Val.c).length (ns.map Val.c).length hi-HT.sIx (ns.map Val.c).length 0 lo,?_⟩;simp only[uD];unfold xk;rw[<-List.map_drop,<-List.map_take]
end M
end
section
namespace M
open PySem
def endOf(ms:List Int)(st:List (Nat × Nat)):List Int:=st.foldl (λms q=>putL ms q.1 q.2) ms
def SO(zs:List Int):List Int->List (Nat × Nat)->Prop
 |_,[]=>True
 |ms,(p,h)::st=>ms[p]?=some (-1)/\QD zs ms p=[h]/\SO zs (putL ms p h) st
theorem SO.append:∀{st st'} {ms},SO zs ms st->SO zs (endOf ms st) st'->SO zs ms (st++st')
 |[],_,_,_,h=>h
 |(p,h)::st,st',ms,⟨a,b,c⟩,d=>⟨a,b,SO.append c d⟩
end M
end
section
namespace M
open PySem
structure Th(k w:Nat)(v:Val):Prop where
 nr:v.noRef=true
 kd:kindOf v≠none
 r:v.isR=true
 a:L2.uM k w v.d
 b:v.d.hasDict=false
 c:∀s,yR s v=v
theorem Th.mono(h:Th k w v)(h1:k<=k')(h2:w<=w'):Th k' w' v:=⟨h.nr,h.kd,h.r,h.a.mono h1 h2,h.b,h.c⟩
theorem wZ(h1:-(10 ^ 30)<i)(h2:i<10 ^ 30):Th 0 100 (.c i):=⟨vA,nofun,by rw[Val.isR],by rw[Val.d];exact L2.aj h1 h2,by rw[Val.d];rfl,λ_=>rfl⟩
theorem lH b:Th 0 100 (.e b):=⟨yV,nofun,by rw[Val.isR],by rw[Val.d];exact(L2.eG b).mono (Ac _) (A9 _),by rw[Val.d];rfl,λ_=>rfl⟩
theorem rB:Th 0 100 .h:=⟨uw,nofun,by rw[Val.isR],by rw[Val.d];exact L2.eI.mono (Ac _) (A9 _),by rw[Val.d];rfl,λ_=>rfl⟩
theorem Se(h1:∀c∈x.cps.toList,c<16 ^ 8)(h2:x.cps.size<=100):Th 0 100 (.g x):=⟨az,nofun,by rw[Val.isR],by rw[Val.d];exact L2.ak h1 h2,by rw[Val.d];rfl,λ_=>rfl⟩
theorem ths:∀{vs},(∀v∈vs,Th k w v)->z7 vs=true/\qP vs=true/\(ds vs).length=vs.length/\∀d∈ds vs,L2.uM k w d/\d.hasDict=false
 |[],_=>⟨qc,by rw[qP],by rw[ds];rfl,λd h=>by rw[ds]at h;cases h⟩
 |v::vs,h=>by
  obtain⟨a,b,c,e⟩:=ths λx hx=>h x (.tail _ hx);have t:=h v (.head _);refine⟨by rw[uZ,t.nr,a];rfl,by rw[qP,t.r,b];rfl,by rw[ds,AK,AK,c],λd hd=>?_⟩
  rw[ds]at hd;rcases Af.mp hd with rfl|hd
  . exact⟨t.a,t.b⟩
  . exact e d hd
theorem i7(h:∀v∈vs,Th k w v)(hn:vs.length<=n):Th (k+1) (n*(w+1)) (.f vs):=by
 obtain⟨a,b,c,e⟩:=ths h;refine⟨by rw[pP];exact a,nofun,by rw[Val.isR];exact b,by rw[Val.d];exact L2.jv (λd hd=>(e d hd).1) (by rw[c];exact hn),?_,λ_=>rfl⟩
 rw[Val.d,PyData.hasDict];exact L2.rh λd hd=>(e d hd).2
theorem lI(h:∀v∈vs,Th k w v)(hn:vs.length<=n):Th (k+1) (n*(w+1)) (.j vs):=by
 obtain⟨a,b,c,e⟩:=ths h;refine⟨by rw[j8];exact a,nofun,by rw[Val.isR];exact b,by rw[Val.d];exact L2.eH (λd hd=>(e d hd).1) (by rw[c];exact hn),?_,λ_=>rfl⟩
 rw[Val.d,PyData.hasDict];exact L2.rh λd hd=>(e d hd).2
structure Thing(v:Val):Prop where
 a:Th 2 200000 v
 el:∀vs,v=.f vs->∀w∈vs,Th 1 1000 w
theorem nW(h:∀v∈vs,Th 1 1000 v)(hn:vs.length<=190):Thing (.f vs):=⟨(i7 h hn).mono (by decide) (by decide),λws e=>by cases e;exact h⟩
theorem di(h:∀v∈vs,Th 1 1000 v)(hn:vs.length<=190):Thing (.j vs):=⟨(lI h hn).mono (by decide) (by decide),λws e=>by cases e⟩
theorem Thing.shown(h:Thing v)m s:blt .a m [v] s=.e (.g v.d.shown) s:=by
 have e:zt s v=v:=by
  cases v with
  |f vs=>
   show Val.f (vs.map (yR s))=_;rw[BS (g:=id) λw hw=>(h.el vs rfl w hw).c s,List.map_id]
  |_=>exact h.a.c s
 simp only[blt];rw[e,h.a.r,nG h.a.a (by decide) (by decide) h.a.b]
 rfl
theorem xH(h1:-1000<=i)(h2:i<=1000):Th 1 1000 (.c i):=(wZ (by omega) (by omega)).mono (by decide) (by decide)
theorem Wn{ns:List Int}(h:∀x∈ns,-1000<=x/\x<=1000):∀v∈ns.map Val.c,Th 1 1000 v:=λv hv=>by obtain⟨i,hi,rfl⟩:=AO.mp hv;exact xH (h i hi).1 (h i hi).2
theorem i8(h:∀x∈ns,-1000<=x/\x<=1000)(hn:ns.length<=190):Thing (tpI ns):=nW (Wn h) (by rw[Aa];exact hn)
theorem qW:(xk xs lo hi).length<=xs.length:=by unfold xk;rw[B1,Di];omega
theorem qX(h:x∈xk xs lo hi):x∈xs:=by unfold xk at h;exact List.mem_of_mem_drop (EJ h)
theorem r0:uD m (.f vs) lo hi none s=.e (.f (xk vs lo hi)) s:=rfl
theorem lP(h:a.length+b.length<=zR):binOp false .a (.j a) (.j b) s=.e (.j (a++b)) s:=by simp only[binOp,yb];rw[if_pos h];rfl
end M
end
section
namespace M
open PySem
theorem oC:zZ l m (.c i)=(decide (l<=i)&&decide (i<=m)):=rfl
section
variable {Φ:Calls}{G:Str->Option Val}{env:Env}{s s1 s2 s3 s4:Sto}
noncomputable def SD(f:Nat->Int):Val->List Val
 |.c k=>[.c (f k.toNat)]
 |_=>[]
theorem Zt:(yu 0 n).flatMap (SD f)=((Aq n).map f).map .c:=by
 unfold yu;rw[CQ,BV];have:(λ(k:Nat)=>SD f (.c (0+(k:Int))))=λk=>[(Val.c∘f) k]:=by funext k;show [Val.c (f (0+(k:Int)).toNat)]=_;rw[DN,AN];rfl
 rw[this,lj]
theorem Vq{f:Nat->Int}(hi:yk Φ G env it s=.e ⟨yu 0 n,none⟩ s)(h0:ze fr env=none::e0)(h:∀k (o:Option Val),k<n->evE Φ G (some (.c k)::e0) elt s=.e (.c (f k)) s)(hl:n<=zR):evE Φ G env (.q false N fr elt (.a 0) it .b) s=.e (.j (((Aq n).map f).map .c)) s:=by
 rw[post_eq];refine v5 (λe=>∃o,e=o::e0) (SD f) (yu 0 n) (s1:=s) hi ⟨none,h0⟩ ?_ ?_
 . rintro x hx e ⟨o,rfl⟩
   obtain⟨k,hk,rfl⟩:=qb hx;refine⟨_,rfl,⟨_,rfl⟩,v8.mpr ⟨rfl,?_⟩⟩;rw[if_pos rfl,DN];show (evE Φ G (some (.c (k:Int))::e0) elt s).post _;rw[h k none hk];refine zE.mpr ⟨rfl,?_⟩;show [Val.c (f (k:Int).toNat)]=_;rw[AN]
 . rw[Zt]
   exact zE.mpr ⟨rfl,rfl⟩
end
theorem Yp:xk (xs.map f) lo hi=(xk xs lo hi).map f:=by unfold xk;rw[Aa,List.map_take,List.map_drop]
theorem Z9:uD m (tpI ns) lo hi none s=.e (tpI (xk ns lo hi)) s:=by show Out.e (Val.f (xk (ns.map .c) lo hi)) s=_;rw[Yp]
theorem Xp{k:Nat}(h:k<=1000)(h1:vs≠[])(h2:vs.length<=1000):binOp m .b (.f vs) (.c k) s=.e (.f (Ap k vs).flatten) s:=by simp only[binOp];rw[if_pos ⟨by omega,by omega,h1,h2⟩,AN]
end M
end
section
namespace M
open PySem
theorem cg{ds}(hf:ds[f]?=some h):xl ds f d z h=ua ds f d z:=by unfold xl ua;rw[hf]
theorem ju(hz:1<=z):wd (.j ((zx f d z).map .c)) (.c (-1)) s=.e (.c ((f+(z-1)*d:Nat):Int)) s:=by
 obtain⟨z,rfl⟩:∃k,z=k+1:=⟨z-1,by omega⟩
 show (match L2.atI ((zx f d (z+1)).map Val.c) (-1) with|some v=>Out.e v s|dr=>.d)=_
 unfold zx;rw[List.range_succ,Cy,Cy,List.map_singleton,List.map_singleton,L2.cm];rfl
section
variable {T:Tbl}{Φ:Calls}{s:Sto}
theorem Zl{ds}{f:Nat}(hi:env[i]?=some (some (tpI ds)))(he:evE Φ G env e s=.e (.c (f:Int)) s)(he':evE Φ G env e' s=.e (.c h) s)(hf:f<ds.length)(hd:ds.length<=40):evE Φ G env (.j false .a (.j false .a (.G false (.e i) .b (.a e) .b) (.r (.a e' .b))) (.G false (.e i) (.a (.j false .a e (.g (.c 1)))) .b .b)) s=.e (tpI (putL ds f h)) s:=by
 have c1:=qW (xs:=ds) (lo:=none) (hi:=some (f:Int));have c2:=qW (xs:=ds) (lo:=some ((f:Int)+1)) (hi:=none);refine(zc (zc (gE (zB hi) sX (pQ he) sX Z9) (yM (zA he' zC) (by show 1<=zR;unfold zR;omega)) (nz (by rw[Aa];show _+1<=zR;unfold zR;omega))) (gE (zB hi) (pQ (zc he zD rM)) sX sX Z9) (nz (by rw[Am,Aa,Aa];show _+1+_<=zR;unfold zR;omega))).trans ?_
 have e1:xk ds none (some (f:Int))=ds.take f:=Yn (by omega)
 have e2:xk ds (some ((f:Int)+1)) none=ds.drop (f+1):=by
  rw[show ((f:Int)+1)=((f+1:Nat):Int) by omega]
  exact Ym (by omega)
 rw[e1,e2];unfold putL;show Out.e (Val.f (((ds.take f).map Val.c++[Val.c h])++(ds.drop (f+1)).map Val.c)) s=Out.e (Val.f ((ds.take f++h::ds.drop (f+1)).map Val.c)) s;rw[Cy,Bt];rfl
end
end M
end
section
namespace F75
open PySem M
noncomputable def yv:Fn:=⟨["_law_pen_here","_law_bound","_law_found","_law_stir"],["_law_pen_here","_law_bound"],false,(.a (.g (.d (.a (.l .d (.s (.e 0) (.g (.c 1))) (.g (.c 1)))) (.a (.a (.l .i (.s (.e 0) (.g (.c 0))) (.g (.c 0)))) .b)) (.a (.f 2 (.j false .c (.s (.e 0) (.g (.c 0))) (.e 1))) (.a (.l (.e 0) (.g (.c 0)) (.j false .e (.s (.e 0) (.g (.c 0))) (.e 1))) (.a (.d (.e 2)) .b))) .b) (.a (.l (.e 0) (.g (.c 2)) (.j false .a (.s (.e 0) (.g (.c 2))) (.g (.c 1)))) (.a (.f 3 (.j false .c (.j false .b (.j false .a (.s (.e 0) (.g (.c 3))) (.g (.c 17))) (.j false .a (.g (.c 69621)) (.j false .b (.g (.c 2)) (.s (.e 0) (.g (.c 2)))))) (.g (.c 2147483647)))) (.a (.f 3 (.j false .c (.j false .a (.j false .a (.j false .b (.e 3) (.e 3)) (.j false .b (.g (.c 40503)) (.s (.e 0) (.g (.c 2))))) (.g (.c 5))) (.g (.c 2147483629)))) (.a (.d (.j false .c (.j false .e (.j false .c (.j false .b (.e 3) (.g (.c 48271))) (.g (.c 2147483647))) (.g (.c 32))) (.e 1))) .b)))))⟩
noncomputable def xV:Fn:=⟨["_law_size","_law_stand"],["_law_size","_law_stand"],false,(.a (.g (.f (.a (.h "_law_has" 0 (.a (.e 0) (.a (.e 1) (.a (.g (.c 1)) .b))))) (.a (.a (.h "_law_has" 0 (.a (.e 0) (.a (.e 1) (.a (.g (.c 2)) .b))))) .b)) (.a (.d (.r .b)) .b) .b) (.a (.d (.k .c false (.a (.q false ["_law_place","_law_stand"] [none,some 1] (.e 0) (.a 0) (.c (.k .b false (.a (.e 1) .b))) (.a (.a (.l .d (.s (.e 1) (.e 0)) (.g (.c 0)))) .b)) .b))) .b))⟩
noncomputable def xX:Fn:=⟨["_law_stand"],["_law_stand"],false,(.a (.d (.j false .d (.j false .a (.g (.c 1)) (.D .a false (.e 0) (.a (.g (.c 1)) .b))) (.D .a false (.e 0) (.a (.g (.c 2)) .b)))) .b)⟩
noncomputable def wA:Fn:=⟨["_law_size","_law_stand","_law_hand_here","_law_first","_law_step","_law_row"],["_law_size","_law_stand","_law_hand_here"],false,(.a (.k (.a 3) (.c (.k .b false (.a (.e 1) .b))) (.a (.k (.a 4) (.f (.g (.c 1)) (.k .b false (.a (.e 1) .b))) (.a (.f 5 (.q false ["_law_k","_law_first","_law_step"] [none,some 3,some 4] (.j false .a (.e 1) (.j false .b (.e 0) (.e 2))) (.a 0) (.c (.e 0)) .b)) (.a (.g (.d (.a (.l .j (.s (.e 5) (.B (.g (.c 1)))) (.k .b false (.a (.e 1) .b)))) (.a (.a (.l .d (.q false ["_law_place","_law_hand_here","_law_stand"] [none,some 2,some 1] (.e 0) (.a 0) (.d (.e 5)) (.a (.a (.l .b (.s (.e 2) (.e 0)) (.e 1))) .b)) (.u false .b))) .b)) (.a (.d (.g (.e true))) .b) .b) .b))) .b)) (.a (.d (.g (.e false))) .b))⟩
noncomputable def yg:Fn:=⟨["_law_cell"],["_law_cell"],true,(.a (.d (.u true (.a (.e 0) (.a (.k .p false (.a (.l .k (.e 0) (.j false .f (.g (.c 10)) (.g (.c 18)))) .b)) (.a (.g (.c 0)) (.a (.j false .c (.e 0) (.g (.c 1000000007))) .b)))))) .b)⟩
noncomputable def ym:Fn:=⟨["_law_pen_here","_law_size","_law_many","_law_steps","_law_stand","_law_turn","_law_some"],["_law_pen_here","_law_size","_law_many","_law_steps"],false,(.a (.f 4 (.j false .b (.r (.a (.g (.c 0)) .b)) (.e 2))) (.a (.k (.a 5) (.c (.e 3)) (.a (.f 6 (.h "_law_free" 0 (.a (.e 1) (.a (.e 4) .b)))) (.a (.g (.a (.l .b (.e 6) (.r .b))) (.a (.f 4 (.h "_law_put" 0 (.a (.e 4) (.a (.s (.e 6) (.h "_law_draw" 0 (.a (.e 0) (.a (.k .b false (.a (.e 6) .b)) .b)))) .b)))) .b) .b) .b))) (.a (.d (.e 4)) .b)))⟩
noncomputable def xP:Fn:=⟨["_law_stand","_law_place"],["_law_stand","_law_place"],false,(.a (.d (.j false .a (.j false .a (.G false (.e 0) .b (.a (.e 1)) .b) (.r (.a (.h "_law_hand" 0 (.a (.e 0) .b)) .b))) (.G false (.e 0) (.a (.j false .a (.e 1) (.g (.c 1)))) .b .b))) .b)⟩
noncomputable def yS:Fn:=⟨["stand","place"],["stand","place"],false,(.a (.d (.j false .a (.j false .a (.G false (.e 0) .b (.a (.e 1)) .b) (.r (.a (.h "hand_due" 0 (.a (.e 0) .b)) .b))) (.G false (.e 0) (.a (.j false .a (.e 1) (.g (.c 1)))) .b .b))) .b)⟩
noncomputable def yn:Fn:=⟨["size","stand"],["size","stand"],false,(.a (.g (.a (.l .c (.h "winner" 0 (.a (.e 0) (.a (.e 1) .b))) (.g .h))) (.a (.d (.r .b)) .b) .b) (.a (.d (.k .c false (.a (.q false ["place","mark"] [none,none] (.e 0) (.b [0,1]) (.g (.e 1)) (.a (.a (.l .d (.e 1) (.A "FREE"))) .b)) .b))) .b))⟩
noncomputable def wB:Fn:=⟨["stand"],["stand"],false,(.a (.d (.C (.a (.l .d (.D .a false (.e 0) (.a (.s (.A "HANDS") (.g (.c 0))) .b)) (.D .a false (.e 0) (.a (.s (.A "HANDS") (.g (.c 1))) .b)))) (.s (.A "HANDS") (.g (.c 0))) (.s (.A "HANDS") (.g (.c 1))))) .b)⟩
noncomputable def wg:Fn:=⟨["size","stand","hand","rows"],["size","stand","hand"],false,(.a (.f 3 (.h "rows_in" 0 (.a (.k .b false (.a (.e 1) .b)) (.a (.e 0) .b)))) (.a (.d (.k .o false (.a (.q false ["first","step","hand","stand","size"] [none,none,some 2,some 1,some 0] (.y (.l .d (.s (.e 3) (.e 0)) (.e 2)) (.a (.h "is_one_hue" 0 (.a (.e 3) (.a (.e 0) (.a (.e 1) (.a (.e 4) .b))))) .b)) (.b [0,1]) (.d (.e 3)) .b) .b))) .b))⟩
noncomputable def xA:Fn:=⟨["size","stand","more"],["size","stand"],false,(.a (.f 2 (.j false .d (.D .a false (.e 1) (.a (.s (.A "HANDS") (.g (.c 0))) .b)) (.D .a false (.e 1) (.a (.s (.A "HANDS") (.g (.c 1))) .b)))) (.a (.d (.y (.w .e .e (.g (.c 0)) (.e 2) (.g (.c 1))) (.a (.I (.h "has_row" 0 (.a (.e 0) (.a (.e 1) (.a (.h "hand_due" 0 (.a (.e 1) .b)) .b))))) .b))) .b))⟩
noncomputable def xY:Fn:=⟨["thing"],["thing"],false,(.a (.d (.y (.k .h false (.a (.e 0) (.a (.J "tuple" "tuple") .b))) (.a (.w .e .e (.g (.c 1)) (.k .b false (.a (.e 0) .b)) (.A "MOST_STAND_PLACES")) (.a (.h "are_wholes" 0 (.a (.e 0) (.a (.A "FREE") (.a (.s (.A "HANDS") (.g (.c 1))) .b)))) .b)))) .b)⟩
noncomputable def yw:Fn:=⟨["size","thing"],["size","thing"],false,(.a (.h (.h "need_size" 0 (.a (.e 0) .b))) (.a (.d (.y (.h "is_marked" 0 (.a (.e 1) .b)) (.a (.h "is_in_turn" 0 (.a (.e 0) (.a (.e 1) .b))) .b))) .b))⟩
noncomputable def yA:Fn:=⟨["size","thing"],["size","thing"],false,(.a (.g (.b (.a (.h "is_stand" 0 (.a (.e 0) (.a (.e 1) .b))))) (.a (.j (.h "NoStand" 0 (.a (.g (.g "a stand of the size is due")) .b))) .b) .b) .b)⟩
noncomputable def xC:Fn:=⟨["hand"],["hand"],false,(.a (.d (.j false .d (.j false .a (.s (.A "HANDS") (.g (.c 0))) (.s (.A "HANDS") (.g (.c 1)))) (.e 0))) .b)⟩
noncomputable def wj:Fn:=⟨["length","size"],["length","size"],false,(.a (.h (.h "need_length" 0 (.a (.e 0) .b))) (.a (.h (.h "need_size" 0 (.a (.e 1) .b))) (.a (.d (.z false ["first","step","length","size"] [none,none,some 0,some 1] (.r (.a (.e 0) (.a (.e 1) .b))) (.a 0) (.c (.e 0)) .b (.a 1) (.f (.g (.c 1)) (.j false .a (.h "most_step" 0 (.a (.e 2) (.a (.e 0) (.a (.e 3) .b)))) (.g (.c 1)))) .b)) .b)))⟩
noncomputable def vU:Fn:=⟨["size","stand","last"],["size","stand"],false,(.a (.f 2 (.h "other_hand" 0 (.a (.h "hand_due" 0 (.a (.e 1) .b)) .b))) (.a (.d (.C (.a (.h "has_row" 0 (.a (.e 0) (.a (.e 1) (.a (.e 2) .b))))) (.e 2) (.g .h))) .b))⟩
end F75
end
section
namespace M
open PySem
noncomputable def qR(a b c d:Int):Cel:=.c [.c a,.c b,.c c,.c d]
def qi(s:Sto)(p:Nat):Prop:=∃a b c d,s[p]?=some (qR a b c d)/\0<=d/\d<1000000007
def vm(s:Sto)(p:Nat)(s':Sto):Prop:=∃a b c d,s'=s.set p (qR a b c d)/\0<=d/\d<1000000007
theorem qi.lt(h:qi s p):p<s.length:=by obtain⟨a,b,c,d,h,_⟩:=h;exact(Aj.mp h).1
theorem vm.at_(h:vm s p s')(hp:p<s.length):qi s' p:=by obtain⟨a,b,c,d,rfl,h1⟩:=h;exact⟨a,b,c,d,AM hp,h1⟩
theorem vm.trans(h:vm s p s1)(k:vm s1 p s2):vm s p s2:=by obtain⟨a,b,c,d,rfl,h1⟩:=h;obtain⟨a',b',c',d',rfl,h2⟩:=k;exact⟨a',b',c',d',by rw[List.set_set],h2⟩
theorem qi.refl(h:qi s p):vm s p s:=by obtain⟨a,b,c,d,h,h1⟩:=h;obtain⟨hp,e⟩:=Aj.mp h;exact⟨a,b,c,d,by rw[<-e,List.set_getElem_self],h1⟩
theorem kA(h:vm s p s')(hv:v.noRef=true):zi false s v s'=.e v s':=by obtain⟨a,b,c,d,rfl,_⟩:=h;exact eJ hv rfl
section
variable {T:Tbl}{Φ:Calls}{G:Str->Option Val}{env:Env}{s s1 s2 s3:Sto}
theorem YT(h:zo Φ G env es s=.e vs s1)(hl:vs.length<=zR):evE Φ G env (.u true es) s=.e (.k s1.length) (s1++[.c vs]):=bnd h (if_pos hl)
theorem YF(h:evT Φ G env c s=.e false s1):evT Φ G env (.d c cs) s=.e false s1:=bnd h rfl
theorem YG(h:evT Φ G env c s=.e true s1)(k:xJ Φ G env cs s1=.e b s2):evT Φ G env (.d c cs) s=.e b s2:=bnd h k
theorem fG(he:evE Φ G env e s=.e v s1)(ho:evE Φ G env o s1=.e (.k r) s1)(hi:evE Φ G env i s1=.e (.c k) s1)(hs:s1[r]?=some (.c vs))(hj:L2.ixN vs.length k=some j)
 (q:(zS Φ G env cs (s1.set r (.c (vs.set j v)))).post P):(zS Φ G env (.a (.l o i e) cs) s).post P:=by
 have e0:exS Φ G env (.l o i e) s=.e (.a env) (s1.set r (.c (vs.set j v))):=by show ((evE Φ G env e s).bind _)=_;rw[he,zO,ho,zO,hi,zO];simp only[hs,hj];rfl
 refine yE.mpr ?_;rw[e0];exact zE.mpr q
def W8(Φ:Calls):Prop:=∀(c:Int) (s:Sto),∃a b e d,Φ "_law_pen" 1 [.c c] s=.e (.k s.length) (s++[qR a b e d])/\0<=d/\d<1000000007
theorem Z2 c:∃a b e d,run T Φ F75.yg [.c c] s=.e (.k s.length) (s++[qR a b e d])/\0<=d/\d<1000000007:=by
 refine⟨c,if decide ((10:Int) ^ 18<=c) then 1 else 0,0,c%1000000007,?_,F8 _ (by omega),E2 _ (by omega)⟩
 rw[post_eq,F75.yg,yZ];refine⟨rfl,?_⟩;show (zS Φ T.b [some (.c c)] _ s).post _;refine zu (YT (zA (zB rfl) (zA (zh (zA (yF (zB rfl) (zc zD zD rfl) ge_int) zC) rfl) (zA zD (zA (zc (zB rfl) zD (bmod (by omega))) zC)))) (show 4<=zR by unfold zR;omega)) ?_
 exact zE.mpr ⟨rfl,rfl⟩
def nq(Φ:Calls):Prop:=∀(p:Nat) (m:Int) (s:Sto),qi s p->0<m->m<1000000->(Φ "_law_draw" 0 [.k p,.c m] s).post λv s'=>∃r:Nat,v=.c r/\(r:Int)<m/\vm s p s'
theorem dH(hp:qi s p)(h1:0<m)(h2:m<1000000):(run T Φ F75.yv [.k p,.c m] s).post λv s'=>∃r:Nat,v=.c r/\(r:Int)<m/\vm s p s':=by
 have hpl:=hp.lt;obtain⟨a,b,c,d,hs,hd0,hd1⟩:=hp;have ix:∀{s:Sto} {a b c d:Int} {k:Nat} {v:Val},s[p]?=some (qR a b c d)->[Val.c a,.c b,.c c,.c d][k]?=some v->wd (.k p) (.c k) s=.e v s:=λh h'=>UL h h';rw[F75.yv,yZ];refine⟨rfl,?_⟩;show (zS Φ T.b [some (.k p),some (.c m),none,none] _ s).post _;have tc:evT Φ T.b [some (.k p),some (.c m),none,none] (.d (.a (.l .d (.s (.e 0) (.g (.c 1))) (.g (.c 1)))) (.a (.a (.l .i (.s (.e 0) (.g (.c 0))) (.g (.c 0)))) .b)) s=.e (decide (b=1)&&decide (0<a)) s:=pk (zX (yF (xw (zB rfl) zD (ix (k:=1) hs rfl)) zD eq_int) zJ) (zX (yF (xw (zB rfl) zD (ix (k:=0) hs rfl)) zD gt_int) zJ);have fin':∀{x:Int} {s':Sto},vm s p s'->(zi false s (.c (x%m)) s').post λv s'=>∃r:Nat,v=.c r/\(r:Int)<m/\vm s p s':=λ{x s'} t=>by
  rw[kA t vA];have h3:=F8 x (show m≠0 by omega)
  have h4:=E2 x h1;exact zE.mpr ⟨(x%m).toNat,by congr 1;omega,by omega,t⟩
 cases hb:(decide (b=1)&&decide (0<a)) with
 |true=>
  rw[hb]at tc;refine tM tc (ye (zc (xw (zB rfl) zD (ix (k:=0) hs rfl)) (zB rfl) (bmod h1)) ?_);refine fG (j:=0) (zc (xw (zB rfl) zD (ix (k:=0) hs rfl)) (zB rfl) (bdiv ⟨h1,by omega⟩)) (zB rfl) zD hs rfl (zu (zB rfl) ?_)
  exact fin' ⟨a/m,b,c,d,rfl,hd0,hd1⟩
 |false=>
  rw[hb]at tc;refine xu tc ?_;refine fG (j:=2) (zc (xw (zB rfl) zD (ix (k:=2) hs rfl)) zD rM) (zB rfl) zD hs rfl ?_;have hs':(s.set p (qR a b (c+1) d))[p]?=some (qR a b (c+1) d):=AM hpl;show (zS Φ T.b [some (.k p),some (.c m),none,none] _ (s.set p (qR a b (c+1) d))).post _;refine ye (zc (zc (zc (xw (zB rfl) zD (ix (k:=3) hs' rfl)) zD rM) (zc zD (zc zD (xw (zB rfl) zD (ix (k:=2) hs' rfl)) (cy (by omega))) rM) (show binOp false .b (.c (d+17)) _ _=_ by simp only[binOp];rw[if_pos (.inl (by omega))])) zD (bmod (by omega))) ?_
  generalize hx:(d+17)*(69621+2*(c+1))%2147483647=x;have x0:0<=x:=by rw[<-hx];exact F8 _ (by omega)
  have x1:x<2147483647:=by rw[<-hx];exact E2 _ (by omega)
  refine ye (zc (zc (zc (zc (zB rfl) (zB rfl) (show binOp false .b (.c x) (.c x) _=_ by simp only[binOp];rw[if_pos (.inl (by omega))])) (zc zD (xw (zB rfl) zD (ix (k:=2) hs' rfl)) (cy (by omega))) rM) zD rM) zD (bmod (by omega))) ?_
  generalize hy:(x*x+40503*(c+1)+5)%2147483629=y;refine zu (zc (zc (zc (zc (zB rfl) zD (RH (by omega))) zD (bmod (by omega))) zD (bdiv ⟨by omega,by omega⟩)) (zB rfl) (bmod h1)) ?_
  exact fin' ⟨a,b,c+1,d,rfl,hd0,hd1⟩
end
end M
end
section
namespace M
open PySem
theorem kL:∀{vs},(∀v∈vs,v.noRef=true)->z7 vs=true
 |[],_=>qc
 |v::vs,h=>by rw[uZ,h v (.head _),kL λw hw=>h w (.tail _ hw)];rfl
def hasB(z:Nat)(st:List Int)(h:Int):Bool:=(xh st.length z).any λr=>xl st r.1 r.2 z h
noncomputable def zy(st:List Int):Nat:=if st.count 1=st.count 2 then 1 else 2
def yH(st:List Int):Nat:=3-zy st
noncomputable def w6(st:List Int):List Nat:=(Aq st.length).filter λp=>decide (st[p]?=some 0)
def vP(st:List Int)(p:Nat):List Int:=putL st p (zy st)
structure Stn(z:Nat)(st:List Int):Prop where
 c:2<=z
 g:z<=8
 n1:1<=st.length
 b:st.length<=8
 n:∀x∈st,0<=x/\x<=2
 l:st.count 2<=st.count 1
 i:st.count 1<=st.count 2+1
 o:hasB z st (zy st)=false
theorem ur st:(zy st=1/\yH st=2)\/(zy st=2/\yH st=1):=by
 unfold yH zy;by_cases h:st.count 1=st.count 2
 . rw[if_pos h];exact .inl ⟨rfl,rfl⟩
 . rw[if_neg h];exact .inr ⟨rfl,rfl⟩
theorem kG:p∈w6 st↔st[p]?=some 0:=by
 unfold w6;rw[Er,AZ];constructor
 . rintro ⟨_,h⟩;exact of_decide_eq_true h
 . intro h;exact⟨(Aj.mp h).1,decide_eq_true h⟩
theorem gL(hz:1<=z)(ha:xl st f d z h=true):st[f]?=some h:=by
 unfold xl at ha;have:=Ao.mp ha 0 (AZ.mpr (by omega))
 rw[Nat.zero_mul,Nat.add_zero]at this;exact of_decide_eq_true this
theorem uS(hz:2<=z):hasB z st h=true↔∃f d,0<d/\f+d*(z-1)<st.length/\xl st f d z h=true:=by
 unfold hasB;rw[Bl];constructor
 . rintro ⟨⟨f,d⟩,h1,h2⟩
   obtain⟨a,b⟩:=(pJ hz).mp h1;exact⟨f,d,a,b,h2⟩
 . rintro ⟨f,d,a,b,c⟩
   exact⟨(f,d),(pJ hz).mpr ⟨a,b⟩,c⟩
theorem tZ(hp:st[p]?=some 0):(putL st p y).count a+(if (0:Int)=a then 1 else 0)=st.count a+(if y=a then 1 else 0):=by
 obtain⟨hl,e⟩:=Aj.mp hp;rw[si hl,List.count_set hl,e];have e1:((0:Int) == a)=decide ((0:Int)=a):=rfl;have e2:(y == a)=decide (y=a):=rfl;rw[e1,e2];have:(0:Int)=a->1<=st.count a:=λz=>by rw[<-z];exact List.count_pos_iff.mpr (AA hp)
 by_cases h1:(0:Int)=a
 . have:=this h1
   by_cases h2:y=a<;>simp[h1,h2]<;>omega
 . by_cases h2:y=a<;>simp[h1,h2]
theorem Stn.put(h:Stn z st)(hw:hasB z st (yH st)=false)(hp:st[p]?=some 0):Stn z (vP st p)/\zy (vP st p)=yH st/\(vP st p).count 0+1=st.count 0/\(vP st p).length=st.length:=by
 obtain⟨hl,e⟩:=Aj.mp hp;have hlen:(vP st p).length=st.length:=by unfold vP;rw[si hl,Cb]
 have c0:=tZ (y:=zy st) (a:=0) hp;have c1:=tZ (y:=zy st) (a:=1) hp;have c2:=tZ (y:=zy st) (a:=2) hp;have c0:(vP st p).count 0+(if (0:Int)=0 then 1 else 0)=st.count 0+(if ((zy st:Nat):Int)=0 then 1 else 0):=c0
 have c1:(vP st p).count 1+(if (0:Int)=1 then 1 else 0)=st.count 1+(if ((zy st:Nat):Int)=1 then 1 else 0):=c1
 have c2:(vP st p).count 2+(if (0:Int)=2 then 1 else 0)=st.count 2+(if ((zy st:Nat):Int)=2 then 1 else 0):=c2
 have lo:=h.l;have hi:=h.i;have hh:∃k:Nat,zy st=k/\yH st=3-k/\(k=1/\st.count 1=st.count 2\/k=2/\st.count 1=st.count 2+1):=by
  refine⟨_,rfl,rfl,?_⟩;unfold zy;by_cases q:st.count 1=st.count 2
  . rw[if_pos q];exact .inl ⟨rfl,q⟩
  . rw[if_neg q];exact .inr ⟨rfl,by omega⟩
 obtain⟨k,hk,hlk,hk2⟩:=hh;rw[hk]at c0 c1 c2;have nh:zy (vP st p)=yH st:=by
  rw[hlk];unfold zy;rcases hk2 with⟨rfl,q⟩|⟨rfl,q⟩
  . simp at c1 c2
    rw[if_neg (by omega)]
  . simp at c1 c2
    rw[if_pos (by omega)]
 refine⟨⟨h.c,h.g,by rw[hlen];exact h.n1,by rw[hlen];exact h.b,λx hx=>?_,?_,?_,?_⟩,nh,?_,hlen⟩
 . unfold vP at hx
   rw[si hl]at hx;rcases List.mem_or_eq_of_mem_set hx with hx|rfl
   . exact h.n x hx
   . rw[hk];omega
 . rcases hk2 with⟨rfl,q⟩|⟨rfl,q⟩<;>simp at c1 c2<;>omega
 . rcases hk2 with⟨rfl,q⟩|⟨rfl,q⟩<;>simp at c1 c2<;>omega
 . rw[nh]
   cases hb:hasB z (vP st p) (yH st) with
   |false=>rfl
   |true=>
    obtain⟨f,d,h1,h2,h3⟩:=(uS h.c).mp hb;have:hasB z st (yH st)=true:=(uS h.c).mpr ⟨f,d,h1,by rw[<-hlen];exact h2,by
     unfold xl at h3 ⊢;rw[Ao]at h3 ⊢;intro j hj;have:=of_decide_eq_true (h3 j hj);refine decide_eq_true ?_;unfold vP at this;rw[si hl]at this;by_cases q:p=f+j*d
     . rw[<-q,AM hl]at this
       have:=Aw this;rw[hk,hlk]at this;omega
     . rw[Bw q]at this
       exact this⟩
    rw[hw]at this;cases this
 . rcases hk2 with⟨rfl,q⟩|⟨rfl,q⟩<;>simp at c0<;>omega
section
variable {T:Tbl}{Φ:Calls}{s:Sto}
theorem uh:yK .a (tpI st) [.c h] s=.e (.c (st.count h)) s:=by
 have e:∀l:List Int,(l.map Val.c).countP (λz=>eqF z (.c h))=l.count h:=by
  intro l;induction l with
  |nil=>rfl
  |cons a l ih=>rw[AJ,CO,ih,F6];rfl
 have f:(st.map Val.c).all flat=true:=Ao.mpr λv hv=>by obtain⟨i,_,rfl⟩:=AO.mp hv;rfl
 show (if (flat (.c h)&&(st.map Val.c).all flat)=true then Out.e (Val.c ((st.map Val.c).countP λz=>eqF z (.c h):Nat)) s else .d)=_
 rw[f,e];rfl
structure GlS(T:Tbl):Prop where
 mp:T.b "MOST_PLACES"=some (.c 40)
 ls:T.b "LEAST_SIZE"=some (.c 2)
 ms:T.b "MOST_SIZE"=some (.c 8)
 fr:T.b "FREE"=some (.c 0)
 a:T.b "HANDS"=some (.m [1,2])
 mo:T.b "MOST_STAND_PLACES"=some (.c 8)
theorem ha0:wd (.m [1,2]) (.c 0) s=.e (.c 1) s:=rfl
theorem ha1:wd (.m [1,2]) (.c 1) s=.e (.c 2) s:=rfl
def d9(Φ:Calls):Prop:=∀(h:Int) (s:Sto),Φ "other_hand" 0 [.c h] s=.e (.c (3-h)) s
theorem dQ(g:GlS T):run T Φ F75.xC [.c h] s=.e (.c (3-h)) s:=by rw[post_eq,F75.xC,yZ];refine⟨rfl,?_⟩;show (zS Φ T.b [some (.c h)] _ s).post _;refine zu (zc (zc (xw (uL g.a) zD ha0) (xw (uL g.a) zD ha1) rM) (zB rfl) fQ) ?_;show (zi false s _ s).post _;rw[zq vA];exact zE.mpr ⟨rfl,rfl⟩
def dy(Φ:Calls):Prop:=∀(st:List Int) (s:Sto),Φ "hand_due" 0 [tpI st] s=.e (.c (zy st)) s
theorem vN(h1:evE Φ G env o s=.e x s1)(h2:zo Φ G env es s1=.e vs s2)(h3:yK f x vs s2=r):evE Φ G env (.D f m o es) s=r:=bnd h1 (bnd h2 h3)
theorem WX(g:GlS T):run T Φ F75.wB [tpI st] s=.e (.c (zy st)) s:=by
 rw[post_eq,F75.wB,yZ];refine⟨rfl,?_⟩;show (zS Φ T.b [some (tpI st)] _ s).post _;have tc:=zX (Φ:=Φ) (G:=T.b) (env:=[some (tpI st)]) (s:=s) (yF (vN (f:=.a) (m:=false) (o:=.e 0) (zB rfl) (zA (xw (a:=.A "HANDS") (uL g.a) (b:=.g (.c 0)) zD ha0) zC) uh) (vN (f:=.a) (m:=false) (o:=.e 0) (zB rfl) (zA (xw (a:=.A "HANDS") (uL g.a) (b:=.g (.c 1)) zD ha1) zC) uh) eq_int) zJ;have fin':∀{k:Nat},zy st=k->(zi false s (.c (k:Int)) s).post λx t=>x=.c (zy st)/\t=s:=λ{k} e=>by rw[zq vA,e];exact zE.mpr ⟨rfl,rfl⟩
 by_cases h:st.count 1=st.count 2
 . rw[decide_eq_true (show ((st.count 1:Nat):Int)=(st.count 2:Nat) by omega)]at tc
   exact zu (lM tc (xw (uL g.a) zD ha0)) (fin' (k:=1) (by unfold zy;rw[if_pos h]))
 . rw[decide_eq_false (show ¬((st.count 1:Nat):Int)=(st.count 2:Nat) by omega)]at tc
   exact zu (lL tc (xw (uL g.a) zD ha1)) (fin' (k:=2) (by unfold zy;rw[if_neg h]))
def gH(Φ:Calls):Prop:=∀(n z:Nat) (s:Sto),n<=40->2<=z->z<=8->Φ "rows_in" 0 [.c n,.c z] s=.e (.j ((xh n z).map pY)) s
def riG(n z:Nat):Val->List Val
 |.c f=>(qS n z f.toNat).map pY
 |_=>[]
theorem iW(cL:qF Φ)(cS:rF Φ)(cM:W7 Φ){n z:Nat}(hn:n<=40)(hz:2<=z)(hz8:z<=8):run T Φ F75.wj [.c n,.c z] s=.e (.j ((xh n z).map pY)) s:=by
 have hfl:(yu 0 n).flatMap (riG n z)=(xh n z).map pY:=by unfold yu xh;rw[CQ,List.map_flatMap];congr 1;funext a;rw[DN];rfl
 have hlen:((xh n z).map pY).length<=zR:=by rw[Aa];have h1:=gc n z n;have h2:n*n<=40*40:=Gm hn hn;unfold xh zR;omega
 rw[post_eq,F75.wj,yZ];refine⟨rfl,?_⟩;show (zS Φ T.b [some (.c n),some (.c z)] _ s).post _;refine wK (x_call (zA (zB rfl) zC) (cL n s (by omega) (by omega))) (wK (x_call (zA (zB rfl) zC) (cS z s (by omega) (by omega))) ?_)
 refine yE.mpr (ZQ.mpr ?_);refine WA (λe=>∃o1 o2,e=[o1,o2,some (.c n),some (.c z)]) (riG n z) (λx e=>∃o2,e=[some x,o2,some (.c n),some (.c z)]) (λx y=>[.f [x,y]]) ⟨_,_,qK (zB rfl) (by unfold zR;omega),rfl,⟨_,_,rfl⟩,?_,?_,?_⟩
 . rintro x hx e ⟨o1,o2,rfl⟩
   obtain⟨a,ha,rfl⟩:=qb hx;have hq:(n-1-a)/(z-1)<=40:=Au (Nat.div_le_self _ _) (by omega)
   refine⟨_,rfl,v8.mpr ⟨rfl,?_⟩⟩;rw[if_pos rfl];have c4:Φ "most_step" 0 [.c n,.c (0+(a:Int)),.c z] s=.e (.c ((n-1-a)/(z-1):Nat)) s:=by rw[DN];exact cM n a z s ha hz hz8
   refine⟨_,_,VO (i:=1) (j:=(n-1-a)/(z-1)+1) zD (zc (x_call (zA (zB rfl) (zA (zB rfl) (zA (zB rfl) zC))) c4) zD rM) (by omega) (by omega),rfl,rfl,⟨_,rfl⟩,?_,?_,?_⟩
   . rintro e ⟨o,rfl⟩;exact⟨_,_,rfl⟩
   . show (qS n z (0+(a:Int)).toNat).map pY=_
     rw[DN,AN];unfold qS yu;rw[BV,CQ];rw[show (λ(k:Nat)=>[Val.f [.c (a:Int),.c (((1:Nat):Int)+(k:Int))]])=λk=>[(λ(k:Nat)=>Val.f [.c (a:Int),.c (((1:Nat):Int)+(k:Int))]) k] from rfl,lj];refine BS λj _=>?_;show Val.f [.c (a:Int),.c ((j+1:Nat):Int)]=_;rw[show ((j+1:Nat):Int)=((1:Nat):Int)+(j:Int) by omega]
   . rintro y hy e ⟨o,rfl⟩
     obtain⟨d,hd,rfl⟩:=qb hy;refine⟨_,rfl,⟨_,rfl⟩,v8.mpr ⟨rfl,?_⟩⟩;rw[if_pos rfl];show (evE Φ T.b [some (.c (0+(a:Int))),some (.c (((1:Nat):Int)+(d:Int))),some (.c n),some (.c z)] _ s).post _;rw[yM (zA (zB rfl) (zA (zB rfl) zC)) (show 2<=zR by unfold zR;omega)]
     exact zE.mpr ⟨rfl,rfl⟩
 . show Small ((yu 0 n).flatMap _)
   rw[hfl];exact hlen
 . show (newList false ((yu 0 n).flatMap _) s).post _
   rw[hfl];refine zE.mpr ?_;show (zi false s _ s).post _;rw[zq (by rw[j8];exact kL λv hv=>by obtain⟨r,_,rfl⟩:=AO.mp hv;rw[pY,pP,uZ,uZ,qc,vA,vA];rfl)]
   exact zE.mpr ⟨rfl,rfl⟩
def jQ(f:Str)(Φ:Calls):Prop:=∀(z:Nat) (st:List Int) (h:Nat) (s:Sto),2<=z->z<=8->st.length<=40->Φ f 0 [.c z,tpI st,.c h] s=.e (.e (hasB z st h)) s
theorem WY(cR:gH Φ)(cO:Sw Φ){z h:Nat}(hz:2<=z)(hz8:z<=8)(hn:st.length<=40):run T Φ F75.wg [.c z,tpI st,.c h] s=.e (.e (hasB z st h)) s:=by
 have hl:blt .b false [tpI st] s=.e (.c st.length) s:=by rw[tL,Aa]
 rw[post_eq,F75.wg,yZ];refine⟨rfl,?_⟩;show (zS Φ T.b [some (.c z),some (tpI st),some (.c h),none] _ s).post _;refine ye (x_call (zA (zh (zA (zB rfl) zC) hl) (zA (zB rfl) zC)) (cR st.length z s hn hz hz8)) ?_;have hc:evE Φ T.b [some (.c z),some (tpI st),some (.c h),some (.j ((xh st.length z).map pY))] (.q false ["first","step","hand","stand","size"] [none,none,some 2,some 1,some 0] (.y (.l .d (.s (.e 3) (.e 0)) (.e 2)) (.a (.h "is_one_hue" 0 (.a (.e 3) (.a (.e 0) (.a (.e 1) (.a (.e 4) .b))))) .b)) (.b [0,1]) (.d (.e 3)) .b) s=.e (.j ((xh st.length z).map λr=>.e (xl st r.1 r.2 z h))) s:=by
  rw[post_eq];refine v5 (λe=>∃a b,e=[a,b,some (.c h),some (tpI st),some (.c z)]) (λx=>match x with|.f [.c f,.c d]=>[.e (xl st f.toNat d.toNat z h)]|_=>[]) ((xh st.length z).map pY) (s1:=s) (uV (zB rfl) rfl) ⟨_,_,rfl⟩ ?_ ?_
  . rintro x hx e ⟨a,b,rfl⟩
    obtain⟨⟨f,d⟩,hr,rfl⟩:=AO.mp hx;obtain⟨hd,hb⟩:=(pJ hz).mp hr;have hf:f<st.length:=by omega
    refine⟨[some (.c (f:Int)),some (.c (d:Int)),some (.c h),some (tpI st),some (.c z)],rfl,⟨_,_,rfl⟩,v8.mpr ⟨rfl,?_⟩⟩;rw[if_pos rfl];have hx:=pF (s:=s) (xd hf);have c1:=cO st f d z s hd (by omega) hb (by unfold zR;omega)
    have e1:(match pY (f,d) with|.f [.c f,.c d]=>[Val.e (xl st f.toNat d.toNat z h)]|_=>[])=[Val.e (xl st f d z h)]:=by show [Val.e (xl st (f:Int).toNat (d:Int).toNat z h)]=_;rw[AN,AN]
    by_cases q:st[f]=(h:Int)
    . have hq:st[f]?=some (h:Int):=by rw[xd hf,q]
      rw[fN (yF (xw (zB rfl) (zB rfl) hx) (zB rfl) (by rw[eq_int,decide_eq_true q])) (x_call (zA (zB rfl) (zA (zB rfl) (zA (zB rfl) (zA (zB rfl) zC)))) c1)]
      exact zE.mpr ⟨rfl,by rw[e1,cg hq]⟩
    . rw[oD (yF (xw (zB rfl) (zB rfl) hx) (zB rfl) (by rw[eq_int,decide_eq_false q]))]
      refine zE.mpr ⟨rfl,?_⟩;rw[e1];cases hA:xl st f d z h with
      |false=>rfl
      |true=>
       have:=gL (by omega) hA
       rw[xd hf]at this;exact absurd (Aw this) q
  . have:((xh st.length z).map pY).flatMap (λx=>match x with|.f [.c f,.c d]=>[Val.e (xl st f.toNat d.toNat z h)]|_=>[])=(xh st.length z).map λr=>Val.e (xl st r.1 r.2 z h):=by rw[CQ,<-lj];rfl
    rw[this];exact zE.mpr ⟨rfl,rfl⟩
 have ha:blt .o false [.j ((xh st.length z).map λr=>Val.e (xl st r.1 r.2 z h))] s=.e (.e (hasB z st h)) s:=by
  show (match boolsOf ((xh st.length z).map λr=>Val.e (xl st r.1 r.2 z h)) with|some bs=>Out.e (Val.e (bs.any id)) s|dr=>.d)=_
  rw[uN];show Out.e (Val.e (((xh st.length z).map _).any id)) s=_;rw[FR];rfl
 refine zu (zh (zA hc zC) ha) ?_;show (zi false s _ s).post _;rw[zq yV];exact zE.mpr ⟨rfl,rfl⟩
end
end M
end
section
namespace M
open PySem
theorem pA:∀st,(w6 st).length=st.count 0
 |[]=>rfl
 |a::st=>by
  have ih:=pA st;unfold w6 at ih ⊢;rw[AK,Cp,Ec,F9,F6];have e:((λp=>decide ((a::st)[p]?=some 0))∘Nat.succ)=λp=>decide (st[p]?=some 0):=by funext p;rfl
  rw[e];have e0:decide ((a::st)[0]?=some 0)=(a == 0):=by
   show decide (some a=some 0)=(a == 0);by_cases h:a=0
   . subst h;rfl
   . rw[decide_eq_false (λq=>h (Aw q))];simp[h]
  rw[e0];cases a == 0 with
  |true=>simp[ih]
  |false=>simp[ih]
theorem l5:∀ns:List Int,intsOf (ns.map .c)=some ns
 |[]=>rfl
 |n::ns=>by show (intsOf (ns.map .c)).map _=_;rw[l5 ns];rfl
noncomputable def frG:Val->List Val
 |.f [.c p,.c m]=>if m=0 then [.c p] else []
 |_=>[]
theorem VJ:∀(st:List Int) n,(xI n (st.map .c)).flatMap frG=((Aq st.length).filter λp=>decide (st[p]?=some 0)).map λp =>Val.c ((n+p:Nat):Int)
 |[],_=>rfl
 |a::st,n=>by
  rw[AJ,xI,D0,VJ st (n+1),AK,Cp,Ec,F9];have e:((λp=>decide ((a::st)[p]?=some 0))∘Nat.succ)=λp=>decide (st[p]?=some 0):=by funext p;rfl
  have e0:decide ((a::st)[0]?=some 0)=decide (a=0):=by
   show decide (some a=some 0)=_;by_cases h:a=0
   . subst h;rfl
   . rw[decide_eq_false (λq=>h (Aw q)),decide_eq_false h]
  rw[e,e0];have m1:∀l:List Nat,(l.map λ(p:Nat)=>Val.c ((n+1+p:Nat):Int))=(l.map Nat.succ).map λ(p:Nat)=>Val.c ((n+p:Nat):Int):=λl=>by rw[BV];refine BS λp _=>?_;show Val.c ((n+1+p:Nat):Int)=Val.c ((n+(p+1):Nat):Int);rw[show n+1+p=n+(p+1) by omega]
  rw[m1];show (if a=0 then [Val.c (n:Int)] else [])++_=_
  by_cases h:a=0
  . rw[if_pos h,decide_eq_true h,if_pos rfl,AJ];rfl
  . rw[if_neg h,decide_eq_false h,if_neg Ab];rfl
section
variable {T:Tbl}{Φ:Calls}{s:Sto}
def vF(z:Nat)(st:List Int):Val:=if hasB z st (yH st) then .c (yH st) else .h
def nu(Φ:Calls):Prop:=∀(z:Nat) (st:List Int) (s:Sto),2<=z->z<=8->st.length<=40->Φ "winner" 0 [.c z,tpI st] s=.e (vF z st) s
theorem last_eq st:(3:Int)-(zy st:Nat)=(yH st:Nat):=by
 rcases ur st with⟨h1,h2⟩|⟨h1,h2⟩<;>rw[h1,h2]<;>rfl
theorem iZ(cO:d9 Φ)(cD:dy Φ)(cH:jQ "has_row" Φ){z:Nat}(hz:2<=z)(hz8:z<=8)(hn:st.length<=40):run T Φ F75.vU [.c z,tpI st] s=.e (vF z st) s:=by
 rw[post_eq,F75.vU,yZ];refine⟨rfl,?_⟩;show (zS Φ T.b [some (.c z),some (tpI st),none] _ s).post _;refine ye (x_call (zA (x_call (zA (zB rfl) zC) (cD st s)) zC) (cO _ s)) ?_;rw[last_eq];have tc:evT Φ T.b [some (.c z),some (tpI st),some (.c (yH st:Nat))] (.a (.h "has_row" 0 (.a (.e 0) (.a (.e 1) (.a (.e 2) .b))))) s=.e (hasB z st (yH st)) s:=zX (x_call (zA (zB rfl) (zA (zB rfl) (zA (zB rfl) zC))) (cH z st (yH st) s hz hz8 hn)) zJ;have fin':∀{v:Val},v=vF z st->(zi false s v s).post λx t=>x=vF z st/\t=s:=λ{v} e=>by rw[zq (by rw[e];unfold vF;split;exact vA;exact uw),e];exact zE.mpr ⟨rfl,rfl⟩
 cases hb:hasB z st (yH st) with
 |true=>rw[hb]at tc;exact zu (lM tc (zB rfl)) (fin' (by unfold vF;rw[if_pos hb]))
 |false=>rw[hb]at tc;exact zu (lL tc zD) (fin' (by unfold vF;rw[if_neg (by rw[hb];exact Ab)]))
theorem W0:zW .c (vF z st) .h s=.e (.e (hasB z st (yH st))) s:=by unfold vF;cases hb:hasB z st (yH st)<;>rfl
def zY(z:Nat)(st:List Int):List Nat:=if hasB z st (yH st) then [] else w6 st
def sD(f:Str)(Φ:Calls):Prop:=∀(z:Nat) (st:List Int) (s:Sto),Stn z st->Φ f 0 [.c z,tpI st] s=.e (xp (zY z st)) s
theorem j7:(xp hs).noRef=true:=by rw[gh,pP];exact vK _
theorem Zz(g:GlS T)(cW:nu Φ)(h:Stn z st):run T Φ F75.yn [.c z,tpI st] s=.e (xp (zY z st)) s:=by
 have h8:=h.b;rw[post_eq,F75.yn,yZ];refine⟨rfl,?_⟩;show (zS Φ T.b [some (.c z),some (tpI st)] _ s).post _;have tc:evT Φ T.b [some (.c z),some (tpI st)] (.a (.l .c (.h "winner" 0 (.a (.e 0) (.a (.e 1) .b))) (.g .h))) s=.e (hasB z st (yH st)) s:=zX (yF (x_call (zA (zB rfl) (zA (zB rfl) zC)) (cW z st s h.c h.g (by omega))) zD W0) zJ
 have fin':∀{v:Val},v=xp (zY z st)->(zi false s v s).post λx t=>x=xp (zY z st)/\t=s:=λ{v} e=>by rw[zq (by rw[e];exact j7),e];exact zE.mpr ⟨rfl,rfl⟩
 cases hb:hasB z st (yH st) with
 |true=>
  rw[hb]at tc;exact tM tc (zu (yM zC (A9 _)) (fin' (by unfold zY;rw[if_pos hb];rfl)))
 |false=>
  rw[hb]at tc;refine xu tc ?_;have hc:evE Φ T.b [some (.c z),some (tpI st)] (.q false ["place","mark"] [none,none] (.e 0) (.b [0,1]) (.g (.e 1)) (.a (.a (.l .d (.e 1) (.A "FREE"))) .b)) s=.e (.j ((w6 st).map λ(p:Nat)=>Val.c p)) s:=by
   rw[post_eq];refine v5 (λe=>∃a b,e=[a,b]) frG (xI 0 (st.map .c)) (s1:=s) (XH (zB rfl)) ⟨_,_,rfl⟩ ?_ ?_
   . rintro x hx e ⟨a,b,rfl⟩
     obtain⟨k,v,hv,rfl⟩:=kF hx;rw[AG]at hv;obtain⟨m,hm,rfl⟩:=A4.mp hv;refine⟨[some (.c ((0+k:Nat):Int)),some (.c m)],rfl,⟨_,_,rfl⟩,?_⟩;rw[sC (zX (yF (zB rfl) (uL g.fr) eq_int) zJ)];refine zE.mpr ⟨rfl,?_⟩;show if decide (m=0)=true then _ else (if m=0 then [Val.c ((0+k:Nat):Int)] else [])=[]
     by_cases q:m=0
     . rw[decide_eq_true q,if_pos rfl]
       refine g7.mpr ⟨_,rfl,rfl,?_⟩;show (if m=0 then [Val.c ((0+k:Nat):Int)] else [])=_
       rw[if_pos q]
     . rw[decide_eq_false q,if_neg Ab,if_neg q]
   . rw[VJ]
     refine zE.mpr ⟨?_,rfl⟩;show Val.j (((Aq st.length).filter _).map _)=_;congr 1;refine BS λp _=>?_;show Val.c ((0+p:Nat):Int)=_;rw[FT]
  exact zu (zh (zA hc zC) rfl) (fin' (by unfold zY;rw[if_neg (by rw[hb];exact Ab)];rfl))
def vT(f:Str)(Φ:Calls):Prop:=∀(st:List Int) (p:Nat) (s:Sto),p<st.length->st.length<=40->st.count 2<=st.count 1->st.count 1<=st.count 2+1->Φ f 0 [tpI st,.c p] s=.e (tpI (vP st p)) s
theorem ma:(tpI ns).noRef=true:=by rw[pP];exact vK _
theorem km(cD:dy Φ){p:Nat}(hp:p<st.length)(hn:st.length<=40):run T Φ F75.yS [tpI st,.c p] s=.e (tpI (vP st p)) s:=by rw[post_eq,F75.yS,yZ];refine⟨rfl,?_⟩;show (zS Φ T.b [some (tpI st),some (.c p)] _ s).post _;refine zu (Zl (f:=p) (h:=zy st) rfl (zB rfl) (x_call (zA (zB rfl) zC) (cD st s)) hp hn) ?_;show (zi false s _ s).post _;rw[zq ma];exact zE.mpr ⟨rfl,rfl⟩
def cA(Φ:Calls):Prop:=∀(z:Nat) (st:List Int) (s:Sto),Stn z st->Φ "is_stand" 0 [.c z,tpI st] s=.e (.e true) s
def x9(Φ:Calls):Prop:=∀(z:Nat) (st:List Int) (s:Sto),Stn z st->Φ "need_stand" 0 [.c z,tpI st] s=.e .h s
theorem oP(cS:cA Φ)(h:Stn z st):run T Φ F75.yA [.c z,tpI st] s=.e .h s:=by rw[post_eq,F75.yA,yZ];refine⟨rfl,?_⟩;show (zS Φ T.b [some (.c z),some (tpI st)] _ s).post _;refine xu (vj (zX (x_call (zA (zB rfl) (zA (zB rfl) zC)) (cS z st s h)) zJ)) (vg ?_);show (zi false s _ s).post _;rw[zq uw];exact zE.mpr ⟨rfl,rfl⟩
end
end M
end
section
namespace M
open PySem
section
variable {T:Tbl}{Φ:Calls}{s:Sto}
theorem count_le(h:Stn z st):st.count 0<=8:=Au List.count_le_length h.b
end
end M
end
section
namespace M
open PySem
theorem Zu(lo n:Nat):yu (lo:Int) n=(Ds lo n).map λ(k:Nat)=>Val.c k:=by unfold yu;rw[List.range'_eq_map_range,BV];refine BS λk _=>?_;show Val.c ((lo:Int)+k)=Val.c ((lo+k:Nat):Int);congr 1
theorem Xq:zW .b (tpI ns) (.f []) s=.e (.e !ns.isEmpty) s:=by
 cases ns with
 |nil=>rfl
 |cons a ns=>
  have e0:zt s (tpI (a::ns))=tpI (a::ns):=by show Val.f (((a::ns).map Val.c).map (yR s))=_;rw[BV];rfl
  have h1:(tpI (a::ns)).isD=true:=by rw[Val.isD];exact rX _
  have h2:(Val.f []).isD=true:=by rw[Val.isD,wF]
  have h3:(Val.f []).d=.tuple []:=by rw[Val.d,ds]
  have h4:(tpI (a::ns)).d=.tuple (.int a::ns.map PyData.int):=by rw[Val.d,gT];rfl
  show (match rT (zt s (tpI (a::ns))) (.f []) with|some b=>Out.e (Val.e !b) s|dr=>.d)=_
  rw[e0];unfold rT;rw[h1,h2,h3,h4];rfl
section
variable {T:Tbl}{Φ:Calls}{s:Sto}
theorem Z0{z h:Nat}(hz:2<=z)(hz8:z<=8)(hn:st.length<=40):run T Φ F75.wA [.c z,tpI st,.c h] s=.e (.e (hasB z st h)) s:=by
 have hl:∀s,blt .b false [tpI st] s=.e (.c st.length) s:=λs=>by rw[tL,Aa]
 rw[post_eq,F75.wA,yZ];refine⟨rfl,?_⟩;show (zS Φ T.b [some (.c z),some (tpI st),some (.c h),none,none,none] _ s).post _;have fin':∀{b:Bool},hasB z st h=b->(zi false s (.e b) s).post λx t=>x=.e (hasB z st h)/\t=s:=λ{b} e=>by rw[zq yV,e];exact zE.mpr ⟨rfl,rfl⟩
 refine yE.mpr (ub (λrest e s'=>s'=s/\(∃o1 o2 o3,e=[some (.c z),some (tpI st),some (.c h),o1,o2,o3])/\∃j m,j+m=st.length/\rest=(Ds j m).map (λ(k:Nat)=>Val.c k)/\∀f d,f<j->0<d->f+d*(z-1)<st.length->xl st f d z h=false) ((Ds 0 st.length).map λ(k:Nat)=>Val.c k) (s1:=s) (by rw[<-Zu];exact qK (zh (zA (zB rfl) zC) (hl s)) (by unfold zR;omega)) ⟨rfl,⟨_,_,_,rfl⟩,0,st.length,by omega,rfl,λf d q=>by omega⟩ ?_ ?_)
 . rintro x rest e s' ⟨rfl,⟨o1,o2,o3,rfl⟩,j,m,hjm,hr,hno⟩
   cases m with
   |zero=>cases hr
   |succ m=>
    rw[Ed,AJ]at hr;obtain⟨rfl,rfl⟩:=Fh hr;refine⟨_,rfl,?_⟩;show (zS Φ T.b [some (.c z),some (tpI st),some (.c h),some (.c (j:Int)),o2,o3] _ s').post _;refine yE.mpr (ub (λrest2 e s2=>s2=s'/\(∃o2 o3,e=[some (.c z),some (tpI st),some (.c h),some (.c (j:Int)),o2,o3])/\∃i k,i+k=st.length/\1<=i/\rest2=(Ds i k).map (λ(k:Nat)=>Val.c k)/\∀d,d<i->0<d->j+d*(z-1)<st.length->xl st j d z h=false) ((Ds 1 (st.length-1)).map λ(k:Nat)=>Val.c k) (s1:=s') (by rw[<-Zu];exact VO (i:=1) zD (zh (zA (zB rfl) zC) (hl s')) (by omega) (by omega)) ⟨rfl,⟨_,_,rfl⟩,1,st.length-1,by omega,by omega,rfl,λd q1 q2=>by omega⟩ ?_ ?_)
    . rintro x rest2 e s2 ⟨rfl,⟨o2,o3,rfl⟩,i,k,hik,hi1,hr2,hno2⟩
      cases k with
      |zero=>cases hr2
      |succ k=>
       rw[Ed,AJ]at hr2;obtain⟨rfl,rfl⟩:=Fh hr2;refine⟨_,rfl,?_⟩;show (zS Φ T.b [some (.c z),some (tpI st),some (.c h),some (.c (j:Int)),some (.c (i:Int)),o3] _ s2).post _;refine ye (Vq (e0:=[some (.c (j:Int)),some (.c (i:Int))]) (n:=z) (f:=λk=>((j+k*i:Nat):Int)) (qK (zB rfl) (by unfold zR;omega)) rfl (λk o hk=>?_) (by unfold zR;omega)) ?_
       . rw[zc (zB rfl) (zc (zB rfl) (zB rfl) (cy (by omega))) rM]
         congr 2
       . show (zS Φ T.b [some (.c z),some (tpI st),some (.c h),some (.c (j:Int)),some (.c (i:Int)),some (.j ((zx j i z).map .c))] _ s2).post _
         have lp:=ju (s:=s2) (f:=j) (d:=i) (z:=z) (by omega)
         have next:∀{o:Option Val},(j+i*(z-1)<st.length->xl st j i z h=false)->s2=s2/\(∃o2 o3,[some (.c z),some (tpI st),some (.c h),some (.c (j:Int)),some (.c (i:Int)),o]=[some (.c z),some (tpI st),some (.c h),some (.c (j:Int)),o2,o3])/\∃i' k',i'+k'=st.length/\1<=i'/\(Ds (i+1) k).map (λ(k:Nat)=>Val.c k)=(Ds i' k').map (λ(k:Nat)=>Val.c k)/\∀d,d<i'->0<d->j+d*(z-1)<st.length->xl st j d z h=false:=λ{o} q=>⟨rfl,⟨_,_,rfl⟩,i+1,k,by omega,by omega,rfl,λd h1 h2 h3=>by
          rcases Nat.lt_or_ge d i with q1|q1
          . exact hno2 d q1 h2 h3
          . obtain rfl:d=i:=by omega
            exact q h3⟩
         have t1:evT Φ T.b [some (.c z),some (tpI st),some (.c h),some (.c (j:Int)),some (.c (i:Int)),some (.j ((zx j i z).map .c))] (.a (.l .j (.s (.e 5) (.B (.g (.c 1)))) (.k .b false (.a (.e 1) .b)))) s2=.e (decide (((j+(z-1)*i:Nat):Int)<(st.length:Int))) s2:=zX (yF (xw (zB rfl) (jM zD) lp) (zh (zA (zB rfl) zC) (hl s2)) lt_int) zJ;have hcm:(z-1)*i=i*(z-1):=Cv _ _;by_cases hin:j+i*(z-1)<st.length
         . rw[decide_eq_true (by omega)]at t1
           have inr:∀x∈zx j i z,∃y,st[x.toNat]?=some y/\0<=x:=λx hx=>by
            unfold zx at hx;obtain⟨k,hk,rfl⟩:=AO.mp hx;have hk:=AZ.mp hk;have:k*i<=(z-1)*i:=BP _ (by omega)
            have hlt:j+k*i<st.length:=by omega
            rw[AN];exact⟨_,xd hlt,by omega⟩
           have hc:=Vp (Φ:=Φ) (G:=T.b) (env:=[some (.c z),some (tpI st),some (.c h),some (.c (j:Int)),some (.c (i:Int)),some (.j ((zx j i z).map .c))]) (s:=s2) (N:=["_law_place","_law_hand_here","_law_stand"]) (fr:=[none,some 2,some 1]) (it:=.d (.e 5)) (ifs:=.a (.a (.l .b (.s (.e 2) (.e 0)) (.e 1))) .b) (ks:=zx j i z) (bad:=λx=>!decide (st[x.toNat]?=some (h:Int))) (e0:=[some (.c h),some (tpI st)]) (uV (zB rfl) rfl) rfl (λx hx=>by
            obtain⟨y,hy,h0⟩:=inr x hx;have ix:=pF (s:=s2) hy;rw[Int.toNat_of_nonneg h0]at ix;rw[sC (zX (yF (xw (zB rfl) (zB rfl) ix) (zB rfl) ne_int) zJ),hy];congr 2;by_cases q:y=(h:Int)
            . rw[decide_eq_true q,decide_eq_true (by rw[q])]
            . rw[decide_eq_false q,decide_eq_false (λz=>q (Aw z))])
           have t2:evT Φ T.b [some (.c z),some (tpI st),some (.c h),some (.c (j:Int)),some (.c (i:Int)),some (.j ((zx j i z).map .c))] (.a (.l .d (.q false ["_law_place","_law_hand_here","_law_stand"] [none,some 2,some 1] (.e 0) (.a 0) (.d (.e 5)) (.a (.a (.l .b (.s (.e 2) (.e 0)) (.e 1))) .b)) (.u false .b))) s2=.e (xl st j i z h) s2:=by have:=zX (yF hc (vG zC (A9 _)) (eq_nil (s:=s2) (rX _))) zJ;rw[iQ (r:=(j,i))]at this;exact this
           cases ha:xl st j i z h with
           |true=>
            rw[ha]at t2;refine tM (YG t1 (sC t2)) (zu zD (fin' ?_));exact(uS hz).mpr ⟨j,i,by omega,hin,ha⟩
           |false=>
            rw[ha]at t2;exact xu (YG t1 (sC t2)) (vg (next λ_=>ha))
         . rw[decide_eq_false (by omega)]at t1
           exact xu (YF t1) (vg (next λq=>absurd q hin))
    . rintro e s2 ⟨rfl,⟨o2,o3,rfl⟩,i,k,hik,hi1,hr2,hno2⟩
      have hk0:k=0:=by
       cases k with
       |zero=>rfl
       |succ k=>rw[Ed]at hr2;cases hr2
      refine vg ⟨rfl,⟨_,_,_,rfl⟩,j+1,m,by omega,rfl,λf d h1 h2 h3=>?_⟩
      rcases Nat.lt_or_ge f j with q1|q1
      . exact hno f d q1 h2 h3
      . obtain rfl:f=j:=by omega
        have:d*1<=d*(z-1):=Dt _ (by omega)
        exact hno2 d (by omega) h2 h3
 . rintro e s' ⟨rfl,⟨o1,o2,o3,rfl⟩,j,m,hjm,hr,hno⟩
   have hm0:m=0:=by
    cases m with
    |zero=>rfl
    |succ m=>rw[Ed]at hr;cases hr
   refine zu zD (fin' ?_);cases hb:hasB z st h with
   |false=>rfl
   |true=>
    obtain⟨f,d,h1,h2,h3⟩:=(uS hz).mp hb;rw[hno f d (by omega) h1 h2]at h3;cases h3
theorem Ww(h:Stn z st):(hasB z st (1:Nat)||hasB z st (2:Nat))=hasB z st (yH st):=by
 have nw:=h.o;rcases ur st with⟨h1,h2⟩|⟨h1,h2⟩
 . rw[h1]at nw;rw[h2,nw];rfl
 . rw[h1]at nw;rw[h2,nw,E8]
theorem dI(cH:jQ "_law_has" Φ)(h:Stn z st):run T Φ F75.xV [.c z,tpI st] s=.e (xp (zY z st)) s:=by
 have h8:=h.b;have hl:blt .b false [tpI st] s=.e (.c st.length) s:=by rw[tL,Aa]
 have fin':∀{v:Val},v=xp (zY z st)->(zi false s v s).post λx t=>x=xp (zY z st)/\t=s:=λ{v} e=>by rw[zq (by rw[e];exact j7),e];exact zE.mpr ⟨rfl,rfl⟩
 have c1:=cH z st 1 s h.c h.g (by omega)
 have c2:=cH z st 2 s h.c h.g (by omega)
 have t1:=zX (Φ:=Φ) (G:=T.b) (env:=[some (.c z),some (tpI st)]) (s:=s) (x_call (zA (e:=.e 0) (zB rfl) (zA (e:=.e 1) (zB rfl) (zA (e:=.g (.c 1)) zD zC))) c1) zJ;have t2:=zX (Φ:=Φ) (G:=T.b) (env:=[some (.c z),some (tpI st)]) (s:=s) (x_call (zA (e:=.e 0) (zB rfl) (zA (e:=.e 1) (zB rfl) (zA (e:=.g (.c 2)) zD zC))) c2) zJ;have tw:=Ww h;rw[post_eq,F75.xV,yZ];refine⟨rfl,?_⟩;show (zS Φ T.b [some (.c z),some (tpI st)] _ s).post _;have yes:hasB z st (yH st)=true->(fin false s (λx t=>x=xp (zY z st)/\t=s)) (.b (.f [])) s:=λe=>fin' (by unfold zY;rw[if_pos e];rfl)
 cases b1:hasB z st (1:Nat) with
 |true=>
  rw[b1]at t1 tw;exact tM (fK t1) (zu (yM zC (A9 _)) (yes (by rw[<-tw];rfl)))
 |false=>
  rw[b1]at t1 tw;cases b2:hasB z st (2:Nat) with
  |true=>
   rw[b2]at t2 tw;exact tM (qB t1 (jJ t2)) (zu (yM zC (A9 _)) (yes (by rw[<-tw];rfl)))
  |false=>
   rw[b2]at t2 tw;refine xu (qB t1 (uy t2 lJ)) ?_;have hc:=Vp (Φ:=Φ) (G:=T.b) (env:=[some (.c z),some (tpI st)]) (s:=s) (N:=["_law_place","_law_stand"]) (fr:=[none,some 1]) (it:=.c (.k .b false (.a (.e 1) .b))) (ifs:=.a (.a (.l .d (.s (.e 1) (.e 0)) (.g (.c 0)))) .b) (ks:=(Aq st.length).map λ(k:Nat)=>(k:Int)) (bad:=λx=>decide (st[x.toNat]?=some 0)) (e0:=[some (tpI st)]) (by
    rw[qK (zh (zA (zB rfl) zC) hl) (by unfold zR;omega)]
    unfold yu;rw[BV];congr 3;funext k;show Val.c (0+(k:Int))=Val.c (k:Int);rw[DN]) rfl (λx hx=>by
    obtain⟨k,hk,rfl⟩:=AO.mp hx;have hk:=AZ.mp hk;have hy:=xd hk;rw[sC (zX (yF (xw (zB rfl) (zB rfl) (pF hy)) zD eq_int) zJ),AN,hy];congr 1;by_cases q:st[k]=0
    . rw[decide_eq_true q,decide_eq_true (by rw[q])]
    . rw[decide_eq_false q,decide_eq_false (λz=>q (Aw z))])
   refine zu (zh (zA hc zC) rfl) (fin' ?_);unfold zY;rw[<-tw,if_neg (show ¬(false||false)=true from Ab)]
   show Val.f _=Val.f _;congr 1;unfold w6;rw[F9,BV];congr 1
def jR(Φ:Calls):Prop:=∀(st:List Int) (s:Sto),st.count 2<=st.count 1->st.count 1<=st.count 2+1->Φ "_law_hand" 0 [tpI st] s=.e (.c (zy st)) s
theorem dM(h1:st.count 2<=st.count 1)(h2:st.count 1<=st.count 2+1):run T Φ F75.xX [tpI st] s=.e (.c (zy st)) s:=by
 rw[post_eq,F75.xX,yZ];refine⟨rfl,?_⟩;show (zS Φ T.b [some (tpI st)] _ s).post _;refine zu (zc (zc zD (vN (zB rfl) (zA zD zC) uh) rM) (vN (zB rfl) (zA zD zC) uh) fQ) ?_;show (zi false s _ s).post _;rw[zq vA];refine zE.mpr ⟨?_,rfl⟩;congr 1;unfold zy;by_cases q:st.count 1=st.count 2
 . rw[if_pos q];omega
 . rw[if_neg q];omega
theorem dO(cD:jR Φ){p:Nat}(hp:p<st.length)(hn:st.length<=40)(h1:st.count 2<=st.count 1)(h2:st.count 1<=st.count 2+1):run T Φ F75.xP [tpI st,.c p] s=.e (tpI (vP st p)) s:=by rw[post_eq,F75.xP,yZ];refine⟨rfl,?_⟩;show (zS Φ T.b [some (tpI st),some (.c p)] _ s).post _;refine zu (Zl (f:=p) (h:=zy st) rfl (zB rfl) (x_call (zA (zB rfl) zC) (cD st s h1 h2)) hp hn) ?_;show (zi false s _ s).post _;rw[zq ma];exact zE.mpr ⟨rfl,rfl⟩
end
end M
end
section
namespace M
open PySem
section
variable {T:Tbl}{Φ:Calls}{s:Sto}
def gG(Φ:Calls):Prop:=∀(p z m k:Nat) (s:Sto),qi s p->2<=z->z<=8->1<=m->m<=8->k<=100->(Φ "_law_played" 0 [.k p,.c z,.c m,.c k] s).post λv s'=>∃st,v=tpI st/\Stn z st/\st.length=m/\vm s p s'
theorem Stn.new(hz:2<=z)(hz8:z<=8)(h1:1<=m)(h8:m<=8):Stn z (Ap m 0):=by
 have c1:(Ap m (0:Int)).count 1=0:=List.count_eq_zero.mpr λh=>by have:=CT h;cases this
 have c2:(Ap m (0:Int)).count 2=0:=List.count_eq_zero.mpr λh=>by have:=CT h;cases this
 refine⟨hz,hz8,by rw[B5];exact h1,by rw[B5];exact h8,λx hx=>?_,by omega,by omega,?_⟩
 . rw[CT hx];omega
 . cases hb:hasB z (Ap m 0) (zy (Ap m 0)) with
   |false=>rfl
   |true=>
    obtain⟨f,d,h1,h2,h3⟩:=(uS hz).mp hb;have:=gL (by omega) h3
    have:=CT (AA this);rcases ur (Ap m 0) with⟨q,_⟩|⟨q,_⟩<;>rw[q]at this<;>cases this
theorem iV(cFr:sD "_law_free" Φ)(cB:vT "_law_put" Φ)(cR:nq Φ){p z m k:Nat}(hP:qi s p)(hz:2<=z)(hz8:z<=8)(h1:1<=m)(h8:m<=8)(hk:k<=100):(run T Φ F75.ym [.k p,.c z,.c m,.c k] s).post λv s'=>∃st,v=tpI st/\Stn z st/\st.length=m/\vm s p s':=by
 rw[F75.ym,yZ];refine⟨rfl,?_⟩;show (zS Φ T.b [some (.k p),some (.c z),some (.c m),some (.c k),none,none,none] _ s).post _;have e0:(Ap m [Val.c 0]).flatten=(Ap m (0:Int)).map .c:=by
  clear h1 h8 ;induction m with
  |zero=>rfl
  |succ m ih=>rw[BA,BA,Cg,ih,AJ];rfl
 refine ye (zc (yM (zA zD zC) (by show 1<=zR;unfold zR;omega)) (zB rfl) (Xp (by omega) nofun (by show 1<=1000;omega))) ?_
 rw[e0];show (zS Φ T.b [some (.k p),some (.c z),some (.c m),some (.c k),some (tpI (Ap m 0)),none,none] _ s).post _;refine yE.mpr (ub (λrest e s'=>vm s p s'/\∃st o5 o6,e=[some (.k p),some (.c z),some (.c m),some (.c k),some (tpI st),o5,o6]/\Stn z st/\st.length=m) (yu 0 k) (s1:=s) (qK (zB rfl) (by unfold zR;omega)) ⟨hP.refl,_,_,_,rfl,Stn.new hz hz8 h1 h8,B5⟩ ?_ ?_)
 . rintro x rest e s' ⟨ht,st,o5,o6,rfl,hS,hl⟩
   refine⟨_,rfl,?_⟩;show (zS Φ T.b [some (.k p),some (.c z),some (.c m),some (.c k),some (tpI st),some x,o6] _ s').post _;have hn8:=hS.b;refine ye (x_call (zA (zB rfl) (zA (zB rfl) zC)) (cFr z st s' hS)) ?_;show (zS Φ T.b [some (.k p),some (.c z),some (.c m),some (.c k),some (tpI st),some x,some (xp (zY z st))] _ s').post _;refine Z4 (J:=λe s'=>vm s p s'/\∃st o5 o6,e=[some (.k p),some (.c z),some (.c m),some (.c k),some (tpI st),o5,o6]/\Stn z st/\st.length=m) (zX (yF (zB rfl) (yM zC (A9 _)) (by rw[gh];exact Xq)) zJ) (λhN=>?_) (λ_=>⟨ht,st,_,_,rfl,hS,hl⟩) ?_
   . have hne:zY z st≠[]:=by intro e;rw[e]at hN;cases hN
     have hb:hasB z st (yH st)=false:=by
      cases q:hasB z st (yH st) with
      |false=>rfl
      |true=>exact absurd (by unfold zY;rw[if_pos q]) hne
     have eo:zY z st=w6 st:=by unfold zY;rw[if_neg (by rw[hb];exact Ab)]
     rw[eo]at hne ⊢;have hlen:=pA st;have hc8:=count_le hS;have hpos:0<(w6 st).length:=CV.mpr hne;have hlb:blt .b false [xp (w6 st)] s'=.e (.c (w6 st).length) s':=by show blt .b false [.f _] s'=_;rw[tL,Aa]
     refine ig (ZL.mpr (v7 (zB rfl) (mn.mpr (QL.mpr ?_))));rw[zB (v:=xp (w6 st)) rfl];refine zE.mpr (gz (zA (zB rfl) (zA (zh (zA (zB rfl) zC) hlb) zC)) (zT (cR p _ s' (ht.at_ hP.lt) (by omega) (by omega)) ?_))
     rintro v s2 ⟨r,rfl,hr,t2⟩;have hr':r<(w6 st).length:=by omega
     have hx:wd (xp (w6 st)) (.c r) s2=.e (.c ((w6 st)[r]:Nat)) s2:=aA (by rw[AG,xd hr'];rfl)
     rw[hx];refine zE.mpr (nH.mpr ?_);have hpm:=kG.mp (B2 hr');have hpl:=(Aj.mp hpm).1;rw[cB st _ s2 hpl (by omega) hS.l hS.i]
     obtain⟨q1,q2,q3,q4⟩:=hS.put hb hpm;exact zE.mpr (vg ⟨_,rfl,ht.trans t2,_,_,_,rfl,q1,by rw[q4];exact hl⟩)
   . rintro e s2 hJ
     exact vg hJ
 . rintro e s' ⟨ht,st,o5,o6,rfl,hS,hl⟩
   refine zu (zB rfl) ?_;show (zi false s _ s').post _;rw[kA ht ma];exact zE.mpr ⟨st,rfl,hS,hl,ht⟩
end
end M
end
section
namespace M
open PySem
noncomputable def UK(x:Int):List Int->List (List Int)
 |[]=>[[x]]
 |y::ys=>(x::y::ys)::(UK x ys).map (y::·)
def perms:List Int->List (List Int)
 |[]=>[[]]
 |x::xs=>(perms xs).flatMap (UK x)
theorem kH x:∀l1 l2:List Int,(l1++x::l2)∈UK x (l1++l2)
 |[],[]=>.head _
 |[],_::_=>.head _
 |y::l1,l2=>Ah _ (List.mem_map_of_mem (kH x l1 l2))
theorem nA:∀{xs ys},ys.Perm xs->ys∈perms xs
 |[],ys,h=>by rw[h.eq_nil];exact .head _
 |x::xs,ys,h=>by obtain⟨l1,l2,rfl⟩:=List.append_of_mem (h.mem_iff.mpr (.head _));exact FU.mpr ⟨_,nA (List.Perm.cons_inv (List.perm_middle.symm.trans h)),kH x l1 l2⟩
def tal(zs:List Int):Nat->List (List Int)->List Nat
 |0,_=>[]
 |n+1,L=>L.length::tal zs n (tK zs L)
theorem lG:∀{n m} {L},m<n->(tal zs n L)[m]?=some (vZ zs L m).length
 |n+1,0,L,_=>rfl
 |n+1,m+1,L,h=>by show (tal zs n (tK zs L))[m]?=_;rw[lG (Nat.lt_of_succ_lt_succ h)];have:=sV zs L 1 m;rw[Nat.add_comm 1 m]at this;rw[<-this];rfl
def ij(zs:List Int):Bool:=bQ zs 18 [[]]&&decide (zs.foldl (·*·) 1<=12)&&(decide (1<=zs.length)&&decide (zs.length<=4)&&zs.all λx=>decide (2<=x)&&decide (x<=8))
theorem dZ(h:ij zs=true):jW zs:=by
 unfold ij at h;simp only[cf,decide_eq_true_eq,Ao]at h;obtain⟨⟨h1,h2⟩,⟨h3,h4⟩,h5⟩:=h;have ⟨d1,d2⟩:=mJ h1;have d3:∀m,18<=m->vZ zs [[]] m=[]:=λm hm=>by
  have:=kB d1 (m-18)
  rwa [show 18+(m-18)=m by omega]at this
 refine⟨⟨h3,h4,λx hx=>h5 x hx⟩,h2,d3,λm=>?_⟩;by_cases hm:m<18
 . exact d2 m hm
 . rw[d3 m (by omega)];simp
theorem kz:(r9.all λzs=>(perms zs).eraseDups.all λys=>ij ys&&decide (tal ys 18 [[]]=tal zs 18 [[]]))=true:=by decide +kernel
theorem ik(h:zs∈r9)(p:ys.Perm zs):jW ys/\∀m,(vZ ys [[]] m).length=(vZ zs [[]] m).length:=by
 have:=Ao.mp (Ao.mp kz zs h) ys (List.mem_eraseDups.mpr (nA p));rw[cf]at this;have hs:=dZ this.1;have ht:=of_decide_eq_true this.2;refine⟨hs,λm=>?_⟩;by_cases hm:m<18
 . have h1:=lG (zs:=ys) (L:=[[]]) hm
   rw[ht,lG hm]at h1;exact(Aw h1).symm
 . rw[hs.a m (by omega),(ky h).a m (by omega)]
noncomputable def oN(zs:List Int)(os:List Nat):List Int:=(Aq zs.length).map λh=>zs.getD (os.idxOf h) 0
noncomputable def apO(os:List Nat)(i:Int):Int:=((os.getD i.toNat 0:Nat):Int)
theorem X7 zs os:(oN zs os).length=zs.length:=by unfold oN;rw[Aa,Bh]
theorem Xn{os:List Nat}(h:os.Nodup):os.map (λx=>os.idxOf x)=Aq os.length:=by
 apply List.ext_getElem
 . simp
 . intro i h1 h2
   rw[B3,h.idxOf_getElem,List.getElem_range]
theorem range_getD(zs:List Int):(Aq zs.length).map (λh=>zs.getD h 0)=zs:=by
 apply List.ext_getElem
 . simp
 . intro i h1 h2
   rw[B3,List.getElem_range,Al,xd h2];rfl
theorem ZH{os}(p:os.Perm (Aq zs.length)):(oN zs os).Perm zs:=by
 have nd:os.Nodup:=p.nodup_iff.mpr List.nodup_range;have hl:os.length=zs.length:=by rw[p.length_eq,Bh]
 have h1:((Aq zs.length).map λx=>os.idxOf x).Perm (Aq zs.length):=by have:=(p.symm.map λx=>os.idxOf x);rw[Xn nd,hl]at this;exact this
 have h2:=h1.map λh=>zs.getD h 0;rw[BV,range_getD]at h2;exact h2
structure Od(k:Nat)(os:List Nat):Prop where
 nd:os.Nodup
 b:os.length=k
 lt:∀x∈os,x<k
 d:∀h,h<k->os.idxOf h<k/\os[os.idxOf h]?=some h
 c:∀(a h:Nat),os[a]?=some h->os.idxOf h=a
theorem VT{os}(p:os.Perm (Aq k)):Od k os:=by
 have nd:os.Nodup:=p.nodup_iff.mpr List.nodup_range;have hl:os.length=k:=by rw[p.length_eq,Bh]
 refine⟨nd,hl,λx hx=>AZ.mp (p.mem_iff.mp hx),λh hh=>?_,λa h e=>?_⟩
 . have hm:h∈os:=p.mem_iff.mpr (AZ.mpr hh)
   have hlt:=List.idxOf_lt_length_iff.mpr hm;exact⟨by omega,by rw[xd hlt,List.getElem_idxOf]⟩
 . obtain⟨hlt,rfl⟩:=Aj.mp e
   exact nd.idxOf_getElem a hlt
theorem Fit.Pe{os}(hf:Fit zs ns)(p:os.Perm (Aq zs.length)):Fit (oN zs os) (ns.map (apO os)):=by
 have O:=VT p;have hL:=X7 zs os;have hap:∀i∈ns,∃a:Nat,i=(a:Int)/\a<zs.length/\∃h,os[a]?=some h/\h<zs.length/\apO os i=(h:Int):=λi hi=>by
  have:=hf.b i hi;obtain⟨a,rfl⟩:∃a:Nat,i=a:=⟨i.toNat,by omega⟩
  have ha:a<os.length:=by rw[O.b];omega
  refine⟨a,rfl,by omega,os[a],xd ha,O.lt _ (B2 ha),?_⟩
  unfold apO;rw[AN,Al,xd ha];rfl
 refine⟨λx hx=>?_,λh f d h1 h2 h3 h4=>?_⟩
 . obtain⟨i,hi,rfl⟩:=AO.mp hx
   obtain⟨a,rfl,ha,h,_,hh,e⟩:=hap i hi;rw[e,hL];omega
 . rw[hL]at h1
   obtain⟨x1,x2⟩:=O.d h h1;have hs:vL (oN zs os) h=vL zs (os.idxOf h):=by unfold vL oN;rw[Al,AG,Du h1];rfl
   rw[hs,Aa]at h3;rw[hs]at h4;refine hf.c (os.idxOf h) f d x1 h2 h3 (xm.mpr λk hk=>?_);have:=xm.mp h4 k hk;rw[AG]at this;obtain⟨i,h5,h6⟩:=A4.mp this;obtain⟨a,rfl,ha,h',e1,_,e2⟩:=hap i (AA h5);rw[e2]at h6;obtain rfl:h'=h:=by omega
   rw[h5,O.c a h' e1]
theorem Fit.P8(hz:Sz zs)(hf:Fit zs ns)(hd:0<d0)(ht:∀i:Nat,ts[i]?=ns[f0+i*d0]?):Fit zs ts:=by
 refine⟨λx hx=>?_,λh f d h1 h2 h3 h4=>?_⟩
 . obtain⟨i,hi⟩:=Dm hx
   rw[ht]at hi;exact hf.b x (AA hi)
 . obtain⟨_,z2,_⟩:=ku hz h1
   have ix:∀k,f0+(f+k*d)*d0=f0+f*d0+k*(d*d0):=λk=>by rw[Nat.add_mul,Nat.mul_assoc];omega
   have hl:=xm.mp h4 (vL zs h-1) (by omega)
   rw[ht,ix]at hl;refine hf.c h (f0+f*d0) (d*d0) h1 (Nat.mul_pos h2 hd) ?_ (xm.mpr λk hk=>?_)
   . have:=(Aj.mp hl).1
     rw[Cv (d*d0)];exact this
   . have:=xm.mp h4 k hk
     rw[ht,ix]at this;exact this
theorem gf{α β:Type}{g}{h:α->β}:∀{l:List α},(∀a∈l,g a=some (h a))->l.filterMap g=l.map h
 |[],_=>rfl
 |a::l,H=>by rw[AW,H a (.head _),AJ,gf λb hb=>H b (.tail _ hb)]
theorem WN{ns:List Int}(h1:∀k,k<c->f+k*d<ns.length)(h2:ns.length<=f+c*d)i:(L2.zm ns (f:Int) (d:Int) c)[i]?=ns[f+i*d]?:=by
 have e:L2.zm ns (f:Int) (d:Int) c=(Aq c).map λk=>ns.getD (f+k*d) 0:=by
  unfold L2.zm;refine gf λk hk=>?_;have hk:=h1 k (AZ.mp hk);rw[show ((f:Int)+(k:Int)*(d:Int)).toNat=f+k*d by rw[<-F7,<-Int.natCast_add,AN]]
  rw[Al,xd hk];rfl
 rw[e,AG];by_cases hi:i<c
 . rw[Du hi,xd (h1 i hi)]
   show some (ns.getD (f+i*d) 0)=_;rw[Al,xd (h1 i hi)];rfl
 . rw[B7 (by rw[Bh];omega),B7]
   . rfl
   . have:=BP d (Nat.le_of_not_lt hi)
     omega
theorem bM:∀n:Nat,n<18->∀f:Nat,f<6->∀d:Nat,d<4->L2.yx n (some (f:Int)) none ((d+1:Nat):Int)=(((min f n:Nat):Int),(n-f+d)/(d+1)):=by decide +kernel
theorem Wt{ns:List Int}(hn:ns.length<18)(hf:f<6)(hd:1<=d)(hd4:d<=4)(s:Sto):∃ts:List Int,(∀i:Nat,ts[i]?=ns[f+i*d]?)/\ts.length<18/\∀s,uD false (.f (ns.map .c)) (some (f:Int)) none (some (d:Int)) s=.e (.f (ts.map .c)) s:=by
 obtain⟨d,rfl⟩:∃e,d=e+1:=⟨d-1,by omega⟩
 have hc:=bM ns.length hn f hf d (by omega)
 have hc2:(ns.length-f+d)/(d+1)<18:=by
  have:(ns.length-f+d)/(d+1)<=ns.length:=by
   rw[Nat.div_le_iff_le_mul_add_pred (by omega)]
   have:=BP ns.length (show 1<=d+1 by omega)
   omega
  omega
 have hs:∀s,uD false (.f (ns.map .c)) (some (f:Int)) none (some ((d+1:Nat):Int)) s=.e (.f ((L2.zm ns ((min f ns.length:Nat):Int) ((d+1:Nat):Int) ((ns.length-f+d)/(d+1))).map .c)) s:=λs=>by
  simp only[uD];rw[Aa,hc,if_pos ⟨by omega,Au (C9 hc2) (by decide)⟩]
  unfold L2.zm;rw[List.map_filterMap];simp only[AG]
 refine⟨_,?_,?_,hs⟩
 . by_cases hfn:f<ns.length
   . rw[show min f ns.length=f by omega]
     refine WN (λk hk=>?_) ?_
     . have h1:(k+1)*(d+1)<=ns.length-f+d:=by have:=Nat.div_mul_le_self (ns.length-f+d) (d+1);exact Au (BP _ hk) this
       rw[FJ]at h1;omega
     . have:=Nat.lt_div_mul_add (a:=ns.length-f+d) (b:=d+1) (by omega)
       omega
   . intro i
     rw[show (ns.length-f+d)/(d+1)=0 by rw[show ns.length-f=0 by omega];exact Nat.div_eq_of_lt (by omega)]
     rw[B7 (by simp[L2.zm]),B7 (by have:=A9 (i*(d+1));omega)]
 . refine Nat.lt_of_le_of_lt ?_ hc2
   unfold L2.zm;exact Au (DI _ _) (by rw[Bh];exact Ac _)
end M
end
section
namespace F14
open PySem M
noncomputable def wo:Fn:=⟨["_law_sizes","_law_order","_law_strip","_law_first","_law_step","_law_led_round","_law_other"],["_law_sizes","_law_order","_law_strip","_law_first","_law_step"],false,(.a (.g (.f (.b (.a (.h "is_strip" 0 (.a (.e 2) .b)))) (.a (.b (.a (.h "fits" 0 (.a (.e 0) (.a (.e 2) .b))))) (.a (.a (.l .c (.h "first_wrong" 0 (.a (.e 0) (.a (.e 2) .b))) (.g .h))) .b))) (.a (.d (.g (.e false))) .b) .b) (.a (.g (.f (.b (.a (.h "fits" 0 (.a (.e 0) (.a (.h "backward" 0 (.a (.e 2) .b)) .b))))) (.a (.b (.a (.h "fits" 0 (.a (.e 0) (.a (.h "thinned" 0 (.a (.e 2) (.a (.e 3) (.a (.e 4) .b)))) .b))))) .b)) (.a (.d (.g (.e false))) .b) .b) (.a (.f 5 (.h "exchanged" 0 (.a (.e 2) (.a (.j false .a (.e 1) (.p false (.k .b false (.a (.e 1) .b)) (.g (.c 4)) (.g .h))) .b)))) (.a (.f 6 (.k .c false (.a (.q false ["_law_hue","_law_sizes","_law_order"] [none,some 0,some 1] (.s (.e 1) (.D .c false (.e 2) (.a (.e 0) .b))) (.a 0) (.c (.k .b false (.a (.e 0) .b))) .b) .b))) (.a (.d (.y (.h "fits" 0 (.a (.e 6) (.a (.e 5) .b))) (.a (.h "fits" 0 (.a (.e 0) (.a (.G false (.e 2) .b (.a (.e 3)) .b) .b))) .b))) .b)))))⟩
end F14
end
section
namespace M
open PySem
theorem yO(h:v.noRef=true):(zi false s v s).post λx t=>x=v/\t=s:=by rw[zq h];exact zE.mpr ⟨rfl,rfl⟩
noncomputable abbrev u7(os:List Nat):List Int:=os.map λ(h:Nat)=>(h:Int)
def iG(os:List Nat)(k:Nat):List Int:=u7 os++L2.yj k 4 1
structure Od4(hs:List Int):Prop where
 a:hs.length=4
 rng:∀x∈hs,0<=x/\x<=3
 srt:sortI hs=[0,1,2,3]
theorem ZA{os}(p:os.Perm (Aq k))(h1:1<=k)(h4:k<=4):Od4 (iG os k):=by
 have hp:(iG os k).Perm [0,1,2,3]:=by
  have h:=((p.map λ(h:Nat)=>(h:Int)).append_right (L2.yj k 4 1));refine h.trans ?_;have:k=1\/k=2\/k=3\/k=4:=by omega
  rcases this with rfl|rfl|rfl|rfl<;>exact .refl _
 refine⟨hp.length_eq,λx hx=>?_,List.Perm.eq_of_pairwise (λa b _ _ h1 h2=>F5 h1 h2) (jA _) (by decide) ((sortI_perm _).trans hp)⟩
 have:=hp.mem_iff.mp hx;simp only[Af,AU,or_false]at this;omega
section
variable {T:Tbl}{Φ:Calls}{s:Sto}
def Ss(Φ:Calls):Prop:=∀(zs ns:List Int) (s:Sto),Sz zs->Fit zs ns->ns.length<=40->Φ "backward" 0 [tpI ns] s=.e (tpI ns.reverse) s
def Sx(Φ:Calls):Prop:=∀(zs ns ts:List Int) (f d:Nat) (s:Sto),Sz zs->Fit zs ns->ns.length<18->f<6->1<=d->d<=4->(∀s,uD false (tpI ns) (some (f:Int)) none (some (d:Int)) s=.e (tpI ts) s)->Φ "thinned" 0 [tpI ns,.c f,.c d] s=.e (tpI ts) s
def Su(Φ:Calls):Prop:=∀(zs ns hs:List Int) (s:Sto),Sz zs->Fit zs ns->ns.length<=40->Od4 hs->Φ "exchanged" 0 [tpI ns,tpI hs] s=.e (tpI (ns.map λi=>hs.getD i.toNat 0)) s
end
end M
end
section
namespace M
open PySem
theorem bx{os}(O:Od k os)(hh:h<k):yK .c (tpI (u7 os)) [.c h] s=.e (.c ((os.idxOf h:Nat):Int)) s:=by
 have hfl:(flat (.c (h:Int))&&((u7 os).map Val.c).all flat)=true:=by rw[cf];refine⟨rfl,Ao.mpr λx hx=>?_⟩;obtain⟨i,_,rfl⟩:=AO.mp hx;rfl
 have hi:((u7 os).map Val.c).findIdx? (λz=>eqF z (.c (h:Int)))=some (os.idxOf h):=by
  obtain⟨x1,x2⟩:=O.d h hh;have hl:os.idxOf h<os.length:=by rw[O.b];exact x1
  refine CJ.mpr ⟨by rw[Aa,Aa];exact hl,?_,λj hj hc=>?_⟩
  . rw[B3,B3]
    show (((os[os.idxOf h]'hl:Nat):Int) == (h:Int))=true;rw[List.getElem_idxOf];exact beq_self_eq_true _
  . rw[B3,B3]at hc
    have hjl:j<os.length:=by omega
    have hc:(((os[j]'hjl:Nat):Int) == (h:Int))=true:=hc;have e:os[j]'hjl=h:=by have:=Ci hc;omega
    have:=O.c j h (by rw[xd hjl,e])
    omega
 show (if (flat (.c (h:Int))&&((u7 os).map Val.c).all flat)=true then (match ((u7 os).map Val.c).findIdx? (λz=>eqF z (.c (h:Int))) with|some j=>Out.e (Val.c (j:Nat)) s|dr=>.d) else .d)=_
 rw[if_pos hfl,hi]
theorem X6{os}(O:Od k os)(hk:zs.length=k)(hf:Fit zs ns):(ns.map λi=>(iG os k).getD i.toNat 0)=ns.map (apO os):=by
 refine BS λi hi=>?_;have h1:=hf.b i hi;have ha:i.toNat<os.length:=by rw[O.b];omega
 unfold iG apO;rw[Al,A1 (by rw[Aa];exact ha),AG,xd ha,Al,xd ha];rfl
section
variable {T:Tbl}{Φ:Calls}{s:Sto}
theorem W3(h1:evE Φ G env o s=.e x s1)(h2:zo Φ G env es s1=.e vs s2)(h3:yK f x vs s2=r):evE Φ G env (.D f m o es) s=r:=bnd h1 (bnd h2 h3)
theorem PR{os}(hz:env[iz]?=some (some (tpI zs)))(ho:ze [none,some iz,some io] env=[none,some (tpI zs),some (tpI (u7 os))])(O:Od zs.length os)(hl:zs.length<=4) :
 evE Φ G env (.k .c false (.a (.q false N [none,some iz,some io] (.s (.e 1) (.D .c false (.e 2) (.a (.e 0) .b))) (.a 0) (.c (.k .b false (.a (.e iz) .b))) .b) .b)) s=.e (tpI (oN zs os)) s:=by
 have hL:zs.length<=zR:=Au hl (by decide)
 refine zh (zA (Vq (n:=zs.length) (f:=λh=>zs.getD (os.idxOf h) 0) (qK (zh (zA (zB hz) zC) (by rw[tL,Aa])) hL) ho (λk o hk=>?_) hL) zC) rfl
 obtain⟨x1,x2⟩:=O.d k hk;refine xw (zB rfl) (W3 (zB rfl) (zA (zB rfl) zC) (bx O hk)) (pF ?_);rw[xd x1,Al,xd x1];rfl
def jT(Φ:Calls):Prop:=∀(zs ns:List Int) (os:List Nat) (f d:Nat) (s:Sto),zs∈r9->Fit zs ns->ns.length<18->os.Perm (Aq zs.length)->f<6->1<=d->d<=4->Φ "_law_strip_right" 0 [tpI zs,tpI (u7 os),tpI ns,.c f,.c d] s=.e (.e true) s
theorem nQ(cS:d6 Φ)(cF:Sv Φ)(cW:YW Φ)(cB:Ss Φ)(cT:Sx Φ)(cE:Su Φ){os}{f d:Nat}(hm:zs∈r9)(hf:Fit zs ns)(hn:ns.length<18)(p:os.Perm (Aq zs.length))(h1:f<6)(h2:1<=d)(h3:d<=4) :
 run T Φ F14.wo [tpI zs,tpI (u7 os),tpI ns,.c f,.c d] s=.e (.e true) s:=by
 have hz:=(ky hm).sz;have hZ:=hz.1;have hZ4:=hz.2.1;have O:=VT p;have hy:=(ik hm (ZH p)).1.sz;obtain⟨ts,t1,t2,t3⟩:=Wt hn h1 h2 h3 s;have ft:Fit zs ts:=hf.P8 hz (by omega) t1
 have hE:Fit (oN zs os) (ns.map (apO os)):=hf.Pe p;obtain⟨a,b,sl⟩:=Yo (ns:=ns) (lo:=none) (hi:=some (f:Int)) (s:=s);have hN:(zW .c .h .h s:Out Val)=.e (.e false) s:=rfl;have hlen:blt .b false [tpI (u7 os)] s=.e (.c (zs.length:Nat)) s:=by rw[tL,Aa,Aa,O.b]
 have hrg:au false (.c (zs.length:Nat)) (.c 4) .h s=.e (.f ((L2.yj zs.length 4 1).map .c)) s:=by
  have:zs.length=1\/zs.length=2\/zs.length=3\/zs.length=4:=by omega
  rcases this with e|e|e|e<;>rw[e]<;>rfl
 have hadd:binOp false .a (tpI (u7 os)) (.f ((L2.yj zs.length 4 1).map .c)) s=.e (tpI (iG os zs.length)) s:=by
  show (if ((u7 os).map Val.c).length+((L2.yj zs.length 4 1).map Val.c).length<=zR then Out.e (Val.f ((u7 os).map Val.c++(L2.yj zs.length 4 1).map Val.c)) s else .d)=_
  have hl:=(ZA p hZ hZ4).a;unfold iG at hl;rw[Am,Aa]at hl;rw[if_pos (by rw[Aa,Aa,Aa,hl];decide),<-Cy];rfl
 have he:=cE zs ns (iG os zs.length) s hz hf (by omega) (ZA p hZ hZ4)
 rw[X6 O rfl hf]at he;rw[post_eq,F14.wo,yZ];refine⟨rfl,?_⟩;show (zS Φ T.b [some (tpI zs),some (tpI (u7 os)),some (tpI ns),some (.c f),some (.c d),none,none] _ s).post _;refine xu (qB (vj (zX (x_call (zA (zB rfl) zC) (cS zs ns s hz hf (by omega))) zJ)) (uy (vj (zX (x_call (zA (zB rfl) (zA (zB rfl) zC)) (cF zs ns s hz hf (by omega))) zJ)) (uy (zX (yF (x_call (zA (zB rfl) (zA (zB rfl) zC)) (cW zs ns s hz hf (by omega))) zD hN) zJ) lJ))) ?_
 refine xu (qB (vj (zX (x_call (zA (zB rfl) (zA (x_call (zA (zB rfl) zC) (cB zs ns s hz hf (by omega))) zC)) (cF zs ns.reverse s hz (hf.rev hz) (by rw[List.length_reverse];omega))) zJ)) (uy (vj (zX (x_call (zA (zB rfl) (zA (x_call (zA (zB rfl) (zA (zB rfl) (zA (zB rfl) zC))) (cT zs ns ts f d s hz hf hn h1 h2 h3 t3)) zC)) (cF zs ts s hz ft (by omega))) zJ)) lJ)) ?_
 refine ye (x_call (zA (zB rfl) (zA (zc (zB rfl) (bnd (zh (zA (zB rfl) zC) hlen) (bnd zD (bnd zD hrg))) hadd) zC)) he) ?_;show (zS Φ T.b [some (tpI zs),some (tpI (u7 os)),some (tpI ns),some (.c f),some (.c d),some (tpI (ns.map (apO os))),none] _ s).post _;refine ye (PR rfl rfl O hZ4) ?_;show (zS Φ T.b [some (tpI zs),some (tpI (u7 os)),some (tpI ns),some (.c f),some (.c d),some (tpI (ns.map (apO os))),some (tpI (oN zs os))] _ s).post _;exact zu (fN (x_call (zA (zB rfl) (zA (zB rfl) zC)) (cF (oN zs os) (ns.map (apO os)) s hy hE (by rw[Aa];omega))) (x_call (zA (zB rfl) (zA (gE (zB rfl) sX (pQ (zB rfl)) sX sl) zC)) (cF zs ((ns.drop a).take b) s hz ((hf.drop hz a).take b) (by rw[B1,Di];omega)))) (yO yV)
end
end M
end
section
namespace M
open PySem
section
variable {W:Str->Bool}{Φ:Calls}{Ψ:wu}{G:Str->Option Val}{env:Env}{s s1:Sto}
theorem Uw(h:exS Φ G env c s=.e (.a e) s1):zS Φ G env (.a c cs) s=zS Φ G e cs s1:=bnd h rfl
theorem vt(h:exS Φ G env c s=.d):zS Φ G env (.a c cs) s=.d:=by show (exS Φ G env c s).bind _=_;rw[h];rfl
theorem Uv(h:evT Φ G env c s=.e true s1)(k:zS Φ G env a s1=.d):exS Φ G env (.g c a b) s=.d:=bnd h k
theorem uu:exS Φ G env (.j e) s=.d:=rfl
theorem aX(h:evE Φ G env e s=.d):exS Φ G env (.h e) s=.d:=by show (evE Φ G env e s).bind _=_;rw[h];rfl
theorem Xj(h:evE Φ G env e s=.e v s1):exS Φ G env (.h e) s=.e (.a env) s1:=bnd h rfl
theorem T6(h:exS Φ G env c s=.e (.a e) s1):xSs W Φ Ψ G env (.a c cs) s=xSs W Φ Ψ G e cs s1:=by simp only[xSs,h]
theorem uA(h:exS Φ G env c s=.d):xSs W Φ Ψ G env (.a c cs) s=xS W Φ Ψ G env c s:=by simp only[xSs,h]
theorem T5(h:evT Φ G env c s=.e true s1):xS W Φ Ψ G env (.g c a b) s=xSs W Φ Ψ G env a s1:=by simp only[xS,h,if_true]
theorem Zm(h:zo Φ G env es s=.e vs s1):xS W Φ Ψ G env (.h (.h f v es)) s=Ψ f v vs s1:=by simp only[xS,xE,h]
theorem m7(h:zo Φ G env es s=.e vs s1)(k:(nB vs&&W c)=true):xS W Φ Ψ G env (.j (.h c v es)) s=some (c,vs,s1):=by simp only[xS,h];rw[if_pos k]
theorem wk(hl:vs.length=F.b.length)(h:zS Φ T.b (zk F.N vs) F.a s=.d):run T Φ F vs s=.d:=by unfold run;rw[if_pos hl,h];rfl
end
def Rz(Φ:Calls)(Ψ:wu)(f:Str)(vs:List Val)(s:Sto)(c:Str):Prop:=Φ f 0 vs s=.d/\∃as,Ψ f 0 vs s=some (c,as,s)
section
variable {T:Tbl}{Φ:Calls}{Ψ:wu}{s:Sto}
def VB(Φ:Calls)(Ψ:wu):Prop:=∀(v:Val) (l m:Int) (s:Sto),kindOf v≠none->zZ l m v=false->l.natAbs<2 ^ 64->m.natAbs<2 ^ 64->Rz Φ Ψ "need_whole" [v,.c l,.c m] s "NoNumber"
def RC(Φ:Calls)(Ψ:wu):Prop:=∀(v:Val) (s:Sto),kindOf v≠none->zZ 2 8 v=false->Rz Φ Ψ "need_size" [v] s "NoNumber"
theorem cn(c:rG Φ)(hW:(T.e.lookup ("NoNumber":Str)).isSome=true)(hk:kindOf v≠none)(hw:zZ l m v=false)(hl:l.natAbs<2 ^ 64)(hm:m.natAbs<2 ^ 64) :
 run T Φ F.zw [v,.c l,.c m] s=.d/\xSs (λc=>(T.e.lookup c).isSome) Φ Ψ T.b (zk F.zw.N [v,.c l,.c m]) F.zw.a s=some (("NoNumber":Str),[Val.c l,Val.c m],s):=by
 have ht:evT Φ T.b [some v,some (.c l),some (.c m)] (.b (.a (.h "is_whole" 0 (.a (.e 0) (.a (.e 1) (.a (.e 2) .b)))))) s=.e true s:=by have hc:=c v l m s hk;rw[hw]at hc;exact vj (b:=false) (zX (x_call (zA (zB rfl) (zA (zB rfl) (zA (zB rfl) zC))) hc) zJ)
 have hs:=Uv (b:=.b) ht (vt (cs:=.b) (uu (e:=.h "NoNumber" 0 (.a (.e 1) (.a (.e 2) .b)))));refine⟨wk rfl (vt hs),(uA hs).trans ((T5 ht).trans ((uA uu).trans (m7 (zA (zB rfl) (zA (zB rfl) zC)) ?_)))⟩;rw[hW];simp[nB,hl,hm]
theorem cq(g1:T.b "LEAST_SIZE"=some (.c 2))(g2:T.b "MOST_SIZE"=some (.c 8))(c:VB Φ Ψ)(hk:kindOf v≠none)(hw:zZ 2 8 v=false) :
 run T Φ F.yL [v] s=.d/\∃as,xSs (λc=>(T.e.lookup c).isSome) Φ Ψ T.b (zk F.yL.N [v]) F.yL.a s=some (("NoNumber":Str),as,s):=by
 obtain⟨a,as,b⟩:=c v 2 8 s hk hw (by decide) (by decide)
 have he:zo Φ T.b [some v] (.a (.e 0) (.a (.A "LEAST_SIZE") (.a (.A "MOST_SIZE") .b))) s=.e [v,.c 2,.c 8] s:=zA (zB rfl) (zA (uL g1) (zA (uL g2) zC));have hs:=aX (x_call he a);exact⟨wk rfl (vt hs),as,(uA hs).trans ((Zm he).trans b)⟩
theorem Xv(g1:T.b "LEAST_SIZE"=some (.c 2))(g2:T.b "MOST_SIZE"=some (.c 8))(c:tQ Φ)(h1:2<=i)(h2:i<=8):run T Φ F.yL [.c i] s=.e .h s:=by rw[post_eq];simp[F.yL,EVl,zk,ze,g1,g2,c i 2 8 s h1 h2]
theorem eW(g:T.b "MOST_PLACES"=some (.c 40))(c:tQ Φ)(h1:0<=i)(h2:i<=40):run T Φ F.yp [.c i] s=.e .h s:=by rw[post_eq];simp[F.yp,EVl,zk,ze,g,c i 0 40 s h1 h2]
end
end M
end
section
namespace M
open PySem
theorem we:∀{tb} {s},zf tb s=true↔∃r,s=tb.map Cel.d++r
 |[],s=>⟨λ_=>⟨s,rfl⟩,λ_=>rfl⟩
 |x::tb,s=>by
  constructor
  . intro h
    cases s with
    |nil=>cases h
    |cons c r=>
     cases c with
     |d y=>
      have h':(decide (x=y)&&zf tb r)=true:=h;rw[cf,decide_eq_true_eq]at h';obtain⟨r',e⟩:=we.mp h'.2;exact⟨r',by rw[h'.1,e];rfl⟩
     |_=>cases h
  . rintro ⟨r,rfl⟩
    show (decide (x=x)&&zf tb (tb.map Cel.d++r))=true;rw[decide_eq_true rfl,we.mpr ⟨r,rfl⟩];rfl
theorem qh(h:zf tb s=true):zf tb (s++t)=true:=by obtain⟨r,rfl⟩:=we.mp h;exact we.mpr ⟨r++t,Bt ..⟩
theorem Wm(h:zf tb s=true)(hp:tb.length<=p):zf tb (s.set p c)=true:=by obtain⟨r,rfl⟩:=we.mp h;refine we.mpr ⟨r.set (p-tb.length) c,?_⟩;rw[List.set_append_right _ _ (by rw[Aa];exact hp),Aa]
theorem SX(h:zf tb s=true)(hp:tb.length<=p)(t:vm s p s'):zf tb s'=true:=by obtain⟨a,b,c,d,rfl,_⟩:=t;exact Wm h hp
theorem Wl(h:zf tb s=true):tb.length<=s.length:=by obtain⟨r,rfl⟩:=we.mp h;rw[Am,Aa];omega
theorem eK(hs:zf tb s=true)(h:v.noRef=true):zi false (tb.map Cel.d) v s=.e v (tb.map Cel.d):=by obtain⟨r,rfl⟩:=we.mp hs;exact pG h
theorem rW(h:Rz (zF T n) (zl T n) f vs s c)(h1:T.d f 101=none)(h2:T.c true=true)(h3:zf T.f s=true)(h4:T.e.lookup c=some w):zF T (n+1) f 101 vs s=.e (.g w) s:=by obtain⟨a,as,b⟩:=h;simp only[zF,h1,a,b,h2,h3,h4,qL];rfl
theorem mR(h:zF T n f 0 vs s=.e v s')(h1:T.d f 101=none)(h2:T.c true=true)(h3:zf T.f s=true):zF T (n+1) f 101 vs s=.e v s':=by simp only[zF,h1,h,h2,h3,qL];rfl
def RzF(T:Tbl)(Φ:Calls)(Ψ:wu)(F:Fn)(vs:List Val)(s:Sto)(c:Str):Prop:=run T Φ F vs s=.d/\∃as,xSs (λc=>(T.e.lookup c).isSome) Φ Ψ T.b (zk F.N vs) F.a s=some (c,as,s)
theorem RzF.up(h:RzF T (zF T n) (zl T n) F vs s c)(hf:T.d f 0=some F)(hl:vs.length=F.b.length):Rz (zF T (n+1)) (zl T (n+1)) f vs s c:=by obtain⟨a,as,b⟩:=h;exact⟨by rw[zQ hf];exact a,as,by rw[lS hf hl];exact b⟩
section
variable {T:Tbl}{Φ:Calls}{Ψ:wu}{s:Sto}
theorem xD(hb:F.a=.a (.h (.h f 0 es)) cs)(hl:vs.length=F.b.length)(he:zo Φ T.b (zk F.N vs) es s=.e ws s)(h:Rz Φ Ψ f ws s c):RzF T Φ Ψ F vs s c:=by obtain⟨a,as,b⟩:=h;have hs:=aX (x_call he a);refine⟨wk hl (by rw[hb];exact vt hs),as,by rw[hb];exact(uA hs).trans ((Zm he).trans b)⟩
end
end M
end
section
namespace M
open PySem
structure Kds(v:Val):Prop where
 a:kindOf v≠none
 el:∀vs,v=.f vs->∀w∈vs,kindOf w≠none
end M
end
section
namespace F71
open PySem M
noncomputable def xW:Fn:=⟨["_law_size","_law_thing","_law_more","_law_mine","_law_theirs"],["_law_size","_law_thing"],false,(.a (.g (.f (.b (.a (.k .h false (.a (.e 1) (.a (.J "tuple" "tuple") .b))))) (.a (.b (.a (.w .e .e (.g (.c 1)) (.k .b false (.a (.e 1) .b)) (.g (.c 8))))) .b)) (.a (.d (.g (.e false))) .b) .b) (.a (.g (.a (.l .b (.q false ["_law_one"] [none] (.e 0) (.a 0) (.d (.e 1)) (.a (.f (.a (.k .h false (.a (.e 0) (.a (.J "bool" "bool") .b)))) (.a (.a (.l .a (.e 0) (.r (.a (.g (.c 0)) (.a (.g (.c 1)) (.a (.g (.c 2)) .b)))))) .b)) .b)) (.u false .b))) (.a (.d (.g (.e false))) .b) .b) (.a (.f 2 (.j false .d (.D .a false (.e 1) (.a (.g (.c 1)) .b)) (.D .a false (.e 1) (.a (.g (.c 2)) .b)))) (.a (.m [3,4] (.a (.h "_law_has" 0 (.a (.e 0) (.a (.e 1) (.a (.g (.c 1)) .b)))) (.a (.h "_law_has" 0 (.a (.e 0) (.a (.e 1) (.a (.g (.c 2)) .b)))) .b))) (.a (.g (.f (.d (.a (.e 3)) (.a (.a (.e 4)) .b)) (.a (.d (.a (.e 3)) (.a (.a (.l .b (.e 2) (.g (.c 1)))) .b)) (.a (.d (.a (.e 4)) (.a (.a (.l .b (.e 2) (.g (.c 0)))) .b)) .b))) (.a (.d (.g (.e false))) .b) .b) (.a (.d (.l .h (.e 2) (.r (.a (.g (.c 0)) (.a (.g (.c 1)) .b))))) .b))))))⟩
noncomputable def z6:Fn:=⟨["_law_size","_law_thing","_law_kept","_law_good_here","_law_due","_law_some","_law_won","_law_turn","_law_said","_law_place","_law_told","!"],["_law_size","_law_thing"],false,(.a (.m [2,3] (.a (.k .a false (.a (.e 1) .b)) (.a (.h "_law_good" 0 (.a (.e 0) (.a (.e 1) .b))) .b))) (.a (.f 4 (.j false .b (.u false (.a (.g (.g "! stand")) .b)) (.g (.c 4)))) (.a (.g (.a (.e 3)) (.a (.f 5 (.h "_law_free" 0 (.a (.e 0) (.a (.e 1) .b)))) (.a (.f 6 (.q false ["_law_hand_here","_law_size","_law_thing"] [none,some 0,some 1] (.e 0) (.a 0) (.d (.r (.a (.g (.c 1)) (.a (.g (.c 2)) .b)))) (.a (.a (.h "_law_has" 0 (.a (.e 1) (.a (.e 2) (.a (.e 0) .b))))) .b))) (.a (.f 4 (.u false (.a (.C (.a (.l .d (.e 5) (.r .b))) (.g .h) (.h "_law_hand" 0 (.a (.e 1) .b))) (.a (.s (.j false .a (.e 6) (.u false (.a (.g .h) .b))) (.g (.c 0))) (.a (.e 5) (.a (.g (.g "! place")) .b)))))) .b))) .b) (.a (.k (.a 7) (.c (.g (.c 2))) (.a (.f 8 (.u true (.a (.h "hand_on" 101 (.a (.e 0) (.a (.e 1) .b))) .b))) (.a (.h (.D .b false (.e 8) (.a (.h "won_by" 101 (.a (.e 0) (.a (.e 1) .b))) .b))) (.a (.h (.D .b false (.e 8) (.a (.h "may_take" 101 (.a (.e 0) (.a (.e 1) .b))) .b))) (.a (.h (.D .b false (.e 8) (.a (.h "taken" 101 (.a (.e 0) (.a (.e 1) (.a (.g (.e true)) .b)))) .b))) (.a (.g (.f (.a (.l .b (.k .a false (.a (.h "is_stand" 0 (.a (.e 0) (.a (.e 1) .b))) .b)) (.k .a false (.a (.e 3) .b)))) (.a (.a (.l .b (.k .a false (.a (.e 8) .b)) (.k .a false (.a (.e 4) .b)))) (.a (.a (.l .b (.k .a false (.a (.e 1) .b)) (.e 2))) .b))) (.a (.d (.g (.e false))) .b) .b) .b)))))) (.a (.k (.a 9) (.d (.j false .a (.u false (.a (.B (.g (.c 1))) (.a (.g (.c 8)) (.a (.g .h) (.a (.g (.g "0")) (.a (.g (.e false)) (.a (.j false .f (.g (.c 10)) (.g (.c 29))) .b))))))) (.p false (.g (.c 0)) (.g (.c 8)) (.g (.c 1))))) (.a (.f 10 (.s (.e 4) (.g (.c 3)))) (.a (.g (.d (.a (.e 3)) (.a (.a (.l .h (.k .a false (.a (.e 9) .b)) (.q false ["_law_one"] [none] (.k .a false (.a (.e 0) .b)) (.a 0) (.d (.s (.e 4) (.g (.c 2)))) .b))) .b)) (.a (.f 10 (.h "_law_put" 0 (.a (.e 1) (.a (.e 9) .b)))) .b) .b) (.a (.g (.a (.l .b (.k .a false (.a (.h "taken" 101 (.a (.e 0) (.a (.e 1) (.a (.e 9) .b)))) .b)) (.k .a false (.a (.e 10) .b)))) (.a (.d (.g (.e false))) .b) .b) .b)))) (.a (.d (.g (.e true))) .b))))))⟩
noncomputable def yo:Fn:=⟨["size","stand"],["size","stand"],false,(.a (.h (.h "need_stand" 0 (.a (.e 0) (.a (.e 1) .b)))) (.a (.d (.C (.a (.h "free_places" 0 (.a (.e 0) (.a (.e 1) .b)))) (.h "hand_due" 0 (.a (.e 1) .b)) (.g .h))) .b))⟩
noncomputable def yW:Fn:=⟨["size","stand"],["size","stand"],false,(.a (.h (.h "need_stand" 0 (.a (.e 0) (.a (.e 1) .b)))) (.a (.d (.h "free_places" 0 (.a (.e 0) (.a (.e 1) .b)))) .b))⟩
noncomputable def xO:Fn:=⟨["size","stand","place"],["size","stand","place"],false,(.a (.h (.h "need_stand" 0 (.a (.e 0) (.a (.e 1) .b)))) (.a (.g (.f (.b (.a (.h "is_whole" 0 (.a (.e 2) (.a (.g (.c 0)) (.a (.j false .d (.k .b false (.a (.e 1) .b)) (.g (.c 1))) .b)))))) (.a (.a (.l .a (.e 2) (.h "free_places" 0 (.a (.e 0) (.a (.e 1) .b))))) .b)) (.a (.j (.h "NoPlace" 0 (.a (.g (.g "a place that may be taken is due")) .b))) .b) .b) (.a (.d (.h "behind_taking" 0 (.a (.e 1) (.a (.e 2) .b)))) .b)))⟩
noncomputable def xM:Fn:=⟨["size","stand"],["size","stand"],false,(.a (.h (.h "need_stand" 0 (.a (.e 0) (.a (.e 1) .b)))) (.a (.d (.h "winner" 0 (.a (.e 0) (.a (.e 1) .b)))) .b))⟩
end F71
end
section
namespace M
open PySem
section
variable {W:Str->Bool}{Φ:Calls}{Ψ:wu}{G:Str->Option Val}{env:Env}{s s1:Sto}{T:Tbl}
theorem Rx(h:evT Φ G env c s=.d):exS Φ G env (.g c a b) s=.d:=by show (evT Φ G env c s).bind _=_;rw[h];rfl
theorem Qi(h:evT Φ G env c s=.d):xS W Φ Ψ G env (.g c a b) s=xT Φ Ψ G env c s:=by simp only[xS,h]
theorem SV(he:zo Φ G env es s=.e vs s1)(h:Φ f v vs s1=.d):evT Φ G env (.b (.a (.h f v es))) s=.d:=by have h1:evE Φ G env (.h f v es) s=.d:=x_call he h;show ((evE Φ G env (.h f v es) s).bind _).bind _=_;rw[h1];rfl
theorem T7(he:zo Φ G env es s=.e vs s1):xT Φ Ψ G env (.b (.a (.h f v es))) s=Ψ f v vs s1:=by simp only[xT,xE,he]
theorem Ye(hb:F.a=.a (.g (.b (.a (.h f 0 es))) a b) cs)(hl:vs.length=F.b.length)(he:zo Φ T.b (zk F.N vs) es s=.e ws s)(h:Rz Φ Ψ f ws s c):RzF T Φ Ψ F vs s c:=by obtain⟨h1,as,h2⟩:=h;have ht:=SV he h1;have hs:=Rx (a:=a) (b:=b) ht;exact⟨wk hl (by rw[hb];exact vt hs),as,by rw[hb];exact(uA hs).trans ((Qi ht).trans ((T7 he).trans h2))⟩
theorem Vy{F:Fn}{f c x:Str}{vs ws:List Val}{es:Exs}{b cs:Sms}(hb:F.a=.a (.g (.b (.a (.h f 0 es))) (.a (.j (.h c 0 (.a (.g (.g x)) .b))) .b) .b) cs)(hl:vs.length=F.b.length)(he:zo Φ T.b (zk F.N vs) es s=.e ws s)(h:Φ f 0 ws s=.e (.e false) s)
 (hW:(T.e.lookup c).isSome=true):RzF T Φ Ψ F vs s c:=by
 have ht:=vj (zX (x_call he h) zJ);have hs:=Uv (b:=.b) ht (vt (cs:=.b) (uu (e:=.h c 0 (.a (.g (.g x)) .b))));exact⟨wk hl (by rw[hb];exact vt hs),_,by rw[hb];exact(uA hs).trans ((T5 ht).trans ((uA uu).trans (m7 (zA zD zC) (by rw[hW];rfl))))⟩
theorem oE(h1:evE Φ G env a s=.e (.c i) s)(h2:evE Φ G env b s=.e (.c j) s)(h3:evE Φ G env c s=.e (.c k) s):evE Φ G env (.w .e .e a b c) s=.e (.e (decide (i<=j)&&decide (j<=k))) s:=by
 refine bnd h1 (bnd h2 (bnd le_int ?_));cases decide (i<=j) with
 |true=>
  show (evE Φ G env c s).bind (λz s4=>zW .e (.c j) z s4)=_;exact bnd h3 (by rw[le_int,CZ])
 |false=>rfl
theorem Sr(h1:evE Φ G env a s=.e (.e p) s)(h2:p=true->evE Φ G env b s=.e (.e q) s):evE Φ G env (.y a (.a b .b)) s=.e (.e (p&&q)) s:=by
 cases p with
 |true=>exact fN h1 (by rw[CZ];exact h2 rfl)
 |false=>exact oD h1
end
def markB:Val->Bool
 |.f vs=>(decide ((1:Int)<=vs.length)&&decide ((vs.length:Int)<=8))&&vs.all (zZ 0 2)
 |_=>false
def rD(z:Nat)(st:List Int):Bool:=(decide ((0:Int)<=(st.count 1:Int)-(st.count 2:Int))&&decide ((st.count 1:Int)-(st.count 2:Int)<=1))&&!hasB z st (zy st)
def wa(z:Nat):Val->Bool
 |.f vs=>markB (.f vs)&&(match intsOf vs with|some st=>rD z st|dr=>false)
 |_=>false
theorem qN:∀{vs},vs.all (zZ 0 2)=true->∃st:List Int,vs=st.map .c/\∀x∈st,0<=x/\x<=2
 |[],_=>⟨[],rfl,λx h=>(nomatch h)⟩
 |v::vs,h=>by
  rw[BB,cf]at h;obtain⟨st,rfl,hs⟩:=qN h.2;have h1:=h.1;cases v with
  |c i=>
   rw[oC,cf,decide_eq_true_eq,decide_eq_true_eq]at h1;refine⟨i::st,rfl,λx hx=>?_⟩;rcases Af.mp hx with rfl|hx
   . exact h1
   . exact hs x hx
  |_=>cases h1
theorem mW(h:markB v=true):∃st,v=tpI st/\1<=st.length/\st.length<=8/\∀x∈st,0<=x/\x<=2:=by
 cases v with
 |f vs=>
  have h:((decide ((1:Int)<=vs.length)&&decide ((vs.length:Int)<=8))&&vs.all (zZ 0 2))=true:=h;rw[cf,cf,decide_eq_true_eq,decide_eq_true_eq]at h;obtain⟨⟨a,b⟩,c⟩:=h;obtain⟨st,rfl,hs⟩:=qN c;rw[Aa]at a b;exact⟨st,rfl,by omega,by omega,hs⟩
 |_=>cases h
theorem wN(h:markB v=false):wa z v=false:=by
 cases v with
 |f vs=>
  show (markB (.f vs)&&_)=false;rw[h];rfl
 |_=>rfl
theorem sU(h:markB (tpI st)=true):wa z (tpI st)=rD z st:=by
 show (markB (tpI st)&&(match intsOf (st.map .c) with|some st=>rD z st|dr=>false))=_
 rw[h,l5,CZ]
theorem av(h:Stn z st):markB (tpI st)=true:=by
 have h1:=h.n1;have h8:=h.b;show ((decide ((1:Int)<=(st.map Val.c).length)&&decide (((st.map Val.c).length:Int)<=8))&&(st.map Val.c).all (zZ 0 2))=true;rw[Aa,decide_eq_true (by omega),decide_eq_true (by omega)]
 refine Ao.mpr λv hv=>?_;obtain⟨i,hi,rfl⟩:=AO.mp hv;obtain⟨a,b⟩:=h.n i hi;rw[oC,decide_eq_true a,decide_eq_true b];rfl
theorem lu(h:Stn z st):wa z (tpI st)=true:=by have lo:=h.l;have hi:=h.i;rw[sU (av h)];unfold rD;rw[h.o,decide_eq_true (by omega),decide_eq_true (by omega)];rfl
theorem XD(z2:2<=z)(z8:z<=8)(h:wa z v=true):∃st,v=tpI st/\Stn z st:=by
 cases hm:markB v with
 |false=>rw[wN hm]at h;cases h
 |true=>
  obtain⟨st,rfl,a,b,c⟩:=mW hm;rw[sU hm]at h;unfold rD at h;rw[cf,cf,decide_eq_true_eq,decide_eq_true_eq]at h;obtain⟨⟨d,e⟩,f⟩:=h;exact⟨st,rfl,z2,z8,a,b,c,by omega,by omega,by simpa using f⟩
theorem gu:Kds (tpI st):=⟨nofun,λvs e w hw=>by
 cases e;obtain⟨i,_,rfl⟩:=AO.mp hw;exact nofun⟩
section
variable {T:Tbl}{Φ:Calls}{Ψ:wu}{s:Sto}
def d8(Φ:Calls):Prop:=∀(v:Val) (s:Sto),Kds v->Φ "is_marked" 0 [v] s=.e (.e (markB v)) s
theorem dP(g:GlS T)(cW:gI Φ)(h:Kds v):run T Φ F75.xY [v] s=.e (.e (markB v)) s:=by
 rw[post_eq,F75.xY,yZ];refine⟨rfl,?_⟩;show (zS Φ T.b [some v] _ s).post _;refine zu (v:=.e (markB v)) ?_ (yO yV);cases v with
 |f vs=>
  have c1:=cW vs 0 2 s (h.el vs rfl);have hc:=oE (Φ:=Φ) (G:=T.b) (env:=[some (.f vs)]) (s:=s) (a:=.g (.c 1)) (b:=.k .b false (.a (.e 0) .b)) (c:=.A "MOST_STAND_PLACES") zD (zh (zA (zB rfl) zC) tL) (uL g.mo);show _=Out.e (Val.e ((decide ((1:Int)<=vs.length)&&decide ((vs.length:Int)<=8))&&vs.all (zZ 0 2))) s;cases hb:(decide ((1:Int)<=vs.length)&&decide ((vs.length:Int)<=8)) with
  |true=>
   rw[hb]at hc;rw[CZ];exact YS (zh (zA (zB rfl) (zA tG zC)) rfl) hc (x_call (zA (zB rfl) (zA (uL g.fr) (zA (xw (uL g.a) zD ha1) zC))) c1)
  |false=>
   rw[hb]at hc;exact YR (zh (zA (zB rfl) (zA tG zC)) rfl) hc
 |m _=>exact absurd rfl h.a
 |p _=>exact absurd rfl h.a
 |q _=>exact absurd rfl h.a
 |r _=>exact absurd rfl h.a
 |o _=>exact absurd rfl h.a
 |_=>exact oD (zh (zA (zB rfl) (zA tG zC)) rfl)
def cJ(Φ:Calls):Prop:=∀(z:Nat) (st:List Int) (s:Sto),2<=z->z<=8->st.length<=40->Φ "is_in_turn" 0 [.c z,tpI st] s=.e (.e (rD z st)) s
theorem dU(g:GlS T)(cD:dy Φ)(cH:jQ "has_row" Φ){z:Nat}(h2:2<=z)(h8:z<=8)(hl:st.length<=40):run T Φ F75.xA [.c z,tpI st] s=.e (.e (rD z st)) s:=by have c1:=cH z st (zy st) s h2 h8 hl;rw[post_eq,F75.xA,yZ];refine⟨rfl,?_⟩;show (zS Φ T.b [some (.c z),some (tpI st),none] _ s).post _;refine ye (zc (vN (zB rfl) (zA (xw (uL g.a) zD ha0) zC) uh) (vN (zB rfl) (zA (xw (uL g.a) zD ha1) zC) uh) fQ) ?_;exact zu (Sr (oE zD (zB rfl) zD) λ_=>YU (x_call (zA (zB rfl) (zA (zB rfl) (zA (x_call (zA (zB rfl) zC) (cD st s)) zC))) c1)) (yO yV)
def uk(Φ:Calls):Prop:=∀(z:Nat) (v:Val) (s:Sto),2<=z->z<=8->Kds v->Φ "is_stand" 0 [.c z,v] s=.e (.e (wa z v)) s
theorem iX(cS:rF Φ)(cM:d8 Φ)(cI:cJ Φ){z:Nat}(h2:2<=z)(h8:z<=8)(h:Kds v):run T Φ F75.yw [.c z,v] s=.e (.e (wa z v)) s:=by
 rw[post_eq,F75.yw,yZ];refine⟨rfl,?_⟩;show (zS Φ T.b [some (.c z),some v] _ s).post _;refine wK (x_call (zA (zB rfl) zC) (cS z s (by omega) (by omega))) ?_
 have c1:=cM v s h;cases hm:markB v with
 |false=>
  rw[hm]at c1;exact zu (oD (x_call (zA (zB rfl) zC) c1)) (by rw[wN hm];exact yO yV)
 |true=>
  obtain⟨st,rfl,a,b,_⟩:=mW hm;rw[hm]at c1;exact zu (fN (x_call (zA (zB rfl) zC) c1) (x_call (zA (zB rfl) (zA (zB rfl) zC)) (cI z st s h2 h8 (by omega)))) (by rw[sU hm];exact yO yV)
def onV(z:Nat)(st:List Int):Val:=if (zY z st).isEmpty then .h else .c (zy st)
def YX(Φ:Calls):Prop:=∀(z:Nat) (st:List Int) (s:Sto),Stn z st->Φ "hand_on" 0 [.c z,tpI st] s=.e (onV z st) s
theorem iU(cN:x9 Φ)(cF:sD "free_places" Φ)(cD:dy Φ)(h:Stn z st):run T Φ F71.yo [.c z,tpI st] s=.e (onV z st) s:=by
 rw[post_eq,F71.yo,yZ];refine⟨rfl,?_⟩;show (zS Φ T.b [some (.c z),some (tpI st)] _ s).post _;refine wK (x_call (zA (zB rfl) (zA (zB rfl) zC)) (cN z st s h)) ?_;have ht:evT Φ T.b [some (.c z),some (tpI st)] (.a (.h "free_places" 0 (.a (.e 0) (.a (.e 1) .b)))) s=.e (!(zY z st).isEmpty) s:=zX (x_call (zA (zB rfl) (zA (zB rfl) zC)) (cF z st s h)) (by show some (!((zY z st).map _).isEmpty)=_;rw[List.isEmpty_map])
 cases he:(zY z st).isEmpty with
 |true=>
  rw[he]at ht;exact zu (lL ht zD) (by unfold onV;rw[he,if_pos rfl];exact yO uw)
 |false=>
  rw[he]at ht;exact zu (lM ht (x_call (zA (zB rfl) zC) (cD st s))) (by unfold onV;rw[he,if_neg Ab];exact yO vA)
theorem U7:(vF z st).noRef=true:=by
 unfold vF;split
 . exact vA
 . exact uw
def Vs(Φ:Calls):Prop:=∀(z:Nat) (st:List Int) (s:Sto),Stn z st->Φ "won_by" 0 [.c z,tpI st] s=.e (vF z st) s
theorem dX(cN:x9 Φ)(cW:nu Φ)(h:Stn z st):run T Φ F71.xM [.c z,tpI st] s=.e (vF z st) s:=by have h8:=h.b;rw[post_eq,F71.xM,yZ];refine⟨rfl,?_⟩;show (zS Φ T.b [some (.c z),some (tpI st)] _ s).post _;refine wK (x_call (zA (zB rfl) (zA (zB rfl) zC)) (cN z st s h)) ?_;exact zu (x_call (zA (zB rfl) (zA (zB rfl) zC)) (cW z st s h.c h.g (by omega))) (yO U7)
theorem kn(cN:x9 Φ)(cF:sD "free_places" Φ)(h:Stn z st):run T Φ F71.yW [.c z,tpI st] s=.e (xp (zY z st)) s:=by rw[post_eq,F71.yW,yZ];refine⟨rfl,?_⟩;show (zS Φ T.b [some (.c z),some (tpI st)] _ s).post _;refine wK (x_call (zA (zB rfl) (zA (zB rfl) zC)) (cN z st s h)) ?_;exact zu (x_call (zA (zB rfl) (zA (zB rfl) zC)) (cF z st s h)) (yO j7)
theorem qd(h:p∈zY z st):st[p]?=some 0/\p<st.length:=by
 unfold zY at h;split at h
 . cases h
 . have:=kG.mp h
   exact⟨this,(Aj.mp this).1⟩
theorem nF{p:Nat}:zW .a (.c (p:Int)) (xp hs) s=.e (.e !decide (p∈hs)) s:=by
 have e:(hs.map λ(k:Nat)=>Val.c k).any (λz=>eqF z (.c (p:Int)))=decide (p∈hs):=by
  rw[FR];induction hs with
  |nil=>rfl
  |cons h hs ih=>
   rw[BZ,ih];show (((h:Int) == (p:Int))||_)=_
   by_cases hh:p=h
   . subst hh;simp
   . have:¬(h:Int)=(p:Int):=by omega
     simp[hh,this]
 have fl:(hs.map λ(k:Nat)=>Val.c k).all flat=true:=Ao.mpr λv hv=>by obtain⟨k,_,rfl⟩:=AO.mp hv;rfl
 show (if flat (.c (p:Int))&&(hs.map λ(k:Nat)=>Val.c k).all flat then Out.e (Val.e !((hs.map λ(k:Nat)=>Val.c k).any λz=>eqF z (.c (p:Int)))) s else _)=_
 rw[if_pos (by rw[fl];rfl),e]
def YY(Φ:Calls):Prop:=∀(z p:Nat) (st:List Int) (s:Sto),Stn z st->p∈zY z st->Φ "taken" 0 [.c z,tpI st,.c p] s=.e (tpI (vP st p)) s
theorem dR(cN:x9 Φ)(cW:rG Φ)(cF:sD "free_places" Φ)(cB:vT "behind_taking" Φ)(h:Stn z st)(hp:p∈zY z st):run T Φ F71.xO [.c z,tpI st,.c p] s=.e (tpI (vP st p)) s:=by
 have h8:=h.b;have lt:=(qd hp).2;have w1:Φ "is_whole" 0 [.c p,.c 0,.c ((st.length:Int)-1)] s=.e (.e true) s:=by rw[cW _ _ _ _ (by simp[kindOf]),nk (by omega) (by omega)]
 rw[post_eq,F71.xO,yZ];refine⟨rfl,?_⟩;show (zS Φ T.b [some (.c z),some (tpI st),some (.c p)] _ s).post _;refine wK (x_call (zA (zB rfl) (zA (zB rfl) zC)) (cN z st s h)) ?_;refine xu (qB (vj (b:=true) (zX (x_call (zA (zB rfl) (zA zD (zA (zc (zh (zA (zB rfl) zC) (by rw[tL,Aa])) zD fQ) zC))) w1) zJ)) (uy (zX (yF (zB rfl) (x_call (zA (zB rfl) (zA (zB rfl) zC)) (cF z st s h)) nF) (by rw[zJ,decide_eq_true hp];rfl)) lJ)) ?_
 exact zu (x_call (zA (zB rfl) (zA (zB rfl) zC)) (cB st p s lt (by omega) h.l h.i)) (yO ma)
def iO(z:Nat)(st:List Int):Val->Bool
 |.c i=>decide (0<=i)&&decide (i.toNat∈zY z st)
 |_=>false
theorem fP(cN:x9 Φ)(cW:rG Φ)(cF:sD "free_places" Φ)(hW:(T.e.lookup ("NoPlace":Str)).isSome=true)(h:Stn z st)(hk:kindOf v≠none)(hb:iO z st v=false):RzF T Φ Ψ F71.xO [.c z,tpI st,v] s "NoPlace":=by
 have hn:=Xj (G:=T.b) (env:=[some (.c z),some (tpI st),some v]) (x_call (f:="need_stand") (v:=0) (zA (zB (i:=0) rfl) (zA (zB (i:=1) rfl) zC)) (cN z st s h));have w1:Φ "is_whole" 0 [v,.c 0,.c ((st.length:Int)-1)] s=.e (.e (zZ 0 ((st.length:Int)-1) v)) s:=cW _ _ _ _ hk;have e1:evT Φ T.b [some (.c z),some (tpI st),some v] (.b (.a (.h "is_whole" 0 (.a (.e 2) (.a (.g (.c 0)) (.a (.j false .d (.k .b false (.a (.e 1) .b)) (.g (.c 1))) .b)))))) s=.e (!zZ 0 ((st.length:Int)-1) v) s:=vj (zX (x_call (zA (zB rfl) (zA zD (zA (zc (zh (zA (zB rfl) zC) (by rw[tL,Aa])) zD fQ) zC))) w1) zJ)
 have ht:evT Φ T.b [some (.c z),some (tpI st),some v] (.f (.b (.a (.h "is_whole" 0 (.a (.e 2) (.a (.g (.c 0)) (.a (.j false .d (.k .b false (.a (.e 1) .b)) (.g (.c 1))) .b)))))) (.a (.a (.l .a (.e 2) (.h "free_places" 0 (.a (.e 0) (.a (.e 1) .b))))) .b)) s=.e true s:=by
  cases hw:zZ 0 ((st.length:Int)-1) v with
  |false=>rw[hw]at e1;exact fK e1
  |true=>
   rw[hw]at e1;cases v with
   |c i=>
    rw[oC,cf,decide_eq_true_eq,decide_eq_true_eq]at hw;obtain⟨p,rfl⟩:∃p:Nat,i=p:=⟨i.toNat,by omega⟩
    have hb:(decide ((0:Int)<=(p:Int))&&decide ((p:Int).toNat∈zY z st))=false:=hb;rw[decide_eq_true (by omega),CZ,AN]at hb
    exact qB e1 (jJ (zX (yF (zB rfl) (x_call (zA (zB rfl) (zA (zB rfl) zC)) (cF z st s h)) nF) (by rw[zJ,hb];rfl)))
   |_=>cases hw
 have hs:=Uv (b:=.b) ht (vt (cs:=.b) (uu (e:=.h "NoPlace" 0 (.a (.g (.g "a place that may be taken is due")) .b))));exact⟨wk rfl ((Uw hn).trans (vt hs)),_,(T6 hn).trans ((uA hs).trans ((T5 ht).trans ((uA uu).trans (m7 (zA zD zC) (by rw[hW];rfl)))))⟩
end
end M
end
section
namespace M
open PySem Hd
def bq(h:Heap)(a:Addr):Option Obj:=(h.get? a).bind λo=>if x8 o then none else some o
theorem XB(e:h.get? a=some o)(n:x8 o=false):bq h a=some o:=by unfold bq;rw[e];show (if x8 o=true then none else some o)=some o;rw[n];rfl
theorem gg(e:bq h a=some o):h.get? a=some o/\x8 o=false:=by
 unfold bq at e;obtain⟨o',e1,e2⟩:=DT.mp e;split at e2
 . cases e2
 . rename_i z
   cases e2;exact⟨e1,by simpa using z⟩
def yD(h:Heap):KF:=(Aq h.objs.size).filterMap λa=>(bq h a).map λo=>(a,o)
theorem qa{g:Addr->Option Obj}:∀{l:List Addr},a∈l->(l.filterMap λb=>(g b).map λo=>(b,o)).lookup a=g a
 |b::r,hm=>by
  rw[AW];by_cases e:a=b
  . subst e
    cases hg:g a with
    |none=>
     show (r.filterMap _).lookup a=none;by_cases m:a∈r
     . rw[qa m,hg]
     . exact FY.mpr λp hp=>by
        obtain⟨c,hc,e⟩:=Ct.mp hp;obtain⟨o,_,rfl⟩:=A4.mp e;have z:a≠c:=λz=>m (by rw[z];exact hc)
        simpa using z
    |some o=>show (List.lookup a ((a,o)::_))=_;rw[An,beq_self_eq_true]
  . have m:a∈r:=(Af.mp hm).resolve_left e
    cases hg:g b with
    |none=>exact qa m
    |some o=>
     show (List.lookup a ((b,o)::_))=_;rw[An,beq_false_of_ne e];exact qa m
theorem yI o(e:h.get? a=some o)(n:x8 o=false):(yD h).lookup a=some o:=by rw[<-XB e n];exact qa (AZ.mpr (Ak e))
theorem sP:(yD h).In h:=λa o e=>by obtain⟨c,_,e⟩:=Ct.mp (xq e);obtain⟨o',e1,e2⟩:=A4.mp e;cases e2;exact(gg e1).1
theorem fm(e:(yD h).lookup a=some o):x8 o=false:=by obtain⟨c,_,e⟩:=Ct.mp (xq e);obtain⟨o',e1,e2⟩:=A4.mp e;cases e2;exact(gg e1).2
theorem rj(e:nsH h x=some v):BC (yD h) AL x=some v:=by
 unfold nsH at e;split at e
 . rename_i o ho
   have hn:x8 o=false:=by
    unfold BC at e;rw[An,beq_self_eq_true]at e;dsimp only at e;split at e
    . rename_i hd;cases hd;unfold x8;simp
    . cases e
   unfold BC at e ⊢;rw[yI o ho hn];rw[An,beq_self_eq_true]at e;exact e
 . cases e
theorem bL(e:bK h cd x=true):BO (yD h) cd x=true:=by
 unfold bK at e;split at e
 . split at e
   . rename_i c o ho
     rw[cf,AQ]at e;obtain⟨hn,e⟩:=e;unfold BO at e ⊢;dsimp only at e ⊢;rw[An,beq_self_eq_true]at e;rw[yI o ho hn];exact e
   . cases e
 . cases e
theorem args_eq st:args st=L2.wI st/\body st=L2.yh st/\scope st=L2.zH st:=by cases st<;>exact⟨rfl,rfl,rfl⟩
theorem UC(e:Xr h p.1=Wx p):qG (yD h) p.1 p.2:=by
 obtain⟨a1,a2,a3⟩:=args_eq p.2;unfold Wx at e;rw[a1,a2,a3]at e;unfold Xr at e;split at e
 . rename_i f hf
   split at e
   . rename_i oc od fd osl ho
     split at e
     . rename_i hc
       have e':=Aw e;obtain⟨n,q,ps,b,sc,g,cl,df,kw,dc,pm,an,cd,ct,bl⟩:=fd;injection e' with e1 e2 e3 e4 e5 e6 e7 e8 _ _ _ _ _ _ e9
       subst e1 e2 e3 e4 e5 e6 e7 e8 e9;exact UB (rj hf) (yI _ ho (by unfold x8;simp)) (bL hc) (by unfold B4;dsimp only;rw[yI _ ho (by unfold x8;simp)])
     . cases e
   . cases e
 . cases e
noncomputable def gv:G->Val
 |.a i=>.c i
 |.c x=>.g x
 |.b ns=>.m ns
theorem Ra(e:glB h x v=true):fO (yD h) x (gv v):=by
 cases v with
 |a i=>
  unfold glB at e;dsimp only at e;split at e
  . rename_i hn;have:=of_decide_eq_true e;subst this;exact int_mk (rj hn)
  . cases e
 |c y=>
  unfold glB at e;dsimp only at e;split at e
  . rename_i hn;have:=of_decide_eq_true e;subst this;exact str_mk (rj hn)
  . cases e
 |b ns=>
  unfold glB at e;dsimp only at e;split at e
  . rename_i hn
    split at e
    . rename_i n od us k sl ho
      obtain⟨e1,e3⟩:=EK.mp e;obtain⟨e1,e2⟩:=EK.mp e1;have:=of_decide_eq_true e1;subst this;exact Yl (us:=us.toList) (rj hn) (yI _ ho rfl) (of_decide_eq_true e2) (of_decide_eq_true e3)
    . cases e
  . cases e
theorem VC(e:blB h x=true):BC (yD h) AL x=some none:=by
 unfold blB at e;split at e
 . rename_i hn;exact rj hn
 . cases e
theorem gS:∀{D:List (Str × Stmt)},(D.map λp=>Xr h p.1)=D.map Wx->∀p∈D,qG (yD h) p.1 p.2
 |p::D,e,q,hq=>by
  rw[AJ,AJ]at e;obtain⟨e1,e2⟩:=Fh e;rcases Af.mp hq with rfl|hq
  . exact UC e1
  . exact gS e2 q hq
end M
end
section
namespace M
open PySem Hd PySem.W
noncomputable def scB(N ps:List Str)(sc:Scope):Bool:=decide (sc.kind=.function)&&!sc.isCoroutine&&!sc.isGenerator&&decide N.Nodup&&decide (N.take ps.length=ps)&&ps.all (λx=>decide (sc.names.lookup x=some .local)||decide (sc.names.lookup x=some .cell))&&sc.names.all (λy=>decide (y.2≠.free))
theorem Z8(h:scB N ps sc=true):L2.vI N ps sc:=by unfold scB at h;simp only[cf,decide_eq_true_eq,AQ,Ao,Ay]at h;obtain⟨⟨⟨⟨⟨⟨h1,h2⟩,h3⟩,h4⟩,h5⟩,h6⟩,h7⟩:=h;exact⟨h1,h2,h3,h4,h5,h6,h7⟩
noncomputable def lkB(sc:Scope)(l:List (Str × CM)):Bool:=l.all λp=>decide (sc.names.lookup p.1=some p.2)
structure jV(st:Stmt)(cs ws:List Str)(pre:Option Str):Prop where
 b:argNames (L2.wI st)=some [("_law_e":Str)]
 c:scB L2.kN ["_law_e"] (L2.zH st)=true
 sh:L2.cP (L2.zH st) cs ws pre (L2.yh st)
 a:lkB (L2.zH st) [("_law_e",.local),("_law_marks",.local),("_law_words",.local),("isinstance",.globalImplicit),("ValueError",.globalImplicit)]=true
structure ny(m:Bool)(kx:Str)(st:Stmt):Prop where
 b:argNames (L2.wI st)=some [("_law_call":Str)]
 c:scB (L2.wU m) ["_law_call"] (L2.zH st)=true
 sh:L2.cV m kx (L2.yh st)
 a:lkB (L2.zH st) ((("_law_call":Str),NameKind.local)::(("_law_e":Str),NameKind.local)::(("HueError":Str),DX)::(kx,DX)::if m then [] else [(("_law_word":Str),NameKind.local)])=true
noncomputable def wsB(cs ws:List Str)(pre:Option Str):Bool:=decide cs.Nodup&&decide (cs.length<=100)&&decide (ws.length<=100)&&ws.all (λw=>decide (w.length<=100))&&(match pre with|none=>true|some x=>decide (x.length<=100))
def xcB(rz cs ws:List Str)(pre:Option Str)(xc:List (Str × Str)):Bool:=xc.all λp=>decide (p.1∈rz)&&(Aq cs.length).any λi=>decide (cs[i]?=some p.1)&&(match ws[i]? with|some x=>decide (p.2=L2.ans pre x)|none=>false)&&decide (p.2≠"great")
def ZI(q:Program)(c:Str):Bool:=(PyProof.Rows.ownsOf q).any λo=>decide (o.name=c)&&(o.bm == Hd.veM)&&(o.newId == "ValueError.__new__")
section
variable {h0 h:Heap}{mg:Str->Option Value}
theorem cZ(e:adH h0 x=some a):nsIn (yD h0) AL x=some (some (.ref a)):=by
 unfold adH at e;split at e
 . rename_i hn;cases e;exact rj hn
 . cases e
theorem bH(hm:p∈V7 h0 x):h0.get? p.1=some p.2/\x8 p.2=false:=by
 unfold V7 at hm;split at hm
 . split at hm
   . rename_i a o ho
     split at hm
     . rename_i cd hcd
       rcases Af.mp hm with z|z
       . subst z
         refine⟨ho,?_⟩;unfold x8;rw[hcd];simp
       . split at z
         . rename_i n hn
           split at z
           . cases z
           . rename_i hz
             rw[AF]at z;subst z;exact⟨hn,by simpa using hz⟩
         . cases z
     . cases hm
   . cases hm
 . cases hm
theorem gq:∀{xs},p∈kcH h0 xs->h0.get? p.1=some p.2/\x8 p.2=false
 |[],hm=>by cases hm
 |x::xs,hm=>by
  rcases AX.mp hm with z|z
  . exact bH z
  . exact gq z
theorem gr:L2.oG (kcH h0 xs) (yD h0):=λa o e=>by obtain⟨e1,e2⟩:=gq (xq e);exact yI o e1 e2
theorem W4(h:YV K C=true):L2.qj K C:=by unfold YV at h;simp only[cf,beq_iff_eq]at h;obtain⟨⟨⟨⟨⟨h1,h2⟩,h3⟩,h4⟩,h5⟩,h6⟩:=h;exact⟨h1,h2,h3,h4,h5,h6⟩
theorem lX(T:FV q loose mean mg mb h)(KX:(yD h0).In h)(KB:(yD h0).In base)(ho:ZI q c=true)(hm:mg c=some (.ref C))(hb:aw h0 C bm=true):L2.ClsAt base C bm:=by
 unfold ZI at ho;rw[Bl]at ho;obtain⟨o,hmem,ho⟩:=ho;simp only[cf,decide_eq_true_eq,beq_iff_eq]at ho;obtain⟨⟨o1,o2⟩,o3⟩:=ho;obtain⟨C',O,_⟩:=T.own o hmem;have hb':=O.bound;rw[o1,hm]at hb';cases hb';obtain⟨bm',N,nm,qq,bs,hdct,sn,sub,ab,col,dd,k0,k1,k2,k3,k5,mN,hC,hN,hq,_⟩:=O.obj;rw[o3]at hC;unfold aw at hb;split at hb
 . rename_i ob hob
   split at hb
   . rename_i cd hcd
     rw[cf,beq_iff_eq]at hb;obtain⟨hb1,hb2⟩:=hb;have hk:=yI ob hob (by unfold x8;rw[hcd];simp)
     have e1:=KX _ _ hk;rw[hC]at e1;cases e1;cases hcd;obtain⟨_,rfl⟩:=Fh hb1;split at hb2
     . rename_i n hn
       have hkN:=yI n hn (by simpa using hb2)
       obtain⟨on,es,ep,f1,f2,f3⟩:=hN;rw[KX _ _ hkN]at f1;cases f1;exact⟨nm,qq,N,bs,hdct,sn,sub,ab,col,dd,k0,k1,k2,k3,k5,mN,KB _ _ hk,⟨n,es,ep,KB _ _ hkN,f2,f3⟩,hq _ (.head _)⟩
     . cases hb2
   . cases hb
 . cases hb
theorem Qy(sst:Bool->Stmt)(TT:FV q loose mean mg mb h)(KX:(yD h0).In h)(ob:mf X h0=true)
 (hD:qG (yD h0) kx kst) (hS:∀b,T.c b=true->qG (yD h0) (L2.yf b) (sst b)/\ny b kx (sst b)) (hK:jV kst X.a ws pre) (hb:∀x∈wy,nsIn (yD h0) AL x=some none) (hkd:(kx == ("__debug__":Str))=false)
 (hws:wsB X.a ws pre=true) (hxc:xcB X.c X.a ws pre T.e=true) (jn:((("HueError":Str))::X.c).all (λc=>ZI q c)=true):Sc T (yD h0) mg:=by
 unfold mf at ob;split at ob
 . cases ob
 . rename_i hue hhue
   simp only[cf,Ao,decide_eq_true_eq]at ob;obtain⟨⟨⟨⟨⟨x1,x2⟩,x3⟩,x4⟩,x5⟩,x6⟩:=ob;have mghue:=mg_of KX TT.g (cZ hhue);have adm:∀c a,adH h0 c=some a->mg c=some (.ref a):=λc a e=>mg_of KX TT.g (cZ e);simp only[wsB,cf,decide_eq_true_eq,Ao]at hws;obtain⟨⟨⟨⟨w1,w2⟩,w3⟩,w4⟩,w5⟩:=hws;have lkk:∀{sc:Scope} {l:List (Str × CM)} {x:Str} {k:CM},lkB sc l=true->(x,k)∈l->sc.names.lookup x=some k:=λ{sc l x k} hh hm=>of_decide_eq_true (Ao.mp hh _ hm);have KFn:L2.nv (yD h0) mg kx X.a ws pre:=by
    obtain⟨f,fd,a1,a2⟩:=hD;refine⟨⟨kst,f,fd,mg_of KX TT.g a1,a2,Z8 hK.c,a2.binds λkV doc pm an cdv ct us hl=>sJ hK.b (by decide) us hl,hK.sh,lkk hK.a (by simp),lkk hK.a (by simp),lkk hK.a (by simp),lkk hK.a (by simp),lkk hK.a (by simp)⟩,λc hc=>?_,mg_none_of KX TT.g (hb _ (by decide)),mg_none_of KX TT.g (VC x2),w1,w2,w3,λw hw=>w4 w hw,λx hx=>?_⟩
    . obtain⟨a,e⟩:=Ca.mp (x1 c hc)
      exact⟨a,adm c a e⟩
    . subst hx;exact of_decide_eq_true w5
   have raised:∀c∈X.c,∃C,mg c=some (.ref C)/\(∃Kc,L2.oG Kc (yD h0)/\exmOne Kc (.ref C) (.ref hue)=some true)/\L2.Named (yD h0) mg X.a C c/\aw h0 C (.ref hue::Hd.veM)=true:=λc hc=>by
    have z:=x3 c hc;split at z
    . cases z
    . rename_i C hC
      simp only[cf,Ao,beq_iff_eq]at z;obtain⟨⟨⟨⟨z1,z2⟩,z3⟩,z4⟩,z5⟩:=z;refine⟨C,adm c C hC,⟨_,gr,z2⟩,⟨_,gr,W4 z1,λd hd=>?_,z4⟩,z5⟩;obtain⟨a,e⟩:=Ca.mp (x1 d hd);have:=z3 d hd;rw[e]at this;rw[L2.cb (adm d a e)];exact this
   have xcf:∀c w,T.e.lookup c=some w->c∈X.c/\∃(i:Nat) (x:Str),X.a[i]?=some c/\ws[i]?=some x/\w=L2.ans pre x/\w≠"great":=λc w e=>by
    have z:=Ao.mp hxc _ (xq e);simp only[cf,decide_eq_true_eq,Bl]at z;obtain⟨z1,i,_,⟨z2,z3⟩,z4⟩:=z;split at z3
    . rename_i x hx
      exact⟨z1,i,x,z2,hx,of_decide_eq_true z3,z4⟩
    . cases z3
   have hw:=Ao.mp jn;refine⟨⟨kx,X.a,ws,pre,hue,mghue,KFn,λb hbm=>?_,λc w e=>?_,λc w e base KB=>?_⟩,λbase KB=>?_⟩
   . obtain⟨⟨f,fd,a1,a2⟩,SS⟩:=hS b hbm
     refine⟨f,⟨⟨sst b,fd,mg_of KX TT.g a1,a2,Z8 SS.c,a2.binds λkV doc pm an cdv ct us hl=>sJ SS.b (by decide) us hl,SS.sh,lkk SS.a (by simp),lkk SS.a (by simp),λhbf=>lkk SS.a (by subst hbf;simp),lkk SS.a (by simp),lkk SS.a (by simp)⟩,hkd⟩⟩
   . obtain⟨y1,i,x,y2,y3,y4,y5⟩:=xcf c w e
     obtain⟨C,r1,r2,r3,_⟩:=raised c y1;exact⟨C,i,x,r1,r2,r3,y2,y3,y4,y5⟩
   . obtain⟨y1,_⟩:=xcf c w e
     obtain⟨C,r1,_,_,r4⟩:=raised c y1;exact⟨C,r1,lX TT KX KB (hw c (Ah _ y1)) r1 r4,lX TT KX KB (hw _ (Ar ..)) mghue x4⟩
   . obtain⟨bm,obj,b1,b2,b3,b4,b5,b6⟩:=TT.bmain
     unfold bmB at x5;split at x5
     . rename_i b hbb
       have:=adm _ _ hbb;rw[b1]at this;cases this;split at x5
       . rename_i o hob
         have hk:=yI o hob (by simpa using x5)
         have e1:=KX _ _ hk;rw[b3]at e1;cases e1;exact⟨bm,obj,b1,b2,KB _ _ hk,b4,b5,b6⟩
       . cases x5
     . cases x5
theorem tab_of{D:List (Str × Stmt)}(TT:FV q loose mean mg mb h)(KX:(yD h0).In h)(ob:mf X h0=true)(htb:T.f=X.b)
 (hd:∀p∈D,qG (yD h0) p.1 p.2) (jo:X.b.all (λg=>(EN q).any (λd=>decide (d.name=g))&&(D.lookup g).isSome)=true):∃tabs,S9 T (yD h0) mg h tabs:=by
 have nd:(X.b.map (iy h0)).Nodup:=by
  unfold mf at ob;split at ob
  . cases ob
  . simp only[cf,decide_eq_true_eq]at ob
    exact ob.2
 have one:∀g∈X.b,∃P,iy h0 g=some P/\h.get? P=some (tabObj #[])/\(yD h0).lookup P=none/\Gd h P/\∃(fa c:Addr) (o:Obj) (fd:BQ),mg g=some (.ref fa)/\(yD h0).lookup fa=some o/\o.data=.func fd/\fd.code=.ref c/\∀h':Heap,(yD h0).In h'->CodeHd h' c P:=λg hg=>by
  have z:=Ao.mp jo g hg;rw[cf,Bl]at z;obtain⟨⟨d,d1,d2⟩,z2⟩:=z;have d2:=of_decide_eq_true d2;obtain⟨st,hst⟩:=Ca.mp z2;obtain⟨fa,fd,a1,a2⟩:=hd _ (xq hst);obtain⟨oc,od,kV,doc,pm,an,cdv,ct,osl,rfl,lk,hcd⟩:=a2.a;have hmg:=mg_of KX TT.g a1;obtain⟨a',o',fd',c,P,t1,t2,t3,t4,t5,t6⟩:=TT.tab d d1;rw[d2,hmg]at t1;cases t1;rw[KX _ _ lk]at t2;cases t2;cases t3;have hcdv:cdv=.ref c:=t4;subst hcdv;have hkc:∃occ,(yD h0).lookup c=some occ:=by
   unfold codeIn at hcd;dsimp only at hcd;split at hcd
   . rename_i hh;exact⟨_,hh⟩
   . cases hcd
  obtain⟨occ,hkc⟩:=hkc;obtain⟨⟨oT,vsT,u1,u2,u3,u4⟩,u5⟩:=id t6;rw[KX _ _ hkc]at u1;cases u1;refine⟨P,?_,u5,?_,t6.isCodeTable,fa,c,_,_,hmg,lk,rfl,rfl,λh' K'=>?_⟩
  . have g1:adH h0 g=some fa:=by
     unfold adH;have a1':nsIn (yD h0) AL g=some (some (.ref fa)):=a1;unfold nsH;unfold nsIn at a1';split at a1'
     . rename_i c1 d1 es n1 s1 hmn
       have:=sP _ _ hmn;rw[this];dsimp only;unfold nsIn;rw[An,beq_self_eq_true];dsimp only;rw[a1']
     . cases a1'
    unfold iy;rw[g1];dsimp only;rw[sP _ _ lk];dsimp only;rw[sP _ _ hkc];dsimp only;rw[u3];dsimp only;rw[u4]
  . cases e:(yD h0).lookup P with
    |none=>rfl
    |some o=>
     have n1:=fm e;have e2:=KX _ _ e;rw[u5]at e2;cases e2;cases n1
  . obtain⟨o2,vs2,file,tf,flags,tg,inF,text,tt,v1,v2,v3⟩:=CodeHd.of t5 t6
    rw[KX _ _ hkc]at v1;cases v1;exact⟨_,vs2,file,tf,flags,tg,inF,text,tt,K' _ _ hkc,v2,v3⟩
 have hmap:X.b.map (iy h0)=(X.b.map λg=>(iy h0 g).getD 0).map some:=by rw[BV];refine BS λg hg=>?_;obtain⟨P,e,_⟩:=one g hg;simp[e]
 refine⟨X.b.map λg=>(iy h0 g).getD 0,?_,by rw[htb,Aa],λi g hi=>?_⟩
 . rw[hmap]at nd
   exact(List.pairwise_map.mp nd).imp λhne z=>hne (by rw[z])
 . rw[htb]at hi
   obtain⟨P,e,r⟩:=one g (AA hi);refine⟨P,?_,r⟩;rw[AG,hi];simp[e]
end
def cX(D:List (Str × Stmt))(glL:List (Str × Val))(X:XT)(K:KF)(h:Heap):Prop:=K.In h/\(∀p∈D,qG K p.1 p.2)/\(∀p∈glL,fO K p.1 p.2)/\(∀x∈wy,nsIn K AL x=some none)/\∃h0,K=yD h0/\mf X h0=true
theorem Z7(e:(a9 D gl s,mf X s.heap)=(YM D,true)):∃K,cX D (gl.map λp=>(p.1,gv p.2)) X K s.heap:=by obtain⟨e0,eX⟩:=Prod.mk.inj e;obtain⟨e1,e2⟩:=Prod.mk.inj e0;obtain⟨e2,e3⟩:=EK.mp e2;exact⟨yD s.heap,sP,gS e1,λp hp=>(by obtain⟨p',h1,rfl⟩:=AO.mp hp;exact Ra (Ao.mp e2 p' h1)),λx hx=>VC (Ao.mp e3 x hx),s.heap,rfl,eX⟩
theorem V6{l:PySem.W.OpenLaw}(sst:Bool->Stmt)
 (SG:l.wellSaid=true) (left:PySem.W.LeftO l.row.prog q [] (λs=>E3 l.row.records s) (λz=>(a9 D gl z,mf X z.heap)) (λ_=>(YM D,true)) N) (hgl:glL=gl.map λp=>(p.1,gv p.2))
 (bt:PySem.W.defOf q l.row.name=some (d,[])) (hp:l.row.prog.theDef l.row.name=some (d.params,d.body,d.scope)) (hk:PySem.W.kwWritten? d.params.kwonlyargs d.params.kw_defaults=some [])
 (hwr:(!l.row.writes||l.row.records.isEmpty)=true) (ok:(PySem.W.chainsOk q&&PySem.W.opensWell l.row.prog&&(PySem.W.frees l.row.toRowW&&l.row.within.isEmpty))=true) (hb:l.row.prog.bare) (hw:l.row.toRowW.promised)
 (hn:l.most=some 63) (hdf:d.params.defaults=[]) (hr:L2.xQ n callerA) (hF:(i6 fnL glL tb xc md).d d.name 0=some F) (hx:F.b=[x]) (hc:nV fnL D=true)
 (htb:tb=X.b) (htb2:fnL.all (λp=>!decide (("!":Str)∈p.2.N)||decide (p.1.1∈tb))=true) (hkx:D.lookup kx=some kst) (hK:jV kst X.a ws pre) (hS:∀b,md b=true->D.lookup (L2.yf b)=some (sst b)/\ny b kx (sst b)) (hkd:(kx == ("__debug__":Str))=false)
 (hws:wsB X.a ws pre=true) (hxc:xcB X.c X.a ws pre xc=true) (jn:((("HueError":Str))::X.c).all (λc=>ZI q c)=true) (jo:X.b.all (λg=>(EN q).any (λd=>decide (d.name=g))&&(D.lookup g).isSome)=true)
 (HL:∀ns:List Int,ns.length<=63->∃s',zF (i6 fnL glL tb xc md) n d.name 0 [.p ns] (tb.map .d)=.e (.e true) s'):l.Holds:=by
 refine PySem.W.holds_law SG λsaid'=>PySem.W.holds_open (q:=q) (loose:=[]) (Xt:=λs=>E3 l.row.records s) (XP:=λ_ _=>True) (YP:=λ_ h=>∃K,cX D glL X K h) left (λw s e=>hgl▸Z7 e)
  (λw h h' ⟨K,a,b⟩ k=>⟨K,a.keeps k,b⟩) (λ_ _=>trivial) (λ_ _ _ _ _=>trivial) bt hp hk (λs e=>PySem.W.recFacts_of e) hwr said' ok hb hw ?_
 intro w s₀ s₁ mg mb G ⟨K,Y⟩;obtain⟨Y1,Y2,Y3,Y4,h0,rfl,ob⟩:=id Y;refine walk (l:=l) (q:=q) (loose:=[]) (XP:=λ_ _=>True) (YP:=λ_ h=>cX D glL X (yD h0) h) (d:=d) (K:=yD h0) (T:=i6 fnL glL tb xc md) hn hdf hr (λ_ _ y=>y.1) hF hx (λw s₀ mg mb h G KX=>⟨?_,?_⟩) HL w s₀ s₁ mg mb G Y
 . exact Sg KX G.T.g Y2 Y3 Y4 hc (λ_=>htb2) λ_=>Qy sst G.T KX ob (Y2 _ (xq hkx)) (λb hbm=>⟨Y2 _ (xq (hS b hbm).1),(hS b hbm).2⟩) hK Y4 hkd hws hxc jn
 . exact tab_of G.T KX ob htb Y2 jo
end M
end
section
namespace P71
open PySem M
noncomputable def yN:Fn:=F.yN
noncomputable def yv:Fn:=F75.yv
noncomputable def xV:Fn:=F75.xV
noncomputable def xW:Fn:=F71.xW
noncomputable def xX:Fn:=F75.xX
noncomputable def wA:Fn:=F75.wA
noncomputable def yg:Fn:=F75.yg
noncomputable def ym:Fn:=F75.ym
noncomputable def xP:Fn:=F75.xP
noncomputable def z6:Fn:=F71.z6
noncomputable def y9:Fn:=F.y9
noncomputable def yS:Fn:=F75.yS
noncomputable def yn:Fn:=F75.yn
noncomputable def wB:Fn:=F75.wB
noncomputable def yo:Fn:=F71.yo
noncomputable def wg:Fn:=F75.wg
noncomputable def xA:Fn:=F75.xA
noncomputable def xY:Fn:=F75.xY
noncomputable def xB:Fn:=F.xB
noncomputable def yw:Fn:=F75.yw
noncomputable def wC:Fn:=F.wC
noncomputable def oW:Fn:=⟨["_law_script","_law_k","_law_pen_here","_law_size","_law_many","_law_steps","_law_odd","_law_spot","_law_bad","_law_stand","_law_drawn","_law_things","_law_thing","_law_call","!"],["_law_script"],false,(.a (.k (.a 1) (.c (.k .k false (.a (.g (.c 1)) (.a (.k .l false (.a (.k .b false (.a (.e 0) .b)) (.a (.g (.c 5)) .b))) .b)))) (.a (.f 2 (.h "_law_pen" 1 (.a (.h "_law_cell_at" 0 (.a (.e 0) (.a (.e 1) .b))) .b))) (.a (.f 3 (.s (.u false (.a (.g (.c 2)) (.a (.g (.c 3)) (.a (.g (.c 3)) (.a (.g (.c 4)) (.a (.j false .a (.g (.c 2)) (.h "_law_draw" 0 (.a (.e 2) (.a (.g (.c 7)) .b)))) .b)))))) (.h "_law_draw" 0 (.a (.e 2) (.a (.g (.c 5)) .b))))) (.a (.m [4,5] (.a (.j false .a (.g (.c 1)) (.h "_law_draw" 0 (.a (.e 2) (.a (.g (.c 8)) .b)))) (.a (.h "_law_draw" 0 (.a (.e 2) (.a (.g (.c 9)) .b))) .b))) (.a (.f 6 (.s (.u false (.a (.g (.c 0)) (.a (.g (.c 1)) (.a (.g (.c 2)) (.a (.g (.c 3)) (.a (.B (.g (.c 1))) (.a (.g (.e true)) (.a (.g .h) (.a (.g (.g "1")) (.a (.j false .f (.g (.c 10)) (.g (.c 29))) (.a (.r (.a (.g (.c 1)) .b)) (.a (.u false (.a (.g (.c 1)) .b)) .b)))))))))))) (.h "_law_draw" 0 (.a (.e 2) (.a (.g (.c 11)) .b))))) (.a (.f 7 (.j false .c (.h "_law_draw" 0 (.a (.e 2) (.a (.g (.c 8)) .b))) (.e 4))) (.a (.f 8 (.s (.u false (.a (.g (.c 1)) (.a (.g (.c 9)) (.a (.B (.g (.c 1))) (.a (.g (.e true)) (.a (.g .h) (.a (.g (.g "3")) (.a (.r (.a (.g (.c 3)) .b)) (.a (.j false .f (.g (.c 10)) (.g (.c 29))) (.a (.g (.c 0)) .b)))))))))) (.h "_law_draw" 0 (.a (.e 2) (.a (.g (.c 9)) .b))))) (.a (.f 9 (.h "_law_played" 0 (.a (.e 2) (.a (.e 3) (.a (.e 4) (.a (.e 5) .b)))))) (.a (.f 10 (.k .c false (.a (.q false ["_law_place","_law_pen_here"] [none,some 2] (.h "_law_draw" 0 (.a (.e 1) (.a (.g (.c 3)) .b))) (.a 0) (.c (.e 4)) .b) .b))) (.a (.f 11 (.u false (.a (.e 9) (.a (.j false .a (.j false .a (.G false (.e 9) .b (.a (.e 7)) .b) (.r (.a (.e 6) .b))) (.G false (.e 9) (.a (.j false .a (.e 7) (.g (.c 1)))) .b .b)) (.a (.G false (.j false .a (.e 9) (.r (.a (.g (.c 0)) .b))) .b (.a (.g (.c 8))) .b) (.a (.G false (.e 9) .b (.a (.B (.g (.c 1)))) .b) (.a (.k .j false (.a (.e 9) .b)) .b))))))) (.a (.f 11 (.j false .a (.e 11) (.u false (.a (.e 10) (.a (.r .b) (.a (.j false .b (.r (.a (.g (.c 0)) .b)) (.g (.c 8))) (.a (.j false .b (.r (.a (.g (.c 0)) .b)) (.g (.c 9))) (.a (.r (.a (.g (.c 1)) .b)) (.a (.r (.a (.g (.c 2)) .b)) (.a (.r (.a (.g (.c 1)) (.a (.g (.c 2)) .b))) (.a (.r (.a (.g (.c 1)) (.a (.g (.c 1)) (.a (.g (.c 1)) (.a (.g (.c 2)) (.a (.g (.c 2)) .b)))))) (.a (.r (.a (.g (.c 2)) (.a (.g (.c 2)) (.a (.g (.c 1)) (.a (.g (.c 1)) (.a (.g (.c 1)) .b)))))) .b)))))))))))) (.a (.f 11 (.j false .a (.e 11) (.u false (.a (.g .h) (.a .E (.a (.g (.g "010")) .b)))))) (.a (.k (.a 12) (.d (.j false .a (.e 11) (.u false (.a (.r (.a (.g (.c 1)) (.a (.g (.c 1)) (.a (.g (.c 1)) (.a (.g (.c 0)) (.a (.g (.c 2)) (.a (.g (.c 2)) (.a (.g (.c 2)) (.a (.g (.c 0)) .b))))))))) (.a (.r (.a (.g (.c 1)) (.a (.g (.c 1)) (.a (.g (.c 2)) (.a (.g (.c 2)) .b))))) (.a (.r (.a (.g (.c 2)) (.a (.g (.c 1)) (.a (.g (.c 1)) (.a (.g (.c 2)) (.a (.g (.c 1)) .b)))))) (.a (.r (.a (.g (.c 1)) (.a (.g (.c 1)) (.a (.g (.c 2)) (.a (.g (.c 2)) (.a (.g (.c 2)) (.a (.g (.c 1)) (.a (.g (.c 1)) .b)))))))) (.a (.g (.c 0)) .b)))))))) (.a (.g (.b (.a (.h "_law_stand_right" 0 (.a (.e 3) (.a (.e 12) .b))))) (.a (.d (.g (.e false))) .b) .b) .b)) (.a (.k (.a 13) (.d (.u false (.a (.A "is_stand") (.a (.A "hand_on") (.a (.A "won_by") (.a (.A "may_take") .b)))))) (.a (.g (.a (.l .b (.h "" 301 (.a (.e 13) (.a (.e 8) (.a (.g .h) .b)))) (.g (.g "! number")))) (.a (.d (.g (.e false))) .b) .b) .b)) (.a (.g (.a (.l .b (.h "taken" 101 (.a (.e 8) (.a (.g .h) (.a (.g .h) .b)))) (.g (.g "! number")))) (.a (.d (.g (.e false))) .b) .b) .b))))))))))))))) (.a (.d (.g (.e true))) .b))⟩
noncomputable def yW:Fn:=F71.yW
noncomputable def xZ:Fn:=F.xZ
noncomputable def yp:Fn:=F.yp
noncomputable def yL:Fn:=F.yL
noncomputable def yA:Fn:=F75.yA
noncomputable def zw:Fn:=F.zw
noncomputable def xC:Fn:=F75.xC
noncomputable def wj:Fn:=F75.wj
noncomputable def xO:Fn:=F71.xO
noncomputable def vU:Fn:=F75.vU
noncomputable def xM:Fn:=F71.xM
def fnL:List ((Str × Nat) × Fn):=((("_law_cell_at":Str),(0:Nat)),yN)::((("_law_draw":Str),(0:Nat)),yv)::((("_law_free":Str),(0:Nat)),xV)::((("_law_good":Str),(0:Nat)),xW)::((("_law_hand":Str),(0:Nat)),xX)::((("_law_has":Str),(0:Nat)),wA)::((("_law_pen":Str),(1:Nat)),yg)::((("_law_played":Str),(0:Nat)),ym)::((("_law_put":Str),(0:Nat)),xP)::((("_law_stand_right":Str),(0:Nat)),z6)::((("are_wholes":Str),(0:Nat)),y9)::((("behind_taking":Str),(0:Nat)),yS)::((("free_places":Str),(0:Nat)),yn)::((("hand_due":Str),(0:Nat)),wB)::((("hand_on":Str),(0:Nat)),yo)::((("has_row":Str),(0:Nat)),wg)::((("is_in_turn":Str),(0:Nat)),xA)::((("is_marked":Str),(0:Nat)),xY)::((("is_one_hue":Str),(0:Nat)),xB)::((("is_stand":Str),(0:Nat)),yw)::((("is_whole":Str),(0:Nat)),wC)::((("law":Str),(0:Nat)),oW)::((("may_take":Str),(0:Nat)),yW)::((("most_step":Str),(0:Nat)),xZ)::((("need_length":Str),(0:Nat)),yp)::((("need_size":Str),(0:Nat)),yL)::((("need_stand":Str),(0:Nat)),yA)::((("need_whole":Str),(0:Nat)),zw)::((("other_hand":Str),(0:Nat)),xC)::((("rows_in":Str),(0:Nat)),wj)::((("taken":Str),(0:Nat)),xO)::((("winner":Str),(0:Nat)),vU)::((("won_by":Str),(0:Nat)),xM)::[]
noncomputable def glL:List (Str × Val):=[("MOST_PLACES",.c 40),("LEAST_SIZE",.c 2),("MOST_SIZE",.c 8),("FREE",.c 0),("HANDS",.m [1,2]),("MOST_STAND_PLACES",.c 8)]
noncomputable def tb:List Str:=["_law_stand_right","law"]
noncomputable def xc:List (Str × Str):=[("NoNumber","! number"),("NoPlace","! place"),("NoStand","! stand")]
noncomputable def md:Bool->Bool:=λb=>b
def T:Tbl:=i6 fnL glL tb xc md
set_option maxHeartbeats 0 in
theorem SW:nV fnL D=true:=by decide +kernel
end P71
end
section
namespace P71
open PySem M
theorem vd:zW .b (.g x) (.g x) s=.e (.e false) s:=by simp[zW]
theorem b9{k:Nat}(h:k<vs.length):∃v,v∈vs/\∀s,wd (.j vs) (.c k) s=.e v s:=⟨vs[k],B2 h,λs=>mV (xd h)⟩
def big:Int:=100000000000000000000000000000
theorem mC:binOp m .f (.c 10) (.c 29) s=.e (.c big) s:=by
 simp only[binOp];rw[if_pos (by decide)]
 rfl
section
variable {Φ:Calls}{G:Str->Option Val}{env:M.Env}{s:Sto}
theorem ui(h:evT Φ G env c s=.e b s):u6 Φ G env (.a c .b) s=.e b s:=bnd h (by cases b<;>rfl)
theorem PL{cs}(h:evT Φ G env c s=.e a s)(k:u6 Φ G env cs s=.e b s):evT Φ G env (.f c cs) s=.e (a||b) s:=bnd h (by
 cases a with
 |true=>rfl
 |false=>exact k)
theorem YH{cs}(h:evT Φ G env c s=.e a s)(k:u6 Φ G env cs s=.e b s):u6 Φ G env (.a c cs) s=.e (a||b) s:=bnd h (by
 cases a with
 |true=>rfl
 |false=>exact k)
end
def oM:List Val:=[.e true,.h,.g "1",.f [.c 1],.j [.c 1]]
def El(w:Val):Prop:=(∃i:Int,w=.c i)\/w∈oM
theorem El.kd(h:El w):kindOf w≠none:=by
 rcases h with⟨i,rfl⟩|h
 . nofun
 . simp only[oM,Af,AU,or_false]at h
   rcases h with rfl|rfl|rfl|rfl|rfl<;>nofun
theorem El.isD(h:El w):w.isD=true:=by
 rcases h with⟨i,rfl⟩|h
 . rw[Val.isD]
 . simp only[oM,Af,AU,or_false]at h
   rcases h with rfl|rfl|rfl|rfl|rfl
   . rw[Val.isD]
   . rw[Val.isD]
   . rw[Val.isD];decide +kernel
   . rw[Val.isD,wF,wF,Val.isD];rfl
   . rw[Val.isD,wF,wF,Val.isD];rfl
theorem mM:∀{vs},(∀w∈vs,El w)->wF vs=true
 |[],_=>by rw[wF]
 |v::vs,h=>by rw[wF,(h v (.head _)).isD,mM λw hw=>h w (.tail _ hw)];rfl
structure StT(v:Val):Prop where
 sh:∃x,∀s,blt .a false [v] s=.e (.g x) s
 a:kindOf v≠none
 el:∀vs,v=.f vs->∀w∈vs,El w
theorem StT.kds(h:StT v):Kds v:=⟨h.a,λvs e w hw=>(h.el vs e w hw).kd⟩
section
variable {Φ:Calls}{s:Sto}
theorem eT:zW .a (.c i) (.f [.c 0,.c 1,.c 2]) s=.e (.e (!zZ 0 2 (.c i))) s:=by
 have e:((0 == i)||((1 == i)||((2 == i)||false)))=(decide (0<=i)&&decide (i<=2)):=by
  by_cases h0:i=0
  . subst h0;rfl
  . by_cases h1:i=1
    . subst h1;rfl
    . by_cases h2:i=2
      . subst h2;rfl
      . have a0:((0:Int) == i)=false:=by simp;omega
        have a1:((1:Int) == i)=false:=by simp;omega
        have a2:((2:Int) == i)=false:=by simp;omega
        rw[a0,a1,a2];by_cases hp:0<=i
        . rw[decide_eq_true hp,decide_eq_false (by omega)];rfl
        . rw[decide_eq_false hp];rfl
 show Out.e (Val.e (!((0 == i)||((1 == i)||((2 == i)||false))))) s=.e (.e (!(decide (0<=i)&&decide (i<=2)))) s
 rw[e]
theorem Y0(h:El w):evT Φ T.b [some w] (.f (.a (.k .h false (.a (.e 0) (.a (.J "bool" "bool") .b)))) (.a (.a (.l .a (.e 0) (.r (.a (.g (.c 0)) (.a (.g (.c 1)) (.a (.g (.c 2)) .b)))))) .b)) s=.e (!zZ 0 2 w) s:=by
 have L3:3<=zR:=by decide
 rcases h with⟨i,rfl⟩|h
 . exact qB (zX (zh (zA (zB rfl) (zA tG zC)) rfl) zJ) (ui (zX (yF (zB rfl) (yM (zA zD (zA zD (zA zD zC))) L3) eT) zJ))
 . simp only[oM,Af,AU,or_false]at h
   rcases h with rfl|rfl|rfl|rfl|rfl
   . exact fK (zX (zh (zA (zB rfl) (zA tG zC)) rfl) zJ)
   . exact qB (zX (zh (zA (zB rfl) (zA tG zC)) rfl) zJ) (ui (zX (yF (zB rfl) (yM (zA zD (zA zD (zA zD zC))) L3) (show _=Out.e (Val.e true) s from rfl)) zJ))
   . exact qB (zX (zh (zA (zB rfl) (zA tG zC)) rfl) zJ) (ui (zX (yF (zB rfl) (yM (zA zD (zA zD (zA zD zC))) L3) (show _=Out.e (Val.e true) s from rfl)) zJ))
   . exact qB (zX (zh (zA (zB rfl) (zA tG zC)) rfl) zJ) (ui (zX (yF (zB rfl) (yM (zA zD (zA zD (zA zD zC))) L3) (show _=Out.e (Val.e true) s from rfl)) zJ))
   . exact qB (zX (zh (zA (zB rfl) (zA tG zC)) rfl) zJ) (ui (zX (yF (zB rfl) (yM (zA zD (zA zD (zA zD zC))) L3) (show _=Out.e (Val.e true) s from rfl)) zJ))
theorem Y7{vs:List Val}:(vs.filter λw=>!zZ 0 2 w).isEmpty=vs.all (zZ 0 2):=by
 induction vs with
 |nil=>rfl
 |cons v vs ih=>
  rw[Ec,BB];cases zZ 0 2 v with
  |true=>exact ih
  |false=>rfl
theorem Wv:rD z st=(!((hasB z st (1:Nat)&&hasB z st (2:Nat))||((hasB z st (1:Nat)&&!decide ((st.count 1:Int)-(st.count 2:Int)=1))||(hasB z st (2:Nat)&&!decide ((st.count 1:Int)-(st.count 2:Int)=0))))&&((0 == (st.count 1:Int)-(st.count 2:Int))||((1 == (st.count 1:Int)-(st.count 2:Int))||false))):=by
 unfold rD;generalize hd:(st.count 1:Int)-(st.count 2:Int)=d;by_cases h0:d=0
 . subst h0
   have:zy st=1:=by unfold zy;rw[if_pos (by omega)]
   rw[this];cases hasB z st (1:Nat)<;>cases hasB z st (2:Nat)<;>rfl
 . by_cases h1:d=1
   . subst h1
     have:zy st=2:=by unfold zy;rw[if_neg (by omega)]
     rw[this];cases hasB z st (1:Nat)<;>cases hasB z st (2:Nat)<;>rfl
   . have a0:((0:Int) == d)=false:=by simp;omega
     have a1:((1:Int) == d)=false:=by simp;omega
     rw[a0,a1,E8,E8,Bool.and_false];by_cases hp:0<=d
     . rw[decide_eq_true hp,decide_eq_false (by omega)];rfl
     . rw[decide_eq_false hp];rfl
def d7(Φ:Calls):Prop:=∀(z:Nat) (v:Val) (s:Sto),2<=z->z<=8->StT v->Φ "_law_good" 0 [.c z,v] s=.e (.e (wa z v)) s
theorem dJ(cH:jQ "_law_has" Φ){z:Nat}(h2:2<=z)(h8:z<=8)(h:StT v):run T Φ F71.xW [.c z,v] s=.e (.e (wa z v)) s:=by
 have L2':2<=zR:=by decide
 rw[post_eq,F71.xW,yZ];refine⟨rfl,?_⟩;show (zS Φ T.b [some (.c z),some v,none,none,none] _ s).post _;have no:(∀vs,v≠.f vs)->blt .h false [v,.r "tuple"] s=.e (.e false) s:=λhn=>by
  cases v with
  |f vs=>exact absurd rfl (hn vs)
  |m _=>exact absurd rfl h.a
  |p _=>exact absurd rfl h.a
  |q _=>exact absurd rfl h.a
  |r _=>exact absurd rfl h.a
  |o _=>exact absurd rfl h.a
  |_=>rfl
 by_cases hv:∃vs,v=.f vs
 case neg=>
  have hn:∀vs,v≠.f vs:=λvs e=>hv ⟨vs,e⟩;have hm:markB v=false:=by
   cases v with
   |f vs=>exact absurd rfl (hn vs)
   |_=>rfl
  refine tM (fK (vj (b:=false) (zX (zh (zA (zB rfl) (zA tG zC)) (no hn)) zJ))) (zu zD ?_);rw[wN hm];exact yO yV
 case pos=>
 obtain⟨vs,rfl⟩:=hv;have hel:=h.el vs rfl;have hc:=oE (Φ:=Φ) (G:=T.b) (env:=[some (.c z),some (.f vs),none,none,none]) (s:=s) (a:=.g (.c 1)) (b:=.k .b false (.a (.e 1) .b)) (c:=.g (.c 8)) zD (zh (zA (zB rfl) zC) tL) zD;have hmk:markB (.f vs)=((decide ((1:Int)<=vs.length)&&decide ((vs.length:Int)<=8))&&vs.all (zZ 0 2)):=rfl;have ht:=qB (vj (b:=true) (zX (zh (zA (zB (Φ:=Φ) (G:=T.b) (env:=[some (.c z),some (.f vs),none,none,none]) (s:=s) (i:=1) rfl) (zA (tG (x:="tuple")) zC)) (XG (m:=false))) zJ)) (ui (vj (zX hc zJ)));cases hb:(decide ((1:Int)<=vs.length)&&decide ((vs.length:Int)<=8)) with
 |false=>
  rw[hb]at ht hmk;refine tM ht (zu zD ?_);rw[wN hmk];exact yO yV
 |true=>
  rw[hb]at ht hmk;rw[CZ]at hmk;refine xu ht ?_;have hcomp:evE Φ T.b [some (.c z),some (.f vs),none,none,none] (.q false ["_law_one"] [none] (.e 0) (.a 0) (.d (.e 1)) (.a (.f (.a (.k .h false (.a (.e 0) (.a (.J "bool" "bool") .b)))) (.a (.a (.l .a (.e 0) (.r (.a (.g (.c 0)) (.a (.g (.c 1)) (.a (.g (.c 2)) .b)))))) .b)) .b)) s=.e (.j (vs.filter λw=>!zZ 0 2 w)) s:=by
   rw[post_eq];refine v5 (λe=>∃o,e=[o]) (λw=>if zZ 0 2 w then [] else [w]) vs (s1:=s) (uV (zB rfl) rfl) ⟨none,rfl⟩ ?_ ?_
   . rintro w hw e ⟨o,rfl⟩
     refine⟨[some w],rfl,⟨_,rfl⟩,?_⟩;rw[sC (Y0 (hel w hw))];refine zE.mpr ⟨rfl,?_⟩;cases zZ 0 2 w with
     |true=>rfl
     |false=>
      show (evE Φ T.b [some w] (.e 0) s).post _;rw[zB rfl];exact zE.mpr ⟨rfl,rfl⟩
   . have e:∀l:List Val,(l.flatMap λw=>if zZ 0 2 w then [] else [w])=l.filter λw=>!zZ 0 2 w:=λl=>by
      induction l with
      |nil=>rfl
      |cons w l ih=>
       rw[D0,ih,Ec];cases zZ 0 2 w<;>rfl
     rw[e];exact zE.mpr ⟨rfl,rfl⟩
  have hne:=ne_nil (vs:=vs.filter λw=>!zZ 0 2 w) (s:=s) (mM λw hw=>hel w (Er.mp hw).1);rw[Y7]at hne;have t2:=zX (yF hcomp (vG zC (A9 _)) hne) zJ;cases ha:vs.all (zZ 0 2) with
  |false=>
   rw[ha]at t2 hmk;refine tM t2 (zu zD ?_);rw[wN hmk];exact yO yV
  |true=>
   rw[ha]at t2 hmk;refine xu t2 ?_;obtain⟨st,e,_,hl8,_⟩:=mW hmk;rw[e]at hmk;rw[e,sU hmk];refine ye (zc (vN (zB rfl) (zA zD zC) uh) (vN (zB rfl) (zA zD zC) uh) fQ) ?_;refine yE.mpr (g6.mpr (v7 (x_call (zA (zB rfl) (zA (zB rfl) (zA zD zC))) (cH z st 1 s h2 h8 (by omega))) (v7 (x_call (zA (zB rfl) (zA (zB rfl) (zA zD zC))) (cH z st 2 s h2 h8 (by omega))) (nH.mpr (mw rfl ?_)))))
   show (zS Φ T.b [some (.c z),some (tpI st),some (.c ((st.count 1:Int)-(st.count 2:Int))),some (.e (hasB z st (1:Nat))),some (.e (hasB z st (2:Nat)))] _ s).post _;rw[Wv];generalize hasB z st (1:Nat)=m1;generalize hasB z st (2:Nat)=m2;generalize (st.count 1:Int)-(st.count 2:Int)=d;have tt:evT Φ T.b [some (.c z),some (tpI st),some (.c d),some (.e m1),some (.e m2)] (.f (.d (.a (.e 3)) (.a (.a (.e 4)) .b)) (.a (.d (.a (.e 3)) (.a (.a (.l .b (.e 2) (.g (.c 1)))) .b)) (.a (.d (.a (.e 4)) (.a (.a (.l .b (.e 2) (.g (.c 0)))) .b)) .b))) s=.e ((m1&&m2)||((m1&&!decide (d=1))||(m2&&!decide (d=0)))) s:=PL (pk (zX (zB rfl) zJ) (zX (zB rfl) zJ)) (YH (pk (zX (zB rfl) zJ) (zX (yF (zB rfl) zD ne_int) zJ)) (ui (pk (zX (zB rfl) zJ) (zX (yF (zB rfl) zD ne_int) zJ))))
   cases hcc:((m1&&m2)||((m1&&!decide (d=1))||(m2&&!decide (d=0)))) with
   |true=>
    rw[hcc]at tt;exact tM tt (zu zD (yO yV))
   |false=>
    rw[hcc]at tt;exact xu tt (zu (yF (zB rfl) (yM (zA zD (zA zD zC)) L2') rfl) (yO yV))
structure dz(Φ:Calls):Prop where
 ho:∀(z:Nat) (st:List Int) (s:Sto),zf tb s=true->Stn z st->Φ "hand_on" 101 [.c z,tpI st] s=.e (onV z st) s
 wb:∀(z:Nat) (st:List Int) (s:Sto),zf tb s=true->Stn z st->Φ "won_by" 101 [.c z,tpI st] s=.e (vF z st) s
 mt:∀(z:Nat) (st:List Int) (s:Sto),zf tb s=true->Stn z st->Φ "may_take" 101 [.c z,tpI st] s=.e (xp (zY z st)) s
 tk:∀(z p:Nat) (st:List Int) (s:Sto),zf tb s=true->Stn z st->p∈zY z st->Φ "taken" 101 [.c z,tpI st,.c p] s=.e (tpI (vP st p)) s
 tx:∀(z:Nat) (st:List Int) (v:Val) (s:Sto),zf tb s=true->Stn z st->kindOf v≠none->iO z st v=false->Φ "taken" 101 [.c z,tpI st,v] s=.e (.g "! place") s
 b1:∀(z:Nat) (v:Val) (s:Sto),zf tb s=true->2<=z->z<=8->Kds v->wa z v=false->Φ "hand_on" 101 [.c z,v] s=.e (.g "! stand") s
 b2:∀(z:Nat) (v:Val) (s:Sto),zf tb s=true->2<=z->z<=8->Kds v->wa z v=false->Φ "won_by" 101 [.c z,v] s=.e (.g "! stand") s
 b3:∀(z:Nat) (v:Val) (s:Sto),zf tb s=true->2<=z->z<=8->Kds v->wa z v=false->Φ "may_take" 101 [.c z,v] s=.e (.g "! stand") s
 b4:∀(z:Nat) (v u:Val) (s:Sto),zf tb s=true->2<=z->z<=8->Kds v->wa z v=false->Φ "taken" 101 [.c z,v,u] s=.e (.g "! stand") s
 nf:∀f∈([("is_stand":Str),"hand_on","won_by","may_take"]:List Str),∀(v w:Val) (s:Sto),zf tb s=true->kindOf v≠none->zZ 2 8 v=false->Φ "" 301 [.q f,v,w] s=.e (.g "! number") s
 nt:∀(v w u:Val) (s:Sto),zf tb s=true->kindOf v≠none->zZ 2 8 v=false->Φ "taken" 101 [v,w,u] s=.e (.g "! number") s
theorem xN(h:Th 2 200000 v)(e:∀s,zt s v=v)s:blt .a false [v] s=.e (.g v.d.shown) s:=by
 simp only[blt];rw[e s,h.r,nG h.a (by decide) (by decide) h.b]
 rfl
theorem dh(h:(x.cps.toList.all λc=>decide (c<16 ^ 8))=true)(h2:x.cps.size<=100):Th 0 100 (.g x):=Se (λc hc=>of_decide_eq_true (Ao.mp h c hc)) h2
theorem Zr{ds}(h:s[i]?=some (.c ds))(hD:blt .a false [.j ds] s=.e (.g y) s):blt .a false [.k i] s=.e (.g y) s:=by rw[<-hD];simp only[blt,zt,yR,h];rfl
def zx:List Val:=[.c (-1),.c 8,.h,.g "0",.e false,.c big,.c 0,.c 1,.c 2,.c 3,.c 4,.c 5,.c 6,.c 7]
def isK(k:Nat):Val->Bool
 |.c i=>decide (i=(k:Int))
 |_=>false
theorem V9:∀u∈zx,∀k<8,((Val.c ((k:Nat):Int)).d.shown == u.d.shown)=isK k u:=by decide +kernel
theorem Va:∀u∈zx,Th 0 100 u:=λu hu=>by
 simp only[zx,Af,AU,or_false]at hu;rcases hu with rfl|rfl|rfl|rfl|rfl|rfl|rfl|rfl|rfl|rfl|rfl|rfl|rfl|rfl
 . exact wZ (by omega) (by omega)
 . exact wZ (by omega) (by omega)
 . exact rB
 . exact dh (by decide +kernel) (by decide +kernel)
 . exact lH _
 . exact wZ (by unfold big;omega) (by unfold big;omega)
 all_goals exact wZ (by omega) (by omega)
theorem Ts:∀u∈zx,∀s,zt s u=u:=λu hu s=>by
 simp only[zx,Af,AU,or_false]at hu;rcases hu with rfl|rfl|rfl|rfl|rfl|rfl|rfl|rfl|rfl|rfl|rfl|rfl|rfl|rfl<;>rfl
def Tr(os:List Nat):Val->Bool
 |.c i=>decide (0<=i)&&decide (i.toNat∈os)
 |_=>false
theorem bw{os}(hu:u∈zx)(ho:∀k∈os,k<8):(os.any λk=>(Val.c ((k:Nat):Int)).d.shown == u.d.shown)=Tr os u:=by
 have e:(os.any λk=>(Val.c ((k:Nat):Int)).d.shown == u.d.shown)=os.any λk=>isK k u:=by
  induction os with
  |nil=>rfl
  |cons k os ih=>rw[BZ,BZ,V9 u hu k (ho k (.head _)),ih λj hj=>ho j (.tail _ hj)]
 rw[e];cases u with
 |c i=>
  show (os.any λk=>decide (i=(k:Int)))=(decide (0<=i)&&decide (i.toNat∈os));rw[BE,Bl,cf,decide_eq_true_eq,decide_eq_true_eq];constructor
  . rintro ⟨k,hk,hi⟩
    have:=of_decide_eq_true hi;subst this;exact⟨by omega,by rw[AN];exact hk⟩
  . rintro ⟨h0,hm⟩
    exact⟨_,hm,decide_eq_true (by omega)⟩
 |_=>exact List.any_eq_false.mpr λ_ _=>Ab
def jT(Φ:Calls):Prop:=∀(z:Nat) (v:Val) (s:Sto),zf tb s=true->2<=z->z<=8->StT v->Φ "_law_stand_right" 0 [.c z,v] s=.e (.e true) s
def iN:Cn:=(.d (.a (.e 3)) (.a (.a (.l .h (.k .a false (.a (.e 9) .b)) (.q false ["_law_one"] [none] (.k .a false (.a (.e 0) .b)) (.a 0) (.d (.s (.e 4) (.g (.c 2)))) .b))) .b))
structure Rst(Φ:Calls)(z:Nat)(v:Val)(x:Str)(g:Bool)(d0 d1 d2 d3:Val):Prop where
 kp:∀s,blt .a false [v] s=.e (.g x) s
 h0:∀s,zf tb s=true->Φ "hand_on" 101 [.c z,v] s=.e d0 s
 h1:∀s,zf tb s=true->Φ "won_by" 101 [.c z,v] s=.e d1 s
 h2:∀s,zf tb s=true->Φ "may_take" 101 [.c z,v] s=.e d2 s
 h3:∀s,zf tb s=true->Φ "taken" 101 [.c z,v,.e true] s=.e d3 s
 hs:∀s,Φ "is_stand" 0 [.c z,v] s=.e (.e g) s
 hd:∃y,∀s,blt .a false [.j [d0,d1,d2,d3]] s=.e (.g y) s
 hp:∀u∈zx,∀s o5 o6 o7 o8,zf tb s=true->∃(b:Bool) (tv:Val),evT Φ T.b [some (.c z),some v,some (.g x),some (.e g),some (.j [d0,d1,d2,d3]),o5,o6,o7,o8,some u,some d3,none] iN s=.e b s /\
  (b=true->Φ "_law_put" 0 [v,u] s=.e tv s)/\(b=false->tv=d3)/\Φ "taken" 101 [.c z,v,u] s=.e tv s/\∃y,∀s,blt .a false [tv] s=.e (.g y) s
theorem WU b:∃x,∀s,blt .a false [.e b] s=.e (.g x) s:=⟨_,xN ((lH b).mono (by decide) (by decide)) λs=>rfl⟩
def Vd:Sms:=(.a (.k (.a 7) (.c (.g (.c 2))) (.a (.f 8 (.u true (.a (.h "hand_on" 101 (.a (.e 0) (.a (.e 1) .b))) .b))) (.a (.h (.D .b false (.e 8) (.a (.h "won_by" 101 (.a (.e 0) (.a (.e 1) .b))) .b))) (.a (.h (.D .b false (.e 8) (.a (.h "may_take" 101 (.a (.e 0) (.a (.e 1) .b))) .b))) (.a (.h (.D .b false (.e 8) (.a (.h "taken" 101 (.a (.e 0) (.a (.e 1) (.a (.g (.e true)) .b)))) .b))) (.a (.g (.f (.a (.l .b (.k .a false (.a (.h "is_stand" 0 (.a (.e 0) (.a (.e 1) .b))) .b)) (.k .a false (.a (.e 3) .b)))) (.a (.a (.l .b (.k .a false (.a (.e 8) .b)) (.k .a false (.a (.e 4) .b)))) (.a (.a (.l .b (.k .a false (.a (.e 1) .b)) (.e 2))) .b))) (.a (.d (.g (.e false))) .b) .b) .b)))))) (.a (.k (.a 9) (.d (.j false .a (.u false (.a (.B (.g (.c 1))) (.a (.g (.c 8)) (.a (.g .h) (.a (.g (.g "0")) (.a (.g (.e false)) (.a (.j false .f (.g (.c 10)) (.g (.c 29))) .b))))))) (.p false (.g (.c 0)) (.g (.c 8)) (.g (.c 1))))) (.a (.f 10 (.s (.e 4) (.g (.c 3)))) (.a (.g iN (.a (.f 10 (.h "_law_put" 0 (.a (.e 1) (.a (.e 9) .b)))) .b) .b) (.a (.g (.a (.l .b (.k .a false (.a (.h "taken" 101 (.a (.e 0) (.a (.e 1) (.a (.e 9) .b)))) .b)) (.k .a false (.a (.e 10) .b)))) (.a (.d (.g (.e false))) .b) .b) .b)))) (.a (.d (.g (.e true))) .b)))
theorem nO(R:Rst Φ z v x g d0 d1 d2 d3)(hZ:zf tb s=true)(hP:∀t,P (.b (.e true)) (s++t)):(zS Φ T.b [some (.c z),some v,some (.g x),some (.e g),some (.j [d0,d1,d2,d3]),o5,o6,none,none,none,none,none] Vd s).post P:=by
 obtain⟨y,hy⟩:=R.hd;obtain⟨xb,hb⟩:=WU g;have L1:1<=zR:=by decide
 have L6:6<=zR:=by decide
 unfold Vd;refine yE.mpr (ub (λrest e s'=>(∃o7 o8,e=[some (.c z),some v,some (.g x),some (.e g),some (.j [d0,d1,d2,d3]),o5,o6,o7,o8,none,none,none])/\∃t,s'=s++t) (yu 0 2) (s1:=s) (qK (k:=2) zD (by decide)) ⟨⟨_,_,rfl⟩,[],by rw[A8]⟩ ?_ ?_)
 . rintro w rest e s' ⟨⟨o7,o8,rfl⟩,t,rfl⟩
   refine⟨[some (.c z),some v,some (.g x),some (.e g),some (.j [d0,d1,d2,d3]),o5,o6,some w,o8,none,none,none],rfl,?_⟩;have hZ1:zf tb (s++t)=true:=qh hZ;generalize hS:s++t=S at hZ1 ⊢;have Z:∀vs:List Val,zf tb (S++[.c vs])=true:=λvs=>qh hZ1;refine ye (YT (zA (x_call (zA (zB rfl) (zA (zB rfl) zC)) (R.h0 S hZ1)) zC) L1) ?_;show (zS Φ T.b [some (.c z),some v,some (.g x),some (.e g),some (.j [d0,d1,d2,d3]),o5,o6,some w,some (.k S.length),none,none,none] _ (S++[.c [d0]])).post _;refine wK (bnd (zB rfl) (bnd (zA (x_call (zA (zB rfl) (zA (zB rfl) zC)) (R.h1 _ (Z _))) zC) (n6 (show 1<zR by decide)))) ?_
   refine wK (bnd (zB rfl) (bnd (zA (x_call (zA (zB rfl) (zA (zB rfl) zC)) (R.h2 _ (Z _))) zC) (n6 (show 2<zR by decide)))) ?_
   refine wK (bnd (zB rfl) (bnd (zA (x_call (zA (zB rfl) (zA (zB rfl) (zA zD zC))) (R.h3 _ (Z _))) zC) (n6 (show 3<zR by decide)))) ?_
   show (zS Φ T.b [some (.c z),some v,some (.g x),some (.e g),some (.j [d0,d1,d2,d3]),o5,o6,some w,some (.k S.length),none,none,none] _ (S++[.c [d0,d1,d2,d3]])).post _;have h8:(S++[Cel.c [d0,d1,d2,d3]])[S.length]?=some (.c [d0,d1,d2,d3]):=by simp
   exact xu (qB (zX (yF (zh (zA (x_call (zA (zB rfl) (zA (zB rfl) zC)) (R.hs _)) zC) (hb _)) (zh (zA (zB rfl) zC) (hb _)) vd) zJ) (uy (zX (yF (zh (zA (zB rfl) zC) (Zr h8 (hy _))) (zh (zA (zB rfl) zC) (hy _)) vd) zJ) (ui (zX (yF (zh (zA (zB rfl) zC) (R.kp _)) (zB rfl) vd) zJ)))) (vg ⟨⟨_,_,rfl⟩,t++[.c [d0,d1,d2,d3]],by rw[<-hS,Bt]⟩)
 . rintro e s' ⟨⟨o7,o8,rfl⟩,t,rfl⟩
   have hZ1:zf tb (s++t)=true:=qh hZ;have hlr:au false (.c 0) (.c 8) (.c 1) (s++t)=.e (.j [.c 0,.c 1,.c 2,.c 3,.c 4,.c 5,.c 6,.c 7]) (s++t):=rfl;refine yE.mpr (ub (λrest e s'=>s'=s++t/\(∃o9 o10,e=[some (.c z),some v,some (.g x),some (.e g),some (.j [d0,d1,d2,d3]),o5,o6,o7,o8,o9,o10,none])/\∀u∈rest,u∈zx) zx (s1:=s++t) (uV (zc (vG (zA (jM zD) (zA zD (zA zD (zA zD (zA zD (zA (zc zD zD mC) zC)))))) L6) (bnd zD (bnd zD (bnd zD hlr))) (lP (show 14<=zR by decide))) rfl) ⟨rfl,⟨_,_,rfl⟩,λu hu=>hu⟩ ?_ ?_)
   . rintro u rest e s' ⟨rfl,⟨o9,o10,rfl⟩,hr⟩
     obtain⟨b,tv,ht,hb1,hb0,htk,yy,hyy⟩:=R.hp u (hr u (.head _)) (s++t) o5 o6 o7 o8 hZ1;refine⟨[some (.c z),some v,some (.g x),some (.e g),some (.j [d0,d1,d2,d3]),o5,o6,o7,o8,some u,o10,none],rfl,?_⟩;refine ye (xw (zB rfl) zD (mV (k:=3) rfl)) ?_;show (zS Φ T.b [some (.c z),some v,some (.g x),some (.e g),some (.j [d0,d1,d2,d3]),o5,o6,o7,o8,some u,some d3,none] _ (s++t)).post _;refine Z4 (J:=λe s'=>s'=s++t/\e=[some (.c z),some v,some (.g x),some (.e g),some (.j [d0,d1,d2,d3]),o5,o6,o7,o8,some u,some tv,none]) ht (λe=>?_) (λe=>?_) ?_
     . exact ye (x_call (zA (zB rfl) (zA (zB rfl) zC)) (hb1 e)) (vg ⟨_,rfl,rfl,rfl⟩)
     . rw[hb0 e];exact⟨rfl,rfl⟩
     . rintro e s' ⟨rfl,rfl⟩
       exact xu (zX (yF (zh (zA (x_call (zA (zB rfl) (zA (zB rfl) (zA (zB rfl) zC))) htk) zC) (hyy _)) (zh (zA (zB rfl) zC) (hyy _)) vd) zJ) (vg ⟨rfl,⟨_,_,rfl⟩,λu hu=>hr u (.tail _ hu)⟩)
   . rintro e s' ⟨rfl,⟨o9,o10,rfl⟩,_⟩
     exact zu zD (hP t)
theorem Sa{os}(h:∀k∈os,k<8)(hl:os.length<=8):Th 1 1000 (xp os):=(i7 (k:=0) (w:=100) (n:=8) (λv hv=>by obtain⟨k,hk,rfl⟩:=AO.mp hv;have:=h k hk;exact wZ (by omega) (by omega)) (by rw[Aa];exact hl)).mono (by decide) (by decide)
theorem ZG(h:Stn z st):(zY z st).length<=8:=by
 have:=h.b;unfold zY;split
 . decide
 . rw[pA];exact Au List.count_le_length this
theorem PM:Th 0 100 (onV z st):=by
 unfold onV;have:=ur st;split
 . exact rB
 . exact wZ (by omega) (by omega)
theorem Sf:Th 0 100 (vF z st):=by
 unfold vF;have:=ur st;split
 . exact wZ (by omega) (by omega)
 . exact rB
theorem Sb(h:Stn z st)(hp:p∈zY z st):∃y,∀s,blt .a false [tpI (vP st p)] s=.e (.g y) s:=by
 have hw:hasB z st (yH st)=false:=by
  unfold zY at hp;split at hp
  . cases hp
  . rename_i hh;simpa using hh
 obtain⟨S,_,_,_⟩:=h.put hw (qd hp).1;have h8:=S.b;exact⟨_,λs=>(i8 (λx hx=>by have:=S.n x hx;omega) (by omega)).shown false s⟩
theorem Zx(c:dz Φ)(cS:uk Φ)(cB:vT "_law_put" Φ)(h:Stn z st)(hx:∀s,blt .a false [tpI st] s=.e (.g x) s):Rst Φ z (tpI st) x true (onV z st) (vF z st) (xp (zY z st)) (.g "! place"):=by
 have h8:=h.b;have hk:∀k∈zY z st,k<8:=λk hk=>by have:=(qd hk).2;omega
 refine⟨hx,λs hz=>c.ho z st s hz h,λs hz=>c.wb z st s hz h,λs hz=>c.mt z st s hz h,λs hz=>c.tx z st _ s hz h nofun rfl,λs=>by rw[cS z (tpI st) s h.c h.g gu,lu h],?_,λu hu s o5 o6 o7 o8 hz=>?_⟩
 . refine⟨_,xN ((lI (k:=1) (w:=1000) (n:=4) (vs:=[onV z st,vF z st,xp (zY z st),.g "! place"]) (λv hv=>?_) (Ac 4)).mono (by decide) (by decide)) λs=>rfl⟩
   simp only[Af,AU,or_false]at hv;rcases hv with rfl|rfl|rfl|rfl
   . exact PM.mono (by decide) (by decide)
   . exact Sf.mono (by decide) (by decide)
   . exact Sa hk (ZG h)
   . exact(dh (by decide +kernel) (by decide +kernel)).mono (by decide) (by decide)
 . have hcomp:evE Φ T.b [some (.c z),some (tpI st),some (.g x),some (.e true),some (.j [onV z st,vF z st,xp (zY z st),.g "! place"]),o5,o6,o7,o8,some u,some (.g "! place"),none] (.q false ["_law_one"] [none] (.k .a false (.a (.e 0) .b)) (.a 0) (.d (.s (.e 4) (.g (.c 2)))) .b) s=.e (.j ((zY z st).map λk=>Val.g (Val.c ((k:Nat):Int)).d.shown)) s:=by
    rw[post_eq];refine v5 (λe=>∃o,e=[o]) (λv=>[Val.g v.d.shown]) ((zY z st).map λ(k:Nat)=>Val.c k) (s1:=s) (uV (xw (zB rfl) zD (mV (k:=2) rfl)) rfl) ⟨none,rfl⟩ ?_ ?_
    . rintro v hv e ⟨o,rfl⟩
      obtain⟨k,hk',rfl⟩:=AO.mp hv;have:=hk k hk';refine⟨[some (.c k)],rfl,⟨_,rfl⟩,v8.mpr ⟨rfl,?_⟩⟩;rw[if_pos rfl,zh (zA (zB rfl) zC) (xN ((wZ (by omega) (by omega)).mono (by decide) (by decide)) (λs=>rfl) s)]
      exact zE.mpr ⟨rfl,rfl⟩
    . rw[CQ,lj]
      exact zE.mpr ⟨rfl,rfl⟩
   have hin:∀X:Str,zW .h (.g X) (.j ((zY z st).map λk=>Val.g (Val.c ((k:Nat):Int)).d.shown)) s=.e (.e ((zY z st).any λk=>(Val.c ((k:Nat):Int)).d.shown == X)) s:=λX=>by
    have fl:((zY z st).map λk=>Val.g (Val.c ((k:Nat):Int)).d.shown).all flat=true:=Ao.mpr λv hv=>by obtain⟨k,_,rfl⟩:=AO.mp hv;rfl
    show (if flat (.g X)&&((zY z st).map λk=>Val.g (Val.c ((k:Nat):Int)).d.shown).all flat then Out.e (Val.e (((zY z st).map λk=>Val.g (Val.c ((k:Nat):Int)).d.shown).any λz=>eqF z (.g X))) s else _)=_
    rw[if_pos (by rw[fl];rfl),FR];rfl
   have hb:=bw hu hk;have ht:evT Φ T.b [some (.c z),some (tpI st),some (.g x),some (.e true),some (.j [onV z st,vF z st,xp (zY z st),.g "! place"]),o5,o6,o7,o8,some u,some (.g "! place"),none] iN s=.e (true&&((zY z st).any λk=>(Val.c ((k:Nat):Int)).d.shown == u.d.shown)) s:=pk (zX (zB rfl) zJ) (zX (yF (zh (zA (zB rfl) zC) (xN ((Va u hu).mono (by decide) (by decide)) (Ts u hu) s)) hcomp (hin _)) zJ)
   rw[CZ,hb]at ht;cases hpl:iO z st u with
   |false=>
    have e:Tr (zY z st) u=false:=by cases u<;>exact hpl
    rw[e]at ht;exact⟨false,_,ht,nofun,λ_=>rfl,c.tx z st u s hz h (Va u hu).kd hpl,_,xN ((dh (by decide +kernel) (by decide +kernel)).mono (by decide) (by decide)) λs=>rfl⟩
   |true=>
    have e:Tr (zY z st) u=true:=by cases u<;>exact hpl
    rw[e]at ht;cases u with
    |c i=>
     have hpl:(decide (0<=i)&&decide (i.toNat∈zY z st))=true:=hpl;rw[cf,decide_eq_true_eq,decide_eq_true_eq]at hpl;obtain⟨p,rfl⟩:∃p:Nat,i=p:=⟨i.toNat,by omega⟩
     rw[AN]at hpl;exact⟨true,tpI (vP st p),ht,λ_=>cB st p s (qd hpl.2).2 (by omega) h.l h.i,nofun,c.tk z p st s hz h hpl.2,Sb h hpl.2⟩
    |_=>cases hpl
theorem WW(c:dz Φ)(cS:uk Φ)(h2:2<=z)(h8:z<=8)(h:StT v)(hg:wa z v=false)(hx:∀s,blt .a false [v] s=.e (.g x) s):Rst Φ z v x false (.g "! stand") (.g "! stand") (.g "! stand") (.g "! stand"):=by
 have ts:Th 0 100 (.g "! stand"):=dh (by decide +kernel) (by decide +kernel)
 refine⟨hx,λs hz=>c.b1 z v s hz h2 h8 h.kds hg,λs hz=>c.b2 z v s hz h2 h8 h.kds hg,λs hz=>c.b3 z v s hz h2 h8 h.kds hg,λs hz=>c.b4 z v _ s hz h2 h8 h.kds hg,λs=>by rw[cS z v s h2 h8 h.kds,hg],?_,λu hu s o5 o6 o7 o8 hz=>?_⟩
 . refine⟨_,xN ((lI (k:=0) (w:=100) (n:=4) (vs:=[.g "! stand",.g "! stand",.g "! stand",.g "! stand"]) (λv hv=>?_) (Ac 4)).mono (by decide) (by decide)) λs=>rfl⟩
   simp only[Af,AU,or_false]at hv;rcases hv with rfl|rfl|rfl|rfl<;>exact ts
 . exact⟨false,_,YF (zX (zB rfl) zJ),nofun,λ_=>rfl,c.b4 z v u s hz h2 h8 h.kds hg,_,xN (ts.mono (by decide) (by decide)) λs=>rfl⟩
theorem nQ(c:dz Φ)(cS:uk Φ)(cB:vT "_law_put" Φ)(cG:d7 Φ)(cH:jQ "_law_has" Φ)(cF:sD "_law_free" Φ)(cD:jR Φ){z:Nat}(hZ:zf tb s=true)(h2:2<=z)(h8:z<=8)(h:StT v):run T Φ F71.z6 [.c z,v] s=.e (.e true) s:=by
 obtain⟨x,hx⟩:=h.sh;have L1:1<=zR:=by decide
 have L2':2<=zR:=by decide
 have L4:4<=zR:=by decide
 have hmul:binOp false .b (.j [.g "! stand"]) (.c 4) s=.e (.j [.g "! stand",.g "! stand",.g "! stand",.g "! stand"]) s:=rfl;rw[post_eq,F71.z6,yZ];refine⟨rfl,?_⟩;show (zS Φ T.b [some (.c z),some v,none,none,none,none,none,none,none,none,none,none] _ s).post _;refine yE.mpr (g6.mpr (v7 (zh (zA (zB rfl) zC) (hx s)) (v7 (x_call (zA (zB rfl) (zA (zB rfl) zC)) (cG z v s h2 h8 h)) (nH.mpr (mw rfl ?_)))));refine ye (zc (vG (zA zD zC) L1) zD hmul) ?_;show (zS Φ T.b [some (.c z),some v,some (.g x),some (.e (wa z v)),some (.j [.g "! stand",.g "! stand",.g "! stand",.g "! stand"]),none,none,none,none,none,none,none] _ s).post _;have hend:∀t,(zi false s (.e true) (s++t)).post λv t=>v=.e true/\t=s:=λt=>by rw[pG yV];exact zE.mpr ⟨rfl,rfl⟩
 cases hg:wa z v with
 |false=>exact xu (zX (zB rfl) zJ) (nO (WW c cS h2 h8 h hg hx) hZ hend)
 |true=>
  obtain⟨st,rfl,hS⟩:=XD h2 h8 hg;have hn8:=hS.b;refine Z4 (J:=λe s'=>s'=s/\∃o5 o6,e=[some (.c z),some (tpI st),some (.g x),some (.e true),some (.j [onV z st,vF z st,xp (zY z st),.g "! place"]),o5,o6,none,none,none,none,none]) (zX (zB rfl) zJ) (λ_=>?_) (λe=>nomatch e) ?_
  . refine ye (x_call (zA (zB rfl) (zA (zB rfl) zC)) (cF z st s hS)) ?_
    show (zS Φ T.b [some (.c z),some (tpI st),some (.g x),some (.e true),some (.j [.g "! stand",.g "! stand",.g "! stand",.g "! stand"]),some (xp (zY z st)),none,none,none,none,none,none] _ s).post _;have hwon:evE Φ T.b [some (.c z),some (tpI st),some (.g x),some (.e true),some (.j [.g "! stand",.g "! stand",.g "! stand",.g "! stand"]),some (xp (zY z st)),none,none,none,none,none,none] (.q false ["_law_hand_here","_law_size","_law_thing"] [none,some 0,some 1] (.e 0) (.a 0) (.d (.r (.a (.g (.c 1)) (.a (.g (.c 2)) .b)))) (.a (.a (.h "_law_has" 0 (.a (.e 1) (.a (.e 2) (.a (.e 0) .b))))) .b)) s=.e (.j (if hasB z st (yH st) then [.c (yH st)] else [])) s:=by
     rw[post_eq];refine v5 (λe=>∃o,e=[o,some (.c z),some (tpI st)]) (λv=>match v with|.c i=>if hasB z st i then [.c i] else []|_=>[]) [.c ((1:Nat):Int),.c ((2:Nat):Int)] (s1:=s) (uV (yM (zA zD (zA zD zC)) L2') rfl) ⟨none,rfl⟩ ?_ ?_
     . rintro v hv e ⟨o,rfl⟩
       obtain⟨q,rfl⟩:∃q:Nat,v=.c (q:Int):=by
        simp only[Af,AU,or_false]at hv;rcases hv with rfl|rfl
        . exact⟨1,rfl⟩
        . exact⟨2,rfl⟩
       refine⟨[some (.c q),some (.c z),some (tpI st)],rfl,⟨_,rfl⟩,?_⟩;rw[sC (zX (x_call (zA (zB rfl) (zA (zB rfl) (zA (zB rfl) zC))) (cH z st q s hS.c hS.g (by omega))) zJ)]
       refine zE.mpr ⟨rfl,?_⟩;have hgm:(match Val.c (q:Int) with|.c i=>if hasB z st i then [Val.c i] else []|_=>([]:List Val))=if hasB z st q then [Val.c q] else []:=rfl
       cases hh:hasB z st q with
       |true=>
        rw[if_pos rfl,zB rfl];refine zE.mpr ⟨rfl,?_⟩;rw[hh]at hgm;exact hgm
       |false=>
        rw[if_neg Ab];rw[hh]at hgm;exact hgm
     . have e:([.c ((1:Nat):Int),.c ((2:Nat):Int)]:List Val).flatMap (λv=>match v with|.c i=>if hasB z st i then [Val.c i] else []|_=>[])=if hasB z st (yH st) then [.c (yH st)] else []:=by
        show (if hasB z st ((1:Nat):Int) then [Val.c ((1:Nat):Int)] else [])++((if hasB z st ((2:Nat):Int) then [Val.c ((2:Nat):Int)] else [])++[])=_
        have nw:=hS.o;rcases ur st with⟨a,b⟩|⟨a,b⟩
        . rw[a]at nw;rw[b,nw,if_neg Ab,Cw,A8]
        . rw[a]at nw;rw[b,nw,if_neg Ab,Cw,A8]
       rw[e];exact zE.mpr ⟨rfl,rfl⟩
    refine ye hwon ?_;generalize hW:(if hasB z st (yH st) then [Val.c (yH st)] else [])=W
    show (zS Φ T.b [some (.c z),some (tpI st),some (.g x),some (.e true),some (.j [.g "! stand",.g "! stand",.g "! stand",.g "! stand"]),some (xp (zY z st)),some (.j W),none,none,none,none,none] _ s).post _;have he:zW .d (xp (zY z st)) (.f []) s=.e (.e (zY z st).isEmpty) s:=by
     cases zY z st with
     |nil=>rfl
     |cons k os=>
      have hd:wF ((k::os).map λ(k:Nat)=>Val.c k)=true:=mM λw hw=>by obtain⟨j,_,rfl⟩:=AO.mp hw;exact .inl ⟨_,rfl⟩
      have hm:((k::os).map λ(k:Nat)=>Val.c k).map (yR s)=(k::os).map λ(k:Nat)=>Val.c k:=by rw[BV];rfl
      show (match rT (.f (((k::os).map λ(k:Nat)=>Val.c k).map (yR s))) (.f []) with|some b=>Out.e (Val.e b) s|dr=>Out.d)=_
      rw[hm];unfold rT;have h1:(Val.f ((k::os).map λ(k:Nat)=>Val.c k)).isD=true:=by rw[Val.isD];exact hd
      have h2:(Val.f []).isD=true:=by rw[Val.isD,wF]
      have h3:(Val.f []).d=.tuple []:=by rw[Val.d,ds]
      have h4:(Val.f ((k::os).map λ(k:Nat)=>Val.c k)).d=.tuple (.int k::ds (os.map λ(k:Nat)=>Val.c k)):=by rw[Val.d,AJ,ds,Val.d]
      rw[h1,h2,h3,h4];rfl
    have hde:evE Φ T.b [some (.c z),some (tpI st),some (.g x),some (.e true),some (.j [.g "! stand",.g "! stand",.g "! stand",.g "! stand"]),some (xp (zY z st)),some (.j W),none,none,none,none,none] (.C (.a (.l .d (.e 5) (.r .b))) (.g .h) (.h "_law_hand" 0 (.a (.e 1) .b))) s=.e (onV z st) s:=by
     unfold onV;cases ho:(zY z st).isEmpty with
     |true=>
      rw[ho]at he;exact lM (zX (yF (zB rfl) (yM zC (A9 _)) he) zJ) (by rw[if_pos rfl];exact zD)
     |false=>
      rw[ho]at he;exact lL (zX (yF (zB rfl) (yM zC (A9 _)) he) zJ) (by rw[if_neg Ab];exact x_call (zA (zB rfl) zC) (cD st s hS.l hS.i))
    have hwi:∃W2,binOp false .a (.j W) (.j [.h]) s=.e (.j W2) s/\wd (.j W2) (.c 0) s=.e (vF z st) s:=by
     refine⟨W++[.h],lP ?_,?_⟩
     . rw[<-hW]
       split
       . show 2<=zR;decide
       . show 1<=zR;decide
     . rw[<-hW]
       unfold vF;cases hasB z st (yH st)<;>exact mV (k:=0) rfl
    obtain⟨W2,hw1,hw2⟩:=hwi;exact ye (vG (zA hde (zA (xw (zc (zB rfl) (vG (zA zD zC) L1) hw1) zD hw2) (zA (zB rfl) (zA zD zC)))) L4) (vg ⟨_,rfl,rfl,_,_,rfl⟩)
  . rintro e s' ⟨rfl,o5,o6,rfl⟩
    exact nO (Zx c cS cB hS hx) hZ hend
structure Cs(Φ:Calls):Prop where
 e:W6 Φ
 f:W8 Φ
 a:nq Φ
 b:gG Φ
 c:jT Φ
 d:dz Φ
def en(ns:List Int)(o1 o2 o3 o4 o5 o6 o7 o8 o9 o10 o11 o12 o13:Option Val):M.Env:=[some (.p ns),o1,o2,o3,o4,o5,o6,o7,o8,o9,o10,o11,o12,o13,none]
def Xs:List Val:=[.c 0,.c 1,.c 2,.c 3,.c (-1),.e true,.h,.g "1",.c big,.f [.c 1],.j [.c 1]]
def Yd:List Val:=[.c 1,.c 9,.c (-1),.e true,.h,.g "3",.f [.c 3],.c big,.c 0]
theorem U8:∀v∈Xs,El v/\Th 1 1000 v:=λv hv=>by
 simp only[Xs,Af,AU,or_false]at hv;have o:∀w∈oM,El w:=λw hw=>.inr hw;have one:∀w∈([.c 1]:List Val),Th 0 100 w:=λw hw=>by rw[AF.mp hw];exact wZ (by omega) (by omega)
 rcases hv with rfl|rfl|rfl|rfl|rfl|rfl|rfl|rfl|rfl|rfl|rfl
 . exact⟨.inl ⟨_,rfl⟩,xH (by omega) (by omega)⟩
 . exact⟨.inl ⟨_,rfl⟩,xH (by omega) (by omega)⟩
 . exact⟨.inl ⟨_,rfl⟩,xH (by omega) (by omega)⟩
 . exact⟨.inl ⟨_,rfl⟩,xH (by omega) (by omega)⟩
 . exact⟨.inl ⟨_,rfl⟩,xH (by omega) (by omega)⟩
 . exact⟨o _ (by simp[oM]),(lH _).mono (by decide) (by decide)⟩
 . exact⟨o _ (by simp[oM]),rB.mono (by decide) (by decide)⟩
 . exact⟨o _ (by simp[oM]),(dh (by decide +kernel) (by decide +kernel)).mono (by decide) (by decide)⟩
 . exact⟨.inl ⟨_,rfl⟩,(wZ (by unfold big;omega) (by unfold big;omega)).mono (by decide) (by decide)⟩
 . exact⟨o _ (by simp[oM]),(i7 (n:=1) one (Ac 1)).mono (by decide) (by decide)⟩
 . exact⟨o _ (by simp[oM]),(lI (n:=1) one (Ac 1)).mono (by decide) (by decide)⟩
theorem Vz:∀v∈Yd,kindOf v≠none/\zZ 2 8 v=false:=λv hv=>by
 simp only[Yd,Af,AU,or_false]at hv;rcases hv with rfl|rfl|rfl|rfl|rfl|rfl|rfl|rfl|rfl<;>exact⟨nofun,rfl⟩
theorem Wj(h:∀w∈vs,El w/\Th 1 1000 w)(hl:vs.length<=190):StT (.f vs):=⟨⟨_,λs=>(nW (λw hw=>(h w hw).2) hl).shown false s⟩,nofun,λws e w hw=>by cases e;exact(h w hw).1⟩
theorem SK(h:∀x∈ns,0<=x/\x<=2)(hl:ns.length<=190):StT (tpI ns):=Wj (λw hw=>by obtain⟨i,hi,rfl⟩:=AO.mp hw;have:=h i hi;exact⟨.inl ⟨_,rfl⟩,xH (by omega) (by omega)⟩) (by rw[Aa];exact hl)
theorem qT(h:(ns.all λx=>decide (0<=x)&&decide (x<=2))=true)(hl:ns.length<=190):StT (tpI ns):=SK (λx hx=>by have:=Ao.mp h x hx;rw[cf,decide_eq_true_eq,decide_eq_true_eq]at this;exact this) hl
theorem WC(c:nq Φ)(hn:n<=8)(h4:env[4]?=some (some (.c (n:Nat))))(h0:ze [none,some 2] env=[none,some (.k p)])(hp:qi s p)(h:∀os s',os.length=n->(∀x∈os,0<=x/\x<=2)->vm s p s'->P (tpI os) s') :
 (evE Φ G env (.k .c false (.a (.q false N [none,some 2] (.h "_law_draw" 0 (.a (.e 1) (.a (.g (.c 3)) .b))) (.a 0) (.c (.e 4)) .b) .b)) s).post P:=by
 refine VW.mpr (mn.mpr ?_);refine WB (λrest e s' acc=>(∃o,e=[o,some (.k p)])/\vm s p s'/\∃os:List Int,acc=os.map .c/\os.length+rest.length=n/\∀x∈os,0<=x/\x<=2) ?_;refine⟨⟨yu 0 n,none⟩,_,qK (zB h4) (by unfold zR;omega),⟨⟨none,h0⟩,hp.refl,[],rfl,by unfold yu;rw[Aa,Bh,Cz,FT],λ_ h=>nomatch h⟩,λ_ _ _ _ _=>rfl,?_,?_⟩
 . rintro x rest e s' acc ⟨⟨o,rfl⟩,hp',os,rfl,hl,ho⟩
   refine⟨_,rfl,v8.mpr ?_⟩;rw[if_pos rfl];show (evE Φ G [some x,some (.k p)] _ s').post _;obtain⟨_,s2,hd2,w,rfl,hw,t2⟩:=c p 3 s' (hp'.at_ hp.lt) (by omega) (by omega)
   rw[x_call (zA (zB rfl) (zA zD zC)) hd2];refine zE.mpr ⟨⟨_,rfl⟩,hp'.trans t2,os++[(w:Int)],by rw[Cy];rfl,by rw[Am,List.length_singleton];rw[AK]at hl;omega,λy hy=>?_⟩
   rcases AX.mp hy with hy|hy
   . exact ho y hy
   . rw[AF.mp hy];omega
 . rintro e s' acc ⟨⟨o,rfl⟩,hp',os,rfl,hl,ho⟩
   refine zE.mpr (nH.mpr (zE.mpr ?_));rw[Cz]at hl;exact h os s' (by omega) ho hp'
theorem Zq:∀s,blt .a false [.l] s=.e (.g (Val.l).d.shown) s:=λs=>by
 have h:(Val.l.isR&&tj Val.l.d)=true:=by rw[Val.isR,Val.d];decide +kernel
 show (if (Val.l.isR&&tj Val.l.d)=true then Out.e (Val.g Val.l.d.shown) s else Out.d)=_
 exact if_pos h
theorem ai(c:Cs Φ)ns:(run T Φ oW [.p ns] (tb.map .d)).post λv _=>v=.e true:=by
 have L:∀{n:Nat},n<=100->n<=zR:=λh=>by unfold zR;omega
 rw[oW,yZ];refine⟨rfl,?_⟩;show (zS Φ T.b (en ns none none none none none none none none none none none none none) _ (tb.map .d)).post _;refine yE.mpr (ub (λrest e s'=>(∃o1 o2 o3 o4 o5 o6 o7 o8 o9 o10 o11 o12 o13,e=en ns o1 o2 o3 o4 o5 o6 o7 o8 o9 o10 o11 o12 o13)/\zf tb s'=true/\∀x∈rest,∃k:Nat,x=.c k) (yu 0 (max 1 (min ns.length 5))) (s1:=tb.map .d) (bf (K:=5) rfl (by omega)) ⟨⟨_,_,_,_,_,_,_,_,_,_,_,_,_,rfl⟩,we.mpr ⟨[],by rw[A8]⟩,?_⟩ ?_ ?_)
 . intro x hx
   obtain⟨k,_,rfl⟩:=qb hx;exact⟨k,by congr 1;omega⟩
 . rintro x rest e s' ⟨⟨o1,o2,o3,o4,o5,o6,o7,o8,o9,o10,o11,o12,o13,rfl⟩,hZ,hr⟩
   obtain⟨k,rfl⟩:=hr x (.head _);have hr':∀x∈rest,∃k:Nat,x=.c k:=λx hx=>hr x (.tail _ hx);refine⟨_,rfl,?_⟩;obtain⟨cv,hcell⟩:=c.e ns k s';obtain⟨pa,pb,pc,pd,hpen,hb⟩:=c.f cv s';show (zS Φ T.b (en ns (some (.c k)) o2 o3 o4 o5 o6 o7 o8 o9 o10 o11 o12 o13) _ s').post _;refine ye (x_call (zA (x_call (zA (zB rfl) (zA (zB rfl) zC)) hcell) zC) hpen) ?_;have hP:qi (s'++[qR pa pb pc pd]) s'.length:=⟨pa,pb,pc,pd,by simp,hb⟩
   have hZ1:zf tb (s'++[qR pa pb pc pd])=true:=qh hZ;have hpl:tb.length<=s'.length:=Wl hZ;show (zS Φ T.b (en ns (some (.c k)) (some (.k s'.length)) o3 o4 o5 o6 o7 o8 o9 o10 o11 o12 o13) _ (s'++[qR pa pb pc pd])).post _;generalize s'++[qR pa pb pc pd]=s1 at hP hZ1;generalize s'.length=p at hP hpl;obtain⟨_,s2,hd2,a2,rfl,ha2,t2⟩:=c.a p 7 s1 hP (by omega) (by omega)
   have hP2:=t2.at_ hP.lt;obtain⟨_,s3,hd3,a3,rfl,ha3,t3⟩:=c.a p 5 s2 hP2 (by omega) (by omega)
   have hP3:=t3.at_ hP2.lt;obtain⟨zv,hzm,hzix⟩:=b9 (vs:=[.c 2,.c 3,.c 3,.c 4,.c (2+(a2:Int))]) (k:=a3) (show a3<5 by omega)
   obtain⟨z,rfl,hz2,hz8⟩:∃z:Nat,zv=.c z/\2<=z/\z<=8:=by
    simp only[Af,AU,or_false]at hzm;rcases hzm with rfl|rfl|rfl|rfl|rfl
    . exact⟨2,rfl,by omega,by omega⟩
    . exact⟨3,rfl,by omega,by omega⟩
    . exact⟨3,rfl,by omega,by omega⟩
    . exact⟨4,rfl,by omega,by omega⟩
    . exact⟨2+a2,by rw[Int.natCast_add];rfl,by omega,by omega⟩
   refine ye (xw (vG (zA zD (zA zD (zA zD (zA zD (zA (zc zD (x_call (zA (zB rfl) (zA zD zC)) hd2) rM) zC))))) (L (show 5<=100 by decide))) (x_call (zA (zB rfl) (zA zD zC)) hd3) (hzix s3)) ?_
   show (zS Φ T.b (en ns (some (.c k)) (some (.k p)) (some (.c z)) o4 o5 o6 o7 o8 o9 o10 o11 o12 o13) _ s3).post _;obtain⟨_,s4,hd4,a4,rfl,ha4,t4⟩:=c.a p 8 s3 hP3 (by omega) (by omega)
   have hP4:=t4.at_ hP3.lt;obtain⟨_,s5,hd5,a5,rfl,ha5,t5⟩:=c.a p 9 s4 hP4 (by omega) (by omega)
   have hP5:=t5.at_ hP4.lt;obtain⟨m,hm,hm1,hm8⟩:∃m:Nat,(1:Int)+(a4:Int)=(m:Int)/\1<=m/\m<=8:=⟨1+a4,by omega,by omega,by omega⟩
   refine yE.mpr (g6.mpr (v7 (zc zD (x_call (zA (zB rfl) (zA zD zC)) hd4) rM) (v7 (x_call (zA (zB rfl) (zA zD zC)) hd5) (nH.mpr (mw rfl ?_)))));rw[hm];show (zS Φ T.b (en ns (some (.c k)) (some (.k p)) (some (.c z)) (some (.c m)) (some (.c (a5:Nat))) o6 o7 o8 o9 o10 o11 o12 o13) _ s5).post _;obtain⟨_,s6,hd6,a6,rfl,ha6,t6⟩:=c.a p 11 s5 hP5 (by omega) (by omega)
   have hP6:=t6.at_ hP5.lt;obtain⟨odd,hom,hoix⟩:=b9 (vs:=Xs) (k:=a6) (show a6<11 by omega)
   refine ye (xw (vG (vs:=Xs) (zA zD (zA zD (zA zD (zA zD (zA (jM zD) (zA zD (zA zD (zA zD (zA (zc zD zD mC) (zA (yM (zA zD zC) (L (show 1<=100 by decide))) (zA (vG (zA zD zC) (L (show 1<=100 by decide))) zC))))))))))) (L (show 11<=100 by decide))) (x_call (zA (zB rfl) (zA zD zC)) hd6) (hoix s6)) ?_
   show (zS Φ T.b (en ns (some (.c k)) (some (.k p)) (some (.c z)) (some (.c m)) (some (.c (a5:Nat))) (some odd) o7 o8 o9 o10 o11 o12 o13) _ s6).post _;obtain⟨_,s7,hd7,a7,rfl,ha7,t7⟩:=c.a p 8 s6 hP6 (by omega) (by omega)
   have hP7:=t7.at_ hP6.lt;obtain⟨q,hq,hqm⟩:∃q:Nat,(a7:Int)%(m:Int)=(q:Int)/\q<m:=⟨a7%m,by rw[Int.natCast_emod],Nat.mod_lt _ (by omega)⟩
   refine ye (zc (x_call (zA (zB rfl) (zA zD zC)) hd7) (zB rfl) (bmod (by omega))) ?_
   rw[hq];show (zS Φ T.b (en ns (some (.c k)) (some (.k p)) (some (.c z)) (some (.c m)) (some (.c (a5:Nat))) (some odd) (some (.c q)) o8 o9 o10 o11 o12 o13) _ s7).post _;obtain⟨_,s8,hd8,a8,rfl,ha8,t8⟩:=c.a p 9 s7 hP7 (by omega) (by omega)
   have hP8:=t8.at_ hP7.lt;obtain⟨bad,hbm,hbix⟩:=b9 (vs:=Yd) (k:=a8) (show a8<9 by omega)
   obtain⟨hb1,hb2⟩:=Vz bad hbm;refine ye (xw (vG (vs:=Yd) (zA zD (zA zD (zA (jM zD) (zA zD (zA zD (zA zD (zA (yM (zA zD zC) (L (show 1<=100 by decide))) (zA (zc zD zD mC) (zA zD zC))))))))) (L (show 9<=100 by decide))) (x_call (zA (zB rfl) (zA zD zC)) hd8) (hbix s8)) ?_
   show (zS Φ T.b (en ns (some (.c k)) (some (.k p)) (some (.c z)) (some (.c m)) (some (.c (a5:Nat))) (some odd) (some (.c q)) (some bad) o9 o10 o11 o12 o13) _ s8).post _;have t18:=(((((t2.trans t3).trans t4).trans t5).trans t6).trans t7).trans t8;refine ig (gz (zA (zB rfl) (zA (zB rfl) (zA (zB rfl) (zA (zB rfl) zC)))) (zT (c.b p z m a5 s8 hP8 hz2 hz8 hm1 hm8 (by omega)) ?_))
   rintro v s9 ⟨st,rfl,hS,hlen,t9⟩;have hP9:=t9.at_ hP8.lt;show (zS Φ T.b (en ns (some (.c k)) (some (.k p)) (some (.c z)) (some (.c m)) (some (.c (a5:Nat))) (some odd) (some (.c q)) (some bad) (some (tpI st)) o10 o11 o12 o13) _ s9).post _;refine ig (WC c.a (n:=m) (p:=p) hm8 rfl rfl hP9 λos s10 hol hos t10=>?_);have hZ10:=SX hZ1 hpl ((t18.trans t9).trans t10);show (zS Φ T.b (en ns (some (.c k)) (some (.k p)) (some (.c z)) (some (.c m)) (some (.c (a5:Nat))) (some odd) (some (.c q)) (some bad) (some (tpI st)) (some (tpI os)) o11 o12 o13) _ s10).post _;clear t18 t10 t9 t8 t7 t6 t5 t4 t3 t2 hP9 hP8 hP7 hP6 hP5 hP4 hP3 hP2 hP hZ1 hpen hcell hd2 hd3 hd4 hd5 hd6 hd7 hd8;have hn8:=hS.b;have stM:∀w∈st.map Val.c,El w/\Th 1 1000 w:=λw hw=>by obtain⟨i,hi,rfl⟩:=AO.mp hw;have:=hS.n i hi;exact⟨.inl ⟨_,rfl⟩,xH (by omega) (by omega)⟩
   have lm:(st.map Val.c).length=st.length:=Aa ..;have cl:∀(lo hi:Option Int),(xk (st.map Val.c) lo hi).length<=8:=λlo hi=>Au qW (by omega)
   have hL1:∀x∈([tpI st,.f ((xk (st.map Val.c) none (some (q:Int))++[odd])++xk (st.map Val.c) (some ((q:Int)+1)) none),.f (xk (st.map Val.c++[.c 0]) none (some 8)),.f (xk (st.map Val.c) none (some (-1))),.j (st.map Val.c)]:List Val),StT x:=by
    refine As.mpr ⟨SK hS.n (by omega),As.mpr ⟨Wj (λw hw=>?_) ?_,As.mpr ⟨Wj (λw hw=>?_) ?_,As.mpr ⟨Wj (λw hw=>stM w (qX hw)) (Au (cl _ _) (by decide)),As.mpr ⟨⟨⟨_,λs=>(di (λw hw=>(stM w hw).2) (by omega)).shown false s⟩,nofun,nofun⟩,CW _⟩⟩⟩⟩⟩
    . rcases AX.mp hw with hw|hw
      . rcases AX.mp hw with hw|hw
        . exact stM w (qX hw)
        . rw[AF.mp hw];exact U8 odd hom
      . exact stM w (qX hw)
    . rw[Am,Am]
      have h1:=cl none (some (q:Int));have h2:=cl (some ((q:Int)+1)) none;show _+1+_<=190;omega
    . rcases AX.mp (qX hw) with hw|hw
      . exact stM w hw
      . rw[AF.mp hw];exact⟨.inl ⟨_,rfl⟩,xH (by omega) (by omega)⟩
    . refine Au qW ?_
      rw[Am,lm];show _+1<=190;omega
   have add2:∀{a b:List Val} {s:Sto},a.length+b.length<=100->binOp false .a (.f a) (.f b) s=.e (.f (a++b)) s:=λh=>nz (L h);refine ye (vG (zA (zB rfl) (zA (zc (zc (gE (zB rfl) sX (pQ (zB rfl)) sX r0) (yM (zA (zB rfl) zC) (L (show 1<=100 by decide))) (add2 (by have:=cl none (some (q:Int));show _+1<=100;omega))) (gE (zB rfl) (pQ (zc (zB rfl) zD rM)) sX sX r0) (add2 (by rw[Am];have:=cl none (some (q:Int));have:=cl (some ((q:Int)+1)) none;show _+1+_<=100;omega))) (zA (gE (zc (zB rfl) (yM (zA zD zC) (L (show 1<=100 by decide))) (add2 (by rw[lm];show _+1<=100;omega))) sX (pQ zD) sX r0) (zA (gE (zB rfl) sX (pQ (jM zD)) sX r0) (zA (zh (zA (zB rfl) zC) rfl) zC))))) (L (show 5<=100 by decide))) ?_
   generalize hT1:([tpI st,.f ((xk (st.map Val.c) none (some (q:Int))++[odd])++xk (st.map Val.c) (some ((q:Int)+1)) none),.f (xk (st.map Val.c++[.c 0]) none (some 8)),.f (xk (st.map Val.c) none (some (-1))),.j (st.map Val.c)]:List Val)=T1 at hL1 ⊢;have hT1l:T1.length=5:=by rw[<-hT1];rfl
   show (zS Φ T.b (en ns (some (.c k)) (some (.k p)) (some (.c z)) (some (.c m)) (some (.c (a5:Nat))) (some odd) (some (.c q)) (some bad) (some (tpI st)) (some (tpI os)) (some (.j T1)) o12 o13) _ s10).post _;have m8:binOp false .b (.f [.c 0]) (.c 8) s10=.e (tpI [0,0,0,0,0,0,0,0]) s10:=rfl;have m9:binOp false .b (.f [.c 0]) (.c 9) s10=.e (tpI [0,0,0,0,0,0,0,0,0]) s10:=rfl;have L100:∀{n:Nat},n<=100->n<=zR:=L;refine ye (zc (zB rfl) (vG (vs:=[tpI os,tpI [],tpI [0,0,0,0,0,0,0,0],tpI [0,0,0,0,0,0,0,0,0],tpI [1],tpI [2],tpI [1,2],tpI [1,1,1,2,2],tpI [2,2,1,1,1]]) (zA (zB rfl) (zA (yM zC (A9 _)) (zA (zc (yM (zA zD zC) (L (show 1<=100 by decide))) zD m8) (zA (zc (yM (zA zD zC) (L (show 1<=100 by decide))) zD m9) (zA (yM (zA zD zC) (L (show 1<=100 by decide))) (zA (yM (zA zD zC) (L (show 1<=100 by decide))) (zA (yM (zA zD (zA zD zC)) (L (show 2<=100 by decide))) (zA (yM (zA zD (zA zD (zA zD (zA zD (zA zD zC))))) (L (show 5<=100 by decide))) (zA (yM (zA zD (zA zD (zA zD (zA zD (zA zD zC))))) (L (show 5<=100 by decide))) zC))))))))) (L (show 9<=100 by decide))) (lP (by rw[hT1l];exact L (show 5+9<=100 by decide)))) ?_
   have hL2:∀x∈([tpI os,tpI [],tpI [0,0,0,0,0,0,0,0],tpI [0,0,0,0,0,0,0,0,0],tpI [1],tpI [2],tpI [1,2],tpI [1,1,1,2,2],tpI [2,2,1,1,1]]:List Val),StT x:=As.mpr ⟨SK hos (by omega),As.mpr ⟨qT rfl (by decide),As.mpr ⟨qT rfl (by decide),As.mpr ⟨qT rfl (by decide),As.mpr ⟨qT rfl (by decide),As.mpr ⟨qT rfl (by decide),As.mpr ⟨qT rfl (by decide),As.mpr ⟨qT rfl (by decide),As.mpr ⟨qT rfl (by decide),CW _⟩⟩⟩⟩⟩⟩⟩⟩⟩
   generalize hT2:([tpI os,tpI [],tpI [0,0,0,0,0,0,0,0],tpI [0,0,0,0,0,0,0,0,0],tpI [1],tpI [2],tpI [1,2],tpI [1,1,1,2,2],tpI [2,2,1,1,1]]:List Val)=T2 at hL2 ⊢;have hT2l:T2.length=9:=by rw[<-hT2];rfl
   show (zS Φ T.b (en ns (some (.c k)) (some (.k p)) (some (.c z)) (some (.c m)) (some (.c (a5:Nat))) (some odd) (some (.c q)) (some bad) (some (tpI st)) (some (tpI os)) (some (.j (T1++T2))) o12 o13) _ s10).post _;refine ye (zc (zB rfl) (vG (vs:=[.h,.l,.g "010"]) (zA zD (zA rfl (zA zD zC))) (L (show 3<=100 by decide))) (lP (by rw[Am,hT1l,hT2l];exact L (show 5+9+3<=100 by decide)))) ?_
   have hL3:∀x∈([.h,.l,.g "010"]:List Val),StT x:=As.mpr ⟨⟨⟨_,xN (rB.mono (by decide) (by decide)) λs=>rfl⟩,nofun,nofun⟩,As.mpr ⟨⟨⟨_,Zq⟩,nofun,nofun⟩,As.mpr ⟨⟨⟨_,xN ((dh (by decide +kernel) (by decide +kernel)).mono (by decide) (by decide)) λs=>rfl⟩,nofun,nofun⟩,CW _⟩⟩⟩
   generalize hT3:([.h,.l,.g "010"]:List Val)=T3 at hL3 ⊢;have hT3l:T3.length=3:=by rw[<-hT3];rfl
   show (zS Φ T.b (en ns (some (.c k)) (some (.k p)) (some (.c z)) (some (.c m)) (some (.c (a5:Nat))) (some odd) (some (.c q)) (some bad) (some (tpI st)) (some (tpI os)) (some (.j (T1++T2++T3))) o12 o13) _ s10).post _;have hL4:∀x∈([tpI [1,1,1,0,2,2,2,0],tpI [1,1,2,2],tpI [2,1,1,2,1],tpI [1,1,2,2,2,1,1],.c 0]:List Val),StT x:=As.mpr ⟨qT rfl (by decide),As.mpr ⟨qT rfl (by decide),As.mpr ⟨qT rfl (by decide),As.mpr ⟨qT rfl (by decide),As.mpr ⟨⟨⟨_,xN ((wZ (by omega) (by omega)).mono (by decide) (by decide)) λs=>rfl⟩,nofun,nofun⟩,CW _⟩⟩⟩⟩⟩
   refine yE.mpr (ub (λrest2 e s'=>s'=s10/\(∃o12,e=en ns (some (.c k)) (some (.k p)) (some (.c z)) (some (.c m)) (some (.c (a5:Nat))) (some odd) (some (.c q)) (some bad) (some (tpI st)) (some (tpI os)) (some (.j (T1++T2++T3))) o12 o13)/\∀x∈rest2,StT x) ((T1++T2++T3)++[tpI [1,1,1,0,2,2,2,0],tpI [1,1,2,2],tpI [2,1,1,2,1],tpI [1,1,2,2,2,1,1],.c 0]) (s1:=s10) (uV (zc (zB rfl) (vG (vs:=[tpI [1,1,1,0,2,2,2,0],tpI [1,1,2,2],tpI [2,1,1,2,1],tpI [1,1,2,2,2,1,1],.c 0]) (zA (yM (zA zD (zA zD (zA zD (zA zD (zA zD (zA zD (zA zD (zA zD zC)))))))) (L (show 8<=100 by decide))) (zA (yM (zA zD (zA zD (zA zD (zA zD zC)))) (L (show 4<=100 by decide))) (zA (yM (zA zD (zA zD (zA zD (zA zD (zA zD zC))))) (L (show 5<=100 by decide))) (zA (yM (zA zD (zA zD (zA zD (zA zD (zA zD (zA zD (zA zD zC))))))) (L (show 7<=100 by decide))) (zA zD zC))))) (L (show 5<=100 by decide))) (lP (by rw[Am,Am,hT1l,hT2l,hT3l];exact L (show 5+9+3+5<=100 by decide)))) rfl) ⟨rfl,⟨_,rfl⟩,D4.mpr ⟨D4.mpr ⟨D4.mpr ⟨hL1,hL2⟩,hL3⟩,hL4⟩⟩ ?_ ?_)
   . rintro x rest2 e s11 ⟨rfl,⟨o12,rfl⟩,hr2⟩
     refine⟨_,rfl,?_⟩;show (zS Φ T.b (en ns (some (.c k)) (some (.k p)) (some (.c z)) (some (.c m)) (some (.c (a5:Nat))) (some odd) (some (.c q)) (some bad) (some (tpI st)) (some (tpI os)) (some (.j (T1++T2++T3))) (some x) o13) _ s11).post _;exact xu (vj (b:=true) (zX (x_call (zA (zB rfl) (zA (zB rfl) zC)) (c.c z x s11 hZ10 hz2 hz8 (hr2 x (.head _)))) zJ)) (vg ⟨rfl,⟨_,rfl⟩,λy hy=>hr2 y (.tail _ hy)⟩)
   . rintro e s11 ⟨rfl,⟨o12,rfl⟩,_⟩
     refine yE.mpr (ub (λrest2 e s'=>s'=s11/\(∃o13,e=en ns (some (.c k)) (some (.k p)) (some (.c z)) (some (.c m)) (some (.c (a5:Nat))) (some odd) (some (.c q)) (some bad) (some (tpI st)) (some (tpI os)) (some (.j (T1++T2++T3))) o12 o13)/\∀x∈rest2,∃f∈([("is_stand":Str),"hand_on","won_by","may_take"]:List Str),x=.q f) [.q "is_stand",.q "hand_on",.q "won_by",.q "may_take"] (s1:=s11) (uV (vG (zA (uL rfl) (zA (uL rfl) (zA (uL rfl) (zA (uL rfl) zC)))) (L (show 4<=100 by decide))) rfl) ⟨rfl,⟨_,rfl⟩,?_⟩ ?_ ?_)
     . refine As.mpr ⟨⟨_,.head _,rfl⟩,As.mpr ⟨⟨_,.tail _ (.head _),rfl⟩,As.mpr ⟨⟨_,.tail _ (.tail _ (.head _)),rfl⟩,As.mpr ⟨⟨_,.tail _ (.tail _ (.tail _ (.head _))),rfl⟩,CW _⟩⟩⟩⟩
     . rintro x rest2 e s12 ⟨rfl,⟨o13,rfl⟩,hr2⟩
       obtain⟨f,hf,rfl⟩:=hr2 x (.head _);refine⟨_,rfl,?_⟩;show (zS Φ T.b (en ns (some (.c k)) (some (.k p)) (some (.c z)) (some (.c m)) (some (.c (a5:Nat))) (some odd) (some (.c q)) (some bad) (some (tpI st)) (some (tpI os)) (some (.j (T1++T2++T3))) o12 (some (.q f))) _ s12).post _;exact xu (zX (yF (x_call (zA (zB rfl) (zA (zB rfl) (zA zD zC))) (c.d.nf f hf _ _ _ hZ10 hb1 hb2)) zD vd) zJ) (vg ⟨rfl,⟨_,rfl⟩,λy hy=>hr2 y (.tail _ hy)⟩)
     . rintro e s12 ⟨rfl,⟨o13,rfl⟩,_⟩
       show (zS Φ T.b (en ns (some (.c k)) (some (.k p)) (some (.c z)) (some (.c m)) (some (.c (a5:Nat))) (some odd) (some (.c q)) (some bad) (some (tpI st)) (some (tpI os)) (some (.j (T1++T2++T3))) o12 o13) _ s12).post _;exact xu (zX (yF (x_call (zA (zB rfl) (zA zD (zA zD zC))) (c.d.nt _ _ _ _ hZ10 hb1 hb2)) zD vd) zJ) (vg ⟨⟨_,_,_,_,_,_,_,_,_,_,_,_,_,rfl⟩,hZ10,hr'⟩)
 . rintro e s' ⟨⟨o1,o2,o3,o4,o5,o6,o7,o8,o9,o10,o11,o12,o13,rfl⟩,hZ,_⟩
   refine zu zD ?_;show (zi false (tb.map .d) (.e true) s').post _;rw[eK hZ yV];exact zE.mpr rfl
end
theorem qZ{T}(h:Rz (zF T n) (zl T n) f vs s c)(h1:T.d "" 301=none)(h2:T.c true=true)(h3:zf T.f s=true)(h4:T.e.lookup c=some w):zF T (n+1) "" 301 (.q f::vs) s=.e (.g w) s:=by obtain⟨a,as,b⟩:=h;simp only[zF,h1,ll,List.tail_cons,a,b,h2,h3,h4,qL];rfl
theorem cs:At T 11 Cs:=λn hn=>by
 obtain⟨n,rfl⟩:∃m,n=m+11:=⟨n-11,by omega⟩
 have g1:T.b "LEAST_SIZE"=some (.c 2):=rfl;have g2:T.b "MOST_SIZE"=some (.c 8):=rfl;have g3:T.b "MOST_PLACES"=some (.c 40):=rfl;have g:GlS T:=⟨rfl,rfl,rfl,rfl,rfl,rfl⟩;have whole:∀m,rG (zF T (m+1)):=λm v l k s h=>by rw[zQ (F:=F.wC) rfl];exact dW h
 have wholes:∀m,gI (zF T (m+2)):=λm vs l k s h=>by rw[zQ (F:=F.y9) rfl];exact iY (whole m) h
 have needWhole:∀m,tQ (zF T (m+2)):=λm i l k s h1 h2=>by rw[zQ (F:=F.zw) rfl];exact oQ (whole m) h1 h2
 have needSize:∀m,rF (zF T (m+3)):=λm i s h1 h2=>by rw[zQ (F:=F.yL) rfl];exact Xv g1 g2 (needWhole m) h1 h2
 have needLength:∀m,qF (zF T (m+3)):=λm i s h1 h2=>by rw[zQ (F:=F.yp) rfl];exact eW g3 (needWhole m) h1 h2
 have most:∀m,W7 (zF T (m+1)):=λm a b d s h1 h2 h3=>by rw[zQ (F:=F.xZ) rfl];exact Z1 h1 h2 h3
 have one:∀m,Sw (zF T (m+1)):=λm a b d e s h1 h2 h3 h4=>by rw[zQ (F:=F.xB) rfl];exact WZ h1 h2 h3 h4
 have rowsIn:∀m,gH (zF T (m+4)):=λm a b s h1 h2 h3=>by rw[zQ (F:=F75.wj) rfl];exact iW (needLength m) (needSize m) (most (m+2)) h1 h2 h3
 have has:∀m,jQ "has_row" (zF T (m+5)):=λm z st h s h1 h2 h3=>by rw[zQ (F:=F75.wg) rfl];exact WY (rowsIn m) (one (m+3)) h1 h2 h3
 have other:∀m,d9 (zF T (m+1)):=λm h s=>by rw[zQ (F:=F75.xC) rfl];exact dQ g
 have due:∀m,dy (zF T (m+1)):=λm st s=>by rw[zQ (F:=F75.wB) rfl];exact WX g
 have winner:∀m,nu (zF T (m+6)):=λm z st s h1 h2 h3=>by rw[zQ (F:=F75.vU) rfl];exact iZ (other (m+4)) (due (m+4)) (has m) h1 h2 h3
 have free:∀m,sD "free_places" (zF T (m+7)):=λm z st s h=>by rw[zQ (F:=F75.yn) rfl];exact Zz g (winner m) h
 have behind:∀m,vT "behind_taking" (zF T (m+2)):=λm st p s h1 h2 _ _=>by rw[zQ (F:=F75.yS) rfl];exact km (due m) h1 h2
 have markV:∀m,d8 (zF T (m+3)):=λm v s h=>by rw[zQ (F:=F75.xY) rfl];exact dP g (wholes m) h
 have turnV:∀m,cJ (zF T (m+6)):=λm z st s h1 h2 h3=>by rw[zQ (F:=F75.xA) rfl];exact dU g (due (m+4)) (has m) h1 h2 h3
 have standV:∀m,uk (zF T (m+7)):=λm z v s h1 h2 h3=>by rw[zQ (F:=F75.yw) rfl];exact iX (needSize (m+3)) (markV (m+3)) (turnV m) h1 h2 h3
 have stand:∀m,cA (zF T (m+7)):=λm z st s h=>by rw[standV m z (tpI st) s h.c h.g gu,lu h]
 have needStand:∀m,x9 (zF T (m+8)):=λm z st s h=>by rw[zQ (F:=F75.yA) rfl];exact oP (stand m) h
 have handOn:∀m,YX (zF T (m+9)):=λm z st s h=>by rw[zQ (F:=F71.yo) rfl];exact iU (needStand m) (free (m+1)) (due (m+7)) h
 have wonBy:∀m,Vs (zF T (m+9)):=λm z st s h=>by rw[zQ (F:=F71.xM) rfl];exact dX (needStand m) (winner (m+2)) h
 have mayTake:∀m,sD "may_take" (zF T (m+9)):=λm z st s h=>by rw[zQ (F:=F71.yW) rfl];exact kn (needStand m) (free (m+1)) h
 have taken:∀m,YY (zF T (m+9)):=λm z p st s h1 h2=>by rw[zQ (F:=F71.xO) rfl];exact dR (needStand m) (whole (m+7)) (free (m+1)) (behind (m+6)) h1 h2
 have xNeed:∀m,VB (zF T (m+2)) (zl T (m+2)):=λm v l k s h1 h2 h3 h4=>by obtain⟨a,b⟩:=cn (T:=T) (Φ:=zF T (m+1)) (Ψ:=zl T (m+1)) (s:=s) (whole m) rfl h1 h2 h3 h4;exact⟨by rw[zQ (F:=F.zw) rfl];exact a,_,by rw[lS (F:=F.zw) rfl rfl];exact b⟩
 have xSize:∀m,RC (zF T (m+3)) (zl T (m+3)):=λm v s h1 h2=>RzF.up (F:=F.yL) (cq g1 g2 (xNeed m) h1 h2) rfl rfl;have xStand:∀(m:Nat) (v w:Val) (s:Sto),kindOf v≠none->zZ 2 8 v=false->Rz (zF T (m+4)) (zl T (m+4)) "is_stand" [v,w] s "NoNumber":=λm v w s h1 h2=>RzF.up (F:=F75.yw) (xD (F:=F75.yw) rfl rfl (zA (zB rfl) zC) (xSize m v s h1 h2)) rfl rfl;have xNeedN:∀(m:Nat) (v w:Val) (s:Sto),kindOf v≠none->zZ 2 8 v=false->Rz (zF T (m+5)) (zl T (m+5)) "need_stand" [v,w] s "NoNumber":=λm v w s h1 h2=>RzF.up (F:=F75.yA) (Ye (F:=F75.yA) rfl rfl (zA (zB rfl) (zA (zB rfl) zC)) (xStand m v w s h1 h2)) rfl rfl;have xNeedS:∀(m z:Nat) (v:Val) (s:Sto),2<=z->z<=8->Kds v->wa z v=false->Rz (zF T (m+8)) (zl T (m+8)) "need_stand" [.c z,v] s "NoStand":=λm z v s h1 h2 h3 h4=>RzF.up (F:=F75.yA) (Vy (b:=.b) (F:=F75.yA) rfl rfl (zA (zB rfl) (zA (zB rfl) zC)) (by rw[standV m z v s h1 h2 h3,h4]) rfl) rfl rfl
 have got:∀m,dz (zF T (m+10)):=λm=>
  ⟨λz st s hz h=>mR (handOn m z st s h) rfl rfl hz,λz st s hz h=>mR (wonBy m z st s h) rfl rfl hz,λz st s hz h=>mR (mayTake m z st s h) rfl rfl hz,λz p st s hz h hp=>mR (taken m z p st s h hp) rfl rfl hz,
   λz st v s hz h hk hb=>rW (RzF.up (n:=m+8) (F:=F71.xO) (fP (needStand m) (whole (m+7)) (free (m+1)) rfl h hk hb) rfl rfl) rfl rfl hz rfl,
   λz v s hz h2 h8 hk hb=>rW (RzF.up (n:=m+8) (F:=F71.yo) (xD (F:=F71.yo) rfl rfl (zA (zB rfl) (zA (zB rfl) zC)) (xNeedS m z v s h2 h8 hk hb)) rfl rfl) rfl rfl hz rfl,
   λz v s hz h2 h8 hk hb=>rW (RzF.up (n:=m+8) (F:=F71.xM) (xD (F:=F71.xM) rfl rfl (zA (zB rfl) (zA (zB rfl) zC)) (xNeedS m z v s h2 h8 hk hb)) rfl rfl) rfl rfl hz rfl,
   λz v s hz h2 h8 hk hb=>rW (RzF.up (n:=m+8) (F:=F71.yW) (xD (F:=F71.yW) rfl rfl (zA (zB rfl) (zA (zB rfl) zC)) (xNeedS m z v s h2 h8 hk hb)) rfl rfl) rfl rfl hz rfl,
   λz v u s hz h2 h8 hk hb=>rW (RzF.up (n:=m+8) (F:=F71.xO) (xD (F:=F71.xO) rfl rfl (zA (zB rfl) (zA (zB rfl) zC)) (xNeedS m z v s h2 h8 hk hb)) rfl rfl) rfl rfl hz rfl,
   λf hf v w s hz h1 h2=>by
    simp only[Af,AU,or_false]at hf;rcases hf with rfl|rfl|rfl|rfl
    . exact qZ (xStand (m+5) v w s h1 h2) rfl rfl hz rfl
    . exact qZ (RzF.up (n:=m+8) (F:=F71.yo) (xD (F:=F71.yo) rfl rfl (zA (zB rfl) (zA (zB rfl) zC)) (xNeedN (m+3) v w s h1 h2)) rfl rfl) rfl rfl hz rfl
    . exact qZ (RzF.up (n:=m+8) (F:=F71.xM) (xD (F:=F71.xM) rfl rfl (zA (zB rfl) (zA (zB rfl) zC)) (xNeedN (m+3) v w s h1 h2)) rfl rfl) rfl rfl hz rfl
    . exact qZ (RzF.up (n:=m+8) (F:=F71.yW) (xD (F:=F71.yW) rfl rfl (zA (zB rfl) (zA (zB rfl) zC)) (xNeedN (m+3) v w s h1 h2)) rfl rfl) rfl rfl hz rfl,
   λv w u s hz h1 h2=>rW (RzF.up (n:=m+8) (F:=F71.xO) (xD (F:=F71.xO) rfl rfl (zA (zB rfl) (zA (zB rfl) zC)) (xNeedN (m+3) v w s h1 h2)) rfl rfl) rfl rfl hz rfl⟩
 have cell:∀m,W6 (zF T (m+1)):=λm ns k s=>by obtain⟨c,h⟩:=Zy (T:=T) (Φ:=zF T m) (s:=s) ns k;exact⟨c,by rw[zQ (F:=F.yN) rfl];exact h⟩
 have pen:∀m,W8 (zF T (m+1)):=λm c s=>by obtain⟨a,b,e,d,h,h2⟩:=Z2 (T:=T) (Φ:=zF T m) (s:=s) c;exact⟨a,b,e,d,by rw[zQ (F:=F75.yg) rfl];exact h,h2⟩
 have draw:∀m,nq (zF T (m+1)):=λm p k s h1 h2 h3=>by rw[zQ (F:=F75.yv) rfl];exact dH h1 h2 h3
 have lhas:∀m,jQ "_law_has" (zF T (m+1)):=λm z st h s h1 h2 h3=>by rw[zQ (F:=F75.wA) rfl];exact Z0 h1 h2 h3
 have lfree:∀m,sD "_law_free" (zF T (m+2)):=λm z st s h=>by rw[zQ (F:=F75.xV) rfl];exact dI (lhas m) h
 have lhand:∀m,jR (zF T (m+1)):=λm st s h1 h2=>by rw[zQ (F:=F75.xX) rfl];exact dM h1 h2
 have lput:∀m,vT "_law_put" (zF T (m+2)):=λm st p s h1 h2 h3 h4=>by rw[zQ (F:=F75.xP) rfl];exact dO (lhand m) h1 h2 h3 h4
 have played:∀m,gG (zF T (m+3)):=λm p z k j s h1 h2 h3 h4 h5 h6=>by rw[zQ (F:=F75.ym) rfl];exact iV (lfree m) (lput m) (draw (m+1)) h1 h2 h3 h4 h5 h6
 have lgood:∀m,d7 (zF T (m+2)):=λm z v s h1 h2 h3=>by rw[zQ (F:=F71.xW) rfl];exact dJ (lhas m) h1 h2 h3
 have right:∀m,jT (zF T (m+11)):=λm z v s h1 h2 h3 h4=>by rw[zQ (F:=F71.z6) rfl];exact nQ (got m) (standV (m+3)) (lput (m+8)) (lgood (m+8)) (lhas (m+9)) (lfree (m+8)) (lhand (m+9)) h1 h2 h3 h4
 exact⟨cell (n+10),pen (n+10),draw (n+10),played (n+8),right n,got (n+1)⟩
theorem U4 ns:∃s',zF T 12 "law" 0 [.p ns] (tb.map .d)=.e (.e true) s':=by
 obtain⟨v,s',h,rfl⟩:=ai (cs 11 (by omega)) ns
 exact⟨s',by rw[zQ (F:=oW) rfl];exact h⟩
end P71
end
section
open PySem PySem.W PyProof.Rows
theorem P71.hx:P71.oW.b=[("_law_script":Str)]:=by kernel_rfl
theorem P71.hF:(M.i6 P71.fnL P71.glL P71.tb P71.xc P71.md).d P71.dd.name 0=some P71.oW:=by kernel_rfl
theorem P71.hgl:P71.glL=P71.gl.map λp=>(p.1,M.gv p.2):=by kernel_rfl
def P71.ws1:List Str:=["strip","sizes","number","place","hue","draft","paper","fit","great","lot","ring","round"]
def P71.ws2:List Str:=["stand","text","deed","line"]
theorem P71.kst:M.jV (P71.top 54) P71.X.a (P71.ws1++P71.ws2) (some "! "):=by
 refine⟨by kernel_rfl,by decide +kernel,?_,by decide +kernel⟩
 exact⟨P71.X.a.take 4,(P71.X.a.drop 4).take 4,(P71.X.a.drop 8).take 4,P71.X.a.drop 12,P71.ws1,P71.ws2,_,_,_,_,_,_,_,_,_,_,_,_,_,_,_,_,_,_,_,_,_,_,_,_,_,_,_,_,_,_,_,_,_,_,_,_,_,_,_,_,_,_,_,_,_,_,_,_,_,_,_,_,_,_,_,_,_,_,_,_,_,rfl,rfl,rfl,by decide +kernel,rfl,rfl⟩
theorem P71.P2:M.ny true "_law_kind" (P71.top 55):=⟨by kernel_rfl,by decide +kernel,⟨.Name "" default,_,_,_,_,default,_,_,_,_,_,_,default,default,default,default,default,default,default,default,0,0,rfl⟩,by decide +kernel⟩
theorem P71.hS:∀b,P71.md b=true->P71.D.lookup (L2.yf b)=some ((λb=>match b with|true=>P71.top 55|false=>P71.top 0) b)/\M.ny b "_law_kind" ((λb=>match b with|true=>P71.top 55|false=>P71.top 0) b)
 |true,_=>⟨rfl,P71.P2⟩|false,h=>by cases h
theorem P71.jn:((("HueError":Str))::P71.X.c).all (λc=>M.ZI P71.q c)=true:=by decide +kernel
theorem P71.jo:P71.X.b.all (λg=>(EN P71.q).any (λd=>decide (d.name=g))&&(P71.D.lookup g).isSome)=true:=by decide +kernel
theorem PySem.Challenge.cw_evenhues_k71_stands_looked_at_holds : PySem.Challenge.rw_evenhues_k71_stands_looked_at.Holds := by
 exact M.V6 (n:=12) _ P71.SG P71.left P71.hgl P71.bt P71.hp P71.hk P71.hwr P71.ok P71.bare P71.hw (by kernel_rfl) P71.hdf ⟨rfl,by decide,by decide,rfl⟩ P71.hF P71.hx P71.SW rfl (by decide +kernel) rfl P71.kst P71.hS rfl (by decide +kernel) (by decide +kernel) P71.jn P71.jo (λns _=>P71.U4 ns)
end
end
