import PyProof.Rows.All
import Wide.All
import OpenK.AllK
import Wide.FinOn
import Lean
import PyProof.EqAt
import PyProof.EqKinds
import PyProof.TupleCall
import PyProof.P3Eq
import PyProof.NeData
import PyProof.P3In
import PyProof.Rows.EnumRows
import PyProof.ZipIter
import PyProof.Rows.SetFrom
import PyProof.ExcClass
import OpenK.KRaise
import PyProof.ExcBaseAll.ValueError
import KE.KLam
import KE.KTryMore
import PyProof.ExcArgsOwn
import PyProof.IsiH_list
import PySem.Challenge.RW_evenhues_k36_whole_papers
set_option genSizeOf false
set_option genSizeOfSpec false
set_option bootstrap.genMatcherCode false
set_option Elab.async false
set_option linter.all false
set_option maxRecDepth 100000
local macro_rules|`(tactic|omega)=>`(tactic|lia)
local macro_rules|`(⋯)=>`(by omega)
set_option maxHeartbeats 4000000
set_option autoImplicit true
set_option relaxedAutoImplicit true
noncomputable section
open And renaming intro->Ai
open Array renaming getD_eq_getD_getElem?->A1,length_toList->By,getD->GL
open Bool renaming and_eq_true->nx,false_ne_true->Aa,or_eq_true->AS,false_eq_true->AV,not_eq_true'->BO,false_and->BX,eq_iff_iff->Ce,true_and->Cy,and_false->DK,or_eq_false_iff->DR,and_eq_true_iff->DS,and_self->Fv,and_true->Fw,false_or->GR
open False renaming elim->CJ
open ForInStep renaming yield->Du
open Iff renaming rfl->Di
open Int renaming toNat_natCast->AL,natCast_mul->Bv,le_refl->BJ,le_trans->CO,fdiv_eq_ediv_of_nonneg->DV,fmod_eq_emod_of_nonneg->DW,zero_add->EO,mul_le_mul_of_nonneg_right->ET,emod_lt_of_pos->Fg,lt_trans->F4,natCast_ediv->Ga,emod_nonneg->Gw
open LawfulBEq renaming eq_of_beq->CN
open LawfulMonad renaming pure_bind->Fb
open List renaming getElem?_eq_getElem->pn,length_map->zI,getD_eq_getElem?_getD->Ab,getElem?_eq_some_iff->Ad,size_toArray->Ae,mem_range->Ag,mem_cons->Ah,length_append->Ak,range->Al,length_cons->An,mem_singleton->Ao,mem_map->Aq,lookup_cons->Av,map_cons->Aw,mem_cons_of_mem->Az,getElem?_map->AA,mem_filter->AD,getElem?_set_self->AE,mem_of_getElem?->AF,replicate->AG,all_eq_true->AH,getElem?_append_left->AJ,mem_cons_self->AK,length_range->AM,isEmpty_iff->AN,mem_append->AO,getElem?_append_right->AR,mem_append_right->AU,filterMap_cons->A2,length_set->A6,flatMap_cons->A7,append_nil->Ba,mem_flatMap->Bb,append_assoc->Bc,length_singleton->Bg,map_append->Bj,not_mem_nil->Bk,pairwise_cons->Bn,mem_append_left->Bs,getElem?_set_ne->Bt,any_eq_true->Bx,length_nil->BE,getElem?_of_mem->BF,getElem_mem->BK,filter_eq_nil_iff->BL,set_eq_take_append_cons_drop->BU,map_map->BW,getElem_of_mem->BZ,flatMap_map->B4,all_cons->B6,nodup_cons->Cf,replicate_succ->Cg,filterMap_map->Cm,length->Cq,flatMap_eq_nil_iff->CA,map_congr_left->CC,map_eq_nil_iff->CD,countP_cons->CH,mem_filterMap->CK,nil_append->CQ,getElem?_toArray->CT,find?_cons->CU,any_cons->CZ,flatten_cons->C1,pairwise_map->C4,getElem?_eq_none_iff->C6,length_take->Dj,length_drop->Dk,length_pos_iff->Dp,forIn_cons->Dv,range_succ->Dx,eq_nil_iff_forall_not_mem->Dy,range_succ_eq_map->DB,forIn_nil->DF,getElem?_eq_none->DI,filter_cons->DT,getElem?_range->D3,flatMap_append->D4,filter_flatMap->D5,drop_eq_getElem_cons->D7,mem_or_eq_of_mem_set->D8,foldl->Ei,pairwise_lt_range->En,sum_cons->Eu,length_replicate->EA,pairwise_flatMap->EE,length_filter_le->EF,set_append_right->EH,set_getElem_self->EI,count_cons_of_ne->EJ,count_cons->EM,filter_map->ES,drop_zero->EZ,filter_filter->Fh,set_comm->Fo,take_sublist->FC,nodup_append->FJ,foldl_append->FK,pairwise_iff_getElem->FP,exists_mem_of_ne_nil->FR,getElem?_take_of_lt->FV,map_nil->FY,cons_append->FZ,length_filterMap_le->F2,nodup_range->F3,zipIdx_cons->F6,map->F8,flatMap->F9,map_flatMap->Gb,set_set->Gd,getElem?_replicate->Gg,of_mem_zip->Gs,zipIdx_nil->Gv
open List.Pairwise renaming imp->El,nil->FF
open Nat renaming le_refl->Ac,ne_of_lt->Ax,le_trans->AB,lt_of_lt_of_le->AI,zero_le->A3,lt_irrefl->Bp,mul_comm->Br,le_div_iff_mul_le->Bz,mul_le_mul_right->BG,lt_succ_of_lt->BY,div_le_self->Cu,sub_self->Cv,lt_succ_self->CI,mul_le_mul->Dh,succ_mul->Dm,zero_add->Dn,le_succ->DA,ne_of_gt->DE,sub_zero->DG,le_of_eq->DJ,zero_mul->DL,min_le_right->DO,le_add_right->DQ,pow_le_pow_right->DU,lt_of_sub_eq_succ->EC,lt_iff_add_one_le->EG,mul_le_mul_left->EW,add_sub_cancel->Ff,add_zero->Ge,pow_succ->Gf
open Ne renaming symm->BP
open Option renaming none->dS,map_eq_some_iff->Au,bind_eq_some_iff->B9,map_some->D6,isNone_iff_eq_none->FQ,isSome_iff_exists->FU,getD_none->FW,getD_some->F5
open Option.some renaming inj->Am,injEq->Fx
open Prod renaming ext->EX
open PyProof renaming noPylong_small->Em
open PyProof.Rows renaming slot_tuple_getitem->AZ,callWith_type1->Cc,assignInOrder_cons->CM,boot_sorted->Eg,tupleItemsOf_->Er,subscriptTail->Es,boot_min->ED,entry_tuple_getitem->EU,args_tuple_getitem->E7,assignInOrder_nil->FA,Subscript_->FO,boot_tuple->Gj
open PySem renaming wpAny_bind->dr,wpAny_pure->Af,sizeLine->Ar,starEach->AQ,mainGlobals->AW,Spec->AY,foldedSetIterable->A0,compareOp->A8,wpAny_field->A9,wpAny_newObj_type->Bm,sliceBounds->BA,wpAny_callSpecial?_slot->BC,binaryOp->BI,sysModules->BN,letOwnedTupleGo->BQ,sizeLine_eq->BR,treeTable->BV,wpAny_loadPart'->B0,wpAny_pyIter_tuple->B1,wpAny_call_entry->B3,swappedStores->B5,call_meets->B8,wpAny_truthy_bool->Cb,wpAny_seqItems->Co,wpAny_setField_rec->Cp,wpAny_holding->Cw,mem_of_lookup->CB,bootBuiltins->CL,wpAny_passesOwn->CP,FuncData->CV,wpAny_standAt->CW,wpAny_mono->C7,assignEach->C8,wpAny_rule->C9,wpAny_binaryOp_repeat_ref->Dc,cellsFrom->De,typeIs_int->Ds,wpAny_pyIter_list->DC,bindName->DN,attributeBase->DY,swapsWith->Ea,inplaceOp->Eb,wpAny_Call_Name_kw->Ec,compTurn->Ee,wpAny_bindName->Eh,wpAny_pyIter_enum->Ek,assignInOrder->Eo,swapsWithSole->Ep,wpAny_onRaise->Et,noFill_tuple_add->Ew,wpAny_typeOf->EK,wpAny_updateSeq_pair->EN,NameKind->EY,constantsAlone->E3,PassesOwn->E5,tupleKind_room_in1->Fe,seq_tuple_add->Fp,Comprehension->Fq,wpAny_letOwnedTupleGo_enum->Ft,foldedForSure->Fu,wpAny_sequenceKey->FD,slot_list_getitem->FE,wpAny_eqBool_int->FT,wpAny_getItem_list_slice->FX,wpAny_comprehension_free->F0,wpAny_pyNext_enum_itemD->Gi,DictEntry->Gk,importedModules->Gm,tupleKind->Gp,wpAny_execs_nil->Gr,subscripted->Gx,wpAny_letGo->Gy,newFunctionEnv->GF,wpAny_setField->GG,behindInMarks->GO,wpAny_attempt->GQ,lastMarks->GU,slicePick->GV
open PySem.AutoSeq1 renaming idx_int->F1
open PySem.Builtin.List renaming listTooLong->Ed
open PySem.Builtin.Range renaming rangeSize->Cz
open PySem.Builtin.Slice renaming sliceAdjust->Bu,slicePlaces->BM,sliceApplied->CY,sliceFields->FN
open PySem.Builtin.SmallTypes renaming nextOf->Bi,ownedTupleIsFree->Bo,ownedTupleHandOut->Ef
open PySem.Builtin.Tuple renaming tupleExact->Bw,tupleItemsOf->DX,tupleTooMany->DZ,tupleIsExact->Fs
open PySem.Calls renaming Name_function_global->Fm
open PySem.Data renaming fields->E4,cell->E6,seq->GK
open PySem.Expr renaming Name->EB,Attribute->GB,Subscript->GC,Constant->GP
open PySem.Expr.Compare renaming elim->FG
open PySem.Expr.ListComp renaming elim->E9
open PySem.Expr.Tuple renaming elim->Gu
open PySem.F renaming args_tuple_add_2->B2,entry_tuple_add->Ca,slot_tuple_add->Cj,slot_int_rmul->Cr,slot_tuple_iterator_next->C0,slot_zip_next->Dw,slot_tuple_mul->DP,args_int_rmul_2->Ej,slot_int_index->Ey,entry_int_rmul->Ez,fills_int_mul->EL,args_tuple_iterator_next_1->E1,args_tuple_mul_2->Fc,entry_tuple_iterator_next->Fd,entry_tuple_mul->FH,args_zip_next_1->FI,entry_zip_next->F7,plainAttrs_list->Gh
open PySem.Flow renaming next->GS
open PySem.Heap renaming get?_push_of_some->zO,lt_size->Aj,get?_push_size->As,size_push->Be,SameBut->D9,get?_update_ne->EV
open PySem.Heap.IsSliceOf renaming new->E8
open PySem.NameKind renaming free->AX,cell->Bq
open PySem.Obj renaming mapSeq->Ck
open PySem.Paired renaming length->Fj
open PySem.PyData renaming eqv->Ct,canLay0->GH
open PySem.SeqAt renaming EqAt->Bh
open PySem.Stmt renaming AugAssign->GD
open PySem.Str renaming ofString->Dl
open PySem.Value renaming ref->A4,none->B7,int->Dd,bool->DM,type->FL,str->Gn
open PySem.Value.type renaming inj->DH
open PySem.W renaming Frag->Ay,nsIn->BD,behindTheImports->BH,kia_one->BS,fnOf->Ci,codeIn->CF,keepIn->CG,topFrame->Dz,mg_of->D0,tabObj->E2,recOk->Fi,methodObj->Fy,instObj->Gq,lookIn->Gz,kitOne->GA,piecesOf->GI,fencedOpening->GN
open PySem.Walks renaming list->GJ
open Sum renaming inr->Dg,inl->Dq
open True renaming intro->A5
section
namespace Hd
open PySem
inductive G where
 |a (i:Int)|c (x:Str)|b (ns:List Int)
noncomputable def args(s:Stmt):Arguments:=match s with
 |.FunctionDef _ a _ _ _ _ _ _ _ _=>a
 |_=>{posonlyargs:=[],args:=[],vararg:=none,kwonlyargs:=[],kw_defaults:=[],kwarg:=none,defaults:=[]}
noncomputable def body(s:Stmt):List Stmt:=match s with
 |.FunctionDef _ _ b _ _ _ _ _ _ _=>b
 |_=>[]
noncomputable def scope(s:Stmt):Scope:=match s with
 |.FunctionDef _ _ _ _ _ _ sc _ _ _=>sc
 |_=>{kind:=.function,names:=[],isGenerator:=false,isCoroutine:=false}
noncomputable def posOf(s:Stmt):Pos:=match s with
 |.FunctionDef _ _ _ _ _ _ _ _ _ p=>p
 |_=>⟨0,0,0,0⟩
def Uk(x:Str)(st:Stmt):DefRec:=⟨x,args st,body st,scope st,posOf st⟩
noncomputable def Ob:List Str:=["len","all","any","tuple","list","sorted","repr","max","min","sum","int","isinstance","divmod","str","bool","dict","set","range","enumerate","zip"]
noncomputable def kX:List Value->Option (List Int)
 |[]=>some []
 |.int i _::r=>(kX r).map (i::·)
 |_=>none
noncomputable def nsH(h:Heap)(x:Str):Option (Option Value):=match h.get? AW with
 |some o=>BD [(AW,o)] AW x
 |none=>none
noncomputable def R8(fd:CV):CV:={fd with kwdefaults:=.none,doc:=.none,pyModule:=.none,annotations:=none,code:=.none,closureTuple:=.none}
noncomputable def sF(o:Obj):Bool:=(match o.cls with|.none=>true|_=>false)&&(match o.data with|.fields _=>true|_=>false)
def aP(h:Heap)(cd:Value)(x:Str):Bool:=match cd with
 |.ref c=>(match h.get? c with
  |some o=>!sF o&&CF [(c,o)] (.ref c) x
  |none=>false)
 |_=>false
def Wg(h:Heap)(x:Str):Option CV:=match nsH h x with
 |some (some (.ref f))=>(match h.get? f with
  |some ⟨_,_,.func fd,_⟩=>if aP h fd.code x then some (R8 fd) else none
  |_=>none)
 |_=>none
def Vp(p:Str × Stmt):Option CV:=some (Ci p.1 p.1 (args p.2) (body p.2) (scope p.2) .none .none .none .none none .none .none)
def glB(h:Heap)(x:Str):G->Bool
 |.a i=>(match nsH h x with|some (some (.int j _))=>decide (i=j)|_=>false)
 |.c y=>(match nsH h x with|some (some (.str z _))=>decide (y=z)|_=>false)
 |.b ns=>(match nsH h x with
  |some (some (.ref a))=>(match h.get? a with
   |some ⟨.type n,_,.seq us _,_⟩=>decide (n="tuple")&&decide (us.toList.length<=1000)&&decide (kX us.toList=some ns)
   |_=>false)
  |_=>false)
def blB(h:Heap)(x:Str):Bool:=match nsH h x with|some none=>true|_=>false
def Z0(D:List (Str × Stmt))(gl:List (Str × G))(s:Shared):List (Option CV) × Bool:=(D.map λp=>Wg s.heap p.1,gl.all (λp=>glB s.heap p.1 p.2)&&Ob.all λx=>blB s.heap x)
def XO(D:List (Str × Stmt)):List (Option CV) × Bool:=(D.map Vp,true)
end Hd
end
section
namespace Hd
open PySem PySem.W
noncomputable def hsh(w:World)(x:Str):Int:=reduceHash (w.params.strHash x.cps)
def ent(w:World)(x:Str)(t:Tok)(v:Value):Gk:=⟨hsh w x,.str x t,v⟩
def Xn(w:World)(n:Nat)(t:Tok)(b:Addr)(md:Value)(x:Str)(l:Int):List Obj:=
 [{cls:=.type "tuple",data:=.seq #[.ref b]},
  {cls:=.type "builtin_function_or_method",data:=.fields #[.builtin "type.__prepare__",.type "type"]},
  {cls:=.type "dict",data:=.dict #[ent w "__module__" (t+7) md,ent w "__qualname__" (t+9) (.str x (t+8)),ent w "__firstlineno__" (t+11) (.int l (t+10)),ent w "__static_attributes__" (t+12) (.ref (n+7))] 4},
  {cls:=.type "tuple",data:=.seq #[]},
  {cls:=.none,data:=.fields #[]},
  {cls:=.type "code",data:=.fields #[.str x (t+2),.str x (t+3),.str "/claim/cut.py" (t+4),.int l 0,.int 0 0,.int 0 0,.int 0 0,.int 0 0,.ref (n+3),.bool false,.int 181 0,.ref (n+4),.none,.none,.none,.none,.int (t+5) 0,.int l 0,.str "/claim/cut.py" (t+6)]},
  {cls:=.type "frame",data:=.plain,slots:=#[some (.ref (n+5)),some (.ref 3),some (.ref (n+2)),none,some md,none,some (.ref 0)]},
  {cls:=.type "tuple",data:=.seq #[]},
  {cls:=.type "dict",data:=.dict #[ent w "__module__" (t+7) md,ent w "__firstlineno__" (t+11) (.int l (t+10)),ent w "__static_attributes__" (t+12) (.ref (n+7)),ent w "__doc__" (t+13) .none] 2},
  {cls:=.type "type",data:=.cls {name:=x,bases:=[.ref b],mro:=[.ref (n+9),.ref b,.type "ValueError",.type "Exception",.type "BaseException",.type "object"],ns:=n+8,qualname:=x},slots:=#[some (.ref n),none,some (.str x t),some (.str x (t+8)),some (.builtin "ValueError.__new__"),some (.bool true)]},
  {cls:=.type "super",data:=.fields #[.ref (n+9),.ref (n+9),.ref (n+9)]},
  {cls:=.type "builtin_function_or_method",data:=.fields #[.builtin "object.__init_subclass__",.ref (n+9)]}]
def aN(w:World)(b:Addr)(md:Value):Nat->Nat->List (Str × Int)->List Obj
 |_,_,[]=>[]
 |n,t,c::cs=>Xn w n t b md c.1 c.2++aN w b md (n+12) (t+16) cs
def aw(w:World):Nat->Nat->List (Str × Int)->List Gk
 |_,_,[]=>[]
 |n,t,c::cs=>ent w c.1 (t+15) (.ref (n+9))::aw w (n+12) (t+16) cs
noncomputable def aO:Nat->List (Str × Int)->List Value
 |_,[]=>[]
 |n,c::cs=>.int c.2 0::.int 0 0::.ref (n+5)::aO (n+12) cs
noncomputable def Y8:Nat->List (Str × Int)->List Value
 |_,[]=>[]
 |n,_::cs=>.ref (n+9)::Y8 (n+12) cs
noncomputable def NJ(es':List Gk):Obj->Obj
 |⟨c,d,.dict es n,s⟩=>⟨c,d,.dict ⟨es.toList++es'⟩ (n+es'.length),s⟩
 |o=>o
noncomputable def NL(vs':List Value):Obj->Obj
 |⟨c,d,.fields vs,s⟩=>⟨c,d,.fields ⟨vs.toList++vs'⟩,s⟩
 |o=>o
noncomputable def NK(vs':List Value):Obj->Obj
 |⟨c,d,.cls k,s⟩=>⟨c,d,.cls {k with subclasses:=k.subclasses++vs'},s⟩
 |o=>o
noncomputable def atL(f:Obj->Obj):Nat->List Obj->List Obj
 |_,[]=>[]
 |0,o::os=>f o::os
 |n+1,o::os=>o::atL f n os
noncomputable def aX(st:Stmt):Stmt:=match st with
 |.ClassDef _ _ _ b _ _ _ _ _ _ _=>b.getD 0 st
 |_=>st
def Rn(w:World)(n:Nat)(t:Tok)(b:Addr)(md:Value)(st:Stmt)(l:Int):List Obj:=
 let x:Str:="TooGreat";let f:CV:={name:="__init__",qualname:="TooGreat.__init__",params:=args (aX st),body:=.stmts (body (aX st)),scope:=scope (aX st),globals:=0,closure:=[],defaults:=.none,kwdefaults:=.none}
 [{cls:=.type "tuple",data:=.seq #[.ref b]},
  {cls:=.type "builtin_function_or_method",data:=.fields #[.builtin "type.__prepare__",.type "type"]},
  {cls:=.type "dict",data:=.dict #[ent w "__module__" (t+7) md,ent w "__qualname__" (t+9) (.str x (t+8)),ent w "__firstlineno__" (t+11) (.int l (t+10)),ent w "__init__" (t+20) (.ref (n+13)),ent w "__static_attributes__" (t+23) (.ref (n+14))] 5},
  {cls:=.type "tuple",data:=.seq #[]},
  {cls:=.none,data:=.fields #[.int (l+2) 0,.int 4 0,.ref (n+12)]},
  {cls:=.type "code",data:=.fields #[.str x (t+2),.str x (t+3),.str "/claim/cut.py" (t+4),.int l 0,.int 0 0,.int 0 0,.int 0 0,.int 0 0,.ref (n+3),.bool false,.int 181 0,.ref (n+4),.none,.none,.none,.none,.int (t+5) 0,.int l 0,.str "/claim/cut.py" (t+6)]},
  {cls:=.type "frame",data:=.plain,slots:=#[some (.ref (n+5)),some (.ref 3),some (.ref (n+2)),none,some md,none,some (.ref 0)]},
  {cls:=.type "tuple",data:=.seq #[]},
  {cls:=.none,data:=.fields #[]},
  {cls:=.type "tuple",data:=.seq #[.str "self" (t+15),.str "many" (t+16),.str "most" (t+17)]},
  {cls:=.type "tuple",data:=.seq #[]},
  {cls:=.none,data:=.func f},
  {cls:=.type "code",data:=.fields #[.str "__init__" (t+12),.str "TooGreat.__init__" (t+13),.str "/claim/cut.py" (t+14),.int (l+2) 0,.int 3 0,.int 0 0,.int 0 0,.int 3 0,.ref (n+7),.bool true,.int 181 0,.ref (n+8),.none,.ref (n+9),.ref (n+10),.ref (n+11),.int (t+18) 0,.int (l+2) 0,.str "/claim/cut.py" (t+19)]},
  {cls:=.type "function",data:=.func {f with globals:=3,pyModule:=md,code:=.ref (n+12)}},
  {cls:=.type "tuple",data:=.seq #[.str "many" (t+21),.str "most" (t+22)]},
  {cls:=.type "dict",data:=.dict #[ent w "__module__" (t+7) md,ent w "__firstlineno__" (t+11) (.int l (t+10)),ent w "__init__" (t+20) (.ref (n+13)),ent w "__static_attributes__" (t+23) (.ref (n+14)),ent w "__doc__" (t+24) .none] 2},
  {cls:=.type "type",data:=.cls {name:=x,bases:=[.ref b],mro:=[.ref (n+16),.ref b,.type "ValueError",.type "Exception",.type "BaseException",.type "object"],ns:=n+15,qualname:=x},slots:=#[some (.ref n),none,some (.str x t),some (.str x (t+8)),some (.builtin "ValueError.__new__"),some (.bool true)]},
  {cls:=.type "super",data:=.fields #[.ref (n+16),.ref (n+16),.ref (n+16)]},
  {cls:=.type "builtin_function_or_method",data:=.fields #[.builtin "object.__init_subclass__",.ref (n+16)]}]
def tgF(w:World)(n t:Nat)(b:Addr)(md:Value)(cs:List (Str × Int))(st:Stmt)(l:Int)(s:Shared):Shared:=
 let m:=n+12*cs.length;let u:=t+16*cs.length
 {s with toks:=u+27,heap:={s.heap with objs:=⟨atL (NJ (aw w n t cs++[ent w "TooGreat" (u+26) (.ref (m+16))])) 3 (atL (NL (aO n cs++[.int l 0,.int 0 0,.ref (m+5)])) 12 (atL (NK (Y8 n cs++[.ref (m+16)])) b s.heap.objs.toList))++(aN w b md n t cs++Rn w m u b md st l)⟩}}
noncomputable def ow(p:Program):Env:={scope:=p.main.scope,locals:=mainNs,globals:=mainNs,cells:=[],code:=.ref 13,frame:=some 14}
noncomputable def mj:Option Value:=some (.ref 6)
noncomputable def S0(p:Program)(w:World):Shared:=(GN BV p w 100000).getD (start (opening p)).1
def SA(p:Program)(w:World):Shared:=((topGo BV p w 11 mj 12 (S0 p w) (topStub p)).map Prod.fst).getD (S0 p w)
noncomputable def Bd(p:Program)(k:Nat):List Stmt:=(BH p).take 2++(((BH p).drop 2).take k++(BH p).drop (2+k))
def Cd(p:Program)(k:Nat):Code:=.body (Bd p k) (ow p)
def S1(p:Program)(k:Nat)(w:World):Shared:=((segRun BV p w 11 mj 1 1000 (SA p w) (GI ((BH p).take 2) (ow p) (Cd p k) default [Dz default])).map λr=>r.2.1).getD (SA p w)
noncomputable def RJ(l:Nat):Pos:=⟨l,0,l+1,8⟩
noncomputable def RK(l:Nat):Pos:=⟨l,0,l+5,24⟩
def S3(p:Program)(cs:List (Str × Int))(l:Nat)(w:World):Shared:=tgF w 28 207 24 (.str "evenhues.errors" 187) cs ((BH p).getD (2+cs.length) (.Pass ⟨0,0,0,0⟩)) l (S1 p (cs.length+1) w)
noncomputable def Xm(p:Program)(h:Heap)(z:Shared):Bool:=staticsOk (Gm p.main.body) h z.heap&&namesBound p z.heap&&gensDone z&&laidKept h z.heap
def chk(p:Program)(h:Heap)(z:Shared):Option Shared:=match Xm p h z with
 |true=>some z
 |false=>none
def d3{Yf}{Ya:World->α}{T0 TA T1 T2:World->Shared}
 (hc:cd=.body (l1++(l2++l3)) env)
 (h0:∀w,GN BV p w N=some (T0 w))
 (h1:∀w,((T0 w).heap.isNs AW&&(T0 w).gens.size == 0,(T0 w).heap.objs.size,(T0 w).heap.nsMap AW "__annotations__")=(true,m,ann))
 (hA:∀w,topGo BV p w m ann k0 (T0 w) (topStub p)=some (TA w,⟨denote BV (.body (l1++(l2++l3)) env),cd,b0,[Dz qq]⟩))
 (hB:∀w,segRun BV p w m ann 1 1 (TA w) (blockOf (l1++(l2++l3)) env cd b0 [Dz qq])=some (.next,TA w,cd,b0))
 (hC:∀w,segRun BV p w m ann 1 n1 (TA w) (GI l1 env cd b0 [Dz qq])=some (.next,T1 w,cd,b1))
 (hD:∀w,segRun BV p w m ann 1 n2 (T1 w) (GI l2 env cd b1 [Dz qq])=some (.next,T2 w,cd,b2))
 (hE:∀w,((topRun BV p w m ann n3 (T2 w) (restOf l3 env cd b2 [Dz qq])).bind (chk p (T0 w).heap)).map (λz=>(openSeen q loose (Gm p.main.body) Xt true z,Yf z))=some (openGood q loose,Ya w))
 (le:Nat.ble (k0+(1+(n1+(n2+n3)))) N=true):LeftO p q loose Xt Yf Ya N:=λw=>by
 have hs:=h1 w;simp only[Prod.mk.injEq]at hs;obtain⟨r,k1,k2⟩:=Au.mp (hE w);obtain⟨r',k3,k4⟩:=B9.mp k1;have go:=topRun_mono (N-(k0+(1+(n1+(n2+n3))))) _ _ _ _ (go_top (hA w) (piece_block (hB w) (piece_app (hC w) (piece_app (hD w) k3))));rw[Nat.add_sub_cancel' (Nat.le_of_ble_eq_true le)]at go;have tf:topFrom BV p w N (T0 w)=some r:=by unfold topFrom;rw[hs.1,hs.2.1,hs.2.2];dsimp only;rw[go];unfold chk Xm at k4;exact k4
 unfold openEnds;rw[h0 w,Option.bind_some,tf];exact congrArg some k2
def QW{α β γ δ ε ζ η κ:Type}{o:Option Shared}{f:Shared->α × β × γ × δ × ε × ζ × η}{g:Shared->κ}{a}{b}{c}{d}{e}{i}{j}{u}(h0:o.map (λz=>(f z).1)=some a)(h1:o.map (λz=>((f z).2.1,(f z).2.2.1))=some (b,c))(h2:o.map (λz=>(f z).2.2.2.1)=some d)(h5:o.map (λz=>((f z).2.2.2.2.1,(f z).2.2.2.2.2.1))=some (e,i))(h3:o.map (λz=>(f z).2.2.2.2.2.2)=some j)(h4:o.map (λz=>(g z,Xm p h z))=some (u,true)):(o.bind (chk p h)).map (λz=>(f z,g z))=some ((a,b,c,d,e,i,j),u):=by
 cases o with
 |none=>cases h4
 |some z=>
  simp only[D6,Fx,Prod.mk.injEq]at h0 h1 h2 h3 h4 h5;have e1:chk p h z=some z:=by unfold chk;rw[h4.2]
  rw[Option.bind_some,e1,<-h0,<-h1.1,<-h1.2,<-h2,<-h5.1,<-h5.2,<-h3,<-h4.1];rfl
end Hd
end
section
set_option maxHeartbeats 0
open PySem PySem.W PyProof.Rows
namespace P36
noncomputable def top(i:Nat):Stmt:=PySem.Challenge.pw_evenhues_k36_whole_papers.main.body.getD i (.Pass ⟨0,0,0,0⟩)
def D:List (Str × Stmt):=(("is_whole":Str),top 13)::(("are_wholes":Str),top 14)::(("need_whole":Str),top 15)::(("need_size":Str),top 16)::(("need_length":Str),top 17)::(("most_step":Str),top 19)::(("rows_at":Str),top 20)::(("is_strip":Str),top 23)::(("need_strip":Str),top 24)::(("is_one_hue":Str),top 26)::(("are_sizes":Str),top 28)::(("need_sizes":Str),top 29)::(("fits":Str),top 30)::(("first_wrong":Str),top 31)::(("first_hue_wrong":Str),top 32)::(("first_row_wrong":Str),top 33)::(("is_draft":Str),top 36)::(("need_draft":Str),top 37)::(("is_blank":Str),top 38)::(("blanks_of":Str),top 39)::(("clean":Str),top 40)::(("with_hue":Str),top 41)::(("barring_rows":Str),top 42)::(("unbarred":Str),top 43)::(("ways_many":Str),top 46)::(("need_few_ways":Str),top 47)::(("keeps":Str),top 48)::(("is_filling":Str),top 49)::(("all_fillings":Str),top 50)::(("fillings_many":Str),top 51)::(("first_filling":Str),top 52)::(("is_paper":Str),top 56)::(("shows":Str),top 57)::(("is_wrong_row":Str),top 58)::(("are_cases":Str),top 59)::(("row_paper":Str),top 60)::(("paper_for":Str),top 61)::(("cases_paper":Str),top 62)::(("need_paper":Str),top 63)::(("leaves":Str),top 64)::(("leaves_within":Str),top 65)::(("depth":Str),top 66)::(("depth_within":Str),top 67)::(("cost_of_row":Str),top 70)::(("cost_of_cases":Str),top 71)::(("least_pair":Str),top 72)::(("found_pair":Str),top 73)::(("pair_at":Str),top 74)::(("least_pair_of":Str),top 75)::(("least_leaves":Str),top 76)::(("least_depth":Str),top 77)::(("short_paper":Str),top 78)::(("first_forced":Str),top 80)::(("run":Str),top 81)::(("_law_cell_at":Str),top 83)::(("_law_pen":Str),top 84)::(("_law_draw":Str),top 85)::(("_law_few":Str),top 86)::(("_law_ended":Str),top 87)::(("_law_knot":Str),top 88)::(("_law_paper_right":Str),top 89)::(("law":Str),top 90)::[]
noncomputable def gl:List (Str × Hd.G):=[("MOST_PLACES",.a 40),("LEAST_SIZE",.a 2),("MOST_SIZE",.a 8),("HUES",.b [0,1,2,3]),("BLANK",.a (-1)),("MOST_WAYS",.a 512),("ROW",.c "row"),("CASES",.c "cases"),("MOST_WAYS_OF_LEAST",.a 32)]
def q:Program:={PySem.Challenge.pw_evenhues_k36_whole_papers with main:={PySem.Challenge.pw_evenhues_k36_whole_papers.main with body:=[1,2,3,4,5,6,7,8,10,11,12,13,14,15,16,17,19,20,22,23,24,26,28,29,30,31,32,33,35,36,37,38,39,40,41,42,43,45,46,47,48,49,50,51,52,54,55,56,57,58,59,60,61,62,63,64,65,66,67,69,70,71,72,73,74,75,76,77,78,80,81,83,84,85,86,87,88,89,90].map top}}
def dd:DefRec:=Hd.Uk "law" (top 90)
noncomputable abbrev pr:Program:=PySem.Challenge.rw_evenhues_k36_whole_papers.row.prog
noncomputable def Ui:List (Str × Int):=[("NoStrip",4),("NoSizes",6),("NoNumber",8),("NoPlace",10),("NoDraft",12),("NoPaper",14)]
def Fz(w:World):Option Shared:=topRun BV pr w 11 Hd.mj 50000 (Hd.S3 pr Ui 16 w) (restOf ((BH pr).drop 9) (Hd.ow pr) (Hd.Cd pr 7) (Hd.RK 16) [Dz default])
def Sn(z:Shared):=openSeen q [] (Gm pr.main.body) (λs=>Fi PySem.Challenge.rw_evenhues_k36_whole_papers.row.records s) true z
def e0:∀w,(Fz w).map (λz=>(Sn z).1)=some (expectedOf q):=by
 intro w
 kernel_rfl
def e1:∀w,(Fz w).map (λz=>((Sn z).2.1,(Sn z).2.2.1))=some (bltViewBooted,true):=by
 intro w
 kernel_rfl
def e2:∀w,(Fz w).map (λz=>(Sn z).2.2.2.1)=some true:=by
 intro w
 kernel_rfl
def e6:∀w,(Fz w).map (λz=>((Sn z).2.2.2.2.1,(Sn z).2.2.2.2.2.1))=some (pinGoodD (drecsOf q),plainGoodE q (looseW q [])):=by
 intro w
 kernel_rfl
def e3:∀w,(Fz w).map (λz=>(Sn z).2.2.2.2.2.2)=some (plainGoodD q [],wideGood q,clsGoodW q []):=by
 intro w
 kernel_rfl
def e4:∀w,(Fz w).map (λz=>(Hd.Z0 D gl z,Hd.Xm pr (Hd.S0 pr w).heap z))=some (Hd.XO D,true):=by
 intro w
 kernel_rfl
def h0:∀w,GN BV pr w 100000=some (Hd.S0 pr w):=by
 intro w
 kernel_rfl
def h1:∀w,((Hd.S0 pr w).heap.isNs AW&&(Hd.S0 pr w).gens.size == 0,(Hd.S0 pr w).heap.objs.size,(Hd.S0 pr w).heap.nsMap AW "__annotations__")=(true,11,Hd.mj):=by
 intro w
 kernel_rfl
def hA:∀w,topGo BV pr w 11 Hd.mj 12 (Hd.S0 pr w) (topStub pr)=some (Hd.SA pr w,⟨denote BV (.body (Hd.Bd pr 7) (Hd.ow pr)),Hd.Cd pr 7,default,[Dz default]⟩):=by
 intro w
 kernel_rfl
def hB:∀w,segRun BV pr w 11 Hd.mj 1 1 (Hd.SA pr w) (blockOf (Hd.Bd pr 7) (Hd.ow pr) (Hd.Cd pr 7) default [Dz default])=some (.next,Hd.SA pr w,Hd.Cd pr 7,default):=by
 intro w
 kernel_rfl
def hC:∀w,segRun BV pr w 11 Hd.mj 1 1000 (Hd.SA pr w) (GI ((BH pr).take 2) (Hd.ow pr) (Hd.Cd pr 7) default [Dz default])=some (.next,Hd.S1 pr 7 w,Hd.Cd pr 7,Hd.RJ 2):=by
 intro w
 kernel_rfl
def hD:∀w,segRun BV pr w 11 Hd.mj 1 20000 (Hd.S1 pr 7 w) (GI (((BH pr).drop 2).take 7) (Hd.ow pr) (Hd.Cd pr 7) (Hd.RJ 2) [Dz default])=some (.next,Hd.S3 pr Ui 16 w,Hd.Cd pr 7,(Hd.RK 16)):=by
 intro w
 kernel_rfl
def hE:∀w,((Fz w).bind (Hd.chk pr (Hd.S0 pr w).heap)).map (λz=>(Sn z,Hd.Z0 D gl z))=some (openGood q [],Hd.XO D):=λw=>Hd.QW (e0 w) (e1 w) (e2 w) (e6 w) (e3 w) (e4 w)
def left:PySem.W.LeftO pr q [] (λs=>Fi PySem.Challenge.rw_evenhues_k36_whole_papers.row.records s) (Hd.Z0 D gl) (λ_=>Hd.XO D) 100000:=
 Hd.d3 (p:=pr) (T0:=Hd.S0 pr) (TA:=Hd.SA pr) (T1:=Hd.S1 pr 7) (T2:=Hd.S3 pr Ui 16) (N:=100000) (m:=11) (k0:=12) (n1:=1000) (n2:=20000) (n3:=50000) (ann:=Hd.mj) (env:=Hd.ow pr) (l1:=(BH pr).take 2) (l2:=((BH pr).drop 2).take 7) (l3:=(BH pr).drop 9) (cd:=Hd.Cd pr 7) (b0:=default) (b1:=Hd.RJ 2) (b2:=(Hd.RK 16)) (qq:=default) rfl h0 h1 hA hB hC hD hE (by decide +kernel)
def Ra:PySem.Challenge.rw_evenhues_k36_whole_papers.wellSaid=true:=by kernel_rfl
def U1:PySem.W.defOf q PySem.Challenge.rw_evenhues_k36_whole_papers.row.name=some (dd,[]):=by kernel_rfl
def hp:PySem.Challenge.rw_evenhues_k36_whole_papers.row.prog.theDef PySem.Challenge.rw_evenhues_k36_whole_papers.row.name=some (dd.params,dd.body,dd.scope):=by kernel_rfl
def hk:PySem.W.kwWritten? dd.params.kwonlyargs dd.params.kw_defaults=some []:=by kernel_rfl
def hwr:(!PySem.Challenge.rw_evenhues_k36_whole_papers.row.writes||PySem.Challenge.rw_evenhues_k36_whole_papers.row.records.isEmpty)=true:=by kernel_rfl
def ok:(PySem.W.chainsOk q&&PySem.W.opensWell PySem.Challenge.rw_evenhues_k36_whole_papers.row.prog&&(PySem.W.frees PySem.Challenge.rw_evenhues_k36_whole_papers.row.toRowW&&PySem.Challenge.rw_evenhues_k36_whole_papers.row.within.isEmpty))=true:=by kernel_rfl
def hdf:dd.params.defaults=[]:=by kernel_rfl
theorem bare:PySem.Challenge.rw_evenhues_k36_whole_papers.row.prog.bare:=⟨rfl,rfl,rfl,rfl,rfl,by decide +kernel⟩
def hw:PySem.Challenge.rw_evenhues_k36_whole_papers.row.toRowW.promised:=by w_witness2
end P36
end
section
namespace L2
open PySem PySem.Spec PyProof.Rows
abbrev Key:=Sum Int Str
noncomputable def ny:Key->Value->Bool
 |.inl k,v=>Value.isInt k v
 |.inr x,v=>Value.isStrOf x v
noncomputable def Oi(w:World):Key->Int
 |.inl k=>hashInt k
 |.inr x=>hashStr w x
def yo:∀{k} {v},ny k v=true->(∃i t,k=Dq i/\v=Dd i t)\/(∃x t,k=Dg x/\v=Gn x t)
 |.inl i,v,h=>by
  obtain⟨t,e⟩:=Value.isInt_shape (k:=i) (v:=v) h;exact .inl ⟨i,t,rfl,e⟩
 |.inr x,v,h=>by obtain⟨t,e⟩:=Value.isStrOf_shape (x:=x) (v:=v) h;exact .inr ⟨x,t,rfl,e⟩
def dv i t:ny (.inl i) (.int i t)=true:=by simp[ny,Value.isInt]
def dw x t:ny (.inr x) (.str x t)=true:=by simp[ny,Value.isStrOf]
def Tz a b:decide ((Dq a:Key)=Dq b)=(a == b):=by
 by_cases e:a=b
 . subst e;simp
 . have h:¬(Dq a:Key)=Dq b:=λq=>e (Dq.inj q)
   rw[decide_eq_false h];exact(beq_eq_false_iff_ne.mpr e).symm
def T6 a b:decide ((Dg a:Key)=Dg b)=decide (a=b):=by
 by_cases e:a=b
 . subst e;simp
 . have h:¬(Dg a:Key)=Dg b:=λq=>e (Dg.inj q)
   rw[decide_eq_false h,decide_eq_false e]
def T4 a b:decide ((Dq a:Key)=Dg b)=false:=decide_eq_false (λq=>nomatch q)
def T5 a b:decide ((Dg a:Key)=Dq b)=false:=decide_eq_false (λq=>nomatch q)
def xY(prog:Program)(w:World):PySem.KeyKind prog w Key where
 is:=ny
 hash:=Oi w
 inj:=λv a b ha hb=>by
  rcases yo ha with⟨i,t,rfl,rfl⟩|⟨x,t,rfl,rfl⟩
  . rcases yo hb with⟨j,u,rfl,e⟩|⟨y,u,rfl,e⟩
    . injection e with e1 _;rw[e1]
    . exact nomatch e
  . rcases yo hb with⟨j,u,rfl,e⟩|⟨y,u,rfl,e⟩
    . exact nomatch e
    . injection e with e1 _;rw[e1]
 byValue:=λk v h=>by
  rcases yo h with⟨i,t,rfl,rfl⟩|⟨x,t,rfl,rfl⟩<;>rfl
 pyHash:=λhv h=>by
  rcases yo hv with⟨i,t,rfl,rfl⟩|⟨x,t,rfl,rfl⟩
  . exact wpAny_pyHash_int h
  . exact wpAny_pyHash_str h
 eqBool:=λhu hv h=>by
  rcases yo hu with⟨i,t,rfl,rfl⟩|⟨x,t,rfl,rfl⟩
  . rcases yo hv with⟨j,u,rfl,rfl⟩|⟨y,u,rfl,rfl⟩
    . rw[Tz]at h;exact FT h
    . rw[T4]at h;exact Bh.int_str i t y u _ _ _ _ h
  . rcases yo hv with⟨j,u,rfl,rfl⟩|⟨y,u,rfl,rfl⟩
    . rw[T5]at h;exact Bh.str_int x t j u _ _ _ _ h
    . rw[T6]at h;exact wpAny_eqBool_str h
 «strs»:=λk x t v h=>by
  rcases yo h with⟨i,u,rfl,e⟩|⟨y,u,rfl,e⟩
  . exact nomatch e
  . injection e with e1 _
    subst e1;cases v<;>rfl
def km prog w i t:(xY prog w).is (.inl i) (.int i t)=true:=dv i t
def kn prog w x t:(xY prog w).is (.inr x) (.str x t)=true:=dw x t
inductive V where
 |g|e (b:Bool)|d (i:Int)|f (x:Str)|h (b:Array UInt8)|j (b:UInt64)|c (a:Addr)|k (n:String)
 deriving DecidableEq
def RelV:V->Value->Prop
 |.g,u=>u=B7
 |.e b,u=>u=DM b
 |.d i,u=>∃t,u=Dd i t
 |.f x,u=>∃t,u=Gn x t
 |.h b,u=>∃t,u=Value.bytes b t
 |.j b,u=>∃t,u=Value.float b t
 |.c a,u=>u=A4 a
 |.k n,u=>u=FL n
abbrev Vals:List V->List Value->Prop:=Paired RelV
theorem Vals.length(r:Vals xs us):xs.length=us.length:=Fj r
theorem Vals.get:∀{xs} {us} {i:Nat} {x},Vals xs us->xs[i]?=some x->∃u,us[i]?=some u/\RelV x u
 |_,_,_,_,.nil,e=>by simp at e
 |_,_,0,_,.cons r _,e=>by simp at e;subst e;exact⟨_,rfl,r⟩
 |_,_,i+1,x,.cons _ t,e=>by
  obtain⟨u,h1,h2⟩:=Vals.get (i:=i) (x:=x) t (by simpa using e)
  exact⟨u,by simpa using h1,h2⟩
theorem Vals.set(r:RelV x u):∀{xs} {us} i,Vals xs us->Vals (xs.set i x) (us.set i u)
 |_,_,_,.nil=>.nil
 |_,_,0,.cons _ t=>.cons r t
 |_,_,i+1,.cons q t=>.cons q (Vals.set r i t)
theorem Vals.append:∀{xs ys} {us ws},Vals xs us->Vals ys ws->Vals (xs++ys) (us++ws)
 |_,_,_,_,.nil,s=>s
 |_,_,_,_,.cons r t,s=>.cons r (Vals.append t s)
theorem Vals.take:∀{xs} {us} n,Vals xs us->Vals (xs.take n) (us.take n)
 |_,_,0,_=>.nil
 |_,_,_+1,.nil=>.nil
 |_,_,n+1,.cons r t=>.cons r (Vals.take n t)
theorem Vals.drop:∀{xs} {us} n,Vals xs us->Vals (xs.drop n) (us.drop n)
 |_,_,0,r=>r
 |_,_,_+1,.nil=>.nil
 |_,_,n+1,.cons _ t=>Vals.drop n t
def Vals.none_of:∀{xs} {us} {i:Nat},Vals xs us->xs[i]?=none->us[i]?=none:=λ{xs us i} r e=>by have h1:=r.length;have h2:xs.length<=i:=C6.mp e;exact C6.mpr ⋯
def pN:Option V->Option Value->Prop
 |some v,some u=>RelV v u
 |none,none=>True
 |_,_=>False
def KV{κ:Type}:List (κ × V)->List (κ × Value)->Prop:=Paired λ(p:κ × V) (q:κ × Value)=>p.1=q.1/\RelV p.2 q.2
noncomputable def kV:Key->V
 |.inl i=>.d i
 |.inr x=>.f x
inductive HO where
 /-- a list -/
 |b (xs:List V)
 /-- a tuple (never changes) -/
 |c (xs:List V)
 /-- a dict whose keys are ints and texts;one whose keys are tuples of ints and texts (the empty one is both) -/
 |d (kvs:List (Key × V))|i (kvs:List (List Key × V))
 /-- a set of ints: its members,its size -/
 |l (S:Int->Bool) (n:Nat)
 /-- an instance of the class at C,its dict at dx,its attributes -/
 |k (C dx:Addr) (fs:List (Str × V))
 /-- the dict of the instance at x -/
 |g (x:Addr)
 /-- the dict of an exception -/
 |r (fs:List (Str × V))
 /-- a bound method,f of x -/
 |p (f x:Addr)
 /-- a range object lo,lo+1,.. below hi -/
 |q (lo hi:Int)
 /-- a thing that is known to the object (the script;a dict while a loop walks it): read,never written while it is so -/
 |j (o:Obj) (u:HO)
 /-- a code object's table -/
 |e (ps:Array Value)
 /-- any other thing,by what is true of its one object (a def of one's own: SetO a S n:=HO.ext λh=>..) -/
 |m (φ:Heap->Prop)
abbrev Hp:=Addr->Option HO
def sj(h:Heap)(a:Addr)(items:Array Value):Prop:=∃o,h.get? a=some o/\o.cls=.type "tuple"/\∃n,o.data=.seq items n/\o.dict=none
def sj.tup{h:Heap}{a:Addr}{items:Array Value}(x:sj h a items):IsTup h a items:=let ⟨o,e,c,n,d,_⟩:=x;⟨o,e,c,n,d⟩
def sj.lt(x:sj h a items):a<h.objs.size:=let ⟨_,e,_⟩:=x;Aj e
def sj.new(h:Heap)items:sj (h.push {cls:=.type "tuple",data:=.seq items}) h.objs.size items:=⟨_,As _ rfl,rfl,_,rfl,rfl⟩
noncomputable def upd(H:Hp)(a:Addr)(o:HO):Hp:=λb=>if b=a then some o else H b
def zt:upd H a o a=some o:=by unfold upd;rw[if_pos rfl]
def zY(h:b≠a):upd H a o b=H b:=by unfold upd;rw[if_neg h]
def wW{H:Hp}(h:H a=some o)(h':H b=some u)(d:o≠u):a≠b:=by intro e;subst e;rw[h]at h';exact d (Am h')
def zp{H:Hp}(h:H a=some o)(h':H b=none):a≠b:=by intro e;subst e;rw[h]at h';cases h'
section
variable (P:Program)(w:World)
def yB(H:Hp)(h:Heap)(a:Addr):HO->Prop
 |.b xs=>xs.length<=Ar/\∃(its:List Value) (n:Nat),Vals xs its/\h.get? a=some {cls:=.type "list",data:=.seq its.toArray n}
 |.c xs=>xs.length<=Ar/\∃its:List Value,Vals xs its/\sj h a its.toArray
 |.d kvs=>kvs.length<=Ar/\(a == BN)=false/\∃vs,KV kvs vs/\h.DictOf (xY P w) a vs
 |.i kvs=>kvs.length<=Ar/\(a == BN)=false/\∃xs:List (List Key × Addr × Value),
  Paired (λ(p:List Key × V) (q:List Key × Addr × Value)=>p.1=q.1/\H q.2.1=some (.c (p.1.map kV))/\RelV p.2 q.2.2) kvs xs /\
  ∃o es ep,h.get? a=some o/\o.ExactDict/\o.data=.dict es ep/\es.toList=xs.map (entryOfKey (Gp (xY P w)))/\(xs.map (·.1)).Nodup
 |.l S n=>h.SetOf (intKind P w) a S n
 |.k C dx fs=>H dx=some (.g a)/\fs.length<=1000/\dx≠a/\h.get? a=some (Gq C dx) /\
  ∃mA,h.Ns1 dx mA/\(∀f,pN (fs.lookup f) (mA f))/\PySem.Within mA (fs.map (·.1))
 |.g _=>∃o,h.get? a=some o
 |.r fs=>∃mA,h.Ns1 a mA/\∀f,pN (fs.lookup f) (mA f)
 |.q lo hi=>∃t u v,h.get? a=some {cls:=.type "range",data:=.fields #[.int lo t,.int hi u,.int 1 v]}
 |.j o u=>h.get? a=some o/\yB H h a u
 |.e ps=>h.get? a=some {cls:=.none,data:=.fields ps}
 |.p f x=>h.get? a=some (Fy (.ref f) (.ref x))
 |.m φ=>φ h/\(∃o,h.get? a=some o)/\∀h1 h2:Heap,φ h1->(∀o,h1.get? a=some o->h2.get? a=some o)->φ h2
def HOk(H:Hp)(h:Heap):Prop:=∀a o,H a=some o->yB P w H h a o
end
section
variable {P:Program}{w:World}{H H':Hp}{h h':Heap}{a:Addr}{o:HO}
theorem yB.lt(x:yB P w H h a o):a<h.objs.size:=by
 cases o with
 |b xs=>obtain⟨_,_,_,_,e⟩:=x;exact Aj e
 |c xs=>obtain⟨_,_,_,p⟩:=x;exact p.lt
 |d kvs=>obtain⟨_,_,_,_,o,_,_,e,_⟩:=x;exact Aj e
 |i kvs=>obtain⟨_,_,_,_,o,_,_,e,_⟩:=x;exact Aj e
 |l S n=>obtain⟨o,_,_,_,e,_⟩:=x;exact Aj e
 |k C dx fs=>obtain⟨_,_,_,e,_⟩:=x;exact Aj e
 |g y=>obtain⟨_,e⟩:=x;exact Aj e
 |r fs=>obtain⟨_,⟨_,_,_,e,_⟩,_⟩:=x;exact Aj e
 |q lo hi=>obtain⟨_,_,_,e⟩:=x;exact Aj e
 |j ob u=>obtain⟨e,_⟩:=x;exact Aj e
 |e ps=>exact Aj (show h.get? a=some _ from x)
 |p f y=>exact Aj (show h.get? a=some _ from x)
 |m φ=>obtain⟨_,⟨_,e⟩,_⟩:=x;exact Aj e
theorem Paired.SF:∀{l₁} {l₂},Paired F l₁ l₂->(∀a b,F a b->G a b)->Paired G l₁ l₂
 |_,_,.nil,_=>.nil
 |_,_,.cons r t,f=>.cons (f _ _ r) (Paired.SF t f)
def yB.lh(x:yB P w H h a o)(k:∀b u,(b=a\/H b=some (.g a))->h.get? b=some u->h'.get? b=some u)
 (ho:∀b,H b=some (.g a)->H' b=some (.g a)) (ht:∀b xs,H b=some (.c xs)->H' b=some (.c xs)):yB P w H' h' a o:=by
 induction o with
 |b xs=>obtain⟨z,its,n,r,e⟩:=x;exact⟨z,its,n,r,k _ _ (.inl rfl) e⟩
 |c xs=>obtain⟨z,its,r,ob,e,c⟩:=x;exact⟨z,its,r,ob,k _ _ (.inl rfl) e,c⟩
 |d kvs=>obtain⟨z,y,vs,r,ob,es,ep,e,c⟩:=x;exact⟨z,y,vs,r,ob,es,ep,k _ _ (.inl rfl) e,c⟩
 |i kvs=>
  obtain⟨z,y,xs,r,ob,es,ep,e,c⟩:=x;exact⟨z,y,xs,Paired.SF r λp q z=>⟨z.1,ht _ _ z.2.1,z.2.2⟩,ob,es,ep,k _ _ (.inl rfl) e,c⟩
 |l S n=>obtain⟨ob,es,ep,t,e,c⟩:=x;exact⟨ob,es,ep,t,k _ _ (.inl rfl) e,c⟩
 |k C dx fs=>
  obtain⟨d,z,ne,e,mA,⟨od,es,ep,e2,c⟩,r⟩:=x;exact⟨ho _ d,z,ne,k _ _ (.inl rfl) e,mA,⟨od,es,ep,k _ _ (.inr d) e2,c⟩,r⟩
 |g y=>obtain⟨ob,e⟩:=x;exact⟨ob,k _ _ (.inl rfl) e⟩
 |r fs=>obtain⟨mA,⟨od,es,ep,e,c⟩,r⟩:=x;exact⟨mA,⟨od,es,ep,k _ _ (.inl rfl) e,c⟩,r⟩
 |q lo hi=>obtain⟨t,u,v,e⟩:=x;exact⟨t,u,v,k _ _ (.inl rfl) e⟩
 |j ob u ih=>obtain⟨e,q⟩:=x;exact⟨k _ _ (.inl rfl) e,ih q⟩
 |e ps=>
  have e:h.get? a=some {cls:=.none,data:=.fields ps}:=x;show h'.get? a=some {cls:=.none,data:=.fields ps};exact k a _ (.inl rfl) e
 |p f y=>
  have e:h.get? a=some (Fy (.ref f) (.ref y)):=x;show h'.get? a=some (Fy (.ref f) (.ref y));exact k a _ (.inl rfl) e
 |m φ=>obtain⟨p,⟨o,e⟩,st⟩:=x;exact⟨st _ _ p λo q=>k _ _ (.inl rfl) q,⟨o,k _ _ (.inl rfl) e⟩,st⟩
theorem HOk.lt(x:HOk P w H h)(e:H a=some o):a<h.objs.size:=(x a o e).lt
def HOk.fresh(x:HOk P w H h)(e:h.objs.size<=a):H a=none:=by
 cases q:H a with
 |none=>rfl
 |some u=>exact absurd (AI (x.lt q) e) (Bp _)
def HOk.kept(x:HOk P w H h)(k:∀b u,h.get? b=some u->h'.get? b=some u):HOk P w H h':=λa o e=>
 (x a o e).lh (λb u _ q=>k b u q) (λ_ q=>q) λ_ _ q=>q
def HOk.laid(x:HOk P w H h)(k:∀b u,h.get? b=some u->h'.get? b=some u)(hp:h.objs.size<=a)(new:yB P w (upd H a o) h' a o):HOk P w (upd H a o) h':=λb u e=>by
 have hn:=x.fresh hp;by_cases hb:b=a
 . subst hb;rw[zt]at e;cases e;exact new
 . rw[zY hb]at e
   exact(x b u e).lh (λc v _ q=>k c v q) (λc q=>by rw[zY (zp q hn)];exact q) λc xs q=>by rw[zY (zp q hn)];exact q
end
def Rd(H:Hp)(a:Addr)(u:HO):Prop:=H a=some u\/∃o,H a=some (.j o u)
def Rd.ok(r:Rd H a u)(x:HOk P w H h):yB P w H h a u:=by
 rcases r with r|⟨o,r⟩
 . exact x a u r
 . obtain⟨_,q⟩:=x a _ r
   exact q
def Mut:Option HO->Prop
 |some (.b _)=>True
 |some (.d _)=>True
 |some (.i _)=>True
 |some (.l _ _)=>True
 |some (.k _ _ _)=>True
 |some (.m _)=>True
 |_=>False
section
variable {P:Program}{w:World}{H:Hp}{h h':Heap}{x e:Addr}{o':HO}
def HOk.write(ok:HOk P w H h)(mu:Mut (H x))(he:e=x\/H e=some (.g x))(k:∀b u,b≠e->h.get? b=some u->h'.get? b=some u)(heo:∃u,h'.get? e=some u)
 (new:yB P w (upd H x o') h' x o'):HOk P w (upd H x o') h':=λb u q=>by
 have nown:∀c y,H c=some (.g y)->c≠x:=λc y r z=>by subst z;rw[r]at mu;exact mu
 have ntup:∀c xs,H c=some (.c xs)->c≠x:=λc xs r z=>by subst z;rw[r]at mu;exact mu
 by_cases hb:b=x
 . subst hb;rw[zt]at q;cases q;exact new
 . rw[zY hb]at q
   by_cases hbe:b=e
   . have q':H b=some (.g x):=by
      rcases he with z|z
      . exact absurd (hbe.trans z) hb
      . rw[hbe];exact z
     rw[q]at q';cases q';obtain⟨v,hv⟩:=heo;exact⟨v,by rw[hbe];exact hv⟩
   . refine(ok b u q).lh (λc v hc r=>k c v ?_ r) (λc r=>by rw[zY (nown c b r)];exact r) λc xs r=>by rw[zY (ntup c xs r)];exact r
     rcases hc with rfl|hc
     . exact hbe
     . rintro rfl
       rcases he with z|z
       . exact nown c b hc z
       . rw[hc]at z;cases z;exact hb rfl
end
structure Un(fs ex:List Addr)(H H':Hp)(h h':Heap):Prop where
 d:∀b o,h.get? b=some o->H b=none->b ∉ fs->b ∉ ex->h'.get? b=some o
 i:∀b o,h.get? b=some o->H b=none->b∈fs->b ∉ ex->∃sl,h'.get? b=some {o with slots:=sl}
 c:∀b o,h.get? b=some o->H b=none->b ∉ ex->H' b=none
 f:∀b o,h.get? b=some o->b ∉ ex->∃o',h'.get? b=some o'
 l:∀b xs,H b=some (.c xs)->H' b=some (.c xs)
 g:∀b o u,H b=some (.j o u)->H' b=some (.j o u)
 j:∀b ps,H b=some (.e ps)->∃more,H' b=some (.e (ps++more))
section
variable {fs fs' ex ex':List Addr}{H H1 H2:Hp}{h h1 h2 h':Heap}{a x e:Addr}{o:HO}
def Un.any(u:Un fs ex H H1 h h1)(q:h.get? b=some ob)(n:H b=none)(hx:b ∉ ex):∃sl,h1.get? b=some {ob with slots:=sl}:=by
 by_cases hb:b∈fs
 . exact u.i b ob q n hb hx
 . exact⟨ob.slots,u.d b ob q n hb hx⟩
def Un.kept(k:∀b u,h.get? b=some u->h'.get? b=some u):Un fs ex H H h h':=
 ⟨λb ob q _ _ _=>k b ob q,λb ob q _ _ _=>⟨ob.slots,k b ob q⟩,λ_ _ _ n _=>n,λb ob q _=>⟨ob,k b ob q⟩,λ_ _ q=>q,λ_ _ _ q=>q,λ_ ps q=>⟨#[],by rw[q];simp⟩⟩
def Un.refl:Un fs ex H H h h:=Un.kept λ_ _ q=>q
def Un.laid(k:∀b u,h.get? b=some u->h'.get? b=some u)(hp:h.objs.size<=a)(hn:H a=none):Un fs ex H (upd H a o) h h' where
 d:=λb u q _ _ _=>k b u q
 i:=λb u q _ _ _=>⟨u.slots,k b u q⟩
 c:=λb u q n _=>by rw[zY (Ax (AI (Aj q) hp))];exact n
 f:=λb u q _=>⟨u,k b u q⟩
 l:=λb xs q=>by rw[zY (zp q hn)];exact q
 g:=λb u xs q=>by rw[zY (zp q hn)];exact q
 j:=λb ps q=>⟨#[],by rw[zY (zp q hn),q];simp⟩
def Un.write(mu:Mut (H x))(he:e=x\/H e=some (.g x))(k:∀b u,b≠e->h.get? b=some u->h'.get? b=some u)(heo:∃u,h'.get? e=some u):Un fs ex H (upd H x o) h h':=by
 have hx:∀b,H b=none->b≠x:=λb n z=>by subst z;rw[n]at mu;exact mu
 have hb:∀b,H b=none->b≠e:=λb n z=>by
  subst z;rcases he with r|r
  . exact hx b n r
  . rw[n]at r;cases r
 have hm:∀b u,H b=some u->¬Mut (some u)->b≠x:=λb u q nm z=>by subst z;rw[q]at mu;exact nm mu
 refine⟨λb u q n _ _=>k b u (hb b n) q,λb u q n _ _=>⟨u.slots,k b u (hb b n) q⟩,λb u q n _=>by rw[zY (hx b n)];exact n,λb u q _=>?_,
  λb xs q=>by rw[zY (hm b _ q λz=>z)];exact q,λb u xs q=>by rw[zY (hm b _ q λz=>z)];exact q,λb ps q=>⟨#[],by rw[zY (hm b _ q λz=>z),q];simp⟩⟩
 by_cases hbe:b=e
 . subst hbe;exact heo
 . exact⟨u,k b u hbe q⟩
end
noncomputable def trk(h:Heap)(H:Hp):List Addr:=(Al h.objs.size).filter λa=>(H a).isSome
def lD(h:Heap)(H:Hp):Heap:=PySem.W.hideAll h (trk h H)
def de h H:(lD h H).objs.size=h.objs.size:=PySem.W.hideAll_size _ _
def ZO(e:h.get? b=some o)(n:H b=none):(lD h H).get? b=some o:=
 PySem.W.hideAll_get _ e λhm=>by have q:(H b).isSome=true:=(AD.mp hm).2;rw[n]at q;simp at q
def Wh(e:(lD h H).get? b=some o):h.get? b=some o/\H b=none:=by
 have e':h.get? b=some o:=PySem.W.of_hideAll (trk h H) e;refine⟨e',?_⟩;cases q:H b with
 |none=>rfl
 |some x=>
  have hm:b∈trk h H:=AD.mpr ⟨Ag.mpr (Aj e'),by simp[q]⟩
  have z:(lD h H).get? b=none:=PySem.W.hideAll_none (trk h H) hm;rw[z]at e;cases e
noncomputable def sx(g h:Heap)(L:Addr):List (Addr × Obj):=(Al h.objs.size).filterMap λa=>if a=L\/(g.get? a).isSome=true then none else (h.get? a).map λo=>(a,o)
def kj(h1:a≠L)(h2:g.get? a=none)(h3:h.get? a=some o):(a,o)∈sx g h L:=
 CK.mpr ⟨a,Ag.mpr (Aj h3),by simp[h1,h2,h3]⟩
def oD(hp:p∈sx g h L):p.1≠L/\g.get? p.1=none/\h.get? p.1=some p.2:=by
 obtain⟨b,_,e⟩:=CK.mp hp;split at e
 . cases e
 . rename_i hn
   cases q:h.get? b with
   |none=>rw[q]at e;simp at e
   |some u=>
    rw[q]at e;simp only[D6,Fx]at e;subst e;refine⟨λz=>hn (.inl z),?_,q⟩;show g.get? b=none;cases r:g.get? b with
    |none=>rfl
    |some v=>exact(hn (.inr (by simp[r]))).elim
def Zw:News g L h (sx g h L):=λp hp=>let ⟨a,b,c⟩:=oD hp;⟨c,a,b⟩
structure Mod(K:Ay)(mg:Str->Option Value)(base:Heap):Prop where
 c:K.In base
 a:base.Ns AW mg
 d:∃mb,base.Ns builtinsNs mb/\∀x:Str,x≠"__name__"->mb x=CL x
 b:base.NoLimit
structure Cx where
 f:Program
 w:World
 K:Ay
 d:Str->Option Value
 i:Heap
 A:Around
 N:List Str
 l:Shared
 r:Hp
 a:Env
 k:List Env
 j:List Env
 n:List Addr
 m:Str->Bool
 g:Bool
 q:List (Addr × Obj)
 h:Value->Shared->Prop
noncomputable def frs(l:List Env):List Addr:=l.filterMap (·.frame)
abbrev Cx.fs(X:Cx):List Addr:=frs X.k
def Vis(sc:Scope)(x:Str):Prop:=sc.names.lookup x=some .local\/sc.names.lookup x=some .cell\/sc.names.lookup x=some .free
def Loc(sc:Scope)(x:Str):Prop:=sc.names.lookup x=some .local\/sc.names.lookup x=some .cell
def Look(env:Env)(h:Heap)(m:Str->Option Value)(x:Str)(u:Value):Prop:=
 (env.kindOf x=some .local/\m x=some u)\/((env.kindOf x=some .cell\/env.kindOf x=some .free)/\∃c,env.cells.lookup x=some c/\h.IsCell c (some u))
structure Cx.Ok(X:Cx):Prop where
 l:Mod X.K X.d X.i
 d:X.a.scope.kind=.function
 k:X.a.globals=AW
 r:X.a.builtins=builtinsNs
 g:X.l.heap.objs.size<=X.a.locals
 u:∀x y c,X.a.cells.lookup x=some c->X.a.cells.lookup y=some c->x=y
 t:∀x,(X.a.kindOf x=some .cell\/X.a.kindOf x=some .free)->∃c,X.a.cells.lookup x=some c
 q:∀x c,X.m x=true->X.a.cells.lookup x=some c->X.l.heap.objs.size<=c
 a:X.g=true->X.A.handled=none
 i:X.A.frames=some X.j
 w:X.j=X.k\/(X.j=X.a::X.k/\X.a.frame=some X.a.locals)
 D:∀b∈X.n,b≠X.a.locals/\∀x c,X.a.cells.lookup x=some c->c≠b
 z:∀b o,X.i.get? b=some o->X.l.heap.get? b=some o/\X.r b=none
 p:X.i.objs.size<=X.l.heap.objs.size
 m:∀b o,X.i.get? b=some o->b ∉ X.n
 j:∀b∈X.n,b ∉ X.fs
 B:X.l.heap.FunFrames X.i X.k
 s:∀b∈X.fs,X.r b=none
structure Inv(X:Cx)(pins:List (Addr × Obj))(σ:List (Option V))(H:Hp)(s:Shared):Prop where
 y:X.Ok
 R:s.os=X.l.os
 C:AllBare s.gens
 B:Un X.fs X.n X.r H X.l.heap s.heap
 M:∃m,s.heap.Ns X.a.locals m/\∀(i:Nat) (x:Str) (v:V),X.N[i]?=some x->σ[i]?=some (some v)->Vis X.a.scope x->∃u,RelV v u/\Look X.a s.heap m x u
 F:∀x c,X.a.cells.lookup x=some c->∃v,s.heap.IsCell c v
 G:H X.a.locals=none
 J:∀x c,X.a.cells.lookup x=some c->H c=none
 O:∀p∈X.q++pins,s.heap.get? p.1=some p.2/\H p.1=none/\p.1≠X.a.locals/\p.1 ∉ X.fs/\∀v,p.2.data≠.cell v
 j:HOk X.f X.w H s.heap
 P:σ.length=X.N.length
section
variable {X:Cx}{pins:List (Addr × Obj)}{σ:List (Option V)}{H H':Hp}{s:Shared}{h':Heap}
def Cx.Ok.Om(ok:X.Ok)(e:X.i.get? b=some o):b ∉ X.fs:=λhb=>by have:=(ok.B.mem hb).1;rw[e]at this;cases this
def Inv.bs(I:Inv X pins σ H s):∀b o,X.i.get? b=some o->s.heap.get? b=some o/\H b=none:=λb o e=>
 ⟨I.B.d b o (I.y.z b o e).1 (I.y.z b o e).2 (I.y.Om e) (I.y.m b o e),I.B.c b o (I.y.z b o e).1 (I.y.z b o e).2 (I.y.m b o e)⟩
def Inv.bk(I:Inv X pins σ H s):∀b o,X.i.get? b=some o->s.heap.get? b=some o:=λb o e=>(I.bs b o e).1
def Inv.mod(I:Inv X pins σ H s):Mod X.K X.d X.i:=I.y.l
def Inv.kIn(I:Inv X pins σ H s):X.K.In s.heap:=I.y.l.c.keeps I.bk
theorem Inv.lt(I:Inv X pins σ H s):X.a.locals<s.heap.objs.size:=let ⟨_,hn,_⟩:=I.M;hn.lt
def Inv.sz(I:Inv X pins σ H s):X.l.heap.objs.size<=s.heap.objs.size:=AB I.y.g (Nat.le_of_lt I.lt)
def Inv.Oo(I:Inv X pins σ H s)(h:s.heap.objs.size<=a):a ∉ X.fs:=λhb=>by obtain⟨_,o,ho,_⟩:=I.y.B.mem hb;exact absurd (AI (Aj ho) (AB I.sz h)) (Bp _)
def Inv.cne(I:Inv X pins σ H s):∀x c,X.a.cells.lookup x=some c->c≠X.a.locals:=λx c e z=>by obtain⟨v,o,ho,hd⟩:=I.F x c e;obtain⟨m,⟨o',es,ep,ho',hd',_⟩,_⟩:=I.M;rw[z,ho']at ho;cases ho;rw[hd']at hd;cases hd
def Inv.pj(I:Inv X pins σ H s):s.heap.FunFrames X.i X.k:=by
 have all:∀(l:List Env),(∀b∈frs l,b∈X.fs)->X.l.heap.FunFrames X.i l->s.heap.FunFrames X.i l:=by
  intro l;induction l with
  |nil=>intro _ _;trivial
  |cons env r ih=>
   intro hs hl;obtain⟨hk,⟨L,o,hf,hn,ho,hd⟩,hr⟩:=hl;have hL:L∈X.fs:=hs L (by unfold frs;rw[A2,hf];exact AK)
   obtain⟨sl,e⟩:=I.B.i L o ho (I.y.s L hL) hL λz=>I.y.j L z hL;exact⟨hk,⟨L,_,hf,hn,e,hd⟩,ih (λb hb=>hs b (by unfold frs;rw[A2,hf];exact Az _ hb)) hr⟩
 exact all X.k (λ_ hb=>hb) I.y.B
def Inv.stack(I:Inv X pins σ H s):s.heap.FunFrames X.i X.j:=by
 rcases I.y.w with e|⟨e,hf⟩
 . rw[e];exact I.pj
 . rw[e]
   obtain⟨m,hn,_⟩:=I.M;refine .cons (by rw[I.y.d];decide) hf hn ?_ I.pj
   exact Heap.get?_none_of_le (AB I.y.p I.y.g)
def Inv.gV(I:Inv X pins σ H s):∀b∈frs X.j,b∈X.a.locals::X.fs:=λb hb=>by
 rcases I.y.w with e|⟨e,hf⟩
 . rw[e]at hb;exact Az _ hb
 . rw[e]at hb
   unfold frs at hb;rw[A2,hf]at hb;exact hb
def Inv.eP(I:Inv X pins σ H s):∀b∈frs X.j,H b=none:=λb hb=>by
 rcases Ah.mp (I.gV b hb) with e|hb
 . rw[e];exact I.G
 . obtain⟨_,o,ho,_⟩:=I.y.B.mem hb
   exact I.B.c b o ho (I.y.s b hb) λz=>I.y.j b z hb
def Inv.step{ch:List Addr}(I:Inv X pins σ H s)
 (hch:∀b∈ch,(b∈X.n\/X.l.heap.objs.size<=b)/\b≠X.a.locals/\(∀x c,X.a.cells.lookup x=some c->c≠b)/\∀p∈X.q++pins,p.1≠b)
 (keep:∀b o,b≠X.a.locals->b ∉ X.fs->b ∉ ch->s.heap.get? b=some o->H b=none->h'.get? b=some o)
 (slot:∀b o,b≠X.a.locals->b∈X.fs->b ∉ ch->s.heap.get? b=some o->H b=none->∃sl,h'.get? b=some {o with slots:=sl}) (free:∀b o,b ∉ ch->s.heap.get? b=some o->H b=none->H' b=none)
 (there:∀b o,b ∉ ch->s.heap.get? b=some o->∃o',h'.get? b=some o')
 (oi:∀b xs,H b=some (.c xs)->H' b=some (.c xs)) (frzs:∀b o u,H b=some (.j o u)->H' b=some (.j o u)) (tbls:∀b ps,H b=some (.e ps)->∃more,H' b=some (.e (ps++more)))
 (ns:∀m,s.heap.Ns X.a.locals m->h'.Ns X.a.locals m) (hok:HOk X.f X.w H' h') (hg:AllBare g') :
 Inv X pins σ H' {s with heap:=h',gens:=g',drawn:=d',toks:=t'}:=by
 have neL:∀b o,X.l.heap.get? b=some o->b≠X.a.locals:=λb o e=>Ax (AI (Aj e) I.y.g);have neC:∀b o,X.l.heap.get? b=some o->b ∉ X.n->b ∉ ch:=λb o e hx hb=>by
  rcases (hch b hb).1 with z|z
  . exact hx z
  . exact absurd (AI (Aj e) z) (Bp _)
 have cellK:∀x c,X.a.cells.lookup x=some c->∀v,s.heap.IsCell c v->h'.IsCell c v:=λx c e v ⟨o,ho,hd⟩=>by
  have nch:c ∉ ch:=λz=>(hch c z).2.2.1 x c e rfl;by_cases hc:c∈X.fs
  . obtain⟨sl,q⟩:=slot c o (I.cne x c e) hc nch ho (I.J x c e)
    exact⟨_,q,hd⟩
  . exact⟨o,keep c o (I.cne x c e) hc nch ho (I.J x c e),hd⟩
 refine⟨I.y,I.R,hg,⟨λb o e n hb hx=>?_,λb o e n hb hx=>?_,λb o e n hx=>?_,λb o e hx=>?_,λb xs e=>oi b xs (I.B.l b xs e),λb o xs e=>frzs b o xs (I.B.g b o xs e),λb ps e=>?_⟩,?_,λx c e=>?_,?_,λx c e=>?_,λp hp=>?_,hok,I.P⟩
 . exact keep b o (neL b o e) hb (neC b o e hx) (I.B.d b o e n hb hx) (I.B.c b o e n hx)
 . obtain⟨sl,e1⟩:=I.B.i b o e n hb hx
   obtain⟨sl',e2⟩:=slot b _ (neL b o e) hb (neC b o e hx) e1 (I.B.c b o e n hx);exact⟨sl',e2⟩
 . obtain⟨o',e1⟩:=I.B.f b o e hx
   exact free b o' (neC b o e hx) e1 (I.B.c b o e n hx)
 . obtain⟨o',e1⟩:=I.B.f b o e hx
   exact there b o' (neC b o e hx) e1
 . obtain⟨m1,e1⟩:=I.B.j b ps e
   obtain⟨m2,e2⟩:=tbls b _ e1;exact⟨m1++m2,by rw[e2,Array.append_assoc]⟩
 . obtain⟨m,hn,hl⟩:=I.M
   refine⟨m,ns m hn,λi x v e1 e2 e3=>?_⟩;obtain⟨u,r,l⟩:=hl i x v e1 e2 e3;refine⟨u,r,?_⟩;rcases l with l|⟨k,c,e,z⟩
   . exact .inl l
   . exact .inr ⟨k,c,e,cellK x c e _ z⟩
 . obtain⟨v,z⟩:=I.F x c e
   exact⟨v,cellK x c e v z⟩
 . obtain⟨m,⟨o,_,_,ho,_⟩,_⟩:=I.M
   exact free _ o (λz=>(hch _ z).2.1 rfl) ho I.G
 . obtain⟨v,o,ho,hd⟩:=I.F x c e
   exact free c o (λz=>(hch c z).2.2.1 x c e rfl) ho (I.J x c e)
 . obtain⟨e,n,ne,nf,d⟩:=I.O p hp
   have nch:p.1 ∉ ch:=λz=>(hch p.1 z).2.2.2 p hp rfl;exact⟨keep p.1 p.2 ne nf nch e n,free p.1 p.2 nch e n,ne,nf,d⟩
def Inv.un(I:Inv X pins σ H s)(u:Un X.fs [] H H' s.heap h')(hok:HOk X.f X.w H' h'):Inv X pins σ H' {s with heap:=h',toks:=t'}:=by
 obtain⟨m,⟨o,es,ep,ho,r⟩,_⟩:=id I.M;obtain⟨sl,hL⟩:=u.any ho I.G (by simp)
 exact I.step (g':=s.gens) (d':=s.drawn) (ch:=[]) (λ_ z=>nomatch z) (λb o _ hb _ e n=>u.d b o e n hb (by simp)) (λb o _ hb _ e n=>u.i b o e n hb (by simp)) (λb o _ e n=>u.c b o e n (by simp)) (λb o _ e=>u.f b o e (by simp)) u.l u.g u.j (λm' hm=>by obtain⟨o',es',ep',ho',r'⟩:=hm;rw[ho]at ho';cases ho';exact⟨_,es',ep',hL,r'⟩) hok I.C
def Inv.call(I:Inv X pins σ H s)(u:Un (frs X.j) ch H H' s.heap h')(hok:HOk X.f X.w H' h')(hg:AllBare g')
 (hch:∀b∈ch,(b∈X.n\/X.l.heap.objs.size<=b)/\b≠X.a.locals/\(∀x c,X.a.cells.lookup x=some c->c≠b)/\∀p∈X.q++pins,p.1≠b) :
 Inv X pins σ H' {s with heap:=h',gens:=g',drawn:=d',toks:=t'}:=by
 obtain⟨m,⟨o,es,ep,ho,r⟩,_⟩:=id I.M;obtain⟨sl,hL⟩:=u.any ho I.G λz=>(hch _ z).2.1 rfl;exact I.step (ch:=ch) hch (λb o hL hb hc e n=>u.d b o e n (λz=>(Ah.mp (I.gV b z)).elim hL hb) hc) (λb o _ _ hc e n=>u.any e n hc) (λb o hc e n=>u.c b o e n hc) (λb o hc e=>u.f b o e hc) u.l u.g u.j (λm' hm=>by obtain⟨o',es',ep',ho',r'⟩:=hm;rw[ho]at ho';cases ho';exact⟨_,es',ep',hL,r'⟩) hok hg
def Inv.turned(I:Inv X pins σ H s)(k:∀b o,b≠it->s.heap.get? b=some o->h'.get? b=some o)(hn:H it=none)(hL:it≠X.a.locals)
 (h1:it∈X.n\/X.l.heap.objs.size<=it) (h2:∀x c,X.a.cells.lookup x=some c->c≠it) (h3:∀p∈X.q++pins,p.1≠it):Inv X pins σ H {s with heap:=h',toks:=t'}:=by
 have nit:∀b u,H b=some u->b≠it:=λb u e z=>by rw[z,hn]at e;cases e
 refine I.step (g':=s.gens) (d':=s.drawn) (ch:=[it]) (λb hb=>?_) (λb o _ _ hc e _=>k b o (λz=>hc (by simp[z])) e) (λb o _ _ hc e _=>⟨o.slots,k b o (λz=>hc (by simp[z])) e⟩) (λ_ _ _ _ n=>n)
  (λb o hc e=>⟨o,k b o (λz=>hc (by simp[z])) e⟩) (λ_ _ e=>e) (λ_ _ _ e=>e) (λb ps e=>⟨#[],by rw[e];simp⟩) (λm hm=>?_) (λb u e=>?_) I.C
 . have e:b=it:=by simpa using hb
   subst e;exact⟨h1,hL,h2,h3⟩
 . obtain⟨o,es,ep,ho,r⟩:=hm
   exact⟨o,es,ep,k _ o (BP hL) ho,r⟩
 . refine(I.j b u e).lh (λc v hc q=>k c v ?_ q) (λ_ q=>q) λ_ _ q=>q
   rcases hc with z|z
   . rw[z];exact nit b u e
   . exact nit c _ z
def Inv.tok(I:Inv X pins σ H s)t:Inv X pins σ H {s with toks:=t}:=I.un (h':=s.heap) (t':=t) Un.refl I.j
theorem Inv.kept(I:Inv X pins σ H s)(k:∀b u,s.heap.get? b=some u->h'.get? b=some u):Inv X pins σ H {s with heap:=h',toks:=t'}:=I.un (Un.kept k) (I.j.kept k)
theorem Inv.laid(I:Inv X pins σ H s)(k:∀b u,s.heap.get? b=some u->h'.get? b=some u)(hp:s.heap.objs.size<=a)(new:yB X.f X.w (upd H a o) h' a o) :
 Inv X pins σ (upd H a o) {s with heap:=h',toks:=t'}:=I.un (Un.laid k hp (I.j.fresh hp)) (I.j.laid k hp new)
theorem Inv.write(I:Inv X pins σ H s)(mu:Mut (H x))(he:e=x\/H e=some (.g x))(k:∀b u,b≠e->s.heap.get? b=some u->h'.get? b=some u)(heo:∃u,h'.get? e=some u)
 (new:yB X.f X.w (upd H x o) h' x o):Inv X pins σ (upd H x o) {s with heap:=h',toks:=t'}:=I.un (Un.write mu he k heo) (I.j.write mu he k heo new)
def Inv.eG{pins':List (Addr × Obj)}(I:Inv X pins σ H s)(h:∀p∈pins',s.heap.get? p.1=some p.2/\H p.1=none/\p.1≠X.a.locals/\p.1 ∉ X.fs/\∀v,p.2.data≠.cell v):Inv X pins' σ H s:=
 ⟨I.y,I.R,I.C,I.B,I.M,I.F,I.G,I.J,λp hp=>(AO.mp hp).elim (λz=>I.O p (Bs _ z)) (h p),I.j,I.P⟩
def ku{N:List Str}(hN:N.Nodup){i j:Nat}(a:N[i]?=some x)(b:N[j]?=some x):i=j:=by obtain⟨h1,e1⟩:=Ad.mp a;obtain⟨h2,e2⟩:=Ad.mp b;exact(List.getElem_inj hN).mp (e1.trans e2.symm)
def mR{Q:Unit->Shared->Prop}(I:Inv X pins σ H s)(hN:X.N.Nodup)(hi:X.N[i]?=some x)(hx:Loc X.a.scope x)(r:RelV v u)
 (h:∀s',Inv X pins (σ.set i (some v)) H s'->(∃a,D9 a s.heap s'.heap/\(a=X.a.locals\/X.a.cells.lookup x=some a))->Q () s') (hf:X.m x=true\/X.a.scope.names.lookup x=some .local:=by first|exact .inl rfl|exact .inr rfl|assumption):wpAny M A (storeName X.a x u) Q E s:=by
 obtain⟨m,hn,hl⟩:=id I.M;have hcls:(X.a.scope.kind == .class||(X.a.scope.kind == .module&&X.a.locals != X.a.globals))=false:=by rw[I.y.d];rfl
 have hiσ:i<σ.length:=by rw[I.P];exact(Ad.mp hi).1
 have cne:=I.cne;have tracked:∀{a:Addr} {h':Heap},(∃o,s.heap.get? a=some o/\H a=none)->D9 a s.heap h'->HOk X.f X.w H h':=λ{a h'} ha hs b ob e=>by
  obtain⟨_,_,hfree⟩:=ha;refine(I.j b ob e).lh (λc w' hc q=>(hs.2 c ?_).trans q) (λ_ q=>q) λ_ _ q=>q;rintro rfl;rcases hc with rfl|hc
  . rw[hfree]at e;cases e
  . rw[hfree]at hc;cases hc
 rcases hx with hk|hk
 . refine wpAny_storeName_local hk hn (λh' hn' hs=>?_) hcls
   obtain⟨oL,_,_,hoL,_⟩:=id hn;refine h _ ⟨I.y,I.R,I.C,⟨λb o e n hb hx=>?_,λb o e n hb hx=>?_,I.B.c,λb o e hx=>?_,I.B.l,I.B.g,I.B.j⟩,⟨_,hn',λj y v' e1 e2 e3=>?_⟩,λy c e=>?_,I.G,I.J,λp hp=>?_,tracked ⟨oL,hoL,I.G⟩ hs,by simpa using I.P⟩ ⟨_,hs,.inl rfl⟩
   . exact(hs.2 b (Ax (AI (Aj e) I.y.g))).trans (I.B.d b o e n hb hx)
   . obtain⟨sl,e1⟩:=I.B.i b o e n hb hx
     exact⟨sl,(hs.2 b (Ax (AI (Aj e) I.y.g))).trans e1⟩
   . obtain⟨o',e1⟩:=I.B.f b o e hx
     exact⟨o',(hs.2 b (Ax (AI (Aj e) I.y.g))).trans e1⟩
   . by_cases hj:j=i
     . subst hj
       rw[hi]at e1;cases e1;rw[AE hiσ]at e2;cases e2;exact⟨u,r,.inl ⟨hk,by simp⟩⟩
     . rw[Bt (BP hj)]at e2
       obtain⟨u',r',q⟩:=hl j y v' e1 e2 e3;refine⟨u',r',?_⟩;rcases q with⟨k,e⟩|⟨k,c,e,z⟩
       . refine .inl ⟨k,?_⟩
         have:y≠x:=λe=>hj (ku hN e1 (e▸hi));simp[this,e]
       . exact .inr ⟨k,c,e,z.sameBut hs (cne y c e)⟩
   . obtain⟨w',z⟩:=I.F y c e
     exact⟨w',z.sameBut hs (cne y c e)⟩
   . obtain⟨e,n,ne,nf,d⟩:=I.O p hp
     exact⟨(hs.2 p.1 ne).trans e,n,ne,nf,d⟩
 . have hfn:X.m x=true:=by
    rcases hf with z|z
    . exact z
    . rw[z]at hk;cases hk
   obtain⟨c,hc⟩:=I.y.t x (.inl hk);obtain⟨w',z⟩:=I.F x c hc;refine wpAny_storeName_cell I.y.d hk hc z (λh' hc' hs=>?_);obtain⟨oc,hoc,hocd⟩:=id z;refine h {s with heap:=h'} ⟨I.y,I.R,I.C,⟨λb o e n hb hx=>?_,λb o e n hb hx=>?_,I.B.c,λb o e hx=>?_,I.B.l,I.B.g,I.B.j⟩,⟨m,hn.sameBut hs (BP (cne x c hc)),λj y v' e1 e2 e3=>?_⟩,λy c' e=>?_,I.G,I.J,λp hp=>?_,tracked ⟨oc,hoc,I.J x c hc⟩ hs,by simpa using I.P⟩ ⟨c,hs,.inr hc⟩
   . exact(hs.2 b (Ax (AI (Aj e) (I.y.q x c hfn hc)))).trans (I.B.d b o e n hb hx)
   . obtain⟨sl,e1⟩:=I.B.i b o e n hb hx
     exact⟨sl,(hs.2 b (Ax (AI (Aj e) (I.y.q x c hfn hc)))).trans e1⟩
   . obtain⟨o',e1⟩:=I.B.f b o e hx
     exact⟨o',(hs.2 b (Ax (AI (Aj e) (I.y.q x c hfn hc)))).trans e1⟩
   . by_cases hj:j=i
     . subst hj
       rw[hi]at e1;cases e1;rw[AE hiσ]at e2;cases e2;exact⟨u,r,.inr ⟨.inl hk,c,hc,hc'⟩⟩
     . rw[Bt (BP hj)]at e2
       obtain⟨u',r',q⟩:=hl j y v' e1 e2 e3;refine⟨u',r',?_⟩;rcases q with q|⟨k,c',e,z'⟩
       . exact .inl q
       . refine .inr ⟨k,c',e,z'.sameBut hs ?_⟩
         rintro rfl;exact hj (ku hN e1 (I.y.u _ _ _ e hc▸hi))
   . by_cases hcc:c'=c
     . subst hcc;exact⟨_,hc'⟩
     . obtain⟨w2,z2⟩:=I.F y c' e
       exact⟨w2,z2.sameBut hs hcc⟩
   . obtain⟨e,n,ne,nf,d⟩:=I.O p hp
     refine⟨(hs.2 p.1 ?_).trans e,n,ne,nf,d⟩;intro q;rw[q,hoc]at e;have q':oc=p.2:=Am e;exact d w' (by rw[<-q'];exact hocd)
def w9{Q:Unit->Shared->Prop}(I:Inv X pins σ H s)(hN:X.N.Nodup)(hi:X.N[i]?=some x)(hx:Loc X.a.scope x)(r:RelV v u)
 (h:∀s',Inv X pins (σ.set i (some v)) H s'->Q () s') (hf:X.m x=true\/X.a.scope.names.lookup x=some .local:=by first|exact .inl rfl|exact .inr rfl|assumption):wpAny M A (storeName X.a x u) Q E s:=
 mR I hN hi hx r (λs' I' _=>h s' I') hf
def Inv.QC(I:Inv X pins σ H s)(ho:s'.os=s.os)(u:Un (frs X.j) ch H H' s.heap s'.heap)(hok:HOk X.f X.w H' s'.heap)(hg:AllBare s'.gens)
 (hch:∀b∈ch,(b∈X.n\/X.l.heap.objs.size<=b)/\b≠X.a.locals/\(∀x c,X.a.cells.lookup x=some c->c≠b)/\∀p∈X.q++pins,p.1≠b):Inv X pins σ H' s':=by
 obtain⟨h',g',d',t',o'⟩:=s';have e:o'=s.os:=ho;subst e;exact I.call (g':=g') (t':=t') (d':=d') u hok hg hch
end
abbrev XK:=Value->Option Addr->Hp->Prop
abbrev St:=List (Option V)
abbrev VK:=V->Hp->Prop
abbrev TE:=St->Hp->VK->Prop
abbrev TT:=St->Hp->(Bool->Hp->Prop)->Prop
abbrev TA:=St->Hp->(List V->Hp->Prop)->Prop
structure Ends where
 a:St->Hp->Prop
 d:VK
 b:St->Hp->Prop:=λ_ _=>False
 c:St->Hp->Prop:=λ_ _=>False
abbrev TS:=Ends->St->Hp->Prop
def EP(X:Cx)(pins:List (Addr × Obj))(σ:St)(Q:VK)(u:Value)(s':Shared):Prop:=∃v H',Inv X pins σ H' s'/\RelV v u/\Q v H'
def TP(X:Cx)(pins:List (Addr × Obj))(σ:St)(Q:Bool->Hp->Prop)(b:Bool)(s':Shared):Prop:=∃H',Inv X pins σ H' s'/\Q b H'
def AP(X:Cx)(pins:List (Addr × Obj))(σ:St)(Q:List V->Hp->Prop)(us:List Value)(s':Shared):Prop:=∃vs H',Inv X pins σ H' s'/\Vals vs us/\Q vs H'
def SP(X:Cx)(pins:List (Addr × Obj))(D:Ends)(f:Flow)(s':Shared):Prop:=
 match f with
 |.next=>∃σ' H',Inv X pins σ' H' s'/\D.a σ' H'
 |.brk=>∃σ' H',Inv X pins σ' H' s'/\D.b σ' H'
 |.cont=>∃σ' H',Inv X pins σ' H' s'/\D.c σ' H'
 |.ret u=>∃v σ' H',Inv X pins σ' H' s'/\RelV v u/\D.d v H'
def PE(X:Cx)(e:Expr)(t:TE):Prop:=
 ∀(pins:List (Addr × Obj)) (s:Shared) (σ:St) (H:Hp) (Q:VK),Inv X pins σ H s->t σ H Q->wpAny (model X.f X.w) X.A (eval e X.a) (EP X pins σ Q) X.h s
def PT(X:Cx)(e:Expr)(t:TT):Prop:=
 ∀(pins:List (Addr × Obj)) (s:Shared) (σ:St) (H:Hp) (Q:Bool->Hp->Prop),Inv X pins σ H s->t σ H Q->wpAny (model X.f X.w) X.A (isTrue e X.a (eval e X.a)) (TP X pins σ Q) X.h s
def PW(X:Cx)(e:Expr)(t:TT):Prop:=
 ∀(whole:Sem Value) (pins:List (Addr × Obj)) (s:Shared) (σ:St) (H:Hp) (Q:Bool->Hp->Prop),Inv X pins σ H s->t σ H Q->wpAny (model X.f X.w) X.A (isTrue e X.a whole) (TP X pins σ Q) X.h s
def PW.pt(h:PW X e t):PT X e t:=h _
def PA(X:Cx)(es:List Expr)(t:TA):Prop:=
 ∀(pos:Pos) (pins:List (Addr × Obj)) (s:Shared) (σ:St) (H:Hp) (Q:List V->Hp->Prop),Inv X pins σ H s->t σ H Q->wpAny (model X.f X.w) X.A (spliced (backTo pos (AQ es X.a))) (AP X pins σ Q) X.h s
def PS(X:Cx)(st:Stmt)(t:TS):Prop:=
 ∀(pins:List (Addr × Obj)) (s:Shared) (σ:St) (H:Hp) (D:Ends),Inv X pins σ H s->t D σ H->wpAny (model X.f X.w) X.A (exec st X.a) (SP X pins D) X.h s
def PSs(X:Cx)(st:List Stmt)(t:TS):Prop:=
 ∀(pins:List (Addr × Obj)) (s:Shared) (σ:St) (H:Hp) (D:Ends),Inv X pins σ H s->t D σ H->wpAny (model X.f X.w) X.A (execs st X.a) (SP X pins D) X.h s
def thn(h:wpAny M A t Q E s)(hQ:∀a s,Q a s->Q' a s):wpAny M A t Q' E s:=C7 h hQ λ_ _ x=>x
section
variable {X:Cx}
def bin(ha:PE X a ta)(hb:PE X b tb){R:V->V->Hp->Prop}(I:Inv X pins σ H s)(h:ta σ H λx H1=>tb σ H1 λy H2=>R x y H2)
  {Q} {f:Value->Value->Sem α}
 (hf:∀v u s2 x y H2,Inv X pins σ H2 s2->RelV x v->RelV y u->R x y H2->wpAny (model X.f X.w) X.A (f v u) Q X.h s2) :
 wpAny (model X.f X.w) X.A (eval a X.a) (λv s₁=>wpAny (model X.f X.w) X.A (eval b X.a) (λu s₂=>wpAny (model X.f X.w) X.A (f v u) Q X.h s₂) X.h s₁) X.h s:=by
 refine thn (ha pins s σ H _ I h) λv s1 ⟨x,H1,I1,r1,q1⟩=>?_;refine thn (hb pins s1 σ H1 _ I1 q1) λu s2 ⟨y,H2,I2,r2,q2⟩=>?_;exact hf v u s2 x y H2 I2 r1 r2 q2
def NH(i:Nat):TE:=λσ H Q=>∃v,σ[i]?=some (some v)/\Q v H
def tC(v:V):TE:=λ_ H Q=>Q v H
def RF(hN:X.N[i]?=some x)(hv:Vis X.a.scope x)(hd:(x == ("__debug__":Str))=false:=by decide)(hcd:(x == ("__classdict__":Str))=false:=by decide):PE X (.Name x pos) (NH i):=by
 intro pins s σ H Q I h;obtain⟨v,e,h⟩:=h;obtain⟨m,hn,hl⟩:=I.M;obtain⟨u,r,l⟩:=hl i x v hN e hv;have fin:EP X pins σ Q u s:=⟨v,H,I,r,h⟩;rcases l with⟨hk,hm⟩|⟨hk,c,hc,hcell⟩
 . exact wpAny_Name (wpAny_loadName_local I.y.d hk hn hm fin) hd
 . rcases hk with hk|hk
   . exact wpAny_Name (wpAny_loadName_cell I.y.d hk hc hcell fin) hd
   . exact wpAny_Name (wpAny_loadName_free I.y.d hk hc hcell fin hcd) hd
def Sw{i j pos}:PE X (.Constant (.int i) j pos) (tC (.d i)):=λ_ _ _ H _ I h=>wpAny_Constant_int ⟨.d i,H,I.tok _,⟨_,rfl⟩,h⟩
def PX{b j pos}:PE X (.Constant (.bool b) j pos) (tC (.e b)):=λ_ _ _ H _ I h=>Constant_bool ⟨.e b,H,I,rfl,h⟩
def Sy{j pos}:PE X (.Constant .none j pos) (tC .g):=λ_ _ _ H _ I h=>Constant_none ⟨.g,H,I,rfl,h⟩
def RC{x j pos}:PE X (.Constant (.str x) j pos) (tC (.f x)):=λ_ _ _ H _ I h=>Calls.Constant_str ⟨.f x,H,I.tok _,⟨_,rfl⟩,h⟩
def Gl(X:Cx)(x:Str):Prop:=X.a.kindOf x=some .globalImplicit
def lJ(I:Inv X pins σ H s)(hg:Gl X x)(hm:X.d x=some u)(h:Q u s)
 (hd:(x == ("__debug__":Str))=false:=by decide):wpAny (model X.f X.w) X.A (eval (.Name x pos) X.a) Q E s:=
 Fm I.y.d hg (Calls.loadGlobal_global (by rw[I.y.k];exact I.mod.a.keeps I.bk) hm h) hd
def sS(I:Inv X pins σ H s)(hg:Gl X x)(hm:X.d x=none)(hv:CL x=some u)(h:Q u s)
 (hn:x≠"__name__":=by decide) (hd:(x == ("__debug__":Str))=false:=by decide):wpAny (model X.f X.w) X.A (eval (.Name x pos) X.a) Q E s:=by
 obtain⟨mb,h1,h2⟩:=I.mod.d;exact Fm I.y.d hg (Calls.loadGlobal_builtin (by rw[I.y.k];exact I.mod.a.keeps I.bk) hm (by rw[I.y.r];exact h1.keeps I.bk) ((h2 x hn).trans hv) h) hd
def W5(hg:Gl X x)(hm:X.d x=some u)(r:RelV v u)(hd:(x == ("__debug__":Str))=false:=by decide):PE X (.Name x pos) (tC v):=
 λ_ _ _ H _ I h=>lJ I hg hm ⟨v,H,I,r,h⟩ hd
def W0(hg:Gl X x)(hm:X.d x=none)(hv:CL x=some u)(r:RelV v u)(hn:x≠"__name__":=by decide)(hd:(x == ("__debug__":Str))=false:=by decide):PE X (.Name x pos) (tC v):=
 λ_ _ _ H _ I h=>sS I hg hm hv ⟨v,H,I,r,h⟩ hn hd
variable {a b:Expr}{ta tb:TE}{pos:Pos}
variable {tA tB':TT}{rest:List Expr}
def NB(t:TT):TT:=λσ H Q=>t σ H λc H1=>Q (!c) H1
def RP(ha:PT X a tA):PT X (.UnaryOp .Not a pos) (NB tA):=by intro pins s σ H Q I h;exact isTrue_not (ha pins s σ H (λc H1=>Q (!c) H1) I h)
def OD(ta tb:TE):TE:=λσ H Q=>ta σ H λx H1=>∃c,x=.e c/\if c=true then tb σ H1 Q else Q (.e false) H1
def OH(ta:TE):TE:=λσ H Q=>ta σ H λx H1=>∃c,x=.e c/\Q (.e (!c)) H1
def i8{op}(h:PE X a t):PE X (.BoolOp op [a] pos) t:=λpins s σ H Q I hw=>BoolOp_one (h pins s σ H Q I hw)
def Sv(ha:PE X a ta)(hb:PE X (.BoolOp .And (b::rest) pos) tb):PE X (.BoolOp .And (a::b::rest) pos) (OD ta tb):=by
 intro pins s σ H Q I h;refine BoolOp_and (thn (ha pins s σ H _ I h) λv s1 ⟨x,H1,I1,r1,q1⟩=>?_);obtain⟨c,rfl,q1⟩:=q1;cases r1;refine Cb ?_;cases c with
 |true=>exact hb pins s1 σ H1 Q I1 q1
 |false=>exact⟨.e false,H1,I1,rfl,q1⟩
def RA(ha:PE X a ta):PE X (.UnaryOp .Not a pos) (OH ta):=by intro pins s σ H Q I h;refine UnaryOp_ (thn (ha pins s σ H _ I h) λv s1 ⟨x,H1,I1,r1,q1⟩=>?_);obtain⟨c,rfl,q1⟩:=q1;cases r1;exact not_of (Cb ⟨.e (!c),H1,I1,rfl,q1⟩)
def tIf(t:TT)(ta tb:TE):TE:=λσ H Q=>t σ H λc H1=>if c=true then ta σ H1 Q else tb σ H1 Q
def YJ(hc:PT X c tA)(ha:PE X a ta)(hb:PE X b tb):PE X (.IfExp c a b pos) (tIf tA ta tb):=by
 intro pins s σ H Q I h;refine wpAny_IfExp (thn (hc pins s σ H _ I h) λd s1 ⟨H1,I1,q1⟩=>?_);cases d with
 |true=>exact ha pins s1 σ H1 Q I1 q1
 |false=>exact hb pins s1 σ H1 Q I1 q1
end
def SqL(K:Ay)(H:Hp)(a:Addr)(xs:List V):Prop:=
 Rd H a (.b xs) \/
  ∃(o:Obj) (its:Array Value) (n:Nat),K.lookup a=some o/\o.cls=.type "list"/\o.dict=none/\o.data=.seq its n/\its.size<=Ar/\Vals xs its.toList
def SqT(K:Ay)(H:Hp)(a:Addr)(xs:List V):Prop:=
 Rd H a (.c xs) \/
  ∃(o:Obj) (its:Array Value) (n:Nat),K.lookup a=some o/\o.cls=.type "tuple"/\o.data=.seq its n/\its.size<=Ar/\Vals xs its.toList
noncomputable def Oa:Value->Option V
 |.none=>some .g
 |.bool b=>some (.e b)
 |.int i _=>some (.d i)
 |.str x _=>some (.f x)
 |.bytes b _=>some (.h b)
 |.float b _=>some (.j b)
 |.ref a=>some (.c a)
 |.type n=>some (.k n)
 |_=>none
def RelV.abs(r:RelV x u):Oa u=some x:=by
 cases x with
 |g=>cases r;rfl
 |e _=>cases r;rfl
 |d _=>obtain⟨t,rfl⟩:=r;rfl
 |f _=>obtain⟨t,rfl⟩:=r;rfl
 |h _=>obtain⟨t,rfl⟩:=r;rfl
 |j _=>obtain⟨t,rfl⟩:=r;rfl
 |c _=>cases r;rfl
 |k _=>cases r;rfl
def RelV.inj(r:RelV x u)(q:RelV y u):x=y:=Am (r.abs.symm.trans q.abs)
theorem Vals.inj:∀{xs ys} {us},Vals xs us->Vals ys us->xs=ys
 |_,_,_,.nil,.nil=>rfl
 |_,_,_,.cons r t,.cons r' t'=>by rw[r.inj r',Vals.inj t t']
section
variable {X:Cx}{pins:List (Addr × Obj)}{σ:St}{H:Hp}{s:Shared}{a:Addr}{xs ys:List V}
def SqL.of{K}(h:H a=some (.b xs)):SqL K H a xs:=.inl (.inl h)
def SqT.of{K}(h:H a=some (.c xs)):SqT K H a xs:=.inl (.inl h)
def Inv.list(I:Inv X pins σ H s)(h:SqL X.K H a xs):∃its:List Value,Vals xs its/\PlainL s.heap a its.toArray/\xs.length<=Ar:=by
 rcases h with h|⟨o,its,n,hk,hc,hd,hs,hz,r⟩
 . obtain⟨z,its,n,r,e⟩:=h.ok I.j
   exact⟨its,r,⟨_,n,e,rfl,rfl,rfl⟩,z⟩
 . refine⟨its.toList,r,⟨o,n,I.kIn a o hk,hc,hd,by simpa using hs⟩,?_⟩
   have e:=r.length;simp only[By]at e;omega
def Inv.tuple(I:Inv X pins σ H s)(h:SqT X.K H a xs):∃its:List Value,Vals xs its/\IsTup s.heap a its.toArray/\xs.length<=Ar:=by
 rcases h with h|⟨o,its,n,hk,hc,hs,hz,r⟩
 . obtain⟨z,its,r,p⟩:=h.ok I.j
   exact⟨its,r,p.tup,z⟩
 . refine⟨its.toList,r,⟨o,I.kIn a o hk,hc,n,by simpa using hs⟩,?_⟩
   have e:=r.length;simp only[By]at e;omega
def Inv.kg(I:Inv X pins σ H s)(h:SqL X.K H a xs)(h':SqL X.K H a ys):xs=ys:=by
 obtain⟨its,r,⟨o,n,e,_,_,d⟩,_⟩:=I.list h;obtain⟨its',r',⟨o',n',e',_,_,d'⟩,_⟩:=I.list h';rw[e]at e';cases e';rw[d]at d';injection d' with d1 _
 have:its=its':=by simpa using congrArg Array.toList d1
 subst this;exact r.inj r'
def Inv.t8(I:Inv X pins σ H s)(h:SqT X.K H a xs)(h':SqT X.K H a ys):xs=ys:=by
 obtain⟨its,r,⟨o,e,_,n,d⟩,_⟩:=I.tuple h;obtain⟨its',r',⟨o',e',_,n',d'⟩,_⟩:=I.tuple h';rw[e]at e';cases e';rw[d]at d';injection d' with d1 _
 have:its=its':=by simpa using congrArg Array.toList d1
 subst this;exact r.inj r'
end
noncomputable abbrev Cx.nK(X:Cx)(E:Value->Shared->Prop):Cx:={X with h:=E}
abbrev Cx.nox(X:Cx):Cx:=X.nK λ_ _=>False
theorem Cx.Ok.nK{X:Cx}(ok:X.Ok)E:(X.nK E).Ok:=
 ⟨ok.l,ok.d,ok.k,ok.r,ok.g,ok.u,ok.t,ok.q,ok.a,ok.i,ok.w,ok.D,ok.z,ok.p,ok.m,ok.j,ok.B,ok.s⟩
def Cx.Ok.tJ{X:Cx}(ok:(X.nK E).Ok):X.Ok:=
 ⟨ok.l,ok.d,ok.k,ok.r,ok.g,ok.u,ok.t,ok.q,ok.a,ok.i,ok.w,ok.D,ok.z,ok.p,ok.m,ok.j,ok.B,ok.s⟩
section
variable {X:Cx}{pins:List (Addr × Obj)}{σ:St}{H:Hp}{s:Shared}{E:Value->Shared->Prop}
theorem Inv.nK(I:Inv X pins σ H s)E:Inv (X.nK E) pins σ H s:=⟨I.y.nK E,I.R,I.C,I.B,I.M,I.F,I.G,I.J,I.O,I.j,I.P⟩
theorem Inv.tJ(I:Inv (X.nK E) pins σ H s):Inv X pins σ H s:=⟨I.y.tJ,I.R,I.C,I.B,I.M,I.F,I.G,I.J,I.O,I.j,I.P⟩
theorem SP.tJ(h:SP (X.nK E) pins D f s'):SP X pins D f s':=by
 cases f with
 |next=>obtain⟨σ',H',I,q⟩:=h;exact⟨σ',H',I.tJ,q⟩
 |brk=>obtain⟨σ',H',I,q⟩:=h;exact⟨σ',H',I.tJ,q⟩
 |cont=>obtain⟨σ',H',I,q⟩:=h;exact⟨σ',H',I.tJ,q⟩
 |ret u=>obtain⟨v,σ',H',I,r,q⟩:=h;exact⟨v,σ',H',I.tJ,r,q⟩
theorem PSs.nox{st}(h:PSs X.nox st t):PSs X st t:=λpins s σ H D I hw=>
 C7 (h pins s σ H D (I.nK _) hw) (λ_ _ q=>q.tJ) λ_ _ z=>CJ z
end
section
variable {X:Cx}{st:Stmt}{rest:List Stmt}{t u:TS}{e:Expr}{te:TE}{pos:Pos}
def OG:TS:=λD σ H=>D.a σ H
def NF(t u:TS):TS:=λD σ H=>t {D with a:=u D} σ H
def VG:PSs X [] OG:=λ_ _ σ H _ I h=>Gr ⟨σ,H,I,h⟩
def YW(h1:PS X st t)(h2:PSs X rest u):PSs X (st::rest) (NF t u):=by
 intro pins s σ H D I h;refine wpAny_execs_cons (thn (h1 pins s σ H {D with a:=u D} I h) λf s1 q=>?_)
 cases f with
 |next=>
  obtain⟨σ',H',I',q⟩:=q;exact h2 pins s1 σ' H' D I' q
 |ret v=>exact q
 |brk=>exact q
 |cont=>exact q
def Inv.quiet(I:Inv X pins σ H s):interactive X.a=false:=by simp[interactive,I.y.d]
def OF(te:TE):TS:=λD σ H=>te σ H λ_ H1=>D.a σ H1
def VE(he:PE X e te)(hs:Ea e none pos.line X.a=pure false:=by rfl):PS X (.Expr e pos) (OF te):=by intro pins s σ H D I h;exact wpAny_Expr_any (thn (he pins s σ H _ I h) λv s1 ⟨x,H1,I1,r1,q1⟩=>⟨σ,H1,I1,q1⟩) I.quiet hs
def ND(te:TE):TS:=λD σ H=>te σ H D.d
def RN(he:PE X e te):PS X (.Return (some e) pos) (ND te):=by intro pins s σ H D I h;exact wpAny_Return_some (thn (he pins s σ H _ I h) λv s1 ⟨x,H1,I1,r1,q1⟩=>⟨x,σ,H1,I1,r1,q1⟩)
def O9(c:TT)(t u:TS):TS:=λD σ H=>c σ H λb H1=>if b=true then t D σ H1 else u D σ H1
def Pg(hc:PT X c tc)(ha:PSs X a t)(hb:PSs X b u):PS X (.If c a b pos) (O9 tc t u):=by
 intro pins s σ H D I h;refine wpAny_If (thn (hc pins s σ H _ I h) λd s1 ⟨H1,I1,q1⟩=>?_);cases d with
 |true=>exact ha pins s1 σ H1 D I1 q1
 |false=>exact hb pins s1 σ H1 D I1 q1
end
abbrev TG:=V->St->Hp->(St->Hp->Prop)->Prop
abbrev TGs:=List V->St->Hp->(St->Hp->Prop)->Prop
def PG(X:Cx)(target:Expr)(t:TG):Prop:=
 ∀(pins:List (Addr × Obj)) (s:Shared) (σ:St) (H:Hp) (v:V) (u:Value) (Q:St->Hp->Prop),Inv X pins σ H s->RelV v u->t v σ H Q ->
  wpAny (model X.f X.w) X.A (assign target X.a u) (λ_ s'=>∃σ' H',Inv X pins σ' H' s'/\Q σ' H') X.h s
def PGs(X:Cx)(ts:List Expr)(t:TGs):Prop:=
 ∀(pins:List (Addr × Obj)) (s:Shared) (σ:St) (H:Hp) (vs:List V) (us:List Value) (Q:St->Hp->Prop),Inv X pins σ H s->Vals vs us->t vs σ H Q ->
  wpAny (model X.f X.w) X.A (Eo ((C8 ts X.a).map (·.2)) us) (λ_ s'=>∃σ' H',Inv X pins σ' H' s'/\Q σ' H') X.h s
abbrev UZ:=V->V->V->Hp->(Hp->Prop)->Prop
def R3(X:Cx)(t:UZ):Prop:=
 ∀(pins:List (Addr × Obj)) (s:Shared) (σ:St) (H:Hp) (o i v:V) (ov iv u:Value) (Q:Hp->Prop),Inv X pins σ H s->RelV o ov->RelV i iv->RelV v u->t o i v H Q ->
  wpAny (model X.f X.w) X.A (setItem ov iv u) (λ_ s'=>∃H',Inv X pins σ H' s'/\Q H') X.h s
abbrev TIp:=V->V->Hp->VK->Prop
def PIp(X:Cx)(op:Operator)(t:TIp):Prop:=
 ∀(pins:List (Addr × Obj)) (s:Shared) (σ:St) (H:Hp) (x y:V) (v u:Value) (Q:VK),Inv X pins σ H s->RelV x v->RelV y u->t x y H Q ->
  wpAny (model X.f X.w) X.A (Eb op v u) (EP X pins σ Q) X.h s
section
variable {X:Cx}{pos:Pos}
def uk(i:Nat):TG:=λv σ H Q=>Q (σ.set i (some v)) H
def W7(hN:X.N.Nodup)(hi:X.N[i]?=some x)(hx:Loc X.a.scope x)(hf:X.m x=true\/X.a.scope.names.lookup x=some .local:=by first|exact .inl rfl|exact .inr rfl|assumption):PG X (.Name x pos) (uk i):=by intro pins s σ H v u Q I r h;exact wpAny_assign_Name (w9 I hN hi hx r (λs' I'=>⟨_,H,I',h⟩) hf)
def QP:TGs:=λvs σ H Q=>vs=[]/\Q σ H
def V1(t:TG)(u:TGs):TGs:=λvs σ H Q=>∃v r,vs=v::r/\t v σ H λσ' H'=>u r σ' H' Q
def W8:PGs X [] QP:=by intro pins s σ H vs us Q I r h;obtain⟨e,h⟩:=h;subst e;cases r;exact FA ⟨σ,H,I,h⟩
def YL{e:Expr}{es:List Expr}{t:TG}{u:TGs}(h1:PG X e t)(h2:PGs X es u)
 (hs:(C8 (e::es) X.a).map (·.2)=assign e X.a::(C8 es X.a).map (·.2):=by rfl):PGs X (e::es) (V1 t u):=by
 intro pins s σ H vs us Q I r h;obtain⟨v,vr,e1,h⟩:=h;subst e1;cases r with
 |cons r rr=>
  rw[hs];refine CM (thn (h1 pins s σ H _ _ _ I r h) λ_ s1 ⟨σ1,H1,I1,q1⟩=>?_);exact h2 pins s1 σ1 H1 _ _ Q I1 rr q1
def QS(K:Ay)(n:Nat)(t:TGs):TG:=λv σ H Q=>∃a xs,v=.c a/\SqT K H a xs/\xs.length=n/\t xs σ H Q
def sW(hc:X.g=true)(h:PGs X es t)
 (hn:(C8 es X.a).length=n:=by rfl) (hst:(C8 es X.a).findIdx? (·.1)=none:=by rfl):PG X (.Tuple es k pos) (QS X.K n t):=by
 intro pins s σ H v u Q I r hw;obtain⟨a,xs,e1,hq,hl,hw⟩:=hw;subst e1;cases r;obtain⟨its,rv,ht,hz⟩:=I.tuple hq;refine assign_Tuple_tuple (I.y.a hc) ht (by simp[hn,<-hl,rv.length]) hst λh' hx=>?_
 have I1:Inv X pins σ H {s with heap:=h'}:=I.kept (t':=s.toks) λb o e=>hx b o (Ax (Aj e)) e
 exact h pins _ σ H xs _ Q I1 (by simpa using rv) hw
def QR(to ti:TE)(t:UZ):TG:=λv σ H Q=>to σ H λo H1=>ti σ H1 λi H2=>t o i v H2 λH3=>Q σ H3
def RG(ho:PE X o to)(hi:PE X i ti)(hs:R3 X t)
 (ha:∀v,assign (.Subscript o i pos) X.a v=(do
  let ov <-holding [v] (eval o X.a);let iv <-holding [v,ov] (eval i X.a)
  standAt pos
  holding [v,ov,iv] (setItem ov iv v)
  release [v,ov,iv] []):=by intro _;rfl):PG X (.Subscript o i pos) (QR to ti t):=by
 intro pins s σ H v u Q I r h;rw[ha];refine dr (Cw (thn (ho pins s σ H _ I h) λov s1 ⟨x,H1,I1,r1,q1⟩=>?_));refine dr (Cw (thn (hi pins s1 σ H1 _ I1 q1) λiv s2 ⟨y,H2,I2,r2,q2⟩=>?_));refine dr (CW (dr (Cw (thn (hs pins s2 σ H2 x y v ov iv u _ I2 r1 r2 r q2) λ_ s3 ⟨H3,I3,q3⟩=>?_))));exact wpAny_release ⟨σ,H3,I3,q3⟩
def nJ(te:TE)(g:TG):TS:=λD σ H=>te σ H λx H1=>g x σ H1 D.a
def gB(he:PE X e te)(hg:PG X tg g)(hs:Ep [tg] e pos.line X.a=pure false:=by rfl)(hw:B5 [tg] e X.a=pure none:=by rfl)
 (h1:(C8 [tg] X.a).map (·.2)=[assign tg X.a]:=by rfl):PS X (.Assign [tg] e pos) (nJ te g):=by
 intro pins s σ H D I h;refine wpAny_Assign_stores (thn (he pins s σ H _ I h) λv s1 ⟨x,H1,I1,r1,q1⟩=>?_) hs hw;rw[h1];exact thn (hg pins s1 σ H1 x v _ I1 r1 q1) λ_ s2 q=>q
def gD(hN:X.N.Nodup)(hi:X.N[i]?=some x)(hx:Loc X.a.scope x)(he:PE X e te)(hs:Ea e (some (.Name x pos')) pos.line X.a=pure false:=by rfl)(hf:X.m x=true\/X.a.scope.names.lookup x=some .local:=by first|exact .inl rfl|exact .inr rfl|assumption) :
 PS X (.Assign [.Name x pos'] e pos) (nJ te (uk i)):=by
 intro pins s σ H D I h;refine wpAny_Assign_Name (thn (he pins s σ H _ I h) λv s1 ⟨y,H1,I1,r1,q1⟩=>?_) hs;exact w9 I1 hN hi hx r1 (λs2 I2=>⟨_,H1,I2,q1⟩) hf
def OJ(i j:Nat)(ta:TA):TS:=λD σ H=>ta σ H λvs H1=>∃v w,vs=[v,w]/\D.a ((σ.set i (some v)).set j (some w)) H1
def RM{kt k2 pt2}(hc:X.g=true)(hN:X.N.Nodup)(hi:X.N[i]?=some x)(hj:X.N[j]?=some y)(hij:i≠j)
 (hx:X.a.scope.names.lookup x=some .local) (hy:X.a.scope.names.lookup y=some .local) (ha:PA X [a,b] ta)
 (hw:B5 [.Tuple [.Name x px,.Name y py] kt pt] (.Tuple [a,b] k2 pt2) X.a=pure (some [x,y]))
 (hs:Ep [.Tuple [.Name x px,.Name y py] kt pt] (.Tuple [a,b] k2 pt2) pos.line X.a=pure false:=by rfl) :
 PS X (.Assign [.Tuple [.Name x px,.Name y py] kt pt] (.Tuple [a,b] k2 pt2) pos) (OJ i j ta):=by
 intro pins s σ H D I h;rw[exec_Assign_arm];refine dr (CW ?_);rw[hs];refine dr (Af ?_);rw[if_neg (by decide)]
 refine dr (Tuple_ (thn (ha _ pins s σ H _ I h) λus s1 ⟨vs,H1,I1,r1,q1⟩=>?_));obtain⟨v,w,e1,q1⟩:=q1;subst e1;obtain⟨u1,u2,rfl,rv,rw'⟩:∃u1 u2,us=[u1,u2]/\RelV v u1/\RelV w u2:=by
  cases r1 with
  |cons p q=>
   cases q with
   |cons p' q'=>
    cases q';exact⟨_,_,rfl,p,p'⟩
 refine Bm ?_ (by show 2<=Ar;decide)
 have I2:Inv X pins σ H1 {s1 with heap:=s1.heap.push {cls:=.type "tuple",data:=.seq [u1,u2].toArray}}:=I1.kept (t':=s1.toks) λb o e=>zO _ e
 rw[hw];refine dr (Af ?_);show wpAny (model X.f X.w) X.A (do rule "assign.swapped-stores";let items <-unpackItems (.ref s1.heap.objs.size) 2 none;Eo [λv=>DN X.a y v,λv=>DN X.a x v] items.reverse;pure GS) _ _ _
 refine dr (C9 (dr (unpackItems_tuple (items:=#[u1,u2]) (I.y.a hc) (IsTup.new s1.heap _) λh' hx'=>?_)));have I3:=I2.kept (h':=h') (t':=s1.toks) λb o e=>hx' b o (Ax (Aj e)) e;show wpAny _ _ (Eo [λv=>DN X.a y v,λv=>DN X.a x v] [u2,u1] >>= λ_=>pure GS) _ _ _;refine dr (CM (Eh (w9 I3 hN hj (.inl hy) rw' (λs2 I4=>?_) (.inr hy))));refine CM (Eh (w9 I4 hN hi (.inl hx) rv (λs3 I5=>FA (Af ?_)) (.inr hx)));rw[Fo _ _ (BP hij)]at I5;exact⟨_,H1,I5,q1⟩
def O6(i:Nat)(te:TE)(ti:TIp):TS:=λD σ H=>∃x,σ[i]?=some (some x)/\te σ H λy H1=>ti x y H1 λz H2=>D.a (σ.set i (some z)) H2
def YT(hN:X.N.Nodup)(hi:X.N[i]?=some x)(hx:Loc X.a.scope x)(he:PE X e te)(ho:PIp X op ti)(hf:X.m x=true\/X.a.scope.names.lookup x=some .local:=by first|exact .inl rfl|exact .inr rfl|assumption) :
 PS X (.AugAssign (.Name x pos') op e pos) (O6 i te ti):=by
 intro pins s σ H D I h;obtain⟨v,e1,h⟩:=h;obtain⟨m,hn,hl⟩:=I.M;have vis:Vis X.a.scope x:=by rcases hx with k|k;exact .inl k;exact .inr (.inl k)
 obtain⟨u,r,l⟩:=hl i x v hi e1 vis;refine wpAny_AugAssign_Name ?_;have go:wpAny (model X.f X.w) X.A (eval e X.a) (λw s₂=>wpAny (model X.f X.w) X.A (Eb op u w) (λr s₃=>wpAny (model X.f X.w) X.A (storeName X.a x r) (λ_=>SP X pins D .next) X.h s₃) X.h s₂) X.h s:=by refine thn (he pins s σ H _ I h) λw s1 ⟨y,H1,I1,r1,q1⟩=>?_;refine thn (ho pins s1 σ H1 v y u w _ I1 r r1 q1) λz s2 ⟨zv,H2,I2,r2,q2⟩=>?_;exact w9 I2 hN hi hx r2 (λs3 I3=>⟨_,H2,I3,q2⟩) hf
 rcases l with⟨hk,hm⟩|⟨hk,c,hc,hcell⟩
 . exact wpAny_loadName_local I.y.d hk hn hm go
 . rcases hk with hk|hk
   . exact wpAny_loadName_cell I.y.d hk hc hcell go
   . rcases hx with k|k
     . have:X.a.scope.names.lookup x=some .free:=hk
       rw[k]at this;cases this
     . have:X.a.scope.names.lookup x=some .free:=hk
       rw[k]at this;cases this
end
section
variable {X:Cx}{pos:Pos}
def XD(c:TT)(tb:TS):TS:=λD σ H=>∃W:Nat->St->Hp->Prop,(∃m,W m σ H)/\∀m σ H,W m σ H ->
 c σ H λb H1=>if b=true then ∃N:St->Hp->Prop,(∀σ' H',N σ' H'->∃m',m'<m/\W m' σ' H')/\tb {D with a:=N,c:=N,b:=D.a} σ H1 else D.a σ H1
def YV(hp:E5 (model X.f X.w) X.A X.a X.h)(hc:PT X c tc)(hb:PSs X body tb):PS X (.While c body [] pos) (XD tc tb):=by
 intro pins s σ H D I h;obtain⟨W,⟨m0,w0⟩,turn⟩:=h;refine wpAny_While (codeAny_whileLoop (λn s'=>∃σ' H',Inv X pins σ' H' s'/\W n σ' H') ?_ m0 ⟨σ,H,I,w0⟩);rintro n s1 ⟨σ1,H1,I1,w1⟩;refine CP hp (thn (hc pins s1 σ1 H1 _ I1 (turn n σ1 H1 w1)) λb s2 ⟨H2,I2,q2⟩=>?_);cases b with
 |true=>
  obtain⟨N,hN,q2⟩:=q2;rw[if_pos rfl];refine CP hp (thn (hb pins s2 σ1 H2 _ I2 q2) λf s3 q3=>?_);cases f with
  |next=>
   obtain⟨σ3,H3,I3,n3⟩:=q3;obtain⟨m',hm,w3⟩:=hN σ3 H3 n3;exact⟨m',hm,σ3,H3,I3,w3⟩
  |cont=>
   obtain⟨σ3,H3,I3,n3⟩:=q3;obtain⟨m',hm,w3⟩:=hN σ3 H3 n3;exact⟨m',hm,σ3,H3,I3,w3⟩
  |brk=>exact q3
  |ret v=>exact q3
 |false=>
  rw[if_neg Aa];exact Gr ⟨σ1,H2,I2,q2⟩
end
structure It where
 c:Nat->Hp->Prop
 b:Nat->Hp->V->Hp->Prop
 a:Nat->Hp->Prop
def uG(X:Cx)(pins:List (Addr × Obj))(H:Hp)(b:Addr):Prop:=
 H b=none/\b≠X.a.locals/\b ∉ X.fs/\(b∈X.n\/X.l.heap.objs.size<=b)/\(∀x c,X.a.cells.lookup x=some c->c≠b)/\∀p∈X.q++pins,p.1≠b
def Inv.ZE(I:Inv X pins σ H s)(hb:s.heap.objs.size<=b)(hn:H' b=none):uG X pins H' b:=by
 refine⟨hn,DE (AI I.lt hb),I.Oo hb,.inr (AB I.sz hb),λx c e z=>?_,λp hp z=>?_⟩
 . obtain⟨v,q⟩:=I.F x c e
   exact absurd (AI q.lt (by rw[z];exact hb)) (Bp _)
 . exact absurd (AI (Aj (I.O p hp).1) (by rw[z];exact hb)) (Bp _)
structure Turn(P:Program)(w:World)(K:Ay)(tg:Expr)(J:It)(fp:List Addr)(it:Addr)(tn:Nat->Heap->Prop):Prop where
 g:it∈fp
 e:∀i h,tn i h->∀b∈fp,∃o,h.get? b=some o/\∀v,o.data≠.cell v
 a:∀i h h',tn i h->(∀b∈fp,∀o,h.get? b=some o->h'.get? b=some o)->tn i h'
 d:∀(X:Cx),X.f=P->X.w=w->X.K=K->X.g=true->∀(i:Nat) (pins:List (Addr × Obj)) (s:Shared) (σ:St) (H:Hp) (E:Value->Shared->Prop),Inv X pins σ H s->(∀b∈fp,uG X pins H b)->tn i s.heap->J.c i H ->
  wpAny (model P w) X.A (pyNext (.ref it)) (λr s1=>∃u,r=some u /\
   wpAny (model P w) X.A (BQ tg (.ref it) u) (λ_ s2=>∃x H',Inv X pins σ H' s2/\RelV x u/\J.b i H x H'/\tn (i+1) s2.heap/\∀b∈fp,H' b=none) E s1) E s
 c:∀(X:Cx),X.f=P->X.w=w->X.K=K->X.g=true->∀(i:Nat) (pins:List (Addr × Obj)) (s:Shared) (σ:St) (H:Hp) (E:Value->Shared->Prop),Inv X pins σ H s->(∀b∈fp,uG X pins H b)->tn i s.heap->J.a i H ->
  wpAny (model P w) X.A (pyNext (.ref it)) (λr s1=>r=none/\Inv X pins σ H s1) E s
 f:∀(A:Around) (i:Nat) (s:Shared) (Q:Value->Shared->Prop) (E:Value->Shared->Prop),tn i s.heap->Q (.ref it) s->wpAny (model P w) A (pyIter (.ref it)) Q E s
abbrev TI:=St->Hp->(It->Hp->Prop)->Prop
def PIE(X:Cx)(pins:List (Addr × Obj))(σ:St)(tg:Expr)(R:It->Hp->Prop)(itv:Value)(s2:Shared):Prop:=
 ∃(it:Addr) (fp:List Addr) (tn:Nat->Heap->Prop) (J:It) (H':Hp),itv=.ref it/\Inv X pins σ H' s2/\Turn X.f X.w X.K tg J fp it tn/\tn 0 s2.heap/\(∀b∈fp,uG X pins H' b)/\R J H'
def PI(X:Cx)(tg iter:Expr)(wi:TI):Prop:=
 ∀(pins:List (Addr × Obj)) (s:Shared) (σ:St) (H:Hp) (R:It->Hp->Prop),Inv X pins σ H s->wi σ H R ->
  wpAny (model X.f X.w) X.A (eval iter X.a) (λv s1=>wpAny (model X.f X.w) X.A (pyIter v) (PIE X pins σ tg R) X.h s1) X.h s
def ZN(ho:s.heap.get? it=some o)(hc:o.cls=.type n)(hd:o.data=.fields vs)
 (hn:["enumerate","zip","dict_itemiterator","dict_reverseitemiterator","odict_iterator","itertools.zip_longest","itertools.pairwise"].contains n=false) (hQ:Q () s):wpAny M A (BQ tg (.ref it) u) Q E s:=by
 unfold BQ;cases tg<;>first
  |exact Af hQ
  |(cases u<;>first
   |exact Af hQ
   |(refine dr (wpAny_load ho ?_)
     rw[hc,hd];show wpAny M A (if (["enumerate","zip","dict_itemiterator","dict_reverseitemiterator","odict_iterator","itertools.zip_longest","itertools.pairwise"].contains n&&vs[0]? == some (rawInt _))=true then _ else _) Q E s
     rw[if_neg (by intro h;rw[hn,BX]at h;cases h)]
     exact Af hQ))
noncomputable def Itl(K:Ay)(a:Addr):It:=
 ⟨λi H=>∃xs x,SqL K H a xs/\xs[i]?=some x,λi H x H'=>H'=H/\∀xs,SqL K H a xs->xs[i]?=some x,λi H=>∃xs,SqL K H a xs/\xs.length<=i⟩
noncomputable def Itt(K:Ay)(a:Addr):It:=
 ⟨λi H=>∃xs x,SqT K H a xs/\xs[i]?=some x,λi H x H'=>H'=H/\∀xs,SqT K H a xs->xs[i]?=some x,λi H=>∃xs,SqT K H a xs/\xs.length<=i⟩
noncomputable def Itr(lo:Int)(n:Nat):It:=⟨λi _=>i<n,λi H x H'=>H'=H/\x=.d (lo+i),λi _=>n<=i⟩
def bZ{K}a it:Turn P w K tg (Itl K a) [it] it (λi h=>h.IsListIter it a i) where
 g:=by simp
 e:=λi h st b hb=>by
  have e:b=it:=by simpa using hb
  subst e;obtain⟨o,e,c,d⟩:=st;exact⟨o,e,λv z=>by rw[d]at z;cases z⟩
 a:=λi h h' st k=>st.at λo e=>k it (by simp) o e
 d:=by
  intro X hP hw hK hc i pins s σ H E I hf st hg;subst hP hw hK;obtain⟨xs,x,hq,hx⟩:=hg;obtain⟨its,rv,p,hz⟩:=I.list hq;obtain⟨u,hu,ru⟩:=rv.get hx;obtain⟨f0,f1,f2,f3,f4,f5⟩:=hf it (by simp)
  refine wpAny_pyNext_list_item st p.isList (x:=u) (by simpa using hu) λh' st' sb=>?_
  have I1:Inv X pins σ H {s with heap:=h'}:=I.turned (t':=s.toks) (λb o hb e=>(sb.2 b hb).trans e) f0 f1 f3 f4 f5
  obtain⟨o,e,c,d⟩:=id st';exact⟨u,rfl,ZN (s:={s with heap:=h'}) e c d (by decide) ⟨x,H,I1,ru,⟨rfl,λys hy=>by rw[I.kg hy hq];exact hx⟩,st',λb hb=>(hf b hb).1⟩⟩
 c:=by
  intro X hP hw hK hc i pins s σ H E I hf st hg;subst hP hw hK;obtain⟨xs,hq,hx⟩:=hg;obtain⟨its,rv,p,hz⟩:=I.list hq;obtain⟨f0,f1,f2,f3,f4,f5⟩:=hf it (by simp)
  have hl:=rv.length;exact wpAny_pyNext_list_end (I.y.a hc) st p.isList (by simp;omega) λh' eb=>⟨rfl,I.turned (t':=s.toks) (λb o hb e=>eb b o hb e) f0 f1 f3 f4 f5⟩
 f:=λ_ _ _ _ _ st h=>wpAny_pyIter_listiter st h
def gm{K}a it:Turn P w K tg (Itt K a) [it] it (λi h=>h.IsTupleIter it a i) where
 g:=by simp
 e:=λi h st b hb=>by
  have e:b=it:=by simpa using hb
  subst e;obtain⟨o,e,c,d⟩:=st;exact⟨o,e,λv z=>by rw[d]at z;cases z⟩
 a:=λi h h' st k=>st.at λo e=>k it (by simp) o e
 d:=by
  intro X hP hw hK hc i pins s σ H E I hf st hg;subst hP hw hK;obtain⟨xs,x,hq,hx⟩:=hg;obtain⟨its,rv,p,hz⟩:=I.tuple hq;obtain⟨u,hu,ru⟩:=rv.get hx;obtain⟨f0,f1,f2,f3,f4,f5⟩:=hf it (by simp)
  refine wpAny_pyNext_tuple_item st (show s.heap.IsTuple a its.toArray from p) (x:=u) (by simpa using hu) λh' st' sb=>?_
  have I1:Inv X pins σ H {s with heap:=h'}:=I.turned (t':=s.toks) (λb o hb e=>(sb.2 b hb).trans e) f0 f1 f3 f4 f5
  obtain⟨o,e,c,d⟩:=id st';exact⟨u,rfl,ZN (s:={s with heap:=h'}) e c d (by decide) ⟨x,H,I1,ru,⟨rfl,λys hy=>by rw[I.t8 hy hq];exact hx⟩,st',λb hb=>(hf b hb).1⟩⟩
 c:=by
  intro X hP hw hK hc i pins s σ H E I hf st hg;subst hP hw hK;obtain⟨xs,hq,hx⟩:=hg;obtain⟨its,rv,p,hz⟩:=I.tuple hq;obtain⟨f0,f1,f2,f3,f4,f5⟩:=hf it (by simp)
  have hl:=rv.length;exact wpAny_pyNext_tuple_end (I.y.a hc) st (show s.heap.IsTuple a its.toArray from p) (by simp;omega) λh' eb=>⟨rfl,I.turned (t':=s.toks) (λb o hb e=>eb b o hb e) f0 f1 f3 f4 f5⟩
 f:=λ_ _ _ _ _ st h=>wpAny_pyIter_tupleiter st h
def gk{K}it lo n:Turn P w K tg (Itr lo n) [it] it (λi h=>IsRangeIter h it (lo+(i:Nat)*1) ((n:Int)-(i:Nat)) 1) where
 g:=by simp
 e:=λi h st b hb=>by
  have e:b=it:=by simpa using hb
  subst e;exact⟨_,st,λv z=>by have z':E4 _=E6 v:=z;cases z'⟩
 a:=λi h h' st k=>k it (by simp) _ st
 d:=by
  intro X hP hw hK hc i pins s σ H E I hf st hg;subst hP hw hK;obtain⟨f0,f1,f2,f3,f4,f5⟩:=hf it (by simp)
  have W:=Walks.range (prog:=X.f) (w:=X.w) (I.y.a hc) it lo 1 n;refine W.item i s _ _ hg st λv h' tk hv st' kk=>?_;obtain⟨t,rfl⟩:=hv;have I1:Inv X pins σ H {s with heap:=h',toks:=tk}:=I.turned (λb o hb e=>kk b o (by simpa using hb) e) f0 f1 f3 f4 f5
  refine⟨_,rfl,ZN (s:={s with heap:=h',toks:=tk}) (n:="range_iterator") st' rfl rfl (by decide) ⟨.d (lo+i),H,I1,⟨t,?_⟩,⟨rfl,rfl⟩,st',λb hb=>(hf b hb).1⟩⟩
  rw[Int.mul_one]
 c:=by
  intro X hP hw hK hc i pins s σ H E I hf st hg;subst hP hw hK;obtain⟨f0,f1,f2,f3,f4,f5⟩:=hf it (by simp)
  exact wpAny_pyNext_range_end (I.y.a hc) st (by have:n<=i:=hg;omega) λh' eb=>⟨rfl,I.turned (t':=s.toks) (λb o hb e=>eb b o hb e) f0 f1 f3 f4 f5⟩
 f:=λ_ _ _ _ _ st h=>wpAny_pyIter_rangeiter st h
section
variable {X:Cx}{tg:Expr}
def QY(K:Ay)(tl:TE):TI:=λσ H R=>tl σ H λx H1=>∃a,x=.c a/\(∃xs,SqL K H1 a xs)/\R (Itl K a) H1
def Oe(K:Ay)(tl:TE):TI:=λσ H R=>tl σ H λx H1=>∃a,x=.c a/\(∃xs,SqT K H1 a xs)/\R (Itt K a) H1
def eD(hl:PE X l tl):PI X tg l (QY X.K tl):=by
 intro pins s σ H R I h;refine thn (hl pins s σ H _ I h) λv s1 ⟨x,H1,I1,r1,q1⟩=>?_;obtain⟨a,e,⟨xs,hq⟩,q⟩:=q1;subst e;cases r1;obtain⟨its,rv,p,hz⟩:=I1.list hq;refine DC p.isList ?_;refine⟨s1.heap.objs.size,[s1.heap.objs.size],_,_,H1,rfl,I1.kept (t':=s1.toks) λb o e=>zO _ e,bZ a _,⟨_,As _ rfl,rfl,rfl⟩,λb hb=>?_,q⟩;have e:b=s1.heap.objs.size:=by simpa using hb
 subst e;exact I1.ZE (Ac _) (I1.j.fresh (Ac _))
def YM(hl:PE X l tl):PI X tg l (Oe X.K tl):=by
 intro pins s σ H R I h;refine thn (hl pins s σ H _ I h) λv s1 ⟨x,H1,I1,r1,q1⟩=>?_;obtain⟨a,e,⟨xs,hq⟩,q⟩:=q1;subst e;cases r1;obtain⟨its,rv,p,hz⟩:=I1.tuple hq;refine B1 (show s1.heap.IsTuple a its.toArray from p) ?_;refine⟨s1.heap.objs.size,[s1.heap.objs.size],_,_,H1,rfl,I1.kept (t':=s1.toks) λb o e=>zO _ e,gm a _,⟨_,As _ rfl,rfl,rfl⟩,λb hb=>?_,q⟩;have e:b=s1.heap.objs.size:=by simpa using hb
 subst e;exact I1.ZE (Ac _) (I1.j.fresh (Ac _))
def jX{lo hi}(I:Inv X pins σ H s)(h1:-(2 ^ 62)<=lo)(h2:lo<2 ^ 62)(h3:-(2 ^ 62)<=hi)(h4:hi<2 ^ 62)
 (q:R (Itr lo (hi-lo).toNat) H):wpAny (model X.f X.w) X.A (pyIter (.ref s.heap.objs.size)) (PIE X pins σ tg R) E {s with heap:=s.heap.push {cls:=.type "range",data:=.fields #[.int lo t,.int hi u,.int 1 v]},toks:=tk}:=by
 refine wpAny_pyIter_range (IsRange.new ..) (small_one h1 h2 h3 h4) ?_;have I1:Inv X pins σ H {s with heap:=s.heap.push {cls:=.type "range",data:=.fields #[.int lo t,.int hi u,.int 1 v]},toks:=tk}:=I.kept λb o e=>zO _ e
 refine⟨(s.heap.push {cls:=.type "range",data:=.fields #[.int lo t,.int hi u,.int 1 v]}).objs.size,[(s.heap.push {cls:=.type "range",data:=.fields #[.int lo t,.int hi u,.int 1 v]}).objs.size],_,_,H,rfl,
  I1.kept (t':=tk) λb o e=>zO _ e,gk _ lo (hi-lo).toNat,?_,λb hb=>?_,q⟩
 . have e1:lo+((0:Nat):Int)*1=lo:=by simp
   have e2:(((hi-lo).toNat:Nat):Int)-((0:Nat):Int)=Cz lo hi 1:=by rw[rangeSize_one];split<;>omega
   show IsRangeIter _ _ (lo+((0:Nat):Int)*1) ((((hi-lo).toNat:Nat):Int)-((0:Nat):Int)) 1;rw[e1,e2];exact As _ rfl
 . have e:b=(s.heap.push {cls:=.type "range",data:=.fields #[.int lo t,.int hi u,.int 1 v]}).objs.size:=by simpa using hb
   subst e;exact I1.ZE (Ac _) (I1.j.fresh (Ac _))
def QZ(ta:TA):TI:=λσ H R=>ta σ H λvs H1=>∃j:Int,vs=[.d j]∧-(2 ^ 62)<=j/\j<2 ^ 62/\R (Itr 0 j.toNat) H1
def Qa(ta:TA):TI:=λσ H R=>ta σ H λvs H1=>∃i j:Int,vs=[.d i,.d j]/\(-(2 ^ 62)<=i/\i<2 ^ 62∧-(2 ^ 62)<=j/\j<2 ^ 62)/\R (Itr i (j-i).toNat) H1
def cy(hg:Gl X "range")(hm:X.d "range"=none)(ha:PA X [a] ta)(hs:AQ [a] X.a=[(false,eval a X.a)]:=by rfl):PI X tg (.Call (.Name "range" p) [a] [] pos) (QZ ta):=by
 intro pins s σ H R I h;refine Call_ (sS I hg hm boot_range (Cc (thn (ha pos pins s σ H _ I h) λus s1 ⟨vs,H1,I1,r1,q1⟩=>?_) hs rfl));obtain⟨j,e,q1,q2,q⟩:=q1;subst e;cases r1 with
 |cons r rr=>
  cases rr;obtain⟨t,rfl⟩:=r;exact call_range_1 (jX I1 ⋯ ⋯ q1 q2 (by simpa using q))
def cz(hg:Gl X "range")(hm:X.d "range"=none)(ha:PA X [a,b] ta)(hs:AQ [a,b] X.a=[(false,eval a X.a),(false,eval b X.a)]:=by rfl)(hs2:AQ [b] X.a=[(false,eval b X.a)]:=by rfl) :
 PI X tg (.Call (.Name "range" p) [a,b] [] pos) (Qa ta):=by
 intro pins s σ H R I h;refine Call_ (sS I hg hm boot_range (Cc (thn (ha pos pins s σ H _ I h) λus s1 ⟨vs,H1,I1,r1,q1⟩=>?_) (by rw[hs,hs2]) (by rw[hs2];rfl)))
 obtain⟨i,j,e,⟨q1,q2,q3,q4⟩,q⟩:=q1;subst e;cases r1 with
 |cons r rr=>
  cases rr with
  |cons r' rr=>
   cases rr;obtain⟨t,rfl⟩:=r;obtain⟨t',rfl⟩:=r';exact call_range_2 (jX I1 q1 q2 q3 q4 q)
def O8(wi:TI)(g:TG)(tb:TS):TS:=λD σ H=>wi σ H λJ H1=>∃W:Nat->Nat->St->Hp->Prop,(∃m,W 0 m σ H1)/\∀i m σ H,W i m σ H ->
 (J.a i H/\D.a σ H)\/(J.c i H/\∃N:St->Hp->Prop,(∀σ' H',N σ' H'->∃m',m'<m/\W (i+1) m' σ' H')/\∀x H',J.b i H x H'->g x σ H' λσ2 H2=>tb {D with a:=N,c:=N,b:=D.a} σ2 H2)
noncomputable def oH(fp:List Addr)(h:Heap):List (Addr × Obj):=fp.filterMap λb=>(h.get? b).map λo=>(b,o)
def uP(hb:b∈fp)(e:h.get? b=some o):(b,o)∈oH fp h:=CK.mpr ⟨b,hb,by rw[e];rfl⟩
def cH(hp:p∈oH fp h):p.1∈fp/\h.get? p.1=some p.2:=by
 obtain⟨b,hb,e⟩:=CK.mp hp;cases q:h.get? b with
 |none=>rw[q]at e;cases e
 |some o=>
  rw[q]at e;have e':(b,o)=p:=Am e;subst e';exact⟨hb,q⟩
def Inv.pinned(I:Inv X pins σ H s)(hf:∀b∈fp,uG X pins H b)(ho:∀b∈fp,∃o,s.heap.get? b=some o/\∀v,o.data≠.cell v):Inv X (pins++oH fp s.heap) σ H s:=
 I.eG λp hp=>(AO.mp hp).elim (λz=>I.O p (AU _ z)) λz=>by obtain⟨hb,e⟩:=cH z;obtain⟨f0,f1,f2,_⟩:=hf p.1 hb;obtain⟨o,e',d⟩:=ho p.1 hb;rw[e]at e';cases e';exact⟨e,f0,f1,f2,d⟩
def Inv.rY(I:Inv X (pins++pl) σ H s):Inv X pins σ H s:=I.eG λp hp=>I.O p (AU _ (Bs _ hp))
def RL(hp:E5 (model X.f X.w) X.A X.a X.h)(hc:X.g=true)(hi:PI X tg iter wi)(hg:PG X tg g)(hb:PSs X body tb)
 (hs:∀x,A0 iter X.a x=pure x:=by intro _;rfl):PS X (.For tg iter body [] pos) (O8 wi g tb):=by
 intro pins s σ H D I h;refine wpAny_For (thn (hi pins s σ H _ I h) λv s1 h1=>thn h1 λitv s2 h2=>?_) hs;obtain⟨it,fp,tn,J,H2,e,I2,T,st2,f2,W,⟨m0,w0⟩,turn⟩:=h2;subst e
 -- what stays true of the iterator's objects through the loop
 have stat:∀{H':Hp},(∀b∈fp,H' b=none)->∀b∈fp,uG X pins H' b:=λhn b hb=>⟨hn b hb,(f2 b hb).2⟩;refine codeAny_forLoop_any (λn s'=>∃i σ' H',Inv X pins σ' H' s'/\tn i s'.heap/\(∀b∈fp,H' b=none)/\W i n σ' H') ?_ m0 ⟨0,σ,H2,I2,st2,λb hb=>(f2 b hb).1,w0⟩;rintro n s3 ⟨i,σ3,H3,I3,st3,fr3,w3⟩;rcases turn i n σ3 H3 w3 with⟨stop,qn⟩|⟨go,N,hN,step⟩
 . refine CP hp (thn (T.c X rfl rfl rfl hc i pins s3 σ3 H3 X.h I3 (stat fr3) st3 stop) λr s4 ⟨hr,I4⟩=>?_)
   subst hr;exact Gr ⟨σ3,H3,I4,qn⟩
 . refine CP hp (thn (T.d X rfl rfl rfl hc i pins s3 σ3 H3 X.h I3 (stat fr3) st3 go) λr s4 ⟨u,hr,h4⟩=>?_)
   subst hr;refine CP hp (thn h4 λ_ s5 ⟨x,H5,I5,r5,y5,st5,fr5⟩=>?_);have I5':=I5.pinned (stat fr5) (T.e _ _ st5);refine CP hp (thn (hg _ s5 σ3 H5 x u _ I5' r5 (step x H5 y5)) λ_ s6 ⟨σ6,H6,I6,q6⟩=>?_);refine CP hp (thn (hb _ s6 σ6 H6 _ I6 q6) λf s7 q7=>?_);have again:∀{σ7:St} {H7:Hp},Inv X (pins++oH fp s5.heap) σ7 H7 s7->N σ7 H7->∃m,m<n/\∃i σ' H',Inv X pins σ' H' s7/\tn i s7.heap/\(∀b∈fp,H' b=none)/\W i m σ' H':=λ{σ7 H7} I7 n7=>by obtain⟨m',hm,w7⟩:=hN σ7 H7 n7;refine⟨m',hm,i+1,σ7,H7,I7.rY,T.a _ _ _ st5 λb hb o e=>(I7.O (b,o) (AU _ (AU _ (uP hb e)))).1,λb hb=>?_,w7⟩;obtain⟨o,e,d⟩:=T.e _ _ st5 b hb;exact(I7.O (b,o) (AU _ (AU _ (uP hb e)))).2.1
   cases f with
   |next=>obtain⟨σ7,H7,I7,n7⟩:=q7;exact again I7 n7
   |cont=>obtain⟨σ7,H7,I7,n7⟩:=q7;exact again I7 n7
   |brk=>obtain⟨σ7,H7,I7,q7⟩:=q7;exact⟨σ7,H7,I7.rY,q7⟩
   |ret v=>obtain⟨x7,σ7,H7,I7,r7,q7⟩:=q7;exact⟨x7,σ7,H7,I7.rY,r7,q7⟩
end
abbrev R2:=V->V->Hp->VK->Prop
def OpR(X:Cx)(f:Value->Value->Sem Value)(r:R2):Prop:=
 ∀(pins:List (Addr × Obj)) (s:Shared) (σ:St) (H:Hp) (x y:V) (v u:Value) (Q:VK),Inv X pins σ H s->RelV x v->RelV y u->r x y H Q ->
  wpAny (model X.f X.w) X.A (f v u) (EP X pins σ Q) X.h s
def UnR(X:Cx)(f:Value->Sem Value)(r:V->Hp->VK->Prop):Prop:=
 ∀(pins:List (Addr × Obj)) (s:Shared) (σ:St) (H:Hp) (x:V) (v:Value) (Q:VK),Inv X pins σ H s->RelV x v->r x H Q ->
  wpAny (model X.f X.w) X.A (f v) (EP X pins σ Q) X.h s
def yw(X:Cx)(f:Value)(r:List V->Hp->VK->Prop):Prop:=
 ∀(pins:List (Addr × Obj)) (s:Shared) (σ:St) (H:Hp) (xs:List V) (us:List Value) (Q:VK),Inv X pins σ H s->Vals xs us->r xs H Q ->
  wpAny (model X.f X.w) X.A (call f us) (EP X pins σ Q) X.h s
def OX(X:Cx)(r:V->Hp->(Bool->Hp->Prop)->Prop):Prop:=
 ∀(pins:List (Addr × Obj)) (s:Shared) (σ:St) (H:Hp) (x:V) (v:Value) (Q:Bool->Hp->Prop),Inv X pins σ H s->RelV x v->r x H Q ->
  wpAny (model X.f X.w) X.A (truthy v) (TP X pins σ Q) X.h s
def tOp(r:R2)(ta tb:TE):TE:=λσ H Q=>ta σ H λx H1=>tb σ H1 λy H2=>r x y H2 Q
def tUn(r:V->Hp->VK->Prop)(ta:TE):TE:=λσ H Q=>ta σ H λx H1=>r x H1 Q
def rI(C:Int->Int->Prop)(g:Int->Int->V):R2:=λx y H Q=>∃i j,x=.d i/\y=.d j/\C i j/\Q (g i j) H
def rI0(g:Int->Int->V):R2:=λx y H Q=>∃i j,x=.d i/\y=.d j/\Q (g i j) H
def rU(g:Int->V):V->Hp->VK->Prop:=λx H Q=>∃i,x=.d i/\Q (g i) H
section
variable {X:Cx}{a b c:Expr}{ta tb tc:TE}{pos:Pos}
def Uc(ha:PE X a ta)(hb:PE X b tb){R:V->V->Hp->Prop}(I:Inv X pins σ H s)
 (h:ta σ H λx H1=>tb σ H1 λy H2=>R x y H2)  {f:Value->Value->Sem Value}
 (hf:∀v u s2 x y H2,Inv X pins σ H2 s2->RelV x v->RelV y u->R x y H2->wpAny (model X.f X.w) X.A (f v u) Q X.h s2) :
 wpAny (model X.f X.w) X.A (eval a X.a) (λv s₁=>wpAny (model X.f X.w) X.A (eval b X.a) (λu s₂=>wpAny (model X.f X.w) X.A (f v u) Q X.h s₂) X.h s₁) X.h s:=by
 refine thn (ha pins s σ H _ I h) λv s1 ⟨x,H1,I1,r1,q1⟩=>?_;refine thn (hb pins s1 σ H1 _ I1 q1) λu s2 ⟨y,H2,I2,r2,q2⟩=>?_;exact hf v u s2 x y H2 I2 r1 r2 q2
def Pa(ho:OpR X (BI op) r)(ha:PE X a ta)(hb:PE X b tb):PE X (.BinOp a op b pos) (tOp r ta tb):=by intro pins s σ H Q I h;exact wpAny_BinOp (Uc ha hb I h λv u s2 x y H2 I2 rx ry q=>ho pins s2 σ H2 x y v u Q I2 rx ry q)
def Pc(ho:UnR X (unaryOp op) r)(ha:PE X a ta):PE X (.UnaryOp op a pos) (tUn r ta):=by intro pins s σ H Q I h;exact UnaryOp_ (thn (ha pins s σ H _ I h) λv s1 ⟨x,H1,I1,r1,q1⟩=>ho pins s1 σ H1 x v Q I1 r1 q1)
def opI{f:Value->Value->Sem Value}{C:Int->Int->Prop}{g:Int->Int->Int}
 (rule:∀i j t u (s:Shared) (Q:Value->Shared->Prop) E,C i j->Q (.int (g i j) s.toks) {s with toks:=s.toks+1}->wpAny (model X.f X.w) X.A (f (.int i t) (.int j u)) Q E s) :
 OpR X f (rI C λi j=>.d (g i j)):=by
 intro pins s σ H x y v u Q I rx ry h;obtain⟨i,j,rfl,rfl,hc,q⟩:=h;obtain⟨t,rfl⟩:=rx;obtain⟨t',rfl⟩:=ry;exact rule i j t t' s _ _ hc ⟨.d (g i j),H,I.tok _,⟨_,rfl⟩,q⟩
def Wk{f:Value->Value->Sem Value}{g:Int->Int->Int}
 (rule:∀i j t u (s:Shared) (Q:Value->Shared->Prop) E,Q (.int (g i j) s.toks) {s with toks:=s.toks+1}->wpAny (model X.f X.w) X.A (f (.int i t) (.int j u)) Q E s) :
 OpR X f (rI0 λi j=>.d (g i j)):=by
 intro pins s σ H x y v u Q I rx ry h;obtain⟨i,j,rfl,rfl,q⟩:=h;obtain⟨t,rfl⟩:=rx;obtain⟨t',rfl⟩:=ry;exact rule i j t t' s _ _ ⟨.d (g i j),H,I.tok _,⟨_,rfl⟩,q⟩
def Wj{f:Value->Value->Sem Value}{g:Int->Int->Bool}
 (rule:∀i j t u s (Q:Value->Shared->Prop) E,Q (.bool (g i j)) s->wpAny (model X.f X.w) X.A (f (.int i t) (.int j u)) Q E s) :
 OpR X f (rI0 λi j=>.e (g i j)):=by
 intro pins s σ H x y v u Q I rx ry h;obtain⟨i,j,rfl,rfl,q⟩:=h;obtain⟨t,rfl⟩:=rx;obtain⟨t',rfl⟩:=ry;exact rule i j t t' s _ _ ⟨.e (g i j),H,I,rfl,q⟩
def US(i j:Int):Prop:=0<j/\j<1073741824
def OT(i j:Int):Prop:=0<=j/\j<=1000000/\i.natAbs<2 ^ 64
def Xc(i j:Int):Prop:=(-(2 ^ 64)<i/\i<2 ^ 64)\/(-(2 ^ 64)<j/\j<2 ^ 64)
def Xc.ok(h:Xc i j):IntMulOk i j:=by
 rcases h with⟨h1,h2⟩|⟨h1,h2⟩
 . exact .of_left (intBits_le_64 h1 h2)
 . exact .of_right (intBits_le_64 h1 h2)
def SN:OpR X (BI .Add) (rI0 λi j=>.d (i+j)):=Wk λ_ _ _ _ _ _ _ q=>add_int q
def Sb:OpR X (BI .Sub) (rI0 λi j=>.d (i-j)):=Wk λ_ _ _ _ _ _ _ q=>sub_int q
def SX:OpR X (BI .Mult) (rI Xc λi j=>.d (i*j)):=opI λ_ _ _ _ _ _ _ hc q=>mul_int q hc.ok
def Wm:OpR X (BI .FloorDiv) (rI US λi j=>.d (i/j)):=opI λi j _ _ _ _ _ hc q=>by have h1:(0:Int)<j:=hc.1;have h2:j<1073741824:=hc.2;exact floordiv_int ⋯ (by rw[DV i ⋯];exact q) (.inl (Em ⋯))
def SW:OpR X (BI .Mod) (rI (λ_ j=>0<j) λi j=>.d (i%j)):=opI λi j _ _ _ _ _ hc q=>by have h1:(0:Int)<j:=hc;exact mod_int' ⋯ (by rw[DW i ⋯];exact q)
def SY:OpR X (BI .Pow) (rI OT λi j=>.d (i ^ j.toNat)):=opI λ_ _ _ _ _ _ _ hc q=>pow_int_small hc.1 hc.2.1 hc.2.2 q
def WA:OpR X (Eb .Add) (rI0 λi j=>.d (i+j)):=Wk λ_ _ _ _ _ _ _ q=>iadd_int q
def WD:OpR X (Eb .Sub) (rI0 λi j=>.d (i-j)):=Wk λ_ _ _ _ _ _ _ q=>isub_int q
def WC:OpR X (Eb .Mult) (rI Xc λi j=>.d (i*j)):=opI λ_ _ _ _ _ _ _ hc q=>imul_int q hc.ok
def ZP:OpR X (Eb .FloorDiv) (rI US λi j=>.d (i/j)):=opI λi j _ _ _ _ _ hc q=>by have h1:(0:Int)<j:=hc.1;have h2:j<1073741824:=hc.2;exact ifloordiv_int ⋯ (by rw[DV i ⋯];exact q) (.inl (Em ⋯))
def WB:OpR X (Eb .Mod) (rI (λ_ j=>0<j) λi j=>.d (i%j)):=opI λi j _ _ _ _ _ hc q=>by have h1:(0:Int)<j:=hc;exact imod_int ⋯ (by rw[DW i ⋯];exact q)
def unI{f:Value->Sem Value}{g:Int->Int}
 (rule:∀i t (s:Shared) (Q:Value->Shared->Prop) E,Q (.int (g i) s.toks) {s with toks:=s.toks+1}->wpAny (model X.f X.w) X.A (f (.int i t)) Q E s) :
 UnR X f (rU λi=>.d (g i)):=by
 intro pins s σ H x v Q I rx h;obtain⟨i,rfl,q⟩:=h;obtain⟨t,rfl⟩:=rx;exact rule i t s _ _ ⟨.d (g i),H,I.tok _,⟨_,rfl⟩,q⟩
def Rt:UnR X (unaryOp .USub) (rU λi=>.d (-i)):=unI λ_ _ _ _ _ q=>neg_int q
end
noncomputable def OA:V->V->Bool
 |.g,.g=>true|.g,.d _=>true|.d _,.g=>true|.g,.e _=>true|.e _,.g=>true|.g,.f _=>true|.f _,.g=>true
 |.d _,.d _=>true|.e _,.e _=>true|.f _,.f _=>true|.h _,.h _=>true
 |.d _,.f _=>true|.f _,.d _=>true|.e _,.f _=>true|.f _,.e _=>true
 |_,_=>false
def rEq:R2:=λx y H Q=>OA x y=true/\Q (.e (decide (x=y))) H
def rNe:R2:=λx y H Q=>OA x y=true/\Q (.e (!decide (x=y))) H
def fN:decide (V.d i=V.d j)=(i == j):=by rw[Ce];simp
def aW:decide (V.e i=V.e j)=(i == j):=by rw[Ce];simp
def fO:decide (V.f i=V.f j)=(i == j):=by rw[Ce];simp
def fM:decide (V.h i=V.h j)=(i.toList == j.toList):=by rw[Ce];cases i;cases j;simp
section
variable {X:Cx}{a b c:Expr}{ta tb tc:TE}{pos:Pos}
def zx(I:Inv X pins σ H s)(q:Q (.e k) H)(e:k=k'):EP X pins σ Q (.bool k') s:=by subst e;exact⟨.e k,H,I,rfl,q⟩
def Qz:OpR X (A8 .Eq) rEq:=by
 intro pins s σ H x y v u Q I rx ry h;obtain⟨hs,q⟩:=h;cases x with
 |g=>
  cases rx;cases y with
  |g=>cases ry;exact PySem.EqNone.eq_none_none (zx I q (by simp))
  |e j=>cases ry;exact PySem.EqNone.eq_none_bool (zx I q (by simp))
  |d j=>obtain⟨t',rfl⟩:=ry;exact PySem.EqNone.eq_none_int (zx I q (by simp))
  |f j=>obtain⟨t',rfl⟩:=ry;exact PySem.EqNone.eq_none_str (zx I q (by simp))
  |_=>exact absurd (show false=true from hs) Aa
 |e i=>
  cases rx;cases y with
  |g=>cases ry;exact PySem.EqNone.eq_bool_none (zx I q (by simp))
  |e j=>cases ry;exact eq_bool (zx I q aW)
  |f j=>obtain⟨t',rfl⟩:=ry;exact PySem.EqMixed.eq_bool_str (zx I q (by simp))
  |_=>exact absurd (show false=true from hs) Aa
 |d i=>
  obtain⟨t,rfl⟩:=rx;cases y with
  |g=>cases ry;exact PySem.EqNone.eq_int_none (zx I q (by simp))
  |d j=>obtain⟨t',rfl⟩:=ry;exact eq_int (zx I q fN)
  |f j=>obtain⟨t',rfl⟩:=ry;exact PySem.EqMixed.eq_int_str (zx I q (by simp))
  |_=>exact absurd (show false=true from hs) Aa
 |f i=>
  obtain⟨t,rfl⟩:=rx;cases y with
  |g=>cases ry;exact PySem.EqNone.eq_str_none (zx I q (by simp))
  |e j=>cases ry;exact PySem.EqMixed.eq_str_bool (zx I q (by simp))
  |d j=>obtain⟨t',rfl⟩:=ry;exact PySem.EqMixed.eq_str_int (zx I q (by simp))
  |f j=>obtain⟨t',rfl⟩:=ry;exact eq_str (zx I q fO)
  |_=>exact absurd (show false=true from hs) Aa
 |h i=>
  obtain⟨t,rfl⟩:=rx;cases y with
  |h j=>obtain⟨t',rfl⟩:=ry;exact PySem.W.eq_bytes (zx I q fM)
  |_=>exact absurd (show false=true from hs) Aa
 |_=>cases y<;>exact absurd (show false=true from hs) Aa
def Q4:OpR X (A8 .NotEq) rNe:=by
 intro pins s σ H x y v u Q I rx ry h;obtain⟨hs,q⟩:=h;cases x with
 |g=>
  cases rx;cases y with
  |g=>cases ry;exact PySem.EqNone.ne_none_none (zx I q (by simp))
  |e j=>cases ry;exact PySem.EqNone.ne_none_bool (zx I q (by simp))
  |d j=>obtain⟨t',rfl⟩:=ry;exact PySem.EqNone.ne_none_int (zx I q (by simp))
  |f j=>obtain⟨t',rfl⟩:=ry;exact PySem.EqNone.ne_none_str (zx I q (by simp))
  |_=>exact absurd (show false=true from hs) Aa
 |e i=>
  cases rx;cases y with
  |g=>cases ry;exact PySem.EqNone.ne_bool_none (zx I q (by simp))
  |e j=>cases ry;exact ne_bool (zx I q (congrArg not aW))
  |f j=>obtain⟨t',rfl⟩:=ry;exact PySem.EqMixed.ne_bool_str (zx I q (by simp))
  |_=>exact absurd (show false=true from hs) Aa
 |d i=>
  obtain⟨t,rfl⟩:=rx;cases y with
  |g=>cases ry;exact PySem.EqNone.ne_int_none (zx I q (by simp))
  |d j=>obtain⟨t',rfl⟩:=ry;exact ne_int (zx I q (congrArg not fN))
  |f j=>obtain⟨t',rfl⟩:=ry;exact PySem.EqMixed.ne_int_str (zx I q (by simp))
  |_=>exact absurd (show false=true from hs) Aa
 |f i=>
  obtain⟨t,rfl⟩:=rx;cases y with
  |g=>cases ry;exact PySem.EqNone.ne_str_none (zx I q (by simp))
  |e j=>cases ry;exact PySem.EqMixed.ne_str_bool (zx I q (by simp))
  |d j=>obtain⟨t',rfl⟩:=ry;exact PySem.EqMixed.ne_str_int (zx I q (by simp))
  |f j=>obtain⟨t',rfl⟩:=ry;exact ne_str (zx I q (congrArg not fO))
  |_=>exact absurd (show false=true from hs) Aa
 |h i=>
  obtain⟨t,rfl⟩:=rx;cases y with
  |h j=>obtain⟨t',rfl⟩:=ry;exact PySem.W.ne_bytes (zx I q (congrArg not fM))
  |_=>exact absurd (show false=true from hs) Aa
 |_=>cases y<;>exact absurd (show false=true from hs) Aa
def Q3:OpR X (A8 .Lt) (rI0 λi j=>.e (decide (i<j))):=Wj λ_ _ _ _ _ _ _ q=>lt_int q
def Q2:OpR X (A8 .LtE) (rI0 λi j=>.e (decide (i<=j))):=Wj λ_ _ _ _ _ _ _ q=>le_int q
def Q1:OpR X (A8 .Gt) (rI0 λi j=>.e (decide (j<i))):=Wj λ_ _ _ _ _ _ _ q=>gt_int q
def Q0:OpR X (A8 .GtE) (rI0 λi j=>.e (decide (j<=i))):=Wj λ_ _ _ _ _ _ _ q=>ge_int q
def SS:OpR X (A8 .Is) (λx y H Q=>y=.g/\Q (.e (decide (x=.g))) H):=by
 intro pins s σ H x y v u Q I rx ry h;obtain⟨rfl,q⟩:=h;cases ry;refine is_none_gen (zx I q ?_);cases x<;>first
  |(cases rx;rfl)
  |(obtain⟨t,rfl⟩:=rx;rfl)
def Wn:OpR X (A8 .IsNot) (λx y H Q=>y=.g/\Q (.e (!decide (x=.g))) H):=by
 intro pins s σ H x y v u Q I rx ry h;obtain⟨rfl,q⟩:=h;cases ry;refine isnot_none_gen (zx I q ?_);cases x<;>first
  |(cases rx;rfl)
  |(obtain⟨t,rfl⟩:=rx;rfl)
def W3(ho:OpR X (A8 op) r)(ha:PE X a ta)(hb:PE X b tb)(hm:GO op b=false):PE X (.Compare a [op] [b] pos) (tOp r ta tb):=by intro pins s σ H Q I h;exact wpAny_Compare1 (Uc ha hb I h λv u s2 x y H2 I2 rx ry q=>ho pins s2 σ H2 x y v u Q I2 rx ry q) hm
def UM(t:TE):TT:=λσ H Q=>t σ H λx H'=>∃k,x=.e k/\Q k H'
def VH(ho:OpR X (A8 op) r)(ha:PE X a ta)(hb:PE X b tb)(hm:GO op b=false):PT X (.Compare a [op] [b] pos) (UM (tOp r ta tb)):=by
 intro pins s σ H Q I h;refine wpAny_isTrue_Compare1 (thn (ha pins s σ H _ I h) λv s1 ⟨x,H1,I1,r1,q1⟩=>thn (hb pins s1 σ H1 _ I1 q1) λu s2 ⟨y,H2,I2,r2,q2⟩=>
  thn (ho pins s2 σ H2 x y v u _ I2 r1 r2 q2) λc s3 ⟨z,H3,I3,r3,k,e,q3⟩=>?_) hm
 subst e;cases r3;exact Cb ⟨H3,I3,q3⟩
def XB(r r':R2)(ta tb tc:TE):TE:=λσ H Q=>ta σ H λx H1=>tb σ H1 λy H2=>r x y H2 λz H3=>∃k,z=.e k /\
 (if k=true then tc σ H3 λw' H4=>r' y w' H4 Q else Q (.e false) H3)
def YG(ho:OpR X (A8 op) r)(ho':OpR X (A8 op') r')(ha:PE X a ta)(hb:PE X b tb)(hc:PE X c tc)
 (hm:GU [op,op'] [b,c]=false:=by with_unfolding_all rfl):PE X (.Compare a [op,op'] [b,c] pos) (XB r r' ta tb tc):=by
 intro pins s σ H Q I h;refine Compare_chain (thn (ha pins s σ H _ I h) λv s1 ⟨x,H1,I1,r1,q1⟩=>chain_link (thn (hb pins s1 σ H1 _ I1 q1) λu s2 ⟨y,H2,I2,r2,q2⟩=>
  thn (ho pins s2 σ H2 x y v u _ I2 r1 r2 q2) λd s3 ⟨z,H3,I3,r3,k,e,q3⟩=>?_)) hm
 subst e;cases r3;refine Cb ?_;cases k with
 |false=>exact ite_ff ⟨.e false,H3,I3,rfl,q3⟩
 |true=>exact ite_tt (chain_last (thn (hc pins s3 σ H3 _ I3 q3) λw' s4 ⟨z',H4,I4,r4,q4⟩=>ho' pins s4 σ H4 y z' u w' Q I4 r2 r4 q4))
def YX(ho:OpR X (A8 op) r)(ho':OpR X (A8 op') r')(ha:PE X a ta)(hb:PE X b tb)(hc:PE X c tc)
 (hm:GU [op,op'] [b,c]=false:=by with_unfolding_all rfl):PT X (.Compare a [op,op'] [b,c] pos) (UM (XB r r' ta tb tc)):=by
 intro pins s σ H Q I h;refine isTrue_chain (thn (ha pins s σ H _ I h) λv s1 ⟨x,H1,I1,r1,q1⟩=>test_link (thn (hb pins s1 σ H1 _ I1 q1) λu s2 ⟨y,H2,I2,r2,q2⟩=>
  thn (ho pins s2 σ H2 x y v u _ I2 r1 r2 q2) λd s3 ⟨z,H3,I3,r3,k,e,q3⟩=>?_)) hm
 subst e;cases r3;refine Cb ?_;cases k with
 |false=>
  obtain⟨k',e',q'⟩:=q3;cases e';exact ite_ff ⟨H3,I3,q'⟩
 |true=>
  refine ite_tt (test_last (thn (hc pins s3 σ H3 _ I3 q3) λw' s4 ⟨z',H4,I4,r4,q4⟩=>thn (ho' pins s4 σ H4 y z' u w' _ I4 r2 r4 q4) λd' s5 ⟨z2,H5,I5,r5,k2,e2,q5⟩=>?_));subst e2;cases r5;exact Cb ⟨H5,I5,q5⟩
def Xf(K:Ay)(x:V)(H:Hp)(k:Bool):Prop:=
 match x with
 |.g=>k=false
 |.e b=>k=b
 |.d i=>k=(i != 0)
 |.f y=>y.length<=Ar/\k=((y.length:Int) != 0)
 |.h y=>y.size<=Ar/\k=((y.size:Int) != 0)
 |.c p=>(∃xs,SqL K H p xs/\k=!xs.isEmpty)\/(∃xs,SqT K H p xs/\k=!xs.isEmpty)\/∃kvs,H p=some (.d kvs)/\k=!kvs.isEmpty
 |_=>False
def iT(r:KV kvs vs):(!vs.isEmpty)=!kvs.isEmpty:=by
 cases r<;>rfl
def pw(r:Vals xs its):(!its.toArray.isEmpty)=!xs.isEmpty:=by
 cases r<;>simp
def sU:(Ar:Nat)<2 ^ 63:=by rw[BR];decide
def XG:OX X (λx H Q=>∃k,Xf X.K x H k/\Q k H):=by
 intro pins s σ H x v Q I rx h;obtain⟨k,e,q⟩:=h;have hl:=sU;have hs:Ar=16777216:=BR;cases x with
 |g=>
  cases rx;have e':k=false:=e;subst e';exact truthy_none ⟨H,I,q⟩
 |e b=>
  cases rx;have e':k=b:=e;subst e';exact Cb ⟨H,I,q⟩
 |d i=>
  obtain⟨t,rfl⟩:=rx;have e':k=(i != 0):=e;subst e';exact PySem.P.truthy_int ⟨H,I,q⟩
 |f y=>
  obtain⟨t,rfl⟩:=rx;obtain⟨hy,e'⟩:y.length<=Ar/\k=((y.length:Int) != 0):=e;subst e';exact PySem.P.truthy_str ⋯ ⟨H,I.tok _,q⟩
 |h y=>
  obtain⟨t,rfl⟩:=rx;obtain⟨hy,e'⟩:y.size<=Ar/\k=((y.size:Int) != 0):=e;subst e';exact PySem.W.truthy_bytes ⋯ ⟨H,I.tok _,q⟩
 |c p=>
  cases rx;have e':(∃xs,SqL X.K H p xs/\k=!xs.isEmpty)\/(∃xs,SqT X.K H p xs/\k=!xs.isEmpty)\/∃kvs,H p=some (.d kvs)/\k=!kvs.isEmpty:=e;rcases e' with⟨xs,hx,e'⟩|⟨xs,hx,e'⟩|⟨kvs,hx,e'⟩
  . subst e'
    obtain⟨its,r,pl,hz⟩:=I.list hx;have hlen:=r.length;exact wpAny_truthy_list pl.isList (by simp only[Ae];omega) ⟨H,I.tok _,by rw[pw r];exact q⟩
  . subst e'
    obtain⟨its,r,pl,hz⟩:=I.tuple hx;have hlen:=r.length;exact truthy_tuple pl (by simp only[Ae];omega) ⟨H,I.tok _,by rw[pw r];exact q⟩
  . subst e'
    obtain⟨hz,hS,vs,r,m⟩:kvs.length<=Ar/\(p == BN)=false/\∃vs,KV kvs vs/\s.heap.DictOf (xY X.f X.w) p vs:=I.j p _ hx;have hlen:kvs.length=vs.length:=Fj r;exact wpAny_truthy_dict hS m ⋯ ⟨H,I.tok _,by rw[iT r];exact q⟩
 |_=>exact(show False from e).elim
def YY(ha:PE X a ta)(he:∀whole,isTrue a X.a whole=(do let v <-whole;standAt a.pos;holding [v] (truthy v))) :
 PT X a (λσ H Q=>ta σ H λx H'=>∃k,Xf X.K x H' k/\Q k H'):=by
 intro pins s σ H Q I h;exact isTrue_plain (thn (ha pins s σ H _ I h) λv s1 ⟨x,H1,I1,r1,q1⟩=>XG pins s1 σ H1 x v Q I1 r1 q1) (he _)
def iq:OpR X (BI .Add) (λx y H Q=>∃i j,x=.f i/\y=.f j/\i.length+j.length<=Ar/\Q (.f (i++j)) H):=by intro pins s σ H x y v u Q I rx ry h;obtain⟨i,j,rfl,rfl,hz,q⟩:=h;obtain⟨t,rfl⟩:=rx;obtain⟨t',rfl⟩:=ry;exact add_str (λt' tk=>⟨.f (i++j),H,I.tok _,⟨_,rfl⟩,q⟩) hz
def vals1(r:Vals [x] us):∃u,us=[u]/\RelV x u:=by
 cases r with
 |cons r1 r2=>cases r2;exact⟨_,rfl,r1⟩
def vals2(r:Vals [x,y] us):∃u w',us=[u,w']/\RelV x u/\RelV y w':=by
 cases r with
 |cons r1 r2=>
  cases r2 with
  |cons r3 r4=>cases r4;exact⟨_,_,rfl,r1,r3⟩
def dF(hc:X.g=true):yw X (.builtin "max") (λxs H Q=>∃i j,xs=[.d i,.d j]/\Q (.d (if j > i then j else i)) H):=by
 intro pins s σ H xs us Q I r h;obtain⟨i,j,rfl,q⟩:=h;obtain⟨u,w',rfl,⟨t,rfl⟩,⟨t',rfl⟩⟩:=vals2 r;refine max_two_ints (I.y.a hc) λh' tk k=>⟨_,H,I.kept k,?_,q⟩;by_cases hj:j > i
 . rw[if_pos hj,if_pos hj];exact⟨_,rfl⟩
 . rw[if_neg hj,if_neg hj];exact⟨_,rfl⟩
def dI(hc:X.g=true):yw X (.builtin "min") (λxs H Q=>∃i j,xs=[.d i,.d j]/\Q (.d (if j<i then j else i)) H):=by
 intro pins s σ H xs us Q I r h;obtain⟨i,j,rfl,q⟩:=h;obtain⟨u,w',rfl,⟨t,rfl⟩,⟨t',rfl⟩⟩:=vals2 r;refine min_two_ints (I.y.a hc) λh' tk k=>⟨_,H,I.kept k,?_,q⟩;by_cases hj:j<i
 . rw[if_pos hj,if_pos hj];exact⟨_,rfl⟩
 . rw[if_neg hj,if_neg hj];exact⟨_,rfl⟩
def nY:yw X (.type "int") (λxs H Q=>(∃i,xs=[.d i]/\Q (.d i) H)\/∃k,xs=[.e k]/\Q (.d (if k then 1 else 0)) H):=by
 intro pins s σ H xs us Q I r h;rcases h with⟨i,rfl,q⟩|⟨k,rfl,q⟩
 . obtain⟨u,rfl,t,rfl⟩:=vals1 r
   exact call_int_int ⟨.d i,H,I,⟨_,rfl⟩,q⟩
 . obtain⟨u,rfl,r1⟩:=vals1 r
   cases r1;exact call_int_bool ⟨.d (if k then 1 else 0),H,I.tok _,⟨_,rfl⟩,q⟩
def ue:yw X (.builtin "divmod") (λxs H Q=>∃i j,xs=[.d i,.d j]/\US i j/\∀p,H p=none->Q (.c p) (upd H p (.c [.d (i/j),.d (i%j)]))):=by
 intro pins s σ H xs us Q I r h;obtain⟨i,j,rfl,⟨h1,h2⟩,q⟩:=h;obtain⟨u,w',rfl,⟨t,rfl⟩,⟨t',rfl⟩⟩:=vals2 r;refine divmod_int ⋯ ?_ (.inl (Em ⋯))
 rw[DV i ⋯,DW i ⋯]
 have hn:H s.heap.objs.size=none:=I.j.fresh (Ac _);refine⟨.c s.heap.objs.size,_,?_,rfl,q _ hn⟩;refine I.laid (λb o e=>zO _ e) (Ac _) ⟨by simp only[An,BE];rw[BR];decide,[.int (i/j) s.toks,.int (i%j) (s.toks+1)],.cons ⟨_,rfl⟩ (.cons ⟨_,rfl⟩ .nil),?_⟩
 exact⟨_,As s.heap rfl,rfl,0,rfl,rfl⟩
end
structure UX(h:Heap)(x dx C:Addr)(mA:Str->Option Value):Prop where
 a:h.get? x=some (Gq C dx)
 ns:h.Ns1 dx mA
 ne:dx≠x
def d6{h:Heap}(n:h.Ns1 dx mA):∃od,h.get? dx=some od/\∀name,Gz name od=some (mA name):=by
 obtain⟨o,es,ep,ho,hd,hk,_,hm⟩:=n;refine⟨o,ho,λname=>?_⟩;have e:=hm name;unfold nsFind findBy at e;rw[<-Array.find?_toList]at e;unfold Gz;rw[hd];dsimp only;split
 . rename_i y q
   rw[q]at e;exact congrArg some e
 . rename_i q
   rw[q]at e;have a:es.toList.any (·.refKey)=false:=by rw[List.any_eq_false];intro y hy;obtain⟨z,t,hkey⟩:=hk y (Array.mem_toList_iff.mp hy);simp[Gk.refKey,hkey]
   have a':¬es.toList.any (·.refKey)=true:=by rw[a];exact Aa
   rw[if_neg a'];exact congrArg some e
def UX.look(I:UX h x dx C mA):∃od,PySem.W.InstAt h x (Gq C dx) C (some od)/\∀name,Gz name od=some (mA name):=
 let ⟨od,ho,hl⟩:=d6 I.ns
 ⟨od,⟨I.a,rfl,rfl,ho⟩,hl⟩
def pN.some_of(r:pN (some v) o):∃u,o=some u/\RelV v u:=by
 cases o with
 |none=>exact(show False from r).elim
 |some u=>exact⟨u,rfl,r⟩
section
variable {P:Program}{w:World}{H H':Hp}{h h':Heap}{a C dx:Addr}{fs fs':List (Str × V)}
def X9(hok:HOk P w H h)(e:H a=some (.k C dx fs)):∃mA,UX h a dx C mA/\(∀f,pN (fs.lookup f) (mA f))/\PySem.Within mA (fs.map (·.1))/\fs.length<=1000/\H dx=some (.g a):=by obtain⟨d,z,ne,ob,mA,n,r,q⟩:=(show yB P w H h a (.k C dx fs) from hok a _ e);exact⟨mA,⟨ob,n,ne⟩,r,q,z,d⟩
end
structure Cls(K:Ay)(C:Addr):Prop where
 pg:PySem.W.plainGet K C Str.empty=true
 hd:PySem.W.hasDictIn K C=true
 po:PySem.W.plainOver K C=true
 sa:PySem.W.findIn K (.ref C) "__setattr__"=some (some (.builtin "object.__setattr__"))
def Cls.get{K}(c:Cls K C)f:PySem.W.plainGet K C f=true:=c.pg
section
variable {X:Cx}{pins:List (Addr × Obj)}{σ:St}{H:Hp}{s:Shared}{A:Around}{E:Value->Shared->Prop}{Q:Value->Shared->Prop}{c:Value}{b:Bool}
inductive sk(K:Ay)(H:Hp):V->Value->Prop where
 |d:sk K H .g (.type "NoneType")
 |bl (x:Bool):sk K H (.e x) (.type "bool")
 |c (i:Int):sk K H (.d i) (.type "int")
 |f (x:Str):sk K H (.f x) (.type "str")
 |h (x:UInt64):sk K H (.j x) (.type "float")
 |b {a:Addr} {xs:List V} (e:H a=some (.b xs)):sk K H (.c a) (.type "list")
 |j {a:Addr} {o:Obj} {xs:List V} (e:H a=some (.j o (.b xs))):sk K H (.c a) (.type "list")
 |g {a:Addr} {xs:List V} (e:H a=some (.c xs)):sk K H (.c a) (.type "tuple")
 |dK {a:Addr} {kvs:List (Key × V)} (e:H a=some (.d kvs)):sk K H (.c a) (.type "dict")
 |dT {a:Addr} {kvs:List (List Key × V)} (e:H a=some (.i kvs)):sk K H (.c a) (.type "dict")
 |k {a C dx:Addr} {fs:List (Str × V)} (e:H a=some (.k C dx fs)) (cl:Cls K C) (ha:PySem.W.findIn K (.ref C) "__class__"=some (some (.builtin "object.__class__")))
  (hn:PySem.W.specialIn K (.builtin "object.__class__") "__get__"=some (some (.builtin "getset_descriptor.__get__"))) (htk:PySem.W.takesIn K (.builtin "object.__class__")=some true)
  (hm:PySem.W.mroIn K C (.type "object")=some true):sk K H (.c a) (.ref C)
def dj(I:Inv X pins σ H s)(rx:RelV x u)(ty:sk X.K H x t)(e:GA X.K t c=some b)(h:∀tk,Q (.bool b) {s with toks:=tk}) :
 wpAny (model X.f X.w) A (call (.builtin "isinstance") [u,c]) Q E s:=by
 cases ty with
 |d=>cases (show u=B7 from rx);exact BS PySem.W.kitx_none I.kIn A5 e (λz=>nomatch z) h
 |bl y=>cases (show u=DM y from rx);exact BS PySem.W.kitx_bool I.kIn A5 e (λz=>nomatch z) h
 |c i=>obtain⟨t,q⟩:=(show ∃t,u=Dd i t from rx);cases q;exact BS PySem.W.kitx_int I.kIn A5 e (λz=>nomatch z) h
 |f y=>obtain⟨t,q⟩:=(show ∃t,u=Gn y t from rx);cases q;exact BS PySem.W.kitx_str I.kIn A5 e (λz=>nomatch z) h
 |h y=>obtain⟨t,q⟩:=(show ∃t,u=Value.float y t from rx);cases q;exact BS PySem.W.kitx_float I.kIn A5 e (λz=>nomatch z) h
 |@b a xs ea=>
  cases (show u=A4 a from rx);obtain⟨_,_,n,_,h1⟩:=(show yB X.f X.w H s.heap a (.b xs) from I.j a _ ea);exact BS PySem.W.kitx_list I.kIn ⟨_,h1,rfl⟩ e (λz=>nomatch z) h
 |@j a ob xs ea=>
  cases (show u=A4 a from rx);obtain⟨_,_,_,n,_,h1⟩:=(show yB X.f X.w H s.heap a (.j ob (.b xs)) from I.j a _ ea);exact BS PySem.W.kitx_list I.kIn ⟨_,h1,rfl⟩ e (λz=>nomatch z) h
 |@g a xs ea=>
  cases (show u=A4 a from rx);obtain⟨_,_,_,p⟩:=(show yB X.f X.w H s.heap a (.c xs) from I.j a _ ea);obtain⟨o,h1,h2,_⟩:=p;exact BS PySem.W.kitx_tuple I.kIn ⟨o,h1,h2⟩ e (λz=>nomatch z) h
 |@dK a kvs ea=>
  cases (show u=A4 a from rx);obtain⟨_,_,vs,_,p⟩:=(show yB X.f X.w H s.heap a (.d kvs) from I.j a _ ea);obtain⟨o,es,ep,h1,h2,_⟩:=p;exact BS PySem.W.kitx_dict I.kIn ⟨o,h1,h2.1⟩ e (λz=>nomatch z) h
 |@dT a kvs ea=>
  cases (show u=A4 a from rx);obtain⟨_,_,xs,_,o,es,ep,h1,h2,_⟩:=(show yB X.f X.w H s.heap a (.i kvs) from I.j a _ ea);exact BS PySem.W.kitx_dict I.kIn ⟨o,h1,h2.1⟩ e (λz=>nomatch z) h
 |@k a C dx fs ea cl ha hn htk hm=>
  cases (show u=A4 a from rx);obtain⟨mA,O,_⟩:=X9 I.j ea;obtain⟨od,J,_⟩:=O.look;exact BS (PySem.W.kitx_own (cl.get _) cl.hd ha hn htk hm) I.kIn J e (λz=>nomatch z) h
end
structure wV(k:Nat)(A:Around):Prop where
 hd:A.handled=none
 dp:A.depth+3*k+5<recursionLimit
 a:A.units+16*k+200<cLine
 gd:A.guards=some []
theorem wV.deeper(r:wV (k+1) A)env:wV k (A.deeper env):=
 ⟨r.hd,by have:=r.dp;show A.depth+1+3*k+5<_;omega,by have:=r.a;show A.units+3+16*k+200<_;omega,r.gd⟩
theorem wV.depth(r:wV k A):A.depth<recursionLimit:=by have:=r.dp;omega
def XC:TA:=λ_ H Q=>Q [] H
def jv(ta:TE)(tr:TA):TA:=λσ H Q=>ta σ H λx H1=>tr σ H1 λxs H2=>Q (x::xs) H2
section
variable {X:Cx}{e:Expr}{es:List Expr}{te:TE}{t:TA}{pos:Pos}
def u6:PA X [] XC:=λ_ _ _ _ H Q I h=>Calls.spliced_nil ⟨[],H,I,.nil,h⟩
def Wz(ha:PE X e te)(hr:PA X es t)(hs:AQ (e::es) X.a=(false,eval e X.a)::AQ es X.a:=by rfl):PA X (e::es) (jv te t):=by intro pos pins s σ H Q I h;rw[hs];show wpAny _ _ (spliced ((false,eval e X.a)::backTo pos (AQ es X.a))) _ _ s;refine Calls.spliced_cons (thn (ha pins s σ H _ I h) λu s1 ⟨x,H1,I1,r1,q1⟩=>?_);exact thn (hr pos pins s1 σ H1 _ I1 q1) λus s2 ⟨xs,H2,I2,r2,q2⟩=>⟨x::xs,H2,I2,.cons r1 r2,q2⟩
def NG(t:TA):TE:=λσ H Q=>t σ H λxs H1=>xs.length<=Ar/\∀p,H1 p=none->Q (.c p) (upd H1 p (.c xs))
def NA(t:TA):TE:=λσ H Q=>t σ H λxs H1=>xs.length<=Ar/\∀p,H1 p=none->Q (.c p) (upd H1 p (.b xs))
def RE{x1}(h:PA X es t):PE X (.Tuple es x1 pos) (NG t):=by
 intro pins s σ H Q I hq;refine wpAny_Tuple_spliced (thn (h pos pins s σ H _ I hq) λus s1 ⟨xs,H1,I1,r,z,q⟩=>⟨by rw[<-r.length];exact z,?_⟩)
 have hf:H1 s1.heap.objs.size=none:=I1.j.fresh (Ac _);refine⟨.c s1.heap.objs.size,upd H1 s1.heap.objs.size (.c xs),I1.laid (t':=s1.toks) (λb u e=>zO _ e) (Ac _) ?_,rfl,q _ hf⟩;exact⟨z,us,r,⟨_,As _ rfl,rfl,_,rfl,rfl⟩⟩
def Sx(h:PA X es t):PE X (.List es pos) (NA t):=by
 intro pins s σ H Q I hq;refine wpAny_List_spliced (thn (h pos pins s σ H _ I hq) λus s1 ⟨xs,H1,I1,r,z,q⟩=>⟨by rw[<-r.length];exact z,?_⟩)
 have hf:H1 s1.heap.objs.size=none:=I1.j.fresh (Ac _);refine⟨.c s1.heap.objs.size,upd H1 s1.heap.objs.size (.b xs),I1.laid (t':=s1.toks) (λb u e=>zO _ e) (Ac _) ?_,rfl,q _ hf⟩;exact⟨z,us,0,r,As _ rfl⟩
end
abbrev Sp:=List V->Hp->VK->XK->Prop
abbrev CXT:=List Env->Hp->Shared->XK->Value->Shared->Prop
structure Xd(P:Program)(w:World)(K:Ay)(mg:Str->Option Value)(base:Heap)(A:Around)(outer:List Env)(s:Shared)(H:Hp):Prop where
 a:A.frames=some outer
 d:Mod K mg base
 f:∀b o,base.get? b=some o->s.heap.get? b=some o/\H b=none
 g:base.objs.size<=s.heap.objs.size
 pj:s.heap.FunFrames base outer
 h:∀b∈frs outer,H b=none
 c:HOk P w H s.heap
 e:AllBare s.gens
def CE(outer:List Env)(P:Program)(w:World)(H:Hp)(s:Shared)(Q:VK)(u:Value)(s':Shared):Prop:=
 ∃v H',s'.os=s.os/\AllBare s'.gens/\Un (frs outer) [] H H' s.heap s'.heap/\HOk P w H' s'.heap/\RelV v u/\Q v H'
def CR(CX:CXT)(outer:List Env)(P:Program)(w:World)(H:Hp)(s:Shared)(Q:VK)(E:XK)(r:Result)(s':Shared):Prop:=
 match r with
 |.ok (.ret u)=>CE outer P w H s Q u s'
 |.ok _=>False
 |.error e=>CX outer H s E e s'
structure pL(P:Program)(w:World)(K:Ay)(mg:Str->Option Value)(base:Heap)(CX:CXT)(k:Nat)(f:Addr)(fd:CV)(ps:List Str)(sp:Sp):Prop where
 b:∀vs H Q E,sp vs H Q E->vs.length=ps.length
 a:∀(A:Around) (outer:List Env) (s:Shared) (H:Hp) (args:Args) (us:List Value) (vs:List V) (Q:VK) (E:XK),wV k A->Xd P w K mg base A outer s H->BindsTo s fd args (ps.zip us)->Vals vs us->sp vs H Q E ->
  codeAny (model P w) A (.call (.ref f) args) (CR CX outer P w H s Q E) s
def pL.imp{K}(F:pL P w K mg base CX k f fd ps sp)
 (h:∀vs H Q E,sp' vs H Q E->sp vs H Q E):pL P w K mg base CX k f fd ps sp':=
 ⟨λvs H Q E q=>F.b vs H Q E (h _ _ _ _ q),λA outer s H args us vs Q E hr he hb hv hs=>F.a A outer s H args us vs Q E hr he hb hv (h _ _ _ _ hs)⟩
section
variable {X:Cx}{pins:List (Addr × Obj)}{σ:St}{H:Hp}{s s':Shared}
def Inv.ow(I:Inv X pins σ H s):Xd X.f X.w X.K X.d X.i X.A X.j s H:=
 ⟨I.y.i,I.y.l,I.bs,AB I.y.p I.sz,I.stack,I.eP,I.j,I.C⟩
def Inv.after(I:Inv X pins σ H s)(h:CE X.j X.f X.w H s Q u s'):EP X pins σ Q u s':=by obtain⟨v,H',os,bare,un,hok,r,q⟩:=h;obtain⟨hh,g,d,t,os'⟩:=s';obtain rfl:os'=s.os:=os;exact⟨v,H',I.call (h':=hh) (g':=g) (d':=d) (t':=t) (ch:=[]) un hok bare (λb z=>absurd z (by simp)),r,q⟩
end
def UJ(sp:Sp)(dvs:List V)(E:XK)(t:TA):TE:=λσ H Q=>t σ H λvs H1=>sp (vs++dvs) H1 Q E
def Binds(K:Ay)(fd:CV)(ps:List Str)(ds:List Value):Prop:=
 ∀(s:Shared) (us:List Value),K.In s.heap->(us++ds).length=ps.length->BindsTo s fd ⟨us,[]⟩ (ps.zip (us++ds))
def Binds.all{K}(h:∀us:List Value,us.length=ps.length->bindArgs fd ⟨us,[]⟩=pure (ps.zip us)):Binds K fd ps []:=λs us _ hl=>by rw[Ba]at hl ⊢;exact .of_eq (h us hl)
def Passes(CX:CXT)(X:Cx)(E:XK):Prop:=∀(pins:List (Addr × Obj)) (σ:St) (H:Hp) (s:Shared) (e:Value) (s':Shared),Inv X pins σ H s->CX X.j H s E e s'->X.h e s'
section
variable {X:Cx}{CX:CXT}{k:Nat}{f C:Addr}{fd:CV}{ps:List Str}{sp:Sp}{dvs:List V}{ds:List Value}{E:XK}{x m:Str}{p pos apos:Pos}{e o:Expr}{es:List Expr}{ta:TE}{t:TA}
def Yq(F:pL X.f X.w X.K X.d X.i CX k f fd ps sp)(hr:wV k X.A)(hb:Binds X.K fd ps ds)(hd:Vals dvs ds)(hx:Passes CX X E)
 (I:Inv X pins σ H s) (r:Vals vs us) (h:sp (vs++dvs) H Q E):wpAny (model X.f X.w) X.A (call (.ref f) us) (EP X pins σ Q) X.h s:=by
 have r2:Vals (vs++dvs) (us++ds):=r.append hd;have hl:(us++ds).length=ps.length:=by rw[<-r2.length];exact F.b _ _ _ _ h
 refine wpAny_call (codeAny_mono (F.a X.A X.j s H ⟨us,[]⟩ (us++ds) (vs++dvs) Q E hr I.ow (hb s us I.kIn hl) r2 h) λr s' hq=>?_);cases r with
 |error e=>exact hx pins σ H s e s' I hq
 |ok fl=>
  cases fl with
  |ret u=>exact I.after hq
  |next=>exact CJ hq
  |brk=>exact CJ hq
  |cont=>exact CJ hq
def W2(F:pL X.f X.w X.K X.d X.i CX k f fd ps sp)(hr:wV k X.A)(hg:Gl X x)(hm:X.d x=some (.ref f))(hk:CG X.K (.ref f)=true)(hb:Binds X.K fd ps ds)(hd:Vals dvs ds)(hx:Passes CX X E)
 (ha:PA X (e::es) t) (hdb:(x == ("__debug__":Str))=false:=by decide) (he:AQ (e::es) X.a=(false,eval e X.a)::AQ es X.a:=by rfl) (hpl:(backTo pos (AQ es X.a)).any (·.1)=false:=by rfl) :
 PE X (.Call (.Name x p) (e::es) [] pos) (UJ sp dvs E t):=by
 intro pins s σ H Q I h;refine Ec (lJ I hg hm ?_ hdb);refine PySem.W.callWith_K (h₀:=X.i) I.y.l.c hk (thn (ha pos pins s σ H _ I h) λus s1 ⟨vs,H1,I1,r,q⟩=>⟨I1.kIn,?_⟩) he hpl;exact Yq F hr hb hd hx I1 r q
def YE(F:pL X.f X.w X.K X.d X.i CX k f fd ps sp)(hr:wV k X.A)(hg:Gl X x)(hm:X.d x=some (.ref f))(hk:CG X.K (.ref f)=true)(hb:Binds X.K fd ps ds)(hd:Vals dvs ds)(hx:Passes CX X E)
 (hdb:(x == ("__debug__":Str))=false:=by decide):PE X (.Call (.Name x p) [] [] pos) (UJ sp dvs E XC):=by
 intro pins s σ H Q I h;refine Ec (lJ I hg hm ?_ hdb);exact PySem.W.callWith_K0 I.kIn hk (Yq (us:=[]) F hr hb hd hx I .nil h)
end
structure qz(N P:List Str)(sc:Scope):Prop where
 b:sc.kind=.function
 co:sc.isCoroutine=false
 f:sc.isGenerator=false
 d:N.Nodup
 a:N.take P.length=P
 e:∀x∈P,sc.names.lookup x=some .local\/sc.names.lookup x=some .cell
 c:∀y∈sc.names,y.2≠.free
theorem nV{kindOf}:∀{binds} {m},(∀v,(x,v) ∉ binds)->bindL kindOf binds m x=m x
 |[],_,_=>rfl
 |(n,v)::r,m,h=>by
  unfold bindL;rw[nV λw hw=>h w (Az _ hw)];split
  . have:x≠n:=by rintro rfl;exact h v AK
    simp[this]
  . rfl
theorem nT{kindOf}:∀{binds} {m},(∀v,(x,v) ∉ binds)->bindC kindOf binds m x=m x
 |[],_,_=>rfl
 |(n,v)::r,m,h=>by
  unfold bindC;rw[nT λw hw=>h w (Az _ hw)];split
  . rfl
  . have:x≠n:=by rintro rfl;exact h v AK
    simp[this]
theorem nU{kindOf}:∀{P:List Str} {vs} {i:Nat} {m},P.Nodup->P[i]?=some x->vs[i]?=some v->kindOf x=some .local ->
 bindL kindOf (P.zip vs) m x=some v
 |[],_,_,_,_,h,_,_=>by simp at h
 |_::_,[],_,_,_,_,h,_=>by simp at h
 |p::P,w::vs,0,m,nd,h1,h2,hk=>by
  simp at h1 h2;subst h1;subst h2;show bindL kindOf ((p,w)::P.zip vs) m p=_;unfold bindL;rw[nV λv hv=>(Cf.mp nd).1 (Gs hv).1,if_pos hk];simp
 |p::P,w::vs,i+1,m,nd,h1,h2,hk=>by show bindL kindOf ((p,w)::P.zip vs) m x=_;unfold bindL;exact nU (i:=i) (Cf.mp nd).2 (by simpa using h1) (by simpa using h2) hk
theorem nS{kindOf}:∀{P:List Str} {vs} {i:Nat} {m},P.Nodup->P[i]?=some x->vs[i]?=some v->kindOf x≠some .local ->
 bindC kindOf (P.zip vs) m x=some v
 |[],_,_,_,_,h,_,_=>by simp at h
 |_::_,[],_,_,_,_,h,_=>by simp at h
 |p::P,w::vs,0,m,nd,h1,h2,hk=>by
  simp at h1 h2;subst h1;subst h2;show bindC kindOf ((p,w)::P.zip vs) m p=_;unfold bindC;rw[nT λv hv=>(Cf.mp nd).1 (Gs hv).1,if_neg hk];simp
 |p::P,w::vs,i+1,m,nd,h1,h2,hk=>by show bindC kindOf ((p,w)::P.zip vs) m x=_;unfold bindC;exact nS (i:=i) (Cf.mp nd).2 (by simpa using h1) (by simpa using h2) hk
noncomputable def start(N:List Str)(vs:List V):St:=vs.map some++AG (N.length-vs.length) none
noncomputable def dR(CX:CXT)(P:Program)(w:World)(K:Ay)(mg:Str->Option Value)(base:Heap)(N:List Str)(qual:Str)(scope:Scope)(f:Addr)(cd:Value)(A:Around)(outer:List Env)(s:Shared)(H:Hp)(E:XK):Cx where
 f:=P
 w:=w
 K:=K
 d:=mg
 i:=base
 A:=A.deeper (envOfC qual scope s.heap.objs.size f cd)
 N:=N
 l:=s
 r:=H
 a:=envOfC qual scope s.heap.objs.size f cd
 k:=outer
 j:=envOfC qual scope s.heap.objs.size f cd::outer
 n:=[]
 g:=true
 m:=λ_=>true
 q:=[]
 h:=λe s'=>wpAny (model P w) (A.deeper (envOfC qual scope s.heap.objs.size f cd)) (leaving (envOfC qual scope s.heap.objs.size f cd) e) (λ_ s''=>CX outer H s E e s'') (λe' s''=>CX outer H s E e' s'') s'
def kE{sc:Scope}(h:sc.names.lookup x=some .cell):∃c,(De n sc.names []).lookup x=some c:=by have q:=PySem.W.cellsFrom_some sc.names n [] (.inl h);exact FU.mp q
def dh{K}
 (S:qz N ps scope) (hd:A.handled=none) (e0:Xd P w K mg base A outer s H) (hl:vs.length=ps.length) (r:Vals vs us)
 (x:InCallC s s.heap.objs.size (bindL (envOfC qual scope s.heap.objs.size f cd).kindOf (ps.zip us) λ_=>none) (De (s.heap.objs.size+1) scope.names []) (bindC (envOfC qual scope s.heap.objs.size f cd).kindOf (ps.zip us) λ_=>none) s1) :
 Inv (dR CX P w K mg base N qual scope f cd A outer s H E) [] (start N vs) H s1:=by
 have hpl:ps.length<=N.length:=by have:=congrArg Cq S.a;rw[Dj]at this;omega
 obtain⟨h1,tk,rfl,hk⟩:=x.done;have noA:∀b:Addr,b ∉ (dR CX P w K mg base N qual scope f cd A outer s H E).n:=λb z=>absurd (show b∈([]:List Addr) from z) (by simp)
 refine⟨⟨e0.d,S.b,rfl,rfl,Ac _,λy z c h1 h2=>?_,λy hy=>?_,λy c _ h=>?_,λ_=>hd,Around.frames_deeper e0.a,.inr ⟨rfl,rfl⟩,λb z=>absurd z (noA b),e0.f,e0.g,λb _ _=>noA b,λb z=>absurd z (noA b),e0.pj,e0.h⟩,
  rfl,e0.e,Un.kept hk,⟨_,x.toInCall.ns,λi y v h1 h2 h3=>?_⟩,λy c h=>⟨_,x.cell y c h⟩,e0.c.fresh (Ac _),λy c h=>?_,λp hp=>absurd (show p∈([]:List (Addr × Obj)) from hp) (by simp),e0.c.kept hk,?_⟩
 . exact name_of_addr x.apart (CB h1) (CB h2)
 . have hy:scope.names.lookup y=some .cell\/scope.names.lookup y=some .free:=hy
   rcases hy with hy|hy
   . exact kE hy
   . exact absurd rfl (S.c _ (CB hy))
 . exact Nat.le_of_lt (x.above y c (CB h))
 . have hi:i<vs.length:=by
    unfold start at h2;by_cases hi:i<vs.length
    . exact hi
    . rw[AR (by simpa using hi)]at h2
      rw[Gg]at h2;split at h2<;>cases h2
   have ha:vs[i]?=some v:=by
    unfold start at h2;rw[AJ (by simpa using hi),AA]at h2
    cases e:vs[i]? with
    |none=>rw[e]at h2;cases h2
    |some a=>rw[e]at h2;cases h2;rfl
   obtain⟨u,hu,rv⟩:=r.get ha;have hp:ps[i]?=some y:=by rw[<-S.a,FV ⋯];exact h1
   have ndP:ps.Nodup:=by rw[<-S.a];exact S.d.sublist (FC _ _)
   refine⟨u,rv,?_⟩;rcases S.e y (AF hp) with k|k
   . exact .inl ⟨k,nU ndP hp hu k⟩
   . obtain⟨c,e⟩:=kE (n:=s.heap.objs.size+1) k
     refine .inr ⟨.inl k,c,e,?_⟩;have q:=x.cell y c e;rw[nS ndP hp hu (by show scope.names.lookup y≠_;rw[k];decide)]at q
     exact q
 . exact e0.c.fresh (Nat.le_of_lt (x.above y c (CB h)))
 . unfold start
   show _=N.length;rw[Ak,zI,EA];omega
def QN{K}{dV kV doc pm cdv ct oc}
    (lk:K.lookup f=some ⟨oc,od,.func (Ci name qual params body scope dV kV doc pm an cdv ct),osl⟩) (hcd:CF K cdv qual=true) (S:qz N ps scope)
 (len:∀vs H Q E,sp vs H Q E->vs.length=ps.length)
 (hbody:∀A outer s H vs Q E,wV k (A.deeper (envOfC qual scope s.heap.objs.size f cdv))->sp vs H Q E ->
  ∃t,PSs (dR CX P w K mg base N qual scope f cdv A outer s H E) body t/\t {a:=λ_ H'=>Q .g H',d:=Q} (start N vs) H) :
 pL P w K mg base CX (k+1) f (Ci name qual params body scope dV kV doc pm an cdv ct) ps sp:=by
 refine⟨len,λA outer s H args us vs Q E hr e0 hb r hsp=>?_⟩;have hl:=len _ _ _ _ hsp;have KX:K.In s.heap:=e0.d.c.keeps λb o e=>(e0.f b o e).1;have lim:s.heap.NoLimit:=e0.d.b.keeps λb o e=>(e0.f b o e).1;have hkind:∀y∈ps.zip us,scope.names.lookup y.1=some .local\/(scope.names.lookup y.1=some .cell/\((De (s.heap.objs.size+1) scope.names []).lookup y.1).isSome=true):=λ⟨n,v⟩ hy=>by
  rcases S.e n (Gs hy).1 with q|q
  . exact .inl q
  . exact .inr ⟨q,PySem.W.cellsFrom_some _ _ _ (.inl q)⟩
 refine codeAny_call_function hr.depth (KX _ _ lk) rfl S.co S.f rfl (PySem.W.codeRec_of KX hcd) (hb _ _ _ _ ?_);refine wpAny_newFunctionEnv_cells S.b hkind λenv he s1 x=>?_;subst he;refine⟨lim.keeps x.toInCall.keep,codeAny_func ?_⟩;obtain⟨t,ht,hq⟩:=hbody A outer s H vs Q E (hr.deeper _) hsp;have I:Inv (dR CX P w K mg base N qual scope f cdv A outer s H E) [] (start N vs) H s1:=dh S hr.hd e0 hl r x;refine C7 (ht [] s1 (start N vs) H _ I hq) (λfl s' hs=>?_) λe s' hs=>hs;have fin:∀{σ':St} {H':Hp} {v:V} {u:Value},Inv (dR CX P w K mg base N qual scope f cdv A outer s H E) [] σ' H' s'->RelV v u->Q v H'->CE outer P w H s Q u s':=
  λ{σ' H' v u} J rv q=>⟨v,H',J.R,J.C,J.B,J.j,rv,q⟩
 cases fl with
 |ret u=>
  obtain⟨v,σ',H',J,rv,q⟩:=hs;exact fin J rv q
 |next=>
  obtain⟨σ',H',J,q⟩:=hs;exact fin (v:=V.g) (u:=B7) J rfl q
 |brk=>
  obtain⟨_,_,_,q⟩:=hs;exact CJ q
 |cont=>
  obtain⟨_,_,_,q⟩:=hs;exact CJ q
section
variable {X:Cx}{x:Str}{p pos:Pos}{e:Expr}{es:List Expr}{t:TA}{id T:String}{r:List V->Hp->VK->Prop}
def tCB(r:List V->Hp->VK->Prop)(t:TA):TE:=λσ H Q=>t σ H λvs H1=>r vs H1 Q
def YF(hc:yw X (.builtin id) r)(hg:Gl X x)(hm:X.d x=none)(hv:CL x=some (.builtin id))(ha:PA X (e::es) t)(hn:x≠"__name__":=by decide)(hdb:(x == ("__debug__":Str))=false:=by decide)
 (he:AQ (e::es) X.a=(false,eval e X.a)::AQ es X.a:=by rfl) (hpl:(backTo pos (AQ es X.a)).any (·.1)=false:=by rfl):PE X (.Call (.Name x p) (e::es) [] pos) (tCB r t):=by
 intro pins s σ H Q I h;refine Ec (sS I hg hm hv ?_ hn hdb);exact PyProof.Rows.callWith_builtin1 (thn (ha pos pins s σ H _ I h) λus s1 ⟨vs,H1,I1,r1,q1⟩=>hc pins s1 σ H1 vs us Q I1 r1 q1) he hpl
def tx(hc:yw X (.type T) r)(hg:Gl X x)(hm:X.d x=none)(hv:CL x=some (.type T))(ha:PA X (e::es) t)(hn:x≠"__name__":=by decide)(hdb:(x == ("__debug__":Str))=false:=by decide)
 (he:AQ (e::es) X.a=(false,eval e X.a)::AQ es X.a:=by rfl) (hpl:(backTo pos (AQ es X.a)).any (·.1)=false:=by rfl):PE X (.Call (.Name x p) (e::es) [] pos) (tCB r t):=by
 intro pins s σ H Q I h;refine Ec (sS I hg hm hv ?_ hn hdb);exact Cc (thn (ha pos pins s σ H _ I h) λus s1 ⟨vs,H1,I1,r1,q1⟩=>hc pins s1 σ H1 vs us Q I1 r1 q1) he hpl
end
end L2
namespace HT
open PySem PyProof.Rows
section
variable {prog:Program}{w:World}{A:Around}{E:Value->Shared->Prop}{s:Shared}
def Xl(ht:IsTup s.heap t vs.toArray)(hb:IsTup s.heap b ws.toArray)(hv:vs≠[])
 (h1:ws=[]->Q (.ref t) s) (h2:ws≠[]->Q (.ref s.heap.objs.size) {s with heap:=s.heap.push {cls:=.type "tuple",data:=.seq (vs++ws).toArray}})
 (hsz:vs.length+ws.length<=Ar):wpAny (model prog w) A (BI .Add (.ref t) (.ref b)) Q E s:=by
 obtain⟨⟨cls,dd,data,sl⟩,ho,hc,n,hd⟩:=id ht;obtain⟨⟨cls2,dd2,data2,sl2⟩,ho2,hc2,n2,hd2⟩:=id hb;simp only at hc hd hc2 hd2;subst hc hd hc2 hd2;have e:vs.toArray++ws.toArray=(vs++ws).toArray:=by simp
 by_cases hw:ws=[]
 . exact concat_meets ⟨_,ho,rfl⟩ ⟨_,ho2,rfl⟩ Ew Fp Cj Ca (B2 _ _)
    (tuple_addW1 t b vs.toArray ws.toArray n n2 dd dd2 sl sl2 (by simpa using hv) (by simp[hw])) ⟨ho,ho2,h1 hw⟩
 . refine concat_meets ⟨_,ho,rfl⟩ ⟨_,ho2,rfl⟩ Ew Fp Cj Ca (B2 _ _)
    (tuple_addW2 t b vs.toArray ws.toArray n n2 dd dd2 sl sl2 (by simpa using hv) (by simpa using hw) (by rw[Ae,Ae];exact hsz)) ⟨ho,ho2,?_⟩
   rw[e];exact h2 hw
noncomputable def sIx(n d:Nat):Option Int->Nat
 |none=>d
 |some v=>if v<0 then (v+(n:Int)).toNat else min v.toNat n
def eK(n d k:Nat):sIx n d (some (k:Int))=min k n:=by
 show (if (k:Int)<0 then ((k:Int)+(n:Int)).toNat else min (k:Int).toNat n)=min k n
 rw[if_neg ⋯,AL]
def RY n d(hd:d<=n)o:sIx n d o<=n:=by
 cases o with
 |none=>exact hd
 |some v=>
  show (if v<0 then (v+(n:Int)).toNat else min v.toNat n)<=n
  by_cases hv:v<0
  . rw[if_pos hv];omega
  . rw[if_neg hv];exact DO _ _
def fH v(n d:Nat):(if v<0 then max (v+(n:Int)) 0 else min v (n:Int))=((sIx n d (some v):Nat):Int):=by
 show (if v<0 then max (v+(n:Int)) 0 else min v (n:Int))=(((if v<0 then (v+(n:Int)).toNat else min v.toNat n):Nat):Int)
 by_cases hv:v<0
 . simp only[if_pos hv];omega
 . simp only[if_neg hv];omega
def j9 lo hi(n:Nat):Bu lo hi 1 (n:Int)=(((sIx n 0 lo:Nat):Int),((sIx n n hi:Nat):Int)):=by
 have h1:¬((1:Int)<0):=by omega
 unfold Bu;simp only[h1,if_false];refine EX ?_ ?_
 . cases lo with
   |none=>rfl
   |some v=>exact fH v n 0
 . cases hi with
   |none=>rfl
   |some v=>exact fH v n n
def gA(i j:Nat):BM (i:Int) (j:Int) 1=j-i:=by
 unfold BM;have h1:(1:Int) > 0:=by omega
 simp only[h1,if_true,Int.ediv_one];split<;>omega
def vV(p:IsPart v o)(h:Q o s):wpAny (model prog w) A (Builtin.Slice.slicePartIndex v) Q E s:=by
 cases p with
 |none=>exact slicePart_none h
 |int i t=>exact slicePart_int h
def uC{lo hi}{n:Nat}(hs:s.heap.IsSliceOf sl vl vu .none)(pl:IsPart vl lo)(pu:IsPart vu hi)
 (h:Q (((sIx n 0 lo:Nat):Int),1,sIx n n hi-sIx n 0 lo) s):wpAny (model prog w) A (CY (.ref sl) (pure (n:Int))) Q E s:=by
 obtain⟨os,hos,hcs,hds⟩:=id hs;unfold CY FN;refine dr (dr (A9 hos hds (x:=vl) rfl (dr (A9 hos hds (x:=vu) rfl (dr (A9 hos hds (x:=.none) rfl (Af ?_)))))));refine dr (slicePart_none ?_);show wpAny _ _ (if ((1:Int) == 0)=true then _ else _) _ _ s
 rw[if_neg (by decide)]
 refine dr (vV pl (dr (vV pu (dr (Af ?_)))));show wpAny _ _ (match Bu lo hi 1 (n:Int) with|(lo,hi)=>pure (lo,(1:Int),BM lo hi 1)) _ _ s
 rw[j9 lo hi n];show wpAny _ _ (pure (((sIx n 0 lo:Nat):Int),(1:Int),BM ((sIx n 0 lo:Nat):Int) ((sIx n n hi:Nat):Int) 1)) _ _ s;rw[gA];exact Af h
def YN(xs:Array Value)(i k:Nat):((Al k).filterMap λ(m:Nat)=>xs[((i:Int)+(m:Int)*1).toNat]?).toArray=((xs.toList.drop i).take k).toArray:=by
 have e:(λ(m:Nat)=>xs[((i:Int)+(m:Int)*1).toNat]?)=λm=>xs[i+m]?:=by
  funext m;have:((i:Int)+(m:Int)*1).toNat=i+m:=by omega
  rw[this]
 rw[e];have:=pick_run xs i k;rw[Cm]at this;have e2:((λx=>xs[x]?)∘λx=>i+x)=λm=>xs[i+m]?:=rfl;rw[e2]at this;rw[this]
def rG{lo hi}(ht:IsTup s.heap t items)(hs:s.heap.IsSliceOf sl vl vu .none)(pl:IsPart vl lo)(pu:IsPart vu hi)
 (hw:¬(sIx items.size 0 lo=0/\sIx items.size items.size hi=items.size))
 (h:Q (.ref s.heap.objs.size) {s with heap:=s.heap.push {cls:=.type "tuple",data:=.seq ((items.toList.drop (sIx items.size 0 lo)).take (sIx items.size items.size hi-sIx items.size 0 lo)).toArray}})
 (hsz:items.size<=Ar):wpAny (model prog w) A (getItem (.ref t) (.ref sl)) Q E s:=by
 have htake:sizeOk (.seq ((items.toList.drop (sIx items.size 0 lo)).take (sIx items.size items.size hi-sIx items.size 0 lo)).toArray):=by show ((items.toList.drop (sIx items.size 0 lo)).take (sIx items.size items.size hi-sIx items.size 0 lo)).toArray.size<=Ar;rw[Ae,Dj,Dk,By];omega
 have hj:sIx items.size items.size hi<=items.size:=RY _ _ (Ac _) hi;obtain⟨os,hos,hcs,hds⟩:=id hs;have hTs:s.TypeIs (.ref sl) "slice":=⟨os,hos,hcs⟩;unfold getItem
 try with_reducible refine Cw ?_
 first|refine dr (Af ?_)|skip
 refine dr (FD ht.typeIs (by decide) ?_)
 refine dr (BC (name:=Dl "__getitem__") ht.typeIs AZ
  (B3 AZ ht.typeIs EU ?_ (E7 _ _)))
 show wpAny _ _ (DX (.ref t) >>= _) _ _ s;refine dr (Er ht ?_);refine dr (EK hTs ?_);rw[if_pos (by decide)]
 refine dr (uC hs pl pu ?_);have hno:¬((((sIx items.size 0 lo:Nat):Int) == 0&&(1:Int) == 1&&(sIx items.size items.size hi-sIx items.size 0 lo) == items.size)=true):=by intro q;rw[nx,nx]at q;have q1:((sIx items.size 0 lo:Nat):Int)=0:=CN q.1.1;have q2:sIx items.size items.size hi-sIx items.size 0 lo=items.size:=CN q.2;exact hw ⟨⋯,⋯⟩
 show wpAny _ _ (if (((sIx items.size 0 lo:Nat):Int) == 0&&(1:Int) == 1&&(sIx items.size items.size hi-sIx items.size 0 lo) == items.size)=true then _ else _) _ _ s
 rw[if_neg hno,YN]
 first
  |exact dr (m:=Bw _) (Bm (Af ⟨_,rfl,Af h⟩) htake)
  |exact dr (m:=Bw _) (Bm (dr (Af (Af ⟨_,rfl,Af h⟩))) htake)
  |exact dr (dr (m:=Bw _) (Bm (Af (Af ⟨_,rfl,Af h⟩)) htake))
  |exact dr (dr (m:=Bw _) (Bm (Af ⟨_,rfl,Af h⟩) htake))
end
end HT
namespace L2
open PySem PySem.Spec PyProof.Rows
abbrev TO:=St->Hp->(Option Int->Hp->Prop)->Prop
def PO(X:Cx)(e:Option Expr)(t:TO):Prop:=
 ∀(pins:List (Addr × Obj)) (s:Shared) (σ:St) (H:Hp) (Q:Option Int->Hp->Prop),Inv X pins σ H s->t σ H Q ->
  wpAny (model X.f X.w) X.A (evalPart e X.a) (λu s'=>∃o H',Inv X pins σ H' s'/\IsPart u o/\Q o H') X.h s
def Vh:TO:=λ_ H Q=>Q none H
def OK(t:TE):TO:=λσ H Q=>t σ H λx H1=>∃i,x=.d i/\Q (some i) H1
section
variable {X:Cx}{e:Expr}{te:TE}{lo hi:Option Expr}{tl th:TO}{pos p2:Pos}
def VA:PO X none Vh:=by intro pins s σ H Q I h;rw[evalPart_none];exact Af ⟨none,H,I,.none,h⟩
def VB(h:PE X e te):PO X (some e) (OK te):=by intro pins s σ H Q I hw;rw[evalPart_some];refine thn (h pins s σ H _ I hw) λu s1 ⟨x,H1,I1,r1,q1⟩=>?_;obtain⟨i,rfl,q⟩:=q1;obtain⟨t,rfl⟩:=r1;exact⟨some i,H1,I1,.int i t,q⟩
def SlR(X:Cx)(r:V->Option Int->Option Int->Hp->VK->Prop):Prop:=
 ∀(pins:List (Addr × Obj)) (s:Shared) (σ:St) (H:Hp) (x:V) (v vl vu:Value) (lo hi:Option Int) (sl:Addr) (Q:VK),Inv X pins σ H s->RelV x v->s.heap.IsSliceOf sl vl vu .none->IsPart vl lo->IsPart vu hi->r x lo hi H Q ->
  ∃T id,typeLookup (.type T) "__getitem__"=pure (some (.builtin id))/\s.TypeIs v T/\wpAny (model X.f X.w) X.A (getItem v (.ref sl)) (EP X pins σ Q) X.h s
def tSl(r:V->Option Int->Option Int->Hp->VK->Prop)(te:TE)(tl th:TO):TE:=λσ H Q=>te σ H λx H1=>tl σ H1 λl H2=>th σ H2 λu H3=>r x l u H3 Q
def YK(hr:SlR X r)(he:PE X e te)(hl:PO X lo tl)(hu:PO X hi th):PE X (.Subscript e (.Slice lo hi none p2) pos) (tSl r te tl th):=by
 intro pins s σ H Q I h;refine FO (thn (he pins s σ H _ I h) λv s1 ⟨x,H1,I1,r1,q1⟩=>?_);refine wpAny_Slice (thn (hl pins s1 σ H1 _ I1 q1) λvl s2 ⟨l,H2,I2,pl,q2⟩=>thn (hu pins s2 σ H2 _ I2 q2) λvu s3 ⟨u,H3,I3,pu,q3⟩=>?_);rw[evalPart_none];refine Af ?_;have I4:Inv X pins σ H3 {s3 with heap:=s3.heap.push {cls:=.type "slice",data:=.fields #[vl,vu,.none]}}:=I3.kept (t':=s3.toks) λb ob q=>zO _ q
 obtain⟨T,id,hT,ht,hg⟩:=hr pins {s3 with heap:=s3.heap.push {cls:=.type "slice",data:=.fields #[vl,vu,.none]}} σ H3 x v vl vu l u s3.heap.objs.size Q I4 r1 (E8 ..) pl pu q3
 show wpAny (model X.f X.w) X.A (Es e (.Slice lo hi none p2) v (.ref s3.heap.objs.size)) (EP X pins σ Q) X.h {s3 with heap:=s3.heap.push {cls:=.type "slice",data:=.fields #[vl,vu,.none]}}
 exact tail_any (ops:=[.ref s3.heap.objs.size,v]) ht hT hg (by with_unfolding_all rfl)
def ou(xs:List V)(lo hi:Option Int):List V:=(xs.drop (HT.sIx xs.length 0 lo)).take (HT.sIx xs.length xs.length hi-HT.sIx xs.length 0 lo)
def qd xs lo hi:(ou xs lo hi).length<=xs.length:=by unfold ou;rw[Dj,Dk];omega
def O4(K:Ay):V->Option Int->Option Int->Hp->VK->Prop:=λx lo hi H Q=>∃a xs,x=.c a/\SqT K H a xs /\
 ¬(HT.sIx xs.length 0 lo=0/\HT.sIx xs.length xs.length hi=xs.length)/\∀p,H p=none->Q (.c p) (upd H p (.c (ou xs lo hi)))
def Rb:SlR X (O4 X.K):=by
 intro pins s σ H x v vl vu lo hi sl Q I rx hs pl pu h;obtain⟨a,xs,rfl,hx,hw,q⟩:=h;cases rx;obtain⟨its,r,ht,hz⟩:=I.tuple hx;have hlen:its.toArray.size=xs.length:=by rw[Ae];exact r.length.symm
 refine⟨"tuple",_,AZ.lookup,ht.typeIs,?_⟩;refine HT.rG ht hs pl pu (by rw[hlen];exact hw) ?_ (by rw[hlen];exact hz)
 rw[hlen];refine⟨.c s.heap.objs.size,_,I.laid (t':=s.toks) (o:=.c (ou xs lo hi)) (λb ob q=>zO _ q) (Ac _) ?_,rfl,q _ (I.j.fresh (Ac _))⟩;exact⟨AB (qd xs lo hi) hz,_,(r.drop (HT.sIx xs.length 0 lo)).take (HT.sIx xs.length xs.length hi-HT.sIx xs.length 0 lo),sj.new _ _⟩
def Po(K:Ay):R2:=λx y H Q=>∃a b xs ys,x=.c a/\y=.c b/\SqT K H a xs/\SqT K H b ys/\xs≠[]/\xs.length+ys.length<=Ar /\
 (ys=[]->Q (.c a) H)/\(ys≠[]->∀p,H p=none->Q (.c p) (upd H p (.c (xs++ys))))
def Vals.vh(r:Vals xs us):us=[]↔xs=[]:=by
 cases r with
 |nil=>simp
 |cons _ _=>simp
def Wl:OpR X (BI .Add) (Po X.K):=by
 intro pins s σ H x y v u Q I rx ry h;obtain⟨a,b,xs,ys,rfl,rfl,ha,hb,hx,hz,q1,q2⟩:=h;cases rx;cases ry;obtain⟨its,r1,p1,_⟩:=I.tuple ha;obtain⟨its2,r2,p2,_⟩:=I.tuple hb;refine HT.Xl p1 p2 (λz=>hx (r1.vh.mp z)) (λz=>⟨.c a,H,I,rfl,q1 (r2.vh.mp z)⟩) (λz=>?_) (by rw[<-r1.length,<-r2.length];exact hz)
 refine⟨.c s.heap.objs.size,_,I.laid (t':=s.toks) (o:=.c (xs++ys)) (λb ob q=>zO _ q) (Ac _) ?_,rfl,q2 (λw=>z (r2.vh.mpr w)) _ (I.j.fresh (Ac _))⟩;exact⟨by rw[Ak];exact hz,_,r1.append r2,sj.new _ _⟩
end
noncomputable def ixN(n:Nat)(i:Int):Option Nat:=if 0<=i then (if i<n then some i.toNat else none) else if -(n:Int)<=i then some (i+n).toNat else none
def atI{α:Type}(xs:List α)(i:Int):Option α:=(ixN xs.length i).bind λj=>xs[j]?
def fq(h:ixN n i=some j):seqIndex? i n=some j/\j<n∧-(n:Int)<=i/\i<n:=by
 unfold ixN at h;by_cases h0:0<=i
 . rw[if_pos h0]at h
   by_cases h1:i<n
   . rw[if_pos h1]at h
     have e:i.toNat=j:=Am h;exact⟨by rw[seqIndex_of h0 h1,e],⋯,⋯,h1⟩
   . rw[if_neg h1]at h;cases h
 . rw[if_neg h0]at h
   by_cases h1:-(n:Int)<=i
   . rw[if_pos h1]at h
     have e:(i+n).toNat=j:=Am h;exact⟨by rw[seqIndex_neg ⋯ h1,e],⋯,h1,⋯⟩
   . rw[if_neg h1]at h;cases h
def mn(h:atI xs i=some v):∃j,seqIndex? i xs.length=some j/\xs[j]?=some v/\j<xs.length∧-(xs.length:Int)<=i/\i<xs.length:=by
 unfold atI at h;cases e:ixN xs.length i with
 |none=>rw[e]at h;cases h
 |some j=>
  rw[e]at h;obtain⟨h1,h2,h3,h4⟩:=fq e;exact⟨j,h1,h,h2,h3,h4⟩
def pA{xs}{j:Nat}{v:α}(h:xs[j]?=some v):atI xs (j:Int)=some v:=by
 have hj:j<xs.length:=(Ad.mp h).1;have e:ixN xs.length (j:Int)=some j:=by unfold ixN;rw[if_pos ⋯,if_pos ⋯];simp
 unfold atI;rw[e];exact h
def fC(b:Expr):Prop:=∀o i,Gx b false o i=operate [o,i] (getItem o i)
def IxR(X:Cx)(r:R2):Prop:=
 ∀(value slice:Expr) (pins:List (Addr × Obj)) (s:Shared) (σ:St) (H:Hp) (x y:V) (v u:Value) (Q:VK),Inv X pins σ H s->RelV x v->RelV y u->r x y H Q ->
  Gx slice false v u=operate [v,u] (getItem v u)->wpAny (model X.f X.w) X.A (Es value slice v u) (EP X pins σ Q) X.h s
def MtR(X:Cx)(id:String)(r:V->List V->Hp->VK->Prop):Prop:=
 ∀(pins:List (Addr × Obj)) (s:Shared) (σ:St) (H:Hp) (x:V) (xs:List V) (v:Value) (us:List Value) (Q:VK),Inv X pins σ H s->RelV x v->Vals xs us->r x xs H Q ->
  wpAny (model X.f X.w) X.A (call (.builtin id) (v::us)) (EP X pins σ Q) X.h s
section
variable {X:Cx}{a b:Expr}{ta tb:TE}{pos:Pos}
def IxR.or(h:IxR X r)(h':IxR X r'):IxR X (λx y H Q=>r x y H Q\/r' x y H Q):=by
 intro value slice pins s σ H x y v u Q I rx ry q hs;rcases q with q|q
 . exact h value slice pins s σ H x y v u Q I rx ry q hs
 . exact h' value slice pins s σ H x y v u Q I rx ry q hs
def PY(hr:IxR X r)(ha:PE X a ta)(hb:PE X b tb)(hs:fC b):PE X (.Subscript a b pos) (tOp r ta tb):=by intro pins s σ H Q I h;exact FO (Uc ha hb I h λv u s2 x y H2 I2 rx ry q=>hr a b pins s2 σ H2 x y v u Q I2 rx ry q (hs _ _))
def Pp(K:Ay):R2:=λx y H Q=>∃p xs i v,x=.c p/\y=.d i/\SqL K H p xs/\atI xs i=some v/\Q v H
def Pr(K:Ay):R2:=λx y H Q=>∃p xs i v,x=.c p/\y=.d i/\SqT K H p xs/\atI xs i=some v/\Q v H
def Pq:R2:=λx y H Q=>∃z i c,x=.f z/\y=.d i/\z.length<=Ar/\atI z.cps.toList i=some c/\Q (.f ⟨#[c]⟩) H
def WG:IxR X (Pp X.K):=by
 intro value slice pins s σ H x y v u Q I rx ry h hs;obtain⟨p,xs,i,z,rfl,rfl,hq,he,q⟩:=h;cases rx;obtain⟨t,rfl⟩:=ry;obtain⟨its,r,pl,hz⟩:=I.list hq;obtain⟨j,h1,h2,h3,h4,h5⟩:=mn he;obtain⟨w,ew,rw'⟩:=r.get h2;have hl:=r.length;have hn:=sU;have fin:EP X pins σ Q w s:=⟨z,H,I,rw',q⟩;by_cases h0:0<=i
 . have hj:i.toNat=j:=by rw[seqIndex_of h0 h5]at h1;exact Am h1
   exact item_listR pl.isList h0 ⋯ (by rw[hj];simpa using ew) fin hs
 . have hj:(i+(its.toArray.size:Int)).toNat=j:=by
    rw[seqIndex_neg ⋯ h4]at h1
    rw[Ae,<-hl];exact Am h1
   exact subscriptTail_builtinR (x:=w) pl.isList.typeIs FE.lookup
    (wpAny_getItem_list_neg (Q:=λr s'=>r=w/\EP X pins σ Q r s') pl.isList ⋯ (by rw[Ae]<;>omega) ⋯ (by rw[hj];simpa using ew) ⟨rfl,fin⟩) hs
def U7:IxR X (Pr X.K):=by
 intro value slice pins s σ H x y v u Q I rx ry h hs;obtain⟨p,xs,i,z,rfl,rfl,hq,he,q⟩:=h;cases rx;obtain⟨t,rfl⟩:=ry;obtain⟨its,r,pl,hz⟩:=I.tuple hq;obtain⟨j,h1,h2,h3,h4,h5⟩:=mn he;obtain⟨w,ew,rw'⟩:=r.get h2;have hl:=r.length;have hn:=sU;have fin:EP X pins σ Q w s:=⟨z,H,I,rw',q⟩;exact subscriptTail_builtinR (x:=w) pl.typeIs slot_tuple_getitem.lookup
  (getItem_tuple (j:=j) (Q:=λr s'=>r=w/\EP X pins σ Q r s') pl ⋯ ⋯ (by rw[Ae,<-hl];exact h1) (by simpa using ew) ⟨rfl,fin⟩) hs
def U6:IxR X Pq:=by
 intro value slice pins s σ H x y v u Q I rx ry h hs;obtain⟨z,i,c,rfl,rfl,hz,he,q⟩:=h;obtain⟨t,rfl⟩:=rx;obtain⟨t',rfl⟩:=ry;obtain⟨j,h1,h2,h3,h4,h5⟩:=mn he;have hl:z.cps.toList.length=z.length:=by simp[Str.length]
 rw[hl]at h1 h4 h5;have hn:=sU;exact tail_any (typeIs_str s z t) slot_str_getitem.lookup (getItem_str (c:=c) (by
  have e1:decide (i < -(2 ^ 63:Int))=false:=decide_eq_false ⋯
  have e2:decide (i ≥ 2 ^ 63)=false:=decide_eq_false ⋯
  rw[e1,e2,Bool.or_false]) (by rw[h1];simpa using h2) ⟨.f ⟨#[c]⟩,H,I.tok _,⟨_,rfl⟩,q⟩) hs
def rIx(K:Ay):R2:=λx y H Q=>Pp K x y H Q\/Pr K x y H Q\/Pq x y H Q
def U5:IxR X (rIx X.K):=WG.or (U7.or U6)
def ie(its:List Value)n j u:Ck (·.setIfInBounds j u) {cls:=.type "list",data:=.seq its.toArray n}={cls:=.type "list",data:=.seq (its.set j u).toArray n}:=by simp[Ck]
def Inv.lst{pins:List (Addr × Obj)}{σ:St}{H:Hp}{s:Shared}{p:Addr}{xs:List V}(I:Inv X pins σ H s)(h:H p=some (.b xs)) :
 ∃(its:List Value) (n:Nat),Vals xs its/\s.heap.get? p=some {cls:=.type "list",data:=.seq its.toArray n}/\xs.length<=Ar:=by
 obtain⟨z,its,n,r,e⟩:=I.j p _ h;exact⟨its,n,r,e,z⟩
def Inv.SD{its its':List Value}(I:Inv X pins σ H s)(h:H p=some (.b xs))
 (ho:s.heap.get? p=some {cls:=.type "list",data:=.seq its.toArray n}) (hf:f {cls:=.type "list",data:=.seq its.toArray n}={cls:=.type "list",data:=.seq its'.toArray n'}) (r:Vals ys its') (hz:ys.length<=Ar) t :
 Inv X pins σ (upd H p (.b ys)) {s with heap:=s.heap.update p f,toks:=t}:=by
 have e:(s.heap.update p f).get? p=some {cls:=.type "list",data:=.seq its'.toArray n'}:=by rw[Heap.get?_update_self f ho (by rw[hf]<;>rfl),hf]
 refine I.write (x:=p) (e:=p) (by rw[h];trivial) (.inl rfl) (λb u hb q=>(Heap.get?_update_other _ _ (BP hb)).trans q) ⟨_,e⟩ ?_
 exact⟨hz,its',n',r,e⟩
def UE:V->V->V->Hp->(Hp->Prop)->Prop:=λo i v H Q=>∃p xs k j,o=.c p/\i=.d k/\H p=some (.b xs)/\ixN xs.length k=some j/\Q (upd H p (.b (xs.set j v)))
def set_list:R3 X UE:=by
 intro pins s σ H o i v ov iv u Q I ro ri rv h;obtain⟨p,xs,k,j,rfl,rfl,hp,hj,q⟩:=h;cases ro;obtain⟨t,rfl⟩:=ri;obtain⟨its,n,r,ho,hz⟩:=I.lst hp;obtain⟨h1,h2,h3,h4⟩:=fq hj;have hl:=r.length;have hn:=sU;have I':Inv X pins σ (upd H p (.b (xs.set j v))) {s with heap:=s.heap.update p (Ck (·.setIfInBounds j u))}:=
  I.SD hp ho (ie its n j u) (r.set rv j) (by rw[A6];exact hz) s.toks
 by_cases h0:0<=k
 . have hk:k.toNat=j:=by rw[seqIndex_of h0 h4]at h1;exact Am h1
   exact PySem.W.ki_setAt ho h0 ⋯ (by rw[Ae,<-hl];exact h4) (by rw[hk];exact⟨_,I',q⟩)
 . have hk:(k+(its.toArray.size:Int)).toNat=j:=by
    rw[seqIndex_neg ⋯ h3]at h1
    rw[Ae,<-hl];exact Am h1
   exact PySem.W.ki_setBack ho ⋯ (by rw[Ae,<-hl];exact h3) ⋯ (by rw[hk];exact⟨_,I',q⟩)
def lb lo hi n:(BA lo hi none n).1=((HT.sIx n 0 lo:Nat):Int)/\(BA lo hi none n).2.1=((HT.sIx n n hi:Nat):Int)/\(BA lo hi none n).2.2=1:=by
 refine⟨?_,?_,rfl⟩
 . cases lo with
   |none=>simp[BA,HT.sIx]
   |some i=>
    simp only[BA,HT.sIx,FW,show (1:Int) > 0 by decide,if_true]
    by_cases h:i<0
    . simp only[h,if_true]<;>omega
    . simp only[h,if_false]<;>omega
 . cases hi with
   |none=>simp[BA,HT.sIx]
   |some i=>
    simp only[BA,HT.sIx,FW,show (1:Int) > 0 by decide,if_true]
    by_cases h:i<0
    . simp only[h,if_true]<;>omega
    . simp only[h,if_false]<;>omega
def nH(its:List Value)lo hi:GV its.toArray lo hi none=((its.drop (HT.sIx its.length 0 lo)).take (HT.sIx its.length its.length hi-HT.sIx its.length 0 lo)).toArray:=by obtain⟨h1,h2,h3⟩:=lb lo hi its.toArray.size;unfold GV;rw[h1,h2,h3];simp only[sliceRange_one,pick_run,Ae]<;>rfl
def O3(K:Ay):V->Option Int->Option Int->Hp->VK->Prop:=λx lo hi H Q=>∃a xs,x=.c a/\SqL K H a xs/\∀p,H p=none->Q (.c p) (upd H p (.b (ou xs lo hi)))
def VX:SlR X (O3 X.K):=by
 intro pins s σ H x v vl vu lo hi sl Q I rx hs pl pu h;obtain⟨a,xs,rfl,hx,q⟩:=h;cases rx;obtain⟨its,r,ht,hz⟩:=I.list hx;have hlen:=r.length;refine⟨"list",_,FE.lookup,ht.isList.typeIs,?_⟩;refine FX ht.isList hs pl pu .none (by simp) ?_ (by rw[Ae]<;>omega)
 rw[nH,<-hlen];refine⟨.c s.heap.objs.size,_,I.laid (t':=s.toks) (o:=.b (ou xs lo hi)) (λb ob q=>zO _ q) (Ac _) ?_,rfl,q _ (I.j.fresh (Ac _))⟩;exact⟨AB (qd xs lo hi) hz,_,0,(r.drop (HT.sIx xs.length 0 lo)).take (HT.sIx xs.length xs.length hi-HT.sIx xs.length 0 lo),As _ rfl⟩
noncomputable def vg:V->Bool
 |.g=>true
 |.e _=>true
 |.d _=>true
 |.f _=>true
 |_=>false
noncomputable def eqV:V->V->Bool
 |.g,.g=>true
 |.e a,.e b=>a == b
 |.e a,.d b=>(if a then 1 else 0) == b
 |.d a,.e b=>a == (if b then 1 else 0)
 |.d a,.d b=>a == b
 |.f a,.f b=>a == b
 |_,_=>false
def Uv(ry:RelV y u)(rx:RelV x v)(fy:vg y=true)(fx:vg x=true):Bh A s u v (eqV y x):=by
 cases y with
 |g=>
  cases ry;cases x with
  |g=>cases rx;exact Bh.same _
  |e b=>cases rx;exact Bh.none_bool b
  |d b=>obtain⟨t,rfl⟩:=rx;exact Bh.none_int b t
  |f b=>obtain⟨t,rfl⟩:=rx;exact Bh.none_str b t
  |_=>exact absurd (show false=true from fx) Aa
 |e a=>
  cases ry;cases x with
  |g=>cases rx;exact Bh.bool_none a
  |e b=>cases rx;exact Bh.bool_bool a b
  |d b=>obtain⟨t,rfl⟩:=rx;exact Bh.bool_int a b t
  |f b=>obtain⟨t,rfl⟩:=rx;exact Bh.bool_str a b t
  |_=>exact absurd (show false=true from fx) Aa
 |d a=>
  obtain⟨t',rfl⟩:=ry;cases x with
  |g=>cases rx;exact Bh.int_none a t'
  |e b=>cases rx;exact Bh.int_bool a t' b
  |d b=>obtain⟨t,rfl⟩:=rx;exact Bh.int_int a t' b t
  |f b=>obtain⟨t,rfl⟩:=rx;exact Bh.int_str a t' b t
  |_=>exact absurd (show false=true from fx) Aa
 |f a=>
  obtain⟨t',rfl⟩:=ry;cases x with
  |g=>cases rx;exact Bh.str_none a t'
  |e b=>cases rx;exact Bh.str_bool a t' b
  |d b=>obtain⟨t,rfl⟩:=rx;exact Bh.str_int a t' b t
  |f b=>obtain⟨t,rfl⟩:=rx;exact Bh.str_str a t' b t
  |_=>exact absurd (show false=true from fx) Aa
 |_=>exact absurd (show false=true from fy) Aa
def eqU(x:V)(u:Value):Bool:=match u with
 |.none=>eqV .g x
 |.bool b=>eqV (.e b) x
 |.int i _=>eqV (.d i) x
 |.str z _=>eqV (.f z) x
 |_=>false
def iJ(r:RelV y u)(f:vg y=true):eqU x u=eqV y x:=by
 cases y with
 |g=>cases r;rfl
 |e b=>cases r;rfl
 |d i=>obtain⟨t,rfl⟩:=r;rfl
 |f z=>obtain⟨t,rfl⟩:=r;rfl
 |_=>exact absurd (show false=true from f) Aa
theorem ml:∀{xs} {us},Vals xs us->xs.all vg=true->us.any (eqU x)=xs.any λy=>eqV y x
 |_,_,.nil,_=>rfl
 |y::xs,u::us,.cons r t,f=>by rw[B6,nx]at f;rw[CZ,CZ,iJ r f.1,ml t f.2]
theorem uy(rx:RelV x v)(fx:vg x=true):∀{xs} {us},Vals xs us->xs.all vg=true->∀u∈us,Bh A s u v (eqU x u)
 |_,_,.nil,_=>λu hu=>by cases hu
 |y::xs,u::us,.cons r t,f=>λu' hu=>by
  rw[B6,nx]at f;rcases Ah.mp hu with rfl|hu
  . rw[iJ r f.1];exact Uv r rx f.1 fx
  . exact uy rx fx t f.2 u' hu
def inV(x:V)(xs:List V):Bool:=xs.any λy=>eqV y x
def rIn(K:Ay)(neg:Bool):R2:=λx y H Q=>∃p xs,y=.c p/\(SqL K H p xs\/SqT K H p xs)/\vg x=true/\xs.all vg=true/\Q (.e (if neg then !inV x xs else inV x xs)) H
def cg:OpR X (A8 .In) (rIn X.K false):=by
 intro pins s σ H x y v u Q I rx ry h;obtain⟨p,xs,rfl,hq,fx,fs,q⟩:=h;cases ry;rcases hq with hq|hq
 . obtain⟨its,r,pl,hz⟩:=I.list hq
   refine SeqAt.in_listAt (eqU x) pl.isList (λw hw=>uy rx fx r fs w (by simpa using hw)) ⟨.e _,H,I,rfl,?_⟩
   rw[show its.toArray.any (eqU x)=its.any (eqU x) by simp,ml r fs]
   exact q
 . obtain⟨its,r,pl,hz⟩:=I.tuple hq
   refine SeqAt.in_tupleAt (eqU x) pl (λw hw=>uy rx fx r fs w (by simpa using hw)) ⟨.e _,H,I,rfl,?_⟩
   rw[show its.toArray.any (eqU x)=its.any (eqU x) by simp,ml r fs]
   exact q
def mx:yw X (.builtin "len") (λxs H Q=>∃p ys,xs=[.c p]/\(SqL X.K H p ys\/SqT X.K H p ys)/\Q (.d ys.length) H):=by
 intro pins s σ H xs us Q I r h;obtain⟨p,ys,rfl,hq,q⟩:=h;obtain⟨u,rfl,rx⟩:=vals1 r;cases rx;have hn:=sU;rcases hq with hq|hq
 . obtain⟨its,r',pl,hz⟩:=I.list hq
   have hlen:=r'.length;exact Calls.call_len_list pl.isList (by simp only[Ae]<;>omega) ⟨.d ys.length,H,I.tok _,⟨s.toks+1,by rw[Ae,hlen]⟩,q⟩
 . obtain⟨its,r',pl,hz⟩:=I.tuple hq
   have hlen:=r'.length;exact len_tuple pl (by simp only[Ae]<;>omega) ⟨.d ys.length,H,I.tok _,⟨s.toks+1,by rw[Ae,hlen]⟩,q⟩
def my:yw X (.builtin "len") (λxs H Q=>∃z,xs=[.f z]/\z.length<=Ar/\Q (.d z.length) H):=by intro pins s σ H xs us Q I r h;obtain⟨z,rfl,hz,q⟩:=h;obtain⟨u,rfl,t,rfl⟩:=vals1 r;have hn:=sU;exact len_str ⋯ ⟨.d z.length,H,I.tok _,⟨_,rfl⟩,q⟩
def sD:yw X (.type "tuple") (λxs H Q=>∃p ys,xs=[.c p]/\((SqL X.K H p ys/\∀l,H l=none->Q (.c l) (upd H l (.c ys)))\/(SqT X.K H p ys/\Q (.c p) H))):=by
 intro pins s σ H xs us Q I r h;obtain⟨p,ys,rfl,h⟩:=h;obtain⟨u,rfl,rx⟩:=vals1 r;cases rx;rcases h with⟨hq,q⟩|⟨hq,q⟩
 . obtain⟨its,r',pl,hz⟩:=I.list hq
   have hlen:=r'.length;refine call_tuple_list pl.isList (λh' kp=>?_) (by simp only[Ae]<;>omega)
   have I1:Inv X pins σ H {s with heap:=h'}:=I.kept (t':=s.toks) kp
   have I2:Inv X pins σ (upd H h'.objs.size (.c ys)) {s with heap:=h'.push {cls:=.type "tuple",data:=.seq its.toArray}}:=
    I1.laid (t':=s.toks) (λb o e=>zO _ e) (Ac _) (show yB X.f X.w _ _ _ (.c ys) from ⟨hz,its,r',sj.new _ _⟩)
   exact⟨.c h'.objs.size,_,I2,rfl,q _ (I1.j.fresh (Ac _))⟩
 . obtain⟨its,r',pl,hz⟩:=I.tuple hq
   exact call_tuple_same pl ⟨.c p,H,I,rfl,q⟩
def tyV(K:Ay)(T:String)(x:V)(H:Hp):Prop:=match x with
 |.f _=>T="str"
 |.d _=>T="int"
 |.c p=>(T="list"/\∃xs,SqL K H p xs)\/(T="tuple"/\∃o,K.lookup p=some o/\o.cls=.type "tuple"/\o.dict=none) \/
  (T="dict"/\((∃kvs,H p=some (.d kvs))\/∃kvs,H p=some (.i kvs)))\/(T="set"/\∃S n,H p=some (.l S n))
 |_=>False
def Rr(I:Inv X pins σ H s)(r:RelV x v)(ty:tyV X.K T x H) :
 s.TypeIs v T/\∀a,v=.ref a->∃ob,s.heap.get? a=some ob/\ob.dict=none:=by
 cases x with
 |f z=>
  obtain⟨t,rfl⟩:=r;cases (show T="str" from ty);exact⟨typeIs_str s z t,λ_ e=>nomatch e⟩
 |d i=>
  obtain⟨t,rfl⟩:=r;cases (show T="int" from ty);exact⟨Ds s i t,λ_ e=>nomatch e⟩
 |c p=>
  cases r;rcases ty with⟨rfl,xs,hq⟩|⟨rfl,o,hk,hc,hd⟩|⟨rfl,hk⟩|⟨rfl,S,n,hk⟩
  . obtain⟨its,_,pl,_⟩:=I.list hq
    refine⟨pl.isList.typeIs,λa e=>?_⟩;cases e;obtain⟨o,n,e,c,hd,_⟩:=pl;exact⟨o,e,hd⟩
  . refine⟨⟨o,I.kIn p o hk,hc⟩,λa e=>?_⟩
    cases e;exact⟨o,I.kIn _ o hk,hd⟩
  . have z:∃o,s.heap.get? p=some o/\o.ExactDict:=by
     rcases hk with⟨kvs,hk⟩|⟨kvs,hk⟩
     . obtain⟨_,_,_,_,o,_,_,e,ex,_⟩:=I.j p _ hk
       exact⟨o,e,ex⟩
     . obtain⟨_,_,_,_,o,_,_,e,ex,_⟩:=I.j p _ hk
       exact⟨o,e,ex⟩
    obtain⟨o,e,ex⟩:=z;refine⟨⟨o,e,ex.1⟩,λa e2=>?_⟩;cases e2;exact⟨o,e,ex.2.1⟩
  . obtain⟨o,_,_,_,e,ex,_⟩:=I.j p _ hk
    refine⟨⟨o,e,ex.1⟩,λa e2=>?_⟩;cases e2;exact⟨o,e,ex.2.1⟩
 |_=>exact CJ ty
def tBM(K:Ay)(T:String)(r:V->List V->Hp->VK->Prop)(to:TE)(t:TA):TE:=λσ H Q=>to σ H λx H1=>tyV K T x H1/\t σ H1 λxs H2=>r x xs H2 Q
variable {o e:Expr}{es:List Expr}{to:TE}{t:TA}{name:Str}{apos cpos:Pos}{T id:String}{r:V->List V->Hp->VK->Prop}
def UB(pa:PlainAttrs T)(slot:Slot T name id)(hty:typeOf (.builtin id)=pure (.type "method_descriptor"))(hm:MtR X id r)(ho:PE X o to)(ha:PA X (e::es) t)
 (hbase:DY o name X.a (eval o X.a)=eval o X.a:=by rfl)
 (hfew:((backTo cpos (AQ (e::es) X.a)).all (λx=>!x.1)&&(backToKw cpos (keywordEach [] X.a)).all (λx=>x.1.isSome)
  && decide ((e::es).length+([]:List Keyword).length+(if ([]:List Keyword).isEmpty then 0 else 1)<30))=true:=by rfl)
 (hline:(apos.endLine == cpos.line)=true:=by rfl) (hs:AQ (e::es) X.a=(false,eval e X.a)::AQ es X.a:=by rfl) (hplain:(backTo cpos (AQ es X.a)).any (·.1)=false:=by rfl) :
 PE X (.Call (.Attribute o name apos) (e::es) [] cpos) (tBM X.K T r to t):=by
 intro pins s σ H Q I h;refine wpAny_Call_method_late hbase hfew hline rfl (thn (ho pins s σ H _ I h) λv s1 ⟨x,H1,I1,r1,ty,q1⟩=>?_);obtain⟨h1,h2⟩:=Rr I1 r1 ty;refine⟨T,id,pa,slot,hty,h1,h2,?_⟩;have hA:=ha cpos pins s1 σ H1 _ I1 q1;rw[hs]at hA ⊢;refine Calls.callWith_builtin (by show (false||(backTo cpos (AQ es X.a)).any (·.1))=false;rw[hplain]<;>rfl) (Calls.evalArgs_plain ?_)
 exact thn hA λus s2 ⟨vs,H2,I2,r2,q2⟩=>hm pins s2 σ H2 x vs v us Q I2 r1 r2 q2
/- xs.append(e),list.index on a module's tuple .. are MtR facts of 06m -/
end
def MtM(X:Cx)(id:String)(r:V->List V->Hp->VK->Prop):Prop:=
 ∀(pins:List (Addr × Obj)) (s:Shared) (σ:St) (H:Hp) (x:V) (xs:List V) (v:Value) (us:List Value) (Q:VK),Inv X pins σ H s->RelV x v->Vals xs us->r x xs H Q ->
  wpAny (model X.f X.w) X.A (call (.builtin id) (v::us)) (EP X pins σ Q) X.h s
def Vals.one:∀{x} {us},Vals [x] us->∃u,us=[u]/\RelV x u
 |_,_,.cons r .nil=>⟨_,rfl,r⟩
theorem Vals.rep(h:Vals xs us):∀k:Nat,Vals (AG k xs).flatten (AG k us).flatten
 |0=>.nil
 |k+1=>by rw[Cg,Cg,C1,C1];exact Vals.append h (Vals.rep h k)
theorem foldl_rep its:∀k (acc:List Value),
 Ei (λx1 x2=>x1++x2) acc.toArray (AG k its.toArray)=(acc++(AG k its).flatten).toArray
 |0,acc=>by simp
 |k+1,acc=>by
  have e:acc.toArray++its.toArray=(acc++its).toArray:=by simp
  have e2:(acc++its)++(AG k its).flatten=acc++(AG (k+1) its).flatten:=by rw[Cg,C1,Bc]
  rw[<-e2,<-foldl_rep its k (acc++its),<-e,Cg,List.foldl_cons]
section
variable {X:Cx}{pins:List (Addr × Obj)}{σ:St}{H:Hp}{s:Shared}{l b:Addr}{xs ys zs:List V}
def Inv.Ol{its its':List Value}(I:Inv X pins σ H s)(hH:H l=some (.b xs))
 (e:s.heap.get? l=some {cls:=.type "list",data:=.seq its.toArray n}) (hf:f its.toArray=its'.toArray) (hv:Vals ys its') (hz:ys.length<=Ar) :
 Inv X pins σ (upd H l (.b ys)) {s with heap:=s.heap.update l (Ck f),toks:=t'}:=by
 have q:=PySem.IsL.update e f;rw[hf]at q;refine I.write (x:=l) (e:=l) (by rw[hH];exact trivial) (.inl rfl) (λb' u hb hu=>(Heap.get?_update_other s.heap (Ck f) (BP hb)).trans hu) ⟨_,q⟩ ?_
 exact⟨hz,its',_,hv,q⟩
def Inv.Qt(I:Inv X pins σ H s)(hv:Vals ys its)(hz:ys.length<=Ar) :
 Inv X pins σ (upd H s.heap.objs.size (.b ys)) {s with heap:=s.heap.push {cls:=.type "list",data:=.seq its.toArray},toks:=t'}:=
 I.laid (λ_ _ q=>zO _ q) (Ac _) ⟨hz,its,0,hv,As _ rfl⟩
theorem Inv.fresh(I:Inv X pins σ H s):H s.heap.objs.size=none:=I.j.fresh (Ac _)
def Inv.Wd(I:Inv X pins σ H s)(hH:H l=some (.b xs)):xs.length<=Ar/\∃its n,Vals xs its/\xs.length=its.length/\s.heap.get? l=some {cls:=.type "list",data:=.seq its.toArray n}:=by obtain⟨z,its,n,r,e⟩:=I.j l _ hH;exact⟨z,its,n,r,r.length,e⟩
def Zx(h:n<=Ar):Ed n=false:=by unfold Ed;exact decide_eq_false ⋯
end
section
variable {X:Cx}
def eJ:V->List V->Hp->VK->Prop:=λx vs H Q=>∃l xs y,x=.c l/\vs=[y]/\H l=some (.b xs)/\xs.length<Ar/\Q .g (upd H l (.b (xs++[y])))
def mD:MtM X "list.append" eJ:=by
 intro pins s σ H x vs v us Q I rx rv h;obtain⟨l,xs,y,rfl,rfl,hH,hz,q⟩:=h;cases rx;obtain⟨u,rfl,ru⟩:=rv.one;obtain⟨z,its,n,r,hl,e⟩:=I.Wd hH;refine B8 F.slot_list_append ⟨_,e,rfl⟩ F.entry_list_append (F.args_list_append_2 _ _) (PySem.list_append l its.toArray n u (by rw[Ae];omega)) ⟨e,?_⟩
 refine⟨.g,_,I.Ol (its':=its++[u]) hH e (by simp) (r.append (.cons ru .nil)) ?_,rfl,q⟩
 rw[Ak,Bg];omega
def Ox:R2:=λx y H Q=>∃l b xs zs,x=.c l/\y=.c b/\H l=some (.b xs)/\H b=some (.b zs)/\xs.length+zs.length<=Ar/\∀p,H p=none->Q (.c p) (upd H p (.b (xs++zs)))
def SR:OpR X (BI .Add) Ox:=by
 intro pins s σ H x y v u Q I rx ry h;obtain⟨l,b,xs,zs,rfl,rfl,hH,hB,hz,q⟩:=h;cases rx;cases ry;obtain⟨z,its,n,r,hl,e⟩:=I.Wd hH;obtain⟨z2,its2,n2,r2,hl2,e2⟩:=I.Wd hB;refine PySem.P.add_list e e2 ?_ (by rw[Ae,Ae];omega)
 have ea:its.toArray++its2.toArray=(its++its2).toArray:=by simp
 rw[ea];exact⟨.c _,_,I.Qt (t':=s.toks) (r.append r2) (by rw[Ak];omega),rfl,q _ I.fresh⟩
def Oy:R2:=λx y H Q=>∃l k xs,x=.c l/\y=.d k/\H l=some (.b xs)∧-(2 ^ 63)<=k/\k<2 ^ 63/\xs.length*k.toNat<=Ar /\
 ∀p,H p=none->Q (.c p) (upd H p (.b (AG k.toNat xs).flatten))
def len_rep{α:Type}(xs:List α)k:(AG k xs).flatten.length=k*xs.length:=by
 induction k with
 |zero=>simp
 |succ k ih=>rw[Cg,C1,Ak,ih,Dm,Nat.add_comm]
def Sa:OpR X (BI .Mult) Oy:=by
 intro pins s σ H x y v u Q I rx ry h;obtain⟨l,k,xs,rfl,rfl,hH,h1,h2,hz,q⟩:=h;cases rx;obtain⟨t,rfl⟩:=ry;obtain⟨z,its,n,r,hl,e⟩:=I.Wd hH;have hlen:its.toArray.size*k.toNat<=Ar:=by rw[Ae,<-hl];exact hz
 have hcap:¬its.toArray.size*k.toNat > (2 ^ 63-1)/8:=by
  have:(Ar:Nat)<=(2 ^ 63-1)/8:=by decide
  omega
 have hfit:¬(!Builtin.List.listFitsIndex k)=true:=by rw[fitsIndex_both h1 h2];exact Aa
 have hlong:¬Ed (its.toArray.size*k.toNat)=true:=by rw[Zx hlen];exact Aa
 have hnew:Ei (λx1 x2=>x1++x2) #[] (AG (if its.toArray.isEmpty=true then 0 else k.toNat) its.toArray)=(AG k.toNat its).flatten.toArray:=by
  have f0:∀m:Nat,Ei (λx1 x2=>x1++x2) #[] (AG m its.toArray)=(AG m its).flatten.toArray:=λm=>by have:=foldl_rep its m [];rw[CQ]at this;exact this
  rw[f0];cases its with
  |nil=>simp
  |cons a r'=>rw[if_neg (by simp)]
 refine Dc (T:="list") (U:="int") (by decide) ⟨_,e,rfl⟩ (λs'=>Ds s' k t) noFill_list_mul EL Cr repeat_list Ey.lookup
  (B8 Cr (Ds s k t) Ez (Ej _ _) (int___rmul___int_list k t l its.toArray n)
   ⟨e,rfl,⟨_,e,rfl⟩,B8 F.slot_list_mul ⟨_,e,rfl⟩ F.entry_list_mul (F.args_list_mul_2 _ _) (AutoListH.list___mul___list_int_3 l its.toArray n k t hfit hcap hlong) ⟨e,?_⟩⟩)
 rw[hnew];exact⟨.c _,_,I.Qt (t':=s.toks) (r.rep k.toNat) (by rw[len_rep,Br];exact hz),rfl,q _ I.fresh⟩
end
end L2
namespace Att
open PySem PySem.W PySem.Calls PyProof.Rows
def qt:∀ns vs,WellAll P h vs (ns.map WData.int)->IntsAre vs ns:=by
 intro ns;induction ns with
 |nil=>
  intro vs w;rw[FY]at w;cases w;exact .nil
 |cons n ns ih=>
  intro vs w;rw[Aw]at w;cases w with
  |cons a b=>
   cases a;exact .cons _ _ (ih _ b)
def bR{l:OpenLaw}(hn:l.most=some n)
 (hpre:l.row.toRowW.claim.pre args=true) (hwl:WellAll P h vals args) :
 ∃a vs ns,vals=[A4 a]/\args=[WData.list (ns.map WData.int)]/\h.get? a=some {cls:=.type "list",data:=.seq vs.toArray}/\IntsAre vs ns/\ns.length<=n:=by
 have hsh:WShape.hasAll [] args [.list .int]=true:=(pre_splitW hpre).1;have hc:l.pre.holds [] {args:=args}=true:=(pre_splitW hpre).2;obtain⟨d,r,rfl,h1,h2⟩:=hasAllW_cons hsh;obtain rfl:=hasAllW_nil h2;obtain⟨xs,rfl,h3⟩:=hasW_list h1;obtain⟨ns,rfl⟩:=items_int h3;have hlen:ns.length<=n:=by
  unfold OpenLaw.pre at hc;have h4:(WTm.not (.lt (.lit (.int (n:Int))) (.len (.arg 0)))).holds [] {args:=[.list (ns.map .int)]}=true:=by have h4:=(holds_andW hc).1;rw[hn]at h4;exact h4
  have h5:=condW_of h4 (w_not (w_lt w_lit (w_len_list (w_arg rfl))));rw[zI]at h5;refine Nat.le_of_not_lt λq=>?_;have q':(n:Int)<((ns.length:Nat):Int):=by omega
  first
   |(rw[decide_eq_true q']at h5;exact absurd h5 (by decide))
   |(simp at h5;omega)
 cases hwl with
 |cons w1 w2=>
  cases w2;cases w1 with
  |list ho hall=>exact⟨_,_,ns,rfl,rfl,ho,qt ns _ hall,hlen⟩
def bB(l:OpenLaw)args:l.row.toRowW.claim.post args (.bool true) args=true:=
 postW_of (r:=l.row.toRowW) (X:=(true == true))
  (show WShape.has [] (.bool true) .bool=true by first|rfl|decide|simp[WShape.has,WShape.arms,WShape.armsAll])
  (show (WTm.eq .res (.lit (.bool true))).value [] {args:=args,res:=some (.bool true),after:=args}=some (.bool (true == true)) from w_eq_bool (w_res rfl) w_lit) rfl
def l8{l:OpenLaw}
 (hn:l.most=some n) (hdf:d.params.defaults=[])
 (call:∀w s₀ s₁ mg mb fa o pm cd doc a vs ns,
  Ground q loose [] XP w s₀ mg mb s₁.heap->YP w s₁.heap ->
  s₁.heap.get? fa=some o->o.data=.func (docDef d.name d.params d.body d.scope pm cd doc)->s₁.heap.CodeRec cd d.name->mg d.name=some (.ref fa) ->
  s₁.heap.get? a=some {cls:=.type "list",data:=.seq vs.toArray}->IntsAre vs ns->ns.length<=n->s₁.gens=#[] ->
  codeAny (model l.prog w) callerA (.call (.ref fa) ⟨[.ref a],[]⟩) (λr s'=>r=.ok (.ret (.bool true))/\OldK s₁.heap s'.heap/\s'.os=s₁.os/\AllBare s'.gens) s₁) :
 WalkO q loose XP YP l.row.toRowW d [] (λf vs=>PySem.call f vs):=by
 intro w s₀ s₁ mg mb G Y fa o pm cd doc dV kV ho hd hcd hD hmg hg args vals as hpre hlay hrd hwl hlo;obtain rfl:dV=.none:=Dflts.none hD hdf;obtain rfl:kV=.none:=Dflts.noKw hD;obtain⟨a,vs,ns,rfl,rfl,hobj,hints,hlen⟩:=bR hn hpre hwl;refine enter_call (codeAny_mono (call w s₀ s₁ mg mb fa o pm cd doc a vs ns G Y ho (fd_plain hd) hcd hmg hobj hints hlen hg) λr s' hq=>?_);obtain⟨rfl,h2,h3,h4⟩:=hq;exact⟨.inl ⟨.bool true,.bool true,[],rfl,λ_=>rfl,.bool true,bB l _,λ_=>⟨FF,λ_ hm=>(nomatch hm)⟩⟩,h2,h3,h4⟩
section
variable {prog:Program}{w:World}{A:Around}{E:Value->Shared->Prop}{s:Shared}{K:Frag}
noncomputable def qO(h:Heap):Heap:={h with objs:=#[]}
def oA h b:(qO h).get? b=none:=by
 cases e:(qO h).get? b with
 |none=>rfl
 |some o=>exact absurd (Aj e) (Nat.not_lt_zero _)
def Uz(n:h.Ns L m):Fr (qO h) L h m:=
 ⟨n,λb o e=>(by rw[oA]at e;cases e),A3 _⟩
end
end Att
namespace L2
open PySem PySem.Spec PyProof.Rows
theorem mV:∀{vs} {ns},IntsAre vs ns->Vals (ns.map V.d) vs
 |_,_,.nil=>.nil
 |_,_,.cons n t h=>.cons ⟨t,rfl⟩ (mV h)
end L2
/- THE LAST THEOREM (shape;LID,My.* are yours):
   My.Adr: a structure of the addresses that your layer names (classes,functions);My.Txt K t: a structure (Prop) of the equations over K;
   My.txt_mk:{K} {implicit addresses ..} (e1:nsIn K AW "law"=some (some (.ref f))) (e2:K.lookup f=some ⟨oc,od,.func (fnOf "law" "law" params body scope dV kV doc pm an cdv ct),sl⟩) (e3:codeIn K cdv "law"=true) ..:∃t,My.Txt K t
(the tactic k_is has no namespace: write k_is) -/
namespace L2
open PySem PySem.Spec PyProof.Rows
noncomputable def vf(s:Stmt):Arguments:=match s with
 |.FunctionDef _ a _ _ _ _ _ _ _ _=>a
 |_=>{posonlyargs:=[],args:=[],vararg:=none,kwonlyargs:=[],kw_defaults:=[],kwarg:=none,defaults:=[]}
noncomputable def wy(s:Stmt):List Stmt:=match s with
 |.FunctionDef _ _ b _ _ _ _ _ _ _=>b
 |_=>[]
noncomputable def yK(s:Stmt):Scope:=match s with
 |.FunctionDef _ _ _ _ _ _ sc _ _ _=>sc
 |_=>{kind:=.function,names:=[],isGenerator:=false,isCoroutine:=false}
abbrev CX0:CXT:=λ_ _ _ _ _ _=>False
abbrev E0:XK:=λ_ _ _=>False
def UA:Passes CX0 X E0:=λ_ _ _ _ _ _ _ h=>h.elim
structure Fun(K:Ay)(x qual:Str)(st:Stmt)(f:Addr)(fd:CV):Prop where
 a:∃(oc:Value) (od:Option Addr) (kV doc pm:Value) (an:Option Addr) (cdv ct:Value) (osl:Array (Option Value)),
  fd=Ci x qual (vf st) (wy st) (yK st) .none kV doc pm an cdv ct/\K.lookup f=some ⟨oc,od,.func fd,osl⟩/\CF K cdv qual=true
 kp:CG K (.ref f)=true
section
variable {P:Program}{w:World}{K:Ay}{mg:Str->Option Value}{base:Heap}
def Fun.binds{st}{ps:List Str}(F:Fun K x qual st f fd)
 (h:∀kV doc pm an cdv ct (us:List Value),us.length=ps.length->bindArgs (Ci x qual (vf st) (wy st) (yK st) .none kV doc pm an cdv ct) ⟨us,[]⟩=pure (ps.zip us)):Binds K fd ps []:=by
 obtain⟨oc,od,kV,doc,pm,an,cdv,ct,osl,rfl,lk,hcd⟩:=F.a;exact .all (h kV doc pm an cdv ct)
def U0{st}{kV doc pm cdv ct}(l:K.lookup f=some ⟨oc,od,.func (Ci x qual (vf st) (wy st) (yK st) .none kV doc pm an cdv ct),osl⟩)
 (c:CF K cdv qual=true) (k:CG K (.ref f)=true):Fun K x qual st f (Ci x qual (vf st) (wy st) (yK st) .none kV doc pm an cdv ct):=⟨⟨oc,od,kV,doc,pm,an,cdv,ct,osl,rfl,l,c⟩,k⟩
end
def oz{A B:Prop}(h:B):if false=true then A else B:=by rw[if_neg Aa];exact h
def nA{A B:Prop}(h:A):if true=true then A else B:=by rw[if_pos rfl];exact h
def rn(H H':Hp):Prop:=∀b o,H b=some o->H' b=some o
def rn.refl H:rn H H:=λ_ _ h=>h
end L2
end
section
namespace M
open PySem
noncomputable def el(a n:Nat)(f:a=n->Bool):Bool:=if h:a=n then f h else false
def ye(h:el a n f=true):∃hc,f hc=true:=by
 unfold el at h;by_cases hc:a=n
 . rw[dif_pos hc]at h;exact⟨hc,h⟩
 . rw[dif_neg hc]at h;cases h
def Vy(e:Expr)(k:BoolOp->List Expr->Pos->Bool):Bool:=el e.ctorIdx 0 λh=>Expr.BoolOp.elim (motive_1:=λ_=>Bool) e h k
def dX(h:Vy e k=true):∃o xs p,e=.BoolOp o xs p/\k o xs p=true:=by obtain⟨hc,h⟩:=ye h;obtain⟨o,xs,p,rfl⟩:∃o xs p,e=.BoolOp o xs p:=Expr.BoolOp.elim (motive_1:=λe=>∃o xs p,e=Expr.BoolOp o xs p) e hc λo xs p=>⟨o,xs,p,rfl⟩;exact⟨o,xs,p,rfl,h⟩
def QH(e:Expr)(k:Expr->Operator->Expr->Pos->Bool):Bool:=el e.ctorIdx 2 λh=>Expr.BinOp.elim (motive_1:=λ_=>Bool) e h k
def ah(h:QH e k=true):∃l o r p,e=.BinOp l o r p/\k l o r p=true:=by obtain⟨hc,h⟩:=ye h;obtain⟨l,o,r,p,rfl⟩:∃l o r p,e=.BinOp l o r p:=Expr.BinOp.elim (motive_1:=λe=>∃l o r p,e=Expr.BinOp l o r p) e hc λl o r p=>⟨l,o,r,p,rfl⟩;exact⟨l,o,r,p,rfl,h⟩
def eUn(e:Expr)(k:UnaryOp->Expr->Pos->Bool):Bool:=el e.ctorIdx 3 λh=>Expr.UnaryOp.elim (motive_1:=λ_=>Bool) e h k
def Xz(h:eUn e k=true):∃o x p,e=.UnaryOp o x p/\k o x p=true:=by obtain⟨hc,h⟩:=ye h;obtain⟨o,x,p,rfl⟩:∃o x p,e=.UnaryOp o x p:=Expr.UnaryOp.elim (motive_1:=λe=>∃o x p,e=Expr.UnaryOp o x p) e hc λo x p=>⟨o,x,p,rfl⟩;exact⟨o,x,p,rfl,h⟩
def QJ(e:Expr)(k:Expr->Expr->Expr->Pos->Bool):Bool:=el e.ctorIdx 5 λh=>Expr.IfExp.elim (motive_1:=λ_=>Bool) e h k
def ao(h:QJ e k=true):∃t x y p,e=.IfExp t x y p/\k t x y p=true:=by obtain⟨hc,h⟩:=ye h;obtain⟨t,x,y,p,rfl⟩:∃t x y p,e=.IfExp t x y p:=Expr.IfExp.elim (motive_1:=λe=>∃t x y p,e=Expr.IfExp t x y p) e hc λt x y p=>⟨t,x,y,p,rfl⟩;exact⟨t,x,y,p,rfl,h⟩
def QI(e:Expr)(k:List (Option Expr)->List Expr->Pos->Bool):Bool:=el e.ctorIdx 6 λh=>Expr.Dict.elim (motive_1:=λ_=>Bool) e h k
def ak(h:QI e k=true):∃ks vs p,e=.Dict ks vs p/\k ks vs p=true:=by obtain⟨hc,h⟩:=ye h;obtain⟨ks,vs,p,rfl⟩:∃ks vs p,e=.Dict ks vs p:=Expr.Dict.elim (motive_1:=λe=>∃ks vs p,e=Expr.Dict ks vs p) e hc λks vs p=>⟨ks,vs,p,rfl⟩;exact⟨ks,vs,p,rfl,h⟩
def Ur(e:Expr)(k:Expr->List Fq->Scope->Pos->Bool):Bool:=el e.ctorIdx 8 λh=>E9 (motive_1:=λ_=>Bool) e h k
def kP(h:Ur e k=true):∃x gs sc p,e=.ListComp x gs sc p/\k x gs sc p=true:=by obtain⟨hc,h⟩:=ye h;obtain⟨x,gs,sc,p,rfl⟩:∃x gs sc p,e=.ListComp x gs sc p:=E9 (motive_1:=λe=>∃x gs sc p,e=Expr.ListComp x gs sc p) e hc λx gs sc p=>⟨x,gs,sc,p,rfl⟩;exact⟨x,gs,sc,p,rfl,h⟩
def Ut(e:Expr)(k:Expr->List CmpOp->List Expr->Pos->Bool):Bool:=el e.ctorIdx 15 λh=>FG (motive_1:=λ_=>Bool) e h k
def kQ(h:Ut e k=true):∃l os rs p,e=.Compare l os rs p/\k l os rs p=true:=by obtain⟨hc,h⟩:=ye h;obtain⟨l,os,rs,p,rfl⟩:∃l os rs p,e=.Compare l os rs p:=FG (motive_1:=λe=>∃l os rs p,e=Expr.Compare l os rs p) e hc λl os rs p=>⟨l,os,rs,p,rfl⟩;exact⟨l,os,rs,p,rfl,h⟩
def ai(e:Expr)(k:Expr->List Expr->List Keyword->Pos->Bool):Bool:=el e.ctorIdx 16 λh=>Expr.Call.elim (motive_1:=λ_=>Bool) e h k
def nj(h:ai e k=true):∃f xs ks p,e=.Call f xs ks p/\k f xs ks p=true:=by obtain⟨hc,h⟩:=ye h;obtain⟨f,xs,ks,p,rfl⟩:∃f xs ks p,e=.Call f xs ks p:=Expr.Call.elim (motive_1:=λe=>∃f xs ks p,e=Expr.Call f xs ks p) e hc λf xs ks p=>⟨f,xs,ks,p,rfl⟩;exact⟨f,xs,ks,p,rfl,h⟩
def Od(e:Expr)(k:Expr->Int->Option Expr->Pos->Bool):Bool:=el e.ctorIdx 17 λh=>Expr.FormattedValue.elim (motive_1:=λ_=>Bool) e h k
def eJn(e:Expr)(k:List Expr->Pos->Bool):Bool:=el e.ctorIdx 18 λh=>Expr.JoinedStr.elim (motive_1:=λ_=>Bool) e h k
def Us(e:Expr)(k:Const->Nat->Pos->Bool):Bool:=el e.ctorIdx 19 λh=>GP.elim (motive_1:=λ_=>Bool) e h k
def aj(h:Us e k=true):∃c n p,e=.Constant c n p/\k c n p=true:=by obtain⟨hc,h⟩:=ye h;obtain⟨c,n,p,rfl⟩:∃c n p,e=.Constant c n p:=GP.elim (motive_1:=λe=>∃c n p,e=GP c n p) e hc λc n p=>⟨c,n,p,rfl⟩;exact⟨c,n,p,rfl,h⟩
def QG(e:Expr)(k:Expr->Str->Pos->Bool):Bool:=el e.ctorIdx 20 λh=>GB.elim (motive_1:=λ_=>Bool) e h k
def ag(h:QG e k=true):∃o x p,e=.Attribute o x p/\k o x p=true:=by obtain⟨hc,h⟩:=ye h;obtain⟨o,x,p,rfl⟩:∃o x p,e=.Attribute o x p:=GB.elim (motive_1:=λe=>∃o x p,e=GB o x p) e hc λo x p=>⟨o,x,p,rfl⟩;exact⟨o,x,p,rfl,h⟩
def dY(e:Expr)(k:Expr->Expr->Pos->Bool):Bool:=el e.ctorIdx 21 λh=>GC.elim (motive_1:=λ_=>Bool) e h k
def ui(h:dY e k=true):∃l r p,e=.Subscript l r p/\k l r p=true:=by obtain⟨hc,h⟩:=ye h;obtain⟨l,r,p,rfl⟩:∃l r p,e=.Subscript l r p:=GC.elim (motive_1:=λe=>∃l r p,e=GC l r p) e hc λl r p=>⟨l,r,p,rfl⟩;exact⟨l,r,p,rfl,h⟩
def eName(e:Expr)(k:Str->Pos->Bool):Bool:=el e.ctorIdx 23 λh=>EB.elim (motive_1:=λ_=>Bool) e h k
def vN(h:eName e k=true):∃x p,e=.Name x p/\k x p=true:=by obtain⟨hc,h⟩:=ye h;obtain⟨x,p,rfl⟩:∃x p,e=.Name x p:=EB.elim (motive_1:=λe=>∃x p,e=EB x p) e hc λx p=>⟨x,p,rfl⟩;exact⟨x,p,rfl,h⟩
def QK(e:Expr)(k:List Expr->Pos->Bool):Bool:=el e.ctorIdx 24 λh=>Expr.List.elim (motive_1:=λ_=>Bool) e h k
def aq(h:QK e k=true):∃xs p,e=.List xs p/\k xs p=true:=by obtain⟨hc,h⟩:=ye h;obtain⟨xs,p,rfl⟩:∃xs p,e=.List xs p:=Expr.List.elim (motive_1:=λe=>∃xs p,e=Expr.List xs p) e hc λxs p=>⟨xs,p,rfl⟩;exact⟨xs,p,rfl,h⟩
def av(e:Expr)(k:List Expr->Nat->Pos->Bool):Bool:=el e.ctorIdx 25 λh=>Gu (motive_1:=λ_=>Bool) e h k
def rD(h:av e k=true):∃xs n p,e=.Tuple xs n p/\k xs n p=true:=by obtain⟨hc,h⟩:=ye h;obtain⟨xs,n,p,rfl⟩:∃xs n p,e=.Tuple xs n p:=Gu (motive_1:=λe=>∃xs n p,e=Expr.Tuple xs n p) e hc λxs n p=>⟨xs,n,p,rfl⟩;exact⟨xs,n,p,rfl,h⟩
def QL(e:Expr)(k:Option Expr->Option Expr->Option Expr->Pos->Bool):Bool:=el e.ctorIdx 26 λh=>Expr.Slice.elim (motive_1:=λ_=>Bool) e h k
def au(h:QL e k=true):∃x y z p,e=.Slice x y z p/\k x y z p=true:=by obtain⟨hc,h⟩:=ye h;obtain⟨x,y,z,p,rfl⟩:∃x y z p,e=.Slice x y z p:=Expr.Slice.elim (motive_1:=λe=>∃x y z p,e=Expr.Slice x y z p) e hc λx y z p=>⟨x,y,z,p,rfl⟩;exact⟨x,y,z,p,rfl,h⟩
def P6(e:Stmt)(k:Option Expr->Pos->Bool):Bool:=el e.ctorIdx 3 λh=>Stmt.Return.elim (motive_2:=λ_=>Bool) e h k
def Y0(h:P6 e k=true):∃o p,e=.Return o p/\k o p=true:=by obtain⟨hc,h⟩:=ye h;obtain⟨o,p,rfl⟩:∃o p,e=.Return o p:=Stmt.Return.elim (motive_2:=λe=>∃o p,e=Stmt.Return o p) e hc λo p=>⟨o,p,rfl⟩;exact⟨o,p,rfl,h⟩
def bQ(e:Stmt)(k:List Expr->Expr->Pos->Bool):Bool:=el e.ctorIdx 5 λh=>Stmt.Assign.elim (motive_2:=λ_=>Bool) e h k
def tE(h:bQ e k=true):∃ts v p,e=.Assign ts v p/\k ts v p=true:=by obtain⟨hc,h⟩:=ye h;obtain⟨ts,v,p,rfl⟩:∃ts v p,e=.Assign ts v p:=Stmt.Assign.elim (motive_2:=λe=>∃ts v p,e=Stmt.Assign ts v p) e hc λts v p=>⟨ts,v,p,rfl⟩;exact⟨ts,v,p,rfl,h⟩
def Py(e:Stmt)(k:Expr->Operator->Expr->Pos->Bool):Bool:=el e.ctorIdx 7 λh=>GD.elim (motive_2:=λ_=>Bool) e h k
def Yx(h:Py e k=true):∃t o v p,e=.AugAssign t o v p/\k t o v p=true:=by obtain⟨hc,h⟩:=ye h;obtain⟨t,o,v,p,rfl⟩:∃t o v p,e=.AugAssign t o v p:=GD.elim (motive_2:=λe=>∃t o v p,e=GD t o v p) e hc λt o v p=>⟨t,o,v,p,rfl⟩;exact⟨t,o,v,p,rfl,h⟩
def P5(e:Stmt)(k:Expr->Expr->List Stmt->List Stmt->Pos->Bool):Bool:=el e.ctorIdx 9 λh=>Stmt.For.elim (motive_2:=λ_=>Bool) e h k
def Yz(h:P5 e k=true):∃t i b c p,e=.For t i b c p/\k t i b c p=true:=by obtain⟨hc,h⟩:=ye h;obtain⟨t,i,b,c,p,rfl⟩:∃t i b c p,e=.For t i b c p:=Stmt.For.elim (motive_2:=λe=>∃t i b c p,e=Stmt.For t i b c p) e hc λt i b c p=>⟨t,i,b,c,p,rfl⟩;exact⟨t,i,b,c,p,rfl,h⟩
def P7(e:Stmt)(k:Expr->List Stmt->List Stmt->Pos->Bool):Bool:=el e.ctorIdx 11 λh=>Stmt.While.elim (motive_2:=λ_=>Bool) e h k
def Y1(h:P7 e k=true):∃c b d p,e=.While c b d p/\k c b d p=true:=by obtain⟨hc,h⟩:=ye h;obtain⟨c,b,d,p,rfl⟩:∃c b d p,e=.While c b d p:=Stmt.While.elim (motive_2:=λe=>∃c b d p,e=Stmt.While c b d p) e hc λc b d p=>⟨c,b,d,p,rfl⟩;exact⟨c,b,d,p,rfl,h⟩
def sIf(e:Stmt)(k:Expr->List Stmt->List Stmt->Pos->Bool):Bool:=el e.ctorIdx 12 λh=>Stmt.If.elim (motive_2:=λ_=>Bool) e h k
def VV(h:sIf e k=true):∃c a b p,e=.If c a b p/\k c a b p=true:=by obtain⟨hc,h⟩:=ye h;obtain⟨c,a,b,p,rfl⟩:∃c a b p,e=.If c a b p:=Stmt.If.elim (motive_2:=λe=>∃c a b p,e=Stmt.If c a b p) e hc λc a b p=>⟨c,a,b,p,rfl⟩;exact⟨c,a,b,p,rfl,h⟩
def sRs(e:Stmt)(k:Option Expr->Option Expr->Pos->Bool):Bool:=el e.ctorIdx 16 λh=>Stmt.Raise.elim (motive_2:=λ_=>Bool) e h k
def P0(e:Stmt)(k:Expr->Pos->Bool):Bool:=el e.ctorIdx 24 λh=>Stmt.Expr.elim (motive_2:=λ_=>Bool) e h k
def Yy(h:P0 e k=true):∃x p,e=.Expr x p/\k x p=true:=by obtain⟨hc,h⟩:=ye h;obtain⟨x,p,rfl⟩:∃x p,e=.Expr x p:=Stmt.Expr.elim (motive_2:=λe=>∃x p,e=Stmt.Expr x p) e hc λx p=>⟨x,p,rfl⟩;exact⟨x,p,rfl,h⟩
noncomputable def l1{α:Type}(xs:List α)(k:α->Bool):Bool:=match xs with
 |[x]=>k x
 |_=>false
def x9(h:l1 xs k=true):∃x,xs=[x]/\k x=true:=by
 cases xs with
 |nil=>cases h
 |cons x xs=>cases xs with
  |nil=>exact⟨x,rfl,h⟩
  |cons _ _=>cases h
noncomputable def lc{α:Type}(xs:List α)(k:α->List α->Bool):Bool:=match xs with
 |x::xs=>k x xs
 |[]=>false
def uN(h:lc xs k=true):∃x ys,xs=x::ys/\k x ys=true:=by
 cases xs with
 |nil=>cases h
 |cons x ys=>exact⟨x,ys,rfl,h⟩
def Zn{xs}{k:α->α->Bool}(h:(lc xs λx ys=>l1 ys (k x))=true):∃x y,xs=[x,y]/\k x y=true:=by obtain⟨x,ys,rfl,h⟩:=uN h;obtain⟨y,rfl,h⟩:=x9 h;exact⟨x,y,rfl,h⟩
noncomputable def o1{α:Type}(x:Option α)(k:α->Bool):Bool:=match x with
 |some x=>k x
 |none=>false
def Zz(h:o1 x k=true):∃y,x=some y/\k y=true:=by
 cases x with
 |none=>cases h
 |some x=>exact⟨x,rfl,h⟩
def xt(h:(a&&b)=true):a=true/\b=true:=by
 cases a with
 |false=>cases h
 |true=>exact⟨rfl,h⟩
def eOp(u:UnaryOp)(e:Expr)(k:Expr->Bool):Bool:=eUn e λo x _=>decide (o=u)&&k x
def m9(h:eOp u e k=true):∃x p,e=.UnaryOp u x p/\k x=true:=by obtain⟨o,x,p,rfl,h2⟩:=Xz h;obtain⟨h1,h3⟩:=xt h2;cases of_decide_eq_true h1;exact⟨x,p,rfl,h3⟩
def eBl(u:BoolOp)(e:Expr)(k:Expr->List Expr->Bool):Bool:=Vy e λo xs _=>decide (o=u)&&lc xs k
def m8(h:eBl u e k=true):∃x xs p,e=.BoolOp u (x::xs) p/\k x xs=true:=by obtain⟨o,xs,p,rfl,h2⟩:=dX h;obtain⟨h1,h3⟩:=xt h2;cases of_decide_eq_true h1;obtain⟨x,ys,rfl,h4⟩:=uN h3;exact⟨x,ys,p,rfl,h4⟩
def eC1(e:Expr)(k:Expr->CmpOp->Expr->Bool):Bool:=Ut e λl os rs _=>l1 os λo=>l1 rs λr=>k l o r
def fU(h:eC1 e k=true):∃l o r p,e=.Compare l [o] [r] p/\k l o r=true:=by obtain⟨l,os,rs,p,rfl,h⟩:=kQ h;obtain⟨o,rfl,h⟩:=x9 h;obtain⟨r,rfl,h⟩:=x9 h;exact⟨l,o,r,p,rfl,h⟩
def eC2(e:Expr)(k:Expr->CmpOp->CmpOp->Expr->Expr->Bool):Bool:=Ut e λl os rs _=>lc os λo os=>l1 os λo'=>lc rs λr rs=>l1 rs λr'=>k l o o' r r'
def fV(h:eC2 e k=true):∃l o o' r r' p,e=.Compare l [o,o'] [r,r'] p/\k l o o' r r'=true:=by obtain⟨l,os,rs,p,rfl,h⟩:=kQ h;obtain⟨o,os,rfl,h⟩:=uN h;obtain⟨o',rfl,h⟩:=x9 h;obtain⟨r,rs,rfl,h⟩:=uN h;obtain⟨r',rfl,h⟩:=x9 h;exact⟨l,o,o',r,r',p,rfl,h⟩
def eD0(e:Expr):Bool:=QI e λks vs _=>ks.isEmpty&&vs.isEmpty
def Xw(h:eD0 e=true):∃p,e=.Dict [] [] p:=by obtain⟨ks,vs,p,rfl,h⟩:=ak h;obtain⟨h1,h2⟩:=xt h;rw[AN.mp h1,AN.mp h2];exact⟨p,rfl⟩
def eCN(e:Expr)(k:Str->List Expr->Bool):Bool:=ai e λf xs ks _=>ks.isEmpty&&eName f λx _=>k x xs
def tX(h:eCN e k=true):∃x p xs pos,e=.Call (.Name x p) xs [] pos/\k x xs=true:=by obtain⟨f,xs,ks,pos,rfl,h⟩:=nj h;obtain⟨h1,h⟩:=xt h;obtain⟨x,p,rfl,h⟩:=vN h;rw[AN.mp h1];exact⟨x,p,xs,pos,rfl,h⟩
def eMt(e:Expr)(k:Expr->Str->Pos->Expr->Pos->Bool):Bool:=ai e λf xs ks cp=>ks.isEmpty&&QG f λob x ap=>l1 xs λy=>k ob x ap y cp
def Xx(h:eMt e k=true):∃ob x ap y cp,e=.Call (.Attribute ob x ap) [y] [] cp/\k ob x ap y cp=true:=by obtain⟨f,xs,ks,pos,rfl,h⟩:=nj h;obtain⟨h1,h⟩:=xt h;obtain⟨ob,x,ap,rfl,h⟩:=ag h;obtain⟨y,rfl,h⟩:=x9 h;rw[AN.mp h1];exact⟨ob,x,ap,y,pos,rfl,h⟩
def eSS(e:Expr)(k:Expr->Option Expr->Option Expr->Option Expr->Bool):Bool:=dY e λl r _=>QL r λx y z _=>k l x y z
def Xy(h:eSS e k=true):∃l x y z p pos,e=.Subscript l (.Slice x y z p) pos/\k l x y z=true:=by obtain⟨l,r,pos,rfl,h⟩:=ui h;obtain⟨x,y,z,p,rfl,h⟩:=au h;exact⟨l,x,y,z,p,pos,rfl,h⟩
noncomputable def gC(g:Fq)(k:Expr->Expr->List Expr->Bool):Bool:=decide (g.is_async=0)&&k g.target g.iter g.ifs
def iO(h:gC g k=true):∃t i f,g=⟨t,i,f,0⟩/\k t i f=true:=by obtain⟨t,i,f,a⟩:=g;obtain⟨h1,h⟩:=xt h;have h1:a=0:=of_decide_eq_true h1;subst h1;exact⟨t,i,f,rfl,h⟩
def eG1(e:Expr)(k:Expr->Expr->Expr->List Expr->Scope->Bool):Bool:=Ur e λx gs sc _=>l1 gs λg=>gC g λt i f=>k x t i f sc
def fW(h:eG1 e k=true):∃x t i f sc p,e=.ListComp x [⟨t,i,f,0⟩] sc p/\k x t i f sc=true:=by obtain⟨x,gs,sc,p,rfl,h2⟩:=kP h;obtain⟨g,rfl,h3⟩:=x9 h2;obtain⟨t,i,f,rfl,h4⟩:=iO h3;exact⟨x,t,i,f,sc,p,rfl,h4⟩
def eG2(e:Expr)(k:Expr->Expr->Expr->List Expr->Expr->Expr->List Expr->Scope->Bool):Bool:=Ur e λx gs sc _=>lc gs λg gs=>l1 gs λg2=>gC g λt i f=>gC g2 λt2 i2 f2=>k x t i f t2 i2 f2 sc
def fX(h:eG2 e k=true):∃x t i f t2 i2 f2 sc p,e=.ListComp x [⟨t,i,f,0⟩,⟨t2,i2,f2,0⟩] sc p/\k x t i f t2 i2 f2 sc=true:=by obtain⟨x,gs,sc,p,rfl,h2⟩:=kP h;obtain⟨g,gs,rfl,h3⟩:=uN h2;obtain⟨g2,rfl,h4⟩:=x9 h3;obtain⟨t,i,f,rfl,h5⟩:=iO h4;obtain⟨t2,i2,f2,rfl,h6⟩:=iO h5;exact⟨x,t,i,f,t2,i2,f2,sc,p,rfl,h6⟩
end M
end
section
namespace L2
open PySem PySem.Spec PyProof.Rows
noncomputable def t9(cells:List (Str × Addr)):List (Str × EY)->List (Str × Addr)->List (Str × Addr)
 |[],acc=>acc
 |(n,k)::r,acc=>if k == .free then (match cells.lookup n with|some c=>t9 cells r ((n,c)::acc)|none=>t9 cells r acc) else t9 cells r acc
theorem sO:∀names acc,(∀x∈names,x.2=.free->∃c,env.cells.lookup x.1=some c) ->
 (forIn names acc λx cs =>(if x.2 == .free then do let a <-cellOf env x.1;pure (Du ((x.1,a)::cs)) else pure (Du cs):Sem (ForInStep (List (Str × Addr)))))=pure (t9 env.cells names acc)
 |[],acc,_=>rfl
 |(n,k)::r,acc,h=>by
  rw[Dv];dsimp only;unfold t9;by_cases hk:(k == AX)=true
  . have hk':k=.free:=by simpa using hk
    obtain⟨c,hc⟩:=h (n,k) AK hk';have hc':env.cells.lookup n=some c:=hc;have hcell:cellOf env n=pure c:=by unfold cellOf;rw[hc']
    rw[if_pos hk,if_pos hk,hcell,hc',Fb,Fb];exact sO r _ λx hx=>h x (Az _ hx)
  . rw[if_neg hk,if_neg hk,Fb]
    exact sO r _ λx hx=>h x (Az _ hx)
def sE(h:∀x∈scope.names,x.2=.free->∃c,env.cells.lookup x.1=some c):closureFor scope env=pure (t9 env.cells scope.names []):=by
 have e:=sO (env:=env) scope.names [] h;show (do let cs <-forIn scope.names [] _;pure cs)=_
 refine Eq.trans ?_ e;refine Eq.trans (bind_pure _) ?_;congr 1
theorem s9:∀names acc,(∀x c,acc.lookup x=some c->cells.lookup x=some c)->∀x c,(t9 cells names acc).lookup x=some c->cells.lookup x=some c
 |[],acc,h,x,c,e=>h x c e
 |(n,k)::r,acc,h,x,c,e=>by
  unfold t9 at e;by_cases hk:(k == AX)=true
  . rw[if_pos hk]at e
    cases hc:cells.lookup n with
    |none=>rw[hc]at e;exact s9 r acc h x c e
    |some d=>
     rw[hc]at e;refine s9 r _ (λy z q=>?_) x c e;rw[Av]at q;cases hy:(y == n) with
     |true=>rw[hy]at q;have hy':y=n:=by simpa using hy
            cases q;rw[hy'];exact hc
     |false=>rw[hy]at q;exact h y z q
  . rw[if_neg hk]at e;exact s9 r acc h x c e
theorem v5:∀names acc x c,cells.lookup x=some c->(acc.lookup x=some c\/(x,AX)∈names)->(∀y d,acc.lookup y=some d->cells.lookup y=some d)->(t9 cells names acc).lookup x=some c
 |[],acc,x,c,_,h,_=>by
  rcases h with h|h
  . exact h
  . cases h
 |(n,k)::r,acc,x,c,hc,h,ha=>by
  unfold t9;by_cases hk:(k == AX)=true
  . rw[if_pos hk]
    cases hn:cells.lookup n with
    |none=>
     refine v5 r acc x c hc ?_ ha;rcases h with h|h
     . exact .inl h
     . rcases Ah.mp h with e|e
       . cases e;rw[hn]at hc;cases hc
       . exact .inr e
    |some d=>
     have ha':∀y z,((n,d)::acc).lookup y=some z->cells.lookup y=some z:=λy z q=>by
      rw[Av]at q;cases hy:(y == n) with
      |true=>rw[hy]at q;have hy':y=n:=by simpa using hy
             cases q;rw[hy'];exact hn
      |false=>rw[hy]at q;exact ha y z q
     by_cases hx:x=n
     . subst hx
       refine v5 r _ x c hc (.inl ?_) ha';rw[hn]at hc;cases hc;simp[Av]
     . refine v5 r _ x c hc ?_ ha'
       rcases h with h|h
       . refine .inl ?_
         have:(x == n)=false:=by simpa using hx
         rw[Av,this];exact h
       . rcases Ah.mp h with e|e
         . cases e;exact absurd rfl hx
         . exact .inr e
  . rw[if_neg hk]
    refine v5 r acc x c hc ?_ ha;rcases h with h|h
    . exact .inl h
    . rcases Ah.mp h with e|e
      . cases e;exact absurd (by decide) hk
      . exact .inr e
theorem sM:∀names n acc,De n names acc=De n names []++acc
 |[],_,_=>rfl
 |(x,k)::r,n,acc=>by
  unfold De;split
  . rw[sM r (n+1) ((x,n)::acc),sM r (n+1) [(x,n)],Bc];rfl
  . exact sM r n acc
theorem m6:∀names n {x} {c},(x,c)∈De n names []->(x,Bq)∈names/\n<=c
 |[],_,_,_,h=>by cases h
 |(y,k)::r,n,x,c,h=>by
  unfold De at h;split at h
  . rename_i hk
    rw[sM]at h;rcases AO.mp h with h|h
    . obtain⟨h1,h2⟩:=m6 r (n+1) h
      exact⟨Az _ h1,⋯⟩
    . cases Ao.mp h
      have:k=.cell:=by simpa using hk
      rw[this];exact⟨AK,Ac _⟩
  . obtain⟨h1,h2⟩:=m6 r n h
    exact⟨Az _ h1,h2⟩
theorem m5:∀names n {x},(x,Bq)∈names->∃c,(x,c)∈De n names []
 |[],_,_,h=>by cases h
 |(y,k)::r,n,x,h=>by
  unfold De;rcases Ah.mp h with e|h
  . cases e
    rw[if_pos (by rfl),sM]
    exact⟨n,AU _ AK⟩
  . split
    . obtain⟨c,hc⟩:=m5 r (n+1) h
      rw[sM];exact⟨c,Bs _ hc⟩
    . exact m5 r n h
def Zq{l:List (Str × Addr)}:(x,c)∈l->∃d,l.lookup x=some d:=by
 induction l with
 |nil=>intro h;cases h
 |cons p r ih=>
  intro h;rw[Av];cases hx:x == p.1 with
  |true=>exact⟨_,rfl⟩
  |false=>
   rcases Ah.mp h with e|h
   . rw[<-e]at hx;simp at hx
   . exact ih h
def iY{l m:List (Str × Addr)}{x:Str}:(l++m).lookup x=match l.lookup x with|some c=>some c|none=>m.lookup x:=by
 induction l with
 |nil=>rfl
 |cons p r ih=>
  rw[FZ,Av,Av];cases hx:x == p.1 with
  |true=>rfl
  |false=>exact ih
noncomputable def vn(sc:Scope)(C:Addr):List (Str × Addr):=De (C+1) sc.names []
def Ws(h:Heap)sc:∃h',CellsOk h' (h.objs.size+1) (vn sc h.objs.size):=by
 have ok:=cellsFrom_ok sc.names (h.push {cls:=.type "dict",data:=.dict #[]}) (h.objs.size+1) [] ⟨λ_ _ hm=>(nomatch hm),FF⟩ (by rw[Be];exact Ac _)
 rw[Be]at ok;exact⟨_,ok⟩
abbrev Cx.comp(X:Cx)(N:List Str)(sc:Scope)(C:Addr)(s:Shared)(H:Hp)(ex:List Addr):Cx:=
 {X with N:=N,l:=s,r:=H,a:=compEnvC sc (vn sc C++t9 X.a.cells sc.names []) C X.a,k:=X.j,n:=ex,m:=λx=>sc.names.any λp=>decide (p=(x,Bq)),q:=[],h:=λ_ _=>False}
structure yE(X:Cx)(N:List Str)(sc:Scope)(fr:List (Option Nat)):Prop where
 b:sc.kind=.function
 e:∀x,(x,Bq)∈sc.names->(x,AX)∈sc.names->False
 a:∀x∈sc.names,x.2=.local->sc.names.lookup x.1=some .local
 d:∀x∈sc.names,x.2=.free->X.a.kindOf x.1=some .cell\/X.a.kindOf x.1=some .free
 g:fr.length=N.length
 f:∀(i j:Nat) (x:Str),N[i]?=some x->fr[i]?=some (some j)->X.N[j]?=some x/\(x,AX)∈sc.names
 h:∀x,sc.names.lookup x=some .local->(x,AX)∈sc.names->False
noncomputable def zP(fr:List (Option Nat))(σ:St):St:=fr.map λo=>match o with|some j=>(σ[j]?).join|none=>none
def lT(h:(relabel sc env).names.lookup x=some .cell\/(relabel sc env).names.lookup x=some .free):(x,AX)∈sc.names\/(x,Bq)∈sc.names:=by
 have key:∀(names:List (Str × EY)),((names.map λ(n,k)=>if (k == AX&&env.scope.kind == .function&&env.kindOf n == some .cell) then (n,Bq) else (n,k)).lookup x=some .cell \/
  (names.map λ(n,k)=>if (k == AX&&env.scope.kind == .function&&env.kindOf n == some .cell) then (n,Bq) else (n,k)).lookup x=some .free)->(x,AX)∈names\/(x,Bq)∈names:=by
  intro names;induction names with
  |nil=>intro h;simp at h
  |cons p r ih=>
   obtain⟨n,k⟩:=p;intro h;rw[Aw]at h;dsimp only at h;by_cases hx:x=n
   . subst hx
     by_cases hf:k=.free
     . subst hf;exact .inl AK
     . have hf':(k == AX)=false:=by simpa using hf
       rw[hf']at h;simp only[BX,AV,if_false,Av,beq_self_eq_true]at h;rcases h with h|h
       . cases h;exact .inr AK
       . cases h;exact absurd rfl hf
   . have hx':(x == n)=false:=by simpa using hx
     have:=ih (by split at h<;>simpa only[Av,hx'] using h)
     exact this.elim (λz=>.inl (Az _ z)) λz=>.inr (Az _ z)
 exact key sc.names h
def uW(h:sc.names.lookup x=some .cell):(relabel sc env).names.lookup x=some .cell:=by
 have key:∀(names:List (Str × EY)),names.lookup x=some .cell->(names.map λ(n,k)=>if (k == AX&&env.scope.kind == .function&&env.kindOf n == some .cell) then (n,Bq) else (n,k)).lookup x=some .cell:=by
  intro names;induction names with
  |nil=>intro h;simp at h
  |cons p r ih=>
   obtain⟨n,k⟩:=p;intro h;rw[Aw];dsimp only;cases hx:(x == n) with
   |true=>
    rw[Av,hx]at h;cases h;have e:(Bq == AX)=false:=rfl;rw[e];simp only[BX,AV,if_false,Av,hx]
   |false=>
    rw[Av,hx]at h;have:=ih h;split<;>simpa only[Av,hx] using this
 exact key sc.names h
def rS(hl:∀y∈sc.names,y.2=.local->sc.names.lookup y.1=some .local)(h:sc.names.lookup x=some .free) :
 (relabel sc env).names.lookup x=some .cell\/(relabel sc env).names.lookup x=some .free:=by
 have key:∀(names:List (Str × EY)),names.lookup x=some .free->((names.map λ(n,k)=>if (k == AX&&env.scope.kind == .function&&env.kindOf n == some .cell) then (n,Bq) else (n,k)).lookup x=some .cell \/
  (names.map λ(n,k)=>if (k == AX&&env.scope.kind == .function&&env.kindOf n == some .cell) then (n,Bq) else (n,k)).lookup x=some .free):=by
  intro names;induction names with
  |nil=>intro h;simp at h
  |cons p r ih=>
   obtain⟨n,k⟩:=p;intro h;rw[Aw];dsimp only;cases hx:(x == n) with
   |true=>
    rw[Av,hx]at h;cases h;split
    . left;simp only[Av,hx]
    . right;simp only[Av,hx]
   |false=>
    rw[Av,hx]at h;have:=ih h;split<;>simpa only[Av,hx] using this
 exact key sc.names h
section
variable {X:Cx}{pins:List (Addr × Obj)}{σ:St}{H:Hp}{s:Shared}{N:List Str}{sc:Scope}{fr:List (Option Nat)}{fp:List Addr}
theorem yE.cells(S:yE X N sc fr)(ok:X.Ok):∀x∈sc.names,x.2=.free->∃c,X.a.cells.lookup x.1=some c:=λx hx hk=>ok.t x.1 (S.d x hx hk)
def vz(h:(vn sc C++t9 cells sc.names []).lookup x=some c):((vn sc C).lookup x=some c)\/((vn sc C).lookup x=none/\cells.lookup x=some c):=by
 rw[iY]at h;cases ho:(vn sc C).lookup x with
 |some d=>rw[ho]at h;exact .inl h
 |none=>rw[ho]at h;exact .inr ⟨rfl,s9 sc.names [] (λx c e=>by simp at e) x c h⟩
def oF(h:(vn sc C).lookup x=some c):@LE.le Nat _ (C+1) c:=(m6 sc.names (C+1) (mem_of_lookup h)).2
def Z4(S:yE X N sc fr)(h:(x,AX)∈sc.names):(vn sc C).lookup x=none:=by
 cases ho:(vn sc C).lookup x with
 |none=>rfl
 |some d=>exact(S.e x (m6 sc.names (C+1) (mem_of_lookup ho)).1 h).elim
def Xo(I:Inv X pins σ H s)(S:yE X N sc fr)(hf:∀b∈fp,uG X pins H b)(hlt:∀b∈fp,b<s.heap.objs.size):(X.comp N sc s.heap.objs.size s H fp).Ok:=by
 obtain⟨h',hok⟩:=Ws s.heap sc;have old:∀x c,X.a.cells.lookup x=some c->@LT.lt Nat _ c s.heap.objs.size:=λx c e=>by obtain⟨v,z⟩:=I.F x c e;exact z.lt
 refine⟨I.y.l,S.b,I.y.k,I.y.r,Ac _,λx y c e1 e2=>?_,λx h=>?_,λx c h e=>?_,I.y.a,I.y.i,.inl rfl,λb hb=>?_,λb o e=>I.bs b o e,?_,λb o e hb=>?_,λb hb z=>?_,I.stack,I.eP⟩
 . rcases vz e1 with e1|⟨_,e1⟩<;>rcases vz e2 with e2|⟨_,e2⟩
   . exact name_of_addr hok.apart (mem_of_lookup e1) (mem_of_lookup e2)
   . exact absurd (AI (old _ _ e2) (AB (DA _) (oF e1))) (Bp _)
   . exact absurd (AI (old _ _ e1) (AB (DA _) (oF e2))) (Bp _)
   . exact I.y.u x y c e1 e2
 . show ∃c,(vn sc s.heap.objs.size++t9 X.a.cells sc.names []).lookup x=some c
   rw[iY];rcases lT h with m|m
   . obtain⟨c,hc⟩:=S.cells I.y (x,.free) m rfl
     rw[Z4 S m];exact⟨c,v5 sc.names [] x c hc (.inr m) (λy d e=>by simp at e)⟩
   . obtain⟨c,hc⟩:=m5 sc.names (s.heap.objs.size+1) m
     obtain⟨d,hd⟩:=Zq hc;have hd':(vn sc s.heap.objs.size).lookup x=some d:=hd;rw[hd'];exact⟨d,rfl⟩
 . have m:(x,Bq)∈sc.names:=by obtain⟨p,hp,e'⟩:=Bx.mp h;rw[<-of_decide_eq_true e'];exact hp
   rcases vz e with e|⟨e,_⟩
   . exact AB (DA _) (oF e)
   . obtain⟨c',hc⟩:=m5 sc.names (s.heap.objs.size+1) m
     obtain⟨d,hd⟩:=Zq hc;have hd':(vn sc s.heap.objs.size).lookup x=some d:=hd;rw[hd']at e;cases e
 . obtain⟨f0,f1,f2,f3,f4,f5⟩:=hf b hb
   refine⟨Ax (hlt b hb),λx c e=>?_⟩;rcases vz e with e|⟨_,e⟩
   . exact λz=>absurd (AI (z▸hlt b hb) (AB (DA _) (oF e))) (Bp _)
   . exact f4 x c e
 . exact AB I.y.p I.sz
 . obtain⟨f0,f1,f2,f3,f4,f5⟩:=hf b hb
   rcases f3 with f3|f3
   . exact I.y.m b o e f3
   . exact absurd (AI (Aj e) (AB I.y.p f3)) (Bp _)
 . obtain⟨f0,f1,f2,f3,f4,f5⟩:=hf b hb
   rcases Ah.mp (I.gV b z) with e|e
   . exact f1 e
   . exact f2 e
def iI(I:Inv X pins σ H s)(S:yE X N sc fr)(hf:∀b∈fp,uG X pins H b)(hlt:∀b∈fp,b<s.heap.objs.size)
 (hns:h'.Ns s.heap.objs.size (λ_=>none)) (k:∀b o,s.heap.get? b=some o->h'.get? b=some o) (hown:∀x c,(vn sc s.heap.objs.size).lookup x=some c->h'.IsCell c none):Inv (X.comp N sc s.heap.objs.size s H fp) [] (zP fr σ) H {s with heap:=h',toks:=tk}:=by
 refine⟨Xo I S hf hlt,rfl,I.C,Un.kept k,⟨_,hns,λi x v e1 e2 e3=>?_⟩,λx c e=>?_,I.j.fresh (Ac _),λx c e=>?_,λp hp=>(by simp at hp),I.j.kept k,?_⟩
 . have e2':(fr.map λo=>match o with|some j=>(σ[j]?).join|none=>none)[i]?=some (some v):=e2
   rw[AA]at e2';cases hfi:fr[i]? with
   |none=>rw[hfi]at e2';cases e2'
   |some o=>
    rw[hfi]at e2';cases o with
    |none=>cases e2'
    |some j=>
     obtain⟨n1,n2⟩:=S.f i j x e1 hfi;have e3':σ[j]?=some (some v):=by
      have q:(σ[j]?).join=some v:=Am e2';cases hσ:σ[j]? with
      |none=>rw[hσ]at q;cases q
      |some w=>rw[hσ]at q;cases w with
       |none=>cases q
       |some w'=>have:w'=v:=Am q
                 rw[this]
     have hk:=S.d (x,.free) n2 rfl;obtain⟨m,hn,hl⟩:=I.M;obtain⟨u,r,l⟩:=hl j x v n1 e3' (hk.elim (λz=>.inr (.inl z)) λz=>.inr (.inr z));refine⟨u,r,?_⟩;rcases l with⟨hk',_⟩|⟨_,c,hc,z⟩
     . rcases hk with hk|hk<;>(rw[hk]at hk';cases hk')
     . refine .inr ⟨?_,c,(by show (vn sc s.heap.objs.size++t9 X.a.cells sc.names []).lookup x=some c;rw[iY,Z4 S n2];exact v5 sc.names [] x c hc (.inr n2) (λy d e=>by simp at e)),?_⟩
       . rcases e3 with e3|e3|e3
         . -- a local of that name: cannot be,the name is free in the block
           exfalso;have hloc:sc.names.lookup x=some .local:=by
            have key:∀(names:List (Str × EY)),(names.map λ(n,k)=>if (k == AX&&X.a.scope.kind == .function&&X.a.kindOf n == some .cell) then (n,Bq) else (n,k)).lookup x=some .local->names.lookup x=some .local:=by
             intro names;induction names with
             |nil=>intro h;simp at h
             |cons p r ih=>
              obtain⟨n,kk⟩:=p;intro h;rw[Aw]at h;dsimp only at h;cases hx:(x == n) with
              |true=>
               split at h
               . simp only[Av,hx]at h;cases h
               . simp only[Av,hx]at h ⊢;exact h
              |false=>
               rw[Av,hx];refine ih ?_;split at h<;>simpa only[Av,hx] using h
            exact key sc.names e3
           exact S.h x hloc n2
         . exact .inl e3
         . exact .inr e3
       . obtain⟨o,ho,hd⟩:=z
         exact⟨o,k _ _ ho,hd⟩
 . rcases vz e with e|⟨_,e⟩
   . exact⟨none,hown x c e⟩
   . obtain⟨v,o,ho,hd⟩:=I.F x c e
     exact⟨v,o,k _ _ ho,hd⟩
 . rcases vz e with e|⟨_,e⟩
   . exact I.j.fresh (AB (DA _) (oF e))
   . exact I.J x c e
 . show (fr.map _).length=N.length
   rw[zI];exact S.g
end
end L2
end
section
namespace L2
open PySem PySem.Spec PyProof.Rows
def lr:List TT->TT
 |[]=>λ_ H Q=>Q true H
 |t::ts=>λσ H Q=>t σ H λc H1=>if c=true then lr ts σ H1 Q else Q false H1
inductive PTs(X:Cx):List Expr->List TT->Prop
 |b:PTs X [] []
 |a {c:Expr} {cs:List Expr} {t:TT} {ts:List TT}:PT X c t->PTs X cs ts->PTs X (c::cs) (t::ts)
theorem qk{X:Cx}(h:Q false s):∀cs:List Expr,
 wpAny (model X.f X.w) X.A (forIn cs false λc r=>if r=true then do let ok <-isTrue c X.a (eval c X.a);pure (Du ok) else pure (Du r)) Q E s
 |[]=>Af h
 |c::cs=>by rw[Dv];exact dr (Af (qk h cs))
theorem PTs.run:∀{cs} {ts},PTs X cs ts->∀{pins} {s} {σ} {H} {Q},Inv X pins σ H s->lr ts σ H Q ->
 wpAny (model X.f X.w) X.A (forIn cs true λc r=>if r=true then do let ok <-isTrue c X.a (eval c X.a);pure (Du ok) else pure (Du r)) (TP X pins σ Q) X.h s
 |_,_,.b,pins,s,σ,H,Q,I,h=>Af ⟨H,I,h⟩
 |_,_,.a hc hs,pins,s,σ,H,Q,I,h=>by
  rw[Dv];refine dr (dr (thn (hc pins s σ H _ I h) λc s1 ⟨H1,I1,q1⟩=>Af ?_));cases c with
  |true=>exact hs.run I1 q1
  |false=>exact qk ⟨H1,I1,q1⟩ _
abbrev TB:=(St->Hp->Prop)->St->Hp->Prop
def PB(X:Cx)(B:Sem PUnit)(tb:TB):Prop:=
 ∀(pins:List (Addr × Obj)) (s:Shared) (σ:St) (H:Hp) (Nx:St->Hp->Prop),Inv X pins σ H s->tb Nx σ H->wpAny (model X.f X.w) X.A B (λ_ s'=>∃σ' H',Inv X pins σ' H' s'/\Nx σ' H') X.h s
def tTB(ts:List TT)(tb:TB):TS:=λD σ H=>lr ts σ H λc H1=>if c=true then tb D.a σ H1 else D.a σ H1
def mL(J:It)(g:TG)(tb:TS)(D:Ends)(σ:St)(H:Hp):Prop:=∃W:Nat->Nat->St->Hp->Prop,(∃m,W 0 m σ H)/\∀i m σ H,W i m σ H ->
 (J.a i H/\D.a σ H)\/(J.c i H/\∃N:St->Hp->Prop,(∀σ' H',N σ' H'->∃m',m'<m/\W (i+1) m' σ' H')/\∀x H',J.b i H x H'->g x σ H' λσ2 H2=>tb {D with a:=N,c:=N,b:=D.a} σ2 H2)
def v7{X:Cx}{elt:Expr}{gens:List Fq}{csc:Scope}{cpos:Pos}{d:Nat}{tg:Expr}{p:Pos}{ifs:List Expr}{B:Sem PUnit}{acc:Value}{it:Addr}{fp:List Addr}{tn:Nat->Heap->Prop}{J:It}{g:TG}{ts:List TT}{tb:TB}{D:Ends}
 {pins:List (Addr × Obj)} {σ:St} {H:Hp} {s:Shared} {R:Result->Shared->Prop}
 (heq:Ee (.ListComp elt gens csc cpos) d (.ref it) acc X.a=(do
  standAt p
  match <-pyNext (.ref it) with
  |none=>pure (.done .next)
  |some v=>
   BQ tg (.ref it) v
   assign tg X.a v
   let mut ok:=true
   for c in ifs do
    if ok then ok <-isTrue c X.a (eval c X.a)
   if ok then B
   again (.compLoop (.ListComp elt gens csc cpos) d (.ref it) acc X.a)))
 (hx:X.h=λ_ _=>False) (hc:X.g=true) (T:Turn X.f X.w X.K tg J fp it tn) (hg:PG X tg g) (ht:PTs X ifs ts) (hb:PB X B tb)
 (I:Inv X pins σ H s) (st:tn 0 s.heap) (f:∀b∈fp,uG X pins H b) (h:mL J g (tTB ts tb) D σ H)
 (hR:∀σ' H' s',Inv X pins σ' H' s'->D.a σ' H'->(∀b∈fp,H' b=none)->R (.ok .next) s') :
 codeAny (model X.f X.w) X.A (.compLoop (.ListComp elt gens csc cpos) d (.ref it) acc X.a) R s:=by
 obtain⟨W,⟨m0,w0⟩,turn⟩:=h;have stat:∀{H':Hp},(∀b∈fp,H' b=none)->∀b∈fp,uG X pins H' b:=λhn b hb=>⟨hn b hb,(f b hb).2⟩;have no:∀{α:Type} {t:Sem α} {Q:α->Shared->Prop} {E':Value->Shared->Prop} {s:Shared},wpAny (model X.f X.w) X.A t Q X.h s->wpAny (model X.f X.w) X.A t Q E' s:=λh=>C7 h (λ_ _ q=>q) λ_ _ z=>by rw[hx]at z;exact z.elim
 refine codeAny_loop rfl (λn s'=>∃i σ' H',Inv X pins σ' H' s'/\tn i s'.heap/\(∀b∈fp,H' b=none)/\W i n σ' H') (λn s3 hI=>?_) m0 ⟨0,σ,H,I,st,λb hb=>(f b hb).1,w0⟩;obtain⟨i,σ3,H3,I3,st3,fr3,w3⟩:=hI;show wpAny _ _ ((Ee (.ListComp elt gens csc cpos) d (.ref it) acc X.a).onRaise (λx=>do noteFrame x X.a;theTreesLotGoes x)) _ _ s3
 refine wpAny_noted ?_;rw[heq];refine dr (CW (dr ?_));rcases turn i n σ3 H3 w3 with⟨stop,qn⟩|⟨go,N,hN,step⟩
 . refine no (thn (T.c X rfl rfl rfl hc i pins s3 σ3 H3 X.h I3 (stat fr3) st3 stop) λr s4 ⟨hr,I4⟩=>?_)
   subst hr;exact Af (hR σ3 H3 s4 I4 qn fr3)
 . refine no (thn (T.d X rfl rfl rfl hc i pins s3 σ3 H3 X.h I3 (stat fr3) st3 go) λr s4 ⟨u,hr,h4⟩=>?_)
   subst hr;refine dr (no (thn h4 λ_ s5 ⟨x,H5,I5,r5,y5,st5,fr5⟩=>?_));have I5':=I5.pinned (stat fr5) (T.e _ _ st5);refine dr (no (thn (hg _ s5 σ3 H5 x u _ I5' r5 (step x H5 y5)) λ_ s6 ⟨σ6,H6,I6,q6⟩=>?_));refine dr (no (thn (ht.run I6 q6) λok s7 ⟨H7,I7,q7⟩=>?_));have again':∀{σ7:St} {H7:Hp} {s7:Shared},Inv X (pins++oH fp s5.heap) σ7 H7 s7->N σ7 H7->∃m,m<n/\∃i σ' H',Inv X pins σ' H' s7/\tn i s7.heap/\(∀b∈fp,H' b=none)/\W i m σ' H':=λ{σ7 H7 s7} I7 n7=>by obtain⟨m',hm,w7⟩:=hN σ7 H7 n7;refine⟨m',hm,i+1,σ7,H7,I7.rY,T.a _ _ _ st5 λb hb o e=>(I7.O (b,o) (AU _ (AU _ (uP hb e)))).1,λb hb=>?_,w7⟩;obtain⟨o,e,d⟩:=T.e _ _ st5 b hb;exact(I7.O (b,o) (AU _ (AU _ (uP hb e)))).2.1
   cases ok with
   |false=>exact Af ⟨rfl,again' I7 q7⟩
   |true=>exact dr (no (thn (hb _ s7 σ6 H7 N I7 q7) λ_ s8 ⟨σ8,H8,I8,n8⟩=>Af ⟨rfl,again' I8 n8⟩))
def sG(acc:Addr)(te:TE):TB:=λNx σ H=>te σ H λy H1=>∃ys,H1 acc=some (.b ys)/\ys.length<Ar/\Nx σ (upd H1 acc (.b (ys++[y])))
def pF(he:PE X elt te):PB X (do let _ <-call (.builtin "list.append") [.ref acc,<-eval elt X.a]) (sG acc te):=by intro pins s σ H Nx I h;refine dr (thn (he pins s σ H _ I h) λu s1 ⟨y,H1,I1,r1,ys,hl,hz,q⟩=>?_);refine dr (thn (mD pins s1 σ H1 (.c acc) [y] (.ref acc) [u] (λ_ H'=>Nx σ H') I1 rfl (.cons r1 .nil) ⟨acc,ys,y,rfl,rfl,hl,hz,q⟩) λ_ s2 ⟨_,H2,I2,_,q2⟩=>?_);exact Af ⟨σ,H2,I2,q2⟩
end L2
end
section
namespace L2
open PySem PySem.Spec PyProof.Rows
def tD(fr:List (Option Nat))(wi:TI)(g:TG)(ts:List TT)(tb:Addr->TB)(σ:St)(H:Hp)(Q:VK):Prop:=
 wi σ H λJ H1=>∀acc,H1 acc=none->mL J g (tTB ts (tb acc)) ⟨λ_ H'=>Q (.c acc) H',λ_ _=>False,λ_ _=>False,λ_ _=>False⟩ (zP fr σ) (upd H1 acc (.b []))
section
variable {X:Cx}{pins:List (Addr × Obj)}{σ:St}{H:Hp}{s:Shared}{N:List Str}{csc:Scope}{fr:List (Option Nat)}{elt tg iter:Expr}{ifs:List Expr}{rest:List Fq}{cpos:Pos}{wi:TI}{g:TG}{ts:List TT}{tb:Addr->TB}
def gr{outer:Env}{Q:Env->Shared->Prop}
 (hQ:∀h':Heap,h'.Ns s.heap.objs.size (λ_=>none)->(∀b o,s.heap.get? b=some o->h'.get? b=some o)->(∀x c,(vn scope s.heap.objs.size).lookup x=some c->h'.IsCell c none) ->
  Q {scope:=scope,locals:=s.heap.objs.size,globals:=globals,cells:=vn scope s.heap.objs.size++cl,qual:=qual,func:=none,code:=outer.code,frame:=outer.frame,builtins:=outer.builtins} {s with heap:=h'}) :
 wpAny M A (GF scope globals cl [] qual none .none (some outer)) Q E s:=by
 simp only[GF,Option.isSome_some,if_true];refine dr (wpAny_alloc ?_);refine dr (wpAny_layCells _ (λname kind cells=>by cases hkc:kind == Bq<;>simp[hkc]) _ _ _ _ ?_)
 have ok:=cellsFrom_ok scope.names (s.heap.push {cls:=.type "dict",data:=.dict #[]}) (s.heap.objs.size+1) [] ⟨λ_ _ hm=>(nomatch hm),FF⟩ (by rw[Be];exact Ac _)
 rw[Be]at ok;rw[show ({s with heap:=s.heap.push {cls:=.type "dict",data:=.dict #[]}}:Shared).heap.objs.size=s.heap.objs.size+1 from Be ..]
 rw[DF];refine dr (Af (Af ?_));rw[sM];exact hQ _ ((Heap.Ns.new s.heap (.type "dict")).keeps (pushCells_keeps _ _)) (λb o e=>pushCells_keeps _ _ b o (zO _ e)) λx c hc=>(ok.empty x c (mem_of_lookup hc)).1
def nh{use:Option (Value->Sem Unit)}{QQ:Value->Shared->Prop}{Qv:VK}{B:Value->Env->Sem PUnit}{E:Value->Shared->Prop}(hE:E=X.h)(hc:X.g=true)(S:yE X N csc fr)(hi:PI X tg iter wi)
 (hturn:∀(it:Addr) (acc:Value) (env:Env),Ee (.ListComp elt (⟨tg,iter,ifs,0⟩::rest) csc cpos) 0 (.ref it) acc env=(do
  standAt iter.pos
  match <-pyNext (.ref it) with
  |none=>pure (.done .next)
  |some v=>
   BQ tg (.ref it) v
   assign tg env v
   let mut ok:=true
   for c in ifs do
    if ok then ok <-isTrue c env (eval c env)
   if ok then B acc env
   again (.compLoop (.ListComp elt (⟨tg,iter,ifs,0⟩::rest) csc cpos) 0 (.ref it) acc env)))
 (hg:∀C s0 H0 ex,PG (X.comp N csc C s0 H0 ex) tg g) (ht:∀C s0 H0 ex,PTs (X.comp N csc C s0 H0 ex) ifs ts)
 (hb:∀C s0 H0 ex acc,PB (X.comp N csc C s0 H0 ex) (B (.ref acc) (X.comp N csc C s0 H0 ex).a) (tb acc))
 (I:Inv X pins σ H s) (h:tD fr wi g ts tb σ H Qv)
 (hfin:∀acc C H' s',Inv X pins σ H' s'->Qv (.c acc) H'->(∃m,s'.heap.Ns C m)->H' C=none->C≠X.a.locals->X.l.heap.objs.size<=C->(∀x c,X.a.cells.lookup x=some c->c≠C)->(∀p∈X.q++pins,p.1≠C) ->
  compPost (model X.f X.w) X.A X.h use QQ (.ref acc) C (.ok .next) s') :
 wpAny (model X.f X.w) X.A (eval iter X.a) (λx s₁=>wpAny (model X.f X.w) X.A (pyIter x) (λit s₂=>wpAny (model X.f X.w) X.A (newList []) (λacc s₃=>
  wpAny (model X.f X.w) X.A (GF csc X.a.globals (t9 X.a.cells csc.names []) [] X.a.qual none .none (some X.a)) (λcenv s₄=>
   codeAny (model X.f X.w) X.A (.compStart (.ListComp elt (⟨tg,iter,ifs,0⟩::rest) csc cpos) 0 it acc {cenv with scope:=relabel csc X.a}) (compPost (model X.f X.w) X.A E use QQ acc cenv.locals) s₄) E s₃) E s₂) E s₁) E s:=by
 subst hE;refine thn (hi pins s σ H _ I h) λv s1 h1=>thn h1 λitv s2 h2=>?_;obtain⟨it,fp,tn,J,H2,e,I2,T,st2,f2,q2⟩:=h2;subst e;refine Bm ?_;have hfr:H2 s2.heap.objs.size=none:=I2.j.fresh (Ac _);have q3:=q2 s2.heap.objs.size hfr;generalize hs3:({s2 with heap:=s2.heap.push {cls:=.type "list",dict:=none,data:=.seq ([]:List Value).toArray}}:Shared)=s3
 have k23:∀b u,s2.heap.get? b=some u->s3.heap.get? b=some u:=λb u e=>by rw[<-hs3];exact zO _ e
 have new3:s3.heap.get? s2.heap.objs.size=some {cls:=.type "list",dict:=none,data:=.seq ([]:List Value).toArray}:=by rw[<-hs3];exact As _ rfl
 have I3:Inv X pins σ (upd H2 s2.heap.objs.size (.b [])) s3:=by rw[<-hs3];exact I2.laid (t':=s2.toks) (λb u e=>zO _ e) (Ac _) ⟨A3 _,[],0,.nil,As _ rfl⟩
 have lt2:∀b∈fp,b<s2.heap.objs.size:=λb hb=>by obtain⟨o,e,_⟩:=T.e _ _ st2 b hb;exact Aj e
 have hsz:s3.heap.objs.size=s2.heap.objs.size+1:=by rw[<-hs3];exact Be ..
 have f3:∀b∈fp,uG X pins (upd H2 s2.heap.objs.size (.b [])) b:=λb hb=>⟨by rw[zY (Ax (lt2 b hb))];exact(f2 b hb).1,(f2 b hb).2⟩
 have lt3:∀b∈fp,b<s3.heap.objs.size:=λb hb=>by rw[hsz];exact BY (lt2 b hb)
 refine gr λh4 hns4' k34 own4=>?_;have I4:=iI (tk:=s3.toks) I3 S f3 lt3 hns4' k34 own4;have st4:tn 0 h4:=T.a _ _ _ st2 λb hb o e=>k34 b o (k23 b o e);have f4:∀b∈fp,uG (X.comp N csc s3.heap.objs.size s3 (upd H2 s2.heap.objs.size (.b [])) fp) [] (upd H2 s2.heap.objs.size (.b [])) b:=λb hb=>by have ok:=I4.y;obtain⟨g1,g2⟩:=ok.D b hb;exact⟨(f3 b hb).1,g1,ok.j b hb,.inl hb,g2,λp hp=>by simp at hp⟩
 have fin:∀σ' H' s',Inv (X.comp N csc s3.heap.objs.size s3 (upd H2 s2.heap.objs.size (.b [])) fp) [] σ' H' s'->Qv (.c s2.heap.objs.size) H'->(∀b∈fp,H' b=none) ->
  compPost (model X.f X.w) X.A X.h use QQ (.ref s2.heap.objs.size) s3.heap.objs.size (.ok .next) s':=λσ' H' s' I' q' _=>by
  have IX:Inv X pins σ H' s':=I3.QC I'.R I'.B I'.j I'.C λb hb=>by obtain⟨g0,g1,g2,g3,g4,g5⟩:=f3 b hb;exact⟨g3,g1,g4,g5⟩
  obtain⟨m,hn,_⟩:=I'.M;refine hfin _ _ H' s' IX q' ⟨m,hn⟩ I'.G (DE I3.lt) I3.sz (λx c e=>?_) λp hp=>?_
  . obtain⟨w',z⟩:=I3.F x c e
    exact Ax z.lt
  . exact Ax (Aj (I3.O p hp).1)
 have loop:codeAny (model X.f X.w) X.A (.compLoop (.ListComp elt (⟨tg,iter,ifs,0⟩::rest) csc cpos) 0 (.ref it) (.ref s2.heap.objs.size) (compEnvC csc (vn csc s3.heap.objs.size++t9 X.a.cells csc.names []) s3.heap.objs.size X.a))
  (compPost (model X.f X.w) X.A X.h use QQ (.ref s2.heap.objs.size) s3.heap.objs.size) {s3 with heap:=h4}:=
  v7 (X:=X.comp N csc s3.heap.objs.size s3 (upd H2 s2.heap.objs.size (.b [])) fp) (hturn it _ _) rfl hc T (hg _ _ _ _) (ht _ _ _ _) (hb _ _ _ _ _) I4 st4 f4 q3 fin
 exact codeAny_compStart_list loop (T.f X.A 0 _ _ _ st4 loop)
def jM{B:Value->Env->Sem PUnit}(hc:X.g=true)(S:yE X N csc fr)(hi:PI X tg iter wi)
 (hturn:∀(it:Addr) (acc:Value) (env:Env),Ee (.ListComp elt (⟨tg,iter,ifs,0⟩::rest) csc cpos) 0 (.ref it) acc env=(do
  standAt iter.pos
  match <-pyNext (.ref it) with
  |none=>pure (.done .next)
  |some v=>
   BQ tg (.ref it) v
   assign tg env v
   let mut ok:=true
   for c in ifs do
    if ok then ok <-isTrue c env (eval c env)
   if ok then B acc env
   again (.compLoop (.ListComp elt (⟨tg,iter,ifs,0⟩::rest) csc cpos) 0 (.ref it) acc env)))
 (hg:∀C s0 H0 ex,PG (X.comp N csc C s0 H0 ex) tg g) (ht:∀C s0 H0 ex,PTs (X.comp N csc C s0 H0 ex) ifs ts)
 (hb:∀C s0 H0 ex acc,PB (X.comp N csc C s0 H0 ex) (B (.ref acc) (X.comp N csc C s0 H0 ex).a) (tb acc))
 (hs:∀x,A0 iter X.a x=pure x:=by intro _;rfl) :
 PE X (.ListComp elt (⟨tg,iter,ifs,0⟩::rest) csc cpos) (tD fr wi g ts tb):=by
 intro pins s σ H Q I h;rw[eval_ListComp];refine F0 (use:=none) rfl hs (sE (S.cells I.y)) S.b S.a ?_;refine nh (use:=none) rfl hc S hi hturn hg ht hb I h λacc C H' s' I' q' hn hC hL h0 hcl hpn=>?_;obtain⟨m,hn⟩:=hn;refine⟨m,hn,λh' sb=>⟨.c acc,H',?_,rfl,q'⟩⟩;exact I'.turned (t':=s'.toks) (λb o hb e=>(sb.2 b hb).trans e) hC (BP (BP hL)) (.inr h0) hcl hpn
def jU{B:Value->Env->Sem PUnit}{y:Str}{py spos:Pos}{i:Nat}(hc:X.g=true)(S:yE X N csc fr)(hi:PI X tg iter wi)
 (hturn:∀(it:Addr) (acc:Value) (env:Env),Ee (.ListComp elt (⟨tg,iter,ifs,0⟩::rest) csc cpos) 0 (.ref it) acc env=(do
  standAt iter.pos
  match <-pyNext (.ref it) with
  |none=>pure (.done .next)
  |some v=>
   BQ tg (.ref it) v
   assign tg env v
   let mut ok:=true
   for c in ifs do
    if ok then ok <-isTrue c env (eval c env)
   if ok then B acc env
   again (.compLoop (.ListComp elt (⟨tg,iter,ifs,0⟩::rest) csc cpos) 0 (.ref it) acc env)))
 (hg:∀C s0 H0 ex,PG (X.comp N csc C s0 H0 ex) tg g) (ht:∀C s0 H0 ex,PTs (X.comp N csc C s0 H0 ex) ifs ts)
 (hb:∀C s0 H0 ex acc,PB (X.comp N csc C s0 H0 ex) (B (.ref acc) (X.comp N csc C s0 H0 ex).a) (tb acc))
 (hN:X.N.Nodup) (hy:X.N[i]?=some y) (hx:Loc X.a.scope y)
 (hsw:Ea (.ListComp elt (⟨tg,iter,ifs,0⟩::rest) csc cpos) (some (.Name y py)) spos.line X.a=pure true:=by rfl)
 (hf:X.m y=true\/X.a.scope.names.lookup y=some .local:=by first|exact .inl rfl|exact .inr rfl|assumption)
 (hs:∀x,A0 iter X.a x=pure x:=by intro _;rfl) :
 PS X (.Assign [.Name y py] (.ListComp elt (⟨tg,iter,ifs,0⟩::rest) csc cpos) spos) (nJ (tD fr wi g ts tb) (uk i)):=by
 intro pins s σ H D I h;rw[exec_Assign_Name_used _ _ _ _ hsw];refine dr (CW (dr ?_));show wpAny _ X.A (do let _ <-comprehension (.ListComp elt (⟨tg,iter,ifs,0⟩::rest) csc cpos) csc X.a _ (newList []) false (eval iter X.a) (some (assign (.Name y py) X.a))) _ _ s
 refine dr (C7 (F0 (use:=some (assign (.Name y py) X.a)) (Q:=λ_ s'=>SP X pins D .next s') rfl hs (sE (S.cells I.y)) S.b S.a ?_) (λ_ s' hq=>Af (Af hq)) λ_ _ e=>e);refine nh (use:=some (assign (.Name y py) X.a)) rfl hc S hi hturn hg ht hb I h λacc C H' s' I' q' hn hC hL h0 hcl hpn=>?_;obtain⟨m,hn⟩:=hn;show wpAny _ X.A (assign (.Name y py) X.a (.ref acc)) _ _ _;refine wpAny_assign_Name (mR I' hN hy hx (show RelV (.c acc) (.ref acc) from rfl) (λs2 I2 ⟨a,sb,ha⟩=>?_) hf);have haC:C≠a:=by
  rcases ha with ha|ha
  . rw[ha];exact hL
  . exact BP (hcl y a ha)
 refine⟨m,hn.sameBut sb haC,λh' sb'=>⟨_,H',?_,q'⟩⟩;exact I2.turned (t':=s2.toks) (λb o hb e=>(sb'.2 b hb).trans e) hC hL (.inr h0) hcl hpn
def UO(elt tg iter:Expr)(ifs:List Expr)(csc:Scope)(cpos:Pos)(it:Addr)(acc:Value)(env:Env) :
 Ee (.ListComp elt [⟨tg,iter,ifs,0⟩] csc cpos) 0 (.ref it) acc env=(do
  standAt iter.pos
  match <-pyNext (.ref it) with
  |none=>pure (.done .next)
  |some v=>
   BQ tg (.ref it) v
   assign tg env v
   let mut ok:=true
   for c in ifs do
    if ok then ok <-isTrue c env (eval c env)
   if ok then (do let _ <-call (.builtin "list.append") [acc,<-eval elt env])
   again (.compLoop (.ListComp elt [⟨tg,iter,ifs,0⟩] csc cpos) 0 (.ref it) acc env)):=by rfl
def UP(elt tg iter:Expr)(ifs:List Expr)(tg2 iter2:Expr)(ifs2:List Expr)(csc:Scope)(cpos:Pos)(it:Addr)(acc:Value)(env:Env) :
 Ee (.ListComp elt [⟨tg,iter,ifs,0⟩,⟨tg2,iter2,ifs2,0⟩] csc cpos) 0 (.ref it) acc env=(do
  standAt iter.pos
  match <-pyNext (.ref it) with
  |none=>pure (.done .next)
  |some v=>
   BQ tg (.ref it) v
   assign tg env v
   let mut ok:=true
   for c in ifs do
    if ok then ok <-isTrue c env (eval c env)
   if ok then (do
    let x <-eval iter2 env
    standAt iter2.pos
    let x <-A0 iter2 env x;let _ <-runOwn (.compStart (.ListComp elt [⟨tg,iter,ifs,0⟩,⟨tg2,iter2,ifs2,0⟩] csc cpos) 1 (<-holding [x] (pyIter x)) acc env) env)
   again (.compLoop (.ListComp elt [⟨tg,iter,ifs,0⟩,⟨tg2,iter2,ifs2,0⟩] csc cpos) 0 (.ref it) acc env)):=by
 have e:Ee (.ListComp elt [⟨tg,iter,ifs,0⟩,⟨tg2,iter2,ifs2,0⟩] csc cpos) 0 (.ref it) acc env=(do
  standAt iter.pos
  match <-pyNext (.ref it) with
  |none=>pure (.done .next)
  |some v=>
   BQ tg (.ref it) v
   assign tg env v
   let mut ok:=true
   for c in ifs do
    if ok then ok <-isTrue c env (eval c env)
   if ok then
    let x <-eval iter2 env
    standAt iter2.pos
    let x <-A0 iter2 env x;let _ <-runOwn (.compStart (.ListComp elt [⟨tg,iter,ifs,0⟩,⟨tg2,iter2,ifs2,0⟩] csc cpos) 1 (<-holding [x] (pyIter x)) acc env) env
   again (.compLoop (.ListComp elt [⟨tg,iter,ifs,0⟩,⟨tg2,iter2,ifs2,0⟩] csc cpos) 0 (.ref it) acc env)):=by rfl
 rw[e];simp only[bind_assoc,Fb]
def Rq(elt tg iter:Expr)(ifs:List Expr)(tg2 iter2:Expr)(ifs2:List Expr)(csc:Scope)(cpos:Pos)(it:Addr)(acc:Value)(env:Env) :
 Ee (.ListComp elt [⟨tg,iter,ifs,0⟩,⟨tg2,iter2,ifs2,0⟩] csc cpos) 1 (.ref it) acc env=(do
  standAt iter2.pos
  match <-pyNext (.ref it) with
  |none=>pure (.done .next)
  |some v=>
   BQ tg2 (.ref it) v
   assign tg2 env v
   let mut ok:=true
   for c in ifs2 do
    if ok then ok <-isTrue c env (eval c env)
   if ok then (do let _ <-call (.builtin "list.append") [acc,<-eval elt env])
   again (.compLoop (.ListComp elt [⟨tg,iter,ifs,0⟩,⟨tg2,iter2,ifs2,0⟩] csc cpos) 1 (.ref it) acc env)):=by rfl
end
end L2
end
section
namespace L2
open PySem PySem.Spec PyProof.Rows
def iH
 (h0:codeAny (model prog w) A (.compLoop (.ListComp elt [⟨tg,iter,ifs,0⟩,⟨tg2,iter2,ifs2,0⟩] csc cpos) 1 it acc env) R s)
 (h:wpAny (model prog w) A (pyIter it) (λit' s'=>codeAny (model prog w) A (.compLoop (.ListComp elt [⟨tg,iter,ifs,0⟩,⟨tg2,iter2,ifs2,0⟩] csc cpos) 1 it' acc env) R s')
  (notedBy (model prog w) A env λx s'=>R (.error x) s') s) :
 codeAny (model prog w) A (.compStart (.ListComp elt [⟨tg,iter,ifs,0⟩,⟨tg2,iter2,ifs2,0⟩] csc cpos) 1 it acc env) R s:=by
 refine codeAny_of_tree ?_;show wpAny _ _ ((compStart (.ListComp elt [⟨tg,iter,ifs,0⟩,⟨tg2,iter2,ifs2,0⟩] csc cpos) 1 it acc env).onRaise (λx=>do noteFrame x env;standAt theWindowsPlace)) _ _ s
 refine wpAny_notedAt ?_;unfold compStart;show wpAny _ _ (ask >>= _) _ _ s;refine dr (wpAny_askSetting (wpAny_ite ?_));split
 . first
    |exact dr (Af (Af (Ai rfl h0)))
    |exact Af (Ai rfl h0)
 . first
    |exact dr (C9 (dr (CW (dr (C7 h (λit' s' h'=>Af (Ai rfl h')) λ_ _ x=>x)))))
    |(refine dr (C9 ?_);show wpAny _ _ (standAt iter2.pos >>= _) _ _ s;exact dr (CW (dr (C7 h (λit' s' h'=>Af (Ai rfl h')) λ_ _ x=>x))))
def oZ(wi:TI)(g:TG)(ts:List TT)(tb:TB):TB:=λNx σ H=>wi σ H λJ H1=>mL J g (tTB ts tb) ⟨Nx,λ_ _=>False,λ_ _=>False,λ_ _=>False⟩ σ H1
def jJ
 (hx:X.h=λ_ _=>False) (hc:X.g=true) (hi:PI X tg2 iter2 wi) (hg:PG X tg2 g) (ht:PTs X ifs2 ts) (hb:PB X (do let _ <-call (.builtin "list.append") [.ref acc,<-eval elt X.a]) tb)
 (hs:∀x,A0 iter2 X.a x=pure x:=by intro _;rfl) :
 PB X (do
       let x <-eval iter2 X.a
       standAt iter2.pos
       let x <-A0 iter2 X.a x;let _ <-runOwn (.compStart (.ListComp elt [⟨tg,iter,ifs,0⟩,⟨tg2,iter2,ifs2,0⟩] csc cpos) 1 (<-holding [x] (pyIter x)) (.ref acc) X.a) X.a) (oZ wi g ts tb):=by
 intro pins s σ H Nx I h;refine dr (thn (hi pins s σ H _ I h) λv s1 h1=>dr (CW (dr (wpAny_of_eq (hs v) (dr (Cw (thn h1 λitv s2 h2=>?_)))))));obtain⟨it,fp,tn,J,H2,e,I2,T,st2,f2,q2⟩:=h2;subst e;refine dr (wpAny_runOwn ?_);have loop:codeAny (model X.f X.w) X.A (.compLoop (.ListComp elt [⟨tg,iter,ifs,0⟩,⟨tg2,iter2,ifs2,0⟩] csc cpos) 1 (.ref it) (.ref acc) X.a)
  (λr s'=>match r with|.ok f=>wpAny (model X.f X.w) X.A (pure PUnit.unit:Sem PUnit) (λ_ s'=>∃σ' H',Inv X pins σ' H' s'/\Nx σ' H') X.h s'|.error e=>cameBackBy (model X.f X.w) X.A X.a X.h e s') s2:=
  v7 (Rq ..) hx hc T hg ht hb I2 st2 f2 q2 λσ' H' s' I' n' _=>Af ⟨σ',H',I',n'⟩
 exact iH loop (T.f X.A 0 _ _ _ st2 loop)
section
variable {X:Cx}{N:List Str}{csc:Scope}{fr:List (Option Nat)}{elt tg iter tg2 iter2:Expr}{ifs ifs2:List Expr}{cpos:Pos}{wi wi2:TI}{g g2:TG}{ts ts2:List TT}{te:TE}
def eA(hc:X.g=true)(S:yE X N csc fr)(hi:PI X tg iter wi)(hg:∀C s0 H0 ex,PG (X.comp N csc C s0 H0 ex) tg g)(ht:∀C s0 H0 ex,PTs (X.comp N csc C s0 H0 ex) ifs ts)
 (he:∀C s0 H0 ex,PE (X.comp N csc C s0 H0 ex) elt te) (hs:∀x,A0 iter X.a x=pure x:=by intro _;rfl) :
 PE X (.ListComp elt [⟨tg,iter,ifs,0⟩] csc cpos) (tD fr wi g ts λacc=>sG acc te):=
 jM hc S hi (B:=λacc env=>(do let _ <-call (.builtin "list.append") [acc,<-eval elt env])) (UO elt tg iter ifs csc cpos) hg ht (λC s0 H0 ex acc=>pF (he C s0 H0 ex)) hs
def VC(hc:X.g=true)(S:yE X N csc fr)(hi:PI X tg iter wi)(hg:∀C s0 H0 ex,PG (X.comp N csc C s0 H0 ex) tg g)(ht:∀C s0 H0 ex,PTs (X.comp N csc C s0 H0 ex) ifs ts)
 (he:∀C s0 H0 ex,PE (X.comp N csc C s0 H0 ex) elt te) (hN:X.N.Nodup) (hy:X.N[i]?=some y) (hx:Loc X.a.scope y)
 (hsw:Ea (.ListComp elt [⟨tg,iter,ifs,0⟩] csc cpos) (some (.Name y py)) spos.line X.a=pure true:=by rfl)
 (hf:X.m y=true\/X.a.scope.names.lookup y=some .local:=by first|exact .inl rfl|exact .inr rfl|assumption)
 (hs:∀x,A0 iter X.a x=pure x:=by intro _;rfl) :
 PS X (.Assign [.Name y py] (.ListComp elt [⟨tg,iter,ifs,0⟩] csc cpos) spos) (nJ (tD fr wi g ts λacc=>sG acc te) (uk i)):=
 jU hc S hi (B:=λacc env=>(do let _ <-call (.builtin "list.append") [acc,<-eval elt env])) (UO elt tg iter ifs csc cpos) hg ht (λC s0 H0 ex acc=>pF (he C s0 H0 ex)) hN hy hx hsw hf hs
def jK(hc:X.g=true)(S:yE X N csc fr)(hi:PI X tg iter wi)(hg:∀C s0 H0 ex,PG (X.comp N csc C s0 H0 ex) tg g)(ht:∀C s0 H0 ex,PTs (X.comp N csc C s0 H0 ex) ifs ts)
 (hi2:∀C s0 H0 ex,PI (X.comp N csc C s0 H0 ex) tg2 iter2 wi2) (hg2:∀C s0 H0 ex,PG (X.comp N csc C s0 H0 ex) tg2 g2) (ht2:∀C s0 H0 ex,PTs (X.comp N csc C s0 H0 ex) ifs2 ts2)
 (he:∀C s0 H0 ex,PE (X.comp N csc C s0 H0 ex) elt te) (hs:∀x,A0 iter X.a x=pure x:=by intro _;rfl)
 (hs2:∀env x,A0 iter2 env x=pure x:=by intro _ _;rfl) :
 PE X (.ListComp elt [⟨tg,iter,ifs,0⟩,⟨tg2,iter2,ifs2,0⟩] csc cpos) (tD fr wi g ts λacc=>oZ wi2 g2 ts2 (sG acc te)):=
 jM hc S hi (B:=λacc env=>(do
         let x <-eval iter2 env
         standAt iter2.pos
         let x <-A0 iter2 env x;let _ <-runOwn (.compStart (.ListComp elt [⟨tg,iter,ifs,0⟩,⟨tg2,iter2,ifs2,0⟩] csc cpos) 1 (<-holding [x] (pyIter x)) acc env) env)) (UP elt tg iter ifs tg2 iter2 ifs2 csc cpos) hg ht
  (λC s0 H0 ex acc=>jJ rfl hc (hi2 C s0 H0 ex) (hg2 C s0 H0 ex) (ht2 C s0 H0 ex) (pF (he C s0 H0 ex)) (hs2 _)) hs
end
end L2
end
section
namespace L2
open PySem PySem.Spec PyProof.Rows
section
variable {X:Cx}
def pT:yw X (.builtin "isinstance") (λxs H Q=>∃x c t b,xs=[x,.k c]/\sk X.K H x (.type t)/\GA X.K (.type t) (.type c)=some b/\Q (.e b) H):=by intro pins s σ H xs us Q I r h;obtain⟨x,c,t,b,rfl,ty,e,q⟩:=h;obtain⟨u,w',rfl,rx,rc⟩:=vals2 r;cases (show w'=FL c from rc);exact dj I rx ty e λtk=>⟨.e b,H,I.tok _,rfl,q⟩
end
inductive Kd where
 |f|i|d|h|e|b|g
 deriving DecidableEq
noncomputable def Kd.nm:Kd->String
 |.f=>"NoneType"|.i=>"bool"|.d=>"int"|.h=>"str"|.e=>"list"|.b=>"tuple"|.g=>"dict"
noncomputable def Kd.sub(a c:Kd):Bool:=decide (a=c)||(decide (a=.i)&&decide (c=.d))
def T7 K(a c:Kd)(hc:c≠.f):GA K (.type a.nm) (.type c.nm)=some (a.sub c):=by
 cases c with
 |f=>exact absurd rfl hc
 |i=>cases a<;>rfl
 |d=>cases a<;>rfl
 |h=>cases a<;>rfl
 |e=>cases a<;>rfl
 |b=>cases a<;>rfl
 |g=>cases a<;>rfl
section
variable {X:Cx}
def all_range:∀(bs:List Bool),((Al bs.length).all λi=>bs.getD i false)=bs.all id:=by
 intro bs;induction bs with
 |nil=>rfl
 |cons b bs ih=>
  rw[An,DB,B6,B6,List.all_map];exact congrArg (b&&·) (Eq.trans (by congr 1) ih)
theorem Vals.bools:∀{bs:List Bool} {us},Vals (bs.map V.e) us->us=bs.map DM
 |[],us,r=>by cases r;rfl
 |b::bs,us,r=>by
  rw[Aw]at r;cases r with
  |cons r1 r2=>
   cases (show _=DM b from r1);rw[Vals.bools r2,Aw]
def pS(hc:X.g=true):yw X (.builtin "all") (λxs H Q=>∃(a:Addr) (bs:List Bool),xs=[.c a]/\SqL X.K H a (bs.map V.e)/\Q (.e (bs.all id)) H):=by
 intro pins s σ H xs us Q I r h;obtain⟨a,bs,rfl,ha,q⟩:=h;obtain⟨u,rfl,ru⟩:=vals1 r;cases ru;obtain⟨its,rv,pl,hz⟩:=I.list ha;have hits:=rv.bools;have alt:a<s.heap.objs.size:=by obtain⟨o,ho,_⟩:=pl.isList;exact Aj ho
 refine call_all_walk (DC pl.isList ?_);refine⟨s.heap.objs.size,_,_,_,_,_,λi=>bs.getD i false,rfl,GJ (A:=X.A.in1) (I.y.a hc) s.heap.objs.size a (Ax alt) its.toArray,⟨⟨_,As _ rfl,rfl,rfl⟩,?_⟩,?_,λh' tk hk=>?_⟩
 . obtain⟨o,ho,hc',n,hd⟩:=pl.isList
   exact⟨o,zO _ ho,hc',n,hd⟩
 . intro i v s' Q' E' hv hq
   have hv':(bs.map DM)[i]?=some v:=by rw[<-hits];simpa using hv
   rw[AA]at hv';cases hb:bs[i]? with
   |none=>rw[hb]at hv';cases hv'
   |some b=>
    rw[hb]at hv';have:v=DM b:=(Am hv').symm;subst this;have e:bs.getD i false=b:=by rw[Ab,hb];rfl
    have hq':Q' (bs.getD i false) s':=hq;rw[e]at hq';exact Cb hq'
 . have e:(Al its.toArray.size).all (λi=>bs.getD i false)=bs.all id:=by rw[Ae,hits,zI];exact all_range bs
   rw[e];refine⟨.e (bs.all id),H,I.kept λb o ho=>hk b o ?_ (zO _ ho),rfl,q⟩;simpa using Ax (Aj ho)
end
end L2
end
section
namespace L2
open PySem PySem.Spec PyProof.Rows
def Y2(h:H p=none)o:rn H (upd H p o):=λb u q=>by rw[zY (zp q h)];exact q
def qc(H:Hp)(ys:List V)(Q:VK):Prop:=∀p H',rn H H'->H' p=some (.c ys)->Q (.c p) H'
def qc.new(g:qc H ys Q):∀p,H p=none->Q (.c p) (upd H p (.c ys)):=λp hp=>g p _ (Y2 hp _) zt
def Oz:V->Option Int->Option Int->Hp->VK->Prop:=λx lo hi H Q=>∃a xs,x=.c a/\H a=some (.c xs)/\qc H (ou xs lo hi) Q
def UD:R2:=λx y H Q=>∃a b xs ys,x=.c a/\y=.c b/\H a=some (.c xs)/\H b=some (.c ys)/\xs.length+ys.length<=Ar/\qc H (xs++ys) Q
def Pt:R2:=λx y H Q=>∃a k xs,x=.c a/\y=.d k/\H a=some (.c xs)/\2<=k/\k<=1000/\xs≠[]/\xs.length<=1000/\qc H (AG k.toNat xs).flatten Q
section
variable {X:Cx}
def dQ{lo hi}(ht:IsTup s.heap t items)(hs:s.heap.IsSliceOf sl vl vu .none)(pl:IsPart vl lo)(pu:IsPart vu hi)
 (h0:HT.sIx items.size 0 lo=0) (h1:HT.sIx items.size items.size hi=items.size) (h:Q (.ref t) s):wpAny (model prog w) A (getItem (.ref t) (.ref sl)) Q E s:=by
 obtain⟨os,hos,hcs,hds⟩:=id hs;have hTs:s.TypeIs (.ref sl) "slice":=⟨os,hos,hcs⟩;unfold getItem
 try with_reducible refine Cw ?_
 first|refine dr (Af ?_)|skip
 refine dr (FD ht.typeIs (by decide) ?_)
 refine dr (BC (name:=Dl "__getitem__") ht.typeIs AZ
  (B3 AZ ht.typeIs EU ?_ (E7 _ _)))
 show wpAny _ _ (DX (.ref t) >>= _) _ _ s;refine dr (Er ht ?_);refine dr (EK hTs ?_);rw[if_pos (by decide)]
 refine dr (HT.uC hs pl pu ?_);have hyes:(((HT.sIx items.size 0 lo:Nat):Int) == 0&&(1:Int) == 1&&(HT.sIx items.size items.size hi-HT.sIx items.size 0 lo) == items.size)=true:=by rw[h0,h1];simp
 show wpAny _ _ (if (((HT.sIx items.size 0 lo:Nat):Int) == 0&&(1:Int) == 1&&(HT.sIx items.size items.size hi-HT.sIx items.size 0 lo) == items.size)=true then _ else _) _ _ s
 rw[if_pos hyes];unfold Fs;refine dr (dr (EK ht.typeIs (Af ?_)));rw[if_pos (by decide)]
 exact dr (C9 (Af ⟨_,rfl,Af h⟩))
def VY:SlR X Oz:=by
 intro pins s σ H x v vl vu lo hi sl Q I rx hs pl pu h;obtain⟨a,xs,rfl,hx,g⟩:=h;by_cases hw:HT.sIx xs.length 0 lo=0/\HT.sIx xs.length xs.length hi=xs.length
 . cases rx
   obtain⟨its,r,ht,hz⟩:=I.tuple (.inl (.inl hx));have hlen:its.toArray.size=xs.length:=by rw[Ae];exact r.length.symm
   refine⟨"tuple",_,AZ.lookup,ht.typeIs,?_⟩;refine dQ ht hs pl pu (by rw[hlen];exact hw.1) (by rw[hlen];exact hw.2) ⟨.c a,H,I,rfl,g a H (rn.refl H) ?_⟩
   rw[hx];unfold ou;rw[hw.1,hw.2,EZ,DG,List.take_length]
 . exact Rb pins s σ H (.c a) v vl vu lo hi sl Q I rx hs pl pu ⟨a,xs,rfl,.inl (.inl hx),hw,g.new⟩
def Z2:OpR X (BI .Add) UD:=by
 intro pins s σ H x y v u Q I rx ry h;obtain⟨a,b,xs,ys,rfl,rfl,ha,hb,hz,g⟩:=h;by_cases hx:xs=[]
 . cases rx
   cases ry;subst hx;obtain⟨its,r1,p1,_⟩:=I.tuple (.inl (.inl ha));obtain⟨its2,r2,p2,_⟩:=I.tuple (.inl (.inl hb));cases r1;obtain⟨⟨cls,dd,data,sl⟩,ho,hc,n,hd⟩:=id p1;obtain⟨⟨cls2,dd2,data2,sl2⟩,ho2,hc2,n2,hd2⟩:=id p2;simp only at hc hd hc2 hd2;subst hc hd hc2 hd2;exact concat_meets ⟨_,ho,rfl⟩ ⟨_,ho2,rfl⟩ Ew Fp Cj Ca (B2 _ _)
    (tuple_addW0 a b #[] its2.toArray n n2 dd dd2 sl sl2 rfl) ⟨ho,ho2,⟨.c b,H,I,rfl,g b H (rn.refl H) hb⟩⟩
 . refine Wl pins s σ H (.c a) (.c b) v u Q I rx ry ⟨a,b,xs,ys,rfl,rfl,.inl (.inl ha),.inl (.inl hb),hx,hz,λe=>?_,λ_=>g.new⟩
   subst e;rw[Ba]at g;exact g a H (rn.refl H) ha
def wu:fillsNumberSlot (.type "tuple") "mul"=pure false:=
 PySem.fillsNumberSlot_seq (id:="tuple.__mul__") (r:=some (.builtin "tuple.__rmul__")) DP.lookup (by decide +kernel) F.slot_tuple_rmul.lookup (by decide +kernel)
def uX:seqRepeat? (.type "tuple")=pure (some (.builtin "tuple.__mul__")):=by
 unfold seqRepeat?;rw[PySem.seqSlot_of (T:="tuple") (name:="__mul__") (id:="tuple.__mul__") DP.lookup (by decide +kernel),PySem.seqSlot_of (T:="tuple") (name:="__rmul__") (id:="tuple.__rmul__") F.slot_tuple_rmul.lookup (by decide +kernel)]
 rfl
def vS a t l items n dd sl :
 Meets (Builtin.«int.__rmul__» ⟨[.int a t,.ref l],[]⟩) (λ_ R s=>s.heap.get? l=some {cls:=.type "tuple",dict:=dd,data:=.seq items n,slots:=sl}/\R (.ok (.ret Value.notImplemented)) s):=
 .of_wp λprog w A R s h=>by obtain⟨hp,g,d,tk,os⟩:=s;obtain⟨hl,h⟩:=h;wp_walk;exact⟨_,rfl,h⟩
def gh l items n x u dd sl(h1:2<=x)(h2:x<=1000)(h3:¬items.isEmpty=true)(h4:items.size<=1000) :
 Meets (Builtin.«tuple.__mul__» ⟨[.ref l,.int x u],[]⟩) (λ_ R s=>s.heap.get? l=some {cls:=.type "tuple",dict:=dd,data:=.seq items n,slots:=sl} /\
  R (.ok (.ret (A4 s.heap.objs.size))) {s with heap:=s.heap.push {cls:=FL "tuple",data:=GK (Ei (λx1 x2=>x1++x2) #[] (AG x.toNat items))},toks:=s.toks}):=
 .of_wp λprog w A R s h=>by
  obtain⟨hp,g,d,tk,os⟩:=s;obtain⟨hl,h⟩:=h;have f1:=F1;have c1:¬((decide (x < -(2 ^ 63))||decide (x ≥ 2 ^ 63))=true):=by simp;omega
  have c2:¬((items.isEmpty||x == 1)=true):=by simp at h3 ⊢;exact⟨h3,⋯⟩
  have c3:¬((decide (x<=0)||items.isEmpty)=true):=by simp at h3 ⊢;exact⟨⋯,h3⟩
  have hprod:(items.size:Int)*x<=1000*1000:=Int.mul_le_mul ⋯ h2 ⋯ ⋯
  have c4:¬((items.size:Int)*x > (2 ^ 63-1)/8):=by omega
  have hL:Ar=16777216:=BR;have c5:¬(DZ ((items.size:Int)*x)=true):=by unfold DZ;rw[hL];simp only[decide_eq_true_eq];omega
  have hn:(Ei (λx1 x2=>x1++x2) #[] (AG x.toNat items)).size=x.toNat*items.size:=by have e:=foldl_rep items.toList x.toNat [];simp only[Array.toArray_toList,CQ]at e;rw[e,Ae,len_rep,By]
  have htake:sizeOk (.seq (Ei (λx1 x2=>x1++x2) #[] (AG x.toNat items))):=by
   show (Ei (λx1 x2=>x1++x2) #[] (AG x.toNat items)).size<=Ar;rw[hn,hL];have:x.toNat*items.size<=1000*1000:=Dh ⋯ h4
   omega
  wp_walk using B0 hl
  rw[if_neg c1];refine dr (Er (items:=items) ⟨_,hl,rfl,n,rfl⟩ ?_);rw[if_neg c2];show wpAny _ _ (if (decide (x<=0)||items.isEmpty)=true then _ else _) _ _ _
  rw[if_neg c3];show wpAny _ _ (if (items.size:Int)*x > (2 ^ 63-1)/8 then _ else _) _ _ _
  rw[if_neg c4];show wpAny _ _ (if DZ ((items.size:Int)*x)=true then _ else _) _ _ _
  rw[if_neg c5];exact dr (m:=Bw _) (Bm (Af ⟨_,rfl,h⟩) htake)
def Wq:OpR X (BI .Mult) Pt:=by
 intro pins s σ H x y v u Q I rx ry h;obtain⟨a,k,xs,rfl,rfl,ha,h1,h2,h3,h4,g⟩:=h;cases rx;obtain⟨t,rfl⟩:=ry;obtain⟨its,r,p1,_⟩:=I.tuple (.inl (.inl ha));obtain⟨⟨cls,dd,data,sl⟩,ho,hc,n,hd⟩:=id p1;simp only at hc hd;subst hc hd;have hl:=r.length;have hne:¬its.toArray.isEmpty=true:=by simp;intro e;exact h3 (r.vh.mp e)
 refine Dc (T:="tuple") (U:="int") (by decide) ⟨_,ho,rfl⟩ (λs'=>Ds s' k t) wu EL Cr uX Ey.lookup
  (B8 Cr (Ds s k t) Ez (Ej _ _) (vS k t a its.toArray n dd sl)
   ⟨ho,rfl,⟨_,ho,rfl⟩,B8 DP ⟨_,ho,rfl⟩ FH (Fc _ _) (gh a its.toArray n k t dd sl h1 h2 hne (by rw[Ae,<-hl];exact h4)) ⟨ho,?_⟩⟩)
 have e:=foldl_rep its k.toNat [];rw[CQ]at e;have hz:(AG k.toNat xs).flatten.length<=Ar:=by
  rw[len_rep,BR];have:k.toNat*xs.length<=1000*1000:=Dh ⋯ h4
  omega
 refine⟨.c s.heap.objs.size,_,I.laid (t':=s.toks) (o:=.c (AG k.toNat xs).flatten) (λb ob q=>zO _ q) (Ac _) ⟨hz,(AG k.toNat its).flatten,r.rep k.toNat,?_⟩,rfl,g.new _ (I.j.fresh (Ac _))⟩;rw[show (#[]:Array Value)=([]:List Value).toArray from rfl,e];exact sj.new _ _
end
end L2
end
section
namespace L2
open PySem PySem.Spec PyProof.Rows
section
variable {X:Cx}{pos:Pos}
def UK(i j k:Nat)(ta:TA):TS:=λD σ H=>ta σ H λvs H1=>∃v w z,vs=[v,w,z]/\D.a (((σ.set i (some v)).set j (some w)).set k (some z)) H1
def vals3(r:Vals [x,y,z] us):∃u1 u2 u3,us=[u1,u2,u3]/\RelV x u1/\RelV y u2/\RelV z u3:=by
 cases r with
 |cons r1 r2=>
  cases r2 with
  |cons r3 r4=>
   cases r4 with
   |cons r5 r6=>cases r6;exact⟨_,_,_,rfl,r1,r3,r5⟩
def VF{kt k2 pt2}(hc:X.g=true)(hN:X.N.Nodup)(hi:X.N[i]?=some x)(hj:X.N[j]?=some y)(hk:X.N[k]?=some z)(hij:i≠j)(hik:i≠k)(hjk:j≠k)
 (hx:X.a.scope.names.lookup x=some .local) (hy:X.a.scope.names.lookup y=some .local) (hz:X.a.scope.names.lookup z=some .local) (ha:PA X [a,b,c] ta)
 (hw:B5 [.Tuple [.Name x px,.Name y py,.Name z pz] kt pt] (.Tuple [a,b,c] k2 pt2) X.a=pure (some [x,y,z]))
 (hs:Ep [.Tuple [.Name x px,.Name y py,.Name z pz] kt pt] (.Tuple [a,b,c] k2 pt2) pos.line X.a=pure false:=by rfl) :
 PS X (.Assign [.Tuple [.Name x px,.Name y py,.Name z pz] kt pt] (.Tuple [a,b,c] k2 pt2) pos) (UK i j k ta):=by
 intro pins s σ H D I h;rw[exec_Assign_arm];refine dr (CW ?_);rw[hs];refine dr (Af ?_);rw[if_neg (by decide)]
 refine dr (Tuple_ (thn (ha _ pins s σ H _ I h) λus s1 ⟨vs,H1,I1,r1,q1⟩=>?_));obtain⟨v,w,zz,e1,q1⟩:=q1;subst e1;obtain⟨u1,u2,u3,rfl,rv,rw',rz⟩:=vals3 r1;refine Bm ?_ (by show 3<=Ar;decide)
 have I2:Inv X pins σ H1 {s1 with heap:=s1.heap.push {cls:=.type "tuple",data:=.seq [u1,u2,u3].toArray}}:=I1.kept (t':=s1.toks) λb o e=>zO _ e
 rw[hw];refine dr (Af ?_);show wpAny (model X.f X.w) X.A (do rule "assign.swapped-stores";let items <-unpackItems (.ref s1.heap.objs.size) 3 none;Eo [λv=>DN X.a z v,λv=>DN X.a y v,λv=>DN X.a x v] items.reverse;pure GS) _ _ _
 refine dr (C9 (dr (unpackItems_tuple (items:=#[u1,u2,u3]) (I.y.a hc) (IsTup.new s1.heap _) λh' hx'=>?_)));have I3:=I2.kept (h':=h') (t':=s1.toks) λb o e=>hx' b o (Ax (Aj e)) e;show wpAny _ _ (Eo [λv=>DN X.a z v,λv=>DN X.a y v,λv=>DN X.a x v] [u3,u2,u1] >>= λ_=>pure GS) _ _ _;refine dr (CM (Eh (w9 I3 hN hk (.inl hz) rz (λs2 I4=>?_) (.inr hz))));refine CM (Eh (w9 I4 hN hj (.inl hy) rw' (λs3 I5=>?_) (.inr hy)));refine CM (Eh (w9 I5 hN hi (.inl hx) rv (λs4 I6=>FA (Af ?_)) (.inr hx)));refine⟨_,H1,?_,q1⟩;have e:((σ.set k (some zz)).set j (some w)).set i (some v)=((σ.set i (some v)).set j (some w)).set k (some zz):=by rw[Fo _ _ (BP hij),Fo _ _ (BP hik),Fo _ _ (BP hjk)]
 rw[<-e];exact I6
end
mutual
inductive DD(H:Hp)(p:Addr):V->PyData->Prop
 |non:DD H p .g .none
 |bl (b:Bool):DD H p (.e b) (.bool b)
 |int (i:Int):DD H p (.d i) (.int i)
 |str (x:Str):DD H p (.f x) (.str x)
 |lst {a:Addr} {xs:List V} {ds:List PyData}:H a=some (.b xs)->a≠p->DDs H p xs ds->DD H p (.c a) (.list ds)
 |tup {a:Addr} {xs:List V} {ds:List PyData}:H a=some (.c xs)->a≠p->DDs H p xs ds->DD H p (.c a) (.tuple ds)
 |dct {a:Addr}:H a=some (.d [])->a≠p->DD H p (.c a) (.dict [])
inductive DDs(H:Hp)(p:Addr):List V->List PyData->Prop
 |b:DDs H p [] []
 |a {x:V} {xs:List V} {d:PyData} {ds:List PyData}:DD H p x d->DDs H p xs ds->DDs H p (x::xs) (d::ds)
end
theorem DDs.length:∀{vs} {ds},DDs H p vs ds->vs.length=ds.length
 |_,_,.b=>rfl
 |_,_,.a _ rs=>by rw[An,An,rs.length]
theorem DDs.append:∀{vs ws} {ds es},DDs H p vs ds->DDs H p ws es->DDs H p (vs++ws) (ds++es)
 |_,_,_,_,.b,r=>r
 |_,_,_,_,.a r rs,q=>.a r (rs.append q)
mutual
noncomputable def vI:PyData->Bool
 |.none|.bool _|.int _|.str _=>false
 |.list _=>true
 |.tuple xs=>wm xs
 |.dict _=>false
noncomputable def wm:List PyData->Bool
 |[]=>false
 |x::xs=>vI x||wm xs
end
end L2
end
section
namespace L2
open PySem PySem.Spec PyProof.Rows
section
variable {X:Cx}{pos:Pos}
def Pb(hg:Gl X x)(hm:X.d x=none)(hv:CL x=some (.type n))(hn:x≠"__name__":=by decide)(hd:(x == ("__debug__":Str))=false:=by decide):PE X (.Name x pos) (tC (.k n)):=
 W0 hg hm hv (show RelV (.k n) (.type n) from rfl) hn hd
noncomputable def noStar:Expr->Bool
 |.Starred ..=>false
 |_=>true
def yW(h:noStar e=true):AQ (e::es) env=(false,eval e env)::AQ es env:=by
 cases e<;>first|rfl|cases h
def pac(ha:PE X e te)(hr:PA X es t)(hs:noStar e=true:=by rfl):PA X (e::es) (jv te t):=Wz ha hr (yW hs)
noncomputable def pU(sc0:Scope)(N0 N:List Str)(csc:Scope)(fr:List (Option Nat)):Bool:=
 decide (csc.kind=.function)&&csc.names.all (λx=>decide (x.2≠.cell)||csc.names.all λy=>decide (y≠(x.1,AX)))&&csc.names.all (λx=>decide (x.2≠.local)||decide (csc.names.lookup x.1=some .local)) &&
 csc.names.all (λx=>decide (x.2≠.free)||(decide (sc0.names.lookup x.1=some .cell)||decide (sc0.names.lookup x.1=some .free)))&&decide (fr.length=N.length) &&
 (Al N.length).all (λi=>match fr[i]?,N[i]? with|some (some j),some x=>decide (N0[j]?=some x)&&csc.names.any (λy=>decide (y.1=x)&&decide (y.2=.free))|_,_=>true) &&
 csc.names.all (λx=>decide (x.2≠.free)||decide (csc.names.lookup x.1≠some .local))&&(decide (("!":Str) ∉ N)||(decide (("!":Str)∈N0)&&sc0.names.any (λy=>decide (sc0.names.lookup y.1=some .cell))))
end
end L2
end
section
namespace L2
open PySem PySem.Spec PyProof.Rows
noncomputable def yA{α:Type}(xs:List α)(lo st:Int)(n:Nat):List α:=(Al n).filterMap λ(k:Nat)=>xs[(lo+(k:Int)*st).toNat]?
theorem Vals.pick(r:Vals xs us):∀(is:List Nat),Vals (is.filterMap λi=>xs[i]?) (is.filterMap λi=>us[i]?)
 |[]=>.nil
 |i::is=>by
  rw[A2,A2];cases hx:xs[i]? with
  |none=>rw[r.none_of hx];exact Vals.pick r is
  |some x=>
   obtain⟨u,hu,ru⟩:=r.get hx;rw[hu];exact .cons ru (Vals.pick r is)
theorem Vals.yA{xs:List V}{us:List Value}(r:Vals xs us)(lo st:Int)(n:Nat):Vals (yA xs lo st n) (L2.yA us lo st n):=by have h:=r.pick ((Al n).map λ(k:Nat)=>(lo+(k:Int)*st).toNat);rw[Cm,Cm]at h;exact h
def jN(xs:List α)lo st n:(yA xs lo st n).length<=n:=by have:=F2 (λ(k:Nat)=>xs[(lo+(k:Int)*st).toNat]?) (Al n);rw[AM]at this;exact this
noncomputable def xA(n:Nat)(lo hi:Option Int)(st:Int):Int × Nat:=((Bu lo hi st (n:Int)).1,BM (Bu lo hi st (n:Int)).1 (Bu lo hi st (n:Int)).2 st)
section
variable {prog:Program}{w:World}{A:Around}{E:Value->Shared->Prop}{s:Shared}
def nG{lo hi}{st}{n:Nat}(hs:s.heap.IsSliceOf sl vl vu vc)(pl:IsPart vl lo)(pu:IsPart vu hi)(pc:IsPart vc (some st))(h0:st≠0)
 (h:Q ((xA n lo hi st).1,st,(xA n lo hi st).2) s):wpAny (model prog w) A (CY (.ref sl) (pure (n:Int))) Q E s:=by
 obtain⟨os,hos,hcs,hds⟩:=id hs;unfold CY FN;refine dr (dr (A9 hos hds (x:=vl) rfl (dr (A9 hos hds (x:=vu) rfl (dr (A9 hos hds (x:=vc) rfl (Af ?_)))))));refine dr (HT.vV pc ?_);show wpAny _ _ (if (st == 0)=true then _ else _) _ _ s
 rw[if_neg (by simpa using h0)]
 exact dr (HT.vV pl (dr (HT.vV pu (dr (Af (Af h))))))
def XH{lo hi}{st}(ht:IsTup s.heap t items)(hs:s.heap.IsSliceOf sl vl vu vc)(pl:IsPart vl lo)(pu:IsPart vu hi)(pc:IsPart vc (some st))(h0:st≠0)
 (hq1:(xA items.size lo hi st).1=0->st=1->(xA items.size lo hi st).2=items.size->Q (.ref t) s)
 (hq2:Q (.ref s.heap.objs.size) {s with heap:=s.heap.push {cls:=.type "tuple",data:=.seq (yA items.toList (xA items.size lo hi st).1 st (xA items.size lo hi st).2).toArray}})
 (hsz:(xA items.size lo hi st).2<=Ar):wpAny (model prog w) A (getItem (.ref t) (.ref sl)) Q E s:=by
 obtain⟨os,hos,hcs,hds⟩:=id hs;have hTs:s.TypeIs (.ref sl) "slice":=⟨os,hos,hcs⟩;have htake:sizeOk (.seq (yA items.toList (xA items.size lo hi st).1 st (xA items.size lo hi st).2).toArray):=by show (yA items.toList (xA items.size lo hi st).1 st (xA items.size lo hi st).2).toArray.size<=Ar;rw[Ae];exact AB (jN _ _ _ _) hsz
 have epick:((Al (xA items.size lo hi st).2).filterMap λ(k:Nat)=>items[((xA items.size lo hi st).1+(k:Int)*st).toNat]?).toArray=(yA items.toList (xA items.size lo hi st).1 st (xA items.size lo hi st).2).toArray:=by unfold yA;simp only[Array.getElem?_toList]
 unfold getItem
 try with_reducible refine Cw ?_
 first|refine dr (Af ?_)|skip
 refine dr (FD ht.typeIs (by decide) ?_)
 refine dr (BC (name:=Dl "__getitem__") ht.typeIs AZ
  (B3 AZ ht.typeIs EU ?_ (E7 _ _)))
 show wpAny _ _ (DX (.ref t) >>= _) _ _ s;refine dr (Er ht ?_);refine dr (EK hTs ?_);rw[if_pos (by decide)]
 refine dr (nG (n:=items.size) hs pl pu pc h0 ?_);by_cases hw:((xA items.size lo hi st).1 == 0&&st == 1&&(xA items.size lo hi st).2 == items.size)=true
 . show wpAny _ _ (if ((xA items.size lo hi st).1 == 0&&st == 1&&(xA items.size lo hi st).2 == items.size)=true then _ else _) _ _ s
   rw[if_pos hw];simp only[nx,beq_iff_eq]at hw;unfold Fs;refine dr (dr (EK ht.typeIs (Af ?_)));rw[if_pos (by decide)]
   exact dr (C9 (Af ⟨_,rfl,Af (hq1 hw.1.1 hw.1.2 hw.2)⟩))
 . show wpAny _ _ (if ((xA items.size lo hi st).1 == 0&&st == 1&&(xA items.size lo hi st).2 == items.size)=true then _ else _) _ _ s
   rw[if_neg hw,epick]
   first
    |exact dr (m:=Bw _) (Bm (Af ⟨_,rfl,Af hq2⟩) htake)
    |exact dr (dr (m:=Bw _) (Bm (Af ⟨_,rfl,Af hq2⟩) htake))
end
theorem jP{α:Type}:∀xs:List α,(Al xs.length).filterMap (λk=>xs[k]?)=xs
 |[]=>rfl
 |x::xs=>by
  rw[An,DB,A2,Cm];show x::_=_;refine congrArg (x::·) (Eq.trans ?_ (jP xs))
  congr 1
def hZ(xs:List α):yA xs 0 1 xs.length=xs:=by
 unfold yA;have e:(λ(k:Nat)=>xs[(0+(k:Int)*1).toNat]?)=λk=>xs[k]?:=by funext k;rw[show (0+(k:Int)*1).toNat=k by omega]
 rw[e];exact jP xs
def O0:V->Option Int->Option Int->Option Int->Hp->VK->Prop:=λx lo hi st H Q=>∃a xs c,x=.c a/\H a=some (.c xs)/\st=some c/\c≠0/\(xA xs.length lo hi c).2<=Ar/\qc H (yA xs (xA xs.length lo hi c).1 c (xA xs.length lo hi c).2) Q
def OL(r:V->Option Int->Option Int->Option Int->Hp->VK->Prop)(te:TE)(tl th tc:TO):TE:=λσ H Q=>te σ H λx H1=>tl σ H1 λl H2=>th σ H2 λu H3=>tc σ H3 λc H4=>r x l u c H4 Q
def cx{lo hi}{st}(he:PE X e te)(hl:PO X lo tl)(hu:PO X hi th)(hc:PO X (some st) tc):PE X (.Subscript e (.Slice lo hi (some st) p2) pos) (OL O0 te tl th tc):=by
 intro pins s σ H Q I h;refine FO (thn (he pins s σ H _ I h) λv s1 ⟨x,H1,I1,r1,q1⟩=>?_);refine wpAny_Slice (thn (hl pins s1 σ H1 _ I1 q1) λvl s2 ⟨l,H2,I2,pl,q2⟩=>thn (hu pins s2 σ H2 _ I2 q2) λvu s3 ⟨u,H3,I3,pu,q3⟩=>thn (hc pins s3 σ H3 _ I3 q3) λvc s4 ⟨c,H4,I4,pc,q4⟩=>?_);obtain⟨a,xs,cc,rfl,hx,ec,h0,hsz,g⟩:=q4;subst ec;cases r1;have I5:Inv X pins σ H4 {s4 with heap:=s4.heap.push {cls:=.type "slice",data:=.fields #[vl,vu,vc]}}:=I4.kept (t':=s4.toks) λb ob q=>zO _ q
 obtain⟨its,r,ht,hz⟩:=I5.tuple (.inl (.inl hx));have hlen:its.toArray.size=xs.length:=by rw[Ae];exact r.length.symm
 show wpAny (model X.f X.w) X.A (Es e (.Slice lo hi (some st) p2) (.ref a) (.ref s4.heap.objs.size)) (EP X pins σ Q) X.h {s4 with heap:=s4.heap.push {cls:=.type "slice",data:=.fields #[vl,vu,vc]}}
 refine tail_any (ops:=[.ref a,.ref s4.heap.objs.size]) ht.typeIs AZ.lookup (XH ht (E8 ..) pl pu pc h0 (λz1 z2 z3=>?_) ?_ (by rw[hlen];exact hsz)) (by with_unfolding_all rfl)
 . refine⟨.c a,H4,I5,rfl,g a H4 (rn.refl H4) ?_⟩
   rw[hlen]at z1 z3;rw[hx,z1,z3,z2,hZ]
 . rw[hlen]
   refine⟨.c _,_,I5.laid (t':=s4.toks) (o:=.c (yA xs (xA xs.length l u cc).1 cc (xA xs.length l u cc).2)) (λb ob q=>zO _ q) (Ac _) ?_,rfl,g.new _ (I5.j.fresh (Ac _))⟩;refine⟨AB (jN _ _ _ _) hsz,_,r.yA _ _ _,?_⟩;exact sj.new _ _
end L2
end
section
namespace L2
open PySem PyProof.Rows
section
variable {X:Cx}
noncomputable def yc(d:Int):List Int->Int
 |[]=>d
 |n::ns=>ns.foldl (λa b=>if b > a then b else a) n
theorem pZ:∀(ns:List Int) a,a<=ns.foldl (λa b=>if b > a then b else a) a/\(∀x∈ns,x<=ns.foldl (λa b=>if b > a then b else a) a)/\(ns.foldl (λa b=>if b > a then b else a) a=a\/ns.foldl (λa b=>if b > a then b else a) a∈ns)
 |[],a=>⟨BJ _,λ_ h=>(nomatch h),.inl rfl⟩
 |n::ns,a=>by
  obtain⟨h1,h2,h3⟩:=pZ ns (if n > a then n else a)
  show a<=ns.foldl _ (if n > a then n else a)/\_
  have hc:a<=(if n > a then n else a)/\n<=(if n > a then n else a):=by split<;>omega
  refine⟨CO hc.1 h1,λx hx=>?_,?_⟩
  . rcases Ah.mp hx with e|hx
    . rw[e];exact CO hc.2 h1
    . exact h2 x hx
  . rcases h3 with h3|h3
    . show ns.foldl _ (if n > a then n else a)=a\/ns.foldl _ (if n > a then n else a)∈n::ns
      rw[h3];split
      . exact .inr (AK ..)
      . exact .inl rfl
    . exact .inr (Az _ h3)
def vT(h:ns≠[]):yc d ns∈ns/\∀x∈ns,x<=yc d ns:=by
 cases ns with
 |nil=>exact absurd rfl h
 |cons n ns=>
  obtain⟨h1,h2,h3⟩:=pZ ns n;refine⟨?_,λx hx=>?_⟩
  . rcases h3 with h3|h3
    . show ns.foldl _ n∈_;rw[h3];exact AK ..
    . exact Az _ h3
  . rcases Ah.mp hx with e|hx
    . rw[e];exact h1
    . exact h2 x hx
def kh(h1:M∈ns)(h2:∀x∈ns,x<=M):yc d ns=M:=by
 have hne:ns≠[]:=λe=>by rw[e]at h1;exact nomatch h1
 obtain⟨a,b⟩:=vT (d:=d) hne;exact Int.le_antisymm (h2 _ a) (b _ h1)
theorem Vals.ints:∀{ns:List Int} {us},Vals (ns.map V.d) us->∀{i:Nat} {v},us[i]?=some v->∃t,v=.int (ns.getD i 0) t
 |[],_,.nil,_,_,h=>by cases h
 |n::ns,_,.cons r rs,0,v,h=>by
  obtain⟨t,e⟩:=r;have:v=.int n t:=(Am h).symm.trans e;exact⟨t,this⟩
 |n::ns,_,.cons r rs,i+1,v,h=>by have:=Vals.ints rs (i:=i) (v:=v) h;exact this
end
end L2
end
section
namespace L2
open PySem PyProof PyProof.Rows
section
variable {X:Cx}
def gf l items n u dd sl :
 Meets (Builtin.«tuple.__mul__» ⟨[.ref l,.int 1 u],[]⟩) (λ_ R s=>s.heap.get? l=some {cls:=.type "tuple",dict:=dd,data:=.seq items n,slots:=sl}/\R (.ok (.ret (A4 l))) s):=
 .of_wp λprog w A R s h=>by
  obtain⟨hp,g,d,tk,os⟩:=s;obtain⟨hl,h⟩:=h;have f1:=F1;have c1:¬((decide ((1:Int) < -(2 ^ 63))||decide ((1:Int) ≥ 2 ^ 63))=true):=by decide
  have c2:((items.isEmpty||((1:Int) == 1))=true):=by simp
  wp_walk using B0 hl
  exact⟨_,rfl,h⟩
def gc l items n x u dd sl(h1:x<=0)(h2:-1000<=x)(h3:¬items.isEmpty=true) :
 Meets (Builtin.«tuple.__mul__» ⟨[.ref l,.int x u],[]⟩) (λ_ R s=>s.heap.get? l=some {cls:=.type "tuple",dict:=dd,data:=.seq items n,slots:=sl} /\
  R (.ok (.ret (A4 s.heap.objs.size))) {s with heap:=s.heap.push {cls:=FL "tuple",data:=GK #[]},toks:=s.toks}):=
 .of_wp λprog w A R s h=>by
  obtain⟨hp,g,d,tk,os⟩:=s;obtain⟨hl,h⟩:=h;have f1:=F1;have c1:¬((decide (x < -(2 ^ 63))||decide (x ≥ 2 ^ 63))=true):=by simp;omega
  have c2:¬((items.isEmpty||x == 1)=true):=by simp at h3 ⊢;exact⟨h3,⋯⟩
  have c3:((decide (x<=0)||items.isEmpty)=true):=by simp;exact .inl h1
  wp_walk using B0 hl
  rw[if_neg c1];refine dr (Er (items:=items) ⟨_,hl,rfl,n,rfl⟩ ?_);rw[if_neg c2];show wpAny _ _ (if (decide (x<=0)||items.isEmpty)=true then _ else _) _ _ _
  rw[if_pos c3];exact dr (m:=Bw _) (Bm (Af ⟨_,rfl,h⟩))
def Pu:R2:=λx y H Q=>∃a k xs,x=.c a/\y=.d k/\H a=some (.c xs)∧-1000<=k/\k<=1000/\xs≠[]/\xs.length<=1000/\qc H (AG k.toNat xs).flatten Q
def Wo:OpR X (BI .Mult) Pu:=by
 intro pins s σ H x y v u Q I rx ry h;obtain⟨a,k,xs,rfl,rfl,ha,h1,h2,h3,h4,g⟩:=h;by_cases hk2:2<=k
 . exact Wq pins s σ H _ _ v u Q I rx ry ⟨a,k,xs,rfl,rfl,ha,hk2,h2,h3,h4,g⟩
 cases rx;obtain⟨t,rfl⟩:=ry;obtain⟨its,r,p1,_⟩:=I.tuple (.inl (.inl ha));obtain⟨⟨cls,dd,data,sl⟩,ho,hc,n,hd⟩:=id p1;simp only at hc hd;subst hc hd;by_cases hk1:k=1
 . subst hk1
   refine Dc (T:="tuple") (U:="int") (by decide) ⟨_,ho,rfl⟩ (λs'=>Ds s' 1 t) wu EL Cr uX Ey.lookup
    (B8 Cr (Ds s 1 t) Ez (Ej _ _) (vS 1 t a its.toArray n dd sl)
     ⟨ho,rfl,⟨_,ho,rfl⟩,B8 DP ⟨_,ho,rfl⟩ FH (Fc _ _) (gf a its.toArray n t dd sl) ⟨ho,?_⟩⟩)
   refine⟨.c a,H,I,rfl,g a H (rn.refl H) ?_⟩;rw[ha];simp
 . have hne:¬its.toArray.isEmpty=true:=by simp;intro e;exact h3 (r.vh.mp e)
   have e0:k.toNat=0:=by omega
   refine Dc (T:="tuple") (U:="int") (by decide) ⟨_,ho,rfl⟩ (λs'=>Ds s' k t) wu EL Cr uX Ey.lookup
    (B8 Cr (Ds s k t) Ez (Ej _ _) (vS k t a its.toArray n dd sl)
     ⟨ho,rfl,⟨_,ho,rfl⟩,B8 DP ⟨_,ho,rfl⟩ FH (Fc _ _) (gc a its.toArray n k t dd sl ⋯ h1 hne) ⟨ho,?_⟩⟩)
   rw[e0]at g;refine⟨.c s.heap.objs.size,_,I.laid (t':=s.toks) (o:=.c []) (λb ob q=>zO _ q) (Ac _) ⟨A3 _,[],.nil,sj.new _ _⟩,rfl,g.new _ (I.j.fresh (Ac _))⟩
noncomputable def gE(a b c:Int):List Int:=(Al (Cz a b c).toNat).map λ(i:Nat)=>a+(i:Int)*c
end
end L2
end
section
namespace L2
open PySem PyProof PyProof.Rows
section
variable {X:Cx}
theorem qC:∀{xs} {us},Vals xs us->xs.all vg=true->us.countP (eqU x)=xs.countP λy=>eqV y x
 |_,_,.nil,_=>rfl
 |y::ys,u::us,.cons r rs,h=>by rw[B6,nx]at h;rw[CH,CH,qC rs h.2,iJ r h.1]
def lS(K:Ay)(tup:Bool):V->List V->Hp->VK->Prop:=λx vs H Q=>∃t xs y,x=.c t/\vs=[y]/\(if tup=true then SqT K H t xs else SqL K H t xs)/\vg y=true/\xs.all vg=true/\Q (.d (xs.countP λz=>eqV z y:Nat)) H
def d9:MtR X "tuple.count" (lS X.K true):=by
 intro pins s σ H x xs v us Q I rx rs h;obtain⟨t,ys,y,rfl,rfl,ht,fy,fs,q⟩:=h;cases rx;obtain⟨u,rfl,ru⟩:=vals1 rs;obtain⟨its,r,p1,_⟩:=I.tuple ht;obtain⟨⟨cls,dd,data,sl⟩,ho,hc,n,hd⟩:=id p1;simp only at hc hd;subst hc hd;refine B8 F.slot_tuple_count ⟨_,ho,rfl⟩ F.entry_tuple_count (F.args_tuple_count_2 _ _) (SeqAt.tuple_countAt t its.toArray n dd sl u (eqU y)) ⟨ho,λw hw=>uy ru fy r fs w (by simpa using hw),?_⟩
 rw[show its.toArray.toList=its from rfl,qC r fs];exact⟨.d _,H,I.tok _,⟨s.toks,rfl⟩,q⟩
def d8:MtR X "list.count" (lS X.K false):=by
 intro pins s σ H x xs v us Q I rx rs h;obtain⟨t,ys,y,rfl,rfl,ht,fy,fs,q⟩:=h;cases rx;obtain⟨u,rfl,ru⟩:=vals1 rs;obtain⟨its,r,p1,_⟩:=I.list ht;obtain⟨⟨cls,dd,data,sl⟩,ho,hc,n,hd⟩:=id p1.isList;simp only at hc hd;subst hc hd;refine B8 F.slot_list_count ⟨_,ho,rfl⟩ F.entry_list_count (F.args_list_count_2 _ _) (SeqAt.list_countAt t its.toArray n dd sl u (eqU y)) ⟨ho,λw hw=>uy ru fy r fs w (by simpa using hw),?_⟩
 rw[show its.toArray.toList=its from rfl,qC r fs];exact⟨.d _,H,I.tok _,⟨s.toks,rfl⟩,q⟩
theorem sQ h:∀ns:List Int,((ns.map V.d).countP λz=>eqV z (.d h))=ns.count h
 |[]=>rfl
 |n::ns=>by rw[Aw,CH,sQ h ns,EM];rfl
theorem tY:∀ns:List Int,(ns.map V.d).all vg=true
 |[]=>rfl
 |n::ns=>by rw[Aw,B6,tY ns];rfl
noncomputable def xB(d:Int):List Int->Int
 |[]=>d
 |n::ns=>ns.foldl (λa b=>if b<a then b else a) n
theorem pd:∀(ns:List Int) a,ns.foldl (λa b=>if b<a then b else a) a<=a/\(∀x∈ns,ns.foldl (λa b=>if b<a then b else a) a<=x)/\(ns.foldl (λa b=>if b<a then b else a) a=a\/ns.foldl (λa b=>if b<a then b else a) a∈ns)
 |[],a=>⟨BJ _,λ_ h=>(nomatch h),.inl rfl⟩
 |n::ns,a=>by
  obtain⟨h1,h2,h3⟩:=pd ns (if n<a then n else a)
  show ns.foldl _ (if n<a then n else a)<=a/\_
  have hc:(if n<a then n else a)<=a/\(if n<a then n else a)<=n:=by split<;>omega
  refine⟨CO h1 hc.1,λx hx=>?_,?_⟩
  . rcases Ah.mp hx with e|hx
    . rw[e];exact CO h1 hc.2
    . exact h2 x hx
  . rcases h3 with h3|h3
    . show ns.foldl _ (if n<a then n else a)=a\/ns.foldl _ (if n<a then n else a)∈n::ns
      rw[h3];split
      . exact .inr (AK ..)
      . exact .inl rfl
    . exact .inr (Az _ h3)
def wq(h:ns≠[]):xB d ns∈ns/\∀x∈ns,xB d ns<=x:=by
 cases ns with
 |nil=>exact absurd rfl h
 |cons n ns=>
  obtain⟨h1,h2,h3⟩:=pd ns n;refine⟨?_,λx hx=>?_⟩
  . rcases h3 with h3|h3
    . show ns.foldl _ n∈_;rw[h3];exact AK ..
    . exact Az _ h3
  . rcases Ah.mp hx with e|hx
    . rw[e];exact h1
    . exact h2 x hx
def rM(h1:M∈ns)(h2:∀x∈ns,M<=x):xB d ns=M:=by
 have hne:ns≠[]:=λe=>by rw[e]at h1;exact nomatch h1
 obtain⟨a,b⟩:=wq (d:=d) hne;exact Int.le_antisymm (b _ h1) (h2 _ a)
def UC(K:Ay)(g:List Int->Int):List V->Hp->VK->Prop:=λxs H Q=>∃(a:Addr) (ns:List Int),xs=[.c a]/\SqL K H a (ns.map V.d)/\ns≠[]/\Q (.d (g ns)) H
def dG(hc:X.g=true):yw X (.builtin "max") (UC X.K (yc 0)):=by
 intro pins s σ H xs us Q I r h;obtain⟨a,ns,rfl,ha,hne,q⟩:=h;obtain⟨u,rfl,ru⟩:=vals1 r;cases ru;obtain⟨its,rv,pl,hz⟩:=I.list ha;have hlen:=rv.length;have alt:a<s.heap.objs.size:=by obtain⟨o,ho,_⟩:=pl.isList;exact Aj ho
 have hl:its.toArray.size=ns.length:=by rw[Ae,<-hlen,zI]
 have hpos:0<ns.length:=Dp.mpr hne;have hat:∀(i:Nat) (v:Value),its.toArray[i]?=some v->∃t,v=.int (ns.getD i 0) t:=λi v hv=>rv.ints (by simpa using hv)
 refine call_max_walk (DC pl.isList ?_);refine⟨s.heap.objs.size,_,_,_,_,_,_,rfl,GJ (A:=X.A.in1) (I.y.a hc) s.heap.objs.size a (Ax alt) its.toArray,⟨⟨_,As _ rfl,rfl,rfl⟩,?_⟩,λb hb=>?_,⋯,CmpOf.ints_gt (λi=>ns.getD i 0) hat,λv h' tk hP hk=>?_⟩
 . obtain⟨o,ho,hc',n,hd⟩:=pl.isList
   exact⟨o,zO _ ho,hc',n,hd⟩
 . rw[Be]
   simp only[Ah,Bk,or_false]at hb;rcases hb with e|e
   . rw[e];exact CI _
   . rw[e];exact BY alt
 . obtain⟨t,rfl⟩:=hat _ _ hP
   obtain⟨b1,b2⟩:=argBest_gt (λi=>ns.getD i 0) (its.toArray.size-1);have e:yc 0 ns=ns.getD (argBest (λi j=>decide (ns.getD i 0 > ns.getD j 0)) (its.toArray.size-1)) 0:=by
    refine kh ?_ λx hx=>?_
    . have:argBest (λi j=>decide (ns.getD i 0 > ns.getD j 0)) (its.toArray.size-1)<ns.length:=by omega
      rw[Ab,pn this];exact BK this
    . obtain⟨i,hi,rfl⟩:=BZ hx
      have:=b2 i ⋯
      simpa [Ab,pn hi] using this
   refine⟨.d (yc 0 ns),H,I.kept λb o ho=>hk b o ?_ (zO _ ho),⟨t,by rw[e]⟩,q⟩
   simpa using Ax (Aj ho)
def dJ(hc:X.g=true):yw X (.builtin "min") (UC X.K (xB 0)):=by
 intro pins s σ H xs us Q I r h;obtain⟨a,ns,rfl,ha,hne,q⟩:=h;obtain⟨u,rfl,ru⟩:=vals1 r;cases ru;obtain⟨its,rv,pl,hz⟩:=I.list ha;have hlen:=rv.length;have alt:a<s.heap.objs.size:=by obtain⟨o,ho,_⟩:=pl.isList;exact Aj ho
 have hl:its.toArray.size=ns.length:=by rw[Ae,<-hlen,zI]
 have hpos:0<ns.length:=Dp.mpr hne;have hat:∀(i:Nat) (v:Value),its.toArray[i]?=some v->∃t,v=.int (ns.getD i 0) t:=λi v hv=>rv.ints (by simpa using hv)
 refine call_min_walk (DC pl.isList ?_);refine⟨s.heap.objs.size,_,_,_,_,_,_,rfl,GJ (A:=X.A.in1) (I.y.a hc) s.heap.objs.size a (Ax alt) its.toArray,⟨⟨_,As _ rfl,rfl,rfl⟩,?_⟩,λb hb=>?_,⋯,CmpOf.ints_lt (λi=>ns.getD i 0) hat,λv h' tk hP hk=>?_⟩
 . obtain⟨o,ho,hc',n,hd⟩:=pl.isList
   exact⟨o,zO _ ho,hc',n,hd⟩
 . rw[Be]
   simp only[Ah,Bk,or_false]at hb;rcases hb with e|e
   . rw[e];exact CI _
   . rw[e];exact BY alt
 . obtain⟨t,rfl⟩:=hat _ _ hP
   obtain⟨b1,b2⟩:=argBest_lt (λi=>ns.getD i 0) (its.toArray.size-1);have e:xB 0 ns=ns.getD (argBest (λi j=>decide (ns.getD i 0<ns.getD j 0)) (its.toArray.size-1)) 0:=by
    refine rM ?_ λx hx=>?_
    . have:argBest (λi j=>decide (ns.getD i 0<ns.getD j 0)) (its.toArray.size-1)<ns.length:=by omega
      rw[Ab,pn this];exact BK this
    . obtain⟨i,hi,rfl⟩:=BZ hx
      have:=b2 i ⋯
      simpa [Ab,pn hi] using this
   refine⟨.d (xB 0 ns),H,I.kept λb o ho=>hk b o ?_ (zO _ ho),⟨t,by rw[e]⟩,q⟩
   simpa using Ax (Aj ho)
def cj{o e:Expr}{to te:TE}{apos cpos:Pos}{es:List Expr}(ho:PE X o to)(he:PE X e te)(hbase:DY o "append" X.a (eval o X.a)=eval o X.a:=by rfl)(hst:noStar e=true:=by rfl)(hline:(apos.endLine == cpos.line)=true:=by rfl) :
 PE X (.Call (.Attribute o "append" apos) [e] [] cpos) (tBM X.K "list" eJ to (jv te XC)):=by
 have hs1:AQ [e] X.a=(false,eval e X.a)::AQ [] X.a:=yW hst;refine UB Gh PySem.F.slot_list_append PySem.F.type_list_append mD ho (pac he u6 hst) hbase ?_ hline hs1 rfl;rw[hs1];rfl
def cn(ho:PE X o to)(he:PE X e te)(hbase:DY o "count" X.a (eval o X.a)=eval o X.a:=by rfl)(hst:noStar e=true:=by rfl)(hline:(apos.endLine == cpos.line)=true:=by rfl) :
 PE X (.Call (.Attribute o "count" apos) [e] [] cpos) (tBM X.K "list" (lS X.K false) to (jv te XC)):=by
 have hs1:AQ [e] X.a=(false,eval e X.a)::AQ [] X.a:=yW hst;refine UB Gh PySem.F.slot_list_count PySem.F.type_list_count d8 ho (pac he u6 hst) hbase ?_ hline hs1 rfl;rw[hs1];rfl
def O7(r:V->List V->Hp->VK->Prop)(to:TE)(t:TA):TE:=λσ H Q=>to σ H λx H1=>(∃a xs,x=.c a/\H1 a=some (.c xs))/\t σ H1 λxs H2=>r x xs H2 Q
def cq(ho:PE X o to)(he:PE X e te)(hbase:DY o "count" X.a (eval o X.a)=eval o X.a:=by rfl)(hst:noStar e=true:=by rfl)(hline:(apos.endLine == cpos.line)=true:=by rfl) :
 PE X (.Call (.Attribute o "count" apos) [e] [] cpos) (O7 (lS X.K true) to (jv te XC)):=by
 have hs1:AQ [e] X.a=(false,eval e X.a)::AQ [] X.a:=yW hst;intro pins s σ H Q I h;refine wpAny_Call_method_late hbase (by rw[hs1];rfl) hline rfl (thn (ho pins s σ H _ I h) λv s1 ⟨x,H1,I1,r1,ty,q1⟩=>?_)
 obtain⟨a,xs,rfl,hx⟩:=ty;cases r1;obtain⟨z,its,rv,ob,e1,c1,n,d1,nd⟩:=(show yB X.f X.w H1 s1.heap a (.c xs) from I1.j a _ hx);refine⟨"tuple",_,PySem.F.plainAttrs_tuple,PySem.F.slot_tuple_count,PySem.F.type_tuple_count,⟨ob,e1,c1⟩,λb hb=>?_,?_⟩
 . cases hb;exact⟨ob,e1,nd⟩
 have hA:=(pac he u6 hst:PA X [e] _) cpos pins s1 σ H1 _ I1 q1;rw[hs1]at hA ⊢;refine Calls.callWith_builtin rfl (Calls.evalArgs_plain ?_);exact thn hA λus s2 ⟨vs,H2,I2,r2,q2⟩=>d9 pins s2 σ H2 (.c a) vs _ us Q I2 rfl r2 q2
end
end L2
namespace L2
open PySem
end L2
end
section
namespace L2
open PySem PySem.W PyProof PyProof.Rows
def wpT(f:Nat->Nat->Bool)(n:Nat){α:Type}:KasT α->(α->Prop)->Prop
 |.ret a,Q=>Q a
 |.ask i j k,Q=>i<n/\j<n/\wpT f n (k (f i j)) Q
theorem uD:∀{t},wpT f n t (λa=>wpT f n (g a) Q)->wpT f n (t.bind g) Q
 |.ret _,h=>h
 |.ask _ _ _,⟨h1,h2,h3⟩=>⟨h1,h2,uD h3⟩
theorem eZ(hc:∀i j (C:Bool->Shared->Prop),i<n->j<n->C (f i j) s->cmp i j C s) :
 ∀{t},wpT f n t (λa=>Q a s)->t.kasWp cmp Q s
 |.ret _,h=>h
 |.ask i j k,⟨h1,h2,h3⟩=>hc i j _ h1 h2 (eZ hc h3)
section
variable {key:Nat->Int}{n:Nat}
noncomputable def kp(key:Nat->Int)(p:Array Nat)(i:Nat):Int:=key (p.getD i 0)
def Inc(key:Nat->Int)(p:Array Nat)(m:Nat):Prop:=∀i j,i<j->j<m->kp key p i<kp key p j
def Dec(key:Nat->Int)(p:Array Nat)(m:Nat):Prop:=∀i j,i<j->j<m->kp key p j<kp key p i
structure Pm(key:Nat->Int)(n:Nat)(p:Array Nat):Prop where
 a:p.toList.Perm (Al n)
 b:∀i j,i<n->j<n->key i=key j->i=j
theorem Pm.size(h:Pm key n p):p.size=n:=by have:=h.a.length_eq;simpa using this
def Pm.lt(h:Pm key n p)(hi:i<n):p.getD i 0<n:=by
 have hs:=h.size;have hi':i<p.size:=by omega
 have:p.getD i 0=p[i]:=by simp[GL,hi']
 rw[this];have hm:p[i]∈p.toList:=by simp
 exact Ag.mp (h.a.mem_iff.mp hm)
def Pm.ne(h:Pm key n p)(hi:i<n)(hj:j<n)(hij:i≠j):kp key p i≠kp key p j:=λe=>by
 have hs:=h.size;have e2:=h.b _ _ (h.lt hi) (h.lt hj) e;have hnd:p.toList.Nodup:=h.a.nodup_iff.mpr F3;have hi':i<p.toList.length:=by rw[By];omega
 have hj':j<p.toList.length:=by rw[By];omega
 have a1:p.getD i 0=p.toList[i]:=by simp[GL,show i<p.size by omega]
 have a2:p.getD j 0=p.toList[j]:=by simp[GL,show j<p.size by omega]
 rw[a1,a2]at e2;have hpw:=FP.mp hnd;rcases Nat.lt_or_gt_of_ne hij with h1|h1
 . exact hpw i j hi' hj' h1 e2
 . exact hpw j i hj' hi' h1 e2.symm
def Pm.of(h:Pm key n p)(hq:q.Perm p):Pm key n q:=⟨(Array.perm_iff_toList_perm.mp hq).trans h.a,h.b⟩
noncomputable abbrev fOf(key:Nat->Int)(i j:Nat):Bool:=decide (key i<key j)
theorem iA(hp:Pm key n p):∀fu m,1<=m->m+fu<=n->Inc key p m->(∀m',m<=m'->m'<=m+fu->Inc key p m'->(m'=m+fu\/kp key p m'<kp key p (m'-1))->Q m')->wpT (fOf key) n (kas_asc p fu m) Q
 |0,m,_,_,h,q=>q m (Ac _) (Ac _) h (.inl rfl)
 |fu+1,m,h1,h2,h,q=>by
  refine⟨hp.lt ⋯,hp.lt ⋯,?_⟩
  by_cases c:key (p.getD m 0)<key (p.getD (m-1) 0)
  . rw[show fOf key (p.getD m 0) (p.getD (m-1) 0)=true from decide_eq_true c]
    dsimp only;rw[if_pos rfl];exact q m (Ac _) ⋯ h (.inr c)
  . rw[show fOf key (p.getD m 0) (p.getD (m-1) 0)=false from decide_eq_false c]
    dsimp only;rw[if_neg Aa];have hne:=hp.ne (i:=m) (j:=m-1) ⋯ ⋯ ⋯
    refine iA hp fu (m+1) ⋯ ⋯ (λi j hij hj=>?_) λm' a b c' d=>q m' ⋯ ⋯ c' (by rcases d with d|d;exact .inl ⋯;exact .inr d)
    by_cases hjm:j<m
    . exact h i j hij hjm
    . have:j=m:=by omega
      subst this;have h3:kp key p (j-1)<kp key p j:=by have:¬kp key p j<kp key p (j-1):=c;omega
      by_cases hi:i=j-1
      . rw[hi];exact h3
      . exact F4 (h i (j-1) ⋯ ⋯) h3
theorem fQ(hp:Pm key n p):∀fu m,1<=m->m+fu<=n->Dec key p m->(∀m',m<=m'->m'<=m+fu->Dec key p m'->Q (p,m',0))->wpT (fOf key) n (kas_desc fu p m 0) Q
 |0,m,_,_,h,q=>q m (Ac _) (Ac _) h
 |fu+1,m,h1,h2,h,q=>by
  refine⟨hp.lt ⋯,hp.lt ⋯,?_⟩
  have hne:=hp.ne (i:=m) (j:=m-1) ⋯ ⋯ ⋯
  by_cases c:key (p.getD m 0)<key (p.getD (m-1) 0)
  . rw[show fOf key (p.getD m 0) (p.getD (m-1) 0)=true from decide_eq_true c]
    dsimp only;rw[if_pos rfl,if_neg (Bp 0)];refine fQ hp fu (m+1) ⋯ ⋯ (λi j hij hj=>?_) λm' a b c'=>q m' ⋯ ⋯ c'
    by_cases hjm:j<m
    . exact h i j hij hjm
    . have:j=m:=by omega
      subst this;have h3:kp key p j<kp key p (j-1):=c;by_cases hi:i=j-1
      . rw[hi];exact h3
      . exact F4 h3 (h i (j-1) ⋯ ⋯)
  . rw[show fOf key (p.getD m 0) (p.getD (m-1) 0)=false from decide_eq_false c]
    dsimp only;rw[if_neg Aa];refine⟨hp.lt ⋯,hp.lt ⋯,?_⟩
    have c2:key (p.getD (m-1) 0)<key (p.getD m 0):=by have a1:¬kp key p m<kp key p (m-1):=c;show kp key p (m-1)<kp key p m;omega
    rw[show fOf key (p.getD (m-1) 0) (p.getD m 0)=true from decide_eq_true c2];dsimp only;rw[if_pos rfl];exact q m (Ac _) ⋯ h
def Zm(hm:m<=p.size):kp key (kas_rev p 0 m) k=if k<m then kp key p (m-1-k) else kp key p k:=by
 unfold kp kas_rev;have e:=getElem?_mirror_all (i:=0) (j:=m) hm k;by_cases hk:k<m
 . rw[if_pos ⟨A3 _,hk⟩]at e
   rw[if_pos hk];congr 1;rw[A1,A1,e];rw[show 0+m-1-k=m-1-k by omega]
 . rw[if_neg ⋯]at e
   rw[if_neg hk];congr 1;rw[A1,A1,e]
def Vi(hp:Pm key n p)(h1:1<=m)(h2:m<=n)(h:Dec key p m)(q:∀m' p',Pm key n p'->1<=m'->m'<=n->Inc key p' m'->Q (m',p')):wpT (fOf key) n (kas_tail3 m n p) Q:=by
 have hs:=hp.size;have hp':Pm key n (kas_rev p 0 m):=hp.of (mirror_perm _ _ _ _);refine uD (iA hp' (n-m) m h1 ⋯ (λi j hij hj=>?_) λm' a b c _=>q m' _ hp' ⋯ ⋯ c)
 rw[Zm ⋯,Zm ⋯,if_pos ⋯,if_pos hj]
 exact h _ _ ⋯ ⋯
def aR(hp:Pm key n p)(hn:2<=n)(q:∀m' p',Pm key n p'->1<=m'->m'<=n->Inc key p' m'->Q (m',p')):wpT (fOf key) n (kas_count n p) Q:=by
 refine uD (iA hp (n-1) 1 (Ac _) ⋯ (λi j hij hj=>⋯) λm a b c d=>?_)
 by_cases hm:m=n
 . rw[if_pos (by simpa using hm)]
   exact q m p hp a ⋯ c
 . rw[if_neg (by simpa using hm)]
   have hlt:kp key p m<kp key p (m-1):=by rcases d with d|d;omega;exact d
   by_cases hg:m > 1
   . rw[if_pos hg]
     refine⟨hp.lt ⋯,hp.lt ⋯,?_⟩
     have c2:key (p.getD 0 0)<key (p.getD (m-1) 0):=c 0 (m-1) ⋯ ⋯
     rw[show fOf key (p.getD 0 0) (p.getD (m-1) 0)=true from decide_eq_true c2];dsimp only;rw[if_pos rfl];exact q m p hp a ⋯ c
   . rw[if_neg hg]
     have hm1:m=1:=by omega
     subst hm1;refine uD (fQ hp (n-(1+1)) (1+1) ⋯ ⋯ (λi j hij hj=>?_) λm' a' b' c'=>?_)
     . have hi:i=0:=by omega
       have hj':j=1:=by omega
       subst hi hj';exact hlt
     . show wpT (fOf key) n (if 0 > 0 then _ else kas_tail3 m' n p) Q
       rw[if_neg (Bp 0)];exact Vi hp ⋯ ⋯ c' q
theorem oI(hp:Pm key n p)(hk:k<n)(hi:Inc key p k)(q:∀l,l<=k->(∀i,i<l->kp key p i<kp key p k)->(∀i,l<=i->i<k->kp key p k<kp key p i)->Q l) :
 ∀fu l r,r-l<=fu->l<=r->r<=k->(∀i,i<l->kp key p i<kp key p k)->(∀i,r<=i->i<k->kp key p k<kp key p i)->wpT (fOf key) n (kas_place p k fu l r) Q
 |0,l,r,h0,h1,h2,h3,h4=>q l ⋯ h3 λi a b=>h4 i ⋯ b
 |fu+1,l,r,h0,h1,h2,h3,h4=>by
  show wpT (fOf key) n (if l ≥ r then _ else _) Q
  by_cases hlr:l ≥ r
  . rw[if_pos hlr]
    exact q l ⋯ h3 λi a b=>h4 i ⋯ b
  . rw[if_neg hlr]
    refine⟨hp.lt hk,hp.lt ⋯,?_⟩
    by_cases c:key (p.getD k 0)<key (p.getD ((l+r)/2) 0)
    . rw[show fOf key (p.getD k 0) (p.getD ((l+r)/2) 0)=true from decide_eq_true c]
      dsimp only;rw[if_pos rfl];refine oI hp hk hi q fu l ((l+r)/2) ⋯ ⋯ ⋯ h3 λi a b=>?_
      by_cases he:i=(l+r)/2
      . rw[he];exact c
      . exact F4 c (hi _ _ ⋯ b)
    . rw[show fOf key (p.getD k 0) (p.getD ((l+r)/2) 0)=false from decide_eq_false c]
      dsimp only;rw[if_neg Aa];have hne:=hp.ne (i:=k) (j:=(l+r)/2) hk ⋯ ⋯
      have c2:kp key p ((l+r)/2)<kp key p k:=by have a1:¬kp key p k<kp key p ((l+r)/2):=c;omega
      refine oI hp hk hi q fu ((l+r)/2+1) r ⋯ ⋯ h2 (λi a=>?_) h4
      by_cases he:i=(l+r)/2
      . rw[he];exact c2
      . exact F4 (hi i _ ⋯ ⋯) c2
def nz(hs:src<p.size)(hd:d<=src):kp key (bubble p src d) k=if k=src-d then kp key p src else if src-d<k/\k<=src then kp key p (k-1) else kp key p k:=by
 have e:=getElem?_bubble hs d hd k;unfold kp;by_cases h1:k=src-d
 . rw[if_pos h1]at e ⊢
   rw[A1,A1,e]
 . rw[if_neg h1]at e ⊢
   by_cases h2:src-d<k/\k<=src
   . rw[if_pos h2]at e ⊢
     rw[A1,A1,e]
   . rw[if_neg h2]at e ⊢
     rw[A1,A1,e]
theorem aC(q:∀p',Pm key n p'->Inc key p' n->Q p'):∀fu k p,Pm key n p->1<=k->k+fu=n->Inc key p k->wpT (fOf key) n (kas_bin fu p k) Q
 |0,k,p,hp,_,h2,h=>q p hp (by have:k=n:=⋯;rw[<-this];exact h)
 |fu+1,k,p,hp,h1,h2,h=>by
  have hs:=hp.size;refine uD (oI hp ⋯ h (λl a b c=>?_) k 0 k ⋯ ⋯ (Ac _) (λi hi=>⋯) (λi a b=>⋯))
  refine aC q fu (k+1) _ (hp.of (bubble_perm _ _ _)) ⋯ ⋯ λi j hij hj=>?_
  rw[nz ⋯ ⋯,nz ⋯ ⋯,show k-(k-l)=l by omega]
  repeat' split
  all_goals first
   |(exfalso;omega)
   |exact b _ ⋯
   |exact c _ ⋯ ⋯
   |exact h _ _ ⋯ ⋯
def Va(hn:2<=n)(hinj:∀i j,i<n->j<n->key i=key j->i=j)(q:∀p,Pm key n p->Inc key p n->Q p):wpT (fOf key) n (kas_sort n) Q:=by
 have hp:Pm key n (List.toArray (Al n)):=⟨by simp,hinj⟩
 refine uD (aR hp hn λm p' hp' a b c=>?_);show wpT (fOf key) n (if m<n then _ else _) Q
 by_cases hm:m<n
 . rw[if_pos hm]
   rw[show max m 1=m by omega]
   exact aC q (n-m) m p' hp' a ⋯ c
 . rw[if_neg hm]
   have:m=n:=by omega
   subst this;exact q p' hp' c
end
end L2
end
section
namespace L2
open PySem PySem.W PySem.Calls PyProof PyProof.Rows
def Xe(K:Ay)(H:Hp)(ys:List V)(zs:List (Int × Int)):Prop:=ys.length=zs.length/\∀(i:Nat) (z:Int × Int),zs[i]?=some z->∃b,ys[i]?=some (V.c b)/\SqT K H b [.d z.1,.d z.2]
noncomputable def yJ(z:Int × Int):Int:=z.1*1000+z.2
def kH(ha:0<=a.2/\a.2<1000)(hb:0<=b.2/\b.2<1000):yJ a<yJ b↔a.1<b.1\/a.1=b.1/\a.2<b.2:=by unfold yJ;omega
def ng(ha:0<=a.2/\a.2<1000)(hb:0<=b.2/\b.2<1000)(e:yJ a=yJ b):a=b:=by
 unfold yJ at e;have h1:a.1=b.1:=by omega
 have h2:a.2=b.2:=by omega
 exact EX h1 h2
section
variable {prog:Program}{w:World}{A:Around}{E:Value->Shared->Prop}{s:Shared}
def b9(hx:s.heap.get? x=some ox)(dx:ox.data=.seq #[.int a t1,.int b t2] n)(hy:s.heap.get? y=some oy)(dy:oy.data=.seq #[.int c t3,.int d t4] k)
 (h:Q (decide (a<c\/a=c/\b<d)) s):wpAny (model prog w) A (keyLt' (tuples' true) (.ref x) (.ref y)) Q E s:=by
 refine kat_lt hx dx hy dy ?_;show KatLex prog w A true false Q [(Dd a t1,Dd c t3),(Dd b t2,Dd d t4)] 0 s;refine kat_cons (FT (kat_go (λe=>?_) λe=>?_))
 . have e':a=c:=by simpa using e
   refine kat_yes (kat_cons (FT (kat_go (λe2=>?_) λe2=>?_)))
   . have e2':b=d:=by simpa using e2
     refine kat_yes (kat_nil ?_)
     rwa [decide_eq_false ⋯]at h
   . have e2':b≠d:=by simpa using e2
     refine kat_no (kat_one _ _ (lt_int ?_));show Q (decide (b<d)) s;by_cases hbd:b<d
     . rw[decide_eq_true hbd];rwa [decide_eq_true ⋯]at h
     . rw[decide_eq_false hbd];rwa [decide_eq_false ⋯]at h
 . have e':a≠c:=by simpa using e
   refine kat_no (oneLt_int ?_);by_cases hbd:a<c
   . rw[decide_eq_true hbd];rwa [decide_eq_true ⋯]at h
   . rw[decide_eq_false hbd];rwa [decide_eq_false ⋯]at h
end
end L2
end
section
namespace L2
open PySem PySem.W PySem.Calls PyProof PyProof.Rows
section
variable {prog:Program}{w:World}{A:Around}{E:Value->Shared->Prop}{s:Shared}
def lg{vs:List Value}(hl:s.heap.IsList l vs.toArray)(h2:vs.length<2)
 (h:∀h' c,(∀b o,s.heap.get? b=some o->h'.get? b=some o)->h'.get? (s.heap.objs.size+1)=some (seqObj "list" vs.toArray c)->Q (.ref (s.heap.objs.size+1)) {s with heap:=h'}) :
 wpAny (model prog w) A (call (.builtin "sorted") [.ref l]) Q E s:=by
 refine Calls.call_function_entry kind_sorted plain_sorted entry_sorted (args_sorted1 _) ?_;unfold Builtin.«sorted»;refine dr (m:=checkCount "sorted" 1 1 _) (Af ?_);refine dr (collect_list hl ?_ (by rw[BR];omega))
 refine dr (wpAny_newList ?_ (by rw[BR];omega))
 have hsz:((s.heap.push (seqObj "list" #[] 0)).update s.heap.objs.size (Ck (·++vs.toArray))).objs.size=s.heap.objs.size+1:=by rw[Heap.size_update,size_push']
 have hoL:(((s.heap.push (seqObj "list" #[] 0)).update s.heap.objs.size (Ck (·++vs.toArray))).push (seqObj "list" vs.toArray 0)).get? (s.heap.objs.size+1)=some (seqObj "list" vs.toArray 0):=by rw[<-hsz];exact As _ rfl
 have keep:∀b o,s.heap.get? b=some o->(((s.heap.push (seqObj "list" #[] 0)).update s.heap.objs.size (Ck (·++vs.toArray))).push (seqObj "list" vs.toArray 0)).get? b=some o:=λb o q=>by
  have hlt:b<s.heap.objs.size:=Aj q;rw[Heap.get?_push_ne _ _ _ (by rw[hsz];exact Ax (BY hlt)),EV _ _ _ _ (Ax hlt),Heap.get?_push_ne _ _ _ (Ax hlt)]
  exact q
 show wpAny _ _ _ _ _ {s with heap:=((s.heap.push (seqObj "list" #[] 0)).update s.heap.objs.size (Ck (·++vs.toArray))).push (seqObj "list" vs.toArray 0)}
 rw[hsz];generalize hg:((s.heap.push (seqObj "list" #[] 0)).update s.heap.objs.size (Ck (·++vs.toArray))).push (seqObj "list" vs.toArray 0)=g at hoL keep ⊢
 refine dr (Cw (B3 slot_list_sort ⟨_,hoL,rfl⟩ entry_list_sort ?body (args_list_sort _)))
 case body=>
  have ha:s.heap.objs.size+1<g.objs.size:=Aj hoL;rw[list_sort_plain];refine dr (listItems_at hoL rfl ?_);refine dr (listUpdate_at hoL rfl ?_ (by rw[Ae,BR];omega) (A3 _))
  obtain⟨e1,ho1⟩:∃e1,(g.update (s.heap.objs.size+1) (Ck λ_=>(#[]:Array Value))).get? (s.heap.objs.size+1)=some (seqObj "list" #[] e1):=⟨_,get?_update_seq hoL λ_=>#[]⟩;refine dr (seqEpoch_at ho1 rfl ?_);refine dr (wpAny_newTuple ?_ (by show vs.length<=_;rw[BR];omega))
  refine dr (wpAny_newList ?_ (A3 _));refine Cw ?_;have ho6:(((g.update (s.heap.objs.size+1) (Ck λ_=>(#[]:Array Value))).push (seqObj "tuple" vs.toArray 0)).push (seqObj "list" #[] 0)).get? (s.heap.objs.size+1)=some (seqObj "list" #[] e1):=
   zO _ (zO _ ho1)
  show wpAny (model prog w) _ _ _ _ {s with heap:=((g.update (s.heap.objs.size+1) (Ck λ_=>(#[]:Array Value))).push (seqObj "tuple" vs.toArray 0)).push (seqObj "list" #[] 0)}
  dsimp only;have h2':vs.toArray.size<2:=by rw[Ae];exact h2
  rw[if_pos h2',if_pos h2'];refine dr (Af ?_);rw[StateT.run_pure];refine dr (Af ?_);dsimp only;refine dr (seqEpoch_at ho6 rfl ?_);have hout:(arrOf (SortSt.mk' general' (vs.toArray.zip vs.toArray) #[] 7 none)).map (·.2)=vs.toArray:=by
   show (vs.toArray.zip vs.toArray).map (·.2)=vs.toArray
   apply Array.toList_inj.mp;simp[List.map_snd_zip]
  rw[hout];refine dr (listUpdate_at ho6 rfl ?_ (A3 _) (by rw[Ae,BR];omega))
  simp only[bne_self_eq_false,AV,if_false];refine Af ⟨_,rfl,Af ⟨_,rfl,?_⟩⟩;have hc:=get?_update_seq ho6 λ_=>vs.toArray;refine h _ _ (λb o e=>?_) hc;have hlt:b<s.heap.objs.size:=Aj e;have hb:b≠s.heap.objs.size+1:=Ax (BY hlt);rw[EV _ _ _ _ hb];refine zO _ (zO _ ?_);rw[EV _ _ _ _ hb];exact keep b o e
end
section
variable {P:Program}{w:World}{H:Hp}{h:Heap}{a:Addr}{o:HO}
def yB.got(x:yB P w H h a o):∃u,h.get? a=some u:=by
 cases o with
 |b xs=>obtain⟨_,_,_,_,e⟩:=x;exact⟨_,e⟩
 |c xs=>obtain⟨_,_,_,_,e,_⟩:=x;exact⟨_,e⟩
 |d kvs=>obtain⟨_,_,_,_,o,_,_,e,_⟩:=x;exact⟨_,e⟩
 |i kvs=>obtain⟨_,_,_,_,o,_,_,e,_⟩:=x;exact⟨_,e⟩
 |l S n=>obtain⟨o,_,_,_,e,_⟩:=x;exact⟨_,e⟩
 |k C dx fs=>obtain⟨_,_,_,e,_⟩:=x;exact⟨_,e⟩
 |g y=>exact x
 |r fs=>obtain⟨_,⟨_,_,_,e,_⟩,_⟩:=x;exact⟨_,e⟩
 |q lo hi=>obtain⟨_,_,_,e⟩:=x;exact⟨_,e⟩
 |j ob u=>obtain⟨e,_⟩:=x;exact⟨_,e⟩
 |e ps=>exact⟨_,x⟩
 |p f y=>exact⟨_,x⟩
 |m φ=>exact x.2.1
end
end L2
end
section
namespace L2
open PySem PySem.W PySem.Calls PyProof PyProof.Rows
def PV(h:Heap)(its:List Value)(zs:List (Int × Int)):Prop:=
 its.length=zs.length/\∀(i:Nat) (z:Int × Int),zs[i]?=some z->∃b o n t1 t2,its[i]?=some (A4 b)/\h.get? b=some o/\o.cls=.type "tuple"/\o.data=.seq #[.int z.1 t1,.int z.2 t2] n
theorem PV.oi:∀{its} {zs},PV h its zs->∃fs,KatTups h its fs/\fs.length=its.length/\∀v∈fs,∃i t,v=Dd i t
 |[],[],_=>⟨[],KatTups.nil,rfl,λ_ x=>nomatch x⟩
 |[],_::_,⟨l,_⟩=>by cases l
 |_::_,[],⟨l,_⟩=>by cases l
 |v::its,z::zs,⟨l,f⟩=>by
  obtain⟨b,o,n,t1,t2,e,ho,hc,hd⟩:=f 0 z rfl;have e':v=A4 b:=by simpa using e
  subst e';obtain⟨fs,k,kl,ki⟩:=PV.oi (h:=h) (its:=its) (zs:=zs) ⟨by simpa using l,λi z' e=>by simpa using f (i+1) z' (by simpa using e)⟩
  refine⟨Dd z.1 t1::fs,KatTups.cons ho hc hd rfl k,by simp[kl],λv hv=>?_⟩
  rcases Ah.mp hv with rfl|hv
  . exact⟨_,_,rfl⟩
  . exact ki v hv
theorem mW(r:Vals ys its):∀(l:List Nat),(∀i∈l,i<ys.length)->Vals (l.map λi=>ys.getD i .g) (l.map λi=>its.getD i B7)
 |[],_=>.nil
 |i::l,h=>by
  have hi:i<ys.length:=h i (.head _);obtain⟨u,e,ru⟩:=r.get (i:=i) (x:=ys[i]) (by simp[hi])
  refine .cons ?_ (mW r l λj hj=>h j (.tail _ hj));show RelV (ys.getD i .g) (its.getD i B7);rw[Ab,Ab,e];simp only[pn hi,F5];exact ru
section
variable {X:Cx}{pins:List (Addr × Obj)}{σ:St}{H:Hp}{s:Shared}
def Xe.pv(I:Inv X pins σ H s)(h:Xe X.K H ys zs)(r:Vals ys its):PV s.heap its zs:=by
 refine⟨by rw[<-r.length];exact h.1,λi z e=>?_⟩
 obtain⟨b,e1,e2⟩:=h.2 i z e;obtain⟨u,e3,ru⟩:=r.get e1;obtain⟨us,rt,⟨o,ho,hc,n,hd⟩,_⟩:=I.tuple e2;obtain⟨u1,u2,rfl,r1,r2⟩:=vals2 rt;obtain⟨t1,rfl⟩:=r1;obtain⟨t2,rfl⟩:=r2;have ru':u=A4 b:=ru;subst ru';exact⟨b,o,n,t1,t2,e3,ho,hc,hd⟩
def Inv.aB(I:Inv X pins σ H s)(hz:ys.length<=Ar)(r:Vals ys its)(hD:s.heap.get? D=none)(keep:∀b o,b≠X.a.locals->s.heap.get? b=some o->h'.get? b=some o)
 (ns:∀m,s.heap.Ns X.a.locals m->h'.Ns X.a.locals m) (e:h'.get? D=some {cls:=.type "list",data:=.seq its.toArray c}):H D=none/\Inv X pins σ (upd H D (.b ys)) {s with heap:=h'}:=by
 have hn:H D=none:=by
  cases q:H D with
  |none=>rfl
  |some o=>
   obtain⟨u,hu⟩:=yB.got (I.j D o q);rw[hD]at hu;cases hu
 have ne:∀b o,H b=some o->b≠D:=λb o q z=>by rw[z,hn]at q;cases q
 have neo:∀b o,s.heap.get? b=some o->b≠D:=λb o q z=>by rw[z,hD]at q;cases q
 refine⟨hn,I.step (g':=s.gens) (d':=s.drawn) (t':=s.toks) (ch:=[]) (λ_ z=>nomatch z) (λb o hL _ _ q _=>keep b o hL q) (λb o hL _ _ q _=>⟨o.slots,keep b o hL q⟩) (λb o _ q n=>?_) (λb o _ q=>?_) (λb xs q=>?_) (λb o u q=>?_) (λb ps q=>?_) ns (λb o q=>?_) I.C⟩
 . rw[zY (neo b o q)];exact n
 . by_cases hb:b=X.a.locals
   . subst hb
     obtain⟨m,hm,_⟩:=I.M;obtain⟨o',_,_,ho',_⟩:=ns m hm;exact⟨o',ho'⟩
   . exact⟨o,keep b o hb q⟩
 . rw[zY (ne b _ q)];exact q
 . rw[zY (ne b _ q)];exact q
 . exact⟨#[],by rw[zY (ne b _ q),q];simp⟩
 . by_cases hb:b=D
   . subst hb
     rw[zt]at q;cases q;exact⟨hz,its,c,r,e⟩
   . rw[zY hb]at q
     refine(I.j b o q).lh (λx u hx hu=>keep x u ?_ hu) (λx hx=>by rw[zY (ne x _ hx)];exact hx) (λx xs hx=>by rw[zY (ne x _ hx)];exact hx)
     rcases hx with rfl|hx
     . intro z;rw[z,I.G]at q;cases q
     . intro z;rw[z,I.G]at hx;cases hx
def We{h:Heap}(x:h.Ns a m)(y:h.Ns a m'):m=m':=by obtain⟨o,es,ep,e,d,_,f⟩:=x;obtain⟨o',es',ep',e',d',_,f'⟩:=y;rw[e]at e';cases e';rw[d]at d';cases d';funext n;rw[<-f n,<-f' n]
end
end L2
end
section
namespace L2
open PySem PySem.W PySem.Calls PyProof PyProof.Rows Att
def mJ{α:Type}{zs}(d:α):(Al zs.length).map (λi=>zs.getD i d)=zs:=by
 apply List.ext_getElem
 . simp
 . intro i h1 h2
   simp[pn h2]
def iE:yw X (.builtin "sorted") (λxs H Q=>∃p ys zs,xs=[.c p]/\SqL X.K H p ys/\Xe X.K H ys zs/\zs.length<64/\zs.Nodup/\(∀z∈zs,0<=z.2/\z.2<1000) /\
 ∀l (ix:List Nat),H l=none->ix.Perm (Al zs.length)->(ix.map λi=>zs.getD i (0,0)).Pairwise (λa b=>yJ a<yJ b)->Q (.c l) (upd H l (.b (ix.map λi=>ys.getD i .g)))):=by
 intro pins s σ H xs us Q I r h;obtain⟨p,ys,zs,rfl,hq,hP,h64,hnd,hb,q⟩:=h;obtain⟨u,rfl,rx⟩:=vals1 r;cases rx;obtain⟨its,rv,pl,hz⟩:=I.list hq;have hlen:=rv.length;have hl:s.heap.IsList p its.toArray:=pl.isList;have pv:=hP.pv I rv;have hn:its.length=zs.length:=pv.1;obtain⟨m,hm,_⟩:=id I.M;by_cases h2:its.length<2
 . refine lg hl h2 λh' c keep e=>?_
   have hD:s.heap.get? (s.heap.objs.size+1)=none:=Heap.get?_none_of_le (DA _);obtain⟨hn',I'⟩:=I.aB (h':=h') hz rv hD (λb o _ e=>keep b o e) (λm ⟨o,es,ep,ho,r⟩=>⟨o,es,ep,keep _ o ho,r⟩) e;have ey:(Al zs.length).map (λi=>ys.getD i .g)=ys:=by rw[<-hn,<-hlen];exact mJ _
   have:=q _ (Al zs.length) hn' (.refl _) (by
    rw[mJ]
    match zs,show zs.length<2 by omega with
    |[],_=>exact .nil
    |[_],_=>exact List.pairwise_singleton _ _)
   rw[ey]at this;exact⟨V.c _,_,I',rfl,this⟩
 . let key:Nat->Int:=λi=>yJ (zs.getD i (0,0))
   have gz:∀{i:Nat},i<its.length->∃z,zs[i]?=some z/\zs.getD i (0,0)=z/\z∈zs:=λ{i} hi=>by
    have hi':i<zs.length:=by omega
    exact⟨zs[i],pn hi',by rw[Ab,pn hi'];rfl,BK hi'⟩
   have hinj:∀i j,i<its.length->j<its.length->key i=key j->i=j:=λi j hi hj e=>by obtain⟨z,e1,e2,e3⟩:=gz hi;obtain⟨z',e1',e2',e3'⟩:=gz hj;have e:yJ (zs.getD i (0,0))=yJ (zs.getD j (0,0)):=e;rw[e2,e2']at e;have ez:=ng (hb z e3) (hb z' e3') e;subst ez;exact(List.getElem?_inj ⋯ hnd).mp (e1.trans e1'.symm)
   refine kat_sorted (h₀:=qO s.heap) (L:=X.a.locals) (m:=m) (news:=sx (qO s.heap) s.heap X.a.locals) (Uz hm) Zw hl ⋯ ⋯ λD e1 h' F' N' lo=>?_
   have all:∀b o,b≠X.a.locals->s.heap.get? b=some o->(b,o)∈sx (qO s.heap) s.heap X.a.locals:=λb o hL e=>kj hL (oA _ _) e;have keep1:∀b o,b≠X.a.locals->s.heap.get? b=some o->h'.get? b=some o:=λb o hL e=>(N' _ (Az _ (all b o hL e))).1;have hDL:D≠X.a.locals:=(N' _ (.head _)).2.1;have hD:s.heap.get? D=none:=by
    cases e:s.heap.get? D with
    |none=>rfl
    |some o=>exact absurd (lo _ (all D o hDL e)) (Bp _)
   have pv':PV h' its zs:=⟨hn,λi z e=>by obtain⟨b,o,n,t1,t2,f1,f2,f3,f4⟩:=pv.2 i z e;refine⟨b,o,n,t1,t2,f1,keep1 b o (λx=>?_) f2,f3,f4⟩;obtain⟨o',es,ep,ho',d',_⟩:=hm;rw[x,ho']at f2;cases f2;rw[d']at f4;cases f4⟩
   obtain⟨fs,kt,kl,ki⟩:=pv'.oi;refine kat_kind (s:={s with heap:=h'}) (T:=.type "int") kt ⋯ (λv hv=>?_) rfl ?_
   . obtain⟨i,t,rfl⟩:=ki v hv
     exact Looks.of_pure rfl
   . show (kas_sort its.length).kasWp (kas_ask X.f X.w X.A.in1.in1 (tuples' true) its) _ {s with heap:=h'}
     refine eZ (f:=fOf key) (n:=its.length) (λi j C hi hj hc=>?_) (Va ⋯ hinj λpp hp hi=>?_)
     . obtain⟨z,e1,e2,e3⟩:=gz hi
       obtain⟨z',e1',e2',e3'⟩:=gz hj;obtain⟨b,o,n,t1,t2,f1,f2,f3,f4⟩:=pv'.2 i z e1;obtain⟨b',o',n',t1',t2',f1',f2',f3',f4'⟩:=pv'.2 j z' e1';show wpAny (model X.f X.w) X.A.in1.in1 (keyLt' (tuples' true) (its.getD i B7) (its.getD j B7)) C (λ_ _=>False) {s with heap:=h'}
       rw[Ab,Ab,f1,f1'];refine b9 f2 f4 f2' f4' ?_;have ec:fOf key i j=decide (z.1<z'.1\/z.1=z'.1/\z.2<z'.2):=by show decide (yJ (zs.getD i (0,0))<yJ (zs.getD j (0,0)))=_;rw[e2,e2'];exact decide_eq_decide.mpr (kH (hb z e3) (hb z' e3'))
       rw[ec]at hc;exact hc
     . refine KasFin.intro F' N' (.head λx hx=>Ax (lo x hx)) λh'' c F'' N''=>?_
       have keep2:∀b o,b≠X.a.locals->s.heap.get? b=some o->h''.get? b=some o:=λb o hL e=>(N'' _ (Az _ (all b o hL e))).1;have hlt:∀i∈pp.toList,i<its.length:=λi hi=>Ag.mp (hp.a.mem_iff.mp hi);have hps:=hp.size;obtain⟨hn',I'⟩:=I.aB (h':=h'') (ys:=pp.toList.map λi=>ys.getD i .g) (by rw[zI,By,hps];omega) (mW rv pp.toList λi hi=>by have:=hlt i hi;omega) hD keep2
        (λm' hm'=>by rw[<-We hm hm'];exact F''.ns) (N'' _ (.head _)).1
       refine⟨V.c _,_,I',rfl,q _ pp.toList hn' (by rw[<-hn];exact hp.a) ?_⟩
       rw[FP];intro i j h1 h2' hij;rw[zI,By,hps]at h1 h2';have w:=hi i j hij h2';have g1:∀{k:Nat} (hk:k<its.length),kp key pp k=yJ (zs.getD (pp.toList[k]'(by rw[By];omega)) (0,0)):=λ{k} hk=>by show yJ (zs.getD (pp.getD k 0) (0,0))=_;congr 2;simp[GL,show k<pp.size by omega]
       rw[g1 h1,g1 h2']at w;rw[List.getElem_map,List.getElem_map];exact w
theorem sY:∀{l l':List (Int × Int)},l.Pairwise (λa b=>yJ a<yJ b)->l'.Pairwise (λa b=>yJ a<yJ b)->(∀x,x∈l↔x∈l')->l=l'
 |[],[],_,_,_=>rfl
 |[],y::t',_,_,h=>by have:=(h y).mpr (.head _);cases this
 |x::t,[],_,_,h=>by have:=(h x).mp (.head _);cases this
 |x::t,y::t',h1,h2,h=>by
  rw[Bn]at h1 h2;have exy:x=y:=by
   rcases Ah.mp ((h x).mp (.head _)) with e|m
   . exact e
   . rcases Ah.mp ((h y).mpr (.head _)) with e|m'
     . exact e.symm
     . have a:=h2.1 x m
       have b:=h1.1 y m';omega
  subst exy;congr 1;refine sY h1.2 h2.2 λa=>⟨λm=>?_,λm=>?_⟩
  . rcases Ah.mp ((h a).mp (.tail _ m)) with e|m'
    . have:=h1.1 a m
      rw[e]at this;omega
    . exact m'
  . rcases Ah.mp ((h a).mpr (.tail _ m)) with e|m'
    . have:=h2.1 a m
      rw[e]at this;omega
    . exact m'
end L2
end
section
namespace L2
open PySem PySem.W PySem.Calls PyProof PyProof.Rows
noncomputable def Qr:List Int->List Int->Bool
 |x::xs,y::ys=>if x=y then Qr xs ys else decide (x<y)
 |_,_=>false
end L2
end
section
namespace L2.Tim
open PySem PySem.W PySem.Calls PyProof PyProof.Rows
section
variable {prog:Program}{w:World}{A:Around}{E:Value->Shared->Prop}{s:Shared}{κ:SortKind}{a₀:Array Keyed}{key:Keyed->Int}
def wW{i j:Nat}(h:¬(i == j)=true):i≠j:=λe=>h (beq_iff_eq.mpr e)
end
end L2.Tim
end
section
namespace L2
open PySem PyProof.Rows
section
variable {X:Cx}{N:List Str}{csc:Scope}{fr:List (Option Nat)}{elt tg iter tg2 iter2:Expr}{ifs ifs2:List Expr}{cpos:Pos}{wi wi2:TI}{g g2:TG}{ts ts2:List TT}{te:TE}
def YU(hc:X.g=true)(S:yE X N csc fr)(hi:PI X tg iter wi)(hg:∀C s0 H0 ex,PG (X.comp N csc C s0 H0 ex) tg g)(ht:∀C s0 H0 ex,PTs (X.comp N csc C s0 H0 ex) ifs ts)
 (hi2:∀C s0 H0 ex,PI (X.comp N csc C s0 H0 ex) tg2 iter2 wi2) (hg2:∀C s0 H0 ex,PG (X.comp N csc C s0 H0 ex) tg2 g2) (ht2:∀C s0 H0 ex,PTs (X.comp N csc C s0 H0 ex) ifs2 ts2)
 (he:∀C s0 H0 ex,PE (X.comp N csc C s0 H0 ex) elt te) (hN:X.N.Nodup) (hy:X.N[i]?=some y) (hx:Loc X.a.scope y)
 (hsw:Ea (.ListComp elt [⟨tg,iter,ifs,0⟩,⟨tg2,iter2,ifs2,0⟩] csc cpos) (some (.Name y py)) spos.line X.a=pure true:=by rfl)
 (hf:X.m y=true\/X.a.scope.names.lookup y=some .local:=by first|exact .inl rfl|exact .inr rfl|assumption)
 (hs:∀x,A0 iter X.a x=pure x:=by intro _;rfl)
 (hs2:∀env x,A0 iter2 env x=pure x:=by intro _ _;rfl) :
 PS X (.Assign [.Name y py] (.ListComp elt [⟨tg,iter,ifs,0⟩,⟨tg2,iter2,ifs2,0⟩] csc cpos) spos) (nJ (tD fr wi g ts λacc=>oZ wi2 g2 ts2 (sG acc te)) (uk i)):=
 jU hc S hi (B:=λacc env=>(do
         let x <-eval iter2 env
         standAt iter2.pos
         let x <-A0 iter2 env x;let _ <-runOwn (.compStart (.ListComp elt [⟨tg,iter,ifs,0⟩,⟨tg2,iter2,ifs2,0⟩] csc cpos) 1 (<-holding [x] (pyIter x)) acc env) env)) (UP elt tg iter ifs tg2 iter2 ifs2 csc cpos) hg ht
  (λC s0 H0 ex acc=>jJ rfl hc (hi2 C s0 H0 ex) (hg2 C s0 H0 ex) (ht2 C s0 H0 ex) (pF (he C s0 H0 ex)) (hs2 _)) hN hy hx hsw hf hs
end
end L2
end
section
namespace L2
open PySem PySem.Calls PyProof PyProof.Rows
open AutoSeq1 (wpAny_loadPart')
section
variable {prog:Program}{w:World}{A:Around}{E:Value->Shared->Prop}{s:Shared}
def qu(hit:s.heap.IsTupleIter it t i)(ht:s.heap.IsTuple t items)(hx:items[i]?=some x)
 (hQ:∀h',h'.IsTupleIter it t (i+1)->D9 it s.heap h'->Q x {s with heap:=h'}):wpAny (model prog w) A (Bi (.ref it)) Q E s:=by
 obtain⟨o,ho,hc,hd⟩:=id hit;obtain⟨ol,hol,_,nl,hdl⟩:=ht;unfold Bi;refine dr (BC (name:=Dl "__next__") hit.typeIs C0
  (B3 C0 hit.typeIs Fd ?_ (E1 _)))
 show wpAny _ _ (field (.ref it) 0 >>= _) _ _ s;refine dr (A9 ho hd (x:=.ref t) rfl ?_);show wpAny _ _ (if (A4 t == B7)=true then _ else _) _ _ s
 rw[if_neg (show ¬((A4 t == B7)=true) from Aa)];show wpAny _ _ (field (.ref it) 1 >>= _) _ _ s;refine dr (A9 ho hd (x:=.int i 0) rfl ?_);show wpAny _ _ (seqItems? (.ref t) >>= _) _ _ s;refine dr (Co hol hdl ?_);simp only[AL,hx];refine dr (GG ho hd (by simp) (Af ⟨x,rfl,Af (hQ _ ?_ (D9.update ..))⟩))
 exact⟨_,Heap.get?_update_self _ ho (Obj.isFreed_of_fields (Obj.data_mapFields hd _)),(Obj.cls_mapFields ..).trans hc,by
  rw[Obj.data_mapFields hd];simp[rawInt]⟩
def p9(hh:A.handled=none)(hit:s.heap.IsTupleIter it t i)(ht:s.heap.IsTuple t items)(hx:items[i]?=none)
 (hE:∀h' e,Heap.ExtBut it s.heap h'->(∃o,h'.get? e=some o/\o.cls=.type "StopIteration")->E (.ref e) {s with heap:=h'}):wpAny (model prog w) A (Bi (.ref it)) Q E s:=by
 obtain⟨o,ho,hc,hd⟩:=id hit;obtain⟨ol,hol,_,nl,hdl⟩:=ht;unfold Bi;refine dr (BC (name:=Dl "__next__") hit.typeIs C0
  (B3 C0 hit.typeIs Fd ?_ (E1 _)))
 show wpAny _ _ (field (.ref it) 0 >>= _) _ _ s;refine dr (A9 ho hd (x:=.ref t) rfl ?_);show wpAny _ _ (if (A4 t == B7)=true then _ else _) _ _ s
 rw[if_neg (show ¬((A4 t == B7)=true) from Aa)];show wpAny _ _ (field (.ref it) 1 >>= _) _ _ s;refine dr (A9 ho hd (x:=.int i 0) rfl ?_);show wpAny _ _ (seqItems? (.ref t) >>= _) _ _ s;refine dr (Co hol hdl ?_);simp only[AL,hx]
 first
  |refine dr (C9 (dr (GG ho hd (by simp) ?_)))
  |refine dr (GG ho hd (by simp) ?_)
 first
  |show wpAny _ _ (newExc (.type "StopIteration") [] >>= _) _ _ _
  |(refine dr (Gy ?_);show wpAny _ _ (newExc (.type "StopIteration") [] >>= _) _ _ _)
 refine dr ?_;simp only[newExc,newTuple];refine dr (Bm ?_ (by size_fits))
 refine dr (m:=firstArgMember _ _) (wpAny_of_eq (a:=B7) (by first|rfl|(simp only[firstArgMember];rfl)) ?_)
 refine Bm ?_ (by size_fits)
 simp only[raiseNew];refine dr (wpAny_handled ?_)
 first|rw[show A.in1.handled=none from hh]|rw[hh]
 refine dr (Af (wpAny_throw ?_));exact hE _ _ (((D9.update ..).extBut.push _).push _) ⟨_,As _ rfl,rfl⟩
end
def wk(hh:A.handled=none)it t(hne:t≠it)items :
 Draws prog w A it [it,t] items.size (λi v=>items[i]?=some v) (λi h=>h.IsTupleIter it t i/\h.IsTuple t items) where
 live:=λ_ _ st=>let ⟨o,ho,_⟩:=st.1;⟨o,ho⟩
 frame:=λ_ _ _ st hk=>⟨st.1.at λo e=>hk it (by simp) o e,let ⟨o,ho,r⟩:=st.2;⟨o,hk t (by simp) o ho,r⟩⟩
 item:=λi s Q E hi st hQ=>by
  refine qu st.1 st.2 (x:=items[i]) (by simp[hi]) λh' hit' hs'=>?_
  exact hQ _ h' s.toks (by simp[hi]) ⟨hit',let ⟨o,ho,r⟩:=st.2;⟨o,hs'.extBut t o hne ho,r⟩⟩ hs'
 done:=λs Q E st hE=>p9 hh st.1 st.2 (by simp) hE
def p8 l items n dct sl :
 Meets (Builtin.«enumerate.__new__» ⟨[.type "enumerate",.ref l],[]⟩) (λ_ R s=>s.heap.get? l=some {cls:=.type "tuple",dict:=dct,data:=.seq items n,slots:=sl} /\
  R (.ok (.ret (.ref (s.heap.push {cls:=.type "tuple_iterator",data:=.fields #[.ref l,.int 0 0]}).objs.size)))
    {s with heap:=(s.heap.push {cls:=.type "tuple_iterator",data:=.fields #[.ref l,.int 0 0]}).push {cls:=.type "enumerate",data:=.fields #[.none,.bool false,.ref s.heap.objs.size,rawInt 0,.none,.none]}}):=
 .of_wp λprog w A R s h=>by
  obtain⟨hp,g,d,tk,os⟩:=s;obtain⟨hl,h⟩:=h;have hsub:=sub_enumerate;have hL:Heap.IsTuple (Shared.heap ⟨hp,g,d,tk,os⟩) l items:=⟨_,hl,rfl,n,rfl⟩
  wp_walk using B0 hl
  refine wpAny_stack_any λst=>Af ?_;split
  . rename_i c _ _ _ _ _
    cases (c == FL "enumerate")
    . wp_walk using B0 hl,B1 hL
      exact⟨_,rfl,h⟩
    . wp_walk using B0 hl,B1 hL
      exact⟨_,rfl,h⟩
  . wp_walk using B0 hl,B1 hL
    exact⟨_,rfl,h⟩
section
variable {prog:Program}{w:World}{A:Around}{E:Value->Shared->Prop}{s:Shared}
def ot(hL:s.heap.IsTuple l items)
 (h:∀h',IsEnum h' (s.heap.objs.size+1) s.heap.objs.size 0 .none->h'.IsTupleIter s.heap.objs.size l 0->h'.objs.size=s.heap.objs.size+2 ->
  (∀b o,s.heap.get? b=some o->h'.get? b=some o)->Q (.ref (s.heap.objs.size+1)) {s with heap:=h'}) :
 wpAny (model prog w) A (call (.type "enumerate") [.ref l]) Q E s:=by
 obtain⟨⟨c,dct,dt,sl⟩,hl,hc,n,hd⟩:=hL;replace hc:c=.type "tuple":=hc;replace hd:dt=.seq items n:=hd;subst hc hd;refine callType_new F.called_enumerate (by decide) (F.typeCall_enumerate_1 _) (F.newCall_enumerate_1 _) (λobj=>F.args_object_init_2 obj _) F.entry_enumerate_new
  (p8 l items n dct sl) ⟨hl,?_⟩
 have hz:(s.heap.push {cls:=.type "tuple_iterator",data:=.fields #[.ref l,.int 0 0]}).objs.size=s.heap.objs.size+1:=Be ..;show _/\_;rw[hz];have he:IsEnum ((s.heap.push {cls:=.type "tuple_iterator",data:=.fields #[.ref l,.int 0 0]}).push
  {cls:=.type "enumerate",data:=.fields #[.none,.bool false,.ref s.heap.objs.size,rawInt 0,.none,.none]}) (s.heap.objs.size+1) s.heap.objs.size 0 .none:=by
  have:=As (s.heap.push {cls:=.type "tuple_iterator",data:=.fields #[.ref l,.int 0 0]})
   (o:={cls:=.type "enumerate",data:=.fields #[.none,.bool false,.ref s.heap.objs.size,rawInt 0,.none,.none]}) rfl
  rw[hz]at this;exact this
 refine⟨⟨_,he,rfl⟩,h _ he ⟨_,zO _ (As _ rfl),rfl,rfl⟩ (by rw[Be,hz]) λb o x=>zO _ (zO _ x)⟩
end
end L2
end
section
namespace L2
open PySem PySem.Calls PyProof PyProof.Rows
noncomputable def Ite(K:Ay)(a:Addr):It:=
 ⟨λi H=>∃xs x,SqT K H a xs/\xs[i]?=some x,λi H x H'=>∃t y,H t=none/\x=.c t/\(∀xs,SqT K H a xs->xs[i]?=some y)/\H'=upd H t (.c [.d (i:Nat),y]),λi H=>∃xs,SqT K H a xs/\xs.length=i⟩
def Inv.eY(I:Inv X pins σ H s)(fe:uG X pins H e)(fi:uG X pins H it)
 (k:∀b o,b≠e->b≠it->s.heap.get? b=some o->h'.get? b=some o) (hT:s.heap.objs.size<=T) (hz:ys.length<=Ar) (r:Vals ys its) (ho:h'.get? T=some {cls:=.type "tuple",data:=.seq its.toArray n}) :
 Inv X pins σ (upd H T (.c ys)) {s with heap:=h',toks:=t'}:=by
 obtain⟨e0,e1,e2,e3,e4,e5⟩:=fe;obtain⟨i0,i1,i2,i3,i4,i5⟩:=fi;have hn:H T=none:=I.j.fresh hT;have neT:∀b u,H b=some u->b≠T:=λb u q z=>by rw[z,hn]at q;cases q
 have nee:∀b u,H b=some u->b≠e:=λb u q z=>by rw[z,e0]at q;cases q
 have nei:∀b u,H b=some u->b≠it:=λb u q z=>by rw[z,i0]at q;cases q
 have neoT:∀b o,s.heap.get? b=some o->b≠T:=λb o q z=>absurd (AI (Aj q) hT) (by rw[z];exact Bp _)
 refine I.step (g':=s.gens) (d':=s.drawn) (ch:=[e,it]) (λb hb=>?_) (λb o _ _ hc q _=>k b o (λz=>hc (by simp[z])) (λz=>hc (by simp[z])) q) (λb o _ _ hc q _=>⟨o.slots,k b o (λz=>hc (by simp[z])) (λz=>hc (by simp[z])) q⟩)
  (λb o _ q m=>by rw[zY (neoT b o q)];exact m) (λb o hc q=>⟨o,k b o (λz=>hc (by simp[z])) (λz=>hc (by simp[z])) q⟩) (λb xs q=>by rw[zY (neT b _ q)];exact q) (λb o u q=>by rw[zY (neT b _ q)];exact q)
  (λb ps q=>⟨#[],by rw[zY (neT b _ q),q];simp⟩) (λm hm=>?_) (λb u q=>?_) I.C
 . rcases Ah.mp hb with z|hb
   . subst z;exact⟨e3,e1,e4,e5⟩
   . have z:=Ao.mp hb
     subst z;exact⟨i3,i1,i4,i5⟩
 . obtain⟨o,es,ep,ho,r⟩:=hm
   exact⟨o,es,ep,k _ o (BP e1) (BP i1) ho,r⟩
 . by_cases hb:b=T
   . subst hb
     rw[zt]at q;cases q;exact⟨hz,its,r,_,ho,rfl,n,rfl,rfl⟩
   . rw[zY hb]at q
     refine(I.j b u q).lh (λc v hc w=>k c v ?_ ?_ w) (λc hc=>by rw[zY (neT c _ hc)];exact hc) λc xs hc=>by rw[zY (neT c _ hc)];exact hc
     . rcases hc with z|z
       . rw[z];exact nee b u q
       . exact nee c _ z
     . rcases hc with z|z
       . rw[z];exact nei b u q
       . exact nei c _ z
def Inv.eX(I:Inv X pins σ H s)(fi:uG X pins H it)(k:∀b o,b≠it->s.heap.get? b=some o->h'.get? b=some o):Inv X pins σ H {s with heap:=h',toks:=t'}:=by obtain⟨i0,i1,i2,i3,i4,i5⟩:=fi;exact I.turned k i0 i1 i3 i4 i5
def bY{K}a e it(hei:e≠it):Turn P w K (.Tuple elts x1 pos) (Ite K a) [e,it] e (λi h=>(∃old,IsEnum h e it (i:Nat) old)/\h.IsTupleIter it a i) where
 g:=by simp
 e:=λi h st b hb=>by
  rcases Ah.mp hb with z|hb
  . subst z
    obtain⟨old,he⟩:=st.1;exact⟨_,he,λv z=>by cases (show E4 _=E6 v from z)⟩
  . have z:=Ao.mp hb
    subst z;obtain⟨o,q,c,d⟩:=st.2;exact⟨o,q,λv z=>by rw[d]at z;cases z⟩
 a:=λi h h' st k=>⟨let ⟨old,he⟩:=st.1;⟨old,k e (by simp) _ he⟩,st.2.at λo q=>k it (by simp) o q⟩
 d:=by
  intro X hP hw hK hc i pins s σ H E I hf st hg;subst hP hw hK;obtain⟨xs,x,hq,hx⟩:=hg;obtain⟨⟨old,he⟩,hit⟩:=st;obtain⟨its,rv,p,hz⟩:=I.tuple hq;obtain⟨u,hu,ru⟩:=rv.get hx;have hlen:=rv.length;have hi:i<xs.length:=(Ad.mp hx).1;have hai:a≠it:=λz=>by obtain⟨o1,q1,c1,_⟩:=id p;obtain⟨o2,q2,c2,_⟩:=id hit;rw[z,q2]at q1;cases q1;rw[c2]at c1;exact absurd (DH c1) (by decide)
  have hae:a≠e:=λz=>by obtain⟨o1,q1,c1,_⟩:=id p;have he':s.heap.get? e=_:=he;rw[z,he']at q1;cases q1;exact absurd (DH c1) (by decide)
  have D:=wk (prog:=X.f) (w:=X.w) (A:=X.A.in1) (I.y.a hc) it a hai its.toArray;refine Gi D he ⟨hit,p⟩ (by rw[Ae];omega) hei (λm=>?_) λv h1 tk hP ho hs1 hT hsz hk=>?_
  . rcases Ah.mp m with z|m
    . exact hei z
    . exact hae (Ao.mp m).symm
  . have hP:its.toArray[i]?=some v:=hP
    have ev:v=u:=by rw[CT,hu]at hP;exact(Am hP).symm
    subst ev;refine⟨_,rfl,Ft (s:={s with heap:=h1,toks:=tk+1}) ho λh2 he2 sb=>?_⟩
    have sz:s.heap.objs.size≠e:=DE (Aj he);refine⟨.c s.heap.objs.size,_,Inv.eY (s:=s) (h':=h2) (t':=tk+1) (T:=s.heap.objs.size) (ys:=[.d (i:Nat),x]) (its:=[.int (i:Nat) tk,v]) (n:=0) I (hf e (by simp)) (hf it (by simp)) (λb o h1' h2' q=>(sb.2 b h1').trans (hk b o h1' h2' q)) (Ac _) (by rw[BR];show 2<=_;decide) (.cons ⟨tk,rfl⟩ (.cons ru .nil)) ((sb.2 _ sz).trans hT),rfl,
     ⟨s.heap.objs.size,x,I.j.fresh (Ac _),rfl,λys hy=>by rw[I.t8 hy hq];exact hx,rfl⟩,⟨⟨v,by simpa using he2⟩,hs1.1.at λo q=>(sb.2 it (BP hei)).trans q⟩,λb hb=>?_⟩
    rw[zY (λz=>?_)]
    . exact(hf b hb).1
    . have hlt:b<s.heap.objs.size:=by
       rcases Ah.mp hb with y|hb
       . rw[y];exact Aj he
       . rw[Ao.mp hb];obtain⟨o,q,_⟩:=hit;exact Aj q
      exact absurd z (Ax hlt)
 c:=by
  intro X hP hw hK hc i pins s σ H E I hf st hg;subst hP hw hK;obtain⟨xs,hq,hx⟩:=hg;obtain⟨⟨old,he⟩,hit⟩:=st;obtain⟨its,rv,p,hz⟩:=I.tuple hq;have hlen:=rv.length;have hai:a≠it:=λz=>by obtain⟨o1,q1,c1,_⟩:=id p;obtain⟨o2,q2,c2,_⟩:=id hit;rw[z,q2]at q1;cases q1;rw[c2]at c1;exact absurd (DH c1) (by decide)
  have D:=wk (prog:=X.f) (w:=X.w) (A:=X.A.in1) (I.y.a hc) it a hai its.toArray;have en:its.toArray.size=i:=by rw[Ae];omega
  exact wpAny_pyNext_enum_endD D he ⟨by rw[en];exact hit,p⟩ λh' eb=>⟨rfl,I.eX (t':=s.toks) (hf it (by simp)) λb o hb q=>eb b o hb q⟩
 f:=λ_ _ _ _ _ st h=>let ⟨old,he⟩:=st.1;Ek he h
noncomputable def UU(K:Ay)(a:Addr):It:=
 ⟨λi H=>∃xs x,SqL K H a xs/\xs[i]?=some x,λi H x H'=>∃t y,H t=none/\x=.c t/\(∀xs,SqL K H a xs->xs[i]?=some y)/\H'=upd H t (.c [.d (i:Nat),y]),λi H=>∃xs,SqL K H a xs/\xs.length=i⟩
def gj{K}a e it(hei:e≠it):Turn P w K (.Tuple elts x1 pos) (UU K a) [e,it] e (λi h=>(∃old,IsEnum h e it (i:Nat) old)/\h.IsListIter it a i) where
 g:=by simp
 e:=λi h st b hb=>by
  rcases Ah.mp hb with z|hb
  . subst z
    obtain⟨old,he⟩:=st.1;exact⟨_,he,λv z=>by cases (show E4 _=E6 v from z)⟩
  . have z:=Ao.mp hb
    subst z;obtain⟨o,q,c,d⟩:=st.2;exact⟨o,q,λv z=>by rw[d]at z;cases z⟩
 a:=λi h h' st k=>⟨let ⟨old,he⟩:=st.1;⟨old,k e (by simp) _ he⟩,st.2.at λo q=>k it (by simp) o q⟩
 d:=by
  intro X hP hw hK hc i pins s σ H E I hf st hg;subst hP hw hK;obtain⟨xs,x,hq,hx⟩:=hg;obtain⟨⟨old,he⟩,hit⟩:=st;obtain⟨its,rv,p0,hz⟩:=I.list hq;have p:=p0.isList;obtain⟨u,hu,ru⟩:=rv.get hx;have hlen:=rv.length;have hi:i<xs.length:=(Ad.mp hx).1;have hai:a≠it:=λz=>by obtain⟨o1,q1,c1,_⟩:=id p;obtain⟨o2,q2,c2,_⟩:=id hit;rw[z,q2]at q1;cases q1;rw[c2]at c1;exact absurd (DH c1) (by decide)
  have hae:a≠e:=λz=>by obtain⟨o1,q1,c1,_⟩:=id p;have he':s.heap.get? e=_:=he;rw[z,he']at q1;cases q1;exact absurd (DH c1) (by decide)
  have D:=Draws.list (prog:=X.f) (w:=X.w) (A:=X.A.in1) (I.y.a hc) it a hai its.toArray;refine Gi D he ⟨hit,p⟩ (by rw[Ae];omega) hei (λm=>?_) λv h1 tk hP ho hs1 hT hsz hk=>?_
  . rcases Ah.mp m with z|m
    . exact hei z
    . exact hae (Ao.mp m).symm
  . have hP:its.toArray[i]?=some v:=hP
    have ev:v=u:=by rw[CT,hu]at hP;exact(Am hP).symm
    subst ev;refine⟨_,rfl,Ft (s:={s with heap:=h1,toks:=tk+1}) ho λh2 he2 sb=>?_⟩
    have sz:s.heap.objs.size≠e:=DE (Aj he);refine⟨.c s.heap.objs.size,_,Inv.eY (s:=s) (h':=h2) (t':=tk+1) (T:=s.heap.objs.size) (ys:=[.d (i:Nat),x]) (its:=[.int (i:Nat) tk,v]) (n:=0) I (hf e (by simp)) (hf it (by simp)) (λb o h1' h2' q=>(sb.2 b h1').trans (hk b o h1' h2' q)) (Ac _) (by rw[BR];show 2<=_;decide) (.cons ⟨tk,rfl⟩ (.cons ru .nil)) ((sb.2 _ sz).trans hT),rfl,
     ⟨s.heap.objs.size,x,I.j.fresh (Ac _),rfl,λys hy=>by rw[I.kg hy hq];exact hx,rfl⟩,⟨⟨v,by simpa using he2⟩,hs1.1.at λo q=>(sb.2 it (BP hei)).trans q⟩,λb hb=>?_⟩
    rw[zY (λz=>?_)]
    . exact(hf b hb).1
    . have hlt:b<s.heap.objs.size:=by
       rcases Ah.mp hb with y|hb
       . rw[y];exact Aj he
       . rw[Ao.mp hb];obtain⟨o,q,_⟩:=hit;exact Aj q
      exact absurd z (Ax hlt)
 c:=by
  intro X hP hw hK hc i pins s σ H E I hf st hg;subst hP hw hK;obtain⟨xs,hq,hx⟩:=hg;obtain⟨⟨old,he⟩,hit⟩:=st;obtain⟨its,rv,p0,hz⟩:=I.list hq;have p:=p0.isList;have hlen:=rv.length;have hai:a≠it:=λz=>by obtain⟨o1,q1,c1,_⟩:=id p;obtain⟨o2,q2,c2,_⟩:=id hit;rw[z,q2]at q1;cases q1;rw[c2]at c1;exact absurd (DH c1) (by decide)
  have D:=Draws.list (prog:=X.f) (w:=X.w) (A:=X.A.in1) (I.y.a hc) it a hai its.toArray;have en:its.toArray.size=i:=by rw[Ae];omega
  exact wpAny_pyNext_enum_endD D he ⟨by rw[en];exact hit,p⟩ λh' eb=>⟨rfl,I.eX (t':=s.toks) (hf it (by simp)) λb o hb q=>eb b o hb q⟩
 f:=λ_ _ _ _ _ st h=>let ⟨old,he⟩:=st.1;Ek he h
def QX(K:Ay)(ta:TA):TI:=λσ H R=>ta σ H λvs H1=>∃a,vs=[.c a]/\(((∃xs,SqT K H1 a xs)/\R (Ite K a) H1)\/((∃xs,SqL K H1 a xs)/\R (UU K a) H1))
def W9(hg:Gl X "enumerate")(hm:X.d "enumerate"=none)(ha:PA X [a] ta)(hs:AQ [a] X.a=[(false,eval a X.a)]:=by rfl):PI X (.Tuple elts x1 tpos) (.Call (.Name "enumerate" p) [a] [] pos) (QX X.K ta):=by
 intro pins s σ H R I h;refine Call_ (sS I hg hm boot_enumerate (Cc (thn (ha pos pins s σ H _ I h) λus s1 ⟨vs,H1,I1,r1,q1⟩=>?_) hs rfl));obtain⟨c,e,q⟩:=q1;subst e;cases r1 with
 |cons r rr=>
  cases rr;cases r;have fp:∀b∈[s1.heap.objs.size+1,s1.heap.objs.size],uG X pins H1 b:=λb hb=>by
   have hb':s1.heap.objs.size<=b:=by
    rcases Ah.mp hb with z|hb
    . rw[z];exact DA _
    . rw[Ao.mp hb];exact Ac _
   exact I1.ZE hb' (I1.j.fresh hb')
  rcases q with⟨⟨xs,hq⟩,q⟩|⟨⟨xs,hq⟩,q⟩
  . obtain⟨its,rv,pt,hz⟩:=I1.tuple hq
    refine ot (show s1.heap.IsTuple c its.toArray from pt) λh' he hit hsz hk=>Ek he ?_;exact⟨s1.heap.objs.size+1,[s1.heap.objs.size+1,s1.heap.objs.size],_,_,H1,rfl,I1.kept (t':=s1.toks) hk,bY c _ _ (Nat.succ_ne_self _),⟨⟨_,he⟩,hit⟩,fp,q⟩
  . obtain⟨its,rv,pt,hz⟩:=I1.list hq
    refine call_enumerate_list pt.isList λh' he hit hsz hk=>Ek he ?_;exact⟨s1.heap.objs.size+1,[s1.heap.objs.size+1,s1.heap.objs.size],_,_,H1,rfl,I1.kept (t':=s1.toks) hk,gj c _ _ (Nat.succ_ne_self _),⟨⟨_,he⟩,hit⟩,fp,q⟩
end L2
end
section
namespace L2
open PySem PySem.Calls PyProof PyProof.Rows
structure Ap(z TI TO i1 i2:Addr)(fp1 fp2:List Addr):Prop where
 f:z≠TI
 a:z≠TO
 b:z≠i1
 e:z≠i2
 IO:TI≠TO
 I1:TI≠i1
 I2:TI≠i2
 O1:TO≠i1
 O2:TO≠i2
 ii:i1≠i2
 c:z ∉ fp1
 g:z ∉ fp2
 Of:TO ∉ fp1
 d:TO ∉ fp2
 h:i2 ∉ fp1
 ig:i1 ∉ fp2
section
variable {prog:Program}{w:World}{A:Around}{E:Value->Shared->Prop}{s:Shared}
variable {z TI TO i1 i2:Addr}{fp1 fp2:List Addr}{n1 n2:Nat}{P1 P2:Nat->Value->Prop}{S1 S2:Nat->Heap->Prop}
def Xb{Q:Value->Shared->Prop}(D:Ap z TI TO i1 i2 fp1 fp2)(D1:Draws prog w A i1 fp1 n1 P1 S1)(D2:Draws prog w A i2 fp2 n2 P2 S2)
 (hz:IsZip s.heap z TI TO .none) (hI:IsPair s.heap TI (.ref i1) (.ref i2)) (hO:IsPair s.heap TO a b) (s1:S1 k1 s.heap) (s2:S2 k2 s.heap) (l1:k1<n1) (l2:k2<n2)
 (hQ:∀x y h' tk,P1 k1 x->P2 k2 y->IsZip h' z TI TO (rawInt s.heap.objs.size)->IsPair h' TI (.ref i1) (.ref i2)->IsPair h' TO x y->S1 (k1+1) h'->S2 (k2+1) h'->IsPair h' s.heap.objs.size x y->(∀c o,c≠z->c≠TO->c≠i1->c≠i2->s.heap.get? c=some o->h'.get? c=some o) ->
  Q (.ref s.heap.objs.size) {s with heap:=h',toks:=tk}):wpAny (model prog w) A (Builtin.«zip.__next__» ⟨[.ref z],[]⟩) (λfin s'=>∃v,fin=.done (.ret v)/\Q v s') E s:=by
 show wpAny _ _ (field (.ref z) 2 >>= _) _ _ _;refine dr (A9 hz rfl (x:=.bool false) rfl ?_);show wpAny _ _ (field (.ref z) 3 >>= _) _ _ _;refine dr (A9 hz rfl (x:=.ref TI) rfl (dr (Co hI rfl ?_)));show wpAny _ _ (Bo (.ref z) >>= _) _ _ _;unfold Bo;refine dr (dr (A9 hz rfl (x:=.none) rfl (Af ?_)));simp only[if_true];refine dr (C9 (dr (A9 hz rfl (x:=.ref TO) rfl (dr (Cp hz (by simp) λha za ea=>?_)))))
 have za:IsZip ha z TI TO .ellipsis:=za;have ka:∀c o,c≠z->s.heap.get? c=some o->ha.get? c=some o:=λc o n e=>ea.extBut _ _ n e;have wW:∀{p q:Addr} {l:List Addr},p∈l->q ∉ l->p≠q:=λhp hq e=>hq (e▸hp);refine dr ?_;simp only[F6,Gv,Dv,DF];refine dr (dr (Et ?_));show wpAny _ _ (Bi (.ref i1) >>= _) _ _ _;refine dr (D1.item k1 _ _ _ l1 (D1.frame k1 _ _ s1 λc hc o e=>ka c o (wW hc D.c) e) λx hb tb px sb eb=>Af ?_);have kb:∀c o,c≠i1->ha.get? c=some o->hb.get? c=some o:=λc o n e=>eb.extBut _ _ n e;have ob:IsPair hb TO a b:=kb _ _ D.O1 (ka _ _ D.a.symm hO);refine dr (Co ob rfl (dr (EN ob λhc oc ec=>?_)));have oc:IsPair hc TO x b:=oc;have kc:∀c o,c≠TO->hb.get? c=some o->hc.get? c=some o:=λc o n e=>ec.extBut _ _ n e;refine dr (Gy (Af ?_));refine dr (dr (Et ?_));show wpAny _ _ (Bi (.ref i2) >>= _) _ _ _;refine dr (D2.item k2 _ _ _ l2 (D2.frame k2 _ _ s2 λc hc' o e=>kc c o (wW hc' D.d) (kb c o (wW hc' D.ig) (ka c o (wW hc' D.g) e))) λy hd td py sd ed=>Af ?_);have kd:∀c o,c≠i2->hc.get? c=some o->hd.get? c=some o:=λc o n e=>ed.extBut _ _ n e;have od:IsPair hd TO x b:=kd _ _ D.O2 oc;refine dr (Co od rfl (dr (EN od λhe oe ee=>?_)));have oe:IsPair he TO x y:=oe;have ke:∀c o,c≠TO->hd.get? c=some o->he.get? c=some o:=λc o n e=>ee.extBut _ _ n e;refine dr (Gy (Af (Af (dr (Co oe rfl (dr (wpAny_newTuple ?_)))))));have sz:he.objs.size=s.heap.objs.size:=by rw[ee.1,ed.1,ec.1,eb.1,ea.1]
 have ze:IsZip he z TI TO .ellipsis:=ke _ _ D.a (kd _ _ D.e (kc _ _ D.a (kb _ _ D.b za)));have up0:∀c o,c≠z->c≠TO->c≠i1->c≠i2->s.heap.get? c=some o->he.get? c=some o:=λc o n1 n2 n3 n4 e=>ke c o n2 (kd c o n4 (kc c o n2 (kb c o n3 (ka c o n1 e))));show wpAny _ _ (Ef (.ref z) (.ref he.objs.size) >>= _) _ _ _;unfold Ef;have zf:IsZip (he.push {cls:=.type "tuple",data:=.seq #[x,y]}) z TI TO .ellipsis:=zO _ ze;refine dr (dr (Cp zf (by simp) λhg zg eg=>?_))
 have zg:IsZip hg z TI TO (rawInt he.objs.size):=zg;refine Cp zg (by simp) λhh zh eh=>?_
 have zh:IsZip hh z TI TO (rawInt he.objs.size):=zh;have up:∀c o,c≠z->he.get? c=some o->hh.get? c=some o:=λc o n e=>eh.extBut _ _ n (eg.extBut _ _ n (zO _ e));have zlt:z<he.objs.size:=Aj ze;have th:IsPair hh he.objs.size x y:=eh.extBut _ _ (DE zlt) (eg.extBut _ _ (DE zlt) (As _ rfl));have s1h:S1 (k1+1) hh:=D1.frame _ _ _ sb λc hc' o e=>up c o (wW hc' D.c) (ke c o (wW hc' D.Of) (kd c o (wW hc' D.h) (kc c o (wW hc' D.Of) e)));have s2h:S2 (k2+1) hh:=D2.frame _ _ _ sd λc hc' o e=>up c o (wW hc' D.g) (ke c o (wW hc' D.d) e);rw[sz]at zh th;refine Af ⟨_,rfl,?_⟩;show Q (.ref he.objs.size) _;rw[sz];exact hQ x y hh _ px py zh (up _ _ D.f.symm (up0 _ _ D.f.symm D.IO D.I1 D.I2 hI)) (up _ _ D.a.symm oe) s1h s2h th λc o n1 n2 n3 n4 e=>up c o n1 (up0 c o n1 n2 n3 n4 e)
def Xa(D:Ap z TI TO i1 i2 fp1 fp2)(D1:Draws prog w A i1 fp1 n1 P1 S1)(D2:Draws prog w A i2 fp2 n2 P2 S2)
 (hz:IsZip s.heap z TI TO .none) (hI:IsPair s.heap TI (.ref i1) (.ref i2)) (hO:IsPair s.heap TO a b) (s1:S1 k1 s.heap) (s2:S2 n2 s.heap) (l1:k1<n1)
 (hE:∀h' tk e,(∀c o,c≠z->c≠TO->c≠i1->c≠i2->s.heap.get? c=some o->h'.get? c=some o)->(∃o,h'.get? e=some o/\o.cls=.type "StopIteration")->E (.ref e) {s with heap:=h',toks:=tk}):wpAny (model prog w) A (Builtin.«zip.__next__» ⟨[.ref z],[]⟩) Q E s:=by
 show wpAny _ _ (field (.ref z) 2 >>= _) _ _ _;refine dr (A9 hz rfl (x:=.bool false) rfl ?_);show wpAny _ _ (field (.ref z) 3 >>= _) _ _ _;refine dr (A9 hz rfl (x:=.ref TI) rfl (dr (Co hI rfl ?_)));show wpAny _ _ (Bo (.ref z) >>= _) _ _ _;unfold Bo;refine dr (dr (A9 hz rfl (x:=.none) rfl (Af ?_)));simp only[if_true];refine dr (C9 (dr (A9 hz rfl (x:=.ref TO) rfl (dr (Cp hz (by simp) λha za ea=>?_)))))
 have za:IsZip ha z TI TO .ellipsis:=za;have ka:∀c o,c≠z->s.heap.get? c=some o->ha.get? c=some o:=λc o n e=>ea.extBut _ _ n e;have wW:∀{p q:Addr} {l:List Addr},p∈l->q ∉ l->p≠q:=λhp hq e=>hq (e▸hp);refine dr ?_;simp only[F6,Gv,Dv,DF];refine dr (dr (Et ?_));show wpAny _ _ (Bi (.ref i1) >>= _) _ _ _;refine dr (D1.item k1 _ _ _ l1 (D1.frame k1 _ _ s1 λc hc o e=>ka c o (wW hc D.c) e) λx hb tb px sb eb=>Af ?_);have kb:∀c o,c≠i1->ha.get? c=some o->hb.get? c=some o:=λc o n e=>eb.extBut _ _ n e;have ob:IsPair hb TO a b:=kb _ _ D.O1 (ka _ _ D.a.symm hO);refine dr (Co ob rfl (dr (EN ob λhc oc ec=>?_)));have oc:IsPair hc TO x b:=oc;have kc:∀c o,c≠TO->hb.get? c=some o->hc.get? c=some o:=λc o n e=>ec.extBut _ _ n e;refine dr (Gy (Af ?_));refine dr (dr (Et ?_));show wpAny _ _ (Bi (.ref i2) >>= _) _ _ _;refine dr (D2.done _ _ _ (D2.frame n2 _ _ s2 λc hc' o e=>kc c o (wW hc' D.d) (kb c o (wW hc' D.ig) (ka c o (wW hc' D.g) e))) λhd e ed he=>?_);obtain⟨oe,h1,h2⟩:=he;have zd:IsZip hd z TI TO .ellipsis:=ed _ _ D.e (kc _ _ D.a (kb _ _ D.b za));have ez:e≠z:=λq=>by rw[q,zd]at h1;cases h1;simp at h2
 exact Cp zd (by simp) λhf _ ef=>hE hf _ e (λc o c1 c2 c3 c4 q=>ef.extBut _ _ c1 (ed _ _ c4 (kc _ _ c2 (kb _ _ c3 (ka _ _ c1 q))))) ⟨oe,ef.extBut _ _ ez h1,h2⟩
def Vs{a b:Value}{Q:Fin->Shared->Prop}(D:Ap z TI TO i1 i2 fp1 fp2)(D1:Draws prog w A i1 fp1 n1 P1 S1)
 (hz:IsZip s.heap z TI TO .none) (hI:IsPair s.heap TI (.ref i1) (.ref i2)) (hO:IsPair s.heap TO a b) (s1:S1 n1 s.heap)
 (hE:∀h' e,(∀c o,c≠z->c≠TO->c≠i1->c≠i2->s.heap.get? c=some o->h'.get? c=some o)->(∃o,h'.get? e=some o/\o.cls=.type "StopIteration")->E (.ref e) {s with heap:=h'}):wpAny (model prog w) A (Builtin.«zip.__next__» ⟨[.ref z],[]⟩) Q E s:=by
 show wpAny _ _ (field (.ref z) 2 >>= _) _ _ _;refine dr (A9 hz rfl (x:=.bool false) rfl ?_);show wpAny _ _ (field (.ref z) 3 >>= _) _ _ _;refine dr (A9 hz rfl (x:=.ref TI) rfl (dr (Co hI rfl ?_)));show wpAny _ _ (Bo (.ref z) >>= _) _ _ _;unfold Bo;refine dr (dr (A9 hz rfl (x:=.none) rfl (Af ?_)));simp only[if_true];refine dr (C9 (dr (A9 hz rfl (x:=.ref TO) rfl (dr (Cp hz (by simp) λha za ea=>?_)))))
 have za:IsZip ha z TI TO .ellipsis:=za;have ka:∀c o,c≠z->s.heap.get? c=some o->ha.get? c=some o:=λc o n e=>ea.extBut _ _ n e;refine dr ?_;simp only[F6,Gv,Dv,DF];refine dr (dr (Et ?_));show wpAny _ _ (Bi (.ref i1) >>= _) _ _ _;refine dr (D1.done _ _ _ (D1.frame n1 _ _ s1 λc hc o e=>ka c o (λq=>D.c (q▸hc)) e) λhb e eb he=>?_);obtain⟨oe,h1,h2⟩:=he;have zb:IsZip hb z TI TO .ellipsis:=eb _ _ D.b za;have ez:e≠z:=λq=>by rw[q,zb]at h1;cases h1;simp at h2
 exact Cp zb (by simp) λhc _ ec=>hE hc e (λc o c1 _ c3 _ q=>ec.extBut _ _ c1 (eb _ _ c3 (ka _ _ c1 q))) ⟨oe,ec.extBut _ _ ez h1,h2⟩
def next_item(D:Ap z TI TO i1 i2 fp1 fp2)(D1:Draws prog w A.in1 i1 fp1 n1 P1 S1)(D2:Draws prog w A.in1 i2 fp2 n2 P2 S2)
 (hz:IsZip s.heap z TI TO .none) (hI:IsPair s.heap TI (.ref i1) (.ref i2)) (hO:IsPair s.heap TO a b) (s1:S1 k1 s.heap) (s2:S2 k2 s.heap) (l1:k1<n1) (l2:k2<n2)
 (hQ:∀x y h' tk,P1 k1 x->P2 k2 y->IsZip h' z TI TO (rawInt s.heap.objs.size)->IsPair h' TI (.ref i1) (.ref i2)->IsPair h' TO x y->S1 (k1+1) h'->S2 (k2+1) h'->IsPair h' s.heap.objs.size x y->(∀c o,c≠z->c≠TO->c≠i1->c≠i2->s.heap.get? c=some o->h'.get? c=some o) ->
  Q (some (.ref s.heap.objs.size)) {s with heap:=h',toks:=tk}):wpAny (model prog w) A (pyNext (.ref z)) Q E s:=by
 have hT:s.TypeIs (.ref z) "zip":=⟨_,hz,rfl⟩;unfold pyNext;exact dr (GQ (BC (name:=Dl "__next__") hT Dw (B3 Dw hT F7
  (Xb D D1 D2 hz hI hO s1 s2 l1 l2 λx y h' tk q1 q2 q3 q4 q5 q6 q7 q8 q9=>Af (hQ x y h' tk q1 q2 q3 q4 q5 q6 q7 q8 q9)) (FI _))))
def next_end{a b:Value}{Q:Option Value->Shared->Prop}(D:Ap z TI TO i1 i2 fp1 fp2)(D1:Draws prog w A.in1 i1 fp1 n1 P1 S1)
 (hz:IsZip s.heap z TI TO .none) (hI:IsPair s.heap TI (.ref i1) (.ref i2)) (hO:IsPair s.heap TO a b) (s1:S1 n1 s.heap)
 (hQ:∀h',(∀c o,c≠z->c≠TO->c≠i1->c≠i2->s.heap.get? c=some o->h'.get? c=some o)->Q none {s with heap:=h'}):wpAny (model prog w) A (pyNext (.ref z)) Q E s:=by
 have hT:s.TypeIs (.ref z) "zip":=⟨_,hz,rfl⟩;unfold pyNext;refine dr (GQ (BC (name:=Dl "__next__") hT Dw (B3 Dw hT F7
  (Vs D D1 hz hI hO s1 λh' e hk he=>?_) (FI _))))
 obtain⟨o,ho,hc⟩:=he;exact dr (wpAny_isInstance (T:="StopIteration") (b:=true) ⟨o,ho,hc⟩ isSubtype_stop (Af (hQ _ hk)))
def cG(D:Ap z TI TO i1 i2 fp1 fp2)(D1:Draws prog w A.in1 i1 fp1 n1 P1 S1)(D2:Draws prog w A.in1 i2 fp2 n2 P2 S2)
 (hz:IsZip s.heap z TI TO .none) (hI:IsPair s.heap TI (.ref i1) (.ref i2)) (hO:IsPair s.heap TO a b) (s1:S1 k1 s.heap) (s2:S2 n2 s.heap) (l1:k1<n1)
 (hQ:∀h' tk,(∀c o,c≠z->c≠TO->c≠i1->c≠i2->s.heap.get? c=some o->h'.get? c=some o)->Q none {s with heap:=h',toks:=tk}):wpAny (model prog w) A (pyNext (.ref z)) Q E s:=by
 have hT:s.TypeIs (.ref z) "zip":=⟨_,hz,rfl⟩;unfold pyNext;refine dr (GQ (BC (name:=Dl "__next__") hT Dw (B3 Dw hT F7
  (Xa D D1 D2 hz hI hO s1 s2 l1 λh' tk e hk he=>?_) (FI _))))
 obtain⟨o,ho,hc⟩:=he;exact dr (wpAny_isInstance (T:="StopIteration") (b:=true) ⟨o,ho,hc⟩ isSubtype_stop (Af (hQ _ _ hk)))
end
noncomputable abbrev zT1(h:Heap)(a:Addr):Heap:=h.push {cls:=.type "tuple_iterator",data:=.fields #[.ref a,.int 0 0]}
abbrev zT2(h:Heap)(a b:Addr):Heap:=zT1 (zT1 h a) b
abbrev zT3(h:Heap)(a b:Addr):Heap:=(zT2 h a b).push {cls:=.type "tuple",data:=.seq #[.ref h.objs.size,.ref (zT1 h a).objs.size]}
abbrev zT4(h:Heap)(a b:Addr):Heap:=(zT3 h a b).push {cls:=.type "tuple",data:=.seq #[.none,.none]}
abbrev zT5(h:Heap)(a b:Addr):Heap:=(zT4 h a b).push {cls:=.type "zip",data:=.fields #[.none,.bool false,.bool false,.ref (zT2 h a b).objs.size,.ref (zT3 h a b).objs.size]}
def ij a b xs ys:Meets (Builtin.«zip.__new__» ⟨[.type "zip",.ref a,.ref b],[]⟩) (λ_ R s=>s.heap.IsTuple a xs/\s.heap.IsTuple b ys/\R (.ok (.ret (.ref (zT4 s.heap a b).objs.size))) {s with heap:=zT5 s.heap a b}):=
 .of_wp λprog w A R s h=>by
  obtain⟨hp,g,d,tk,os⟩:=s;obtain⟨ha,hb,h⟩:=h;have hsub:=sub_zip;have hA:Heap.IsTuple (Shared.heap ⟨hp,g,d,tk,os⟩) a xs:=ha;have hB:Heap.IsTuple (Shared.heap ⟨zT1 hp a,g,d,tk,os⟩) b ys:=let ⟨o,e,r⟩:=hb;⟨o,zO _ e,r⟩
  wp_walk using B1 hA,B1 hB
  exact⟨_,rfl,h⟩
section
variable {prog:Program}{w:World}{A:Around}{E:Value->Shared->Prop}{s:Shared}
def dO(ha:s.heap.IsTuple a xs)(hb:s.heap.IsTuple b ys)
 (h:∀h',IsZip h' (s.heap.objs.size+4) (s.heap.objs.size+2) (s.heap.objs.size+3) .none->IsPair h' (s.heap.objs.size+2) (.ref s.heap.objs.size) (.ref (s.heap.objs.size+1))->IsPair h' (s.heap.objs.size+3) .none .none->h'.IsTupleIter s.heap.objs.size a 0->h'.IsTupleIter (s.heap.objs.size+1) b 0 ->
  (∀c o,s.heap.get? c=some o->h'.get? c=some o)->Q (.ref (s.heap.objs.size+4)) {s with heap:=h'}):wpAny (model prog w) A (call (.type "zip") [.ref a,.ref b]) Q E s:=by
 refine callType_new F.called_zip (by decide) (F.typeCall_zip_2 _ _) (F.newCall_zip_2 _ _) (λobj=>F.args_object_init_3 obj _ _) F.entry_zip_new (ij a b xs ys) ⟨ha,hb,?_⟩
 have z1:(zT1 s.heap a).objs.size=s.heap.objs.size+1:=Be ..;have z2:(zT2 s.heap a b).objs.size=s.heap.objs.size+2:=by rw[Be,z1]
 have z3:(zT3 s.heap a b).objs.size=s.heap.objs.size+3:=by rw[Be,z2]
 have z4:(zT4 s.heap a b).objs.size=s.heap.objs.size+4:=by rw[Be,z3]
 have p:∀{h:Heap} {o:Obj} {c:Addr} {u:Obj},h.get? c=some u->(h.push o).get? c=some u:=λe=>zO _ e;have g5:(zT5 s.heap a b).get? (zT4 s.heap a b).objs.size=some _:=As _ rfl;have g4:(zT5 s.heap a b).get? (zT3 s.heap a b).objs.size=some _:=p (As _ rfl);have g3:(zT5 s.heap a b).get? (zT2 s.heap a b).objs.size=some _:=p (p (As _ rfl));have g2:(zT5 s.heap a b).get? (zT1 s.heap a).objs.size=some _:=p (p (p (As _ rfl)));have g1:(zT5 s.heap a b).get? s.heap.objs.size=some _:=p (p (p (p (As _ rfl))));show _/\_;rw[z2,z3,z4]at g5;rw[z1,z2]at g3;rw[z3]at g4;rw[z1]at g2;rw[z4];exact⟨⟨_,g5,rfl⟩,h _ g5 g3 g4 ⟨_,g1,rfl,rfl⟩ ⟨_,g2,rfl,rfl⟩ λc o e=>p (p (p (p (p e))))⟩
end
end L2
end
section
namespace L2
open PySem PySem.Calls PyProof PyProof.Rows
noncomputable def Itz(K:Ay)(a b:Addr):It:=
 ⟨λi H=>∃xs x ys y,SqT K H a xs/\xs[i]?=some x/\SqT K H b ys/\ys[i]?=some y,λi H v H'=>∃t x y,H t=none/\v=.c t/\(∀xs,SqT K H a xs->xs[i]?=some x)/\(∀ys,SqT K H b ys->ys[i]?=some y)/\H'=upd H t (.c [x,y]),λi H=>(∃xs,SqT K H a xs/\xs.length=i)\/∃xs x ys,SqT K H a xs/\xs[i]?=some x/\SqT K H b ys/\ys.length=i⟩
def Inv.Vo{ch:List Addr}(I:Inv X pins σ H s)(fc:∀b∈ch,uG X pins H b)
 (k:∀b o,b ∉ ch->s.heap.get? b=some o->h'.get? b=some o) (hT:s.heap.objs.size<=T) (hz:ys.length<=Ar) (r:Vals ys its) (ho:h'.get? T=some {cls:=.type "tuple",data:=.seq its.toArray n}) :
 Inv X pins σ (upd H T (.c ys)) {s with heap:=h',toks:=t'}:=by
 have hn:H T=none:=I.j.fresh hT;have neT:∀b u,H b=some u->b≠T:=λb u q z=>by rw[z,hn]at q;cases q
 have nec:∀b u,H b=some u->b ∉ ch:=λb u q z=>by rw[(fc b z).1]at q;cases q
 have neoT:∀b o,s.heap.get? b=some o->b≠T:=λb o q z=>absurd (AI (Aj q) hT) (by rw[z];exact Bp _)
 refine I.step (g':=s.gens) (d':=s.drawn) (ch:=ch) (λb hb=>?_) (λb o _ _ hc q _=>k b o hc q) (λb o _ _ hc q _=>⟨o.slots,k b o hc q⟩)
  (λb o _ q m=>by rw[zY (neoT b o q)];exact m) (λb o hc q=>⟨o,k b o hc q⟩) (λb xs q=>by rw[zY (neT b _ q)];exact q) (λb o u q=>by rw[zY (neT b _ q)];exact q)
  (λb ps q=>⟨#[],by rw[zY (neT b _ q),q];simp⟩) (λm hm=>?_) (λb u q=>?_) I.C
 . obtain⟨e0,e1,e2,e3,e4,e5⟩:=fc b hb
   exact⟨e3,e1,e4,e5⟩
 . obtain⟨o,es,ep,ho,r⟩:=hm
   exact⟨o,es,ep,k _ o (λz=>(fc _ z).2.1 rfl) ho,r⟩
 . by_cases hb:b=T
   . subst hb
     rw[zt]at q;cases q;exact⟨hz,its,r,_,ho,rfl,n,rfl,rfl⟩
   . rw[zY hb]at q
     refine(I.j b u q).lh (λc v hc w=>k c v ?_ w) (λc hc=>by rw[zY (neT c _ hc)];exact hc) λc xs hc=>by rw[zY (neT c _ hc)];exact hc
     rcases hc with z|z
     . rw[z];exact nec b u q
     . exact nec c _ z
def Inv.eW{ch:List Addr}(I:Inv X pins σ H s)(fc:∀b∈ch,uG X pins H b)
 (k:∀b o,b ∉ ch->s.heap.get? b=some o->h'.get? b=some o):Inv X pins σ H {s with heap:=h',toks:=t'}:=by
 have nec:∀b u,H b=some u->b ∉ ch:=λb u q z=>by rw[(fc b z).1]at q;cases q
 refine I.step (g':=s.gens) (d':=s.drawn) (ch:=ch) (λb hb=>?_) (λb o _ _ hc q _=>k b o hc q) (λb o _ _ hc q _=>⟨o.slots,k b o hc q⟩)
  (λb o _ q m=>m) (λb o hc q=>⟨o,k b o hc q⟩) (λb xs q=>q) (λb o u q=>q)
  (λb ps q=>⟨#[],by rw[q];simp⟩) (λm hm=>?_) (λb u q=>?_) I.C
 . obtain⟨e0,e1,e2,e3,e4,e5⟩:=fc b hb
   exact⟨e3,e1,e4,e5⟩
 . obtain⟨o,es,ep,ho,r⟩:=hm
   exact⟨o,es,ep,k _ o (λz=>(fc _ z).2.1 rfl) ho,r⟩
 . refine(I.j b u q).lh (λc v hc w=>k c v ?_ w) (λc hc=>hc) λc xs hc=>hc
   rcases hc with z|z
   . rw[z];exact nec b u q
   . exact nec c _ z
def XJ{K}{a b z TI TO i1 i2}(D:Ap z TI TO i1 i2 [i1,a] [i2,b])(hai:a≠i1)(hbi:b≠i2) :
 Turn P w K (.Tuple elts x1 pos) (Itz K a b) [z,TI,TO,i1,i2] z (λi h=>IsZip h z TI TO .none/\IsPair h TI (.ref i1) (.ref i2)/\(∃u v,IsPair h TO u v)/\h.IsTupleIter i1 a i/\h.IsTupleIter i2 b i) where
 g:=.head _
 e:=λi h st c hc=>by
  obtain⟨s1,s2,⟨u,v,s3⟩,⟨o4,q4,c4,d4⟩,⟨o5,q5,c5,d5⟩⟩:=st;simp only[Ah,Bk,or_false]at hc;rcases hc with rfl|rfl|rfl|rfl|rfl
  . exact⟨_,s1,λv z=>by cases (show E4 _=E6 v from z)⟩
  . exact⟨_,s2,λv z=>by cases (show GK _ _=E6 v from z)⟩
  . exact⟨_,s3,λv z=>by cases (show GK _ _=E6 v from z)⟩
  . exact⟨_,q4,λv z=>by rw[d4]at z;cases z⟩
  . exact⟨_,q5,λv z=>by rw[d5]at z;cases z⟩
 a:=λi h h' ⟨s1,s2,⟨u,v,s3⟩,s4,s5⟩ k=>⟨k z (by simp) _ s1,k TI (by simp) _ s2,⟨u,v,k TO (by simp) _ s3⟩,s4.at λo q=>k i1 (by simp) o q,s5.at λo q=>k i2 (by simp) o q⟩
 d:=by
  intro X hP hw hK hc i pins s σ H E I hf st hg;subst hP hw hK;obtain⟨xs,x,ys,y,hq,hx,hq2,hy⟩:=hg;obtain⟨s1,s2,⟨u0,v0,s3⟩,s4,s5⟩:=st;obtain⟨its,rv,p,hz⟩:=I.tuple hq;obtain⟨its2,rv2,p2,hz2⟩:=I.tuple hq2;obtain⟨u,hu,ru⟩:=rv.get hx;obtain⟨u2,hu2,ru2⟩:=rv2.get hy;have hi:i<its.length:=(Ad.mp hu).1;have hi2:i<its2.length:=(Ad.mp hu2).1;have D1:=wk (prog:=X.f) (w:=X.w) (A:=X.A.in1) (I.y.a hc) i1 a hai its.toArray;have D2:=wk (prog:=X.f) (w:=X.w) (A:=X.A.in1) (I.y.a hc) i2 b hbi its2.toArray;refine next_item D D1 D2 s1 s2 s3 ⟨s4,p⟩ ⟨s5,p2⟩ (by rw[Ae];exact hi) (by rw[Ae];exact hi2) λv v2 h1 tk hP hP2 z1 z2 z3 t1 t2 zT hk=>?_
  have ev:v=u:=by have hP:its.toArray[i]?=some v:=hP;rw[CT,hu]at hP;exact(Am hP).symm
  have ev2:v2=u2:=by have hP:its2.toArray[i]?=some v2:=hP2;rw[CT,hu2]at hP;exact(Am hP).symm
  subst ev ev2;refine⟨_,rfl,wpAny_letOwnedTupleGo_zip (s:={s with heap:=h1,toks:=tk}) z1 λh2 zz sb=>?_⟩
  have sz:s.heap.objs.size≠z:=DE (Aj s1);have up:∀c o,c≠z->h1.get? c=some o->h2.get? c=some o:=λc o n e=>(sb.2 c n).trans e;refine⟨.c s.heap.objs.size,_,Inv.Vo (s:=s) (h':=h2) (t':=tk) (ch:=[z,TI,TO,i1,i2]) (T:=s.heap.objs.size) (ys:=[x,y]) (its:=[v,v2]) (n:=0) I hf (λc o hc q=>?_) (Ac _) (by rw[BR];show 2<=_;omega) (.cons ru (.cons ru2 .nil)) (up _ _ sz zT),rfl,
   ⟨s.heap.objs.size,x,y,I.j.fresh (Ac _),rfl,λys' hy'=>by rw[I.t8 hy' hq];exact hx,λys' hy'=>by rw[I.t8 hy' hq2];exact hy,rfl⟩,
   ⟨zz,up _ _ D.f.symm z2,⟨_,_,up _ _ D.a.symm z3⟩,t1.1.at λo q=>up _ _ D.b.symm q,t2.1.at λo q=>up _ _ D.e.symm q⟩,λc hc=>?_⟩
  . simp only[Ah,Bk,or_false,not_or]at hc
    exact up c o hc.1 (hk c o hc.1 hc.2.2.1 hc.2.2.2.1 hc.2.2.2.2 q)
  . have lt:c<s.heap.objs.size:=by
     simp only[Ah,Bk,or_false]at hc;rcases hc with rfl|rfl|rfl|rfl|rfl
     . exact Aj s1
     . exact Aj s2
     . exact Aj s3
     . obtain⟨o,q,_⟩:=s4;exact Aj q
     . obtain⟨o,q,_⟩:=s5;exact Aj q
    rw[zY (Ax lt)];exact(hf c hc).1
 c:=by
  intro X hP hw hK hc i pins s σ H E I hf st hg;subst hP hw hK;obtain⟨s1,s2,⟨u0,v0,s3⟩,s4,s5⟩:=st;rcases hg with⟨xs,hq,hx⟩|⟨xs,x,ys,hq,hx,hq2,hy⟩
  case inr=>
   obtain⟨its,rv,p,hz⟩:=I.tuple hq;obtain⟨its2,rv2,p2,hz2⟩:=I.tuple hq2;obtain⟨u,hu,ru⟩:=rv.get hx;have hi:i<its.length:=(Ad.mp hu).1;have hlen2:=rv2.length;have D1:=wk (prog:=X.f) (w:=X.w) (A:=X.A.in1) (I.y.a hc) i1 a hai its.toArray;have D2:=wk (prog:=X.f) (w:=X.w) (A:=X.A.in1) (I.y.a hc) i2 b hbi its2.toArray;have en:its2.toArray.size=i:=by rw[Ae];omega
   refine cG D D1 D2 s1 s2 s3 ⟨s4,p⟩ ⟨by rw[en];exact s5,p2⟩ (by rw[Ae];exact hi) λh' tk hk=>⟨rfl,I.eW (t':=tk) (ch:=[z,TI,TO,i1,i2]) hf λc o hc q=>?_⟩
   simp only[Ah,Bk,or_false,not_or]at hc;exact hk c o hc.1 hc.2.2.1 hc.2.2.2.1 hc.2.2.2.2 q
  obtain⟨its,rv,p,hz⟩:=I.tuple hq;have hlen:=rv.length;have D1:=wk (prog:=X.f) (w:=X.w) (A:=X.A.in1) (I.y.a hc) i1 a hai its.toArray;have en:its.toArray.size=i:=by rw[Ae];omega
  refine next_end D D1 s1 s2 s3 ⟨by rw[en];exact s4,p⟩ λh' hk=>⟨rfl,I.eW (t':=s.toks) (ch:=[z,TI,TO,i1,i2]) hf λc o hc q=>?_⟩
  simp only[Ah,Bk,or_false,not_or]at hc;exact hk c o hc.1 hc.2.2.1 hc.2.2.2.1 hc.2.2.2.2 q
 f:=λ_ _ _ _ _ st h=>wpAny_pyIter_zip st.1 h
def Oh(K:Ay)(ta:TA):TI:=λσ H R=>ta σ H λvs H1=>∃a b,vs=[.c a,.c b]/\(∃xs,SqT K H1 a xs)/\(∃ys,SqT K H1 b ys)/\R (Itz K a b) H1
def R5(ha:a<n)(hb:b<n):Ap (n+4) (n+2) (n+3) n (n+1) [n,a] [n+1,b]:=by
 have f:∀{c x y:Nat},c≠x->c≠y->¬(c∈([x,y]:List Nat)):=λh k m=>by
  rcases Ah.mp m with e|m
  . exact h e
  . exact k (Ao.mp m)
 exact⟨show n+4≠n+2 by omega,show n+4≠n+3 by omega,show n+4≠n by omega,show n+4≠n+1 by omega,show n+2≠n+3 by omega,show n+2≠n by omega,show n+2≠n+1 by omega,show n+3≠n by omega,show n+3≠n+1 by omega,show n≠n+1 by omega,
  f ⋯ ⋯,f ⋯ ⋯,f ⋯ ⋯,f ⋯ ⋯,f ⋯ ⋯,f ⋯ ⋯⟩
def RH(hg:Gl X "zip")(hm:X.d "zip"=none)(ha:PA X [a,b] ta)(hs:AQ [a,b] X.a=[(false,eval a X.a),(false,eval b X.a)])(hs2:AQ [b] X.a=[(false,eval b X.a)]):PI X (.Tuple elts x1 tpos) (.Call (.Name "zip" p) [a,b] [] pos) (Oh X.K ta):=by
 intro pins s σ H R I h;refine Call_ (sS I hg hm boot_zip (Cc (thn (ha pos pins s σ H _ I h) λus s1 ⟨vs,H1,I1,r1,q1⟩=>?_) (by rw[hs,hs2]) (by rw[hs2];rfl)))
 obtain⟨c,d,e,⟨xs,hq⟩,⟨ys,hq2⟩,q⟩:=q1;subst e;obtain⟨u1,u2,rfl,r,r2⟩:=vals2 r1;cases r;cases r2;obtain⟨its,rv,pt,hz⟩:=I1.tuple hq;obtain⟨its2,rv2,pt2,hz2⟩:=I1.tuple hq2;have lc:c<s1.heap.objs.size:=by obtain⟨o,q,_⟩:=id pt;exact Aj q
 have ld:d<s1.heap.objs.size:=by obtain⟨o,q,_⟩:=id pt2;exact Aj q
 have fp:∀b∈[s1.heap.objs.size+4,s1.heap.objs.size+2,s1.heap.objs.size+3,s1.heap.objs.size,s1.heap.objs.size+1],uG X pins H1 b:=λb hb=>by
  have hb':s1.heap.objs.size<=b:=by
   simp only[Ah,Bk,or_false]at hb;rcases hb with rfl|rfl|rfl|rfl|rfl
   . exact DQ _ _
   . exact DQ _ _
   . exact DQ _ _
   . exact Ac _
   . exact DQ _ _
  exact I1.ZE hb' (I1.j.fresh hb')
 refine dO (show s1.heap.IsTuple c its.toArray from pt) (show s1.heap.IsTuple d its2.toArray from pt2) λh' z1 z2 z3 z4 z5 hk=>wpAny_pyIter_zip z1 ?_;exact⟨s1.heap.objs.size+4,_,_,_,H1,rfl,I1.kept (t':=s1.toks) hk,XJ (R5 lc ld) (Ax lc) (Ax (BY ld)),⟨z1,z2,⟨_,_,z3⟩,z4,z5⟩,fp,q⟩
end L2
end
section
namespace L2
open PySem PyProof.Rows
noncomputable def intsOf:List Expr->Option (List Int)
 |[]=>some []
 |.Constant (.int i) _ _::es=>(intsOf es).map λr=>i::r
 |.UnaryOp .USub (.Constant (.int i) _ _) _::es=>(intsOf es).map λr=>-i::r
 |_=>none
end L2
end
section
namespace L2
open PySem PyProof.Rows
section
variable {X:Cx}{a b:Expr}{rest:List Expr}{ta tb:TE}{pos:Pos}
def NC(K:Ay)(ta tb:TE):TE:=λσ H Q=>ta σ H λx H1=>∃c,Xf K x H1 c/\if c=true then Q x H1 else tb σ H1 Q
def RB(ha:PE X a ta)(hb:PE X (.BoolOp .Or (b::rest) pos) tb):PE X (.BoolOp .Or (a::b::rest) pos) (NC X.K ta tb):=by
 intro pins s σ H Q I h;refine BoolOp_or (thn (ha pins s σ H _ I h) λv s1 ⟨x,H1,I1,r1,c,ht,q1⟩=>?_);refine thn (XG pins s1 σ H1 x v (λk H2=>if k=true then Q x H2 else tb σ H2 Q) I1 r1 ⟨c,ht,q1⟩) λk s2 ⟨H2,I2,q2⟩=>?_
 cases k with
 |false=>exact hb pins s2 σ H2 Q I2 q2
 |true=>exact⟨x,H2,I2,r1,q2⟩
end
noncomputable def ug(n:Nat)(lo hi:Option Int)(c:Int):Int × Nat:=((BA lo hi (some c) n).1,(if c > 0 then (if (BA lo hi (some c) n).1<(BA lo hi (some c) n).2.1 then ((BA lo hi (some c) n).2.1-(BA lo hi (some c) n).1+c-1)/c else 0) else (if (BA lo hi (some c) n).1 > (BA lo hi (some c) n).2.1 then ((BA lo hi (some c) n).1-(BA lo hi (some c) n).2.1-c-1)/(-c) else 0):Int).toNat)
def tG its lo hi c:GV its.toArray lo hi (some c)=(yA its (ug its.length lo hi c).1 c (ug its.length lo hi c).2).toArray:=by unfold GV sliceRange yA ug;rw[Cm];refine congrArg List.toArray ?_;have e:(BA lo hi (some c) its.toArray.size).2.2=c:=rfl;rw[e];simp only[Ae];refine congrArg (λf=>List.filterMap f _) ?_;funext k;show its.toArray[_]?=_;rw[CT,Int.mul_comm]
def Pw(K:Ay):V->Option Int->Option Int->Option Int->Hp->VK->Prop:=λx lo hi st H Q=>∃a xs c,x=.c a/\SqL K H a xs/\st=some c/\c≠0/\∀p,H p=none->Q (.c p) (upd H p (.b (yA xs (ug xs.length lo hi c).1 c (ug xs.length lo hi c).2)))
def i9{lo hi}{st}(he:PE X e te)(hl:PO X lo tl)(hu:PO X hi th)(hc:PO X (some st) tc):PE X (.Subscript e (.Slice lo hi (some st) p2) pos) (OL (Pw X.K) te tl th tc):=by
 intro pins s σ H Q I h;refine FO (thn (he pins s σ H _ I h) λv s1 ⟨x,H1,I1,r1,q1⟩=>?_);refine wpAny_Slice (thn (hl pins s1 σ H1 _ I1 q1) λvl s2 ⟨l,H2,I2,pl,q2⟩=>thn (hu pins s2 σ H2 _ I2 q2) λvu s3 ⟨u,H3,I3,pu,q3⟩=>thn (hc pins s3 σ H3 _ I3 q3) λvc s4 ⟨c,H4,I4,pc,q4⟩=>?_);obtain⟨a,xs,cc,rfl,hx,ec,h0,g⟩:=q4;subst ec;cases r1;have I5:Inv X pins σ H4 {s4 with heap:=s4.heap.push {cls:=.type "slice",data:=.fields #[vl,vu,vc]}}:=I4.kept (t':=s4.toks) λb ob q=>zO _ q
 obtain⟨its,r,ht,hz⟩:=I5.list hx;have hlen:=r.length;show wpAny (model X.f X.w) X.A (Es e (.Slice lo hi (some st) p2) (.ref a) (.ref s4.heap.objs.size)) (EP X pins σ Q) X.h {s4 with heap:=s4.heap.push {cls:=.type "slice",data:=.fields #[vl,vu,vc]}}
 refine tail_any (ops:=[.ref a,.ref s4.heap.objs.size]) ht.isList.typeIs FE.lookup (FX ht.isList (E8 ..) pl pu pc (λz=>h0 (Am z)) ?_ (by rw[Ae]<;>omega)) (by with_unfolding_all rfl)
 rw[tG,<-hlen];refine⟨.c _,_,I5.laid (t':=s4.toks) (o:=.b (yA xs (ug xs.length l u cc).1 cc (ug xs.length l u cc).2)) (λb ob q=>zO _ q) (Ac _) ?_,rfl,g _ (I5.j.fresh (Ac _))⟩;have rp:=r.yA (ug xs.length l u cc).1 cc (ug xs.length l u cc).2;have bound:(yA xs (ug xs.length l u cc).1 cc (ug xs.length l u cc).2).length<=xs.length:=by have:=slicePick_size_le its.toArray l u (some cc);rw[tG,Ae,Ae,<-hlen,<-rp.length]at this;exact this
 exact⟨AB bound hz,_,0,rp,As _ rfl⟩
end L2
end
section
namespace L2
open PySem PyProof PyProof.Rows
section
variable {X:Cx}
noncomputable def Qn(z:Str)(ys:List Str):Str:=Txt.join z ys
end
end L2
end
section
namespace L2
open PySem PySem.Spec PyProof PyProof.Rows
def kr:typeLookup (.type "tuple") (dunderI "add")=(pure none:Sem (Option Value)):=rfl
section
variable {X:Cx}
def di:OpR X (Eb .Add) UD:=by
 intro pins s σ H x y v u Q I rx ry h;obtain⟨a,b,xs,ys,rfl,rfl,ha,hb,hz,g⟩:=h;cases rx;cases ry;obtain⟨its,r1,p1,_⟩:=I.tuple (.inl (.inl ha));obtain⟨its2,r2,p2,_⟩:=I.tuple (.inl (.inl hb));obtain⟨⟨cls,dd,data,sl⟩,ho,hc,n,hd⟩:=id p1;obtain⟨⟨cls2,dd2,data2,sl2⟩,ho2,hc2,n2,hd2⟩:=id p2;simp only at hc hd hc2 hd2;subst hc hd hc2 hd2;have e:its.toArray++its2.toArray=(its++its2).toArray:=by simp
 have tA:s.TypeIs (.ref a) "tuple":=⟨_,ho,rfl⟩;have tB:s.TypeIs (.ref b) "tuple":=⟨_,ho2,rfl⟩;refine inplaceOp_concat tA tB kr Ew Fp ?_;by_cases hx:xs=[]
 . subst hx
   cases r1;exact B8 Cj tA Ca (B2 _ _) (tuple_addW0 a b #[] its2.toArray n n2 dd dd2 sl sl2 rfl) ⟨ho,ho2,⟨.c b,H,I,rfl,g b H (rn.refl H) hb⟩⟩
 . have hv:its≠[]:=λz=>hx (r1.vh.mp z)
   by_cases hy:ys=[]
   . have hw:its2=[]:=r2.vh.mpr hy
     subst hy;rw[Ba]at g;exact B8 Cj tA Ca (B2 _ _) (tuple_addW1 a b its.toArray its2.toArray n n2 dd dd2 sl sl2 (by simpa using hv) (by simp[hw])) ⟨ho,ho2,⟨.c a,H,I,rfl,g a H (rn.refl H) ha⟩⟩
   . have hw:its2≠[]:=λz=>hy (r2.vh.mp z)
     refine B8 Cj tA Ca (B2 _ _) (tuple_addW2 a b its.toArray its2.toArray n n2 dd dd2 sl sl2 (by simpa using hv) (by simpa using hw) (by rw[Ae,Ae,<-r1.length,<-r2.length];exact hz)) ⟨ho,ho2,?_⟩
     rw[e];refine⟨.c s.heap.objs.size,_,I.laid (t':=s.toks) (o:=.c (xs++ys)) (λb ob q=>zO _ q) (Ac _) ?_,rfl,g.new _ (I.j.fresh (Ac _))⟩;exact⟨by rw[Ak];exact hz,_,r1.append r2,sj.new _ _⟩
noncomputable def vY(ns:List Int):Bool:=decide (ns.length<=1000)&&ns.all λn=>decide (-1000000<=n)&&decide (n<=1000000)
theorem pre_take(ns:List Int):∀n,preSum (λi=>ns.getD i 0) n=(ns.take n).sum
 |0=>by rw[List.take_zero];rfl
 |n+1=>by
  have e:preSum (λi=>ns.getD i 0) (n+1)=preSum (λi=>ns.getD i 0) n+ns.getD n 0:=rfl;rw[e,pre_take ns n,List.take_add_one,List.sum_append,Ab];cases ns[n]? with
  |none=>rfl
  |some x=>show _+x=_+(x+0);rw[Int.add_zero]
theorem mK{val:Nat->Int}(h:∀i,-1000000<=val i/\val i<=1000000):∀n:Nat,-(1000000*(n:Int))<=preSum val n/\preSum val n<=1000000*(n:Int)
 |0=>by have e:preSum val 0=0:=rfl
        rw[e];omega
 |n+1=>by have e:preSum val (n+1)=preSum val n+val n:=rfl;have:=mK h n;have:=h n;rw[e];omega
def dM(hc:X.g=true):yw X (.builtin "sum") (λxs H Q=>∃a ns,xs=[.c a]/\SqL X.K H a (ns.map V.d)/\vY ns=true/\Q (.d ns.sum) H):=by
 intro pins s σ H xs us Q I r h;obtain⟨a,ns,rfl,ha,hok,q⟩:=h;obtain⟨u,rfl,ru⟩:=vals1 r;cases ru;obtain⟨its,rv,pl,hz⟩:=I.list ha;have hlen:=rv.length;have alt:a<s.heap.objs.size:=by obtain⟨o,ho,_⟩:=pl.isList;exact Aj ho
 have hl:its.toArray.size=ns.length:=by rw[Ae,<-hlen,zI]
 have hat:∀(i:Nat) (v:Value),its.toArray[i]?=some v->∃t,v=.int (ns.getD i 0) t:=λi v hv=>rv.ints (by simpa using hv)
 unfold vY at hok;rw[nx]at hok;have h1:=of_decide_eq_true hok.1;have hv:∀i,-1000000<=ns.getD i 0/\ns.getD i 0<=1000000:=λi=>by
  rw[Ab];cases hi:ns[i]? with
  |none=>exact⟨by decide,by decide⟩
  |some x=>
   have:=AH.mp hok.2 x (AF hi);rw[nx]at this;exact⟨of_decide_eq_true this.1,of_decide_eq_true this.2⟩
 refine call_sum_walk (DC pl.isList ?_);refine⟨s.heap.objs.size,_,_,_,_,_,λi=>ns.getD i 0,rfl,GJ (A:=X.A.in1) (I.y.a hc) s.heap.objs.size a (Ax alt) its.toArray,⟨⟨_,As _ rfl,rfl,rfl⟩,?_⟩,λb hb=>?_,hat,λj hj=>?_,λh' tk t' hk=>?_⟩
 . obtain⟨o,ho,hc',n,hd⟩:=pl.isList
   exact⟨o,zO _ ho,hc',n,hd⟩
 . rw[Be]
   simp only[Ah,Bk,or_false]at hb;rcases hb with e|e
   . rw[e];exact CI _
   . rw[e];exact BY alt
 . have b1:=mK hv (j+1)
   have b2:-1000000<=(λi=>ns.getD i 0) j/\(λi=>ns.getD i 0) j<=1000000:=hv j;have:j+1<=1000:=by omega
   exact⟨⟨⋯,⋯⟩,⟨⋯,⋯⟩⟩
 . have e:preSum (λi=>ns.getD i 0) its.toArray.size=ns.sum:=by rw[hl,pre_take,List.take_length]
   rw[e];refine⟨.d ns.sum,H,I.kept λb o ho=>hk b o ?_ (zO _ ho),⟨t',rfl⟩,q⟩;simpa using Ax (Aj ho)
end
end L2
end
section
namespace L2
open PySem PySem.W PySem.Calls PyProof PyProof.Rows
open AutoSeq1 (wpAny_loadPart')
open SeqAt
section
variable {X:Cx}
def YZ(K:Ay)(g:List Int->Int):List V->Hp->VK->Prop:=λxs H Q=>∃(a:Addr) (ns:List Int),xs=[.c a]/\SqT K H a (ns.map V.d)/\ns≠[]/\Q (.d (g ns)) H
def dH(hc:X.g=true):yw X (.builtin "max") (YZ X.K (yc 0)):=by
 intro pins s σ H xs us Q I r h;obtain⟨a,ns,rfl,ha,hne,q⟩:=h;obtain⟨u,rfl,ru⟩:=vals1 r;cases ru;obtain⟨its,rv,pl,hz⟩:=I.tuple ha;have hlen:=rv.length;have alt:a<s.heap.objs.size:=by obtain⟨o,ho,_⟩:=id pl;exact Aj ho
 have hl:its.toArray.size=ns.length:=by rw[Ae,<-hlen,zI]
 have hpos:0<ns.length:=Dp.mpr hne;have hat:∀(i:Nat) (v:Value),its.toArray[i]?=some v->∃t,v=.int (ns.getD i 0) t:=λi v hv=>rv.ints (by simpa using hv)
 refine call_max_walk (B1 pl ?_);refine⟨s.heap.objs.size,_,_,_,_,_,_,rfl,Walks.tuple (A:=X.A.in1) (I.y.a hc) s.heap.objs.size a (Ax alt) its.toArray,⟨⟨_,As _ rfl,rfl,rfl⟩,?_⟩,λb hb=>?_,⋯,CmpOf.ints_gt (λi=>ns.getD i 0) hat,λv h' tk hP hk=>?_⟩
 . obtain⟨o,ho,hc',n,hd⟩:=id pl
   exact⟨o,zO _ ho,hc',n,hd⟩
 . rw[Be]
   simp only[Ah,Bk,or_false]at hb;rcases hb with e|e
   . rw[e];exact CI _
   . rw[e];exact BY alt
 . obtain⟨t,rfl⟩:=hat _ _ hP
   obtain⟨b1,b2⟩:=argBest_gt (λi=>ns.getD i 0) (its.toArray.size-1);have e:yc 0 ns=ns.getD (argBest (λi j=>decide (ns.getD i 0 > ns.getD j 0)) (its.toArray.size-1)) 0:=by
    refine kh ?_ λx hx=>?_
    . have:argBest (λi j=>decide (ns.getD i 0 > ns.getD j 0)) (its.toArray.size-1)<ns.length:=by omega
      rw[Ab,pn this];exact BK this
    . obtain⟨i,hi,rfl⟩:=BZ hx
      have:=b2 i ⋯
      simpa [Ab,pn hi] using this
   refine⟨.d (yc 0 ns),H,I.kept λb o ho=>hk b o ?_ (zO _ ho),⟨t,by rw[e]⟩,q⟩
   simpa using Ax (Aj ho)
def iD(hc:X.g=true):yw X (.builtin "min") (YZ X.K (xB 0)):=by
 intro pins s σ H xs us Q I r h;obtain⟨a,ns,rfl,ha,hne,q⟩:=h;obtain⟨u,rfl,ru⟩:=vals1 r;cases ru;obtain⟨its,rv,pl,hz⟩:=I.tuple ha;have hlen:=rv.length;have alt:a<s.heap.objs.size:=by obtain⟨o,ho,_⟩:=id pl;exact Aj ho
 have hl:its.toArray.size=ns.length:=by rw[Ae,<-hlen,zI]
 have hpos:0<ns.length:=Dp.mpr hne;have hat:∀(i:Nat) (v:Value),its.toArray[i]?=some v->∃t,v=.int (ns.getD i 0) t:=λi v hv=>rv.ints (by simpa using hv)
 refine call_min_walk (B1 pl ?_);refine⟨s.heap.objs.size,_,_,_,_,_,_,rfl,Walks.tuple (A:=X.A.in1) (I.y.a hc) s.heap.objs.size a (Ax alt) its.toArray,⟨⟨_,As _ rfl,rfl,rfl⟩,?_⟩,λb hb=>?_,⋯,CmpOf.ints_lt (λi=>ns.getD i 0) hat,λv h' tk hP hk=>?_⟩
 . obtain⟨o,ho,hc',n,hd⟩:=id pl
   exact⟨o,zO _ ho,hc',n,hd⟩
 . rw[Be]
   simp only[Ah,Bk,or_false]at hb;rcases hb with e|e
   . rw[e];exact CI _
   . rw[e];exact BY alt
 . obtain⟨t,rfl⟩:=hat _ _ hP
   obtain⟨b1,b2⟩:=argBest_lt (λi=>ns.getD i 0) (its.toArray.size-1);have e:xB 0 ns=ns.getD (argBest (λi j=>decide (ns.getD i 0<ns.getD j 0)) (its.toArray.size-1)) 0:=by
    refine rM ?_ λx hx=>?_
    . have:argBest (λi j=>decide (ns.getD i 0<ns.getD j 0)) (its.toArray.size-1)<ns.length:=by omega
      rw[Ab,pn this];exact BK this
    . obtain⟨i,hi,rfl⟩:=BZ hx
      have:=b2 i ⋯
      simpa [Ab,pn hi] using this
   refine⟨.d (xB 0 ns),H,I.kept λb o ho=>hk b o ?_ (zO _ ho),⟨t,by rw[e]⟩,q⟩
   simpa using Ax (Aj ho)
end
end L2
end
section
namespace L2
open PySem PySem.W PySem.Calls PyProof PyProof.Rows
open AutoSeq1 (wpAny_loadPart')
open SeqAt
noncomputable def Qs:List Int->List Int->Bool
 |[],[]=>false
 |[],_::_=>true
 |_::_,[]=>false
 |x::xs,y::ys=>if x=y then Qs xs ys else decide (x<y)
end L2
namespace L2
open PySem PySem.W PySem.Calls PyProof PyProof.Rows
def Qw:List (List Int)->List Int
 |[]=>[]
 |z::t=>t.foldl (λm y=>if Qs y m then y else m) z
end L2
end
section
namespace L2
open PySem PySem.W PySem.Calls PyProof PyProof.Rows
noncomputable def dN(ns:List Int):Nat:=(firstMet (λi=>ns.getD i 0) ns.length).length
end L2
end
section
namespace M
open PySem
inductive Val where
 |g|e (b:Bool)|c (i:Int)|j (x:Str)
 |f (vs:List Val)|k (vs:List Val)|o
 |m (ns:List Int)|p (ns:List Int)
 |h (i:Nat)|r (x:Str)|q (n:String)|l (i:Nat)
 deriving Inhabited
inductive Cel where
 |c (vs:List Val)
 |e (kvs:List (Str × Val))
 |d (kvs:List (List Int × Val))
 /-- the table of the codes that lie within the def x -/
 |f (x:Str)
 deriving Inhabited
abbrev Sto:=List Cel
abbrev Env:=List (Option Val)
inductive Out(α:Type) where
 |e (a:α) (s:Sto)
 |g (c:Str) (args:List Val) (s:Sto)
 |d
noncomputable def Out.bind{α β:Type}(o:Out α)(f:α->Sto->Out β):Out β:=
 match o with
 |.e a s=>f a s
 |.g c as s=>.g c as s
 |.d=>.d
@[simp] def zR a s(f:α->Sto->Out β):(Out.e a s).bind f=f a s:=rfl
@[simp] def uJ(f:α->Sto->Out β):(Out.d:Out α).bind f=.d:=rfl
@[simp] def pQ c as s(f:α->Sto->Out β):(Out.g c as s:Out α).bind f=.g c as s:=rfl
mutual
noncomputable def Val.isD:Val->Bool
 |.g|.e _|.c _=>true
 |.j x=>PyData.strOk x
 |.f vs=>uK vs
 |.k vs=>uK vs
 |.o|.m _|.p _|.h _|.r _|.q _|.l _=>false
noncomputable def uK:List Val->Bool
 |[]=>true
 |v::vs=>v.isD&&uK vs
end
mutual
noncomputable def Val.isR:Val->Bool
 |.g|.e _|.c _|.j _|.o=>true
 |.f vs=>lG vs
 |.k vs=>lG vs
 |.m _|.p _|.h _|.r _|.q _|.l _=>false
noncomputable def lG:List Val->Bool
 |[]=>true
 |v::vs=>v.isR&&lG vs
end
mutual
noncomputable def Val.d:Val->PyData
 |.g=>.none
 |.e b=>.bool b
 |.c i=>.int i
 |.j x=>.str x
 |.f vs=>.tuple (ds vs)
 |.k vs=>.list (ds vs)
 |.o=>.dict []
 |.m _|.p _|.h _|.r _|.q _|.l _=>.none
noncomputable def ds:List Val->List PyData
 |[]=>[]
 |v::vs=>v.d::ds vs
end
mutual
noncomputable def Val.noRef:Val->Bool
 |.h _|.l _=>false
 |.f vs=>zy vs
 |.k vs=>zy vs
 |.g|.e _|.c _|.j _|.o|.m _|.p _|.r _|.q _=>true
noncomputable def zy:List Val->Bool
 |[]=>true
 |v::vs=>v.noRef&&zy vs
end
def Cel.noRef:Cel->Bool
 |.c vs=>zy vs
 |.e kvs=>zy (kvs.map (·.2))
 |.d kvs=>zy (kvs.map (·.2))
 |.f _=>true
mutual
noncomputable def Val.beq:Val->Val->Bool
 |.g,.g=>true
 |.e a,.e b=>a == b
 |.c a,.c b=>a == b
 |.j a,.j b=>a == b
 |.f a,.f b=>r8 a b
 |.k a,.k b=>r8 a b
 |.o,.o=>true
 |.m a,.m b=>a == b
 |.p a,.p b=>a == b
 |.h a,.h b=>a == b
 |.r a,.r b=>a == b
 |.q a,.q b=>a == b
 |.l a,.l b=>a == b
 |_,_=>false
noncomputable def r8:List Val->List Val->Bool
 |[],[]=>true
 |a::as,b::bs=>a.beq b&&r8 as bs
 |_,_=>false
end
def Cel.beq:Cel->Cel->Bool
 |.c a,.c b=>r8 a b
 |.e a,.e b=>decide (a.map (·.1)=b.map (·.1))&&r8 (a.map (·.2)) (b.map (·.2))
 |.d a,.d b=>decide (a.map (·.1)=b.map (·.1))&&r8 (a.map (·.2)) (b.map (·.2))
 |.f a,.f b=>decide (a=b)
 |_,_=>false
def vG:Sto->Sto->Bool
 |[],_=>true
 |o::r,o'::r'=>(o'.noRef||o'.beq o)&&vG r r'
 |_::_,[]=>false
mutual
noncomputable def wz(n0:Nat)(s:Sto):Nat->Val->Option Val
 |_,.l i=>if i<n0 then some (.l i) else dS
 |_,.h i=>if i<n0 then some (.h i) else match s[i]? with
  |some (.c vs)=>if zy vs then some (.k vs) else dS
  |_=>dS
 |k+1,.f vs=>(tZ n0 s k vs).map .f
 |_,v=>if v.noRef then some v else dS
noncomputable def tZ(n0:Nat)(s:Sto):Nat->List Val->Option (List Val)
 |_,[]=>some []
 |0,_::_=>dS
 |k+1,v::vs=>match (if v.noRef then some v else wz n0 s k v),tZ n0 s k vs with
  |some v',some vs'=>some (v'::vs')
  |_,_=>dS
end
def freeze(n0:Nat)(s:Sto)(v:Val):Option Val:=if v.noRef then some v else wz n0 s 20 v
inductive Bop|a|c|b|e|d|g|h|i|f
 deriving DecidableEq
inductive Cop|c|e|i|g|d|k|b|a|l|j|m|f|h
 deriving DecidableEq
inductive Bf|a|k|r|b|m|g|p|i|j|l|q|h|c|s|d|o|e|n
 deriving DecidableEq
inductive Mf|b|a|c|f|d|e
 deriving DecidableEq
inductive Tgt
 |a (i:Nat)
 |b (is:List Nat)
mutual
inductive Ex
 |g (v:Val)|e (i:Nat)|z (x:Str)|G (x:Str) (n:String)
 |k (m:Bool) (op:Bop) (a b:Ex)|C (a:Ex)|F (a:Ex)
 |j (op:Cop) (a b:Ex)|A (op op':Cop) (a b c:Ex)
 |u (a:Ex) (es:Exs)|L (a:Ex) (es:Exs)|B (c:Cn) (a b:Ex)
 |q (es:Exs)|s (m:Bool) (es:Exs)|H
 |h (f:Str) (ver:Nat) (es:Exs)|l (f:Bf) (m:Bool) (es:Exs)|I (a d:Ex)
 |D (f:Mf) (m:Bool) (o:Ex) (es:Exs)
 |p (a b:Ex)|J (m:Bool) (a:Ex) (lo hi st:OEx)
 |r (m:Bool) (N:List Str) (fr:List (Option Nat)) (elt:Ex) (t:Tgt) (it:Itb) (ifs:Cns)
 |y (m:Bool) (N:List Str) (fr:List (Option Nat)) (elt:Ex) (t:Tgt) (it:Itb) (ifs:Cns) (t2:Tgt) (it2:Itb) (ifs2:Cns)
 |w (m:Bool) (a b c:Ex)
 |E (t:Bool)|K (a b:Ex)
inductive Exs
 |b|a (e:Ex) (es:Exs)
inductive OEx
 |b|a (e:Ex)
inductive Cn
 |a (e:Ex)|b (c:Cn)|d (c:Cn) (cs:Cns)|f (c:Cn) (cs:Cns)
inductive Cns
 |b|a (c:Cn) (cs:Cns)
inductive Itb
 |f (e:Ex)|c (a:Ex)|d (a b:Ex)|g (e:Ex)|h (a b:Ex)
end
mutual
inductive Sm
 |h (e:Ex)|d (e:Ex)|v|g (i:Nat) (e:Ex)|p (is:List Nat) (e:Ex)|n (is:List Nat) (es:Exs)
 |r (i:Nat) (op:Bop) (e:Ex)|l (o i e:Ex)
 |f (c:Cn) (a b:Sms)|j (t:Tgt) (it:Itb) (b:Sms)|m (c:Cn) (b:Sms)
 |u|w|s|k (e:Ex)|q (o i e:Ex)
inductive Sms
 |b|a (s:Sm) (ss:Sms)
end
structure Fn where
 N:List Str
 a:List Str
 c:Bool
 b:Sms
abbrev Calls:=Str->Nat->List Val->Sto->Out Val
noncomputable def zX:Nat:=16777216
noncomputable def newList(m:Bool)(vs:List Val)(s:Sto):Out Val:=if m then .e (.h s.length) (s++[.c vs]) else .e (.k vs) s
noncomputable def wR(s:Sto):Val->Option (List Val)
 |.f vs=>some vs
 |.k vs=>some vs
 |.m ns=>some (ns.map .c)
 |.p ns=>some (ns.map .c)
 |.h i=>match s[i]? with
  |some (.c vs)=>some vs
  |_=>dS
 |_=>dS
noncomputable def z8(s:Sto):Val->Option (List Val)
 |.k vs=>some vs
 |.h i=>match s[i]? with
  |some (.c vs)=>some vs
  |_=>dS
 |_=>dS
def truth(s:Sto):Val->Option Bool
 |.g=>some false
 |.e b=>some b
 |.c i=>some (i != 0)
 |.j x=>if x.length<=zX then some ((x.length:Int) != 0) else dS
 |.f vs=>some !vs.isEmpty
 |.k vs=>some !vs.isEmpty
 |.o=>some false
 |.h i=>match s[i]? with
  |some (.c vs)=>some !vs.isEmpty
  |_=>dS
 |_=>dS
def Out.truth(o:Out Val):Out Bool:=o.bind λv s=>match M.truth s v with
 |some b=>.e b s
 |dS=>.d
noncomputable def xw(s:Sto):Val->Val
 |.h i=>match s[i]? with
  |some (.c vs)=>.k vs
  |_=>.h i
 |v=>v
def yT(s:Sto):Val->Val
 |.f vs=>.f (vs.map (xw s))
 |v=>xw s v
def SK(d:PyData):Bool:=d.showable&&d.leavesShort 40&&decide (d.depth<=50)&&decide (d.weight<=300000)&&(!d.hasDict||!L2.vI d)
noncomputable def flat:Val->Bool
 |.g|.e _|.c _|.j _=>true
 |_=>false
noncomputable def eqF:Val->Val->Bool
 |.g,.g=>true
 |.e a,.e b=>a == b
 |.e a,.c b=>(if a then 1 else 0) == b
 |.c a,.e b=>a == (if b then 1 else 0)
 |.c a,.c b=>a == b
 |.j a,.j b=>a == b
 |_,_=>false
def pY(a b:Val):Option Bool:=if a.isD&&b.isD&&decide (b.d.depth<=60) then some (Ct a.d b.d) else dS
noncomputable def intsOf:List Val->Option (List Int)
 |[]=>some []
 |.c i::vs=>(intsOf vs).map (i::·)
 |_=>dS
noncomputable def Val.isN:Val->Bool
 |.g=>true
 |_=>false
def inD(x:Val)(vs:List Val):Bool:=x.isD&&uK vs&&decide (x.d.depth<=60)
noncomputable def vD{κ:Type} [DecidableEq κ]:List (κ × Val)->κ->Option Val
 |[],_=>dS
 |p::r,k=>if p.1=k then some p.2 else vD r k
def qD{κ:Type} [DecidableEq κ] (kvs:List (κ × Val))(k:κ)(v:Val):List (κ × Val):=
 if (vD kvs k).isSome then kvs.map (λp=>if p.1=k then (p.1,v) else p) else kvs++[(k,v)]
noncomputable def fL(s:Sto):Val->Option (Nat × Cel)
 |.l i=>(s[i]?).map λc=>(i,c)
 |_=>dS
def Ug:Cel->Val->Option (Option Val)
 |.e kvs,.j k=>some (vD kvs k)
 |.d kvs,.f vs=>(intsOf vs).map λk=>vD kvs k
 |_,_=>dS
def aL:Cel->Val->Val->Option Cel
 |.e kvs,.j k,v=>if kvs.length<zX then some (.e (qD kvs k v)) else dS
 |.d kvs,.f vs,v=>(intsOf vs).bind λk=>if kvs.length<zX then some (.d (qD kvs k v)) else dS
 |_,_,_=>dS
def getD(d y:Val)(s:Sto):Option (Option Val):=(fL s d).bind λc=>Ug c.2 y
def ixD(d y:Val)(s:Sto):Out Val:=match getD d y s with
 |some (some v)=>.e v s
 |_=>.d
def putD(d y v:Val)(s:Sto):Option Sto:=(fL s d).bind λc=>(aL c.2 y v).map λc'=>s.set c.1 c'
noncomputable def strsOf:List Val->Option (List Str)
 |[]=>some []
 |.j x::vs=>(strsOf vs).map (x::·)
 |_=>dS
def zi(op:Cop)(x y:Val)(s:Sto):Out Val:=
 match op with
 |.c=>match x,y with
  |.j a,.j b=>.e (.e (decide (a=b))) s
  |.f a,.m ns=>match pY (yT s (.f a)) (.f (ns.map .c)) with|some b=>.e (.e b) s|dS=>.d
  |_,_=>match pY (yT s x) (yT s y) with|some b=>.e (.e b) s|dS=>.d
 |.e=>match x,y with
  |.j a,.j b=>.e (.e !(decide (a=b))) s
  |_,_=>match pY (yT s x) (yT s y) with|some b=>.e (.e !b) s|dS=>.d
 |.b=>match y with|.g=>.e (.e x.isN) s|.e b=>(match x with|.e a=>.e (.e (decide (a=b))) s|_=>.d)|_=>.d
 |.a=>match y with|.g=>.e (.e !x.isN) s|.e b=>(match x with|.e a=>.e (.e !(decide (a=b))) s|_=>.d)|_=>.d
 |.l=>match wR s y with
  |some vs=>if flat x&&vs.all flat then .e (.e (vs.any λz=>eqF z x)) s else if inD x vs then .e (.e (vs.any λz=>Ct z.d x.d)) s else .d
  |dS=>.d
 |.j=>match wR s y with
  |some vs=>if flat x&&vs.all flat then .e (.e !(vs.any λz=>eqF z x)) s else if inD x vs then .e (.e !(vs.any λz=>Ct z.d x.d)) s else .d
  |dS=>.d
 |.m=>match getD y x s with|some o=>.e (.e o.isSome) s|dS=>.d
 |.f=>match getD y x s with|some o=>.e (.e !o.isSome) s|dS=>.d
 |.h=>match x with
  |.o=>(match wR s y with
   |some vs=>(match M.intsOf vs with|some _=>.e (.e true) s|dS=>.d)
   |dS=>.d)
  |_=>(match wR s y with
   |some vs=>if flat x&&vs.all flat then .e (.e !(vs.any λz=>eqF z x)) s else if inD x vs then .e (.e !(vs.any λz=>Ct z.d x.d)) s else .d
   |dS=>.d)
 |.i=>match x,y with|.c i,.c j=>.e (.e (decide (i<j))) s|_,_=>.d
 |.g=>match x,y with|.c i,.c j=>.e (.e (decide (i<=j))) s|_,_=>.d
 |.d=>match x,y with|.c i,.c j=>.e (.e (decide (j<i))) s|_,_=>.d
 |.k=>match x,y with|.c i,.c j=>.e (.e (decide (j<=i))) s|_,_=>.d
def binOp(m:Bool)(op:Bop)(x y:Val)(s:Sto):Out Val:=
 match op with
 |.a=>match x,y with
  |.c i,.c j=>.e (.c (i+j)) s
  |.j a,.j b=>if a.length+b.length<=zX then .e (.j (a++b)) s else .d
  |.f a,.f b=>if a.length+b.length<=zX then .e (.f (a++b)) s else .d
  |_,_=>match z8 s x,z8 s y with
   |some a,some b=>if a.length+b.length<=zX then newList m (a++b) s else .d
   |_,_=>.d
 |.c=>match x,y with|.c i,.c j=>.e (.c (i-j)) s|_,_=>.d
 |.b=>match x,y with
  |.c i,.c j=>if (-(2 ^ 64)<i/\i<2 ^ 64)\/(-(2 ^ 64)<j/\j<2 ^ 64) then .e (.c (i*j)) s else .d
  |.f a,.c k=>if -1000<=k/\k<=1000/\a≠[]/\a.length<=1000 then .e (.f (AG k.toNat a).flatten) s else .d
  |_,.c k=>match z8 s x with
   |some a=>if -1000<=k/\k<=1000/\a.length*k.toNat<=zX then newList m (AG k.toNat a).flatten s else .d
   |dS=>.d
  |_,_=>.d
 |.e=>match x,y with|.c i,.c j=>if 0<j/\j<1073741824 then .e (.c (i/j)) s else .d|_,_=>.d
 |.d=>match x,y with|.c i,.c j=>if 0<j then .e (.c (i%j)) s else .d|_,_=>.d
 |.g=>match x,y with|.c i,.c j=>if 0<=j/\j<=1000000/\i.natAbs<2 ^ 64 then .e (.c (i ^ j.toNat)) s else .d|_,_=>.d
 |.h=>match x,y with|.c i,.c j=>if 0<=j/\j<=1000000/\i.natAbs<2 ^ 64 then .e (.c (i*2 ^ j.toNat)) s else .d|_,_=>.d
 |.i=>match x,y with|.c i,.c j=>if 0<=j then .e (.c (i/2 ^ j.toNat)) s else .d|_,_=>.d
 |.f=>match x,y with|.c i,.c j=>.e (.c (Builtin.bitAnd i j)) s|_,_=>.d
noncomputable def kindOf:Val->Option L2.Kd
 |.g=>some .f
 |.e _=>some .i
 |.c _=>some .d
 |.j _=>some .h
 |.f _=>some .b
 |.k _=>some .e
 |.o=>some .g
 |.h _=>some .e
 |_=>dS
noncomputable def uM:String->Option L2.Kd
 |"bool"=>some .i
 |"int"=>some .d
 |"str"=>some .h
 |"list"=>some .e
 |"tuple"=>some .b
 |"dict"=>some .g
 |_=>dS
noncomputable def boolsOf:List Val->Option (List Bool)
 |[]=>some []
 |.e b::vs=>(boolsOf vs).map (b::·)
 |_=>dS
noncomputable def pairsOf:List Val->Option (List (Int × Int))
 |[]=>some []
 |.f [.c a,.c b]::vs=>(pairsOf vs).map ((a,b)::·)
 |_=>dS
noncomputable def prV(z:Int × Int):Val:=.f [.c z.1,.c z.2]
def iR(z:Int × Int):List (Int × Int)->List (Int × Int)
 |[]=>[z]
 |y::ys=>if L2.yJ z<=L2.yJ y then z::y::ys else y::iR z ys
def vW:List (Int × Int)->List (Int × Int)
 |[]=>[]
 |z::zs=>iR z (vW zs)
def gi:List Val->Option (List (List Int))
 |[]=>some []
 |.f a::vs=>match intsOf a,gi vs with
  |some z,some zs=>some (z::zs)
  |_,_=>dS
 |_=>dS
noncomputable def tpV(z:List Int):Val:=.f (z.map .c)
noncomputable def tpS(x:Str)(z:List Int):Val:=.f (.j x::z.map .c)
def UN(x:Str):List Val->Option (List (List Int))
 |[]=>some []
 |.f (.j y::a)::vs=>if y=x then (match intsOf a,UN x vs with
  |some z,some zs=>some (z::zs)
  |_,_=>dS) else dS
 |_=>dS
noncomputable def V2:List Val->Str
 |.f (.j x::_)::_=>x
 |_=>""
def Px(zs:List (List Int)):Bool:=decide (zs.length<2)||match zs with
 |[]=>true
 |z::_=>decide (0<z.length)&&zs.all (λy=>decide (y.length=z.length))&&(Al (zs.length-1)).all λi=>!L2.Qr (zs.getD (i+1) []) (zs.getD i [])
def RR(m:Bool)(vs:List Val)(s:Sto):Out Val:=match gi vs with
 |some zs=>if Px zs then newList m vs s else .d
 |dS=>.d
noncomputable def insI(z:Int):List Int->List Int
 |[]=>[z]
 |y::ys=>if z<=y then z::y::ys else y::insI z ys
def sortI:List Int->List Int
 |[]=>[]
 |z::zs=>insI z (sortI zs)
def blt(f:Bf)(m:Bool)(xs:List Val)(s:Sto):Out Val:=
 match f with
 |.a=>match xs with
  |[.j x]=>if x.length<=zX then .e (.c x.length) s else .d
  |[x]=>match wR s x with|some vs=>.e (.c vs.length) s|dS=>.d
  |_=>.d
 |.k=>match xs with
  |[x]=>match z8 s x with|some vs=>(match boolsOf vs with|some bs=>.e (.e (bs.all id)) s|dS=>.d)|dS=>.d
  |_=>.d
 |.r=>match xs with
  |[x]=>match z8 s x with|some vs=>(match boolsOf vs with|some bs=>.e (.e (bs.any id)) s|dS=>.d)|dS=>.d
  |_=>.d
 |.b=>match xs with
  |[.f vs]=>.e (.f vs) s
  |[x]=>match z8 s x with|some vs=>.e (.f vs) s|dS=>.d
  |_=>.d
 |.m=>match xs with
  |[x]=>match wR s x with|some vs=>newList m vs s|dS=>.d
  |_=>.d
 |.p=>match xs with
  |[x]=>if (yT s x).isR&&SK (yT s x).d then .e (.j (yT s x).d.shown) s else .d
  |_=>.d
 |.i=>match xs with
  |[.c i,.c j]=>.e (.c (if j > i then j else i)) s
  |[.f vs]=>(match M.intsOf vs with|some ns=>if ns≠[] then .e (.c (L2.yc 0 ns)) s else .d|dS=>.d)
  |[x]=>match z8 s x with|some vs=>(match M.intsOf vs with|some ns=>if ns≠[] then .e (.c (L2.yc 0 ns)) s else .d|dS=>.d)|dS=>.d
  |_=>.d
 |.j=>match xs with
  |[.c i,.c j]=>.e (.c (if j<i then j else i)) s
  |[.f vs]=>(match M.intsOf vs with|some ns=>if ns≠[] then .e (.c (L2.xB 0 ns)) s else .d|dS=>.d)
  |[x]=>match z8 s x with|some vs=>(match M.intsOf vs with|some ns=>if ns≠[] then .e (.c (L2.xB 0 ns)) s else .d|dS=>.d)|dS=>.d
  |_=>.d
 |.q=>match xs with
  |[.c i]=>.e (.c i) s
  |[.e b]=>.e (.c (if b then 1 else 0)) s
  |_=>.d
 |.h=>match xs with
  |[x,.q n]=>match kindOf x,uM n with|some a,some c=>.e (.e (a.sub c)) s|_,_=>.d
  |_=>.d
 |.c=>match xs with
  |[.c i,.c j]=>if 0<j/\j<1073741824 then .e (.f [.c (i/j),.c (i%j)]) s else .d
  |_=>.d
 |.s=>match xs with
  |[.c i]=>if i.natAbs.log2<1920 then .e (.j (toString i)) s else .d
  |_=>.d
 |.l=>match xs with
  |[x]=>match z8 s x with|some vs=>(match M.intsOf vs with|some ns=>if L2.vY ns then .e (.c ns.sum) s else .d|dS=>.d)|dS=>.d
  |_=>.d
 |.g=>match xs with
  |[x]=>match z8 s x with
   |some vs=>(match pairsOf vs with
    |some zs=>if zs.length<64/\zs.Nodup/\∀z∈zs,0<=z.2/\z.2<1000 then newList m ((vW zs).map prV) s else .d
    |dS=>.d)
   |dS=>.d
  |_=>.d
 |.o=>match xs with
  |[x]=>match z8 s x with|some vs=>(match gi vs with|some zs=>if zs≠[] then .e (tpV (L2.Qw zs)) s else .d|dS=>.d)|dS=>.d
  |_=>.d
 |.n=>match xs with
  |[x]=>match z8 s x with|some vs=>(match UN (V2 vs) vs with|some zs=>if zs≠[] then .e (tpS (V2 vs) (L2.Qw zs)) s else .d|dS=>.d)|dS=>.d
  |_=>.d
 |.e=>match xs with
  |[x]=>match z8 s x with|some vs=>RR m vs s|dS=>.d
  |_=>.d
 |.d=>match xs with
  |[x]=>match wR s x with|some vs=>(match M.intsOf vs with|some ns=>if ns.length<64 then newList m ((sortI ns).map .c) s else .d|dS=>.d)|dS=>.d
  |_=>.d
def mxD(x y:Val)(s:Sto):Out Val:=match y with
 |.c k=>(match z8 s x with|some vs=>(match M.intsOf vs with|some ns=>.e (.c (L2.yc k ns)) s|dS=>.d)|dS=>.d)
 |_=>.d
noncomputable def upd(s:Sto)(i:Nat)(vs:List Val):Sto:=s.set i (.c vs)
def yf(f:Mf)(o:Val)(xs:List Val)(s:Sto):Out Val:=
 match f with
 |.b=>match o,xs with
  |.f vs,[y]=>if flat y&&vs.all flat then .e (.c (vs.countP λz=>eqF z y:Nat)) s else .d
  |_,[y]=>match z8 s o with|some vs=>if flat y&&vs.all flat then .e (.c (vs.countP λz=>eqF z y:Nat)) s else .d|dS=>.d
  |_,_=>.d
 |.a=>match o,xs with
  |.h i,[y]=>match s[i]? with|some (.c vs)=>if vs.length<zX then .e .g (upd s i (vs++[y])) else .d|_=>.d
  |_,_=>.d
 |.c=>match o,xs with
  |.h i,[y]=>match s[i]?,z8 s y with|some (.c vs),some ws=>if vs.length+ws.length<=zX then .e .g (upd s i (vs++ws)) else .d|_,_=>.d
  |_,_=>.d
 |.f=>match o,xs with
  |.h i,[.c k]=>(match s[i]? with
   |some (.c vs)=>if -(2 ^ 63)<=k/\k<2 ^ 63 then (match seqIndex? k vs.length with
    |some j=>(match vs[j]? with|some y=>.e y (upd s i (vs.eraseIdx j))|dS=>.d)
    |dS=>.d) else .d
   |_=>.d)
  |_,_=>.d
 |.d=>match o,xs with
  |.f vs,[y]=>if flat y&&vs.all flat then (match vs.findIdx? λz=>eqF z y with|some j=>.e (.c (j:Nat)) s|dS=>.d) else .d
  |_,_=>.d
 |.e=>match o,xs with
  |.j z,[y]=>(match z8 s y with
   |some vs=>(match strsOf vs with|some ys=>if (ys.map (·.length)).sum+ys.length*z.length<=16777216 then .e (.j (L2.Qn z ys)) s else .d|dS=>.d)
   |dS=>.d)
  |_,_=>.d
def wo(a b:Val)(s:Sto):Out Val:=
 match b with
 |.c i=>match wR s a with|some vs=>(match L2.atI vs i with|some v=>.e v s|dS=>.d)|dS=>.d
 |_=>.d
def m7{α:Type}(xs:List α)(lo hi:Option Int):List α:=(xs.drop (HT.sIx xs.length 0 lo)).take (HT.sIx xs.length xs.length hi-HT.sIx xs.length 0 lo)
def uY(m:Bool)(a:Val)(lo hi st:Option Int)(s:Sto):Out Val:=
 match a,st with
 |.f vs,dS=>.e (.f (m7 vs lo hi)) s
 |.f vs,some c=>if c≠0/\(L2.xA vs.length lo hi c).2<=zX then .e (.f (L2.yA vs (L2.xA vs.length lo hi c).1 c (L2.xA vs.length lo hi c).2)) s else .d
 |_,dS=>match z8 s a with|some vs=>newList m (m7 vs lo hi) s|dS=>.d
 |_,some c=>match z8 s a with|some vs=>if c≠0 then newList m (L2.yA vs (L2.ug vs.length lo hi c).1 c (L2.ug vs.length lo hi c).2) s else .d|dS=>.d
def Qu(m:Bool)(x y z:Val)(s:Sto):Out Val:=match x,y,z with
 |.c i,.c j,.c k=>if -(2 ^ 30)<=i/\i<=2 ^ 30∧-(2 ^ 30)<=j/\j<=2 ^ 30/\0<k/\k<=2 ^ 29/\Cz i j k<=1000 then newList m ((L2.gE i j k).map .c) s else .d
 |.g,y,.j _=>(match wR s y with|some vs=>(match M.intsOf vs with|some ns=>if ns.length<=1000 then .e (.c (L2.dN ns:Nat)) s else .d|dS=>.d)|dS=>.d)
 |.c i,.c j,.e _=>if -(2 ^ 30)<=i/\i<=2 ^ 30∧-(2 ^ 30)<=j/\j<=2 ^ 30/\Cz i j 1<=1000 then newList m ((L2.gE i j 1).map .c) s else .d
 |.c i,.c j,.g=>if -(2 ^ 30)<=i/\i<=2 ^ 30∧-(2 ^ 30)<=j/\j<=2 ^ 30/\Cz i j 1<=1000 then .e (.f ((L2.gE i j 1).map .c)) s else .d
 |_,_,_=>.d
noncomputable def xO(t:Tgt)(v:Val)(env:Env):Option Env:=
 match t with
 |.a i=>some (env.set i (some v))
 |.b is=>match v with
  |.f vs=>if vs.length=is.length then some ((is.zip vs).foldl (λe p=>e.set p.1 (some p.2)) env) else dS
  |_=>dS
structure Src where
 a:List Val
 b:Option Nat
def Src.ok(r:Src)(s:Sto):Bool:=match r.b with
 |dS=>true
 |some i=>match s[i]? with
  |some (.c vs)=>r8 vs r.a
  |_=>false
noncomputable def qx:List Val->List Val->List Val
 |v::vs,w::ws=>.f [v,w]::qx vs ws
 |_,_=>[]
noncomputable def yL(n:Nat):List Val->List Val
 |[]=>[]
 |v::vs=>.f [.c n,v]::yL (n+1) vs
noncomputable def srcOf(s:Sto):Val->Option Src
 |.f vs=>some ⟨vs,dS⟩
 |.k vs=>some ⟨vs,dS⟩
 |.m ns=>some ⟨ns.map .c,dS⟩
 |.h i=>match s[i]? with
  |some (.c vs)=>some ⟨vs,some i⟩
  |_=>dS
 |_=>dS
noncomputable def yC(lo:Int)(n:Nat):List Val:=(Al n).map λ(k:Nat)=>Val.c (lo+k)
def xP(r:Src)(t:Tgt)(body:Env->Sto->List Val->Out (List Val × Env)):List Val->Env->Sto->List Val->Out (List Val × Env)
 |[],env,s,acc=>if r.ok s then .e (acc,env) s else .d
 |x::xs,env,s,acc=>if r.ok s then match xO t x env with
    |dS=>.d
    |some env'=>(body env' s acc).bind λp s'=>xP r t body xs p.2 s' p.1
  else .d
noncomputable def zP(fr:List (Option Nat))(env:Env):Env:=fr.map λo=>match o with|some j=>(env[j]?).join|dS=>dS
inductive Fl
 |a (env:Env)|c (env:Env)|d (env:Env)|b (v:Val)
def uZ(r:Src)(t:Tgt)(body:Env->Sto->Out Fl):List Val->Env->Sto->Out Fl
 |[],env,s=>if r.ok s then .e (.a env) s else .d
 |x::xs,env,s=>if r.ok s then match xO t x env with
    |dS=>.d
    |some env'=>(body env' s).bind λfl s'=>match fl with
     |.a e=>uZ r t body xs e s'
     |.d e=>uZ r t body xs e s'
     |.c e=>.e (.a e) s'
     |.b v=>.e (.b v) s'
  else .d
def uw(c:Env->Sto->Out Bool)(body:Env->Sto->Out Fl):Nat->Env->Sto->Out Fl
 |0,_,_=>.d
 |n+1,env,s=>(c env s).bind λb s1=>if b then (body env s1).bind λfl s2=>match fl with
    |.a e=>uw c body n e s2
    |.d e=>uw c body n e s2
    |.c e=>.e (.a e) s2
    |.b v=>.e (.b v) s2
  else .e (.a env) s1
noncomputable def l5:Nat:=100000
section
variable (Φ:Calls)(G:Str->Option Val)
mutual
noncomputable def evE(env:Env):Ex->Sto->Out Val
 |.g v,s=>.e v s
 |.e i,s=>match env[i]? with|some (some v)=>.e v s|_=>.d
 |.z x,s=>match G x with|some v=>.e v s|dS=>.d
 |.G _ n,s=>.e (.q n) s
 |.k m op a b,s=>(evE env a s).bind λx s1=>(evE env b s1).bind λy s2=>binOp m op x y s2
 |.C a,s=>(evE env a s).bind λx s1=>match x with|.c i=>.e (.c (-i)) s1|_=>.d
 |.F a,s=>(evE env a s).bind λx s1=>match x with|.e b=>.e (.e !b) s1|_=>.d
 |.j op a b,s=>(evE env a s).bind λx s1=>(evE env b s1).bind λy s2=>zi op x y s2
 |.A op op' a b c,s=>(evE env a s).bind λx s1=>(evE env b s1).bind λy s2=>(zi op x y s2).bind λr s3=>match r with
  |.e true=>(evE env c s3).bind λz s4=>zi op' y z s4
  |.e false=>.e (.e false) s3
  |_=>.d
 |.u a es,s=>match es with
  |.b=>evE env a s
  |.a _ _=>(evE env a s).bind λx s1=>match x with
   |.e true=>qe env es s1
   |.e false=>.e (.e false) s1
   |_=>.d
 |.L a es,s=>match es with
  |.b=>evE env a s
  |.a _ _=>(evE env a s).bind λx s1=>match truth s1 x with
   |some false=>kR env es s1
   |some true=>.e x s1
   |dS=>.d
 |.B c a b,s=>(evT env c s).bind λt s1=>if t then evE env a s1 else evE env b s1
 |.q es,s=>(xW env es s).bind λvs s1=>if vs.length<=zX then .e (.f vs) s1 else .d
 |.s m es,s=>(xW env es s).bind λvs s1=>if vs.length<=zX then newList m vs s1 else .d
 |.H,s=>.e .o s
 |.h f ver es,s=>(xW env es s).bind λvs s1=>Φ f ver vs s1
 |.l f m es,s=>(xW env es s).bind λvs s1=>blt f m vs s1
 |.I a d,s=>(evE env a s).bind λx s1=>(evE env d s1).bind λy s2=>mxD x y s2
 |.D f _ o es,s=>(evE env o s).bind λx s1=>(xW env es s1).bind λvs s2=>yf f x vs s2
 |.p a b,s=>(evE env a s).bind λx s1=>(evE env b s1).bind λy s2=>wo x y s2
 |.J m a lo hi st,s=>(evE env a s).bind λx s1=>(evO env lo s1).bind λl s2=>(evO env hi s2).bind λh s3=>(evO env st s3).bind λc s4=>uY m x l h c s4
 |.r m _ fr elt t it ifs,s=>(xD env it s).bind λr s1=>
  (xP r t (λe s' acc=>(x6 e ifs s').bind λb s2=>if b then (evE e elt s2).bind λv s3=>.e (acc++[v],e) s3 else .e (acc,e) s2) r.a (zP fr env) s1 []).bind λp s2=>newList m p.1 s2
 |.y m _ fr elt t it ifs t2 it2 ifs2,s=>(xD env it s).bind λr s1=>
  (xP r t (λe s' acc=>(x6 e ifs s').bind λb s2=>if b then (xD e it2 s2).bind λr2 s3=>
      xP r2 t2 (λe' s4 acc'=>(x6 e' ifs2 s4).bind λb' s5=>if b' then (evE e' elt s5).bind λv s6=>.e (acc'++[v],e') s6 else .e (acc',e') s5) r2.a e s3 acc
   else .e (acc,e) s2) r.a (zP fr env) s1 []).bind λp s2=>if p.1.length<=zX then newList m p.1 s2 else .d
 |.E t,s=>.e (.l s.length) (s++[if t then .d [] else .e []])
 |.K a b,s=>(evE env a s).bind λx s1=>(evE env b s1).bind λy s2=>ixD x y s2
 |.w m a b c,s=>(evE env a s).bind λx s1=>(evE env b s1).bind λy s2=>(evE env c s2).bind λz s3=>Qu m x y z s3
noncomputable def qe(env:Env):Exs->Sto->Out Val
 |.b,_=>.d
 |.a a es,s=>match es with
  |.b=>evE env a s
  |.a _ _=>(evE env a s).bind λx s1=>match x with
   |.e true=>qe env es s1
   |.e false=>.e (.e false) s1
   |_=>.d
noncomputable def kR(env:Env):Exs->Sto->Out Val
 |.b,_=>.d
 |.a a es,s=>match es with
  |.b=>evE env a s
  |.a _ _=>(evE env a s).bind λx s1=>match truth s1 x with
   |some false=>kR env es s1
   |some true=>.e x s1
   |dS=>.d
noncomputable def xW(env:Env):Exs->Sto->Out (List Val)
 |.b,s=>.e [] s
 |.a e es,s=>(evE env e s).bind λv s1=>(xW env es s1).bind λvs s2=>.e (v::vs) s2
noncomputable def evO(env:Env):OEx->Sto->Out (Option Int)
 |.b,s=>.e dS s
 |.a e,s=>(evE env e s).bind λv s1=>match v with|.c i=>.e (some i) s1|_=>.d
/-- a test -/
noncomputable def evT(env:Env):Cn->Sto->Out Bool
 |.a e,s=>(evE env e s).truth
 |.b a,s=>(evT env a s).bind λb s1=>.e (!b) s1
 |.d a es,s=>(evT env a s).bind λb s1=>if b then x6 env es s1 else .e false s1
 |.f a es,s=>(evT env a s).bind λb s1=>if b then .e true s1 else qr env es s1
noncomputable def x6(env:Env):Cns->Sto->Out Bool
 |.b,s=>.e true s
 |.a a es,s=>(evT env a s).bind λb s1=>if b then x6 env es s1 else .e false s1
noncomputable def qr(env:Env):Cns->Sto->Out Bool
 |.b,s=>.e false s
 |.a a es,s=>(evT env a s).bind λb s1=>if b then .e true s1 else qr env es s1
noncomputable def xD(env:Env):Itb->Sto->Out Src
 |.f e,s=>(evE env e s).bind λv s1=>match srcOf s1 v with|some r=>.e r s1|dS=>.d
 |.c a,s=>(evE env a s).bind λx s1=>match x with
  |.c j=>if -(2 ^ 62)<=j/\j<=zX then .e ⟨yC 0 j.toNat,dS⟩ s1 else .d
  |_=>.d
 |.d a b,s=>(evE env a s).bind λx s1=>(evE env b s1).bind λy s2=>match x,y with
  |.c i,.c j=>if -(2 ^ 62)<=i/\i<2 ^ 62∧-(2 ^ 62)<=j/\j<2 ^ 62/\j-i<=zX then .e ⟨yC i (j-i).toNat,dS⟩ s2 else .d
  |_,_=>.d
 |.g e,s=>(evE env e s).bind λv s1=>match v with
  |.f vs=>.e ⟨yL 0 vs,dS⟩ s1
  |.k vs=>.e ⟨yL 0 vs,dS⟩ s1
  |_=>.d
 |.h a b,s=>(evE env a s).bind λx s1=>(evE env b s1).bind λy s2=>match x,y with
  |.f vs,.f ws=>if ws.length<=vs.length then .e ⟨qx vs ws,dS⟩ s2 else .d
  |_,_=>.d
end
mutual
noncomputable def exS(env:Env):Sm->Sto->Out Fl
 |.h e,s=>(evE Φ G env e s).bind λ_ s1=>.e (.a env) s1
 |.d e,s=>(evE Φ G env e s).bind λv s1=>.e (.b v) s1
 |.v,s=>.e (.b .g) s
 |.g i e,s=>(evE Φ G env e s).bind λv s1=>.e (.a (env.set i (some v))) s1
 |.p is e,s=>(evE Φ G env e s).bind λv s1=>match xO (.b is) v env with|some env'=>.e (.a env') s1|dS=>.d
 |.n is es,s=>(xW Φ G env es s).bind λvs s1=>if vs.length=is.length then .e (.a ((is.zip vs).foldl (λe p=>e.set p.1 (some p.2)) env)) s1 else .d
 |.r i op e,s=>match env[i]? with
  |some (some (.c x))=>(evE Φ G env e s).bind λv s1=>match v with
   |.c y=>(binOp false op (.c x) (.c y) s1).bind λz s2=>.e (.a (env.set i (some z))) s2
   |_=>.d
  |some (some (.f x))=>if op=.a then (evE Φ G env e s).bind λv s1=>match v with
   |.f y=>(binOp false .a (.f x) (.f y) s1).bind λz s2=>.e (.a (env.set i (some z))) s2
   |_=>.d
   else .d
  |_=>.d
 |.l o i e,s=>(evE Φ G env e s).bind λv s1=>(evE Φ G env o s1).bind λx s2=>(evE Φ G env i s2).bind λy s3=>match x,y with
  |.h r,.c k=>(match s3[r]? with
   |some (.c vs)=>(match L2.ixN vs.length k with|some j=>.e (.a env) (upd s3 r (vs.set j v))|dS=>.d)
   |_=>.d)
  |_,_=>.d
 |.f c a b,s=>(evT Φ G env c s).bind λt s1=>if t then zj env a s1 else zj env b s1
 |.j t it b,s=>(xD Φ G env it s).bind λr s1=>uZ r t (λe s'=>zj e b s') r.a env s1
 |.m c b,s=>uw (λe s'=>evT Φ G e c s') (λe s'=>zj e b s') l5 env s
 |.u,s=>.e (.a env) s
 |.w,s=>.e (.c env) s
 |.s,s=>.e (.d env) s
 |.k _,_=>.d
 |.q o i e,s=>(evE Φ G env e s).bind λv s1=>(evE Φ G env o s1).bind λx s2=>(evE Φ G env i s2).bind λy s3=>match putD x y v s3 with|some s4=>.e (.a env) s4|dS=>.d
noncomputable def zj(env:Env):Sms->Sto->Out Fl
 |.b,s=>.e (.a env) s
 |.a c cs,s=>(exS env c s).bind λfl s1=>match fl with
  |.a e=>zj e cs s1
  |fl=>.e fl s1
end
end
abbrev OZ:=Option (Str × List Val × Sto)
abbrev OY:=Str->Nat->List Val->Sto->OZ
noncomputable def zc(N:List Str)(vs:List Val):Env:=vs.map some++AG (N.length-vs.length) dS
def leave(F:Fn)(s0:Sto)(v:Val)(s:Sto):Out Val:=
 if F.c then .e v s
 else if vG s0 s then (match freeze s0.length s v with|some v'=>.e v' (s.take s0.length)|dS=>.d) else .d
structure Tbl where
 c:Str->Nat->Option Fn
 b:Str->Option Val
 /-- the defs whose tables the store holds,from its start -/
 d:List Str:=[]
 /-- the classes of exceptions,and what the law's def says of each -/
 xc:List (Str × Str):=[]
 /-- which of the law's two defs that try a call is there -/
 e:Bool->Bool:=λ_=>false
def run(T:Tbl)(Φ:Calls)(F:Fn)(vs:List Val)(s:Sto):Out Val:=
 if vs.length=F.a.length then (zj Φ T.b (zc F.N vs) F.b s).bind λfl s1=>match fl with
  |.a _=>leave F s .g s1
  |.b v=>leave F s v s1
  |_=>.d
 else .d
def zG(T:Tbl):Nat->Calls
 |0=>λ_ _ _ _=>.d
 |n+1=>λf ver vs s=>match T.c f ver with|some F=>run T (zG T n) F vs s|dS=>.d
end M
end
section
namespace M
open PySem
abbrev KF:=Ay
structure Own where
 o:List Addr
 h:List Addr
def Own.no(ρ:Own)(a:Addr):Prop:=a ∉ ρ.o/\a ∉ ρ.h
def KT(K:KF)(a:Addr)(xs:List L2.V):Prop:=∃(o:Obj) (its:Array Value) (n:Nat),K.lookup a=some o/\o.cls=.type "tuple"/\o.data=.seq its n/\its.size<=Ar/\L2.Vals xs its.toList
def SC(K:KF)(ρ:Own)(H:L2.Hp)(a:Addr)(xs:List L2.V):Prop:=(ρ.no a/\L2.Rd H a (.b xs)) \/
 ∃(o:Obj) (its:Array Value) (n:Nat),K.lookup a=some o/\o.cls=.type "list"/\o.dict=none/\o.data=.seq its n/\its.size<=Ar/\L2.Vals xs its.toList
noncomputable def hk:Option L2.HO->Nat
 |some (.b _)=>1
 |some (.d _)=>2
 |some (.i _)=>3
 |some (.e _)=>4
 |_=>0
mutual
inductive RD(K:KF)(mg:Str->Option Value)(ρ:Own)(H:L2.Hp):Val->L2.V->Prop
 |s:RD K mg ρ H .g .g
 |j (b:Bool):RD K mg ρ H (.e b) (.e b)
 |l (i:Int):RD K mg ρ H (.c i) (.d i)
 |E (x:Str):RD K mg ρ H (.j x) (.f x)
 |m {a:Addr} {vs:List Val} {xs:List L2.V}:ρ.no a->H a=some (.c xs)->RDs K mg ρ H vs xs->RD K mg ρ H (.f vs) (.c a)
 |D {a:Addr} {vs:List Val} {xs:List L2.V}:ρ.no a->H a=some (.b xs)->RDs K mg ρ H vs xs->RD K mg ρ H (.k vs) (.c a)
 |B {a:Addr}:ρ.no a->H a=some (.d [])->RD K mg ρ H .o (.c a)
 |p {a:Addr} {ns:List Int}:KT K a (ns.map L2.V.d)->RD K mg ρ H (.m ns) (.c a)
 |F {a:Addr} {ns:List Int}:SC K ρ H a (ns.map L2.V.d)->RD K mg ρ H (.p ns) (.c a)
 |C {a:Addr} {i:Nat}:ρ.o[i]?=some a->hk (H a)=1->RD K mg ρ H (.h i) (.c a)
 |A {a:Addr} {i:Nat}:ρ.o[i]?=some a->1<hk (H a)->RD K mg ρ H (.l i) (.c a)
 |G {x:Str} {f:Addr}:mg x=some (.ref f)->RD K mg ρ H (.r x) (.c f)
 |I (n:String):RD K mg ρ H (.q n) (.k n)
inductive RDs(K:KF)(mg:Str->Option Value)(ρ:Own)(H:L2.Hp):List Val->List L2.V->Prop
 |d:RDs K mg ρ H [] []
 |a {v:Val} {x:L2.V} {vs:List Val} {xs:List L2.V}:RD K mg ρ H v x->RDs K mg ρ H vs xs->RDs K mg ρ H (v::vs) (x::xs)
end
noncomputable def Oj(x:Str):Str:=(x++(".<locals>.":Str))++("<lambda>":Str)
def OW(K:KF)(mg:Str->Option Value)(ρ:Own)(H:L2.Hp)(P:Addr)(x:Str):Prop:=∃ps,H P=some (.e ps)/\TriplesOk ps.toList /\
 (∀(pos:Pos) (cv:Value),codeAmong pos ps.toList=some cv->∃(c:Addr) (o:Obj) (vs:Array Value) (t:Tok),cv=.ref c/\ρ.no c/\H c=some (.j o (.g 0))/\o.data=.fields vs/\vs[1]?=some (.str (Oj x) t)) /\
 ∃(fa c:Addr) (o:Obj) (fd:CV),mg x=some (.ref fa)/\K.lookup fa=some o/\o.data=.func fd/\fd.code=.ref c/\∀h:Heap,K.In h->PySem.W.CodeHd h c P
def CR(K:KF)(mg:Str->Option Value)(ρ:Own)(H:L2.Hp)(a:Addr):Cel->Prop
 |.c vs=>∃xs,H a=some (.b xs)/\RDs K mg ρ H vs xs
 |.e kvs=>∃kxs,H a=some (.d kxs)/\kxs.map (·.1)=kvs.map (λp=>Dg p.1)/\RDs K mg ρ H (kvs.map (·.2)) (kxs.map (·.2))
 |.d kvs=>∃kxs,H a=some (.i kxs)/\kxs.map (·.1)=kvs.map (λp=>p.1.map Dq)/\RDs K mg ρ H (kvs.map (·.2)) (kxs.map (·.2))
 |.f x=>OW K mg ρ H a x
structure HR(K:KF)(mg:Str->Option Value)(ρ:Own)(s:Sto)(H:L2.Hp):Prop where
 f:ρ.o.length=s.length
 l:ρ.o.Nodup
 g:∀(i:Nat) (c:Cel),s[i]?=some c->∃a:Addr,ρ.o[i]?=some a/\CR K mg ρ H a c
 d:∀a∈ρ.h,(∃xs,H a=some (.b xs))/\a ∉ ρ.o
structure Ext(ρ:Own)(H:L2.Hp)(ρ':Own)(H':L2.Hp):Prop where
 d:∃new:List Addr,ρ'.o=ρ.o++new/\∀a∈new,H a=none
 f:ρ'.h=ρ.h
 c:∀(a:Addr) (o:L2.HO),H a=some o->a ∉ ρ.o->H' a=some o
 g:∀a∈ρ.o,hk (H' a)=hk (H a)
structure ER(K:KF)(mg:Str->Option Value)(ρ:Own)(H:L2.Hp)(env:Env)(σ:L2.St):Prop where
 b:env.length=σ.length
 a:∀(i:Nat) (v:Val),env[i]?=some (some v)->∃x:L2.V,σ[i]?=some (some x)/\RD K mg ρ H v x
section
variable {K:KF}{mg:Str->Option Value}{ρ ρ' ρ'':Own}{H H' H'':L2.Hp}{s s':Sto}
def HR.obj(h:HR K mg ρ s H)(i:Nat)vs(e:s[i]?=some (Cel.c vs)):∃(a:Addr) (xs:List L2.V),ρ.o[i]?=some a/\H a=some (.b xs)/\RDs K mg ρ H vs xs:=by obtain⟨a,e1,xs,e2,r⟩:=h.g i _ e;exact⟨a,xs,e1,e2,r⟩
def CR.there(h:CR K mg ρ H a c):∃o,H a=some o:=by
 cases c with
 |c vs=>obtain⟨xs,e,_⟩:=h;exact⟨_,e⟩
 |e kvs=>obtain⟨xs,e,_⟩:=h;exact⟨_,e⟩
 |d kvs=>obtain⟨xs,e,_⟩:=h;exact⟨_,e⟩
 |f x=>obtain⟨ps,e,_⟩:=h;exact⟨_,e⟩
theorem CR.hk{a:Addr}{c:Cel}(h:CR K mg ρ H a c):0<hk (H a):=by
 cases c with
 |c vs=>obtain⟨xs,e,_⟩:=h;rw[e];exact CI 0
 |e kvs=>obtain⟨xs,e,_⟩:=h;rw[e];exact EC rfl
 |d kvs=>obtain⟨xs,e,_⟩:=h;rw[e];exact EC rfl
 |f x=>obtain⟨ps,e,_⟩:=h;rw[e];exact EC rfl
def HR.trk(h:HR K mg ρ s H)(ha:a∈ρ.o):∃o,H a=some o:=by
 obtain⟨i,hi,e⟩:=BZ ha;have hs:i<s.length:=by rw[<-h.f];exact hi
 obtain⟨b,e1,e2⟩:=h.g i _ (pn hs);rw[pn hi,e]at e1;cases e1;exact e2.there
def iP(h:hk (H a)=1):∃xs,H a=some (.b xs):=by
 cases e:H a with
 |none=>rw[e]at h;cases h
 |some o=>
  rw[e]at h;cases o with
  |b xs=>exact⟨xs,rfl⟩
  |_=>cases h
def HR.new(h:HR K mg ρ s H)(hp:H p=none):ρ.no p:=by
 refine⟨λhm=>?_,λhm=>?_⟩
 . obtain⟨xs,e⟩:=h.trk hm
   rw[hp]at e;cases e
 . obtain⟨⟨xs,e⟩,_⟩:=h.d p hm
   rw[hp]at e;cases e
def Ext.refl:Ext ρ H ρ H:=⟨⟨[],by simp,λa ha=>by cases ha⟩,rfl,λa o e _=>e,λ_ _=>rfl⟩
def Ext.Qy(x:Ext ρ H ρ' H')(e:H a=some o)(n:ρ.no a):ρ'.no a:=by
 obtain⟨new,e1,hn⟩:=x.d;refine⟨?_,by rw[x.f];exact n.2⟩
 rw[e1];intro hm;rcases AO.mp hm with hm|hm
 . exact n.1 hm
 . rw[hn a hm]at e;cases e
def Ext.get(x:Ext ρ H ρ' H'){i:Nat}(e:ρ.o[i]?=some a):ρ'.o[i]?=some a:=by obtain⟨new,e1,hn⟩:=x.d;have hi:i<ρ.o.length:=(Ad.mp e).1;rw[e1,AJ hi];exact e
theorem Ext.trans(x:Ext ρ H ρ' H')(h:HR K mg ρ' s H')(y:Ext ρ' H' ρ'' H''):Ext ρ H ρ'' H'':=by
 obtain⟨new,e1,hn⟩:=x.d;obtain⟨new2,e2,hn2⟩:=y.d;refine⟨⟨new++new2,by rw[e2,e1,Bc],λa ha=>?_⟩,y.f.trans x.f,λa o e n=>y.c a o (x.c a o e n) ?_,λa ha=>(y.g a (by rw[e1];exact Bs _ ha)).trans (x.g a ha)⟩
 . rcases AO.mp ha with ha|ha
   . exact hn a ha
   . cases q:H a with
     |none=>rfl
     |some o=>
      by_cases hm:a∈ρ.o
      . obtain⟨xs,e⟩:=h.trk (a:=a) (by rw[e1];exact Bs _ hm)
        rw[hn2 a ha]at e;cases e
      . have:=x.c a o q hm
        rw[hn2 a ha]at this;cases this
 . rw[e1]
   intro hm;rcases AO.mp hm with hm|hm
   . exact n hm
   . rw[hn a hm]at e;cases e
def SC.sql(h:SC K ρ H a xs):L2.SqL K H a xs:=by
 rcases h with⟨_,h⟩|h
 . exact .inl h
 . exact .inr h
def KT.sqt(h:KT K a xs):L2.SqT K H a xs:=.inr h
structure Mv(ρ:Own)(H:L2.Hp)(ρ':Own)(H':L2.Hp):Prop where
 b:∀(a:Addr) (o:L2.HO),H a=some o->ρ.no a->H' a=some o/\ρ'.no a
 c:∀(i:Nat) (a:Addr),ρ.o[i]?=some a->ρ'.o[i]?=some a
 d:∀a∈ρ.o,hk (H' a)=hk (H a)
def Ext.mv(x:Ext ρ H ρ' H'):Mv ρ H ρ' H':=⟨λa o e n=>⟨x.c a o e n.1,x.Qy e n⟩,λi a e=>x.get e,x.g⟩
def SC.mv(x:Mv ρ H ρ' H')(h:SC K ρ H a xs):SC K ρ' H' a xs:=by
 rcases h with⟨n,h|⟨o,h⟩⟩|h
 . exact .inl ⟨(x.b _ _ h n).2,.inl (x.b _ _ h n).1⟩
 . exact .inl ⟨(x.b _ _ h n).2,.inr ⟨o,(x.b _ _ h n).1⟩⟩
 . exact .inr h
end
mutual
theorem RD.mv{K:KF}{mg:Str->Option Value}{ρ ρ':Own}{H H':L2.Hp}(x:Mv ρ H ρ' H'){v:Val}{u:L2.V}(q:RD K mg ρ H v u):RD K mg ρ' H' v u:=by
 cases q with
 |s=>exact .s
 |j b=>exact .j b
 |l i=>exact .l i
 |E t=>exact .E t
 |m n e r=>exact .m (x.b _ _ e n).2 (x.b _ _ e n).1 (RDs.mv x r)
 |D n e r=>exact .D (x.b _ _ e n).2 (x.b _ _ e n).1 (RDs.mv x r)
 |B n e=>exact .B (x.b _ _ e n).2 (x.b _ _ e n).1
 |p h=>exact .p h
 |F h=>exact .F (h.mv x)
 |C e k=>exact .C (x.c _ _ e) ((x.d _ (AF e)).trans k)
 |A e k=>exact .A (x.c _ _ e) (by rw[x.d _ (AF e)];exact k)
 |G e=>exact .G e
 |I n=>exact .I n
theorem RDs.mv{K:KF}{mg:Str->Option Value}{ρ ρ':Own}{H H':L2.Hp}(x:Mv ρ H ρ' H'){vs:List Val}{us:List L2.V}(q:RDs K mg ρ H vs us):RDs K mg ρ' H' vs us:=by
 cases q with
 |d=>exact .d
 |a r rs=>exact .a (RD.mv x r) (RDs.mv x rs)
end
theorem CR.mv(x:Mv ρ H ρ' H')(e:H' a=H a)(h:CR K mg ρ H a c):CR K mg ρ' H' a c:=by
 cases c with
 |c vs=>obtain⟨xs,e1,r⟩:=h;exact⟨xs,e.trans e1,RDs.mv x r⟩
 |e kvs=>obtain⟨xs,e1,k,r⟩:=h;exact⟨xs,e.trans e1,k,RDs.mv x r⟩
 |d kvs=>obtain⟨xs,e1,k,r⟩:=h;exact⟨xs,e.trans e1,k,RDs.mv x r⟩
 |f y=>
  obtain⟨ps,e1,k,r,g⟩:=h;refine⟨ps,e.trans e1,k,λpos cv hc=>?_,g⟩;obtain⟨c,o,vs,t,q1,q2,q3,q4⟩:=r pos cv hc;exact⟨c,o,vs,t,q1,(x.b _ _ q3 q2).2,(x.b _ _ q3 q2).1,q4⟩
def RD.mono(r:RD K mg ρ H v u)(x:Ext ρ H ρ' H'):RD K mg ρ' H' v u:=RD.mv x.mv r
def RDs.mono(r:RDs K mg ρ H v u)(x:Ext ρ H ρ' H'):RDs K mg ρ' H' v u:=RDs.mv x.mv r
end M
end
section
namespace M
open PySem
section
variable {K:KF}{mg:Str->Option Value}{ρ ρ' ρ'':Own}{H H' H'':L2.Hp}{s s':Sto}
theorem RDs.length(q:RDs K mg ρ H vs xs):vs.length=xs.length:=by
 cases q with
 |d=>rfl
 |a _ r=>rw[An,An,r.length]
theorem RDs.get{i:Nat}(q:RDs K mg ρ H vs xs)(e:vs[i]?=some v):∃x,xs[i]?=some x/\RD K mg ρ H v x:=by
 cases q with
 |d=>cases e
 |a r rs=>
  cases i with
  |zero=>cases e;exact⟨_,rfl,r⟩
  |succ i=>exact RDs.get (i:=i) rs e
theorem RDs.QU{i:Nat}(q:RDs K mg ρ H vs xs)(e:xs[i]?=some x):∃v,vs[i]?=some v/\RD K mg ρ H v x:=by
 cases q with
 |d=>cases e
 |a r rs=>
  cases i with
  |zero=>cases e;exact⟨_,rfl,r⟩
  |succ i=>exact RDs.QU (i:=i) rs e
theorem RDs.append(p:RDs K mg ρ H vs xs)(q:RDs K mg ρ H ws ys):RDs K mg ρ H (vs++ws) (xs++ys):=by
 cases p with
 |d=>exact q
 |a r rs=>exact .a r (rs.append q)
theorem RDs.take n(q:RDs K mg ρ H vs xs):RDs K mg ρ H (vs.take n) (xs.take n):=by
 cases n with
 |zero=>exact .d
 |succ n=>cases q with
  |d=>exact .d
  |a r rs=>exact .a r (rs.take n)
theorem RDs.drop n(q:RDs K mg ρ H vs xs):RDs K mg ρ H (vs.drop n) (xs.drop n):=by
 cases n with
 |zero=>exact q
 |succ n=>cases q with
  |d=>exact .d
  |a _ rs=>exact rs.drop n
theorem RDs.set(r:RD K mg ρ H v x)i(q:RDs K mg ρ H vs xs):RDs K mg ρ H (vs.set i v) (xs.set i x):=by
 cases q with
 |d=>exact .d
 |a q t=>cases i with
  |zero=>exact .a r t
  |succ i=>exact .a q (RDs.set r i t)
theorem RDs.rep(r:RDs K mg ρ H vs xs):∀k:Nat,RDs K mg ρ H (AG k vs).flatten (AG k xs).flatten
 |0=>.d
 |k+1=>by rw[Cg,Cg,C1,C1];exact r.append (RDs.rep r k)
theorem RDs.pick(r:RDs K mg ρ H vs xs):∀(is:List Nat),RDs K mg ρ H (is.filterMap λi=>vs[i]?) (is.filterMap λi=>xs[i]?)
 |[]=>.d
 |i::is=>by
  rw[A2,A2];cases hx:vs[i]? with
  |none=>
   have:xs[i]?=none:=by have h2:vs.length<=i:=C6.mp hx;exact C6.mpr (by rw[<-r.length];exact h2)
   rw[this];exact RDs.pick r is
  |some v=>
   obtain⟨u,hu,ru⟩:=r.get hx;rw[hu];exact .a ru (RDs.pick r is)
theorem RDs.yA(r:RDs K mg ρ H vs xs)lo st n:RDs K mg ρ H (L2.yA vs lo st n) (L2.yA xs lo st n):=by have h:=r.pick ((Al n).map λ(k:Nat)=>(lo+(k:Int)*st).toNat);rw[Cm,Cm]at h;exact h
theorem RDs.ints:∀(ns:List Int),RDs K mg ρ H (ns.map .c) (ns.map .d)
 |[]=>.d
 |n::ns=>.a (.l n) (RDs.ints ns)
def RDs.cut(r:RDs K mg ρ H vs xs)lo hi:RDs K mg ρ H (m7 vs lo hi) (L2.ou xs lo hi):=by unfold m7 L2.ou;rw[r.length];exact(r.drop _).take _
theorem Zu{α:Type}:∀{l:List α} {i j:Nat} {x},l.Nodup->l[i]?=some x->l[j]?=some x->i=j
 |[],_,_,_,_,e,_=>by simp at e
 |a::l,0,0,_,_,_,_=>rfl
 |a::l,0,j+1,x,nd,e1,e2=>by
  simp at e1 e2;subst e1;exact absurd (AF e2) (Cf.mp nd).1
 |a::l,i+1,0,x,nd,e1,e2=>by
  simp at e1 e2;subst e2;exact absurd (AF e1) (Cf.mp nd).1
 |a::l,i+1,j+1,x,nd,e1,e2=>by simp at e1 e2;rw[Zu (Cf.mp nd).2 e1 e2]
theorem Ext.new(h:HR K mg ρ s H)(hp:H p=none)o:Ext ρ H ρ (L2.upd H p o):=
 ⟨⟨[],by simp,λa ha=>by cases ha⟩,rfl,λa u e _=>by rw[L2.zY (L2.zp e hp)];exact e,λa ha=>by rw[L2.zY λz=>(h.new hp).1 (by rw[<-z];exact ha)]⟩
def HR.more(h:HR K mg ρ s H)(hp:H p=none)o:HR K mg ρ s (L2.upd H p o):=by
 refine⟨h.f,h.l,λi c e=>?_,λa ha=>?_⟩
 . obtain⟨a,e1,r⟩:=h.g i c e
   obtain⟨u,e2⟩:=r.there;exact⟨a,e1,r.mv (Ext.new h hp o).mv (L2.zY (L2.zp e2 hp))⟩
 . obtain⟨⟨xs,e⟩,n⟩:=h.d a ha
   exact⟨⟨xs,by rw[L2.zY (L2.zp e hp)];exact e⟩,n⟩
noncomputable def Own.more(ρ:Own)(p:Addr):Own:=⟨ρ.o++[p],ρ.h⟩
def Ext.own(h:HR K mg ρ s H)(hp:H p=none)o:Ext ρ H (ρ.more p) (L2.upd H p o):=
 ⟨⟨[p],rfl,λa ha=>by rw[Ao.mp ha];exact hp⟩,rfl,λa u e _=>by rw[L2.zY (L2.zp e hp)];exact e,λa ha=>by rw[L2.zY λz=>(h.new hp).1 (by rw[<-z];exact ha)]⟩
def pE(h:HR K mg ρ s H)p:(ρ.more p).o[s.length]?=some p:=by show (ρ.o++[p])[s.length]?=some p;rw[<-h.f,AR (Ac _)];simp
def HR.vn(h:HR K mg ρ s H)(hp:H p=none)(r:CR K mg (ρ.more p) (L2.upd H p o) p c):HR K mg (ρ.more p) (s++[c]) (L2.upd H p o):=by
 have X:=Ext.own h hp o;refine⟨by show (ρ.o++[p]).length=_;rw[Ak,Ak,h.f];rfl,?_,λi ws q=>?_,λa ha=>?_⟩
 . show (ρ.o++[p]).Nodup
   rw[FJ];exact⟨h.l,by simp,λa ha b hb=>by rw[Ao.mp hb];intro z;subst z;exact(h.new hp).1 ha⟩
 . by_cases hi:i<s.length
   . rw[AJ hi]at q
     obtain⟨a,e1,t⟩:=h.g i ws q;obtain⟨u,e2⟩:=t.there;exact⟨a,X.get e1,t.mv X.mv (L2.zY (L2.zp e2 hp))⟩
   . have hi':i=s.length:=by have:=(Ad.mp q).1;rw[Ak]at this;simp at this;omega
     subst hi';rw[AR (Ac _)]at q;simp at q;subst q;exact⟨p,pE h p,r⟩
 . obtain⟨⟨ys,q⟩,n⟩:=h.d a ha
   refine⟨⟨ys,by rw[L2.zY (L2.zp q hp)];exact q⟩,λhm=>?_⟩
   rcases AO.mp hm with hm|hm
   . exact n hm
   . rw[Ao.mp hm,hp]at q;cases q
theorem HR.own(h:HR K mg ρ s H)(hp:H p=none)(r:RDs K mg ρ H vs xs):HR K mg (ρ.more p) (s++[.c vs]) (L2.upd H p (.b xs)):=h.vn hp ⟨xs,L2.zt,r.mono (Ext.own h hp _)⟩
def Ext.tK(h:HR K mg ρ s H){i:Nat}(e:ρ.o[i]?=some a)(k:hk (some o)=hk (H a)):Ext ρ H ρ (L2.upd H a o):=
 ⟨⟨[],by simp,λa ha=>by cases ha⟩,rfl,λb u q n=>by rw[L2.zY (λz=>n (by rw[z];exact AF e))];exact q,λb hb=>by
   by_cases z:b=a
   . subst z;rw[L2.zt];exact k
   . rw[L2.zY z]⟩
def Ext.write(h:HR K mg ρ s H){i:Nat}(e:ρ.o[i]?=some a)(k:H a=some (.b ys))xs:Ext ρ H ρ (L2.upd H a (.b xs)):=Ext.tK h e (by rw[k];rfl)
theorem HR.tK(h:HR K mg ρ s H)(e:ρ.o[i]?=some a)(k:hk (some o)=hk (H a))(r:CR K mg ρ (L2.upd H a o) a c):HR K mg ρ (s.set i c) (L2.upd H a o):=by
 have X:=Ext.tK h e k;refine⟨by rw[A6];exact h.f,h.l,λj ws q=>?_,λb hb=>?_⟩
 . skip
   by_cases hij:i=j
   . subst hij
     have hi:i<s.length:=by rw[<-h.f];exact(Ad.mp e).1
     rw[AE hi]at q;cases q;exact⟨a,e,r⟩
   . rw[Bt hij]at q
     obtain⟨b,e1,t⟩:=h.g j ws q;refine⟨b,e1,t.mv X.mv ?_⟩;have hb:b≠a:=by intro z;subst z;exact hij (Zu h.l e e1)
     rw[L2.zY hb]
 . obtain⟨⟨ys,q⟩,n⟩:=h.d b hb
   exact⟨⟨ys,by rw[L2.zY (λz=>n (by rw[z];exact AF e))];exact q⟩,n⟩
theorem HR.write(h:HR K mg ρ s H)(e:ρ.o[i]?=some a)(k:H a=some (.b ys))(r:RDs K mg ρ H vs xs):HR K mg ρ (upd s i vs) (L2.upd H a (.b xs)):=
 h.tK e (by rw[k];rfl) ⟨xs,L2.zt,r.mono (Ext.write h e k xs)⟩
theorem ER.mono(x:Ext ρ H ρ' H')(h:ER K mg ρ H env σ):ER K mg ρ' H' env σ:=⟨h.b,λi v e=>by obtain⟨u,h1,h2⟩:=h.a i v e;exact⟨u,h1,h2.mono x⟩⟩
theorem ER.set(h:ER K mg ρ H env σ)i(r:RD K mg ρ H v x):ER K mg ρ H (env.set i (some v)) (σ.set i (some x)):=by
 refine⟨by rw[A6,A6,h.b],λj w e=>?_⟩
 by_cases hij:i=j
 . subst hij
   by_cases hi:i<env.length
   . rw[AE hi]at e
     cases e;exact⟨x,by rw[AE (by rw[<-h.b];exact hi)],r⟩
   . rw[DI (by rw[A6];omega)]at e
     cases e
 . rw[Bt hij]at e
   rw[Bt hij];exact h.a j w e
end
section
variable (K:KF)(mg:Str->Option Value)
def xr{α β:Type}(R:Own->L2.Hp->α->β->Prop)(ρ:Own)(H:L2.Hp)(o:Out α)(Q:β->L2.Hp->Prop):Prop:=
 match o with
 |.e v s'=>∀ρ' x H',Ext ρ H ρ' H'->HR K mg ρ' s' H'->R ρ' H' v x->Q x H'
 |_=>False
def tV(env:Env)(s:Sto)(o:Out Val):L2.TE:=λσ H Q=>∃ρ,HR K mg ρ s H/\ER K mg ρ H env σ/\xr K mg (RD K mg) ρ H o Q
def tVs(env:Env)(s:Sto)(o:Out (List Val)):L2.TA:=λσ H Q=>∃ρ,HR K mg ρ s H/\ER K mg ρ H env σ/\xr K mg (RDs K mg) ρ H o Q
def tT(env:Env)(s:Sto)(o:Out Bool):L2.TT:=λσ H Q=>∃ρ,HR K mg ρ s H/\ER K mg ρ H env σ/\xr K mg (λ_ _ a b=>a=b) ρ H o Q
def tO(env:Env)(s:Sto)(o:Out (Option Int)):L2.TO:=λσ H Q=>∃ρ,HR K mg ρ s H/\ER K mg ρ H env σ/\xr K mg (λ_ _ a b=>a=b) ρ H o Q
end
section
variable {X:L2.Cx}{e:Expr}
def z9(h:L2.PE X e t)(i:∀σ H Q,t' σ H Q->t σ H Q):L2.PE X e t':=λpins s σ H Q I q=>h pins s σ H Q I (i σ H Q q)
def lR(h:L2.PT X e t)(i:∀σ H Q,t' σ H Q->t σ H Q):L2.PT X e t':=λpins s σ H Q I q=>h pins s σ H Q I (i σ H Q q)
def YD{t t':L2.TA}(h:L2.PA X es t)(i:∀σ H Q,t' σ H Q->t σ H Q):L2.PA X es t':=λpos pins s σ H Q I q=>h pos pins s σ H Q I (i σ H Q q)
def wx{t t':L2.TS}(h:L2.PS X st t)(i:∀D σ H,t' D σ H->t D σ H):L2.PS X st t':=λpins s σ H D I q=>h pins s σ H D I (i D σ H q)
def eI{t t':L2.TS}(h:L2.PSs X st t)(i:∀D σ H,t' D σ H->t D σ H):L2.PSs X st t':=λpins s σ H D I q=>h pins s σ H D I (i D σ H q)
def PZ(h:∀σ H Q,¬t σ H Q):L2.PE X e t:=λpins s σ H Q I q=>(h σ H Q q).elim
def Pk(h:∀σ H Q,¬t σ H Q):L2.PT X e t:=λpins s σ H Q I q=>(h σ H Q q).elim
def Pn(h:∀σ H Q,¬t σ H Q):L2.PW X e t:=λwh pins s σ H Q I q=>(h σ H Q q).elim
def PU{t:L2.TA}(h:∀σ H Q,¬t σ H Q):L2.PA X es t:=λpos pins s σ H Q I q=>(h σ H Q q).elim
end
section
variable {K:KF}{mg:Str->Option Value}{env:Env}{s:Sto}
def OM(h:∀v s',o≠.e v s'):¬tV K mg env s o σ H Q:=by
 rintro ⟨ρ,_,_,w⟩;cases o with
 |e v s'=>exact h v s' rfl
 |_=>exact w
def Rk(h:∀v s',o≠.e v s'):¬tVs K mg env s o σ H Q:=by
 rintro ⟨ρ,_,_,w⟩;cases o with
 |e v s'=>exact h v s' rfl
 |_=>exact w
def UL(h:∀v s',o≠.e v s'):¬tT K mg env s o σ H Q:=by
 rintro ⟨ρ,_,_,w⟩;cases o with
 |e v s'=>exact h v s' rfl
 |_=>exact w
end
end M
end
section
namespace M
open PySem
def yx:zX=Ar:=by rw[BR];rfl
section
variable {K:KF}{mg:Str->Option Value}{ρ ρ':Own}{H H':L2.Hp}{s s':Sto}
def vF(hr:HR K mg ρ s H)(r:RD K mg ρ H v x)(e:z8 s v=some vs):∃a xs,x=.c a/\H a=some (.b xs)/\RDs K mg ρ H vs xs:=by
 cases r with
 |D n h q=>cases e;exact⟨_,_,rfl,h,q⟩
 |@C a i h _=>
  simp only[z8]at e;split at e
  . rename_i ws hw
    cases e;obtain⟨b,xs,e1,e2,q⟩:=hr.obj i _ hw;rw[h]at e1;cases e1;exact⟨_,_,rfl,e2,q⟩
  . cases e
 |_=>cases e
def gQ(hr:HR K mg ρ s H)(r:RD K mg ρ H v x)(e:wR s v=some vs):∃a xs,x=.c a/\(L2.SqL K H a xs\/L2.SqT K H a xs)/\RDs K mg ρ H vs xs:=by
 cases r with
 |D n h q=>cases e;exact⟨_,_,rfl,.inl (.of h),q⟩
 |m n h q=>cases e;exact⟨_,_,rfl,.inr (.of h),q⟩
 |p h=>cases e;exact⟨_,_,rfl,.inr h.sqt,RDs.ints _⟩
 |F h=>cases e;exact⟨_,_,rfl,.inl h.sql,RDs.ints _⟩
 |@C a i h _=>
  simp only[wR]at e;split at e
  . rename_i ws hw
    cases e;obtain⟨b,xs,e1,e2,q⟩:=hr.obj i _ hw;rw[h]at e1;cases e1;exact⟨_,_,rfl,.inl (.of e2),q⟩
  . cases e
 |_=>cases e
mutual
theorem RD.reads{P:Program}{w:World}{h:Heap}(ok:L2.HOk P w H h){v:Val}{x:L2.V}{u:Value}(q:RD K mg ρ H v x)(hv:v.isR=true)(r:L2.RelV x u):∃as,Reads h u v.d as/\(L2.vI v.d=false->BN ∉ as):=by
 cases q with
 |s=>cases (show u=B7 from r);exact⟨[],.none,λ_=>by simp⟩
 |j b=>cases (show u=DM b from r);exact⟨[],.bool b,λ_=>by simp⟩
 |l i=>obtain⟨t,q⟩:=(show ∃t,u=Dd i t from r);cases q;exact⟨[],.int i t,λ_=>by simp⟩
 |E x=>obtain⟨t,q⟩:=(show ∃t,u=Gn x t from r);cases q;exact⟨[],.str x t,λ_=>by simp⟩
 |@D a vs xs n ha rs=>
  cases (show u=A4 a from r);obtain⟨z,its,n,rv,e⟩:=(show L2.yB P w H h a (.b xs) from ok a _ ha);obtain⟨as,q,_⟩:=RDs.reads ok rs (by simpa only[Val.isR] using hv) rv
  exact⟨a::as,.list e rfl rfl (by simpa using q),λz=>by simp[Val.d,L2.vI]at z⟩
 |@m a vs xs n ha rs=>
  cases (show u=A4 a from r);obtain⟨z,its,rv,o,e,c,n,dd⟩:=(show L2.yB P w H h a (.c xs) from ok a _ ha);obtain⟨as,q,q2⟩:=RDs.reads ok rs (by simpa only[Val.isR] using hv) rv
  exact⟨as,.tuple e c dd.1 (by simpa using q),λz=>q2 (by simpa [Val.d,L2.vI] using z)⟩
 |@B a n ha=>
  cases (show u=A4 a from r);obtain⟨z,y,vs,rv,o,es,ep,e,c,dd,k⟩:=(show L2.yB P w H h a (.d []) from ok a _ ha);cases rv;have hes:es=#[]:=by
   have h2:=k.2.1;cases hl:es.toList with
   |nil=>simpa using hl
   |cons a r=>rw[hl]at h2;cases h2
  subst hes;refine⟨[a]++[],Reads.dict (as:=[]) (bs:=[]) e c.1 dd .nil .nil,λ_=>?_⟩;have:a≠BN:=by simpa using y
  simpa using BP this
 |p _=>cases hv
 |F _=>cases hv
 |C _ _=>cases hv
 |A _ _=>cases hv
 |G _=>cases hv
 |I _=>cases hv
theorem RDs.reads{P:Program}{w:World}{h:Heap}(ok:L2.HOk P w H h){vs:List Val}{xs:List L2.V}{us:List Value}(p:RDs K mg ρ H vs xs)(hv:lG vs=true)(q:L2.Vals xs us):∃as,ReadsAll h us (ds vs) as/\(L2.wm (ds vs)=false->BN ∉ as):=by
 cases p with
 |d=>cases q;exact⟨[],.nil,λ_=>by simp⟩
 |a r rs=>
  cases q with
  |cons q1 q2=>
   rw[lG,nx]at hv;obtain⟨as,h1,h2⟩:=RD.reads ok r hv.1 q1;obtain⟨bs,h3,h4⟩:=RDs.reads ok rs hv.2 q2;refine⟨as++bs,.cons h1 h3,λz=>?_⟩;rw[ds,L2.wm,DR]at z;intro hm;rcases AO.mp hm with hm|hm
   . exact h2 z.1 hm
   . exact h4 z.2 hm
end
def rB(ok:L2.HOk P w H h)(hr:HR K mg ρ s H)(hv:(xw s v).isR=true)(r:RD K mg ρ H v x)(ru:L2.RelV x u) :
 ∃as,Reads h u (xw s v).d as/\(L2.vI (xw s v).d=false->BN ∉ as):=by
 cases v with
 |h i=>
  cases r with
  |@C a _ e0=>
  simp only[xw]at hv ⊢;split at hv
  . rename_i ws hw
    obtain⟨b,xs,e1,e2,q⟩:=hr.obj i _ hw;rw[e0]at e1;cases e1;cases (show u=A4 a from ru);obtain⟨z,its,n,rv,e⟩:=(show L2.yB P w H h a (.b xs) from ok a _ e2);obtain⟨as,q,_⟩:=RDs.reads ok q (by simpa only[Val.isR] using hv) rv
    exact⟨a::as,.list e rfl rfl (by simpa using q),λz=>by simp[Val.d,L2.vI]at z⟩
  . cases hv
 |_=>exact RD.reads ok r hv ru
theorem RDs.Yc(ok:L2.HOk P w H h)(hr:HR K mg ρ s H):∀{vs} {xs} {us},RDs K mg ρ H vs xs->lG (vs.map (xw s))=true->L2.Vals xs us->∃as,ReadsAll h us (ds (vs.map (xw s))) as/\(L2.wm (ds (vs.map (xw s)))=false->BN ∉ as)
 |_,_,_,.d,_,r=>by cases r;exact⟨[],.nil,λ_=>by simp⟩
 |_,_,_,.a r rs,hv,q=>by
  cases q with
  |cons q1 q2=>
   rw[Aw,lG,nx]at hv;obtain⟨as,h1,h2⟩:=rB ok hr hv.1 r q1;obtain⟨bs,h3,h4⟩:=RDs.Yc ok hr rs hv.2 q2;rw[Aw];refine⟨as++bs,.cons h1 h3,λz=>?_⟩;rw[ds,L2.wm,DR]at z;intro hm;rcases AO.mp hm with hm|hm
   . exact h2 z.1 hm
   . exact h4 z.2 hm
def aY{v:Val}(h:∀vs,v≠.f vs):yT s v=xw s v:=by
 cases v<;>first|rfl|exact absurd rfl (h _)
def w5(ok:L2.HOk P w H h)(hr:HR K mg ρ s H)(hv:(yT s v).isR=true)(r:RD K mg ρ H v x)(ru:L2.RelV x u) :
 ∃as,Reads h u (yT s v).d as/\(L2.vI (yT s v).d=false->BN ∉ as):=by
 cases v with
 |f vs=>
  cases r with
  |@m a _ xs n ha rs=>
   cases (show u=A4 a from ru);obtain⟨z,its,rv,o,e,c,n,dd⟩:=(show L2.yB P w H h a (.c xs) from ok a _ ha);obtain⟨as,q,q2⟩:=RDs.Yc ok hr rs (by simpa only[yT,Val.isR] using hv) rv
   exact⟨as,.tuple e c dd.1 (by simpa using q),λz=>q2 (by simpa [yT,Val.d,L2.vI] using z)⟩
 |_=>exact(show _ from by rw[aY (λ_ h=>by cases h)]at hv ⊢;exact rB ok hr hv r ru)
mutual
theorem xJ:∀{v:Val},v.isD=true->v.isR=true
 |.g,_=>rfl
 |.e _,_=>rfl
 |.c _,_=>rfl
 |.j _,_=>rfl
 |.f vs,h=>by rw[Val.isR];exact uL (by simpa only[Val.isD] using h)
 |.k vs,h=>by rw[Val.isR];exact uL (by simpa only[Val.isD] using h)
 |.o,h=>by cases h
 |.m _,h=>by cases h
 |.p _,h=>by cases h
 |.h _,h=>by cases h
 |.r _,h=>by cases h
 |.q _,h=>by cases h
theorem uL:∀{vs:List Val},uK vs=true->lG vs=true
 |[],_=>rfl
 |v::vs,h=>by rw[uK,nx]at h;rw[lG,xJ h.1,uL h.2];rfl
end
mutual
theorem yI:∀{v:Val},v.isD=true->v.d.canLay0=true
 |.g,_=>rfl
 |.e _,_=>rfl
 |.c _,_=>rfl
 |.j _,h=>by simpa only[Val.isD,Val.d,GH] using h
 |.f vs,h=>by rw[Val.d,GH];exact vA (by simpa only[Val.isD] using h)
 |.k vs,h=>by rw[Val.d,GH];exact vA (by simpa only[Val.isD] using h)
 |.o,h=>by cases h
 |.m _,h=>by cases h
 |.p _,h=>by cases h
 |.h _,h=>by cases h
 |.r _,h=>by cases h
 |.q _,h=>by cases h
theorem vA:∀{vs:List Val},uK vs=true->PyData.canLayAll0 (ds vs)=true
 |[],_=>rfl
 |v::vs,h=>by rw[uK,nx]at h;rw[ds,PyData.canLayAll0,yI h.1,vA h.2];rfl
end
def tu(hr:HR K mg ρ s H)(r:RDs K mg ρ H vs xs)(w:xr K mg (RD K mg) ρ H (newList m vs s) Q):∀p,H p=none->Q (.c p) (L2.upd H p (.b xs)):=λp hp=>by
 cases m with
 |true=>exact w _ _ _ (Ext.own hr hp _) (hr.own hp r) (.C (pE hr p) (by rw[L2.zt];rfl))
 |false=>exact w _ _ _ (Ext.new hr hp _) (hr.more hp _) (.D (hr.new hp) L2.zt (r.mono (Ext.new hr hp _)))
def lK(hr:HR K mg ρ s H)(r:RDs K mg ρ H vs xs)(w:xr K mg (RD K mg) ρ H (.e (.f vs) s) Q):∀p,H p=none->Q (.c p) (L2.upd H p (.c xs)):=λp hp=>
 w _ _ _ (Ext.new hr hp _) (hr.more hp _) (.m (hr.new hp) L2.zt (r.mono (Ext.new hr hp _)))
def Ext.same(hr:HR K mg ρ s H)(e:L2.rn H H'):Ext ρ H ρ H':=⟨⟨[],by simp,λa ha=>by cases ha⟩,rfl,λa o h _=>e a o h,λa ha=>by obtain⟨o,q⟩:=hr.trk ha;rw[q,e a o q]⟩
theorem HR.same(hr:HR K mg ρ s H)(e:L2.rn H H'):HR K mg ρ s H':=⟨hr.f,hr.l,λi c q=>by
 obtain⟨a,e1,r⟩:=hr.g i c q;obtain⟨o,e2⟩:=r.there;exact⟨a,e1,r.mv (Ext.same hr e).mv ((e a _ e2).trans e2.symm)⟩,λa ha=>by
 obtain⟨⟨ys,q⟩,n⟩:=hr.d a ha;exact⟨⟨ys,e a _ q⟩,n⟩⟩
def um(hr:HR K mg ρ s H)(r:RDs K mg ρ H vs xs)(w:xr K mg (RD K mg) ρ H (.e (.f vs) s) Q):L2.qc H xs Q:=λp H' e h=>by
 have hr':=hr.same e;refine w _ _ _ (Ext.same hr e) hr' (.m ⟨λhm=>?_,λhm=>?_⟩ h (r.mono (Ext.same hr e)))
 . obtain⟨i,hi,q⟩:=BZ hm
   have hs:i<s.length:=by rw[<-hr'.f];exact hi
   obtain⟨b,e1,e2⟩:=hr'.g i _ (pn hs);rw[pn hi,q]at e1;cases e1;have:=e2.hk;rw[h]at this;exact absurd this (Bp 0)
 . obtain⟨⟨ys,q⟩,_⟩:=hr'.d _ hm
   rw[h]at q;cases q
end
section
variable (K:KF)(mg:Str->Option Value)
def rM2(g:Val->Val->Sto->Out Val):L2.R2:=λx y H Q=>∃ρ s v w,HR K mg ρ s H/\RD K mg ρ H v x/\RD K mg ρ H w y/\xr K mg (RD K mg) ρ H (g v w s) Q
def rMc(g:List Val->Sto->Out Val):List L2.V->L2.Hp->L2.VK->Prop:=λxs H Q=>∃ρ s vs,HR K mg ρ s H/\RDs K mg ρ H vs xs/\xr K mg (RD K mg) ρ H (g vs s) Q
end
section
variable {X:L2.Cx}{k:Nat}
def zV(hr:HR K mg ρ s H)(r:RD K mg ρ H v x)(w:xr K mg (RD K mg) ρ H (.e v s) Q):Q x H:=w _ _ _ Ext.refl hr r
def ir m:L2.OpR X (BI .Add) (rM2 X.K X.d (binOp m .a)):=by
 intro pins s σ H x y v u Q I rx ry h;obtain⟨ρ,t,a,b,hr,ra,rb,w⟩:=h;simp only[binOp]at w;split at w
 . cases ra;cases rb
   exact L2.SN pins s σ H _ _ v u Q I rx ry ⟨_,_,rfl,rfl,zV hr (.l _) w⟩
 . split at w
   . rename_i hz
     cases ra;cases rb;exact L2.iq pins s σ H _ _ v u Q I rx ry ⟨_,_,rfl,rfl,by rw[<-yx];exact hz,zV hr (.E _) w⟩
   . exact w.elim
 . split at w
   . rename_i hz
     cases ra with
     |m n1 h1 q1=>
      cases rb with
      |m n2 h2 q2=>
       refine L2.Z2 pins s σ H _ _ v u Q I rx ry ⟨_,_,_,_,rfl,rfl,h1,h2,?_,um hr (q1.append q2) w⟩;rw[<-q1.length,<-q2.length,<-yx];exact hz
   . exact w.elim
 . split at w
   . rename_i ea eb
     split at w
     . rename_i hz
       obtain⟨p1,xs,rfl,h1,q1⟩:=vF hr ra ea;obtain⟨p2,ys,rfl,h2,q2⟩:=vF hr rb eb;refine L2.SR pins s σ H _ _ v u Q I rx ry ⟨_,_,_,_,rfl,rfl,h1,h2,?_,tu hr (q1.append q2) w⟩;rw[<-q1.length,<-q2.length,<-yx];exact hz
     . exact w.elim
   . exact w.elim
def i6 m:L2.OpR X (BI .Sub) (rM2 X.K X.d (binOp m .c)):=by
 intro pins s σ H x y v u Q I rx ry h;obtain⟨ρ,t,a,b,hr,ra,rb,w⟩:=h;simp only[binOp]at w;split at w
 . cases ra;cases rb
   exact L2.Sb pins s σ H _ _ v u Q I rx ry ⟨_,_,rfl,rfl,zV hr (.l _) w⟩
 . exact w.elim
def iy m:L2.OpR X (BI .Mult) (rM2 X.K X.d (binOp m .b)):=by
 intro pins s σ H x y v u Q I rx ry h;obtain⟨ρ,t,a,b,hr,ra,rb,w⟩:=h;simp only[binOp]at w;split at w
 . split at w
   . rename_i hz
     cases ra;cases rb;exact L2.SX pins s σ H _ _ v u Q I rx ry ⟨_,_,rfl,rfl,hz,zV hr (.l _) w⟩
   . exact w.elim
 . split at w
   . rename_i hz
     obtain⟨z1,z2,z3,z4⟩:=hz;cases ra with
     |m n1 h1 q1=>
      cases rb;refine L2.Wo pins s σ H _ _ v u Q I rx ry ⟨_,_,_,rfl,rfl,h1,z1,z2,?_,?_,um hr (q1.rep _) w⟩
      . intro e;subst e;cases q1;exact z3 rfl
      . rw[<-q1.length];exact z4
   . exact w.elim
 . split at w
   . rename_i ea
     split at w
     . rename_i hz
       obtain⟨z1,z2,z3⟩:=hz;obtain⟨p1,xs,rfl,h1,q1⟩:=vF hr ra ea;cases rb;refine L2.Sa pins s σ H _ _ v u Q I rx ry ⟨_,_,_,rfl,rfl,h1,⋯,⋯,?_,tu hr (q1.rep _) w⟩
       rw[<-q1.length,<-yx];exact z3
     . exact w.elim
   . exact w.elim
 . exact w.elim
def jD m:L2.OpR X (BI .FloorDiv) (rM2 X.K X.d (binOp m .e)):=by
 intro pins s σ H x y v u Q I rx ry h;obtain⟨ρ,t,a,b,hr,ra,rb,w⟩:=h;simp only[binOp]at w;split at w
 . split at w
   . rename_i hz
     cases ra;cases rb;exact L2.Wm pins s σ H _ _ v u Q I rx ry ⟨_,_,rfl,rfl,hz,zV hr (.l _) w⟩
   . exact w.elim
 . exact w.elim
def iu m:L2.OpR X (BI .Mod) (rM2 X.K X.d (binOp m .d)):=by
 intro pins s σ H x y v u Q I rx ry h;obtain⟨ρ,t,a,b,hr,ra,rb,w⟩:=h;simp only[binOp]at w;split at w
 . split at w
   . rename_i hz
     cases ra;cases rb;exact L2.SW pins s σ H _ _ v u Q I rx ry ⟨_,_,rfl,rfl,hz,zV hr (.l _) w⟩
   . exact w.elim
 . exact w.elim
def iz m:L2.OpR X (BI .Pow) (rM2 X.K X.d (binOp m .g)):=by
 intro pins s σ H x y v u Q I rx ry h;obtain⟨ρ,t,a,b,hr,ra,rb,w⟩:=h;simp only[binOp]at w;split at w
 . split at w
   . rename_i hz
     cases ra;cases rb;exact L2.SY pins s σ H _ _ v u Q I rx ry ⟨_,_,rfl,rfl,hz,zV hr (.l _) w⟩
   . exact w.elim
 . exact w.elim
end
end M
end
section
namespace L2
open PySem PyProof PyProof.Rows
section
variable {κ:Type} [DecidableEq κ]
noncomputable def qW(kvs:List (κ × V))(k:κ):Option V:=(kvs.find? λkv=>decide (kv.1=k)).map (·.2)
noncomputable def putK(kvs:List (κ × V))(k:κ)(v:V):List (κ × V):=
 if (kvs.any λkv=>decide (kv.1=k))=true then kvs.map (λkv=>if kv.1=k then (kv.1,v) else kv) else kvs++[(k,v)]
def rg{k:κ}(e:p.1=k):qW (p::r) k=some p.2:=by simp[qW,CU,e]
def rZ{k:κ}(e:¬p.1=k):qW (p::r) k=qW r k:=by simp[qW,CU,e]
theorem om k:∀kvs:List (κ × V),(kvs.any λkv=>decide (kv.1=k))=(qW kvs k).isSome
 |[]=>rfl
 |p::r=>by
  rw[CZ];by_cases e:p.1=k
  . simp only[rg e,decide_eq_true e,Bool.true_or,Option.isSome_some]
  . rw[rZ e,decide_eq_false e,GR];exact om k r
def qh kvs(k:κ)v:(putK kvs k v).length<=kvs.length+1:=by
 unfold putK;split
 . rw[zI];omega
 . rw[Ak,An,BE];omega
def pN.qH(r:pN o u):o.isSome=u.isSome:=by
 cases o with
 |none=>cases u with
  |none=>rfl
  |some _=>exact(show False from r).elim
 |some _=>cases u with
  |none=>exact(show False from r).elim
  |some _=>rfl
def KV.val(r:KV kvs vs)(k:κ):pN (qW kvs k) (valueAt vs k):=by
 unfold KV at r;induction r with
 |nil=>exact A5
 |@cons p q ps qs h t ih=>
  obtain⟨h1,h2⟩:=h;by_cases e:p.1=k
  . have e':q.1=k:=h1.symm.trans e
    have b:valueAt (q::qs) k=some q.2:=by simp[valueAt,CU,e']
    rw[rg e,b];exact h2
  . have e':¬q.1=k:=λz=>e (h1.trans z)
    have b:valueAt (q::qs) k=valueAt qs k:=by simp[valueAt,CU,e']
    rw[rZ e,b];exact ih
theorem KV.any(r:KV kvs vs)(k:κ):(kvs.any λkv=>decide (kv.1=k))=vs.any λkv=>decide (kv.1=k):=by
 unfold KV at r;induction r with
 |nil=>rfl
 |cons h t ih=>rw[CZ,CZ,ih,h.1]
def KV.RQ(r:KV kvs vs)(k:κ)(ry:RelV y u) :
 KV (kvs.map λkv=>if kv.1=k then (kv.1,y) else kv) (vs.map λkv=>if kv.1=k then (kv.1,u) else kv):=by
 unfold KV at r ⊢;induction r with
 |nil=>exact .nil
 |@cons p q ps qs h t ih=>
  rw[Aw,Aw];refine .cons ?_ ih;obtain⟨h1,h2⟩:=h;by_cases e:p.1=k
  . rw[if_pos e,if_pos (h1.symm.trans e)];exact⟨h1,ry⟩
  . rw[if_neg e,if_neg (λz=>e (h1.trans z))];exact⟨h1,h2⟩
def KV.put(r:KV kvs vs)(k:κ)(ry:RelV y u):KV (putK kvs k y) (stored vs k u):=by
 unfold putK stored;rw[r.any k];by_cases e:(vs.any λkv=>decide (kv.1=k))=true
 . rw[if_pos e,if_pos e];exact r.RQ k ry
 . rw[if_neg e,if_neg e];exact Paired.snoc r ⟨rfl,ry⟩
theorem KV.length{kvs:List (κ × V)}{vs:List (κ × Value)}(r:KV kvs vs):kvs.length=vs.length:=Fj r
end
def fv(r:RelV (kV k) u):(xY P w).is k u=true:=by
 cases k with
 |inl i=>obtain⟨t,e⟩:=(show ∃t,u=Dd i t from r);subst e;exact km P w i t
 |inr x=>obtain⟨t,e⟩:=(show ∃t,u=Gn x t from r);subst e;exact kn P w x t
theorem nv:∀{ks} {us},Vals (ks.map kV) us->ItemsAre (xY P w) ks us
 |[],_,r=>by rw[FY]at r;cases r;exact .nil
 |k::ks,_,r=>by
  rw[Aw]at r;cases r with
  |cons h t=>exact .cons (fv h) (nv t)
abbrev KT(H:Hp):List (List Key × V)->List (List Key × Addr × Value)->Prop:=Paired λp q=>p.1=q.1/\H q.2.1=some (.c (p.1.map kV))/\RelV p.2 q.2.2
def KT.val(r:KT H kvs xs)k:pN (qW kvs k) ((atKey xs k).map (·.2)):=by
 induction r with
 |nil=>exact A5
 |@cons p q ps qs h t ih=>
  obtain⟨h1,_,h2⟩:=h;by_cases e:p.1=k
  . have e':q.1=k:=h1.symm.trans e
    have b:atKey (q::qs) k=some q.2:=by simp[atKey,CU,e']
    rw[rg e,b];exact h2
  . have e':¬q.1=k:=λz=>e (h1.trans z)
    have b:atKey (q::qs) k=atKey qs k:=by simp[atKey,CU,e']
    rw[rZ e,b];exact ih
def KT.RQ(r:KT H kvs xs)k(ry:RelV y u) :
 KT H (kvs.map λkv=>if kv.1=k then (kv.1,y) else kv) (xs.map (putAt k u)):=by
 induction r with
 |nil=>exact .nil
 |@cons p q ps qs h t ih=>
  rw[Aw,Aw];refine .cons ?_ ih;obtain⟨h1,h2,h3⟩:=h;unfold putAt;by_cases e:p.1=k
  . rw[if_pos e,if_pos (h1.symm.trans e)];exact⟨h1,h2,ry⟩
  . rw[if_neg e,if_neg (λz=>e (h1.trans z))];exact⟨h1,h2,h3⟩
def KT.put(r:KT H kvs xs)k(hb:H b=some (.c (k.map kV)))(ry:RelV y u) :
 KT H (putK kvs k y) (storedH xs k b u):=by
 have e:(kvs.any λkv=>decide (kv.1=k))=(atKey xs k).isSome:=by rw[om,(r.val k).qH,Option.isSome_map]
 unfold putK storedH;rw[e];by_cases q:(atKey xs k).isSome=true
 . rw[if_pos q,if_pos q];exact r.RQ k ry
 . rw[if_neg q,if_neg q];exact Paired.snoc r ⟨rfl,hb,ry⟩
def KT.keeps(r:KT H kvs xs)(ht:∀b ys,H b=some (.c ys)->H' b=some (.c ys)):KT H' kvs xs:=
 Paired.SF r λ_ _ z=>⟨z.1,ht _ _ z.2.1,z.2.2⟩
section
variable {P:Program}{w:World}{H:Hp}{h:Heap}{a:Addr}
def UG(ok:HOk P w H h)(e:Rd H a u):yB P w H h a u:=e.ok ok
def fR(ok:HOk P w H h)(e:Rd H a (.d kvs)):kvs.length<=Ar/\(a == BN)=false/\∃vs,KV kvs vs/\h.DictOf (xY P w) a vs:=
 show yB P w H h a (.d kvs) from UG ok e
def QE(ok:HOk P w H h)(e:H a=some (.d kvs)):kvs.length<=Ar/\(a == BN)=false/\∃vs,KV kvs vs/\h.DictOf (xY P w) a vs:=fR ok (.inl e)
def lI(ok:HOk P w H h)(e:H a=some (.c (ks.map kV))):(Gp (xY P w)).is h ks a:=by obtain⟨_,its,r,o,h1,h2,n,h3,_⟩:=(show yB P w H h a (.c (ks.map kV)) from ok a _ e);exact⟨o,its.toArray,n,h1,h2,h3,by simpa using nv r⟩
def fT(ok:HOk P w H h)(e:Rd H a (.i kvs)):kvs.length<=Ar/\(a == BN)=false /\
 ∃xs,KT H kvs xs/\h.DictOfH (Gp (xY P w)) a xs:=by
 obtain⟨z,y,xs,r,o,es,ep,h1,h2,h3,h4,h5⟩:=(show yB P w H h a (.i kvs) from UG ok e);refine⟨z,y,xs,r,o,es,ep,h1,h2,h3,h4,λx hx=>?_,h5⟩;have all:∀{l:List (List Key × V)} {m:List (List Key × Addr × Value)},KT H l m->∀x∈m,(Gp (xY P w)).is h x.1 x.2.1:=by
  intro l m q;induction q with
  |nil=>intro x hx;exact nomatch hx
  |@cons p q ps qs hq t ih=>
   intro x hx;rcases Ah.mp hx with e|hx
   . subst e
     exact lI ok (by rw[<-hq.1];exact hq.2.1)
   . exact ih x hx
 exact all r x hx
def QF(ok:HOk P w H h)(e:H a=some (.i kvs)):kvs.length<=Ar/\(a == BN)=false /\
 ∃xs,KT H kvs xs/\h.DictOfH (Gp (xY P w)) a xs:=fT ok (.inl e)
end
def pK(H:Hp)(a:Addr)(y:V)(r:Option V):Prop:=
 (∃kvs k,Rd H a (.d kvs)/\y=kV k/\r=qW kvs k)\/∃kvs k b,Rd H a (.i kvs)/\y=.c b/\H b=some (.c (k.map kV))/\r=qW kvs k
def mf(H:Hp)(a:Addr)(y v:V)(H':Hp):Prop:=
 (∃kvs k,H a=some (.d kvs)/\y=kV k/\kvs.length<Ar/\H'=upd H a (.d (putK kvs k v))) \/
 ∃kvs k b,H a=some (.i kvs)/\y=.c b/\H b=some (.c (k.map kV))/\kvs.length<Ar/\H'=upd H a (.i (putK kvs k v))
theorem pK.k{k}(e:H a=some (.d kvs)):pK H a (kV k) (qW kvs k):=.inl ⟨kvs,k,.inl e,rfl,rfl⟩
def pK.t{k}(e:H a=some (.i kvs))(eb:H b=some (.c (k.map kV))):pK H a (.c b) (qW kvs k):=.inr ⟨kvs,k,b,.inl e,rfl,eb,rfl⟩
theorem mf.k{k}(e:H a=some (.d kvs))(hl:kvs.length<Ar):mf H a (kV k) v (upd H a (.d (putK kvs k v))):=.inl ⟨kvs,k,e,rfl,hl,rfl⟩
def mf.t{k}(e:H a=some (.i kvs))(eb:H b=some (.c (k.map kV)))(hl:kvs.length<Ar) :
 mf H a (.c b) v (upd H a (.i (putK kvs k v))):=.inr ⟨kvs,k,b,e,rfl,eb,hl,rfl⟩
section
variable {X:Cx}{pins:List (Addr × Obj)}{σ:St}{H:Hp}{s:Shared}{a:Addr}{y v:V}{u r:Value}{o:Option V}{A:Around}{E:Value->Shared->Prop}
def Inv.big(I:Inv X pins σ H s):BN<s.heap.objs.size:=by have h:AW<s.heap.objs.size:=(I.mod.a.keeps I.bk).lt;exact Nat.lt_trans (by decide) h
def dU{Q:Value->Shared->Prop}(hu:A.units+1<cLine)(I:Inv X pins σ H s)(g:pK H a y (some v))(ry:RelV y u)(h:∀w' s',Inv X pins σ H s'->RelV v w'->Q w' s') :
 wpAny (model X.f X.w) A (getItem (.ref a) u) Q E s:=by
 rcases g with⟨kvs,k,e,ey,l⟩|⟨kvs,k,b,e,ey,eb,l⟩
 . subst ey
   obtain⟨z,hd,vs,rel,dd⟩:=fR I.j e;obtain⟨w',hw,rw'⟩:=pN.some_of (v:=v) (o:=valueAt vs k) (by rw[l];exact rel.val k)
   exact wpAny_getItem_of (fv ry) dd.mapOf hw (h w' _ (I.tok _) rw')
 . subst ey
   cases (show u=A4 b from ry);obtain⟨z,hd,xs,rel,dd⟩:=fT I.j e;obtain⟨w',hw,rw'⟩:=pN.some_of (v:=v) (o:=(atKey xs k).map (·.2)) (by rw[l];exact rel.val k)
   obtain⟨p,hp,hp2⟩:=Au.mp hw;refine wpAny_getItem_heap (Fe hu) (lI I.j eb) dd hp ?_;rw[hp2];exact h w' _ (I.tok _) rw'
def Xs{Q:Value->Shared->Prop}(hu:A.units+1<cLine)(I:Inv X pins σ H s)(g:pK H a y o)(ry:RelV y u)(h:∀s',Inv X pins σ H s'->Q (.bool (!o.isSome)) s') :
 wpAny (model X.f X.w) A (A8 .NotIn u (.ref a)) Q E s:=by
 rcases g with⟨kvs,k,e,ey,l⟩|⟨kvs,k,b,e,ey,eb,l⟩
 . subst ey
   obtain⟨z,hd,vs,rel,dd⟩:=fR I.j e;refine wpAny_notIn_of (fv ry) hd dd.mapOf ?_;rw[<-(rel.val k).qH,<-l];exact h _ (I.tok _)
 . subst ey
   cases (show u=A4 b from ry);obtain⟨z,hd,xs,rel,dd⟩:=fT I.j e;refine wpAny_notIn_heap (Fe hu) (lI I.j eb) hd dd ?_;have q:=(rel.val k).qH;rw[Option.isSome_map]at q;rw[<-q,<-l];exact h _ (I.tok _)
def fK(I:Inv X pins σ H s)(mu:Mut (H a))(hs:D9 a s.heap h')(he:∃q,h'.get? a=some q)(new:yB X.f X.w (upd H a ob) h' a ob) :
 Inv X pins σ (upd H a ob) {s with heap:=h',toks:=t'}:=
 I.write (x:=a) (e:=a) mu (.inl rfl) (λb q hb z=>(hs.2 b hb).trans z) he new
def Up(z:kvs.length<=Ar)(hd:(a == BN)=false)(rel:KV kvs vs)(dd:h'.DictOf (xY P w) a vs) :
 yB P w H' h' a (.d kvs):=⟨z,hd,vs,rel,dd⟩
def dW{Q:Unit->Shared->Prop}(hu:A.units+1<cLine)(I:Inv X pins σ H s)(g:mf H a y v H')(ry:RelV y u)(rv:RelV v r)(h:∀s',Inv X pins σ H' s'->Q () s') :
 wpAny (model X.f X.w) A (setItem (.ref a) u r) Q E s:=by
 rcases g with⟨kvs,k,e,ey,l,eH⟩|⟨kvs,k,b,e,ey,eb,l,eH⟩
 . subst ey eH
   obtain⟨z,hd,vs,rel,dd⟩:=QE I.j e;have hz:vs.length<=Ar:=by rw[<-rel.length];exact z
   have hl:(putK kvs k v).length<=Ar:=by have:=qh kvs k v;omega
   refine wpAny_setItem_pairs (hsz:=hz) (fv ry) dd λh' dd' hs=>h _ ?_;have he:∃q,h'.get? a=some q:=let ⟨q,_,_,hq,_⟩:=dd';⟨q,hq⟩;exact fK I (by rw[e];exact A5) hs he (Up hl hd (rel.put k rv) dd')
 . subst ey eH
   cases (show u=A4 b from ry);obtain⟨z,hd,xs,rel,dd⟩:=QF I.j e;have hz:xs.length<=Ar:=by rw[<-Fj rel];exact z
   have hl:(putK kvs k v).length<=Ar:=by have:=qh kvs k v;omega
   refine wpAny_setItem_heap (hsz:=hz) (Fe hu) (lI I.j eb) dd λh' dd' hs=>h _ ?_;obtain⟨q,es,ep,hq,h2,h3,h4,_,h5⟩:=dd';refine fK I (by rw[e];exact A5) hs ⟨q,hq⟩ ⟨hl,hd,_,(rel.put k eb rv).keeps λc ys ec=>?_,q,es,ep,hq,h2,h3,h4,h5⟩
   rw[zY (wW ec e (λz=>nomatch z))]
   exact ec
end
def Ry(i:Expr):Prop:=∀ov iv,Gx i false ov iv=operate [ov,iv] (getItem ov iv)
def Vg{T id}
 (hl:typeLookup (.type T) "__getitem__"=pure (some (.builtin id))) (hs:Ry slice)
 (h:wpAny (model prog w) A (eval value env) (λo s₁=>wpAny (model prog w) A (eval slice env) (λi s₂=>s₂.TypeIs o T/\wpAny (model prog w) A (getItem o i) Q E s₂) E s₁) E s) :
 wpAny (model prog w) A (eval (.Subscript value slice pos) env) Q E s:=by
 refine FO (C7 h (λo s₁ h₁=>C7 h₁ (λi s₂ h₂=>?_) λ_ _ x=>x) λ_ _ x=>x);obtain⟨hT,h₂⟩:=h₂;unfold Es;refine dr ?_;rw[getitemInPython_of_ne hT.not_modules];refine dr (wpAny_specialOf hT hl ?_);have fin:wpAny (model prog w) A (Gx slice false o i) (λr s₃=>wpAny (model prog w) A (letTemporaryGo value o r >>= λ_=>pure r) Q E s₃) E s₂:=by rw[hs o i];exact wpAny_operating (C7 h₂ (λr s₃ h₃=>dr (wpAny_letTemporaryGo (Af h₃))) λ_ _ x=>x)
 first
  |exact Af (dr fin)
  |exact dr (Af (dr fin))
  |exact dr fin
def kM(I:Inv X pins σ H s)(g:pK H a y o):s.TypeIs (.ref a) "dict":=by
 rcases g with⟨kvs,k,e,_,_⟩|⟨kvs,k,b,e,_,_,_⟩
 . obtain⟨_,_,vs,_,dd⟩:=fR I.j e
   exact dd.typeIs
 . obtain⟨_,_,xs,_,dd⟩:=fT I.j e
   exact dd.typeIs
def OE(td ty:TE):TE:=λσ H Q=>td σ H λx H1=>ty σ H1 λy H2=>∃a v,x=.c a/\pK H2 a y (some v)/\Q v H2
def Pz(td ty tv:TE):TS:=λD σ H=>tv σ H λv H1=>td σ H1 λx H2=>ty σ H2 λy H3=>∃a H4,x=.c a/\mf H3 a y v H4/\D.a σ H4
section
variable {X:Cx}{o i e value:Expr}{pos pos' tpos:Pos}{td ty tv:TE}
def W4(hu:X.A.units+1<cLine)(ho:PE X o td)(hi:PE X i ty)(hs:Ry i):PE X (.Subscript o i pos) (OE td ty):=by intro pins s σ H Q I h;refine Vg PySem.F.slot_dict_getitem.lookup hs (thn (ho pins s σ H _ I h) λu s1 ⟨x,H1,I1,rx,q1⟩=>thn (hi pins s1 σ H1 _ I1 q1) λiv s2 ⟨y,H2,I2,ry,a,v,ex,g,q2⟩=>?_);subst ex;obtain rfl:u=A4 a:=rx;exact⟨kM I2 g,dU hu I2 g ry λw' s3 I3 rw'=>⟨v,H2,I3,rw',q2⟩⟩
def VD(hu:X.A.units+1<cLine)(ho:PE X o td)(hi:PE X i ty)(hv:PE X value tv)(hs:Ea value (some (.Subscript o i pos')) pos.line X.a=pure false) :
 PS X (.Assign [.Subscript o i pos'] value pos) (Pz td ty tv):=by
 intro pins s σ H D I h;refine wpAny_Assign_Subscript (thn (hv pins s σ H _ I h) λr s1 ⟨v,H1,I1,rv,q1⟩=>thn (ho pins s1 σ H1 _ I1 q1) λu s2 ⟨x,H2,I2,rx,q2⟩=>thn (hi pins s2 σ H2 _ I2 q2) λiv s3 ⟨y,H3,I3,ry,a,H4,ex,g,q3⟩=>?_) hs;subst ex;obtain rfl:u=A4 a:=rx;exact dW hu I3 g ry rv λs4 I4=>⟨σ,H4,I4,q3⟩
end
def aa(h:Heap)(hb:BN<h.objs.size):yB P w H (h.push {cls:=.type "dict",data:=.dict #[]}) h.objs.size (.d []):=
 ⟨A3 _,beq_eq_false_iff_ne.mpr (BP (Ax hb)),[],.nil,Heap.DictOf.new h⟩
def af(h:Heap)(hb:BN<h.objs.size):yB P w H (h.push {cls:=.type "dict",data:=.dict #[]}) h.objs.size (.i []):=
 ⟨A3 _,beq_eq_false_iff_ne.mpr (BP (Ax hb)),[],.nil,_,#[],0,As _ rfl,⟨rfl,rfl,rfl⟩,rfl,rfl,List.nodup_nil⟩
def Rh:TE:=λ_ H Q=>∀p,H p=none->Q (.c p) (upd H p (.d []))
def Ri:TE:=λ_ H Q=>∀p,H p=none->Q (.c p) (upd H p (.i []))
section
variable {X:Cx}{pos:Pos}
def YH:PE X (.Dict [] [] pos) Rh:=λpins s σ H Q I h=>
 wpAny_Dict_empty ⟨.c s.heap.objs.size,_,I.laid (a:=s.heap.objs.size) (o:=.d []) (t':=s.toks) (λ_ _ q=>zO _ q) (Ac _) (aa s.heap I.big),rfl,h _ (I.j.fresh (Ac _))⟩
def YI:PE X (.Dict [] [] pos) Ri:=λpins s σ H Q I h=>
 wpAny_Dict_empty ⟨.c s.heap.objs.size,_,I.laid (a:=s.heap.objs.size) (o:=.i []) (t':=s.toks) (λ_ _ q=>zO _ q) (Ac _) (af s.heap I.big),rfl,h _ (I.j.fresh (Ac _))⟩
end
end L2
end
section
namespace M
open PySem
section
variable {K:KF}{mg:Str->Option Value}{ρ:Own}{H:L2.Hp}{s:Sto}
def RO(K:KF)(mg:Str->Option Value)(ρ:Own)(H:L2.Hp):Option Val->Option L2.V->Prop
 |none,none=>True
 |some v,some x=>RD K mg ρ H v x
 |_,_=>False
theorem RO.isSome(h:RO K mg ρ H o o'):o'.isSome=o.isSome:=by
 cases o with
 |none=>cases o' with|none=>rfl|some _=>exact h.elim
 |some v=>cases o' with|none=>exact h.elim|some _=>rfl
theorem rC [DecidableEq κ] [DecidableEq κ'] {f:κ->κ'}(inj:∀a b,f a=f b->a=b)k:∀{kvs} {kxs},kxs.map (·.1)=kvs.map (λp=>f p.1)->RDs K mg ρ H (kvs.map (·.2)) (kxs.map (·.2))->RO K mg ρ H (vD kvs k) (L2.qW kxs (f k))
 |[],[],_,_=>trivial
 |[],_::_,e,_=>by cases e
 |_::_,[],e,_=>by cases e
 |p::kvs,q::kxs,e,r=>by
  rw[Aw,Aw]at e r;injection e with e1 e2
  cases r with
  |a r1 r2=>
   show RO K mg ρ H (if p.1=k then some p.2 else vD kvs k) _
   by_cases h:p.1=k
   . rw[if_pos h,L2.rg (by rw[e1,h])];exact r1
   . rw[if_neg h,L2.rZ (λz=>h (inj _ _ (e1.symm.trans z)))]
     exact rC inj k e2 r2
theorem jY{κ κ':Type} [DecidableEq κ] [DecidableEq κ'] {f:κ->κ'}(inj:∀a b,f a=f b->a=b)k(rv:RD K mg ρ H v x):∀{kvs:List (κ × Val)} {kxs:List (κ' × L2.V)},kxs.map (·.1)=kvs.map (λp=>f p.1)->RDs K mg ρ H (kvs.map (·.2)) (kxs.map (·.2)) ->
 (kxs.map λkv=>if kv.1=f k then (kv.1,x) else kv).map (·.1)=(kvs.map λp=>if p.1=k then (p.1,v) else p).map (λp=>f p.1)/\RDs K mg ρ H ((kvs.map λp=>if p.1=k then (p.1,v) else p).map (·.2)) ((kxs.map λkv=>if kv.1=f k then (kv.1,x) else kv).map (·.2))
 |[],[],_,_=>⟨rfl,.d⟩
 |[],_::_,e,_=>by cases e
 |_::_,[],e,_=>by cases e
 |p::kvs,q::kxs,e,r=>by
  rw[Aw,Aw]at e r;injection e with e1 e2
  cases r with
  |a r1 r2=>
   obtain⟨i1,i2⟩:=jY inj k rv e2 r2;simp only[Aw];by_cases h:p.1=k
   . have h':q.1=f k:=by rw[e1,h]
     rw[if_pos h,if_pos h'];exact⟨by rw[i1,e1],.a rv i2⟩
   . have h':¬q.1=f k:=λz=>h (inj _ _ (e1.symm.trans z))
     rw[if_neg h,if_neg h'];exact⟨by rw[i1,e1],.a r1 i2⟩
def kN{κ κ':Type} [DecidableEq κ] [DecidableEq κ'] {f:κ->κ'}(inj:∀a b,f a=f b->a=b)(k:κ){v:Val}{x:L2.V}(rv:RD K mg ρ H v x){kvs:List (κ × Val)}{kxs:List (κ' × L2.V)}(e:kxs.map (·.1)=kvs.map (λp=>f p.1))(r:RDs K mg ρ H (kvs.map (·.2)) (kxs.map (·.2))) :
 (L2.putK kxs (f k) x).map (·.1)=(qD kvs k v).map (λp=>f p.1)/\RDs K mg ρ H ((qD kvs k v).map (·.2)) ((L2.putK kxs (f k) x).map (·.2)):=by
 unfold L2.putK qD;rw[L2.om,(rC inj k e r).isSome];by_cases h:(vD kvs k).isSome=true
 . rw[if_pos h,if_pos h];exact jY inj k rv e r
 . rw[if_neg h,if_neg h]
   refine⟨by rw[Bj,Bj,e];rfl,?_⟩
   rw[Bj,Bj];exact r.append (.a rv .d)
def fk a b(h:(Dg a:L2.Key)=Dg b):a=b:=by injection h
theorem pk:∀a b:List Int,a.map (Dq:Int->L2.Key)=b.map Dq->a=b
 |[],[],_=>rfl
 |[],_::_,h=>by cases h
 |_::_,[],h=>by cases h
 |x::xs,y::ys,h=>by
  rw[Aw,Aw]at h;injection h with h1 h2
  injection h1 with h1
  rw[h1,pk xs ys h2]
theorem iS:∀{vs} {ns} {xs},intsOf vs=some ns->RDs K mg ρ H vs xs->xs=(ns.map Dq).map L2.kV
 |[],_,_,h,.d=>by cases h;rfl
 |v::vs,ns,_,h,.a r rs=>by
  cases v with
  |c i=>
   simp only[intsOf,Au]at h;obtain⟨ms,h1,rfl⟩:=h;cases r;rw[iS h1 rs];rfl
  |_=>cases h
def aV(hr:HR K mg ρ s H)(rd:RD K mg ρ H d xd)(e:fL s d=some (j,c)):∃a,xd=.c a/\ρ.o[j]?=some a/\s[j]?=some c/\CR K mg ρ H a c:=by
 cases rd with
 |@A a i h _=>
  simp only[fL,Au]at e;obtain⟨c',h1,h2⟩:=e;cases h2;obtain⟨b,e1,e2⟩:=hr.g _ _ h1;rw[h]at e1;cases e1;exact⟨_,rfl,h,h1,e2⟩
 |_=>cases e
def getD_at(hr:HR K mg ρ s H)(rd:RD K mg ρ H d xd)(ry:RD K mg ρ H y xy)(e:getD d y s=some o):∃a o',xd=.c a/\L2.pK H a xy o'/\RO K mg ρ H o o':=by
 unfold getD at e;obtain⟨⟨j,c⟩,e1,e2⟩:=B9.mp e;obtain⟨a,rfl,_,_,cr⟩:=aV hr rd e1;cases c with
 |c vs=>cases e2
 |f x=>cases e2
 |e kvs=>
  cases ry with
  |E k=>
   cases e2;obtain⟨kxs,h1,h2,h3⟩:=cr;exact⟨a,_,rfl,L2.pK.k (k:=Dg k) h1,rC fk k h2 h3⟩
  |_=>cases e2
 |d kvs=>
  cases ry with
  |m n hb r=>
   obtain⟨ns,h4,h5⟩:=Au.mp e2;subst h5;rw[iS h4 r]at hb;obtain⟨kxs,h1,h2,h3⟩:=cr;exact⟨a,_,rfl,L2.pK.t h1 hb,rC pk ns h2 h3⟩
  |_=>cases e2
def VI(hr:HR K mg ρ s H)(rd:RD K mg ρ H d xd)(ry:RD K mg ρ H y xy)(rv:RD K mg ρ H v xv)(e:putD d y v s=some s'):∃a H',xd=.c a/\L2.mf H a xy xv H'/\Ext ρ H ρ H'/\HR K mg ρ s' H':=by
 unfold putD at e;obtain⟨⟨j,c⟩,e1,e2⟩:=B9.mp e;obtain⟨c',e3,e4⟩:=Au.mp e2;subst e4;obtain⟨a,rfl,ho,hs,cr⟩:=aV hr rd e1;cases c with
 |c vs=>cases e3
 |f x=>cases e3
 |e kvs=>
  cases ry with
  |E k=>
   simp only[aL]at e3;split at e3
   . rename_i hl
     cases e3;obtain⟨kxs,h1,h2,h3⟩:=cr;have hz:kxs.length<Ar:=by have:=congrArg Cq h2;rw[zI,zI]at this;rw[this,<-yx];exact hl
     obtain⟨q1,q2⟩:=kN (H:=H) fk k rv h2 h3;have X:Ext ρ H ρ (L2.upd H a (.d (L2.putK kxs (Dg k) xv))):=Ext.tK hr ho (by rw[h1];rfl)
     exact⟨a,_,rfl,L2.mf.k (k:=Dg k) h1 hz,X,hr.tK ho (by rw[h1];rfl) ⟨_,L2.zt,q1,q2.mono X⟩⟩
   . cases e3
  |_=>cases e3
 |d kvs=>
  cases ry with
  |m n hb r=>
   obtain⟨ns,h4,h5⟩:=B9.mp e3;split at h5
   . rename_i hl
     cases h5;rw[iS h4 r]at hb;obtain⟨kxs,h1,h2,h3⟩:=cr;have hz:kxs.length<Ar:=by have:=congrArg Cq h2;rw[zI,zI]at this;rw[this,<-yx];exact hl
     obtain⟨q1,q2⟩:=kN (H:=H) pk ns rv h2 h3;have X:Ext ρ H ρ (L2.upd H a (.i (L2.putK kxs (ns.map Dq) xv))):=Ext.tK hr ho (by rw[h1];rfl)
     exact⟨a,_,rfl,L2.mf.t h1 hb hz,X,hr.tK ho (by rw[h1];rfl) ⟨_,L2.zt,q1,q2.mono X⟩⟩
   . cases h5
  |_=>cases e3
end
end M
end
section
namespace M
open PySem
section
variable {K:KF}{mg:Str->Option Value}{ρ ρ':Own}{H H':L2.Hp}{s s':Sto}
theorem RD.flat{v:Val}{x:L2.V}(r:RD K mg ρ H v x)(h:flat v=true):L2.vg x=true:=by
 cases r<;>first|rfl|cases h
theorem RD.eqF(r:RD K mg ρ H v x)(q:RD K mg ρ H w y)(h:M.flat v=true)(h':M.flat w=true):L2.eqV x y=M.eqF v w:=by
 cases r<;>first|(cases h;done)|(cases q<;>first|rfl|(cases h';done))
theorem RDs.flat:∀{vs:List Val} {xs:List L2.V},RDs K mg ρ H vs xs->vs.all flat=true->xs.all L2.vg=true
 |_,_,.d,_=>rfl
 |_,_,.a r rs,h=>by rw[B6,nx]at h;rw[B6,r.flat h.1,rs.flat h.2];rfl
theorem RDs.any(q:RD K mg ρ H w y)(hw:M.flat w=true):∀{vs} {xs},RDs K mg ρ H vs xs->vs.all M.flat=true->(xs.any λz=>L2.eqV z y)=vs.any λz=>M.eqF z w
 |_,_,.d,_=>rfl
 |_,_,.a r rs,h=>by rw[B6,nx]at h;rw[CZ,CZ,r.eqF q h.1 hw,RDs.any q hw rs h.2]
theorem RDs.countP(q:RD K mg ρ H w y)(hw:M.flat w=true):∀{vs} {xs},RDs K mg ρ H vs xs->vs.all M.flat=true->(xs.countP λz=>L2.eqV z y)=vs.countP λz=>M.eqF z w
 |_,_,.d,_=>rfl
 |_,_,.a r rs,h=>by rw[B6,nx]at h;rw[CH,CH,r.eqF q h.1 hw,RDs.countP q hw rs h.2]
theorem RDs.bools:∀{vs} {xs} {bs},RDs K mg ρ H vs xs->boolsOf vs=some bs->xs=bs.map L2.V.e
 |_,_,_,.d,h=>by cases h;rfl
 |_,_,_,.a r rs,h=>by
  cases r with
  |j b=>
   simp only[boolsOf,Au]at h;obtain⟨bs',h1,h2⟩:=h;subst h2;rw[rs.bools h1];rfl
  |_=>cases h
theorem RDs.nt:∀{vs} {xs} {ns},RDs K mg ρ H vs xs->intsOf vs=some ns->xs=ns.map L2.V.d
 |_,_,_,.d,h=>by cases h;rfl
 |_,_,_,.a r rs,h=>by
  cases r with
  |l b=>
   simp only[intsOf,Au]at h;obtain⟨bs',h1,h2⟩:=h;subst h2;rw[rs.nt h1];rfl
  |_=>cases h
def Xg(r:RDs K mg ρ H vs xs)(h:L2.atI vs i=some v):∃x,L2.atI xs i=some x/\RD K mg ρ H v x:=by unfold L2.atI at h ⊢;rw[<-r.length];obtain⟨j,h1,h2⟩:=B9.mp h;obtain⟨x,h3,h4⟩:=r.get h2;exact⟨x,by rw[h1];exact h3,h4⟩
def XF(hr:HR K mg ρ s H)(r:RD K mg ρ H v x)(h:truth s v=some b):L2.Xf K x H b:=by
 have hz:∀{vs:List Val} {xs:List L2.V},RDs K mg ρ H vs xs->vs.isEmpty=xs.isEmpty:=λr=>by cases r<;>rfl
 cases r with
 |s=>cases h;rfl
 |j b=>cases h;rfl
 |l i=>cases h;rfl
 |E x=>
  simp only[truth]at h;split at h
  . cases h
    rename_i q;exact⟨by rw[<-yx];exact q,rfl⟩
  . cases h
 |m n e q=>cases h;exact .inr (.inl ⟨_,.of e,by rw[hz q]⟩)
 |D n e q=>cases h;exact .inl ⟨_,.of e,by rw[hz q]⟩
 |B n e=>cases h;exact .inr (.inr ⟨_,e,rfl⟩)
 |p _=>cases h
 |F _=>cases h
 |@C a i e _=>
  simp only[truth]at h;split at h
  . rename_i ws hw
    cases h;obtain⟨c,xs,e1,e2,q⟩:=hr.obj i _ hw;rw[e]at e1;cases e1;exact .inl ⟨_,.of e2,by rw[hz q]⟩
  . cases h
 |G _=>cases h
 |I _=>cases h
 |A _ _=>cases h
def OO(hr:HR K mg ρ s H)(r:RD K mg ρ H v x)(h:kindOf v=some a):(L2.sk K H x (.type a.nm)):=by
 cases r with
 |s=>cases h;exact .d
 |j b=>cases h;exact .bl b
 |l i=>cases h;exact .c i
 |E x=>cases h;exact .f x
 |m n e q=>cases h;exact .g e
 |D n e q=>cases h;exact .b e
 |B n e=>cases h;exact .dK e
 |C e k=>
  cases h;obtain⟨xs,q⟩:=iP k;exact .b q
 |_=>cases h
def Qp(h:uM n=some c):n=c.nm/\c≠.f:=by unfold uM at h;split at h<;>first|(cases h;exact⟨rfl,by decide⟩)|cases h
end
section
variable {X:L2.Cx}{k:Nat}
def cJ(hr0:L2.wV k X.A):L2.OpR X (A8 .Eq) (rM2 X.K X.d (zi .c)):=by
 intro pins s σ H x y v u Q I rx ry h;obtain⟨ρ,t,a,b,hr,ra,rb,w⟩:=h;simp only[zi,pY]at w;split at w
 . rename_i p q
   cases ra;cases rb;have e:decide (L2.V.f p=L2.V.f q)=decide (p=q):=by rw[Ce];simp
   refine L2.Qz pins s σ H _ _ v u Q I rx ry ⟨rfl,?_⟩;rw[e];exact zV hr (.j _) w
 . rename_i a ns
   cases rb with
   |p g=>
    by_cases hc:((yT t (.f a)).isD&&(Val.f (ns.map .c)).isD&&decide ((Val.f (ns.map .c)).d.depth<=60))=true
    . rw[if_pos hc]at w
      simp only[nx,decide_eq_true_eq]at hc;obtain⟨as,r1,_⟩:=w5 I.j hr (xJ hc.1.1) ra rx;obtain⟨its,rv,p1,_⟩:=I.tuple g.sqt;obtain⟨o,ho,hcl,n,hd⟩:=id p1;obtain⟨bs,q,_⟩:=RDs.reads I.j (RDs.ints (K:=X.K) (mg:=X.d) (ρ:=ρ) (H:=H) ns) (xJ hc.1.2) rv;have r2:Reads s.heap u (Val.f (ns.map .c)).d bs:=by cases ry;exact .tuple ho hcl hd (by simpa using q)
      have hu:=hr0.a;have hm:=DO (yT t (.f a)).d.depth (Val.f (ns.map .c)).d.depth;exact SeqAt.compareEq_reads r1 r2 (yI hc.1.1) (yI hc.1.2) ⋯ ⟨.e _,H,I,rfl,zV hr (.j _) w⟩
    . rw[if_neg hc]at w;exact w.elim
 . by_cases hc:((yT t a).isD&&(yT t b).isD&&decide ((yT t b).d.depth<=60))=true
   . rw[if_pos hc]at w
     simp only[nx,decide_eq_true_eq]at hc;obtain⟨as,r1,_⟩:=w5 I.j hr (xJ hc.1.1) ra rx;obtain⟨bs,r2,_⟩:=w5 I.j hr (xJ hc.1.2) rb ry;have hu:=hr0.a;have hm:=DO (yT t a).d.depth (yT t b).d.depth;exact SeqAt.compareEq_reads r1 r2 (yI hc.1.1) (yI hc.1.2) ⋯ ⟨.e _,H,I,rfl,zV hr (.j _) w⟩
   . rw[if_neg hc]at w;exact w.elim
def cb(hr0:L2.wV k X.A):L2.OpR X (A8 .NotEq) (rM2 X.K X.d (zi .e)):=by
 intro pins s σ H x y v u Q I rx ry h;obtain⟨ρ,t,a,b,hr,ra,rb,w⟩:=h;simp only[zi,pY]at w;split at w
 . rename_i p q
   cases ra;cases rb;have e:decide (L2.V.f p=L2.V.f q)=decide (p=q):=by rw[Ce];simp
   refine L2.Q4 pins s σ H _ _ v u Q I rx ry ⟨rfl,?_⟩;rw[e];exact zV hr (.j _) w
 . by_cases hc:((yT t a).isD&&(yT t b).isD&&decide ((yT t b).d.depth<=60))=true
   . rw[if_pos hc]at w
     simp only[nx,decide_eq_true_eq]at hc;obtain⟨as,r1,_⟩:=w5 I.j hr (xJ hc.1.1) ra rx;obtain⟨bs,r2,_⟩:=w5 I.j hr (xJ hc.1.2) rb ry;have hu:=hr0.a;have hm:=DO (yT t a).d.depth (yT t b).d.depth;exact SeqAt.compareNe_reads r1 r2 (yI hc.1.1) (yI hc.1.2) ⋯ ⟨.e _,H,I,rfl,zV hr (.j _) w⟩
   . rw[if_neg hc]at w;exact w.elim
def RD.isNone(r:RD K mg ρ H v x):decide (x=.g)=v.isN:=by
 cases r<;>first|rfl|exact decide_eq_false (λz=>nomatch z)
def cX:L2.OpR X (A8 .Is) (rM2 X.K X.d (zi .b)):=by
 intro pins s σ H x y v u Q I rx ry h;obtain⟨ρ,t,a,b,hr,ra,rb,w⟩:=h;cases rb with
 |s=>
  refine L2.SS pins s σ H _ _ v u Q I rx ry ⟨rfl,?_⟩;rw[ra.isNone];exact zV hr (.j _) w
 |j c=>
  cases ra with
  |j d=>cases rx;cases ry;cases c<;>cases d<;>exact Af ⟨.e _,H,I,rfl,zV hr (.j _) w⟩
  |_=>exact w.elim
 |_=>exact w.elim
def lO:L2.OpR X (A8 .IsNot) (rM2 X.K X.d (zi .a)):=by
 intro pins s σ H x y v u Q I rx ry h;obtain⟨ρ,t,a,b,hr,ra,rb,w⟩:=h;cases rb with
 |s=>
  refine L2.Wn pins s σ H _ _ v u Q I rx ry ⟨rfl,?_⟩;rw[ra.isNone];exact zV hr (.j _) w
 |j c=>
  cases ra with
  |j d=>cases rx;cases ry;cases c<;>cases d<;>exact Af ⟨.e _,H,I,rfl,zV hr (.j _) w⟩
  |_=>exact w.elim
 |_=>exact w.elim
theorem rH:∀{vs} {v},uK vs=true->v∈vs->v.isD=true
 |w::vs,v,h,m=>by
  rw[uK,nx]at h;rcases Ah.mp m with rfl|m
  . exact h.1
  . exact rH h.2 m
def ay{g:Val->Bool}(q:RDs K mg ρ H vs xs)(r:L2.Vals xs its)
 (hE:∀z x w,z∈vs->RD K mg ρ H z x->L2.RelV x w->Bh A s w u (g z)):∃f:Value->Bool,(∀w∈its.toArray,Bh A s w u (f w))/\its.toArray.any f=vs.any g:=by
 classical
 have at_:∀i w,its[i]?=some w->∃z x,vs[i]?=some z/\RD K mg ρ H z x/\L2.RelV x w:=λi w e=>by
  have hi:i<xs.length:=by rw[r.length];exact(Ad.mp e).1
  have hx:xs[i]?=some xs[i]:=pn hi;obtain⟨w',e',rw'⟩:=r.get hx;rw[e]at e';cases e';obtain⟨z,e1,rz⟩:=q.QU hx;exact⟨z,_,e1,rz,rw'⟩
 refine⟨λw=>decide (∃(i:Nat) (z:Val),its[i]?=some w/\vs[i]?=some z/\g z=true),λw hw=>?_,?_⟩
 . obtain⟨i,hi⟩:=BF (by simpa using hw:w∈its)
   by_cases hd:∃(i:Nat) (z:Val),its[i]?=some w/\vs[i]?=some z/\g z=true
   . dsimp only;rw[decide_eq_true hd]
     obtain⟨j,z,e1,e2,e3⟩:=hd;obtain⟨z',x,e4,rz,rw'⟩:=at_ j w e1;rw[e2]at e4;cases e4;rw[<-e3];exact hE z x w (AF e2) rz rw'
   . dsimp only;rw[decide_eq_false hd]
     obtain⟨z,x,e4,rz,rw'⟩:=at_ i w hi;have hg:g z=false:=by
      cases hg:g z with
      |false=>rfl
      |true=>exact(hd ⟨i,z,hi,e4,hg⟩).elim
     rw[<-hg];exact hE z x w (AF e4) rz rw'
 . rw[Ce,Array.any_toList.symm,Bx,Bx]
   constructor
   . rintro ⟨w,_,h⟩
     obtain⟨i,z,_,e2,e3⟩:=of_decide_eq_true h;exact⟨z,AF e2,e3⟩
   . rintro ⟨z,hz,e3⟩
     obtain⟨i,hi⟩:=BF hz;obtain⟨x,e1,_⟩:=q.get hi;obtain⟨w,e2,_⟩:=r.get e1;exact⟨w,AF e2,decide_eq_true ⟨i,z,e2,hi,e3⟩⟩
def eqD(hu:A.units+60<cLine)(ok:L2.HOk P w H s.heap)(ra:RD K mg ρ H a x)(rx:L2.RelV x v)(ha:a.isD=true)(hd:a.d.depth<=60)
 (rz:RD K mg ρ H z y) (ry:L2.RelV y u) (hz:z.isD=true):Bh A s u v (Ct z.d a.d):=by
 obtain⟨as,r1,_⟩:=RD.reads ok ra (xJ ha) rx;obtain⟨bs,r2,_⟩:=RD.reads ok rz (xJ hz) ry;have hm:=DO z.d.depth a.d.depth;exact SeqAt.eqAt_reads _ _ _ _ _ _ _ _ r2 r1 (yI hz) (yI ha) ⋯
def cV(hr0:L2.wV k X.A):L2.OpR X (A8 .In) (rM2 X.K X.d (zi .l)):=by
 intro pins s σ H x y v u Q I rx ry h;obtain⟨ρ,t,a,b,hr,ra,rb,w⟩:=h;simp only[zi]at w;split at w
 . rename_i vs e
   obtain⟨p,xs,rfl,hq,q⟩:=gQ hr rb e;split at w
   . rename_i hf
     rw[nx]at hf;refine L2.cg pins s σ H _ _ v u Q I rx ry ⟨p,xs,rfl,hq,ra.flat hf.1,q.flat hf.2,?_⟩;simp only[L2.inV,AV,if_false];rw[RDs.any ra hf.1 q hf.2];exact zV hr (.j _) w
   . split at w
     . rename_i hf
       simp only[inD,nx,decide_eq_true_eq]at hf;have hu:=hr0.a;cases ry;rcases hq with hq|hq
       . obtain⟨its,r,pl,hz⟩:=I.list hq
         obtain⟨f,f1,f2⟩:=ay (A:=X.A.in1) (s:=s) (u:=v) (g:=λz=>Ct z.d a.d) q r λz x' w' hz rz ry'=>eqD (show X.A.units+1+60<cLine by omega) I.j ra rx hf.1.1 hf.2 rz ry' (rH hf.1.2 hz)
         exact SeqAt.in_listAt f pl.isList f1 ⟨.e _,H,I,rfl,by rw[f2];exact zV hr (.j _) w⟩
       . obtain⟨its,r,pl,hz⟩:=I.tuple hq
         obtain⟨f,f1,f2⟩:=ay (A:=X.A.in1) (s:=s) (u:=v) (g:=λz=>Ct z.d a.d) q r λz x' w' hz rz ry'=>eqD (show X.A.units+1+60<cLine by omega) I.j ra rx hf.1.1 hf.2 rz ry' (rH hf.1.2 hz)
         exact SeqAt.in_tupleAt f pl f1 ⟨.e _,H,I,rfl,by rw[f2];exact zV hr (.j _) w⟩
     . exact w.elim
 . exact w.elim
def cZ:L2.OpR X (A8 .Lt) (rM2 X.K X.d (zi .i)):=by
 intro pins s σ H x y v u Q I rx ry h;obtain⟨ρ,t,a,b,hr,ra,rb,w⟩:=h;simp only[zi]at w;split at w
 . cases ra;cases rb
   exact L2.Q3 pins s σ H _ _ v u Q I rx ry ⟨_,_,rfl,rfl,zV hr (.j _) w⟩
 . exact w.elim
def cY:L2.OpR X (A8 .LtE) (rM2 X.K X.d (zi .g)):=by
 intro pins s σ H x y v u Q I rx ry h;obtain⟨ρ,t,a,b,hr,ra,rb,w⟩:=h;simp only[zi]at w;split at w
 . cases ra;cases rb
   exact L2.Q2 pins s σ H _ _ v u Q I rx ry ⟨_,_,rfl,rfl,zV hr (.j _) w⟩
 . exact w.elim
def cT:L2.OpR X (A8 .Gt) (rM2 X.K X.d (zi .d)):=by
 intro pins s σ H x y v u Q I rx ry h;obtain⟨ρ,t,a,b,hr,ra,rb,w⟩:=h;simp only[zi]at w;split at w
 . cases ra;cases rb
   exact L2.Q1 pins s σ H _ _ v u Q I rx ry ⟨_,_,rfl,rfl,zV hr (.j _) w⟩
 . exact w.elim
def cQ:L2.OpR X (A8 .GtE) (rM2 X.K X.d (zi .k)):=by
 intro pins s σ H x y v u Q I rx ry h;obtain⟨ρ,t,a,b,hr,ra,rb,w⟩:=h;simp only[zi]at w;split at w
 . cases ra;cases rb
   exact L2.Q0 pins s σ H _ _ v u Q I rx ry ⟨_,_,rfl,rfl,zV hr (.j _) w⟩
 . exact w.elim
noncomputable def Cop.op:Cop->CmpOp
 |.c=>.Eq|.e=>.NotEq|.i=>.Lt|.g=>.LtE|.d=>.Gt|.k=>.GtE|.b=>.Is|.a=>.IsNot|.l=>.In|.j=>.NotIn|.m=>.In|.f=>.NotIn|.h=>.NotIn
def nC(hr0:L2.wV k X.A):L2.OpR X (A8 .NotIn) (rM2 X.K X.d (zi .f)):=by
 intro pins s σ H x y v u Q I rx ry h;obtain⟨ρ,t,a,b,hr,ra,rb,w⟩:=h;simp only[zi]at w;split at w
 . rename_i o e
   obtain⟨p,o',rfl,g,ro⟩:=getD_at hr rb ra e;cases (show u=A4 p from ry);exact L2.Xs (by have:=hr0.a;omega) I g rx λs3 I3=>⟨.e !o'.isSome,H,I3,rfl,by rw[ro.isSome];exact zV hr (.j _) w⟩
 . exact w.elim
noncomputable def okC:Cop->Bool
 |.j|.m|.h=>false
 |_=>true
def qQ(hr0:L2.wV k X.A):∀op:Cop,okC op=true->L2.OpR X (A8 op.op) (rM2 X.K X.d (zi op))
 |.c,_=>cJ hr0
 |.e,_=>cb hr0
 |.i,_=>cZ
 |.g,_=>cY
 |.d,_=>cT
 |.k,_=>cQ
 |.b,_=>cX
 |.a,_=>lO
 |.l,_=>cV hr0
 |.j,h=>by cases h
 |.m,h=>by cases h
 |.f,_=>nC hr0
 |.h,h=>by cases h
noncomputable def Bop.op:Bop->Operator
 |.a=>.Add|.c=>.Sub|.b=>.Mult|.e=>.FloorDiv|.d=>.Mod|.g=>.Pow|.h=>.LShift|.i=>.RShift|.f=>.BitAnd
noncomputable def okB:Bop->Bool
 |.h|.i|.f=>false
 |_=>true
def SQ m:∀op:Bop,okB op=true->L2.OpR X (BI op.op) (rM2 X.K X.d (binOp m op))
 |.a,_=>ir m
 |.c,_=>i6 m
 |.b,_=>iy m
 |.e,_=>jD m
 |.d,_=>iu m
 |.g,_=>iz m
 |.h,h=>by cases h
 |.i,h=>by cases h
 |.f,h=>by cases h
def Qb:L2.IxR X (rM2 X.K X.d wo):=by
 intro value slice pins s σ H x y v u Q I rx ry h hs;obtain⟨ρ,t,a,b,hr,ra,rb,w⟩:=h;simp only[wo]at w;split at w
 . split at w
   . rename_i vs e
     split at w
     . rename_i z hz
       obtain⟨p,xs,rfl,hq,q⟩:=gQ hr ra e;cases rb;obtain⟨xz,h1,h2⟩:=Xg q hz;refine L2.U5 value slice pins s σ H _ _ v u Q I rx ry ?_ hs;rcases hq with hq|hq
       . exact .inl ⟨p,xs,_,xz,rfl,rfl,hq,h1,zV hr h2 w⟩
       . exact .inr (.inl ⟨p,xs,_,xz,rfl,rfl,hq,h1,zV hr h2 w⟩)
     . exact w.elim
   . exact w.elim
 . exact w.elim
end
end M
end
section
namespace M
open PySem
noncomputable def Bf.nm:Bf->Str
 |.a=>"len"|.k=>"all"|.r=>"any"|.b=>"tuple"|.m=>"list"|.g=>"sorted"|.p=>"repr"|.i=>"max"|.j=>"min"|.l=>"sum"|.q=>"int"|.h=>"isinstance"|.c=>"divmod"|.s=>"str"|.d=>"sorted"|.o=>"min"|.e=>"sorted"|.n=>"min"
noncomputable def Bf.val:Bf->Value
 |.a=>.builtin "len"|.k=>.builtin "all"|.r=>.builtin "any"|.b=>.type "tuple"|.m=>.type "list"|.g=>.builtin "sorted"|.p=>.builtin "repr"|.i=>.builtin "max"|.j=>.builtin "min"|.l=>.builtin "sum"|.q=>.type "int"
 |.h=>.builtin "isinstance"|.c=>.builtin "divmod"|.s=>.type "str"|.d=>.builtin "sorted"|.o=>.builtin "min"|.e=>.builtin "sorted"|.n=>.builtin "min"
def Bf.boot:∀f:Bf,CL f.nm=some f.val
 |.a=>boot_len|.k=>PyProof.Rows.boot_all|.r=>PyProof.Rows.boot_any|.b=>Gj|.m=>PyProof.Rows.boot_list|.g=>Eg|.p=>PyProof.Rows.boot_repr|.i=>PyProof.Rows.boot_max|.j=>ED
 |.l=>PyProof.Rows.boot_sum|.q=>PyProof.Rows.boot_int|.h=>PyProof.Rows.boot_isinstance|.c=>PyProof.Rows.boot_divmod|.s=>PyProof.Rows.boot_str|.d=>Eg|.o=>ED|.e=>Eg|.n=>ED
section
variable {X:L2.Cx}{k:Nat}{m:Bool}
def rQ(r:RDs K mg ρ H [v] xs):∃x,xs=[x]/\RD K mg ρ H v x:=by
 cases r with
 |a r1 r2=>cases r2;exact⟨_,rfl,r1⟩
def bC(r:RDs K mg ρ H [v,w] xs):∃x y,xs=[x,y]/\RD K mg ρ H v x/\RD K mg ρ H w y:=by
 cases r with
 |a r1 r2=>
  obtain⟨y,rfl,r3⟩:=rQ r2;exact⟨_,_,rfl,r1,r3⟩
def aH:L2.yw X (.builtin "len") (rMc X.K X.d (blt .a m)):=by
 intro pins s σ H xs us Q I r h;obtain⟨ρ,t,vs,hr,rv,w⟩:=h;simp only[blt]at w;split at w
 . split at w
   . rename_i hz
     obtain⟨x,rfl,rx⟩:=rQ rv;cases rx;exact L2.my pins s σ H _ us Q I r ⟨_,rfl,by rw[<-yx];exact hz,zV hr (.l _) w⟩
   . exact w.elim
 . split at w
   . rename_i e
     obtain⟨x,rfl,rx⟩:=rQ rv;obtain⟨p,ys,rfl,hq,q⟩:=gQ hr rx e;refine L2.mx pins s σ H _ us Q I r ⟨p,ys,rfl,hq,?_⟩;rw[<-q.length];exact zV hr (.l _) w
   . exact w.elim
 . exact w.elim
theorem pS(hc:X.g=true):L2.yw X (.builtin "all") (rMc X.K X.d (blt .k m)):=by
 intro pins s σ H xs us Q I r h;obtain⟨ρ,t,vs,hr,rv,w⟩:=h;simp only[blt]at w;split at w
 . split at w
   . rename_i e
     split at w
     . rename_i bs eb
       obtain⟨x,rfl,rx⟩:=rQ rv;obtain⟨p,ys,rfl,hq,q⟩:=vF hr rx e;rw[q.bools eb]at hq;exact L2.pS hc pins s σ H _ us Q I r ⟨p,bs,rfl,.of hq,zV hr (.j _) w⟩
     . exact w.elim
   . exact w.elim
 . exact w.elim
def iF:L2.yw X (.type "tuple") (rMc X.K X.d (blt .b m)):=by
 intro pins s σ H xs us Q I r h;obtain⟨ρ,t,vs,hr,rv,w⟩:=h;simp only[blt]at w;split at w
 . obtain⟨x,rfl,rx⟩:=rQ rv
   cases rx with
   |m n e q=>exact L2.sD pins s σ H _ us Q I r ⟨_,_,rfl,.inr ⟨.of e,zV hr (.m n e q) w⟩⟩
 . split at w
   . rename_i e
     obtain⟨x,rfl,rx⟩:=rQ rv;obtain⟨p,ys,rfl,hq,q⟩:=vF hr rx e;exact L2.sD pins s σ H _ us Q I r ⟨p,ys,rfl,.inl ⟨.of hq,lK hr q w⟩⟩
   . exact w.elim
 . exact w.elim
def aI(hc:X.g=true):L2.yw X (.builtin "max") (rMc X.K X.d (blt .i m)):=by
 intro pins s σ H xs us Q I r h;obtain⟨ρ,t,vs,hr,rv,w⟩:=h;simp only[blt]at w;split at w
 . obtain⟨x,y,rfl,rx,ry⟩:=bC rv
   cases rx;cases ry;exact L2.dF hc pins s σ H _ us Q I r ⟨_,_,rfl,zV hr (.l _) w⟩
 . split at w
   . rename_i ns en
     split at w
     . rename_i hn
       obtain⟨x,rfl,rx⟩:=rQ rv;cases rx with
       |m n e q=>
        rw[q.nt en]at e;exact L2.dH hc pins s σ H _ us Q I r ⟨_,ns,rfl,.of e,hn,zV hr (.l _) w⟩
     . exact w.elim
   . exact w.elim
 . split at w
   . rename_i e
     split at w
     . rename_i ns en
       split at w
       . rename_i hn
         obtain⟨x,rfl,rx⟩:=rQ rv;obtain⟨p,ys,rfl,hq,q⟩:=vF hr rx e;rw[q.nt en]at hq;exact L2.dG hc pins s σ H _ us Q I r ⟨p,ns,rfl,.of hq,hn,zV hr (.l _) w⟩
       . exact w.elim
     . exact w.elim
   . exact w.elim
 . exact w.elim
def aK(hc:X.g=true):L2.yw X (.builtin "sum") (rMc X.K X.d (blt .l m)):=by
 intro pins s σ H xs us Q I r h;obtain⟨ρ,t,vs,hr,rv,w⟩:=h;simp only[blt]at w;split at w
 . split at w
   . rename_i e
     split at w
     . rename_i ns en
       split at w
       . rename_i hn
         obtain⟨x,rfl,rx⟩:=rQ rv;obtain⟨p,ys,rfl,hq,q⟩:=vF hr rx e;rw[q.nt en]at hq;exact L2.dM hc pins s σ H _ us Q I r ⟨p,ns,rfl,.of hq,hn,zV hr (.l _) w⟩
       . exact w.elim
     . exact w.elim
   . exact w.elim
 . exact w.elim
def aJ(hc:X.g=true):L2.yw X (.builtin "min") (rMc X.K X.d (blt .j m)):=by
 intro pins s σ H xs us Q I r h;obtain⟨ρ,t,vs,hr,rv,w⟩:=h;simp only[blt]at w;split at w
 . obtain⟨x,y,rfl,rx,ry⟩:=bC rv
   cases rx;cases ry;exact L2.dI hc pins s σ H _ us Q I r ⟨_,_,rfl,zV hr (.l _) w⟩
 . split at w
   . rename_i ns en
     split at w
     . rename_i hn
       obtain⟨x,rfl,rx⟩:=rQ rv;cases rx with
       |m n e q=>
        rw[q.nt en]at e;exact L2.iD hc pins s σ H _ us Q I r ⟨_,ns,rfl,.of e,hn,zV hr (.l _) w⟩
     . exact w.elim
   . exact w.elim
 . split at w
   . rename_i e
     split at w
     . rename_i ns en
       split at w
       . rename_i hn
         obtain⟨x,rfl,rx⟩:=rQ rv;obtain⟨p,ys,rfl,hq,q⟩:=vF hr rx e;rw[q.nt en]at hq;exact L2.dJ hc pins s σ H _ us Q I r ⟨p,ns,rfl,.of hq,hn,zV hr (.l _) w⟩
       . exact w.elim
     . exact w.elim
   . exact w.elim
 . exact w.elim
def aG:L2.yw X (.type "int") (rMc X.K X.d (blt .q m)):=by
 intro pins s σ H xs us Q I r h;obtain⟨ρ,t,vs,hr,rv,w⟩:=h;simp only[blt]at w;split at w
 . obtain⟨x,rfl,rx⟩:=rQ rv
   cases rx;exact L2.nY pins s σ H _ us Q I r (.inl ⟨_,rfl,zV hr (.l _) w⟩)
 . obtain⟨x,rfl,rx⟩:=rQ rv
   cases rx;exact L2.nY pins s σ H _ us Q I r (.inr ⟨_,rfl,zV hr (.l _) w⟩)
 . exact w.elim
theorem pT:L2.yw X (.builtin "isinstance") (rMc X.K X.d (blt .h m)):=by
 intro pins s σ H xs us Q I r h;obtain⟨ρ,t,vs,hr,rv,w⟩:=h;simp only[blt]at w;split at w
 . split at w
   . rename_i ea ec
     obtain⟨x,y,rfl,rx,ry⟩:=bC rv;cases ry;obtain⟨e1,e2⟩:=Qp ec;subst e1;exact L2.pT pins s σ H _ us Q I r ⟨_,_,_,_,rfl,OO hr rx ea,L2.T7 X.K _ _ e2,zV hr (.j _) w⟩
   . exact w.elim
 . exact w.elim
theorem ue:L2.yw X (.builtin "divmod") (rMc X.K X.d (blt .c m)):=by
 intro pins s σ H xs us Q I r h;obtain⟨ρ,t,vs,hr,rv,w⟩:=h;simp only[blt]at w;split at w
 . split at w
   . rename_i hz
     obtain⟨x,y,rfl,rx,ry⟩:=bC rv;cases rx;cases ry;exact L2.ue pins s σ H _ us Q I r ⟨_,_,rfl,hz,lK hr (.a (.l _) (.a (.l _) .d)) w⟩
   . exact w.elim
 . exact w.elim
theorem qF z:∀l,(iR z l).Perm (z::l)
 |[]=>.refl _
 |y::ys=>by
  unfold iR;split
  . exact .refl _
  . exact((qF z ys).cons y).trans (.swap z y ys)
theorem yv:∀l,(vW l).Perm l
 |[]=>.refl _
 |z::zs=>(qF z _).trans ((yv zs).cons z)
theorem fm z:∀l,l.Pairwise (λa b=>L2.yJ a<=L2.yJ b)->(iR z l).Pairwise (λa b=>L2.yJ a<=L2.yJ b)
 |[],_=>by simp[iR]
 |y::ys,h=>by
  rw[Bn]at h;unfold iR;split
  . rename_i hz
    refine Bn.mpr ⟨λa ha=>?_,Bn.mpr h⟩;rcases Ah.mp ha with e|e
    . subst e;exact hz
    . exact CO hz (h.1 a e)
  . rename_i hz
    refine Bn.mpr ⟨λa ha=>?_,fm z ys h.2⟩;rcases Ah.mp ((qF z ys).mem_iff.mp ha) with e|e
    . subst e;omega
    . exact h.1 a e
theorem jr:∀l,(vW l).Pairwise (λa b=>L2.yJ a<=L2.yJ b)
 |[]=>.nil
 |z::zs=>fm z _ (jr zs)
def oU{l:List (Int × Int)}(nd:l.Nodup)(hb:∀z∈l,0<=z.2/\z.2<1000):(vW l).Pairwise (λa b=>L2.yJ a<L2.yJ b):=by
 have h1:=jr l;have h2:(vW l).Pairwise (·≠·):=(yv l).nodup_iff.mpr nd
 have h3:=h1.and h2;refine h3.imp_of_mem ?_;intro a b ha hb' hab;have m1:=hb a ((yv l).mem_iff.mp ha);have m2:=hb b ((yv l).mem_iff.mp hb');rcases Int.lt_or_eq_of_le hab.1 with z|z
 . exact z
 . exact absurd (L2.ng m1 m2 z) hab.2
theorem YS:∀{vs} {xs} {zs},RDs K mg ρ H vs xs->pairsOf vs=some zs->vs=zs.map prV/\L2.Xe K H xs zs
 |_,_,_,.d,h=>by cases h;exact⟨rfl,rfl,λi z e=>by simp at e⟩
 |_,_,_,.a (v:=v) (x:=x) (vs:=vs) (xs:=xs) r rs,h=>by
  unfold pairsOf at h;split at h
  . rename_i hv;cases hv
  . rename_i a b ws hv
    cases hv;rw[Au]at h;obtain⟨zs',h1,rfl⟩:=h;obtain⟨e1,e2,e3⟩:=YS rs h1;refine⟨by rw[e1];rfl,by rw[An,An,e2],λi z hz=>?_⟩
    cases i with
    |zero=>
     simp at hz;subst hz;cases r with
     |m n e q=>
      cases q with
      |a q1 q2=>
       cases q2 with
       |a q2 q3=>
        cases q1;cases q2;cases q3;exact⟨_,rfl,.of e⟩
    |succ i=>
     simp only[List.getElem?_cons_succ]at hz ⊢;exact e3 i z hz
  . cases h
theorem Yb(r:RDs K mg ρ H vs xs):∀{ix:List Nat},(∀i∈ix,i<vs.length)->RDs K mg ρ H (ix.map λi=>vs.getD i .g) (ix.map λi=>xs.getD i .g)
 |[],_=>.d
 |i::ix,h=>by have hi:=h i (.head _);obtain⟨x,h1,h2⟩:=r.get (pn hi);refine .a ?_ (Yb r λj hj=>h j (.tail _ hj));show RD K mg ρ H (vs.getD i .g) (xs.getD i .g);rw[Ab,pn hi,Ab,h1];exact h2
def kA:L2.yw X (.builtin "sorted") (rMc X.K X.d (blt .g m)):=by
 intro pins s σ H xs us Q I r h;obtain⟨ρ,t,vs,hr,rv,w⟩:=h;simp only[blt]at w;split at w
 . split at w
   . rename_i e
     split at w
     . rename_i zs ez
       split at w
       . rename_i hz
         obtain⟨x,rfl,rx⟩:=rQ rv;obtain⟨p,ys,rfl,hq,q⟩:=vF hr rx e;obtain⟨ev,pa⟩:=YS q ez;refine L2.iE pins s σ H _ us Q I r ⟨p,ys,zs,rfl,.of hq,pa,hz.1,hz.2.1,hz.2.2,λl ix hl hp hw=>?_⟩;have hlt:∀i∈ix,i<zs.length:=λi hi=>Ag.mp (hp.mem_iff.mp hi);have e1:(ix.map λi=>zs.getD i (0,0)).Perm zs:=by
          have:=hp.map λi=>zs.getD i (0,0);refine this.trans ?_;have:(Al zs.length).map (λi=>zs.getD i (0,0))=zs:=by
           apply List.ext_getElem
           . simp
           . intro i h1 h2
             simp[Ab,pn h2]
          rw[this]
         have e2:(ix.map λi=>zs.getD i (0,0))=vW zs:=L2.sY hw (oU hz.2.1 hz.2.2) λx=>e1.mem_iff.trans (yv zs).mem_iff.symm;have rr:=Yb q (ix:=ix) (by rw[ev,zI];exact hlt)
         have e3:(ix.map λi=>(zs.map prV).getD i .g)=(vW zs).map prV:=by rw[<-e2,BW];refine CC λi hi=>?_;have:=hlt i hi;show _=prV (zs.getD i (0,0));rw[Ab,AA,pn this,Ab,pn this];rfl
         rw[ev,e3]at rr;exact tu hr rr w l hl
       . exact w.elim
     . exact w.elim
   . exact w.elim
 . exact w.elim
noncomputable def okF:Bf->Bool
 |.r|.m|.p|.s|.d|.o|.e|.n=>false
 |_=>true
def Xk(hc:X.g=true)(hr0:L2.wV k X.A):∀f m,okF f=true->L2.yw X f.val (rMc X.K X.d (blt f m))
 |.a,_,_=>aH
 |.k,_,_=>pS hc
 |.r,_,h=>by cases h
 |.b,_,_=>iF
 |.m,_,h=>by cases h
 |.g,_,_=>kA
 |.p,_,h=>by cases h
 |.i,_,_=>aI hc
 |.j,_,_=>aJ hc
 |.l,_,_=>aK hc
 |.q,_,_=>aG
 |.h,_,_=>pT
 |.c,_,_=>ue
 |.s,_,h=>by cases h
 |.d,_,h=>by cases h
 |.e,_,h=>by cases h
 |.o,_,h=>by cases h
 |.n,_,h=>by cases h
end
end M
end
section
namespace M
open PySem
noncomputable def Out.isOk{α:Type}:Out α->Bool
 |.e _ _=>true
 |.g _ _ _|.d=>false
def zJ{o:Out α}(h:o.isOk=false)v s:o≠.e v s:=λe=>by subst e;cases h
noncomputable def plain:Expr->Bool
 |.Starred ..|.Set ..|.Slice ..|.SetComp ..=>false
 |_=>true
def zq(h:plain e=true):L2.noStar e=true:=by cases e<;>first|rfl|cases h
def uV(h:plain e=true):GO op e=false:=by cases e<;>first|rfl|cases h
def jQ(h:plain e=true):L2.fC e:=by intro o i;cases e<;>first|rfl|cases h
def yt(h:plain e=true)x:A0 e env x=pure x:=by cases e<;>first|rfl|cases h
noncomputable def lL:Expr->Bool
 |.Call (.Name _ _) [] [] _=>false
 |_=>true
def tQ(h:lL o=true):DY o name env (eval o env)=eval o env:=by
 unfold DY;split
 . cases h
 . rfl
noncomputable def plainT:Expr->Bool
 |.UnaryOp .Not _ _|.BoolOp ..|.IfExp ..|.Compare ..=>false
 |_=>true
def bA(h:plainT e=true)whole:isTrue e env whole=(do let v <-whole;standAt e.pos;holding [v] (truthy v)):=by
 cases e with
 |UnaryOp op a p=>cases op<;>first|rfl|cases h
 |_=>first|rfl|cases h
def xX:List Expr->Bool
 |[]=>true
 |e::es=>plain e&&xX es
theorem sX:∀{es} {pos} {env},xX es=true->(backTo pos (AQ es env)).any (·.1)=false
 |[],_,_,_=>rfl
 |e::es,pos,env,h=>by
  rw[xX,nx]at h;rw[L2.yW (zq h.1)];show (false||(backTo pos (AQ es env)).any (·.1))=false
  rw[sX h.2];rfl
section
variable {K:KF}{mg:Str->Option Value}{env:Env}{s s1:Sto}{ρ ρ':Own}{H H':L2.Hp}
def xr.mono(w:xr K mg R ρ H o Q)(x:Ext ρ H ρ' H')(h:HR K mg ρ' s1 H'):xr K mg R ρ' H' o Q:=by
 cases o with
 |e v s'=>exact λρ2 y H2 x2 h2 r2=>w ρ2 y H2 (x.trans h x2) h2 r2
 |_=>exact w
end
section
variable {X:L2.Cx}{env:Env}{s:Sto}{E a b c:Expr}
def zS{o:Out Val}(h:∀v s',o≠.e v s'):L2.PE X E (tV X.K X.d env s o):=PZ λ_ _ _=>OM h
def un1{g:Val->Sto->Out Val}(h:L2.PE X a (tV X.K X.d env s o))(rule:∀ta,L2.PE X a ta->L2.PE X E (L2.tUn r ta))
 (op:∀ρ H s1 v x Q,HR X.K X.d ρ s1 H->RD X.K X.d ρ H v x->xr X.K X.d (RD X.K X.d) ρ H (g v s1) Q->r x H Q):L2.PE X E (tV X.K X.d env s (o.bind g)):=by
 cases o with
 |e v s1=>exact z9 (rule _ h) λσ H Q ⟨ρ,hr,er,w⟩=>⟨ρ,hr,er,λρ1 x H1 x1 hr1 r1=>op ρ1 H1 s1 v x Q hr1 r1 (w.mono x1 hr1)⟩
 |g _ _ _=>exact zS (zJ rfl)
 |d=>exact zS (zJ rfl)
def Ub{f2:Sto->Out Val}(h1:L2.PE X a (tV X.K X.d env s o))(h2:∀s1,L2.PE X b (tV X.K X.d env s1 (f2 s1)))
 (rule:∀ta tb,L2.PE X a ta->L2.PE X b tb->L2.PE X E (L2.tOp (rM2 X.K X.d g) ta tb)):L2.PE X E (tV X.K X.d env s (o.bind λx s1=>(f2 s1).bind λy s2=>g x y s2)):=by
 cases o with
 |e v s1=>
  show L2.PE X E (tV X.K X.d env s ((f2 s1).bind λy s2=>g v y s2));have h2':=h2 s1;cases hb:f2 s1 with
  |e w s2=>
   rw[hb]at h2';exact z9 (rule _ _ h1 h2') λσ H Q ⟨ρ,hr,er,wt⟩=>⟨ρ,hr,er,λρ1 x H1 x1 hr1 r1=>⟨ρ1,hr1,er.mono x1,λρ2 y H2 x2 hr2 r2=>⟨ρ2,s2,v,w,hr2,r1.mono x2,r2,wt.mono (x1.trans hr1 x2) hr2⟩⟩⟩
  |g _ _ _=>exact zS (zJ rfl)
  |d=>exact zS (zJ rfl)
 |g _ _ _=>exact zS (zJ rfl)
 |d=>exact zS (zJ rfl)
def Zb{op op':Cop}{o:Out Val}{f2 f3:Sto->Out Val}{k:Nat}{pos:Pos}(k1:okC op=true)(k2:okC op'=true)(hr0:L2.wV k X.A)(h1:L2.PE X a (tV X.K X.d env s o))(h2:∀s1,L2.PE X b (tV X.K X.d env s1 (f2 s1)))(h3:∀s1,L2.PE X c (tV X.K X.d env s1 (f3 s1)))(hm:plain c=true) :
 L2.PE X (.Compare a [op.op,op'.op] [b,c] pos) (tV X.K X.d env s (o.bind λx s1=>(f2 s1).bind λy s2=>(zi op x y s2).bind λr s3=>match r with
  |.e true=>(f3 s3).bind λz s4=>zi op' y z s4
  |.e false=>.e (.e false) s3
  |_=>.d)):=by
 cases o with
 |e v s1=>
  have h2':=h2 s1;show L2.PE X _ (tV X.K X.d env s ((f2 s1).bind _));cases hb:f2 s1 with
  |e w s2=>
   rw[hb]at h2';show L2.PE X _ (tV X.K X.d env s ((zi op v w s2).bind _));cases hc:zi op v w s2 with
   |e r s3=>
    cases r with
    |e t=>
     have h3':=h3 s3;have rule:=L2.YG (pos:=pos) (qQ hr0 op k1) (qQ hr0 op' k2) h1 h2' h3' (show GU [op.op,op'.op] [b,c]=false from uV hm);refine z9 rule λσ H Q ⟨ρ,hr,er,wt⟩=>⟨ρ,hr,er,λρ1 x H1 x1 hr1 r1=>⟨ρ1,hr1,er.mono x1,λρ2 y H2 x2 hr2 r2=>⟨ρ2,s2,v,w,hr2,r1.mono x2,r2,?_⟩⟩⟩;rw[hc];intro ρ3 z H3 x3 hr3 r3;cases r3;refine⟨t,rfl,?_⟩;have xx:=(x1.trans hr1 x2).trans hr2 x3;have wt':=wt.mono xx hr3;cases t with
     |true=>
      rw[if_pos rfl];refine⟨ρ3,hr3,er.mono xx,?_⟩;have wt2:xr X.K X.d (RD X.K X.d) ρ3 H3 ((f3 s3).bind λz s4=>zi op' w z s4) Q:=wt';cases hz:f3 s3 with
      |e u s4=>
       rw[hz]at wt2;exact λρ4 q H4 x4 hr4 r4=>⟨ρ4,s4,w,u,hr4,(r2.mono x3).mono x4,r4,wt2.mono x4 hr4⟩
      |g _ _ _=>rw[hz]at wt2;exact wt2
      |d=>rw[hz]at wt2;exact wt2
     |false=>
      rw[if_neg Aa];exact zV hr3 (.j false) wt'
    |_=>exact zS (zJ rfl)
   |g _ _ _=>exact zS (zJ rfl)
   |d=>exact zS (zJ rfl)
  |g _ _ _=>exact zS (zJ rfl)
  |d=>exact zS (zJ rfl)
 |g _ _ _=>exact zS (zJ rfl)
 |d=>exact zS (zJ rfl)
def Ti{o:Out Val}{pos:Pos}(h:L2.PE X a (tV X.K X.d env s o)):L2.PE X (.UnaryOp .USub a pos) (tV X.K X.d env s (o.bind λx s1=>match x with|.c i=>.e (.c (-i)) s1|_=>.d)):=by
 refine un1 h (λta q=>L2.Pc L2.Rt q) λρ H s1 v x Q hr r w=>?_;cases r with
 |l i=>exact⟨i,rfl,zV hr (.l _) w⟩
 |_=>exact w.elim
def Tj{o:Out Val}{pos:Pos}(h:L2.PE X a (tV X.K X.d env s o)):L2.PE X (.UnaryOp .Not a pos) (tV X.K X.d env s (o.bind λx s1=>match x with|.e b=>.e (.e !b) s1|_=>.d)):=by
 refine un1 (r:=λx H Q=>∃c,x=.e c/\Q (.e (!c)) H) h (λta q=>L2.RA q) λρ H s1 v x Q hr r w=>?_;cases r with
 |j i=>exact⟨i,rfl,zV hr (.j _) w⟩
 |_=>exact w.elim
def ZZ{rest:List Expr}{o:Out Val}{f2:Sto->Out Val}{pos:Pos}(h1:L2.PE X a (tV X.K X.d env s o))(h2:∀s1,L2.PE X (.BoolOp .And (b::rest) pos) (tV X.K X.d env s1 (f2 s1))) :
 L2.PE X (.BoolOp .And (a::b::rest) pos) (tV X.K X.d env s (o.bind λx s1=>match x with|.e true=>f2 s1|.e false=>.e (.e false) s1|_=>.d)):=by
 cases o with
 |e v s1=>
  refine z9 (L2.Sv h1 (h2 s1)) λσ H Q ⟨ρ,hr,er,wt⟩=>⟨ρ,hr,er,λρ1 x H1 x1 hr1 r1=>?_⟩;have wt':=wt.mono x1 hr1;cases r1 with
  |j t=>
   refine⟨t,rfl,?_⟩;cases t with
   |true=>exact L2.nA (⟨ρ1,hr1,er.mono x1,wt'⟩)
   |false=>exact L2.oz (zV hr1 (.j _) wt')
  |_=>exact wt'.elim
 |g _ _ _=>exact zS (zJ rfl)
 |d=>exact zS (zJ rfl)
def Qj{rest:List Expr}{o:Out Val}{f2:Sto->Out Val}{pos:Pos}(h1:L2.PE X a (tV X.K X.d env s o))(h2:∀s1,L2.PE X (.BoolOp .Or (b::rest) pos) (tV X.K X.d env s1 (f2 s1))) :
 L2.PE X (.BoolOp .Or (a::b::rest) pos) (tV X.K X.d env s (o.bind λx s1=>match truth s1 x with|some false=>f2 s1|some true=>.e x s1|dS=>.d)):=by
 cases o with
 |e v s1=>
  refine z9 (L2.RB h1 (h2 s1)) λσ H Q ⟨ρ,hr,er,wt⟩=>⟨ρ,hr,er,λρ1 x H1 x1 hr1 r1=>?_⟩;have wt':xr X.K X.d (RD X.K X.d) ρ1 H1 (match truth s1 v with|some false=>f2 s1|some true=>.e v s1|dS=>.d) Q:=wt.mono x1 hr1
  cases ht:truth s1 v with
  |none=>rw[ht]at wt';exact wt'.elim
  |some t=>
   rw[ht]at wt';refine⟨t,XF hr1 r1 ht,?_⟩;cases t with
   |true=>exact L2.nA (zV hr1 r1 wt')
   |false=>exact L2.oz (⟨ρ1,hr1,er.mono x1,wt'⟩)
 |g _ _ _=>exact zS (zJ rfl)
 |d=>exact zS (zJ rfl)
def Tf{f2 f3:Sto->Out Val}(h1:L2.PT X c (tT X.K X.d env s o))(h2:∀s1,L2.PE X a (tV X.K X.d env s1 (f2 s1)))(h3:∀s1,L2.PE X b (tV X.K X.d env s1 (f3 s1))) :
 L2.PE X (.IfExp c a b pos) (tV X.K X.d env s (o.bind λt s1=>if t then f2 s1 else f3 s1)):=by
 cases o with
 |e v s1=>
  refine z9 (L2.YJ h1 (h2 s1) (h3 s1)) λσ H Q ⟨ρ,hr,er,wt⟩=>⟨ρ,hr,er,λρ1 x H1 x1 hr1 r1=>?_⟩;have wt':=wt.mono x1 hr1;cases r1;cases v with
  |true=>exact L2.nA (⟨ρ1,hr1,er.mono x1,wt'⟩)
  |false=>exact L2.oz (⟨ρ1,hr1,er.mono x1,wt'⟩)
 |g _ _ _=>exact zS (zJ rfl)
 |d=>exact zS (zJ rfl)
def rN{o:Out (List Val)}(h:∀v s',o≠.e v s'):L2.PA X es (tVs X.K X.d env s o):=PU λ_ _ _=>Rk h
def WU:L2.PA X [] (tVs X.K X.d env s (.e [] s)):=YD L2.u6 λσ H Q ⟨ρ,hr,er,wt⟩=>wt ρ [] H Ext.refl hr .d
def Zf{f2:Sto->Out (List Val)}(hp:plain a=true)(h1:L2.PE X a (tV X.K X.d env s o))(h2:∀s1,L2.PA X es (tVs X.K X.d env s1 (f2 s1))) :
 L2.PA X (a::es) (tVs X.K X.d env s (o.bind λv s1=>(f2 s1).bind λvs s2=>.e (v::vs) s2)):=by
 cases o with
 |e v s1=>
  have h2':=h2 s1;show L2.PA X _ (tVs X.K X.d env s ((f2 s1).bind _));cases hb:f2 s1 with
  |e ws s2=>
   rw[hb]at h2';exact YD (L2.pac h1 h2' (zq hp)) λσ H Q ⟨ρ,hr,er,wt⟩=>⟨ρ,hr,er,λρ1 x H1 x1 hr1 r1=>⟨ρ1,hr1,er.mono x1,λρ2 y H2 x2 hr2 r2=>wt ρ2 _ H2 (x1.trans hr1 x2) hr2 (.a (r1.mono x2) r2)⟩⟩
  |g _ _ _=>exact rN (zJ rfl)
  |d=>exact rN (zJ rfl)
 |g _ _ _=>exact rN (zJ rfl)
 |d=>exact rN (zJ rfl)
def Ze(h:L2.PA X es (tVs X.K X.d env s o)):L2.PE X (.Tuple es k pos) (tV X.K X.d env s (o.bind λvs s1=>if vs.length<=zX then .e (.f vs) s1 else .d)):=by
 cases o with
 |e vs s1=>
  refine z9 (L2.RE h) λσ H Q ⟨ρ,hr,er,wt⟩=>⟨ρ,hr,er,λρ1 xs H1 x1 hr1 r1=>?_⟩;have wt':xr X.K X.d (RD X.K X.d) ρ1 H1 (if vs.length<=zX then .e (.f vs) s1 else .d) Q:=wt.mono x1 hr1
  by_cases hz:vs.length<=zX
  . rw[if_pos hz]at wt'
    exact⟨by rw[<-r1.length,<-yx];exact hz,lK hr1 r1 wt'⟩
  . rw[if_neg hz]at wt';exact wt'.elim
 |g _ _ _=>exact zS (zJ rfl)
 |d=>exact zS (zJ rfl)
def Th(h:L2.PA X es (tVs X.K X.d env s o)):L2.PE X (.List es pos) (tV X.K X.d env s (o.bind λvs s1=>if vs.length<=zX then newList m vs s1 else .d)):=by
 cases o with
 |e vs s1=>
  refine z9 (L2.Sx h) λσ H Q ⟨ρ,hr,er,wt⟩=>⟨ρ,hr,er,λρ1 xs H1 x1 hr1 r1=>?_⟩;have wt':xr X.K X.d (RD X.K X.d) ρ1 H1 (if vs.length<=zX then newList m vs s1 else .d) Q:=wt.mono x1 hr1
  by_cases hz:vs.length<=zX
  . rw[if_pos hz]at wt'
    exact⟨by rw[<-r1.length,<-yx];exact hz,tu hr1 r1 wt'⟩
  . rw[if_neg hz]at wt';exact wt'.elim
 |g _ _ _=>exact zS (zJ rfl)
 |d=>exact zS (zJ rfl)
def Qh(h:L2.PA X es (tVs X.K X.d env s o))(rule:∀t,L2.PA X es t->L2.PE X E (L2.tCB (rMc X.K X.d g) t)):L2.PE X E (tV X.K X.d env s (o.bind g)):=by
 cases o with
 |e vs s1=>exact z9 (rule _ h) λσ H Q ⟨ρ,hr,er,wt⟩=>⟨ρ,hr,er,λρ1 xs H1 x1 hr1 r1=>⟨ρ1,s1,vs,hr1,r1,wt.mono x1 hr1⟩⟩
 |g _ _ _=>exact zS (zJ rfl)
 |d=>exact zS (zJ rfl)
def Te(k1:okF f=true)(hc:X.g=true)(hr0:L2.wV k X.A)(hg:L2.Gl X f.nm)(hm:X.d f.nm=none)(hp:xX (a::es)=true)(h:L2.PA X (a::es) (tVs X.K X.d env s o)) :
 L2.PE X (.Call (.Name f.nm p) (a::es) [] pos) (tV X.K X.d env s (o.bind (blt f m))):=by
 rw[xX,nx]at hp;refine Qh h λt ht=>?_;have hb:=Xk hc hr0 f m k1;have bo:=f.boot;have st:=L2.yW (es:=es) (env:=X.a) (zq hp.1);have hn:=sX (pos:=pos) (env:=X.a) hp.2;cases f with
 |b=>exact L2.tx hb hg hm bo ht (by decide) (by decide) st hn
 |m=>exact L2.tx hb hg hm bo ht (by decide) (by decide) st hn
 |q=>exact L2.tx hb hg hm bo ht (by decide) (by decide) st hn
 |s=>exact L2.tx hb hg hm bo ht (by decide) (by decide) st hn
 |_=>exact L2.YF hb hg hm bo ht (by decide) (by decide) st hn
def ya{o:Out Bool}(h:∀v s',o≠.e v s'):L2.PT X E (tT X.K X.d env s o):=Pk λ_ _ _=>UL h
def Tw(hp:plainT a=true)(h:L2.PE X a (tV X.K X.d env s o)):L2.PT X a (tT X.K X.d env s o.truth):=by
 cases o with
 |e v s1=>
  refine lR (L2.YY h (bA hp)) λσ H Q ⟨ρ,hr,er,wt⟩=>⟨ρ,hr,er,λρ1 x H1 x1 hr1 r1=>?_⟩;have wt':=wt.mono x1 hr1;simp only[Out.truth,zR]at wt';cases ht:truth s1 v with
  |none=>rw[ht]at wt';exact wt'.elim
  |some b=>rw[ht]at wt';exact⟨b,XF hr1 r1 ht,wt' _ _ _ Ext.refl hr1 rfl⟩
 |g _ _ _=>exact ya (zJ rfl)
 |d=>exact ya (zJ rfl)
def Tv(h:L2.PT X a (tT X.K X.d env s o)):L2.PT X (.UnaryOp .Not a pos) (tT X.K X.d env s (o.bind λb s1=>.e (!b) s1)):=by
 cases o with
 |e v s1=>exact lR (L2.RP h) λσ H Q ⟨ρ,hr,er,wt⟩=>⟨ρ,hr,er,λρ1 x H1 x1 hr1 r1=>by cases r1;exact wt _ _ _ x1 hr1 rfl⟩
 |g _ _ _=>exact ya (zJ rfl)
 |d=>exact ya (zJ rfl)
def rP{o:Out Bool}(h:∀v s',o≠.e v s'):L2.PW X E (tT X.K X.d env s o):=Pn λ_ _ _=>UL h
def iV:L2.PW X (.BoolOp .And [] pos) (tT X.K X.d env s (.e true s)):=λwh pins sh σ H Q I ⟨ρ,hr,er,wt⟩=>PyProof.Rows.isTrue_and_nil ⟨H,I,wt _ _ _ Ext.refl hr rfl⟩
def du:L2.PW X (.BoolOp .Or [] pos) (tT X.K X.d env s (.e false s)):=λwh pins sh σ H Q I ⟨ρ,hr,er,wt⟩=>PyProof.Rows.isTrue_or_nil ⟨H,I,wt _ _ _ Ext.refl hr rfl⟩
def Zk{f2:Sto->Out Bool}(h1:L2.PT X a (tT X.K X.d env s o))(h2:∀s1,L2.PW X (.BoolOp .And rest pos) (tT X.K X.d env s1 (f2 s1))) :
 L2.PW X (.BoolOp .And (a::rest) pos) (tT X.K X.d env s (o.bind λb s1=>if b then f2 s1 else .e false s1)):=by
 cases o with
 |e v s1=>
  intro wh pins sh σ H Q I h;obtain⟨ρ,hr,er,wt⟩:=h;refine PyProof.Rows.isTrue_and (L2.thn (h1 pins sh σ H (λc H1=>if c=true then tT X.K X.d env s1 (f2 s1) σ H1 Q else Q false H1) I ⟨ρ,hr,er,λρ1 x H1 x1 hr1 r1=>?_⟩) λc s' ⟨H1,I1,q1⟩=>?_)
  . have wt':=wt.mono x1 hr1
    cases r1;cases v with
    |true=>exact L2.nA (⟨ρ1,hr1,er.mono x1,wt'⟩)
    |false=>exact L2.oz (wt' _ _ _ Ext.refl hr1 rfl)
  . cases c with
    |true=>exact h2 s1 wh pins s' σ H1 Q I1 q1
    |false=>exact⟨H1,I1,q1⟩
 |g _ _ _=>exact rP (zJ rfl)
 |d=>exact rP (zJ rfl)
def V5{f2:Sto->Out Bool}(h1:L2.PT X a (tT X.K X.d env s o))(h2:∀s1,L2.PW X (.BoolOp .Or rest pos) (tT X.K X.d env s1 (f2 s1))) :
 L2.PW X (.BoolOp .Or (a::rest) pos) (tT X.K X.d env s (o.bind λb s1=>if b then .e true s1 else f2 s1)):=by
 cases o with
 |e v s1=>
  intro wh pins sh σ H Q I h;obtain⟨ρ,hr,er,wt⟩:=h;refine PyProof.Rows.isTrue_or (L2.thn (h1 pins sh σ H (λc H1=>if c=true then Q true H1 else tT X.K X.d env s1 (f2 s1) σ H1 Q) I ⟨ρ,hr,er,λρ1 x H1 x1 hr1 r1=>?_⟩) λc s' ⟨H1,I1,q1⟩=>?_)
  . have wt':=wt.mono x1 hr1
    cases r1;cases v with
    |true=>exact L2.nA (wt' _ _ _ Ext.refl hr1 rfl)
    |false=>exact L2.oz (⟨ρ1,hr1,er.mono x1,wt'⟩)
  . cases c with
    |true=>exact⟨H1,I1,q1⟩
    |false=>exact h2 s1 wh pins s' σ H1 Q I1 q1
 |g _ _ _=>exact rP (zJ rfl)
 |d=>exact rP (zJ rfl)
end
end M
end
section
namespace M
open PySem
section
variable {X:L2.Cx}{env:Env}{s:Sto}{E a b c:Expr}
def YR{t t':L2.TO}(h:L2.PO X e t)(i:∀σ H Q,t' σ H Q->t σ H Q):L2.PO X e t':=λpins s σ H Q I q=>h pins s σ H Q I (i σ H Q q)
def OI{o:Out (Option Int)}(h:∀v s',o≠.e v s'):¬tO X.K X.d env s o σ H Q:=by
 rintro ⟨ρ,_,_,w⟩;cases o with
 |e v s'=>exact h v s' rfl
 |_=>exact w
def jR{o:Out (Option Int)}(h:∀v s',o≠.e v s'):L2.PO X e (tO X.K X.d env s o):=λpins sh σ H Q I q=>(OI h q).elim
def Qm:L2.PO X none (tO X.K X.d env s (.e none s)):=YR L2.VA λσ H Q ⟨ρ,hr,er,wt⟩=>wt _ _ _ Ext.refl hr rfl
def Tq{o:Out Val}(h:L2.PE X a (tV X.K X.d env s o)):L2.PO X (some a) (tO X.K X.d env s (o.bind λv s1=>match v with|.c i=>.e (some i) s1|_=>.d)):=by
 cases o with
 |e v s1=>
  refine YR (L2.VB h) λσ H Q ⟨ρ,hr,er,wt⟩=>⟨ρ,hr,er,λρ1 x H1 x1 hr1 r1=>?_⟩;have wt':=wt.mono x1 hr1;cases r1 with
  |l i=>exact⟨i,rfl,wt' _ _ _ Ext.refl hr1 rfl⟩
  |_=>exact wt'.elim
 |g _ _ _=>exact jR (zJ rfl)
 |d=>exact jR (zJ rfl)
def rMs(K:KF)(mg:Str->Option Value)(m:Bool):L2.V->Option Int->Option Int->L2.Hp->L2.VK->Prop:=λx lo hi H Q=>∃ρ s v,HR K mg ρ s H/\RD K mg ρ H v x/\xr K mg (RD K mg) ρ H (uY m v lo hi none s) Q
def OB m:L2.SlR X (rMs X.K X.d m):=by
 intro pins s σ H x v vl vu lo hi sl Q I rx hs pl pu h;obtain⟨ρ,t,w,hr,rw',wt⟩:=h;simp only[uY]at wt;split at wt
 . cases rw' with
   |m n e q=>exact L2.VY pins s σ H _ v vl vu lo hi sl Q I rx hs pl pu ⟨_,_,rfl,e,um hr (q.cut lo hi) wt⟩
 . rename_i heq
   cases heq
 . split at wt
   . rename_i e
     obtain⟨p,xs,rfl,hq,q⟩:=vF hr rw' e;exact L2.VX pins s σ H _ v vl vu lo hi sl Q I rx hs pl pu ⟨_,_,rfl,.of hq,tu hr (q.cut lo hi) wt⟩
   . exact wt.elim
 . rename_i heq
   cases heq
def Qk{f2 f3 f4:Sto->Out (Option Int)}(h1:L2.PE X a (tV X.K X.d env s o))(h2:∀s1,L2.PO X lo (tO X.K X.d env s1 (f2 s1)))(h3:∀s1,L2.PO X hi (tO X.K X.d env s1 (f3 s1)))
 (h4:∀s1,L2.PO X st (tO X.K X.d env s1 (f4 s1))) (hst:(st=none/\∀s1,f4 s1=.e none s1)\/∃e,st=some e/\∀s1 s2,f4 s1≠.e none s2) :
 L2.PE X (.Subscript a (.Slice lo hi st p2) pos) (tV X.K X.d env s (o.bind λx s1=>(f2 s1).bind λl s2=>(f3 s2).bind λh s3=>(f4 s3).bind λc s4=>uY m x l h c s4)):=by
 cases o with
 |e v s1=>
  have h2':=h2 s1;show L2.PE X _ (tV X.K X.d env s ((f2 s1).bind _));cases hl:f2 s1 with
  |e l s2=>
   rw[hl]at h2';have h3':=h3 s2;show L2.PE X _ (tV X.K X.d env s ((f3 s2).bind _));cases hh:f3 s2 with
   |e h s3=>
    rw[hh]at h3';have h4':=h4 s3;show L2.PE X _ (tV X.K X.d env s ((f4 s3).bind _));rcases hst with⟨rfl,e4⟩|⟨e,rfl,e4⟩
    . rw[e4 s3]
      refine z9 (L2.YK (OB m) h1 h2' h3') λσ H Q ⟨ρ,hr,er,wt⟩=>⟨ρ,hr,er,λρ1 x H1 x1 hr1 r1=>⟨ρ1,hr1,er.mono x1,λρ2 y H2 x2 hr2 r2=>?_⟩⟩;cases r2;refine⟨ρ2,hr2,(er.mono x1).mono x2,λρ3 z H3 x3 hr3 r3=>?_⟩;cases r3;exact⟨ρ3,s3,v,hr3,(r1.mono x2).mono x3,wt.mono ((x1.trans hr1 x2).trans hr2 x3) hr3⟩
    . cases hc:f4 s3 with
      |e cc s4=>
       rw[hc]at h4';cases cc with
       |none=>exact absurd hc (e4 s3 s4)
       |some ci=>
        by_cases hv:∃vs,v=.f vs
        case neg=>
         refine z9 (L2.i9 h1 h2' h3' h4') λσ H Q ⟨ρ,hr,er,wt⟩=>⟨ρ,hr,er,λρ1 x H1 x1 hr1 r1=>⟨ρ1,hr1,er.mono x1,λρ2 y H2 x2 hr2 r2=>?_⟩⟩;cases r2;refine⟨ρ2,hr2,(er.mono x1).mono x2,λρ3 z H3 x3 hr3 r3=>?_⟩;cases r3;refine⟨ρ3,hr3,((er.mono x1).mono x2).mono x3,λρ4 z4 H4 x4 hr4 r4=>?_⟩;cases r4;have wt':xr X.K X.d (RD X.K X.d) ρ4 H4 (uY m v l h (some ci) s4) Q:=wt.mono (((x1.trans hr1 x2).trans hr2 x3).trans hr3 x4) hr4;have em:uY m v l h (some ci) s4=(match z8 s4 v with|some vs=>if ci≠0 then newList m (L2.yA vs (L2.ug vs.length l h ci).1 ci (L2.ug vs.length l h ci).2) s4 else .d|dS=>.d):=by
          cases v with
          |f vs=>exact absurd ⟨vs,rfl⟩ hv
          |_=>rfl
         rw[em]at wt';cases hl:z8 s4 v with
         |none=>rw[hl]at wt';exact wt'.elim
         |some vs=>
          rw[hl]at wt';dsimp only at wt';obtain⟨p,xs,rfl,hq,q⟩:=vF hr4 (((r1.mono x2).mono x3).mono x4) hl;by_cases c0:ci≠0
          . have wt2:xr X.K X.d (RD X.K X.d) ρ4 H4 (newList m (L2.yA vs (L2.ug vs.length l h ci).1 ci (L2.ug vs.length l h ci).2) s4) Q:=by rwa [if_pos c0]at wt'
            refine⟨p,xs,ci,rfl,.of hq,rfl,c0,?_⟩;rw[<-q.length];exact tu hr4 (q.yA _ _ _) wt2
          . rw[if_neg c0]at wt';exact wt'.elim
        refine z9 (L2.cx h1 h2' h3' h4') λσ H Q ⟨ρ,hr,er,wt⟩=>⟨ρ,hr,er,λρ1 x H1 x1 hr1 r1=>⟨ρ1,hr1,er.mono x1,λρ2 y H2 x2 hr2 r2=>?_⟩⟩;cases r2;refine⟨ρ2,hr2,(er.mono x1).mono x2,λρ3 z H3 x3 hr3 r3=>?_⟩;cases r3;refine⟨ρ3,hr3,((er.mono x1).mono x2).mono x3,λρ4 z4 H4 x4 hr4 r4=>?_⟩;cases r4;have xx:=((x1.trans hr1 x2).trans hr2 x3).trans hr3 x4;have wt':xr X.K X.d (RD X.K X.d) ρ4 H4 (uY m v l h (some ci) s4) Q:=wt.mono xx hr4;have r:=((r1.mono x2).mono x3).mono x4;cases r with
        |m n e q=>
         change xr X.K X.d (RD X.K X.d) ρ4 H4 (if ci≠0/\(L2.xA (Cq _) l h ci).2<=zX then .e (.f (L2.yA _ (L2.xA (Cq _) l h ci).1 ci (L2.xA (Cq _) l h ci).2)) s4 else .d) Q at wt'
         split at wt'
         . rename_i hz
           have hlen:=q.length;refine⟨_,_,ci,rfl,e,rfl,hz.1,by rw[<-hlen,<-yx];exact hz.2,?_⟩
           rw[<-hlen];exact um hr4 (q.yA _ _ _) wt'
         . exact wt'.elim
        |_=>obtain⟨_,e⟩:=hv;cases e
      |g _ _ _=>exact zS (zJ rfl)
      |d=>exact zS (zJ rfl)
   |g _ _ _=>exact zS (zJ rfl)
   |d=>exact zS (zJ rfl)
  |g _ _ _=>exact zS (zJ rfl)
  |d=>exact zS (zJ rfl)
 |g _ _ _=>exact zS (zJ rfl)
 |d=>exact zS (zJ rfl)
noncomputable def Mf.nm:Mf->Str
 |.b=>"count"|.a=>"append"|.c=>"extend"|.f=>"pop"|.d=>"index"|.e=>"join"
noncomputable def okM:Mf->Bool
 |.c|.f|.d|.e=>false
 |_=>true
def Zd{f2:Sto->Out Val}(hm:okM f=true)(hs:lL a=true)(hp:plain b=true)(hline:(apos.endLine == cpos.line)=true)(h1:L2.PE X a (tV X.K X.d env s o))(h2:∀s1,L2.PE X b (tV X.K X.d env s1 (f2 s1))) :
 L2.PE X (.Call (.Attribute a f.nm apos) [b] [] cpos) (tV X.K X.d env s (o.bind λx s1=>((f2 s1).bind λv s2=>(Out.e [v] s2:Out (List Val))).bind λvs s2=>yf f x vs s2)):=by
 cases o with
 |e v s1=>
  have h2':=h2 s1;show L2.PE X _ (tV X.K X.d env s (((f2 s1).bind λv s2=>(Out.e [v] s2:Out (List Val))).bind λvs s2=>yf f v vs s2));cases hb:f2 s1 with
  |e w s2=>
   rw[hb]at h2';show L2.PE X _ (tV X.K X.d env s (yf f v [w] s2));cases f with
   |b=>
    by_cases hv:∃vs,v=.f vs
    . obtain⟨vs,rfl⟩:=hv
      refine z9 (L2.cq h1 h2' (tQ hs) (zq hp) hline) λσ H Q ⟨ρ,hr,er,wt⟩=>⟨ρ,hr,er,λρ1 x H1 x1 hr1 r1=>?_⟩;cases r1 with
      |m n e q=>
       refine⟨⟨_,_,rfl,e⟩,ρ1,hr1,er.mono x1,λρ2 y H2 x2 hr2 r2=>?_⟩;have wt':xr X.K X.d (RD X.K X.d) ρ2 H2 (yf .b (.f vs) [w] s2) Q:=wt.mono (x1.trans hr1 x2) hr2;simp only[yf]at wt';split at wt'
       . rename_i hf
         rw[nx]at hf;have q2:=q.mono x2;refine⟨_,_,y,rfl,rfl,L2.SqT.of (x2.c _ _ e n.1),r2.flat hf.1,q2.flat hf.2,?_⟩;rw[RDs.countP r2 hf.1 q2 hf.2];exact zV hr2 (.l _) wt'
       . exact wt'.elim
    . refine z9 (L2.cn h1 h2' (tQ hs) (zq hp) hline) λσ H Q ⟨ρ,hr,er,wt⟩=>⟨ρ,hr,er,λρ1 x H1 x1 hr1 r1=>?_⟩
      have wt':xr X.K X.d (RD X.K X.d) ρ1 H1 (yf .b v [w] s2) Q:=wt.mono x1 hr1;have em:yf .b v [w] s2=(match z8 s2 v with|some vs=>if M.flat w&&vs.all M.flat then .e (.c (vs.countP λz=>eqF z w:Nat)) s2 else .d|dS=>.d):=by
       cases v with
       |f vs=>exact absurd ⟨vs,rfl⟩ hv
       |_=>rfl
      rw[em]at wt';cases hl:z8 s2 v with
      |none=>rw[hl]at wt';exact wt'.elim
      |some vs=>
       rw[hl]at wt'
       -- the receiver is a list already ahead of the argument
       have ty:L2.tyV X.K "list" x H1:=by
        cases r1 with
        |D n e q=>exact .inl ⟨rfl,_,.of e⟩
        |C e k=>
         obtain⟨xs,q⟩:=iP k;exact .inl ⟨rfl,_,.of q⟩
        |_=>cases hl
       refine⟨ty,ρ1,hr1,er.mono x1,λρ2 y H2 x2 hr2 r2=>?_⟩;obtain⟨p,xs,rfl,hq,q⟩:=vF hr2 (r1.mono x2) hl;have wt2:=wt'.mono x2 hr2;simp only at wt2;split at wt2
       . rename_i hf
         rw[nx]at hf;refine⟨_,_,y,rfl,rfl,L2.SqL.of hq,r2.flat hf.1,q.flat hf.2,?_⟩;rw[RDs.countP r2 hf.1 q hf.2];exact zV hr2 (.l _) wt2
       . exact wt2.elim
   |a=>
    cases v with
    |h i=>
     refine z9 (L2.cj (es:=[]) h1 h2' (tQ hs) (zq hp) hline) λσ H Q ⟨ρ,hr,er,wt⟩=>⟨ρ,hr,er,λρ1 x H1 x1 hr1 r1=>?_⟩;cases r1 with
     |C e k=>
      obtain⟨xs,q⟩:=iP k;refine⟨.inl ⟨rfl,_,.of q⟩,ρ1,hr1,er.mono x1,λρ2 y H2 x2 hr2 r2=>?_⟩;have wt':xr X.K X.d (RD X.K X.d) ρ2 H2 (yf .a (.h i) [w] s2) Q:=wt.mono (x1.trans hr1 x2) hr2;simp only[yf]at wt';split at wt'
      . rename_i vs hv
        split at wt'
        . rename_i hz
          obtain⟨b',ys,e1,e2,q2⟩:=hr2.obj i _ hv;have e':=x2.get e;rw[e']at e1;cases e1;refine⟨_,ys,y,rfl,rfl,e2,by rw[<-q2.length,<-yx];exact hz,?_⟩
          exact wt' _ _ _ (Ext.write hr2 e' e2 _) (hr2.write e' e2 (q2.append (.a r2 .d))) .s
        . exact wt'.elim
      . exact wt'.elim
    |_=>exact zS (zJ rfl)
   |c=>cases hm
   |f=>cases hm
   |d=>cases hm
   |e=>cases hm
  |g _ _ _=>exact zS (zJ rfl)
  |d=>exact zS (zJ rfl)
 |g _ _ _=>exact zS (zJ rfl)
 |d=>exact zS (zJ rfl)
end
def spN(T:Tbl)(K:KF)(mg:Str->Option Value)(n:Nat)(f:Str)(ver:Nat):L2.Sp:=λvs H Q _=>∃ρ s args,HR K mg ρ s H/\RDs K mg ρ H args vs/\xr K mg (RD K mg) ρ H (zG T n f ver args s) Q
structure Callee(T:Tbl)(n:Nat)(X:L2.Cx)(f:Str)(ver:Nat)(F:Fn):Prop where
 a:∃fa fd,X.d f=some (.ref fa)/\CG X.K (.ref fa)=true/\L2.Binds X.K fd F.a []/\L2.pL X.f X.w X.K X.d X.i L2.CX0 n fa fd F.a (spN T X.K X.d n f ver)
section
variable {X:L2.Cx}{env:Env}{s:Sto}{T:Tbl}{n ver:Nat}{f:Str}{F:Fn}
def Za(C:Callee T n X f ver F)(hr0:L2.wV n X.A)(hg:L2.Gl X f)(hd:(f == ("__debug__":Str))=false):L2.PE X (.Call (.Name f p) [] [] pos) (tV X.K X.d env s (zG T n f ver [] s)):=by obtain⟨fa,fd,hm,hk,hb,hf⟩:=C.a;exact z9 (L2.YE hf hr0 hg hm hk hb .nil L2.UA hd) λσ H Q ⟨ρ,hr,er,wt⟩=>⟨ρ,s,[],hr,.d,wt⟩
def WS(C:Callee T n X f ver F)(hr0:L2.wV n X.A)(hg:L2.Gl X f)(hd:(f == ("__debug__":Str))=false)(hp:xX es=true)(hne:es≠[])(h:L2.PA X es (tVs X.K X.d env s o)) :
 L2.PE X (.Call (.Name f p) es [] pos) (tV X.K X.d env s (o.bind (zG T n f ver))):=by
 obtain⟨fa,fd,hm,hk,hb,hf⟩:=C.a;cases o with
 |e vs s1=>
  cases es with
  |nil=>exact absurd rfl hne
  |cons e es=>
   rw[xX,nx]at hp;refine z9 (L2.W2 hf hr0 hg hm hk hb .nil L2.UA h hd (L2.yW (zq hp.1)) (sX hp.2)) λσ H Q ⟨ρ,hr,er,wt⟩=>⟨ρ,hr,er,λρ1 xs H1 x1 hr1 r1=>?_⟩;show spN T X.K X.d n f ver (xs++[]) H1 Q L2.E0;rw[Ba];exact⟨ρ1,s1,vs,hr1,r1,wt.mono x1 hr1⟩
 |g _ _ _=>exact zS (zJ rfl)
 |d=>exact zS (zJ rfl)
end
end M
end
section
namespace M
open PySem
def vB:∀{c} {p},(c=true->p)->cond c p True
 |true,_,h=>h rfl
 |false,_,_=>A5
def pW(h:cond c p True)(e:c=true):p:=by subst e;exact h
mutual
theorem R9:∀(a b:Val),cond (a.beq b) (a=b) True
 |.g,b=>by cases b<;>first|exact(rfl:Val.g=Val.g)|exact A5
 |.e x,b=>by cases b with|e y=>exact vB λh=>congrArg Val.e (CN (show (x == y)=true from h))|_=>exact A5
 |.c x,b=>by cases b with|c y=>exact vB λh=>congrArg Val.c (CN (show (x == y)=true from h))|_=>exact A5
 |.j x,b=>by cases b with|j y=>exact vB λh=>congrArg Val.j (CN (show (x == y)=true from h))|_=>exact A5
 |.f x,b=>by cases b with|f y=>exact vB λh=>congrArg Val.f (pW (mq x y) h)|_=>exact A5
 |.k x,b=>by cases b with|k y=>exact vB λh=>congrArg Val.k (pW (mq x y) h)|_=>exact A5
 |.o,b=>by cases b<;>first|exact(rfl:Val.o=Val.o)|exact A5
 |.m x,b=>by cases b with|m y=>exact vB λh=>congrArg Val.m (CN (show (x == y)=true from h))|_=>exact A5
 |.p x,b=>by cases b with|p y=>exact vB λh=>congrArg Val.p (CN (show (x == y)=true from h))|_=>exact A5
 |.h x,b=>by cases b with|h y=>exact vB λh=>congrArg Val.h (CN (show (x == y)=true from h))|_=>exact A5
 |.r x,b=>by cases b with|r y=>exact vB λh=>congrArg Val.r (CN (show (x == y)=true from h))|_=>exact A5
 |.q x,b=>by cases b with|q y=>exact vB λh=>congrArg Val.q (CN (show (x == y)=true from h))|_=>exact A5
 |.l x,b=>by cases b with|l y=>exact vB λh=>congrArg Val.l (CN (show (x == y)=true from h))|_=>exact A5
theorem mq:∀(a b:List Val),cond (r8 a b) (a=b) True
 |[],[]=>(rfl:([]:List Val)=[])
 |[],_::_=>A5
 |_::_,[]=>A5
 |x::xs,y::ys=>vB λh=>by have h:(x.beq y&&r8 xs ys)=true:=h;rw[nx]at h;rw[pW (R9 x y) h.1,pW (mq xs ys) h.2]
end
def sy(h:r8 a b=true):a=b:=pW (mq a b) h
mutual
theorem beq_refl:∀a:Val,a.beq a=true
 |.g=>rfl
 |.e x=>(beq_self_eq_true x:(x == x)=true)
 |.c x=>(beq_self_eq_true x:(x == x)=true)
 |.j x=>(beq_self_eq_true x:(x == x)=true)
 |.f x=>tR x
 |.k x=>tR x
 |.o=>rfl
 |.m x=>(beq_self_eq_true x:(x == x)=true)
 |.p x=>(beq_self_eq_true x:(x == x)=true)
 |.h x=>(beq_self_eq_true x:(x == x)=true)
 |.r x=>(beq_self_eq_true x:(x == x)=true)
 |.q x=>(beq_self_eq_true x:(x == x)=true)
 |.l x=>(beq_self_eq_true x:(x == x)=true)
theorem tR:∀a:List Val,r8 a a=true
 |[]=>rfl
 |x::xs=>by rw[r8,beq_refl x,tR xs];rfl
end
section
variable {K:KF}{mg:Str->Option Value}
def Mv.refl:Mv ρ H ρ H:=⟨λa o e n=>⟨e,n⟩,λi a e=>e,λ_ _=>rfl⟩
theorem Mv.trans(x:Mv ρ H ρ1 H1)(y:Mv ρ1 H1 ρ2 H2):Mv ρ H ρ2 H2:=
 ⟨λa o e n=>y.b a o (x.b a o e n).1 (x.b a o e n).2,λi a e=>y.c i a (x.c i a e),λa ha=>by obtain⟨i,hi⟩:=BF ha;exact(y.d a (AF (x.c i a hi))).trans (x.d a ha)⟩
structure Walk(K:KF)(mg:Str->Option Value)(ρ:Own)(H:L2.Hp)(r:Src)(J:L2.It):Prop where
 b:r.a.length<=zX
 c:∀(ρ2:Own) (H2:L2.Hp) (s2:Sto) (i:Nat) (v:Val),Mv ρ H ρ2 H2->HR K mg ρ2 s2 H2->r.ok s2=true->r.a[i]?=some v->J.c i H2/\∀x H3,J.b i H2 x H3->(H3=H2\/∃p o,H2 p=none/\H3=L2.upd H2 p o)/\RD K mg ρ2 H3 v x
 a:∀(ρ2:Own) (H2:L2.Hp) (s2:Sto) (i:Nat),Mv ρ H ρ2 H2->HR K mg ρ2 s2 H2->r.ok s2=true->i=r.a.length->J.a i H2
def Walk.mv(w:Walk K mg ρ H r J)(x:Mv ρ H ρ1 H1):Walk K mg ρ1 H1 r J:=
 ⟨w.b,λρ2 H2 s2 i v y=>w.c ρ2 H2 s2 i v (x.trans y),λρ2 H2 s2 i y=>w.a ρ2 H2 s2 i (x.trans y)⟩
def b8(H:L2.Hp):Prop:=∀a xs,(H a=some (.c xs)\/H a=some (.b xs))->xs.length<=Ar
def u9(h:L2.PI X tg it wi):L2.PI X tg it (λσ H R=>wi σ H λJ H1=>b8 H1->R J H1):=λpins s σ H R I q=>
 L2.thn (h pins s σ H _ I q) λv s1 h1=>L2.thn h1 λitv s2 ⟨i,fp,tn,J,H',e,I',T,t0,f,r⟩=>⟨i,fp,tn,J,H',e,I',T,t0,f,r λa xs hx=>by
  rcases hx with hx|hx
  . obtain⟨z,_⟩:=(show L2.yB X.f X.w H' s2.heap a (.c xs) from I'.j a _ hx);exact z
  . obtain⟨z,_⟩:=(show L2.yB X.f X.w H' s2.heap a (.b xs) from I'.j a _ hx);exact z⟩
def XS(hz:vs.length<=zX)(n:ρ.no a)(e:H a=some (.c xs))(q:RDs K mg ρ H vs xs):Walk K mg ρ H ⟨vs,none⟩ (L2.Itt K a) where
 b:=hz
 c:=λρ2 H2 s2 i v x hr _ hv=>by have e2:=(x.b a _ e n).1;have q2:=RDs.mv x q;obtain⟨y,h1,h2⟩:=q2.get hv;refine⟨⟨xs,y,.of e2,h1⟩,λz H3 ⟨e3,h3⟩=>⟨.inl e3,?_⟩⟩;subst e3;have:=h3 xs (.of e2);rw[h1]at this;cases this;exact h2
 a:=λρ2 H2 s2 i x hr _ hi=>⟨xs,.of (x.b a _ e n).1,by rw[<-q.length];exact DJ hi.symm⟩
def XQ(hz:vs.length<=zX)(n:ρ.no a)(e:H a=some (.b xs))(q:RDs K mg ρ H vs xs):Walk K mg ρ H ⟨vs,none⟩ (L2.Itl K a) where
 b:=hz
 c:=λρ2 H2 s2 i v x hr _ hv=>by have e2:=(x.b a _ e n).1;have q2:=RDs.mv x q;obtain⟨y,h1,h2⟩:=q2.get hv;refine⟨⟨xs,y,.of e2,h1⟩,λz H3 ⟨e3,h3⟩=>⟨.inl e3,?_⟩⟩;subst e3;have:=h3 xs (.of e2);rw[h1]at this;cases this;exact h2
 a:=λρ2 H2 s2 i x hr _ hi=>⟨xs,.of (x.b a _ e n).1,by rw[<-q.length];exact DJ hi.symm⟩
def bb{ns:List Int}(k:KT K a (ns.map L2.V.d)):Walk K mg ρ H ⟨ns.map .c,none⟩ (L2.Itt K a) where
 b:=by obtain⟨o,its,n,_,_,_,h4,h5⟩:=k;have:=h5.length;simp only[zI,By]at this;show (ns.map Val.c).length<=_;rw[zI,yx,this];exact h4
 c:=λρ2 H2 s2 i v x hr _ hv=>by obtain⟨y,h1,h2⟩:=(RDs.ints (K:=K) (mg:=mg) (ρ:=ρ2) (H:=H2) ns).get hv;refine⟨⟨_,y,k.sqt,h1⟩,λz H3 ⟨e3,h3⟩=>⟨.inl e3,?_⟩⟩;subst e3;have:=h3 _ k.sqt;rw[h1]at this;cases this;exact h2
 a:=λρ2 H2 s2 i x hr _ hi=>⟨_,k.sqt,by rw[zI];rw[hi];simp⟩
def XR(hz:vs.length<=zX)(e:ρ.o[i0]?=some a):Walk K mg ρ H ⟨vs,some i0⟩ (L2.Itl K a) where
 b:=hz
 c:=λρ2 H2 s2 i v x hr ho hv=>by
  simp only[Src.ok]at ho;split at ho
  . rename_i ws hw
    cases sy ho;obtain⟨b,xs,e1,e2,q⟩:=hr.obj i0 _ hw;rw[x.c _ _ e]at e1;cases e1;obtain⟨y,h1,h2⟩:=q.get hv;refine⟨⟨xs,y,.of e2,h1⟩,λz H3 ⟨e3,h3⟩=>⟨.inl e3,?_⟩⟩;subst e3;have:=h3 xs (.of e2);rw[h1]at this;cases this;exact h2
  . cases ho
 a:=λρ2 H2 s2 i x hr ho hi=>by
  simp only[Src.ok]at ho;split at ho
  . rename_i ws hw
    cases sy ho;obtain⟨b,xs,e1,e2,q⟩:=hr.obj i0 _ hw;rw[x.c _ _ e]at e1;cases e1;exact⟨xs,.of e2,by rw[<-q.length];exact DJ hi.symm⟩
  . cases ho
def Yd:(yC lo n)[i]?=if i<n then some (.c (lo+i)) else none:=by
 unfold yC;rw[AA];by_cases h:i<n
 . rw[if_pos h,D3 h];rfl
 . rw[if_neg h,DI (by rw[AM];omega)];rfl
def jZ:(yC lo n).length=n:=by unfold yC;rw[zI,AM]
def jy(hz:n<=zX):Walk K mg ρ H ⟨yC lo n,none⟩ (L2.Itr lo n) where
 b:=by show (yC lo n).length<=_;rw[jZ];exact hz
 c:=λρ2 H2 s2 i v x hr _ hv=>by
  have hv':(yC lo n)[i]?=some v:=hv;rw[Yd]at hv';split at hv'
  . rename_i hi
    cases hv';refine⟨hi,λz H3 ⟨e3,h3⟩=>⟨.inl e3,?_⟩⟩;subst h3;exact .l _
  . cases hv'
 a:=λρ2 H2 s2 i x hr _ hi=>by have:i=(yC lo n).length:=hi;rw[jZ]at this;exact DJ this.symm
theorem v8:∀{vs} {n i:Nat},(yL n vs)[i]?=(vs[i]?).map λv=>.f [.c ((n+i:Nat):Int),v]
 |[],_,_=>rfl
 |v::vs,n,0=>rfl
 |v::vs,n,i+1=>by show (yL (n+1) vs)[i]?=(vs[i]?).map _;rw[v8];rw[show n+1+i=n+(i+1) by omega]
theorem vO:∀{vs} {n},(yL n vs).length=vs.length
 |[],_=>rfl
 |v::vs,n=>by show (yL (n+1) vs).length+1=_;rw[vO];rfl
def bc(hz:vs.length<=zX)(n:ρ.no a)(e:H a=some (.c xs))(q:RDs K mg ρ H vs xs):Walk K mg ρ H ⟨yL 0 vs,none⟩ (L2.Ite K a) where
 b:=by show (yL 0 vs).length<=_;rw[vO];exact hz
 c:=λρ2 H2 s2 i v x hr _ hv=>by have e2:=(x.b a _ e n).1;have q2:=RDs.mv x q;have hv':(yL 0 vs)[i]?=some v:=hv;rw[v8,Au]at hv';obtain⟨w,h0,rfl⟩:=hv';obtain⟨y,h1,h2⟩:=q2.get h0;refine⟨⟨xs,y,.of e2,h1⟩,λz H3 ⟨t,y',ht,e3,h3,e4⟩=>⟨.inr ⟨t,_,ht,e4⟩,?_⟩⟩;subst e3 e4;have:=h3 xs (.of e2);rw[h1]at this;cases this;have X:=Ext.new hr ht (.c [.d ((i:Nat):Int),y]);refine .m (hr.new ht) L2.zt (.a ?_ (.a (h2.mono X) .d));rw[Dn];exact .l _
 a:=λρ2 H2 s2 i x hr _ hi=>⟨xs,.of (x.b a _ e n).1,by rw[<-q.length,hi];exact vO.symm⟩
def gp(hz:vs.length<=zX)(n:ρ.no a)(e:H a=some (.b xs))(q:RDs K mg ρ H vs xs):Walk K mg ρ H ⟨yL 0 vs,none⟩ (L2.UU K a) where
 b:=by show (yL 0 vs).length<=_;rw[vO];exact hz
 c:=λρ2 H2 s2 i v x hr _ hv=>by have e2:=(x.b a _ e n).1;have q2:=RDs.mv x q;have hv':(yL 0 vs)[i]?=some v:=hv;rw[v8,Au]at hv';obtain⟨w,h0,rfl⟩:=hv';obtain⟨y,h1,h2⟩:=q2.get h0;refine⟨⟨xs,y,.of e2,h1⟩,λz H3 ⟨t,y',ht,e3,h3,e4⟩=>⟨.inr ⟨t,_,ht,e4⟩,?_⟩⟩;subst e3 e4;have:=h3 xs (.of e2);rw[h1]at this;cases this;have X:=Ext.new hr ht (.c [.d ((i:Nat):Int),y]);refine .m (hr.new ht) L2.zt (.a ?_ (.a (h2.mono X) .d));rw[Dn];exact .l _
 a:=λρ2 H2 s2 i x hr _ hi=>⟨xs,.of (x.b a _ e n).1,by rw[<-q.length,hi];exact vO.symm⟩
def tI(env:Env)(s:Sto)(o:Out Src):L2.TI:=λσ H R=>∃ρ,HR K mg ρ s H/\ER K mg ρ H env σ/\(match o with
 |.e r s'=>∀ρ' H' J,Ext ρ H ρ' H'->HR K mg ρ' s' H'->Walk K mg ρ' H' r J->R J H'
 |_=>False)
end
section
variable {X:L2.Cx}{env:Env}{s:Sto}{a b tg:Expr}
def u7{t t':L2.TI}(h:L2.PI X tg it t)(i:∀σ H R,t' σ H R->t σ H R):L2.PI X tg it t':=λpins s σ H R I q=>h pins s σ H R I (i σ H R q)
def yM{o:Out Src}(h:∀v s',o≠.e v s'):L2.PI X tg it (tI (K:=X.K) (mg:=X.d) env s o):=λpins sh σ H R I q=>by
 obtain⟨ρ,_,_,w⟩:=q;cases o with
 |e v s'=>exact(h v s' rfl).elim
 |g _ _ _=>exact w.elim
 |d=>exact w.elim
def b8.of(z:b8 H){a}(q:RDs K mg ρ H vs xs)(h:H a=some (.c xs)\/H a=some (.b xs)):vs.length<=zX:=by rw[q.length,yx];exact z a xs h
def To{o:Out Val}(h:L2.PE X a (tV X.K X.d env s o)):L2.PI X tg a (tI (K:=X.K) (mg:=X.d) env s (o.bind λv s1=>match srcOf s1 v with|some r=>.e r s1|dS=>.d)):=by
 cases o with
 |e v s1=>
  show L2.PI X tg a (tI (K:=X.K) (mg:=X.d) env s (match srcOf s1 v with|some r=>.e r s1|dS=>.d))
  cases v with
  |f vs=>
   refine u7 (u9 (L2.YM h)) λσ H R ⟨ρ,hr,er,w⟩=>⟨ρ,hr,er,λρ1 x H1 x1 hr1 r1=>?_⟩;cases r1 with
   |m n e q=>exact⟨_,rfl,⟨_,.of e⟩,λz=>w ρ1 H1 _ x1 hr1 (XS (z.of q (.inl e)) n e q)⟩
  |k vs=>
   refine u7 (u9 (L2.eD h)) λσ H R ⟨ρ,hr,er,w⟩=>⟨ρ,hr,er,λρ1 x H1 x1 hr1 r1=>?_⟩;cases r1 with
   |D n e q=>exact⟨_,rfl,⟨_,.of e⟩,λz=>w ρ1 H1 _ x1 hr1 (XQ (z.of q (.inr e)) n e q)⟩
  |m ns=>
   refine u7 (L2.YM h) λσ H R ⟨ρ,hr,er,w⟩=>⟨ρ,hr,er,λρ1 x H1 x1 hr1 r1=>?_⟩;cases r1 with
   |p k=>exact⟨_,rfl,⟨_,k.sqt⟩,w ρ1 H1 _ x1 hr1 (bb k)⟩
  |h i=>
   simp only[srcOf];cases hs:s1[i]? with
   |none=>exact yM (zJ rfl)
   |some cl=>
    cases cl with
    |c vs=>
     refine u7 (u9 (L2.eD h)) λσ H R ⟨ρ,hr,er,w⟩=>⟨ρ,hr,er,λρ1 x H1 x1 hr1 r1=>?_⟩;cases r1 with
     |C e=>
      obtain⟨b',xs,e1,e2,q⟩:=hr1.obj i _ hs;rw[e]at e1;cases e1;exact⟨_,rfl,⟨_,.of e2⟩,λz=>w ρ1 H1 _ x1 hr1 (XR (z.of q (.inr e2)) e)⟩
    |_=>exact yM (zJ rfl)
  |_=>exact yM (zJ rfl)
 |g _ _ _=>exact yM (zJ rfl)
 |d=>exact yM (zJ rfl)
def dn{o:Out Val}{p pos:Pos}(hp:plain a=true)(hg:L2.Gl X "range")(hm:X.d "range"=none)(h:L2.PE X a (tV X.K X.d env s o)) :
 L2.PI X tg (.Call (.Name "range" p) [a] [] pos) (tI (K:=X.K) (mg:=X.d) env s (o.bind λx s1=>match x with
  |.c j=>if -(2 ^ 62)<=j/\j<=zX then .e ⟨yC 0 j.toNat,dS⟩ s1 else .d
  |_=>.d)):=by
 cases o with
 |e v s1=>
  have st:AQ [a] X.a=[(false,eval a X.a)]:=L2.yW (zq hp);refine u7 (L2.cy hg hm (L2.pac h L2.u6 (zq hp)) st) λσ H R ⟨ρ,hr,er,w⟩=>⟨ρ,hr,er,λρ1 x H1 x1 hr1 r1=>?_⟩;cases r1 with
  |l j=>
   simp only[zR]at w;by_cases hz:-(2 ^ 62)<=j/\j<=zX
   . rw[if_pos hz]at w
     have hl:(zX:Int)<2 ^ 62:=by decide
     exact⟨j,rfl,hz.1,⋯,w ρ1 H1 _ x1 hr1 (jy ⋯)⟩
   . rw[if_neg hz]at w;exact w.elim
  |_=>exact w.elim
 |g _ _ _=>exact yM (zJ rfl)
 |d=>exact yM (zJ rfl)
def dq{o:Out Val}{f2:Sto->Out Val}{p pos:Pos}(hp:plain a=true)(hp2:plain b=true)(hg:L2.Gl X "range")(hm:X.d "range"=none)(h:L2.PE X a (tV X.K X.d env s o))(h2:∀s1,L2.PE X b (tV X.K X.d env s1 (f2 s1))) :
 L2.PI X tg (.Call (.Name "range" p) [a,b] [] pos) (tI (K:=X.K) (mg:=X.d) env s (o.bind λx s1=>(f2 s1).bind λy s2=>match x,y with
  |.c i,.c j=>if -(2 ^ 62)<=i/\i<2 ^ 62∧-(2 ^ 62)<=j/\j<2 ^ 62/\j-i<=zX then .e ⟨yC i (j-i).toNat,dS⟩ s2 else .d
  |_,_=>.d)):=by
 cases o with
 |e v s1=>
  have h2':=h2 s1;simp only[zR];cases hb:f2 s1 with
  |e w s2=>
   rw[hb]at h2';have st2:AQ [b] X.a=[(false,eval b X.a)]:=L2.yW (zq hp2);have st:AQ [a,b] X.a=[(false,eval a X.a),(false,eval b X.a)]:=by rw[L2.yW (zq hp),st2]
   refine u7 (L2.cz hg hm (L2.pac h (L2.pac h2' L2.u6 (zq hp2)) (zq hp)) st st2) λσ H R ⟨ρ,hr,er,wt⟩=>⟨ρ,hr,er,λρ1 x H1 x1 hr1 r1=>⟨ρ1,hr1,er.mono x1,λρ2 y H2 x2 hr2 r2=>?_⟩⟩;simp only[zR]at wt;cases r1 with
   |l i=>
    cases r2 with
    |l j=>
     simp only at wt;by_cases hz:-(2 ^ 62)<=i/\i<2 ^ 62∧-(2 ^ 62)<=j/\j<2 ^ 62/\j-i<=zX
     . rw[if_pos hz]at wt
       exact⟨i,j,rfl,⟨hz.1,hz.2.1,hz.2.2.1,hz.2.2.2.1⟩,wt ρ2 H2 _ (x1.trans hr1 x2) hr2 (jy ⋯)⟩
     . rw[if_neg hz]at wt;exact wt.elim
    |_=>exact wt.elim
   |_=>exact wt.elim
  |g _ _ _=>exact yM (zJ rfl)
  |d=>exact yM (zJ rfl)
 |g _ _ _=>exact yM (zJ rfl)
 |d=>exact yM (zJ rfl)
def WV{es:List Expr}{k:Nat}{o:Out Val}{p pos tp:Pos}(hp:plain a=true)(hg:L2.Gl X "enumerate")(hm:X.d "enumerate"=none)(h:L2.PE X a (tV X.K X.d env s o)) :
 L2.PI X (.Tuple es k tp) (.Call (.Name "enumerate" p) [a] [] pos) (tI (K:=X.K) (mg:=X.d) env s (o.bind λv s1=>match v with
  |.f vs=>.e ⟨yL 0 vs,dS⟩ s1
  |.k vs=>.e ⟨yL 0 vs,dS⟩ s1
  |_=>.d)):=by
 cases o with
 |e v s1=>
  have st:AQ [a] X.a=[(false,eval a X.a)]:=L2.yW (zq hp);refine u7 (u9 (L2.W9 hg hm (L2.pac h L2.u6 (zq hp)) st)) λσ H R ⟨ρ,hr,er,w⟩=>⟨ρ,hr,er,λρ1 x H1 x1 hr1 r1=>?_⟩;cases r1 with
  |m n e q=>exact⟨_,rfl,.inl ⟨⟨_,.of e⟩,λz=>w ρ1 H1 _ x1 hr1 (bc (z.of q (.inl e)) n e q)⟩⟩
  |D n e q=>exact⟨_,rfl,.inr ⟨⟨_,.of e⟩,λz=>w ρ1 H1 _ x1 hr1 (gp (z.of q (.inr e)) n e q)⟩⟩
  |_=>exact w.elim
 |g _ _ _=>exact yM (zJ rfl)
 |d=>exact yM (zJ rfl)
theorem gu:∀{vs ws} {i:Nat} {v},(qx vs ws)[i]?=some v->∃a b,vs[i]?=some a/\ws[i]?=some b/\v=.f [a,b]
 |[],_,_,_,h=>by cases h
 |_::_,[],_,_,h=>by cases h
 |a::vs,b::ws,0,v,h=>⟨a,b,rfl,rfl,(Am h).symm⟩
 |a::vs,b::ws,i+1,v,h=>gu (vs:=vs) (ws:=ws) (i:=i) h
theorem lu:∀{vs ws},ws.length<=vs.length->(qx vs ws).length=ws.length
 |_,[],_=>by cases ‹List Val›<;>rfl
 |[],_::_,h=>by cases h
 |_::vs,_::ws,h=>by show (qx vs ws).length+1=_;rw[lu (Nat.le_of_succ_le_succ h)];rfl
def XT{a b}(hz:vs.length<=zX)(hl:ws.length<=vs.length)(n:ρ.no a)(e:H a=some (.c xs))(q:RDs K mg ρ H vs xs)(n':ρ.no b)(e':H b=some (.c ys))(q':RDs K mg ρ H ws ys):Walk K mg ρ H ⟨qx vs ws,none⟩ (L2.Itz K a b) where
 b:=by show (qx vs ws).length<=_;rw[lu hl];exact AB hl hz
 c:=λρ2 H2 s2 i v x hr _ hv=>by have e2:=(x.b a _ e n).1;have e2':=(x.b b _ e' n').1;obtain⟨w,w',h0,h0',rfl⟩:=gu hv;obtain⟨y,h1,h2⟩:=(RDs.mv x q).get h0;obtain⟨y',h1',h2'⟩:=(RDs.mv x q').get h0';refine⟨⟨xs,y,ys,y',.of e2,h1,.of e2',h1'⟩,λz H3 ⟨t,u,u',ht,e3,h3,h3',e4⟩=>⟨.inr ⟨t,_,ht,e4⟩,?_⟩⟩;subst e3 e4;have t1:=h3 xs (.of e2);rw[h1]at t1;cases t1;have t2:=h3' ys (.of e2');rw[h1']at t2;cases t2;have X:=Ext.new hr ht (.c [y,y']);exact .m (hr.new ht) L2.zt (.a (h2.mono X) (.a (h2'.mono X) .d))
 a:=λρ2 H2 s2 i x hr _ hi=>by
  have hi:i=ws.length:=hi.trans (lu hl);by_cases he:vs.length=ws.length
  . exact .inl ⟨xs,.of (x.b a _ e n).1,by rw[<-q.length,hi];exact he⟩
  . have hlt:i<vs.length:=by omega
    obtain⟨y,h1,_⟩:=(RDs.mv x q).get (pn hlt);exact .inr ⟨xs,y,ys,.of (x.b a _ e n).1,h1,.of (x.b b _ e' n').1,by rw[<-q'.length,hi]⟩
def Tp{es:List Expr}{k:Nat}{o:Out Val}{f2:Sto->Out Val}{p pos tp:Pos}(hp:plain a=true)(hp2:plain b=true)(hg:L2.Gl X "zip")(hm:X.d "zip"=none)(h:L2.PE X a (tV X.K X.d env s o))(h2:∀s1,L2.PE X b (tV X.K X.d env s1 (f2 s1))) :
 L2.PI X (.Tuple es k tp) (.Call (.Name "zip" p) [a,b] [] pos) (tI (K:=X.K) (mg:=X.d) env s (o.bind λx s1=>(f2 s1).bind λy s2=>match x,y with
  |.f vs,.f ws=>if ws.length<=vs.length then .e ⟨qx vs ws,dS⟩ s2 else .d
  |_,_=>.d)):=by
 cases o with
 |e v s1=>
  have h2':=h2 s1;simp only[zR];cases hb:f2 s1 with
  |e w s2=>
   rw[hb]at h2';have st2:AQ [b] X.a=[(false,eval b X.a)]:=L2.yW (zq hp2);have st:AQ [a,b] X.a=[(false,eval a X.a),(false,eval b X.a)]:=by rw[L2.yW (zq hp),st2]
   refine u7 (u9 (L2.RH hg hm (L2.pac h (L2.pac h2' L2.u6 (zq hp2)) (zq hp)) st st2)) λσ H R ⟨ρ,hr,er,wt⟩=>⟨ρ,hr,er,λρ1 x H1 x1 hr1 r1=>⟨ρ1,hr1,er.mono x1,λρ2 y H2 x2 hr2 r2=>?_⟩⟩;simp only[zR]at wt;have r1:=r1.mono x2;cases r1 with
   |m n e q=>
    cases r2 with
    |m n' e' q'=>
     simp only at wt;rename_i vs _ _ ws _ _;by_cases hz:ws.length<=vs.length
     . rw[if_pos hz]at wt
       exact⟨_,_,rfl,⟨_,.of e⟩,⟨_,.of e'⟩,λz=>wt ρ2 H2 _ (x1.trans hr1 x2) hr2 (XT (z.of q (.inl e)) hz n e q n' e' q')⟩
     . rw[if_neg hz]at wt;exact wt.elim
    |_=>exact wt.elim
   |_=>exact wt.elim
  |g _ _ _=>exact yM (zJ rfl)
  |d=>exact yM (zJ rfl)
 |g _ _ _=>exact yM (zJ rfl)
 |d=>exact yM (zJ rfl)
end
end M
end
section
namespace M
open PySem
def rq(K:KF)(mg:Str->Option Value)(t:Tgt)(g:L2.TG):Prop:=∀(ρ:Own) (s:Sto) (H:L2.Hp) (v:Val) (x:L2.V) (env env':Env) (σ:L2.St) (Q:L2.St->L2.Hp->Prop),HR K mg ρ s H->RD K mg ρ H v x->ER K mg ρ H env σ->xO t v env=some env' ->
 (∀σ',ER K mg ρ H env' σ'->Q σ' H)->g x σ H Q
def rW:rq K mg (.a i) (L2.uk i):=λρ s H v x env env' σ Q hr r er e q=>by
 cases e;exact q _ (er.set i r)
def lC:List Nat->L2.TGs
 |[]=>L2.QP
 |i::is=>L2.V1 (L2.uk i) (lC is)
theorem mE:∀{is} {vs} {xs} {env} {σ},RDs K mg ρ H vs xs->ER K mg ρ H env σ->vs.length=is.length ->
 (∀σ',ER K mg ρ H ((is.zip vs).foldl (λe p=>e.set p.1 (some p.2)) env) σ'->Q σ' H)->lC is xs σ H Q
 |[],[],_,env,σ,.d,er,_,q=>⟨rfl,q σ er⟩
 |[],_::_,_,_,_,_,_,h,_=>by cases h
 |_::_,[],_,_,_,_,_,h,_=>by cases h
 |i::is,v::vs,x::xs,env,σ,.a r rs,er,h,q=>⟨x,xs,rfl,mE rs (er.set i r) (by simpa using h) q⟩
def vZ:rq K mg (.b is) (L2.QS K is.length (lC is)):=λρ s H v x env env' σ Q hr r er e q=>by
 simp only[xO]at e;split at e
 . split at e
   . rename_i hl
     cases e;cases r with
     |m n e q2=>exact⟨_,_,rfl,.of e,by rw[<-q2.length];exact hl,mE q2 er hl q⟩
   . cases e
 . cases e
noncomputable def yZ(sc:Scope)(N:List Str):List Nat->List Expr->Bool
 |[],[]=>true
 |i::is,.Name x _::es=>decide (N[i]?=some x)&&(decide (sc.names.lookup x=some .local)||decide (sc.names.lookup x=some .cell))&&yZ sc N is es
 |_,_=>false
def ckT(sc:Scope)(N:List Str):Tgt->Expr->Bool
 |.a i,.Name x _=>decide (N[i]?=some x)&&(decide (sc.names.lookup x=some .local)||decide (sc.names.lookup x=some .cell))
 |.b is,.Tuple es _ _=>yZ sc N is es&&decide (es≠[])
 |_,_=>false
section
variable {X:L2.Cx}
structure Scp(sc:Scope)(N:List Str)(X:L2.Cx):Prop where
 a:X.N=N
 d:N.Nodup
 e:∀x,sc.names.lookup x=some .local\/sc.names.lookup x=some .cell\/sc.names.lookup x=some .free->L2.Vis X.a.scope x
 c:∀x,sc.names.lookup x=some .local\/sc.names.lookup x=some .cell->L2.Loc X.a.scope x/\(X.m x=true\/X.a.scope.names.lookup x=some .local)
 b:∀x,sc.names.lookup x=some .globalImplicit->L2.Gl X x
 cf:∀x,sc.names.lookup x=some .cell\/sc.names.lookup x=some .free->X.a.kindOf x=some .cell\/X.a.kindOf x=some .free
def mI(S:Scp sc N X)(h1:N[i]?=some x)(h2:sc.names.lookup x=some .local\/sc.names.lookup x=some .cell):L2.PG X (.Name x p) (L2.uk i):=by obtain⟨a,b⟩:=S.c x h2;exact L2.W7 (by rw[S.a];exact S.d) (by rw[S.a];exact h1) a b
theorem wL(S:Scp sc N X):∀{is} {es},yZ sc N is es=true->L2.PGs X es (lC is)/\(C8 es X.a).length=is.length/\(C8 es X.a).findIdx? (·.1)=none
 |[],[],_=>⟨L2.W8,rfl,rfl⟩
 |[],_::_,h=>by cases h
 |_::_,[],h=>by cases h
 |i::is,e::es,h=>by
  cases e with
  |Name x p=>
   simp only[yZ,nx,AS,decide_eq_true_eq]at h;obtain⟨a,b,c⟩:=wL S h.2;refine⟨L2.YL (mI S h.1.1 h.1.2) a,?_,?_⟩
   . show (C8 es X.a).length+1=is.length+1
     rw[b]
   . show List.findIdx? (·.1) ((false,assign (.Name x p) X.a)::C8 es X.a)=none
     rw[List.findIdx?_cons];simp only[AV,if_false];rw[c];rfl
  |_=>cases h
def Pe(S:Scp sc N X)(hc:X.g=true)(h:ckT sc N t e=true):∃g,L2.PG X e g/\rq X.K X.d t g:=by
 cases t with
 |a i=>
  cases e with
  |Name x p=>
   simp only[ckT,nx,AS,decide_eq_true_eq]at h;exact⟨_,mI S h.1 h.2,rW⟩
  |_=>cases h
 |b is=>
  cases e with
  |Tuple es k p=>
   simp only[ckT,nx,decide_eq_true_eq]at h;obtain⟨a,b,c⟩:=wL S h.1;exact⟨_,L2.sW hc a b c,vZ⟩
  |_=>cases h
end
structure Lp(acc:Addr)(ρ:Own)(H:L2.Hp)(ρ':Own)(H':L2.Hp):Prop where
 f:∃new:List Addr,ρ'.o=ρ.o++new/\∀a∈new,H a=none
 c:ρ'.h=acc::ρ.h
 d:∀(a:Addr) (o:L2.HO),H a=some o->a ∉ ρ.o->H' a=some o
 g:∀a∈ρ.o,hk (H' a)=hk (H a)
section
variable {K:KF}{mg:Str->Option Value}{ρ ρ1 ρ2:Own}{H H1 H2:L2.Hp}{s s1:Sto}{acc:Addr}
noncomputable def Own.hide(ρ:Own)(acc:Addr):Own:=⟨ρ.o,acc::ρ.h⟩
def lE(hr:HR K mg ρ s H)(hn:H acc=none)o:Mv ρ H (ρ.hide acc) (L2.upd H acc o):=
 ⟨λa u e n=>⟨by rw[L2.zY (L2.zp e hn)];exact e,n.1,λhm=>by
  rcases Ah.mp hm with z|z
  . exact L2.zp e hn z
  . exact n.2 z⟩,λi a e=>e,λa ha=>by rw[L2.zY λz=>(hr.new hn).1 (by rw[<-z];exact ha)]⟩
theorem HR.hide(hr:HR K mg ρ s H)(hn:H acc=none):HR K mg (ρ.hide acc) s (L2.upd H acc (.b xs)):=by
 refine⟨hr.f,hr.l,λi c e=>?_,λa ha=>?_⟩
 . obtain⟨a,e1,q⟩:=hr.g i c e
   obtain⟨o,e2⟩:=q.there;exact⟨a,e1,q.mv (lE hr hn _) (L2.zY (L2.zp e2 hn))⟩
 . rcases Ah.mp ha with z|z
   . subst z;exact⟨⟨xs,L2.zt⟩,(hr.new hn).1⟩
   . obtain⟨⟨ys,e⟩,n⟩:=hr.d a z
     exact⟨⟨ys,by rw[L2.zY (L2.zp e hn)];exact e⟩,n⟩
def Lp.start(hr:HR K mg ρ s H)(hn:H acc=none)o:Lp acc ρ H (ρ.hide acc) (L2.upd H acc o):=
 ⟨⟨[],by simp[Own.hide],λa ha=>by cases ha⟩,rfl,λa u e _=>by rw[L2.zY (L2.zp e hn)];exact e,(lE hr hn o).d⟩
def Lp.step(l:Lp acc ρ H ρ1 H1)(hr:HR K mg ρ1 s1 H1)(x:Ext ρ1 H1 ρ2 H2):Lp acc ρ H ρ2 H2:=by
 obtain⟨new,e1,hn⟩:=l.f;obtain⟨new2,e2,hn2⟩:=x.d;refine⟨⟨new++new2,by rw[e2,e1,Bc],λa ha=>?_⟩,x.f.trans l.c,λa o e n=>x.c a o (l.d a o e n) ?_,λa ha=>(x.g a (by rw[e1];exact Bs _ ha)).trans (l.g a ha)⟩
 . rcases AO.mp ha with ha|ha
   . exact hn a ha
   . cases q:H a with
     |none=>rfl
     |some o=>
      by_cases hm:a∈ρ.o
      . obtain⟨xs,e⟩:=hr.trk (a:=a) (by rw[e1];exact Bs _ hm)
        rw[hn2 a ha]at e;cases e
      . have:=l.d a o q hm
        rw[hn2 a ha]at this;cases this
 . rw[e1]
   intro hm;rcases AO.mp hm with hm|hm
   . exact n hm
   . rw[hn a hm]at e;cases e
def Lp.emit(l:Lp acc ρ H ρ1 H1)(hr:HR K mg ρ1 s1 H1)(hn:H acc=none)o:Lp acc ρ H ρ1 (L2.upd H1 acc o):=
 ⟨l.f,l.c,λa u e n=>by rw[L2.zY (L2.zp e hn)];exact l.d a u e n,λa ha=>by
  obtain⟨new,e1,_⟩:=l.f;rw[L2.zY λz=>(hr.d acc (by rw[l.c];exact AK)).2 (by rw[<-z,e1];exact Bs _ ha)]
  exact l.g a ha⟩
def Lp.here(l:Lp acc ρ H ρ1 H1):acc∈ρ1.h:=by rw[l.c];exact AK
def fY(hr:HR K mg ρ1 s1 H1)(ha:acc∈ρ1.h)o:Mv ρ1 H1 ρ1 (L2.upd H1 acc o):=
 ⟨λa u e n=>⟨by rw[L2.zY (λz=>n.2 (by rw[z];exact ha))];exact e,n⟩,λi a e=>e,λa h=>by rw[L2.zY λz=>(hr.d acc ha).2 (by rw[<-z];exact h)]⟩
def HR.emit(hr:HR K mg ρ1 s1 H1)(ha:acc∈ρ1.h):HR K mg ρ1 s1 (L2.upd H1 acc (.b xs)):=by
 have hno:=(hr.d acc ha).2;refine⟨hr.f,hr.l,λi c e=>?_,λa hm=>?_⟩
 . obtain⟨a,e1,q⟩:=hr.g i c e
   exact⟨a,e1,q.mv (fY hr ha _) (L2.zY (λz=>hno (by rw[<-z];exact AF e1)))⟩
 . obtain⟨⟨ys,e⟩,n⟩:=hr.d a hm
   by_cases z:a=acc
   . subst z;exact⟨⟨xs,L2.zt⟩,n⟩
   . exact⟨⟨ys,by rw[L2.zY z];exact e⟩,n⟩
def Lp.done(l:Lp acc ρ H ρ1 H1)(h0:HR K mg ρ s H)(hn:H acc=none)(hr:HR K mg ρ1 s1 H1)(e:H1 acc=some (.b ys))(q:RDs K mg ρ1 H1 vs ys)(w:xr K mg (RD K mg) ρ H (newList m vs s1) Q):Q (.c acc) H1:=by
 have ha:=l.here;have hacc:=(hr.d acc ha).2;have hnh:=(h0.new hn).2;cases m with
 |false=>
  have mv:Mv ρ1 H1 ⟨ρ1.o,ρ.h⟩ H1:=⟨λa u e n=>⟨e,n.1,λz=>n.2 (by rw[l.c];exact Az _ z)⟩,λi a e=>e,λ_ _=>rfl⟩
  refine w ⟨ρ1.o,ρ.h⟩ _ H1 ⟨l.f,rfl,l.d,l.g⟩ ⟨hr.f,hr.l,λi ws e=>?_,λa hm=>?_⟩ (.D ⟨hacc,hnh⟩ e (RDs.mv mv q))
  . obtain⟨a,e1,t⟩:=hr.g i ws e
    exact⟨a,e1,t.mv mv rfl⟩
  . exact hr.d a (by rw[l.c];exact Az _ hm)
 |true=>
  have mv:Mv ρ1 H1 ⟨ρ1.o++[acc],ρ.h⟩ H1:=by
   refine⟨λa u e n=>⟨e,λhm=>?_,λz=>n.2 (by rw[l.c];exact Az _ z)⟩,λi a e=>?_,λ_ _=>rfl⟩
   . rcases AO.mp hm with hm|hm
     . exact n.1 hm
     . rw[Ao.mp hm]at n;exact n.2 ha
   . show (ρ1.o++[acc])[i]?=_
     rw[AJ (Ad.mp e).1];exact e
  have rf:(ρ1.o++[acc])[s1.length]?=some acc:=by rw[<-hr.f,AR (Ac _)];simp
  refine w ⟨ρ1.o++[acc],ρ.h⟩ _ H1 ⟨?_,rfl,l.d,l.g⟩ ⟨?_,?_,λi ws q'=>?_,λa hm=>?_⟩ (.C rf (by rw[e];rfl))
  . obtain⟨new,e1,hnew⟩:=l.f
    refine⟨new++[acc],by show ρ1.o++[acc]=_;rw[e1,Bc],λa hm=>?_⟩
    rcases AO.mp hm with hm|hm
    . exact hnew a hm
    . rw[Ao.mp hm];exact hn
  . show (ρ1.o++[acc]).length=(s1++[Cel.c vs]).length
    rw[Ak,Ak,hr.f];rfl
  . show (ρ1.o++[acc]).Nodup
    rw[FJ];exact⟨hr.l,by simp,λa ha' b hb=>by rw[Ao.mp hb];intro z;subst z;exact hacc ha'⟩
  . by_cases hi:i<s1.length
    . rw[AJ hi]at q'
      obtain⟨a,e1,t⟩:=hr.g i ws q';exact⟨a,mv.c i a e1,t.mv mv rfl⟩
    . have hi':i=s1.length:=by have:=(Ad.mp q').1;rw[Ak]at this;simp at this;omega
      subst hi';rw[AR (Ac _)]at q';simp at q';subst q';exact⟨acc,rf,ys,e,RDs.mv mv q⟩
  . obtain⟨x,n⟩:=hr.d a (by rw[l.c];exact Az _ hm)
    refine⟨x,λz=>?_⟩;rcases AO.mp z with z|z
    . exact n z
    . rw[Ao.mp z]at hm;exact hnh hm
end
end M
end
section
namespace M
open PySem
section
variable {K:KF}{mg:Str->Option Value}
def kU{J:L2.It}{g:L2.TG}{tb:L2.TS}{D:L2.Ends}(Pv:Nat->L2.St->L2.Hp->Prop)(h0:Pv 0 σ H)(hd:∀σ H,Pv n σ H->J.a n H/\D.a σ H)
 (hs:∀i σ H,i<n->Pv i σ H->J.c i H/\∀x H',J.b i H x H'->g x σ H' λσ2 H2=>tb {D with a:=Pv (i+1),c:=Pv (i+1),b:=D.a} σ2 H2):L2.mL J g tb D σ H:=by
 refine⟨λi m σ H=>m=n-i/\i<=n/\Pv i σ H,⟨n,by simp,A3 _,h0⟩,?_⟩
 rintro i m σ H ⟨rfl,hi,p⟩;by_cases hlt:i<n
 . obtain⟨a,b⟩:=hs i σ H hlt p
   exact .inr ⟨a,Pv (i+1),λσ' H' p'=>⟨n-(i+1),⋯,rfl,hlt,p'⟩,b⟩
 . have e:i=n:=by omega
   subst e;exact .inl (hd σ H p)
structure CS(K:KF)(mg:Str->Option Value)(acc:Addr)(ρ0:Own)(H0:L2.Hp)(a:List Val)(s:Sto)(env:Env)(ρ:Own)(σ:L2.St)(H:L2.Hp):Prop where
 d:Lp acc ρ0 H0 ρ H
 b:HR K mg ρ s H
 c:ER K mg ρ H env σ
 e:∃ys,H acc=some (.b ys)/\RDs K mg ρ H a ys
def Grows(body:Env->Sto->List Val->Out (List Val × Env)):Prop:=∀e s a p s',body e s a=.e p s'->a.length<=p.1.length
theorem uv(hb:Grows body):∀{xs} {env} {s} {a} {p} {s'},xP r t body xs env s a=.e p s'->a.length<=p.1.length
 |[],env,s,a,p,s',h=>by
  rw[xP]at h;split at h
  . cases h;exact Ac _
  . cases h
 |x::xs,env,s,a,p,s',h=>by
  rw[xP]at h;split at h
  . split at h
    . cases h
    . rename_i env' he
      cases hc:body env' s a with
      |e q s1=>
       rw[hc]at h;exact AB (hb _ _ _ _ _ hc) (uv hb h)
      |g _ _ _=>rw[hc]at h;cases h
      |d=>rw[hc]at h;cases h
  . cases h
def BodyOk(K:KF)(mg:Str->Option Value)(acc:Addr)(ρ0:Own)(H0:L2.Hp)(body:Env->Sto->List Val->Out (List Val × Env))(tb:L2.TS):Prop:=
 ∀(ρ:Own) (s:Sto) (H:L2.Hp) (env:Env) (σ:L2.St) (a:List Val) (p:List Val × Env) (s':Sto) (D:L2.Ends),CS K mg acc ρ0 H0 a s env ρ σ H->body env s a=.e p s'->p.1.length<=zX ->
  (∀ρ' H' σ',CS K mg acc ρ0 H0 p.1 s' p.2 ρ' σ' H'->Mv ρ H ρ' H'->D.a σ' H')->tb D σ H
def v7
   (W:Walk K mg ρ H r J) (TG:rq K mg t g) (hg:Grows body) (hb:BodyOk K mg acc ρ0 H0 body tb)
 (C:CS K mg acc ρ0 H0 a s env ρ σ H) (h:xP r t body r.a env s a=.e p sf) (hz:p.1.length<=zX) (fin:∀ρ' H' σ',CS K mg acc ρ0 H0 p.1 sf p.2 ρ' σ' H'->Mv ρ H ρ' H'->D.a σ' H'):L2.mL J g tb D σ H:=by
 refine kU (n:=r.a.length) (λi σ2 H2=>∃ρ2 s2 env2 a2,CS K mg acc ρ0 H0 a2 s2 env2 ρ2 σ2 H2/\Mv ρ H ρ2 H2/\xP r t body (r.a.drop i) env2 s2 a2=.e p sf) ⟨ρ,s,env,a,C,Mv.refl,by rw[EZ];exact h⟩ ?_ ?_
 . rintro σ2 H2 ⟨ρ2,s2,env2,a2,C2,mv,h2⟩
   rw[List.drop_length,xP]at h2;split at h2
   . rename_i ho
     cases h2;exact⟨W.a ρ2 H2 _ _ mv C2.b ho rfl,fin ρ2 H2 σ2 C2 mv⟩
   . cases h2
 . rintro i σ2 H2 hi ⟨ρ2,s2,env2,a2,C2,mv,h2⟩
   rw[D7 hi,xP]at h2;split at h2
   . rename_i ho
     obtain⟨hgo,hy⟩:=W.c ρ2 H2 s2 i (r.a[i]) mv C2.b ho (pn hi);refine⟨hgo,λx H3 y=>?_⟩;obtain⟨hH,rx⟩:=hy x H3 y;split at h2
     . cases h2
     . rename_i env' he
       -- the item is there: perhaps a new thing
       have C3:CS K mg acc ρ0 H0 a2 s2 env2 ρ2 σ2 H3/\Mv ρ2 H2 ρ2 H3:=by
        rcases hH with e|⟨q,o,hq,e⟩
        . subst e;exact⟨C2,Mv.refl⟩
        . subst e
          have X:=Ext.new C2.b hq o;refine⟨⟨C2.d.step C2.b X,C2.b.more hq o,C2.c.mono X,?_⟩,X.mv⟩;obtain⟨ys,e1,e2⟩:=C2.e;exact⟨ys,by rw[L2.zY (L2.zp e1 hq)];exact e1,e2.mono X⟩
       refine TG ρ2 s2 H3 _ x env2 env' σ2 _ C3.1.b rx C3.1.c he λσ4 er4=>?_;cases hc:body env' s2 a2 with
       |e q s5=>
        rw[hc]at h2;have hlen:q.1.length<=zX:=AB (uv hg h2) hz;exact hb ρ2 s2 H3 env' σ4 a2 q s5 _ ⟨C3.1.d,C3.1.b,er4,C3.1.e⟩ hc hlen λρ5 H5 σ5 C5 mv5=>⟨ρ5,s5,q.2,q.1,C5,(mv.trans C3.2).trans mv5,h2⟩
       |g _ _ _=>rw[hc]at h2;cases h2
       |d=>rw[hc]at h2;cases h2
   . cases h2
end
section
variable (K:KF)(mg:Str->Option Value)(Φ:Calls)(G:Str->Option Val)
def uE(e:Ex):L2.TE:=λσ H Q=>∃env s,tV K mg env s (evE Φ G env e s) σ H Q
def uT(e:Cn):L2.TT:=λσ H Q=>∃env s,tT K mg env s (evT Φ G env e s) σ H Q
def uI(it:Itb):L2.TI:=λσ H R=>∃env s,tI (K:=K) (mg:=mg) env s (xD Φ G env it s) σ H R
noncomputable def uTs:Cns->List L2.TT
 |.b=>[]
 |.a e es=>uT K mg Φ G e::uTs es
end
section
variable {K:KF}{mg:Str->Option Value}{Φ:Calls}{G:Str->Option Val}
def W6(h:∀env s,L2.PE X E (tV X.K X.d env s (evE Φ G env e s))):L2.PE X E (uE X.K X.d Φ G e):=λpins s σ H Q I ⟨env,t,q⟩=>h env t pins s σ H Q I q
def Pl(h:∀env s,L2.PT X E (tT X.K X.d env s (evT Φ G env e s))):L2.PT X E (uT X.K X.d Φ G e):=λpins s σ H Q I ⟨env,t,q⟩=>h env t pins s σ H Q I q
def hX(h:∀env s,L2.PI X tg E (tI (K:=X.K) (mg:=X.d) env s (xD Φ G env it s))):L2.PI X tg E (uI X.K X.d Φ G it):=λpins s σ H Q I ⟨env,t,q⟩=>h env t pins s σ H Q I q
theorem oa:∀{es} {ρ} {s} {H},HR K mg ρ s H->ER K mg ρ H env σ->x6 Φ G env es s=.e b s2 ->
 (∀ρ' H',Ext ρ H ρ' H'->HR K mg ρ' s2 H'->Q b H')->L2.lr (uTs K mg Φ G es) σ H Q
 |.b,ρ,s,H,hr,er,h,q=>by
  rw[x6]at h;cases h;exact q ρ H Ext.refl hr
 |.a e es,ρ,s,H,hr,er,h,q=>by
  rw[x6]at h;refine⟨env,s,ρ,hr,er,?_⟩;cases hc:evT Φ G env e s with
  |e c s1=>
   rw[hc]at h;intro ρ1 c' H1 x1 hr1 e1;cases e1;cases c with
   |true=>exact L2.nA (oa hr1 (er.mono x1) h λρ' H' x' hr'=>q ρ' H' (x1.trans hr1 x') hr')
   |false=>
    simp only[zR]at h;cases h;exact L2.oz (q ρ1 H1 x1 hr1)
  |g _ _ _=>rw[hc]at h;cases h
  |d=>rw[hc]at h;cases h
def sH(Φ:Calls)(G:Str->Option Val)(elt:Ex)(ifs:Cns):Env->Sto->List Val->Out (List Val × Env):=λe s' acc=>(x6 Φ G e ifs s').bind λb s2=>if b then (evE Φ G e elt s2).bind λv s3=>.e (acc++[v],e) s3 else .e (acc,e) s2
def vi:Grows (sH Φ G elt ifs):=by
 intro e s a p s' h;unfold sH at h;cases hc:x6 Φ G e ifs s with
 |e b s1=>
  rw[hc]at h;cases b with
  |true=>
   simp only[zR,if_true]at h;cases hv:evE Φ G e elt s1 with
   |e v s2=>rw[hv]at h;cases h;simp
   |g _ _ _=>rw[hv]at h;cases h
   |d=>rw[hv]at h;cases h
  |false=>simp only[zR]at h;cases h;exact Ac _
 |g _ _ _=>rw[hc]at h;cases h
 |d=>rw[hc]at h;cases h
def oj(hn:H0 acc=none):BodyOk K mg acc ρ0 H0 (sH Φ G elt ifs) (L2.tTB (uTs K mg Φ G ifs) (L2.sG acc (uE K mg Φ G elt))):=by
 intro ρ s H env σ a p s' D C h hz q;unfold sH at h;cases hc:x6 Φ G env ifs s with
 |e b s1=>
  rw[hc]at h;refine oa (ρ:=ρ) (s:=s) C.b C.c hc λρ1 H1 x1 hr1=>?_;have hacc1:∃ys,H1 acc=some (.b ys)/\RDs K mg ρ1 H1 a ys:=by obtain⟨ys,e1,e2⟩:=C.e;exact⟨ys,x1.c _ _ e1 (C.b.d acc C.d.here).2,e2.mono x1⟩
  cases b with
  |true=>
   simp only[zR,if_true]at h;refine L2.nA ⟨env,s1,ρ1,hr1,C.c.mono x1,?_⟩;cases hv:evE Φ G env elt s1 with
   |e v s2=>
    rw[hv]at h;cases h;intro ρ2 y H2 x2 hr2 r2;have xx:=x1.trans hr1 x2;have lp2:=C.d.step C.b xx;obtain⟨ys,e1,e2⟩:=hacc1;have e3:H2 acc=some (.b ys):=x2.c _ _ e1 (hr1.d acc (C.d.step C.b x1).here).2;have e4:=e2.mono x2;have hl:ys.length<Ar:=by have h1:(a++[v]).length<=zX:=hz;rw[Ak,e2.length,yx]at h1;simp at h1;omega
    have mv2:=fY (H1:=H2) hr2 lp2.here (.b (ys++[y]));refine⟨ys,e3,hl,q ρ2 _ σ ⟨lp2.emit hr2 hn _,hr2.emit lp2.here,⟨C.c.b,λi v' e'=>?_⟩,⟨_,L2.zt,RDs.mv mv2 (e4.append (.a r2 .d))⟩⟩ (xx.mv.trans mv2)⟩;obtain⟨u,h1,h2⟩:=(C.c.mono xx).a i v' e';exact⟨u,h1,RD.mv mv2 h2⟩
   |g _ _ _=>rw[hv]at h;cases h
   |d=>rw[hv]at h;cases h
  |false=>
   simp only[zR]at h;cases h;exact L2.oz (q ρ1 H1 σ ⟨C.d.step C.b x1,hr1,C.c.mono x1,hacc1⟩ x1.mv)
 |g _ _ _=>rw[hc]at h;cases h
 |d=>rw[hc]at h;cases h
def qU(Φ:Calls)(G:Str->Option Val)(elt:Ex)(ifs:Cns)(t2:Tgt)(it2:Itb)(ifs2:Cns):Env->Sto->List Val->Out (List Val × Env):=λe s' acc=>(x6 Φ G e ifs s').bind λb s2=>if b then (xD Φ G e it2 s2).bind λr2 s3=>
 xP r2 t2 (sH Φ G elt ifs2) r2.a e s3 acc
 else .e (acc,e) s2
def rX:Grows (qU Φ G elt ifs t2 it2 ifs2):=by
 intro e s a p s' h;unfold qU at h;cases hc:x6 Φ G e ifs s with
 |e b s1=>
  rw[hc]at h;cases b with
  |true=>
   simp only[zR,if_true]at h;cases hv:xD Φ G e it2 s1 with
   |e v s2=>rw[hv]at h;exact uv vi h
   |g _ _ _=>rw[hv]at h;cases h
   |d=>rw[hv]at h;cases h
  |false=>simp only[zR]at h;cases h;exact Ac _
 |g _ _ _=>rw[hc]at h;cases h
 |d=>rw[hc]at h;cases h
def mU(hn:H0 acc=none)(TG:rq K mg t2 g2) :
 BodyOk K mg acc ρ0 H0 (qU Φ G elt ifs t2 it2 ifs2) (L2.tTB (uTs K mg Φ G ifs) (L2.oZ (uI K mg Φ G it2) g2 (uTs K mg Φ G ifs2) (L2.sG acc (uE K mg Φ G elt)))):=by
 intro ρ s H env σ a p s' D C h hz q;unfold qU at h;cases hc:x6 Φ G env ifs s with
 |e b s1=>
  rw[hc]at h;refine oa (ρ:=ρ) (s:=s) C.b C.c hc λρ1 H1 x1 hr1=>?_;have hacc1:∃ys,H1 acc=some (.b ys)/\RDs K mg ρ1 H1 a ys:=by obtain⟨ys,e1,e2⟩:=C.e;exact⟨ys,x1.c _ _ e1 (C.b.d acc C.d.here).2,e2.mono x1⟩
  have lp1:=C.d.step C.b x1;cases b with
  |true=>
   simp only[zR,if_true]at h;refine L2.nA ⟨env,s1,ρ1,hr1,C.c.mono x1,?_⟩;cases hv:xD Φ G env it2 s1 with
   |e r2 s2=>
    rw[hv]at h;intro ρ2 H2 J x2 hr2 W;have xx:=x1.trans hr1 x2;obtain⟨ys,e1,e2⟩:=hacc1;have e3:H2 acc=some (.b ys):=x2.c _ _ e1 (hr1.d acc lp1.here).2;exact v7 W TG vi (oj hn) ⟨lp1.step hr1 x2,hr2,C.c.mono xx,⟨ys,e3,e2.mono x2⟩⟩ h hz λρ3 H3 σ3 C3 mv3=>q ρ3 H3 σ3 C3 (xx.mv.trans mv3)
   |g _ _ _=>rw[hv]at h;cases h
   |d=>rw[hv]at h;cases h
  |false=>
   simp only[zR]at h;cases h;exact L2.oz (q ρ1 H1 σ ⟨lp1,hr1,C.c.mono x1,hacc1⟩ x1.mv)
 |g _ _ _=>rw[hc]at h;cases h
 |d=>rw[hc]at h;cases h
def bV(er:ER K mg ρ H env σ)fr:ER K mg ρ H (zP fr env) (L2.zP fr σ):=by
 refine⟨by unfold zP L2.zP;rw[zI,zI],λi v e=>?_⟩
 unfold zP at e;unfold L2.zP;rw[AA]at e ⊢;cases hf:fr[i]? with
 |none=>rw[hf]at e;cases e
 |some o=>
  rw[hf]at e;cases o with
  |none=>cases e
  |some j=>
   have e':(env[j]?).join=some v:=Am e;have e2:env[j]?=some (some v):=by
    cases h1:env[j]? with
    |none=>rw[h1]at e';cases e'
    |some w=>rw[h1]at e';have:w=some v:=e';rw[this]
   obtain⟨x,h1,h2⟩:=er.a j v e2;refine⟨x,?_,h2⟩;show some ((σ[j]?).join)=_;rw[h1];rfl
def tW(TG:rq K mg t g)(hg:Grows body)
 (hb:∀acc ρ0 H0,H0 acc=none->BodyOk K mg acc ρ0 H0 body (L2.tTB ts (tb acc)))    
 (h:tV K mg env s ((xD Φ G env it s).bind λr s1=>(xP r t body r.a (zP fr env) s1 []).bind λp s2=>if chk=true->p.1.length<=zX then newList m p.1 s2 else .d) σ H Q)
 (hlen:chk=false->∀r s1 p s2,xP r t body r.a (zP fr env) s1 []=.e p s2->p.1.length<=r.a.length):L2.tD fr (uI K mg Φ G it) g ts tb σ H Q:=by
 obtain⟨ρ,hr,er,w⟩:=h;refine⟨env,s,ρ,hr,er,?_⟩;cases hi:xD Φ G env it s with
 |e r s1=>
  rw[hi]at w;simp only[zR]at w;intro ρ1 H1 J x1 hr1 W acc hacc;cases hl:xP r t body r.a (zP fr env) s1 [] with
  |e p s2=>
   rw[hl]at w;simp only[zR]at w;have hz:p.1.length<=zX/\xr K mg (RD K mg) ρ H (newList m p.1 s2) Q:=by
    by_cases hc:chk=true->p.1.length<=zX
    . rw[if_pos hc]at w
      refine⟨?_,w⟩;cases chk with
      |true=>exact hc rfl
      |false=>exact AB (hlen rfl r s1 p s2 hl) W.b
    . rw[if_neg hc]at w;exact w.elim
   have mv:=lE (ρ:=ρ1) hr1 hacc (.b []);have ers:=bV (er.mono x1) fr;refine v7 (ρ0:=ρ1) (H0:=H1) (W.mv mv) TG hg (hb acc ρ1 H1 hacc) ⟨Lp.start hr1 hacc _,hr1.hide hacc,⟨ers.b,λi v e=>?_⟩,⟨[],L2.zt,.d⟩⟩ hl hz.1 λρ3 H3 σ3 C3 _=>?_
   . obtain⟨x,h1,h2⟩:=ers.a i v e
     exact⟨x,h1,RD.mv mv h2⟩
   . obtain⟨ys,e1,e2⟩:=C3.e
     exact C3.d.done hr1 hacc C3.b e1 e2 (hz.2.mono x1 hr1)
  |g _ _ _=>rw[hl]at w;exact w.elim
  |d=>rw[hl]at w;exact w.elim
 |g _ _ _=>rw[hi]at w;exact w.elim
 |d=>rw[hi]at w;exact w.elim
theorem qV:∀{xs} {env} {s} {a} {p} {s'},xP r t (sH Φ G elt ifs) xs env s a=.e p s'->p.1.length<=a.length+xs.length
 |[],env,s,a,p,s',h=>by
  rw[xP]at h;split at h
  . cases h;exact Ac _
  . cases h
 |x::xs,env,s,a,p,s',h=>by
  rw[xP]at h;split at h
  . split at h
    . cases h
    . rename_i env' he
      cases hc:sH Φ G elt ifs env' s a with
      |e q s1=>
       rw[hc]at h;have h1:=qV h;have h2:q.1.length<=a.length+1:=by
        unfold sH at hc;cases h3:x6 Φ G env' ifs s with
        |e b s2=>
         rw[h3]at hc;cases b with
         |true=>
          simp only[zR,if_true]at hc;cases h4:evE Φ G env' elt s2 with
          |e v s3=>rw[h4]at hc;cases hc;simp
          |g _ _ _=>rw[h4]at hc;cases hc
          |d=>rw[h4]at hc;cases hc
         |false=>simp only[zR]at hc;cases hc;exact DA _
        |g _ _ _=>rw[h3]at hc;cases hc
        |d=>rw[h3]at hc;cases hc
       rw[An];omega
      |g _ _ _=>rw[hc]at h;cases h
      |d=>rw[hc]at h;cases h
  . cases h
end
end M
end
section
namespace M
open PySem PySem.W
structure Lv(T:Tbl)(P:Program)(w:World)(K:KF)(mg:Str->Option Value)(base:Heap)(n:Nat):Prop where
 ex:∀f v F,T.c f v=some F->∃fa fd,mg f=some (.ref fa)/\CG K (.ref fa)=true/\L2.Binds K fd F.a []/\L2.pL P w K mg base L2.CX0 n fa fd F.a (spN T K mg n f v)
end M
end
section
namespace L2
open PySem PySem.Spec PyProof.Rows
def Rz(tabs:List Addr)(H:Hp):Prop:=∀b,H b=none\/(∃o xs,H b=some (.j o (.b xs)))\/(b∈tabs/\H b=some (.e #[]))
def dz{K}{tabs:List Addr}
 (KX:K.In s₁.heap) (hns:s₁.heap.Ns AW mg) (hb:s₁.heap.Ns builtinsNs mb) (hbb:∀x:Str,x≠"__name__"->mb x=CL x) (hlim:s₁.heap.NoLimit) (hg:s₁.gens=#[])
 (ha:s₁.heap.get? a=some {cls:=.type "list",data:=.seq vs.toArray}) (hi:IntsAre vs ns) (hl:ns.length<=Ar) (hr:wV k callerA)
 (ht:∀b∈tabs,s₁.heap.get? b=some (E2 #[])/\K.lookup b=none/\isCodeTable s₁.heap b)
 (F:∀base:Heap,K.In base->base.Ns AW mg->pL P w K mg base CX k fa fd [x] sp) (hbind:∀s u,BindsTo s fd ⟨[u],[]⟩ [(x,u)])
 (hsp:∀H:Hp,(∀b∈tabs,H b=some (.e #[]))->SqL K H a (ns.map V.d)->sp [.c a] H (λv _=>v=.e true) λ_ _ _=>False)
 (hCX:∀H e s',CX [] H s₁ (λ_ _ _=>False) e s'->False) :
 codeAny (model P w) callerA (.call (.ref fa) ⟨[.ref a],[]⟩) (λr s'=>r=.ok (.ret (.bool true))/\OldK s₁.heap s'.heap/\s'.os=s₁.os/\AllBare s'.gens) s₁:=by
 have rv:=mV hi;have lenV:=hi.length;have nat:a ∉ tabs:=λz=>by have:=(ht a z).1;rw[ha]at this;cases this
 have core:∀H:Hp,Rz tabs H->(∀b∈tabs,H b=some (.e #[]))->SqL K H a (ns.map V.d)->HOk P w H s₁.heap->(∀b,H b≠none->b=a\/b∈tabs)->(H a≠none->K.lookup a=none) ->
  codeAny (model P w) callerA (.call (.ref fa) ⟨[.ref a],[]⟩) (λr s'=>r=.ok (.ret (.bool true))/\OldK s₁.heap s'.heap/\s'.os=s₁.os/\AllBare s'.gens) s₁:=by
  intro H hO hT hS hok hA hK;have tQ:∀{b:Addr} {o:Obj},s₁.heap.get? b=some o->H b=none->(lD s₁.heap H).get? b=some o:=λe n=>ZO e n;have noA:∀{b:Addr} {o:Obj} {es:Array Gk} {ep:Nat},s₁.heap.get? b=some o->o.data=.dict es ep->H b=none:=λ{b o es ep} e d=>by
   cases q:H b with
   |none=>rfl
   |some u=>
    rcases hA b (by rw[q];simp) with e'|e'
    . subst e'
      rw[ha]at e;cases e;have d':GK vs.toArray _=Data.dict es ep:=d;cases d'
    . rw[(ht b e').1]at e;cases e
      have d':E4 #[]=Data.dict es ep:=d;cases d'
  have nsK:∀{b:Addr} {m:Str->Option Value},s₁.heap.Ns b m->(lD s₁.heap H).Ns b m:=λ{b m} ⟨o,es,ep,e,d,r⟩=>⟨o,es,ep,tQ e (noA e d),d,r⟩;have hKb:K.In (lD s₁.heap H):=λb o e=>tQ (KX b o e) (by
   cases q:H b with
   |none=>rfl
   |some u=>
    rcases hA b (by rw[q];simp) with e'|e'
    . subst e'
      rw[hK (by rw[q];simp)]at e;cases e
    . rw[(ht b e').2.1]at e;cases e)
  have hM:Mod K mg (lD s₁.heap H):=⟨hKb,nsK hns,⟨mb,nsK hb,hbb⟩,let ⟨mc,h1,h2⟩:=hlim;⟨mc,nsK h1,h2⟩⟩;have e0:Xd P w K mg (lD s₁.heap H) callerA [] s₁ H:=⟨rfl,hM,λb o e=>Wh e,DJ (de _ _),trivial,λb hb=>absurd (show b∈([]:List Addr) from hb) (by simp),hok,.of_eq hg⟩
  refine codeAny_mono ((F _ hKb (nsK hns)).a callerA [] s₁ H ⟨[.ref a],[]⟩ [.ref a] [.c a] _ _ hr e0 (hbind s₁ (.ref a)) (.cons rfl .nil) (hsp H hT hS)) λr s' h=>?_;cases r with
  |error e=>exact(hCX H e s' h).elim
  |ok fl=>
   cases fl with
   |next=>exact CJ h
   |brk=>exact CJ h
   |cont=>exact CJ h
   |ret u=>
    obtain⟨v,H',os,bare,un,hok',r',q⟩:=h;have q':v=.e true:=q;subst q';obtain rfl:u=DM true:=r';have all:∀b o,s₁.heap.get? b=some o->asItWas s₁.heap s'.heap b o:=λb o e=>by
     cases q:H b with
     |none=>exact .inl (un.d b o e q (by intro z;exact absurd (show b∈([]:List Addr) from z) (by simp)) (by simp))
     |some u=>
      rcases hO b with z|⟨ob,xs,z⟩|⟨z1,z⟩
      . rw[q]at z;cases z
      . have z2:=un.g b ob _ z
        obtain⟨e1,_⟩:=hok b _ z;obtain⟨e2,_⟩:=hok' b _ z2;rw[e]at e1;cases e1;exact .inl e2
      . obtain⟨more,z2⟩:=un.j b _ z
        have e2:s'.heap.get? b=some (E2 (#[]++more)):=hok' b _ z2;obtain⟨t1,_,t3⟩:=ht b z1;rw[e]at t1;cases t1;exact .inr (.inl ⟨t3,rfl,#[],more,rfl,e2⟩)
    exact⟨rfl,⟨all,λb o e=>by
     rcases all b o e with z|⟨_,_,_,_,_,z⟩|⟨_,_,⟨o',_,_,z,_⟩,_⟩
     . exact⟨_,z⟩
     . exact⟨_,z⟩
     . exact⟨_,z⟩⟩,os,bare⟩
 cases hk:K.lookup a with
 |some o=>
  have e:=KX a o hk;rw[ha]at e;cases e;refine core (λb=>if b∈tabs then some (.e #[]) else none) (λb=>?_) (λb hb=>if_pos hb) (.inr ⟨_,vs.toArray,_,hk,rfl,rfl,rfl,by rw[Ae,lenV];exact hl,by simpa using rv⟩) (λb u z=>?_) (λb z=>?_) λz=>?_
  . by_cases hb:b∈tabs
    . exact .inr (.inr ⟨hb,if_pos hb⟩)
    . exact .inl (if_neg hb)
  . by_cases hb:b∈tabs
    . have z':=(if_pos hb).symm.trans z
      cases z';exact(ht b hb).1
    . have z':=(if_neg hb).symm.trans z
      cases z'
  . by_cases hb:b∈tabs
    . exact .inr hb
    . exact absurd (if_neg hb) z
  . exact absurd (if_neg nat) z
 |none=>
  refine core (λb=>if b=a then some (.j {cls:=.type "list",data:=.seq vs.toArray} (.b (ns.map V.d))) else if b∈tabs then some (.e #[]) else none) (λb=>?_) (λb hb=>(if_neg (λz=>nat (by rw[<-z];exact hb))).trans (if_pos hb)) (.inl (.inr ⟨{cls:=.type "list",data:=.seq vs.toArray},if_pos rfl⟩)) (λb u z=>?_) (λb z=>?_) λ_=>hk
  . by_cases hb:b=a
    . exact .inr (.inl ⟨_,_,if_pos hb⟩)
    . by_cases hb2:b∈tabs
      . exact .inr (.inr ⟨hb2,(if_neg hb).trans (if_pos hb2)⟩)
      . exact .inl ((if_neg hb).trans (if_neg hb2))
  . by_cases hb:b=a
    . have z':=(if_pos hb).symm.trans z
      cases z';subst hb;exact⟨ha,by rw[zI];exact hl,vs,_,rv,ha⟩
    . by_cases hb2:b∈tabs
      . have z':=((if_neg hb).trans (if_pos hb2)).symm.trans z
        cases z';exact(ht b hb2).1
      . have z':=((if_neg hb).trans (if_neg hb2)).symm.trans z
        cases z'
  . by_cases hb:b=a
    . exact .inl hb
    . by_cases hb2:b∈tabs
      . exact .inr hb2
      . exact absurd ((if_neg hb).trans (if_neg hb2)) z
end L2
end
section
namespace M
open PySem
noncomputable def V4(sc:Scope)(x:Str):Bool:=decide (sc.names.lookup x=some .local)||decide (sc.names.lookup x=some .cell)||decide (sc.names.lookup x=some .free)
noncomputable def uq(sc:Scope)(x:Str):Bool:=decide (sc.names.lookup x=some .globalImplicit)
noncomputable def vy:List Str:=["len","all","any","tuple","list","sorted","repr","max","min","sum","int","isinstance","divmod","str","bool","dict","set","range","enumerate","zip"]
noncomputable def ON(y:Str)(n:String):Bool:=(decide (y="int")&&decide (n="int"))||(decide (y="bool")&&decide (n="bool"))||(decide (y="str")&&decide (n="str"))||(decide (y="list")&&decide (n="list"))||(decide (y="tuple")&&decide (n="tuple"))||(decide (y="dict")&&decide (n="dict"))
noncomputable def vC:Val->Option Const
 |.g=>some .none
 |.e b=>some (.bool b)
 |.c i=>some (.int i)
 |.j x=>some (.str x)
 |_=>none
def QD(v:Val)(e:Expr):Bool:=Us e λc _ _=>decide (vC v=some c)
def ckA(sc:Scope)(f:Str)(q:List Expr->Bool)(e:Expr):Bool:=eCN e λx xs=>decide (x=f)&&uq sc x&&!(x == ("__debug__":Str))&&q xs&&xX xs
mutual
noncomputable def ck(sc:Scope)(N:List Str):Ex->Expr->Bool
 |.g v,e=>QD v e
 |.e i,e=>(eName e λx _=>decide (N[i]?=some x)&&V4 sc x&&!(x == ("__debug__":Str))&&!(x == ("__classdict__":Str)))
 |.z y,e=>(eName e λx _=>decide (x=y)&&uq sc x&&!(x == ("__debug__":Str)))
 |.G y n,e=>(eName e λx _=>decide (x=y)&&uq sc x&&ON y n)
 |.k _ op a b,e=>(QH e λl o r _=>(okB op&&decide (o=op.op))&&ck sc N a l&&ck sc N b r)
 |.C a,e=>(eOp .USub e λx=>ck sc N a x)
 |.F a,e=>(eOp .Not e λx=>ck sc N a x)
 |.j op a b,e=>(eC1 e λl o r=>(okC op&&decide (o=op.op))&&ck sc N a l&&ck sc N b r&&plain r)
 |.A op op' a b c,e=>(eC2 e λl o o' r r'=>(okC op&&decide (o=op.op))&&(okC op'&&decide (o'=op'.op))&&ck sc N a l&&ck sc N b r&&ck sc N c r'&&plain r')
 |.u a es,e=>(eBl .And e λx xs=>ck sc N a x&&ckL sc N es xs)
 |.L _ _,_=>false
 |.B c a b,e=>(QJ e λt x y _=>ckC sc N c t&&ck sc N a x&&ck sc N b y)
 |.q es,e=>(av e λxs _ _=>ckL sc N es xs&&xX xs)
 |.s _ es,e=>(QK e λxs _=>ckL sc N es xs&&xX xs)
 |.H,_=>false
 |.E _,e=>(eD0 e)
 |.K a b,e=>(dY e λl r _=>ck sc N a l&&ck sc N b r&&plain r)
 |.h f ver es,e=>if ver<100 then ckA sc f (λxs=>ckL sc N es xs) e else false
 |.l f _ es,e=>(eCN e λx xs=>lc xs λy ys=>(okF f&&decide (x=f.nm))&&uq sc x&&ckL sc N es (y::ys)&&xX (y::ys))
 |.I _ _,_=>false
 |.D f _ o es,e=>(eMt e λob x ap y cp=>decide (x=f.nm)&&ck sc N o ob&&ckL sc N es [y]&&plain y&&lL ob&&(ap.endLine == cp.line)&&okM f)
 |.p a b,e=>(dY e λl r _=>ck sc N a l&&ck sc N b r&&plain r)
 |.J _ a lo hi st,e=>(eSS e λl x y z=>ck sc N a l&&ckO sc N lo x&&ckO sc N hi y&&ckO sc N st z)
 |.r _ N' fr elt t it ifs,e=>(eG1 e λx tg iter fs csc=>L2.pU sc N N' csc fr&&decide N'.Nodup&&ckT csc N' t tg&&ckI sc N it iter tg&&iG csc N' ifs fs&&ck csc N' elt x&&plain iter)
 |.y _ N' fr elt t it ifs t2 it2 ifs2,e=>(eG2 e λx tg iter fs tg2 iter2 fs2 csc=>L2.pU sc N N' csc fr&&decide N'.Nodup&&ckT csc N' t tg&&ckI sc N it iter tg&&iG csc N' ifs fs&&ckT csc N' t2 tg2&&ckI csc N' it2 iter2 tg2&&iG csc N' ifs2 fs2&&ck csc N' elt x&&plain iter&&plain iter2)
 |.w _ _ _ _,_=>false
noncomputable def ckL(sc:Scope)(N:List Str):Exs->List Expr->Bool
 |.b,es=>es.isEmpty
 |.a a as,es=>(lc es λe es=>ck sc N a e&&ckL sc N as es)
noncomputable def ckO(sc:Scope)(N:List Str):OEx->Option Expr->Bool
 |.b,e=>e.isNone
 |.a a,e=>(o1 e λe=>ck sc N a e)
noncomputable def ckC(sc:Scope)(N:List Str):Cn->Expr->Bool
 |.a a,e=>ck sc N a e&&(plainT e||decide (e.ctorIdx=15))
 |.b c,e=>(eOp .Not e λx=>ckC sc N c x)
 |.d c cs,e=>(eBl .And e λx xs=>ckC sc N c x&&iG sc N cs xs)
 |.f c cs,e=>(eBl .Or e λx xs=>ckC sc N c x&&iG sc N cs xs)
noncomputable def iG(sc:Scope)(N:List Str):Cns->List Expr->Bool
 |.b,es=>es.isEmpty
 |.a a as,es=>(lc es λe es=>ckC sc N a e&&iG sc N as es)
noncomputable def ckI(sc:Scope)(N:List Str):Itb->Expr->Expr->Bool
 |.f a,e,_=>ck sc N a e
 |.c a,e,_=>(eCN e λx xs=>l1 xs λy=>decide (x="range")&&uq sc x&&ck sc N a y&&plain y)
 |.d a b,e,_=>(eCN e λx xs=>lc xs λy ys=>l1 ys λz=>decide (x="range")&&uq sc x&&ck sc N a y&&ck sc N b z&&plain y&&plain z)
 |.g a,e,tg=>(decide (tg.ctorIdx=25)&&eCN e λx xs=>l1 xs λy=>decide (x="enumerate")&&uq sc x&&ck sc N a y&&plain y)
 |.h a b,e,tg=>(decide (tg.ctorIdx=25)&&eCN e λx xs=>lc xs λy ys=>l1 ys λz=>decide (x="zip")&&uq sc x&&ck sc N a y&&ck sc N b z&&plain y&&plain z)
end
structure Ok(T:Tbl)(n:Nat)(sc:Scope)(N:List Str)(X:L2.Cx):Prop where
 c:X.g=true
 d:L2.wV n X.A
 a:Scp sc N X
 i:∀f v F,T.c f v=some F->Callee T n X f v F
 j:∀x v,T.b x=some v->∃u xv,X.d x=some u/\L2.RelV xv u/\∀ρ H,RD X.K X.d ρ H v xv
 g:∀x∈vy,X.d x=none
 xe:X.h=λ_ _=>False
 no:∀f v,100<=v->T.c f v=none
def fI(S:Scp sc N X)(h:L2.pU sc N N' csc fr=true):L2.yE X N' csc fr:=by
 unfold L2.pU at h;simp only[nx,AH,AS,decide_eq_true_eq,Ag]at h;obtain⟨⟨⟨⟨⟨⟨⟨a1,a2⟩,a3⟩,a4⟩,a5⟩,a6⟩,a7⟩,a8⟩:=h;refine⟨a1,λx h1 h2=>(a2 _ h1).elim (λz=>z rfl) λz=>z _ h2 rfl,λx hx hk=>?_,λx hx hk=>?_,a5,λi j x e1 e2=>?_,λx e1 e2=>?_⟩
 . rcases a3 x hx with z|z
   . exact absurd hk z
   . exact z
 . rcases a4 x hx with z|z
   . exact absurd hk z
   . exact S.cf x.1 z
 . have hi:i<N'.length:=(Ad.mp e1).1
   have q:=a6 i hi;rw[e1,e2]at q;simp only[nx,decide_eq_true_eq,Bx]at q;obtain⟨q1,y,q2,q3,q4⟩:=q;refine⟨by rw[S.a];exact q1,?_⟩
   have:y=(x,AX):=EX q3 q4;rw[<-this];exact q2
 . rcases a7 (x,.free) e2 with z|z
   . exact z rfl
   . exact z e1
def vp(h:sc.names.lookup x=some .local):(relabel sc env).names.lookup x=some .local:=lookup_relabel_local h
def gF(h:sc.names.lookup x=some .globalImplicit):(relabel sc env).names.lookup x=some .globalImplicit:=by
 have key:∀(names:List (Str × EY)),names.lookup x=some .globalImplicit->(names.map λ(n,k)=>if (k == AX&&env.scope.kind == .function&&env.kindOf n == some .cell) then (n,Bq) else (n,k)).lookup x=some .globalImplicit:=by
  intro names;induction names with
  |nil=>intro h;simp at h
  |cons p r ih=>
   obtain⟨n,k⟩:=p;intro h;rw[Aw];dsimp only;cases hx:(x == n) with
   |true=>
    rw[Av,hx]at h;cases h;have e:(EY.globalImplicit == AX)=false:=rfl;rw[e];simp only[BX,AV,if_false,Av,hx]
   |false=>
    rw[Av,hx]at h;have:=ih h;split<;>simpa only[Av,hx] using this
 exact key sc.names h
theorem Scp.comp(S:Scp sc N X)(hc:L2.yE X N' csc fr)(nd:N'.Nodup)C s0 H0 ex:Scp csc N' (X.comp N' csc C s0 H0 ex):=by
 refine⟨rfl,nd,λx h=>?_,λx h=>?_,λx h=>?_,λx h=>?_⟩
 . rcases h with h|h|h
   . exact .inl (vp h)
   . exact .inr (.inl (L2.uW h))
   . exact(L2.rS hc.a h).elim (λz=>.inr (.inl z)) λz=>.inr (.inr z)
 . rcases h with h|h
   . exact⟨.inl (vp h),.inr (vp h)⟩
   . exact⟨.inr (L2.uW h),.inl (Bx.mpr ⟨_,CB h,decide_eq_true rfl⟩)⟩
 . exact gF h
 . rcases h with h|h
   . exact .inl (L2.uW h)
   . exact L2.rS hc.a h
theorem Callee.comp(c:Callee T n X f v F)N' csc C s0 H0 ex:Callee T n (X.comp N' csc C s0 H0 ex) f v F:=⟨c.a⟩
theorem Ok.comp(o:Ok T n sc N X)(hc:L2.yE X N' csc fr)(nd:N'.Nodup)(hck:L2.pU sc N N' csc fr=true)C s0 H0 ex:Ok T n csc N' (X.comp N' csc C s0 H0 ex):=
 ⟨o.c,o.d,o.a.comp hc nd C s0 H0 ex,λf v F h=>(o.i f v F h).comp N' csc C s0 H0 ex,o.j,o.g,rfl,o.no⟩
end M
end
section
namespace M
open PySem
section
variable {T:Tbl}{n:Nat}
def JE(T:Tbl)(n:Nat)(a:Ex):Prop:=∀(sc:Scope) (N:List Str) (X:L2.Cx) (e:Expr),Ok T n sc N X->ck sc N a e=true->∀env s,L2.PE X e (tV X.K X.d env s (evE (zG T n) T.b env a s))
def JL(T:Tbl)(n:Nat)(a:Exs):Prop:=∀(sc:Scope) (N:List Str) (X:L2.Cx) (es:List Expr),Ok T n sc N X->ckL sc N a es=true ->
 (xX es=true->∀env s,L2.PA X es (tVs X.K X.d env s (xW (zG T n) T.b env a s))) /\
 (∀e es' pos,es=e::es'->∀env s,L2.PE X (.BoolOp .And es pos) (tV X.K X.d env s (qe (zG T n) T.b env a s))) /\
 (∀e es' pos,es=e::es'->∀env s,L2.PE X (.BoolOp .Or es pos) (tV X.K X.d env s (kR (zG T n) T.b env a s))) /\
 (∀y,es=[y]->plain y=true->∃b,a=.a b .b/\∀env s,L2.PE X y (tV X.K X.d env s (evE (zG T n) T.b env b s)))
def JO(T:Tbl)(n:Nat)(a:OEx):Prop:=∀(sc:Scope) (N:List Str) (X:L2.Cx) (e:Option Expr),Ok T n sc N X->ckO sc N a e=true->(∀env s,L2.PO X e (tO X.K X.d env s (evO (zG T n) T.b env a s))) /\
 ((e=none/\∀env s1,evO (zG T n) T.b env a s1=.e none s1)\/∃e',e=some e'/\∀env s1 s2,evO (zG T n) T.b env a s1≠.e none s2)
def JC(T:Tbl)(n:Nat)(a:Cn):Prop:=∀(sc:Scope) (N:List Str) (X:L2.Cx) (e:Expr),Ok T n sc N X->ckC sc N a e=true->∀env s,L2.PT X e (tT X.K X.d env s (evT (zG T n) T.b env a s))
def JCs(T:Tbl)(n:Nat)(a:Cns):Prop:=∀(sc:Scope) (N:List Str) (X:L2.Cx) (es:List Expr),Ok T n sc N X->iG sc N a es=true ->
 (∀pos env s,L2.PW X (.BoolOp .And es pos) (tT X.K X.d env s (x6 (zG T n) T.b env a s)))/\(∀pos env s,L2.PW X (.BoolOp .Or es pos) (tT X.K X.d env s (qr (zG T n) T.b env a s)))/\L2.PTs X es (uTs X.K X.d (zG T n) T.b a)
def JI(T:Tbl)(n:Nat)(a:Itb):Prop:=∀(sc:Scope) (N:List Str) (X:L2.Cx) (e tg:Expr),Ok T n sc N X->ckI sc N a e tg=true->∀env s,L2.PI X tg e (tI (K:=X.K) (mg:=X.d) env s (xD (zG T n) T.b env a s))
def Tg:JE T n (.g v):=by
 intro sc N X e o h env s;show L2.PE X e (tV X.K X.d env s (.e v s));replace h:=aj h;obtain⟨c,k,p,rfl,h⟩:=h;have h:=of_decide_eq_true h;cases v with
 |g=>cases h;exact z9 L2.Sy λσ H Q ⟨ρ,hr,er,w⟩=>zV hr .s w
 |e b=>cases h;exact z9 L2.PX λσ H Q ⟨ρ,hr,er,w⟩=>zV hr (.j _) w
 |c i=>cases h;exact z9 L2.Sw λσ H Q ⟨ρ,hr,er,w⟩=>zV hr (.l _) w
 |j x=>cases h;exact z9 L2.RC λσ H Q ⟨ρ,hr,er,w⟩=>zV hr (.E _) w
 |_=>cases h
def Tn:JE T n (.e i):=by
 intro sc N X e o h env s;replace h:=vN h;obtain⟨x,p,rfl,h⟩:=h;simp only[nx,decide_eq_true_eq,V4,AS,BO]at h;obtain⟨⟨⟨h1,h2⟩,h3⟩,h4⟩:=h;have hv:L2.Vis X.a.scope x:=o.a.e x (by rcases h2 with (z|z)|z;exact .inl z;exact .inr (.inl z);exact .inr (.inr z))
 show L2.PE X _ (tV X.K X.d env s (match env[i]? with|some (some v)=>.e v s|_=>.d))
 refine z9 (L2.RF (i:=i) (by rw[o.a.a];exact h1) hv h3 h4) λσ H Q ⟨ρ,hr,er,w⟩=>?_
 split at w
 . rename_i v e
   obtain⟨x',h5,h6⟩:=er.a i v e;exact⟨x',h5,zV hr h6 w⟩
 . exact w.elim
def Qi:JE T n (.z y):=by
 intro sc N X e o h env s;replace h:=vN h;obtain⟨x,p,rfl,h⟩:=h;simp only[nx,decide_eq_true_eq,uq,BO]at h;obtain⟨⟨h1,h2⟩,h3⟩:=h;subst h1;show L2.PE X _ (tV X.K X.d env s (match T.b x with|some v=>.e v s|dS=>.d))
 cases hv:T.b x with
 |none=>exact zS (zJ rfl)
 |some v=>
  obtain⟨u,xv,e1,e2,e3⟩:=o.j x v hv;exact z9 (L2.W5 (o.a.b x h2) e1 e2 h3) λσ H Q ⟨ρ,hr,er,w⟩=>zV hr (e3 ρ H) w
def Ql:JE T n (.G y m):=by
 intro sc N X e o h env s;replace h:=vN h;obtain⟨x,p,rfl,h⟩:=h;simp only[nx,decide_eq_true_eq,uq]at h;obtain⟨⟨h1,h2⟩,h3⟩:=h;subst h1;show L2.PE X _ (tV X.K X.d env s (.e (.q m) s));have key:x∈vy/\CL x=some (.type m)/\x≠"__name__"/\(x == ("__debug__":Str))=false:=by
  unfold ON at h3;simp only[AS,nx,decide_eq_true_eq]at h3;rcases h3 with ((((⟨rfl,rfl⟩|⟨rfl,rfl⟩)|⟨rfl,rfl⟩)|⟨rfl,rfl⟩)|⟨rfl,rfl⟩)|⟨rfl,rfl⟩
  . exact⟨by decide,PyProof.Rows.boot_int,by decide,by decide⟩
  . exact⟨by decide,PyProof.Rows.boot_bool,by decide,by decide⟩
  . exact⟨by decide,PyProof.Rows.boot_str,by decide,by decide⟩
  . exact⟨by decide,PyProof.Rows.boot_list,by decide,by decide⟩
  . exact⟨by decide,Gj,by decide,by decide⟩
  . exact⟨by decide,PyProof.Rows.boot_dict,by decide,by decide⟩
 exact z9 (L2.Pb (o.a.b x h2) (o.g x key.1) key.2.1 key.2.2.1 key.2.2.2) λσ H Q ⟨ρ,hr,er,w⟩=>zV hr (.I _) w
def WT:JE T n (.E t):=by
 intro sc N X e o h env s;obtain⟨p,rfl⟩:=Xw h;show L2.PE X _ (tV X.K X.d env s (.e (.l s.length) (s++[if t then .d [] else .e []])))
 cases t with
 |true=>exact z9 L2.YI λσ H Q ⟨ρ,hr,er,w⟩ p hp=>w _ _ _ (Ext.own hr hp _) (hr.vn hp ⟨[],L2.zt,rfl,.d⟩) (.A (pE hr p) (by rw[L2.zt];decide))
 |false=>exact z9 L2.YH λσ H Q ⟨ρ,hr,er,w⟩ p hp=>w _ _ _ (Ext.own hr hp _) (hr.vn hp ⟨[],L2.zt,rfl,.d⟩) (.A (pE hr p) (by rw[L2.zt];decide))
def Zc(ja:JE T n a)(jb:JE T n b):JE T n (.K a b):=by
 intro sc N X e o h env s;replace h:=ui h;obtain⟨l,r,p,rfl,h⟩:=h;simp only[nx]at h;have h1:=ja _ _ _ _ o h.1.1 env s;have h2:=λs1=>jb _ _ _ _ o h.1.2 env s1;show L2.PE X _ (tV X.K X.d env s ((evE (zG T n) T.b env a s).bind λx s1=>(evE (zG T n) T.b env b s1).bind λy s2=>ixD x y s2));cases ha:evE (zG T n) T.b env a s with
 |e v s1=>
  rw[ha]at h1;have h2':=h2 s1;simp only[zR];cases hb:evE (zG T n) T.b env b s1 with
  |e w s2=>
   rw[hb]at h2';refine z9 (L2.W4 (by have:=o.d.a;omega) h1 h2' (jQ h.2)) λσ H Q ⟨ρ,hr,er,wt⟩=>⟨ρ,hr,er,λρ1 x H1 x1 hr1 r1=>⟨ρ1,hr1,er.mono x1,λρ2 y H2 x2 hr2 r2=>?_⟩⟩
   have wt':xr X.K X.d (RD X.K X.d) ρ2 H2 (ixD v w s2) Q:=wt.mono (x1.trans hr1 x2) hr2;unfold ixD at wt';split at wt'
   . rename_i u e
     obtain⟨p,o',ex,g,ro⟩:=getD_at hr2 (r1.mono x2) r2 e;cases o' with
     |none=>exact ro.elim
     |some z=>exact⟨p,z,ex,g,zV hr2 ro wt'⟩
   . exact wt'.elim
  |g _ _ _=>exact zS (zJ rfl)
  |d=>exact zS (zJ rfl)
 |g _ _ _=>exact zS (zJ rfl)
 |d=>exact zS (zJ rfl)
def kG(h:zi op x y s=.e v s'):∃b,v=.e b:=by unfold zi at h;split at h<;>(split at h<;>first|(cases h;exact⟨_,rfl⟩)|cases h|(split at h<;>first|(cases h;exact⟨_,rfl⟩)|cases h|(split at h<;>first|(cases h;exact⟨_,rfl⟩)|cases h|(split at h<;>first|(cases h;exact⟨_,rfl⟩)|cases h))))
def oh{o:Out Val}(hb:∀v s',o=.e v s'->∃b,v=.e b)(w:xr K mg (λ_ _ a b=>a=b) ρ H o.truth Q):xr K mg (RD K mg) ρ H o λx H'=>∃k,x=.e k/\Q k H':=by
 cases o with
 |e v s1=>
  obtain⟨b,rfl⟩:=hb v s1 rfl;intro ρ1 x H1 x1 hr1 r1;cases r1;exact⟨b,rfl,w _ _ _ x1 hr1 rfl⟩
 |g _ _ _=>exact w
 |d=>exact w
def Tu{f2:Sto->Out Val}(k1:okC op=true)(hr0:L2.wV k X.A)(h1:L2.PE X a (tV X.K X.d env s o))(h2:∀s1,L2.PE X b (tV X.K X.d env s1 (f2 s1)))(hm:plain b=true) :
 L2.PT X (.Compare a [op.op] [b] pos) (tT X.K X.d env s (o.bind λx s1=>(f2 s1).bind λy s2=>zi op x y s2).truth):=by
 cases o with
 |e v s1=>
  have h2':=h2 s1;show L2.PT X _ (tT X.K X.d env s ((f2 s1).bind λy s2=>zi op v y s2).truth);cases hb:f2 s1 with
  |e w s2=>
   rw[hb]at h2';exact lR (L2.VH (qQ hr0 op k1) h1 h2' (uV hm)) λσ H Q ⟨ρ,hr,er,wt⟩=>⟨ρ,hr,er,λρ1 x H1 x1 hr1 r1=>⟨ρ1,hr1,er.mono x1,λρ2 y H2 x2 hr2 r2=>⟨ρ2,s2,v,w,hr2,r1.mono x2,r2,oh (λ_ _ h=>kG h) (wt.mono (x1.trans hr1 x2) hr2)⟩⟩⟩
  |g _ _ _=>exact ya (zJ rfl)
  |d=>exact ya (zJ rfl)
 |g _ _ _=>exact ya (zJ rfl)
 |d=>exact ya (zJ rfl)
def Zj{X:L2.Cx}{env:Env}{s:Sto}{a b c:Expr}{op op':Cop}{o:Out Val}{f2 f3:Sto->Out Val}{k:Nat}{pos:Pos}(k1:okC op=true)(k2:okC op'=true)(hr0:L2.wV k X.A)(h1:L2.PE X a (tV X.K X.d env s o))(h2:∀s1,L2.PE X b (tV X.K X.d env s1 (f2 s1)))(h3:∀s1,L2.PE X c (tV X.K X.d env s1 (f3 s1)))(hm:plain c=true) :
 L2.PT X (.Compare a [op.op,op'.op] [b,c] pos) (tT X.K X.d env s (o.bind λx s1=>(f2 s1).bind λy s2=>(zi op x y s2).bind λr s3=>match r with
  |.e true=>(f3 s3).bind λz s4=>zi op' y z s4
  |.e false=>.e (.e false) s3
  |_=>.d).truth):=by
 cases o with
 |e v s1=>
  have h2':=h2 s1;show L2.PT X _ (tT X.K X.d env s ((f2 s1).bind _).truth);cases hb:f2 s1 with
  |e w s2=>
   rw[hb]at h2';show L2.PT X _ (tT X.K X.d env s ((zi op v w s2).bind _).truth);cases hc:zi op v w s2 with
   |e r s3=>
    cases r with
    |e t=>
     have h3':=h3 s3;have rule:=L2.YX (pos:=pos) (qQ hr0 op k1) (qQ hr0 op' k2) h1 h2' h3' (show GU [op.op,op'.op] [b,c]=false from uV hm);refine lR rule λσ H Q ⟨ρ,hr,er,wt⟩=>⟨ρ,hr,er,λρ1 x H1 x1 hr1 r1=>⟨ρ1,hr1,er.mono x1,λρ2 y H2 x2 hr2 r2=>⟨ρ2,s2,v,w,hr2,r1.mono x2,r2,?_⟩⟩⟩;rw[hc];intro ρ3 z H3 x3 hr3 r3;cases r3;refine⟨t,rfl,?_⟩;have xx:=(x1.trans hr1 x2).trans hr2 x3;have wt':=wt.mono xx hr3;cases t with
     |true=>
      rw[if_pos rfl];refine⟨ρ3,hr3,er.mono xx,?_⟩;have wt2:xr X.K X.d (λ_ _ a b=>a=b) ρ3 H3 ((f3 s3).bind λz s4=>zi op' w z s4).truth Q:=wt';cases hz:f3 s3 with
      |e u s4=>
       rw[hz]at wt2;exact λρ4 q H4 x4 hr4 r4=>⟨ρ4,s4,w,u,hr4,(r2.mono x3).mono x4,r4,oh (λ_ _ h=>kG h) (wt2.mono x4 hr4)⟩
      |g _ _ _=>rw[hz]at wt2;exact wt2
      |d=>rw[hz]at wt2;exact wt2
     |false=>
      rw[if_neg Aa];exact⟨false,rfl,wt' _ _ _ Ext.refl hr3 rfl⟩
    |_=>exact ya (zJ rfl)
   |g _ _ _=>exact ya (zJ rfl)
   |d=>exact ya (zJ rfl)
  |g _ _ _=>exact ya (zJ rfl)
  |d=>exact ya (zJ rfl)
 |g _ _ _=>exact ya (zJ rfl)
 |d=>exact ya (zJ rfl)
def Td(ja:JE T n a)(jb:JE T n b):JC T n (.a (.j op a b)):=by intro sc N X e o h env s;replace h:=fU (xt h).1;obtain⟨_,_,_,_,rfl,h1⟩:=h;simp only[nx,decide_eq_true_eq]at h1;obtain⟨⟨⟨⟨k1,rfl⟩,h3⟩,h4⟩,h5⟩:=h1;exact Tu k1 o.d (ja _ _ _ _ o h3 env s) (λs1=>jb _ _ _ _ o h4 env s1) h5
def ZY(ja:JE T n a)(jb:JE T n b)(jc:JE T n c):JC T n (.a (.A op op' a b c)):=by intro sc N X e o h env s;replace h:=fV (xt h).1;obtain⟨_,_,_,_,_,_,rfl,h1⟩:=h;simp only[nx,decide_eq_true_eq]at h1;obtain⟨⟨⟨⟨⟨⟨k1,rfl⟩,k2,rfl⟩,h3⟩,h4⟩,h5⟩,h6⟩:=h1;exact Zj k1 k2 o.d (ja _ _ _ _ o h3 env s) (λs1=>jb _ _ _ _ o h4 env s1) (λs1=>jc _ _ _ _ o h5 env s1) h6
noncomputable def V3:Ex->Bool
 |.j ..|.A ..=>true
 |_=>false
def Uh{os}(h:ck sc N a (.Compare l os rs p)=true):V3 a=true:=by
 cases a with
 |j _ _ _=>rfl
 |A _ _ _ _ _=>rfl
 |h f v es=>
  replace h:(if v<100 then ckA sc f (λxs=>ckL sc N es xs) (.Compare l os rs p) else false)=true:=h
  split at h
  . cases h
  . cases h
 |_=>cases h
def Uj{e:Expr}(h:e.ctorIdx=15):∃l os rs p,e=.Compare l os rs p:=FG (motive_1:=λe=>∃l os rs p,e=Expr.Compare l os rs p) e h λl os rs p=>⟨l,os,rs,p,rfl⟩
def yU(ja:JE T n a)(hn:V3 a=false):JC T n (.a a):=by
 intro sc N X e o h env s;obtain⟨h1,h2⟩:=xt h;have je:=ja sc N X e o h1 env s;rcases (AS _ _).mp h2 with h2|h2
 . exact Tw h2 je
 . obtain⟨l,os,rs,p,rfl⟩:=Uj (of_decide_eq_true h2)
   rw[Uh h1]at hn;cases hn
end
end M
end
section
namespace M
open PySem
section
variable {T:Tbl}{n:Nat}
def TF(ja:JE T n a)(jb:JE T n b):JE T n (.k m op a b):=by intro sc N X e o h env s;replace h:=ah h;obtain⟨l,o1,r,p,rfl,h⟩:=h;simp only[nx,decide_eq_true_eq]at h;obtain⟨⟨⟨k1,rfl⟩,h1⟩,h2⟩:=h;exact Ub (ja _ _ _ _ o h1 env s) (λs1=>jb _ _ _ _ o h2 env s1) λta tb pa pb=>L2.Pa (SQ m op k1) pa pb
def TM(ja:JE T n a):JE T n (.C a):=by intro sc N X e o h env s;replace h:=m9 h;obtain⟨x,p,rfl,h⟩:=h;exact Ti (ja _ _ _ _ o h env s)
def TQ(jl:JL T n es):JE T n (.q es):=by intro sc N X e o h env s;replace h:=rD h;obtain⟨xs,k,p,rfl,h⟩:=h;simp only[nx]at h;exact Ze ((jl _ _ _ _ o h.1).1 h.2 env s)
def TL(jl:JL T n es):JE T n (.s m es):=by intro sc N X e o h env s;replace h:=aq h;obtain⟨xs,p,rfl,h⟩:=h;simp only[nx]at h;exact Th ((jl _ _ _ _ o h.1).1 h.2 env s)
def Qd(ja:JE T n a)(jb:JE T n b):JE T n (.p a b):=by intro sc N X e o h env s;replace h:=ui h;obtain⟨l,r,p,rfl,h⟩:=h;simp only[nx]at h;exact Ub (ja _ _ _ _ o h.1.1 env s) (λs1=>jb _ _ _ _ o h.1.2 env s1) λta tb pa pb=>L2.PY Qb pa pb (jQ h.2)
end
end M
end
section
namespace M
open PySem
section
variable {T:Tbl}{n:Nat}
def TN(ja:JE T n a):JE T n (.F a):=by intro sc N X e o h env s;replace h:=m9 h;obtain⟨x,p,rfl,h⟩:=h;exact Tj (ja _ _ _ _ o h env s)
def TJ(ja:JE T n a)(jb:JE T n b):JE T n (.j op a b):=by intro sc N X e o h env s;replace h:=fU h;obtain⟨l,o1,r,p,rfl,h⟩:=h;simp only[nx,decide_eq_true_eq]at h;obtain⟨⟨⟨⟨k1,rfl⟩,h1⟩,h2⟩,h3⟩:=h;exact Ub (ja _ _ _ _ o h1 env s) (λs1=>jb _ _ _ _ o h2 env s1) λta tb pa pb=>L2.W3 (qQ o.d op k1) pa pb (uV h3)
def ZS(ja:JE T n a)(jb:JE T n b)(jc:JE T n c):JE T n (.A op op' a b c):=by intro sc N X e o h env s;replace h:=fV h;obtain⟨l,o1,o2,r,r2,p,rfl,h⟩:=h;simp only[nx,decide_eq_true_eq]at h;obtain⟨⟨⟨⟨⟨⟨k1,rfl⟩,k2,rfl⟩,h3⟩,h4⟩,h5⟩,h6⟩:=h;exact Zb k1 k2 o.d (ja _ _ _ _ o h3 env s) (λs1=>jb _ _ _ _ o h4 env s1) (λs1=>jc _ _ _ _ o h5 env s1) h6
def TC(ja:JE T n a)(jl:JL T n es):JE T n (.u a es):=by
 intro sc N X e o h env s;replace h:=m8 h;obtain⟨x,xs,pos,rfl,h⟩:=h;simp only[nx]at h;obtain⟨h1,h2⟩:=h;cases es with
 |b=>
  cases AN.mp h2;exact L2.i8 (ja _ _ _ _ o h1 env s)
 |a b es'=>
  cases xs with
  |nil=>cases h2
  |cons y ys=>exact ZZ (ja _ _ _ _ o h1 env s) λs1=>(jl _ _ _ _ o h2).2.1 y ys pos rfl env s1
def TK(jc:JC T n c)(ja:JE T n a)(jb:JE T n b):JE T n (.B c a b):=by intro sc N X e o h env s;replace h:=ao h;obtain⟨t,x,y,p,rfl,h⟩:=h;simp only[nx]at h;exact Tf (jc _ _ _ _ o h.1.1 env s) (λs1=>ja _ _ _ _ o h.1.2 env s1) (λs1=>jb _ _ _ _ o h.2 env s1)
def iC(h:T.c f ver=none)vs s:zG T n f ver vs s=.d:=by
 cases n with
 |zero=>rfl
 |succ n=>simp only[zG,h]
def WI(jl:JL T n es):JE T n (.h f ver es):=by
 intro sc N X e o h env s;replace h:(if ver<100 then ckA sc f (λxs=>ckL sc N es xs) e else false)=true:=h
 split at h
 . rename_i hver
   replace h:=tX h;obtain⟨x,p,xs,pos,rfl,h⟩:=h;simp only[nx,decide_eq_true_eq,uq,BO]at h;obtain⟨⟨⟨⟨rfl,h2⟩,h3⟩,h4⟩,h5⟩:=h;show L2.PE X _ (tV X.K X.d env s ((xW (zG T n) T.b env es s).bind λvs s1=>zG T n x ver vs s1));cases hf:T.c x ver with
   |none=>
    refine zS λv s' e=>?_;cases hv:xW (zG T n) T.b env es s with
    |e vs s1=>rw[hv]at e;simp only[zR,iC hf]at e;cases e
    |g _ _ _=>rw[hv]at e;cases e
    |d=>rw[hv]at e;cases e
   |some F=>
    have C:=o.i x ver F hf;cases xs with
    |nil=>
     cases es with
     |b=>exact Za C o.d (o.a.b x h2) h3
     |a _ _=>cases h4
    |cons y ys=>exact WS C o.d (o.a.b x h2) h3 h5 (by simp) ((jl _ _ _ _ o h4).1 h5 env s)
 . cases h
def Ua(f:Bf):f.nm∈vy:=by cases f<;>decide
def TH(jl:JL T n es):JE T n (.l f m es):=by intro sc N X e o h env s;replace h:=tX h;obtain⟨x,p,xs,pos,rfl,h⟩:=h;replace h:=uN h;obtain⟨y,ys,rfl,h⟩:=h;simp only[nx,decide_eq_true_eq,uq]at h;obtain⟨⟨⟨⟨k1,rfl⟩,h2⟩,h3⟩,h4⟩:=h;exact Te k1 o.c o.d (o.a.b _ h2) (o.g _ (Ua f)) h4 ((jl _ _ _ _ o h3).1 h4 env s)
def WK(ja:JE T n a)(jl:JL T n es):JE T n (.D f m a es):=by intro sc N X e o h env s;replace h:=Xx h;obtain⟨ob,x,ap,y,cp,rfl,h⟩:=h;simp only[nx,decide_eq_true_eq]at h;obtain⟨⟨⟨⟨⟨⟨rfl,h1⟩,h2⟩,h3⟩,h4⟩,h5⟩,hm⟩:=h;obtain⟨b,rfl,jb⟩:=(jl _ _ _ _ o h2).2.2.2 y rfl h3;exact Zd hm h4 h3 h5 (ja _ _ _ _ o h1 env s) λs1=>jb env s1
def Qe(ja:JE T n a)(j1:JO T n lo)(j2:JO T n hi)(j3:JO T n st):JE T n (.J m a lo hi st):=by
 intro sc N X e o h env s;replace h:=Xy h;obtain⟨l1,x1,y1,z1,p1,p2,rfl,h⟩:=h;simp only[nx]at h;obtain⟨⟨⟨h1,h2⟩,h3⟩,h4⟩:=h;obtain⟨p3,q3⟩:=j3 _ _ _ _ o h4;refine Qk (ja _ _ _ _ o h1 env s) (λs1=>(j1 _ _ _ _ o h2).1 env s1) (λs1=>(j2 _ _ _ _ o h3).1 env s1) (λs1=>p3 env s1) ?_;rcases q3 with⟨e1,e2⟩|⟨e',e1,e2⟩
 . exact .inl ⟨e1,λs1=>e2 env s1⟩
 . exact .inr ⟨e',e1,λs1 s2=>e2 env s1 s2⟩
def WJ(je:JE T n elt)(ji:JI T n it)(jc:JCs T n ifs):JE T n (.r m N' fr elt t it ifs):=by
 intro sc N X e o h env s;replace h:=fW h;obtain⟨x,tg,iter,fs,csc,cpos,rfl,h⟩:=h;simp only[nx,decide_eq_true_eq]at h;obtain⟨⟨⟨⟨⟨⟨h1,h2⟩,h3⟩,h4⟩,h5⟩,h6⟩,h7⟩:=h;have S:=fI o.a h1;have oc:=o.comp S h2 h1;obtain⟨g,pg,tg'⟩:∃g,(∀C s0 H0 ex,L2.PG (X.comp N' csc C s0 H0 ex) tg g)/\rq X.K X.d t g:=by
  cases t with
  |a i=>
   cases tg with
   |Name y p=>
    simp only[ckT,nx,AS,decide_eq_true_eq]at h3;exact⟨_,λC s0 H0 ex=>mI (oc C s0 H0 ex).a h3.1 h3.2,rW⟩
   |_=>cases h3
  |b is=>
   cases tg with
   |Tuple es k p=>
    simp only[ckT,nx,decide_eq_true_eq]at h3;refine⟨_,λC s0 H0 ex=>?_,vZ (is:=is)⟩;obtain⟨a,b,c⟩:=wL (oc C s0 H0 ex).a h3.1;exact L2.sW (X:=X.comp N' csc C s0 H0 ex) o.c a b c
   |_=>cases h3
 have rule:L2.PE X (.ListComp x [⟨tg,iter,fs,0⟩] csc cpos) (L2.tD fr (uI X.K X.d (zG T n) T.b it) g (uTs X.K X.d (zG T n) T.b ifs) λacc=>L2.sG acc (uE X.K X.d (zG T n) T.b elt)):=
  L2.eA o.c S (hX λenv s=>ji _ _ _ _ _ o h4 env s) pg (λC s0 H0 ex=>(jc _ _ _ _ (oc C s0 H0 ex) h5).2.2) (λC s0 H0 ex=>W6 (X:=X.comp N' csc C s0 H0 ex) λenv s=>je _ _ _ _ (oc C s0 H0 ex) h6 env s) (yt h7)
 refine z9 rule λσ H Q hq=>tW (env:=env) (s:=s) (chk:=false) (m:=m) (body:=sH (zG T n) T.b elt ifs) tg' vi (λacc ρ0 H0 hn=>oj hn) ?_ λ_ r s1 p s2 hl=>?_
 . simp only[AV,false_implies,if_true];exact hq
 . have:=qV hl
   simpa using this
def ZT(je:JE T n elt)(ji:JI T n it)(jc:JCs T n ifs)(ji2:JI T n it2)(jc2:JCs T n ifs2):JE T n (.y m N' fr elt t it ifs t2 it2 ifs2):=by
 intro sc N X e o h env s;replace h:=fX h;obtain⟨x,tg,iter,fs,tg2,iter2,fs2,csc,cpos,rfl,h⟩:=h;simp only[nx,decide_eq_true_eq]at h;obtain⟨⟨⟨⟨⟨⟨⟨⟨⟨⟨h1,h2⟩,h3⟩,h4⟩,h5⟩,h6⟩,h7⟩,h8⟩,h9⟩,h10⟩,h11⟩:=h;have S:=fI o.a h1;have oc:=o.comp S h2 h1;have tgt:∀(t:Tgt) (tg:Expr),ckT csc N' t tg=true->∃g,(∀C s0 H0 ex,L2.PG (X.comp N' csc C s0 H0 ex) tg g)/\rq X.K X.d t g:=by
  intro t tg h3;cases t with
  |a i=>
   cases tg with
   |Name y p=>
    simp only[ckT,nx,AS,decide_eq_true_eq]at h3;exact⟨_,λC s0 H0 ex=>mI (oc C s0 H0 ex).a h3.1 h3.2,rW⟩
   |_=>cases h3
  |b is=>
   cases tg with
   |Tuple es k p=>
    simp only[ckT,nx,decide_eq_true_eq]at h3;refine⟨_,λC s0 H0 ex=>?_,vZ (is:=is)⟩;obtain⟨a,b,c⟩:=wL (oc C s0 H0 ex).a h3.1;exact L2.sW (X:=X.comp N' csc C s0 H0 ex) o.c a b c
   |_=>cases h3
 obtain⟨g,pg,tg'⟩:=tgt t tg h3;obtain⟨g2,pg2,tg2'⟩:=tgt t2 tg2 h6;have rule:=L2.jK (cpos:=cpos) (elt:=x) (ifs:=fs) (ifs2:=fs2) (ts:=uTs X.K X.d (zG T n) T.b ifs) (ts2:=uTs X.K X.d (zG T n) T.b ifs2) (wi2:=uI X.K X.d (zG T n) T.b it2) (te:=uE X.K X.d (zG T n) T.b elt) o.c S (hX (tg:=tg) λenv s=>ji _ _ _ _ _ o h4 env s) pg (λC s0 H0 ex=>(jc _ _ _ _ (oc C s0 H0 ex) h5).2.2)
  (λC s0 H0 ex=>hX (X:=X.comp N' csc C s0 H0 ex) (tg:=tg2) λenv s=>ji2 _ _ _ _ _ (oc C s0 H0 ex) h7 env s) pg2 (λC s0 H0 ex=>(jc2 _ _ _ _ (oc C s0 H0 ex) h8).2.2)
  (λC s0 H0 ex=>W6 (X:=X.comp N' csc C s0 H0 ex) λenv s=>je _ _ _ _ (oc C s0 H0 ex) h9 env s) (yt h10) (λenv=>yt h11)
 refine z9 rule λσ H Q hq=>tW (env:=env) (s:=s) (chk:=true) (m:=m) (body:=qU (zG T n) T.b elt ifs t2 it2 ifs2) tg' rX (λacc ρ0 H0 hn=>mU hn tg2') ?_ λz=>by cases z
 simp only[true_implies];exact hq
def TV:JL T n .b:=by intro sc N X es o h;cases AN.mp h;exact⟨λ_ env s=>WU,⟨λe es' pos z=>(nomatch z),⟨λe es' pos z=>(nomatch z),λy z=>(nomatch z)⟩⟩⟩
def WM(ja:JE T n a)(jl:JL T n as):JL T n (.a a as):=by
 intro sc N X es o h;replace h:=uN h;obtain⟨e,es,rfl,h⟩:=h;simp only[nx]at h;obtain⟨h1,h2⟩:=h;obtain⟨l1,l2,l3,l4⟩:=jl _ _ _ _ o h2;refine⟨λhp env s=>?_,λe' es' pos z env s=>?_,λe' es' pos z env s=>?_,λy z hp=>?_⟩
 . rw[xX,nx]at hp
   exact Zf hp.1 (ja _ _ _ _ o h1 env s) λs1=>l1 hp.2 env s1
 . cases as with
   |b=>
    cases AN.mp h2;exact L2.i8 (ja _ _ _ _ o h1 env s)
   |a b as'=>
    cases es with
    |nil=>cases h2
    |cons y ys=>exact ZZ (ja _ _ _ _ o h1 env s) λs1=>l2 y ys pos rfl env s1
 . cases as with
   |b=>
    cases AN.mp h2;exact L2.i8 (ja _ _ _ _ o h1 env s)
   |a b as'=>
    cases es with
    |nil=>cases h2
    |cons y ys=>exact Qj (ja _ _ _ _ o h1 env s) λs1=>l3 y ys pos rfl env s1
 . cases z
   cases as with
   |b=>exact⟨a,rfl,λenv s=>ja _ _ _ _ o h1 env s⟩
   |a _ _=>cases h2
def Qf:JO T n .b:=by intro sc N X e o h;cases FQ.mp h;exact⟨λenv s=>Qm,.inl ⟨rfl,λenv s1=>rfl⟩⟩
def TX(ja:JE T n a):JO T n (.a a):=by
 intro sc N X e o h;replace h:=Zz h;obtain⟨e1,rfl,h⟩:=h;refine⟨λenv s=>Tq (ja _ _ _ _ o h env s),.inr ⟨_,rfl,λenv s1 s2 z=>?_⟩⟩;have z':((evE (zG T n) T.b env a s1).bind λv s1=>match v with|.c i=>.e (some i) s1|_=>.d)=.e none s2:=z
 cases hv:evE (zG T n) T.b env a s1 with
 |e v s3=>rw[hv]at z';cases v<;>cases z'
 |g _ _ _=>rw[hv]at z';cases z'
 |d=>rw[hv]at z';cases z'
def U9(jc:JC T n c):JC T n (.b c):=by intro sc N X e o h env s;replace h:=m9 h;obtain⟨x1,p1,rfl,h⟩:=h;exact Tv (jc _ _ _ _ o h env s)
def U8(jc:JC T n c)(jcs:JCs T n cs):JC T n (.d c cs):=by intro sc N X e o h env s;replace h:=m8 h;obtain⟨x1,xs1,p1,rfl,h⟩:=h;simp only[nx]at h;exact(Zk (jc _ _ _ _ o h.1 env s) λs1=>(jcs _ _ _ _ o h.2).1 _ env s1).pt
def Qc(jc:JC T n c)(jcs:JCs T n cs):JC T n (.f c cs):=by intro sc N X e o h env s;replace h:=m8 h;obtain⟨x1,xs1,p1,rfl,h⟩:=h;simp only[nx]at h;exact(V5 (jc _ _ _ _ o h.1 env s) λs1=>(jcs _ _ _ _ o h.2).2.1 _ env s1).pt
def WH:JCs T n .b:=by intro sc N X es o h;cases AN.mp h;exact⟨λpos env s=>iV,λpos env s=>du,.b⟩
def ZR(jc:JC T n c)(jcs:JCs T n cs):JCs T n (.a c cs):=by intro sc N X es o h;replace h:=uN h;obtain⟨e1,es1,rfl,h⟩:=h;simp only[nx]at h;obtain⟨a,b,d⟩:=jcs _ _ _ _ o h.2;exact⟨λpos env s=>Zk (jc _ _ _ _ o h.1 env s) λs1=>a pos env s1,λpos env s=>V5 (jc _ _ _ _ o h.1 env s) λs1=>b pos env s1,.a (Pl λenv s=>jc _ _ _ _ o h.1 env s) d⟩
def XI{e:Expr}(h:e.ctorIdx=25):∃xs k p,e=.Tuple xs k p:=Gu (motive_1:=λe=>∃xs k p,e=Expr.Tuple xs k p) e h λxs k p=>⟨xs,k,p,rfl⟩
def TR(ja:JE T n a):JI T n (.f a):=λsc N X e tg o h env s=>To (ja _ _ _ _ o h env s)
def dk(ja:JE T n a):JI T n (.c a):=by intro sc N X e tg o h env s;replace h:=tX h;obtain⟨x1,p1,xs1,p2,rfl,h⟩:=h;replace h:=x9 h;obtain⟨y1,rfl,h⟩:=h;simp only[nx,decide_eq_true_eq,uq]at h;obtain⟨⟨⟨rfl,h1⟩,h2⟩,h3⟩:=h;exact dn h3 (o.a.b _ h1) (o.g _ (by decide)) (ja _ _ _ _ o h2 env s)
def dm(ja:JE T n a)(jb:JE T n b):JI T n (.d a b):=by intro sc N X e tg o h env s;replace h:=tX h;obtain⟨x1,p1,xs1,p2,rfl,h⟩:=h;replace h:=Zn h;obtain⟨y1,y2,rfl,h⟩:=h;simp only[nx,decide_eq_true_eq,uq]at h;obtain⟨⟨⟨⟨⟨rfl,h1⟩,h2⟩,h3⟩,h4⟩,h5⟩:=h;exact dq h4 h5 (o.a.b _ h1) (o.g _ (by decide)) (ja _ _ _ _ o h2 env s) λs1=>jb _ _ _ _ o h3 env s1
def TU(ja:JE T n a)(jb:JE T n b):JI T n (.h a b):=by intro sc N X e tg o h env s;obtain⟨h0,hh⟩:=xt h;obtain⟨ts,k,tp,rfl⟩:=XI (of_decide_eq_true h0);clear h;have h:=hh;replace h:=tX h;obtain⟨x1,p1,xs1,p2,rfl,h⟩:=h;replace h:=Zn h;obtain⟨y1,y2,rfl,h⟩:=h;simp only[nx,decide_eq_true_eq,uq]at h;obtain⟨⟨⟨⟨⟨rfl,h1⟩,h2⟩,h3⟩,h4⟩,h5⟩:=h;exact Tp h4 h5 (o.a.b _ h1) (o.g _ (by decide)) (ja _ _ _ _ o h2 env s) λs1=>jb _ _ _ _ o h3 env s1
def WL(ja:JE T n a):JI T n (.g a):=by intro sc N X e tg o h env s;obtain⟨h0,hh⟩:=xt h;obtain⟨ts,k,tp,rfl⟩:=XI (of_decide_eq_true h0);clear h;have h:=hh;replace h:=tX h;obtain⟨x1,p1,xs1,p2,rfl,h⟩:=h;replace h:=x9 h;obtain⟨y1,rfl,h⟩:=h;simp only[nx,decide_eq_true_eq,uq]at h;obtain⟨⟨⟨rfl,h1⟩,h2⟩,h3⟩:=h;exact WV h3 (o.a.b _ h1) (o.g _ (by decide)) (ja _ _ _ _ o h2 env s)
end
section
variable (T:Tbl)(n:Nat)
mutual
theorem jE:∀a:Ex,JE T n a
 |.g _=>Tg
 |.e _=>Tn
 |.z _=>Qi
 |.G _ _=>Ql
 |.k _ _ a b=>TF (jE a) (jE b)
 |.C a=>TM (jE a)
 |.F a=>TN (jE a)
 |.j _ a b=>TJ (jE a) (jE b)
 |.A _ _ a b c=>ZS (jE a) (jE b) (jE c)
 |.u a es=>TC (jE a) (jL es)
 |.L _ _=>λsc N X e o h=>by cases h
 |.B c a b=>TK (jC c) (jE a) (jE b)
 |.q es=>TQ (jL es)
 |.s _ es=>TL (jL es)
 |.H=>λsc N X e o h=>by cases h
 |.E _=>WT
 |.K a b=>Zc (jE a) (jE b)
 |.h _ _ es=>WI (jL es)
 |.l _ _ es=>TH (jL es)
 |.I _ _=>λsc N X e o h=>by cases h
 |.D _ _ a es=>WK (jE a) (jL es)
 |.p a b=>Qd (jE a) (jE b)
 |.J _ a lo hi st=>Qe (jE a) (jO lo) (jO hi) (jO st)
 |.r _ _ _ elt _ it ifs=>WJ (jE elt) (jI it) (jCs ifs)
 |.y _ _ _ elt _ it ifs _ it2 ifs2=>ZT (jE elt) (jI it) (jCs ifs) (jI it2) (jCs ifs2)
 |.w _ _ _ _=>λsc N X e o h=>by cases h
theorem jL:∀a:Exs,JL T n a
 |.b=>TV
 |.a a as=>WM (jE a) (jL as)
theorem jO:∀a:OEx,JO T n a
 |.b=>Qf
 |.a a=>TX (jE a)
theorem jC:∀a:Cn,JC T n a
 |.a (.j _ a b)=>Td (jE a) (jE b)
 |.a (.A _ _ a b c)=>ZY (jE a) (jE b) (jE c)
 |.a (.g v)=>yU (jE (.g v)) rfl
 |.a (.e v)=>yU (jE (.e v)) rfl
 |.a (.z v)=>yU (jE (.z v)) rfl
 |.a (.G v w)=>yU (jE (.G v w)) rfl
 |.a (.k m o a b)=>yU (jE (.k m o a b)) rfl
 |.a (.C a)=>yU (jE (.C a)) rfl
 |.a (.F a)=>yU (jE (.F a)) rfl
 |.a (.u a b)=>yU (jE (.u a b)) rfl
 |.a (.L a b)=>yU (jE (.L a b)) rfl
 |.a (.B a b c)=>yU (jE (.B a b c)) rfl
 |.a (.q a)=>yU (jE (.q a)) rfl
 |.a (.s m a)=>yU (jE (.s m a)) rfl
 |.a .H=>yU (jE .H) rfl
 |.a (.E t)=>yU (jE (.E t)) rfl
 |.a (.K a b)=>yU (Zc (jE a) (jE b)) rfl
 |.a (.h a b c)=>yU (jE (.h a b c)) rfl
 |.a (.l a b c)=>yU (jE (.l a b c)) rfl
 |.a (.I a b)=>yU (jE (.I a b)) rfl
 |.a (.D a b c d)=>yU (jE (.D a b c d)) rfl
 |.a (.p a b)=>yU (jE (.p a b)) rfl
 |.a (.J a b c d e)=>yU (jE (.J a b c d e)) rfl
 |.a (.r a b c d e f g)=>yU (jE (.r a b c d e f g)) rfl
 |.a (.y a b c d e f g h i j)=>yU (jE (.y a b c d e f g h i j)) rfl
 |.a (.w a b c d)=>yU (jE (.w a b c d)) rfl
 |.b c=>U9 (jC c)
 |.d c cs=>U8 (jC c) (jCs cs)
 |.f c cs=>Qc (jC c) (jCs cs)
theorem jCs:∀a:Cns,JCs T n a
 |.b=>WH
 |.a c cs=>ZR (jC c) (jCs cs)
theorem jI:∀a:Itb,JI T n a
 |.f a=>TR (jE a)
 |.c a=>dk (jE a)
 |.d a b=>dm (jE a) (jE b)
 |.g a=>WL (jE a)
 |.h a b=>TU (jE a) (jE b)
end
end
end M
end
section
namespace M
open PySem
section
variable (K:KF)(mg:Str->Option Value)
def pP(ρ:Own)(H:L2.Hp)(o:Out Fl)(D:L2.Ends):Prop:=
 match o with
 |.e (.a e) s'=>∀ρ' H' σ',Ext ρ H ρ' H'->HR K mg ρ' s' H'->ER K mg ρ' H' e σ'->D.a σ' H'
 |.e (.c e) s'=>∀ρ' H' σ',Ext ρ H ρ' H'->HR K mg ρ' s' H'->ER K mg ρ' H' e σ'->D.b σ' H'
 |.e (.d e) s'=>∀ρ' H' σ',Ext ρ H ρ' H'->HR K mg ρ' s' H'->ER K mg ρ' H' e σ'->D.c σ' H'
 |.e (.b v) s'=>∀ρ' H' x,Ext ρ H ρ' H'->HR K mg ρ' s' H'->RD K mg ρ' H' v x->D.d x H'
 |_=>False
def tSt(env:Env)(s:Sto)(o:Out Fl):L2.TS:=λD σ H=>∃ρ,HR K mg ρ s H/\ER K mg ρ H env σ/\pP K mg ρ H o D
end
section
variable {K:KF}{mg:Str->Option Value}{ρ ρ':Own}{H H':L2.Hp}
def pP.mono(w:pP K mg ρ H o D)(x:Ext ρ H ρ' H')(h:HR K mg ρ' s1 H'):pP K mg ρ' H' o D:=by
 cases o with
 |e fl s'=>
  cases fl with
  |a e=>exact λρ2 H2 σ2 x2 h2 r2=>w ρ2 H2 σ2 (x.trans h x2) h2 r2
  |c e=>exact λρ2 H2 σ2 x2 h2 r2=>w ρ2 H2 σ2 (x.trans h x2) h2 r2
  |d e=>exact λρ2 H2 σ2 x2 h2 r2=>w ρ2 H2 σ2 (x.trans h x2) h2 r2
  |b v=>exact λρ2 H2 y x2 h2 r2=>w ρ2 H2 y (x.trans h x2) h2 r2
 |g _ _ _=>exact w
 |d=>exact w
end
noncomputable def uR:Expr->Bool
 |.ListComp ..|.SetComp ..|.DictComp ..=>false
 |_=>true
def oY(h:uR e=true):Ea e t l env=pure false:=by cases e<;>first|rfl|cases h
def t7:Ep [.Tuple ts k p] e l env=pure false:=by cases e<;>rfl
def bX:Ep [.Subscript o i p] e l env=pure false:=by cases e<;>rfl
noncomputable def notTuple:Expr->Bool
 |.Tuple ..=>false
 |_=>true
def gY(h:notTuple e=true):B5 [.Tuple ts k p] e env=pure none:=by
 cases e<;>first|(cases h;done)|rfl
def jt:B5 [.Subscript o i p] e env=pure none:=by cases e<;>rfl
noncomputable def UI(sc:Scope)(ts vs:List Expr):Bool:=
 match ts with
 |[.Name x px,.Name y py]=>decide (sc.names.lookup x=some .local)&&decide (sc.names.lookup y=some .local)&&(px.line == py.line)&&decide (x≠y)&&!(vs.all (Fu 8))&&!(vs.all (E3 8))
 |[.Name x px,.Name y py,.Name z pz]=>decide (sc.names.lookup x=some .local)&&decide (sc.names.lookup y=some .local)&&decide (sc.names.lookup z=some .local)&&(px.line == py.line)&&(px.line == pz.line)&&decide (x≠y)&&decide (x≠z)&&decide (y≠z)&&!(vs.all (Fu 8))&&!(vs.all (E3 8))
 |_=>false
noncomputable def UQ(sc:Scope)(ts:List Expr):Bool:=ts.any (λ|.Name x _=>decide (sc.names.lookup x≠some .local)|_=>false)||decide (3<ts.length)
def oB{vs:List Expr}(h:xX vs=true):(vs.any λ|.Starred ..=>true|_=>false)=false:=by
 induction vs with
 |nil=>rfl
 |cons v vs ih=>
  rw[xX,nx]at h;rw[CZ,ih h.2];cases v<;>first|rfl|(have z:=h.1;cases z)
def ju(hb:env.blockKind=.function)(hx:env.kindOf x=some .local)(hy:env.kindOf y=some .local)(hl:(px.line == py.line)=true)(hne:x≠y)(hp:xX [a,b]=true)
 (hf:[a,b].all (Fu 8)=false) (hc:[a,b].all (E3 8)=false):B5 [.Tuple [.Name x px,.Name y py] kt pt] (.Tuple [a,b] k2 pt2) env=pure (some [x,y]):=by
 have hs:=oB hp;have hl':(py.line == px.line)=true:=by rw[beq_iff_eq]at hl ⊢;exact hl.symm
 unfold B5;have e1:([x,y].eraseDups.length != [x,y].length)=false:=by
  have:(y == x)=false:=by simpa using BP hne
  simp[List.eraseDups_cons,this]
 simp only[An,BE,hb,hf,hs,hc,hx,hy,hl',List.head?_cons,D6,F5,A2,List.filterMap_nil,beq_self_eq_true,Fv,if_true];have hpos:(EB x px).pos.line=px.line:=rfl;refine(if_neg (by decide)).trans ((if_neg (λz=>Aa (hs.symm.trans z))).trans ?_)
 simp only[hpos,beq_self_eq_true,hl',Fv,if_true,e1,An,BE,bne_self_eq_false,Bool.or_self,AV,if_false];exact if_neg (λz=>Aa (e1.symm.trans (by rw[GR]at z;exact z)))
def nI(hb:env.blockKind=.function)(hx:env.kindOf x=some .local)(hy:env.kindOf y=some .local)(hz:env.kindOf z=some .local)(hl:(px.line == py.line)=true)(hl2:(px.line == pz.line)=true)
 (hne:x≠y) (hne2:x≠z) (hne3:y≠z) (hp:xX [a,b,c]=true) (hf:[a,b,c].all (Fu 8)=false) (hc:[a,b,c].all (E3 8)=false):B5 [.Tuple [.Name x px,.Name y py,.Name z pz] kt pt] (.Tuple [a,b,c] k2 pt2) env=pure (some [x,y,z]):=by
 have hs:=oB hp;have hl':(py.line == px.line)=true:=by rw[beq_iff_eq]at hl ⊢;exact hl.symm
 have hl2':(pz.line == px.line)=true:=by rw[beq_iff_eq]at hl2 ⊢;exact hl2.symm
 unfold B5;have e1:([x,y,z].eraseDups.length != [x,y,z].length)=false:=by
  have h1:(y == x)=false:=by simpa using BP hne
  have h2:(z == x)=false:=by simpa using BP hne2
  have h3:(z == y)=false:=by simpa using BP hne3
  simp[List.eraseDups_cons,h1,h2,h3]
 simp only[An,BE,hb,hf,hs,hc,hx,hy,hz,hl',hl2',List.head?_cons,D6,F5,A2,List.filterMap_nil,beq_self_eq_true,Fv,if_true];have hpos:(EB x px).pos.line=px.line:=rfl;refine(if_neg (by decide)).trans ((if_neg (λz=>Aa (hs.symm.trans z))).trans ?_)
 simp only[hpos,beq_self_eq_true,hl',hl2',Fv,if_true,e1,An,BE,bne_self_eq_false,Bool.or_self,AV,if_false];exact if_neg (λz=>Aa (e1.symm.trans (by rw[GR]at z;exact z)))
theorem rE{α β:Type}{f:α->Option β}:∀{l:List α},(∃a∈l,f a=none)->(l.filterMap f).length<l.length
 |[],⟨a,h,_⟩=>by cases h
 |b::l,⟨a,h,e⟩=>by
  rw[A2];have hle:=F2 f l;rcases Ah.mp h with z|z
  . subst z;rw[e];simp only[An];omega
  . have:=rE ⟨a,z,e⟩
    cases f b with
    |none=>simp only[An];omega
    |some _=>simp only[An];omega
def ba(h:(∃x p,EB x p∈ts/\env.kindOf x≠some .local)\/3<ts.length):B5 [.Tuple ts kt pt] (.Tuple vs k2 pt2) env=pure none:=by
 unfold B5;simp only[];split
 . rfl
 . rename_i h1
   split
   . rfl
   . rw[if_pos]
     rcases h with⟨x,p,hm,hk⟩|h
     . rw[AS]
       left;rw[bne_iff_ne];refine Ax (rE ⟨_,hm,?_⟩);have:(env.kindOf x == some .local)=false:=by simpa using hk
       simp only[this,BX,AV,if_false]
     . exfalso
       apply h1;have:(ts.length == 2||ts.length == 3)=false:=by rw[DR];constructor<;>(rw[beq_eq_false_iff_ne];omega)
       rw[this];rfl
def gX(h:plain i=true)v:assign (.Subscript o i p) env v=(do
 let ov <-holding [v] (eval o env);let iv <-holding [v,ov] (eval i env)
 standAt p
 holding [v,ov,iv] (setItem ov iv v)
 release [v,ov,iv] []):=by
 cases i<;>first|rfl|cases h
section
variable {X:L2.Cx}{env:Env}{s:Sto}
def Ph{t:L2.TS}(h:∀D σ H,¬t D σ H):L2.PS X st t:=λpins s σ H D I q=>(h D σ H q).elim
def Rj(h:∀v s',o≠.e v s'):¬tSt X.K X.d env s o D σ H:=by
 rintro ⟨ρ,_,_,w⟩;cases o with
 |e v s'=>exact h v s' rfl
 |g _ _ _=>exact w
 |d=>exact w
def zW(h:∀v s',o≠.e v s'):L2.PS X st (tSt X.K X.d env s o):=Ph λ_ _ _=>Rj h
def WW(hn:uR e=true)(h:L2.PE X e (tV X.K X.d env s o)):L2.PS X (.Expr e pos) (tSt X.K X.d env s (o.bind λ_ s1=>.e (.a env) s1)):=by
 cases o with
 |e v s1=>exact wx (L2.VE h (oY hn)) λD σ H ⟨ρ,hr,er,w⟩=>⟨ρ,hr,er,λρ1 x H1 x1 hr1 r1=>w ρ1 H1 σ x1 hr1 (er.mono x1)⟩
 |g _ _ _=>exact zW (zJ rfl)
 |d=>exact zW (zJ rfl)
def Tt(h:L2.PE X e (tV X.K X.d env s o)):L2.PS X (.Return (some e) pos) (tSt X.K X.d env s (o.bind λv s1=>.e (.b v) s1)):=by
 cases o with
 |e v s1=>exact wx (L2.RN h) λD σ H ⟨ρ,hr,er,w⟩=>⟨ρ,hr,er,λρ1 x H1 x1 hr1 r1=>w ρ1 H1 x x1 hr1 r1⟩
 |g _ _ _=>exact zW (zJ rfl)
 |d=>exact zW (zJ rfl)
def iU(rule:L2.PS X st (L2.nJ te (L2.uk i)))(h:∀σ H Q,tV X.K X.d env s o σ H Q->te σ H Q):L2.PS X st (tSt X.K X.d env s (o.bind λv s1=>.e (.a (env.set i (some v))) s1)):=by
 cases o with
 |e v s1=>exact wx rule λD σ H ⟨ρ,hr,er,w⟩=>h _ _ _ ⟨ρ,hr,er,λρ1 x H1 x1 hr1 r1=>w ρ1 H1 _ x1 hr1 ((er.mono x1).set i r1)⟩
 |g _ _ _=>exact zW (zJ rfl)
 |d=>exact zW (zJ rfl)
def ft{t:Tgt}{g:L2.TG}{o:Out Val}{st:Stmt}{te:L2.TE}(TG:rq X.K X.d t g)(rule:L2.PS X st (L2.nJ te g))(h:∀σ H Q,tV X.K X.d env s o σ H Q->te σ H Q) :
 L2.PS X st (tSt X.K X.d env s (o.bind λv s1=>match xO t v env with|some env'=>.e (.a env') s1|dS=>.d)):=by
 cases o with
 |e v s1=>
  show L2.PS X st (tSt X.K X.d env s (match xO t v env with|some env'=>.e (.a env') s1|dS=>.d))
  cases hb:xO t v env with
  |none=>exact zW (zJ rfl)
  |some env'=>exact wx rule λD σ H ⟨ρ,hr,er,w⟩=>h _ _ _ ⟨ρ,hr,er,λρ1 x H1 x1 hr1 r1=>TG ρ1 s1 H1 v x env env' σ _ hr1 r1 (er.mono x1) hb λσ' er'=>w ρ1 H1 σ' x1 hr1 er'⟩
 |g _ _ _=>exact zW (zJ rfl)
 |d=>exact zW (zJ rfl)
def U3 op m:(∃r,L2.PIp X op.op r/\∀i j H Q v s s',binOp m op (.c i) (.c j) s=.e v s'->(∃k:Int,v=.c k/\s'=s/\(Q (.d k) H->r (.d i) (.d j) H Q)))\/(op=.g\/op=.h\/op=.i\/op=.f):=by
 cases op with
 |a=>exact .inl ⟨_,L2.WA,λi j H Q v s s' h=>by cases h;exact⟨_,rfl,rfl,λq=>⟨i,j,rfl,rfl,q⟩⟩⟩
 |c=>exact .inl ⟨_,L2.WD,λi j H Q v s s' h=>by cases h;exact⟨_,rfl,rfl,λq=>⟨i,j,rfl,rfl,q⟩⟩⟩
 |b=>exact .inl ⟨_,L2.WC,λi j H Q v s s' h=>by
  simp only[binOp]at h;split at h
  . rename_i hz;cases h;exact⟨_,rfl,rfl,λq=>⟨i,j,rfl,rfl,hz,q⟩⟩
  . cases h⟩
 |e=>exact .inl ⟨_,L2.ZP,λi j H Q v s s' h=>by
  simp only[binOp]at h;split at h
  . rename_i hz;cases h;exact⟨_,rfl,rfl,λq=>⟨i,j,rfl,rfl,hz,q⟩⟩
  . cases h⟩
 |d=>exact .inl ⟨_,L2.WB,λi j H Q v s s' h=>by
  simp only[binOp]at h;split at h
  . rename_i hz;cases h;exact⟨_,rfl,rfl,λq=>⟨i,j,rfl,rfl,hz,q⟩⟩
  . cases h⟩
 |g=>exact .inr (.inl rfl)
 |h=>exact .inr (.inr (.inl rfl))
 |i=>exact .inr (.inr (.inr (.inl rfl)))
 |f=>exact .inr (.inr (.inr (.inr rfl)))
def Xi{i:Nat}{op:Bop}{f:Sto->Out Val}{r:Fl}{s':Sto}(h:(match env[i]? with
 |some (some (.c x))=>(f s).bind λv s1=>match v with
  |.c y=>(binOp false op (.c x) (.c y) s1).bind λz s2=>.e (Fl.a (env.set i (some z))) s2
  |_=>.d
 |some (some (.f x))=>if op=Bop.a then (f s).bind λv s1=>match v with
  |.f y=>(binOp false .a (.f x) (.f y) s1).bind λz s2=>.e (Fl.a (env.set i (some z))) s2
  |_=>.d
  else .d
 |_=>.d:Out Fl)=.e r s'):(∃a b s1 z,env[i]?=some (some (.c a))/\f s=.e (.c b) s1/\binOp false op (.c a) (.c b) s1=.e z s'/\r=Fl.a (env.set i (some z))) \/
  (op=Bop.a/\∃a b,env[i]?=some (some (.f a))/\f s=.e (.f b) s'/\a.length+b.length<=zX/\r=Fl.a (env.set i (some (.f (a++b))))):=by
 generalize he:env[i]?=o at h;cases o with
 |none=>cases h
 |some ov=>
  cases ov with
  |none=>cases h
  |some v0=>
   cases v0 with
   |c a=>
    refine .inl ⟨a,?_⟩;generalize hv:f s=o at h;cases o with
    |e v s1=>
     cases v with
     |c b=>
      simp only[zR]at h;generalize hb:binOp false op (.c a) (.c b) s1=o at h;cases o with
      |e z s2=>cases h;exact⟨b,s1,z,rfl,rfl,hb,rfl⟩
      |g _ _ _=>cases h
      |d=>cases h
     |_=>cases h
    |g _ _ _=>cases h
    |d=>cases h
   |f a=>
    by_cases ho:op=.a
    . refine .inr ⟨ho,a,?_⟩
      simp only[if_pos ho]at h;generalize hv:f s=o at h;cases o with
      |e v s1=>
       cases v with
       |f b=>
        simp only[zR,binOp]at h;by_cases hz:a.length+b.length<=zX
        . rw[if_pos hz]at h;cases h;exact⟨b,rfl,rfl,hz,rfl⟩
        . rw[if_neg hz]at h;cases h
       |_=>cases h
      |g _ _ _=>cases h
      |d=>cases h
    . simp only[if_neg ho]at h;cases h
   |_=>cases h
def Pj(h:∀r s',o=.e r s'->L2.PS X st (tSt X.K X.d env s (.e r s'))):L2.PS X st (tSt X.K X.d env s o):=by
 cases o with
 |e r s'=>exact h r s' rfl
 |g _ _ _=>exact zW (zJ rfl)
 |d=>exact zW (zJ rfl)
def Tr{i:Nat}{x:Str}{e:Expr}{op:Bop}{f:Sto->Out Val}{pos pos':Pos}(hop:¬(op=.g\/op=.h\/op=.i\/op=.f))(hN:X.N.Nodup)(hi:X.N[i]?=some x)(hx:L2.Loc X.a.scope x)(hf:X.m x=true\/X.a.scope.names.lookup x=some .local)(h:∀s,L2.PE X e (tV X.K X.d env s (f s))) :
 L2.PS X (.AugAssign (.Name x pos') op.op e pos) (tSt X.K X.d env s (match env[i]? with
 |some (some (.c x))=>(f s).bind λv s1=>match v with
  |.c y=>(binOp false op (.c x) (.c y) s1).bind λz s2=>.e (.a (env.set i (some z))) s2
  |_=>.d
 |some (some (.f x))=>if op=.a then (f s).bind λv s1=>match v with
  |.f y=>(binOp false .a (.f x) (.f y) s1).bind λz s2=>.e (.a (env.set i (some z))) s2
  |_=>.d
  else .d
 |_=>.d)):=by
 refine Pj λr s' hO=>?_;have h':=h s;rcases Xi hO with⟨a,b,s1,z,he,hv,hb,rfl⟩|⟨rfl,a,b,he,hv,hz,rfl⟩
 . rw[hv]at h'
   rcases U3 (X:=X) op false with⟨r,hr0,hq⟩|z
   . obtain⟨k,rfl,rfl,q⟩:=hq a b (λ_=>none) (λ_ _=>True) z s1 s' hb
     refine wx (L2.YT hN hi hx h' hr0 hf) λD σ H ⟨ρ,hr,er,w⟩=>?_;obtain⟨xv,e1,e2⟩:=er.a i _ he;cases e2;refine⟨_,e1,ρ,hr,er,λρ1 y H1 x1 hr1 r1=>?_⟩;cases r1;obtain⟨k',e3,_,q'⟩:=hq a b H1 (λz H2=>D.a (σ.set i (some z)) H2) _ _ _ hb;cases e3;exact q' (w ρ1 H1 _ x1 hr1 ((er.mono x1).set i (.l _)))
   . exact absurd z hop
 . rw[hv]at h'
   refine wx (L2.YT hN hi hx h' L2.di hf) λD σ H ⟨ρ,hr,er,w⟩=>?_;obtain⟨xv,e1,e2⟩:=er.a i _ he;refine⟨_,e1,ρ,hr,er,λρ1 y H1 x1 hr1 r1=>?_⟩;have e3:=e2.mono x1;cases e3 with
   |m n1 h1 q1=>
    cases r1 with
    |m n2 h2 q2=>
     refine⟨_,_,_,_,rfl,rfl,h1,h2,?_,um hr1 (q1.append q2) λρ2 z H2 x2 hr2 rz=>w ρ2 H2 _ (x1.trans hr1 x2) hr2 ((er.mono (x1.trans hr1 x2)).set i rz)⟩;rw[<-q1.length,<-q2.length,<-yx];exact hz
def WZ{k:Nat}{a i e:Expr}{o:Out Val}{f2 f3:Sto->Out Val}{p pos:Pos}(hr0:L2.wV k X.A)(hn:uR e=true)(h1:L2.PE X e (tV X.K X.d env s o))(h2:∀s1,L2.PE X a (tV X.K X.d env s1 (f2 s1)))(h3:∀s1,L2.PE X i (tV X.K X.d env s1 (f3 s1))) :
 L2.PS X (.Assign [.Subscript a i p] e pos) (tSt X.K X.d env s (o.bind λv s1=>(f2 s1).bind λx s2=>(f3 s2).bind λy s3=>match putD x y v s3 with|some s4=>.e (.a env) s4|dS=>.d)):=by
 cases o with
 |e v s1=>
  have h2':=h2 s1;simp only[zR];cases hb:f2 s1 with
  |e x s2=>
   rw[hb]at h2';have h3':=h3 s2;simp only[zR];cases hc:f3 s2 with
   |e y s3=>
    rw[hc]at h3';simp only[zR];cases hp:putD x y v s3 with
    |none=>exact zW (zJ rfl)
    |some s4=>
     refine wx (L2.VD (by have:=hr0.a;omega) h2' h3' h1 (oY hn)) λD σ H ⟨ρ,hr,er,w⟩=>⟨ρ,hr,er,λρ1 xv H1 x1 hr1 r1=>⟨ρ1,hr1,er.mono x1,λρ2 xo H2 x2 hr2 r2=>⟨ρ2,hr2,(er.mono x1).mono x2,λρ3 xi H3 x3 hr3 r3=>?_⟩⟩⟩
     obtain⟨b,H4,ex,g,X4,hr4⟩:=VI hr3 (r2.mono x3) r3 ((r1.mono x2).mono x3) hp;have xx:=(x1.trans hr1 x2).trans hr2 x3;exact⟨b,H4,ex,g,w ρ3 H4 σ (xx.trans hr3 X4) hr4 ((er.mono xx).mono X4)⟩
   |g _ _ _=>exact zW (zJ rfl)
   |d=>exact zW (zJ rfl)
  |g _ _ _=>exact zW (zJ rfl)
  |d=>exact zW (zJ rfl)
 |g _ _ _=>exact zW (zJ rfl)
 |d=>exact zW (zJ rfl)
def Zg{a i e:Expr}{o:Out Val}{f2 f3:Sto->Out Val}{p pos:Pos}(hi0:plain i=true)(h1:L2.PE X e (tV X.K X.d env s o))(h2:∀s1,L2.PE X a (tV X.K X.d env s1 (f2 s1)))(h3:∀s1,L2.PE X i (tV X.K X.d env s1 (f3 s1))) :
 L2.PS X (.Assign [.Subscript a i p] e pos) (tSt X.K X.d env s (o.bind λv s1=>(f2 s1).bind λx s2=>(f3 s2).bind λy s3=>match x,y with
  |.h r,.c k=>(match s3[r]? with
   |some (.c vs)=>(match L2.ixN vs.length k with|some j=>.e (.a env) (upd s3 r (vs.set j v))|dS=>.d)
   |_=>.d)
  |_,_=>.d)):=by
 cases o with
 |e v s1=>
  have h2':=h2 s1;simp only[zR];cases hb:f2 s1 with
  |e x s2=>
   rw[hb]at h2';have h3':=h3 s2;simp only[zR];cases hc:f3 s2 with
   |e y s3=>
    rw[hc]at h3';simp only[zR];have rule:L2.PS X (.Assign [.Subscript a i p] e pos) (L2.nJ _ (L2.QR _ _ L2.UE)):=L2.gB h1 (L2.RG h2' h3' L2.set_list (gX hi0)) bX jt;cases x with
    |h r=>
     cases y with
     |c k=>
      simp only[];cases hs:s3[r]? with
      |none=>exact zW (zJ rfl)
      |some cl=>
       cases cl with
       |e _=>exact zW (zJ rfl)
       |d _=>exact zW (zJ rfl)
       |f _=>exact zW (zJ rfl)
       |c vs=>
        simp only[];cases hj:L2.ixN vs.length k with
        |none=>exact zW (zJ rfl)
        |some j=>
         refine wx rule λD σ H ⟨ρ,hr,er,w⟩=>⟨ρ,hr,er,λρ1 xv H1 x1 hr1 r1=>⟨ρ1,hr1,er.mono x1,λρ2 xo H2 x2 hr2 r2=>⟨ρ2,hr2,(er.mono x1).mono x2,λρ3 xi H3 x3 hr3 r3=>?_⟩⟩⟩;cases r3;have r2':=r2.mono x3;cases r2' with
         |C e0 _=>
          obtain⟨b',xs,e1,e2,q⟩:=hr3.obj r _ hs;rw[e0]at e1;cases e1;have xx:=(x1.trans hr1 x2).trans hr2 x3;refine⟨_,xs,k,j,rfl,rfl,e2,by rw[<-q.length];exact hj,?_⟩
          exact w ρ3 _ σ (xx.trans hr3 (Ext.write hr3 e0 e2 _)) (hr3.write e0 e2 (RDs.set ((r1.mono x2).mono x3) j q)) ((er.mono xx).mono (Ext.write hr3 e0 e2 _))
     |_=>exact zW (zJ rfl)
    |_=>exact zW (zJ rfl)
   |g _ _ _=>exact zW (zJ rfl)
   |d=>exact zW (zJ rfl)
  |g _ _ _=>exact zW (zJ rfl)
  |d=>exact zW (zJ rfl)
 |g _ _ _=>exact zW (zJ rfl)
 |d=>exact zW (zJ rfl)
end
end M
end
section
namespace M
open PySem
section
variable {X:L2.Cx}{env:Env}{s:Sto}
def WX(rule:L2.PS X st (L2.OJ i j ta))(h:∀σ H Q,tVs X.K X.d env s o σ H Q->ta σ H Q) :
 L2.PS X st (tSt X.K X.d env s (o.bind λvs s1=>if vs.length=[i,j].length then .e (.a (([i,j].zip vs).foldl (λe p=>e.set p.1 (some p.2)) env)) s1 else .d)):=by
 cases o with
 |e vs s1=>
  show L2.PS X st (tSt X.K X.d env s (if vs.length=[i,j].length then .e (.a (([i,j].zip vs).foldl (λe p=>e.set p.1 (some p.2)) env)) s1 else .d))
  match vs with
  |[v,w]=>
   refine wx rule λD σ H ⟨ρ,hr,er,wt⟩=>h _ _ _ ⟨ρ,hr,er,λρ1 xs H1 x1 hr1 r1=>?_⟩;obtain⟨x,y,rfl,rx,ry⟩:=bC r1;exact⟨x,y,rfl,wt ρ1 H1 _ x1 hr1 (((er.mono x1).set i rx).set j ry)⟩
  |[]=>exact zW (zJ rfl)
  |[_]=>exact zW (zJ rfl)
  |_::_::_::r=>exact zW (λ_ _ e=>by simp at e)
 |g _ _ _=>exact zW (zJ rfl)
 |d=>exact zW (zJ rfl)
def O5(r:RDs K mg ρ H [v,w,z] xs):∃x y t,xs=[x,y,t]/\RD K mg ρ H v x/\RD K mg ρ H w y/\RD K mg ρ H z t:=by
 cases r with
 |a r1 r2=>
  obtain⟨y,t,rfl,r3,r4⟩:=bC r2;exact⟨_,_,_,rfl,r1,r3,r4⟩
def WY(rule:L2.PS X st (L2.UK i j k ta))(h:∀σ H Q,tVs X.K X.d env s o σ H Q->ta σ H Q) :
 L2.PS X st (tSt X.K X.d env s (o.bind λvs s1=>if vs.length=[i,j,k].length then .e (.a (([i,j,k].zip vs).foldl (λe p=>e.set p.1 (some p.2)) env)) s1 else .d)):=by
 cases o with
 |e vs s1=>
  show L2.PS X st (tSt X.K X.d env s (if vs.length=[i,j,k].length then .e (.a (([i,j,k].zip vs).foldl (λe p=>e.set p.1 (some p.2)) env)) s1 else .d))
  match vs with
  |[v,w,z]=>
   refine wx rule λD σ H ⟨ρ,hr,er,wt⟩=>h _ _ _ ⟨ρ,hr,er,λρ1 xs H1 x1 hr1 r1=>?_⟩;obtain⟨x,y,t,rfl,rx,ry,rt⟩:=O5 r1;exact⟨x,y,t,rfl,wt ρ1 H1 _ x1 hr1 ((((er.mono x1).set i rx).set j ry).set k rt)⟩
  |[]=>exact zW (zJ rfl)
  |[_]=>exact zW (zJ rfl)
  |[_,_]=>exact zW (zJ rfl)
  |_::_::_::_::r=>exact zW (λ_ _ e=>by simp at e)
 |g _ _ _=>exact zW (zJ rfl)
 |d=>exact zW (zJ rfl)
def uSs(K:KF)(mg:Str->Option Value)(Φ:Calls)(G:Str->Option Val)(b:Sms):L2.TS:=λD σ H=>∃env s,tSt K mg env s (zj Φ G env b s) D σ H
def Qo{f2 f3:Sto->Out Fl}(hc:L2.PT X c (tT X.K X.d env s o))(ha:L2.PSs X a ta)(hb:L2.PSs X b tb)(ia:∀s1 D σ H,tSt X.K X.d env s1 (f2 s1) D σ H->ta D σ H)(ib:∀s1 D σ H,tSt X.K X.d env s1 (f3 s1) D σ H->tb D σ H) :
 L2.PS X (.If c a b pos) (tSt X.K X.d env s (o.bind λt s1=>if t then f2 s1 else f3 s1)):=by
 cases o with
 |e v s1=>
  refine wx (L2.Pg hc ha hb) λD σ H ⟨ρ,hr,er,wt⟩=>⟨ρ,hr,er,λρ1 x H1 x1 hr1 r1=>?_⟩;have wt':=wt.mono x1 hr1;cases r1;cases v with
  |true=>exact L2.nA (ia s1 D σ H1 ⟨ρ1,hr1,er.mono x1,wt'⟩)
  |false=>exact L2.oz (ib s1 D σ H1 ⟨ρ1,hr1,er.mono x1,wt'⟩)
 |g _ _ _=>exact zW (zJ rfl)
 |d=>exact zW (zJ rfl)
def ZD{body:Env->Sto->Out Fl}{tb:L2.TS}(W:Walk K mg ρ H r J)(TG:rq K mg t g)(hb:∀env s D σ H,tSt K mg env s (body env s) D σ H->tb D σ H)
 (hr:HR K mg ρ s H) (er:ER K mg ρ H env σ) (w:pP K mg ρ H (uZ r t body r.a env s) D):L2.mL J g tb D σ H:=by
 refine kU (n:=r.a.length) (λi σ2 H2=>∃ρ2 s2 env2,HR K mg ρ2 s2 H2/\ER K mg ρ2 H2 env2 σ2/\Ext ρ H ρ2 H2/\uZ r t body (r.a.drop i) env2 s2=uZ r t body r.a env s) ⟨ρ,s,env,hr,er,Ext.refl,by rw[EZ]⟩ ?_ ?_
 . rintro σ2 H2 ⟨ρ2,s2,env2,hr2,er2,x2,h2⟩
   rw[List.drop_length,uZ]at h2;split at h2
   . rename_i ho
     rw[<-h2]at w;exact⟨W.a ρ2 H2 s2 _ x2.mv hr2 ho rfl,w ρ2 H2 σ2 x2 hr2 er2⟩
   . rw[<-h2]at w;exact w.elim
 . rintro i σ2 H2 hi ⟨ρ2,s2,env2,hr2,er2,x2,h2⟩
   rw[D7 hi,uZ]at h2;split at h2
   . rename_i ho
     obtain⟨hgo,hy⟩:=W.c ρ2 H2 s2 i (r.a[i]) x2.mv hr2 ho (pn hi);refine⟨hgo,λx H3 y=>?_⟩;obtain⟨hH,rx⟩:=hy x H3 y;split at h2
     . rw[<-h2]at w;exact w.elim
     . rename_i env' he
       have C3:HR K mg ρ2 s2 H3/\Ext ρ2 H2 ρ2 H3:=by
        rcases hH with e|⟨q,o,hq,e⟩
        . subst e;exact⟨hr2,Ext.refl⟩
        . subst e;exact⟨hr2.more hq o,Ext.new hr2 hq o⟩
       have x3:=x2.trans hr2 C3.2;refine TG ρ2 s2 H3 _ x env2 env' σ2 _ C3.1 rx (er2.mono C3.2) he λσ4 er4=>hb env' s2 _ σ4 H3 ⟨ρ2,C3.1,er4,?_⟩;cases hc:body env' s2 with
       |e fl s5=>
        rw[hc]at h2;simp only[zR]at h2;cases fl with
        |a e=>exact λρ5 H5 σ5 x5 hr5 er5=>⟨ρ5,s5,e,hr5,er5,x3.trans C3.1 x5,h2⟩
        |d e=>exact λρ5 H5 σ5 x5 hr5 er5=>⟨ρ5,s5,e,hr5,er5,x3.trans C3.1 x5,h2⟩
        |c e=>
         simp only[]at h2;rw[<-h2]at w;exact λρ5 H5 σ5 x5 hr5 er5=>w ρ5 H5 σ5 (x3.trans C3.1 x5) hr5 er5
        |b v=>
         simp only[]at h2;rw[<-h2]at w;exact λρ5 H5 y5 x5 hr5 r5=>w ρ5 H5 y5 (x3.trans C3.1 x5) hr5 r5
       |g _ _ _=>rw[hc]at h2;simp only[pQ]at h2;rw[<-h2]at w;exact w.elim
       |d=>rw[hc]at h2;simp only[uJ]at h2;rw[<-h2]at w;exact w.elim
   . rw[<-h2]at w;exact w.elim
def Ts(hx:X.h=λ_ _=>False)(hc:X.g=true)(hp:plain iter=true)(hi:∀env s,L2.PI X tg iter (tI (K:=X.K) (mg:=X.d) env s (xD Φ G env it s)))(hg:L2.PG X tg g)(TG:rq X.K X.d t g)
 (hb:L2.PSs X body (uSs X.K X.d Φ G b)):L2.PS X (.For tg iter body [] pos) (tSt X.K X.d env s ((xD Φ G env it s).bind λr s1=>uZ r t (λe s'=>zj Φ G e b s') r.a env s1)):=by
 have hpass:E5 (model X.f X.w) X.A X.a X.h:=by rw[hx];exact E5.never
 refine wx (L2.RL hpass hc (hX hi) hg hb (yt hp)) λD σ H ⟨ρ,hr,er,w⟩=>⟨env,s,ρ,hr,er,?_⟩;cases hv:xD Φ G env it s with
 |e r s1=>
  rw[hv]at w;exact λρ1 H1 J x1 hr1 W=>ZD W TG (λenv s D σ H h=>⟨env,s,h⟩) hr1 (er.mono x1) (w.mono x1 hr1)
 |g _ _ _=>rw[hv]at w;exact w.elim
 |d=>rw[hv]at w;exact w.elim
def gq{c:Env->Sto->Out Bool}{body:Env->Sto->Out Fl}{tc:L2.TT}{tb:L2.TS}(hc:∀env s σ H Q,tT K mg env s (c env s) σ H Q->tc σ H Q)(hb:∀env s D σ H,tSt K mg env s (body env s) D σ H->tb D σ H)
 (hr:HR K mg ρ s H) (er:ER K mg ρ H env σ) (w:pP K mg ρ H (uw c body n env s) D):L2.XD tc tb D σ H:=by
 refine⟨λm σ2 H2=>∃ρ2 s2 env2,HR K mg ρ2 s2 H2/\ER K mg ρ2 H2 env2 σ2/\Ext ρ H ρ2 H2/\uw c body m env2 s2=uw c body n env s,⟨n,ρ,s,env,hr,er,Ext.refl,rfl⟩,?_⟩;rintro m σ2 H2 ⟨ρ2,s2,env2,hr2,er2,x2,h2⟩;cases m with
 |zero=>rw[uw]at h2;rw[<-h2]at w;exact w.elim
 |succ m=>
  rw[uw]at h2;refine hc env2 s2 σ2 H2 _ ⟨ρ2,hr2,er2,?_⟩;cases hv:c env2 s2 with
  |e t s3=>
   rw[hv]at h2;simp only[zR]at h2;intro ρ3 t' H3 x3 hr3 e3;cases e3;have x3':=x2.trans hr2 x3;cases t with
   |true=>
    refine L2.nA ⟨_,λσ' H' p=>⟨m,CI m,p⟩,hb env2 s3 _ σ2 H3 ⟨ρ3,hr3,er2.mono x3,?_⟩⟩;simp only[if_true]at h2;cases hbd:body env2 s3 with
    |e fl s5=>
     rw[hbd]at h2;simp only[zR]at h2;cases fl with
     |a e=>exact λρ5 H5 σ5 x5 hr5 er5=>⟨ρ5,s5,e,hr5,er5,x3'.trans hr3 x5,h2⟩
     |d e=>exact λρ5 H5 σ5 x5 hr5 er5=>⟨ρ5,s5,e,hr5,er5,x3'.trans hr3 x5,h2⟩
     |c e=>
      simp only[]at h2;rw[<-h2]at w;exact λρ5 H5 σ5 x5 hr5 er5=>w ρ5 H5 σ5 (x3'.trans hr3 x5) hr5 er5
     |b v=>
      simp only[]at h2;rw[<-h2]at w;exact λρ5 H5 y5 x5 hr5 r5=>w ρ5 H5 y5 (x3'.trans hr3 x5) hr5 r5
    |g _ _ _=>rw[hbd]at h2;simp only[pQ]at h2;rw[<-h2]at w;exact w.elim
    |d=>rw[hbd]at h2;simp only[uJ]at h2;rw[<-h2]at w;exact w.elim
   |false=>
    simp only[AV,if_false]at h2;rw[<-h2]at w;exact L2.oz (w ρ3 H3 σ2 x3' hr3 (er2.mono x3))
  |g _ _ _=>rw[hv]at h2;simp only[pQ]at h2;rw[<-h2]at w;exact w.elim
  |d=>rw[hv]at h2;simp only[uJ]at h2;rw[<-h2]at w;exact w.elim
def Zh(hx:X.h=λ_ _=>False)(hc:∀env s,L2.PT X ce (tT X.K X.d env s (evT Φ G env c s)))(hb:L2.PSs X body (uSs X.K X.d Φ G b)) :
 L2.PS X (.While ce body [] pos) (tSt X.K X.d env s (uw (λe s'=>evT Φ G e c s') (λe s'=>zj Φ G e b s') l5 env s)):=by
 have hpass:E5 (model X.f X.w) X.A X.a X.h:=by rw[hx];exact E5.never
 exact wx (L2.YV hpass (Pl hc) hb) λD σ H ⟨ρ,hr,er,w⟩=>gq (λenv s σ H Q h=>⟨env,s,h⟩) (λenv s D σ H h=>⟨env,s,h⟩) hr er w
def Wa:L2.PSs X [] (tSt X.K X.d env s (.e (.a env) s)):=eI L2.VG λD σ H ⟨ρ,hr,er,w⟩=>w ρ H σ Ext.refl hr er
def Zi{st:Stmt}{rest:List Stmt}{o:Out Fl}{f:Env->Sto->Out Fl}{tr:L2.TS}(h1:L2.PS X st (tSt X.K X.d env s o))(h2:L2.PSs X rest tr)(i2:∀env s D σ H,tSt X.K X.d env s (f env s) D σ H->tr D σ H) :
 L2.PSs X (st::rest) (tSt X.K X.d env s (o.bind λfl s1=>match fl with|.a e=>f e s1|fl=>.e fl s1)):=by
 refine eI (L2.YW h1 h2) λD σ H ⟨ρ,hr,er,w⟩=>⟨ρ,hr,er,?_⟩;cases o with
 |e fl s1=>
  simp only[zR]at w;cases fl with
  |a e=>exact λρ1 H1 σ1 x1 hr1 er1=>i2 e s1 D σ1 H1 ⟨ρ1,hr1,er1,w.mono x1 hr1⟩
  |c e=>exact w
  |d e=>exact w
  |b v=>exact w
 |g _ _ _=>exact w.elim
 |d=>exact w.elim
end
end M
end
section
namespace M
open PySem
def cS(c:Const)(k:Str->Bool):Bool:=el c.ctorIdx 5 λh=>Const.str.elim (motive:=λ_=>Bool) c h k
def eS(e:Expr):Bool:=Us e λc _ _=>cS c λx=>decide (x.length<=1000)
def eF(e:Expr)(k:Expr->Bool):Bool:=Od e λu c s _=>decide (c=-1)&&s.isNone&&k u
def eFs(e:Expr)(k:Expr->Expr->Bool):Bool:=eJn e λxs _=>lc xs λc1 xs=>lc xs λf1 xs=>lc xs λc2 xs=>lc xs λf2 xs=>l1 xs λc3=>(eS c1&&(eS c2&&eS c3))&&eF f1 λu=>eF f2 λv=>k u v
def Oc(sc:Scope)(N:List Str)(es:Exs)(a:Expr):Bool:=eFs a λu v=>ckL sc N es [u,v]
mutual
noncomputable def ckS(sc:Scope)(N:List Str):Sm->Stmt->Bool
 |.h e,st=>(P0 st λx _=>ck sc N e x&&uR x)
 |.d e,st=>(P6 st λq _=>o1 q λx=>ck sc N e x)
 |.v,_=>false
 |.g i e,st=>(bQ st λts v _=>l1 ts λt=>eName t λx _=>decide (N[i]?=some x)&&(decide (sc.names.lookup x=some .local)||decide (sc.names.lookup x=some .cell))&&ck sc N e v)
 |.p is e,st=>(bQ st λt0 v _=>l1 t0 λt=>av t λts _ _=>yZ sc N is ts&&ck sc N e v&&notTuple v)
 |.n is es,st=>(bQ st λt0 v _=>l1 t0 λt=>av t λts _ _=>av v λvs _ _=>yZ sc N is ts&&ckL sc N es vs&&xX vs&&decide (is.length<=8)&&decide is.Nodup&&decide (ts.length=vs.length)&&(UI sc ts vs||UQ sc ts))
 |.r i op e,st=>(Py st λt o v _=>eName t λx _=>decide (N[i]?=some x)&&(decide (sc.names.lookup x=some .local)||decide (sc.names.lookup x=some .cell))&&decide (o=op.op)&&ck sc N e v&&!(decide (op=.g)||decide (op=.h)||decide (op=.i)||decide (op=.f)))
 |.q o i e,st=>(bQ st λts v _=>l1 ts λt=>dY t λa b _=>ck sc N o a&&ck sc N i b&&ck sc N e v&&uR v)
 |.l o i e,st=>(bQ st λts v _=>l1 ts λt=>dY t λa b _=>ck sc N o a&&ck sc N i b&&ck sc N e v&&plain b)
 |.f c a b,st=>(sIf st λt x y _=>ckC sc N c t&&kF sc N a x&&kF sc N b y)
 |.j t it b,st=>(P5 st λtg iter body els _=>els.isEmpty&&(ckT sc N t tg&&ckI sc N it iter tg&&kF sc N b body&&plain iter))
 |.m c b,st=>(P7 st λt body els _=>els.isEmpty&&(ckC sc N c t&&kF sc N b body))
 |.u,_=>false
 |.w,_=>false
 |.s,_=>false
 |.k e,st=>(match e with
  |.h c _ es=>(sRs st λq b _=>b.isNone&&o1 q λq=>eCN q λx xs=>l1 xs λa=>decide (x=c)&&uq sc x&&!(x == ("__debug__":Str))&&((ckL sc N es [a]&&plain a)||Oc sc N es a))
  |.g _=>true
  |_=>false)
noncomputable def kF(sc:Scope)(N:List Str):Sms->List Stmt->Bool
 |.b,ss=>ss.isEmpty
 |.a c cs,ss=>(lc ss λt ts=>ckS sc N c t&&kF sc N cs ts)
end
structure OkF(T:Tbl)(n:Nat)(sc:Scope)(N:List Str)(X:L2.Cx):Prop where
 a:Ok T n sc N X
 b:X.a.scope=sc
 bk:X.a.blockKind=.function
section
variable {T:Tbl}{n:Nat}
def JS(T:Tbl)(n:Nat)(a:Sm):Prop:=∀(sc:Scope) (N:List Str) (X:L2.Cx) (st:Stmt),OkF T n sc N X->ckS sc N a st=true->∀env s,L2.PS X st (tSt X.K X.d env s (exS (zG T n) T.b env a s))
def JSs(T:Tbl)(n:Nat)(a:Sms):Prop:=∀(sc:Scope) (N:List Str) (X:L2.Cx) (st:List Stmt),OkF T n sc N X->kF sc N a st=true->∀env s,L2.PSs X st (tSt X.K X.d env s (zj (zG T n) T.b env a s))
def jV(h:∀env s,L2.PSs X st (tSt X.K X.d env s (zj Φ G env b s))):L2.PSs X st (uSs X.K X.d Φ G b):=λpins s σ H D I ⟨env,t,q⟩=>h env t pins s σ H D I q
def WO:JS T n (.h e):=by intro sc N X st o h env s;replace h:=Yy h;obtain⟨x1,p1,rfl,h⟩:=h;simp only[nx]at h;exact WW h.2 (jE T n e _ _ _ _ o.a h.1 env s)
def Tc:JS T n (.d e):=by intro sc N X st o h env s;replace h:=Y0 h;obtain⟨q1,p1,rfl,h⟩:=h;replace h:=Zz h;obtain⟨x1,rfl,h⟩:=h;exact Tt (jE T n e _ _ _ _ o.a h env s)
def oX:∃b,Ea (.ListComp elt gens csc cpos) (some (.Name y py)) l env=pure b:=⟨_,rfl⟩
noncomputable def WE:Ex->Bool
 |.r ..|.y ..=>true
 |_=>false
def Qx(h:ck sc N a e=true)(ha:WE a=false):uR e=true:=by
 have no:∀{e:Expr},ck sc N a e=true->e.ctorIdx=8\/e.ctorIdx=9\/e.ctorIdx=10->False:=λ{e} h hc=>by
  have key:(∃x g c p,e=.ListComp x g c p)\/(∃x g c p,e=.SetComp x g c p)\/∃k x g c p,e=.DictComp k x g c p:=by
   rcases hc with hc|hc|hc
   . exact .inl (E9 (motive_1:=λe=>∃x g c p,e=Expr.ListComp x g c p) e hc λx g c p=>⟨x,g,c,p,rfl⟩)
   . exact .inr (.inl (Expr.SetComp.elim (motive_1:=λe=>∃x g c p,e=Expr.SetComp x g c p) e hc λx g c p=>⟨x,g,c,p,rfl⟩))
   . exact .inr (.inr (Expr.DictComp.elim (motive_1:=λe=>∃k x g c p,e=Expr.DictComp k x g c p) e hc λk x g c p=>⟨k,x,g,c,p,rfl⟩))
  rcases key with⟨x,g,c,p,rfl⟩|⟨x,g,c,p,rfl⟩|⟨k,x,g,c,p,rfl⟩ <;>
  . cases a with
    |r _ _ _ _ _ _ _=>cases ha
    |y _ _ _ _ _ _ _ _ _ _=>cases ha
    |h f v es=>
     have h:(if v<100 then _ else false)=true:=h
     split at h
     . cases h
     . cases h
    |_=>cases h
 cases e with
 |ListComp _ _ _ _=>exact(no h (.inl rfl)).elim
 |SetComp _ _ _ _=>exact(no h (.inr (.inl rfl))).elim
 |DictComp _ _ _ _ _=>exact(no h (.inr (.inr rfl))).elim
 |_=>rfl
def TY:JS T n (.g i e):=by
 intro sc N X st o h env s;replace h:=tE h;obtain⟨ts1,v,pos,rfl,h⟩:=h;replace h:=x9 h;obtain⟨t1,rfl,h⟩:=h;replace h:=vN h;obtain⟨x,px,rfl,h⟩:=h;simp only[nx,decide_eq_true_eq,AS]at h;obtain⟨⟨h1,h2⟩,h3⟩:=h;obtain⟨l1,l2⟩:=o.a.a.c x h2;have hN:X.N.Nodup:=by rw[o.a.a.a];exact o.a.a.d
 have hi:X.N[i]?=some x:=by rw[o.a.a.a];exact h1
 by_cases hn:uR v=true
 . exact iU (L2.gD hN hi l1 (jE T n e _ _ _ _ o.a h3 env s) (oY hn) l2) λσ H Q q=>q
 . -- a comprehension
   cases e with
   |r m N' fr elt t it ifs=>
    replace h3:=fW h3;obtain⟨x',tg,iter,fs,csc,cpos,rfl,h3⟩:=h3;simp only[nx,decide_eq_true_eq]at h3;obtain⟨⟨⟨⟨⟨⟨c1,c2⟩,c3⟩,c4⟩,c5⟩,c6⟩,c7⟩:=h3;have S:=fI o.a.a c1;have oc:=o.a.comp S c2 c1;obtain⟨g,pg,tg'⟩:∃g,(∀C s0 H0 ex,L2.PG (X.comp N' csc C s0 H0 ex) tg g)/\rq X.K X.d t g:=by
     cases t with
     |a i=>
      cases tg with
      |Name y p=>
       simp only[ckT,nx,AS,decide_eq_true_eq]at c3;exact⟨_,λC s0 H0 ex=>mI (oc C s0 H0 ex).a c3.1 c3.2,rW⟩
      |_=>cases c3
     |b is=>
      cases tg with
      |Tuple es k p=>
       simp only[ckT,nx,decide_eq_true_eq]at c3;refine⟨_,λC s0 H0 ex=>?_,vZ (is:=is)⟩;obtain⟨a,b,c⟩:=wL (oc C s0 H0 ex).a c3.1;exact L2.sW (X:=X.comp N' csc C s0 H0 ex) o.a.c a b c
      |_=>cases c3
    have hpi:L2.PI X tg iter (uI X.K X.d (zG T n) T.b it):=hX λenv s=>jI T n it _ _ _ _ _ o.a c4 env s;have hts:∀C s0 H0 ex,L2.PTs (X.comp N' csc C s0 H0 ex) fs (uTs X.K X.d (zG T n) T.b ifs):=λC s0 H0 ex=>(jCs T n ifs _ _ _ _ (oc C s0 H0 ex) c5).2.2;have hel:∀C s0 H0 ex,L2.PE (X.comp N' csc C s0 H0 ex) x' (uE X.K X.d (zG T n) T.b elt):=λC s0 H0 ex=>W6 (X:=X.comp N' csc C s0 H0 ex) λenv s=>jE T n elt _ _ _ _ (oc C s0 H0 ex) c6 env s;have rule:L2.PS X (.Assign [.Name x px] (.ListComp x' [⟨tg,iter,fs,0⟩] csc cpos) pos) (L2.nJ (L2.tD fr (uI X.K X.d (zG T n) T.b it) g (uTs X.K X.d (zG T n) T.b ifs) λacc=>L2.sG acc (uE X.K X.d (zG T n) T.b elt)) (L2.uk i)):=by
     obtain⟨b,hb⟩:=oX (elt:=x') (gens:=[⟨tg,iter,fs,0⟩]) (csc:=csc) (cpos:=cpos) (y:=x) (py:=px) (l:=pos.line) (env:=X.a);cases b with
     |true=>exact L2.VC o.a.c S hpi pg hts hel hN hi l1 hb l2 (yt c7)
     |false=>exact L2.gD hN hi l1 (L2.eA o.a.c S hpi pg hts hel (yt c7)) hb l2
    refine iU (o:=evE (zG T n) T.b env (.r m N' fr elt t it ifs) s) rule λσ H Q hq=>tW (env:=env) (s:=s) (chk:=false) (m:=m) (body:=sH (zG T n) T.b elt ifs) tg' vi (λacc ρ0 H0 hn=>oj hn) ?_ λ_ r s1 p s2 hl=>?_
    . simp only[AV,false_implies,if_true];exact hq
    . have:=qV hl
      simpa using this
   |y m N' fr elt t it ifs t2 it2 ifs2=>
    replace h3:=fX h3;obtain⟨x',tg,iter,fs,tg2,iter2,fs2,csc,cpos,rfl,h3⟩:=h3;simp only[nx,decide_eq_true_eq]at h3;obtain⟨⟨⟨⟨⟨⟨⟨⟨⟨⟨c1,c2⟩,c3⟩,c4⟩,c5⟩,c6⟩,c7⟩,c8⟩,c9⟩,c10⟩,c11⟩:=h3;have S:=fI o.a.a c1;have oc:=o.a.comp S c2 c1;have tgt:∀(t:Tgt) (tg:Expr),ckT csc N' t tg=true->∃g,(∀C s0 H0 ex,L2.PG (X.comp N' csc C s0 H0 ex) tg g)/\rq X.K X.d t g:=by
     intro t tg c3;cases t with
     |a i=>
      cases tg with
      |Name y p=>
       simp only[ckT,nx,AS,decide_eq_true_eq]at c3;exact⟨_,λC s0 H0 ex=>mI (oc C s0 H0 ex).a c3.1 c3.2,rW⟩
      |_=>cases c3
     |b is=>
      cases tg with
      |Tuple es k p=>
       simp only[ckT,nx,decide_eq_true_eq]at c3;refine⟨_,λC s0 H0 ex=>?_,vZ (is:=is)⟩;obtain⟨a,b,c⟩:=wL (oc C s0 H0 ex).a c3.1;exact L2.sW (X:=X.comp N' csc C s0 H0 ex) o.a.c a b c
      |_=>cases c3
    obtain⟨g,pg,tg'⟩:=tgt t tg c3;obtain⟨g2,pg2,tg2'⟩:=tgt t2 tg2 c6;have hpi:L2.PI X tg iter (uI X.K X.d (zG T n) T.b it):=hX λenv s=>jI T n it _ _ _ _ _ o.a c4 env s;have hts:∀C s0 H0 ex,L2.PTs (X.comp N' csc C s0 H0 ex) fs (uTs X.K X.d (zG T n) T.b ifs):=λC s0 H0 ex=>(jCs T n ifs _ _ _ _ (oc C s0 H0 ex) c5).2.2;have hpi2:∀C s0 H0 ex,L2.PI (X.comp N' csc C s0 H0 ex) tg2 iter2 (uI X.K X.d (zG T n) T.b it2):=λC s0 H0 ex=>hX (X:=X.comp N' csc C s0 H0 ex) λenv s=>jI T n it2 _ _ _ _ _ (oc C s0 H0 ex) c7 env s;have hts2:∀C s0 H0 ex,L2.PTs (X.comp N' csc C s0 H0 ex) fs2 (uTs X.K X.d (zG T n) T.b ifs2):=λC s0 H0 ex=>(jCs T n ifs2 _ _ _ _ (oc C s0 H0 ex) c8).2.2;have hel:∀C s0 H0 ex,L2.PE (X.comp N' csc C s0 H0 ex) x' (uE X.K X.d (zG T n) T.b elt):=λC s0 H0 ex=>W6 (X:=X.comp N' csc C s0 H0 ex) λenv s=>jE T n elt _ _ _ _ (oc C s0 H0 ex) c9 env s;have rule:L2.PS X (.Assign [.Name x px] (.ListComp x' [⟨tg,iter,fs,0⟩,⟨tg2,iter2,fs2,0⟩] csc cpos) pos) (L2.nJ (L2.tD fr (uI X.K X.d (zG T n) T.b it) g (uTs X.K X.d (zG T n) T.b ifs) λacc=>L2.oZ (uI X.K X.d (zG T n) T.b it2) g2 (uTs X.K X.d (zG T n) T.b ifs2) (L2.sG acc (uE X.K X.d (zG T n) T.b elt))) (L2.uk i)):=by
     obtain⟨b,hb⟩:=oX (elt:=x') (gens:=[⟨tg,iter,fs,0⟩,⟨tg2,iter2,fs2,0⟩]) (csc:=csc) (cpos:=cpos) (y:=x) (py:=px) (l:=pos.line) (env:=X.a);cases b with
     |true=>exact L2.YU o.a.c S hpi pg hts hpi2 pg2 hts2 hel hN hi l1 hb l2 (yt c10) (λenv=>yt c11)
     |false=>exact L2.gD hN hi l1 (L2.jK o.a.c S hpi pg hts hpi2 pg2 hts2 hel (yt c10) (λenv=>yt c11)) hb l2
    refine iU (o:=evE (zG T n) T.b env (.y m N' fr elt t it ifs t2 it2 ifs2) s) rule λσ H Q hq=>tW (env:=env) (s:=s) (chk:=true) (m:=m) (body:=qU (zG T n) T.b elt ifs t2 it2 ifs2) tg' rX (λacc ρ0 H0 hn=>mU hn tg2') ?_ λz=>by cases z
    simp only[true_implies];exact hq
   |_=>exact absurd (Qx h3 rfl) hn
def WN:JS T n (.p is e):=by intro sc N X st o h env s;replace h:=tE h;obtain⟨ts1,v,pos,rfl,h⟩:=h;replace h:=x9 h;obtain⟨t1,rfl,h⟩:=h;replace h:=rD h;obtain⟨ts,k,p,rfl,h⟩:=h;simp only[nx]at h;obtain⟨⟨h1,h2⟩,h3⟩:=h;obtain⟨a,b,c⟩:=wL o.a.a h1;exact ft (t:=.b is) vZ (L2.gB (jE T n e _ _ _ _ o.a h2 env s) (L2.sW o.a.c a b c) t7 (gY h3)) λσ H Q q=>q
def Tb:JS T n (.n is es):=by
 intro sc N X st o h env s;replace h:=tE h;obtain⟨ts1,v,pos,rfl,h⟩:=h;replace h:=x9 h;obtain⟨t1,rfl,h⟩:=h;replace h:=rD h;obtain⟨ts,k,p,rfl,h⟩:=h;replace h:=rD h;obtain⟨vs,k2,p2,rfl,h⟩:=h;simp only[nx,decide_eq_true_eq,AS]at h;obtain⟨⟨⟨⟨⟨⟨h1,h2⟩,h3⟩,h4⟩,h5⟩,h6⟩,h7⟩:=h;have hes:=(jL T n es _ _ _ _ o.a h2).1 h3 env s;have hN:X.N.Nodup:=by rw[o.a.a.a];exact o.a.a.d
 have kind:∀x,X.a.kindOf x=sc.names.lookup x:=λx=>by show X.a.scope.names.lookup x=_;rw[o.b]
 rcases h7 with h7|h7
 . unfold UI at h7
   split at h7
   . rename_i x px y py
     simp only[nx,decide_eq_true_eq,BO]at h7;obtain⟨⟨⟨⟨⟨q1,q2⟩,q3⟩,q4⟩,q5⟩,q6⟩:=h7
     match is,h1,h5 with
     |[i,j],h1,h5=>
      simp only[yZ,nx,decide_eq_true_eq,AS]at h1;obtain⟨⟨i1,i2⟩,⟨j1,j2⟩,_⟩:=h1
      match vs,h6 with
      |[a,b],_=>
       have hij:i≠j:=by rw[Cf]at h5;exact λz=>h5.1 (by rw[z];exact Ao.mpr rfl)
       exact WX (L2.RM o.a.c hN (by rw[o.a.a.a];exact i1) (by rw[o.a.a.a];exact j1) hij (by rw[o.b];exact q1) (by rw[o.b];exact q2) hes
        (ju o.bk (by rw[kind];exact q1) (by rw[kind];exact q2) q3 q4 h3 q5 q6) t7) λσ H Q q=>q
     |[],h1,_=>exact absurd h1 (by simp[yZ])
     |[_],h1,_=>exact absurd h1 (by simp[yZ])
     |_::_::_::_,h1,_=>exact absurd h1 (by simp[yZ])
   . rename_i x px y py z pz
     simp only[nx,decide_eq_true_eq,BO]at h7;obtain⟨⟨⟨⟨⟨⟨⟨⟨⟨q1,q2⟩,q3⟩,q4⟩,q5⟩,q6⟩,q7⟩,q8⟩,q9⟩,q10⟩:=h7
     match is,h1,h5 with
     |[i,j,l],h1,h5=>
      simp only[yZ,nx,decide_eq_true_eq,AS]at h1;obtain⟨⟨i1,i2⟩,⟨j1,j2⟩,⟨l1,l2⟩,_⟩:=h1
      match vs,h6 with
      |[a,b,c],_=>
       simp only[Cf,Ah,Bk,or_false,not_or]at h5;exact WY (L2.VF o.a.c hN (by rw[o.a.a.a];exact i1) (by rw[o.a.a.a];exact j1) (by rw[o.a.a.a];exact l1) h5.1.1 h5.1.2 h5.2.1 (by rw[o.b];exact q1) (by rw[o.b];exact q2) (by rw[o.b];exact q3) hes
        (nI o.bk (by rw[kind];exact q1) (by rw[kind];exact q2) (by rw[kind];exact q3) q4 q5 q6 q7 q8 h3 q9 q10) t7) λσ H Q q=>q
     |[],h1,_=>exact absurd h1 (by simp[yZ])
     |[_],h1,_=>exact absurd h1 (by simp[yZ])
     |[_,_],h1,_=>exact absurd h1 (by simp[yZ])
     |_::_::_::_::_,h1,_=>exact absurd h1 (by simp[yZ])
   . cases h7
 . have hun:(∃x p,EB x p∈ts/\X.a.kindOf x≠some .local)\/3<ts.length:=by
    unfold UQ at h7;simp only[AS,decide_eq_true_eq,Bx]at h7;rcases h7 with⟨e,hm,he⟩|h7
    . cases e with
      |Name x px=>
       simp only[decide_eq_true_eq]at he;exact .inl ⟨x,px,hm,by rw[kind];exact he⟩
      |_=>cases he
    . exact .inr h7
   obtain⟨a,b,c⟩:=wL o.a.a h1;have rule:=ft (t:=.b is) (env:=env) (s:=s) vZ (L2.gB (pos:=pos) (Ze (k:=k2) (pos:=p2) hes) (L2.sW (k:=k) (pos:=p) o.a.c a b c) t7 (ba hun)) λσ H Q q=>q;have e:((xW (zG T n) T.b env es s).bind λvs s1=>if vs.length=is.length then (.e:Fl->Sto->Out Fl) (.a ((is.zip vs).foldl (λe p=>e.set p.1 (some p.2)) env)) s1 else .d)=(((xW (zG T n) T.b env es s).bind λvs s1=>if vs.length<=zX then (.e:Val->Sto->Out Val) (.f vs) s1 else .d).bind λv s1=>match xO (.b is) v env with|some env'=>(.e:Fl->Sto->Out Fl) (.a env') s1|dS=>.d):=by
    cases xW (zG T n) T.b env es s with
    |e ws s1=>
     simp only[zR];by_cases hl:ws.length=is.length
     . have hz:ws.length<=zX:=by rw[hl];exact AB h4 (by decide)
       simp only[if_pos hl,if_pos hz,zR,xO]
     . rw[if_neg hl]
       by_cases hz:ws.length<=zX
       . simp only[if_neg hl,if_pos hz,zR,xO]
       . simp only[if_neg hz,uJ]
    |g _ _ _=>rfl
    |d=>rfl
   show L2.PS X _ (tSt X.K X.d env s ((xW (zG T n) T.b env es s).bind λvs s1=>if vs.length=is.length then .e (.a ((is.zip vs).foldl (λe p=>e.set p.1 (some p.2)) env)) s1 else .d))
   rw[e];exact rule
def TZ:JS T n (.r i op e):=by intro sc N X st o h env s;replace h:=Yx h;obtain⟨t1,o',v,pos,rfl,h⟩:=h;replace h:=vN h;obtain⟨x,px,rfl,h⟩:=h;simp only[nx,decide_eq_true_eq,AS,BO,DR,decide_eq_false_iff_not]at h;obtain⟨⟨⟨⟨h1,h2⟩,rfl⟩,h3⟩,h4⟩:=h;obtain⟨l1,l2⟩:=o.a.a.c x h2;exact Tr (f:=evE (zG T n) T.b env e) (by rintro (z|z|z|z);exact h4.1.1.1 z;exact h4.1.1.2 z;exact h4.1.2 z;exact h4.2 z) (by rw[o.a.a.a];exact o.a.a.d) (by rw[o.a.a.a];exact h1) l1 l2 λs=>jE T n e _ _ _ _ o.a h3 env s
def ZV:JS T n (.l a i e):=by intro sc N X st o h env s;replace h:=tE h;obtain⟨ts1,v,pos,rfl,h⟩:=h;replace h:=x9 h;obtain⟨t1,rfl,h⟩:=h;replace h:=ui h;obtain⟨a1,b1,p1,rfl,h⟩:=h;simp only[nx]at h;exact Zg h.2 (jE T n e _ _ _ _ o.a h.1.2 env s) (λs1=>jE T n a _ _ _ _ o.a h.1.1.1 env s1) λs1=>jE T n i _ _ _ _ o.a h.1.1.2 env s1
def Qg(ja:JSs T n a)(jb:JSs T n b):JS T n (.f c a b):=by intro sc N X st o h env s;replace h:=VV h;obtain⟨t1,x1,y1,p1,rfl,h⟩:=h;simp only[nx]at h;exact Qo (jC T n c _ _ _ _ o.a h.1.1 env s) (jV λenv s=>ja _ _ _ _ o h.1.2 env s) (jV λenv s=>jb _ _ _ _ o h.2 env s) (λs1 D σ H q=>⟨env,s1,q⟩) λs1 D σ H q=>⟨env,s1,q⟩
def Ta(jb:JSs T n b):JS T n (.j t it b):=by intro sc N X st o h env s;replace h:=Yz h;obtain⟨tg1,i1,b1,e1,p1,rfl,h⟩:=h;obtain⟨h0,hh⟩:=xt h;cases AN.mp h0;clear h;have h:=hh;simp only[nx]at h;obtain⟨g,pg,tg⟩:=Pe o.a.a o.a.c h.1.1.1;exact Ts o.a.xe o.a.c h.2 (λenv s=>jI T n it _ _ _ _ _ o.a h.1.1.2 env s) pg tg (jV λenv s=>jb _ _ _ _ o h.1.2 env s)
def ZW(jb:JSs T n b):JS T n (.m c b):=by intro sc N X st o h env s;replace h:=Y1 h;obtain⟨t1,b1,e1,p1,rfl,h⟩:=h;obtain⟨h0,hh⟩:=xt h;cases AN.mp h0;clear h;have h:=hh;simp only[nx]at h;exact Zh o.a.xe (λenv s=>jC T n c _ _ _ _ o.a h.1 env s) (jV λenv s=>jb _ _ _ _ o h.2 env s)
def WQ:JS T n (.q a i e):=by intro sc N X st o h env s;replace h:=tE h;obtain⟨ts1,v,pos,rfl,h⟩:=h;replace h:=x9 h;obtain⟨t1,rfl,h⟩:=h;replace h:=ui h;obtain⟨a1,b1,p1,rfl,h⟩:=h;simp only[nx]at h;exact WZ o.a.d h.2 (jE T n e _ _ _ _ o.a h.1.2 env s) (λs1=>jE T n a _ _ _ _ o.a h.1.1.1 env s1) λs1=>jE T n i _ _ _ _ o.a h.1.1.2 env s1
def ZU:JS T n (.k e):=λsc N X st o h env s=>zW (zJ rfl)
def WR:JSs T n .b:=by intro sc N X st o h env s;cases AN.mp h;exact Wa
def ZX(jc:JS T n c)(jcs:JSs T n cs):JSs T n (.a c cs):=by intro sc N X st o h env s;replace h:=uN h;obtain⟨t1,ts1,rfl,h⟩:=h;simp only[nx]at h;exact Zi (f:=λe s=>zj (zG T n) T.b e cs s) (jc _ _ _ _ o h.1 env s) (jV λenv s=>jcs _ _ _ _ o h.2 env s) λenv s D σ H q=>⟨env,s,q⟩
end
section
variable (T:Tbl)(n:Nat)
mutual
theorem jS:∀a:Sm,JS T n a
 |.h _=>WO
 |.d _=>Tc
 |.v=>λsc N X e o h=>by cases h
 |.g _ _=>TY
 |.p _ _=>WN
 |.n _ _=>Tb
 |.r _ _ _=>TZ
 |.l _ _ _=>ZV
 |.q _ _ _=>WQ
 |.f _ a b=>Qg (jSs a) (jSs b)
 |.j _ _ b=>Ta (jSs b)
 |.m _ b=>ZW (jSs b)
 |.u=>λsc N X e o h=>by cases h
 |.w=>λsc N X e o h=>by cases h
 |.s=>λsc N X e o h=>by cases h
 |.k _=>ZU
theorem jSs:∀a:Sms,JSs T n a
 |.b=>WR
 |.a c cs=>ZX (jS c) (jSs cs)
end
end
end M
end
section
namespace M
open PySem
mutual
noncomputable def mM(n:Nat):Val->Bool
 |.h i|.l i=>decide (i<n)
 |.f vs=>vo n vs
 |.k vs=>vo n vs
 |.g|.e _|.c _|.j _|.o|.m _|.p _|.r _|.q _=>true
noncomputable def vo(n:Nat):List Val->Bool
 |[]=>true
 |v::vs=>mM n v&&vo n vs
end
mutual
theorem rR{n:Nat}{v:Val}(h:v.noRef=true):mM n v=true:=by
 cases v with
 |h _=>cases h
 |l _=>cases h
 |f vs=>exact uB (vs:=vs) h
 |k vs=>exact uB (vs:=vs) h
 |_=>rfl
theorem uB{n:Nat}{vs:List Val}(h:zy vs=true):vo n vs=true:=by
 cases vs with
 |nil=>rfl
 |cons v vs=>
  rw[zy,nx]at h;rw[vo,rR h.1,uB h.2];rfl
end
section
variable {K:KF}{mg:Str->Option Value}
mutual
theorem RD.refs{ρ:Own}{H:L2.Hp}{v:Val}{x:L2.V}(q:RD K mg ρ H v x):mM ρ.o.length v=true:=by
 cases q with
 |m _ _ r=>exact RDs.refs r
 |D _ _ r=>exact RDs.refs r
 |C e _=>exact decide_eq_true (Ad.mp e).1
 |A e _=>exact decide_eq_true (Ad.mp e).1
 |_=>rfl
theorem RDs.refs{ρ:Own}{H:L2.Hp}{v:List Val}{x:List L2.V}(q:RDs K mg ρ H v x):vo ρ.o.length v=true:=by
 cases q with
 |d=>rfl
 |a r rs=>rw[vo,RD.refs r,RDs.refs rs];rfl
end
structure Cut(ρ ρ':Own):Prop where
 b:∃new,ρ'.o=ρ.o++new
 d:ρ'.h=ρ.h
theorem Cut.no(c:Cut ρ ρ')(n:ρ'.no a):ρ.no a:=by obtain⟨new,e⟩:=c.b;exact⟨λh=>n.1 (by rw[e];exact Bs _ h),by rw[<-c.d];exact n.2⟩
mutual
theorem RD.sA{ρ ρ':Own}{H:L2.Hp}(c:Cut ρ ρ'){v:Val}{x:L2.V}(q:RD K mg ρ' H v x)(h:mM ρ.o.length v=true):RD K mg ρ H v x:=by
 have at':∀{i:Nat} {a:Addr},ρ'.o[i]?=some a->decide (i<ρ.o.length)=true->ρ.o[i]?=some a:=λ{i a} e h=>by obtain⟨new,e'⟩:=c.b;rw[e',AJ (of_decide_eq_true h)]at e;exact e
 cases q with
 |s=>exact .s
 |j b=>exact .j b
 |l i=>exact .l i
 |E t=>exact .E t
 |m n e r=>exact .m (c.no n) e (RDs.sA c r h)
 |D n e r=>exact .D (c.no n) e (RDs.sA c r h)
 |B n e=>exact .B (c.no n) e
 |p g=>exact .p g
 |F g=>
  refine .F ?_;rcases g with⟨n,g⟩|g
  . exact .inl ⟨c.no n,g⟩
  . exact .inr g
 |C e k=>exact .C (at' e h) k
 |A e k=>exact .A (at' e h) k
 |G e=>exact .G e
 |I n=>exact .I n
theorem RDs.sA{ρ ρ':Own}{H:L2.Hp}(c:Cut ρ ρ'){v:List Val}{x:List L2.V}(q:RDs K mg ρ' H v x)(h:vo ρ.o.length v=true):RDs K mg ρ H v x:=by
 cases q with
 |d=>exact .d
 |a r rs=>
  rw[vo,nx]at h;exact .a (RD.sA c r h.1) (RDs.sA c rs h.2)
end
noncomputable def mz:Cel->List Val
 |.c vs=>vs
 |.e kvs=>kvs.map (·.2)
 |.d kvs=>kvs.map (·.2)
 |.f _=>[]
def CR.vals(h:CR K mg ρ H a c):∃xs,RDs K mg ρ H (mz c) xs:=by
 cases c with
 |c vs=>obtain⟨xs,_,r⟩:=h;exact⟨_,r⟩
 |e kvs=>obtain⟨xs,_,_,r⟩:=h;exact⟨_,r⟩
 |d kvs=>obtain⟨xs,_,_,r⟩:=h;exact⟨_,r⟩
 |f x=>exact⟨[],.d⟩
def dP(h:c.noRef=true):zy (mz c)=true:=by cases c<;>first|exact h|rfl
theorem CR.sA(c:Cut ρ ρ')(h:CR K mg ρ' H a o)(hb:vo ρ.o.length (mz o)=true):CR K mg ρ H a o:=by
 cases o with
 |c vs=>obtain⟨xs,e,r⟩:=h;exact⟨xs,e,RDs.sA c r hb⟩
 |e kvs=>obtain⟨xs,e,k,r⟩:=h;exact⟨xs,e,k,RDs.sA c r hb⟩
 |d kvs=>obtain⟨xs,e,k,r⟩:=h;exact⟨xs,e,k,RDs.sA c r hb⟩
 |f y=>
  obtain⟨ps,e1,k,r,g⟩:=h;refine⟨ps,e1,k,λpos cv hc=>?_,g⟩;obtain⟨a,o,vs,t,q1,q2,q3,q4⟩:=r pos cv hc;exact⟨a,o,vs,t,q1,c.no q2,q3,q4⟩
theorem lQ{α β:Type}:∀{a b:List (α × β)},a.map (·.1)=b.map (·.1)->a.map (·.2)=b.map (·.2)->a=b
 |[],[],_,_=>rfl
 |[],_::_,h,_=>by cases h
 |_::_,[],h,_=>by cases h
 |x::xs,y::ys,h1,h2=>by
  rw[Aw,Aw]at h1 h2;injection h1 with a1 a2
  injection h2 with b1 b2
  rw[lQ a2 b2,EX a1 b1]
theorem jB:∀{s s'} {i} {o'},vG s s'=true->i<s.length->s'[i]?=some o'->o'.noRef=true\/s[i]?=some o'
 |[],_,_,_,_,h,_=>by cases h
 |o::r,[],_,_,h,_,_=>by cases h
 |o::r,o'::r',0,q,h,_,e=>by
  rw[vG,nx,AS]at h;simp only[List.getElem?_cons_zero,Fx]at e;subst e;rcases h.1 with z|z
  . exact .inl z
  . right
    cases o' with
    |c a=>cases o with
     |c b=>simp only[Cel.beq]at z;rw[sy z];rfl
     |_=>cases z
    |e a=>cases o with
     |e b=>simp only[Cel.beq,nx,decide_eq_true_eq]at z;rw[lQ z.1 (sy z.2)];rfl
     |_=>cases z
    |d a=>cases o with
     |d b=>simp only[Cel.beq,nx,decide_eq_true_eq]at z;rw[lQ z.1 (sy z.2)];rfl
     |_=>cases z
    |f a=>cases o with
     |f b=>simp only[Cel.beq,decide_eq_true_eq]at z;rw[z];rfl
     |_=>cases z
 |o::r,o'::r',i+1,q,h,hi,e=>by
  rw[vG,nx]at h;have:=jB (i:=i) h.2 (by simpa using hi) (by simpa using e)
  simpa using this
noncomputable def RI:Val->Bool
 |.h _|.l _|.f _=>false
 |.g|.e _|.c _|.j _|.o|.m _|.p _|.r _|.q _|.k _=>true
def X5{n:Nat}{s:Sto}{k i:Nat}:wz n s k (.h i)=if i<n then some (Val.h i) else match s[i]? with
 |some (.c vs)=>if zy vs then some (.k vs) else dS
 |_=>dS:=by cases k<;>rfl
def ZH:wz n s k (.l i)=if i<n then some (Val.l i) else dS:=by cases k<;>rfl
def ZI(h:RI v=true):wz n s k v=if v.noRef then some v else dS:=by
 cases v with
 |h _=>cases h
 |l _=>cases h
 |f _=>cases h
 |_=>cases k<;>rfl
def X3:tZ n s k []=some []:=by cases k<;>rfl
mutual
theorem ph{ρ ρ':Own}{H:L2.Hp}{s:Sto}(c:Cut ρ ρ')(hr:HR K mg ρ' s H){k:Nat}{v v':Val}{x:L2.V}(r:RD K mg ρ' H v x)(h:wz ρ.o.length s k v=some v'):RD K mg ρ H v' x:=by
 have sv:∀{w:Val},RD K mg ρ' H w x->(if w.noRef then some w else dS)=some v'->RD K mg ρ H v' x:=λ{w} r h=>by
  split at h
  . rename_i hn;cases h;exact RD.sA c r (rR hn)
  . cases h
 cases v with
 |h i=>
  rw[X5]at h;cases r with
  |C e hkd=>
   by_cases hi:i<ρ.o.length
   . rw[if_pos hi]at h
     cases h;exact RD.sA c (.C e hkd) (by rw[mM];exact decide_eq_true hi)
   . rw[if_neg hi]at h
     split at h
     . rename_i vs hs
       split at h
       . rename_i hn
         cases h;obtain⟨a,xs,e1,e2,q⟩:=hr.obj i vs hs;rw[e]at e1;cases e1;obtain⟨new,e'⟩:=c.b;have hm:=AF e;refine .D ⟨λhm'=>?_,λhh=>?_⟩ e2 (RDs.sA c q (uB hn))
         . obtain⟨j,hj,ej⟩:=BZ hm'
           have ej':ρ'.o[j]?=ρ'.o[i]?:=by rw[e,e',AJ hj,pn hj,ej]
           have:=Zu hr.l e (ej'.trans e);exact hi (this▸hj)
         . exact(hr.d _ (by rw[c.d];exact hh)).2 hm
       . cases h
     . cases h
 |l i=>
  rw[ZH]at h;split at h
  . rename_i hi
    cases h;exact RD.sA c r (by rw[mM];exact decide_eq_true hi)
  . cases h
 |f vs=>
  cases k with
  |zero=>exact sv r h
  |succ k=>
   rw[wz,Au]at h;obtain⟨ws,h1,rfl⟩:=h;cases r with
   |m n e q=>exact .m (c.no n) e (pe c hr q h1)
 |_=>exact sv r ((ZI rfl).symm.trans h)
theorem pe{ρ ρ':Own}{H:L2.Hp}{s:Sto}(c:Cut ρ ρ')(hr:HR K mg ρ' s H){k:Nat}{v v':List Val}{x:List L2.V}(r:RDs K mg ρ' H v x)(h:tZ ρ.o.length s k v=some v'):RDs K mg ρ H v' x:=by
 cases r with
 |d=>rw[X3]at h;cases h;exact .d
 |@a v _ vs _ r1 r2=>
  cases k with
  |zero=>cases h
  |succ k=>
   rw[tZ]at h;split at h
   . rename_i a b ha hb
     cases h;refine .a ?_ (pe c hr r2 hb);by_cases hn:v.noRef=true
     . rw[if_pos hn]at ha;cases ha;exact RD.sA c r1 (rR hn)
     . rw[if_neg hn]at ha;exact ph c hr r1 ha
   . cases h
end
def kf(h0:HR K mg ρ s H)(w:xr K mg (RD K mg) ρ H (leave F s v s1) Q)(X:Ext ρ H ρ' H')(hr:HR K mg ρ' s1 H')(r:RD K mg ρ' H' v x):Q x H':=by
 unfold leave at w;by_cases hk:F.c=true
 . rw[if_pos hk]at w;exact w ρ' x H' X hr r
 . rw[if_neg hk]at w
   by_cases ho:vG s s1=true
   . rw[if_pos ho]at w
     have c:Cut ρ ρ':=⟨by obtain⟨new,e,_⟩:=X.d;exact⟨new,e⟩,X.f⟩
     cases hf:freeze s.length s1 v with
     |none=>rw[hf]at w;exact w.elim
     |some v'=>
      rw[hf]at w;have hlen:s.length<=s1.length:=by obtain⟨new,e,_⟩:=X.d;rw[<-h0.f,<-hr.f,e,Ak];omega
      refine w ρ x H' ⟨⟨[],by simp,λa ha=>by cases ha⟩,rfl,X.c,X.g⟩ ⟨?_,h0.l,λi vs e=>?_,λa ha=>?_⟩ ?_
      . rw[Dj,h0.f];omega
      . have hi:i<s.length:=by have:=(Ad.mp e).1;rw[Dj]at this;omega
        rw[FV hi]at e;obtain⟨a,e1,q⟩:=hr.g i vs e;have e3:ρ.o[i]?=some a:=by
         obtain⟨new,e',_⟩:=X.d;rw[e',AJ (by rw[h0.f];exact hi)]at e1
         exact e1
        refine⟨a,e3,q.sA c ?_⟩;rcases jB ho hi e with z|z
        . exact uB (dP z)
        . obtain⟨b,_,q'⟩:=h0.g i vs z
          obtain⟨xs,q2⟩:=q'.vals;exact RDs.refs q2
      . obtain⟨z,n⟩:=hr.d a (by rw[X.f];exact ha)
        exact⟨z,(h0.d a ha).2⟩
      . unfold freeze at hf
        by_cases hn:v.noRef=true
        . rw[if_pos hn]at hf;cases hf;exact RD.sA c r (rR hn)
        . rw[if_neg hn,<-h0.f]at hf
          exact ph c hr r hf
   . rw[if_neg ho]at w;exact w.elim
def Y6(r:RDs K mg ρ H args vs):ER K mg ρ H (zc N args) (L2.start N vs):=by
 refine⟨by unfold zc L2.start;rw[Ak,Ak,zI,zI,EA,EA,r.length],λi v e=>?_⟩
 unfold zc at e;unfold L2.start;by_cases hi:i<args.length
 . rw[AJ (by simpa using hi),AA]at e
   rw[AJ (by rw[zI,<-r.length];exact hi),AA]
   cases ha:args[i]? with
   |none=>rw[ha]at e;cases e
   |some a=>
    rw[ha]at e;have:a=v:=Am (Am e);subst this;obtain⟨x,h1,h2⟩:=r.get ha;exact⟨x,by rw[h1];rfl,h2⟩
 . rw[AR (by simpa using hi),Gg]at e
   split at e<;>cases e
end
noncomputable def argNames(a:Arguments):Option (List Str):=
 if a.posonlyargs.isEmpty&&a.vararg.isNone&&a.kwonlyargs.isEmpty&&a.kw_defaults.isEmpty&&a.kwarg.isNone&&a.defaults.isEmpty then some (a.args.map (·.arg)) else none
def aM(st:Stmt)(F:Fn):Bool:=
 match st with
 |.FunctionDef _ args body _ _ _ sc _ _ _=>decide (argNames args=some F.a)&&decide (sc.kind=.function)&&!sc.isCoroutine&&!sc.isGenerator&&decide F.N.Nodup&&decide (F.N.take F.a.length=F.a) &&
  F.a.all (λx=>decide (sc.names.lookup x=some .local)||decide (sc.names.lookup x=some .cell))&&sc.names.all (λy=>decide (y.2≠.free))&&kF sc F.N F.b body
 |_=>false
def iZ:∀{ps:List Str} {us:List Value},ps.Nodup->us.length=ps.length->ps.filterMap (λn=>((ps.zip us).lookup n).map (n,·))=ps.zip us:=by
 have key:∀(ps qs:List Str) (us ws:List Value),(qs++ps).Nodup->us.length=ps.length->ws.length=qs.length->ps.filterMap (λn=>(((qs++ps).zip (ws++us)).lookup n).map (n,·))=ps.zip us:=by
  intro ps;induction ps with
  |nil=>intro qs us ws _ _ _;rfl
  |cons p ps ih=>
   intro qs us ws nd h1 h2;cases us with
   |nil=>cases h1
   |cons u us=>
    have hl:((qs++p::ps).zip (ws++u::us)).lookup p=some u:=by
     rw[List.zip_append h2.symm];have:∀(qs:List Str) (ws:List Value),p ∉ qs->((qs.zip ws)++(p::ps).zip (u::us)).lookup p=some u:=by
      intro qs;induction qs with
      |nil=>intro ws _;simp
      |cons q qs ih2=>
       intro ws hn;cases ws with
       |nil=>simp
       |cons w ws=>
        have hpq:(p == q)=false:=by
         have:p≠q:=λz=>hn (by rw[z];exact AK)
         simpa using this
        rw[List.zip_cons_cons,FZ,Av,hpq];exact ih2 ws λz=>hn (Az _ z)
     refine this qs ws λz=>?_;rw[FJ]at nd;exact nd.2.2 p z p AK rfl
    rw[A2,hl];have:=ih (qs++[p]) us (ws++[u]) (by simpa using nd) (by simpa using h1) (by simp[h2])
    rw[Bc,Bc]at this;exact congrArg ((p,u)::·) this
 intro ps us nd h;simpa using key ps [] us [] (by simpa using nd) h rfl
theorem lookup_some:∀{ps:List Str} {us:List Value},us.length=ps.length->∀n∈ps,((ps.zip us).lookup n).isNone=false
 |[],_,_,n,h=>by cases h
 |p::ps,[],h,_,_=>by cases h
 |p::ps,u::us,h,n,hn=>by
  rw[List.zip_cons_cons,Av];cases hb:(n == p) with
  |true=>rfl
  |false=>
   have:n≠p:=by simpa using hb
   rcases Ah.mp hn with z|z
   . exact absurd z this
   . exact lookup_some (by simpa using h) n z
def l9(h:argNames a=some ps)(nd:ps.Nodup)us(hl:us.length=ps.length) :
 bindArgs (Ci x qual a body sc .none kV doc pm an cdv ct) ⟨us,[]⟩=pure (ps.zip us):=by
 unfold argNames at h;split at h
 . rename_i hc
   simp only[nx,AN,FQ]at hc;obtain⟨⟨⟨⟨⟨h1,h2⟩,h3⟩,h4⟩,h5⟩,h6⟩:=hc;cases h;obtain⟨po,ar,va,ko,kd,kw,df⟩:=a;simp only at h1 h2 h3 h4 h5 h6 hl nd ⊢;subst h1 h2 h3 h4 h5 h6;have hm:((ar.map (·.arg)).take ((ar.map (·.arg)).length-0)).filter (λn=>(((ar.map (·.arg)).zip us).lookup n).isNone)=[]:=by rw[BL];intro n hn;rw[lookup_some hl n (List.mem_of_mem_take hn)];decide
   unfold bindArgs;have hd:seqItems? B7=pure none:=rfl;have hg:¬(us.length > (ar.map (·.arg)).length/\True):=by rintro ⟨z,_⟩;omega
   simp only[Ci,FY,CQ,Ba,DF,Fb,hd,FW,List.toList_toArray,BE,List.drop_nil,DG,Option.isNone_none,Fw];rw[if_neg (by rw[zI]at hl;simp;omega)]
   have hm':(List.filter (λn=>(List.lookup n ((F8 (λx=>x.arg) ar).zip us)).isNone) (List.take (F8 (λx=>x.arg) ar).length (F8 (λx=>x.arg) ar)))=[]:=hm;rw[hm',if_neg (by decide),List.zip_nil_right,DF,Fb,if_neg (by decide),iZ nd hl]
 . cases h
def ly(K:KF)(x:Str)(st:Stmt):Prop:=∃f fd,BD K AW x=some (some (.ref f))/\L2.Fun K x x st f fd
def Ul(a:BD K AW x=some (some (.ref f)))
 (l:K.lookup f=some ⟨oc,od,.func (Ci x x (L2.vf st) (L2.wy st) (L2.yK st) .none kV doc pm an cdv ct),osl⟩) (c:CF K cdv x=true) (k:CG K (.ref f)=true):ly K x st:=
 ⟨f,_,a,L2.U0 l c k⟩
section
variable {P:Program}{w:World}{K:KF}{mg:Str->Option Value}{base:Heap}{T:Tbl}
structure Top(T:Tbl)(K:KF)(mg:Str->Option Value):Prop where
 a:∀f v F,T.c f v=some F->∃st fa fd,mg f=some (.ref fa)/\L2.Fun K f f st fa fd/\aM st F=true/\((∃b,T.e b=true)->("!":Str)∈F.N->f∈T.d)
 d:∀x v,T.b x=some v->∃u xv,mg x=some u/\L2.RelV xv u/\∀ρ H,RD K mg ρ H v xv
 c:∀x∈vy,mg x=none
 no:∀f v,100<=v->T.c f v=none
def sN(h:aM st F=true):argNames (L2.vf st)=some F.a/\L2.qz F.N F.a (L2.yK st)/\kF (L2.yK st) F.N F.b (L2.wy st)=true:=by
 unfold aM at h;split at h
 . simp only[nx,decide_eq_true_eq,BO,AH,AS]at h
   obtain⟨⟨⟨⟨⟨⟨⟨⟨h1,h2⟩,h3⟩,h4⟩,h5⟩,h6⟩,h7⟩,h8⟩,h9⟩:=h;exact⟨h1,⟨h2,h3,h4,h5,h6,h7,h8⟩,h9⟩
 . cases h
def SM(top:Top T K mg)(IH:∀j,j<=n->Lv T P w K mg base j){F:Fn}(p2:L2.qz F.N F.a (L2.yK st))
 (hm:mg f=some (.ref fa)) (hk:K.lookup fa=some ⟨oc,od,.func (Ci f f (L2.vf st) (L2.wy st) (L2.yK st) .none kV doc pm an cdv ct),osl⟩) (hcd:CF K cdv f=true) (htb:(∃b,T.e b=true)->("!":Str)∈F.N->f∈T.d)
       (hr:L2.wV n (A.deeper (PyProof.Rows.envOfC f (L2.yK st) s.heap.objs.size fa cdv))):OkF T n (L2.yK st) F.N (L2.dR CX P w K mg base F.N f (L2.yK st) fa cdv A outer s H E).nox:=by
 refine⟨⟨rfl,hr,⟨rfl,p2.d,λx hx=>hx,λx hx=>⟨hx,.inl rfl⟩,λx hx=>hx,λx hx=>hx⟩,λg v' G hg=>?_,top.d,top.c,rfl,top.no⟩,rfl,?_⟩
 . obtain⟨ga,gd,q1,q2,q3,q4⟩:=(IH n (Ac _)).ex g v' G hg
   exact⟨ga,gd,q1,q2,q3,q4⟩
 . show (if (L2.yK st).kind.isAnnotationScope then ScopeKind.function else (L2.yK st).kind)=.function
   rw[p2.b];rfl
def Vz(top:Top T K mg)(IH:∀j,j<=n->Lv T P w K mg base j)(h:T.c f v=some F)(hm:mg f=some (.ref fa))(e2:L2.Fun K f f st fa fd)(e3:aM st F=true)
 (htb:(∃b,T.e b=true)->("!":Str)∈F.N->f∈T.d):L2.pL P w K mg base L2.CX0 (n+1) fa fd F.a (spN T K mg (n+1) f v):=by
 obtain⟨p1,p2,p3⟩:=sN e3;have hcall:∀(vs:List Val) (s:Sto),zG T (n+1) f v vs s=run T (zG T n) F vs s:=λvs s=>by simp only[zG,h]
 obtain⟨oc,od,kV,doc,pm,an,cdv,ct,osl,rfl,lk,hcd⟩:=e2.a;refine L2.QN lk hcd p2 (λvs H Q E q=>?_) λA outer s H vs Q E hr q=>?_
 . obtain⟨ρ,t,as,_,r,z⟩:=q
   rw[hcall]at z;unfold run at z;split at z
   . rename_i hl;rw[<-r.length];exact hl
   . exact z.elim
 . obtain⟨ρ,t,as,h0,r,z⟩:=q
   rw[hcall]at z;unfold run at z;have hl:as.length=F.a.length:=by
    by_cases hl:as.length=F.a.length
    . exact hl
    . rw[if_neg hl]at z;exact z.elim
   rw[if_pos hl]at z;have okf:=SM (CX:=L2.CX0) (P:=P) (w:=w) (base:=base) (outer:=outer) (s:=s) (H:=H) (E:=E) top IH p2 hm lk hcd htb hr;refine⟨_,(jSs T n F.b (L2.yK st) F.N _ (L2.wy st) okf p3 (zc F.N as) t).nox,ρ,h0,Y6 r,?_⟩;show pP K mg ρ H (zj (zG T n) T.b (zc F.N as) F.b t) _;cases hx:zj (zG T n) T.b (zc F.N as) F.b t with
   |e fl s1=>
    rw[hx]at z;cases fl with
    |a e=>exact λρ1 H1 σ1 x1 hr1 er1=>kf h0 z x1 hr1 .s
    |b v'=>exact λρ1 H1 x x1 hr1 r1=>kf h0 z x1 hr1 r1
    |c e=>exact z.elim
    |d e=>exact z.elim
   |g _ _ _=>rw[hx]at z;exact z.elim
   |d=>rw[hx]at z;exact z.elim
def SE(top:Top T K mg)(hB:K.In base):∀n j,j<=n->Lv T P w K mg base j:=by
 have step:∀n,(∀j,j<n->Lv T P w K mg base j)->Lv T P w K mg base n:=λn IH=>⟨λf v F hf=>by
  obtain⟨st,fa,fd,q1,q2,q3,q4⟩:=top.a f v F hf;obtain⟨r1,r2,r3⟩:=sN q3;have nd:F.a.Nodup:=by rw[<-r2.a];exact r2.d.sublist (FC _ _)
  have hb:L2.Binds K fd F.a []:=q2.binds λkV doc pm an cdv ct us hl=>l9 r1 nd us hl;cases n with
  |zero=>
   refine⟨fa,fd,q1,q2.kp,hb,⟨λvs H Q E q=>?_,λA outer s H args us vs Q E _ _ _ _ q=>?_⟩⟩
   . obtain⟨ρ,t,as,_,_,z⟩:=q;exact z.elim
   . obtain⟨ρ,t,as,_,_,z⟩:=q;exact z.elim
  |succ n=>exact⟨fa,fd,q1,q2.kp,hb,Vz (P:=P) (w:=w) (base:=base) top (λj hj=>IH j ⋯) hf q1 q2 q3 q4⟩⟩
 intro n;induction n with
 |zero=>intro j hj;exact step j λi hi=>absurd hi ⋯
 |succ n ih=>
  intro j hj;by_cases h:j<=n
  . exact ih j h
  . have:j=n+1:=by omega
    subst this;exact step _ λi hi=>ih i ⋯
end
end M
end
section
namespace M
open PySem Hd
def et(K:KF)(x:Str):Val->Prop
 |.c i=>∃t,BD K AW x=some (some (.int i t))
 |.j y=>∃t,BD K AW x=some (some (.str y t))
 |.m ns=>∃a,BD K AW x=some (some (.ref a))/\KT K a (ns.map L2.V.d)
 |_=>False
noncomputable def glO(fnL:List ((Str × Nat) × Fn))(glL:List (Str × Val))(x:Str):Option Val:=match glL.lookup x with
 |some v=>some v
 |dS=>match fnL.lookup (x,0) with
  |some _=>some (.r x)
  |dS=>dS
def tbl(fnL:List ((Str × Nat) × Fn))(glL:List (Str × Val)):Tbl:={c:=λf v=>fnL.lookup (f,v),b:=glO fnL glL}
def NI(fnL:List ((Str × Nat) × Fn))(glL:List (Str × Val))(tb:List Str)(xc:List (Str × Str))(md:Bool->Bool):Tbl:=⟨λf v=>fnL.lookup (f,v),glO fnL glL,tb,xc,md⟩
def mT(fnL:List ((Str × Nat) × Fn))(D:List (Str × Stmt)):Bool:=fnL.all λp=>decide (p.1.2<100)&&match D.lookup p.1.1 with|some st=>aM st p.2|none=>false
theorem uz{α β:Type} [BEq α] [LawfulBEq α]:∀{l:List (α × β)} {a:α} {b:β},l.lookup a=some b->(a,b)∈l
 |[],_,_,h=>by cases h
 |(c,d)::l,a,b,h=>by
  rw[Av]at h;cases hb:(a == c) with
  |true=>rw[hb]at h;cases h;rw[CN hb];exact AK
  |false=>rw[hb]at h;exact Az _ (uz h)
def Ro(X:K.In h)(G:h.Ns AW mg)(hd:∀p∈D,ly K p.1 p.2)(hg:∀p∈glL,et K p.1 p.2)(hb:∀x∈vy,BD K AW x=some none)
 (hc:mT fnL D=true)    (htb:(∃b,md b=true)->fnL.all (λp=>!decide (("!":Str)∈p.2.N)||decide (p.1.1∈tb))=true):Top (NI fnL glL tb xc md) K mg:=by
 refine⟨λf v F e=>?_,λx v e=>?_,λx hx=>PySem.W.mg_none_of X G (hb x hx),λf v hv=>?_⟩
 . have hm:((f,v),F)∈fnL:=uz e
   unfold mT at hc;rw[AH]at hc;have h1:=hc _ hm;rw[nx]at h1;have h1:=h1.2;split at h1
   . rename_i st hs
     obtain⟨fa,fd,a,F'⟩:=hd _ (uz hs);refine⟨st,fa,fd,D0 X G a,F',h1,λhmd hN=>?_⟩;have:=AH.mp (htb hmd) _ hm;simp only[AS,BO,decide_eq_false_iff_not,decide_eq_true_eq]at this;exact this.resolve_left λz=>z hN
   . cases h1
 case refine_3=>
  show fnL.lookup (f,v)=none;cases e:fnL.lookup (f,v) with
  |none=>rfl
  |some F=>
   have hm:((f,v),F)∈fnL:=uz e;unfold mT at hc;rw[AH]at hc;have h1:=hc _ hm;rw[nx,decide_eq_true_eq]at h1;have h2:v<100:=h1.1;omega
 . have e:glO fnL glL x=some v:=e
   unfold glO at e;split at e
   case h_2=>
    split at e
    . rename_i F hF
      cases e;unfold mT at hc;rw[AH]at hc;have h1:=hc _ (uz hF);rw[nx]at h1;have h1:=h1.2;split at h1
      . rename_i st hs
        obtain⟨fa,fd,a,F'⟩:=hd _ (uz hs);exact⟨_,.c fa,D0 X G a,rfl,λρ H=>.G (D0 X G a)⟩
      . cases h1
    . cases e
   rename_i v' e';cases e;have hm:(x,v)∈glL:=uz e';have h1:=hg _ hm;cases v with
   |c i=>
    obtain⟨t,a⟩:=h1;exact⟨_,.d i,D0 X G a,⟨t,rfl⟩,λρ H=>.l i⟩
   |j y=>
    obtain⟨t,a⟩:=h1;exact⟨_,.f y,D0 X G a,⟨t,rfl⟩,λρ H=>.E y⟩
   |m ns=>
    obtain⟨a,h2,h3⟩:=h1;exact⟨_,.c a,D0 X G h2,rfl,λρ H=>.p h3⟩
   |_=>exact h1.elim
def int_mk(a:BD K AW x=some (some (.int i t))):et K x (.c i):=⟨t,a⟩
def str_mk(a:BD K AW x=some (some (.str y t))):et K x (.j y):=⟨t,a⟩
theorem pq:∀{us} {ns},kX us=some ns->L2.Vals (ns.map L2.V.d) us
 |[],_,h=>by cases h;exact .nil
 |u::us,ns,h=>by
  cases u with
  |int i t=>
   simp only[kX,Au]at h;obtain⟨ms,h1,rfl⟩:=h;exact .cons ⟨t,rfl⟩ (pq h1)
  |_=>cases h
def Xp(h:BD K AW x=some (some (.ref a)))
 (l:K.lookup a=some ⟨.type "tuple",od,.seq us.toArray n,sl⟩) (hz:us.length<=1000) (hi:kX us=some ns):et K x (.m ns):=
 ⟨a,h,_,us.toArray,n,l,rfl,rfl,by rw[Ae,BR];omega,by simpa using pq hi⟩
structure OV(T:Tbl)(K:KF)(mg:Str->Option Value)(h:Heap)(tabs:List Addr):Prop where
 nd:tabs.Nodup
 b:tabs.length=T.d.length
 a:∀(i:Nat) (g:Str),T.d[i]?=some g->∃P,tabs[i]?=some P/\h.get? P=some (E2 #[])/\K.lookup P=none/\isCodeTable h P /\
  ∃(fa c:Addr) (o:Obj) (fd:CV),mg g=some (.ref fa)/\K.lookup fa=some o/\o.data=.func fd/\fd.code=.ref c/\∀h':Heap,K.In h'->PySem.W.CodeHd h' c P
def OC(K:KF)(tabs:List Addr):L2.Sp:=λvs H Q _=>∃(a:Addr) (ns:List Int),vs=[.c a]/\(∀b∈tabs,H b=some (.e #[]))/\L2.SqL K H a (ns.map L2.V.d)/\ns.length<=63/\∀H',Q (.e true) H'
def walk{l:PySem.W.OpenLaw}(hn:l.most=some 63)(hdf:d.params.defaults=[])(hr:L2.wV n callerA)
 (hY:∀w h,YP w h->K.In h) (hF:T.c d.name 0=some F) (hx:F.a=[x])
 (TOP:∀w s₀ mg mb h,PySem.W.Ground q loose [] XP w s₀ mg mb h->K.In h->Top T K mg/\∃tabs,OV T K mg h tabs)
 (HL:∀ns:List Int,ns.length<=63->∃s',zG T n d.name 0 [.p ns] (T.d.map .f)=.e (.e true) s') :
 PySem.W.WalkO q loose XP YP l.row.toRowW d [] (λf vs=>PySem.call f vs):=by
 refine Att.l8 hn hdf λw s₀ s₁ mg mb fa o pm cd doc a vs ns G Y ho hd hcd hmg hobj hints hlen hg=>?_;have KX:=hY w _ Y;obtain⟨top,tabs,TE⟩:=TOP w s₀ mg mb _ G KX;obtain⟨st,fa',fd',e1,e2,e3,e4⟩:=top.a _ _ _ hF;obtain⟨p1,p2,p3⟩:=sN e3;have nd:F.a.Nodup:=by rw[<-p2.a];exact p2.d.sublist (FC _ _)
 rw[e1]at hmg;cases hmg;cases n with
 |zero=>
  obtain⟨s',hs⟩:=HL [] (by decide)
  cases hs
 |succ n=>
  have htab:∀b∈tabs,s₁.heap.get? b=some (E2 #[])/\K.lookup b=none/\isCodeTable s₁.heap b:=λb hb=>by
   obtain⟨i,hi,e⟩:=BZ hb;obtain⟨P,q1,q2,q3,q4,_⟩:=TE.a i _ (pn (by rw[<-TE.b];exact hi))
   rw[pn hi,e]at q1;cases q1;exact⟨q2,q3,q4⟩
  refine L2.dz (CX:=L2.CX0) (k:=n+1) (fd:=fd') (x:=x) (sp:=OC K tabs) (tabs:=tabs) KX G.T.g G.T.b G.T.builtins G.T.nolimit hg hobj hints (AB hlen (by decide)) hr htab (λbase kb nb=>?_) (λs u=>?_) (λH hT hS=>⟨a,ns,rfl,hT,hS,hlen,λ_=>rfl⟩) λ_ _ _ z=>z
  . have f4:=Vz (P:=l.prog) (w:=w) (base:=base) top (λj hj=>SE top kb n j hj) hF e1 e2 e3 e4
    rw[hx]at f4;refine f4.imp λvs H Q E ⟨a,ns,e,hT,hS,hl,hq⟩=>?_;subst e;obtain⟨s',hs⟩:=HL ns hl;refine⟨⟨tabs,[]⟩,T.d.map .f,[.p ns],⟨by rw[zI];exact TE.b,TE.nd,λi c z=>?_,λa z=>by cases z⟩,.a (.F ?_) .d,?_⟩
    . rw[AA]at z
      cases hg:T.d[i]? with
      |none=>rw[hg]at z;cases z
      |some g=>
       rw[hg]at z;cases z;obtain⟨P,q1,q2,q3,q4,fn⟩:=TE.a i g hg;exact⟨P,q1,#[],hT P (AF q1),A5,λpos cv hc=>(nomatch hc),fn⟩
    . rcases hS with hS|hS
      . refine .inl ⟨⟨λhm=>?_,by simp⟩,hS⟩
        have:=hT a hm;rcases hS with z|⟨o,z⟩<;>(rw[this]at z;cases z)
      . exact .inr hS
    . rw[hs]
      intro ρ' x' H' _ _ r;cases r;exact hq H'
  . obtain⟨oc,od,kV,doc,pm,an,cdv,ct,osl,e,_⟩:=e2.a
    subst e;refine .of_eq ?_;have:=l9 (x:=d.name) (qual:=d.name) (body:=L2.wy st) (sc:=L2.yK st) (kV:=kV) (doc:=doc) (pm:=pm) (cdv:=cdv) (ct:=ct) (an:=an) p1 nd [u] (by rw[hx];rfl)
    rw[hx]at this;exact this
end M
end
section
namespace F
open PySem M
noncomputable def yY:Fn:=⟨["_law_script","_law_k"],["_law_script","_law_k"],false,(.a (.f (.a (.j .i (.e 1) (.l .a false (.a (.e 0) .b)))) (.a (.d (.p (.e 0) (.e 1))) .b) .b) (.a (.d (.g (.c 0))) .b))⟩
noncomputable def xZ:Fn:=⟨["_law_pen_here","_law_many","_law_left","_law_found","_law_mixed"],["_law_pen_here","_law_many"],false,(.a (.f (.a (.j .d (.p (.e 0) (.g (.c 0))) (.g (.c 0)))) (.a (.p [2,3] (.l .c false (.a (.p (.e 0) (.g (.c 0))) (.a (.e 1) .b)))) (.a (.l (.e 0) (.g (.c 0)) (.e 2)) (.a (.d (.e 3)) .b))) .b) (.a (.l (.e 0) (.g (.c 1)) (.k false .d (.k false .a (.k false .b (.p (.e 0) (.g (.c 1))) (.g (.c 48271))) (.g (.c 30269))) (.g (.c 2147483629)))) (.a (.g 4 (.k false .d (.k false .a (.k false .a (.k false .b (.p (.e 0) (.g (.c 1))) (.p (.e 0) (.g (.c 1)))) (.k false .b (.g (.c 40692)) (.p (.e 0) (.g (.c 1))))) (.g (.c 7))) (.g (.c 2147483587)))) (.a (.d (.k false .d (.k false .e (.e 4) (.g (.c 64))) (.e 1))) .b))))⟩
noncomputable def ym:Fn:=⟨["_law_sizes_here","_law_found","_law_hue","_law_here","_law_size","_law_step"],["_law_sizes_here","_law_found","_law_hue"],false,(.a (.n [3,4] (.a (.l .a false (.a (.e 1) .b)) (.a (.p (.e 0) (.e 2)) .b))) (.a (.j (.a 5) (.d (.g (.c 1)) (.k false .a (.k false .e (.e 3) (.k false .c (.e 4) (.g (.c 1)))) (.g (.c 1)))) (.a (.f (.a (.j .c (.r false ["_law_k","_law_hue","_law_found","_law_here","_law_step"] [none,some 2,some 1,some 3,some 5] (.e 0) (.a 0) (.d (.g (.c 1)) (.e 4)) (.a (.a (.j .e (.p (.e 2) (.k false .c (.e 3) (.k false .b (.e 0) (.e 4)))) (.e 1))) .b)) (.s false .b))) (.a (.d (.g (.e true))) .b) .b) .b)) (.a (.d (.g (.e false))) .b)))⟩
noncomputable def yn:Fn:=⟨["_law_cell","_law_left"],["_law_cell"],true,(.a (.g 1 (.l .i false (.a (.e 0) (.a (.k false .c (.g (.c 0)) (.e 0)) .b)))) (.a (.d (.s true (.a (.k false .b (.e 1) (.l .q false (.a (.j .k (.e 1) (.k false .g (.g (.c 10)) (.g (.c 18)))) .b))) (.a (.k false .d (.e 1) (.g (.c 2147483629))) .b)))) .b))⟩
noncomputable def wD:Fn:=⟨["thing"],["thing"],false,(.a (.d (.u (.l .h false (.a (.e 0) (.a (.G "tuple" "tuple") .b))) (.a (.A .g .g (.g (.c 1)) (.l .a false (.a (.e 0) .b)) (.l .a false (.a (.z "HUES") .b))) (.a (.h "are_wholes" 0 (.a (.e 0) (.a (.z "LEAST_SIZE") (.a (.z "MOST_SIZE") .b)))) .b)))) .b)⟩
noncomputable def xh:Fn:=⟨["things","least","most"],["things","least","most"],false,(.a (.d (.l .k false (.a (.r false ["thing","least","most"] [none,some 1,some 2] (.h "is_whole" 0 (.a (.e 0) (.a (.e 1) (.a (.e 2) .b)))) (.a 0) (.f (.e 0)) .b) .b))) .b)⟩
noncomputable def y0:Fn:=⟨["sizes","draft","place","hue","put","size"],["sizes","draft","place","hue"],false,(.a (.g 4 (.h "with_hue" 0 (.a (.e 1) (.a (.e 2) (.a (.e 3) .b))))) (.a (.g 5 (.p (.e 0) (.e 3))) (.a (.d (.r false ["first","step","put","size"] [none,none,some 4,some 5] (.q (.a (.e 0) (.a (.e 1) .b))) (.b [0,1]) (.f (.h "rows_at" 0 (.a (.l .a false (.a (.e 1) .b)) (.a (.e 5) (.a (.e 2) .b))))) (.a (.a (.h "is_one_hue" 0 (.a (.e 2) (.a (.e 0) (.a (.e 1) (.a (.e 3) .b)))))) .b))) .b)))⟩
noncomputable def wF:Fn:=⟨["draft"],["draft"],false,(.a (.d (.r false ["place","hue"] [none,none] (.e 0) (.b [0,1]) (.g (.e 0)) (.a (.a (.j .c (.e 1) (.z "BLANK"))) .b))) .b)⟩
noncomputable def y4:Fn:=⟨["sizes","draft","place"],["sizes","draft"],false,(.a (.j (.a 2) (.f (.h "blanks_of" 0 (.a (.e 1) .b))) (.a (.f (.a (.j .g (.l .a false (.a (.h "unbarred" 0 (.a (.e 0) (.a (.e 1) (.a (.e 2) .b)))) .b)) (.g (.c 1)))) (.a (.d (.e 2)) .b) .b) .b)) (.a (.d (.g .g)) .b))⟩
noncomputable def wb:Fn:=⟨["draft","thing"],["draft","thing"],false,(.a (.d (.u (.h "is_whole" 0 (.a (.e 1) (.a (.g (.c 0)) (.a (.k false .c (.l .a false (.a (.e 0) .b)) (.g (.c 1))) .b)))) (.a (.j .c (.p (.e 0) (.e 1)) (.z "BLANK")) .b))) .b)⟩
noncomputable def xa:Fn:=⟨["sizes","thing"],["sizes","thing"],false,(.a (.h (.h "need_sizes" 0 (.a (.e 0) .b))) (.a (.d (.u (.l .h false (.a (.e 1) (.a (.G "tuple" "tuple") .b))) (.a (.j .g (.l .a false (.a (.e 1) .b)) (.z "MOST_PLACES")) (.a (.h "are_wholes" 0 (.a (.e 1) (.a (.z "BLANK") (.a (.k false .c (.l .a false (.a (.e 0) .b)) (.g (.c 1))) .b)))) .b)))) .b))⟩
noncomputable def xk:Fn:=⟨["hues","first","step","size"],["hues","first","step","size"],false,(.a (.d (.j .c (.D .b false (.J false (.e 0) (.a (.e 1)) (.a (.k false .a (.e 1) (.k false .b (.e 2) (.e 3)))) (.a (.e 2))) (.a (.p (.e 0) (.e 1)) .b)) (.e 3))) .b)⟩
noncomputable def we:Fn:=⟨["thing","least","most"],["thing","least","most"],false,(.a (.d (.u (.l .h false (.a (.e 0) (.a (.G "int" "int") .b))) (.a (.F (.l .h false (.a (.e 0) (.a (.G "bool" "bool") .b)))) (.a (.A .g .g (.e 1) (.e 0) (.e 2)) .b)))) .b)⟩
noncomputable def wG:Fn:=⟨["length","first","size"],["length","first","size"],false,(.a (.d (.k false .e (.k false .c (.k false .c (.e 0) (.g (.c 1))) (.e 1)) (.k false .c (.e 2) (.g (.c 1))))) .b)⟩
noncomputable def xl:Fn:=⟨["sizes","thing"],["sizes","thing"],false,(.a (.f (.b (.a (.h "is_draft" 0 (.a (.e 0) (.a (.e 1) .b))))) (.a (.k (.h "NoDraft" 0 (.a (.g (.j "a draft of the sizes is due")) .b))) .b) .b) .b)⟩
noncomputable def xU:Fn:=⟨["thing"],["thing"],false,(.a (.h (.h "need_whole" 0 (.a (.e 0) (.a (.g (.c 0)) (.a (.z "MOST_PLACES") .b))))) .b)⟩
noncomputable def wH:Fn:=⟨["thing"],["thing"],false,(.a (.h (.h "need_whole" 0 (.a (.e 0) (.a (.z "LEAST_SIZE") (.a (.z "MOST_SIZE") .b))))) .b)⟩
noncomputable def xn:Fn:=⟨["thing"],["thing"],false,(.a (.f (.b (.a (.h "are_sizes" 0 (.a (.e 0) .b)))) (.a (.k (.h "NoSizes" 0 (.a (.g (.j "one to four sizes are due")) .b))) .b) .b) .b)⟩
noncomputable def xq:Fn:=⟨["thing","least","most"],["thing","least","most"],false,(.a (.f (.b (.a (.h "is_whole" 0 (.a (.e 0) (.a (.e 1) (.a (.e 2) .b)))))) (.a (.k (.h "NoNumber" 0 (.a (.e 1) (.a (.e 2) .b)))) .b) .b) .b)⟩
noncomputable def vL:Fn:=⟨["length","size","place","rows"],["length","size","place"],false,(.a (.h (.h "need_length" 0 (.a (.e 0) .b))) (.a (.h (.h "need_size" 0 (.a (.e 1) .b))) (.a (.f (.b (.a (.h "is_whole" 0 (.a (.e 2) (.a (.g (.c 0)) (.a (.k false .c (.e 0) (.g (.c 1))) .b)))))) (.a (.k (.h "NoPlace" 0 (.a (.g (.j "a place below the length is due")) .b))) .b) .b) (.a (.g 3 (.y false ["at","step","length","size","place"] [none,none,some 0,some 1,some 2] (.q (.a (.k false .c (.e 4) (.k false .b (.e 1) (.e 0))) (.a (.e 1) .b))) (.a 0) (.c (.e 1)) .b (.a 1) (.d (.g (.c 1)) (.k false .a (.h "most_step" 0 (.a (.e 2) (.a (.g (.c 0)) (.a (.e 3) .b)))) (.g (.c 1)))) .b)) (.a (.d (.l .g false (.a (.r false ["first","step","length","size"] [none,none,some 0,some 1] (.q (.a (.e 0) (.a (.e 1) .b))) (.b [0,1]) (.f (.e 3)) (.a (.d (.a (.j .k (.e 0) (.g (.c 0)))) (.a (.a (.j .i (.k false .a (.e 0) (.k false .b (.e 1) (.k false .c (.e 3) (.g (.c 1))))) (.e 2))) .b)) .b)) .b))) .b)))))⟩
noncomputable def nR:Fn:=⟨["sizes","draft","now","steps","place","hues"],["sizes","draft"],false,(.a (.h (.h "need_draft" 0 (.a (.e 0) (.a (.e 1) .b)))) (.a (.g 2 (.e 1)) (.a (.g 3 (.s true .b)) (.a (.g 4 (.h "first_forced" 0 (.a (.e 0) (.a (.e 2) .b)))) (.a (.m (.a (.j .a (.e 4) (.g .g))) (.a (.g 5 (.h "unbarred" 0 (.a (.e 0) (.a (.e 2) (.a (.e 4) .b))))) (.a (.f (.b (.a (.e 5))) (.a (.d (.q (.a (.e 2) (.a (.e 3) (.a (.e 4) .b))))) .b) .b) (.a (.h (.D .a false (.e 3) (.a (.q (.a (.e 4) (.a (.p (.e 5) (.g (.c 0))) .b))) .b))) (.a (.g 2 (.h "with_hue" 0 (.a (.e 2) (.a (.e 4) (.a (.p (.e 5) (.g (.c 0))) .b))))) (.a (.g 4 (.h "first_forced" 0 (.a (.e 0) (.a (.e 2) .b)))) .b)))))) (.a (.d (.q (.a (.e 2) (.a (.e 3) (.a (.g .g) .b))))) .b))))))⟩
noncomputable def wg:Fn:=⟨["sizes","draft","place"],["sizes","draft","place"],false,(.a (.d (.l .b false (.a (.r false ["hue","sizes","draft","place"] [none,some 0,some 1,some 2] (.e 0) (.a 0) (.c (.l .a false (.a (.e 0) .b))) (.a (.b (.a (.h "barring_rows" 0 (.a (.e 1) (.a (.e 2) (.a (.e 3) (.a (.e 0) .b))))))) .b)) .b))) .b)⟩
noncomputable def wj:Fn:=⟨["draft","place","hue"],["draft","place","hue"],false,(.a (.d (.k false .a (.k false .a (.J false (.e 0) .b (.a (.e 1)) .b) (.q (.a (.e 2) .b))) (.J false (.e 0) (.a (.k false .a (.e 1) (.g (.c 1)))) .b .b))) .b)⟩
end F
end
section
namespace M
open PySem L2
noncomputable def vq(n s f:Nat):List (Nat × Nat):=(Al ((n-1-f)/(s-1))).map λj=>(f,j+1)
def ua(n s:Nat):List (Nat × Nat):=(Al n).flatMap (vq n s)
def jd n s f:(vq n s f).length=(n-1-f)/(s-1):=by unfold vq;rw[zI,AM]
def VN n s f:(vq n s f).length<=n:=by rw[jd];have:=Cu (n-1-f) (s-1);omega
theorem X2 n s:∀i,((Al i).flatMap (vq n s)).length<=i*n
 |0=>by simp
 |i+1=>by
  rw[Dx,D4,Ak];have h1:=X2 n s i;have h2:=VN n s i;have e:F9 (vq n s) [i]=vq n s i:=by simp
  rw[e,Dm];omega
def qM(hs:2<=s)(h:r∈ua n s):0<r.2/\r.1+r.2*(s-1)<n:=by
 unfold ua vq at h;obtain⟨f,hf,h⟩:=Bb.mp h;obtain⟨j,hj,rfl⟩:=Aq.mp h;rw[Ag]at hf hj;have:(j+1)*(s-1)<=n-1-f:=(Bz ⋯).mp hj
 refine⟨Nat.succ_pos _,?_⟩;show f+(j+1)*(s-1)<n;omega
noncomputable def yV(ns:List Int)(f d s:Nat):Bool:=(Al s).all λk=>decide (ns[f+k*d]?=ns[f]?)
def Xr{n f d s:Nat}(hd:0<d)(hs:1<=s)(h:f+d*(s-1)<n):xA n (some (f:Int)) (some ((f:Int)+(d:Int)*(s:Int))) (d:Int)=((f:Int),s):=by
 have hmul:d*s=d*(s-1)+d:=by rw[<-Nat.mul_succ];congr 1;omega
 have e0:(d:Int)*(s:Int)=((d*s:Nat):Int):=(Bv d s).symm;have e1:Bu (some (f:Int)) (some ((f:Int)+(d:Int)*(s:Int))) (d:Int) (n:Int)=((f:Int),((min (f+d*s) n:Nat):Int)):=by
  rw[e0];unfold Bu;simp only[if_neg (show ¬(d:Int)<0 by omega),if_neg (show ¬(f:Int)<0 by omega),if_neg (show ¬((f:Int)+((d*s:Nat):Int))<0 by omega)]
  refine EX ?_ ?_
  . show min (f:Int) (n:Int)=f;omega
  . show min ((f:Int)+((d*s:Nat):Int)) (n:Int)=_;omega
 unfold xA;rw[e1];refine EX rfl ?_;show BM (f:Int) ((min (f+d*s) n:Nat):Int) (d:Int)=s;unfold BM;rw[if_pos ⋯,if_pos ⋯]
 have e2:(((min (f+d*s) n:Nat):Int)-(f:Int)-1)=((min (f+d*s) n-f-1:Nat):Int):=by omega
 rw[e2,<-Ga];have e3:(min (f+d*s) n-f-1)/d=s-1:=by
  refine Nat.div_eq_of_lt_le ?_ ?_
  . rw[Br];omega
  . have:(s-1+1)*d=d*s:=by rw[show s-1+1=s by omega,Br]
    omega
 rw[e3];omega
theorem iM{α β:Type}{f}{g:α->β}:∀{l:List α},(∀x∈l,f x=some (g x))->l.filterMap f=l.map g
 |[],_=>rfl
 |x::l,h=>by rw[A2,h x (AK ..),Aw,iM λy hy=>h y (Az _ hy)]
def YQ{ns:List Int}(h:f+d*(s-1)<ns.length):yA ns (f:Int) (d:Int) s=(Al s).map λk=>ns.getD (f+k*d) 0:=by
 unfold yA;refine iM λk hk=>?_;rw[Ag]at hk;have h1:k*d<=d*(s-1):=by rw[Br];exact EW d ⋯
 have e:((f:Int)+(k:Int)*(d:Int)).toNat=f+k*d:=by rw[show (k:Int)*(d:Int)=((k*d:Nat):Int) from (Bv k d).symm];omega
 have hlt:f+k*d<ns.length:=by omega
 rw[e,pn hlt];rw[Ab,pn hlt];rfl
def Wi(h:f+d*(s-1)<ns.length):yV ns f d s=true↔∀x∈(Al s).map (λk=>ns.getD (f+k*d) 0),x=ns.getD f 0:=by
 unfold yV;rw[AH];constructor
 . intro h1 x hx
   obtain⟨k,hk,rfl⟩:=Aq.mp hx;have:=of_decide_eq_true (h1 k hk);rw[Ab,this,<-Ab]
 . intro h1 k hk
   have:=h1 _ (Aq.mpr ⟨k,hk,rfl⟩);rw[Ag]at hk;have h2:k*d<=d*(s-1):=by rw[Br];exact EW d ⋯
   have hlt:f+k*d<ns.length:=by omega
   have hf:f<ns.length:=by omega
   rw[Ab,Ab,pn hlt,pn hf]at this;refine decide_eq_true ?_;rw[pn hlt,pn hf];exact congrArg some this
theorem fh n s:∀i,i<=n->2*((Al i).flatMap (vq n s)).length+i*i+i<=2*(i*n)
 |0,_=>by simp
 |i+1,hi=>by
  have h1:=fh n s i ⋯
  rw[Dx,D4,Ak];have e:F9 (vq n s) [i]=vq n s i:=by simp
  have h2:(vq n s i).length<=n-1-i:=by rw[jd];exact Cu _ _
  rw[e];have e2:(i+1)*(i+1)=i*i+2*i+1:=by rw[Nat.add_mul,Nat.mul_add];omega
  have e3:(i+1)*n=i*n+n:=Dm i n;rw[e2,e3];omega
def Yi(h:n<=40):(ua n z).length<=800:=by have h1:=fh n z n (Ac n);have h2:n*n<=40*n:=BG n h;unfold ua;omega
noncomputable def mS(n z:Nat):Nat:=(n-1)/(z-1)
def allAt(n z p a:Nat):List (Int × Int):=(Al (mS n z)).map λj=>((p:Int)-((j+1:Nat):Int)*(a:Int),((j+1:Nat):Int))
def allOf(n z p:Nat):List (Int × Int):=(Al z).flatMap (allAt n z p)
noncomputable def inB(n z:Nat)(r:Int × Int):Bool:=decide (0<=r.1)&&decide (r.1+r.2*((z:Int)-1)<n)
noncomputable def X8(z p:Nat)(r:Nat × Nat):Bool:=(Al z).any λk=>decide (r.1+k*r.2=p)
def atP(n z p:Nat):List (Nat × Nat):=(ua n z).filter (X8 z p)
noncomputable def toI(r:Nat × Nat):Int × Int:=(r.1,r.2)
def dA n z p a:(allAt n z p a).length=mS n z:=by unfold allAt;rw[zI,AM]
theorem ZC n z p:∀i,((Al i).flatMap (allAt n z p)).length=i*mS n z
 |0=>by simp
 |i+1=>by
  rw[Dx,D4,Ak,ZC n z p i];have e:F9 (allAt n z p) [i]=allAt n z p i:=by simp
  rw[e,dA,Dm]
def dB(hn:n<=32)(hz:2<=z):(allOf n z p).length<=62:=by
 unfold allOf;rw[ZC];have h1:mS n z*(z-1)<=n-1:=Nat.div_mul_le_self _ _;have h2:mS n z<=n-1:=Cu _ _;have e:z*mS n z=mS n z*(z-1)+mS n z:=by
  obtain⟨y,rfl⟩:∃y,z=y+1:=⟨z-1,⋯⟩
  rw[Ff,Br,Nat.mul_succ]
 omega
def l7 n z p:(allOf n z p).Nodup:=by
 unfold allOf List.Nodup;rw[EE];refine⟨λa _=>?_,?_⟩
 . unfold allAt
   rw[C4];refine El ?_ F3;intro i j hij e;injection e with e1 e2
   omega
 . refine El ?_ F3
   intro a b hab x hx y hy e;unfold allAt at hx hy;obtain⟨i,_,rfl⟩:=Aq.mp hx;obtain⟨j,_,rfl⟩:=Aq.mp hy;injection e with e1 e2
   have eij:i=j:=by omega
   subst eij;have e3:((i+1:Nat):Int)*(a:Int)=((i+1:Nat):Int)*(b:Int):=by omega
   rw[<-Bv,<-Bv]at e3;have e4:(i+1)*a=(i+1)*b:=by exact_mod_cast e3
   exact hab (Nat.eq_of_mul_eq_mul_left (Nat.succ_pos i) e4)
def dC(hn:n<=40):∀r∈allOf n z p,0<=r.2/\r.2<1000:=λr hr=>by
 unfold allOf allAt at hr;obtain⟨a,_,hr⟩:=Bb.mp hr;obtain⟨j,hj,rfl⟩:=Aq.mp hr;have h2:mS n z<=n-1:=Cu _ _;rw[Ag]at hj;refine⟨?_,?_⟩
 . show 0<=((j+1:Nat):Int);omega
 . show ((j+1:Nat):Int)<1000;omega
def xf(hz:2<=z):(f,d)∈ua n z↔0<d/\f+d*(z-1)<n:=by
 constructor
 . exact λh=>qM hz h
 . rintro ⟨h1,h2⟩
   unfold ua vq;refine Bb.mpr ⟨f,Ag.mpr ⋯,Aq.mpr ⟨d-1,Ag.mpr ?_,?_⟩⟩
   . have:d<=(n-1-f)/(z-1):=(Bz ⋯).mpr ⋯
     omega
   . show (f,d-1+1)=(f,d)
     rw[show d-1+1=d by omega]
def Xh(hz:2<=z)x:x∈(allOf n z p).filter (inB n z)↔x∈(atP n z p).map toI:=by
 constructor
 . intro h
   obtain⟨h1,h2⟩:=AD.mp h;unfold allOf allAt at h1;obtain⟨a,ha,hr⟩:=Bb.mp h1;obtain⟨j,hj,rfl⟩:=Aq.mp hr;rw[Ag]at ha hj;have hb:0<=(p:Int)-((j+1:Nat):Int)*(a:Int)/\(p:Int)-((j+1:Nat):Int)*(a:Int)+((j+1:Nat):Int)*((z:Int)-1)<n:=by have:=DS.mp h2;exact⟨of_decide_eq_true this.1,of_decide_eq_true this.2⟩
   have em:((j+1:Nat):Int)*(a:Int)=(((j+1)*a:Nat):Int):=(Bv _ _).symm;have em2:((j+1:Nat):Int)*((z:Int)-1)=(((j+1)*(z-1):Nat):Int):=by rw[Bv];congr 1;omega
   rw[em,em2]at hb;refine Aq.mpr ⟨(p-(j+1)*a,j+1),AD.mpr ⟨(xf hz).mpr ⟨⋯,⋯⟩,?_⟩,?_⟩
   . refine Bx.mpr ⟨a,Ag.mpr ha,decide_eq_true ?_⟩
     show p-(j+1)*a+a*(j+1)=p;rw[Br a];omega
   . show (((p-(j+1)*a:Nat):Int),((j+1:Nat):Int))=_
     rw[em];congr 1;omega
 . intro h
   obtain⟨⟨f,d⟩,h1,rfl⟩:=Aq.mp h;obtain⟨h2,h3⟩:=AD.mp h1;obtain⟨hd,hlt⟩:=(xf hz).mp h2;obtain⟨k,hk,he⟩:=Bx.mp h3;rw[Ag]at hk;have he:f+k*d=p:=of_decide_eq_true he;have hdm:d<=mS n z:=(Bz ⋯).mpr ⋯
   refine AD.mpr ⟨Bb.mpr ⟨k,Ag.mpr hk,Aq.mpr ⟨d-1,Ag.mpr ⋯,?_⟩⟩,?_⟩
   . show ((p:Int)-((d-1+1:Nat):Int)*(k:Int),((d-1+1:Nat):Int))=((f:Int),(d:Int))
     rw[show d-1+1=d by omega,<-Bv,Br d k]
     congr 1;omega
   . have em2:(d:Int)*((z:Int)-1)=((d*(z-1):Nat):Int):=by rw[Bv];congr 1;omega
     show (decide (0<=(f:Int))&&decide ((f:Int)+(d:Int)*((z:Int)-1)<n))=true;rw[em2,decide_eq_true ⋯,decide_eq_true ⋯];rfl
def oJ(hn:n<=40):((ua n z).map toI).Pairwise (λa b=>yJ a<yJ b):=by
 rw[C4];unfold ua;rw[EE];have lt40:∀{f j:Nat},j∈Al ((n-1-f)/(z-1))->j<40:=λ{f j} hj=>by rw[Ag]at hj;have:=Cu (n-1-f) (z-1);omega
 refine⟨λf _=>?_,?_⟩
 . unfold vq
   rw[C4];refine El ?_ En;intro i j hij;show (f:Int)*1000+((i+1:Nat):Int)<(f:Int)*1000+((j+1:Nat):Int);omega
 . refine El ?_ En
   intro f g hfg x hx y hy;unfold vq at hx hy;obtain⟨i,hi,rfl⟩:=Aq.mp hx;obtain⟨j,hj,rfl⟩:=Aq.mp hy;have:=lt40 hi;have:=lt40 hj;show (f:Int)*1000+((i+1:Nat):Int)<(g:Int)*1000+((j+1:Nat):Int);omega
def aA(hn:n<=40):((atP n z p).map toI).Pairwise (λa b=>yJ a<yJ b):=by have h:=oJ (n:=n) (z:=z) hn;rw[C4]at h ⊢;exact h.filter _
def dE(hn:n<=40)(hz:2<=z)(hp:l.Perm ((allOf n z p).filter (inB n z)))(hr:l.Pairwise (λa b=>yJ a<yJ b)):l=(atP n z p).map toI:=
 sY hr (aA hn) λx=>(hp.mem_iff).trans (Xh hz x)
def Sz(zs:List Int):Prop:=1<=zs.length/\zs.length<=4/\∀x∈zs,2<=x/\x<=8
def Dr(zs ns:List Int):Prop:=ns.length<=32/\∀x∈ns,-1<=x/\x<zs.length
noncomputable def putL(ns:List Int)(p:Nat)(h:Int):List Int:=ns.take p++h::ns.drop (p+1)
def jW(hp:p<ns.length):(putL ns p h).length=ns.length:=by unfold putL;rw[Ak,An,Dj,Dk];omega
def vj(ns:List Int)(z p:Nat)(h:Int):List (Nat × Nat):=(atP ns.length z p).filter λr=>yV (putL ns p h) r.1 r.2 z
noncomputable def zM(zs:List Int)(h:Nat):Nat:=(zs.getD h 0).toNat
def yp(zs ns:List Int)(p:Nat):List Nat:=(Al zs.length).filter λh=>(vj ns (zM zs h) p h).isEmpty
def z0(hz:Sz zs)(hh:h<zs.length):zs[h]?=some ((zM zs h:Nat):Int)/\2<=zM zs h/\zM zs h<=8:=by
 have e:zs.getD h 0=zs[h]:=by rw[Ab,pn hh];rfl
 have:=hz.2.2 zs[h] (BK hh);unfold zM;rw[e,pn hh];refine⟨?_,⋯,⋯⟩
 congr 1;omega
end M
end
section
namespace M
open PySem
def Out.post{α:Type}(o:Out α)(P:α->Sto->Prop):Prop:=∃a s,o=.e a s/\P a s
def zC{α:Type}{a:α}{s:Sto}{P:α->Sto->Prop}:(Out.e a s).post P↔P a s:=
 ⟨λ⟨_,_,e,h⟩=>(by cases e;exact h),λh=>⟨a,s,rfl,h⟩⟩
def zK{o:Out α}{f}{P:β->Sto->Prop}:(o.bind f).post P↔o.post λa s=>(f a s).post P:=by
 cases o with
 |e a s=>exact(zC (P:=λa s=>(f a s).post P)).symm
 |g c as s=>exact⟨λ⟨_,_,e,_⟩=>(by cases e),λ⟨_,_,e,_⟩=>(by cases e)⟩
 |d=>exact⟨λ⟨_,_,e,_⟩=>(by cases e),λ⟨_,_,e,_⟩=>(by cases e)⟩
def zQ{o:Out α}{P Q}(h:o.post P)(i:∀a s,P a s->Q a s):o.post Q:=by obtain⟨a,s,e,h⟩:=h;exact⟨a,s,e,i a s h⟩
def yG{o:Out α}{P Q}(h:∀a s,P a s↔Q a s):o.post P↔o.post Q:=⟨λk=>zQ k λa s=>(h a s).mp,λk=>zQ k λa s=>(h a s).mpr⟩
def zr{α:Type}{P:α->Sto->Prop}:(Out.d:Out α).post P↔False:=⟨λ⟨_,_,e,_⟩=>(by cases e),CJ⟩
def wQ{α:Type}{c:Prop} [Decidable c] {a b:Out α}{P:α->Sto->Prop}:(if c then a else b).post P↔if c then a.post P else b.post P:=by split<;>exact Di
def post_eq{o:Out α}{a}:o=.e a s↔o.post λx t=>x=a/\t=s:=⟨λh=>⟨a,s,h,rfl,rfl⟩,λ⟨_,_,h,e1,e2⟩=>(by rw[h,e1,e2])⟩
section
variable {Φ:Calls}{G:Str->Option Val}{env:Env}{s:Sto}
def PF{v:Val}{P:Val->Sto->Prop}:(evE Φ G env (.g v) s).post P↔P v s:=zC
def YC{i:Nat}{P:Val->Sto->Prop}:(evE Φ G env (.e i) s).post P↔∃v,env[i]?=some (some v)/\P v s:=by
 show (match env[i]? with|some (some v)=>Out.e v s|_=>.d).post P↔_
 split
 . rename_i v e
   refine zC.trans ⟨λh=>⟨_,e,h⟩,λ⟨u,h1,h2⟩=>?_⟩;rw[e]at h1;cases h1;exact h2
 . rename_i hn
   exact⟨λ⟨_,_,e,_⟩=>(by cases e),λ⟨u,h1,h2⟩=>absurd h1 (hn u)⟩
def Q9{x:Str}{P:Val->Sto->Prop}:(evE Φ G env (.z x) s).post P↔∃v,G x=some v/\P v s:=by
 show (match G x with|some v=>Out.e v s|dS=>.d).post P↔_
 split
 . rename_i v e
   refine zC.trans ⟨λh=>⟨_,e,h⟩,λ⟨u,h1,h2⟩=>?_⟩;rw[e]at h1;cases h1;exact h2
 . rename_i e
   exact⟨λ⟨_,_,e,_⟩=>(by cases e),λ⟨u,h1,h2⟩=>(by rw[e]at h1;cases h1)⟩
def Ou{x:Str}{n:String}{P:Val->Sto->Prop}:(evE Φ G env (.G x n) s).post P↔P (.q n) s:=zC
def V7{m:Bool}{op:Bop}{a b:Ex}{P:Val->Sto->Prop}:(evE Φ G env (.k m op a b) s).post P↔(evE Φ G env a s).post λx s1=>(evE Φ G env b s1).post λy s2=>(binOp m op x y s2).post P:=by show (Out.bind _ _).post P↔_;simp only[zK]
def PJ{a:Ex}{P:Val->Sto->Prop}:(evE Φ G env (.C a) s).post P↔(evE Φ G env a s).post λx s1=>∃i,x=.c i/\P (.c (-i)) s1:=by show (Out.bind _ _).post P↔_;simp only[zK];exact yG λx s1=>by cases x<;>simp[zC,zr]
def PK{a:Ex}{P:Val->Sto->Prop}:(evE Φ G env (.F a) s).post P↔(evE Φ G env a s).post λx s1=>∃b,x=.e b/\P (.e !b) s1:=by show (Out.bind _ _).post P↔_;simp only[zK];exact yG λx s1=>by cases x<;>simp[zC,zr]
def V8{op:Cop}{a b:Ex}{P:Val->Sto->Prop}:(evE Φ G env (.j op a b) s).post P↔(evE Φ G env a s).post λx s1=>(evE Φ G env b s1).post λy s2=>(zi op x y s2).post P:=by show (Out.bind _ _).post P↔_;simp only[zK]
def Wt{op op':Cop}{a b c:Ex}{P:Val->Sto->Prop}:(evE Φ G env (.A op op' a b c) s).post P↔(evE Φ G env a s).post λx s1=>(evE Φ G env b s1).post λy s2=>(zi op x y s2).post λr s3=>∃t,r=.e t/\if t=true then (evE Φ G env c s3).post λz s4=>(zi op' y z s4).post P else P (.e false) s3:=by
 show (Out.bind _ _).post P↔_;simp only[zK];refine yG λx s1=>yG λy s2=>yG λr s3=>?_;cases r with
 |e t=>cases t<;>simp[zC,zr,zK]
 |_=>simp[zr]
def Q5{a b:Ex}{es:Exs}{P:Val->Sto->Prop}:(evE Φ G env (.u a (.a b es)) s).post P↔(evE Φ G env a s).post λx s1=>∃t,x=.e t/\if t=true then (qe Φ G env (.a b es) s1).post P else P (.e false) s1:=by
 show (Out.bind _ _).post P↔_;simp only[zK];refine yG λx s1=>?_;cases x with
 |e t=>cases t<;>simp[zC,zr]
 |_=>simp[zr]
def Sd{a:Ex}{P:Val->Sto->Prop}:(qe Φ G env (.a a .b) s).post P↔(evE Φ G env a s).post P:=Di
def Se{a b:Ex}{es:Exs}{P:Val->Sto->Prop}:(qe Φ G env (.a a (.a b es)) s).post P↔(evE Φ G env a s).post λx s1=>∃t,x=.e t/\if t=true then (qe Φ G env (.a b es) s1).post P else P (.e false) s1:=by
 show ((evE Φ G env a s).bind λx s1=>match x with
  |.e true=>qe Φ G env (.a b es) s1
  |.e false=>.e (.e false) s1
  |_=>.d).post P↔_
 simp only[zK];refine yG λx s1=>?_;cases x with
 |e t=>cases t<;>simp[zC,zr]
 |_=>simp[zr]
def Oq{a b:Ex}{es:Exs}{P:Val->Sto->Prop}:(evE Φ G env (.L a (.a b es)) s).post P↔(evE Φ G env a s).post λx s1=>∃t,truth s1 x=some t/\if t=true then P x s1 else (kR Φ G env (.a b es) s1).post P:=by
 show (Out.bind _ _).post P↔_;simp only[zK];refine yG λx s1=>?_;cases truth s1 x with
 |some t=>cases t<;>simp[zC,zr]
 |none=>simp[zr]
def PM{a:Ex}{P:Val->Sto->Prop}:(kR Φ G env (.a a .b) s).post P↔(evE Φ G env a s).post P:=Di
def PN{a b:Ex}{es:Exs}{P:Val->Sto->Prop}:(kR Φ G env (.a a (.a b es)) s).post P↔(evE Φ G env a s).post λx s1=>∃t,truth s1 x=some t/\if t=true then P x s1 else (kR Φ G env (.a b es) s1).post P:=by
 show ((evE Φ G env a s).bind λx s1=>match truth s1 x with
  |some false=>kR Φ G env (.a b es) s1
  |some true=>.e x s1
  |dS=>.d).post P↔_
 simp only[zK];refine yG λx s1=>?_;cases truth s1 x with
 |some t=>cases t<;>simp[zC,zr]
 |none=>simp[zr]
def PC{c:Cn}{a b:Ex}{P:Val->Sto->Prop}:(evE Φ G env (.B c a b) s).post P↔(evT Φ G env c s).post λt s1=>if t=true then (evE Φ G env a s1).post P else (evE Φ G env b s1).post P:=by show (Out.bind _ _).post P↔_;simp only[zK,wQ]
def PR{es:Exs}{P:Val->Sto->Prop}:(evE Φ G env (.q es) s).post P↔(xW Φ G env es s).post λvs s1=>(if vs.length<=zX then Out.e (Val.f vs) s1 else .d).post P:=by show (Out.bind _ _).post P↔_;simp only[zK]
def PH{m:Bool}{es:Exs}{P:Val->Sto->Prop}:(evE Φ G env (.s m es) s).post P↔(xW Φ G env es s).post λvs s1=>(if vs.length<=zX then newList m vs s1 else .d).post P:=by show (Out.bind _ _).post P↔_;simp only[zK]
def Sf{f:Str}{v:Nat}{es:Exs}{P:Val->Sto->Prop}:(evE Φ G env (.h f v es) s).post P↔(xW Φ G env es s).post λvs s1=>(Φ f v vs s1).post P:=by show (Out.bind _ _).post P↔_;simp only[zK]
def Q6{f:Bf}{m:Bool}{es:Exs}{P:Val->Sto->Prop}:(evE Φ G env (.l f m es) s).post P↔(xW Φ G env es s).post λvs s1=>(blt f m vs s1).post P:=by show (Out.bind _ _).post P↔_;simp only[zK]
def Si{f:Mf}{m:Bool}{o:Ex}{es:Exs}{P:Val->Sto->Prop}:(evE Φ G env (.D f m o es) s).post P↔(evE Φ G env o s).post λx s1=>(xW Φ G env es s1).post λvs s2=>(yf f x vs s2).post P:=by show (Out.bind _ _).post P↔_;simp only[zK]
def Z9{m:Bool}{a b c:Ex}{P:Val->Sto->Prop}:(evE Φ G env (.w m a b c) s).post P↔(evE Φ G env a s).post λx s1=>(evE Φ G env b s1).post λy s2=>(evE Φ G env c s2).post λz s3=>(Qu m x y z s3).post P:=by show (Out.bind _ _).post P↔_;simp only[zK]
def PD{a b:Ex}{P:Val->Sto->Prop}:(evE Φ G env (.p a b) s).post P↔(evE Φ G env a s).post λx s1=>(evE Φ G env b s1).post λy s2=>(wo x y s2).post P:=by show (Out.bind _ _).post P↔_;simp only[zK]
def Ot{m:Bool}{a:Ex}{lo hi st:OEx}{P:Val->Sto->Prop}:(evE Φ G env (.J m a lo hi st) s).post P↔(evE Φ G env a s).post λx s1=>(evO Φ G env lo s1).post λl s2=>(evO Φ G env hi s2).post λh s3=>(evO Φ G env st s3).post λc s4=>(uY m x l h c s4).post P:=by show (Out.bind _ _).post P↔_;simp only[zK]
def Sj{P:Option Int->Sto->Prop}:(evO Φ G env .b s).post P↔P none s:=zC
def Sk{e:Ex}{P:Option Int->Sto->Prop}:(evO Φ G env (.a e) s).post P↔(evE Φ G env e s).post λv s1=>∃i,v=.c i/\P (some i) s1:=by show (Out.bind _ _).post P↔_;simp only[zK];exact yG λx s1=>by cases x<;>simp[zC,zr]
def mF{P:List Val->Sto->Prop}:(xW Φ G env .b s).post P↔P [] s:=zC
def qR{e:Ex}{es:Exs}{P:List Val->Sto->Prop}:(xW Φ G env (.a e es) s).post P↔(evE Φ G env e s).post λv s1=>(xW Φ G env es s1).post λvs s2=>P (v::vs) s2:=by show (Out.bind _ _).post P↔_;simp only[zK,zC]
def V9{e:Ex}{P:Bool->Sto->Prop}:(evT Φ G env (.a e) s).post P↔(evE Φ G env e s).post λv s1=>∃b,truth s1 v=some b/\P b s1:=by
 show (Out.bind (evE Φ G env e s) _).post P↔_;simp only[zK];refine⟨λh=>zQ h λv s1 h=>?_,λh=>zQ h λv s1 h=>?_⟩
 . split at h
   . rename_i b e;exact⟨b,e,zC.mp h⟩
   . obtain⟨_,_,e,_⟩:=h;cases e
 . obtain⟨b,e,h⟩:=h
   rw[e];exact zC.mpr h
def Su{c:Cn}{P:Bool->Sto->Prop}:(evT Φ G env (.b c) s).post P↔(evT Φ G env c s).post λb s1=>P (!b) s1:=by show (Out.bind _ _).post P↔_;simp only[zK,zC]
def Ss{c:Cn}{cs:Cns}{P:Bool->Sto->Prop}:(evT Φ G env (.d c cs) s).post P↔(evT Φ G env c s).post λb s1=>if b=true then (x6 Φ G env cs s1).post P else P false s1:=by show (Out.bind _ _).post P↔_;simp only[zK,wQ,zC]
def PQ{c:Cn}{cs:Cns}{P:Bool->Sto->Prop}:(evT Φ G env (.f c cs) s).post P↔(evT Φ G env c s).post λb s1=>if b=true then P true s1 else (qr Φ G env cs s1).post P:=by show (Out.bind _ _).post P↔_;simp only[zK,wQ,zC]
def vJ{P:Bool->Sto->Prop}:(x6 Φ G env .b s).post P↔P true s:=zC
def Wx{P:Bool->Sto->Prop}:(qr Φ G env .b s).post P↔P false s:=zC
def YB{c:Cn}{cs:Cns}{P:Bool->Sto->Prop}:(x6 Φ G env (.a c cs) s).post P↔(evT Φ G env c s).post λb s1=>if b=true then (x6 Φ G env cs s1).post P else P false s1:=by show (Out.bind _ _).post P↔_;simp only[zK,wQ,zC]
def YA{c:Cn}{cs:Cns}{P:Bool->Sto->Prop}:(qr Φ G env (.a c cs) s).post P↔(evT Φ G env c s).post λb s1=>if b=true then P true s1 else (qr Φ G env cs s1).post P:=by show (Out.bind _ _).post P↔_;simp only[zK,wQ,zC]
def Z8{e:Ex}{P:Src->Sto->Prop}:(xD Φ G env (.f e) s).post P↔(evE Φ G env e s).post λv s1=>∃r,srcOf s1 v=some r/\P r s1:=by
 show (Out.bind _ _).post P↔_;simp only[zK];refine⟨λh=>zQ h λv s1 h=>?_,λh=>zQ h λv s1 h=>?_⟩
 . split at h
   . rename_i b e;exact⟨b,e,zC.mp h⟩
   . obtain⟨_,_,e,_⟩:=h;cases e
 . obtain⟨b,e,h⟩:=h
   rw[e];exact zC.mpr h
def jF{a:Ex}{P:Src->Sto->Prop}:(xD Φ G env (.c a) s).post P↔(evE Φ G env a s).post λx s1=>∃j,x=.c j/\(-(2 ^ 62)<=j/\j<=zX)/\P ⟨yC 0 j.toNat,dS⟩ s1:=by
 show (Out.bind _ _).post P↔_;simp only[zK];refine⟨λh=>zQ h λv s1 h=>?_,λh=>zQ h λv s1 h=>?_⟩
 . split at h
   . rw[wQ]at h
     split at h
     . rename_i j z;exact⟨_,rfl,z,zC.mp h⟩
     . obtain⟨_,_,e,_⟩:=h;cases e
   . obtain⟨_,_,e,_⟩:=h;cases e
 . obtain⟨j,rfl,z,h⟩:=h
   simp only[if_pos z];exact zC.mpr h
def jG{a b:Ex}{P:Src->Sto->Prop}:(xD Φ G env (.d a b) s).post P↔(evE Φ G env a s).post λx s1=>(evE Φ G env b s1).post λy s2=>∃i j,x=.c i/\y=.c j/\(-(2 ^ 62)<=i/\i<2 ^ 62∧-(2 ^ 62)<=j/\j<2 ^ 62/\j-i<=zX)/\P ⟨yC i (j-i).toNat,dS⟩ s2:=by
 show (Out.bind _ _).post P↔_;simp only[zK];refine⟨λh=>zQ h λv s1 h=>zQ h λw s2 h=>?_,λh=>zQ h λv s1 h=>zQ h λw s2 h=>?_⟩
 . split at h
   . rw[wQ]at h
     split at h
     . rename_i z;exact⟨_,_,rfl,rfl,z,zC.mp h⟩
     . obtain⟨_,_,e,_⟩:=h;cases e
   . obtain⟨_,_,e,_⟩:=h;cases e
 . obtain⟨i,j,rfl,rfl,z,h⟩:=h
   simp only[if_pos z];exact zC.mpr h
def Sh{a:Ex}{P:Src->Sto->Prop}:(xD Φ G env (.g a) s).post P↔(evE Φ G env a s).post λx s1=>∃vs,(x=.f vs\/x=.k vs)/\P ⟨yL 0 vs,dS⟩ s1:=by
 show (Out.bind _ _).post P↔_;simp only[zK];refine⟨λh=>zQ h λv s1 h=>?_,λh=>zQ h λv s1 h=>?_⟩
 . split at h
   . exact⟨_,.inl rfl,zC.mp h⟩
   . exact⟨_,.inr rfl,zC.mp h⟩
   . obtain⟨_,_,e,_⟩:=h;cases e
 . obtain⟨j,rfl|rfl,h⟩:=h<;>exact zC.mpr h
def Z7{e:Ex}{P:Fl->Sto->Prop}:(exS Φ G env (.h e) s).post P↔(evE Φ G env e s).post λ_ s1=>P (.a env) s1:=by show (Out.bind _ _).post P↔_;simp only[zK,zC]
def jH{e:Ex}{P:Fl->Sto->Prop}:(exS Φ G env (.d e) s).post P↔(evE Φ G env e s).post λv s1=>P (.b v) s1:=by show (Out.bind _ _).post P↔_;simp only[zK,zC]
def So{P:Fl->Sto->Prop}:(exS Φ G env .v s).post P↔P (.b .g) s:=zC
def Z5{i:Nat}{e:Ex}{P:Fl->Sto->Prop}:(exS Φ G env (.g i e) s).post P↔(evE Φ G env e s).post λv s1=>P (.a (env.set i (some v))) s1:=by show (Out.bind _ _).post P↔_;simp only[zK,zC]
def Z6{is:List Nat}{e:Ex}{P:Fl->Sto->Prop}:(exS Φ G env (.p is e) s).post P↔(evE Φ G env e s).post λv s1=>∃env',xO (.b is) v env=some env'/\P (.a env') s1:=by
 show (Out.bind _ _).post P↔_;simp only[zK];refine⟨λh=>zQ h λv s1 h=>?_,λh=>zQ h λv s1 h=>?_⟩
 . split at h
   . rename_i b e;exact⟨b,e,zC.mp h⟩
   . obtain⟨_,_,e,_⟩:=h;cases e
 . obtain⟨b,e,h⟩:=h
   rw[e];exact zC.mpr h
def mG{is:List Nat}{es:Exs}{P:Fl->Sto->Prop}:(exS Φ G env (.n is es) s).post P↔(xW Φ G env es s).post λvs s1=>(if vs.length=is.length then Out.e (Fl.a ((is.zip vs).foldl (λe p=>e.set p.1 (some p.2)) env)) s1 else .d).post P:=by show (Out.bind _ _).post P↔_;simp only[zK]
def Ww{o i e:Ex}{P:Fl->Sto->Prop}:(exS Φ G env (.l o i e) s).post P↔(evE Φ G env e s).post λv s1=>(evE Φ G env o s1).post λx s2=>(evE Φ G env i s2).post λy s3=>∃r k vs j,x=.h r/\y=.c k/\s3[r]?=some (.c vs)/\L2.ixN vs.length k=some j/\P (.a env) (upd s3 r (vs.set j v)):=by
 show (Out.bind _ _).post P↔_;simp only[zK];refine yG λv s1=>yG λx s2=>yG λy s3=>⟨λh=>?_,λ⟨r,k,vs,j,h1,h2,h3,h4,h5⟩=>?_⟩
 . split at h
   . split at h
     . rename_i e3
       split at h
       . rename_i e4;exact⟨_,_,_,_,rfl,rfl,e3,e4,zC.mp h⟩
       . exact(zr.mp h).elim
     . exact(zr.mp h).elim
   . exact(zr.mp h).elim
 . subst h1;subst h2
   simp only[h3,h4];exact zC.mpr h5
def Wv{c:Cn}{a b:Sms}{P:Fl->Sto->Prop}:(exS Φ G env (.f c a b) s).post P↔(evT Φ G env c s).post λt s1=>if t=true then (zj Φ G env a s1).post P else (zj Φ G env b s1).post P:=by show (Out.bind _ _).post P↔_;simp only[zK,wQ]
def Sl{P:Fl->Sto->Prop}:(exS Φ G env .u s).post P↔P (.a env) s:=zC
def Q7{P:Fl->Sto->Prop}:(exS Φ G env .w s).post P↔P (.c env) s:=zC
def Sg{P:Fl->Sto->Prop}:(exS Φ G env .s s).post P↔P (.d env) s:=zC
def i7{P:Fl->Sto->Prop}:(zj Φ G env .b s).post P↔P (.a env) s:=zC
def og(Φ:Calls)(G:Str->Option Val)(cs:Sms)(P:Fl->Sto->Prop):Fl->Sto->Prop
 |.a e,s1=>(zj Φ G e cs s1).post P
 |fl,s1=>P fl s1
def zm{c:Sm}{cs:Sms}{P:Fl->Sto->Prop}:(zj Φ G env (.a c cs) s).post P↔(exS Φ G env c s).post (og Φ G cs P):=by
 show (Out.bind _ _).post P↔_;simp only[zK];have:∀fl s1,(match fl with|.a e=>zj Φ G e cs s1|fl=>Out.e fl s1:Out Fl).post P↔og Φ G cs P fl s1:=λfl s1=>by
  cases fl with
  |a e=>exact Di
  |_=>exact zC
 exact⟨λh=>zQ h λfl s1 h=>(this fl s1).mp h,λh=>zQ h λfl s1 h=>(this fl s1).mpr h⟩
def Vl{cs:Sms}{P:Fl->Sto->Prop}{e:Env}:og Φ G cs P (.a e) s↔(zj Φ G e cs s).post P:=Di
def Vm{cs:Sms}{P:Fl->Sto->Prop}{v:Val}:og Φ G cs P (.b v) s↔P (.b v) s:=Di
def Vj{cs:Sms}{P:Fl->Sto->Prop}{v:Env}:og Φ G cs P (.c v) s↔P (.c v) s:=Di
def Vk{cs:Sms}{P:Fl->Sto->Prop}{v:Env}:og Φ G cs P (.d v) s↔P (.d v) s:=Di
theorem uO{I:Env->Prop}(hr:r.ok s=true):∀xs,(∀x∈xs,∀e acc,I e->∃e1 e2,xO t x e=some e1/\body e1 s acc=.e (acc++g x,e2) s/\I e2)->∀e acc,I e->∃e',I e'/\xP r t body xs e s acc=.e (acc++xs.flatMap g,e') s
 |[],_,e,acc,h0=>⟨e,h0,by simp[xP,hr]⟩
 |x::xs,h,e,acc,h0=>by obtain⟨e1,e2,h1,h2,h3⟩:=h x (.head _) e acc h0;obtain⟨e',h4,h5⟩:=uO hr xs (λy hy=>h y (.tail _ hy)) e2 (acc++g x) h3;refine⟨e',h4,?_⟩;simp only[xP,hr,if_true,h1,h2,zR,h5,A7,Bc]
def lP(I:Env->Prop)g
 (h:(xD Φ G env it s).post λr s1=>r.ok s1=true/\I (zP fr env)/\(∀x∈r.a,∀e,I e->∃e1,xO t x e=some e1/\I e1/\(x6 Φ G e1 ifs s1).post λb s2=>s2=s1/\if b=true then (evE Φ G e1 elt s1).post (λv s2=>s2=s1/\g x=[v]) else g x=[])/\(newList m (r.a.flatMap g) s1).post P) :
 (evE Φ G env (.r m N fr elt t it ifs) s).post P:=by
 obtain⟨r,s1,ei,h1,h2,h3,h4⟩:=h;obtain⟨e',_,h5⟩:=uO (I:=I) (g:=g) (body:=λe s' acc=>(x6 Φ G e ifs s').bind λb s2=>if b then (evE Φ G e elt s2).bind λv s3=>.e (acc++[v],e) s3 else .e (acc,e) s2) h1 r.a (λx hx e acc he=>by
  obtain⟨e1,k1,k2,b,s2,k3,rfl,k4⟩:=h3 x hx e he;refine⟨e1,e1,k1,?_,k2⟩;rw[k3,zR];cases b with
  |true=>
   rw[if_pos rfl]at k4 ⊢;obtain⟨v,s3,kw,rfl,kv⟩:=k4;rw[kw,zR,kv]
  |false=>
   rw[if_neg Aa]at k4 ⊢;rw[k4,Ba]) (zP fr env) [] h2
 show (Out.bind (xD Φ G env it s) _).post P;rw[ei,zR];rw[h5,zR];exact h4
def Small(l:List Val):Prop:=l.length<=zX
def f9(I:Env->Prop)g(J:Val->Env->Prop)(g2:Val->Val->List Val)
 (h:(xD Φ G env it s).post λr s1=>r.ok s1=true/\I (zP fr env)/\(∀x∈r.a,∀e,I e->∃e1,xO t x e=some e1/\(x6 Φ G e1 ifs s1).post λb s2=>s2=s1/\if b=true then (xD Φ G e1 it2 s1).post (λr2 s2=>s2=s1/\r2.ok s1=true/\J x e1/\(∀e,J x e->I e)/\g x=r2.a.flatMap (g2 x)/\∀y∈r2.a,∀e,J x e->∃e2,xO t2 y e=some e2/\J x e2/\(x6 Φ G e2 ifs2 s1).post λb s2=>s2=s1/\if b=true then (evE Φ G e2 elt s1).post (λv s2=>s2=s1/\g2 x y=[v]) else g2 x y=[]) else g x=[]/\I e1)/\Small (r.a.flatMap g)/\(newList m (r.a.flatMap g) s1).post P) :
 (evE Φ G env (.y m N fr elt t it ifs t2 it2 ifs2) s).post P:=by
 obtain⟨r,s1,ei,h1,h2,h3,hl,h4⟩:=h;obtain⟨e',_,h5⟩:=uO (I:=I) (g:=g) (body:=λe s' acc=>(x6 Φ G e ifs s').bind λb s2=>if b then (xD Φ G e it2 s2).bind λr2 s3=>
        xP r2 t2 (λe' s4 acc'=>(x6 Φ G e' ifs2 s4).bind λb' s5=>if b' then (evE Φ G e' elt s5).bind λv s6=>.e (acc'++[v],e') s6 else .e (acc',e') s5) r2.a e s3 acc
  else .e (acc,e) s2) h1 r.a (λx hx e acc he=>by
  obtain⟨e1,k1,b,s2,k3,rfl,k4⟩:=h3 x hx e he;cases b with
  |true=>
   rw[if_pos rfl]at k4;obtain⟨r2,s3,k5,rfl,k6,k7,k8,k9,k10⟩:=k4;obtain⟨e2,k11,k12⟩:=uO (I:=J x) (g:=g2 x) (body:=λe' s4 acc'=>(x6 Φ G e' ifs2 s4).bind λb' s5=>if b' then (evE Φ G e' elt s5).bind λv s6=>.e (acc'++[v],e') s6 else .e (acc',e') s5) k6 r2.a (λy hy e acc he=>by
    obtain⟨e1,k1,k2,b,s2,k3,rfl,k4⟩:=k10 y hy e he;refine⟨e1,e1,k1,?_,k2⟩;rw[k3,zR];cases b with
    |true=>
     rw[if_pos rfl]at k4 ⊢;obtain⟨v,s3,kw,rfl,kv⟩:=k4;rw[kw,zR,kv]
    |false=>
     rw[if_neg Aa]at k4 ⊢;rw[k4,Ba]) e1 acc k7
   refine⟨e1,e2,k1,?_,k8 _ k11⟩;rw[k3,zR,if_pos rfl,k5,zR,k12,k9]
  |false=>
   rw[if_neg Aa]at k4;refine⟨e1,e1,k1,?_,k4.2⟩;rw[k3,zR,if_neg Aa,k4.1,Ba]) (zP fr env) [] h2
 show (Out.bind (xD Φ G env it s) _).post P;rw[ei,zR];rw[h5,zR];simp only[CQ];rw[if_pos (show (r.a.flatMap g).length<=zX from hl)];exact h4
theorem n9(Q:List Val->Env->Sto->List Val->Prop):∀xs,(∀e s acc,Q [] e s acc->r.ok s=true)->(∀x rest e s acc,Q (x::rest) e s acc->r.ok s=true/\∃e1,xO t x e=some e1/\(body e1 s acc).post λp s2=>Q rest p.2 s2 p.1)->∀e s acc,Q xs e s acc->(xP r t body xs e s acc).post λp s2=>Q [] p.2 s2 p.1
 |[],h0,_,e,s,acc,q=>by
  simp only[xP,h0 e s acc q,if_true];exact zC.mpr q
 |x::xs,h0,h,e,s,acc,q=>by obtain⟨h1,e1,h2,h3⟩:=h x xs e s acc q;simp only[xP,h1,if_true,h2,zK];exact zQ h3 λp s2 q=>n9 Q xs h0 h p.2 s2 p.1 q
def Wu(Q:List Val->Env->Sto->List Val->Prop)
 (h:(xD Φ G env it s).post λr s1=>Q r.a (zP fr env) s1 []/\(∀rest e s acc,Q rest e s acc->r.ok s=true)/\(∀x rest e s acc,Q (x::rest) e s acc->∃e1,xO t x e=some e1/\(x6 Φ G e1 ifs s).post λb s2=>if b=true then (evE Φ G e1 elt s2).post (λv s3=>Q rest e1 s3 (acc++[v])) else Q rest e1 s2 acc)/\∀e s acc,Q [] e s acc->(newList m acc s).post P) :
 (evE Φ G env (.r m N fr elt t it ifs) s).post P:=by
 obtain⟨r,s1,ei,h1,h2,h3,h4⟩:=h;show (Out.bind (xD Φ G env it s) _).post P;rw[ei,zR,zK];refine zQ (n9 Q r.a (λe s acc q=>h2 _ e s acc q) (λx rest e s acc q=>⟨h2 _ e s acc q,?_⟩) _ _ _ h1) λp s2 q=>h4 _ _ _ q;obtain⟨e1,k1,k2⟩:=h3 x rest e s acc q;refine⟨e1,k1,?_⟩;simp only[zK];refine zQ k2 λb s2 k=>?_;cases b with
 |true=>
  rw[if_pos rfl]at k ⊢;simp only[zK,zC];exact k
 |false=>
  rw[if_neg Aa]at k ⊢;exact zC.mpr k
theorem qK(Q:List Val->Env->Sto->Prop)(R:Fl->Sto->Prop){r:Src}{t:Tgt}{body:Env->Sto->Out Fl}(h0:∀e s,Q [] e s->R (.a e) s):∀(xs:List Val),(∀rest e s,Q rest e s->r.ok s=true)->(∀x rest e s,Q (x::rest) e s->∃e1,xO t x e=some e1/\(body e1 s).post λfl s2=>match fl with|.a e=>Q rest e s2|.d e=>Q rest e s2|.c e=>R (.a e) s2|.b v=>R (.b v) s2)->∀e s,Q xs e s->(uZ r t body xs e s).post R
 |[],hk,_,e,s,q=>by
  simp only[uZ,hk _ _ _ q,if_true];exact zC.mpr (h0 _ _ q)
 |x::xs,hk,h,e,s,q=>by
  obtain⟨e1,h2,h3⟩:=h x xs e s q;simp only[uZ,hk _ _ _ q,if_true,h2,zK];refine zQ h3 λfl s2 q=>?_;cases fl with
  |a e=>exact qK Q R h0 xs hk h e s2 q
  |d e=>exact qK Q R h0 xs hk h e s2 q
  |c e=>exact zC.mpr q
  |b v=>exact zC.mpr q
def rV(Q:Env->Sto->Prop)(R:Fl->Sto->Prop):Fl->Sto->Prop
 |.a e,s=>Q e s
 |.d e,s=>Q e s
 |.c e,s=>R (.a e) s
 |.b v,s=>R (.b v) s
def Vd{Q:Env->Sto->Prop}{R:Fl->Sto->Prop}{e:Env}:rV Q R (.a e) s↔Q e s:=Di
def Vc{Q:Env->Sto->Prop}{R:Fl->Sto->Prop}{e:Env}:rV Q R (.d e) s↔Q e s:=Di
def Vb{Q:Env->Sto->Prop}{R:Fl->Sto->Prop}{e:Env}:rV Q R (.c e) s↔R (.a e) s:=Di
def Ve{Q:Env->Sto->Prop}{R:Fl->Sto->Prop}{v:Val}:rV Q R (.b v) s↔R (.b v) s:=Di
def Q8(Q:List Val->Env->Sto->Prop)
 (h:(xD Φ G env it s).post λr s1=>Q r.a env s1/\(∀rest e s,Q rest e s->r.ok s=true)/\(∀x rest e s,Q (x::rest) e s->∃e1,xO t x e=some e1/\(zj Φ G e1 b s).post (rV (Q rest) R))/\∀e s,Q [] e s->R (.a e) s) :
 (exS Φ G env (.j t it b) s).post R:=by
 obtain⟨r,s1,ei,h1,h2,h3,h4⟩:=h;show (Out.bind (xD Φ G env it s) _).post R;rw[ei,zR];refine qK Q R h4 r.a h2 (λx rest e s q=>?_) _ _ h1;obtain⟨e1,k1,k2⟩:=h3 x rest e s q;refine⟨e1,k1,zQ k2 λfl s2 k=>?_⟩;cases fl<;>exact k
def wA(Q:List Val->Env->Sto->Prop)xs(hi:xD Φ G env it s=.e ⟨xs,dS⟩ s1)(h0:Q xs env s1)
 (h1:∀x rest e s,Q (x::rest) e s->∃e1,xO t x e=some e1/\(zj Φ G e1 b s).post (rV (Q rest) R)) (h2:∀e s,Q [] e s->R (.a e) s) :
 (exS Φ G env (.j t it b) s).post R:=Q8 Q ⟨_,_,hi,h0,λ_ _ _ _=>rfl,h1,h2⟩
def uU(I:Env->Prop)g xs(hi:xD Φ G env it s=.e ⟨xs,dS⟩ s1)(h0:I (zP fr env))
 (h1:∀x∈xs,∀e,I e->∃e1,xO t x e=some e1/\I e1/\(x6 Φ G e1 ifs s1).post λb s2=>s2=s1/\if b=true then (evE Φ G e1 elt s1).post (λv s2=>s2=s1/\g x=[v]) else g x=[]) (h2:(newList m (xs.flatMap g) s1).post P) :
 (evE Φ G env (.r m N fr elt t it ifs) s).post P:=lP I g ⟨_,_,hi,rfl,h0,h1,h2⟩
def d7(Q:Nat->Env->Sto->Prop)R:∀n k,n<k->(∀n e s,Q n e s->(c e s).post λb s1=>if b=true then (body e s1).post (rV (λe s=>∃m,m<n/\Q m e s) R) else R (.a e) s1)->∀e s,Q n e s->(uw c body k e s).post R:=by
 intro n;induction n using Nat.strongRecOn with
 |ind n ih=>
  intro k hk h e s q;cases k with
  |zero=>omega
  |succ k=>
   simp only[uw,zK];refine zQ (h n e s q) λb s1 z=>?_;cases b with
   |true=>
    rw[if_pos rfl]at z ⊢;simp only[zK];refine zQ z λfl s2 z=>?_;cases fl with
    |a e=>
     obtain⟨m,h1,h2⟩:=z;exact ih m h1 k ⋯ h e s2 h2
    |d e=>
     obtain⟨m,h1,h2⟩:=z;exact ih m h1 k ⋯ h e s2 h2
    |c e=>exact zC.mpr z
    |b v=>exact zC.mpr z
   |false=>
    rw[if_neg Aa]at z ⊢;exact zC.mpr z
def Wy n(Q:Nat->Env->Sto->Prop)(hn:n<l5)(q:Q n env s)
 (h:∀n e s,Q n e s->(evT Φ G e c s).post λt s1=>if t=true then (zj Φ G e b s1).post (rV (λe s=>∃m,m<n/\Q m e s) R) else R (.a e) s1) :
 (exS Φ G env (.m c b) s).post R:=d7 Q R n l5 hn h env s q
end
def Vn{s:Sto}:truth s .g=some false:=rfl
def zF{s:Sto}{b:Bool}:truth s (.e b)=some b:=rfl
def Rp{s:Sto}{i:Int}:truth s (.c i)=some (i != 0):=rfl
def XE{s:Sto}{vs:List Val}:truth s (.f vs)=some !vs.isEmpty:=rfl
def gZ{s:Sto}{vs:List Val}:truth s (.k vs)=some !vs.isEmpty:=rfl
def Rf{s:Sto}{vs:List Val}:srcOf s (.f vs)=some ⟨vs,dS⟩:=rfl
def Rc{s:Sto}{vs:List Val}:srcOf s (.k vs)=some ⟨vs,dS⟩:=rfl
def VZ{s:Sto}{ns:List Int}:srcOf s (.m ns)=some ⟨ns.map .c,dS⟩:=rfl
def Y5{s:Sto}{xs:List Val}:Src.ok ⟨xs,dS⟩ s=true:=rfl
def QB{i:Nat}{v:Val}{env:Env}:xO (.a i) v env=some (env.set i (some v)):=rfl
def Ue{is:List Nat}{vs:List Val}{env:Env}:xO (.b is) (.f vs) env=if vs.length=is.length then some ((is.zip vs).foldl (λe p=>e.set p.1 (some p.2)) env) else dS:=rfl
def aF vs:r8 vs vs=true:=tR vs
def kD(c:Cel):c.beq c=true:=by cases c<;>simp[Cel.beq,aF]
theorem uA:∀s t,vG s (s++t)=true
 |[],_=>rfl
 |c::r,t=>by simp[vG,kD c,uA r t]
def ip s:vG s s=true:=by have:=uA s [];rwa [Ba]at this
theorem sV:∀s t i c,c.noRef=true->vG s (s.set i c++t)=true
 |[],_,_,_,_=>by simp[vG]
 |_::r,t,0,c,h=>by simp[vG,h,uA r t]
 |o::r,t,i+1,c,h=>by simp[vG,kD o,sV r t i c h]
def cI s t i vs(h:zy vs=true):vG s (s.set i (.c vs)++t)=true:=sV s t i _ h
def yy:Val.g.noRef=true:=by rw[Val.noRef]
def xK{b:Bool}:(Val.e b).noRef=true:=by rw[Val.noRef]
def yg{b:Int}:(Val.c b).noRef=true:=by rw[Val.noRef]
def il{b:Str}:(Val.j b).noRef=true:=by rw[Val.noRef]
def vm{vs:List Val}:(Val.f vs).noRef=zy vs:=by rw[Val.noRef]
def lM{vs:List Val}:(Val.k vs).noRef=zy vs:=by rw[Val.noRef]
def uS:zy []=true:=by rw[zy]
def xg{v:Val}{vs:List Val}:zy (v::vs)=(v.noRef&&zy vs):=by rw[zy]
theorem xE:∀ns:List Int,zy (ns.map .c)=true
 |[]=>rfl
 |_::ns=>by simp[zy,Val.noRef,xE ns]
theorem uQ:∀zs:List (Int × Int),zy (zs.map prV)=true
 |[]=>rfl
 |_::zs=>by simp[zy,Val.noRef,prV,uQ zs]
def zU(k:Bool)(s0:Sto)(v:Val)(s:Sto):Out Val:=
 if k then .e v s
 else if vG s0 s then (match freeze s0.length s v with|some v'=>.e v' (s.take s0.length)|dS=>.d) else .d
def kZ{s0 s:Sto}{v:Val}:zU true s0 v s=.e v s:=rfl
def zL{k:Bool}{s:Sto}{v:Val}(h:v.noRef=true):zU k s v s=.e v s:=by
 unfold zU;cases k
 . simp[ip,freeze,h]
 . rfl
def p6(h:v.noRef=true):zU false s v (s++t)=.e v s:=by unfold zU;simp[uA,freeze,h]
def iX(h:v.noRef=true)(hv:zy vs=true):zU false s v (s.set i (.c vs)++t)=.e v (s.set i (.c vs)):=by
 unfold zU;have e:s.length=(s.set i (.c vs)).length:=by rw[A6]
 simp only[cI s t i vs hv,freeze,h,if_true,AV,if_false,e,List.take_left']
def fin(k:Bool)(s:Sto)(P:Val->Sto->Prop):Fl->Sto->Prop
 |.a _,s1=>(zU k s .g s1).post P
 |.b v,s1=>(zU k s v s1).post P
 |_,_=>False
def Ux{k:Bool}{s s1:Sto}{P:Val->Sto->Prop}{e:Env}:fin k s P (.a e) s1↔(zU k s .g s1).post P:=Di
def Uy{k:Bool}{s s1:Sto}{P:Val->Sto->Prop}{v:Val}:fin k s P (.b v) s1↔(zU k s v s1).post P:=Di
def zw{T:Tbl}{Φ:Calls}{N ps:List Str}{k:Bool}{b:Sms}{vs:List Val}{s:Sto}{P:Val->Sto->Prop}:(run T Φ ⟨N,ps,k,b⟩ vs s).post P↔vs.length=ps.length/\(zj Φ T.b (zc N vs) b s).post (fin k s P):=by
 unfold run;by_cases hl:vs.length=ps.length
 . rw[if_pos hl,zK]
   refine⟨λh=>⟨hl,zQ h λfl s1 h=>?_⟩,λh=>zQ h.2 λfl s1 h=>?_⟩
   . cases fl<;>first|exact h|exact(zr.mp h).elim
   . cases fl<;>first|exact h|exact h.elim
 . rw[if_neg hl]
   exact⟨λh=>(zr.mp h).elim,λh=>absurd h.1 hl⟩
def zH(h:T.c f v=some F)vs s:zG T (n+1) f v vs s=run T (zG T n) F vs s:=by simp only[zG,h]
def At(T:Tbl)(k:Nat)(C:Calls->Prop):Prop:=∀n,k<=n->C (zG T n)
def EVl:=Ai @PF <| Ai @YC <| Ai @Q9 <| Ai @Ou <| Ai @V7 <| Ai @PJ <| Ai @PK <| Ai @V8 <| Ai @Wt <| Ai @Q5 <| Ai @Sd <| Ai @Se <| Ai @Oq <| Ai @PM <| Ai @PN <| Ai @PC <| Ai @PR <| Ai @PH <| Ai @Sf <| Ai @Q6 <| Ai @Si <| Ai @Z9 <| Ai @PD <| Ai @Ot <| Ai @Sj <| Ai @Sk <| Ai @mF <| Ai @qR <| Ai @V9 <| Ai @Su <| Ai @Ss <| Ai @PQ <| Ai @vJ <| Ai @Wx <| Ai @YB <| Ai @YA <| Ai @Z8 <| Ai @jF <| Ai @jG <| Ai @Sh <| Ai @Z7 <| Ai @jH <| Ai @So <| Ai @Z5 <| Ai @Z6 <| Ai @mG <| Ai @Ww <| Ai @Wv <| Ai @Sl <| Ai @Q7 <| Ai @Sg <| Ai @i7 <| Ai @zm <| Ai @Vl <| Ai @Vm <| Ai @Vj <| Ai @Vk <| Ai @Vd <| Ai @Vc <| Ai @Vb <| Ai @Ve <| Ai @zC <| Ai @wQ <| Ai @zr <| Ai @Vn <| Ai @zF <| Ai @Rp <| Ai @XE <| Ai @gZ <| Ai @Rf <| Ai @Rc <| Ai @VZ <| Ai @Y5 <| Ai @QB <| Ai @Ue <| Ai @zw <| Ai @Ux <| Ai @Uy <| Ai @kZ <| Ai @zL <| Ai @yy <| Ai @xK <| Ai @yg <| Ai @il <| Ai @vm <| Ai @lM <| Ai @uS <| Ai @xg <| Ai @xE <| @uQ
end M
end
section
namespace M
open PySem
def bnd{o:Out α}{a}{f}{r:Out β}(h:o=.e a s)(k:f a s=r):o.bind f=r:=by rw[h];exact k
section
variable {Φ:Calls}{G:Str->Option Val}{env:Env}{s s1 s2 s3 s4:Sto}
def zE:evE Φ G env (.g v) s=.e v s:=rfl
def zB(h:env[i]?=some (some v)):evE Φ G env (.e i) s=.e v s:=post_eq.mpr (YC.mpr ⟨v,h,rfl,rfl⟩)
def oq:evE Φ G env (.G x n) s=.e (.q n) s:=rfl
def jz(h1:evE Φ G env a s=.e (.e true) s1)(h2:evE Φ G env b s1=r):evE Φ G env (.u a (.a b .b)) s=r:=bnd h1 h2
def ub(h:G x=some v):evE Φ G env (.z x) s=.e v s:=post_eq.mpr (Q9.mpr ⟨v,h,rfl,rfl⟩)
def oo(h1:evE Φ G env a s=.e (.e false) s1):evE Φ G env (.u a (.a b es)) s=.e (.e false) s1:=bnd h1 rfl
def XX(h1:evE Φ G env a s=.e (.e true) s1)(h2:evE Φ G env b s1=.e (.e false) s2):evE Φ G env (.u a (.a b (.a c es))) s=.e (.e false) s2:=bnd h1 (show (evE Φ G env b s1).bind _=_ from bnd h2 rfl)
def XY(h1:evE Φ G env a s=.e (.e true) s1)(h2:evE Φ G env b s1=.e (.e true) s2)(h3:evE Φ G env c s2=r):evE Φ G env (.u a (.a b (.a c .b))) s=r:=bnd h1 (show (evE Φ G env b s1).bind _=_ from bnd h2 h3)
def eo(h:evE Φ G env a s=.e (.c i) s1):evE Φ G env (.C a) s=.e (.c (-i)) s1:=bnd h rfl
def yH(h1:evE Φ G env a s=.e x s1)(h2:evE Φ G env b s1=.e y s2)(h3:binOp m op x y s2=r):evE Φ G env (.k m op a b) s=r:=bnd h1 (bnd h2 h3)
def zZ(h1:evE Φ G env a s=.e x s1)(h2:evE Φ G env b s1=.e y s2)(h3:zi op x y s2=r):evE Φ G env (.j op a b) s=r:=bnd h1 (bnd h2 h3)
def yR(h1:evE Φ G env a s=.e x s1)(h2:evE Φ G env b s1=.e y s2)(h3:wo x y s2=r):evE Φ G env (.p a b) s=r:=bnd h1 (bnd h2 h3)
def Wf:evO Φ G env .b s=.e none s:=rfl
def V6(h:evE Φ G env e s=.e (.c i) s1):evO Φ G env (.a e) s=.e (some i) s1:=bnd h rfl
def OS(h0:evE Φ G env a s=.e x s1)(h1:evO Φ G env lo s1=.e l s2)(h2:evO Φ G env hi s2=.e h s3)(h3:evO Φ G env st s3=.e c s4)(h4:uY m x l h c s4=r):evE Φ G env (.J m a lo hi st) s=r:=bnd h0 (bnd h1 (bnd h2 (bnd h3 h4)))
def zD:xW Φ G env .b s=.e [] s:=rfl
def zA(h1:evE Φ G env e s=.e v s1)(h2:xW Φ G env es s1=.e vs s2):xW Φ G env (.a e es) s=.e (v::vs) s2:=bnd h1 (bnd h2 rfl)
def tw{P:List Val->Sto->Prop}(h:evE Φ G env e s=.e v s1)(k:(xW Φ G env es s1).post λvs s2=>P (v::vs) s2):(xW Φ G env (.a e es) s).post P:=qR.mpr (by rw[h];exact zC.mpr k)
def vH(h:xW Φ G env es s=.e vs s1)(hl:vs.length<=zX):evE Φ G env (.q es) s=.e (.f vs) s1:=bnd h (if_pos hl)
def rh(h:xW Φ G env es s=.e vs s1)(hl:vs.length<=zX):evE Φ G env (.s false es) s=.e (.k vs) s1:=bnd h (if_pos hl)
def zo(h:xW Φ G env es s=.e vs s1)(k:blt f m vs s1=r):evE Φ G env (.l f m es) s=r:=bnd h k
def x_call(h:xW Φ G env es s=.e vs s1)(k:Φ f v vs s1=r):evE Φ G env (.h f v es) s=r:=bnd h k
def xM(h:xW Φ G env es s=.e vs s1)(k:(Φ f v vs s1).post P):(evE Φ G env (.h f v es) s).post P:=by rw[x_call h rfl];exact k
def yd(h:evE Φ G env e s=.e v s1)(k:(zj Φ G (env.set i (some v)) cs s1).post P):(zj Φ G env (.a (.g i e) cs) s).post P:=zm.mpr (Z5.mpr (by rw[h];exact zC.mpr k))
def tF(h:(evE Φ G env e s).post λv s1=>(zj Φ G (env.set i (some v)) cs s1).post P):(zj Φ G env (.a (.g i e) cs) s).post P:=zm.mpr (Z5.mpr h)
def RZ(h:evE Φ G env e s=.e v s1)(hb:xO (.b is) v env=some env')(k:(zj Φ G env' cs s1).post P):(zj Φ G env (.a (.p is e) cs) s).post P:=zm.mpr (Z6.mpr (by rw[h];exact zC.mpr ⟨env',hb,k⟩))
def yb(h:evE Φ G env e s=.e v s1)(k:(zj Φ G env cs s1).post P):(zj Φ G env (.a (.h e) cs) s).post P:=zm.mpr (Z7.mpr (by rw[h];exact zC.mpr k))
def zk(h:evE Φ G env e s=.e v s1)(k:P (.b v) s1):(zj Φ G env (.a (.d e) cs) s).post P:=zm.mpr (jH.mpr (by rw[h];exact zC.mpr k))
def vk(h:evE Φ G env e s=.e v s1)(k:srcOf s1 v=some ⟨xs,none⟩):xD Φ G env (.f e) s=.e ⟨xs,none⟩ s1:=post_eq.mpr (Z8.mpr (by rw[h];exact zC.mpr ⟨_,k,rfl,rfl⟩))
def zN(h:evE Φ G env e s=.e v s1)(k:truth s1 v=some b):evT Φ G env (.a e) s=.e b s1:=post_eq.mpr (V9.mpr (by rw[h];exact zC.mpr ⟨_,k,rfl,rfl⟩))
def xQ(h:evT Φ G env c s=.e b s1):evT Φ G env (.b c) s=.e (!b) s1:=bnd h rfl
def qw(h:evT Φ G env c s=.e false s1)(k:qr Φ G env cs s1=.e b s2):evT Φ G env (.f c cs) s=.e b s2:=bnd h k
def se:qr Φ G env .b s=.e false s:=rfl
def w4(h:evT Φ G env c s=.e false s1)(k:qr Φ G env cs s1=.e b s2):qr Φ G env (.a c cs) s=.e b s2:=bnd h k
def eU(h:evT Φ G env c s=.e true s1):evT Φ G env (.f c cs) s=.e true s1:=bnd h rfl
def tH(h:evT Φ G env c s=.e true s1):qr Φ G env (.a c cs) s=.e true s1:=bnd h rfl
def yN(h:evT Φ G env c s=.e false s1)(k:(zj Φ G env cs s1).post P):(zj Φ G env (.a (.f c a .b) cs) s).post P:=zm.mpr (Wv.mpr (by rw[h];refine zC.mpr ?_;rw[if_neg Aa];exact i7.mpr k))
def xF(h:evT Φ G env c s=.e true s1)(k:(zj Φ G env a s1).post (og Φ G cs P)):(zj Φ G env (.a (.f c a b) cs) s).post P:=zm.mpr (Wv.mpr (by rw[h];refine zC.mpr ?_;rw[if_pos rfl];exact k))
def P9{J:Env->Sto->Prop}(h:evT Φ G env c s=.e b s1)(k1:b=true->(zj Φ G env a s1).post λfl s2=>∃e,fl=.a e/\J e s2)(k0:b=false->J env s1)(k:∀e s2,J e s2->(zj Φ G e cs s2).post P):(zj Φ G env (.a (.f c a .b) cs) s).post P:=by
 cases b with
 |true=>exact xF h (zQ (k1 rfl) λfl s2 ⟨e,he,j⟩=>by subst he;exact k e s2 j)
 |false=>exact yN h (k env s1 (k0 rfl))
def lH(h:evE Φ G env e s=.e (.f vs) s1):xD Φ G env (.g e) s=.e ⟨yL 0 vs,none⟩ s1:=bnd h rfl
def UR(h:evE Φ G env a s=.e (.e b) s1):evE Φ G env (.F a) s=.e (.e !b) s1:=bnd h rfl
def vd(h:evT Φ G env c s=.e true s1)(k:evE Φ G env a s1=r):evE Φ G env (.B c a b) s=r:=bnd h k
def vb(h:evT Φ G env c s=.e false s1)(k:evE Φ G env b s1=r):evE Φ G env (.B c a b) s=r:=bnd h k
def yq(k:P (.a env) s):(zj Φ G env .b s).post P:=i7.mpr k
def rO{is:List Nat}{vs:List Val}{P:Fl->Sto->Prop}(hl:vs.length=is.length)(k:P (.a ((is.zip vs).foldl (λe p=>e.set p.1 (some p.2)) env)) s):(if vs.length=is.length then Out.e (Fl.a ((is.zip vs).foldl (λe p=>e.set p.1 (some p.2)) env)) s else .d).post P:=by rw[if_pos hl];exact zC.mpr k
def nu{k:Nat}(h:evE Φ G env e s=.e (.c (k:Int)) s1)(hk:k<=zX):xD Φ G env (.c e) s=.e ⟨yC 0 k,none⟩ s1:=by rw[post_eq];refine jF.mpr ?_;rw[h];exact zC.mpr ⟨_,rfl,⟨⋯,⋯⟩,by rw[AL],rfl⟩
def fo{i j:Nat}(h:evE Φ G env a s=.e (.c (i:Int)) s1)(h':evE Φ G env b s1=.e (.c (j:Int)) s2)(hi:i<=1000)(hj:j<=1000):xD Φ G env (.d a b) s=.e ⟨yC i (j-i),none⟩ s2:=by rw[post_eq];refine jG.mpr ?_;rw[h];refine zC.mpr ?_;rw[h'];exact zC.mpr ⟨_,_,rfl,rfl,⟨⋯,⋯,⋯,⋯,by unfold zX;omega⟩,by congr 2;omega,rfl⟩
def qT(h:evT Φ G env c s=.e a s)(k:evT Φ G env d s=.e b s):evT Φ G env (.d c (.a d .b)) s=.e (a&&b) s:=bnd h (by
 cases a with
 |false=>rfl
 |true=>exact bnd k (by cases b<;>rfl))
def gb(h:evT Φ G env c s=.e b s):x6 Φ G env (.a c .b) s=.e b s:=bnd h (by cases b<;>rfl)
def XZ(h:xW Φ G env es s=.e vs s1)(hl:vs.length<=zX):evE Φ G env (.s true es) s=.e (.h s1.length) (s1++[.c vs]):=bnd h (if_pos hl)
def eL(he:evE Φ G env e s=.e v s1)(ho:evE Φ G env o s1=.e (.h r) s1)(hi:evE Φ G env i s1=.e (.c k) s1)(hs:s1[r]?=some (.c vs))(hj:L2.ixN vs.length k=some j)
 (q:(zj Φ G env cs (s1.set r (.c (vs.set j v)))).post P):(zj Φ G env (.a (.l o i e) cs) s).post P:=by
 have e0:exS Φ G env (.l o i e) s=.e (.a env) (s1.set r (.c (vs.set j v))):=by show ((evE Φ G env e s).bind _)=_;rw[he,zR,ho,zR,hi,zR];simp only[hs,hj];rfl
 refine zm.mpr ?_;rw[e0];exact zC.mpr q
end
def w6(h:v.noRef=true):(zU false s v s).post λx t=>x=v/\t=s:=by rw[zL h];exact zC.mpr ⟨rfl,rfl⟩
end M
end
section
namespace M
open PySem
noncomputable def xC(l m:Int):Val->Bool
 |.c i=>decide (l<=i)&&decide (i<=m)
 |_=>false
def qX(h1:l<=i)(h2:i<=m):xC l m (.c i)=true:=by simp[xC,h1,h2]
def rl(Φ:Calls):Prop:=∀(v:Val) (l m:Int) (s:Sto),kindOf v≠none->Φ "is_whole" 0 [v,.c l,.c m] s=.e (.e (xC l m v)) s
def qy(Φ:Calls):Prop:=∀(vs:List Val) (l m:Int) (s:Sto),(∀v∈vs,kindOf v≠none)->Φ "are_wholes" 0 [.f vs,.c l,.c m] s=.e (.e (vs.all (xC l m))) s
def sJ(Φ:Calls):Prop:=∀(i l m:Int) (s:Sto),l<=i->i<=m->Φ "need_whole" 0 [.c i,.c l,.c m] s=.e .g s
def nN(Φ:Calls):Prop:=∀(i:Int) (s:Sto),2<=i->i<=8->Φ "need_size" 0 [.c i] s=.e .g s
def qa(Φ:Calls):Prop:=∀(i:Int) (s:Sto),0<=i->i<=40->Φ "need_length" 0 [.c i] s=.e .g s
def g8(Φ:Calls):Prop:=∀(n i z:Nat) (s:Sto),i<n->2<=z->z<=8->Φ "most_step" 0 [.c n,.c i,.c z] s=.e (.c ((n-1-i)/(z-1):Nat)) s
structure Gls(T:Tbl):Prop where
 a:T.b "MOST_PLACES"=some (.c 40)
 ls:T.b "LEAST_SIZE"=some (.c 2)
 ms:T.b "MOST_SIZE"=some (.c 8)
 hu:T.b "HUES"=some (.m [0,1,2,3])
 bl:T.b "BLANK"=some (.c (-1))
def xb:blt .a m [.f vs] s=.e (.c vs.length) s:=rfl
def Qq:blt .a m [.k vs] s=.e (.c vs.length) s:=rfl
def T8:blt .a m [.m ns] s=.e (.c ns.length) s:=by simp[blt,wR]
def Zo:blt .a m [.p ns] s=.e (.c ns.length) s:=by simp[blt,wR]
def le_int:zi .g (.c a) (.c b) s=.e (.e (decide (a<=b))) s:=rfl
def lt_int:zi .i (.c a) (.c b) s=.e (.e (decide (a<b))) s:=rfl
def ge_int:zi .k (.c a) (.c b) s=.e (.e (decide (b<=a))) s:=rfl
def gt_int:zi .d (.c a) (.c b) s=.e (.e (decide (b<a))) s:=rfl
def pB:blt .h m [.f vs,.q "tuple"] s=.e (.e true) s:=rfl
theorem ud{α:Type}f:∀xs:List α,boolsOf (xs.map λx=>Val.e (f x))=some (xs.map f)
 |[]=>rfl
 |x::xs=>by simp[boolsOf,ud f xs]
def nq{α β:Type}(f:α->β)(xs:List α):xs.flatMap (λx=>[f x])=xs.map f:=by
 induction xs with
 |nil=>rfl
 |cons x xs ih=>simp[ih]
def r0:binOp m .a (.c i) (.c j) s=.e (.c (i+j)) s:=by simp only[binOp]
def qp:binOp m .c (.c i) (.c j) s=.e (.c (i-j)) s:=by simp only[binOp]
def aE(h:-1000000<=i/\i<=1000000):binOp m .b (.c i) (.c j) s=.e (.c (i*j)) s:=by simp only[binOp];rw[if_pos (.inl ⋯)]
def nX(h:-1000000<=j/\j<=1000000):binOp m .b (.c i) (.c j) s=.e (.c (i*j)) s:=by simp only[binOp];rw[if_pos (.inr ⋯)]
section
variable {T:Tbl}{Φ:Calls}{s:Sto}
def p5(h:kindOf v=some a)(h':uM n=some c):blt .h m [v,.q n] s=.e (.e (a.sub c)) s:=by simp only[blt];rw[h,h']
def Tx(h:kindOf v=some a):(∃i,v=.c i)\/(∃b,v=.e b)\/(a.sub .d=false/\∀l m,xC l m v=false):=by
 cases v with
 |c i=>exact .inl ⟨i,rfl⟩
 |e b=>exact .inr (.inl ⟨b,rfl⟩)
 |_=>cases h<;>exact .inr (.inr ⟨rfl,λ_ _=>rfl⟩)
def pC(h:kindOf v≠none):∃a,kindOf v=some a:=Option.ne_none_iff_exists'.mp h
def iW(h:kindOf v=some a):(∃vs,v=.f vs)\/a.sub .b=false:=by
 cases v with
 |f vs=>exact .inl ⟨vs,rfl⟩
 |_=>cases h<;>exact .inr rfl
def bP(hk:kindOf v≠none):run T Φ F.we [v,.c l,.c m] s=.e (.e (xC l m v)) s:=by
 obtain⟨a,ha⟩:=pC hk;have e1:=p5 (m:=false) (s:=s) ha (show uM "int"=some .d from rfl);have e2:=p5 (m:=false) (s:=s) ha (show uM "bool"=some .i from rfl);have end':∀{b:Bool},b=xC l m v->(zU false s (.e b) s).post λx t=>x=.e (xC l m v)/\t=s:=λ{b} e=>by rw[zL xK,e];exact zC.mpr ⟨rfl,rfl⟩
 rw[post_eq,F.we,zw];refine⟨rfl,?_⟩;show (zj Φ T.b [some v,some (.c l),some (.c m)] _ s).post _;rcases Tx ha with⟨i,rfl⟩|⟨b,rfl⟩|⟨h1,h2⟩
 . cases ha
   have hc:evE Φ T.b [some (.c i),some (.c l),some (.c m)] (.A .g .g (.e 1) (.e 0) (.e 2)) s=.e (.e (xC l m (.c i))) s:=by
    refine bnd (zB rfl) (bnd (zB rfl) (bnd le_int ?_));show (match Val.e (decide (l<=i)) with
     |.e true=>(evE Φ T.b [some (.c i),some (.c l),some (.c m)] (.e 2) s).bind λz s4=>zi .g (.c i) z s4
     |.e false=>.e (.e false) s
     |_=>.d)=Out.e (.e (decide (l<=i)&&decide (i<=m))) s
    cases decide (l<=i) with
    |true=>exact bnd (zB rfl) le_int
    |false=>rfl
   exact zk (XY (zo (zA (zB rfl) (zA oq zD)) e1) (UR (zo (zA (zB rfl) (zA oq zD)) e2)) hc) (end' rfl)
 . cases ha
   exact zk (XX (zo (zA (zB rfl) (zA oq zD)) e1) (UR (zo (zA (zB rfl) (zA oq zD)) e2))) (end' rfl)
 . rw[h1]at e1
   exact zk (oo (zo (zA (zB rfl) (zA oq zD)) e1)) (end' (h2 _ _).symm)
def gP(c:rl Φ)(hk:∀v∈vs,kindOf v≠none):run T Φ F.xh [.f vs,.c l,.c m] s=.e (.e (vs.all (xC l m))) s:=by
 rw[post_eq];simp[F.xh,EVl,zc,zP];refine lP (λe=>∃o,e=[o,some (.c l),some (.c m)]) (λx=>[.e (xC l m x)]) ?_;simp[EVl,zc,zP];refine⟨?_,?_⟩
 . intro x hx
   simp[EVl,zc,zP,c x l m s (hk x hx)]
 . simp[newList,EVl,zc,zP,blt,nq,z8,ud]
def nF(c:rl Φ)(h1:l<=i)(h2:i<=m):run T Φ F.xq [.c i,.c l,.c m] s=.e .g s:=by rw[post_eq];simp[F.xq,EVl,zc,zP,c (.c i) l m s (by simp[kindOf]),qX h1 h2]
def lX(g:Gls T)(c:sJ Φ)(h1:2<=i)(h2:i<=8):run T Φ F.wH [.c i] s=.e .g s:=by rw[post_eq];simp[F.wH,EVl,zc,zP,g.ls,g.ms,c i 2 8 s h1 h2]
def oP(g:Gls T)(c:sJ Φ)(h1:0<=i)(h2:i<=40):run T Φ F.xU [.c i] s=.e .g s:=by rw[post_eq];simp[F.xU,EVl,zc,zP,g.a,c i 0 40 s h1 h2]
def Yr{n i z:Nat}(h1:i<n)(h2:2<=z)(h3:z<=8):run T Φ F.wG [.c n,.c i,.c z] s=.e (.c ((n-1-i)/(z-1):Nat)) s:=by
 rw[post_eq];have a1:(0:Int)<(z:Int)-1/\(z:Int)-1<1073741824:=by omega
 have a2:((n:Int)-1-(i:Int))/((z:Int)-1)=(((n-1-i)/(z-1):Nat):Int):=by rw[Ga];congr 1<;>omega
 simp[F.wG,EVl,zc,zP,binOp];refine⟨⋯,?_⟩
 rw[a2];simp
end
end M
end
section
namespace M
open PySem
noncomputable def wN(r:Nat × Nat):Val:=.f [.c r.1,.c r.2]
def rL(h:x∈yC lo n):∃k:Nat,k<n/\x=.c (lo+k):=by unfold yC at h;obtain⟨k,h1,rfl⟩:=Aq.mp h;exact⟨k,Ag.mp h1,rfl⟩
theorem mH:∀zs:List (Int × Int),pairsOf (zs.map prV)=some zs
 |[]=>rfl
 |z::zs=>by simp[pairsOf,prV,mH zs]
def Pf ns lo st n:L2.yA (ns.map Val.c) lo st n=(L2.yA ns lo st n).map Val.c:=by unfold L2.yA;rw[List.map_filterMap];congr 1;funext k;simp[AA]
def fg a b:Ct (.int a) (.int b)=decide (a=b):=by by_cases h:a=b<;>simp[Ct,h]
def eq_int:zi .c (.c a) (.c b) s=.e (.e (decide (a=b))) s:=by simp[zi,yT,xw,pY,Val.isD,Val.d,PyData.depth,fg]
def ne_int:zi .e (.c a) (.c b) s=.e (.e !(decide (a=b))) s:=by simp[zi,yT,xw,pY,Val.isD,Val.d,PyData.depth,fg]
def x8{k:Nat}(h:vs[k]?=some v):wo (.f vs) (.c k) s=.e v s:=by simp[wo,wR,L2.pA h]
def sR{ns:List Int}{k:Nat}(h:ns[k]?=some i):wo (.f (ns.map .c)) (.c k) s=.e (.c i) s:=x8 (by rw[AA,h];rfl)
def tY(ns:List Int):(ns.map Val.c).all flat=true:=by rw[List.all_map];simp[flat]
def sQ(ns:List Int)y:(ns.map Val.c).countP (λz=>eqF z (.c y))=ns.count y:=by rw[List.countP_map];rfl
section
variable {T:Tbl}{Φ:Calls}{s:Sto}
def bz(Φ:Calls):Prop:=∀(ns:List Int) (f d z:Nat) (s:Sto),0<d->1<=z->f+d*(z-1)<ns.length->z<=zX->Φ "is_one_hue" 0 [.f (ns.map .c),.c f,.c d,.c z] s=.e (.e (yV ns f d z)) s
def VS{f d z:Nat}(hd:0<d)(hz:1<=z)(h:f+d*(z-1)<ns.length)(hl:z<=zX):run T Φ F.xk [.f (ns.map .c),.c f,.c d,.c z] s=.e (.e (yV ns f d z)) s:=by
 have hf:f<ns.length:=by have:0<=d*(z-1):=A3 _;omega
 have a1:=Xr hd hz h;have hdI:(d:Int)≠0:=by omega
 rw[post_eq];have hm:-(2 ^ 64)<(z:Int)/\(z:Int)<2 ^ 64:=by unfold zX at hl;omega
 have hmul:binOp false .b (.c d) (.c z) s=.e (.c ((d:Int)*z)) s:=by simp only[binOp];rw[if_pos (.inr hm)]
 have hix:wo (.f (ns.map .c)) (.c f) s=.e (.c (ns.getD f 0)) s:=sR (by rw[pn hf,Ab,pn hf];rfl)
 have hadd:binOp false .a (.c f) (.c ((d:Int)*z)) s=.e (.c ((f:Int)+(d:Int)*z)) s:=by simp only[binOp]
 have hsl:uY false (.f (ns.map .c)) (some (f:Int)) (some ((f:Int)+(d:Int)*z)) (some (d:Int)) s=.e (.f (((Al z).map λk=>ns.getD (f+k*d) 0).map .c)) s:=by simp only[uY,zI];rw[a1,if_pos ⟨hdI,hl⟩];simp only[Pf,YQ h]
 have key:decide ((((Al z).map λk=>ns.getD (f+k*d) 0).count (ns.getD f 0):Int)=(z:Int))=yV ns f d z:=by
  rw[Ce,Wi h,decide_eq_true_iff];have hl:((Al z).map λk=>ns.getD (f+k*d) 0).length=z:=by rw[zI,AM]
  constructor
  . intro e x hx
    exact(List.count_eq_length.mp (by rw[hl];exact Int.ofNat.inj e) x hx).symm
  . intro e
    rw[List.count_eq_length.mpr λx hx=>(e x hx).symm,hl]
 generalize hy:ns.getD f 0=y at hix key;generalize hxs:(Al z).map (λk=>ns.getD (f+k*d) 0)=xs at hsl key;simp only[F.xk,EVl,zc,zP];simp[EVl,zc,zP,hmul,hadd,hix,hsl,yf,tY,sQ,eq_int,flat];exact key
def CAt(Φ:Calls):Prop:=∀(n z p:Nat) (s:Sto),n<=32->2<=z->z<=8->p<n->Φ "rows_at" 0 [.c n,.c z,.c p] s=.e (.k ((atP n z p).map wN)) s
def R6(n z p:Nat):Val->List Val
 |.c a=>(allAt n z p a.toNat).map prV
 |_=>[]
noncomputable def R7(p:Nat):Val->Val->List Val
 |.c a,.c d=>[.f [.c (p-d*a),.c d]]
 |_,_=>[]
def dD(n z:Nat):Val->List Val
 |.f [.c a,.c b]=>if inB n z (a,b) then [.f [.c a,.c b]] else []
 |_=>[]
theorem fE:∀l:List (Int × Int),(l.map prV).flatMap (dD n z)=(l.filter (inB n z)).map prV
 |[]=>rfl
 |r::l=>by
  show dD n z (prV r)++(l.map prV).flatMap (dD n z)=_;rw[fE l,DT,show dD n z (prV r)=if inB n z r then [prV r] else [] from rfl]
  cases inB n z r<;>rfl
def RW(cW:rl Φ)(cL:qa Φ)(cS:nN Φ)(cM:g8 Φ){n z p:Nat}(hn:n<=32)(hz:2<=z)(hz8:z<=8)(hp:p<n):run T Φ F.vL [.c n,.c z,.c p] s=.e (.k ((atP n z p).map wN)) s:=by
 have L2':2<=zX:=by unfold zX;omega
 have c1:=cL n s ⋯ ⋯
 have c2:=cS z s ⋯ ⋯
 have c3:Φ "is_whole" 0 [.c p,.c 0,.c ((n:Int)-1)] s=.e (.e true) s:=by rw[cW _ _ _ _ (by simp[kindOf]),qX ⋯ ⋯]
 have c4:Φ "most_step" 0 [.c n,.c 0,.c z] s=.e (.c (mS n z)) s:=cM n 0 z s ⋯ hz hz8
 have hmS:mS n z<=32:=by have:=Cu (n-1) (z-1);show (n-1)/(z-1)<=32;omega
 have hlen:(allOf n z p).length<=62:=dB hn hz;have hfl:(yC 0 z).flatMap (R6 n z p)=(allOf n z p).map prV:=by unfold yC allOf;rw[B4,Gb];congr 1;funext a;rw[EO];rfl
 have hnd:((allOf n z p).filter (inB n z)).Nodup:=(l7 n z p).filter _;have hbd:∀r∈(allOf n z p).filter (inB n z),0<=r.2/\r.2<1000:=λr hr=>dC ⋯ r (AD.mp hr).1
 have hln:((allOf n z p).filter (inB n z)).length<64:=by have:=EF (inB n z) (allOf n z p);omega
 have hso:vW ((allOf n z p).filter (inB n z))=(atP n z p).map toI:=dE ⋯ hz (yv _) (oU hnd hbd)
 rw[post_eq,F.vL,zw];refine⟨rfl,?_⟩;show (zj Φ T.b [some (.c n),some (.c z),some (.c p),none] _ s).post _;refine yb (x_call (zA (zB rfl) zD) c1) (yb (x_call (zA (zB rfl) zD) c2) (yN (xQ (zN (x_call (zA (zB rfl) (zA zE (zA (yH (zB rfl) zE qp) zD))) c3) zF)) (tF ?_)));refine f9 (λe=>∃o1 o2,e=[o1,o2,some (.c n),some (.c z),some (.c p)]) (R6 n z p) (λx e=>∃o2,e=[some x,o2,some (.c n),some (.c z),some (.c p)]) (R7 p) ⟨_,_,nu (zB rfl) (by unfold zX;omega),rfl,⟨_,_,rfl⟩,?_,?_,?_⟩
 . rintro x hx e ⟨o1,o2,rfl⟩
   obtain⟨a,ha,rfl⟩:=rL hx;refine⟨_,rfl,vJ.mpr ⟨rfl,?_⟩⟩;rw[if_pos rfl];refine⟨_,_,fo (i:=1) (j:=mS n z+1) zE (yH (x_call (zA (zB rfl) (zA zE (zA (zB rfl) zD))) c4) zE r0) ⋯ ⋯,rfl,rfl,⟨_,rfl⟩,?_,?_,?_⟩
   . rintro e ⟨o,rfl⟩;exact⟨_,_,rfl⟩
   . show (allAt n z p (0+(a:Int)).toNat).map prV=(yC ((1:Nat):Int) (mS n z)).flatMap _
     rw[EO,AL];unfold allAt yC;rw[BW,B4];rw[show (λ(k:Nat)=>R7 p (.c (a:Int)) (.c (((1:Nat):Int)+(k:Int))))=λk=>[(λ(k:Nat)=>Val.f [.c ((p:Int)-(((1:Nat):Int)+(k:Int))*(a:Int)),.c (((1:Nat):Int)+(k:Int))]) k] from rfl,nq];refine CC λj _=>?_;show prV ((p:Int)-((j+1:Nat):Int)*(a:Int),((j+1:Nat):Int))=_;rw[show ((j+1:Nat):Int)=((1:Nat):Int)+(j:Int) by omega];rfl
   . rintro y hy e ⟨o,rfl⟩
     obtain⟨d,hd,rfl⟩:=rL hy;refine⟨_,rfl,⟨_,rfl⟩,vJ.mpr ⟨rfl,?_⟩⟩;rw[if_pos rfl];show (evE Φ T.b [some (.c (0+(a:Int))),some (.c (((1:Nat):Int)+(d:Int))),some (.c n),some (.c z),some (.c p)] _ s).post _;rw[vH (zA (yH (zB rfl) (yH (zB rfl) (zB rfl) (aE ⋯)) qp) (zA (zB rfl) zD)) L2']
     exact zC.mpr ⟨rfl,rfl⟩
 . show Small ((yC 0 z).flatMap _)
   rw[hfl];show (F8 prV _).length<=zX;rw[zI];unfold zX;omega
 . show (newList false ((yC 0 z).flatMap _) s).post _
   rw[hfl];refine zC.mpr (zk (v:=.k ((atP n z p).map wN)) (s1:=s) (zo (s1:=s) (vs:=[.k (((allOf n z p).filter (inB n z)).map prV)]) (zA ?_ zD) ?_) ?_)
   . rw[post_eq]
     refine uU (λe=>∃o1 o2,e=[o1,o2,some (.c n),some (.c z)]) (dD n z) ((allOf n z p).map prV) (s1:=s) (vk (zB rfl) rfl) ⟨_,_,rfl⟩ ?_ (by rw[fE];exact zC.mpr ⟨rfl,rfl⟩)
     rintro v hv e ⟨o1,o2,rfl⟩;obtain⟨⟨a,b⟩,hm,rfl⟩:=Aq.mp hv;refine⟨[some (.c a),some (.c b),some (.c n),some (.c z)],rfl,⟨_,_,rfl⟩,?_⟩;have ht:x6 Φ T.b [some (.c a),some (.c b),some (.c n),some (.c z)] (.a (.d (.a (.j .k (.e 0) (.g (.c 0)))) (.a (.a (.j .i (.k false .a (.e 0) (.k false .b (.e 1) (.k false .c (.e 3) (.g (.c 1))))) (.e 2))) .b)) .b) s=.e (inB n z (a,b)) s:=gb (qT (zN (zZ (zB rfl) zE ge_int) zF) (zN (zZ (yH (zB rfl) (yH (zB rfl) (yH (zB rfl) zE qp) (nX ⋯)) r0) (zB rfl) lt_int) zF))
     rw[ht];refine zC.mpr ⟨rfl,?_⟩;rw[show dD n z (prV (a,b))=if inB n z (a,b) then [Val.f [.c a,.c b]] else [] from rfl]
     cases inB n z (a,b) with
     |true=>
      rw[if_pos rfl,if_pos rfl,vH (zA (zB rfl) (zA (zB rfl) zD)) L2'];exact zC.mpr ⟨rfl,rfl⟩
     |false=>rw[if_neg Aa,if_neg Aa]
   . generalize (allOf n z p).filter (inB n z)=L at *
     simp only[blt,z8,mH];rw[if_pos ⟨hln,hnd,hbd⟩,hso,BW];rfl
   . show (zU false s _ s).post _
     rw[zL (by rw[lM,show (atP n z p).map wN=((atP n z p).map toI).map prV by rw[BW];rfl];exact uQ _)]
     exact zC.mpr ⟨rfl,rfl⟩
end
end M
end
section
namespace M
open PySem
def qJ{ns:List Int}:∀v∈ns.map Val.c,kindOf v≠none:=λv hv=>by obtain⟨i,_,rfl⟩:=Aq.mp hv;simp[kindOf]
def uH{ns:List Int}(h:∀x∈ns,l<=x/\x<=m):(ns.map Val.c).all (xC l m)=true:=by rw[AH];intro v hv;obtain⟨i,hi,rfl⟩:=Aq.mp hv;exact qX (h i hi).1 (h i hi).2
def Xq{xs:List α}(hp:p<=xs.length):m7 xs none (some (p:Int))=xs.take p:=by
 unfold m7;have h1:HT.sIx xs.length 0 none=0:=rfl;have h2:HT.sIx xs.length xs.length (some (p:Int))=p:=by rw[HT.eK];omega
 rw[h1,h2,EZ,DG]
def fJ{xs:List α}(hp:p<=xs.length):m7 xs (some (p:Int)) none=xs.drop p:=by
 unfold m7;have h1:HT.sIx xs.length 0 (some (p:Int))=p:=by rw[HT.eK];omega
 have h2:HT.sIx xs.length xs.length none=xs.length:=rfl;rw[h1,h2,List.take_of_length_le (by rw[Dk];omega)]
noncomputable abbrev tpI(ns:List Int):Val:=.f (ns.map .c)
section
variable {T:Tbl}{Φ:Calls}{s:Sto}
def nL(Φ:Calls):Prop:=∀(zs:List Int) (s:Sto),Sz zs->Φ "are_sizes" 0 [tpI zs] s=.e (.e true) s
def sI(Φ:Calls):Prop:=∀(zs:List Int) (s:Sto),Sz zs->Φ "need_sizes" 0 [tpI zs] s=.e .g s
def wX(Φ:Calls):Prop:=∀(zs ns:List Int) (s:Sto),Sz zs->Dr zs ns->Φ "need_draft" 0 [tpI zs,tpI ns] s=.e .g s
def uc(Φ:Calls):Prop:=∀(ns:List Int) (p:Nat) (h:Int) (s:Sto),p<ns.length->ns.length<=1000->Φ "with_hue" 0 [tpI ns,.c p,.c h] s=.e (tpI (putL ns p h)) s
def lU(g:Gls T)(c:qy Φ)(h:Sz zs):run T Φ F.wD [tpI zs] s=.e (.e true) s:=by
 rw[post_eq];have c1:=c (zs.map .c) 2 8 s qJ;rw[uH h.2.2]at c1;have a1:(1:Int)<=(zs.length:Int):=by have:=h.1;omega
 have a2:(zs.length:Int)<=4:=by have:=h.2.1;omega
 simp[F.wD,EVl,zc,zP,pB,xb,T8,g.hu,g.ls,g.ms,le_int,c1,a1,a2]
def nE(c:nL Φ)(h:Sz zs):run T Φ F.xn [tpI zs] s=.e .g s:=by rw[post_eq];simp[F.xn,EVl,zc,zP,c zs s h]
def mi(h:a.length+b.length<=zX):binOp m .a (.f a) (.f b) s=.e (.f (a++b)) s:=by simp only[binOp];rw[if_pos h]
def Yv{p:Nat}(hp:p<ns.length)(hn:ns.length<=1000):run T Φ F.wj [tpI ns,.c p,.c h] s=.e (tpI (putL ns p h)) s:=by
 rw[post_eq];have c1:uY false (tpI ns) none (some (p:Int)) none s=.e (tpI (ns.take p)) s:=by simp only[uY];rw[Xq (by rw[zI];omega),<-List.map_take]
 have c2:uY false (tpI ns) (some ((p:Int)+1)) none none s=.e (tpI (ns.drop (p+1))) s:=by
  have:((p:Int)+1)=((p+1:Nat):Int):=by omega
  simp only[uY];rw[this,fJ (by rw[zI];omega),<-List.map_drop]
 have c3:binOp false .a (tpI (ns.take p)) (.f [.c h]) s=.e (tpI (ns.take p++[h])) s:=by rw[mi (by simp[zX];omega),<-List.map_singleton,<-Bj]
 have c4:binOp false .a (tpI (ns.take p++[h])) (tpI (ns.drop (p+1))) s=.e (tpI (putL ns p h)) s:=by
  rw[mi (by simp[zX];omega),<-Bj]
  simp[putL]
 have c0:(1:Nat)<=zX:=by simp[zX]
 simp only[tpI]at *;simp only[F.wj,EVl,zc,zP];simp[EVl,zc,zP,c0,r0];rw[c1];simp only[EVl,zc,zP];rw[c3];simp only[EVl,zc,zP];rw[c2];simp only[EVl,zc,zP];rw[c4];simp[EVl,zc,zP]
end
end M
end
section
namespace M
open PySem
def u4(rs:List (Nat × Nat)):zy (rs.map wN)=true:=by have:=uQ (rs.map toI);rw[BW]at this;exact this
def lB{α β:Type}f(g:α->β)(xs:List α):xs.flatMap (λx=>if f x then [g x] else [])=(xs.filter f).map g:=by
 induction xs with
 |nil=>rfl
 |cons x xs ih=>
  rw[A7,ih];cases h:f x<;>simp[h]
def ZA(hF:∀r,F (wN r)=if f r then [wN r] else [])(rs:List (Nat × Nat)):(rs.map wN).flatMap F=(rs.filter f).map wN:=by rw[B4,<-lB];congr 1;funext r;exact hF r
def a9{n:Nat}(hF:∀k<n,F (.c k)=if f k then [.c k] else []):(yC 0 n).flatMap F=((Al n).filter f).map λ(k:Nat)=>Val.c k:=by
 unfold yC;rw[B4,<-lB];have key:∀l:List Nat,(∀k∈l,k<n)->l.flatMap (λ(k:Nat)=>F (.c (0+(k:Int))))=l.flatMap λ(k:Nat)=>if f k then [Val.c k] else []:=λl=>by
  induction l with
  |nil=>intro _;rfl
  |cons k l ih=>
   intro h;rw[A7,A7,ih λj hj=>h j (.tail _ hj),EO,hF k (h k (.head _))]
 exact key _ λk hk=>Ag.mp hk
section
variable {T:Tbl}{Φ:Calls}{s:Sto}
def pH(Φ:Calls):Prop:=∀(zs ns:List Int) (p h:Nat) (s:Sto),Sz zs->ns.length<=32->p<ns.length->h<zs.length->Φ "barring_rows" 0 [tpI zs,tpI ns,.c p,.c h] s=.e (.k ((vj ns (zM zs h) p h).map wN)) s
noncomputable def dg(hs:List Nat):Val:=.f (hs.map λ(k:Nat)=>Val.c k)
def wY(Φ:Calls):Prop:=∀(zs ns:List Int) (p:Nat) (s:Sto),Sz zs->ns.length<=32->p<ns.length->Φ "unbarred" 0 [tpI zs,tpI ns,.c p] s=.e (dg (yp zs ns p)) s
def qi(hs:List Nat):zy (hs.map λ(k:Nat)=>Val.c k)=true:=by have:=xE (hs.map λ(k:Nat)=>(k:Int));rw[BW]at this;exact this
def iK(cW:uc Φ)(cA:CAt Φ)(cO:bz Φ)(hz:Sz zs)(hn:ns.length<=32)(hp:p<ns.length)(hh:h<zs.length)
 (hP:(newList m ((vj ns (zM zs h) p h).map wN) s).post P) :
 (evE Φ T.b [some (tpI zs),some (tpI ns),some (.c p),some (.c h),some (tpI (putL ns p h)),some (.c (zM zs h))] (.r m N [none,none,some 4,some 5] (.q (.a (.e 0) (.a (.e 1) .b))) (.b [0,1]) (.f (.h "rows_at" 0 (.a (.l .a false (.a (.e 1) .b)) (.a (.e 5) (.a (.e 2) .b))))) (.a (.a (.h "is_one_hue" 0 (.a (.e 2) (.a (.e 0) (.a (.e 1) (.a (.e 3) .b)))))) .b)) s).post P:=by
 obtain⟨z1,z2,z3⟩:=z0 hz hh;refine lP (λe=>∃o1 o2,e=[o1,o2,some (tpI (putL ns p h)),some (.c (zM zs h))]) (λx=>match x with|.f [.c a,.c b]=>if yV (putL ns p h) a.toNat b.toNat (zM zs h) then [.f [.c a,.c b]] else []|_=>[]) ?_
 have c1:=cA ns.length (zM zs h) p s hn z2 z3 hp;simp[EVl,zc,zP,xb,c1];refine⟨?_,?_⟩
 . intro x r1 r2 hr hx e o1 o2 he
   subst he;subst hx;let r:Nat × Nat:=(r1,r2);have hr:r∈atP ns.length (zM zs h) p:=hr;have hr2:=qM z2 (AD.mp hr).1;have c2:=cO (putL ns p h) r.1 r.2 (zM zs h) s hr2.1 ⋯ (by rw[jW hp];exact hr2.2) (by unfold zX;omega)
   refine⟨[some (.c r1),some (.c r2),some (tpI (putL ns p h)),some (.c (zM zs h))],rfl,⟨_,_,rfl⟩,?_⟩;have c2:Φ "is_one_hue" 0 [tpI (putL ns p h),.c r1,.c r2,.c (zM zs h)] s=.e (.e (yV (putL ns p h) r1 r2 (zM zs h))) s:=c2;simp only[tpI]at c2;simp[EVl,zc,zP,c2,wN,zX]
 . rw[ZA (f:=λr=>yV (putL ns p h) r.1 r.2 (zM zs h)) (λr=>rfl)]
   exact hP
def jh(cW:uc Φ)(cA:CAt Φ)(cO:bz Φ){p h:Nat}(hz:Sz zs)(hn:ns.length<=32)(hp:p<ns.length)(hh:h<zs.length):run T Φ F.y0 [tpI zs,tpI ns,.c p,.c h] s=.e (.k ((vj ns (zM zs h) p h).map wN)) s:=by
 rw[post_eq];have c1:=cW ns p h s hp ⋯
 have c2:=sR (s:=s) (z0 hz hh).1;simp[F.y0,EVl,zc,zP,c1,c2];refine iK cW cA cO hz hn hp hh ?_;simp[newList,EVl,zc,zP,u4]
def y8{ns:List Int}(h:ns[p]?=some i):p<ns.length:=(Ad.mp h).1
def la(c:pH Φ){p:Nat}(hz:Sz zs)(hn:ns.length<=32)(hp:p<ns.length):run T Φ F.wg [tpI zs,tpI ns,.c p] s=.e (dg (yp zs ns p)) s:=by
 rw[post_eq];simp[F.wg,EVl,zc,zP];refine lP (λe=>∃o,e=[o,some (tpI zs),some (tpI ns),some (.c p)]) (λx=>match x with|.c a=>if (vj ns (zM zs a.toNat) p a.toNat).isEmpty then [.c a] else []|_=>[]) ?_
 have h4:zs.length<=4:=hz.2.1;simp[EVl,zc,zP,xb];refine⟨by unfold zX;omega,?_,?_⟩
 . intro x hx
   obtain⟨a,ha,rfl⟩:=rL hx;have c1:=c zs ns p a s hz hn hp ha;simp only[tpI]at c1;simp[EVl,zc,zP,c1];cases h:vj ns (zM zs a) p a<;>simp
 . rw[a9 (f:=λa=>(vj ns (zM zs a) p a).isEmpty) (λk _=>by simp)]
   simp[newList,EVl,zc,zP,blt,z8,qi,dg,yp]
end
end M
end
section
namespace M
open PySem
noncomputable def qv(a b:Int):Cel:=.c [.c a,.c b]
def vx(s:Sto)(p:Nat):Prop:=∃a b,s[p]?=some (qv a b)/\0<=b/\b<2147483629
def xN(s:Sto)(p:Nat)(s':Sto):Prop:=∃a b,s'=s.set p (qv a b)/\0<=b/\b<2147483629
def vx.lt(h:vx s p):p<s.length:=by obtain⟨a,b,h,_⟩:=h;exact(Ad.mp h).1
def xN.at_(h:xN s p s')(hp:p<s.length):vx s' p:=by obtain⟨a,b,rfl,h1⟩:=h;exact⟨a,b,AE hp,h1⟩
def xN.trans(h:xN s p s1)(k:xN s1 p s2):xN s p s2:=by obtain⟨a,b,rfl,h1⟩:=h;obtain⟨c,d,rfl,h2⟩:=k;exact⟨c,d,by rw[Gd],h2⟩
def xN.len(h:xN s p s'):s'.length=s.length:=by obtain⟨a,b,rfl,_⟩:=h;exact A6 ..
def xN.app(hp:p<s.length)(h:xN (s++t) p s'):∃s1,xN s p s1/\s'=s1++t:=by obtain⟨a,b,rfl,h1⟩:=h;exact⟨_,⟨a,b,rfl,h1⟩,List.set_append_left _ _ hp⟩
def vx.up(h:vx s p)t:vx (s++t) p:=by obtain⟨a,b,h1,h2⟩:=h;exact⟨a,b,by rw[AJ (Ad.mp h1).1];exact h1,h2⟩
def n5(h:xN s p s')(hv:v.noRef=true):zU false s v (s'++t)=.e v s':=by obtain⟨a,b,rfl,_⟩:=h;exact iX hv rfl
def p7(h:xN s p s')(hv:v.noRef=true):zU false s v s'=.e v s':=by
 have:=n5 (t:=[]) h hv
 rwa [Ba]at this
def bmod(h:0<j):binOp m .d (.c i) (.c j) s=.e (.c (i%j)) s:=by simp only[binOp];rw[if_pos h]
def bdiv(h:0<j/\j<1073741824):binOp m .e (.c i) (.c j) s=.e (.c (i/j)) s:=by simp only[binOp];rw[if_pos h]
def qI{k:Nat}(h:vs[k]?=some v):wo (.k vs) (.c k) s=.e v s:=by simp[wo,wR,L2.pA h]
def ZQ{i k:Nat}(hs:s[i]?=some (.c vs))(h:vs[k]?=some v):wo (.h i) (.c k) s=.e v s:=by simp[wo,wR,hs,L2.pA h]
section
variable {T:Tbl}{Φ:Calls}{s:Sto}
def Vt(Φ:Calls):Prop:=∀(ns:List Int) (k:Nat) (s:Sto),∃c,Φ "_law_cell_at" 0 [.p ns,.c k] s=.e (.c c) s
def Rw(Φ:Calls):Prop:=∀(c:Int) (s:Sto),∃a b,Φ "_law_pen" 1 [.c c] s=.e (.h s.length) (s++[qv a b])/\0<=b/\b<2147483629
def bq(Φ:Calls):Prop:=∀(p:Nat) (m:Int) (s:Sto),vx s p->0<m->m<1000000->(Φ "_law_draw" 0 [.h p,.c m] s).post λv s'=>∃r:Nat,v=.c r/\(r:Int)<m/\xN s p s'
def Yk ns(k:Nat):∃c,run T Φ F.yY [.p ns,.c k] s=.e (.c c) s:=by
 by_cases h:k<ns.length
 . refine⟨ns[k],?_⟩
   rw[post_eq];have h':(k:Int)<ns.length:=by omega
   have e:(ns.map Val.c)[k]?=some (.c ns[k]):=by rw[AA,pn h];rfl
   have c1:wo (.p ns) (.c k) s=.e (.c ns[k]) s:=by simp[wo,wR,L2.pA e]
   simp[F.yY,EVl,zc,zP,Zo,lt_int,h',h,c1]
 . refine⟨0,?_⟩
   rw[post_eq];have h':¬(k:Int)<ns.length:=by omega
   simp[F.yY,EVl,zc,zP,Zo,lt_int,h',h]
def VT c:∃a b,run T Φ F.yn [.c c] s=.e (.h s.length) (s++[qv a b])/\0<=b/\b<2147483629:=by
 have key:(run T Φ F.yn [.c c] s).post λv s'=>∃a b,v=.h s.length/\s'=s++[qv a b]/\0<=b/\b<2147483629:=by
  have c1:∀(i:Int) (b:Bool),binOp false .b (.c i) (.c (if b then 1 else 0)) s=.e (.c (i*(if b then 1 else 0))) s:=λi b=>nX (by cases b<;>simp)
  have c2:∀i:Int,binOp false .d (.c i) (.c 2147483629) s=.e (.c (i%2147483629)) s:=λi=>by simp[binOp]
  have c3:binOp false .g (.c 10) (.c 18) s=.e (.c (10 ^ 18)) s:=by simp[binOp]
  simp[F.yn,EVl,zc,zP,qp,blt];simp[EVl,zc,zP,c1,c2,c3,ge_int,blt,zX,newList,qv];rw[nX (by split<;>omega)]
  simp only[zC];rw[bmod ⋯]
  simp only[zC];exact⟨trivial,_,_,⟨trivial,rfl,rfl⟩,Gw _ ⋯,Fg _ ⋯⟩
 obtain⟨v,s',h,a,b,rfl,rfl,h1⟩:=key;exact⟨a,b,h,h1⟩
def Ym(hp:vx s p)(h0:0<m)(h1:m<1000000):(run T Φ F.xZ [.h p,.c m] s).post λv s'=>∃r:Nat,v=.c r/\(r:Int)<m/\xN s p s':=by
 have hpl:=hp.lt;obtain⟨a,b,hs,hb,hb1⟩:=hp;have ix:∀{s:Sto} {a b:Int} {k:Nat} {v:Val},s[p]?=some (qv a b)->[Val.c a,.c b][k]?=some v->wo (.h p) (.c k) s=.e v s:=λh h'=>ZQ h h';have fin':∀{x:Int} {s':Sto},xN s p s'->(zU false s (.c (x%m)) s').post λv s'=>∃r:Nat,v=.c r/\(r:Int)<m/\xN s p s':=λ{x s'} t=>by
  rw[p7 t yg];have h3:=Gw x (show m≠0 by omega)
  have h4:=Fg x h0;exact zC.mpr ⟨(x%m).toNat,by congr 1;omega,⋯,t⟩
 rw[F.xZ,zw];refine⟨rfl,?_⟩;show (zj Φ T.b [some (.h p),some (.c m),none,none,none] _ s).post _;have tc:evT Φ T.b [some (.h p),some (.c m),none,none,none] (.a (.j .d (.p (.e 0) (.g (.c 0))) (.g (.c 0)))) s=.e (decide (0<a)) s:=zN (zZ (yR (zB rfl) zE (ix (k:=0) hs rfl)) zE gt_int) zF;cases hd:decide (0<a) with
 |true=>
  rw[hd]at tc;refine xF tc (RZ (env':=[some (.h p),some (.c m),some (.c (a/m)),some (.c (a%m)),none]) (zo (zA (yR (zB rfl) zE (ix (k:=0) hs rfl)) (zA (zB rfl) zD)) (show blt .c false [.c a,.c m] s=.e (.f [.c (a/m),.c (a%m)]) s by simp only[blt];rw[if_pos ⟨h0,⋯⟩])) rfl ?_)
  exact eL (j:=0) (zB rfl) (zB rfl) zE hs rfl (zk (zB rfl) (fin' ⟨a/m,b,rfl,hb,hb1⟩))
 |false=>
  rw[hd]at tc;refine yN tc ?_;refine eL (j:=1) (yH (yH (yH (yR (zB rfl) zE (ix (k:=1) hs rfl)) zE (nX ⋯)) zE r0) zE (bmod ⋯)) (zB rfl) zE hs rfl ?_
  generalize hx:(b*48271+30269)%2147483629=x;have x0:0<=x:=by rw[<-hx];exact Gw _ ⋯
  have x1:x<2147483629:=by rw[<-hx];exact Fg _ ⋯
  have hs':(s.set p (qv a x))[p]?=some (qv a x):=AE hpl;show (zj Φ T.b [some (.h p),some (.c m),none,none,none] _ (s.set p (qv a x))).post _;refine yd (yH (yH (yH (yH (yR (zB rfl) zE (ix (k:=1) hs' rfl)) (yR (zB rfl) zE (ix (k:=1) hs' rfl)) (show binOp false .b (.c x) (.c x) _=_ by simp only[binOp];rw[if_pos (.inl ⋯)])) (yH zE (yR (zB rfl) zE (ix (k:=1) hs' rfl)) (aE ⋯)) r0) zE r0) zE (bmod ⋯)) ?_
  exact zk (yH (yH (zB rfl) zE (bdiv ⟨⋯,⋯⟩)) (zB rfl) (bmod h0)) (fin' ⟨a,x,rfl,x0,x1⟩)
end
end M
end
section
namespace M
open PySem
def mm(h:vs.length<zX):yf .a (.h s.length) [y] (s++[.c vs])=.e .g (s++[.c (vs++[y])]):=by simp[yf,h,upd]
section
variable {T:Tbl}{Φ:Calls}{s:Sto}
def VM lo n:(yC lo n).length=n:=by unfold yC;rw[zI,AM]
def Ye lo k:yC lo (k+1)=.c lo::yC (lo+1) k:=by
 unfold yC;rw[DB,Aw,BW];congr 1
 . simp
 . refine CC λj _=>?_
   show Val.c (lo+((j+1:Nat):Int))=Val.c (lo+1+(j:Int));congr 1;omega
def t6(h:x::rest=yC lo k):∃k',k=k'+1/\x=.c lo/\rest=yC (lo+1) k':=by
 cases k with
 |zero=>simp[yC]at h
 |succ k=>
  rw[Ye]at h;injection h with h1 h2
  exact⟨k,rfl,h1,h2⟩
def pG(h:[]=yC lo k):k=0:=by have:=congrArg Cq h;rw[VM]at this;exact this.symm
def Wc(h:s[i]?=some (.c vs)):blt .a m [.h i] s=.e (.c vs.length) s:=by simp[blt,wR,h]
end
end M
end
section
namespace M
open PySem
theorem qG:∀ks:List Int,uK (ks.map .c)=true
 |[]=>by rw[FY,uK]
 |k::ks=>by rw[Aw,uK,qG ks,Val.isD];rfl
def eq_nil(h:uK vs=true):zi .c (.k vs) (.k []) s=.e (.e vs.isEmpty) s:=by
 have h1:(Val.k vs).isD=true:=by rw[Val.isD];exact h
 have h2:(Val.k []).isD=true:=by rw[Val.isD,uK]
 have h3:(Val.k []).d=.list []:=by rw[Val.d,ds]
 have h4:(Val.k vs).d=.list (ds vs):=by rw[Val.d]
 have h5:Ct (.list (ds vs)) (.list [])=vs.isEmpty:=by
  cases vs with
  |nil=>rw[ds];rfl
  |cons v vs=>rw[ds];rfl
 simp only[zi,yT,xw,pY,h1,h2,h3,h4,h5];rfl
def vU(hp:p<ns.length):putL ns p h=ns.set p h:=by rw[BU,if_pos hp];rfl
noncomputable def QM(bad:Int->Bool):Val->List Val
 |.c x=>if bad x then [.c x] else []
 |_=>[]
def X0 bad(ks:List Int):(ks.map Val.c).flatMap (QM bad)=(ks.filter bad).map .c:=by rw[B4,<-lB];rfl
section
variable {T:Tbl}{Φ:Calls}{s:Sto}
def OP{ks:List Int}{bad:Int->Bool}(hi:xD Φ G env it s=.e ⟨ks.map .c,none⟩ s)(h0:zP fr env=none::e0)(h:∀k∈ks,x6 Φ G (some (.c k)::e0) ifs s=.e (bad k) s):evE Φ G env (.r false N fr (.e 0) (.a 0) it ifs) s=.e (.k ((ks.filter bad).map .c)) s:=by
 refine post_eq.mpr (uU (λe=>∃o,e=o::e0) (QM bad) (ks.map .c) (s1:=s) hi ⟨none,h0⟩ ?_ (by rw[X0];exact zC.mpr ⟨rfl,rfl⟩))
 rintro v hv e ⟨o,rfl⟩;obtain⟨k,hk,rfl⟩:=Aq.mp hv;refine⟨_,rfl,⟨_,rfl⟩,?_⟩;show (x6 Φ G (some (.c k)::e0) ifs s).post _;rw[h k hk];refine zC.mpr ⟨rfl,?_⟩;show if bad k=true then _ else (if bad k then [Val.c k] else [])=[]
 cases hb:bad k with
 |true=>
  rw[if_pos rfl];refine YC.mpr ⟨_,rfl,rfl,?_⟩;show (if bad k then [Val.c k] else [])=_
  rw[hb,if_pos rfl]
 |false=>rw[if_neg Aa,if_neg Aa]
end
section
variable {Φ:Calls}{G:Str->Option Val}{env:Env}{s:Sto}
noncomputable def RS(f:Nat->Int):Val->List Val
 |.c k=>[.c (f k.toNat)]
 |_=>[]
def Yg:(yC 0 n).flatMap (RS f)=((Al n).map f).map .c:=by
 unfold yC;rw[B4,BW];have:(λ(k:Nat)=>RS f (.c (0+(k:Int))))=λk=>[(Val.c∘f) k]:=by funext k;show [Val.c (f (0+(k:Int)).toNat)]=_;rw[EO,AL];rfl
 rw[this,nq]
def OR(hi:xD Φ G env it s=.e ⟨yC 0 n,none⟩ s)(h0:zP fr env=none::e0)(h:∀k (o:Option Val),k<n->evE Φ G (some (.c k)::e0) elt s=.e (.c (f k)) s)(hl:n<=zX):evE Φ G env (.r false N fr elt (.a 0) it .b) s=.e (.k (((Al n).map f).map .c)) s:=by
 rw[post_eq];refine uU (λe=>∃o,e=o::e0) (RS f) (yC 0 n) (s1:=s) hi ⟨none,h0⟩ ?_ ?_
 . rintro x hx e ⟨o,rfl⟩
   obtain⟨k,hk,rfl⟩:=rL hx;refine⟨_,rfl,⟨_,rfl⟩,vJ.mpr ⟨rfl,?_⟩⟩;rw[if_pos rfl,EO];show (evE Φ G (some (.c (k:Int))::e0) elt s).post _;rw[h k none hk];refine zC.mpr ⟨rfl,?_⟩;show [Val.c (f (k:Int).toNat)]=_;rw[AL]
 . rw[Yg]
   exact zC.mpr ⟨rfl,rfl⟩
end
end M
end
section
namespace M
open PySem
theorem rK:∀{n} {vs} {x},x∈yL n vs->∃k v,vs[k]?=some v/\x=.f [.c ((n+k:Nat):Int),v]
 |_,[],_,h=>by cases h
 |n,v::vs,x,h=>by
  rw[yL]at h;rcases Ah.mp h with e|h
  . exact⟨0,v,rfl,e⟩
  . obtain⟨k,w,h1,h2⟩:=rK h
    refine⟨k+1,w,by simpa using h1,?_⟩
    rw[h2];congr 3;omega
noncomputable def Xj:Val->List Val
 |.f [.c i,.c v]=>if v=-1 then [.c i] else []
 |_=>[]
def mr(ms:List Int):List Val:=(yL 0 (ms.map .c)).flatMap Xj
def ik(h:y∈mr ms):∃k:Nat,y=.c k/\ms[k]?=some (-1):=by
 obtain⟨x,hx,hy⟩:=Bb.mp h;obtain⟨k,v,h1,rfl⟩:=rK hx;rw[AA]at h1;obtain⟨i,h2,rfl⟩:=Au.mp h1;have hy:y∈(if i=-1 then [Val.c ((0+k:Nat):Int)] else []):=hy
 by_cases hi:i=-1
 . rw[if_pos hi]at hy
   rw[Dn]at hy;exact⟨k,Ao.mp hy,by rw[h2,hi]⟩
 . rw[if_neg hi]at hy;cases hy
def max2:blt .i m [.c i,.c j] s=.e (.c (if j > i then j else i)) s:=rfl
def min2:blt .j m [.c i,.c j] s=.e (.c (if j<i then j else i)) s:=rfl
def az{K:Nat}(h0:env[0]?=some (some (.p ns)))(hK:K<=100) :
 xD Φ G env (.c (.l .i false (.a (.g (.c 1)) (.a (.l .j false (.a (.l .a false (.a (.e 0) .b)) (.a (.g (.c K)) .b))) .b)))) s=.e ⟨yC 0 (max 1 (min ns.length K)),none⟩ s:=by
 rw[post_eq];simp only[EVl,zc,zP];refine⟨_,h0,?_⟩;rw[Zo];simp only[zC];rw[min2];simp only[zC];rw[max2];simp only[zC];have e:(if (if (K:Int)<(ns.length:Int) then (K:Int) else (ns.length:Int)) > 1 then (if (K:Int)<(ns.length:Int) then (K:Int) else (ns.length:Int)) else 1)=((max 1 (min ns.length K):Nat):Int):=by split<;>split<;>omega
 rw[e];refine⟨_,rfl,⟨⋯,by unfold zX;omega⟩,?_⟩
 simp
def leave_top(h:v.noRef=true):zU false [] v s=.e v []:=by unfold zU;simp[vG,freeze,h]
end M
end
section
namespace M
open PySem
noncomputable def yO:Nat->List Int->List Nat
 |_,[]=>[]
 |n,v::vs=>if v=-1 then n::yO (n+1) vs else yO (n+1) vs
theorem qA:∀n ms,(yL n (ms.map .c)).flatMap Xj=(yO n ms).map λ(k:Nat)=>Val.c k
 |_,[]=>rfl
 |n,v::vs=>by
  rw[Aw,yL,A7,qA (n+1) vs,yO];show (if v=-1 then [Val.c n] else [])++_=_
  by_cases h:v=-1
  . rw[if_pos h,if_pos h];rfl
  . rw[if_neg h,if_neg h];rfl
def iB ms:mr ms=(yO 0 ms).map λ(k:Nat)=>Val.c k:=qA 0 ms
def ux(h:p∈yO 0 ms):ms[p]?=some (-1):=by
 have:Val.c p∈mr ms:=by rw[iB];exact Aq.mpr ⟨p,h,rfl⟩
 obtain⟨k,h1,h2⟩:=ik this;injection h1 with h1
 have:p=k:=by omega
 rw[this];exact h2
def ql(zs ms:List Int)(p:Nat):Bool:=decide ((yp zs ms p).length<=1)
def ffL(zs ms:List Int):Option Nat:=(yO 0 ms).find? (ql zs ms)
noncomputable def oV:Option Nat->Val
 |none=>.g
 |some p=>.c p
def uj(h:ffL zs ms=some p):ms[p]?=some (-1):=ux (List.mem_of_find?_eq_some h)
def rT(zs:List Int):Nat->List Int->List (Nat × Nat)->List Int × List (Nat × Nat) × Option Nat
 |0,ms,st=>(ms,st,none)
 |n+1,ms,st=>match ffL zs ms with
  |none=>(ms,st,none)
  |some p=>match yp zs ms p with
   |[]=>(ms,st,some p)
   |h::_=>rT zs n (putL ms p h) (st++[(p,h)])
def vt(zs ms:List Int):List Int × List (Nat × Nat) × Option Nat:=rT zs (ms.count (-1)+1) ms []
def xu{p h:Nat}(hp:ms[p]?=some (-1)):(putL ms p (h:Int)).count (-1)+1=ms.count (-1):=by
 have hlt:=y8 hp;have e:ms[p]=-1:=by rw[pn hlt]at hp;exact Am hp
 have hm:0<ms.count (-1):=List.count_pos_iff.mpr (by rw[<-e];exact BK hlt)
 rw[vU hlt,List.count_set hlt,e];have:((h:Int) == -1)=false:=by rw[beq_eq_false_iff_ne];omega
 rw[this];simp;omega
def Dr.put(hd:Dr zs ms)(hp:p<ms.length)(hh:h<zs.length):Dr zs (putL ms p (h:Int)):=by
 refine⟨by rw[jW hp];exact hd.1,λx hx=>?_⟩
 rw[vU hp]at hx;rcases D8 hx with h|h
 . exact hd.2 x h
 . rw[h];omega
def mC(hm:h∈yp zs ms p):h<zs.length:=by unfold yp at hm;exact Ag.mp (AD.mp hm).1
section
variable {T:Tbl}{Φ:Calls}{s:Sto}
def tL(Φ:Calls):Prop:=∀(ms:List Int) (s:Sto),Φ "blanks_of" 0 [tpI ms] s=.e (.k ((yO 0 ms).map λ(k:Nat)=>Val.c k)) s
def CFF(Φ:Calls):Prop:=∀(zs ms:List Int) (s:Sto),Sz zs->ms.length<=32->Φ "first_forced" 0 [tpI zs,tpI ms] s=.e (oV (ffL zs ms)) s
def gH(g:Gls T):run T Φ F.wF [tpI ms] s=.e (.k ((yO 0 ms).map λ(k:Nat)=>Val.c k)) s:=by
 rw[post_eq];simp[F.wF,EVl,zc,zP];refine uU (λe=>∃a b,e=[a,b]) Xj (yL 0 (ms.map .c)) (s1:=s) ?_ ⟨_,_,rfl⟩ ?_ ?_
 . rw[post_eq]
   simp[EVl,zc,zP]
 . rintro x hx e ⟨a,b,rfl⟩
   obtain⟨k,v,h1,rfl⟩:=rK hx;rw[AA]at h1;obtain⟨j,h2,rfl⟩:=Au.mp h1;refine⟨_,rfl,⟨_,_,rfl⟩,?_⟩;simp[EVl,zc,zP,eq_int,Xj,g.bl];by_cases h:j=-1<;>simp[h]
 . have:=qA 0 ms
   rw[this];simp[newList,EVl,zc,zP,qi]
def RX(cB:tL Φ)(cU:wY Φ)(hz:Sz zs)(hm:ms.length<=32):run T Φ F.y4 [tpI zs,tpI ms] s=.e (oV (ffL zs ms)) s:=by
 rw[post_eq];simp[F.y4,EVl,zc,zP];refine wA (λrest e s'=>s'=s/\(∃o,e=[some (tpI zs),some (tpI ms),o])/\∃todo:List Nat,rest=todo.map (λ(k:Nat)=>Val.c k)/\(∀p∈todo,ms[p]?=some (-1))/\ffL zs ms=todo.find? (ql zs ms)) ((yO 0 ms).map λ(k:Nat)=>Val.c k) (s1:=s) ?_ ⟨rfl,⟨_,rfl⟩,yO 0 ms,rfl,λp hp=>ux hp,rfl⟩ ?_ ?_
 . rw[post_eq]
   simp[EVl,zc,zP,cB ms s]
 . rintro x rest e s' ⟨rfl,⟨o,rfl⟩,todo,hr,hb,hf⟩
   cases todo with
   |nil=>cases hr
   |cons p todo=>
    rw[Aw]at hr;injection hr with hx hr
    subst hx;refine⟨_,rfl,?_⟩;have hp:=hb p (.head _);have cu:=cU zs ms p s' hz hm (y8 hp);simp only[EVl,zc,zP];refine⟨_,rfl,_,rfl,_,rfl,?_⟩;rw[cu];simp only[zC,dg,xb,le_int,zF,zI];refine⟨_,rfl,?_⟩;rw[CU]at hf;by_cases h:((yp zs ms p).length:Int)<=1
    . have ht:ql zs ms p=true:=by unfold ql;rw[decide_eq_true_iff];omega
      rw[ht]at hf;rw[decide_eq_true h,if_pos rfl];refine⟨_,rfl,?_⟩;rw[hf];simp[EVl,zc,zP,oV]
    . have ht:ql zs ms p=false:=by unfold ql;rw[decide_eq_false_iff_not];omega
      rw[ht]at hf;rw[decide_eq_false h,if_neg Aa];exact⟨trivial,⟨_,rfl⟩,todo,hr,λq hq=>hb q (.tail _ hq),hf⟩
 . rintro e s' ⟨rfl,⟨o,rfl⟩,todo,hr,hb,hf⟩
   have ht:todo=[]:=by cases todo with|nil=>rfl|cons _ _=>cases hr
   subst ht;simp[EVl,zc,zP,hf,oV]
def n6(h1:zy vs=true)(h2:v.noRef=true):zU false s (.f [tpI ms,.h s.length,v]) (s++[.c vs])=.e (.f [tpI ms,.k vs,v]) s:=by
 have a1:(tpI ms).noRef=true:=by rw[vm];exact xE _
 have a0:(Val.h s.length).noRef=false:=by rw[Val.noRef]
 have e0:wz s.length (s++[Cel.c vs]) 17 (.h s.length)=some (.k vs):=by simp[wz,h1]
 unfold zU;simp only[uA,freeze,vm,xg,uS,a0,a1,h2,AV,if_false,if_true,DK,BX,Cy];rw[wz];simp only[tZ,a0,a1,h2,if_true,AV,if_false,e0];simp
def mN n(h:ffL zs ms=none):rT zs (n+1) ms st=(ms,st,none):=by simp[rT,h]
def mO n(h:ffL zs ms=some p)(ho:yp zs ms p=[]):rT zs (n+1) ms st=(ms,st,some p):=by simp[rT,h,ho]
def VQ(hf:ffL zs ms=some p)(ho:yp zs ms p=h::hs):rT zs (ms.count (-1)+1) ms st=rT zs ((putL ms p (h:Int)).count (-1)+1) (putL ms p (h:Int)) (st++[(p,h)]):=by have:=xu (h:=h) (uj hf);rw[this,rT,hf];simp only[ho]
def Yj(r:List Int × List (Nat × Nat) × Option Nat)(l:Val):Val:=.f [tpI r.1,l,oV r.2.2]
def Rx(Φ:Calls):Prop:=∀(zs ds:List Int) (s:Sto),Sz zs->Dr zs ds->Φ "run" 0 [tpI zs,tpI ds] s=.e (Yj (vt zs ds) (.k ((vt zs ds).2.1.map wN))) s
def is_none:zi .a v .g s=.e (.e !v.isN) s:=rfl
def Uw(cF:CFF Φ)(cU:wY Φ)(cW:uc Φ){G:Str->Option Val}{zs ds:List Int}(hz:Sz zs)(hd:Dr zs ds){R:Fl->Sto->Prop}
 (h1:∀p:Nat,(vt zs ds).2.2=some p->R (.b (.f [tpI (vt zs ds).1,.h s.length,.c p])) (s++[.c ((vt zs ds).2.1.map wN)]))
 (h2:∀o4 o5,(vt zs ds).2.2=none->R (.a [some (tpI zs),some (tpI ds),some (tpI (vt zs ds).1),some (.h s.length),o4,o5]) (s++[.c ((vt zs ds).2.1.map wN)])) :
 (exS Φ G [some (tpI zs),some (tpI ds),some (tpI ds),some (.h s.length),some (oV (ffL zs ds)),none] (.m (.a (.j .a (.e 4) (.g .g))) (.a (.g 5 (.h "unbarred" 0 (.a (.e 0) (.a (.e 2) (.a (.e 4) .b))))) (.a (.f (.b (.a (.e 5))) (.a (.d (.q (.a (.e 2) (.a (.e 3) (.a (.e 4) .b))))) .b) .b) (.a (.h (.D .a false (.e 3) (.a (.q (.a (.e 4) (.a (.p (.e 5) (.g (.c 0))) .b))) .b))) (.a (.g 2 (.h "with_hue" 0 (.a (.e 2) (.a (.e 4) (.a (.p (.e 5) (.g (.c 0))) .b))))) (.a (.g 4 (.h "first_forced" 0 (.a (.e 0) (.a (.e 2) .b)))) .b)))))) (s++[.c []])).post R:=by
 have hcnt:ds.count (-1)<=32:=AB List.count_le_length hd.1;refine Wy (ds.count (-1)) (λk e s'=>∃ms st o5,k=ms.count (-1)/\Dr zs ms/\st.length+k<=32/\vt zs ds=rT zs (k+1) ms st/\e=[some (tpI zs),some (tpI ds),some (tpI ms),some (.h s.length),some (oV (ffL zs ms)),o5]/\s'=s++[.c (st.map wN)]) (by unfold l5;omega) ⟨ds,[],_,rfl,hd,by simpa using hcnt,rfl,rfl,rfl⟩ ?_
 rintro k e s' ⟨ms,st,o5,rfl,hm,hl,hrun,rfl,rfl⟩;simp only[EVl,zc,zP];refine⟨_,rfl,?_⟩;rw[is_none];simp only[zC,zF];refine⟨_,rfl,?_⟩;cases hf:ffL zs ms with
 |none=>
  rw[mN _ hf]at hrun;rw[if_neg (by simp[oV,Val.isN])]
  have:=h2 (some (oV none)) o5 (by rw[hrun])
  rw[hrun]at this;exact this
 |some p=>
  have hp:=uj hf;have hpl:=y8 hp;rw[if_pos (by simp[oV,Val.isN])]
  have cu:=cU zs ms p (s++[.c (st.map wN)]) hz hm.1 hpl;refine⟨_,rfl,_,rfl,_,rfl,?_⟩;show (Φ "unbarred" 0 [tpI zs,tpI ms,.c p] (s++[.c (st.map wN)])).post _;rw[cu];simp only[zC];refine⟨_,rfl,_,(by rw[dg,XE]),?_⟩
  cases ho:yp zs ms p with
  |nil=>
   rw[mO _ hf ho]at hrun;rw[if_pos (by simp)]
   refine⟨_,rfl,_,rfl,_,rfl,?_⟩;rw[if_pos (by simp[zX])]
   have:=h1 p (by rw[hrun])
   rw[hrun]at this;exact this
  |cons h hs=>
   rw[VQ hf ho]at hrun;have hh:h<zs.length:=mC (p:=p) (ms:=ms) (by rw[ho];exact .head _)
   have hc:=xu (h:=h) hp;rw[if_neg (by simp)]
   have hix:∀s,wo (dg (h::hs)) (.c 0) s=.e (.c h) s:=λs=>x8 (k:=0) rfl;have cw:=cW ms p h (s++[.c ((st++[(p,h)]).map wN)]) hpl (by have:=hm.1;omega)
   have hm':=hm.put hpl hh;have cf:=cF zs (putL ms p h) (s++[.c ((st++[(p,h)]).map wN)]) hz hm'.1;have hap:yf .a (.h s.length) [.f [.c p,.c h]] (s++[.c (st.map wN)])=.e .g (s++[.c ((st++[(p,h)]).map wN)]):=by rw[mm (by rw[zI];unfold zX;omega),Bj];rfl
   refine⟨_,rfl,_,rfl,_,rfl,?_⟩;rw[hix];simp only[zC];rw[if_pos (by simp[zX])]
   show (yf .a (.h s.length) [.f [.c p,.c h]] (s++[.c (st.map wN)])).post _;rw[hap];simp only[zC];refine⟨_,rfl,_,rfl,_,rfl,?_⟩;rw[hix];simp only[zC];show (Φ "with_hue" 0 [tpI ms,.c p,.c h] (s++[.c ((st++[(p,h)]).map wN)])).post _;rw[cw];simp only[zC];refine⟨_,rfl,_,rfl,?_⟩;show (Φ "first_forced" 0 [tpI zs,tpI (putL ms p h)] (s++[.c ((st++[(p,h)]).map wN)])).post _;rw[cf];simp only[zC];refine⟨(putL ms p h).count (-1),⋯,putL ms p h,st++[(p,h)],_,rfl,hm',by rw[Ak];simp;omega,hrun,rfl,rfl⟩
def VU(cN:wX Φ)(cF:CFF Φ)(cU:wY Φ)(cW:uc Φ){zs ds}(hz:Sz zs)(hd:Dr zs ds):run T Φ F.nR [tpI zs,tpI ds] s=.e (Yj (vt zs ds) (.k ((vt zs ds).2.1.map wN))) s:=by
 rw[post_eq];have cf:=cF zs ds (s++[.c []]) hz hd.1;simp[F.nR,EVl,zc,zP,cN zs ds s hz hd,newList,zX,cf];refine Uw cF cU cW hz hd ?_ ?_
 . intro p e
   simp only[EVl,zc,zP];rw[n6 (u4 _) yg];simp[EVl,zc,zP,Yj,e,oV]
 . intro o4 o5 e
   simp[EVl,zc,zP,zX];rw[n6 (u4 _) yy];simp[EVl,zc,zP,Yj,e,oV]
end
end M
end
section
namespace M
open L2
noncomputable def su(ns:List Int)(f d z:Nat)(h:Int):Bool:=(Al z).all λk=>decide (ns[f+k*d]?=some h)
def yD:su ns f d z h=true↔∀k<z,ns[f+k*d]?=some h:=by unfold su;rw[AH];exact⟨λH k hk=>of_decide_eq_true (H k (Ag.mpr hk)),λH k hk=>decide_eq_true (H k (Ag.mp hk))⟩
noncomputable def pX(ns:List Int)(z:Nat)(h:Int):Bool:=(Al (ns.length/(z-1))).any λj=>(Al (z-1)).all λk=>decide (ns[ns.length-(k+1)*(j+1)]?=some h)
def fZ(hz:2<=z):pX ns z h=true↔∃d,0<d/\(z-1)*d<=ns.length/\∀k,1<=k->k<z->ns[ns.length-k*d]?=some h:=by
 unfold pX;rw[Bx];constructor
 . rintro ⟨j,hj,H⟩
   rw[Ag,EG,Bz ⋯,Br]at hj
   rw[AH]at H;refine⟨j+1,⋯,hj,λk h1 h2=>?_⟩
   have:=of_decide_eq_true (H (k-1) (Ag.mpr ⋯))
   rwa [show k-1+1=k by omega]at this
 . rintro ⟨d,h1,h2,H⟩
   refine⟨d-1,?_,?_⟩
   . rw[Ag,EG,Bz ⋯,show d-1+1=d by omega,Br];exact h2
   . rw[AH]
     intro k hk;rw[Ag]at hk;rw[show d-1+1=d by omega]
     exact decide_eq_true (H (k+1) ⋯ ⋯)
def wU(zs ns:List Int):Prop:=∀h f d,h<zs.length->0<d->f+d*(zM zs h-1)<ns.length->su ns f d (zM zs h) h≠true
structure Fit(zs ns:List Int):Prop where
 hue:∀x∈ns,0<=x/\x<zs.length
 a:wU zs ns
def oS{h:Int}(hi:i<ns.length):(ns++[h])[i]?=ns[i]?:=AJ hi
def Wb{h0:Nat}(hF:wU zs ns)(hh:h<zs.length)(hd:0<d)(hl:f+d*(zM zs h-1)<(ns++[(h0:Int)]).length)(hz:2<=zM zs h)(ha:su (ns++[(h0:Int)]) f d (zM zs h) h=true) :
 f+d*(zM zs h-1)=ns.length/\h=h0:=by
 rw[Ak,Bg]at hl;rw[yD]at ha;have key:f+d*(zM zs h-1)=ns.length:=by
  apply Nat.le_antisymm ⋯
  refine Nat.not_lt.mp λhlt=>hF h f d hh hd hlt ?_;rw[yD];intro k hk;have hk':k*d<=(zM zs h-1)*d:=BG _ ⋯
  have e:=Br d (zM zs h-1);rw[<-ha k hk,oS ⋯]
 refine⟨key,?_⟩;have:=ha (zM zs h-1) ⋯
 rw[Br,key,AR (Ac _),Cv]at this;have:=Am this;omega
def Uu{h0:Nat}(hz:2<=z)(hd:0<d)(hl:f+d*(z-1)=ns.length)(ha:su (ns++[(h0:Int)]) f d z h0=true):pX ns z h0=true:=by
 rw[fZ hz];rw[yD]at ha;have e:=Br d (z-1);refine⟨d,hd,⋯,λk h1 h2=>?_⟩
 have hk:=ha (z-1-k) ⋯
 have e2:(z-1-k)*d+k*d=(z-1)*d:=by rw[<-Nat.add_mul];congr 1;omega
 have hp:1*1<=k*d:=Dh h1 hd;have e3:f+(z-1-k)*d=ns.length-k*d:=by omega
 rw[e3,oS ⋯]at hk
 exact hk
def SJ{h0:Nat}(hz:2<=z)(he:pX ns z h0=true):∃f d,0<d/\f+d*(z-1)=ns.length/\su (ns++[(h0:Int)]) f d z h0=true:=by
 rw[fZ hz]at he;obtain⟨d,hd,hl,H⟩:=he;have e:=Br d (z-1);refine⟨ns.length-(z-1)*d,d,hd,⋯,?_⟩
 rw[yD];intro k hk;have e2:(z-1-k)*d+k*d=(z-1)*d:=by rw[<-Nat.add_mul];congr 1;omega
 have e3:ns.length-(z-1)*d+k*d=ns.length-(z-1-k)*d:=by omega
 rw[e3];by_cases hc:k=z-1
 . subst hc
   rw[Cv,DL,DG,AR (Ac _),Cv];rfl
 . have hp:1*1<=(z-1-k)*d:=Dh ⋯ hd
   rw[oS ⋯]
   exact H (z-1-k) ⋯ ⋯
def da(hz:Sz zs)(hF:wU zs ns)(hh:h0<zs.length):wU zs (ns++[(h0:Int)])↔pX ns (zM zs h0) h0=false:=by
 have z2:=(z0 hz hh).2.1;constructor
 . intro H
   cases he:pX ns (zM zs h0) h0 with
   |false=>rfl
   |true=>
    obtain⟨f,d,hd,hl,ha⟩:=SJ z2 he;exact(H h0 f d hh hd (by rw[Ak,Bg];omega) ha).elim
 . intro he h f d h1 h2 h3 ha
   obtain⟨e1,e2⟩:=Wb hF h1 h2 h3 (z0 hz h1).2.1 ha;subst e2;rw[Uu z2 h2 e1 ha]at he;cases he
def X1 zs:Fit zs []:=⟨λx hx=>(by cases hx),λh f d _ _ h3 _=>absurd h3 (Nat.not_lt_zero _)⟩
def zl(zs ns:List Int):List (Nat × Nat):=(Al zs.length).flatMap λh=>(ua ns.length (zM zs h)).filter λr=>su ns r.1 r.2 (zM zs h) h
def yX(hz:Sz zs):(zl zs ns).isEmpty=true↔wU zs ns:=by
 rw[AN];unfold zl;rw[CA];constructor
 . intro H h f d h1 h2 h3 ha
   have:=BL.mp (H h (Ag.mpr h1)) (f,d) ((xf (z0 hz h1).2.1).mpr ⟨h2,h3⟩);exact this ha
 . intro H h hh
   have hh:=Ag.mp hh;rw[BL];rintro ⟨f,d⟩ hr ha;obtain⟨h2,h3⟩:=(xf (z0 hz hh).2.1).mp hr;exact H h f d hh h2 h3 ha
theorem kT{α β:Type}{f:α->List β}:∀l:List α,(∀a∈l,(f a).length<=b)->(l.flatMap f).length<=l.length*b
 |[],_=>A3 _
 |a::l,h=>by rw[A7,Ak,An,Dm,Nat.add_comm];exact Nat.add_le_add (kT l λx hx=>h x (.tail _ hx)) (h a (.head _))
def bf(hz:Sz zs)(hn:ns.length<=40):(zl zs ns).length<=3200/\((zl zs ns).map toI).Nodup/\∀x∈(zl zs ns).map toI,0<=x.2/\x.2<1000:=by
 refine⟨?_,?_,λx hx=>?_⟩
 . have:=kT (f:=λh=>(ua ns.length (zM zs h)).filter λr=>su ns r.1 r.2 (zM zs h) h) (b:=800) (Al zs.length) λh _=>AB (EF _ _) (Yi hn)
   rw[AM]at this;have h4:=hz.2.1;unfold zl;omega
 . rw[List.nodup_iff_pairwise_ne,C4]
   unfold zl;rw[EE];refine⟨λh _=>?_,?_⟩
   . refine List.Pairwise.filter _ ?_
     have:=oJ (n:=ns.length) (z:=zM zs h) hn;rw[C4]at this;exact this.imp λw e=>by rw[e]at w;omega
   . refine List.Pairwise.imp_of_mem (R:=λa b=>a<b) (λ{a b} ha hb w x hx y hy e=>?_) En
     have hx:=(AD.mp hx).2;have hy:=(AD.mp hy).2;have exy:x=y:=by
      unfold toI at e;injection e with e1 e2
      exact EX (Int.ofNat_inj.mp e1) (Int.ofNat_inj.mp e2)
     subst exy;have z1:=(z0 hz (Ag.mp ha)).2.1;have z2:=(z0 hz (Ag.mp hb)).2.1;have q1:=yD.mp hx 0 ⋯
     have q2:=yD.mp hy 0 ⋯
     rw[q1]at q2;injection q2 with q2
     omega
 . obtain⟨r,hr,rfl⟩:=Aq.mp hx
   obtain⟨h,hh,hr⟩:=Bb.mp hr;have hr:=(AD.mp hr).1;have z2:=(z0 hz (Ag.mp hh)).2.1;have:=qM z2 hr;have:r.2*1<=r.2*(zM zs h-1):=EW _ ⋯
   unfold toI;dsimp only;omega
theorem qg{α:Type}{F:Nat->List α}:∀n,h0<n->(∀i,i<n->i≠h0->F i=[])->(Al n).flatMap F=F h0
 |n+1,h,H=>by
  rw[Dx,D4,List.flatMap_singleton];by_cases e:h0=n
  . subst e
    have:(Al h0).flatMap F=[]:=CA.mpr λi hi=>by have:=Ag.mp hi;exact H i ⋯ ⋯
    rw[this,CQ]
  . rw[qg n ⋯ λi hi=>H i ⋯,H n ⋯ (λz=>e z.symm),Ba]
end M
end
section
namespace F
open PySem M
noncomputable def yP:Fn:=⟨["sizes","hues","place","hue"],["sizes","hues"],false,(.a (.j (.b [2,3]) (.g (.e 1)) (.a (.f (.a (.j .k (.e 3) (.l .a false (.a (.e 0) .b)))) (.a (.d (.e 2)) .b) .b) .b)) (.a (.d (.g .g)) .b))⟩
noncomputable def yQ:Fn:=⟨["sizes","hues","first","hue","step"],["sizes","hues"],false,(.a (.j (.b [2,3]) (.g (.e 1)) (.a (.f (.a (.j .k (.e 3) (.g (.c 0)))) (.a (.j (.a 4) (.d (.g (.c 1)) (.k false .a (.h "most_step" 0 (.a (.l .a false (.a (.e 1) .b)) (.a (.e 2) (.a (.p (.e 0) (.e 3)) .b)))) (.g (.c 1)))) (.a (.f (.a (.h "is_one_hue" 0 (.a (.e 1) (.a (.e 2) (.a (.e 4) (.a (.p (.e 0) (.e 3)) .b)))))) (.a (.d (.q (.a (.e 2) (.a (.e 4) .b)))) .b) .b) .b)) .b) .b) .b)) (.a (.d (.g .g)) .b))⟩
noncomputable def xS:Fn:=⟨["sizes","strip","place","row"],["sizes","strip"],false,(.a (.h (.h "need_sizes" 0 (.a (.e 0) .b))) (.a (.h (.h "need_strip" 0 (.a (.e 1) .b))) (.a (.g 2 (.h "first_hue_wrong" 0 (.a (.e 0) (.a (.e 1) .b)))) (.a (.f (.a (.j .a (.e 2) (.g .g))) (.a (.d (.q (.a (.g (.j "hue")) (.a (.e 2) .b)))) .b) .b) (.a (.g 3 (.h "first_row_wrong" 0 (.a (.e 0) (.a (.e 1) .b)))) (.a (.d (.B (.a (.j .b (.e 3) (.g .g))) (.g .g) (.q (.a (.g (.j "row")) (.a (.p (.e 3) (.g (.c 0))) (.a (.p (.e 3) (.g (.c 1))) .b)))))) .b))))))⟩
noncomputable def rm:Fn:=⟨["sizes","strip"],["sizes","strip"],false,(.a (.d (.j .b (.h "first_wrong" 0 (.a (.e 0) (.a (.e 1) .b))) (.g .g))) .b)⟩
noncomputable def wd:Fn:=⟨["thing"],["thing"],false,(.a (.d (.u (.l .h false (.a (.e 0) (.a (.G "tuple" "tuple") .b))) (.a (.j .g (.l .a false (.a (.e 0) .b)) (.z "MOST_PLACES")) (.a (.h "are_wholes" 0 (.a (.e 0) (.a (.p (.z "HUES") (.g (.c 0))) (.a (.p (.z "HUES") (.C (.g (.c 1)))) .b)))) .b)))) .b)⟩
noncomputable def xp:Fn:=⟨["thing"],["thing"],false,(.a (.f (.b (.a (.h "is_strip" 0 (.a (.e 0) .b)))) (.a (.k (.h "NoStrip" 0 (.a (.g (.j "a strip is due")) .b))) .b) .b) .b)⟩
end F
end
section
namespace M
open PySem
structure Gl4(T:Tbl):Prop where
 mp:T.b "MOST_PLACES"=some (.c 40)
 ls:T.b "LEAST_SIZE"=some (.c 2)
 ms:T.b "MOST_SIZE"=some (.c 8)
 hu:T.b "HUES"=some (.m [0,1,2,3])
section
variable {T:Tbl}{Φ:Calls}{s:Sto}
def qL{ns:List Int}(h:x∈yL 0 (ns.map .c)):∃k i,ns[k]?=some i/\x=.f [.c (k:Nat),.c i]:=by obtain⟨k,v,h1,rfl⟩:=rK h;rw[AA]at h1;obtain⟨j,h2,rfl⟩:=Au.mp h1;exact⟨k,j,h2,by rw[Dn]⟩
end
end M
end
section
namespace M
open PySem
noncomputable def tB(ns:List Int)(z:Nat)(h:Int)(j:Nat):Bool:=(Al (z-1)).all λk=>decide (ns[ns.length-(k+1)*(j+1)]?=some h)
def YO{ns:List Int}(hn:ns.length<41):L2.yA ns (L2.xA ns.length none none (-1)).1 (-1) (L2.xA ns.length none none (-1)).2=ns.reverse:=by
 have hc:∀n:Nat,n<41->L2.xA n none none (-1)=((n:Int)-1,n):=by decide +kernel
 rw[hc _ hn];unfold L2.yA;dsimp only;rw[iM (g:=λk=>ns.getD (ns.length-1-k) 0)]
 . refine List.ext_getElem? λi=>?_
   by_cases hi:i<ns.length
   . rw[AA,D3 hi,List.getElem?_reverse hi,D6,Ab,pn ⋯];rfl
   . rw[DI (by simp;omega),DI (by simp;omega)]
 . intro k hk
   have hk:=Ag.mp hk;have:((ns.length:Int)-1+(k:Int)*-1).toNat=ns.length-1-k:=by omega
   rw[this,Ab,pn ⋯];rfl
def Rm:yf .b (tpI st) [.c h] s=.e (.c (st.count h)) s:=by
 have e:∀l:List Int,(l.map Val.c).countP (λz=>eqF z (.c h))=l.count h:=by
  intro l;induction l with
  |nil=>rfl
  |cons a l ih=>rw[Aw,CH,ih,EM];rfl
 have f:(st.map Val.c).all flat=true:=AH.mpr λv hv=>by obtain⟨i,_,rfl⟩:=Aq.mp hv;rfl
 show (if (flat (.c h)&&(st.map Val.c).all flat)=true then Out.e (Val.c ((st.map Val.c).countP λz=>eqF z (.c h):Nat)) s else .d)=_
 rw[f,e];rfl
end M
end
section
namespace F12
open PySem M
noncomputable def ym:Fn:=⟨["_law_sizes","_law_strip","_law_hue","_law_here","_law_size","_law_step"],["_law_sizes","_law_strip","_law_hue"],false,(.a (.n [3,4] (.a (.l .a false (.a (.e 1) .b)) (.a (.p (.e 0) (.e 2)) .b))) (.a (.j (.a 5) (.d (.g (.c 1)) (.k false .a (.k false .e (.e 3) (.k false .c (.e 4) (.g (.c 1)))) (.g (.c 1)))) (.a (.f (.a (.j .c (.r false ["_law_k","_law_hue","_law_strip","_law_here","_law_step"] [none,some 2,some 1,some 3,some 5] (.e 0) (.a 0) (.d (.g (.c 1)) (.e 4)) (.a (.a (.j .e (.p (.e 2) (.k false .c (.e 3) (.k false .b (.e 0) (.e 4)))) (.e 1))) .b)) (.s false .b))) (.a (.d (.g (.e true))) .b) .b) .b)) (.a (.d (.g (.e false))) .b)))⟩
end F12
end
section
namespace M
open L2
noncomputable def y9(n:Nat):List Int->List (List Int)
 |[]=>[[]]
 |x::xs=>if x=-1 then (Al n).flatMap λ(h:Nat)=>(y9 n xs).map ((h:Int)::·) else (y9 n xs).map (x::·)
theorem pV(hh:h<n):∀{ms} {p},ms[p]?=some (-1)->y9 n (ms.set p h)=(y9 n ms).filter λt=>decide (t[p]?=some (h:Int))
 |x::xs,0,e=>by
  have ex:x=-1:=by simpa using e
  subst ex;rw[List.set_cons_zero,y9,y9,if_neg ⋯,if_pos rfl,D5]
  rw[qg (h0:=h) n hh λi hi hne=>?_]
  . rw[ES]
    congr 1;exact(List.filter_eq_self.mpr λt _=>by simp).symm
  . rw[ES]
    have:(y9 n xs).filter ((λt:List Int=>decide (t[0]?=some (h:Int)))∘(λt=>(i:Int)::t))=[]:=by rw[BL];intro t _ hc;simp at hc;omega
    rw[this];rfl
 |x::xs,p+1,e=>by
  have e':xs[p]?=some (-1):=by simpa using e
  have ih:=pV hh (ms:=xs) e';have key:∀(y:Int),((y9 n xs).map (y::·)).filter (λt=>decide (t[p+1]?=some (h:Int)))=((y9 n xs).filter λt=>decide (t[p]?=some (h:Int))).map (y::·):=λy=>by rw[ES];rfl
  rw[List.set_cons_succ,y9,y9,ih];split
  . rw[D5]
    congr 1;funext i;exact(key _).symm
  . exact(key _).symm
theorem qB:∀{ms},(∀x∈ms,x≠-1)->y9 n ms=[ms]
 |[],_=>rfl
 |x::xs,h=>by rw[y9,if_neg (h x (.head _)),qB λy hy=>h y (.tail _ hy)];rfl
theorem w8:∀{ms t},t∈y9 n ms->t.length=ms.length/\∀i:Nat,(ms[i]?=some (-1)->∃h:Nat,h<n/\t[i]?=some (h:Int))/\(ms[i]?≠some (-1)->t[i]?=ms[i]?)
 |[],t,ht=>by
  rw[y9,Ao]at ht;subst ht;exact⟨rfl,λi=>⟨λe=>by simp at e,λ_=>rfl⟩⟩
 |x::xs,t,ht=>by
  rw[y9]at ht;split at ht
  . rename_i ex
    obtain⟨h,hh,ht⟩:=Bb.mp ht;obtain⟨t',ht',rfl⟩:=Aq.mp ht;obtain⟨h1,h2⟩:=w8 ht';refine⟨by rw[An,An,h1],λi=>?_⟩
    cases i with
    |zero=>exact⟨λ_=>⟨h,Ag.mp hh,rfl⟩,λe=>absurd (by simp[ex]) e⟩
    |succ i=>simpa using h2 i
  . rename_i ex
    obtain⟨t',ht',rfl⟩:=Aq.mp ht;obtain⟨h1,h2⟩:=w8 ht';refine⟨by rw[An,An,h1],λi=>?_⟩
    cases i with
    |zero=>exact⟨λe=>absurd (by simpa using e) ex,λ_=>rfl⟩
    |succ i=>simpa using h2 i
theorem sP:∀{ms} {p},ms[p]?=some (-1)->(∀i<p,ms[i]?≠some (-1))->y9 n ms=(Al n).flatMap λ(h:Nat)=>y9 n (ms.set p h)
 |x::xs,0,e,_=>by
  have ex:x=-1:=by simpa using e
  subst ex;rw[y9,if_pos rfl];congr 1
 |x::xs,p+1,e,hf=>by
  have e':xs[p]?=some (-1):=by simpa using e
  have hx:x≠-1:=λz=>hf 0 ⋯ (by simp[z])
  rw[y9,if_neg hx,sP e' λi hi=>by have:=hf (i+1) ⋯;simpa using this,Gb]
  congr 1;funext h;rw[List.set_cons_succ,y9,if_neg hx]
def fj(hl:t.length=ms.length)(hk:∀i:Nat,ms[i]?≠some (-1)->t[i]?=ms[i]?)(hF:wU zs t):wU zs ms:=λh f d h1 h2 h3 ha=>by
 refine hF h f d h1 h2 (by rw[hl];exact h3) ?_
 rw[yD]at ha ⊢;intro k hk2;have:=ha k hk2;rw[hk _ (by rw[this];intro z;have:=Am z;omega),this]
def oE(hz:Sz zs)(hF:wU zs ms)(hp:ms[p]?=some (-1))(hh:h<zs.length):vj ms (zM zs h) p h=[]↔wU zs (ms.set p h):=by
 have hpl:p<ms.length:=(Ad.mp hp).1;obtain⟨_,z2,_⟩:=z0 hz hh;have hput:putL ms p h=ms.set p h:=by rw[BU,if_pos hpl];rfl
 have get:∀q,(ms.set p (h:Int))[q]?=if q=p then some (h:Int) else ms[q]?:=λq=>by
  by_cases e:q=p
  . subst e;rw[if_pos rfl,AE hpl]
  . rw[if_neg e,Bt (λz=>e z.symm)]
 have onH:∀f d,X8 (zM zs h) p (f,d)=true->(yV (ms.set p h) f d (zM zs h)=true↔su (ms.set p h) f d (zM zs h) h=true):=λf d hP=>by
  obtain⟨k0,hk0,e0⟩:=Bx.mp hP;have e0:f+k0*d=p:=of_decide_eq_true e0;have hk0:=Ag.mp hk0;rw[yD];unfold yV;rw[AH];have p0:(ms.set p (h:Int))[f+k0*d]?=some (h:Int):=by rw[get,if_pos e0]
  constructor
  . intro H k hk
    have h1:=of_decide_eq_true (H k0 (Ag.mpr hk0));have h2:=of_decide_eq_true (H k (Ag.mpr hk));rw[h2,<-h1,p0]
  . intro H k hk
    have:=H 0 ⋯
    rw[DL,Ge]at this;rw[decide_eq_true_iff,H k (Ag.mp hk),this]
 unfold vj;rw[BL,hput];constructor
 . intro H h' f d h1 h2 h3 ha
   rw[A6]at h3;by_cases hc:∃k<zM zs h',f+k*d=p
   . obtain⟨k,hk,e⟩:=hc
     have eh:h'=h:=by have:=(yD.mp ha) k hk;rw[e,get,if_pos rfl]at this;have:=Am this;omega
     subst eh;have hP:X8 (zM zs h') p (f,d)=true:=Bx.mpr ⟨k,Ag.mpr hk,decide_eq_true e⟩;exact H (f,d) (AD.mpr ⟨(xf z2).mpr ⟨h2,h3⟩,hP⟩) ((onH f d hP).mpr ha)
   . refine hF h' f d h1 h2 h3 ?_
     rw[yD]at ha ⊢;intro k hk;have:=ha k hk
     rwa [get,if_neg λz=>hc ⟨k,hk,z⟩]at this
 . rintro H ⟨f,d⟩ hr ho
   obtain⟨hr,hP⟩:=AD.mp hr;obtain⟨h2,h3⟩:=(xf z2).mp hr;exact H h f d hh h2 (by rw[A6];exact h3) ((onH f d hP).mp ho)
def fG(hp:p<ms.length):(f,d)∈vj ms z p h↔(f,d)∈ua ms.length z/\X8 z p (f,d)=true/\∀k<z,f+k*d=p\/ms[f+k*d]?=some h:=by
 have hput:putL ms p h=ms.set p h:=by rw[BU,if_pos hp];rfl
 have get:∀q,(ms.set p h)[q]?=if q=p then some h else ms[q]?:=λq=>by
  by_cases e:q=p
  . subst e;rw[if_pos rfl,AE hp]
  . rw[if_neg e,Bt (λz=>e z.symm)]
 unfold vj atP;rw[AD,AD,and_assoc];refine and_congr_right λ_=>and_congr_right λhP=>?_;obtain⟨k0,hk0,e0⟩:=Bx.mp hP;have e0:f+k0*d=p:=of_decide_eq_true e0;have hk0:=Ag.mp hk0;rw[hput];unfold yV;rw[AH];have p0:(ms.set p h)[f+k0*d]?=some h:=by rw[get,if_pos e0]
 constructor
 . intro H k hk
   by_cases e:f+k*d=p
   . exact .inl e
   . have h1:=of_decide_eq_true (H k0 (Ag.mpr hk0))
     have h2:=of_decide_eq_true (H k (Ag.mpr hk));rw[<-h1,p0,get,if_neg e]at h2;exact .inr h2
 . intro H
   have all:∀k<z,(ms.set p h)[f+k*d]?=some h:=λk hk=>by
    rw[get];split
    . rfl
    . rename_i e;exact(H k hk).resolve_left e
   intro k hk;have h0:=all 0 ⋯
   rw[DL,Ge]at h0;rw[decide_eq_true_iff,all k (Ag.mp hk),h0]
structure Ov(ms t:List Int):Prop where
 b:t.length=ms.length
 a:∀i:Nat,ms[i]?≠some (-1)->t[i]?=ms[i]?
def Ov.hue(x:Ov ms t){i h:Nat}(e:ms[i]?=some (h:Int)):t[i]?=some (h:Int):=by rw[x.a i (by rw[e];intro z;have:=Am z;omega),e]
def rA(h:t∈y9 n ms):Ov ms t:=⟨(w8 h).1,λi hi=>((w8 h).2 i).2 hi⟩
def fF(hz:Sz zs)(ho:o<zs.length)(hp:p<ms.length)(x:Ov ms t)(hb:vj ms (zM zs o) p o≠[])(ht:t[p]?=some (o:Int)):¬wU zs t:=λhF=>by
 obtain⟨⟨f,d⟩,hr⟩:=FR _ hb;obtain⟨h1,h2,h3⟩:=(fG hp).mp hr;obtain⟨d0,hl⟩:=(xf (z0 hz ho).2.1).mp h1;refine hF o f d ho d0 (by rw[x.b];exact hl) (yD.mpr λk hk=>?_)
 rcases h3 k hk with e|e
 . rw[e];exact ht
 . exact x.hue e
def kW(zs t:List Int):Bool:=(zl zs t).isEmpty
def z7(zs ms:List Int):List (List Int):=(y9 zs.length ms).filter (kW zs)
def gS(hz:Sz zs)(hp:ms[p]?=some (-1))(hh:h<zs.length)(hb:∀o,o<zs.length->o≠h->vj ms (zM zs o) p o≠[]):z7 zs (ms.set p h)=z7 zs ms:=by
 have hpl:p<ms.length:=(Ad.mp hp).1;unfold z7;rw[pV hh hp,Fh];refine List.filter_congr λt ht=>?_;cases hf:kW zs t with
 |false=>rfl
 |true=>
  obtain⟨o,ho,e⟩:=((w8 ht).2 p).1 hp;have:o=h:=Decidable.byContradiction λne=>fF hz ho hpl (rA ht) (hb o ho ne) e ((yX hz).mp hf);rw[e,this];simp
def gU(hz:Sz zs)(hp:ms[p]?=some (-1))(hb:∀o,o<zs.length->vj ms (zM zs o) p o≠[]):z7 zs ms=[]:=by have hpl:p<ms.length:=(Ad.mp hp).1;unfold z7;rw[BL];intro t ht hf;obtain⟨o,ho,e⟩:=((w8 ht).2 p).1 hp;exact fF hz ho hpl (rA ht) (hb o ho) e ((yX hz).mp hf)
def vX(zs:List Int)(parts:List (List Int))(p:Nat):List (List Int):=parts.flatMap λpart=>(yp zs part p).map λ(h:Nat)=>putL part p h
structure Bl(ms:List Int)(b:List Nat):Prop where
 a:∀i:Nat,ms[i]?=some (-1)↔i∈b
 c:b.Pairwise (·<·)
theorem qf{α β:Type}q(f:α->List β):∀l:List α,(l.filter q).flatMap f=l.flatMap λx=>if q x then f x else []
 |[]=>rfl
 |x::xs=>by rw[DT,A7,<-qf q f xs];cases q x<;>simp
theorem fill_eq(hz:Sz zs):∀b parts,(∀part∈parts,wU zs part/\Bl part b)->b.foldl (vX zs) parts=parts.flatMap (z7 zs)
 |[],parts,H=>by
  have:∀part∈parts,z7 zs part=[part]:=λpart hp=>by
   obtain⟨h1,h2⟩:=H part hp;unfold z7;rw[qB λx hx e=>?_]
   . have:kW zs part=true:=(yX hz).mpr h1
     rw[DT,this];rfl
   . obtain⟨i,hi⟩:=BF hx
     rw[e]at hi;exact absurd ((h2.a i).mp hi) (by simp)
  rw[List.foldl_nil];clear H;induction parts with
  |nil=>rfl
  |cons a as ih=>rw[A7,this a (.head _),<-ih λq hq=>this q (.tail _ hq)];rfl
 |p::b,parts,H=>by
  rw[List.foldl_cons,fill_eq hz b (vX zs parts p) λpart' hp'=>?_]
  . unfold vX
    rw[List.flatMap_assoc];have:∀part∈parts,((yp zs part p).map λ(h:Nat)=>putL part p (h:Int)).flatMap (z7 zs)=z7 zs part:=λpart hp=>by
     obtain⟨h1,h2⟩:=H part hp;have hb:part[p]?=some (-1):=(h2.a p).mpr (.head _);have hpl:p<part.length:=(Ad.mp hb).1;have hput:∀h:Int,putL part p h=part.set p h:=λh=>by rw[BU,if_pos hpl];rfl
     have hfirst:∀i<p,part[i]?≠some (-1):=λi hi e=>by
      rcases Ah.mp ((h2.a i).mp e) with z|z
      . omega
      . have:=(Bn.mp h2.c).1 i z;omega
     rw[B4]
     conv=>rhs;unfold z7;rw[sP hb hfirst,D5]
     unfold yp;rw[qf];have key:∀h∈Al zs.length,(if (vj part (zM zs h) p h).isEmpty then z7 zs (putL part p h) else [])=(y9 zs.length (part.set p h)).filter (kW zs):=λh hh=>by
      have hh:=Ag.mp hh;split
      . rw[hput];rfl
      . rename_i hne
        refine(BL.mpr λt ht hf=>hne ?_).symm;rw[AN,oE hz h1 hb hh];exact fj (rA ht).b (rA ht).a ((yX hz).mp hf)
     generalize Al zs.length=l at key;induction l with
     |nil=>rfl
     |cons a as ih=>rw[A7,A7,key a (.head _),ih λq hq=>key q (.tail _ hq)]
    clear H;induction parts with
    |nil=>rfl
    |cons a as ih=>rw[A7,A7,this a (.head _),ih λq hq=>this q (.tail _ hq)]
  . obtain⟨part,hp,hm⟩:=Bb.mp hp'
    obtain⟨h,hh,rfl⟩:=Aq.mp hm;obtain⟨h1,h2⟩:=H part hp;have hb:part[p]?=some (-1):=(h2.a p).mpr (.head _);have hpl:p<part.length:=(Ad.mp hb).1;have hput:putL part p (h:Int)=part.set p h:=by rw[BU,if_pos hpl];rfl
    unfold yp at hh;obtain⟨hh1,hh2⟩:=AD.mp hh;have hh1:=Ag.mp hh1;rw[hput];refine⟨(oE hz h1 hb hh1).mp (AN.mp hh2),⟨λi=>?_,(Bn.mp h2.c).2⟩⟩;by_cases e:i=p
    . subst e
      rw[AE hpl];constructor
      . intro z;have:=Am z;omega
      . intro z;have:=(Bn.mp h2.c).1 i z;omega
    . rw[Bt (λz=>e z.symm),h2.a i,Ah]
      exact⟨λz=>z.resolve_left e,.inr⟩
end M
end
section
namespace M
open PySem
def endOf(ms:List Int)(st:List (Nat × Nat)):List Int:=st.foldl (λms q=>putL ms q.1 q.2) ms
def SO(zs:List Int):List Int->List (Nat × Nat)->Prop
 |_,[]=>True
 |ms,(p,h)::st=>ms[p]?=some (-1)/\yp zs ms p=[h]/\SO zs (putL ms p h) st
theorem SO.append:∀{st st'} {ms},SO zs ms st->SO zs (endOf ms st) st'->SO zs ms (st++st')
 |[],_,_,_,h=>h
 |(p,h)::st,st',ms,⟨a,b,c⟩,d=>⟨a,b,SO.append c d⟩
structure b7(zs ms:List Int)(r:List Int × List (Nat × Nat) × Option Nat)(st new:List (Nat × Nat)):Prop where
 st:r.2.1=st++new
 so:SO zs ms new
 e:r.1=endOf ms new
 a:∀p,r.2.2=some p->r.1[p]?=some (-1)/\yp zs r.1 p=[]
 full:r.2.2=none->ffL zs r.1=none
theorem jf:∀n ms st,ms.count (-1)<n->∃new,b7 zs ms (rT zs n ms st) st new
 |n+1,ms,st,hn=>by
  cases hf:ffL zs ms with
  |none=>rw[mN n hf];exact⟨[],by simp,trivial,rfl,λp e=>(by cases e),λ_=>hf⟩
  |some p=>
   cases ho:yp zs ms p with
   |nil=>rw[mO n hf ho];exact⟨[],by simp,trivial,rfl,λq e=>(by cases e;exact⟨uj hf,ho⟩),λe=>(by cases e)⟩
   |cons h hs=>
    have e:rT zs (n+1) ms st=rT zs n (putL ms p h) (st++[(p,h)]):=by rw[rT,hf];simp only[ho]
    have hc:=xu (h:=h) (uj hf);obtain⟨new,h1,h2,h3,h4,h5⟩:=jf n (putL ms p h) (st++[(p,h)]) ⋯
    have ht:ql zs ms p=true:=List.find?_some hf;unfold ql at ht;rw[decide_eq_true_iff,ho]at ht;have hn:hs=[]:=by cases hs with|nil=>rfl|cons _ _=>simp at ht
    subst hn;exact⟨(p,h)::new,by rw[e,h1,Bc];rfl,⟨uj hf,ho,h2⟩,by rw[e,h3];rfl,by rw[e];exact h4,by rw[e];exact h5⟩
def jg zs ds:b7 zs ds (vt zs ds) [] (vt zs ds).2.1:=by
 obtain⟨new,h⟩:=jf (zs:=zs) (ds.count (-1)+1) ds [] ⋯
 have e:(vt zs ds).2.1=new:=by have:=h.st;rwa [CQ]at this
 rw[e];exact h
def bT(ho:yp zs ms p=[h]):h<zs.length/\vj ms (zM zs h) p h=[]/\∀o,o<zs.length->o≠h->vj ms (zM zs o) p o≠[]:=by
 have hm:h∈yp zs ms p:=by rw[ho];exact .head _
 refine⟨mC hm,?_,λo h1 h2 h3=>h2 ?_⟩
 . unfold yp at hm
   exact AN.mp (AD.mp hm).2
 . have:o∈yp zs ms p:=by unfold yp;exact AD.mpr ⟨Ag.mpr h1,by rw[h3];rfl⟩
   rw[ho]at this;exact Ao.mp this
def VJ(hp:ms[p]?=some x):putL ms p h=ms.set p h:=vU (y8 hp)
theorem eM(hz:Sz zs):∀{st} {ms},SO zs ms st->z7 zs (endOf ms st)=z7 zs ms
 |[],_,_=>rfl
 |(p,h)::st,ms,⟨a,b,c⟩=>by obtain⟨h1,_,h3⟩:=bT b;show z7 zs (endOf (putL ms p h) st)=z7 zs ms;rw[eM hz c,VJ a,gS hz a h1 h3]
def Z3(ho:yp zs ms p=[]):∀o,o<zs.length->vj ms (zM zs o) p o≠[]:=λo h1 h3=>by
 have:o∈yp zs ms p:=by unfold yp;exact AD.mpr ⟨Ag.mpr h1,by rw[h3];rfl⟩
 rw[ho]at this;cases this
def Yt{zs ds}(hz:Sz zs):z7 zs (vt zs ds).1=z7 zs ds:=by have h:=jg zs ds;rw[h.e];exact eM hz h.so
def gW{zs ds}(hz:Sz zs)(hs:(vt zs ds).2.2=some p):z7 zs ds=[]:=by have h:=(jg zs ds).a p hs;rw[<-Yt hz];exact gU hz h.1 (Z3 h.2)
end M
end
section
namespace M
open PySem
def Wr(zs ns:List Int)(f d:Nat):Prop:=∃h:Nat,ns[f]?=some (h:Int)/\h<zs.length/\0<d/\f+d*(zM zs h-1)<ns.length/\yV ns f d (zM zs h)=true
def tm(hz:Sz zs):(f,d)∈zl zs ns↔Wr zs ns f d:=by
 unfold zl Wr;rw[Bb];constructor
 . rintro ⟨h,hh,hr⟩
   have hh:=Ag.mp hh;obtain⟨z1,z2,z3⟩:=z0 hz hh;obtain⟨h1,h2⟩:=AD.mp hr;obtain⟨h3,h4⟩:=(xf z2).mp h1;have ha:=yD.mp h2;have h0:=ha 0 ⋯
   rw[DL,Ge]at h0;refine⟨h,h0,hh,h3,h4,AH.mpr λk hk=>decide_eq_true ?_⟩;rw[ha k (Ag.mp hk),h0]
 . rintro ⟨h,h0,hh,h3,h4,ho⟩
   obtain⟨z1,z2,z3⟩:=z0 hz hh;refine⟨h,Ag.mpr hh,AD.mpr ⟨(xf z2).mpr ⟨h3,h4⟩,yD.mpr λk hk=>?_⟩⟩;rw[of_decide_eq_true (AH.mp ho k (Ag.mpr hk)),h0]
def v9(zs ns:List Int):Val:=match vW ((zl zs ns).map toI) with
 |[]=>.g
 |z::_=>prV z
def ZJ(hz:Sz zs)(h:∀f d,¬Wr zs ns f d):v9 zs ns=.g:=by have e:zl zs ns=[]:=Dy.mpr λ⟨f,d⟩ hm=>h f d ((tm hz).mp hm);unfold v9;rw[e];rfl
def ZK(hz:Sz zs)(hn:ns.length<=40)(h:Wr zs ns f d)(hm:∀f' d',Wr zs ns f' d'->f<f'\/f=f'/\d<=d'):v9 zs ns=.f [.c f,.c d]:=by
 obtain⟨_,w2,w3⟩:=bf hz hn;have hs:=oU w2 w3;have hp:=yv ((zl zs ns).map toI);have hin:((f:Int),(d:Int))∈(zl zs ns).map toI:=Aq.mpr ⟨(f,d),(tm hz).mpr h,rfl⟩;have hin':=hp.mem_iff.mpr hin;unfold v9;generalize vW ((zl zs ns).map toI)=l at *;cases l with
 |nil=>cases hin'
 |cons z l=>
  rw[Bn]at hs;have e:z=((f:Int),(d:Int)):=by
   rcases Ah.mp hin' with q|q
   . exact q.symm
   . have lt:=hs.1 _ q
     have hz':=hp.mem_iff.mp (AK (a:=z) (l:=l));obtain⟨⟨f',d'⟩,k1,rfl⟩:=Aq.mp hz';have b1:=w3 _ hz';have b2:=w3 _ hin;have:=hm f' d' ((tm hz).mp k1);unfold toI at lt b1;have lt:=(L2.kH b1 b2).mp lt;dsimp only at lt b1 b2;omega
  rw[e];rfl
def vP:(v9 zs ns).isN=(zl zs ns).isEmpty:=by
 unfold v9;have hp:=(yv ((zl zs ns).map toI)).length_eq;rw[zI]at hp;generalize vW ((zl zs ns).map toI)=l at *;cases l with
 |nil=>
  have:zl zs ns=[]:=List.length_eq_zero_iff.mp hp.symm;rw[this];rfl
 |cons z l=>
  cases hw:zl zs ns with
  |nil=>rw[hw]at hp;simp at hp
  |cons a b=>rfl
end M
end
section
namespace M
open PySem
def drop_cons{α:Type}{l r:List α}{x}(h:x::r=l.drop i):l[i]?=some x/\r=l.drop (i+1):=by
 have hi:i<l.length:=by have:=congrArg Cq h;rw[An,Dk]at this;omega
 rw[D7 hi]at h;injection h with h1 h2
 exact⟨by rw[pn hi,h1],h2⟩
def drop_nil{α:Type}{l:List α}(h:[]=l.drop i):l.length<=i:=by have:=congrArg Cq h;rw[BE,Dk]at this;omega
def dZ{ns:List Int}{x:Val}(h:(yL 0 (ns.map .c))[i]?=some x):∃k,ns[i]?=some k/\x=.f [.c (i:Nat),.c k]:=by
 rw[v8,AA]at h;cases hi:ns[i]? with
 |none=>rw[hi]at h;cases h
 |some k=>
  rw[hi]at h;refine⟨k,rfl,?_⟩;have h:=(Am h).symm;rw[h,Dn]
def VL(h:(yC lo n)[j]?=some x):j<n/\x=.c (lo+j):=by unfold yC at h;rw[AA]at h;obtain⟨k,h1,rfl⟩:=Au.mp h;obtain⟨h2,h3⟩:=Ad.mp h1;rw[List.getElem_range]at h3;subst h3;exact⟨by rwa [AM]at h2,rfl⟩
section
variable {T:Tbl}{Φ:Calls}{s:Sto}
def rj(Φ:Calls):Prop:=∀(zs ns:List Int) (s:Sto),Sz zs->(∀x∈ns,x<zs.length)->ns.length<=40->Φ "first_row_wrong" 0 [tpI zs,tpI ns] s=.e (v9 zs ns) s
def bI(cM:g8 Φ)(cO:bz Φ){zs ns:List Int}(hz:Sz zs)(hu:∀x∈ns,x<zs.length)(hn:ns.length<=40):run T Φ F.yQ [tpI zs,tpI ns] s=.e (v9 zs ns) s:=by
 have hl:blt .a false [tpI ns] s=.e (.c ns.length) s:=by rw[xb,zI]
 rw[post_eq,F.yQ,zw];refine⟨rfl,?_⟩;show (zj Φ T.b [some (tpI zs),some (tpI ns),none,none,none] _ s).post _;refine zm.mpr (wA (λrest e s'=>s'=s/\(∃o2 o3 o4,e=[some (tpI zs),some (tpI ns),o2,o3,o4])/\∃i,rest=(yL 0 (ns.map .c)).drop i/\∀f d,Wr zs ns f d->i<=f) (yL 0 (ns.map .c)) (s1:=s) (lH (zB rfl)) ⟨rfl,⟨_,_,_,rfl⟩,0,rfl,λ_ _ _=>A3 _⟩ ?_ ?_)
 . rintro x rest e s' ⟨rfl,⟨o2,o3,o4,rfl⟩,f,hr,hW⟩
   obtain⟨hx,hr'⟩:=drop_cons hr;obtain⟨i,hk,rfl⟩:=dZ hx;refine⟨_,rfl,?_⟩;have hi:=hu i (AF hk);by_cases h0:0<=i
   . obtain⟨h,rfl⟩:∃h:Nat,i=h:=⟨i.toNat,⋯⟩
     have hh:h<zs.length:=by omega
     obtain⟨z1,z2,z3⟩:=z0 hz hh;have hfl:=y8 hk;have c1:=cM ns.length f (zM zs h) s' hfl z2 z3;have i1:=sR (s:=s') z1;have own:∀{h':Nat},ns[f]?=some (h':Int)->h=h':=λq1=>by rw[hk]at q1;have:=Am q1;omega
     refine xF (zN (zZ (zB rfl) zE ge_int) (by rw[zF,decide_eq_true h0])) ?_
     have hK:(ns.length-1-f)/(zM zs h-1)<=40:=AB (Cu _ _) ⋯
     refine zm.mpr (wA (λrest e s''=>s''=s'/\(∃o4,e=[some (tpI zs),some (tpI ns),some (.c f),some (.c h),o4])/\∃j,rest=(yC ((1:Nat):Int) ((ns.length-1-f)/(zM zs h-1))).drop j/\∀d,Wr zs ns f d->j<d) (yC ((1:Nat):Int) ((ns.length-1-f)/(zM zs h-1))) (s1:=s') (fo (i:=1) (j:=(ns.length-1-f)/(zM zs h-1)+1) zE (yH (x_call (zA (zo (zA (zB rfl) zD) hl) (zA (zB rfl) (zA (yR (zB rfl) (zB rfl) i1) zD))) c1) zE r0) ⋯ ⋯) ⟨rfl,⟨_,rfl⟩,0,rfl,λd hd=>?_⟩ ?_ ?_)
     . obtain⟨_,_,_,h3,_⟩:=hd;exact h3
     . rintro x rest2 e s'' ⟨rfl,⟨o4,rfl⟩,j,hr2,hJ⟩
       obtain⟨hx2,hr2'⟩:=drop_cons hr2;obtain⟨hj,rfl⟩:=VL hx2;have d2:f+(j+1)*(zM zs h-1)<ns.length:=by
        rw[EG,Bz ⋯]at hj
        omega
       have ej:((1:Nat):Int)+(j:Int)=((j+1:Nat):Int):=by omega
       rw[ej];generalize hd:j+1=d at *;refine⟨_,rfl,?_⟩;have c2:=cO ns f d (zM zs h) s'' ⋯ ⋯ d2 (by unfold zX;omega)
       cases ho:yV ns f d (zM zs h) with
       |true=>
        rw[ho]at c2;refine xF (zN (x_call (zA (zB rfl) (zA (zB rfl) (zA (zB rfl) (zA (yR (zB rfl) (zB rfl) i1) zD)))) c2) zF) (zk (vH (zA (zB rfl) (zA (zB rfl) zD)) (show 2<=zX by unfold zX;omega)) ?_)
        have w:Wr zs ns f d:=⟨h,hk,hh,⋯,d2,ho⟩
        have:=ZK hz hn w λf' d' w'=>by
         have h1:=hW f' d' w';by_cases e:f=f'
         . subst e
           have:=hJ d' w';exact .inr ⟨rfl,⋯⟩
         . exact .inl ⋯
        rw[this];show (zU false s'' _ s'').post _;rw[zL rfl];exact zC.mpr ⟨rfl,rfl⟩
       |false=>
        rw[ho]at c2;refine yN (zN (x_call (zA (zB rfl) (zA (zB rfl) (zA (zB rfl) (zA (yR (zB rfl) (zB rfl) i1) zD)))) c2) zF) (yq ⟨rfl,⟨_,rfl⟩,d,hr2',λd' w'=>?_⟩);have h1:=hJ d' w';by_cases e:d'=d
        . subst e
          obtain⟨h',q1,_,_,_,q5⟩:=w';have:=own q1;subst this;rw[ho]at q5;cases q5
        . omega
     . rintro e s'' ⟨rfl,⟨o4,rfl⟩,j,hr2,hJ⟩
       have hj:=drop_nil hr2;refine yq (yq ⟨rfl,⟨_,_,_,rfl⟩,f+1,hr',λf' d' w'=>?_⟩);have h1:=hW f' d' w';by_cases e:f'=f
       . subst e
         have h2:=hJ d' w';obtain⟨h',q1,_,q3,q4,_⟩:=w';have:=own q1;subst this;unfold yC at hj;rw[zI,AM]at hj;have:d'<=(ns.length-1-f')/(zM zs h-1):=by
          rw[Bz ⋯]
          omega
         omega
       . omega
   . refine yN (zN (zZ (zB rfl) zE ge_int) (by rw[zF,decide_eq_false h0])) (yq ⟨rfl,⟨_,_,_,rfl⟩,f+1,hr',λf' d' w'=>?_⟩)
     have h1:=hW f' d' w';by_cases e:f'=f
     . subst e
       obtain⟨h',q1,_⟩:=w';rw[hk]at q1;have:=Am q1;omega
     . omega
 . rintro e s' ⟨rfl,⟨o2,o3,o4,rfl⟩,i,hr,hW⟩
   have hi:=drop_nil hr;have hl:(yL 0 (ns.map .c)).length=ns.length:=vO.trans (zI _);have:=ZJ hz (ns:=ns) λf d w=>by have h1:=hW f d w;obtain⟨h',q1,_⟩:=w;have:=y8 q1;omega
   refine zk zE ?_;rw[this];show (zU false s' _ s').post _;rw[zL yy];exact zC.mpr ⟨rfl,rfl⟩
def vE(zs:List Int):Val->Bool
 |.f vs=>decide (vs.length<=40)&&vs.all (xC (-1) ((zs.length:Int)-1))
 |_=>false
def gy(Φ:Calls):Prop:=∀(zs:List Int) (v:Val) (s:Sto),Sz zs->kindOf v≠none->(∀vs,v=.f vs->∀w∈vs,kindOf w≠none)->Φ "is_draft" 0 [tpI zs,v] s=.e (.e (vE zs v)) s
def ae{v:Val}(h:∀vs,v≠.f vs):vE zs v=false:=by
 cases v with
 |f vs=>exact absurd rfl (h vs)
 |_=>rfl
def gK(g:Gls T)(c1:sI Φ)(c:qy Φ)(h:Sz zs)(hk:kindOf v≠none)(hks:∀vs,v=.f vs->∀w∈vs,kindOf w≠none):run T Φ F.xa [tpI zs,v] s=.e (.e (vE zs v)) s:=by
 rw[post_eq];obtain⟨a,ha⟩:=pC hk;rcases iW ha with⟨vs,rfl⟩|h1
 . have c2:=c vs (-1) ((zs.length:Int)-1) s (hks vs rfl)
   by_cases h4:vs.length<=40
   . have h4':(vs.length:Int)<=40:=by omega
     simp[F.xa,EVl,zc,zP,pB,xb,c1 zs s h,g.a,g.bl,le_int,qp,c2,vE,h4,h4']
   . have h4':¬(vs.length:Int)<=40:=by omega
     simp[F.xa,EVl,zc,zP,pB,xb,c1 zs s h,g.a,le_int,vE,h4,h4']
 . have e1:=p5 (m:=false) (s:=s) ha (show uM "tuple"=some .b from rfl)
   rw[h1]at e1;have e2:=ae (zs:=zs) (v:=v) λvs e=>by rw[e]at ha;cases ha;cases h1
   simp[F.xa,EVl,zc,zP,c1 zs s h,e1,e2]
end
end M
end
section
namespace M
open PySem
def R4(h:a.length+b.length<=zX):binOp false .a (.k a) (.k b) s=.e (.k (a++b)) s:=by simp only[binOp,z8];rw[if_pos h];rfl
end M
end
section
namespace M
open PySem
def XU:xC l m (.c i)=(decide (l<=i)&&decide (i<=m)):=rfl
def kO:vE zs (.f vs)=(decide (vs.length<=40)&&vs.all (xC (-1) ((zs.length:Int)-1))):=rfl
end M
end
section
namespace M
open PySem
noncomputable def Rg(zs:List Int):Val->List Val
 |.f [.c i,.c h]=>if (zs.length:Int)<=h then [.c i] else []
 |_=>[]
def js(zs ns:List Int):List Val:=(yL 0 (ns.map .c)).flatMap (Rg zs)
def Vf(h:v∈js zs ns):∃k:Nat,v=.c k/\k<ns.length:=by
 obtain⟨x,hx,hv⟩:=Bb.mp h;obtain⟨k,i,hk,rfl⟩:=qL hx;have hv:v∈if (zs.length:Int)<=i then [Val.c (k:Nat)] else []:=hv
 by_cases hi:(zs.length:Int)<=i
 . rw[if_pos hi]at hv
   exact⟨k,Ao.mp hv,y8 hk⟩
 . rw[if_neg hi]at hv;cases hv
def eQ(h:js zs ns=[]):∀x∈ns,x<zs.length:=λx hx=>by
 obtain⟨k,hk⟩:=BF hx;have hm:Val.f [.c ((0+k:Nat):Int),.c x]∈yL 0 (ns.map .c):=AF (i:=k) (by rw[v8,AA,hk];rfl)
 have:=CA.mp h _ hm;by_cases hi:(zs.length:Int)<=x
 . have this:(if (zs.length:Int)<=x then [Val.c ((0+k:Nat):Int)] else [])=[]:=this
   rw[if_pos hi]at this;cases this
 . omega
def iQ(zs ns:List Int):Val:=match js zs ns with
 |[]=>.g
 |v::_=>v
noncomputable def UH:Val->Val
 |.f [a,b]=>.f [.j "row",a,b]
 |_=>.g
def uh(zs ns:List Int):Val:=match js zs ns with
 |v::_=>.f [.j "hue",v]
 |[]=>UH (v9 zs ns)
def tj zs ns:(vW ((zl zs ns).map toI)=[]/\v9 zs ns=.g)\/∃z l,vW ((zl zs ns).map toI)=z::l/\v9 zs ns=.f [.c z.1,.c z.2]:=by
 unfold v9;cases vW ((zl zs ns).map toI) with
 |nil=>exact .inl ⟨rfl,rfl⟩
 |cons z l=>exact .inr ⟨z,l,rfl,rfl⟩
section
variable {T:Tbl}{Φ:Calls}{s:Sto}
def br(Φ:Calls):Prop:=∀(zs ns:List Int) (s:Sto),Φ "first_hue_wrong" 0 [tpI zs,tpI ns] s=.e (iQ zs ns) s
def bH:run T Φ F.yP [tpI zs,tpI ns] s=.e (iQ zs ns) s:=by
 have hl:blt .a false [tpI zs] s=.e (.c zs.length) s:=by rw[xb,zI]
 rw[post_eq,F.yP,zw];refine⟨rfl,?_⟩;show (zj Φ T.b [some (tpI zs),some (tpI ns),none,none] _ s).post _;refine zm.mpr (wA (λrest e s'=>s'=s/\(∃o2 o3,e=[some (tpI zs),some (tpI ns),o2,o3])/\(∀x∈rest,x∈yL 0 (ns.map .c))/\js zs ns=rest.flatMap (Rg zs)) (yL 0 (ns.map .c)) (s1:=s) (lH (zB rfl)) ⟨rfl,⟨_,_,rfl⟩,λx hx=>hx,rfl⟩ ?_ ?_)
 . rintro x rest e s' ⟨rfl,⟨o2,o3,rfl⟩,hr,hS⟩
   obtain⟨k,i,hk,rfl⟩:=qL (hr x (.head _));have hr':∀x∈rest,x∈yL 0 (ns.map .c):=λx hx=>hr x (.tail _ hx);refine⟨_,rfl,?_⟩;rw[A7,show Rg zs (.f [.c (k:Nat),.c i])=if (zs.length:Int)<=i then [Val.c (k:Nat)] else [] from rfl]at hS
   by_cases hn:(zs.length:Int)<=i
   . rw[if_pos hn]at hS
     have:iQ zs ns=.c (k:Nat):=by unfold iQ;rw[hS];rfl
     refine xF (zN (zZ (zB rfl) (zo (zA (zB rfl) zD) hl) ge_int) (by rw[zF,decide_eq_true hn])) (zk (zB rfl) ?_)
     rw[this];show (zU false s' _ s').post _;rw[zL yg];exact zC.mpr ⟨rfl,rfl⟩
   . rw[if_neg hn]at hS
     exact yN (zN (zZ (zB rfl) (zo (zA (zB rfl) zD) hl) ge_int) (by rw[zF,decide_eq_false hn])) (yq ⟨rfl,⟨_,_,rfl⟩,hr',hS⟩)
 . rintro e s' ⟨rfl,⟨o2,o3,rfl⟩,_,hS⟩
   have:iQ zs ns=.g:=by unfold iQ;rw[hS];rfl
   refine zk zE ?_;rw[this];show (zU false s' _ s').post _;rw[zL yy];exact zC.mpr ⟨rfl,rfl⟩
def vQ(ns:List Int):Prop:=ns.length<=40/\∀x∈ns,0<=x/\x<=3
def qb(Φ:Calls):Prop:=∀(ns:List Int) (s:Sto),vQ ns->Φ "need_strip" 0 [tpI ns] s=.e .g s
def rk(Φ:Calls):Prop:=∀(ns:List Int) (s:Sto),vQ ns->Φ "is_strip" 0 [tpI ns] s=.e (.e true) s
def lW(g:Gl4 T)(c:qy Φ)(hn:vQ ns):run T Φ F.wd [tpI ns] s=.e (.e true) s:=by
 rw[post_eq];have c1:=c (ns.map .c) 0 3 s qJ;rw[uH hn.2]at c1;have a1:(ns.length:Int)<=40:=by have:=hn.1;omega
 have i0:wo (.m [0,1,2,3]) (.c 0) s=.e (.c 0) s:=rfl;have i1:wo (.m [0,1,2,3]) (.c (-1)) s=.e (.c 3) s:=rfl;simp[F.wd,EVl,zc,zP,pB,xb,g.mp,g.hu,le_int,a1,i0,i1,c1]
def oQ(c:rk Φ)(hn:vQ ns):run T Φ F.xp [tpI ns] s=.e .g s:=by rw[post_eq];simp[F.xp,EVl,zc,zP,c ns s hn]
def lx(Φ:Calls):Prop:=∀(zs ns:List Int) (s:Sto),Sz zs->vQ ns->Φ "first_wrong" 0 [tpI zs,tpI ns] s=.e (uh zs ns) s
def bu(Φ:Calls):Prop:=∀(zs ns:List Int) (s:Sto),Sz zs->vQ ns->Φ "fits" 0 [tpI zs,tpI ns] s=.e (.e (uh zs ns).isN) s
def jj(c1:sI Φ)(c2:qb Φ)(c3:br Φ)(c4:rj Φ)(hz:Sz zs)(hn:vQ ns):run T Φ F.xS [tpI zs,tpI ns] s=.e (uh zs ns) s:=by
 have L1:∀n,n<100->n<=zX:=λn h=>by unfold zX;omega
 have k3:=c3 zs ns s;unfold iQ at k3;have end':∀{v:Val},v=uh zs ns->v.noRef=true->(zU false s v s).post λx t=>x=uh zs ns/\t=s:=λ{v} e h=>by rw[zL h,e];exact zC.mpr ⟨rfl,rfl⟩
 rw[post_eq,F.xS,zw];refine⟨rfl,?_⟩;show (zj Φ T.b [some (tpI zs),some (tpI ns),none,none] _ s).post _;refine yb (x_call (zA (zB rfl) zD) (c1 zs s hz)) (yb (x_call (zA (zB rfl) zD) (c2 ns s hn)) ?_);cases hS:js zs ns with
 |cons v r=>
  obtain⟨k,rfl,_⟩:=Vf (zs:=zs) (ns:=ns) (v:=v) (by rw[hS];exact .head _)
  rw[hS]at k3;have e:uh zs ns=.f [.j "hue",.c k]:=by unfold uh;rw[hS]
  exact yd (x_call (zA (zB rfl) (zA (zB rfl) zD)) k3) (xF (zN (zZ (zB rfl) zE (show zi .a (.c (k:Nat)) .g s=.e (.e true) s from rfl)) zF) (zk (vH (zA zE (zA (zB rfl) zD)) (L1 2 ⋯)) (end' e.symm rfl)))
 |nil=>
  rw[hS]at k3;have hu:=eQ hS;have k4:=c4 zs ns s hz hu hn.1;have e:uh zs ns=UH (v9 zs ns):=by unfold uh;rw[hS]
  refine yd (x_call (zA (zB rfl) (zA (zB rfl) zD)) k3) (yN (zN (zZ (zB rfl) zE (show zi .a .g .g s=.e (.e false) s from rfl)) zF) ?_);rcases tj zs ns with⟨_,h2⟩|⟨z,l,_,h2⟩
  . rw[h2]at k4 e
    exact yd (x_call (zA (zB rfl) (zA (zB rfl) zD)) k4) (zk (vd (zN (zZ (zB rfl) zE (show zi .b .g .g s=.e (.e true) s from rfl)) zF) zE) (end' e.symm rfl))
  . rw[h2]at k4 e
    exact yd (x_call (zA (zB rfl) (zA (zB rfl) zD)) k4) (zk (vb (zN (zZ (zB rfl) zE (show zi .b (.f [.c z.1,.c z.2]) .g s=.e (.e false) s from rfl)) zF) (vH (zA zE (zA (yR (zB rfl) zE rfl) (zA (yR (zB rfl) zE rfl) zD))) (L1 3 ⋯))) (end' e.symm rfl))
def bJ(c:lx Φ)(hz:Sz zs)(hn:vQ ns):run T Φ F.rm [tpI zs,tpI ns] s=.e (.e (uh zs ns).isN) s:=by rw[post_eq];have n2:zi .b (uh zs ns) .g s=.e (.e (uh zs ns).isN) s:=rfl;simp[F.rm,EVl,zc,zP,c zs ns s hz hn,n2]
end
end M
end
section
namespace F28
open PySem M
noncomputable def yz:Fn:=⟨["sizes","draft","drafts","place"],["sizes","draft"],false,(.a (.h (.h "need_few_ways" 0 (.a (.e 0) (.a (.e 1) (.a (.z "MOST_WAYS") .b))))) (.a (.f (.a (.j .a (.h "first_row_wrong" 0 (.a (.e 0) (.a (.e 1) .b))) (.g .g))) (.a (.d (.s false .b)) .b) .b) (.a (.g 2 (.s false (.a (.e 1) .b))) (.a (.j (.a 3) (.f (.h "blanks_of" 0 (.a (.e 1) .b))) (.a (.g 2 (.y false ["part","hue","sizes","place"] [none,none,some 0,some 3] (.h "with_hue" 0 (.a (.e 0) (.a (.e 3) (.a (.e 1) .b)))) (.a 0) (.f (.e 2)) .b (.a 1) (.f (.h "unbarred" 0 (.a (.e 2) (.a (.e 0) (.a (.e 3) .b))))) .b)) .b)) (.a (.d (.e 2)) .b)))))⟩
noncomputable def tM:Fn:=⟨["sizes","draft"],["sizes","draft"],false,(.a (.h (.h "need_draft" 0 (.a (.e 0) (.a (.e 1) .b)))) (.a (.d (.j .b (.h "first_row_wrong" 0 (.a (.e 0) (.a (.e 1) .b))) (.g .g))) .b))⟩
noncomputable def yi:Fn:=⟨["sizes","draft"],["sizes","draft"],false,(.a (.d (.l .a false (.a (.h "all_fillings" 0 (.a (.e 0) (.a (.e 1) .b))) .b))) .b)⟩
noncomputable def yj:Fn:=⟨["sizes","draft","found"],["sizes","draft"],false,(.a (.g 2 (.h "all_fillings" 0 (.a (.e 0) (.a (.e 1) .b)))) (.a (.d (.B (.a (.e 2)) (.p (.e 2) (.g (.c 0))) (.g .g))) .b))⟩
noncomputable def xj:Fn:=⟨["sizes","draft","thing"],["sizes","draft","thing"],false,(.a (.h (.h "need_draft" 0 (.a (.e 0) (.a (.e 1) .b)))) (.a (.d (.u (.h "is_strip" 0 (.a (.e 2) .b)) (.a (.h "keeps" 0 (.a (.e 1) (.a (.e 2) .b))) (.a (.h "fits" 0 (.a (.e 0) (.a (.e 2) .b))) .b)))) .b))⟩
noncomputable def tP:Fn:=⟨["draft","strip"],["draft","strip"],false,(.a (.d (.u (.j .c (.l .a false (.a (.e 1) .b)) (.l .a false (.a (.e 0) .b))) (.a (.l .k false (.a (.r false ["own","hue"] [none,none] (.j .l (.e 0) (.q (.a (.z "BLANK") (.a (.e 1) .b)))) (.b [0,1]) (.h (.e 0) (.e 1)) .b) .b)) .b))) .b)⟩
noncomputable def z6:Fn:=⟨["sizes","draft","most","ways"],["sizes","draft","most"],false,(.a (.h (.h "need_draft" 0 (.a (.e 0) (.a (.e 1) .b)))) (.a (.g 3 (.h "ways_many" 0 (.a (.e 0) (.a (.e 1) .b)))) (.a (.f (.a (.j .d (.e 3) (.e 2))) (.a (.k (.g .g)) .b) .b) .b)))⟩
noncomputable def wK:Fn:=⟨["sizes","draft","ways","place"],["sizes","draft"],false,(.a (.g 2 (.g (.c 1))) (.a (.j (.a 3) (.f (.h "blanks_of" 0 (.a (.e 1) .b))) (.a (.r 2 .b (.l .i false (.a (.l .a false (.a (.e 0) .b)) (.a (.g (.c 2)) .b)))) .b)) (.a (.d (.e 2)) .b)))⟩
end F28
end
section
namespace M
open PySem
abbrev sC(L:List (List Int)):List Val:=L.map tpI
def wM(zs ds:List Int):Nat:=(max zs.length 2) ^ (yO 0 ds).length
theorem tS:∀{ms} {n i},i∈yO n ms↔n<=i/\ms[i-n]?=some (-1)
 |[],n,i=>⟨nofun,λh=>by simp at h⟩
 |v::ms,n,i=>by
  have ih:=tS (ms:=ms) (n:=n+1) (i:=i);unfold yO;by_cases hv:v=-1
  . rw[if_pos hv,Ah,ih]
    constructor
    . rintro (rfl|⟨h1,h2⟩)
      . exact⟨Ac _,by rw[Cv,hv];rfl⟩
      . refine⟨⋯,?_⟩
        rw[show i-n=(i-(n+1))+1 by omega];exact h2
    . rintro ⟨h1,h2⟩
      by_cases e:i=n
      . exact .inl e
      . refine .inr ⟨⋯,?_⟩
        rw[show i-n=(i-(n+1))+1 by omega]at h2;exact h2
  . rw[if_neg hv,ih]
    constructor
    . rintro ⟨h1,h2⟩
      refine⟨⋯,?_⟩
      rw[show i-n=(i-(n+1))+1 by omega];exact h2
    . rintro ⟨h1,h2⟩
      by_cases e:i=n
      . rw[e,Cv]at h2
        exact absurd (Am h2) hv
      . refine⟨⋯,?_⟩
        rw[show i-n=(i-(n+1))+1 by omega]at h2;exact h2
theorem pR:∀ms n,(yO n ms).Pairwise (·<·)
 |[],_=>.nil
 |v::ms,n=>by
  unfold yO;by_cases hv:v=-1
  . rw[if_pos hv]
    exact Bn.mpr ⟨λi hi=>by have:=(tS.mp hi).1;omega,pR ms (n+1)⟩
  . rw[if_neg hv];exact pR ms (n+1)
def mw ds:Bl ds (yO 0 ds):=⟨λi=>by rw[tS];simp,pR ds 0⟩
def bU{zs ds}(hz:Sz zs)(hf:wU zs ds):(yO 0 ds).foldl (vX zs) [ds]=z7 zs ds:=by rw[fill_eq hz _ _ λpart hp=>by rw[Ao.mp hp];exact⟨hf,mw ds⟩,A7,List.flatMap_nil,Ba]
def jo{zs ds t}(hz:Sz zs)(h:t∈z7 zs ds):Ov ds t/\wU zs t:=by obtain⟨h1,h2⟩:=AD.mp h;exact⟨rA h1,(yX hz).mp h2⟩
def eO{zs ds}(hz:Sz zs)(hf:¬wU zs ds):z7 zs ds=[]:=Dy.mpr λt ht=>by obtain⟨o,f⟩:=jo hz ht;exact hf (fj o.b o.a f)
theorem oW:∀parts:List (List Int),(vX zs parts p).length<=parts.length*zs.length
 |[]=>A3 _
 |a::as=>by unfold vX;rw[A7,Ak,An,Dm,Nat.add_comm,zI];refine Nat.add_le_add (oW as) ?_;unfold yp;exact AB (EF _ _) (by rw[AM];exact Ac _)
def bW(h:∀x∈parts,x.length=n)(hp:p<n):∀x∈vX zs parts p,x.length=n:=λx hx=>by obtain⟨part,h1,h2⟩:=Bb.mp hx;obtain⟨k,_,rfl⟩:=Aq.mp h2;have:=h part h1;rw[vU ⋯,A6,this]
section
variable {T:Tbl}{Φ:Calls}{G:Str->Option Val}{env:Env}{s s1:Sto}
def P8(hu:env[i]?=some (some (.c x)))(h:evE Φ G env e s=.e (.c y) s)(hb:binOp false op (.c x) (.c y) s=.e w s)(k:(zj Φ G (env.set i (some w)) cs s).post P):(zj Φ G env (.a (.r i op e) cs) s).post P:=by
 refine zm.mpr ?_;have:exS Φ G env (.r i op e) s=.e (.a (env.set i (some w))) s:=by rw[exS,hu];exact bnd h (bnd hb rfl)
 rw[this];exact zC.mpr k
def b4(Φ:Calls):Prop:=∀(zs ds:List Int) (s:Sto),Sz zs->Φ "ways_many" 0 [tpI zs,tpI ds] s=.e (.c (wM zs ds:Nat)) s
def Yu(cB:tL Φ){zs ds}(hz:Sz zs):run T Φ F28.wK [tpI zs,tpI ds] s=.e (.c (wM zs ds:Nat)) s:=by
 have hl:∀s,blt .a false [tpI zs] s=.e (.c zs.length) s:=λs=>by rw[xb,zI]
 have hz4:=hz.2.1;have hm:∀s,blt .i false [.c (zs.length:Int),.c 2] s=.e (.c (max zs.length 2:Nat)) s:=λs=>by rw[max2];congr 2;split<;>omega
 rw[post_eq,F28.wK,zw];refine⟨rfl,?_⟩;show (zj Φ T.b [some (tpI zs),some (tpI ds),none,none] _ s).post _;refine yd zE ?_;refine zm.mpr (wA (λrest e s'=>s=s'/\∃done todo o,done++todo=yO 0 ds/\rest=todo.map (λ(k:Nat)=>Val.c k)/\e=[some (tpI zs),some (tpI ds),some (.c ((max zs.length 2) ^ done.length:Nat)),o]) ((yO 0 ds).map λ(k:Nat)=>Val.c k) (s1:=s) (vk (x_call (zA (zB rfl) zD) (cB ds s)) rfl) ⟨rfl,[],_,_,rfl,rfl,rfl⟩ ?_ ?_)
 . rintro x rest e s' ⟨rfl,done,todo,o,hd,hr,rfl⟩
   cases todo with
   |nil=>cases hr
   |cons k todo=>
    injection hr with hx hr
    subst hx;refine⟨_,rfl,?_⟩;refine P8 rfl (zo (zA (zo (zA (zB rfl) zD) (hl s)) (zA zE zD)) (hm s)) (nX ⋯) (yq ⟨rfl,done++[k],todo,some (.c k),by rw[Bc];exact hd,hr,?_⟩)
    rw[Ak,Bg,Gf,Bv];rfl
 . rintro e s' ⟨rfl,done,todo,o,hd,hr,rfl⟩
   have ht:todo=[]:=by cases todo with|nil=>rfl|cons _ _=>cases hr
   subst ht;rw[Ba]at hd;subst hd;refine zk (zB rfl) ?_;show (zU false s _ s).post _;rw[zL yg];exact zC.mpr ⟨rfl,rfl⟩
def UT(Φ:Calls):Prop:=∀(zs ds:List Int) (s:Sto),Sz zs->Dr zs ds->wM zs ds<=512->Φ "need_few_ways" 0 [tpI zs,tpI ds,.c 512] s=.e .g s
def VR(cN:wX Φ)(cW:b4 Φ){zs ds}(hz:Sz zs)(hd:Dr zs ds)(hw:wM zs ds<=512):run T Φ F28.z6 [tpI zs,tpI ds,.c 512] s=.e .g s:=by
 rw[post_eq,F28.z6,zw];refine⟨rfl,?_⟩;show (zj Φ T.b [some (tpI zs),some (tpI ds),some (.c 512),none] _ s).post _;refine yb (x_call (zA (zB rfl) (zA (zB rfl) zD)) (cN zs ds s hz hd)) (yd (x_call (zA (zB rfl) (zA (zB rfl) zD)) (cW zs ds s hz)) (yN (zN (zZ (zB rfl) (zB rfl) gt_int) (by rw[zF,decide_eq_false ⋯])) (yq ?_)))
 show (zU false s _ s).post _;rw[zL yy];exact zC.mpr ⟨rfl,rfl⟩
noncomputable def unE:Val->Int
 |.c i=>i
 |_=>0
def unT:Val->List Int
 |.f vs=>vs.map unE
 |_=>[]
def gn ns:unT (tpI ns)=ns:=by show (ns.map Val.c).map unE=ns;rw[BW];exact List.map_id' ns
def nk(zs:List Int)(p:Nat)(v:Val):Val->List Val
 |.c h=>[tpI (putL (unT v) p h)]
 |_=>[]
def kS:nk zs p (tpI ns) (.c h)=[tpI (putL ns p h)]:=by show [tpI (putL (unT (tpI ns)) p h)]=_;rw[gn]
def Y7:(sC parts).flatMap (λx=>((yp zs (unT x) p).map λ(k:Nat)=>Val.c k).flatMap (nk zs p x))=sC (vX zs parts p):=by
 unfold vX;show _=F8 tpI (F9 _ _);rw[B4,Gb];congr 1;funext ns;rw[gn,B4,BW];have:(λ(k:Nat)=>nk zs p (tpI ns) (.c k))=λk=>[(tpI∘λ(h:Nat)=>putL ns p h) k]:=by funext k;exact kS
 rw[show (λa=>nk zs p (tpI ns) ((λ(k:Nat)=>Val.c (k:Int)) a))=λk=>[(tpI∘λ(h:Nat)=>putL ns p h) k] from this,nq]
def Sr(cU:wY Φ)(cW:uc Φ){parts:List (List Int)}(hz:Sz zs)(hp:∀x∈parts,x.length=n)(hn:n<=32)(hpn:p<n)(hl:parts.length<=512)(h2:xD Φ G env (.f (.e 2)) s=.e ⟨sC parts,a_⟩ s)(hok:Src.ok ⟨sC parts,a_⟩ s=true)(h0:zP [none,none,some 0,some 3] env=[none,none,some (tpI zs),some (.c p)])(hP:(newList m (sC (vX zs parts p)) s).post P) :
 (evE Φ G env (.y m N [none,none,some 0,some 3] (.h "with_hue" 0 (.a (.e 0) (.a (.e 3) (.a (.e 1) .b)))) (.a 0) (.f (.e 2)) .b (.a 1) (.f (.h "unbarred" 0 (.a (.e 2) (.a (.e 0) (.a (.e 3) .b))))) .b) s).post P:=by
 have key:=Y7 (zs:=zs) (parts:=parts) (p:=p);refine f9 (λe=>∃a b,e=[a,b,some (tpI zs),some (.c p)]) (λx=>((yp zs (unT x) p).map λ(k:Nat)=>Val.c k).flatMap (nk zs p x)) (λx e=>∃b,e=[some x,b,some (tpI zs),some (.c p)]) (nk zs p) ?_;refine⟨_,_,h2,hok,⟨_,_,h0⟩,?_,?_,?_⟩
 . rintro x hx e ⟨a,b,rfl⟩
   obtain⟨ns,hns,rfl⟩:=Aq.mp hx;have hn1:=hp ns hns;refine⟨_,rfl,vJ.mpr ⟨rfl,?_⟩⟩;rw[if_pos rfl];refine⟨_,_,vk (x_call (zA (zB rfl) (zA (zB rfl) (zA (zB rfl) zD))) (cU zs ns p s hz ⋯ ⋯)) rfl,rfl,rfl,⟨_,rfl⟩,?_,?_,?_⟩
   . rintro e ⟨b,rfl⟩;exact⟨_,_,rfl⟩
   . rw[gn]
   . rintro y hy e ⟨b,rfl⟩
     obtain⟨k,hk,rfl⟩:=Aq.mp hy;refine⟨_,rfl,⟨_,rfl⟩,vJ.mpr ⟨rfl,?_⟩⟩;rw[if_pos rfl];show (evE Φ G [some (tpI ns),some (.c (k:Int)),some (tpI zs),some (.c p)] _ s).post _;rw[x_call (zA (zB rfl) (zA (zB rfl) (zA (zB rfl) zD))) (cW ns p k s ⋯ ⋯)]
     exact zC.mpr ⟨rfl,kS⟩
 . show Small _
   rw[key];show (sC (vX zs parts p)).length<=zX;rw[zI];have h4:=hz.2.1;have h5:=oW (zs:=zs) (p:=p) parts;have:parts.length*zs.length<=512*4:=Dh hl h4;unfold zX;omega
 . show (newList m ((sC parts).flatMap _) s).post _
   rw[key];exact hP
def Rv(cU:wY Φ)(cW:uc Φ){parts:List (List Int)}(hz:Sz zs)(hp:∀x∈parts,x.length=n)(hn:n<=32)(hpn:p<n)(hl:parts.length<=512)(h2:env[2]?=some (some (.k (sC parts))))(h0:zP [none,none,some 0,some 3] env=[none,none,some (tpI zs),some (.c p)]) :
 evE Φ G env (.y false N [none,none,some 0,some 3] (.h "with_hue" 0 (.a (.e 0) (.a (.e 3) (.a (.e 1) .b)))) (.a 0) (.f (.e 2)) .b (.a 1) (.f (.h "unbarred" 0 (.a (.e 2) (.a (.e 0) (.a (.e 3) .b))))) .b) s=.e (.k (sC (vX zs parts p))) s:=
 post_eq.mpr (Sr cU cW hz hp hn hpn hl (vk (zB h2) rfl) rfl h0 (zC.mpr ⟨rfl,rfl⟩))
def bt(Φ:Calls):Prop:=∀(zs ds:List Int) (s:Sto),Sz zs->Dr zs ds->wM zs ds<=512->Φ "all_fillings" 0 [tpI zs,tpI ds] s=.e (.k (sC (z7 zs ds))) s
theorem qj:∀L:List (List Int),zy (sC L)=true
 |[]=>rfl
 |ns::L=>by show (Val.noRef (tpI ns)&&zy (sC L))=true;rw[qj L,Fw];exact xE ns
def jT{zs ds}(h:k<=(yO 0 ds).length):zs.length ^ k<=wM zs ds:=by unfold wM;exact AB (Nat.pow_le_pow_left (Nat.le_max_left _ _) k) (DU ⋯ h)
def Yp(g:T.b "MOST_WAYS"=some (.c 512))(cF:UT Φ)(cR:rj Φ)(cB:tL Φ)(cU:wY Φ)(cW:uc Φ){zs ds}(hz:Sz zs)(hd:Dr zs ds)(hw:wM zs ds<=512):run T Φ F28.yz [tpI zs,tpI ds] s=.e (.k (sC (z7 zs ds))) s:=by
 have L1:∀n,n<100->n<=zX:=λn h=>by unfold zX;omega
 have end':∀{L:List (List Int)},L=z7 zs ds->(zU false s (.k (sC L)) s).post λx t=>x=.k (sC (z7 zs ds))/\t=s:=λ{L} e=>by rw[zL (by rw[lM];exact qj _),e];exact zC.mpr ⟨rfl,rfl⟩
 have c2:=cR zs ds s hz (λx hx=>(hd.2 x hx).2) (by have:=hd.1;omega)
 have c3:zi .a (v9 zs ds) .g s=.e (.e !(zl zs ds).isEmpty) s:=by show Out.e (Val.e !(v9 zs ds).isN) s=_;rw[vP]
 rw[post_eq,F28.yz,zw];refine⟨rfl,?_⟩;show (zj Φ T.b [some (tpI zs),some (tpI ds),none,none] _ s).post _;refine yb (x_call (zA (zB rfl) (zA (zB rfl) (zA (ub g) zD))) (cF zs ds s hz hd hw)) ?_;cases hF:(zl zs ds).isEmpty with
 |false=>
  rw[hF]at c3;exact xF (zN (zZ (x_call (zA (zB rfl) (zA (zB rfl) zD)) c2) zE c3) zF) (zk (rh zD (L1 0 ⋯)) (end' (L:=[]) (eO hz λh=>by rw[(yX hz).mpr h]at hF;cases hF).symm))
 |true=>
  rw[hF]at c3;have hfree:=(yX hz).mp hF;refine yN (zN (zZ (x_call (zA (zB rfl) (zA (zB rfl) zD)) c2) zE c3) zF) (yd (rh (zA (zB rfl) zD) (L1 1 ⋯)) ?_)
  refine zm.mpr (wA (λrest e s'=>s=s'/\∃done todo o,done++todo=yO 0 ds/\rest=todo.map (λ(k:Nat)=>Val.c k)/\e=[some (tpI zs),some (tpI ds),some (.k (sC (done.foldl (vX zs) [ds]))),o]/\(∀x∈done.foldl (vX zs) [ds],x.length=ds.length)/\(done.foldl (vX zs) [ds]).length<=zs.length ^ done.length) ((yO 0 ds).map λ(k:Nat)=>Val.c k) (s1:=s) (vk (x_call (zA (zB rfl) zD) (cB ds s)) rfl) ⟨rfl,[],_,_,rfl,rfl,rfl,λx hx=>by rw[Ao.mp hx],Ac _⟩ ?_ ?_)
  . rintro x rest e s' ⟨rfl,done,todo,o,hdn,hr,rfl,hlen,hcnt⟩
    cases todo with
    |nil=>cases hr
    |cons k todo=>
     injection hr with hx hr
     subst hx;have hk:ds[k]?=some (-1):=ux (by rw[<-hdn];simp)
     have hkl:=y8 hk;have hdl:done.length<=(yO 0 ds).length:=by rw[<-hdn,Ak];exact DQ _ _
     refine⟨_,rfl,?_⟩;refine yd (Rv cU cW hz hlen hd.1 hkl (AB hcnt (AB (jT hdl) hw)) rfl rfl) (yq ⟨rfl,done++[k],todo,some (.c k),by rw[Bc];exact hdn,hr,?_,?_,?_⟩)
     . rw[FK];rfl
     . rw[FK];exact bW hlen hkl
     . rw[FK,Ak,Bg,Gf]
       exact AB (oW _) (BG _ hcnt)
  . rintro e s' ⟨rfl,done,todo,o,hdn,hr,rfl,hlen,hcnt⟩
    have ht:todo=[]:=by cases todo with|nil=>rfl|cons _ _=>cases hr
    subst ht;rw[Ba]at hdn;subst hdn;exact zk (zB rfl) (end' (bU hz hfree))
def nM(Φ:Calls):Prop:=∀(zs ds:List Int) (s:Sto),Sz zs->Dr zs ds->wM zs ds<=512->Φ "fillings_many" 0 [tpI zs,tpI ds] s=.e (.c (z7 zs ds).length) s
def lV(c:bt Φ){zs ds}(hz:Sz zs)(hd:Dr zs ds)(hw:wM zs ds<=512):run T Φ F28.yi [tpI zs,tpI ds] s=.e (.c (z7 zs ds).length) s:=by rw[post_eq,F28.yi,zw];refine⟨rfl,?_⟩;show (zj Φ T.b [some (tpI zs),some (tpI ds)] _ s).post _;refine zk (zo (zA (x_call (zA (zB rfl) (zA (zB rfl) zD)) (c zs ds s hz hd hw)) zD) Qq) ?_;rw[zI];show (zU false s _ s).post _;rw[zL yg];exact zC.mpr ⟨rfl,rfl⟩
def QO(L:List (List Int)):Val:=match L with|[]=>.g|t::_=>tpI t
def pI(Φ:Calls):Prop:=∀(zs ds:List Int) (s:Sto),Sz zs->Dr zs ds->wM zs ds<=512->Φ "first_filling" 0 [tpI zs,tpI ds] s=.e (QO (z7 zs ds)) s
def nD(c:bt Φ){zs ds}(hz:Sz zs)(hd:Dr zs ds)(hw:wM zs ds<=512):run T Φ F28.yj [tpI zs,tpI ds] s=.e (QO (z7 zs ds)) s:=by
 rw[post_eq,F28.yj,zw];refine⟨rfl,?_⟩;show (zj Φ T.b [some (tpI zs),some (tpI ds),none] _ s).post _;refine yd (x_call (zA (zB rfl) (zA (zB rfl) zD)) (c zs ds s hz hd hw)) ?_;generalize z7 zs ds=L;cases L with
 |nil=>
  refine zk (vb (zN (zB rfl) gZ) zE) ?_;show (zU false s _ s).post _;rw[zL yy];exact zC.mpr ⟨rfl,rfl⟩
 |cons t L=>
  refine zk (vd (zN (zB rfl) gZ) (yR (zB rfl) zE (qI (k:=0) rfl))) ?_;show (zU false s (tpI t) s).post _;rw[zL (by rw[vm];exact xE _)]
  exact zC.mpr ⟨rfl,rfl⟩
noncomputable def rJ:List Int->List Int->Bool
 |d::ds,t::ts=>(decide (d=-1)||decide (d=t))&&rJ ds ts
 |_,_=>true
theorem fz:∀{ds t},Ov ds t->rJ ds t=true
 |[],_,_=>rfl
 |_::_,[],_=>rfl
 |d::ds,t::ts,h=>by
  have h0:=h.a 0;have ht:Ov ds ts:=⟨Nat.succ.inj h.b,λi hi=>h.a (i+1) hi⟩;unfold rJ;rw[fz ht,Fw];by_cases e:d=-1
  . rw[decide_eq_true e];rfl
  . have:=h0 (λq=>e (Am q))
    rw[decide_eq_true (Am this).symm,Bool.or_true]
noncomputable def kpG:Val->List Val
 |.f [.c a,.c b]=>[.e (decide (a=-1)||decide (a=b))]
 |_=>[]
theorem Zl:∀ds ts,ds.length=ts.length->∃bs:List Bool,(qx (ds.map .c) (ts.map .c)).flatMap kpG=bs.map Val.e/\bs.all id=rJ ds ts
 |[],ts,_=>⟨[],rfl,rfl⟩
 |_::_,[],h=>by cases h
 |d::ds,t::ts,h=>by
  obtain⟨bs,h1,h2⟩:=Zl ds ts (Nat.succ.inj h);refine⟨(decide (d=-1)||decide (d=t))::bs,?_,?_⟩
  . show kpG (.f [.c d,.c t])++(qx (ds.map .c) (ts.map .c)).flatMap kpG=_
    rw[h1];rfl
  . rw[B6,h2];rfl
def U2:zi .l (.c a) (.f [.c (-1),.c b]) s=.e (.e (decide (a=-1)||decide (a=b))) s:=by show Out.e (Val.e ([Val.c (-1),.c b].any λz=>eqF z (.c a))) s=_;congr 2;rw[Ce];simp[eqF];omega
def U4(h1:evE Φ G env e1 s=.e (.f vs) s)(h2:evE Φ G env e2 s=.e (.f ws) s)(hl:vs.length=ws.length):xD Φ G env (.h e1 e2) s=.e ⟨qx vs ws,none⟩ s:=bnd h1 (bnd h2 (if_pos (DJ hl.symm)))
def bw(Φ:Calls):Prop:=∀(ds t:List Int) (s:Sto),Φ "keeps" 0 [tpI ds,tpI t] s=.e (.e (decide (t.length=ds.length)&&rJ ds t)) s
def bK(g:T.b "BLANK"=some (.c (-1))){ds t}:run T Φ F28.tP [tpI ds,tpI t] s=.e (.e (decide (t.length=ds.length)&&rJ ds t)) s:=by
 have L1:∀n,n<100->n<=zX:=λn h=>by unfold zX;omega
 have hl:∀ns:List Int,blt .a false [tpI ns] s=.e (.c ns.length) s:=λns=>by rw[xb,zI]
 rw[post_eq,F28.tP,zw];refine⟨rfl,?_⟩;show (zj Φ T.b [some (tpI ds),some (tpI t)] _ s).post _;by_cases he:t.length=ds.length
 . rw[decide_eq_true he,Cy]
   obtain⟨bs,b1,b2⟩:=Zl ds t he.symm;have hc:∀N,evE Φ T.b [some (tpI ds),some (tpI t)] (.r false N [none,none] (.j .l (.e 0) (.q (.a (.z "BLANK") (.a (.e 1) .b)))) (.b [0,1]) (.h (.e 0) (.e 1)) .b) s=.e (.k (bs.map Val.e)) s:=λN=>by
    rw[post_eq];refine uU (λe=>∃a b,e=[a,b]) kpG (qx (ds.map .c) (t.map .c)) (s1:=s) (U4 (zB rfl) (zB rfl) (by rw[zI,zI,he])) ⟨_,_,rfl⟩ ?_ (by rw[b1];exact zC.mpr ⟨rfl,rfl⟩)
    rintro x hx e ⟨a,b,rfl⟩;obtain⟨i,hi⟩:=BF hx;obtain⟨u,v,hu,hv,rfl⟩:=gu hi;rw[AA]at hu hv;obtain⟨u,_,rfl⟩:=Au.mp hu;obtain⟨v,_,rfl⟩:=Au.mp hv;refine⟨_,rfl,⟨_,_,rfl⟩,vJ.mpr ⟨rfl,?_⟩⟩;rw[if_pos rfl];show (evE Φ T.b [some (.c u),some (.c v)] _ s).post _;rw[zZ (zB rfl) (vH (zA (ub g) (zA (zB rfl) zD)) (L1 2 ⋯)) U2]
    exact zC.mpr ⟨rfl,rfl⟩
   have ha:blt .k false [.k (bs.map Val.e)] s=.e (.e (bs.all id)) s:=by have:=ud (λb:Bool=>b) bs;simp only[blt,z8];rw[show bs.map Val.e=bs.map λx=>Val.e x from rfl,this,List.map_id']
   refine zk (jz (zZ (zo (zA (zB rfl) zD) (hl t)) (zo (zA (zB rfl) zD) (hl ds)) (by rw[eq_int,decide_eq_true ⋯])) (zo (zA (hc _) zD) ha)) ?_
   rw[b2];show (zU false s _ s).post _;rw[zL xK];exact zC.mpr ⟨rfl,rfl⟩
 . rw[decide_eq_false he,BX]
   refine zk (oo (zZ (zo (zA (zB rfl) zD) (hl t)) (zo (zA (zB rfl) zD) (hl ds)) (by rw[eq_int,decide_eq_false ⋯]))) ?_
   show (zU false s _ s).post _;rw[zL xK];exact zC.mpr ⟨rfl,rfl⟩
def g7(Φ:Calls):Prop:=∀(zs ds t:List Int) (s:Sto),Sz zs->Dr zs ds->vQ t->Φ "is_filling" 0 [tpI zs,tpI ds,tpI t] s=.e (.e ((decide (t.length=ds.length)&&rJ ds t)&&(uh zs t).isN)) s
def gM(cN:wX Φ)(cS:rk Φ)(cK:bw Φ)(cF:bu Φ){zs ds t}(hz:Sz zs)(hd:Dr zs ds)(ht:vQ t):run T Φ F28.xj [tpI zs,tpI ds,tpI t] s=.e (.e ((decide (t.length=ds.length)&&rJ ds t)&&(uh zs t).isN)) s:=by
 rw[post_eq,F28.xj,zw];refine⟨rfl,?_⟩;show (zj Φ T.b [some (tpI zs),some (tpI ds),some (tpI t)] _ s).post _;refine yb (x_call (zA (zB rfl) (zA (zB rfl) zD)) (cN zs ds s hz hd)) ?_;have k:=cK ds t s;have end':∀b:Bool,(zU false s (.e b) s).post λx u=>x=.e b/\u=s:=λb=>by rw[zL xK];exact zC.mpr ⟨rfl,rfl⟩
 cases hk:(decide (t.length=ds.length)&&rJ ds t) with
 |true=>
  rw[hk]at k;exact zk (XY (x_call (zA (zB rfl) zD) (cS t s ht)) (x_call (zA (zB rfl) (zA (zB rfl) zD)) k) (x_call (zA (zB rfl) (zA (zB rfl) zD)) (cF zs t s hz ht))) (end' _)
 |false=>
  rw[hk]at k;exact zk (XX (x_call (zA (zB rfl) zD) (cS t s ht)) (x_call (zA (zB rfl) (zA (zB rfl) zD)) k)) (end' _)
end
end M
end
section
namespace M
open PySem
section
variable {T:Tbl}{Φ:Calls}{s:Sto}
def j5(Φ:Calls):Prop:=∀(zs ns:List Int) (s:Sto),Sz zs->Dr zs ns->Φ "clean" 0 [tpI zs,tpI ns] s=.e (.e (zl zs ns).isEmpty) s
def gI(cN:wX Φ)(cF:rj Φ)(hz:Sz zs)(hd:Dr zs ns):run T Φ F28.tM [tpI zs,tpI ns] s=.e (.e (zl zs ns).isEmpty) s:=by
 have c3:zi .b (v9 zs ns) .g s=.e (.e (zl zs ns).isEmpty) s:=by show Out.e (Val.e (v9 zs ns).isN) s=_;rw[vP]
 rw[post_eq,F28.tM,zw];refine⟨rfl,?_⟩;show (zj Φ T.b [some (tpI zs),some (tpI ns)] _ s).post _;refine yb (x_call (zA (zB rfl) (zA (zB rfl) zD)) (cN zs ns s hz hd)) (zk (zZ (x_call (zA (zB rfl) (zA (zB rfl) zD)) (cF zs ns s hz (λx hx=>(hd.2 x hx).2) (by have:=hd.1;omega))) zE c3) ?_)
 show (zU false s _ s).post _;rw[zL xK];exact zC.mpr ⟨rfl,rfl⟩
end
end M
end
section
namespace M
open PySem
def qY(h:xC l m v=true):∃i,v=.c i/\l<=i/\i<=m:=by
 cases v with
 |c i=>
  rw[XU,nx]at h;exact⟨i,rfl,of_decide_eq_true h.1,of_decide_eq_true h.2⟩
 |_=>cases h
theorem ni{n:Nat}:∀{ds t:List Int},(∀x∈ds,-1<=x/\x<n)->t∈y9 n ds->∀x∈t,0<=x/\x<n
 |[],t,_,ht,x,hx=>by rw[Ao.mp ht]at hx;cases hx
 |d::ds,t,hd,ht,x,hx=>by
  have h0:=hd d (.head _);have ih:=λ{u:List Int} (hu:u∈y9 n ds)=>ni (λy hy=>hd y (.tail _ hy)) hu;unfold y9 at ht;by_cases e:d=-1
  . rw[if_pos e]at ht
    obtain⟨k,hk,ht⟩:=Bb.mp ht;obtain⟨u,hu,rfl⟩:=Aq.mp ht;have:=Ag.mp hk;rcases Ah.mp hx with rfl|hx
    . omega
    . exact ih hu x hx
  . rw[if_neg e]at ht
    obtain⟨u,hu,rfl⟩:=Aq.mp ht;rcases Ah.mp hx with rfl|hx
    . omega
    . exact ih hu x hx
def Xv:(uh zs t).isN=true↔(∀x∈t,x<zs.length)/\(zl zs t).isEmpty=true:=by
 unfold uh;cases hS:js zs t with
 |cons v r=>
  refine⟨λh=>(Aa h).elim,λh=>?_⟩;obtain⟨x,hx,hv⟩:=Bb.mp (show v∈js zs t by rw[hS];exact .head _)
  obtain⟨k,i,hk,rfl⟩:=qL hx;have hv:v∈if (zs.length:Int)<=i then [Val.c (k:Nat)] else []:=hv
  rw[if_neg (by have:=h.1 i (AF hk);omega)]at hv
  cases hv
 |nil=>
  have hu:=eQ hS;rw[<-vP];rcases tj zs t with⟨_,h2⟩|⟨z,l,_,h2⟩
  . rw[h2];exact⟨λ_=>⟨hu,rfl⟩,λ_=>rfl⟩
  . rw[h2];exact⟨λh=>(Aa h).elim,λh=>(Aa h.2).elim⟩
def gT{zs ds t}(hz:Sz zs)(hd:Dr zs ds)(h:t∈z7 zs ds):vQ t/\t.length=ds.length/\∀x∈t,0<=x/\x<zs.length:=by obtain⟨h1,h2⟩:=AD.mp h;have l:=(w8 h1).1;have b:=ni hd.2 h1;have h4:=hz.2.1;have h5:=hd.1;exact⟨⟨⋯,λx hx=>by have:=b x hx;omega⟩,l,b⟩
section
variable {T:Tbl}{Φ:Calls}{G:Str->Option Val}{env:Env}{s:Sto}
def qZ(Φ:Calls):Prop:=∀(zs ds:List Int) (s:Sto),Sz zs->vE zs (tpI ds)=true->Φ "need_draft" 0 [tpI zs,tpI ds] s=.e .g s
def oO(c:gy Φ){zs ds}(h:Sz zs)(hd:vE zs (tpI ds)=true):run T Φ F.xl [tpI zs,tpI ds] s=.e .g s:=by
 have c1:=c zs (tpI ds) s h nofun λvs e=>by cases e;exact qJ
 rw[hd]at c1;rw[post_eq,F.xl,zw];refine⟨rfl,?_⟩;show (zj Φ T.b [some (tpI zs),some (tpI ds)] _ s).post _;refine yN (xQ (zN (x_call (zA (zB rfl) (zA (zB rfl) zD)) c1) zF)) (yq ?_);show (zU false s _ s).post _;rw[zL yy];exact zC.mpr ⟨rfl,rfl⟩
def ab{zs ds}(h:Dr zs ds):vE zs (tpI ds)=true:=by rw[kO,zI,decide_eq_true (by have:=h.1;omega),uH λx hx=>by have:=h.2 x hx;omega];rfl
end
end M
end
section
namespace F31
open PySem M
noncomputable def wC:Fn:=⟨["sizes","draft","place","papers","hue","paper"],["sizes","draft","place","papers"],false,(.a (.f (.f (.b (.a (.h "is_blank" 0 (.a (.e 1) (.a (.e 2) .b))))) (.a (.b (.a (.l .h false (.a (.e 3) (.a (.G "tuple" "tuple") .b))))) (.a (.a (.j .e (.l .a false (.a (.e 3) .b)) (.l .a false (.a (.e 0) .b)))) .b))) (.a (.d (.g (.e false))) .b) .b) (.a (.j (.b [4,5]) (.g (.e 3)) (.a (.f (.b (.a (.h "shows" 0 (.a (.e 0) (.a (.h "with_hue" 0 (.a (.e 1) (.a (.e 2) (.a (.e 4) .b)))) (.a (.e 5) .b)))))) (.a (.d (.g (.e false))) .b) .b) .b)) (.a (.d (.g (.e true))) .b)))⟩
noncomputable def wc:Fn:=⟨["sizes","draft","thing"],["sizes","draft","thing"],false,(.a (.h (.h "need_draft" 0 (.a (.e 0) (.a (.e 1) .b)))) (.a (.d (.h "shows" 0 (.a (.e 0) (.a (.e 1) (.a (.e 2) .b))))) .b))⟩
noncomputable def y6:Fn:=⟨["sizes","draft","first","step","size"],["sizes","draft","first","step"],false,(.a (.f (.f (.b (.a (.h "is_whole" 0 (.a (.e 2) (.a (.g (.c 0)) (.a (.k false .c (.l .a false (.a (.e 1) .b)) (.g (.c 1))) .b)))))) (.a (.a (.j .c (.p (.e 1) (.e 2)) (.z "BLANK"))) .b)) (.a (.d (.g (.e false))) .b) .b) (.a (.g 4 (.p (.e 0) (.p (.e 1) (.e 2)))) (.a (.d (.u (.h "is_whole" 0 (.a (.e 3) (.a (.g (.c 1)) (.a (.h "most_step" 0 (.a (.l .a false (.a (.e 1) .b)) (.a (.e 2) (.a (.e 4) .b)))) .b)))) (.a (.h "is_one_hue" 0 (.a (.e 1) (.a (.e 2) (.a (.e 3) (.a (.e 4) .b))))) .b))) .b)))⟩
noncomputable def uF:Fn:=⟨["sizes","draft","thing"],["sizes","draft","thing"],false,(.a (.f (.f (.b (.a (.l .h false (.a (.e 2) (.a (.G "tuple" "tuple") .b))))) (.a (.a (.j .e (.l .a false (.a (.e 2) .b)) (.g (.c 3)))) .b)) (.a (.d (.g (.e false))) .b) .b) (.a (.f (.a (.j .c (.p (.e 2) (.g (.c 0))) (.z "ROW"))) (.a (.d (.h "is_wrong_row" 0 (.a (.e 0) (.a (.e 1) (.a (.p (.e 2) (.g (.c 1))) (.a (.p (.e 2) (.g (.c 2))) .b)))))) .b) .b) (.a (.d (.u (.j .c (.p (.e 2) (.g (.c 0))) (.z "CASES")) (.a (.h "are_cases" 0 (.a (.e 0) (.a (.e 1) (.a (.p (.e 2) (.g (.c 1))) (.a (.p (.e 2) (.g (.c 2))) .b))))) .b))) .b)))⟩
noncomputable def wB:Fn:=⟨["_law_pen_here","_law_sizes","_law_limit","_law_spare","_law_share","_law_length","_law_found","_law_place","_law_hue","_law_skip","_law_some","_law_good"],["_law_pen_here","_law_sizes","_law_limit","_law_spare"],false,(.a (.n [4,5] (.a (.k false .a (.g (.c 2)) (.h "_law_draw" 0 (.a (.e 0) (.a (.g (.c 5)) .b)))) (.a (.h "_law_draw" 0 (.a (.e 0) (.a (.k false .a (.e 2) (.g (.c 1))) .b))) .b))) (.a (.g 6 (.s true .b)) (.a (.j (.a 7) (.c (.e 5)) (.a (.n [8,9] (.a (.h "_law_draw" 0 (.a (.e 0) (.a (.l .a false (.a (.e 1) .b)) .b))) (.a (.j .c (.h "_law_draw" 0 (.a (.e 0) (.a (.e 4) .b))) (.g (.c 0))) .b))) (.a (.g 10 (.r false ["_law_k","_law_hue","_law_sizes"] [none,some 8,some 1] (.k false .d (.k false .a (.e 1) (.e 0)) (.l .a false (.a (.e 2) .b))) (.a 0) (.c (.l .a false (.a (.e 1) .b))) .b)) (.a (.g 11 (.r false ["_law_one","_law_skip","_law_sizes","_law_found"] [none,some 9,some 1,some 6] (.e 0) (.a 0) (.f (.e 10)) (.a (.d (.b (.a (.e 1))) (.a (.b (.a (.h "_law_ended" 0 (.a (.e 2) (.a (.e 3) (.a (.e 0) .b)))))) .b)) .b))) (.a (.f (.d (.a (.j .c (.e 11) (.s false .b))) (.a (.a (.j .c (.D .b false (.e 6) (.a (.C (.g (.c 1))) .b)) (.e 3))) .b)) (.a (.d (.l .b false (.a (.e 6) .b))) .b) .b) (.a (.h (.D .a false (.e 6) (.a (.p (.k false .a (.e 11) (.s false (.a (.C (.g (.c 1))) .b))) (.g (.c 0))) .b))) .b)))))) (.a (.d (.l .b false (.a (.e 6) .b))) .b))))⟩
noncomputable def wZ:Fn:=⟨["_law_pen_here","_law_some"],["_law_pen_here"],false,(.a (.g 1 (.s false (.a (.q (.a (.g (.c 3)) (.a (.g (.c 3)) .b))) (.a (.q (.a (.g (.c 3)) (.a (.g (.c 3)) .b))) (.a (.q (.a (.g (.c 2)) (.a (.g (.c 3)) .b))) (.a (.q (.a (.g (.c 3)) (.a (.g (.c 2)) .b))) (.a (.q (.a (.g (.c 2)) (.a (.g (.c 2)) (.a (.g (.c 3)) .b)))) (.a (.q (.a (.g (.c 3)) (.a (.g (.c 4)) .b))) (.a (.q (.a (.g (.c 4)) (.a (.g (.c 3)) .b))) (.a (.q (.a (.g (.c 2)) (.a (.g (.c 2)) .b))) (.a (.q (.a (.g (.c 3)) .b)) (.a (.q (.a (.g (.c 2)) (.a (.g (.c 2)) (.a (.g (.c 2)) .b)))) (.a (.q (.a (.g (.c 3)) (.a (.g (.c 3)) (.a (.g (.c 2)) .b)))) (.a (.q (.a (.g (.c 2)) (.a (.g (.c 4)) .b))) .b)))))))))))))) (.a (.d (.p (.e 1) (.h "_law_draw" 0 (.a (.e 0) (.a (.g (.c 12)) .b))))) .b))⟩
noncomputable def ym:Fn:=⟨["_law_sizes","_law_found","_law_hue","_law_here","_law_size","_law_step"],["_law_sizes","_law_found","_law_hue"],false,(.a (.n [3,4] (.a (.l .a false (.a (.e 1) .b)) (.a (.p (.e 0) (.e 2)) .b))) (.a (.j (.a 5) (.d (.g (.c 1)) (.k false .a (.k false .e (.e 3) (.k false .c (.e 4) (.g (.c 1)))) (.g (.c 1)))) (.a (.f (.a (.j .c (.r false ["_law_k","_law_hue","_law_found","_law_here","_law_step"] [none,some 2,some 1,some 3,some 5] (.e 0) (.a 0) (.d (.g (.c 1)) (.e 4)) (.a (.a (.j .e (.p (.e 2) (.k false .c (.e 3) (.k false .b (.e 0) (.e 4)))) (.e 1))) .b)) (.s false .b))) (.a (.d (.g (.e true))) .b) .b) .b)) (.a (.d (.g (.e false))) .b)))⟩
end F31
end
section
namespace M
open PySem
def Dt:Nat->Val->Prop
 |0,v=>kindOf v≠none/\v.isD=true/\∀vs,v≠.f vs
 |n+1,v=>kindOf v≠none/\v.isD=true/\∀vs,v=.f vs->∀w∈vs,kindOf w≠none/\w.isD=true/\∀ps,w=.f ps->∀u∈ps,Dt n u
def Dt.kd(h:Dt n v):kindOf v≠none:=by cases n<;>exact h.1
theorem Dt.isD(h:Dt n v):v.isD=true:=by cases n<;>exact h.2.1
def kL s(h:v.isD=true):xw s v=v:=by
 cases v with
 |h i=>rw[Val.isD]at h;cases h
 |_=>rfl
def Xu s(h:v.isD=true):yT s v=v:=by
 cases v with
 |f vs=>
  rw[Val.isD]at h;show Val.f (vs.map (xw s))=_;rw[CC (f:=xw s) (g:=id) λw hw=>kL s (rH h hw),List.map_id]
 |_=>exact kL s h
noncomputable def isStr(w:Str):Val->Bool
 |.j x=>decide (x=w)
 |_=>false
def fb(h:v.isD=true)(hw:PyData.strOk w=true):zi .c v (.j w) s=.e (.e (isStr w v)) s:=by
 have e:=Xu s h;have hd:((Val.j w).d.depth<=60):=by rw[Val.d];exact A3 _
 have hs:(Val.j w).isD=true:=by rw[Val.isD];exact hw
 have key:∀{u:Val},u.isD=true->Ct u.d (Val.j w).d=false->pY u (.j w)=some false:=λh1 h2=>by unfold pY;rw[h1,hs,decide_eq_true hd,h2];rfl
 have go:Ct v.d (Val.j w).d=false->(match pY (yT s v) (yT s (.j w)) with|some b=>Out.e (Val.e b) s|dS=>.d)=.e (.e false) s:=λh2=>by rw[e,show yT s (.j w)=.j w from rfl,key h h2]
 cases v with
 |j x=>rfl
 |g=>exact go (by rw[Val.d,Val.d];rfl)
 |e b=>exact go (by rw[Val.d,Val.d];rfl)
 |c i=>exact go (by rw[Val.d,Val.d];rfl)
 |f vs=>exact go (by rw[Val.d,Val.d];rfl)
 |k vs=>exact go (by rw[Val.d,Val.d];rfl)
 |_=>rw[Val.isD]at h;cases h
def sZ(zs ds:List Int)(b c:Val):Bool:=match b,c with
 |.c f,.c d=>(decide (0<=f)&&decide (f<=(ds.length:Int)-1))&&(!decide (ds.getD f.toNat (-1)=-1)&&((decide (1<=d)&&decide (d<=((ds.length-1-f.toNat)/(zM zs (ds.getD f.toNat (-1)).toNat-1):Nat)))&&yV ds f.toNat d.toNat (zM zs (ds.getD f.toNat (-1)).toNat)))
 |_,_=>false
def xI(f:List Int->Val->Bool)(ds:List Int)(p:Nat):Nat->List Val->Bool
 |_,[]=>true
 |h,q::ps=>f (putL ds p h) q&&xI f ds p (h+1) ps
def vR(zs:List Int)(f:List Int->Val->Bool)(ds:List Int)(b c:Val):Bool:=match b,c with
 |.c p,.f ps=>(decide (0<=p)&&decide (p<=(ds.length:Int)-1))&&(decide (ds.getD p.toNat 0=-1)&&(decide (ps.length=zs.length)&&xI f ds p.toNat 0 ps))
 |_,_=>false
def zu(zs:List Int):Nat->List Int->Val->Bool
 |0,_,_=>false
 |n+1,ds,v=>match v with
  |.f [a,b,c]=>if isStr "row" a then sZ zs ds b c else isStr "cases" a&&vR zs (zu zs n) ds b c
  |_=>false
def Df(zs ds:List Int):Prop:=ds.length<=40/\∀x∈ds,-1<=x/\x<zs.length
def Df.put{zs ds}(hd:Df zs ds)(hp:p<ds.length)(hh:h<zs.length):Df zs (putL ds p h):=by
 rw[vU hp];refine⟨by rw[A6];exact hd.1,λx hx=>?_⟩
 rcases D8 hx with hx|rfl
 . exact hd.2 x hx
 . omega
section
variable {T:Tbl}{Φ:Calls}{s:Sto}
def Vw(Φ:Calls):Prop:=∀(zs ds:List Int) (b c:Val) (s:Sto),Sz zs->Df zs ds->kindOf b≠none->kindOf c≠none->Φ "is_wrong_row" 0 [tpI zs,tpI ds,b,c] s=.e (.e (sZ zs ds b c)) s
def RU{zs ds}(h:xC 0 ((ds.length:Int)-1) b=false):sZ zs ds b c=false:=by
 cases b with
 |c f=>
  cases c with
  |c d=>
   show ((decide (0<=f)&&decide (f<=(ds.length:Int)-1))&&_)=false;rw[show (decide (0<=f)&&decide (f<=(ds.length:Int)-1))=false from h];rfl
  |_=>rfl
 |_=>rfl
def Yw(g:T.b "BLANK"=some (.c (-1)))(cW:rl Φ)(cM:g8 Φ)(cO:bz Φ){zs ds}(hz:Sz zs)(hd:Df zs ds)(hb:kindOf b≠none)(hc:kindOf c≠none):run T Φ F31.y6 [tpI zs,tpI ds,b,c] s=.e (.e (sZ zs ds b c)) s:=by
 have hl:blt .a false [tpI ds] s=.e (.c ds.length) s:=by rw[xb,zI]
 have end':∀{q:Bool},q=sZ zs ds b c->(zU false s (.e q) s).post λx t=>x=.e (sZ zs ds b c)/\t=s:=λ{q} e=>by rw[zL xK,e];exact zC.mpr ⟨rfl,rfl⟩
 have c1:=cW b 0 ((ds.length:Int)-1) s hb;rw[post_eq,F31.y6,zw];refine⟨rfl,?_⟩;show (zj Φ T.b [some (tpI zs),some (tpI ds),some b,some c,none] _ s).post _;cases hw:xC 0 ((ds.length:Int)-1) b with
 |false=>
  rw[hw]at c1;exact xF (eU (xQ (zN (x_call (zA (zB rfl) (zA zE (zA (yH (zo (zA (zB rfl) zD) hl) zE qp) zD))) c1) zF))) (zk zE (end' (RU hw).symm))
 |true=>
  rw[hw]at c1;obtain⟨i,rfl,i0,i1⟩:=qY hw;obtain⟨f,rfl⟩:∃f:Nat,i=f:=⟨i.toNat,⋯⟩
  have hf:f<ds.length:=by omega
  have hx:=sR (s:=s) (pn hf);have hg:ds.getD f (-1)=ds[f]:=by rw[Ab,pn hf];rfl
  have hv:=hd.2 _ (BK hf);have eR:∀{d:Int},sZ zs ds (.c (f:Int)) (.c d)=(!decide (ds[f]=-1)&&((decide (1<=d)&&decide (d<=((ds.length-1-f)/(zM zs (ds[f]).toNat-1):Nat)))&&yV ds f d.toNat (zM zs (ds[f]).toNat))):=λ{d}=>by show ((decide (0<=(f:Int))&&decide ((f:Int)<=(ds.length:Int)-1))&&(!decide (ds.getD (f:Int).toNat (-1)=-1)&&((decide (1<=d)&&decide (d<=((ds.length-1-(f:Int).toNat)/(zM zs (ds.getD (f:Int).toNat (-1)).toNat-1):Nat)))&&yV ds (f:Int).toNat d.toNat (zM zs (ds.getD (f:Int).toNat (-1)).toNat))))=_;rw[AL,hg,decide_eq_true i0,decide_eq_true i1];rfl
  have eN:∀{c:Val},(∀d,c≠.c d)->sZ zs ds (.c (f:Int)) c=false:=λ{c} h=>by
   cases c with
   |c d=>exact absurd rfl (h d)
   |_=>rfl
  by_cases hm:ds[f]=-1
  . refine xF (qw (xQ (zN (x_call (zA (zB rfl) (zA zE (zA (yH (zo (zA (zB rfl) zD) hl) zE qp) zD))) c1) zF)) (tH (zN (zZ (yR (zB rfl) (zB rfl) hx) (ub g) eq_int) (by rw[zF,decide_eq_true hm])))) (zk zE (end' ?_))
    cases c with
    |c d=>rw[eR,decide_eq_true hm];rfl
    |_=>rfl
  . obtain⟨h,hh⟩:∃h:Nat,ds[f]=h:=⟨(ds[f]).toNat,⋯⟩
    rw[hh,AL]at eR;have hhz:h<zs.length:=by omega
    obtain⟨z1,z2,z3⟩:=z0 hz hhz;have c2:=cM ds.length f (zM zs h) s hf z2 z3;have hx2:wo (tpI zs) (.c ds[f]) s=.e (.c (zM zs h)) s:=by rw[hh];exact sR z1
    refine yN (qw (xQ (zN (x_call (zA (zB rfl) (zA zE (zA (yH (zo (zA (zB rfl) zD) hl) zE qp) zD))) c1) zF)) (w4 (zN (zZ (yR (zB rfl) (zB rfl) hx) (ub g) eq_int) (by rw[zF,decide_eq_false hm])) se)) (yd (yR (zB rfl) (yR (zB rfl) (zB rfl) hx) hx2) ?_)
    have c3:=cW c 1 ((ds.length-1-f)/(zM zs h-1):Nat) s hc;cases hw2:xC 1 ((ds.length-1-f)/(zM zs h-1):Nat) c with
    |false=>
     rw[hw2]at c3;refine zk (oo (x_call (zA (zB rfl) (zA zE (zA (x_call (zA (zo (zA (zB rfl) zD) hl) (zA (zB rfl) (zA (zB rfl) zD))) c2) zD))) c3)) (end' ?_);cases c with
     |c d=>rw[eR,show (decide (1<=d)&&decide (d<=((ds.length-1-f)/(zM zs h-1):Nat)))=false from hw2,BX,DK]
     |_=>rfl
    |true=>
     rw[hw2]at c3;obtain⟨j,rfl,j0,j1⟩:=qY hw2;obtain⟨d,rfl⟩:∃d:Nat,j=d:=⟨j.toNat,⋯⟩
     have hK:d*(zM zs h-1)<=ds.length-1-f:=(Bz ⋯).mp ⋯
     have c4:=cO ds f d (zM zs h) s ⋯ ⋯ ⋯ (by unfold zX;omega)
     refine zk (jz (x_call (zA (zB rfl) (zA zE (zA (x_call (zA (zo (zA (zB rfl) zD) hl) (zA (zB rfl) (zA (zB rfl) zD))) c2) zD))) c3) (x_call (zA (zB rfl) (zA (zB rfl) (zA (zB rfl) (zA (zB rfl) zD)))) c4)) (end' ?_);rw[eR,decide_eq_false ⋯,decide_eq_true j0,decide_eq_true j1,AL];rfl
end
end M
end
section
namespace M
open PySem
section
variable {T:Tbl}{Φ:Calls}{s:Sto}
noncomputable def r9(ds:List Int):Val->Bool
 |.c p=>(decide (0<=p)&&decide (p<=(ds.length:Int)-1))&&decide (ds.getD p.toNat 0=-1)
 |_=>false
def gx(Φ:Calls):Prop:=∀(ds:List Int) (b:Val) (s:Sto),kindOf b≠none->Φ "is_blank" 0 [tpI ds,b] s=.e (.e (r9 ds b)) s
def gG(g:T.b "BLANK"=some (.c (-1)))(cW:rl Φ){ds}(hb:kindOf b≠none):run T Φ F.wb [tpI ds,b] s=.e (.e (r9 ds b)) s:=by
 have hl:blt .a false [tpI ds] s=.e (.c ds.length) s:=by rw[xb,zI]
 have end':∀{q:Bool},q=r9 ds b->(zU false s (.e q) s).post λx t=>x=.e (r9 ds b)/\t=s:=λ{q} e=>by rw[zL xK,e];exact zC.mpr ⟨rfl,rfl⟩
 have c1:=cW b 0 ((ds.length:Int)-1) s hb;rw[post_eq,F.wb,zw];refine⟨rfl,?_⟩;show (zj Φ T.b [some (tpI ds),some b] _ s).post _;cases hw:xC 0 ((ds.length:Int)-1) b with
 |false=>
  rw[hw]at c1;refine zk (oo (x_call (zA (zB rfl) (zA zE (zA (yH (zo (zA (zB rfl) zD) hl) zE qp) zD))) c1)) (end' ?_);cases b with
  |c p=>
   show _=((decide (0<=p)&&decide (p<=(ds.length:Int)-1))&&_);rw[show (decide (0<=p)&&decide (p<=(ds.length:Int)-1))=false from hw];rfl
  |_=>rfl
 |true=>
  rw[hw]at c1;obtain⟨i,rfl,i0,i1⟩:=qY hw;obtain⟨f,rfl⟩:∃f:Nat,i=f:=⟨i.toNat,⋯⟩
  have hf:f<ds.length:=by omega
  refine zk (jz (x_call (zA (zB rfl) (zA zE (zA (yH (zo (zA (zB rfl) zD) hl) zE qp) zD))) c1) (zZ (yR (zB rfl) (zB rfl) (sR (pn hf))) (ub g) eq_int)) (end' ?_);show _=((decide (0<=(f:Int))&&decide ((f:Int)<=(ds.length:Int)-1))&&decide (ds.getD (f:Int).toNat 0=-1));rw[decide_eq_true i0,decide_eq_true i1,AL,Ab,pn hf];rfl
def kB{zs ds}(h:r9 ds b=false):vR zs f ds b c=false:=by
 cases b with
 |c p=>
  cases c with
  |f ps=>
   show ((decide (0<=p)&&decide (p<=(ds.length:Int)-1))&&(decide (ds.getD p.toNat 0=-1)&&_))=false;rw[<-Bool.and_assoc,show ((decide (0<=p)&&decide (p<=(ds.length:Int)-1))&&decide (ds.getD p.toNat 0=-1))=false from h];rfl
  |_=>rfl
 |_=>rfl
def me(n:Nat)(Φ:Calls):Prop:=∀(zs ds:List Int) (v:Val) (s:Sto),Sz zs->Df zs ds->Dt n v->Φ "shows" 0 [tpI zs,tpI ds,v] s=.e (.e (zu zs n ds v)) s
def bg(n:Nat)(Φ:Calls):Prop:=∀(zs ds:List Int) (b c:Val) (s:Sto),Sz zs->Df zs ds->kindOf b≠none->kindOf c≠none->(∀ps,c=.f ps->∀w∈ps,Dt n w)->Φ "are_cases" 0 [tpI zs,tpI ds,b,c] s=.e (.e (vR zs (zu zs n) ds b c)) s
def bD(cB:gx Φ)(cW:uc Φ)(cS:me n Φ){zs ds}(hz:Sz zs)(hd:Df zs ds)(hb:kindOf b≠none)(hc:kindOf c≠none)(hps:∀ps,c=.f ps->∀w∈ps,Dt n w):run T Φ F31.wC [tpI zs,tpI ds,b,c] s=.e (.e (vR zs (zu zs n) ds b c)) s:=by
 have hl:blt .a false [tpI zs] s=.e (.c zs.length) s:=by rw[xb,zI]
 obtain⟨a,ha⟩:=pC hc;have i1:=p5 (m:=false) (s:=s) ha (show uM "tuple"=some .b from rfl);have end':∀{q:Bool},q=vR zs (zu zs n) ds b c->(zU false s (.e q) s).post λx t=>x=.e (vR zs (zu zs n) ds b c)/\t=s:=λ{q} e=>by rw[zL xK,e];exact zC.mpr ⟨rfl,rfl⟩
 have c1:=cB ds b s hb;rw[post_eq,F31.wC,zw];refine⟨rfl,?_⟩;show (zj Φ T.b [some (tpI zs),some (tpI ds),some b,some c,none,none] _ s).post _;cases hw:r9 ds b with
 |false=>
  rw[hw]at c1;exact xF (eU (xQ (zN (x_call (zA (zB rfl) (zA (zB rfl) zD)) c1) zF))) (zk zE (end' (kB hw).symm))
 |true=>
  rw[hw]at c1;obtain⟨p,rfl,p0,p1,p2⟩:∃p:Nat,b=.c p/\p<ds.length/\(p:Int)<=(ds.length:Int)-1/\ds.getD p 0=-1:=by
   cases b with
   |c i=>
    have hw:((decide (0<=i)&&decide (i<=(ds.length:Int)-1))&&decide (ds.getD i.toNat 0=-1))=true:=hw;rw[nx,nx]at hw;have h1:=of_decide_eq_true hw.1.1;have h2:=of_decide_eq_true hw.1.2;exact⟨i.toNat,by congr 1;omega,⋯,⋯,of_decide_eq_true hw.2⟩
   |_=>cases hw
  rcases iW ha with⟨ps,rfl⟩|hn
  . have e1:a=.b:=by cases ha;rfl
    subst e1;have eC:vR zs (zu zs n) ds (.c (p:Int)) (.f ps)=(decide (ps.length=zs.length)&&xI (zu zs n) ds p 0 ps):=by show ((decide (0<=(p:Int))&&decide ((p:Int)<=(ds.length:Int)-1))&&(decide (ds.getD (p:Int).toNat 0=-1)&&(decide (ps.length=zs.length)&&xI (zu zs n) ds (p:Int).toNat 0 ps)))=_;rw[AL,decide_eq_true p2,decide_eq_true p1,decide_eq_true ⋯];rfl
    by_cases hlen:ps.length=zs.length
    . refine yN (qw (xQ (zN (x_call (zA (zB rfl) (zA (zB rfl) zD)) c1) zF)) (w4 (xQ (zN (zo (zA (zB rfl) (zA oq zD)) i1) zF)) (w4 (zN (zZ (zo (zA (zB rfl) zD) xb) (zo (zA (zB rfl) zD) hl) ne_int) (by rw[zF,decide_eq_true ⋯];rfl)) se))) ?_
      refine zm.mpr (wA (λrest e s'=>s'=s/\(∃o4 o5,e=[some (tpI zs),some (tpI ds),some (.c p),some (.f ps),o4,o5])/\∃done todo,done++todo=ps/\rest=yL done.length todo/\xI (zu zs n) ds p 0 ps=xI (zu zs n) ds p done.length todo) (yL 0 ps) (s1:=s) (lH (zB rfl)) ⟨rfl,⟨_,_,rfl⟩,[],ps,rfl,rfl,rfl⟩ ?_ ?_)
      . rintro x rest e s' ⟨rfl,⟨o4,o5,rfl⟩,done,todo,hdn,hr,hv⟩
        cases todo with
        |nil=>cases hr
        |cons q todo=>
         injection hr with hx hr
         subst hx;refine⟨_,rfl,?_⟩;have hk:done.length<zs.length:=by rw[<-hlen,<-hdn,Ak,An];omega
         have c3:=cS zs (putL ds p done.length) q s' hz (hd.put p0 hk) (hps ps rfl q (by rw[<-hdn];exact AU _ (.head _)))
         have ev:xI (zu zs n) ds p 0 ps=(zu zs n (putL ds p done.length) q&&xI (zu zs n) ds p (done.length+1) todo):=hv;have c2:=cW ds p (done.length:Int) s' p0 (by have:=hd.1;omega)
         cases hq:zu zs n (putL ds p done.length) q with
         |false=>
          rw[hq]at c3 ev;exact xF (xQ (zN (x_call (zA (zB rfl) (zA (x_call (zA (zB rfl) (zA (zB rfl) (zA (zB rfl) zD))) c2) (zA (zB rfl) zD))) c3) zF)) (zk zE (end' (by rw[eC,ev,BX,DK])))
         |true=>
          rw[hq]at c3 ev;refine yN (xQ (zN (x_call (zA (zB rfl) (zA (x_call (zA (zB rfl) (zA (zB rfl) (zA (zB rfl) zD))) c2) (zA (zB rfl) zD))) c3) zF)) (yq ⟨rfl,⟨_,_,rfl⟩,done++[q],todo,by rw[Bc];exact hdn,by rw[Ak,Bg];exact hr,?_⟩)
          rw[Ak,Bg,ev,Cy]
      . rintro e s' ⟨rfl,⟨o4,o5,rfl⟩,done,todo,hdn,hr,hv⟩
        have ht:todo=[]:=by cases todo with|nil=>rfl|cons _ _=>cases hr
        subst ht;exact zk zE (end' (by rw[eC,hv,decide_eq_true hlen];rfl))
    . refine xF (qw (xQ (zN (x_call (zA (zB rfl) (zA (zB rfl) zD)) c1) zF)) (w4 (xQ (zN (zo (zA (zB rfl) (zA oq zD)) i1) zF)) (tH (zN (zZ (zo (zA (zB rfl) zD) xb) (zo (zA (zB rfl) zD) hl) ne_int) (by rw[zF,decide_eq_false ⋯];rfl))))) (zk zE (end' ?_))
      rw[eC,decide_eq_false hlen];rfl
  . rw[hn]at i1
    refine xF (qw (xQ (zN (x_call (zA (zB rfl) (zA (zB rfl) zD)) c1) zF)) (tH (xQ (zN (zo (zA (zB rfl) (zA oq zD)) i1) zF)))) (zk zE (end' ?_));cases c with
    |f ps=>cases ha;cases hn
    |_=>rfl
def oR{zs ds}{v:Val}(h:∀a b c,v≠.f [a,b,c]):zu zs n ds v=false:=by
 cases n with
 |zero=>rfl
 |succ n=>
  cases v with
  |f vs=>
   match vs,h with
   |[],_=>rfl
   |[_],_=>rfl
   |[_,_],_=>rfl
   |[a,b,c],h=>exact absurd rfl (h a b c)
   |_::_::_::_::_,_=>rfl
  |_=>rfl
def mP(g1:T.b "ROW"=some (.j "row"))(g2:T.b "CASES"=some (.j "cases"))(cR:Vw Φ)(cC:∀m,n=m+1->bg m Φ){zs ds}(hz:Sz zs)(hd:Df zs ds)(hv:Dt n v):run T Φ F31.uF [tpI zs,tpI ds,v] s=.e (.e (zu zs n ds v)) s:=by
 obtain⟨a,ha⟩:=pC hv.kd;have i1:=p5 (m:=false) (s:=s) ha (show uM "tuple"=some .b from rfl);have end':∀{q:Bool},q=zu zs n ds v->(zU false s (.e q) s).post λx t=>x=.e (zu zs n ds v)/\t=s:=λ{q} e=>by rw[zL xK,e];exact zC.mpr ⟨rfl,rfl⟩
 rw[post_eq,F31.uF,zw];refine⟨rfl,?_⟩;show (zj Φ T.b [some (tpI zs),some (tpI ds),some v] _ s).post _;rcases iW ha with⟨vs,rfl⟩|hn
 . have e1:a=.b:=by cases ha;rfl
   subst e1;by_cases h3:vs.length=3
   . obtain⟨x,y,z,rfl⟩:∃x y z,vs=[x,y,z]:=by
      match vs,h3 with
      |[x,y,z],_=>exact⟨x,y,z,rfl⟩
     cases n with
     |zero=>exact absurd rfl (hv.2.2 _)
     |succ n=>
      obtain⟨kx,dx,_⟩:=hv.2.2 _ rfl x (.head _);obtain⟨ky,_,_⟩:=hv.2.2 _ rfl y (.tail _ (.head _));obtain⟨kz,_,dps⟩:=hv.2.2 _ rfl z (.tail _ (.tail _ (.head _)));have eV:zu zs (n+1) ds (.f [x,y,z])=if isStr "row" x then sZ zs ds y z else isStr "cases" x&&vR zs (zu zs n) ds y z:=rfl
      have q1:=fb (w:="row") (s:=s) dx (by decide +kernel)
      have q2:=fb (w:="cases") (s:=s) dx (by decide +kernel)
      refine yN (qw (xQ (zN (zo (zA (zB rfl) (zA oq zD)) i1) zF)) (w4 (zN (zZ (zo (zA (zB rfl) zD) xb) zE ne_int) zF) se)) ?_;cases hr:isStr "row" x with
      |true=>
       rw[hr]at q1;refine xF (zN (zZ (yR (zB rfl) zE rfl) (ub g1) q1) zF) (zk (x_call (zA (zB rfl) (zA (zB rfl) (zA (yR (zB rfl) zE rfl) (zA (yR (zB rfl) zE rfl) zD)))) (cR zs ds y z s hz hd ky kz)) (end' ?_));rw[eV,hr,if_pos rfl]
      |false=>
       rw[hr]at q1;refine yN (zN (zZ (yR (zB rfl) zE rfl) (ub g1) q1) zF) ?_;cases hc:isStr "cases" x with
       |false=>
        rw[hc]at q2;refine zk (oo (zZ (yR (zB rfl) zE rfl) (ub g2) q2)) (end' ?_);rw[eV,hr,hc];rfl
       |true=>
        rw[hc]at q2;refine zk (jz (zZ (yR (zB rfl) zE rfl) (ub g2) q2) (x_call (zA (zB rfl) (zA (zB rfl) (zA (yR (zB rfl) zE rfl) (zA (yR (zB rfl) zE rfl) zD)))) (cC n rfl zs ds y z s hz hd ky kz dps))) (end' ?_);rw[eV,hr,hc,if_neg Aa,Cy]
   . refine xF (qw (xQ (zN (zo (zA (zB rfl) (zA oq zD)) i1) zF)) (tH (zN (zZ (zo (zA (zB rfl) zD) xb) zE ne_int) (by rw[zF,decide_eq_false ⋯];rfl)))) (zk zE (end' (oR λx y z e=>?_).symm))
     cases e;exact h3 rfl
 . rw[hn]at i1
   exact xF (eU (xQ (zN (zo (zA (zB rfl) (zA oq zD)) i1) zF))) (zk zE (end' (oR λx y z e=>by rw[e]at ha;cases ha;cases hn).symm))
end
end M
end
section
namespace M
open PySem
def gR{zs ds}:zu zs (n+1) ds (.f [x,y,z])=if isStr "row" x then sZ zs ds y z else isStr "cases" x&&vR zs (zu zs n) ds y z:=rfl
def l6{ds}(hf:ds[f]?=some h):su ds f d z h=yV ds f d z:=by unfold su yV;rw[hf]
def VO{zs ds}{f:Nat}(hf:f<ds.length):sZ zs ds (.c (f:Int)) (.c d)=(!decide (ds[f]=-1)&&((decide (1<=d)&&decide (d<=((ds.length-1-f)/(zM zs (ds[f]).toNat-1):Nat)))&&yV ds f d.toNat (zM zs (ds[f]).toNat))):=by
 have hg:ds.getD f (-1)=ds[f]:=by rw[Ab,pn hf];rfl
 show ((decide (0<=(f:Int))&&decide ((f:Int)<=(ds.length:Int)-1))&&(!decide (ds.getD (f:Int).toNat (-1)=-1)&&((decide (1<=d)&&decide (d<=((ds.length-1-(f:Int).toNat)/(zM zs (ds.getD (f:Int).toNat (-1)).toNat-1):Nat)))&&yV ds (f:Int).toNat d.toNat (zM zs (ds.getD (f:Int).toNat (-1)).toNat))))=_;rw[AL,hg,decide_eq_true ⋯,decide_eq_true ⋯];rfl
def nc{zs ds}{f:Nat}(hf:f<ds.length):vR zs g ds (.c (f:Int)) (.f ps)=(decide (ds[f]=-1)&&(decide (ps.length=zs.length)&&xI g ds f 0 ps)):=by show ((decide (0<=(f:Int))&&decide ((f:Int)<=(ds.length:Int)-1))&&(decide (ds.getD (f:Int).toNat 0=-1)&&(decide (ps.length=zs.length)&&xI g ds (f:Int).toNat 0 ps)))=_;rw[AL,Ab,pn hf,decide_eq_true ⋯,decide_eq_true ⋯];rfl
end M
end
section
namespace M
open PySem
def lF(h:∀v∈vs,v.isD=true):(Val.f vs).isD=true:=by
 rw[Val.isD];induction vs with
 |nil=>rw[uK]
 |cons v vs ih=>rw[uK,h v (.head _),ih λw hw=>h w (.tail _ hw)];rfl
end M
end
section
namespace M
open PySem
theorem nW:∀fs k,(yO k fs).length=(fs.map Val.c).countP λz=>eqF z (.c (-1))
 |[],_=>rfl
 |v::fs,k=>by
  unfold yO;rw[Aw,CH,<-nW fs (k+1)];by_cases h:v=-1
  . rw[if_pos h,An,if_pos (show eqF (.c v) (.c (-1))=true by rw[h];rfl)]
  . rw[if_neg h,if_neg (show ¬eqF (.c v) (.c (-1))=true from λq=>h (of_decide_eq_true q))];rfl
section
variable {T:Tbl}{Φ:Calls}{s:Sto}
def j8(n:Nat)(Φ:Calls):Prop:=∀(zs ds:List Int) (v:Val) (s:Sto),Sz zs->Df zs ds->Dt n v->Φ "is_paper" 0 [tpI zs,tpI ds,v] s=.e (.e (zu zs n ds v)) s
def aZ{zs ds}(h:Df zs ds):vE zs (tpI ds)=true:=by rw[kO,zI,decide_eq_true h.1,uH λx hx=>by have:=h.2 x hx;omega];rfl
def bN(cN:qZ Φ)(cS:me n Φ){zs ds}(hz:Sz zs)(hd:Df zs ds)(hv:Dt n v):run T Φ F31.wc [tpI zs,tpI ds,v] s=.e (.e (zu zs n ds v)) s:=by rw[post_eq,F31.wc,zw];refine⟨rfl,?_⟩;show (zj Φ T.b [some (tpI zs),some (tpI ds),some v] _ s).post _;refine yb (x_call (zA (zB rfl) (zA (zB rfl) zD)) (cN zs ds s hz (aZ hd))) (zk (x_call (zA (zB rfl) (zA (zB rfl) (zA (zB rfl) zD))) (cS zs ds v s hz hd hv)) ?_);show (zU false s _ s).post _;rw[zL xK];exact zC.mpr ⟨rfl,rfl⟩
noncomputable def iL:List (List Int):=[[3,3],[3,3],[2,3],[3,2],[2,2,3],[3,4],[4,3],[2,2],[3],[2,2,2],[3,3,2],[2,4]]
def Vv(Φ:Calls):Prop:=∀(p:Nat) (s:Sto),vx s p->(Φ "_law_few" 0 [.h p] s).post λv s'=>∃zs,v=tpI zs/\Sz zs/\zs.length<=3/\xN s p s'
def Yo(cD:bq Φ)(hp:vx s p):(run T Φ F31.wZ [.h p] s).post λv s'=>∃zs,v=tpI zs/\Sz zs/\zs.length<=3/\xN s p s':=by
 have L1:∀n,n<100->n<=zX:=λn h=>by unfold zX;omega
 have e2:∀(env:Env) (s:Sto) (a b:Int),evE Φ T.b env (.q (.a (.g (.c a)) (.a (.g (.c b)) .b))) s=.e (tpI [a,b]) s:=λenv s a b=>vH (zA zE (zA zE zD)) (L1 2 ⋯)
 have e3:∀(env:Env) (s:Sto) (a b c:Int),evE Φ T.b env (.q (.a (.g (.c a)) (.a (.g (.c b)) (.a (.g (.c c)) .b)))) s=.e (tpI [a,b,c]) s:=λenv s a b c=>vH (zA zE (zA zE (zA zE zD))) (L1 3 ⋯)
 rw[F31.wZ,zw];refine⟨rfl,?_⟩;show (zj Φ T.b [some (.h p),none] _ s).post _;refine yd (rh (vs:=iL.map tpI) (zA (e2 _ _ _ _) (zA (e2 _ _ _ _) (zA (e2 _ _ _ _) (zA (e2 _ _ _ _) (zA (e3 _ _ _ _ _) (zA (e2 _ _ _ _) (zA (e2 _ _ _ _) (zA (e2 _ _ _ _) (zA (vH (zA zE zD) (L1 1 ⋯)) (zA (e3 _ _ _ _ _) (zA (e3 _ _ _ _ _) (zA (e2 _ _ _ _) zD)))))))))))) (L1 12 ⋯)) ?_
 refine zm.mpr (jH.mpr (PD.mpr ?_));rw[zB (v:=.k (iL.map tpI)) rfl];refine zC.mpr (xM (zA (zB rfl) (zA zE zD)) (zQ (cD p 12 s hp ⋯ ⋯) ?_))
 rintro v s1 ⟨r,rfl,hr,t1⟩;have hr':r<iL.length:=by show r<12;omega
 have hm:∀zs∈iL,Sz zs/\zs.length<=3:=by
  have:∀zs∈iL,((1<=zs.length/\zs.length<=4)/\zs.length<=3)/\∀x∈zs,2<=x/\x<=8:=by decide +kernel
  exact λzs h=>⟨⟨(this zs h).1.1.1,(this zs h).1.1.2,(this zs h).2⟩,(this zs h).1.2⟩
 have:=hm _ (BK hr');rw[qI (v:=tpI iL[r]) (by rw[AA,pn hr'];rfl)]
 refine zC.mpr ?_;show (zU false s (tpI iL[r]) s1).post _;rw[p7 t1 (by rw[vm];exact xE _)]
 exact zC.mpr ⟨_,rfl,this.1,this.2,t1⟩
end
end M
end
section
namespace M
open PySem
section
variable {T:Tbl}{Φ:Calls}{s:Sto}
def SG{fs:List Int}(h:s[q]?=some (.c (fs.map .c))):yf .b (.h q) [.c y] s=.e (.c ((fs.map Val.c).countP λz=>eqF z (.c y))) s:=by simp only[yf,z8,h];exact if_pos (by rw[tY];rfl)
def Ru(h1:evE Φ G env o s=.e x s1)(h2:xW Φ G env es s1=.e vs s2)(h3:yf f x vs s2=r):evE Φ G env (.D f m o es) s=r:=bnd h1 (bnd h2 h3)
end
end M
end
section
namespace F32
open PySem M
noncomputable def yr:Fn:=⟨["sizes","draft","blanks","papers","hue","rows","put","paper"],["sizes","draft","blanks"],false,(.a (.f (.b (.a (.e 2))) (.a (.d (.g .g)) .b) .b) (.a (.g 3 (.s true .b)) (.a (.j (.a 4) (.c (.l .a false (.a (.e 0) .b))) (.a (.g 5 (.h "barring_rows" 0 (.a (.e 0) (.a (.e 1) (.a (.p (.e 2) (.g (.c 0))) (.a (.e 4) .b)))))) (.a (.g 6 (.h "with_hue" 0 (.a (.e 1) (.a (.p (.e 2) (.g (.c 0))) (.a (.e 4) .b))))) (.a (.g 7 (.B (.a (.e 5)) (.h "row_paper" 0 (.a (.p (.e 5) (.g (.c 0))) .b)) (.h "cases_paper" 0 (.a (.e 0) (.a (.e 6) (.a (.J false (.e 2) (.a (.g (.c 1))) .b .b) .b)))))) (.a (.f (.a (.j .b (.e 7) (.g .g))) (.a (.d (.g .g)) .b) .b) (.a (.h (.D .a false (.e 3) (.a (.e 7) .b))) .b)))))) (.a (.d (.q (.a (.z "CASES") (.a (.p (.e 2) (.g (.c 0))) (.a (.l .b false (.a (.e 3) .b)) .b))))) .b))))⟩
noncomputable def wI:Fn:=⟨["sizes","draft","row"],["sizes","draft"],false,(.a (.h (.h "need_few_ways" 0 (.a (.e 0) (.a (.e 1) (.a (.z "MOST_WAYS") .b))))) (.a (.g 2 (.h "first_row_wrong" 0 (.a (.e 0) (.a (.e 1) .b)))) (.a (.d (.B (.a (.j .b (.e 2) (.g .g))) (.h "cases_paper" 0 (.a (.e 0) (.a (.e 1) (.a (.h "blanks_of" 0 (.a (.e 1) .b)) .b)))) (.h "row_paper" 0 (.a (.e 2) .b)))) .b)))⟩
noncomputable def wJ:Fn:=⟨["row"],["row"],false,(.a (.d (.q (.a (.z "ROW") (.a (.p (.e 0) (.g (.c 0))) (.a (.p (.e 0) (.g (.c 1))) .b))))) .b)⟩
end F32
end
section
namespace M
open PySem
def Ud{ds}{h:Nat}(hB:Bl ds (p::bs)):Bl (ds.set p (h:Int)) bs:=by
 have hp:=y8 ((hB.a p).mpr (.head _));have hr:=Bn.mp hB.c;refine⟨λi=>?_,hr.2⟩;by_cases e:i=p
 . subst e
   rw[AE hp];exact⟨λq=>by have:=Am q;omega,λq=>absurd (hr.1 _ q) (Bp _)⟩
 . rw[Bt (λq=>e q.symm),hB.a i]
   exact⟨λq=>(Ah.mp q).resolve_left e,λq=>.tail _ q⟩
def aD{ds}(hB:Bl ds (p::bs)):∀i<p,ds[i]?≠some (-1):=λi hi e=>by
 rcases Ah.mp ((hB.a i).mp e) with z|z
 . omega
 . have:=(Bn.mp hB.c).1 i z;omega
def oT{zs ds}(hB:Bl ds (p::bs)):z7 zs ds=(Al zs.length).flatMap λ(h:Nat)=>z7 zs (ds.set p (h:Int)):=by unfold z7;rw[sP ((hB.a p).mpr (.head _)) (aD hB),D5]
def qS{zs ds}(hz:Sz zs)(hF:wU zs ds)(hB:Bl ds []):z7 zs ds=[ds]:=by
 unfold z7;rw[qB λx hx e=>?_]
 . have:kW zs ds=true:=(yX hz).mpr hF
   rw[DT,this];rfl
 . obtain⟨i,hi⟩:=BF hx
   rw[e]at hi;exact absurd ((hB.a i).mp hi) (by simp)
def VP{zs ds}(hz:Sz zs)(hh:h<zs.length)(hd:0<d)(hl:f+d*(zM zs h-1)<ds.length)(ha:su ds f d (zM zs h) h=true):sZ zs ds (.c (f:Int)) (.c (d:Int))=true:=by
 obtain⟨_,z2,_⟩:=z0 hz hh;have hf:f<ds.length:=by omega
 have h0:ds[f]?=some (h:Int):=by have:=yD.mp ha 0 ⋯;rwa [DL,Ge]at this
 have e:ds[f]=(h:Int):=by rw[pn hf]at h0;exact Am h0
 have hK:d<=(ds.length-1-f)/(zM zs h-1):=(Bz ⋯).mpr ⋯
 rw[VO hf,e,AL,decide_eq_false ⋯,decide_eq_true ⋯,decide_eq_true ⋯,AL,<-l6 h0,ha];rfl
def qN{i:Nat}:kindOf (.c (i:Int))≠none/\(Val.c (i:Int)).isD=true:=⟨nofun,by rw[Val.isD]⟩
def RT{n f d:Nat}:Dt (n+1) (.f [.j "row",.c (f:Int),.c (d:Int)]):=by
 have m:∀w∈[Val.j "row",.c (f:Int),.c (d:Int)],kindOf w≠none/\w.isD=true/\∀ps,w=.f ps->∀u∈ps,Dt n u:=λw hw=>by
  simp only[Ah,Bk,or_false]at hw;rcases hw with rfl|rfl|rfl
  . exact⟨nofun,by rw[Val.isD];decide +kernel,nofun⟩
  . exact⟨qN.1,qN.2,nofun⟩
  . exact⟨qN.1,qN.2,nofun⟩
 exact⟨nofun,lF λw hw=>(m w hw).2.1,λvs e=>by cases e;exact m⟩
def kC{n p:Nat}(h:∀q∈ps,Dt n q):Dt (n+1) (.f [.j "cases",.c (p:Int),.f ps]):=by
 have m:∀w∈[Val.j "cases",.c (p:Int),.f ps],kindOf w≠none/\w.isD=true/\∀ps,w=.f ps->∀u∈ps,Dt n u:=λw hw=>by
  simp only[Ah,Bk,or_false]at hw;rcases hw with rfl|rfl|rfl
  . exact⟨nofun,by rw[Val.isD];decide +kernel,nofun⟩
  . exact⟨qN.1,qN.2,nofun⟩
  . exact⟨nofun,lF λq hq=>(h q hq).isD,λqs e=>by cases e;exact h⟩
 exact⟨nofun,lF λw hw=>(m w hw).2.1,λvs e=>by cases e;exact m⟩
mutual
theorem qP:∀{v:Val},v.isD=true->v.noRef=true
 |.g,_=>yy
 |.e _,_=>xK
 |.c _,_=>yg
 |.j _,_=>il
 |.f vs,h=>by rw[Val.isD]at h;rw[vm];exact lN h
 |.k vs,h=>by rw[Val.isD]at h;rw[lM];exact lN h
 |.o,h=>by rw[Val.isD]at h;cases h
 |.m _,h=>by rw[Val.isD]at h;cases h
 |.p _,h=>by rw[Val.isD]at h;cases h
 |.h _,h=>by rw[Val.isD]at h;cases h
 |.r _,h=>by rw[Val.isD]at h;cases h
 |.q _,h=>by rw[Val.isD]at h;cases h
theorem lN:∀{vs:List Val},uK vs=true->zy vs=true
 |[],_=>uS
 |v::vs,h=>by rw[uK,nx]at h;rw[xg,qP h.1,lN h.2];rfl
end
def qo(zs ds:List Int)(n:Nat)(v:Val):Prop:=(v=.g/\z7 zs ds≠[])\/(v.isN=false/\Dt (n+1) v/\z7 zs ds=[]/\zu zs (n+1) ds v=true)
def qo.dt{zs ds}(h:qo zs ds n v):Dt (n+1) v:=by
 rcases h with⟨rfl,_⟩|h
 . exact⟨nofun,by rw[Val.isD],nofun⟩
 . exact h.2.1
def oG{zs ds}(hz:Sz zs)(hh:h<zs.length)(hd:0<d)(hl:f+d*(zM zs h-1)<ds.length)(ha:su ds f d (zM zs h) h=true):qo zs ds n (.f [.j "row",.c (f:Int),.c (d:Int)]):=by
 refine .inr ⟨rfl,RT,eO hz λhF=>hF h f d hh hd hl ha,?_⟩;rw[gR,show isStr "row" (.j "row")=true by decide +kernel,if_pos rfl]
 exact VP hz hh hd hl ha
theorem uf{ds}:∀{ps} {k},xI g ds p k (ps++[q])=(xI g ds p k ps&&g (putL ds p (k+ps.length:Nat)) q)
 |[],k=>by
  show (g (putL ds p k) q&&true)=(true&&g (putL ds p (k+0:Nat)) q);rw[Fw,Cy];rfl
 |a::ps,k=>by show (g (putL ds p k) a&&xI g ds p (k+1) (ps++[q]))=((g (putL ds p k) a&&xI g ds p (k+1) ps)&&g (putL ds p (k+(ps.length+1):Nat)) q);rw[uf,Bool.and_assoc,show k+1+ps.length=k+(ps.length+1) by omega]
section
variable {T:Tbl}{Φ:Calls}{s:Sto}
def fB(Φ:Calls):Prop:=∀(f d:Int) (s:Sto),Φ "row_paper" 0 [.f [.c f,.c d]] s=.e (.f [.j "row",.c f,.c d]) s
def Ys(g:T.b "ROW"=some (.j "row")):run T Φ F32.wJ [.f [.c f,.c d]] s=.e (.f [.j "row",.c f,.c d]) s:=by
 rw[post_eq,F32.wJ,zw];refine⟨rfl,?_⟩;show (zj Φ T.b [some (.f [.c f,.c d])] _ s).post _;refine zk (vH (zA (ub g) (zA (yR (zB rfl) zE rfl) (zA (yR (zB rfl) zE rfl) zD))) (by show 3<=zX;unfold zX;omega)) ?_
 show (zU false s _ s).post _;rw[zL (by rw[vm,xg,xg,xg,uS,il,yg,yg];rfl)]
 exact zC.mpr ⟨rfl,rfl⟩
noncomputable def blV(bs:List Nat):Val:=.k (bs.map λ(k:Nat)=>Val.c k)
def mX(n:Nat)(Φ:Calls):Prop:=∀(zs ds:List Int) (bs:List Nat) (s:Sto),Sz zs->Dr zs ds->wU zs ds->Bl ds bs->bs.length=n->(Φ "cases_paper" 0 [tpI zs,tpI ds,blV bs] s).post λv s'=>s'=s/\qo zs ds n v
def Uq{zs ds}(hd:Dr zs ds)(hh:h<zs.length):Dr zs (ds.set p (h:Int)):=by
 refine⟨by rw[A6];exact hd.1,λx hx=>?_⟩
 rcases D8 hx with hx|rfl
 . exact hd.2 x hx
 . omega
def oK(gC:T.b "CASES"=some (.j "cases"))(cB:pH Φ)(cW:uc Φ)(cR:fB Φ)(cC:∀m,n=m+1->mX m Φ){zs ds}(hz:Sz zs)(hd:Dr zs ds)(hF:wU zs ds)(hB:Bl ds bs)(hn:bs.length=n):(run T Φ F32.yr [tpI zs,tpI ds,blV bs] s).post λv s'=>s'=s/\qo zs ds n v:=by
 have L1:∀n,n<100->n<=zX:=λn h=>by unfold zX;omega
 have hd32:=hd.1;have hz4:=hz.2.1;have hl:∀s,blt .a false [tpI zs] s=.e (.c zs.length) s:=λs=>by rw[xb,zI]
 have end':∀{v:Val} {t:Sto},qo zs ds n v->(zU false s v (s++t)).post λv s'=>s'=s/\qo zs ds n v:=λ{v t} h=>by rw[p6 (qP h.dt.isD)];exact zC.mpr ⟨rfl,h⟩
 rw[F32.yr,zw];refine⟨rfl,?_⟩;show (zj Φ T.b [some (tpI zs),some (tpI ds),some (blV bs),none,none,none,none,none] _ s).post _;cases bs with
 |nil=>
  refine xF (xQ (zN (b:=false) (zB rfl) rfl)) (zk zE ?_);show (zU false s .g s).post _;rw[zL yy];exact zC.mpr ⟨rfl,.inl ⟨rfl,by rw[qS hz hF hB];exact nofun⟩⟩
 |cons p bs=>
  obtain⟨m,rfl⟩:∃m,n=m+1:=⟨n-1,by rw[An]at hn;omega⟩
  have hn:bs.length=m:=by rw[An]at hn;omega
  have hp:=(hB.a p).mpr (.head _);have hpl:=y8 hp;have hput:∀h:Int,putL ds p h=ds.set p h:=λh=>vU hpl;have ix0:∀s,wo (blV (p::bs)) (.c 0) s=.e (.c p) s:=λs=>qI (k:=0) rfl;refine yN (xQ (zN (b:=true) (zB rfl) rfl)) (yd (v:=.h s.length) (s1:=s++[.c []]) (bnd zD rfl) ?_);show (zj Φ T.b [some (tpI zs),some (tpI ds),some (blV (p::bs)),some (.h s.length),none,none,none,none] _ (s++[.c []])).post _;refine zm.mpr (wA (λrest e s'=>∃(h:Nat) (ps:List Val) (o4 o5 o6 o7:Option Val),h<=zs.length/\rest=yC h (zs.length-h)/\ps.length=h/\(∀q∈ps,Dt (m+1) q)/\xI (zu zs (m+1)) ds p 0 ps=true/\(∀i<h,z7 zs (ds.set p (i:Int))=[])/\e=[some (tpI zs),some (tpI ds),some (blV (p::bs)),some (.h s.length),o4,o5,o6,o7]/\s'=s++[.c ps]) (yC 0 zs.length) (s1:=s++[.c []]) (nu (zo (zA (zB rfl) zD) (hl _)) (L1 _ ⋯)) ⟨0,[],_,_,_,_,A3 _,rfl,rfl,nofun,rfl,nofun,rfl,rfl⟩ ?_ ?_)
  . rintro x rest e s' ⟨h,ps,o4,o5,o6,o7,hh,hr,hpsl,hps,hcv,hso,rfl,rfl⟩
    obtain⟨k,hk,rfl,rfl⟩:=t6 hr;have hhz:h<zs.length:=by omega
    refine⟨_,rfl,?_⟩;refine yd (x_call (zA (zB rfl) (zA (zB rfl) (zA (yR (zB rfl) zE (ix0 _)) (zA (zB rfl) zD)))) (cB zs ds p h _ hz hd32 hpl hhz)) (yd (x_call (zA (zB rfl) (zA (yR (zB rfl) zE (ix0 _)) (zA (zB rfl) zD))) (cW ds p (h:Int) _ hpl ⋯)) ?_)
    show (zj Φ T.b [some (tpI zs),some (tpI ds),some (blV (p::bs)),some (.h s.length),some (.c (h:Int)),some (.k ((vj ds (zM zs h) p h).map wN)),some (tpI (putL ds p h)),o7] _ (s++[.c ps])).post _;refine tF (zQ (P:=λv s1=>s1=s++[.c ps]/\qo zs (putL ds p h) m v) ?_ ?_)
    . cases hb:vj ds (zM zs h) p h with
      |nil=>
       have hF':wU zs (ds.set p (h:Int)):=(oE hz hF hp hhz).mp hb;rw[hput];have sl:uY false (blV (p::bs)) (some 1) none none (s++[.c ps])=.e (blV bs) (s++[.c ps]):=by show Out.e (Val.k (m7 ((p::bs).map λ(k:Nat)=>Val.c k) (some ((1:Nat):Int)) none)) _=_;rw[fJ (by rw[zI,An];omega)];rfl
       rw[vb (zN (b:=false) (zB rfl) rfl) rfl];exact xM (zA (zB rfl) (zA (zB rfl) (zA (OS (zB rfl) (V6 zE) Wf Wf sl) zD))) (cC m rfl zs (ds.set p (h:Int)) bs _ hz (Uq hd hhz) hF' (Ud hB) hn)
      |cons r rs=>
       obtain⟨f,d⟩:=r;have hm:(f,d)∈vj ds (zM zs h) p h:=by rw[hb];exact .head _
       obtain⟨k1,k2,k3⟩:=(fG hpl).mp hm;obtain⟨_,z2,_⟩:=z0 hz hhz;have k4:=(xf z2).mp k1;have hr0:∀t,wo (.k (((f,d)::rs).map wN)) (.c 0) t=.e (.f [.c (f:Int),.c (d:Int)]) t:=λt=>qI (k:=0) rfl;rw[vd (zN (b:=true) (zB rfl) rfl) rfl];refine xM (zA (yR (zB rfl) zE (hr0 _)) zD) ?_;rw[cR];refine zC.mpr ⟨rfl,oG hz hhz k4.1 (by rw[hput,A6];exact k4.2) (yD.mpr λk hk=>?_)⟩
       rw[hput];rcases k3 k hk with e|e
       . rw[e,AE hpl]
       . by_cases e':f+k*d=p
         . rw[e',AE hpl]
         . rw[Bt (λq=>e' q.symm)];exact e
    . rintro v s1 ⟨rfl,hv⟩
      rcases hv with⟨rfl,hv⟩|⟨v1,v2,v3,v4⟩
      . refine xF (zN (zZ (zB rfl) zE rfl) zF) (zk zE (end' (.inl ⟨rfl,λe=>hv ?_⟩)))
        rw[oT hB]at e;rw[hput];exact CA.mp e h (Ag.mpr hhz)
      . refine yN (zN (zZ (zB rfl) zE (show zi .b v .g _=.e (.e v.isN) _ from rfl)) (by rw[zF,v1])) (yb (bnd (zB rfl) (bnd (zA (zB rfl) zD) (mm (by unfold zX;omega)))) (yq ⟨h+1,ps++[v],_,_,_,_,⋯,by congr 1<;>omega,by rw[Ak,hpsl];rfl,λq hq=>?_,?_,λi hi=>?_,rfl,rfl⟩))
        . rcases AO.mp hq with hq|hq
          . exact hps q hq
          . rw[Ao.mp hq];exact v2
        . rw[uf,hcv,Dn,hpsl,v4];rfl
        . by_cases e:i=h
          . subst e;rw[<-hput];exact v3
          . exact hso i ⋯
  . rintro e s' ⟨h,ps,o4,o5,o6,o7,hh,hr,hpsl,hps,hcv,hso,rfl,rfl⟩
    have:=pG hr;have hz0:h=zs.length:=by omega
    have ht:blt .b false [.h s.length] (s++[.c ps])=.e (.f ps) (s++[.c ps]):=by simp[blt,wR,z8]
    refine zk (vH (zA (ub gC) (zA (yR (zB rfl) zE (ix0 _)) (zA (zo (zA (zB rfl) zD) ht) zD))) (L1 3 ⋯)) (end' (.inr ⟨rfl,kC hps,?_,?_⟩))
    . rw[oT hB]
      exact CA.mpr λi hi=>hso i (by have:=Ag.mp hi;omega)
    . have e1:ds[p]=-1:=by rw[pn hpl]at hp;exact Am hp
      rw[gR,show isStr "row" (.j "cases")=false by decide +kernel,if_neg Aa,show isStr "cases" (.j "cases")=true by decide +kernel,Cy,nc hpl,decide_eq_true e1,decide_eq_true ⋯,hcv];rfl
end
end M
end
section
namespace M
open PySem
section
variable {T:Tbl}{Φ:Calls}{s:Sto}
def nP(Φ:Calls):Prop:=∀(zs ds:List Int) (s:Sto),Sz zs->Dr zs ds->wM zs ds<=512->(yO 0 ds).length<=9->(Φ "paper_for" 0 [tpI zs,tpI ds] s).post λv s'=>s'=s/\qo zs ds (yO 0 ds).length v
def lZ(g:T.b "MOST_WAYS"=some (.c 512))(cF:UT Φ)(cR:rj Φ)(cB:tL Φ)(cC:∀n,n<=9->mX n Φ)(cP:fB Φ){zs ds}(hz:Sz zs)(hd:Dr zs ds)(hw:wM zs ds<=512)(hb:(yO 0 ds).length<=9):(run T Φ F32.wI [tpI zs,tpI ds] s).post λv s'=>s'=s/\qo zs ds (yO 0 ds).length v:=by
 have hd32:=hd.1;have end':∀{v:Val},qo zs ds (yO 0 ds).length v->(zU false s v s).post λv s'=>s'=s/\qo zs ds (yO 0 ds).length v:=λ{v} h=>by rw[zL (qP h.dt.isD)];exact zC.mpr ⟨rfl,h⟩
 rw[F32.wI,zw];refine⟨rfl,?_⟩;show (zj Φ T.b [some (tpI zs),some (tpI ds),none] _ s).post _;refine yb (x_call (zA (zB rfl) (zA (zB rfl) (zA (ub g) zD))) (cF zs ds s hz hd hw)) (yd (x_call (zA (zB rfl) (zA (zB rfl) zD)) (cR zs ds s hz (λx hx=>(hd.2 x hx).2) ⋯)) ?_)
 rcases tj zs ds with⟨_,e2⟩|⟨z,l,e1,e2⟩
 . have hF:wU zs ds:=(yX hz).mp (by rw[<-vP,e2];rfl)
   rw[e2];refine zm.mpr (jH.mpr ?_);rw[vd (zN (zZ (zB rfl) zE rfl) zF) rfl];refine xM (zA (zB rfl) (zA (zB rfl) (zA (x_call (zA (zB rfl) zD) (cB ds s)) zD))) (zQ (cC _ hb zs ds (yO 0 ds) s hz hd hF (mw ds) rfl) ?_);rintro v s1 ⟨rfl,hv⟩;exact end' hv
 . rw[e2]
   have hm:z∈(zl zs ds).map toI:=(yv _).mem_iff.mp (by rw[e1];exact .head _)
   obtain⟨⟨f,d⟩,hr,rfl⟩:=Aq.mp hm;obtain⟨h,q1,q2,q3,q4,q5⟩:=(tm hz).mp hr;refine zk (vb (zN (zZ (zB rfl) zE rfl) zF) (x_call (zA (zB rfl) zD) (cP _ _ _))) (end' (oG hz q2 q3 q4 (by rw[l6 q1];exact q5)))
end
end M
end
section
namespace M
open PySem
def iN(hz:Sz zs)(hF:wU zs ns):wU zs (ns++[-1]):=λh f d h1 h2 h3 ha=>by
 obtain⟨_,z2,_⟩:=z0 hz h1;rw[Ak,Bg]at h3;rw[yD]at ha;by_cases e:f+d*(zM zs h-1)=ns.length
 . have:=ha (zM zs h-1) ⋯
   rw[Br,e,AR (Ac _),Cv]at this;have:=Am (show some (-1:Int)=some (h:Int) from this);omega
 . refine hF h f d h1 h2 ⋯ (yD.mpr λk hk=>?_)
   have hk':k*d<=(zM zs h-1)*d:=BG _ ⋯
   have e2:=Br d (zM zs h-1);have:=ha k hk
   rwa [AJ ⋯]at this
section
variable {T:Tbl}{Φ:Calls}{s:Sto}
def g6(Φ:Calls):Prop:=∀(zs fs:List Int) (q h:Nat) (s:Sto),Sz zs->s[q]?=some (.c (fs.map .c))->h<zs.length->fs.length<=40->(Φ "_law_ended" 0 [tpI zs,.h q,.c h] s).post λv s'=>∃b,v=.e b/\s'=s/\(b=false->pX fs (zM zs h) h=false)
def gL(hz:Sz zs)(hq:s[q]?=some (.c (fs.map .c)))(hh:h<zs.length)(hf:fs.length<=40):(run T Φ F.ym [tpI zs,.h q,.c h] s).post λv s'=>∃b,v=.e b/\s'=s/\(b=false->pX fs (zM zs h) h=false):=by
 obtain⟨z1,z2,z3⟩:=z0 hz hh;generalize hzz:zM zs h=z at *;have c1:blt .a false [.h q] s=.e (.c fs.length) s:=by rw[Wc hq,zI]
 have end':∀b:Bool,(b=false->pX fs z h=false)->(zU false s (.e b) s).post λv s'=>∃b,v=.e b/\s'=s/\(b=false->pX fs z h=false):=λb hb=>by rw[zL xK];exact zC.mpr ⟨_,rfl,rfl,hb⟩
 have hd:((fs.length:Int))/((z:Int)-1)=((fs.length/(z-1):Nat):Int):=by rw[Ga];congr 1;omega
 have hK:fs.length/(z-1)<=40:=AB (Cu _ _) hf;rw[F.ym,zw];refine⟨rfl,?_⟩;show (zj Φ T.b [some (tpI zs),some (.h q),some (.c h),none,none,none] _ s).post _;refine zm.mpr (mG.mpr (tw (zo (zA (zB rfl) zD) c1) (tw (yR (zB rfl) (zB rfl) (sR z1)) (mF.mpr (rO rfl ?_)))));show (zj Φ T.b [some (tpI zs),some (.h q),some (.c h),some (.c fs.length),some (.c z),none] _ s).post _;refine zm.mpr (wA (λrest e s'=>(∃o5,e=[some (tpI zs),some (.h q),some (.c h),some (.c fs.length),some (.c z),o5])/\(∃i,rest=yC ((i+1:Nat):Int) (fs.length/(z-1)-i)/\i<=fs.length/(z-1)/\∀j<i,tB fs z h j=false)/\s'=s) (yC ((1:Nat):Int) (fs.length/(z-1))) (s1:=s) (fo (i:=1) (j:=fs.length/(z-1)+1) zE (yH (yH (zB rfl) (yH (zB rfl) zE qp) ((bdiv ⋯).trans (by rw[hd]))) zE r0) ⋯ ⋯) ⟨⟨_,rfl⟩,⟨0,rfl,A3 _,nofun⟩,rfl⟩ ?_ ?_)
 . rintro x rest e s' ⟨⟨o5,rfl⟩,⟨i0,hr,hi0,hno⟩,rfl⟩
   obtain⟨kk,hkk,rfl,rfl⟩:=t6 hr;obtain⟨d,hd0⟩:∃d,d=i0+1:=⟨_,rfl⟩;have d1:1<=d:=by omega
   have d2:d<=fs.length/(z-1):=by omega
   rw[<-hd0];refine⟨_,rfl,?_⟩;have hdz:∀k:Nat,k<=z-1->k*d<=fs.length:=λk hk=>by have h1:k*d<=(z-1)*(fs.length/(z-1)):=Dh hk d2;have h2:(z-1)*(fs.length/(z-1))<=fs.length:=Nat.mul_div_le _ _;omega
   have hc:∀N,evE Φ T.b [some (tpI zs),some (.h q),some (.c h),some (.c fs.length),some (.c z),some (.c d)] (.r false N [none,some 2,some 1,some 3,some 5] (.e 0) (.a 0) (.d (.g (.c 1)) (.e 4)) (.a (.a (.j .e (.p (.e 2) (.k false .c (.e 3) (.k false .b (.e 0) (.e 4)))) (.e 1))) .b)) s'=.e (.k ((((Al (z-1)).map λ(k:Nat)=>((1:Nat):Int)+(k:Int)).filter λk=>!decide (fs.getD ((fs.length:Int)-k*d).toNat 0=(h:Int))).map .c)) s':=λN=>
    OP (e0:=[some (.c h),some (.h q),some (.c fs.length),some (.c d)]) ((fo (i:=1) zE (zB rfl) ⋯ ⋯).trans (by unfold yC;rw[BW];rfl)) rfl λi hi=>by
     obtain⟨k,hk,rfl⟩:=Aq.mp hi;have hk:=Ag.mp hk;have hk1:=hdz (k+1) ⋯
     have hpos:1<=(k+1)*d:=Dh (show 1<=k+1 by omega) d1
     have e4:(fs.length:Int)-(((1:Nat):Int)+(k:Int))*(d:Int)=((fs.length-(k+1)*d:Nat):Int):=by
      rw[show ((1:Nat):Int)+(k:Int)=((k+1:Nat):Int) by omega,<-Bv]
      omega
     have hlt:fs.length-(k+1)*d<fs.length:=by omega
     refine gb (zN (zZ (yR (zB rfl) (yH (zB rfl) (yH (zB rfl) (zB rfl) (aE ⋯)) (qp.trans (by rw[e4]))) (ZQ (v:=.c fs[fs.length-(k+1)*d]) hq ?_)) (zB rfl) ne_int) (zF.trans ?_))
     . rw[AA,pn hlt];rfl
     . rw[e4,AL,Ab,pn hlt];rfl
   have key:((((Al (z-1)).map λ(k:Nat)=>((1:Nat):Int)+(k:Int)).filter λk=>!decide (fs.getD ((fs.length:Int)-k*d).toNat 0=(h:Int))).map Val.c).isEmpty=false->tB fs z h i0=false:=λhne=>by
    cases htb:tB fs z h i0 with
    |false=>rfl
    |true=>
     have:(((Al (z-1)).map λ(k:Nat)=>((1:Nat):Int)+(k:Int)).filter λk=>!decide (fs.getD ((fs.length:Int)-k*d).toNat 0=(h:Int)))=[]:=BL.mpr λy hy=>by
      obtain⟨k,hk,rfl⟩:=Aq.mp hy;have q:=of_decide_eq_true (AH.mp htb k hk);have hk:=Ag.mp hk;have hk1:=hdz (k+1) ⋯
      have e4:(fs.length:Int)-(((1:Nat):Int)+(k:Int))*(d:Int)=((fs.length-(k+1)*d:Nat):Int):=by
       rw[show ((1:Nat):Int)+(k:Int)=((k+1:Nat):Int) by omega,<-Bv]
       omega
      rw[e4,AL,Ab,hd0,q];simp
     rw[this]at hne;cases hne
   generalize (((Al (z-1)).map λ(k:Nat)=>((1:Nat):Int)+(k:Int)).filter λk=>!decide (fs.getD ((fs.length:Int)-k*d).toNat 0=(h:Int)))=L at hc key;have ht:=λN=>zN (zZ (hc N) (rh (zD (Φ:=Φ) (G:=T.b)) (A3 _)) (eq_nil (qG L))) zF;generalize (L.map Val.c).isEmpty=b at ht key;cases b with
   |false=>
    refine yN (ht _) (yq ⟨⟨_,rfl⟩,⟨i0+1,by congr 1<;>omega,⋯,λj hj=>?_⟩,rfl⟩)
    by_cases e:j=i0
    . rw[e];exact key rfl
    . exact hno j ⋯
   |true=>exact xF (ht _) (zk zE (end' _ nofun))
 . rintro e s' ⟨⟨o5,rfl⟩,⟨i0,hr,hi0,hno⟩,rfl⟩
   have:=pG hr;refine zk zE (end' _ λ_=>List.any_eq_false.mpr λj hj=>?_);rw[show ((Al (z-1)).all λk=>decide (fs[fs.length-(k+1)*(j+1)]?=some (h:Int)))=tB fs z h j from rfl,hno j (by have:=Ag.mp hj;omega)]
   exact Aa
def bx(Φ:Calls):Prop:=∀(p:Nat) (zs:List Int) (m n:Nat) (s:Sto),vx s p->Sz zs->m<=32->n<=100->(Φ "_law_knot" 0 [.h p,tpI zs,.c m,.c n] s).post λv s'=>∃ns,v=tpI ns/\Dr zs ns/\(yO 0 ns).length<=n/\ns.length<=m/\wU zs ns/\xN s p s'
def bL(cD:bq Φ)(cE:g6 Φ){m n:Nat}(hp:vx s p)(hz:Sz zs)(hm:m<=32)(hn:n<=100):(run T Φ F31.wB [.h p,tpI zs,.c m,.c n] s).post λv s'=>∃ns,v=tpI ns/\Dr zs ns/\(yO 0 ns).length<=n/\ns.length<=m/\wU zs ns/\xN s p s':=by
 have L1:∀n,n<100->n<=zX:=λn h=>by unfold zX;omega
 have hpl:=hp.lt;have hz1:=hz.1;have hz4:=hz.2.1;have hl:∀s,blt .a false [tpI zs] s=.e (.c zs.length) s:=λs=>by rw[xb,zI]
 rw[F31.wB,zw];refine⟨rfl,?_⟩;show (zj Φ T.b [some (.h p),some (tpI zs),some (.c m),some (.c n),none,none,none,none,none,none,none,none] _ s).post _;refine zm.mpr (mG.mpr (qR.mpr (V7.mpr ?_)));rw[zE];refine zC.mpr (xM (zA (zB rfl) (zA zE zD)) (zQ (cD p 5 s hp ⋯ ⋯) ?_))
 rintro v s1 ⟨sh,rfl,hsh,t1⟩;rw[r0];refine zC.mpr (qR.mpr (xM (zA (zB rfl) (zA (yH (zB rfl) zE r0) zD)) (zQ (cD p _ s1 (t1.at_ hpl) ⋯ ⋯) ?_)))
 rintro v s2 ⟨len,rfl,hlen,t2'⟩;have t2:=t1.trans t2';have hlen':len<=m:=by omega
 refine mF.mpr (rO rfl ?_);show (zj Φ T.b [some (.h p),some (tpI zs),some (.c m),some (.c n),some (.c (2+(sh:Int))),some (.c len),none,none,none,none,none,none] _ s2).post _;refine yd (s1:=s2++[.c []]) (v:=.h s2.length) (bnd zD rfl) ?_;show (zj Φ T.b [some (.h p),some (tpI zs),some (.c m),some (.c n),some (.c (2+(sh:Int))),some (.c len),some (.h s2.length),none,none,none,none,none] _ (s2++[.c []])).post _;have fin':∀{sp:Sto} {fs:List Int},xN s p sp->(∀x∈fs,(-1:Int)<=x/\x<zs.length)->fs.length<=len->(fs.map Val.c).countP (λz=>eqF z (.c (-1)))<=n->wU zs fs->(zU false s (tpI fs) (sp++[.c (fs.map .c)])).post λv s'=>∃ns,v=tpI ns/\Dr zs ns/\(yO 0 ns).length<=n/\ns.length<=m/\wU zs ns/\xN s p s':=λ{sp fs} tp h1 h2 h3 h4=>by
  rw[n5 tp (by rw[vm];exact xE _)]
  exact zC.mpr ⟨fs,rfl,⟨⋯,h1⟩,by rw[nW];exact h3,⋯,h4,tp⟩
 refine zm.mpr (wA (λrest e s'=>(∃o7 o8 o9 o10 o11,e=[some (.h p),some (tpI zs),some (.c m),some (.c n),some (.c (2+(sh:Int))),some (.c len),some (.h s2.length),o7,o8,o9,o10,o11])/\∃sp fs,xN s p sp/\s'=sp++[.c (fs.map .c)]/\(∀x∈fs,(-1:Int)<=x/\x<zs.length)/\fs.length+rest.length=len/\(fs.map Val.c).countP (λz=>eqF z (.c (-1)))<=n/\wU zs fs) (yC 0 len) (s1:=s2++[.c []]) (nu (zB rfl) (L1 _ ⋯)) ⟨⟨_,_,_,_,_,rfl⟩,s2,[],t2,rfl,nofun,by unfold yC;simp,A3 _,(X1 zs).a⟩ ?_ ?_)
 . rintro x rest e s' ⟨⟨o7,o8,o9,o10,o11,rfl⟩,sp,fs,tp,rfl,hfs,hl2,hc,hFr⟩
   rw[An]at hl2;have lp:sp.length=s.length:=tp.len;have lq:s2.length=sp.length:=by rw[t2.len,lp]
   refine⟨_,rfl,?_⟩;refine zm.mpr (mG.mpr (qR.mpr (xM (zA (zB rfl) (zA (zo (zA (zB rfl) zD) (hl _)) zD)) (zQ (cD p zs.length (sp++[.c (fs.map .c)]) ((tp.at_ hpl).up _) ⋯ ⋯) ?_))))
   rintro v s4 ⟨h0,rfl,hh0,t4⟩;obtain⟨sq,tq,rfl⟩:=t4.app (by rw[lp];exact hpl)
   have lsq:sq.length=sp.length:=tq.len;have tsq:=tp.trans tq;refine qR.mpr (V8.mpr (xM (zA (zB rfl) (zA (zB rfl) zD)) (zQ (cD p (2+sh) (sq++[.c (fs.map .c)]) ((tsq.at_ hpl).up _) ⋯ ⋯) ?_)))
   rintro v s5 ⟨r5,rfl,hr5,t5⟩;obtain⟨sr,tr,rfl⟩:=t5.app (by rw[lsq,lp];exact hpl)
   have lsr:sr.length=sp.length:=by rw[tr.len,lsq]
   have tsr:=tsq.trans tr;have hcell:(sr++[Cel.c (fs.map Val.c)])[s2.length]?=some (.c (fs.map .c)):=by rw[lq,<-lsr];simp
   rw[zE];refine zC.mpr ?_;rw[eq_int];refine zC.mpr (mF.mpr (rO rfl ?_));generalize hskip:decide ((r5:Int)=0)=skip;clear hskip;show (zj Φ T.b [some (.h p),some (tpI zs),some (.c m),some (.c n),some (.c (2+(sh:Int))),some (.c len),some (.h s2.length),some x,some (.c h0),some (.e skip),o10,o11] _ (sr++[.c (fs.map .c)])).post _;refine yd (OR (f:=λk=>(((h0+k)%zs.length:Nat):Int)) (e0:=[some (.c h0),some (tpI zs)]) (nu (zo (zA (zB rfl) zD) (hl _)) (L1 _ ⋯)) rfl (λk o hk=>yH (yH (zB rfl) (zB rfl) r0) (zo (zA (zB rfl) zD) (hl _)) (show binOp false .d (.c ((h0:Int)+(k:Int))) (.c zs.length) _=.e (.c (((h0+k)%zs.length:Nat):Int)) _ from bmod ⋯)) (L1 _ ⋯)) ?_
   generalize hS:F8 (λk=>(((h0+k)%zs.length:Nat):Int)) (Al zs.length)=S;have hSm:∀y∈S,∃h:Nat,y=h/\h<zs.length:=λy hy=>by rw[<-hS]at hy;obtain⟨k,_,rfl⟩:=Aq.mp hy;exact⟨_,rfl,Nat.mod_lt _ ⋯⟩
   have hSl:S.length<=4:=by rw[<-hS,zI,AM];exact hz4
   clear hS;show (zj Φ T.b [some (.h p),some (tpI zs),some (.c m),some (.c n),some (.c (2+(sh:Int))),some (.c len),some (.h s2.length),some x,some (.c h0),some (.e skip),some (.k (S.map .c)),o11] _ (sr++[.c (fs.map .c)])).post _;refine tF (Wu (λrest e s' acc=>s'=sr++[.c (fs.map .c)]/\(∃o,e=[o,some (.e skip),some (tpI zs),some (.h s2.length)])/\∃gs rs:List Int,acc=gs.map .c/\rest=rs.map .c/\(∀y∈rs,∃h:Nat,y=h/\h<zs.length)/\(∀y∈gs,∃h:Nat,y=h/\h<zs.length/\pX fs (zM zs h) h=false)/\gs.length+rs.length<=4) ?_);refine⟨⟨S.map .c,none⟩,sr++[.c (fs.map .c)],vk (zB rfl) rfl,⟨rfl,⟨_,rfl⟩,[],S,rfl,rfl,hSm,nofun,by simpa using hSl⟩,λ_ _ _ _ _=>rfl,?_,?_⟩
   . rintro y rest e s' acc ⟨rfl,⟨o,rfl⟩,gs,rs,rfl,hr,hrs,hgs,hgl⟩
     cases rs with
     |nil=>cases hr
     |cons z rs=>
      injection hr with hy hr
      subst hy;subst hr;obtain⟨h,rfl,hh⟩:=hrs z (.head _);refine⟨_,rfl,?_⟩;obtain⟨_,_,eE,b,rfl,rfl,hE⟩:=cE zs fs s2.length h (sr++[.c (fs.map .c)]) hz hcell hh ⋯
      rw[gb (qT (xQ (zN (zB rfl) zF)) (xQ (zN (x_call (zA (zB rfl) (zA (zB rfl) (zA (zB rfl) zD))) eE) zF)))];refine zC.mpr ?_;rw[An]at hgl;cases hsb:(!skip&&!b) with
      |true=>
       rw[if_pos rfl,zB rfl];refine zC.mpr ⟨rfl,⟨_,rfl⟩,gs++[(h:Int)],rs,by rw[Bj];rfl,rfl,λy hy=>hrs y (.tail _ hy),λy hy=>?_,by rw[Ak,Bg];omega⟩
       rcases AO.mp hy with hy|hy
       . exact hgs y hy
       . rw[Ao.mp hy]
         exact⟨h,rfl,hh,hE (by cases b;rfl;cases skip<;>cases hsb)⟩
      |false=>
       rw[if_neg Aa];exact⟨rfl,⟨_,rfl⟩,gs,rs,rfl,rfl,λy hy=>hrs y (.tail _ hy),hgs,⋯⟩
   . rintro e s' acc ⟨rfl,_,gs,rs,rfl,hr,hrs,hgs,hgl⟩
     refine zC.mpr ?_;show (zj Φ T.b [some (.h p),some (tpI zs),some (.c m),some (.c n),some (.c (2+(sh:Int))),some (.c len),some (.h s2.length),some x,some (.c h0),some (.e skip),some (.k (S.map .c)),some (.k (gs.map .c))] _ (sr++[.c (fs.map .c)])).post _;have hT:=qT (Φ:=Φ) (G:=T.b) (env:=[some (.h p),some (tpI zs),some (.c m),some (.c n),some (.c (2+(sh:Int))),some (.c len),some (.h s2.length),some x,some (.c h0),some (.e skip),some (.k (S.map .c)),some (.k (gs.map .c))]) (s:=sr++[.c (fs.map .c)]) (zN (zZ (zB (i:=11) rfl) (rh zD (L1 0 ⋯)) (eq_nil (qG gs))) zF) (zN (zZ (Ru (m:=false) (zB (i:=6) rfl) (zA (eo (i:=1) zE) zD) (SG hcell)) (zB (i:=3) rfl) eq_int) zF)
     by_cases hb:((gs.map Val.c).isEmpty&&decide (((fs.map Val.c).countP (λz=>eqF z (.c (-1))):Int)=(n:Int)))=true
     . have ht:blt .b false [.h s2.length] (sr++[.c (fs.map .c)])=.e (tpI fs) (sr++[.c (fs.map .c)]):=by simp only[blt,z8,hcell]
       exact xF (hT.trans (by rw[hb])) (zk (zo (zA (zB rfl) zD) ht) (fin' tsr hfs ⋯ hc hFr))
     . rw[Bool.not_eq_true]at hb
       refine yN (hT.trans (by rw[hb])) ?_
       have go:∀{R:Fl->Sto->Prop} {v:Int},(-1:Int)<=v->v<zs.length->((gs.map Val.c)++[Val.c (-1)])[0]?=some (.c v)->(v=-1->(fs.map Val.c).countP (λz=>eqF z (.c (-1)))<n)->wU zs (fs++[v])->(zj Φ T.b [some (.h p),some (tpI zs),some (.c m),some (.c n),some (.c (2+(sh:Int))),some (.c len),some (.h s2.length),some x,some (.c h0),some (.e skip),some (.k (S.map .c)),some (.k (gs.map .c))] (.a (.h (.D .a false (.e 6) (.a (.p (.k false .a (.e 11) (.s false (.a (.C (.g (.c 1))) .b))) (.g (.c 0))) .b))) .b) (sr++[.c (fs.map .c)])).post (rV (λe s'=>(∃o7 o8 o9 o10 o11,e=[some (.h p),some (tpI zs),some (.c m),some (.c n),some (.c (2+(sh:Int))),some (.c len),some (.h s2.length),o7,o8,o9,o10,o11])/\∃(sp:Sto) (fs:List Int),xN s p sp/\s'=sp++[.c (fs.map .c)]/\(∀x∈fs,(-1:Int)<=x/\x<zs.length)/\fs.length+rest.length=len/\(fs.map Val.c).countP (λz=>eqF z (.c (-1)))<=n/\wU zs fs) R):=λ{R v} v0 v1 hv hvc hvF=>by
        refine yb (s1:=sr++[.c ((fs++[v]).map .c)]) (v:=.g) (bnd (zB rfl) (bnd (zA (yR (yH (zB rfl) (rh (zA (eo zE) zD) (L1 1 ⋯)) (R4 (by rw[zI];show _+1<=zX;unfold zX;omega))) zE (qI (k:=0) hv)) zD) ?_)) (yq ⟨⟨_,_,_,_,_,rfl⟩,sr,fs++[v],tsr,rfl,λy hy=>?_,by rw[Ak,Bg];omega,?_,hvF⟩)
        . rw[show s2.length=sr.length by rw[lq,lsr],mm (by rw[zI];unfold zX;omega),Bj];rfl
        . rcases AO.mp hy with hy|hy
          . exact hfs y hy
          . rw[Ao.mp hy];exact⟨v0,v1⟩
        . rw[Bj,List.countP_append]
          by_cases e:v=-1
          . have:=hvc e
            have h1:([v].map Val.c).countP (λz=>eqF z (.c (-1)))<=1:=List.countP_le_length;omega
          . rw[show ([v].map Val.c).countP (λz=>eqF z (.c (-1)))=0 from List.countP_eq_zero.mpr λy hy=>by rw[Ao.mp hy];exact λq=>e (of_decide_eq_true q)]
            exact hc
       cases gs with
       |nil=>
        refine go (v:=-1) ⋯ ⋯ rfl (λ_=>?_) (iN hz hFr)
        have:¬((fs.map Val.c).countP (λz=>eqF z (.c (-1))):Int)=(n:Int):=of_decide_eq_false hb;omega
       |cons g gs=>
        obtain⟨h,rfl,h1,h2⟩:=hgs g (.head _);exact go (v:=(h:Int)) ⋯ ⋯ rfl (λe=>⋯) ((da hz hFr h1).mpr h2)
 . rintro e s' ⟨⟨o7,o8,o9,o10,o11,rfl⟩,sp,fs,tp,rfl,hfs,hl2,hc,hFr⟩
   have hl2:fs.length=len:=by simpa using hl2
   have lq:s2.length=sp.length:=by rw[t2.len,tp.len]
   have hcell:(sp++[Cel.c (fs.map Val.c)])[s2.length]?=some (.c (fs.map .c)):=by rw[lq];simp
   have ht:blt .b false [.h s2.length] (sp++[.c (fs.map .c)])=.e (tpI fs) (sp++[.c (fs.map .c)]):=by simp only[blt,z8,hcell]
   exact zk (zo (zA (zB rfl) zD) ht) (fin' tp hfs ⋯ hc hFr)
end
end M
end
section
namespace F75
open PySem M
noncomputable def xZ:Fn:=⟨["_law_pen_here","_law_bound","_law_found","_law_stir"],["_law_pen_here","_law_bound"],false,(.a (.f (.d (.a (.j .c (.p (.e 0) (.g (.c 1))) (.g (.c 1)))) (.a (.a (.j .d (.p (.e 0) (.g (.c 0))) (.g (.c 0)))) .b)) (.a (.g 2 (.k false .d (.p (.e 0) (.g (.c 0))) (.e 1))) (.a (.l (.e 0) (.g (.c 0)) (.k false .e (.p (.e 0) (.g (.c 0))) (.e 1))) (.a (.d (.e 2)) .b))) .b) (.a (.l (.e 0) (.g (.c 2)) (.k false .a (.p (.e 0) (.g (.c 2))) (.g (.c 1)))) (.a (.g 3 (.k false .d (.k false .b (.k false .a (.p (.e 0) (.g (.c 3))) (.g (.c 17))) (.k false .a (.g (.c 69621)) (.k false .b (.g (.c 2)) (.p (.e 0) (.g (.c 2)))))) (.g (.c 2147483647)))) (.a (.g 3 (.k false .d (.k false .a (.k false .a (.k false .b (.e 3) (.e 3)) (.k false .b (.g (.c 40503)) (.p (.e 0) (.g (.c 2))))) (.g (.c 5))) (.g (.c 2147483629)))) (.a (.d (.k false .d (.k false .e (.k false .d (.k false .b (.e 3) (.g (.c 48271))) (.g (.c 2147483647))) (.g (.c 32))) (.e 1))) .b)))))⟩
noncomputable def yn:Fn:=⟨["_law_cell"],["_law_cell"],true,(.a (.d (.s true (.a (.e 0) (.a (.l .q false (.a (.j .k (.e 0) (.k false .g (.g (.c 10)) (.g (.c 18)))) .b)) (.a (.g (.c 0)) (.a (.k false .d (.e 0) (.g (.c 1000000007))) .b)))))) .b)⟩
end F75
end
section
namespace M
open PySem
noncomputable def Pd(a b c d:Int):Cel:=.c [.c a,.c b,.c c,.c d]
def OU(s:Sto)(p:Nat):Prop:=∃a b c d,s[p]?=some (Pd a b c d)/\0<=d/\d<1000000007
def R0(s:Sto)(p:Nat)(s':Sto):Prop:=∃a b c d,s'=s.set p (Pd a b c d)/\0<=d/\d<1000000007
def R0.at_(h:R0 s p s')(hp:p<s.length):OU s' p:=by obtain⟨a,b,c,d,rfl,h1⟩:=h;exact⟨a,b,c,d,AE hp,h1⟩
end M
end
section
namespace M
open PySem
theorem jA:∀{vs},(∀v∈vs,v.noRef=true)->zy vs=true
 |[],_=>uS
 |v::vs,h=>by rw[xg,h v (.head _),jA λw hw=>h w (.tail _ hw)];rfl
noncomputable def V0(st:List Int):List Nat:=(Al st.length).filter λp=>decide (st[p]?=some 0)
section
variable {T:Tbl}{Φ:Calls}{s:Sto}
def ek(h1:evE Φ G env o s=.e x s1)(h2:xW Φ G env es s1=.e vs s2)(h3:yf f x vs s2=r):evE Φ G env (.D f m o es) s=r:=bnd h1 (bnd h2 h3)
end
end M
end
section
namespace M
open PySem
theorem ZG:∀st,(V0 st).length=st.count 0
 |[]=>rfl
 |a::st=>by
  have ih:=ZG st;unfold V0 at ih ⊢;rw[An,DB,DT,ES,EM];have e:((λp=>decide ((a::st)[p]?=some 0))∘Nat.succ)=λp=>decide (st[p]?=some 0):=by funext p;rfl
  rw[e];have e0:decide ((a::st)[0]?=some 0)=(a == 0):=by
   show decide (some a=some 0)=(a == 0);by_cases h:a=0
   . subst h;rfl
   . rw[decide_eq_false (λq=>h (Am q))];simp[h]
  rw[e0];cases a == 0 with
  |true=>simp[ih]
  |false=>simp[ih]
theorem uo:∀ns:List Int,intsOf (ns.map .c)=some ns
 |[]=>rfl
 |n::ns=>by show (intsOf (ns.map .c)).map _=_;rw[uo ns];rfl
section
variable {T:Tbl}{Φ:Calls}{s:Sto}
def sT(h:v.noRef=true)(hc:c.noRef=true):zU false s v (s.set i c++t)=.e v (s.set i c):=by
 unfold zU;have e:s.length=(s.set i c).length:=by rw[A6]
 simp only[sV s t i c hc,freeze,h,if_true,AV,if_false,e,List.take_left']
def uu(h:v.noRef=true)(hc:c.noRef=true):zU false s v (s.set i c)=.e v (s.set i c):=by
 have:=sT (s:=s) (t:=[]) (i:=i) h hc
 rwa [Ba]at this
end
end M
end
section
namespace M
open PySem
theorem kK [DecidableEq κ]:∀{kvs} {k:κ} {v},vD kvs k=some v->(k,v)∈kvs
 |[],_,_,h=>by cases h
 |p::r,k,v,h=>by
  rw[vD]at h;by_cases e:p.1=k
  . rw[if_pos e]at h
    have:=Am h;rw[<-this,<-e];exact .head _
  . rw[if_neg e]at h;exact .tail _ (kK h)
theorem kJ [DecidableEq κ] {k:κ}:∀{kvs},(vD kvs k).isSome=true->vD (kvs.map λp=>if p.1=k then (p.1,v) else p) k=some v
 |[],h=>by cases h
 |p::r,h=>by
  rw[Aw,vD];by_cases e:p.1=k
  . rw[if_pos e,if_pos e]
  . rw[if_neg e,if_neg e]
    rw[vD,if_neg e]at h;exact kJ h
theorem kI [DecidableEq κ] {k:κ}:∀{kvs},(vD kvs k).isSome=false->vD (kvs++[(k,v)]) k=some v
 |[],_=>by show (if k=k then some v else none)=some v;rw[if_pos rfl]
 |p::r,h=>by
  rw[FZ,vD];by_cases e:p.1=k
  . rw[vD,if_pos e]at h;cases h
  . rw[if_neg e]
    rw[vD,if_neg e]at h;exact kI h
def aS [DecidableEq κ] {k:κ}{kvs}:vD (qD kvs k v) k=some v:=by
 unfold qD;cases h:(vD kvs k).isSome with
 |true=>rw[if_pos rfl];exact kJ h
 |false=>rw[if_neg Aa];exact kI h
def aU [DecidableEq κ] {k:κ}{kvs}:(qD kvs k v).length<=kvs.length+1:=by
 unfold qD;split
 . rw[zI];omega
 . rw[Ak];exact Ac _
def aT [DecidableEq κ] {P:κ->Val->Prop}{k}{kvs}(h:∀p∈kvs,P p.1 p.2)(hv:P k v):∀p∈qD kvs k v,P p.1 p.2:=by
 intro p hp;unfold qD at hp;split at hp
 . obtain⟨q,hq,rfl⟩:=Aq.mp hp
   by_cases e:q.1=k
   . rw[if_pos e];show P q.1 v;rw[e];exact hv
   . rw[if_neg e];exact h q hq
 . rcases AO.mp hp with hp|hp
   . exact h p hp
   . rw[Ao.mp hp];exact hv
section
variable {T:Tbl}{Φ:Calls}{s:Sto}
def OQ(h1:evE Φ G env a s=.e x s1)(h2:evE Φ G env b s1=.e y s2)(h3:ixD x y s2=r):evE Φ G env (.K a b) s=r:=bnd h1 (bnd h2 h3)
def Sq(h:(evE Φ G env e s).post λv s1=>∃x y s4,evE Φ G env o s1=.e x s1/\evE Φ G env i s1=.e y s1/\putD x y v s1=some s4/\(zj Φ G env cs s4).post P):(zj Φ G env (.a (.q o i e) cs) s).post P:=by
 obtain⟨v,s1,e1,x,y,s4,h1,h2,h3,h4⟩:=h;have e0:exS Φ G env (.q o i e) s=.e (.a env) s4:=by show ((evE Φ G env e s).bind _)=_;rw[e1,zR,h1,zR,h2,zR,h3]
 refine zm.mpr ?_;rw[e0];exact zC.mpr h4
def QT(h:s[d]?=some (.d kvs)):getD (.l d) (tpI st) s=some (vD kvs st):=by show ((s[d]?).map λc=>(d,c)).bind _=_;rw[h];show (intsOf (st.map .c)).map _=_;rw[uo];rfl
def Ow(h:s[d]?=some (.d kvs))(hl:kvs.length<zX):putD (.l d) (tpI st) v s=some (s.set d (.d (qD kvs st v))):=by
 show ((s[d]?).map λc=>(d,c)).bind _=_;rw[h];show (Option.map _ ((intsOf (st.map .c)).bind _))=_;rw[uo];show (Option.map _ (if kvs.length<zX then some (Cel.d (qD kvs st v)) else none))=_
 rw[if_pos hl];rfl
def SI(h:s[d]?=some (.d kvs)):zi .f (tpI st) (.l d) s=.e (.e !(vD kvs st).isSome) s:=by
 show (match getD (.l d) (tpI st) s with|some o=>Out.e (Val.e !o.isSome) s|dS=>.d)=_
 rw[QT h]
def ixT(h:s[d]?=some (.d kvs))(k:vD kvs st=some v):ixD (.l d) (tpI st) s=.e v s:=by unfold ixD;rw[QT h,k]
end
end M
end
section
namespace F34
open PySem M
noncomputable def yh:Fn:=⟨["costs","by_depth"],["costs","by_depth"],false,(.a (.d (.B (.a (.e 1)) (.k false .a (.g (.c 1)) (.l .i false (.a (.e 0) .b))) (.l .l false (.a (.e 0) .b)))) .b)⟩
noncomputable def xR:Fn:=⟨["by_depth"],["by_depth"],false,(.a (.d (.B (.a (.e 0)) (.g (.c 0)) (.g (.c 1)))) .b)⟩
noncomputable def xG:Fn:=⟨["sizes","draft","by_depth","known","row","best","place","pair"],["sizes","draft","by_depth","known"],false,(.a (.g 4 (.h "first_row_wrong" 0 (.a (.e 0) (.a (.e 1) .b)))) (.a (.f (.a (.j .a (.e 4) (.g .g))) (.a (.d (.q (.a (.h "cost_of_row" 0 (.a (.e 2) .b)) (.a (.h "row_paper" 0 (.a (.e 4) .b)) .b)))) .b) .b) (.a (.g 5 (.g .g)) (.a (.j (.a 6) (.f (.h "blanks_of" 0 (.a (.e 1) .b))) (.a (.g 7 (.h "pair_at" 0 (.a (.e 0) (.a (.e 1) (.a (.e 6) (.a (.e 2) (.a (.e 3) .b))))))) (.a (.f (.a (.j .b (.e 7) (.g .g))) (.a (.d (.g .g)) .b) .b) (.a (.f (.f (.a (.j .b (.e 5) (.g .g))) (.a (.a (.j .i (.p (.e 7) (.g (.c 0))) (.p (.e 5) (.g (.c 0))))) .b)) (.a (.g 5 (.e 7)) .b) .b) .b)))) (.a (.d (.e 5)) .b)))))⟩
noncomputable def xT:Fn:=⟨["sizes","draft","pair"],["sizes","draft"],false,(.a (.g 2 (.h "least_pair_of" 0 (.a (.e 0) (.a (.e 1) (.a (.g (.e true)) .b))))) (.a (.d (.B (.a (.j .b (.e 2) (.g .g))) (.g .g) (.p (.e 2) (.g (.c 0))))) .b))⟩
noncomputable def y7:Fn:=⟨["sizes","draft","pair"],["sizes","draft"],false,(.a (.g 2 (.h "least_pair_of" 0 (.a (.e 0) (.a (.e 1) (.a (.g (.e false)) .b))))) (.a (.d (.B (.a (.j .b (.e 2) (.g .g))) (.g .g) (.p (.e 2) (.g (.c 0))))) .b))⟩
noncomputable def xH:Fn:=⟨["sizes","draft","by_depth","known"],["sizes","draft","by_depth","known"],false,(.a (.f (.a (.j .f (.e 1) (.e 3))) (.a (.q (.e 3) (.e 1) (.h "found_pair" 0 (.a (.e 0) (.a (.e 1) (.a (.e 2) (.a (.e 3) .b)))))) .b) .b) (.a (.d (.K (.e 3) (.e 1))) .b))⟩
noncomputable def yk:Fn:=⟨["sizes","draft","by_depth"],["sizes","draft","by_depth"],false,(.a (.h (.h "need_few_ways" 0 (.a (.e 0) (.a (.e 1) (.a (.z "MOST_WAYS_OF_LEAST") .b))))) (.a (.d (.h "least_pair" 0 (.a (.e 0) (.a (.e 1) (.a (.e 2) (.a (.E true) .b)))))) .b))⟩
noncomputable def vK:Fn:=⟨["sizes","draft","place","by_depth","known","costs","papers","hue","pair"],["sizes","draft","place","by_depth","known"],false,(.a (.g 5 (.s true .b)) (.a (.g 6 (.s true .b)) (.a (.j (.a 7) (.c (.l .a false (.a (.e 0) .b))) (.a (.g 8 (.h "least_pair" 0 (.a (.e 0) (.a (.h "with_hue" 0 (.a (.e 1) (.a (.e 2) (.a (.e 7) .b)))) (.a (.e 3) (.a (.e 4) .b)))))) (.a (.f (.a (.j .b (.e 8) (.g .g))) (.a (.d (.g .g)) .b) .b) (.a (.h (.D .a false (.e 5) (.a (.p (.e 8) (.g (.c 0))) .b))) (.a (.h (.D .a false (.e 6) (.a (.p (.e 8) (.g (.c 1))) .b))) .b))))) (.a (.d (.q (.a (.h "cost_of_cases" 0 (.a (.e 5) (.a (.e 3) .b))) (.a (.q (.a (.z "CASES") (.a (.e 2) (.a (.l .b false (.a (.e 6) .b)) .b)))) .b)))) .b))))⟩
noncomputable def xV:Fn:=⟨["sizes","draft","pair"],["sizes","draft"],false,(.a (.g 2 (.h "least_pair_of" 0 (.a (.e 0) (.a (.e 1) (.a (.g (.e false)) .b))))) (.a (.d (.B (.a (.j .b (.e 2) (.g .g))) (.g .g) (.p (.e 2) (.g (.c 1))))) .b))⟩
end F34
end
section
namespace M
open PySem
theorem sL:∀ds n,(yO n ds).length=ds.count (-1)
 |[],_=>rfl
 |x::ds,n=>by
  rw[yO,EM];by_cases h:x=-1
  . rw[if_pos h,An,sL ds (n+1),h];rfl
  . rw[if_neg h,sL ds (n+1)]
    have:(x == -1)=false:=by simp[h]
    rw[this];rfl
def yS(bd:Bool)(r:List Int):Int:=if bd then 1+L2.yc 0 r else r.sum
def LC(bd:Bool)(zs:List Int):Nat->List Int->Int
 |0,_=>0
 |n+1,ds=>if (zl zs ds).isEmpty then L2.xB 0 ((yO 0 ds).map λp=>yS bd ((Al zs.length).map λ(h:Nat)=>LC bd zs n (putL ds p (h:Int)))) else (if bd then 0 else 1)
def LCd(bd:Bool)(zs ds:List Int):Int:=LC bd zs (ds.count (-1)+1) ds
def yu(bd:Bool)(zs ds:List Int)(p:Nat):List Int:=(Al zs.length).map λ(h:Nat)=>LCd bd zs (putL ds p (h:Int))
def vM{zs ds}(h:(zl zs ds).isEmpty=false):LCd bd zs ds=if bd then 0 else 1:=by
 show (if (zl zs ds).isEmpty then _ else _)=_
 rw[h,if_neg Aa]
def si{zs ds}(h:(zl zs ds).isEmpty=true):LCd bd zs ds=L2.xB 0 ((yO 0 ds).map λp=>yS bd (yu bd zs ds p)):=by
 show (if (zl zs ds).isEmpty then _ else _)=_
 rw[h,if_pos rfl];congr 1;refine CC λp hp=>?_;unfold yu;congr 1;refine CC λk _=>?_;unfold LCd;rw[xu (ux hp)]
theorem lj:∀{r:List Int},(∀x∈r,0<=x/\x<=b)->0<=r.sum/\r.sum<=(r.length:Int)*b
 |[],_=>by simp
 |x::r,h=>by
  have ih:=lj (r:=r) λy hy=>h y (.tail _ hy);have hx:=h x (.head _);have e:((r.length+1:Nat):Int)*b=(r.length:Int)*b+b:=by rw[show ((r.length+1:Nat):Int)=(r.length:Int)+1 by omega,Int.add_mul,Int.one_mul]
  rw[Eu,An,e];omega
def Zs(hb:0<=b)(h:∀x∈r,0<=x/\x<=b):0<=L2.yc 0 r/\L2.yc 0 r<=b:=by
 cases r with
 |nil=>exact⟨BJ _,hb⟩
 |cons x r=>exact h _ (L2.vT (d:=0) (ns:=x::r) nofun).1
def SH(hb:0<=b)(h:∀x∈r,0<=x/\x<=b):0<=L2.xB 0 r/\L2.xB 0 r<=b:=by
 cases r with
 |nil=>exact⟨BJ _,hb⟩
 |cons x r=>exact h _ (L2.wq (d:=0) (ns:=x::r) nofun).1
noncomputable def P4:Nat->Int
 |0=>1
 |n+1=>4*P4 n
theorem pM:∀n,1<=P4 n
 |0=>BJ _
 |n+1=>by have:=pM n;show 1<=4*P4 n;omega
theorem Vx(hz:zs.length<=4):∀n ds,0<=LC bd zs n ds/\LC bd zs n ds<=P4 n
 |0,_=>⟨BJ _,by show (0:Int)<=1;omega⟩
 |n+1,ds=>by
  have hp:=pM n;show 0<=(if (zl zs ds).isEmpty then _ else _)/\(if (zl zs ds).isEmpty then _ else _)<=4*P4 n
  split
  . refine SH ⋯ λx hx=>?_
    obtain⟨p,_,rfl⟩:=Aq.mp hx;have hr:∀x∈(Al zs.length).map (λ(h:Nat)=>LC bd zs n (putL ds p (h:Int))),0<=x/\x<=P4 n:=λx hx=>by obtain⟨h,_,rfl⟩:=Aq.mp hx;exact Vx hz n _
    unfold yS;cases bd with
    |true=>
     have:=Zs ⋯ hr
     show 0<=1+_/\1+_<=_;omega
    |false=>
     have:=lj hr;rw[zI,AM]at this;have hm:(zs.length:Int)*P4 n<=4*P4 n:=ET ⋯ ⋯
     show 0<=List.sum _/\List.sum _<=_;omega
  . cases bd
    . show (0:Int)<=1/\(1:Int)<=_
      omega
    . show (0:Int)<=0/\(0:Int)<=_
      omega
def R1:P4 6=4096:=by decide
theorem mh:∀{n m},n<=m->P4 n<=P4 m
 |n,0,h=>by obtain rfl:n=0:=by omega
            exact BJ _
 |n,m+1,h=>by
  rcases Nat.lt_or_ge n (m+1) with q|q
  . have h1:=mh (n:=n) (m:=m) ⋯
    have h2:=pM m;show P4 n<=4*P4 m;omega
  . obtain rfl:n=m+1:=by omega
    exact BJ _
def b6{zs ds}(hz:zs.length<=4)(h:ds.count (-1)<=5):0<=LCd bd zs ds/\LCd bd zs ds<=4096:=by
 have h1:=Vx (bd:=bd) hz (ds.count (-1)+1) ds;have h2:=mh (n:=ds.count (-1)+1) (m:=6) ⋯
 rw[R1]at h2;unfold LCd;omega
def RV{zs ds}(hz:zs.length<=4)(hp:ds[p]?=some (-1))(h:ds.count (-1)<=5):L2.vY (yu bd zs ds p)=true:=by
 unfold L2.vY yu;rw[zI,AM,decide_eq_true ⋯,Cy,AH]
 intro x hx;obtain⟨k,_,rfl⟩:=Aq.mp hx;have h0:=xu (h:=k) hp;have:=b6 (bd:=bd) (ds:=putL ds p (k:Int)) hz ⋯
 rw[decide_eq_true ⋯,decide_eq_true ⋯];rfl
def jq{zs ds}{p h:Nat}(hh:h<zs.length)(hp:ds[p]?=some (-1)):z7 zs (putL ds p (h:Int))=(z7 zs ds).filter λt=>decide (t[p]?=some (h:Int)):=by unfold z7;rw[vU (y8 hp),pV hh hp,Fh,Fh];congr 1;funext t;rw[Bool.and_comm]
def mQ{zs ds}(hp:ds[p]?=some (-1)):z7 zs ds=[]↔∀h,h<zs.length->z7 zs (putL ds p (h:Int))=[]:=by
 constructor
 . intro e h hh
   rw[jq hh hp,e];rfl
 . intro H
   refine Dy.mpr λt ht=>?_;have hc:=(AD.mp ht).1;obtain⟨h,hh,e⟩:=((w8 hc).2 p).1 hp;have:t∈z7 zs (putL ds p (h:Int)):=by rw[jq hh hp];exact AD.mpr ⟨ht,decide_eq_true e⟩
   rw[H h hh]at this;cases this
noncomputable def lvs:Nat->Val->Int
 |0,_=>0
 |n+1,v=>match v with
  |.f [.j x,_,c]=>if x="row" then 1 else match c with|.f ps=>(ps.map (lvs n)).sum|_=>0
  |_=>0
def UW:Nat->Val->Prop
 |0,_=>False
 |n+1,v=>(∃f d,v=.f [.j "row",f,d])\/∃p ps,v=.f [.j "cases",p,.f ps]/\(∀q∈ps,UW n q)/\L2.vY (ps.map (lvs n))=true
structure l0(bd:Bool)(zs ds:List Int)(c:Int)(v:Val):Prop where
 a:Dt (ds.count (-1)+1) v
 b:zu zs (ds.count (-1)+1) ds v=true
 lv:bd=false->UW (ds.count (-1)+1) v/\lvs (ds.count (-1)+1) v=c
def vw(bd:Bool)(zs ds:List Int)(v:Val):Prop:=(v=.g/\z7 zs ds≠[])\/∃c v',v=.f [.c c,v']/\z7 zs ds=[]/\c=LCd bd zs ds/\l0 bd zs ds c v'
def vw.nr{zs ds}(h:vw bd zs ds v):v.noRef=true:=by
 rcases h with⟨rfl,_⟩|⟨c,v',rfl,_,_,g⟩
 . exact yy
 . rw[vm,xg,xg,uS,yg,qP g.a.isD];rfl
def KnP(bd:Bool)(zs:List Int)(kvs:List (List Int × Val)):Prop:=∀p∈kvs,vw bd zs p.1 p.2
theorem KnP.nr(h:KnP bd zs kvs):(Cel.d kvs).noRef=true:=by
 show zy (kvs.map (·.2))=true
 exact jA λv hv=>by obtain⟨p,hp,rfl⟩:=Aq.mp hv;exact(h p hp).nr
noncomputable def BB:Nat->Nat
 |0=>1
 |n+1=>1+(n+1)*(3*BB n)
def j4:∀n,1<=BB n
 |0=>Ac _
 |n+1=>by show 1<=1+_;omega
def WP(bd:Bool)(zs:List Int)(d b:Nat)(s s':Sto):Prop:=∃kvs,s'=s.set d (.d kvs)/\KnP bd zs kvs/\kvs.length<=b
def XW{zs ds}(hz:Sz zs)(h:(zl zs ds).isEmpty=false):∃f d k,v9 zs ds=.f [.c (f:Nat),.c (d:Nat)]/\k<zs.length/\0<d/\f+d*(zM zs k-1)<ds.length/\su ds f d (zM zs k) k=true:=by
 rcases tj zs ds with⟨_,e⟩|⟨z,l,e1,e2⟩
 . have:=vP (zs:=zs) (ns:=ds)
   rw[e,h]at this;cases this
 . have hm:z∈(zl zs ds).map toI:=(yv ((zl zs ds).map toI)).mem_iff.mp (by rw[e1];exact .head _)
   obtain⟨⟨f,d⟩,hw,rfl⟩:=Aq.mp hm;unfold zl at hw;obtain⟨k,hk,hr⟩:=Bb.mp hw;have hk:=Ag.mp hk;obtain⟨h1,h2⟩:=AD.mp hr;obtain⟨_,z2,_⟩:=z0 hz hk;obtain⟨h3,h4⟩:=(xf z2).mp h1;exact⟨f,d,k,e2,hk,h3,h4,h2⟩
def jw{S:Sto}(h:S.length=n):(S++[a,b])[n]?=some a:=by subst h;rw[AR (Ac _),Cv];rfl
def jx{S:Sto}(h:S.length=n):(S++[a,b])[n+1]?=some b:=by subst h;rw[AR ⋯,show S.length+1-S.length=1 by omega];rfl
def XM{S:Sto}(h:S.length=n):(S++[a,b]).set n c=S++[c,b]:=by subst h;rw[EH _ _ (Ac _),Cv];rfl
def XN{S:Sto}(h:S.length=n):(S++[a,b]).set (n+1) c=S++[a,c]:=by subst h;rw[EH _ _ ⋯,show S.length+1-S.length=1 by omega];rfl
def Zt(h:ns≠[]):L2.xB 0 (ns++[x])=if x<L2.xB 0 ns then x else L2.xB 0 ns:=by
 obtain⟨h1,h2⟩:=L2.wq (d:=0) h;by_cases q:x<L2.xB 0 ns
 . rw[if_pos q]
   refine L2.rM (AU _ (.head _)) λy hy=>?_;rcases AO.mp hy with hy|hy
   . have:=h2 y hy;omega
   . rw[Ao.mp hy];exact BJ _
 . rw[if_neg q]
   refine L2.rM (Bs _ h1) λy hy=>?_;rcases AO.mp hy with hy|hy
   . exact h2 y hy
   . rw[Ao.mp hy];omega
section
variable {T:Tbl}{Φ:Calls}{s:Sto}
def bj(Φ:Calls):Prop:=∀(bd:Bool) (s:Sto),Φ "cost_of_row" 0 [.e bd] s=.e (.c (if bd then 0 else 1)) s
def bF:run T Φ F34.xR [.e bd] s=.e (.c (if bd then 0 else 1)) s:=by
 rw[post_eq,F34.xR,zw];refine⟨rfl,?_⟩;show (zj Φ T.b [some (.e bd)] _ s).post _;have tv:=zN (Φ:=Φ) (G:=T.b) (env:=[some (.e bd)]) (s:=s) (e:=.e 0) (zB rfl) zF;cases bd with
 |true=>exact zk (vd tv zE) (by show (zU false s _ s).post _;rw[zL yg];exact zC.mpr ⟨rfl,rfl⟩)
 |false=>exact zk (vb tv zE) (by show (zU false s _ s).post _;rw[zL yg];exact zC.mpr ⟨rfl,rfl⟩)
def Zr(h:z8 s x=some (ws.map .c))(hne:ws≠[]):blt .i false [x] s=.e (.c (L2.yc 0 ws)) s:=by
 have key:(match z8 s x with|some vs=>(match M.intsOf vs with|some ns=>if ns≠[] then Out.e (Val.c (L2.yc 0 ns)) s else .d|dS=>.d)|dS=>.d)=Out.e (Val.c (L2.yc 0 ws)) s:=by
  rw[h];show (match M.intsOf (ws.map .c) with|some ns=>if ns≠[] then Out.e (Val.c (L2.yc 0 ns)) s else .d|dS=>.d)=_
  rw[uo];exact if_pos hne
 cases x with
 |f vs=>cases h
 |_=>exact key
def Y9(h:z8 s x=some (ws.map .c))(hs:L2.vY ws=true):blt .l false [x] s=.e (.c ws.sum) s:=by
 show (match z8 s x with|some vs=>(match M.intsOf vs with|some ns=>if L2.vY ns then Out.e (Val.c ns.sum) s else .d|dS=>.d)|dS=>.d)=_
 rw[h];show (match M.intsOf (ws.map .c) with|some ns=>if L2.vY ns then Out.e (Val.c ns.sum) s else .d|dS=>.d)=_
 rw[uo];show (if L2.vY ws then Out.e (Val.c ws.sum) s else .d)=_
 rw[hs];rfl
def fD(h:s[i]?=some (.c vs))(hl:vs.length<zX):yf .a (.h i) [v] s=.e .g (upd s i (vs++[v])):=by simp only[yf,h];rw[if_pos hl]
def f6(h:s[i]?=some (.c vs)):z8 s (.h i)=some vs:=by
 show (match s[i]? with|some (.c vs)=>some vs|_=>none)=_
 rw[h]
def bh(Φ:Calls):Prop:=∀(i:Nat) (ws:List Int) (bd:Bool) (s:Sto),s[i]?=some (.c (ws.map .c))->ws≠[]->L2.vY ws=true->Φ "cost_of_cases" 0 [.h i,.e bd] s=.e (.c (yS bd ws)) s
def bE(hi:s[i]?=some (.c (ws.map .c)))(hne:ws≠[])(hs:L2.vY ws=true):run T Φ F34.yh [.h i,.e bd] s=.e (.c (yS bd ws)) s:=by
 rw[post_eq,F34.yh,zw];refine⟨rfl,?_⟩;show (zj Φ T.b [some (.h i),some (.e bd)] _ s).post _;have tv:=zN (Φ:=Φ) (G:=T.b) (env:=[some (.h i),some (.e bd)]) (s:=s) (e:=.e 1) (zB rfl) zF;cases bd with
 |true=>exact zk (vd tv (yH zE (zo (zA (zB rfl) zD) (Zr (f6 hi) hne)) r0)) (by show (zU false s _ s).post _;rw[zL yg];exact zC.mpr ⟨rfl,rfl⟩)
 |false=>exact zk (vb tv (zo (zA (zB rfl) zD) (Y9 (f6 hi) hs))) (by show (zU false s _ s).post _;rw[zL yg];exact zC.mpr ⟨rfl,rfl⟩)
def mZ(bd:Bool)(n:Nat)(Φ:Calls):Prop:=∀(zs ds:List Int) (d:Nat) (kvs:List (List Int × Val)) (s:Sto),Sz zs->zs.length<=3->Dr zs ds->ds.count (-1)<=n->s[d]?=some (.d kvs)->KnP bd zs kvs->kvs.length+BB n<=zX->(Φ "least_pair" 0 [tpI zs,tpI ds,.e bd,.l d] s).post λv s'=>vw bd zs ds v/\WP bd zs d (kvs.length+BB n) s s'
def mY(bd:Bool)(n:Nat)(Φ:Calls):Prop:=∀(zs ds:List Int) (d:Nat) (kvs:List (List Int × Val)) (s:Sto),Sz zs->zs.length<=3->Dr zs ds->ds.count (-1)<=n->s[d]?=some (.d kvs)->KnP bd zs kvs->kvs.length+BB n<=zX->(Φ "found_pair" 0 [tpI zs,tpI ds,.e bd,.l d] s).post λv s'=>vw bd zs ds v/\WP bd zs d (kvs.length+BB n-1) s s'
def lz(bd:Bool)(zs ds:List Int)(p:Nat)(v:Val):Prop:=(v=.g/\z7 zs ds≠[])\/∃v',v=.f [.c (yS bd (yu bd zs ds p)),v']/\z7 zs ds=[]/\l0 bd zs ds (yS bd (yu bd zs ds p)) v'
def lz.nr{zs ds}(h:lz bd zs ds p v):v.noRef=true:=by
 rcases h with⟨rfl,_⟩|⟨v',rfl,_,g⟩
 . exact yy
 . rw[vm,xg,xg,uS,yg,qP g.a.isD];rfl
def fA(bd:Bool)(n:Nat)(Φ:Calls):Prop:=∀(zs ds:List Int) (p d:Nat) (kvs:List (List Int × Val)) (s:Sto),Sz zs->zs.length<=3->Dr zs ds->ds[p]?=some (-1)->ds.count (-1)<=n+1->n<=4->s[d]?=some (.d kvs)->KnP bd zs kvs->kvs.length+3*BB n<=zX->(Φ "pair_at" 0 [tpI zs,tpI ds,.c p,.e bd,.l d] s).post λv s'=>lz bd zs ds p v/\WP bd zs d (kvs.length+3*BB n) s s'
def oN(cF:mY bd n Φ){zs ds}(hz:Sz zs)(hz3:zs.length<=3)(hD:Dr zs ds)(hn:ds.count (-1)<=n)(hd:s[d]?=some (.d kvs))(hk:KnP bd zs kvs)(hl:kvs.length+BB n<=zX):(run T Φ F34.xH [tpI zs,tpI ds,.e bd,.l d] s).post λv s'=>vw bd zs ds v/\WP bd zs d (kvs.length+BB n) s s':=by
 have hdl:=(Ad.mp hd).1;have hA:=j4 n;rw[F34.xH,zw];refine⟨rfl,?_⟩;show (zj Φ T.b [some (tpI zs),some (tpI ds),some (.e bd),some (.l d)] _ s).post _;refine P9 (J:=λe s'=>e=[some (tpI zs),some (tpI ds),some (.e bd),some (.l d)]/\∃kvs',s'=s.set d (.d kvs')/\KnP bd zs kvs'/\kvs'.length<=kvs.length+BB n/\(vD kvs' ds).isSome=true) (zN (zZ (zB rfl) (zB rfl) (SI hd)) zF) (λhN=>?_) (λhN=>?_) ?_
 . refine Sq (xM (zA (zB rfl) (zA (zB rfl) (zA (zB rfl) (zA (zB rfl) zD)))) (zQ (cF zs ds d kvs s hz hz3 hD hn hd hk hl) ?_))
   rintro v s1 ⟨hv,kvs1,rfl,hk1,hl1⟩;refine⟨_,_,_,zB rfl,zB rfl,Ow (AE hdl) ⋯,yq ⟨_,rfl,rfl,_,by rw[Gd],aT (P:=λk v=>vw bd zs k v) hk1 hv,?_,?_⟩⟩
   . have:=aU (k:=ds) (v:=v) (kvs:=kvs1);omega
   . rw[aS];rfl
 . refine⟨rfl,kvs,?_,hk,⋯,?_⟩
   . obtain⟨h1,h2⟩:=Ad.mp hd
     rw[<-h2,EI]
   . cases q:(vD kvs ds).isSome with
     |true=>rfl
     |false=>rw[q]at hN;cases hN
 . rintro e s' ⟨rfl,kvs',rfl,hk',hl',hs'⟩
   obtain⟨v,hv⟩:=FU.mp hs';have ev:vw bd zs ds v:=hk' _ (kK hv);refine zk (OQ (zB rfl) (zB rfl) (ixT (AE hdl) hv)) ?_;show (zU false s v _).post _;rw[uu ev.nr hk'.nr];exact zC.mpr ⟨ev,kvs',rfl,hk',hl'⟩
def gO(gC:T.b "CASES"=some (.j "cases"))(cL:mZ bd n Φ)(cW:uc Φ)(cC:bh Φ){zs ds}{p d:Nat}(hz:Sz zs)(hz3:zs.length<=3)(hD:Dr zs ds)(hp:ds[p]?=some (-1))(hn:ds.count (-1)<=n+1)(hn4:n<=4)(hd:s[d]?=some (.d kvs))(hk:KnP bd zs kvs)(hl:kvs.length+3*BB n<=zX):(run T Φ F34.vK [tpI zs,tpI ds,.c p,.e bd,.l d] s).post λv s'=>lz bd zs ds p v/\WP bd zs d (kvs.length+3*BB n) s s':=by
 have hdl:=(Ad.mp hd).1;have hpl:=y8 hp;have hA:=j4 n;have hd32:=hD.1;have hz1:=hz.1;have hLL:zX=16777216:=rfl;have hlz:∀s,blt .a false [tpI zs] s=.e (.c zs.length) s:=λs=>by rw[xb,zI]
 have same:s=s.set d (.d kvs):=by obtain⟨h1,h2⟩:=Ad.mp hd;rw[<-h2,EI]
 have hnb:∃b,ds.count (-1)=b+1/\∀h:Nat,(putL ds p (h:Int)).count (-1)=b:=by have h0:=xu (h:=0) hp;exact⟨ds.count (-1)-1,⋯,λh=>by have:=xu (h:=h) hp;omega⟩
 obtain⟨b,hb,hbp⟩:=hnb;rw[F34.vK,zw];refine⟨rfl,?_⟩;show (zj Φ T.b [some (tpI zs),some (tpI ds),some (.c p),some (.e bd),some (.l d),none,none,none,none] _ s).post _;refine yd (XZ zD (A3 _)) (yd (XZ zD (A3 _)) ?_);rw[show (s++[Cel.c []]).length=s.length+1 by rw[Ak];rfl,Bc]
 show (zj Φ T.b [some (tpI zs),some (tpI ds),some (.c p),some (.e bd),some (.l d),some (.h s.length),some (.h (s.length+1)),none,none] _ (s++[.c [],.c []])).post _;refine zm.mpr (wA (λrest e s'=>(∃o7 o8,e=[some (tpI zs),some (tpI ds),some (.c p),some (.e bd),some (.l d),some (.h s.length),some (.h (s.length+1)),o7,o8])/\∃(h:Nat) (ps:List Val) (kvs1:List (List Int × Val)),h<=zs.length/\rest=yC h (zs.length-h)/\ps.length=h/\(∀q∈ps,Dt (b+1) q)/\xI (zu zs (b+1)) ds p 0 ps=true/\(∀i<h,z7 zs (putL ds p (i:Int))=[])/\(bd=false->(∀q∈ps,UW (b+1) q)/\ps.map (lvs (b+1))=(Al h).map λ(i:Nat)=>LCd bd zs (putL ds p (i:Int)))/\s'=s.set d (.d kvs1)++[.c (((Al h).map λ(i:Nat)=>LCd bd zs (putL ds p (i:Int))).map .c),.c ps]/\KnP bd zs kvs1/\kvs1.length<=kvs.length+h*BB n) (yC 0 zs.length) (s1:=s++[.c [],.c []]) (nu (zo (zA (zB rfl) zD) (hlz _)) ⋯) ⟨⟨_,_,rfl⟩,0,[],kvs,⋯,rfl,rfl,nofun,rfl,λi hi=>⋯,λ_=>⟨nofun,rfl⟩,by rw[<-same];rfl,hk,⋯⟩ ?_ ?_)
 . rintro x rest e s' ⟨⟨o7,o8,rfl⟩,h,ps,kvs1,hh,hr,hpsl,hps,hcv,hso,hlv,rfl,hk1,hl1⟩
   obtain⟨k,hkk,rfl,rfl⟩:=t6 hr;have hhz:h<zs.length:=by omega
   have hSl:(s.set d (.d kvs1)).length=s.length:=A6 ..;have hdl3:d<(s.set d (.d kvs1)).length:=by rw[hSl];exact hdl
   have hmul:(h+1)*BB n=h*BB n+BB n:=Dm _ _;have hmul2:(h+1)*BB n<=3*BB n:=BG _ ⋯
   refine⟨_,rfl,?_⟩;show (zj Φ T.b [some (tpI zs),some (tpI ds),some (.c p),some (.e bd),some (.l d),some (.h s.length),some (.h (s.length+1)),some (.c (h:Int)),o8] _ _).post _;refine tF (xM (zA (zB rfl) (zA (x_call (zA (zB rfl) (zA (zB rfl) (zA (zB rfl) zD))) (cW ds p (h:Int) _ hpl ⋯)) (zA (zB rfl) (zA (zB rfl) zD)))) (zQ (cL zs (putL ds p (h:Int)) d kvs1 _ hz hz3 (hD.put hpl hhz) (by rw[hbp];omega) (by rw[AJ hdl3];exact AE hdl) hk1 ⋯) ?_))
   rintro v s2 ⟨hv,kvs2,rfl,hk2,hl2⟩;rw[List.set_append_left _ _ hdl3,Gd];have hSl2:(s.set d (.d kvs2)).length=s.length:=A6 ..;rcases hv with⟨rfl,hv⟩|⟨c,v',rfl,v3,rfl,g⟩
   . refine xF (zN (zZ (zB rfl) zE rfl) zF) (zk zE ?_)
     show (zU false s .g _).post _;rw[sT yy hk2.nr];refine zC.mpr ⟨.inl ⟨rfl,λe=>hv ?_⟩,kvs2,rfl,hk2,⋯⟩
     exact(mQ hp).mp e h hhz
   . refine yN (zN (zZ (zB rfl) zE rfl) zF) ?_
     refine yb (ek (zB rfl) (zA (yR (zB rfl) zE (show wo (.f [.c (LCd bd zs (putL ds p (h:Int))),v']) (.c ((0:Nat):Int)) _=_ from x8 rfl)) zD) (fD (jw hSl2) (by rw[zI,zI,AM];omega))) ?_
     unfold upd;rw[XM hSl2];refine yb (ek (zB rfl) (zA (yR (zB rfl) zE (show wo (.f [.c (LCd bd zs (putL ds p (h:Int))),v']) (.c ((1:Nat):Int)) _=_ from x8 rfl)) zD) (fD (jx hSl2) ⋯)) ?_
     unfold upd;rw[XN hSl2];have gd:=g.a;have gs:=g.b;have gl:=g.lv;rw[hbp h]at gd gs gl;refine yq ⟨⟨_,_,rfl⟩,h+1,ps++[v'],kvs2,⋯,by congr 1<;>omega,by rw[Ak,hpsl];rfl,λq hq=>?_,?_,λi hi=>?_,λe=>⟨λq hq=>?_,?_⟩,?_,hk2,⋯⟩
     . rcases AO.mp hq with hq|hq
       . exact hps q hq
       . rw[Ao.mp hq];exact gd
     . rw[uf,hcv,Dn,hpsl,gs];rfl
     . by_cases e:i=h
       . subst e;exact v3
       . exact hso i ⋯
     . rcases AO.mp hq with hq|hq
       . exact(hlv e).1 q hq
       . rw[Ao.mp hq];exact(gl e).1
     . rw[Bj,(hlv e).2,Dx,Bj]
       show _++[lvs (b+1) v']=_;rw[(gl e).2];rfl
     . rw[Dx,Bj,Bj];rfl
 . rintro e s' ⟨⟨o7,o8,rfl⟩,h,ps,kvs1,hh,hr,hpsl,hps,hcv,hso,hlv,rfl,hk1,hl1⟩
   have:=pG hr;obtain rfl:h=zs.length:=by omega
   have hSl:(s.set d (.d kvs1)).length=s.length:=A6 ..;have hmul2:zs.length*BB n<=3*BB n:=BG _ hz3;have ht:blt .b false [.h (s.length+1)] (s.set d (.d kvs1)++[.c (((Al zs.length).map λ(i:Nat)=>LCd bd zs (putL ds p (i:Int))).map .c),.c ps])=.e (.f ps) (s.set d (.d kvs1)++[.c (((Al zs.length).map λ(i:Nat)=>LCd bd zs (putL ds p (i:Int))).map .c),.c ps]):=by simp only[blt,z8,jx hSl]
   have hne:yu bd zs ds p≠[]:=by intro e;have:=congrArg Cq e;unfold yu at this;rw[zI,AM,BE]at this;omega
   have hsk:=RV (bd:=bd) (zs:=zs) ⋯ hp (show ds.count (-1)<=5 by omega)
   have hsol:z7 zs ds=[]:=(mQ hp).mpr λi hi=>hso i hi;have e1:ds[p]=-1:=by rw[pn hpl]at hp;exact Am hp
   have gg:l0 bd zs ds (yS bd (yu bd zs ds p)) (.f [.j "cases",.c (p:Int),.f ps]):=by
    refine⟨by rw[hb];exact kC hps,?_,λe=>?_⟩
    . rw[hb,gR,show isStr "row" (.j "cases")=false by decide +kernel,if_neg Aa,show isStr "cases" (.j "cases")=true by decide +kernel,Cy,nc hpl,decide_eq_true e1,decide_eq_true ⋯,hcv];rfl
    . obtain⟨l1,l2⟩:=hlv e
      refine⟨?_,?_⟩
      . rw[hb]
        exact .inr ⟨_,_,rfl,l1,by rw[l2];exact hsk⟩
      . rw[hb]
        show (if ("cases":Str)="row" then 1 else (ps.map (lvs (b+1))).sum)=_
        rw[if_neg (by decide +kernel),l2,e];rfl
   refine zk (vH (zA (x_call (zA (zB rfl) (zA (zB rfl) zD)) (cC s.length (yu bd zs ds p) bd _ (jw hSl) hne hsk)) (zA (vH (zA (ub gC) (zA (zB rfl) (zA (zo (zA (zB rfl) zD) ht) zD))) (by show 3<=zX;omega)) zD)) (by show 2<=zX;omega)) ?_
   show (zU false s _ _).post _;have hA':lz bd zs ds p (.f [.c (yS bd (yu bd zs ds p)),.f [.j "cases",.c (p:Int),.f ps]]):=.inr ⟨_,rfl,hsol,gg⟩;rw[sT hA'.nr hk1.nr];exact zC.mpr ⟨hA',kvs1,rfl,hk1,⋯⟩
def oM(hn5:n<=5)(cR:rj Φ)(cP:fB Φ)(cC:bj Φ)(cB:tL Φ)(cA:∀m,n=m+1->fA bd m Φ){zs ds}(hz:Sz zs)(hz3:zs.length<=3)(hD:Dr zs ds)(hn:ds.count (-1)<=n)(hd:s[d]?=some (.d kvs))(hk:KnP bd zs kvs)(hl:kvs.length+BB n<=zX):(run T Φ F34.xG [tpI zs,tpI ds,.e bd,.l d] s).post λv s'=>vw bd zs ds v/\WP bd zs d (kvs.length+BB n-1) s s':=by
 have hdl:=(Ad.mp hd).1;have hA:=j4 n;have hd32:=hD.1;have hLL:zX=16777216:=rfl;have same:s=s.set d (.d kvs):=by obtain⟨h1,h2⟩:=Ad.mp hd;rw[<-h2,EI]
 rw[F34.xG,zw];refine⟨rfl,?_⟩;show (zj Φ T.b [some (tpI zs),some (tpI ds),some (.e bd),some (.l d),none,none,none,none] _ s).post _;refine yd (x_call (zA (zB rfl) (zA (zB rfl) zD)) (cR zs ds s hz (λx hx=>(hD.2 x hx).2) ⋯)) ?_
 cases hw:(zl zs ds).isEmpty with
 |false=>
  obtain⟨f,e,k,hf,hk',he,hle,ha⟩:=XW hz hw;rw[hf];have pO:=oG (n:=ds.count (-1)) hz hk' he hle ha;rcases pO with⟨q,_⟩|⟨_,p2,p3,p4⟩
  . cases q
  have hv:vw bd zs ds (.f [.c (if bd then 0 else 1),.f [.j "row",.c (f:Int),.c (e:Int)]]):=by
   refine .inr ⟨_,_,rfl,p3,(vM hw).symm,⟨p2,p4,λhbd=>⟨.inl ⟨_,_,rfl⟩,?_⟩⟩⟩;show (if ("row":Str)="row" then (1:Int) else 0)=_
   rw[if_pos rfl,hbd];rfl
  refine xF (zN (zZ (zB rfl) zE rfl) zF) (zk (vH (zA (x_call (zA (zB rfl) zD) (cC bd s)) (zA (x_call (zA (zB rfl) zD) (cP _ _ s)) zD)) (by show 2<=zX;omega)) ?_)
  show (zU false s _ s).post _;rw[zL hv.nr];exact zC.mpr ⟨hv,kvs,same,hk,⋯⟩
 |true=>
  have hfw:v9 zs ds=.g:=by
   have h1:=vP (zs:=zs) (ns:=ds);rw[hw]at h1;cases q:v9 zs ds with
   |g=>rfl
   |_=>rw[q]at h1;cases h1
  rw[hfw];have hF:=(yX hz).mp hw;have hlc:=si (bd:=bd) hw;have hbn:=sL ds 0;refine yN (zN (zZ (zB rfl) zE rfl) zF) (yd zE ?_);show (zj Φ T.b [some (tpI zs),some (tpI ds),some (.e bd),some (.l d),some .g,some .g,none,none] _ s).post _;refine zm.mpr (wA (λrest e s'=>∃done todo o6 o7 bv kvs1,done++todo=yO 0 ds/\rest=todo.map (λ(p:Nat)=>Val.c p)/\e=[some (tpI zs),some (tpI ds),some (.e bd),some (.l d),some .g,some bv,o6,o7]/\(done=[]/\bv=.g\/done≠[]/\z7 zs ds=[]/\∃v',bv=.f [.c (L2.xB 0 (done.map λp=>yS bd (yu bd zs ds p))),v']/\l0 bd zs ds (L2.xB 0 (done.map λp=>yS bd (yu bd zs ds p))) v')/\s'=s.set d (.d kvs1)/\KnP bd zs kvs1/\kvs1.length<=kvs.length+done.length*(3*BB (n-1))) ((yO 0 ds).map λ(p:Nat)=>Val.c p) (s1:=s) (vk (x_call (zA (zB rfl) zD) (cB ds s)) rfl) ⟨[],yO 0 ds,_,_,_,kvs,rfl,rfl,rfl,.inl ⟨rfl,rfl⟩,same,hk,by rw[BE,DL];exact Ac _⟩ ?_ ?_)
  . rintro x rest e s' ⟨done,todo,o6,o7,bv,kvs1,hdt,hr,rfl,hbest,rfl,hk1,hl1⟩
    cases todo with
    |nil=>cases hr
    |cons p todo=>
     rw[Aw]at hr;obtain⟨rfl,rfl⟩:=List.cons.inj hr;have hp:ds[p]?=some (-1):=ux (by rw[<-hdt];exact AU _ (.head _))
     have hdl2:done.length+1<=n:=by have:=congrArg Cq hdt;rw[Ak,An,hbn]at this;omega
     obtain⟨m,rfl⟩:∃m,n=m+1:=⟨n-1,⋯⟩
     have eB:BB (m+1)=1+(m+1)*(3*BB m):=rfl;rw[Ff]at hl1 ⊢;have hmul:(done.length+1)*(3*BB m)=done.length*(3*BB m)+3*BB m:=Dm _ _;have hmul2:(done.length+1)*(3*BB m)<=(m+1)*(3*BB m):=BG _ hdl2;refine⟨_,rfl,?_⟩;show (zj Φ T.b [some (tpI zs),some (tpI ds),some (.e bd),some (.l d),some .g,some bv,some (.c (p:Int)),o7] _ _).post _;refine tF (xM (zA (zB rfl) (zA (zB rfl) (zA (zB rfl) (zA (zB rfl) (zA (zB rfl) zD))))) (zQ (cA m rfl zs ds p d kvs1 _ hz hz3 hD hp hn ⋯ (AE hdl) hk1 ⋯) ?_))
     rintro v s2 ⟨hv,kvs2,rfl,hk2,hl2⟩;rw[Gd];rcases hv with⟨rfl,hv⟩|⟨v',rfl,v3,g⟩
     . refine xF (zN (zZ (zB rfl) zE rfl) zF) (zk zE ?_)
       show (zU false s .g _).post _;rw[uu yy hk2.nr];exact zC.mpr ⟨.inl ⟨rfl,hv⟩,kvs2,rfl,hk2,⋯⟩
     . refine yN (zN (zZ (zB rfl) zE rfl) zF) ?_
       show (zj Φ T.b [some (tpI zs),some (tpI ds),some (.e bd),some (.l d),some .g,some bv,some (.c (p:Int)),some (.f [.c (yS bd (yu bd zs ds p)),v'])] _ (s.set d (.d kvs2))).post _;have next:∀(c:Int) (w:Val),c=L2.xB 0 ((done++[p]).map λp=>yS bd (yu bd zs ds p))->l0 bd zs ds c w->∃done' todo' o6 o7 bv' kvs',done'++todo'=yO 0 ds/\todo.map (λ(p:Nat)=>Val.c p)=todo'.map (λ(p:Nat)=>Val.c p)/\[some (tpI zs),some (tpI ds),some (.e bd),some (.l d),some .g,some (.f [.c c,w]),some (.c (p:Int)),some (.f [.c (yS bd (yu bd zs ds p)),v'])]=[some (tpI zs),some (tpI ds),some (.e bd),some (.l d),some .g,some bv',o6,o7]/\(done'=[]/\bv'=.g\/done'≠[]/\z7 zs ds=[]/\∃v',bv'=.f [.c (L2.xB 0 (done'.map λp=>yS bd (yu bd zs ds p))),v']/\l0 bd zs ds (L2.xB 0 (done'.map λp=>yS bd (yu bd zs ds p))) v')/\s.set d (.d kvs2)=s.set d (.d kvs')/\KnP bd zs kvs'/\kvs'.length<=kvs.length+done'.length*(3*BB m):=λc w hc hg=>by
        refine⟨done++[p],todo,_,_,_,kvs2,by rw[Bc];exact hdt,rfl,rfl,.inr ⟨by simp,v3,w,by rw[hc],by rw[<-hc];exact hg⟩,rfl,hk2,?_⟩
        rw[Ak,Bg,hmul];omega
       have ic:∀s,wo (.f [.c (yS bd (yu bd zs ds p)),v']) (.c 0) s=.e (.c (yS bd (yu bd zs ds p))) s:=λs=>x8 (k:=0) rfl;rcases hbest with⟨rfl,rfl⟩|⟨hne,_,w,rfl,gw⟩
       . refine xF (eU (zN (zZ (zB rfl) zE rfl) zF)) (yd (zB rfl) (yq (yq (next (yS bd (yu bd zs ds p)) v' rfl g))))
       . have iw:∀s,wo (.f [.c (L2.xB 0 (done.map λp=>yS bd (yu bd zs ds p))),w]) (.c 0) s=.e (.c (L2.xB 0 (done.map λp=>yS bd (yu bd zs ds p)))) s:=λs=>x8 (k:=0) rfl
         have ms:=Zt (ns:=done.map λp=>yS bd (yu bd zs ds p)) (x:=yS bd (yu bd zs ds p)) (by simpa using hne)
         have em:(done++[p]).map (λp=>yS bd (yu bd zs ds p))=(done.map λp=>yS bd (yu bd zs ds p))++[yS bd (yu bd zs ds p)]:=by rw[Bj];rfl
         rw[em,ms]at next
         by_cases q:yS bd (yu bd zs ds p)<L2.xB 0 (done.map λp=>yS bd (yu bd zs ds p))
         . rw[if_pos q]at next
           exact xF (qw (zN (zZ (zB rfl) zE rfl) zF) (tH (zN (zZ (yR (zB rfl) zE (ic _)) (yR (zB rfl) zE (iw _)) (by rw[lt_int,decide_eq_true q])) zF))) (yd (zB rfl) (yq (yq (next _ v' rfl g))))
         . rw[if_neg q]at next
           exact yN (qw (zN (zZ (zB rfl) zE rfl) zF) (w4 (zN (zZ (yR (zB rfl) zE (ic _)) (yR (zB rfl) zE (iw _)) (by rw[lt_int,decide_eq_false q])) zF) se)) (yq (next _ w rfl gw))
  . rintro e s' ⟨done,todo,o6,o7,bv,kvs1,hdt,hr,rfl,hbest,rfl,hk1,hl1⟩
    cases todo with
    |cons p todo=>cases hr
    |nil=>
     rw[Ba]at hdt;subst hdt;have hlb:kvs1.length<=kvs.length+BB n-1:=by
      cases n with
      |zero=>rw[show (yO 0 ds).length=0 by omega,DL]at hl1;omega
      |succ m=>
       have eB:BB (m+1)=1+(m+1)*(3*BB m):=rfl;rw[Ff]at hl1;have hmul:(yO 0 ds).length*(3*BB m)<=(m+1)*(3*BB m):=BG _ ⋯
       omega
     have hv:vw bd zs ds bv:=by
      rcases hbest with⟨e,rfl⟩|⟨hne,hs,w,rfl,gw⟩
      . refine .inl ⟨rfl,?_⟩
        have hB:=mw ds;rw[e]at hB;rw[qS hz hF hB];exact nofun
      . rw[<-hlc]at gw ⊢
        exact .inr ⟨_,w,rfl,hs,rfl,gw⟩
     refine zk (zB rfl) ?_;show (zU false s bv _).post _;rw[uu hv.nr hk1.nr];exact zC.mpr ⟨hv,kvs1,rfl,hk1,hlb⟩
end
end M
end
section
namespace M
open PySem
def Y3{S:Sto}:(S++[c]).set S.length c'=S++[c']:=by rw[EH _ _ (Ac _),Cv];rfl
def ZM{c:Cel}:(S++[c])[S.length]?=some c:=by rw[AR (Ac _),Cv];rfl
end M
end
section
namespace M
open PySem
def u5(bd:Bool)(zs ds:List Int):Val:=if (z7 zs ds).isEmpty then .c (LCd bd zs ds) else .g
structure DrO(zs ds:List Int):Prop where
 b:Sz zs
 d:zs.length<=3
 c:Dr zs ds
 a:ds.count (-1)<=5
 wa:wM zs ds<=32
def BB5:BB 5=40696:=by decide
section
variable {T:Tbl}{Φ:Calls}{s:Sto}
def Vu(b:Nat)(Φ:Calls):Prop:=∀(zs ds:List Int) (s:Sto),Sz zs->Dr zs ds->wM zs ds<=b->Φ "need_few_ways" 0 [tpI zs,tpI ds,.c (b:Int)] s=.e .g s
def Yn(cN:wX Φ)(cW:b4 Φ){zs ds}(hz:Sz zs)(hd:Dr zs ds)(hw:wM zs ds<=b):run T Φ F28.z6 [tpI zs,tpI ds,.c (b:Int)] s=.e .g s:=by
 rw[post_eq,F28.z6,zw];refine⟨rfl,?_⟩;show (zj Φ T.b [some (tpI zs),some (tpI ds),some (.c (b:Int)),none] _ s).post _;refine yb (x_call (zA (zB rfl) (zA (zB rfl) zD)) (cN zs ds s hz hd)) (yd (x_call (zA (zB rfl) (zA (zB rfl) zD)) (cW zs ds s hz)) (yN (zN (zZ (zB rfl) (zB rfl) gt_int) (by rw[zF,decide_eq_false ⋯])) (yq ?_)))
 show (zU false s _ s).post _;rw[zL yy];exact zC.mpr ⟨rfl,rfl⟩
def sg(bd:Bool)(Φ:Calls):Prop:=∀(zs ds:List Int) (s:Sto),DrO zs ds->(Φ "least_pair_of" 0 [tpI zs,tpI ds,.e bd] s).post λv s'=>s'=s/\vw bd zs ds v
def jk(g:T.b "MOST_WAYS_OF_LEAST"=some (.c 32))(cF:Vu 32 Φ)(cL:mZ bd 5 Φ){zs ds}(h:DrO zs ds):(run T Φ F34.yk [tpI zs,tpI ds,.e bd] s).post λv s'=>s'=s/\vw bd zs ds v:=by
 have b5:=BB5;have hLL:zX=16777216:=rfl;rw[F34.yk,zw];refine⟨rfl,?_⟩;show (zj Φ T.b [some (tpI zs),some (tpI ds),some (.e bd)] _ s).post _;refine yb (x_call (zA (zB rfl) (zA (zB rfl) (zA (ub g) zD))) (cF zs ds s h.b h.c h.wa)) (zm.mpr (jH.mpr (xM (zA (zB rfl) (zA (zB rfl) (zA (zB rfl) (zA rfl zD)))) (zQ (cL zs ds s.length [] (s++[.d []]) h.b h.d h.c h.a ZM nofun (by show 0+BB 5<=zX;omega)) ?_))))
 rintro v s' ⟨hv,kvs,rfl,_,_⟩;show (zU false s v _).post _;rw[Y3,p6 hv.nr];exact zC.mpr ⟨rfl,hv⟩
def g9(f:Str)(bd:Bool)(Φ:Calls):Prop:=∀(zs ds:List Int) (s:Sto),DrO zs ds->Φ f 0 [tpI zs,tpI ds] s=.e (u5 bd zs ds) s
def Zy{zs ds}:(u5 bd zs ds).noRef=true:=by
 unfold u5;split
 . exact yg
 . exact yy
def gN(cL:sg false Φ){zs ds}(h:DrO zs ds):run T Φ F34.y7 [tpI zs,tpI ds] s=.e (u5 false zs ds) s:=by
 rw[post_eq,F34.y7,zw];refine⟨rfl,?_⟩;show (zj Φ T.b [some (tpI zs),some (tpI ds),none] _ s).post _;refine tF (xM (zA (zB rfl) (zA (zB rfl) (zA zE zD))) (zQ (cL zs ds s h) ?_));rintro v s' ⟨rfl,hv⟩;have fin':∀{v:Val},v=u5 false zs ds->(zU false s' v s').post λx t=>x=u5 false zs ds/\t=s':=λ{v} e=>by rw[zL (by rw[e];exact Zy),e];exact zC.mpr ⟨rfl,rfl⟩
 rcases hv with⟨rfl,hv⟩|⟨c,v',rfl,hs,rfl,_⟩
 . exact zk (vd (zN (zZ (zB rfl) zE rfl) zF) zE) (fin' (by unfold u5;rw[if_neg (by rw[AN];exact hv)]))
 . exact zk (vb (zN (zZ (zB rfl) zE rfl) zF) (yR (zB rfl) zE (x8 (k:=0) rfl))) (fin' (by unfold u5;rw[hs];rfl))
def bG(cL:sg true Φ){zs ds}(h:DrO zs ds):run T Φ F34.xT [tpI zs,tpI ds] s=.e (u5 true zs ds) s:=by
 rw[post_eq,F34.xT,zw];refine⟨rfl,?_⟩;show (zj Φ T.b [some (tpI zs),some (tpI ds),none] _ s).post _;refine tF (xM (zA (zB rfl) (zA (zB rfl) (zA zE zD))) (zQ (cL zs ds s h) ?_));rintro v s' ⟨rfl,hv⟩;have fin':∀{v:Val},v=u5 true zs ds->(zU false s' v s').post λx t=>x=u5 true zs ds/\t=s':=λ{v} e=>by rw[zL (by rw[e];exact Zy),e];exact zC.mpr ⟨rfl,rfl⟩
 rcases hv with⟨rfl,hv⟩|⟨c,v',rfl,hs,rfl,_⟩
 . exact zk (vd (zN (zZ (zB rfl) zE rfl) zF) zE) (fin' (by unfold u5;rw[if_neg (by rw[AN];exact hv)]))
 . exact zk (vb (zN (zZ (zB rfl) zE rfl) zF) (yR (zB rfl) zE (x8 (k:=0) rfl))) (fin' (by unfold u5;rw[hs];rfl))
def ShP(zs ds:List Int)(v:Val):Prop:=(v=.g/\z7 zs ds≠[])\/(z7 zs ds=[]/\v.isN=false/\l0 false zs ds (LCd false zs ds) v)
def b3(Φ:Calls):Prop:=∀(zs ds:List Int) (s:Sto),DrO zs ds->(Φ "short_paper" 0 [tpI zs,tpI ds] s).post λv s'=>s'=s/\ShP zs ds v
def bO(cL:sg false Φ){zs ds}(h:DrO zs ds):(run T Φ F34.xV [tpI zs,tpI ds] s).post λv s'=>s'=s/\ShP zs ds v:=by
 rw[F34.xV,zw];refine⟨rfl,?_⟩;show (zj Φ T.b [some (tpI zs),some (tpI ds),none] _ s).post _;refine tF (xM (zA (zB rfl) (zA (zB rfl) (zA zE zD))) (zQ (cL zs ds s h) ?_));rintro v s' ⟨rfl,hv⟩;rcases hv with⟨rfl,hv⟩|⟨c,v',rfl,hs,rfl,g⟩
 . refine zk (vd (zN (zZ (zB rfl) zE rfl) zF) zE) ?_
   show (zU false s' _ s').post _;rw[zL yy];exact zC.mpr ⟨rfl,.inl ⟨rfl,hv⟩⟩
 . refine zk (vb (zN (zZ (zB rfl) zE rfl) zF) (yR (zB rfl) zE (x8 (k:=1) rfl))) ?_
   show (zU false s' v' s').post _;rw[zL (qP g.a.isD)];refine zC.mpr ⟨rfl,.inr ⟨hs,?_,g⟩⟩;have:=g.b;cases v' with
   |g=>exact absurd this (by show ¬false=true;exact Aa)
   |_=>rfl
end
end M
end
section
namespace M
open PySem
section
variable {T:Tbl}{Φ:Calls}{s:Sto}
def Y4(hn:ns.length<41):uY false (tpI ns) none none (some (-1)) s=.e (tpI ns.reverse) s:=by
 have hc:∀n:Nat,n<41->(L2.xA n none none (-1)).2<=zX:=by
  have h:∀n:Nat,n<41->(L2.xA n none none (-1)).2<=41:=by decide +kernel
  intro n hn;exact AB (h n hn) (by decide)
 have e:uY false (tpI ns) none none (some (-1)) s=.e (.f (L2.yA (ns.map .c) (L2.xA ns.length none none (-1)).1 (-1) (L2.xA ns.length none none (-1)).2)) s:=by simp only[uY];rw[zI,if_pos ⟨by decide,hc _ hn⟩]
 rw[e,<-YO hn];show Out.e (Val.f _) s=.e (Val.f _) s;unfold L2.yA;rw[List.map_filterMap];simp only[AA]
end
end M
end
section
namespace M
open PySem
section
variable {T:Tbl}{Φ:Calls}{s:Sto}
def Vr(h1:evE Φ G env o s=.e x s1)(h2:xW Φ G env es s1=.e vs s2)(h3:yf f x vs s2=r):evE Φ G env (.D f m o es) s=r:=bnd h1 (bnd h2 h3)
end
end M
end
section
namespace M
open PySem
def Z1:yV ns f d z=true↔∀k<z,ns[f+k*d]?=ns[f]?:=by unfold yV;rw[AH];exact⟨λh k hk=>of_decide_eq_true (h k (Ag.mpr hk)),λh k hk=>decide_eq_true (h k (Ag.mp hk))⟩
end M
end
section
namespace F36
open PySem M
noncomputable def yF:Fn:=⟨["_law_sizes","_law_draft","_law_paper","_law_many","_law_deep","_law_limit","_law_turn"],["_law_sizes","_law_draft","_law_paper"],false,(.a (.n [3,4] (.a (.h "leaves" 0 (.a (.e 0) (.a (.e 1) (.a (.e 2) .b)))) (.a (.h "depth" 0 (.a (.e 0) (.a (.e 1) (.a (.e 2) .b)))) .b))) (.a (.g 5 (.g (.c 1))) (.a (.j (.a 6) (.c (.e 4)) (.a (.g 5 (.k false .b (.e 5) (.l .a false (.a (.e 0) .b)))) .b)) (.a (.f (.f (.a (.j .d (.e 3) (.e 5))) (.a (.d (.a (.j .d (.l .a false (.a (.e 0) .b)) (.g (.c 1)))) (.a (.a (.j .i (.e 3) (.e 4))) .b)) (.a (.d (.a (.j .c (.e 4) (.g (.c 0)))) (.a (.a (.h "clean" 0 (.a (.e 0) (.a (.e 1) .b)))) .b)) .b))) (.a (.d (.g (.e false))) .b) .b) (.a (.d (.u (.j .g (.e 4) (.D .b false (.e 1) (.a (.C (.g (.c 1))) .b))) (.a (.j .b (.h "is_paper" 0 (.a (.e 0) (.a (.e 1) (.a (.e 2) .b)))) (.g (.e true))) .b))) .b)))))⟩
noncomputable def tN:Fn:=⟨["sizes","draft","paper"],["sizes","draft","paper"],false,(.a (.h (.h "need_paper" 0 (.a (.e 0) (.a (.e 1) (.a (.e 2) .b))))) (.a (.d (.h "depth_within" 0 (.a (.e 2) .b))) .b))⟩
noncomputable def y3:Fn:=⟨["paper"],["paper"],false,(.a (.d (.B (.a (.j .c (.p (.e 0) (.g (.c 0))) (.z "ROW"))) (.g (.c 0)) (.k false .a (.g (.c 1)) (.l .i false (.a (.r false ["part"] [none] (.h "depth_within" 0 (.a (.e 0) .b)) (.a 0) (.f (.p (.e 0) (.g (.c 2)))) .b) .b))))) .b)⟩
noncomputable def vv:Fn:=⟨["sizes","draft","paper"],["sizes","draft","paper"],false,(.a (.h (.h "need_paper" 0 (.a (.e 0) (.a (.e 1) (.a (.e 2) .b))))) (.a (.d (.h "leaves_within" 0 (.a (.e 2) .b))) .b))⟩
noncomputable def yl:Fn:=⟨["paper"],["paper"],false,(.a (.d (.B (.a (.j .c (.p (.e 0) (.g (.c 0))) (.z "ROW"))) (.g (.c 1)) (.l .l false (.a (.r false ["part"] [none] (.h "leaves_within" 0 (.a (.e 0) .b)) (.a 0) (.f (.p (.e 0) (.g (.c 2)))) .b) .b)))) .b)⟩
noncomputable def xm:Fn:=⟨["sizes","draft","thing"],["sizes","draft","thing"],false,(.a (.f (.b (.a (.h "is_paper" 0 (.a (.e 0) (.a (.e 1) (.a (.e 2) .b)))))) (.a (.k (.h "NoPaper" 0 (.a (.g (.j "a paper for the draft is due")) .b))) .b) .b) .b)⟩
end F36
end
section
namespace M
open PySem
def dps:Nat->Val->Int
 |0,_=>0
 |n+1,v=>match v with
  |.f [.j x,_,c]=>if x="row" then 0 else match c with|.f ps=>1+L2.yc 0 (ps.map (dps n))|_=>0
  |_=>0
def eu:Nat->Val->Prop
 |0,_=>False
 |n+1,v=>(∃f d,v=.f [.j "row",f,d])\/∃p ps,v=.f [.j "cases",p,.f ps]/\ps≠[]/\(∀q∈ps,eu n q)/\L2.vY (ps.map (lvs n))=true
def tU:("cases":Str)≠"row":=by decide +kernel
def f7:lvs (n+1) (.f [.j "row",b,c])=1:=by
 show (if ("row":Str)="row" then (1:Int) else match c with|.f ps=>(ps.map (lvs n)).sum|_=>0)=1
 rw[if_pos rfl]
def fS:dps (n+1) (.f [.j "row",b,c])=0:=by
 show (if ("row":Str)="row" then (0:Int) else match c with|.f ps=>1+L2.yc 0 (ps.map (dps n))|_=>0)=0
 rw[if_pos rfl]
def mB:lvs (n+1) (.f [.j "cases",b,.f ps])=(ps.map (lvs n)).sum:=by
 show (if ("cases":Str)="row" then (1:Int) else (ps.map (lvs n)).sum)=_
 rw[if_neg tU]
def qE:dps (n+1) (.f [.j "cases",b,.f ps])=1+L2.yc 0 (ps.map (dps n)):=by
 show (if ("cases":Str)="row" then (0:Int) else 1+L2.yc 0 (ps.map (dps n)))=_
 rw[if_neg tU]
theorem nZ{ds}:∀{ps} {k},xI f ds p k ps=true->∀i q,ps[i]?=some q->f (putL ds p ((k+i:Nat):Int)) q=true
 |[],_,_,i,q,h=>by cases h
 |q0::ps,k,h,i,q,hi=>by
  have h:(f (putL ds p (k:Nat)) q0&&xI f ds p (k+1) ps)=true:=h;rw[nx]at h;cases i with
  |zero=>
   obtain rfl:q0=q:=Am hi;exact h.1
  |succ i=>
   have:=nZ h.2 i q hi
   rwa [show k+1+i=k+(i+1) by omega]at this
def kY(h:isStr w v=true):v=.j w:=by
 cases v with
 |j x=>rw[show x=w from of_decide_eq_true h]
 |_=>cases h
def Yh{zs ds}(hz:Sz zs)(hd:Df zs ds)(h:sZ zs ds b c=true):(zl zs ds).isEmpty=false:=by
 cases hw:(zl zs ds).isEmpty with
 |false=>rfl
 |true=>
  exfalso;have hF:=(yX hz).mp hw;cases b with
  |c f=>
   cases c with
   |c d=>
    have h:((decide (0<=f)&&decide (f<=(ds.length:Int)-1))&&(!decide (ds.getD f.toNat (-1)=-1)&&((decide (1<=d)&&decide (d<=((ds.length-1-f.toNat)/(zM zs (ds.getD f.toNat (-1)).toNat-1):Nat)))&&yV ds f.toNat d.toNat (zM zs (ds.getD f.toNat (-1)).toNat))))=true:=h;simp only[nx,decide_eq_true_eq,BO,decide_eq_false_iff_not]at h;obtain⟨⟨h1,h2⟩,h3,⟨h4,h5⟩,h6⟩:=h;have hf:f.toNat<ds.length:=by omega
    have e0:ds.getD f.toNat (-1)=ds[f.toNat]:=by rw[Ab,pn hf];rfl
    rw[e0]at h3 h5 h6;have hx:=hd.2 _ (BK hf);obtain⟨hu,hhu⟩:∃c:Nat,ds[f.toNat]=c:=⟨ds[f.toNat].toNat,⋯⟩
    rw[hhu,AL]at h5 h6;have hul:hu<zs.length:=by omega
    obtain⟨_,z2,_⟩:=z0 hz hul;have h7:d.toNat*(zM zs hu-1)<=ds.length-1-f.toNat:=by
     have:d.toNat<=(ds.length-1-f.toNat)/(zM zs hu-1):=by omega
     exact AB (BG _ this) (Nat.div_mul_le_self _ _)
    refine hF hu f.toNat d.toNat hul ⋯ ⋯ (yD.mpr λk hk=>?_)
    rw[Z1.mp h6 k hk,pn hf,hhu]
   |_=>cases h
  |_=>cases h
def bS{zs ds}(h:zu zs (n+1) ds v=true):(∃b c,v=.f [.j "row",b,c]/\sZ zs ds b c=true)\/∃(p:Nat) (ps:List Val),v=.f [.j "cases",.c (p:Nat),.f ps]/\ds[p]?=some (-1)/\ps.length=zs.length/\∀(i:Nat) q,ps[i]?=some q->zu zs n (putL ds p (i:Int)) q=true:=by
 by_cases hv:∃a b c,v=.f [a,b,c]
 . obtain⟨a,b,c,rfl⟩:=hv
   have h:(if isStr "row" a then sZ zs ds b c else isStr "cases" a&&vR zs (zu zs n) ds b c)=true:=h
   cases ha:isStr "row" a with
   |true=>
    rw[ha,if_pos rfl]at h;exact .inl ⟨b,c,by rw[kY ha],h⟩
   |false=>
    rw[ha,if_neg Aa,nx]at h;obtain rfl:=kY h.1;have h2:=h.2;cases b with
    |c p=>
     cases c with
     |f ps=>
      have h2:((decide (0<=p)&&decide (p<=(ds.length:Int)-1))&&(decide (ds.getD p.toNat 0=-1)&&(decide (ps.length=zs.length)&&xI (zu zs n) ds p.toNat 0 ps)))=true:=h2;simp only[nx,decide_eq_true_eq]at h2;obtain⟨⟨g1,g2⟩,g3,g4,g5⟩:=h2;have hp:p.toNat<ds.length:=by omega
      refine .inr ⟨p.toNat,ps,by rw[show ((p.toNat:Nat):Int)=p by omega],?_,g4,λi q hi=>?_⟩
      . rw[Ab,pn hp]at g3
        rw[pn hp];congr 1
      . have:=nZ g5 i q hi
        rwa [Dn]at this
     |_=>cases h2
    |_=>cases h2
 . rw[oR λa b c e=>hv ⟨a,b,c,e⟩]at h
   cases h
theorem XA:∀{a b:List Int},a.length=b.length->(∀(i:Nat) x y,a[i]?=some x->b[i]?=some y->x<=y)->a.sum<=b.sum
 |[],[],_,_=>BJ _
 |x::a,y::b,hl,h=>by
  have h1:=h 0 x y rfl rfl;have h2:=XA (a:=a) (b:=b) (by simpa using hl) λi u w hu hw=>h (i+1) u w hu hw
  rw[Eu,Eu];omega
theorem eT:∀{r:List Int} {x},x∈r->(∀y∈r,1<=y)->x+((r.length:Int)-1)<=r.sum
 |y::r,x,hx,h=>by
  have all:∀{r:List Int},(∀y∈r,(1:Int)<=y)->(r.length:Int)<=r.sum:=λ{r} h=>by
   induction r with
   |nil=>exact BJ _
   |cons z r ih=>
    have h1:=h z (.head _);have h2:=ih λy hy=>h y (.tail _ hy);rw[Eu,An];omega
  rw[Eu,An];rcases Ah.mp hx with rfl|hx
  . have:=all λy hy=>h y (.tail _ hy)
    omega
  . have h1:=eT hx λy hy=>h y (.tail _ hy)
    have h2:=h y (.head _);omega
def max_le(ha:a≠[])(hb:b≠[])(hl:a.length=b.length)(h:∀(i:Nat) x y,a[i]?=some x->b[i]?=some y->x<=y):L2.yc 0 a<=L2.yc 0 b:=by
 obtain⟨m1,m2⟩:=L2.vT (d:=0) ha;obtain⟨m3,m4⟩:=L2.vT (d:=0) hb;obtain⟨i,hi⟩:=BF m1;obtain⟨l1,_⟩:=Ad.mp hi;have h1:=h i _ _ hi (pn (show i<b.length by omega))
 exact CO h1 (m4 _ (BK _))
structure Shn(zs ds:List Int)(n:Nat)(v:Val):Prop where
 c:eu n v
 a:1<=lvs n v
 bd:lvs n v<=P4 n
 nn:0<=dps n v
 d:dps n v<=(ds.count (-1):Nat)
 e:lvs n v<=((zs.length ^ (dps n v).toNat:Nat):Int)
 f:2<=zs.length->dps n v<lvs n v
 zero:dps n v=0->(zl zs ds).isEmpty=false
 ll:LCd false zs ds<=lvs n v
 b:LCd true zs ds<=dps n v
theorem shown(hz:Sz zs)(hz3:zs.length<=3):∀n ds v,n<=6->Df zs ds->zu zs n ds v=true->Shn zs ds n v
 |0,_,_,_,_,h=>by cases h
 |n+1,ds,v,hn,hd,h=>by
  have hz1:=hz.1;rcases bS h with⟨b,c,rfl,hr⟩|⟨p,ps,rfl,hp,hl,hq⟩
  . have hw:=Yh hz hd hr
    refine⟨.inl ⟨b,c,rfl⟩,?_,?_,?_,?_,?_,λh2=>?_,λ_=>hw,?_,?_⟩<;>(try rw[f7])<;>(try rw[fS])
    . exact BJ _
    . exact pM _
    . exact BJ _
    . omega
    . exact BJ _
    . omega
    . rw[vM hw];exact BJ _
    . rw[vM hw];exact BJ _
  . have hpl:=y8 hp
    have hi:∀(i:Nat) (q:Val),ps[i]?=some q->Shn zs (putL ds p (i:Int)) n q:=λi q e=>by have hil:=(Ad.mp e).1;exact shown hz hz3 n _ q ⋯ (hd.put hpl ⋯) (hq i q e)
    have hm:∀q∈ps,∃i:Nat,Shn zs (putL ds p (i:Int)) n q:=λq hq=>by obtain⟨i,e⟩:=BF hq;exact⟨i,hi i q e⟩
    have hne:ps≠[]:=λe=>by rw[e,BE]at hl;omega
    have hpn:=pM n;have hbd:∀x∈ps.map (lvs n),1<=x/\x<=P4 n:=λx hx=>by obtain⟨q,hq,rfl⟩:=Aq.mp hx;obtain⟨i,s⟩:=hm q hq;exact⟨s.a,s.bd⟩
    have hP6:=mh (n:=n) (m:=6) ⋯
    rw[R1]at hP6;have hlm:(ps.map (lvs n)).length=zs.length:=by rw[zI,hl]
    have hdm:(ps.map (dps n)).length=zs.length:=by rw[zI,hl]
    have hsum:=lj (b:=P4 n) (r:=ps.map (lvs n)) λx hx=>⟨by have:=hbd x hx;omega,(hbd x hx).2⟩
    rw[hlm]at hsum;have hdne:ps.map (dps n)≠[]:=λe=>hne (CD.mp e);have hlne:ps.map (lvs n)≠[]:=λe=>hne (CD.mp e);obtain⟨m1,m2⟩:=L2.vT (d:=0) hdne;obtain⟨qm,hqm,em⟩:=Aq.mp m1;obtain⟨im,sm⟩:=hm qm hqm;have hmx0:0<=L2.yc 0 (ps.map (dps n)):=by rw[<-em];exact sm.nn
    have hso:L2.vY (ps.map (lvs n))=true:=by
     unfold L2.vY;rw[hlm,decide_eq_true ⋯,Cy,AH]
     intro x hx;have:=hbd x hx;rw[decide_eq_true ⋯,decide_eq_true ⋯];rfl
    obtain⟨q0,hq0⟩:∃q,q∈ps:=FR ps hne;have h1:=eT (Aq.mpr ⟨qm,hqm,rfl⟩) (λy hy=>(hbd y hy).1);rw[hlm]at h1;have hsmo:=sm.a;refine⟨.inr ⟨_,ps,rfl,hne,λq hq=>(hm q hq).elim λi s=>s.c,hso⟩,?_,?_,?_,?_,?_,λh2=>?_,λe=>?_,?_,?_⟩<;>(try rw[mB])<;>(try rw[qE])
    . omega
    . show _<=4*P4 n
      have:(zs.length:Int)*P4 n<=4*P4 n:=ET ⋯ ⋯
      omega
    . omega
    . have:=sm.d
      have hc:=xu (h:=im) hp;rw[<-em];omega
    . obtain⟨D,hD⟩:∃D:Nat,L2.yc 0 (ps.map (dps n))=D:=⟨(L2.yc 0 (ps.map (dps n))).toNat,⋯⟩
      have hb2:=lj (b:=((zs.length ^ D:Nat):Int)) (r:=ps.map (lvs n)) λx hx=>by
       refine⟨by have:=hbd x hx;omega,?_⟩
       obtain⟨q,hq,rfl⟩:=Aq.mp hx;obtain⟨i,s⟩:=hm q hq;have hle:=m2 _ (Aq.mpr ⟨q,hq,rfl⟩);have hnn:=s.nn;refine CO s.e ?_;exact Int.ofNat_le.mpr (DU ⋯ ⋯)
      rw[hlm]at hb2;rw[hD,show ((1:Int)+(D:Int)).toNat=D+1 by omega,Gf,Br,Bv]
      exact hb2.2
    . have:=sm.f h2
      rw[<-em];omega
    . rw[qE]at e
      omega
    . cases hw:(zl zs ds).isEmpty with
      |false=>
       rw[vM hw];show (1:Int)<=_;omega
      |true=>
       rw[si hw];have hpb:p∈yO 0 ds:=tS.mpr ⟨A3 _,by rw[DG];exact hp⟩
       have:=(L2.wq (d:=0) (ns:=(yO 0 ds).map λp=>yS false (yu false zs ds p)) (λe=>by rw[CD.mp e]at hpb;cases hpb)).2 _ (Aq.mpr ⟨p,hpb,rfl⟩)
       refine CO this ?_;show (yu false zs ds p).sum<=_;refine XA (by unfold yu;rw[hlm,zI,AM]) λi x y hx hy=>?_
       rw[AA]at hy;obtain⟨q,e1,rfl⟩:=Au.mp hy;unfold yu at hx;rw[AA]at hx;obtain⟨j,e2,rfl⟩:=Au.mp hx;have hjl:=(Ad.mp e2).1;rw[AM]at hjl;rw[D3 hjl]at e2;obtain rfl:=Am e2;exact(hi i q e1).ll
    . cases hw:(zl zs ds).isEmpty with
      |false=>
       rw[vM hw];show (0:Int)<=_;omega
      |true=>
       rw[si hw];have hpb:p∈yO 0 ds:=tS.mpr ⟨A3 _,by rw[DG];exact hp⟩
       have:=(L2.wq (d:=0) (ns:=(yO 0 ds).map λp=>yS true (yu true zs ds p)) (λe=>by rw[CD.mp e]at hpb;cases hpb)).2 _ (Aq.mpr ⟨p,hpb,rfl⟩)
       refine CO this ?_;show 1+L2.yc 0 (yu true zs ds p)<=_;have hrl:(yu true zs ds p).length=zs.length:=by unfold yu;rw[zI,AM]
       have:=max_le (a:=yu true zs ds p) (b:=ps.map (dps n)) (λe=>by rw[e,BE]at hrl;omega) hdne (by rw[hrl,hdm]) λi x y hx hy=>by rw[AA]at hy;obtain⟨q,e1,rfl⟩:=Au.mp hy;unfold yu at hx;rw[AA]at hx;obtain⟨j,e2,rfl⟩:=Au.mp hx;have hjl:=(Ad.mp e2).1;rw[AM]at hjl;rw[D3 hjl]at e2;obtain rfl:=Am e2;exact(hi i q e1).b
       omega
def Uo{zs ds}(hz:Sz zs)(hd:Dr zs ds)(hs:z7 zs ds=[])(h3:zs.length<=3)(hb:ds.count (-1)<=5):decide (LCd true zs ds=0)=!(zl zs ds).isEmpty:=by
 cases hw:(zl zs ds).isEmpty with
 |false=>rw[vM hw];rfl
 |true=>
  have hF:=(yX hz).mp hw;have hne:yO 0 ds≠[]:=λe=>by have hB:Bl ds []:=e▸mw ds;rw[qS hz hF hB]at hs;cases hs
  rw[si hw];have hm:=(L2.wq (d:=0) (ns:=(yO 0 ds).map λp=>yS true (yu true zs ds p)) (λe=>hne (CD.mp e))).1;obtain⟨p,hp,e⟩:=Aq.mp hm;rw[<-e];show decide (1+L2.yc 0 (yu true zs ds p)=0)=_;have hpb:=(tS.mp hp).2;rw[DG]at hpb;have:=Zs (b:=4096) (r:=yu true zs ds p) ⋯ λx hx=>by obtain⟨h,_,rfl⟩:=Aq.mp hx;have hc:=xu (h:=h) hpb;exact b6 ⋯ ⋯
  rw[decide_eq_false ⋯];rfl
section
variable {T:Tbl}{Φ:Calls}{s:Sto}
def lA{x:Str}(h:decide (x="row")=b):zi .c (.j x) (.j "row") s=.e (.e b) s:=by show Out.e (Val.e (decide (x=("row":Str)))) s=_;rw[h]
def j7(n:Nat)(Φ:Calls):Prop:=∀(v:Val) (s:Sto),eu n v->Φ "leaves_within" 0 [v] s=.e (.c (lvs n v)) s
def bp(n:Nat)(Φ:Calls):Prop:=∀(v:Val) (s:Sto),eu n v->Φ "depth_within" 0 [v] s=.e (.c (dps n v)) s
def bM(g:T.b "ROW"=some (.j "row"))(cL:∀m,n=m+1->j7 m Φ)(h:eu n v):run T Φ F36.yl [v] s=.e (.c (lvs n v)) s:=by
 cases n with
 |zero=>exact h.elim
 |succ n=>
  have cL:=cL n rfl;rw[post_eq,F36.yl,zw];refine⟨rfl,?_⟩;show (zj Φ T.b [some v] _ s).post _;rcases h with⟨f,d,rfl⟩|⟨p,ps,rfl,hne,hps,hsk⟩
  . rw[f7]
    exact zk (vd (zN (zZ (yR (zB rfl) zE (x8 (k:=0) rfl)) (ub g) (lA (decide_eq_true rfl))) zF) zE) (w6 yg)
  . rw[mB]
    have hc:evE Φ T.b [some (.f [.j "cases",p,.f ps])] (.r false ["part"] [none] (.h "leaves_within" 0 (.a (.e 0) .b)) (.a 0) (.f (.p (.e 0) (.g (.c 2)))) .b) s=.e (.k ((ps.map (lvs n)).map .c)) s:=by
     rw[post_eq];refine uU (λe=>∃o,e=[o]) (λx=>[.c (lvs n x)]) ps (s1:=s) (vk (yR (zB rfl) zE (x8 (k:=2) rfl)) rfl) ⟨_,rfl⟩ ?_ ?_
     . rintro x hx e ⟨o,rfl⟩
       refine⟨[some x],rfl,⟨_,rfl⟩,vJ.mpr ⟨rfl,?_⟩⟩;rw[if_pos rfl,x_call (zA (zB rfl) zD) (cL x s (hps x hx))];exact zC.mpr ⟨rfl,rfl⟩
     . rw[show (λx=>[Val.c (lvs n x)])=λx=>[(λx=>Val.c (lvs n x)) x] from rfl,nq,BW]
       exact zC.mpr ⟨rfl,rfl⟩
    exact zk (vb (zN (zZ (yR (zB rfl) zE (x8 (k:=0) rfl)) (ub g) (lA (decide_eq_false tU))) zF) (zo (zA hc zD) (Y9 rfl hsk))) (w6 yg)
def Yl(g:T.b "ROW"=some (.j "row"))(cL:∀m,n=m+1->bp m Φ)(h:eu n v):run T Φ F36.y3 [v] s=.e (.c (dps n v)) s:=by
 cases n with
 |zero=>exact h.elim
 |succ n=>
  have cL:=cL n rfl;rw[post_eq,F36.y3,zw];refine⟨rfl,?_⟩;show (zj Φ T.b [some v] _ s).post _;rcases h with⟨f,d,rfl⟩|⟨p,ps,rfl,hne,hps,hsk⟩
  . rw[fS]
    exact zk (vd (zN (zZ (yR (zB rfl) zE (x8 (k:=0) rfl)) (ub g) (lA (decide_eq_true rfl))) zF) zE) (w6 yg)
  . rw[qE]
    have hc:evE Φ T.b [some (.f [.j "cases",p,.f ps])] (.r false ["part"] [none] (.h "depth_within" 0 (.a (.e 0) .b)) (.a 0) (.f (.p (.e 0) (.g (.c 2)))) .b) s=.e (.k ((ps.map (dps n)).map .c)) s:=by
     rw[post_eq];refine uU (λe=>∃o,e=[o]) (λx=>[.c (dps n x)]) ps (s1:=s) (vk (yR (zB rfl) zE (x8 (k:=2) rfl)) rfl) ⟨_,rfl⟩ ?_ ?_
     . rintro x hx e ⟨o,rfl⟩
       refine⟨[some x],rfl,⟨_,rfl⟩,vJ.mpr ⟨rfl,?_⟩⟩;rw[if_pos rfl,x_call (zA (zB rfl) zD) (cL x s (hps x hx))];exact zC.mpr ⟨rfl,rfl⟩
     . rw[show (λx=>[Val.c (dps n x)])=λx=>[(λx=>Val.c (dps n x)) x] from rfl,nq,BW]
       exact zC.mpr ⟨rfl,rfl⟩
    exact zk (vb (zN (zZ (yR (zB rfl) zE (x8 (k:=0) rfl)) (ub g) (lA (decide_eq_false tU))) zF) (yH zE (zo (zA hc zD) (Zr rfl λe=>hne (CD.mp e))) r0)) (w6 yg)
structure ve(zs ds:List Int)(v:Val):Prop where
 a:DrO zs ds
 dt:Dt (ds.count (-1)+1) v
 b:zu zs (ds.count (-1)+1) ds v=true
def ve.df{zs ds}(h:ve zs ds v):Df zs ds:=⟨by have:=h.a.c.1;omega,h.a.c.2⟩
def ve.shn{zs ds}(h:ve zs ds v):Shn zs ds (ds.count (-1)+1) v:=shown h.a.b h.a.d _ _ _ (by have:=h.a.a;omega) h.df h.b
def pJ(Φ:Calls):Prop:=∀(zs ds:List Int) (v:Val) (s:Sto),ve zs ds v->Φ "need_paper" 0 [tpI zs,tpI ds,v] s=.e .g s
def jn(c:∀n,n<=6->j8 n Φ){zs ds}(h:ve zs ds v):run T Φ F36.xm [tpI zs,tpI ds,v] s=.e .g s:=by
 have c1:=c (ds.count (-1)+1) (by have:=h.a.a;omega) zs ds v s h.a.b h.df h.dt
 rw[h.b]at c1;rw[post_eq,F36.xm,zw];refine⟨rfl,?_⟩;show (zj Φ T.b [some (tpI zs),some (tpI ds),some v] _ s).post _;exact yN (xQ (zN (x_call (zA (zB rfl) (zA (zB rfl) (zA (zB rfl) zD))) c1) zF)) (yq (w6 rfl))
def ma(Φ:Calls):Prop:=∀(zs ds:List Int) (v:Val) (s:Sto),ve zs ds v->Φ "leaves" 0 [tpI zs,tpI ds,v] s=.e (.c (lvs (ds.count (-1)+1) v)) s
def j6(Φ:Calls):Prop:=∀(zs ds:List Int) (v:Val) (s:Sto),ve zs ds v->Φ "depth" 0 [tpI zs,tpI ds,v] s=.e (.c (dps (ds.count (-1)+1) v)) s
def jm(c:pJ Φ)(cL:∀n,n<=6->j7 n Φ){zs ds}(h:ve zs ds v):run T Φ F36.vv [tpI zs,tpI ds,v] s=.e (.c (lvs (ds.count (-1)+1) v)) s:=by rw[post_eq,F36.vv,zw];refine⟨rfl,?_⟩;show (zj Φ T.b [some (tpI zs),some (tpI ds),some v] _ s).post _;exact yb (x_call (zA (zB rfl) (zA (zB rfl) (zA (zB rfl) zD))) (c zs ds v s h)) (zk (x_call (zA (zB rfl) zD) (cL _ (by have:=h.a.a;omega) v s h.shn.c)) (w6 yg))
def gJ(c:pJ Φ)(cL:∀n,n<=6->bp n Φ){zs ds}(h:ve zs ds v):run T Φ F36.tN [tpI zs,tpI ds,v] s=.e (.c (dps (ds.count (-1)+1) v)) s:=by rw[post_eq,F36.tN,zw];refine⟨rfl,?_⟩;show (zj Φ T.b [some (tpI zs),some (tpI ds),some v] _ s).post _;exact yb (x_call (zA (zB rfl) (zA (zB rfl) (zA (zB rfl) zD))) (c zs ds v s h)) (zk (x_call (zA (zB rfl) zD) (cL _ (by have:=h.a.a;omega) v s h.shn.c)) (w6 yg))
def nO(Φ:Calls):Prop:=∀(zs ds:List Int) (v:Val) (s:Sto),ve zs ds v->Φ "_law_paper_right" 0 [tpI zs,tpI ds,v] s=.e (.e true) s
def lY(cL:ma Φ)(cD:j6 Φ)(cC:j5 Φ)(cP:∀n,n<=6->j8 n Φ){zs ds}(h:ve zs ds v):run T Φ F36.yF [tpI zs,tpI ds,v] s=.e (.e true) s:=by
 have c1:=cP (ds.count (-1)+1) (by have:=h.a.a;omega) zs ds v s h.a.b h.df h.dt
 rw[h.b]at c1;have cl:=cL zs ds v s h;have cd:=cD zs ds v s h;have cc:=cC zs ds s h.a.b h.a.c;have S:=h.shn;have hnb:=h.a.a;have hz3:=h.a.d;obtain⟨S1,S2,S3,S4,S5,S6,S7,S8,S9,S10⟩:=S;generalize hN:ds.count (-1)+1=N at *;generalize lvs N v=m at *;obtain⟨D,hD⟩:∃D:Nat,dps N v=D:=⟨(dps N v).toNat,⋯⟩
 rw[hD]at cd S4 S5 S6 S7 S8 S10;rw[AL]at S6;rw[post_eq,F36.yF,zw];refine⟨rfl,?_⟩;show (zj Φ T.b [some (tpI zs),some (tpI ds),some v,none,none,none,none] _ s).post _;refine zm.mpr (mG.mpr (tw (x_call (zA (zB rfl) (zA (zB rfl) (zA (zB rfl) zD))) cl) (tw (x_call (zA (zB rfl) (zA (zB rfl) (zA (zB rfl) zD))) cd) (mF.mpr (rO rfl ?_)))));show (zj Φ T.b [some (tpI zs),some (tpI ds),some v,some (.c m),some (.c (D:Nat)),none,none] _ s).post _;refine yd zE ?_;show (zj Φ T.b [some (tpI zs),some (tpI ds),some v,some (.c m),some (.c (D:Nat)),some (.c 1),none] _ s).post _;have hlen:∀{s:Sto},blt .a false [tpI zs] s=.e (.c (zs.length:Nat)) s:=λ{s}=>by rw[xb,zI]
 refine zm.mpr (wA (λrest e s'=>s'=s/\∃j o6,j<=D/\rest=yC (j:Nat) (D-j)/\e=[some (tpI zs),some (tpI ds),some v,some (.c m),some (.c (D:Nat)),some (.c ((zs.length ^ j:Nat):Int)),o6]) (yC 0 D) (s1:=s) (nu (zB rfl) (by unfold zX;omega)) ⟨rfl,0,_,A3 _,rfl,rfl⟩ ?_ ?_)
 . rintro x rest e s' ⟨rfl,j,o6,hj,hr,rfl⟩
   obtain⟨k,hk,rfl,hr2⟩:=t6 hr;refine⟨_,rfl,?_⟩;show (zj Φ T.b [some (tpI zs),some (tpI ds),some v,some (.c m),some (.c (D:Nat)),some (.c ((zs.length ^ j:Nat):Int)),some (.c (j:Nat))] _ s').post _;refine yd (yH (zB rfl) (zo (zA (zB rfl) zD) hlen) (by rw[nX ⋯,<-Bv,<-Gf])) (yq ⟨rfl,j+1,_,⋯,by rw[hr2];congr 1;omega,rfl⟩)
 . rintro e s' ⟨rfl,j,o6,hj,hr,rfl⟩
   have:=pG hr;obtain rfl:j=D:=by omega
   have e1:zi .d (.c m) (.c ((zs.length ^ j:Nat):Int)) s'=.e (.e false) s':=by rw[gt_int,decide_eq_false ⋯]
   have e2:(decide ((1:Int)<(zs.length:Nat))&&decide (m<(j:Nat)))=false:=by
    by_cases h2:2<=zs.length
    . rw[decide_eq_false (show ¬m<(j:Nat) by have:=S7 h2;omega),DK]
    . rw[decide_eq_false (show ¬(1:Int)<(zs.length:Nat) by omega),BX]
   have e3:(decide (((j:Nat):Int)=0)&&(zl zs ds).isEmpty)=false:=by
    by_cases hj0:((j:Nat):Int)=0
    . rw[S8 hj0,DK]
    . rw[decide_eq_false hj0,BX]
   have T2:=qT (Φ:=Φ) (G:=T.b) (env:=[some (tpI zs),some (tpI ds),some v,some (.c m),some (.c (j:Nat)),some (.c ((zs.length ^ j:Nat):Int)),o6]) (s:=s') (zN (zZ (op:=.d) (zo (f:=.a) (m:=false) (zA (zB (i:=0) rfl) zD) hlen) (zE (v:=.c 1)) gt_int) zF) (zN (zZ (op:=.i) (zB (i:=3) rfl) (zB (i:=4) rfl) (show zi .i (.c m) (.c (j:Nat)) s'=.e (.e (decide (m<(j:Nat)))) s' from rfl)) zF);have T3:=qT (Φ:=Φ) (G:=T.b) (env:=[some (tpI zs),some (tpI ds),some v,some (.c m),some (.c (j:Nat)),some (.c ((zs.length ^ j:Nat):Int)),o6]) (s:=s') (zN (zZ (op:=.c) (zB (i:=4) rfl) (zE (v:=.c 0)) eq_int) zF) (zN (x_call (f:="clean") (v:=0) (zA (zB (i:=0) rfl) (zA (zB (i:=1) rfl) zD)) cc) zF);rw[e2]at T2;rw[e3]at T3;refine yN (qw (zN (zZ (zB rfl) (zB rfl) e1) zF) (w4 T2 (w4 T3 se))) ?_;have hle:zi .g (.c (j:Nat)) (.c (ds.count (-1):Nat)) s'=.e (.e true) s':=by show Out.e (Val.e (decide (((j:Nat):Int)<=(ds.count (-1):Nat)))) s'=_;rw[decide_eq_true S5]
   exact zk (jz (zZ (zB rfl) (Vr (zB rfl) (zA (eo zE) zD) Rm) hle) (zZ (x_call (zA (zB rfl) (zA (zB rfl) (zA (zB rfl) zD))) c1) zE rfl)) (w6 xK)
end
end M
end
section
namespace M
open PySem Hd
def ZL(h:Heap)(a:Addr):Option Obj:=(h.get? a).bind λo=>if sF o then none else some o
def X7(e:h.get? a=some o)(n:sF o=false):ZL h a=some o:=by unfold ZL;rw[e];show (if sF o=true then none else some o)=some o;rw[n];rfl
def X6(e:ZL h a=some o):h.get? a=some o/\sF o=false:=by
 unfold ZL at e;obtain⟨o',e1,e2⟩:=B9.mp e;split at e2
 . cases e2
 . rename_i z
   cases e2;exact⟨e1,by simpa using z⟩
def rF(h:Heap):KF:=(Al h.objs.size).filterMap λa=>(ZL h a).map λo=>(a,o)
theorem pD{g:Addr->Option Obj}:∀{l:List Addr},a∈l->(l.filterMap λb=>(g b).map λo=>(b,o)).lookup a=g a
 |b::r,hm=>by
  rw[A2];by_cases e:a=b
  . subst e
    cases hg:g a with
    |none=>
     show (r.filterMap _).lookup a=none;by_cases m:a∈r
     . rw[pD m,hg]
     . exact List.lookup_eq_none_iff.mpr λp hp=>by
        obtain⟨c,hc,e⟩:=CK.mp hp;obtain⟨o,_,rfl⟩:=Au.mp e;have z:a≠c:=λz=>m (by rw[z];exact hc)
        simpa using z
    |some o=>show (List.lookup a ((a,o)::_))=_;rw[Av,beq_self_eq_true]
  . have m:a∈r:=(Ah.mp hm).resolve_left e
    cases hg:g b with
    |none=>exact pD m
    |some o=>
     show (List.lookup a ((b,o)::_))=_;rw[Av,beq_false_of_ne e];exact pD m
def wO o(e:h.get? a=some o)(n:sF o=false):(rF h).lookup a=some o:=by rw[<-X7 e n];exact pD (Ag.mpr (Aj e))
def ZF:(rF h).In h:=λa o e=>by obtain⟨c,_,e⟩:=CK.mp (uz e);obtain⟨o',e1,e2⟩:=Au.mp e;cases e2;exact(X6 e1).1
def oC(e:nsH h x=some v):BD (rF h) AW x=some v:=by
 unfold nsH at e;split at e
 . rename_i o ho
   have hn:sF o=false:=by
    unfold BD at e;rw[Av,beq_self_eq_true]at e;dsimp only at e;split at e
    . rename_i hd;cases hd;unfold sF;simp
    . cases e
   unfold BD at e ⊢;rw[wO o ho hn];rw[Av,beq_self_eq_true]at e;exact e
 . cases e
def aQ(e:aP h cd x=true):CF (rF h) cd x=true:=by
 unfold aP at e;split at e
 . split at e
   . rename_i c o ho
     rw[nx,BO]at e;obtain⟨hn,e⟩:=e;unfold CF at e ⊢;dsimp only at e ⊢;rw[Av,beq_self_eq_true]at e;rw[wO o ho hn];exact e
   . cases e
 . cases e
def args_eq st:args st=L2.vf st/\body st=L2.wy st/\scope st=L2.yK st:=by cases st<;>exact⟨rfl,rfl,rfl⟩
def Um(e:Wg h p.1=Vp p):ly (rF h) p.1 p.2:=by
 obtain⟨a1,a2,a3⟩:=args_eq p.2;unfold Vp at e;rw[a1,a2,a3]at e;unfold Wg at e;split at e
 . rename_i f hf
   split at e
   . rename_i oc od fd osl ho
     split at e
     . rename_i hc
       have e':=Am e;obtain⟨n,q,ps,b,sc,g,cl,df,kw,dc,pm,an,cd,ct,bl⟩:=fd;injection e' with e1 e2 e3 e4 e5 e6 e7 e8 _ _ _ _ _ _ e9
       subst e1 e2 e3 e4 e5 e6 e7 e8 e9;exact Ul (oC hf) (wO _ ho (by unfold sF;simp)) (aQ hc) (by unfold CG;dsimp only;rw[wO _ ho (by unfold sF;simp)])
     . cases e
   . cases e
 . cases e
noncomputable def gv:G->Val
 |.a i=>.c i
 |.c x=>.j x
 |.b ns=>.m ns
def QV(e:glB h x v=true):et (rF h) x (gv v):=by
 cases v with
 |a i=>
  unfold glB at e;dsimp only at e;split at e
  . rename_i hn;have:=of_decide_eq_true e;subst this;exact int_mk (oC hn)
  . cases e
 |c y=>
  unfold glB at e;dsimp only at e;split at e
  . rename_i hn;have:=of_decide_eq_true e;subst this;exact str_mk (oC hn)
  . cases e
 |b ns=>
  unfold glB at e;dsimp only at e;split at e
  . rename_i hn
    split at e
    . rename_i n od us k sl ho
      obtain⟨e1,e3⟩:=DS.mp e;obtain⟨e1,e2⟩:=DS.mp e1;have:=of_decide_eq_true e1;subst this;exact Xp (us:=us.toList) (oC hn) (wO _ ho rfl) (of_decide_eq_true e2) (of_decide_eq_true e3)
    . cases e
  . cases e
def QA(e:blB h x=true):BD (rF h) AW x=some none:=by
 unfold blB at e;split at e
 . rename_i hn;exact oC hn
 . cases e
def UY(D:List (Str × Stmt))(glL:List (Str × Val))(K:KF)(h:Heap):Prop:=K.In h/\(∀p∈D,ly K p.1 p.2)/\(∀p∈glL,et K p.1 p.2)/\∀x∈vy,BD K AW x=some none
theorem fP:∀{D:List (Str × Stmt)},(D.map λp=>Wg h p.1)=D.map Vp->∀p∈D,ly (rF h) p.1 p.2
 |p::D,e,q,hq=>by
  rw[Aw,Aw]at e;obtain⟨e1,e2⟩:=List.cons.inj e;rcases Ah.mp hq with rfl|hq
  . exact Um e1
  . exact fP e2 q hq
def VW(e:Z0 D gl s=XO D):∃K,UY D (gl.map λp=>(p.1,gv p.2)) K s.heap:=by obtain⟨e1,e2⟩:=Prod.mk.inj e;obtain⟨e2,e3⟩:=DS.mp e2;exact⟨rF s.heap,ZF,fP e1,λp hp=>(by obtain⟨p',h1,rfl⟩:=Aq.mp hp;exact QV (AH.mp e2 p' h1)),λx hx=>QA (AH.mp e3 x hx)⟩
def close{l:PySem.W.OpenLaw}
 (Ra:l.wellSaid=true) (left:PySem.W.LeftO l.row.prog q [] (λs=>Fi l.row.records s) (Z0 D gl) (λ_=>XO D) N) (hgl:glL=gl.map λp=>(p.1,gv p.2))
 (U1:PySem.W.defOf q l.row.name=some (d,[])) (hp:l.row.prog.theDef l.row.name=some (d.params,d.body,d.scope)) (hk:PySem.W.kwWritten? d.params.kwonlyargs d.params.kw_defaults=some [])
 (hwr:(!l.row.writes||l.row.records.isEmpty)=true) (ok:(PySem.W.chainsOk q&&PySem.W.opensWell l.row.prog&&(PySem.W.frees l.row.toRowW&&l.row.within.isEmpty))=true) (hb:l.row.prog.bare) (hw:l.row.toRowW.promised)
 (hn:l.most=some 63) (hdf:d.params.defaults=[]) (hr:L2.wV n callerA) (hF:(tbl fnL glL).c d.name 0=some F) (hx:F.a=[x]) (hc:mT fnL D=true)
 (HL:∀ns:List Int,ns.length<=63->∃s',zG (tbl fnL glL) n d.name 0 [.p ns] []=.e (.e true) s'):l.Holds:=by
 refine PySem.W.holds_law Ra λsaid'=>PySem.W.holds_open (q:=q) (loose:=[]) (Xt:=λs=>Fi l.row.records s) (XP:=λ_ _=>True) (YP:=λ_ h=>∃K,UY D glL K h) left (λw s e=>hgl▸VW e)
  (λw h h' ⟨K,a,b⟩ k=>⟨K,a.keeps k,b⟩) (λ_ _=>trivial) (λ_ _ _ _ _=>trivial) U1 hp hk (λs e=>PySem.W.recFacts_of e) hwr said' ok hb hw ?_
 intro w s₀ s₁ mg mb G ⟨K,Y⟩;exact walk (l:=l) (q:=q) (loose:=[]) (XP:=λ_ _=>True) (YP:=λ_ h=>UY D glL K h) (d:=d) (K:=K) (T:=tbl fnL glL) hn hdf hr (λ_ _ y=>y.1) hF hx (λw s₀ mg mb h G X=>⟨Ro (tb:=[]) (xc:=[]) (md:=λ_=>false) X G.T.g Y.2.1 Y.2.2.1 Y.2.2.2 hc (λ⟨b,z⟩=>by cases z),[],List.nodup_nil,rfl,λi g z=>by cases z⟩) HL w s₀ s₁ mg mb G Y
end M
end
section
namespace P36
open PySem M
noncomputable def yY:Fn:=F.yY
noncomputable def xZ:Fn:=F.xZ
noncomputable def ym:Fn:=F31.ym
noncomputable def wZ:Fn:=F31.wZ
noncomputable def wB:Fn:=F31.wB
noncomputable def yF:Fn:=F36.yF
noncomputable def yn:Fn:=F.yn
noncomputable def yz:Fn:=F28.yz
noncomputable def wC:Fn:=F31.wC
noncomputable def wD:Fn:=F.wD
noncomputable def xh:Fn:=F.xh
noncomputable def y0:Fn:=F.y0
noncomputable def wF:Fn:=F.wF
noncomputable def yr:Fn:=F32.yr
noncomputable def tM:Fn:=F28.tM
noncomputable def yh:Fn:=F34.yh
noncomputable def xR:Fn:=F34.xR
noncomputable def tN:Fn:=F36.tN
noncomputable def y3:Fn:=F36.y3
noncomputable def yi:Fn:=F28.yi
noncomputable def yj:Fn:=F28.yj
noncomputable def y4:Fn:=F.y4
noncomputable def yP:Fn:=F.yP
noncomputable def yQ:Fn:=F.yQ
noncomputable def xS:Fn:=F.xS
noncomputable def rm:Fn:=F.rm
noncomputable def xG:Fn:=F34.xG
noncomputable def wb:Fn:=F.wb
noncomputable def xa:Fn:=F.xa
noncomputable def xj:Fn:=F28.xj
noncomputable def xk:Fn:=F.xk
noncomputable def wc:Fn:=F31.wc
noncomputable def wd:Fn:=F.wd
noncomputable def we:Fn:=F.we
noncomputable def y6:Fn:=F31.y6
noncomputable def tP:Fn:=F28.tP
noncomputable def nQ:Fn:=⟨["_law_script","_law_k","_law_pen_here","_law_sizes","_law_draft","_law_some","_law_paper","_law_short"],["_law_script"],false,(.a (.j (.a 1) (.c (.l .i false (.a (.g (.c 1)) (.a (.l .j false (.a (.l .a false (.a (.e 0) .b)) (.a (.g (.c 3)) .b))) .b)))) (.a (.g 2 (.h "_law_pen" 1 (.a (.h "_law_cell_at" 0 (.a (.e 0) (.a (.e 1) .b))) .b))) (.a (.g 3 (.h "_law_few" 0 (.a (.e 2) .b))) (.a (.g 4 (.h "_law_knot" 0 (.a (.e 2) (.a (.e 3) (.a (.g (.c 12)) (.a (.p (.s false (.a (.g (.c 0)) (.a (.g (.c 4)) (.a (.g (.c 4)) (.a (.g (.c 3)) .b))))) (.l .a false (.a (.e 3) .b))) .b)))))) (.a (.j (.a 5) (.f (.q (.a (.e 4) (.a (.J false (.e 4) .b .b (.a (.C (.g (.c 1))))) (.a (.k false .a (.q (.a (.g (.c 0)) (.a (.g (.c 0)) (.a (.g (.c 0)) .b)))) (.e 4)) .b))))) (.a (.n [6,7] (.a (.h "paper_for" 0 (.a (.e 3) (.a (.e 5) .b))) (.a (.h "short_paper" 0 (.a (.e 3) (.a (.e 5) .b))) .b))) (.a (.f (.f (.a (.j .e (.j .b (.e 6) (.g .g)) (.j .d (.h "fillings_many" 0 (.a (.e 3) (.a (.e 5) .b))) (.g (.c 0))))) (.a (.a (.j .e (.j .b (.e 7) (.g .g)) (.j .b (.e 6) (.g .g)))) .b)) (.a (.d (.g (.e false))) .b) .b) (.a (.f (.d (.a (.j .a (.p (.h "run" 0 (.a (.e 3) (.a (.e 5) .b))) (.g (.c 2))) (.g .g))) (.a (.a (.j .b (.e 6) (.g .g))) .b)) (.a (.d (.g (.e false))) .b) .b) (.a (.f (.a (.j .b (.e 6) (.g .g))) (.a (.f (.a (.j .e (.s false (.a (.h "least_leaves" 0 (.a (.e 3) (.a (.e 5) .b))) (.a (.h "least_depth" 0 (.a (.e 3) (.a (.e 5) .b))) .b))) (.s false (.a (.g .g) (.a (.g .g) .b))))) (.a (.d (.g (.e false))) .b) .b) (.a (.f (.b (.a (.h "is_filling" 0 (.a (.e 3) (.a (.e 5) (.a (.h "first_filling" 0 (.a (.e 3) (.a (.e 5) .b))) .b)))))) (.a (.d (.g (.e false))) .b) .b) .b)) (.a (.f (.f (.b (.a (.h "_law_paper_right" 0 (.a (.e 3) (.a (.e 5) (.a (.e 6) .b)))))) (.a (.b (.a (.h "_law_paper_right" 0 (.a (.e 3) (.a (.e 5) (.a (.e 7) .b)))))) .b)) (.a (.d (.g (.e false))) .b) .b) (.a (.f (.a (.j .e (.h "leaves" 0 (.a (.e 3) (.a (.e 5) (.a (.e 7) .b)))) (.h "least_leaves" 0 (.a (.e 3) (.a (.e 5) .b))))) (.a (.d (.g (.e false))) .b) .b) (.a (.f (.a (.j .c (.j .c (.h "least_depth" 0 (.a (.e 3) (.a (.e 5) .b))) (.g (.c 0))) (.h "clean" 0 (.a (.e 3) (.a (.e 5) .b))))) (.a (.d (.g (.e false))) .b) .b) (.a (.f (.a (.j .d (.h "least_leaves" 0 (.a (.e 3) (.a (.e 5) .b))) (.h "leaves" 0 (.a (.e 3) (.a (.e 5) (.a (.e 6) .b)))))) (.a (.d (.g (.e false))) .b) .b) (.a (.f (.a (.j .d (.h "least_depth" 0 (.a (.e 3) (.a (.e 5) .b))) (.l .j false (.a (.h "depth" 0 (.a (.e 3) (.a (.e 5) (.a (.e 6) .b)))) (.a (.h "depth" 0 (.a (.e 3) (.a (.e 5) (.a (.e 7) .b)))) .b))))) (.a (.d (.g (.e false))) .b) .b) .b)))))) .b))))) .b))))) (.a (.d (.g (.e true))) .b))⟩
noncomputable def xT:Fn:=F34.xT
noncomputable def y7:Fn:=F34.y7
noncomputable def xH:Fn:=F34.xH
noncomputable def yk:Fn:=F34.yk
noncomputable def vv:Fn:=F36.vv
noncomputable def yl:Fn:=F36.yl
noncomputable def wG:Fn:=F.wG
noncomputable def xl:Fn:=F.xl
noncomputable def z6:Fn:=F28.z6
noncomputable def xU:Fn:=F.xU
noncomputable def xm:Fn:=F36.xm
noncomputable def wH:Fn:=F.wH
noncomputable def xn:Fn:=F.xn
noncomputable def xp:Fn:=F.xp
noncomputable def xq:Fn:=F.xq
noncomputable def vK:Fn:=F34.vK
noncomputable def wI:Fn:=F32.wI
noncomputable def wJ:Fn:=F32.wJ
noncomputable def vL:Fn:=F.vL
noncomputable def nR:Fn:=F.nR
noncomputable def xV:Fn:=F34.xV
noncomputable def uF:Fn:=F31.uF
noncomputable def wg:Fn:=F.wg
noncomputable def wK:Fn:=F28.wK
noncomputable def wj:Fn:=F.wj
def fnL:List ((Str × Nat) × Fn):=((("_law_cell_at":Str),(0:Nat)),yY)::((("_law_draw":Str),(0:Nat)),xZ)::((("_law_ended":Str),(0:Nat)),ym)::((("_law_few":Str),(0:Nat)),wZ)::((("_law_knot":Str),(0:Nat)),wB)::((("_law_paper_right":Str),(0:Nat)),yF)::((("_law_pen":Str),(1:Nat)),yn)::((("all_fillings":Str),(0:Nat)),yz)::((("are_cases":Str),(0:Nat)),wC)::((("are_sizes":Str),(0:Nat)),wD)::((("are_wholes":Str),(0:Nat)),xh)::((("barring_rows":Str),(0:Nat)),y0)::((("blanks_of":Str),(0:Nat)),wF)::((("cases_paper":Str),(0:Nat)),yr)::((("clean":Str),(0:Nat)),tM)::((("cost_of_cases":Str),(0:Nat)),yh)::((("cost_of_row":Str),(0:Nat)),xR)::((("depth":Str),(0:Nat)),tN)::((("depth_within":Str),(0:Nat)),y3)::((("fillings_many":Str),(0:Nat)),yi)::((("first_filling":Str),(0:Nat)),yj)::((("first_forced":Str),(0:Nat)),y4)::((("first_hue_wrong":Str),(0:Nat)),yP)::((("first_row_wrong":Str),(0:Nat)),yQ)::((("first_wrong":Str),(0:Nat)),xS)::((("fits":Str),(0:Nat)),rm)::((("found_pair":Str),(0:Nat)),xG)::((("is_blank":Str),(0:Nat)),wb)::((("is_draft":Str),(0:Nat)),xa)::((("is_filling":Str),(0:Nat)),xj)::((("is_one_hue":Str),(0:Nat)),xk)::((("is_paper":Str),(0:Nat)),wc)::((("is_strip":Str),(0:Nat)),wd)::((("is_whole":Str),(0:Nat)),we)::((("is_wrong_row":Str),(0:Nat)),y6)::((("keeps":Str),(0:Nat)),tP)::((("law":Str),(0:Nat)),nQ)::((("least_depth":Str),(0:Nat)),xT)::((("least_leaves":Str),(0:Nat)),y7)::((("least_pair":Str),(0:Nat)),xH)::((("least_pair_of":Str),(0:Nat)),yk)::((("leaves":Str),(0:Nat)),vv)::((("leaves_within":Str),(0:Nat)),yl)::((("most_step":Str),(0:Nat)),wG)::((("need_draft":Str),(0:Nat)),xl)::((("need_few_ways":Str),(0:Nat)),z6)::((("need_length":Str),(0:Nat)),xU)::((("need_paper":Str),(0:Nat)),xm)::((("need_size":Str),(0:Nat)),wH)::((("need_sizes":Str),(0:Nat)),xn)::((("need_strip":Str),(0:Nat)),xp)::((("need_whole":Str),(0:Nat)),xq)::((("pair_at":Str),(0:Nat)),vK)::((("paper_for":Str),(0:Nat)),wI)::((("row_paper":Str),(0:Nat)),wJ)::((("rows_at":Str),(0:Nat)),vL)::((("run":Str),(0:Nat)),nR)::((("short_paper":Str),(0:Nat)),xV)::((("shows":Str),(0:Nat)),uF)::((("unbarred":Str),(0:Nat)),wg)::((("ways_many":Str),(0:Nat)),wK)::((("with_hue":Str),(0:Nat)),wj)::[]
noncomputable def glL:List (Str × Val):=[("MOST_PLACES",.c 40),("LEAST_SIZE",.c 2),("MOST_SIZE",.c 8),("HUES",.m [0,1,2,3]),("BLANK",.c (-1)),("MOST_WAYS",.c 512),("ROW",.j "row"),("CASES",.j "cases"),("MOST_WAYS_OF_LEAST",.c 32)]
def T:Tbl:=tbl fnL glL
set_option maxHeartbeats 0 in
def Rl:mT fnL D=true:=by decide +kernel
end P36
end
section
namespace P36
open PySem M
structure Cs(Φ:Calls):Prop where
 g:Vt Φ
 l:Rw Φ
 k:Vv Φ
 i:bx Φ
 pf:nP Φ
 f:b3 Φ
 j:nM Φ
 m:Rx Φ
 ll:g9 "least_leaves" false Φ
 ld:g9 "least_depth" true Φ
 e:pI Φ
 h:g7 Φ
 c:nO Φ
 a:ma Φ
 b:j6 Φ
 d:j5 Φ
def Vq(hz1:1<=zs.length)(hz3:zs.length<=3)(hb:fs.count (-1)<=nB)(hn:zs.length<=2/\nB<=4\/zs.length=3/\nB<=3):fs.count (-1)<=5/\wM zs fs<=32:=by
 refine⟨⋯,?_⟩
 unfold wM;rw[sL];rcases hn with⟨e,h⟩|⟨e,h⟩
 . rw[show max zs.length 2=2 by omega];exact AB (DU (show 0<2 by decide) (show fs.count (-1)<=4 by omega)) (by decide)
 . rw[e];exact AB (DU (show 0<max 3 2 by decide) (show fs.count (-1)<=3 by omega)) (by decide)
def kq:zi .e (.e b) (.e b) s=.e (.e false) s:=by cases b<;>rfl
def ax:zi .c (.e !b) (.e b) s=.e (.e false) s:=by cases b<;>rfl
def ur:zi .b v .g s=.e (.e v.isN) s:=rfl
def Zv:zi .e (.c i) (.c i) s=.e (.e false) s:=by rw[ne_int,decide_eq_true rfl];rfl
section
variable {Φ:Calls}{s:Sto}
def PL(c:Cs Φ){zs fs ds}(hO:DrO zs fs)(h:∀o6 o7,P (.a [some (.p ns),some (.c (k:Nat)),some (.h p),some (tpI zs),some (tpI ds),some (tpI fs),o6,o7]) s) :
 (zj Φ T.b [some (.p ns),some (.c (k:Nat)),some (.h p),some (tpI zs),some (tpI ds),some (tpI fs),o6,o7] (.a (.n [6,7] (.a (.h "paper_for" 0 (.a (.e 3) (.a (.e 5) .b))) (.a (.h "short_paper" 0 (.a (.e 3) (.a (.e 5) .b))) .b))) (.a (.f (.f (.a (.j .e (.j .b (.e 6) (.g .g)) (.j .d (.h "fillings_many" 0 (.a (.e 3) (.a (.e 5) .b))) (.g (.c 0))))) (.a (.a (.j .e (.j .b (.e 7) (.g .g)) (.j .b (.e 6) (.g .g)))) .b)) (.a (.d (.g (.e false))) .b) .b) (.a (.f (.d (.a (.j .a (.p (.h "run" 0 (.a (.e 3) (.a (.e 5) .b))) (.g (.c 2))) (.g .g))) (.a (.a (.j .b (.e 6) (.g .g))) .b)) (.a (.d (.g (.e false))) .b) .b) (.a (.f (.a (.j .b (.e 6) (.g .g))) (.a (.f (.a (.j .e (.s false (.a (.h "least_leaves" 0 (.a (.e 3) (.a (.e 5) .b))) (.a (.h "least_depth" 0 (.a (.e 3) (.a (.e 5) .b))) .b))) (.s false (.a (.g .g) (.a (.g .g) .b))))) (.a (.d (.g (.e false))) .b) .b) (.a (.f (.b (.a (.h "is_filling" 0 (.a (.e 3) (.a (.e 5) (.a (.h "first_filling" 0 (.a (.e 3) (.a (.e 5) .b))) .b)))))) (.a (.d (.g (.e false))) .b) .b) .b)) (.a (.f (.f (.b (.a (.h "_law_paper_right" 0 (.a (.e 3) (.a (.e 5) (.a (.e 6) .b)))))) (.a (.b (.a (.h "_law_paper_right" 0 (.a (.e 3) (.a (.e 5) (.a (.e 7) .b)))))) .b)) (.a (.d (.g (.e false))) .b) .b) (.a (.f (.a (.j .e (.h "leaves" 0 (.a (.e 3) (.a (.e 5) (.a (.e 7) .b)))) (.h "least_leaves" 0 (.a (.e 3) (.a (.e 5) .b))))) (.a (.d (.g (.e false))) .b) .b) (.a (.f (.a (.j .c (.j .c (.h "least_depth" 0 (.a (.e 3) (.a (.e 5) .b))) (.g (.c 0))) (.h "clean" 0 (.a (.e 3) (.a (.e 5) .b))))) (.a (.d (.g (.e false))) .b) .b) (.a (.f (.a (.j .d (.h "least_leaves" 0 (.a (.e 3) (.a (.e 5) .b))) (.h "leaves" 0 (.a (.e 3) (.a (.e 5) (.a (.e 6) .b)))))) (.a (.d (.g (.e false))) .b) .b) (.a (.f (.a (.j .d (.h "least_depth" 0 (.a (.e 3) (.a (.e 5) .b))) (.l .j false (.a (.h "depth" 0 (.a (.e 3) (.a (.e 5) (.a (.e 6) .b)))) (.a (.h "depth" 0 (.a (.e 3) (.a (.e 5) (.a (.e 7) .b)))) .b))))) (.a (.d (.g (.e false))) .b) .b) .b)))))) .b)))) s).post P:=by
 have hz:=hO.b;have hD:=hO.c;have hnb:=hO.a;have hw:wM zs fs<=512:=AB hO.wa (by decide)
 obtain⟨v,s',hpf,rfl,hv⟩:=c.pf zs fs s hz hD hw (by rw[sL];omega)
 obtain⟨u,s',hsh,rfl,hu⟩:=c.f zs fs s' hO;rw[sL]at hv;refine zm.mpr (mG.mpr (tw (x_call (zA (zB rfl) (zA (zB rfl) zD)) hpf) (tw (x_call (zA (zB rfl) (zA (zB rfl) zD)) hsh) (mF.mpr (rO rfl ?_)))));show (zj Φ T.b [some (.p ns),some (.c (k:Nat)),some (.h p),some (tpI zs),some (tpI ds),some (tpI fs),some v,some u] _ s').post _;have cm:=c.j zs fs s' hz hD hw;have hgt:zi .d (.c ((z7 zs fs).length:Nat)) (.c 0) s'=.e (.e v.isN) s':=by
  rw[gt_int];congr 2;rcases hv with⟨rfl,hs⟩|⟨hN,_,hs,_⟩
  . rw[decide_eq_true (by have:=Dp.mpr hs;omega)];rfl
  . rw[hN,hs];rfl
 have huN:u.isN=v.isN:=by
  rcases hv with⟨rfl,hs⟩|⟨hN,_,hs,_⟩
  . rcases hu with⟨rfl,_⟩|⟨e,_⟩
    . rfl
    . exact absurd e hs
  . rcases hu with⟨_,e⟩|⟨_,e,_⟩
    . exact absurd hs e
    . rw[e,hN]
 refine yN (qw (zN (zZ (zZ (zB rfl) zE ur) (zZ (x_call (zA (zB rfl) (zA (zB rfl) zD)) cm) zE hgt) kq) zF) (w4 (zN (zZ (zZ (zB rfl) zE ur) (zZ (zB rfl) zE ur) (by rw[huN];exact kq)) zF) se)) ?_
 have cr:=c.m zs fs s' hz hD;have T2:=qT (Φ:=Φ) (G:=T.b) (env:=[some (.p ns),some (.c (k:Nat)),some (.h p),some (tpI zs),some (tpI ds),some (tpI fs),some v,some u]) (s:=s') (zN (zZ (op:=.a) (yR (x_call (f:="run") (v:=0) (zA (zB (i:=3) rfl) (zA (zB (i:=5) rfl) zD)) cr) (zE (v:=.c 2)) (show wo (Yj (vt zs fs) (.k ((vt zs fs).2.1.map wN))) (.c ((2:Nat):Int)) s'=.e (oV (vt zs fs).2.2) s' from x8 rfl)) (zE (v:=.g)) is_none) zF) (zN (zZ (op:=.b) (zB (i:=6) rfl) (zE (v:=.g)) ur) zF);have e2:(!(oV (vt zs fs).2.2).isN&&v.isN)=false:=by
  cases hr:(vt zs fs).2.2 with
  |none=>rfl
  |some q=>
   have hs:=gW hz hr;rcases hv with⟨_,e⟩|⟨hN,_⟩
   . exact absurd hs e
   . rw[hN,DK]
 rw[e2]at T2;refine yN T2 ?_;have fin:∀{P:Fl->Sto->Prop},P (.a [some (.p ns),some (.c (k:Nat)),some (.h p),some (tpI zs),some (tpI ds),some (tpI fs),some v,some u]) s'->(zj Φ T.b [some (.p ns),some (.c (k:Nat)),some (.h p),some (tpI zs),some (tpI ds),some (tpI fs),some v,some u] .b s').post P:=λh=>yq h;rcases hv with⟨rfl,hs⟩|⟨hN,hdt,hs,hsw⟩
 . obtain⟨t,L,ht⟩:∃t L,z7 zs fs=t::L:=by
    cases hc:z7 zs fs with
    |nil=>exact absurd hc hs
    |cons t L=>exact⟨t,L,rfl⟩
   have hmem:t∈z7 zs fs:=by rw[ht];exact .head _
   obtain⟨hov,hfr⟩:=jo hz hmem;obtain⟨hst,htl,hth⟩:=gT hz hD hmem;have n0:∀bd,u5 bd zs fs=.g:=λbd=>by unfold u5;rw[if_neg (by rw[AN];exact hs)]
   have c1:=c.ll zs fs s' hO;have c2:=c.ld zs fs s' hO;rw[n0]at c1 c2;have c3:=c.e zs fs s' hz hD hw;rw[ht]at c3;have c4:=c.h zs fs t s' hz hD hst;have hd:(uh zs t).isN=true:=Xv.mpr ⟨λx hx=>(hth x hx).2,(yX hz).mpr hfr⟩;rw[decide_eq_true htl,fz hov,hd]at c4;refine xF (zN (zZ (zB rfl) zE (show zi .b .g .g s'=.e (.e true) s' from rfl)) zF) ?_;exact yN (zN (zZ (rh (zA (x_call (zA (zB rfl) (zA (zB rfl) zD)) c1) (zA (x_call (zA (zB rfl) (zA (zB rfl) zD)) c2) zD)) (show 2<=zX by decide)) (rh (zA zE (zA zE zD)) (show 2<=zX by decide)) (show zi .e (.k [.g,.g]) (.k [.g,.g]) s'=.e (.e false) s' from rfl)) zF) (yN (xQ (zN (x_call (zA (zB rfl) (zA (zB rfl) (zA (x_call (zA (zB rfl) (zA (zB rfl) zD)) c3) zD))) c4) zF)) (yq (yq (h _ _))))
 . have hV:ve zs fs v:=⟨hO,hdt,hsw⟩
   obtain⟨hs',huN',hG⟩:z7 zs fs=[]/\u.isN=false/\l0 false zs fs (LCd false zs fs) u:=by
    rcases hu with⟨_,e⟩|e
    . exact absurd hs e
    . exact e
   have hU:ve zs fs u:=⟨hO,hG.a,hG.b⟩;have SV:=hV.shn;have SU:=hU.shn;have n0:∀bd,u5 bd zs fs=.c (LCd bd zs fs):=λbd=>by unfold u5;rw[if_pos (by rw[AN];exact hs)]
   have c1:=c.ll zs fs s' hO;have c2:=c.ld zs fs s' hO;rw[n0]at c1 c2;have r1:=c.c zs fs v s' hV;have r2:=c.c zs fs u s' hU;have l1:=c.a zs fs v s' hV;have l2:=c.a zs fs u s' hU;rw[(hG.lv rfl).2]at l2;have d1:=c.b zs fs v s' hV;have d2:=c.b zs fs u s' hU;have cc:=c.d zs fs s' hz hD;have h0:=Uo hz hD hs hO.d hnb;have e3:zi .c (.c (LCd true zs fs)) (.c 0) s'=.e (.e !(zl zs fs).isEmpty) s':=by rw[eq_int,h0]
   have e4:zi .d (.c (LCd false zs fs)) (.c (lvs (fs.count (-1)+1) v)) s'=.e (.e false) s':=by rw[gt_int,decide_eq_false (by have:=SV.ll;omega)]
   have e5:∃m,blt .j false [.c (dps (fs.count (-1)+1) v),.c (dps (fs.count (-1)+1) u)] s'=.e (.c m) s'/\zi .d (.c (LCd true zs fs)) (.c m) s'=.e (.e false) s':=by refine⟨_,rfl,?_⟩;rw[gt_int,decide_eq_false ?_];have h1:=SV.b;have h2:=SU.b;split<;>omega
   obtain⟨m,e5,e6⟩:=e5;have X:∀{i:Nat} {f:Str} {w:Val} {r:Out Val},[some (Val.p ns),some (.c (k:Nat)),some (.h p),some (tpI zs),some (tpI ds),some (tpI fs),some v,some u][i]?=some (some w)->Φ f 0 [tpI zs,tpI fs,w] s'=r->evE Φ T.b [some (.p ns),some (.c (k:Nat)),some (.h p),some (tpI zs),some (tpI ds),some (tpI fs),some v,some u] (.h f 0 (.a (.e 3) (.a (.e 5) (.a (.e i) .b)))) s'=r:=λhi hr=>x_call (zA (zB rfl) (zA (zB rfl) (zA (zB hi) zD))) hr;have Y:∀{f:Str} {r:Out Val},Φ f 0 [tpI zs,tpI fs] s'=r->evE Φ T.b [some (.p ns),some (.c (k:Nat)),some (.h p),some (tpI zs),some (tpI ds),some (tpI fs),some v,some u] (.h f 0 (.a (.e 3) (.a (.e 5) .b))) s'=r:=λhr=>x_call (zA (zB rfl) (zA (zB rfl) zD)) hr;refine zm.mpr (Wv.mpr ?_);rw[zN (zZ (zB rfl) zE (show zi .b v .g s'=.e (.e false) s' by rw[ur,hN])) zF]
   refine zC.mpr ?_;rw[if_neg Aa];refine yN (qw (xQ (zN (X rfl r1) zF)) (w4 (xQ (zN (X rfl r2) zF)) se)) ?_;refine yN (zN (zZ (X rfl l2) (Y c1) Zv) zF) ?_;refine yN (zN (zZ (zZ (Y c2) zE e3) (Y cc) ax) zF) ?_;refine yN (zN (zZ (Y c1) (X rfl l1) e4) zF) ?_;exact yN (zN (zZ (Y c2) (zo (zA (X rfl d1) (zA (X rfl d2) zD)) e5) e6) zF) (yq (yq (h _ _)))
def Zp(c:Cs Φ)ns:(run T Φ nQ [.p ns] []).post λv _=>v=.e true:=by
 have L1:∀n,n<100->n<=zX:=λn h=>by unfold zX;omega
 rw[nQ,zw];refine⟨rfl,?_⟩;show (zj Φ T.b [some (.p ns),none,none,none,none,none,none,none] _ []).post _;refine zm.mpr (wA (λrest e s'=>(∃o1 o2 o3 o4 o5 o6 o7,e=[some (.p ns),o1,o2,o3,o4,o5,o6,o7])/\∀x∈rest,∃k:Nat,x=.c k) (yC 0 (max 1 (min ns.length 3))) (s1:=[]) (az (K:=3) rfl ⋯) ⟨⟨_,_,_,_,_,_,_,rfl⟩,?_⟩ ?_ ?_)
 . intro x hx
   obtain⟨k,_,rfl⟩:=rL hx;exact⟨k,by congr 1;omega⟩
 . rintro x rest e s' ⟨⟨o1,o2,o3,o4,o5,o6,o7,rfl⟩,hr⟩
   obtain⟨k,rfl⟩:=hr x (.head _);have hr':∀x∈rest,∃k:Nat,x=.c k:=λx hx=>hr x (.tail _ hx);refine⟨_,rfl,?_⟩;obtain⟨cv,hcell⟩:=c.g ns k s';obtain⟨a,b,hpen,hb⟩:=c.l cv s';show (zj Φ T.b [some (.p ns),some (.c k),o2,o3,o4,o5,o6,o7] _ s').post _;refine yd (x_call (zA (x_call (zA (zB rfl) (zA (zB rfl) zD)) hcell) zD) hpen) ?_;have hP:vx (s'++[qv a b]) s'.length:=⟨a,b,by simp,hb⟩
   generalize s'++[qv a b]=s1 at hP;generalize s'.length=p at hP;obtain⟨_,s2,hfw,zs,rfl,hz,hz3,t2⟩:=c.k p s1 hP;have hP2:=t2.at_ hP.lt;have hz1:=hz.1;refine yd (x_call (zA (zB rfl) zD) hfw) ?_;obtain⟨nB,hix,hnB⟩:∃n:Nat,[Val.c 0,.c 4,.c 4,.c 3][zs.length]?=some (.c n)/\(zs.length<=2/\n<=4\/zs.length=3/\n<=3):=by
    have:∀k,1<=k->k<=3->∃n:Nat,[Val.c 0,.c 4,.c 4,.c 3][k]?=some (.c n)/\(k<=2/\n<=4\/k=3/\n<=3):=λk h1 h3=>by
     match k,h1,h3 with
     |1,_,_=>exact⟨4,rfl,⋯⟩
     |2,_,_=>exact⟨4,rfl,⋯⟩
     |3,_,_=>exact⟨3,rfl,⋯⟩
    exact this _ hz1 hz3
   have hl:blt .a false [tpI zs] s2=.e (.c zs.length) s2:=by rw[xb,zI]
   obtain⟨_,s3,hkn,ds,rfl,hd,hbl,hdl,_,t3⟩:=c.i p zs 12 nB s2 hP2 hz ⋯ ⋯
   rw[sL]at hbl;refine yd (x_call (zA (zB rfl) (zA (zB rfl) (zA zE (zA (yR (rh (zA zE (zA zE (zA zE (zA zE zD)))) (L1 4 ⋯)) (zo (zA (zB rfl) zD) hl) (qI hix)) zD)))) hkn) ?_
   show (zj Φ T.b [some (.p ns),some (.c k),some (.h p),some (tpI zs),some (tpI ds),o5,o6,o7] _ s3).post _;have mk:∀{fs:List Int},(∀x∈fs,x∈ds\/x=0)->fs.length<=32->fs.count (-1)<=ds.count (-1)->DrO zs fs:=λ{fs} h1 h2 h3=>by
    have hw:=Vq (fs:=fs) hz1 hz3 (show fs.count (-1)<=nB by omega) hnB
    exact⟨hz,hz3,⟨h2,λx hx=>by
     rcases h1 x hx with h|rfl
     . exact hd.2 x h
     . omega⟩,hw.1,hw.2⟩
   have hadd:binOp false .a (.f [.c 0,.c 0,.c 0]) (tpI ds) s3=.e (tpI (0::0::0::ds)) s3:=mi (by rw[zI];show 3+_<=zX;unfold zX;omega)
   refine zm.mpr (wA (λrest2 e s''=>(∃o5 o6 o7,e=[some (.p ns),some (.c k),some (.h p),some (tpI zs),some (tpI ds),o5,o6,o7])/\∀x∈rest2,∃fs,x=tpI fs/\DrO zs fs) [tpI ds,tpI ds.reverse,tpI (0::0::0::ds)] (s1:=s3) (vk (vH (zA (zB rfl) (zA (OS (zB rfl) Wf Wf (V6 (eo zE)) (Y4 ⋯)) (zA (yH (vH (zA zE (zA zE (zA zE zD))) (L1 3 ⋯)) (zB rfl) hadd) zD))) (L1 3 ⋯)) rfl) ⟨⟨_,_,_,rfl⟩,?_⟩ ?_ ?_)
   . intro x hx
     rcases Ah.mp hx with rfl|hx
     . exact⟨ds,rfl,mk (λx h=>.inl h) hd.1 (Ac _)⟩
     rcases Ah.mp hx with rfl|hx
     . exact⟨_,rfl,mk (λx h=>.inl (List.mem_reverse.mp h)) (by rw[List.length_reverse];exact hd.1) (by rw[List.count_reverse];exact Ac _)⟩
     rw[Ao.mp hx];refine⟨_,rfl,mk (λx h=>?_) (by rw[An,An,An];omega) (DJ ?_)⟩
     . rcases Ah.mp h with rfl|h
       . exact .inr rfl
       rcases Ah.mp h with rfl|h
       . exact .inr rfl
       rcases Ah.mp h with rfl|h
       . exact .inr rfl
       exact .inl h
     . rw[EJ (by decide),EJ (by decide),EJ (by decide)]
   . rintro x rest2 e s4 ⟨⟨o5,o6,o7,rfl⟩,hr2⟩
     obtain⟨fs,rfl,hO⟩:=hr2 x (.head _);refine⟨_,rfl,?_⟩;exact PL c hO λo6 o7=>⟨⟨_,_,_,rfl⟩,λx hx=>hr2 x (.tail _ hx)⟩
   . rintro e s4 ⟨⟨o5,o6,o7,rfl⟩,_⟩
     exact yq ⟨⟨_,_,_,_,_,_,_,rfl⟩,hr'⟩
 . rintro e s' ⟨⟨o1,o2,o3,o4,o5,o6,o7,rfl⟩,hr⟩
   refine zk zE ?_;show (zU false [] (.e true) s').post _;rw[leave_top xK];exact zC.mpr rfl
end
def cs:At T 22 Cs:=λn hn=>by
 obtain⟨n,rfl⟩:∃m,n=m+22:=⟨n-22,⋯⟩
 have g:Gls T:=⟨rfl,rfl,rfl,rfl,rfl⟩;have g4:Gl4 T:=⟨rfl,rfl,rfl,rfl⟩;have whole:∀m,rl (zG T (m+1)):=λm v l k s h=>by rw[zH (F:=F.we) rfl];exact bP h
 have wholes:∀m,qy (zG T (m+2)):=λm vs l k s h=>by rw[zH (F:=F.xh) rfl];exact gP (whole m) h
 have most:∀m,g8 (zG T (m+1)):=λm a b d s h1 h2 h3=>by rw[zH (F:=F.wG) rfl];exact Yr h1 h2 h3
 have one:∀m,bz (zG T (m+1)):=λm a b d e s h1 h2 h3 h4=>by rw[zH (F:=F.xk) rfl];exact VS h1 h2 h3 h4
 have areSizes:∀m,nL (zG T (m+3)):=λm zs s h=>by rw[zH (F:=F.wD) rfl];exact lU g (wholes m) h
 have needSizes:∀m,sI (zG T (m+4)):=λm zs s h=>by rw[zH (F:=F.xn) rfl];exact nE (areSizes m) h
 have vE:∀m,gy (zG T (m+5)):=λm zs v s h h1 h2=>by rw[zH (F:=F.xa) rfl];exact gK g (needSizes m) (wholes (m+2)) h h1 h2
 have needG:∀m,qZ (zG T (m+6)):=λm zs ns s h hd=>by rw[zH (F:=F.xl) rfl];exact oO (vE m) h hd
 have needDraft:∀m,wX (zG T (m+6)):=λm zs ns s h hd=>needG m zs ns s h (ab hd);have wth:∀m,uc (zG T (m+1)):=λm ns p h s h1 h2=>by rw[zH (F:=F.wj) rfl];exact Yv h1 h2
 have blank:∀m,gx (zG T (m+2)):=λm ds b s h=>by rw[zH (F:=F.wb) rfl];exact gG rfl (whole m) h
 have wrow:∀m,Vw (zG T (m+2)):=λm zs ds b c s h1 h2 h3 h4=>by rw[zH (F:=F31.y6) rfl];exact Yw rfl (whole m) (most m) (one m) h1 h2 h3 h4
 have cases':∀k m,me k (zG T (m+3))->bg k (zG T (m+4)):=λk m h zs ds b c s h1 h2 h3 h4 h5=>by rw[zH (F:=F31.wC) rfl];exact bD (blank (m+1)) (wth (m+2)) h h1 h2 h3 h4 h5
 have shows0:∀k m,me k (zG T (m+2*k+3)):=by
  intro k;induction k with
  |zero=>intro m zs ds v s h1 h2 h3;rw[zH (F:=F31.uF) rfl];exact mP rfl rfl (wrow m) (λj hj=>⋯) h1 h2 h3
  |succ k ih=>
   intro m zs ds v s h1 h2 h3;rw[show m+2*(k+1)+3=(m+2*k+4)+1 by omega,zH (F:=F31.uF) rfl]
   exact mP rfl rfl (wrow (m+2*k+2)) (λj hj=>by cases hj;exact cases' k (m+2*k) (ih m)) h1 h2 h3
 have paper:∀k,k<=6->∀m,j8 k (zG T (m+16)):=λk hk m zs ds v s h1 h2 h3=>by rw[zH (F:=F31.wc) rfl];exact bN (needG (m+9)) (by rw[show m+15=(m+12-2*k)+2*k+3 by omega];exact shows0 k _) h1 h2 h3
 have needWhole:∀m,sJ (zG T (m+2)):=λm i l k s h1 h2=>by rw[zH (F:=F.xq) rfl];exact nF (whole m) h1 h2
 have needSize:∀m,nN (zG T (m+3)):=λm i s h1 h2=>by rw[zH (F:=F.wH) rfl];exact lX g (needWhole m) h1 h2
 have needLength:∀m,qa (zG T (m+3)):=λm i s h1 h2=>by rw[zH (F:=F.xU) rfl];exact oP g (needWhole m) h1 h2
 have rat:∀m,CAt (zG T (m+4)):=λm a b d s h1 h2 h3 h4=>by rw[zH (F:=F.vL) rfl];exact RW (whole (m+2)) (needLength m) (needSize m) (most (m+2)) h1 h2 h3 h4
 have barring:∀m,pH (zG T (m+5)):=λm zs ns p h s h1 h2 h3 h4=>by rw[zH (F:=F.y0) rfl];exact jh (wth (m+3)) (rat m) (one (m+3)) h1 h2 h3 h4
 have unbarred:∀m,wY (zG T (m+6)):=λm zs ns p s h1 h2 h3=>by rw[zH (F:=F.wg) rfl];exact la (barring m) h1 h2 h3
 have blanks:∀m,tL (zG T (m+1)):=λm ms s=>by rw[zH (F:=F.wF) rfl];exact gH g
 have ways:∀m,b4 (zG T (m+2)):=λm zs ds s h=>by rw[zH (F:=F28.wK) rfl];exact Yu (blanks m) h
 have few1:∀m,UT (zG T (m+7)):=λm zs ds s h1 h2 h3=>by rw[zH (F:=F28.z6) rfl];exact VR (needDraft m) (ways (m+4)) h1 h2 h3
 have few2:∀m,Vu 32 (zG T (m+7)):=λm zs ds s h1 h2 h3=>by rw[zH (F:=F28.z6) rfl];exact Yn (needDraft m) (ways (m+4)) h1 h2 h3
 have fRow:∀m,rj (zG T (m+2)):=λm zs ns s h1 h2 h3=>by rw[zH (F:=F.yQ) rfl];exact bI (most m) (one m) h1 h2 h3
 have vq:∀m,fB (zG T (m+1)):=λm f d s=>by rw[zH (F:=F32.wJ) rfl];exact Ys rfl
 have casesP:∀k m,mX k (zG T (m+k+6)):=by
  intro k;induction k with
  |zero=>intro m zs ds bs s h1 h2 h3 h4 h5;rw[zH (F:=F32.yr) rfl];exact oK rfl (barring m) (wth (m+4)) (vq (m+4)) (λj hj=>⋯) h1 h2 h3 h4 h5
  |succ k ih=>
   intro m zs ds bs s h1 h2 h3 h4 h5;rw[show m+(k+1)+6=(m+k+6)+1 by omega,zH (F:=F32.yr) rfl]
   exact oK rfl (barring (m+k+1)) (wth (m+k+5)) (vq (m+k+5)) (λj hj=>by cases hj;exact ih m) h1 h2 h3 h4 h5
 have pf:∀m,nP (zG T (m+16)):=λm zs ds s h1 h2 h3 h4=>by rw[zH (F:=F32.wI) rfl];exact lZ rfl (few1 (m+8)) (fRow (m+13)) (blanks (m+14)) (λk hk=>by rw[show m+15=(m+9-k)+k+6 by omega];exact casesP k _) (vq (m+14)) h1 h2 h3 h4
 have costR:∀m,bj (zG T (m+1)):=λm b s=>by rw[zH (F:=F34.xR) rfl];exact bF
 have yS:∀m,bh (zG T (m+1)):=λm i ws b s h1 h2 h3=>by rw[zH (F:=F34.yh) rfl];exact bE h1 h2 h3
 have lp:∀bd k,k<=5->∀m,mZ bd k (zG T (m+3*k+4)):=λbd k=>by
  induction k with
  |zero=>
   intro hk m;have h1:mY bd 0 (zG T (m+3)):=λzs ds d kvs s q1 q2 q3 q4 q5 q6 q7=>by rw[zH (F:=F34.xG) rfl];exact oM ⋯ (fRow m) (vq (m+1)) (costR (m+1)) (blanks (m+1)) (λj e=>⋯) q1 q2 q3 q4 q5 q6 q7
   exact λzs ds d kvs s q1 q2 q3 q4 q5 q6 q7=>by rw[zH (F:=F34.xH) rfl];exact oN h1 q1 q2 q3 q4 q5 q6 q7
  |succ k ih=>
   intro hk m;have h0:fA bd k (zG T (m+3*k+5)):=λzs ds p d kvs s q1 q2 q3 q4 q5 q6 q7 q8 q9=>by rw[zH (F:=F34.vK) rfl];exact gO rfl (ih ⋯ m) (wth (m+3*k+3)) (yS (m+3*k+3)) q1 q2 q3 q4 q5 q6 q7 q8 q9
   have h1:mY bd (k+1) (zG T (m+3*k+6)):=λzs ds d kvs s q1 q2 q3 q4 q5 q6 q7=>by
    rw[zH (F:=F34.xG) rfl];exact oM hk (fRow (m+3*k+3)) (vq (m+3*k+4)) (costR (m+3*k+4)) (blanks (m+3*k+4)) (λj e=>by
     obtain rfl:j=k:=by omega
     exact h0) q1 q2 q3 q4 q5 q6 q7
   exact λzs ds d kvs s q1 q2 q3 q4 q5 q6 q7=>by rw[show m+3*(k+1)+4=(m+3*k+6)+1 by omega,zH (F:=F34.xH) rfl];exact oN h1 q1 q2 q3 q4 q5 q6 q7
 have lof:∀bd m,sg bd (zG T (m+20)):=λbd m zs ds s h=>by rw[zH (F:=F34.yk) rfl];exact jk rfl (few2 (m+12)) (lp bd 5 ⋯ m) h
 have ll:∀m,g9 "least_leaves" false (zG T (m+21)):=λm zs ds s h=>by rw[zH (F:=F34.y7) rfl];exact gN (lof false m) h
 have ld:∀m,g9 "least_depth" true (zG T (m+21)):=λm zs ds s h=>by rw[zH (F:=F34.xT) rfl];exact bG (lof true m) h
 have short:∀m,b3 (zG T (m+21)):=λm zs ds s h=>by rw[zH (F:=F34.xV) rfl];exact bO (lof false m) h
 have ff:∀m,CFF (zG T (m+7)):=λm zs ms s h1 h2=>by rw[zH (F:=F.y4) rfl];exact RX (blanks (m+5)) (unbarred m) h1 h2
 have run0:∀m,Rx (zG T (m+8)):=λm zs ds s h1 h2=>by rw[zH (F:=F.nR) rfl];exact VU (needDraft (m+1)) (ff m) (unbarred (m+1)) (wth (m+6)) h1 h2
 have isStrip:∀m,rk (zG T (m+3)):=λm ns s h=>by rw[zH (F:=F.wd) rfl];exact lW g4 (wholes m) h
 have needStrip:∀m,qb (zG T (m+4)):=λm ns s h=>by rw[zH (F:=F.xp) rfl];exact oQ (isStrip m) h
 have fHue:∀m,br (zG T (m+1)):=λm zs ns s=>by rw[zH (F:=F.yP) rfl];exact bH
 have fw:∀m,lx (zG T (m+5)):=λm zs ns s h1 h2=>by rw[zH (F:=F.xS) rfl];exact jj (needSizes m) (needStrip m) (fHue (m+3)) (fRow (m+2)) h1 h2
 have fits:∀m,bu (zG T (m+6)):=λm zs ns s h1 h2=>by rw[zH (F:=F.rm) rfl];exact bJ (fw m) h1 h2
 have fill0:∀m,bt (zG T (m+8)):=λm zs ds s h1 h2 h3=>by rw[zH (F:=F28.yz) rfl];exact Yp rfl (few1 m) (fRow (m+5)) (blanks (m+6)) (unbarred (m+1)) (wth (m+6)) h1 h2 h3
 have many:∀m,nM (zG T (m+9)):=λm zs ds s h1 h2 h3=>by rw[zH (F:=F28.yi) rfl];exact lV (fill0 m) h1 h2 h3
 have first:∀m,pI (zG T (m+9)):=λm zs ds s h1 h2 h3=>by rw[zH (F:=F28.yj) rfl];exact nD (fill0 m) h1 h2 h3
 have keeps:∀m,bw (zG T (m+1)):=λm ds t s=>by rw[zH (F:=F28.tP) rfl];exact bK rfl
 have isFill:∀m,g7 (zG T (m+7)):=λm zs ds t s h1 h2 h3=>by rw[zH (F:=F28.xj) rfl];exact gM (needDraft m) (isStrip (m+3)) (keeps (m+5)) (fits m) h1 h2 h3
 have clean:∀m,j5 (zG T (m+7)):=λm zs ns s h hd=>by rw[zH (F:=F28.tM) rfl];exact gI (needDraft m) (fRow (m+4)) h hd
 have leavW:∀k m,j7 k (zG T (m+k+1)):=by
  intro k;induction k with
  |zero=>intro m v s h;exact h.elim
  |succ k ih=>
   intro m v s h;rw[show m+(k+1)+1=(m+k+1)+1 by omega,zH (F:=F36.yl) rfl]
   exact bM rfl (λj hj=>by cases hj;exact ih m) h
 have depW:∀k m,bp k (zG T (m+k+1)):=by
  intro k;induction k with
  |zero=>intro m v s h;exact h.elim
  |succ k ih=>
   intro m v s h;rw[show m+(k+1)+1=(m+k+1)+1 by omega,zH (F:=F36.y3) rfl]
   exact Yl rfl (λj hj=>by cases hj;exact ih m) h
 have needPap:∀m,pJ (zG T (m+17)):=λm zs ds v s h=>by rw[zH (F:=F36.xm) rfl];exact jn (λk hk=>paper k hk m) h
 have leaves:∀m,ma (zG T (m+18)):=λm zs ds v s h=>by rw[zH (F:=F36.vv) rfl];exact jm (needPap m) (λk hk=>by rw[show m+17=(m+16-k)+k+1 by omega];exact leavW k _) h
 have depth:∀m,j6 (zG T (m+18)):=λm zs ds v s h=>by rw[zH (F:=F36.tN) rfl];exact gJ (needPap m) (λk hk=>by rw[show m+17=(m+16-k)+k+1 by omega];exact depW k _) h
 have right:∀m,nO (zG T (m+19)):=λm zs ds v s h=>by rw[zH (F:=F36.yF) rfl];exact lY (leaves m) (depth m) (clean (m+11)) (λk hk=>paper k hk (m+2)) h
 have cell:∀m,Vt (zG T (m+1)):=λm ns k s=>by obtain⟨c,h⟩:=Yk (T:=T) (Φ:=zG T m) (s:=s) ns k;exact⟨c,by rw[zH (F:=F.yY) rfl];exact h⟩
 have pen:∀m,Rw (zG T (m+1)):=λm c s=>by obtain⟨a,b,h,h2⟩:=VT (T:=T) (Φ:=zG T m) (s:=s) c;exact⟨a,b,by rw[zH (F:=F.yn) rfl];exact h,h2⟩
 have draw:∀m,bq (zG T (m+1)):=λm p k s h1 h2 h3=>by rw[zH (F:=F.xZ) rfl];exact Ym h1 h2 h3
 have few:∀m,Vv (zG T (m+2)):=λm p s h=>by rw[zH (F:=F31.wZ) rfl];exact Yo (draw m) h
 have ended:∀m,g6 (zG T (m+1)):=λm zs fs q h s h1 h2 h3 h4=>by rw[zH (F:=F31.ym) rfl];exact gL h1 h2 h3 h4
 have knot:∀m,bx (zG T (m+2)):=λm p zs a b s h1 h2 h3 h4=>by rw[zH (F:=F31.wB) rfl];exact bL (draw m) (ended m) h1 h2 h3 h4
 exact⟨cell (n+21),pen (n+21),few (n+20),knot (n+20),pf (n+6),short (n+1),many (n+13),run0 (n+14),ll (n+1),ld (n+1),first (n+13),isFill (n+15),right (n+3),leaves (n+4),depth (n+4),clean (n+15)⟩
def T9 ns:∃s',zG T 23 "law" 0 [.p ns] []=.e (.e true) s':=by
 obtain⟨v,s',h,rfl⟩:=Zp (cs 22 ⋯) ns
 exact⟨s',by rw[zH (F:=nQ) rfl];exact h⟩
end P36
end
section
open PySem PySem.W PyProof.Rows
def P36.hx:P36.nQ.a=[("_law_script":Str)]:=by kernel_rfl
def P36.hF:(M.tbl P36.fnL P36.glL).c P36.dd.name 0=some P36.nQ:=by kernel_rfl
def P36.hgl:P36.glL=P36.gl.map λp=>(p.1,M.gv p.2):=by kernel_rfl
theorem PySem.Challenge.cw_evenhues_k36_whole_papers_holds : PySem.Challenge.rw_evenhues_k36_whole_papers.Holds := by
 exact M.close (n:=23) P36.Ra P36.left P36.hgl P36.U1 P36.hp P36.hk P36.hwr P36.ok P36.bare P36.hw (by kernel_rfl) P36.hdf ⟨rfl,by decide,by decide,rfl⟩ P36.hF P36.hx P36.Rl (λns _=>P36.T9 ns)
end
end
