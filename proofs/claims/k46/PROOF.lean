import PyProof.Rows.All
import Wide.All
import OpenK.AllK
import Wide.FinOn
import Lean
import PyProof.EqAt
import PyProof.EqKinds
import PyProof.TupleCall
import KE.KTryMore
import PyProof.P3Eq
import PyProof.NeData
import PyProof.P3In
import PyProof.Rows.EnumRows
import PyProof.ZipIter
import PyProof.Rows.SetFrom
import PyProof.ExcClass
import OpenK.KRaise
import PyProof.ExcBaseAll.ValueError
import KE.KLam
import PyProof.ExcArgsOwn
import PyProof.IsiH_list
import PySem.Challenge.RW_evenhues_k46_strips_that_do_not_fit
set_option genSizeOf false
set_option genSizeOfSpec false
set_option bootstrap.genMatcherCode false
set_option Elab.async false
set_option linter.all false
set_option maxRecDepth 100000
set_option maxHeartbeats 4000000
set_option autoImplicit true
set_option relaxedAutoImplicit true
noncomputable section
open And renaming intro->Ad
open Array renaming length_toList->CU
open Bool renaming and_eq_true->cf,false_ne_true->xd,or_eq_true->Ax,not_eq_true'->AG,false_eq_true->AO,eq_iff_iff->BK,and_eq_true_iff->CH,false_and->Dd,or_eq_false_iff->Dp,or_true->ES,and_self->Ft,false_or->Gz,and_true->GA
open False renaming elim->Ay
open ForInStep renaming yield->Cb
open Iff renaming rfl->CK
open Int renaming toNat_natCast->Bl,fdiv_eq_ediv_of_nonneg->Du,fmod_eq_emod_of_nonneg->Dv,natCast_mul->DH,emod_lt_of_pos->DY,le_refl->Ee,natCast_ediv->Eo,le_trans->EO,emod_nonneg->EW
open LawfulBEq renaming eq_of_beq->Ct
open LawfulMonad renaming pure_bind->DR
open List renaming getElem?_eq_getElem->Aa,length_map->Ab,size_toArray->Ae,mem_cons_of_mem->Ah,mem_cons->Aj,replicate->Ak,length_append->Al,getElem?_eq_some_iff->Am,lookup_cons->An,range->Ao,mem_cons_self->Ap,all_eq_true->Aq,mem_range->Ar,mem_singleton->Av,getD_eq_getElem?_getD->Aw,mem_of_getElem?->AE,length_cons->AF,isEmpty_iff->AL,getElem?_set_self->AM,map_cons->AN,mem_map->AQ,getElem?_map->AR,mem_append->AS,getElem?_append_left->AU,filterMap_cons->A0,append_nil->A5,getElem?_append_right->A7,mem_append_right->A8,any_eq_true->Bk,append_assoc->Bo,mem_append_left->Bp,not_mem_nil->Bs,replicate_succ->Bv,length_range->Bx,contains_cons->BE,getElem?_set_ne->BF,flatMap_cons->BH,getElem_of_mem->BI,mem_filter->BJ,all_cons->BR,length_nil->BW,nodup_cons->BX,length_take->B1,length_replicate->B3,filterMap_map->B4,length_set->B9,flatten_cons->Cc,mem_flatMap->Cg,mem_filterMap->Cq,length_singleton->Cv,pairwise_map->CA,getElem?_eq_none_iff->CB,length_drop->CM,cons_append->CO,countP_cons->CP,getElem?_replicate->CV,any_cons->CW,pairwise_cons->C1,filter_eq_nil_iff->C9,pairwise_lt_range->Dc,getElem_mem->Dn,getElem?_of_mem->Dq,mem_of_mem_take->Dr,count_eq_length->Ds,length_pos_iff->DA,nil_append->DE,map_append->DF,drop_eq_getElem_cons->DG,getElem?_take_of_lt->DP,map->DT,map_map->DZ,foldl->D2,length->Ed,findIdx?_eq_some_iff_getElem->Ef,flatMap_map->Ep,getElem?_toArray->EA,pairwise_flatMap->ED,of_mem_zip->EI,forIn_cons->EN,drop_zero->E1,set_comm->Ff,Pairwise->Fu,take_sublist->Fy,nodup_append->FH,length_filterMap_le->FZ,lookup_eq_none_iff->F3,flatMap_eq_nil_iff->F4,forIn_nil->Gn
open List.Pairwise renaming nil->FD
open Nat renaming le_refl->Ac,lt_of_lt_of_le->Au,le_trans->AD,ne_of_lt->AI,lt_irrefl->Be,mul_comm->Bz,zero_le->BC,le_div_iff_mul_le->BN,lt_succ_of_lt->Cz,mul_le_mul->CJ,lt_succ_self->CQ,le_succ->C8,lt_iff_add_one_le->Dh,min_le_right->Dj,mul_le_mul_right->Dm,mul_le_mul_left->Dz,div_le_self->DI,le_of_lt->DJ,ne_of_gt->DN,lt_of_sub_eq_succ->EB,le_of_eq->EU,zero_add->EV,succ_mul->FT,sub_zero->FW,add_mul->Ge
open Ne renaming symm->Bt
open Option renaming none->dS,map_eq_some_iff->A1,isNone_iff_eq_none->B5,isSome_iff_exists->B8,bind_eq_some_iff->D5,map_some->EF,getD_none->FQ
open Option.some renaming inj->AA,injEq->Fv
open Prod renaming ext->CL
open PyProof renaming noPylong_small->Eb
open PyProof.Rows renaming slot_tuple_getitem->AX,assignInOrder_cons->Cm,callWith_type1->Cp,boot_sorted->DX,joinParts_cons->D4,tupleItemsOf_->Ei,boot_min->EC,entry_tuple_getitem->EX,recsOf->EZ,args_tuple_getitem->E6,subscriptTail->Fi,assignInOrder_nil->Fx,Top->F0,boot_tuple->F2,Subscript_->Gu
open PySem renaming wpAny_bind->lp,wpAny_pure->Ag,sizeLine->As,Spec->AB,starEach->AJ,mainGlobals->AK,sizeLine_eq->AV,mem_of_lookup->AW,foldedSetIterable->AZ,wpAny_mono->A3,strLen_append->A4,compareOp->A6,wpAny_newObj_type->Bb,wpAny_loadPart_at->Bh,wpAny_standAt->Bi,sliceBounds->Bn,binaryOp->Br,wpAny_truthy_bool->Bw,letOwnedTupleGo->BA,treeTable->BD,call_meets->BL,wpAny_loadPart'->BM,wpAny_Call_Name_kw->BO,swappedStores->BQ,FuncData->BV,excClassObj->BZ,wpAny_holding->B0,sysModules->B6,bootBuiltins->B7,wpAny_callSpecial?_slot->Cf,wpAny_field->Cj,wpAny_pyIter_tuple->Co,cellsFrom->Cr,wpAny_passesOwn->Cu,assignEach->CC,wpAny_binaryOp_repeat_ref->CD,recursionLimit->CI,NameKind->CN,checkBuiltinCall->CT,attributeBase->CY,typeIs_int->C0,bindName->C6,codeAny_mono->De,wpAny_call_entry->Dk,behindInMarks->Dt,wpAny_isSubtype_exc->DB,wpAny_execs_nil->DC,inplaceOp->DM,compTurn->DS,wpAny_raiseStmt_made_sub->DU,codeAmong->DV,TriplesOk->DW,wpAny_rule->D0,wpAny_bindName->D1,wpAny_pyIter_list->D8,wpAny_pyIter_enum->Ea,assignInOrder->Eg,swapsWithSole->Eh,wpAny_execs_cons->Ek,noFill_tuple_add->El,Arguments->Er,swapsWith->Eu,wpAny_call->EH,wpAny_typeOf->EK,codeAny_call_builtin->ET,constantsAlone->E4,PassesOwn->E5,wpAny_newFunctionEnv_cells->Fg,seq_tuple_add->Fh,Comprehension->Fj,wpAny_letOwnedTupleGo_enum->Fo,foldedForSure->Fs,wpAny_sequenceKey->FA,slot_list_getitem->FC,wpAny_Call_ofName->FG,builtinsNs->FJ,typeLookup->FL,cameBackBy->FO,wpAny_getItem_list_slice->FR,wpAny_comprehension_free->FV,wpAny_pyNext_enum_itemD->F1,DictEntry->F5,importedModules->F6,isCodeTable->Gd,newFunctionEnv->Gm,wpAny_setField->Gp,bindArgs->Gs,closureFor->Gv,storeName->GB,lastMarks->GD,slicePick->GF
open PySem.Around renaming frames_deeper->EJ
open PySem.AutoSeq1 renaming idx_int->FX
open PySem.Builtin.List renaming listTooLong->DQ
open PySem.Builtin.Range renaming rangeSize->Ce
open PySem.Builtin.Slice renaming sliceAdjust->AY,slicePlaces->Bu,sliceApplied->Cw,sliceFields->FK
open PySem.Builtin.SmallTypes renaming nextOf->CG
open PySem.Builtin.Tuple renaming tupleExact->Bj,tupleItemsOf->Dw,tupleTooMany->Dx,tupleIsExact->Fm
open PySem.Calls renaming Constant_str->DL,evalArgs_plain->EL,Name_function_global->Fe
open PySem.Code renaming quiet_builtin->Fc
open PySem.Data renaming fields->Gb
open PySem.Expr renaming Name->Ez,JoinedStr->Gh,Attribute->Gi,Subscript->Gj,Constant->Gy
open PySem.Expr.Compare renaming elim->FE
open PySem.Expr.FormattedValue renaming elim->FU
open PySem.Expr.ListComp renaming elim->E8
open PySem.Expr.Tuple renaming elim->Ga
open PySem.F renaming args_tuple_add_2->BP,entry_tuple_add->BU,slot_tuple_add->BY,slot_int_rmul->Ca,slot_tuple_iterator_next->Cy,typeOf_object_class->Di,slot_tuple_mul->Dl,plainAttrs_list->D6,args_int_rmul_2->D9,slot_int_index->Em,entry_int_rmul->En,fills_int_mul->EM,slot_gs_get->EY,args_tuple_iterator_next_1->E2,args_tuple_mul_2->E9,entry_tuple_iterator_next->Fb,excBase_ValueError->Fp,excAttr_ValueError->Fq,entry_tuple_mul->FF
open PySem.Flow renaming next->GC
open PySem.Heap renaming get?_push_of_some->nx,lt_size->Ai,get?_push_size->Az,size_push->Bc,get?_update_other->C7,SameBut->DK,MadeExcOf->D3,get?_update_self->Ey,get?_none_of_le->EG
open PySem.Heap.IsSliceOf renaming new->E7
open PySem.NameKind renaming free->AH,cell->Bg,globalImplicit->D7
open PySem.Obj renaming mapSeq->FN
open PySem.Paired renaming length->Gx
open PySem.PyData renaming eqv->Ck,weightAll->FY,canLay0->Gq
open PySem.SeqAt renaming EqAt->A9
open PySem.Stmt renaming AugAssign->Gk
open PySem.Str renaming ofString->Df,empty->Ew
open PySem.Value renaming ref->A2,none->Ci,bool->CZ,builtin->Ej,type->FI,int->F7,str->F8
open PySem.Value.type renaming inj->Dg
open PySem.W renaming Frag->Af,behindTheImports->Bq,nsIn->By,kia_one->BB,fnOf->BG,codeIn->BS,keepIn->B2,topFrame->C4,mg_of->Dy,callWith_K->DO,cellsFrom_some->Ec,tabObj->E3,recOk->Fd,methodObj->Fw,openGood->FP,instObj->F9,lookIn->Gf,kitOne->Gg,piecesOf->Gr,fencedOpening->Gw
open Sum renaming inl->Es,inr->Et
open True renaming intro->Ba
section
namespace Hd
open PySem
inductive G where
 |a (i:Int)|c (x:Str)|b (ns:List Int)
noncomputable def args(s:Stmt):Er:=match s with
 |.FunctionDef _ a _ _ _ _ _ _ _ _=>a
 |_=>{posonlyargs:=[],args:=[],vararg:=none,kwonlyargs:=[],kw_defaults:=[],kwarg:=none,defaults:=[]}
noncomputable def body(s:Stmt):List Stmt:=match s with
 |.FunctionDef _ _ b _ _ _ _ _ _ _=>b
 |_=>[]
noncomputable def scope(s:Stmt):Scope:=match s with
 |.FunctionDef _ _ _ _ _ _ sc _ _ _=>sc
 |_=>{kind:=.function,names:=[],isGenerator:=false,isCoroutine:=false}
noncomputable def posOf(s:Stmt):Pos:=match s with
 |.FunctionDef _ _ _ _ _ _ _ _ _ p=>p
 |_=>⟨0,0,0,0⟩
def VA(x:Str)(st:Stmt):DefRec:=⟨x,args st,body st,scope st,posOf st⟩
noncomputable def QP:List Str:=["len","all","any","tuple","list","sorted","repr","max","min","sum","int","isinstance","divmod","str","bool","dict","set","range","enumerate","zip"]
noncomputable def m6:List Value->Option (List Int)
 |[]=>some []
 |.int i _::r=>(m6 r).map (i::·)
 |_=>none
noncomputable def nsH(h:Heap)(x:Str):Option (Option Value):=match h.get? AK with
 |some o=>By [(AK,o)] AK x
 |none=>none
noncomputable def Tg(fd:BV):BV:={fd with kwdefaults:=.none,doc:=.none,pyModule:=.none,annotations:=none,code:=.none,closureTuple:=.none}
noncomputable def xj(o:Obj):Bool:=(match o.cls with|.none=>true|_=>false)&&(match o.data with|.fields _=>true|_=>false)
def d6(h:Heap)(cd:Value)(x:Str):Bool:=match cd with
 |.ref c=>(match h.get? c with
  |some o=>!xj o&&BS [(c,o)] (.ref c) x
  |none=>false)
 |_=>false
def Yy(h:Heap)(x:Str):Option BV:=match nsH h x with
 |some (some (.ref f))=>(match h.get? f with
  |some ⟨_,_,.func fd,_⟩=>if d6 h fd.code x then some (Tg fd) else none
  |_=>none)
 |_=>none
def Xy(p:Str × Stmt):Option BV:=some (BG p.1 p.1 (args p.2) (body p.2) (scope p.2) .none .none .none .none none .none .none)
def glB(h:Heap)(x:Str):G->Bool
 |.a i=>(match nsH h x with|some (some (.int j _))=>decide (i=j)|_=>false)
 |.c y=>(match nsH h x with|some (some (.str z _))=>decide (y=z)|_=>false)
 |.b ns=>(match nsH h x with
  |some (some (.ref a))=>(match h.get? a with
   |some ⟨.type n,_,.seq us _,_⟩=>decide (n="tuple")&&decide (us.toList.length<=1000)&&decide (m6 us.toList=some ns)
   |_=>false)
  |_=>false)
def blB(h:Heap)(x:Str):Bool:=match nsH h x with|some none=>true|_=>false
def aC(D:List (Str × Stmt))(gl:List (Str × G))(s:Shared):List (Option BV) × Bool:=(D.map λp=>Yy s.heap p.1,gl.all (λp=>glB s.heap p.1 p.2)&&QP.all λx=>blB s.heap x)
def Zi(D:List (Str × Stmt)):List (Option BV) × Bool:=(D.map Xy,true)
end Hd
end
section
namespace Hd
open PySem PySem.W
noncomputable def hsh(w:World)(x:Str):Int:=reduceHash (w.params.strHash x.cps)
def ent(w:World)(x:Str)(t:Tok)(v:Value):F5:=⟨hsh w x,.str x t,v⟩
def Zz(w:World)(n:Nat)(t:Tok)(b:Addr)(md:Value)(x:Str)(l:Int):List Obj:=
 [{cls:=.type "tuple",data:=.seq #[.ref b]},
  {cls:=.type "builtin_function_or_method",data:=.fields #[.builtin "type.__prepare__",.type "type"]},
  {cls:=.type "dict",data:=.dict #[ent w "__module__" (t+7) md,ent w "__qualname__" (t+9) (.str x (t+8)),ent w "__firstlineno__" (t+11) (.int l (t+10)),ent w "__static_attributes__" (t+12) (.ref (n+7))] 4},
  {cls:=.type "tuple",data:=.seq #[]},
  {cls:=.none,data:=.fields #[]},
  {cls:=.type "code",data:=.fields #[.str x (t+2),.str x (t+3),.str "/claim/cut.py" (t+4),.int l 0,.int 0 0,.int 0 0,.int 0 0,.int 0 0,.ref (n+3),.bool false,.int 181 0,.ref (n+4),.none,.none,.none,.none,.int (t+5) 0,.int l 0,.str "/claim/cut.py" (t+6)]},
  {cls:=.type "frame",data:=.plain,slots:=#[some (.ref (n+5)),some (.ref 3),some (.ref (n+2)),none,some md,none,some (.ref 0)]},
  {cls:=.type "tuple",data:=.seq #[]},
  {cls:=.type "dict",data:=.dict #[ent w "__module__" (t+7) md,ent w "__firstlineno__" (t+11) (.int l (t+10)),ent w "__static_attributes__" (t+12) (.ref (n+7)),ent w "__doc__" (t+13) .none] 2},
  {cls:=.type "type",data:=.cls {name:=x,bases:=[.ref b],mro:=[.ref (n+9),.ref b,.type "ValueError",.type "Exception",.type "BaseException",.type "object"],ns:=n+8,qualname:=x},slots:=#[some (.ref n),none,some (.str x t),some (.str x (t+8)),some (.builtin "ValueError.__new__"),some (.bool true)]},
  {cls:=.type "super",data:=.fields #[.ref (n+9),.ref (n+9),.ref (n+9)]},
  {cls:=.type "builtin_function_or_method",data:=.fields #[.builtin "object.__init_subclass__",.ref (n+9)]}]
def dn(w:World)(b:Addr)(md:Value):Nat->Nat->List (Str × Int)->List Obj
 |_,_,[]=>[]
 |n,t,c::cs=>Zz w n t b md c.1 c.2++dn w b md (n+12) (t+16) cs
def cV(w:World):Nat->Nat->List (Str × Int)->List F5
 |_,_,[]=>[]
 |n,t,c::cs=>ent w c.1 (t+15) (.ref (n+9))::cV w (n+12) (t+16) cs
noncomputable def dy:Nat->List (Str × Int)->List Value
 |_,[]=>[]
 |n,c::cs=>.int c.2 0::.int 0 0::.ref (n+5)::dy (n+12) cs
noncomputable def ZW:Nat->List (Str × Int)->List Value
 |_,[]=>[]
 |n,_::cs=>.ref (n+9)::ZW (n+12) cs
noncomputable def Qr(es':List F5):Obj->Obj
 |⟨c,d,.dict es n,s⟩=>⟨c,d,.dict ⟨es.toList++es'⟩ (n+es'.length),s⟩
 |o=>o
noncomputable def Qt(vs':List Value):Obj->Obj
 |⟨c,d,.fields vs,s⟩=>⟨c,d,.fields ⟨vs.toList++vs'⟩,s⟩
 |o=>o
noncomputable def Qs(vs':List Value):Obj->Obj
 |⟨c,d,.cls k,s⟩=>⟨c,d,.cls {k with subclasses:=k.subclasses++vs'},s⟩
 |o=>o
noncomputable def atL(f:Obj->Obj):Nat->List Obj->List Obj
 |_,[]=>[]
 |0,o::os=>f o::os
 |n+1,o::os=>o::atL f n os
noncomputable def cA(st:Stmt):Stmt:=match st with
 |.ClassDef _ _ _ b _ _ _ _ _ _ _=>b.getD 0 st
 |_=>st
def TC(w:World)(n:Nat)(t:Tok)(b:Addr)(md:Value)(st:Stmt)(l:Int):List Obj:=
 let x:Str:="TooGreat";let f:BV:={name:="__init__",qualname:="TooGreat.__init__",params:=args (cA st),body:=.stmts (body (cA st)),scope:=scope (cA st),globals:=0,closure:=[],defaults:=.none,kwdefaults:=.none}
 [{cls:=.type "tuple",data:=.seq #[.ref b]},
  {cls:=.type "builtin_function_or_method",data:=.fields #[.builtin "type.__prepare__",.type "type"]},
  {cls:=.type "dict",data:=.dict #[ent w "__module__" (t+7) md,ent w "__qualname__" (t+9) (.str x (t+8)),ent w "__firstlineno__" (t+11) (.int l (t+10)),ent w "__init__" (t+20) (.ref (n+13)),ent w "__static_attributes__" (t+23) (.ref (n+14))] 5},
  {cls:=.type "tuple",data:=.seq #[]},
  {cls:=.none,data:=.fields #[.int (l+2) 0,.int 4 0,.ref (n+12)]},
  {cls:=.type "code",data:=.fields #[.str x (t+2),.str x (t+3),.str "/claim/cut.py" (t+4),.int l 0,.int 0 0,.int 0 0,.int 0 0,.int 0 0,.ref (n+3),.bool false,.int 181 0,.ref (n+4),.none,.none,.none,.none,.int (t+5) 0,.int l 0,.str "/claim/cut.py" (t+6)]},
  {cls:=.type "frame",data:=.plain,slots:=#[some (.ref (n+5)),some (.ref 3),some (.ref (n+2)),none,some md,none,some (.ref 0)]},
  {cls:=.type "tuple",data:=.seq #[]},
  {cls:=.none,data:=.fields #[]},
  {cls:=.type "tuple",data:=.seq #[.str "self" (t+15),.str "many" (t+16),.str "most" (t+17)]},
  {cls:=.type "tuple",data:=.seq #[]},
  {cls:=.none,data:=.func f},
  {cls:=.type "code",data:=.fields #[.str "__init__" (t+12),.str "TooGreat.__init__" (t+13),.str "/claim/cut.py" (t+14),.int (l+2) 0,.int 3 0,.int 0 0,.int 0 0,.int 3 0,.ref (n+7),.bool true,.int 181 0,.ref (n+8),.none,.ref (n+9),.ref (n+10),.ref (n+11),.int (t+18) 0,.int (l+2) 0,.str "/claim/cut.py" (t+19)]},
  {cls:=.type "function",data:=.func {f with globals:=3,pyModule:=md,code:=.ref (n+12)}},
  {cls:=.type "tuple",data:=.seq #[.str "many" (t+21),.str "most" (t+22)]},
  {cls:=.type "dict",data:=.dict #[ent w "__module__" (t+7) md,ent w "__firstlineno__" (t+11) (.int l (t+10)),ent w "__init__" (t+20) (.ref (n+13)),ent w "__static_attributes__" (t+23) (.ref (n+14)),ent w "__doc__" (t+24) .none] 2},
  {cls:=.type "type",data:=.cls {name:=x,bases:=[.ref b],mro:=[.ref (n+16),.ref b,.type "ValueError",.type "Exception",.type "BaseException",.type "object"],ns:=n+15,qualname:=x},slots:=#[some (.ref n),none,some (.str x t),some (.str x (t+8)),some (.builtin "ValueError.__new__"),some (.bool true)]},
  {cls:=.type "super",data:=.fields #[.ref (n+16),.ref (n+16),.ref (n+16)]},
  {cls:=.type "builtin_function_or_method",data:=.fields #[.builtin "object.__init_subclass__",.ref (n+16)]}]
def tgF(w:World)(n t:Nat)(b:Addr)(md:Value)(cs:List (Str × Int))(st:Stmt)(l:Int)(s:Shared):Shared:=
 let m:=n+12*cs.length;let u:=t+16*cs.length
 {s with toks:=u+27,heap:={s.heap with objs:=⟨atL (Qr (cV w n t cs++[ent w "TooGreat" (u+26) (.ref (m+16))])) 3 (atL (Qt (dy n cs++[.int l 0,.int 0 0,.ref (m+5)])) 12 (atL (Qs (ZW n cs++[.ref (m+16)])) b s.heap.objs.toList))++(dn w b md n t cs++TC w m u b md st l)⟩}}
noncomputable def uC(p:Program):Env:={scope:=p.main.scope,locals:=mainNs,globals:=mainNs,cells:=[],code:=.ref 13,frame:=some 14}
noncomputable def ou:Option Value:=some (.ref 6)
noncomputable def S0(p:Program)(w:World):Shared:=(Gw BD p w 100000).getD (start (opening p)).1
def SA(p:Program)(w:World):Shared:=((topGo BD p w 11 ou 12 (S0 p w) (topStub p)).map Prod.fst).getD (S0 p w)
noncomputable def Bd(p:Program)(k:Nat):List Stmt:=(Bq p).take 2++(((Bq p).drop 2).take k++(Bq p).drop (2+k))
def Cd(p:Program)(k:Nat):Code:=.body (Bd p k) (uC p)
def S1(p:Program)(k:Nat)(w:World):Shared:=((segRun BD p w 11 ou 1 1000 (SA p w) (Gr ((Bq p).take 2) (uC p) (Cd p k) default [C4 default])).map λr=>r.2.1).getD (SA p w)
noncomputable def Ug(l:Nat):Pos:=⟨l,0,l+1,8⟩
noncomputable def Uh(l:Nat):Pos:=⟨l,0,l+5,24⟩
def S3(p:Program)(cs:List (Str × Int))(l:Nat)(w:World):Shared:=tgF w 28 207 24 (.str "evenhues.errors" 187) cs ((Bq p).getD (2+cs.length) (.Pass ⟨0,0,0,0⟩)) l (S1 p (cs.length+1) w)
noncomputable def To(p:Program)(h:Heap)(z:Shared):Bool:=staticsOk (F6 p.main.body) h z.heap&&namesBound p z.heap&&gensDone z&&laidKept h z.heap
def chk(p:Program)(h:Heap)(z:Shared):Option Shared:=match To p h z with
 |true=>some z
 |false=>none
theorem fK{Yf}{Ya:World->α}{T0 TA T1 T2:World->Shared}
 (hc:cd=.body (l1++(l2++l3)) env)
 (h0:∀w,Gw BD p w N=some (T0 w))
 (h1:∀w,((T0 w).heap.isNs AK&&(T0 w).gens.size == 0,(T0 w).heap.objs.size,(T0 w).heap.nsMap AK "__annotations__")=(true,m,ann))
 (hA:∀w,topGo BD p w m ann k0 (T0 w) (topStub p)=some (TA w,⟨denote BD (.body (l1++(l2++l3)) env),cd,b0,[C4 qq]⟩))
 (hB:∀w,segRun BD p w m ann 1 1 (TA w) (blockOf (l1++(l2++l3)) env cd b0 [C4 qq])=some (.next,TA w,cd,b0))
 (hC:∀w,segRun BD p w m ann 1 n1 (TA w) (Gr l1 env cd b0 [C4 qq])=some (.next,T1 w,cd,b1))
 (hD:∀w,segRun BD p w m ann 1 n2 (T1 w) (Gr l2 env cd b1 [C4 qq])=some (.next,T2 w,cd,b2))
 (hE:∀w,((topRun BD p w m ann n3 (T2 w) (restOf l3 env cd b2 [C4 qq])).bind (chk p (T0 w).heap)).map (λz=>(openSeen q loose (F6 p.main.body) Xt true z,Yf z))=some (FP q loose,Ya w))
 (le:Nat.ble (k0+(1+(n1+(n2+n3)))) N=true):LeftO p q loose Xt Yf Ya N:=λw=>by
 have hs:=h1 w;simp only[Prod.mk.injEq]at hs;obtain⟨r,k1,k2⟩:=A1.mp (hE w);obtain⟨r',k3,k4⟩:=D5.mp k1;have go:=topRun_mono (N-(k0+(1+(n1+(n2+n3))))) _ _ _ _ (go_top (hA w) (piece_block (hB w) (piece_app (hC w) (piece_app (hD w) k3))));rw[Nat.add_sub_cancel' (Nat.le_of_ble_eq_true le)]at go;have tf:topFrom BD p w N (T0 w)=some r:=by unfold topFrom;rw[hs.1,hs.2.1,hs.2.2];dsimp only;rw[go];unfold chk To at k4;exact k4
 unfold openEnds;rw[h0 w,Option.bind_some,tf];exact congrArg some k2
theorem glue{α β γ δ ε:Type}{o:Option Shared}{f:Shared->α × β × γ × δ}{g}{v}{u:ε}(h0:o.map (λz=>(f z).1)=some v.1)(h1:o.map (λz=>(f z).2.1)=some v.2.1)(h2:o.map (λz=>(f z).2.2.1)=some v.2.2.1)(h3:o.map (λz=>(f z).2.2.2)=some v.2.2.2)(h4:o.map g=some u):o.map (λz=>(f z,g z))=some (v,u):=by
 cases o with
 |none=>cases h4
 |some z=>
  obtain⟨a,b,c,d⟩:=v;exact congrArg some (CL (CL (AA h0) (CL (AA h1) (CL (AA h2) (AA h3)))) (AA h4))
end Hd
end
section
namespace Hd
open PySem PySem.W
structure XT where
 a:List Str
 c:List Str
 b:List Str
def adH(h:Heap)(x:Str):Option Addr:=match nsH h x with
 |some (some (.ref a))=>some a
 |_=>none
def W8(h:Heap)(x:Str):List (Addr × Obj):=match adH h x with
 |some a=>(match h.get? a with
  |some o=>(match o.data with
   |.cls cd=>(a,o)::(match h.get? cd.ns with
    |some n=>if xj n then [] else [(cd.ns,n)]
    |none=>[])
   |_=>[])
  |none=>[])
 |none=>[]
def kcH(h:Heap):List Str->Frag
 |[]=>[]
 |x::xs=>W8 h x++kcH h xs
noncomputable def veM:List Value:=[.type "ValueError",.type "Exception",.type "BaseException",.type "object"]
noncomputable def Zp(K:Frag)(C:Addr):Bool:=(findIn K (.ref C) "__getattribute__" == some (some (.builtin "BaseException.__getattribute__")))&&(findIn K (.ref C) "__getattr__" == some none)&&(findIn K (.ref C) "__class__" == some (some (.builtin "object.__class__"))) &&
 (subIn K (.ref C) (.type "BaseException") == some true)&&(subIn K (.ref C) (.type "object") == some true)&&(clsIn K C).isSome
def b7(h:Heap)(C:Addr)(bm:List Value):Bool:=match h.get? C with
 |some o=>(match o.data with
  |.cls cd=>(cd.mro == .ref C::bm)&&(match h.get? cd.ns with
   |some n=>!xj n
   |none=>false)
  |_=>false)
 |none=>false
def bmB(h:Heap):Bool:=match adH h "__builtins__" with
 |some b=>(match h.get? b with
  |some o=>!xj o
  |none=>false)
 |none=>false
def jw(h:Heap)(x:Str):Option Addr:=match adH h x with
 |some f=>(match h.get? f with
  |some o=>(match o.data with
   |.func fd=>(match fd.code with
    |.ref c=>(match h.get? c with
     |some oc=>(match oc.data with
      |.fields vs=>(match (vs[11]?:Option Value) with
       |some (.ref P)=>some P
       |_=>none)
      |_=>none)
     |none=>none)
    |_=>none)
   |_=>none)
  |none=>none)
 |none=>none
def nt(X:XT)(h:Heap):Bool:=match adH h "HueError" with
 |none=>false
 |some hue=>X.a.all (λc=>(adH h c).isSome)&&blB h "ValueError"&&X.c.all (λc=>match adH h c with
  |none=>false
  |some C=>Zp (kcH h ("HueError"::X.a)) C&&(exmOne (kcH h ("HueError"::X.a)) (.ref C) (.ref hue) == some true)&&X.a.all (λd=>kitOne (kcH h ("HueError"::X.a)) (.ref C) (.ref ((adH h d).getD 0)) == some (decide (d=c))) &&
   (kitOne (kcH h ("HueError"::X.a)) (.ref C) (.type "ValueError") == some true)&&b7 h C (.ref hue::veM)) &&
  b7 h hue veM&&bmB h&&decide ((X.b.map (jw h)).Nodup)
theorem T9{α β γ:Type}{z:Option γ}{f:γ->α}{g:γ->β}{p}{a}{b}(h1:z.map (λz=>(f z,g z))=some (a,b))(h2:z.map p=some true):z.map (λz=>(f z,(g z,p z)))=some (a,(b,true)):=by
 cases z with
 |none=>cases h1
 |some z=>
  simp only[EF,Fv,Prod.mk.injEq]at h1 h2 ⊢;exact⟨h1.1,h1.2,h2⟩
end Hd
end
section
set_option maxHeartbeats 0
open PySem PySem.W PyProof.Rows
namespace P46
noncomputable def top(i:Nat):Stmt:=PySem.Challenge.pw_evenhues_k46_strips_that_do_not_fit.main.body.getD i (.Pass ⟨0,0,0,0⟩)
def D:List (Str × Stmt):=(("is_whole":Str),top 22)::(("are_wholes":Str),top 23)::(("most_step":Str),top 25)::(("is_strip":Str),top 28)::(("need_strip":Str),top 29)::(("is_one_hue":Str),top 31)::(("are_sizes":Str),top 33)::(("need_sizes":Str),top 34)::(("fits":Str),top 35)::(("first_wrong":Str),top 36)::(("first_hue_wrong":Str),top 37)::(("first_row_wrong":Str),top 38)::(("product_of":Str),top 41)::(("need_small_sizes":Str),top 42)::(("may_follow":Str),top 43)::(("grown":Str),top 44)::(("need_fit":Str),top 46)::(("followers":Str),top 47)::(("leaders":Str),top 48)::(("hues_behind":Str),top 49)::(("hues_ahead":Str),top 50)::(("led_on":Str),top 51)::(("led_more":Str),top 52)::(("form_of":Str),top 56)::(("are_alike":Str),top 57)::(("alike_many":Str),top 58)::(("_law_cell_at":Str),top 60)::(("_law_pen":Str),top 61)::(("_law_draw":Str),top 62)::(("_law_sizes":Str),top 63)::(("_law_ended":Str),top 64)::(("_law_fitting":Str),top 65)::(("_law_class":Str),top 66)::(("_law_said":Str),top 67)::(("_law_one":Str),top 68)::(("_law_unfit":Str),top 69)::(("law":Str),top 70)::[]
noncomputable def gl:List (Str × Hd.G):=[("MOST_PLACES",.a 40),("LEAST_SIZE",.a 2),("MOST_SIZE",.a 8),("HUES",.b [0,1,2,3]),("MOST_PRODUCT",.a 12)]
def q:Program:={PySem.Challenge.pw_evenhues_k46_strips_that_do_not_fit with main:={PySem.Challenge.pw_evenhues_k46_strips_that_do_not_fit.main with body:=[1,2,3,4,5,6,7,8,9,10,11,12,13,14,15,16,17,19,20,21,22,23,25,27,28,29,31,33,34,35,36,37,38,40,41,42,43,44,46,47,48,49,50,51,52,54,55,56,57,58,60,61,62,63,64,65,66,67,68,69,70].map top}}
def dd:DefRec:=Hd.VA "law" (top 70)
noncomputable def X:Hd.XT:=⟨["NoStrip","NoSizes","NoNumber","NoPlace","NoHue","NoDraft","NoPaper","NoFit","NoLot","NoRing","NoRound","NoStand","NoText","NoDeed","NoLine","TooGreat"],["NoStrip","NoSizes","NoFit"],["_law_one","law"]⟩
noncomputable abbrev pr:Program:=PySem.Challenge.rw_evenhues_k46_strips_that_do_not_fit.row.prog
noncomputable def W9:List (Str × Int):=[("NoStrip",4),("NoSizes",6),("NoNumber",8),("NoPlace",10),("NoHue",12),("NoDraft",14),("NoPaper",16),("NoFit",18),("NoLot",20),("NoRing",22),("NoRound",24),("NoStand",26),("NoText",28),("NoDeed",30),("NoLine",32)]
def Fz(w:World):Option Shared:=(topRun BD pr w 11 Hd.ou 50000 (Hd.S3 pr W9 34 w) (restOf ((Bq pr).drop 18) (Hd.uC pr) (Hd.Cd pr 16) (Hd.Uh 34) [C4 default])).bind (Hd.chk pr (Hd.S0 pr w).heap)
def Sn(z:Shared):=openSeen q [] (F6 pr.main.body) (λs=>Fd PySem.Challenge.rw_evenhues_k46_strips_that_do_not_fit.row.records s) true z
theorem e2:∀w,(Fz w).map (λz=>(Sn z).2.2.1)=some (FP q []).2.2.1:=by
 intro w
 kernel_rfl
theorem e3:∀w,(Fz w).map (λz=>(Sn z).2.2.2)=some (FP q []).2.2.2:=by
 intro w
 kernel_rfl
theorem e1:∀w,(Fz w).map (λz=>(Sn z).2.1)=some (FP q []).2.1:=by
 intro w
 kernel_rfl
theorem e0:∀w,(Fz w).map (λz=>(Sn z).1)=some (FP q []).1:=by
 intro w
 kernel_rfl
theorem e4:∀w,(Fz w).map (Hd.aC D gl)=some (Hd.Zi D):=by
 intro w
 kernel_rfl
theorem e5:∀w,(Fz w).map (λz=>Hd.nt X z.heap)=some true:=by
 intro w
 kernel_rfl
theorem h0:∀w,Gw BD pr w 100000=some (Hd.S0 pr w):=by
 intro w
 kernel_rfl
theorem h1:∀w,((Hd.S0 pr w).heap.isNs AK&&(Hd.S0 pr w).gens.size == 0,(Hd.S0 pr w).heap.objs.size,(Hd.S0 pr w).heap.nsMap AK "__annotations__")=(true,11,Hd.ou):=by
 intro w
 kernel_rfl
theorem hA:∀w,topGo BD pr w 11 Hd.ou 12 (Hd.S0 pr w) (topStub pr)=some (Hd.SA pr w,⟨denote BD (.body (Hd.Bd pr 16) (Hd.uC pr)),Hd.Cd pr 16,default,[C4 default]⟩):=by
 intro w
 kernel_rfl
theorem hB:∀w,segRun BD pr w 11 Hd.ou 1 1 (Hd.SA pr w) (blockOf (Hd.Bd pr 16) (Hd.uC pr) (Hd.Cd pr 16) default [C4 default])=some (.next,Hd.SA pr w,Hd.Cd pr 16,default):=by
 intro w
 kernel_rfl
theorem hC:∀w,segRun BD pr w 11 Hd.ou 1 1000 (Hd.SA pr w) (Gr ((Bq pr).take 2) (Hd.uC pr) (Hd.Cd pr 16) default [C4 default])=some (.next,Hd.S1 pr 16 w,Hd.Cd pr 16,Hd.Ug 2):=by
 intro w
 kernel_rfl
theorem hD:∀w,segRun BD pr w 11 Hd.ou 1 20000 (Hd.S1 pr 16 w) (Gr (((Bq pr).drop 2).take 16) (Hd.uC pr) (Hd.Cd pr 16) (Hd.Ug 2) [C4 default])=some (.next,Hd.S3 pr W9 34 w,Hd.Cd pr 16,(Hd.Uh 34)):=by
 intro w
 kernel_rfl
theorem hE:∀w,(Fz w).map (λz=>(Sn z,Hd.aC D gl z))=some (FP q [],Hd.Zi D):=λw=>Hd.glue (e0 w) (e1 w) (e2 w) (e3 w) (e4 w)
theorem left:PySem.W.LeftO pr q [] (λs=>Fd PySem.Challenge.rw_evenhues_k46_strips_that_do_not_fit.row.records s) (λz=>(Hd.aC D gl z,Hd.nt X z.heap)) (λ_=>(Hd.Zi D,true)) 100000:=
 Hd.fK (p:=pr) (T0:=Hd.S0 pr) (TA:=Hd.SA pr) (T1:=Hd.S1 pr 16) (T2:=Hd.S3 pr W9 34) (N:=100000) (m:=11) (k0:=12) (n1:=1000) (n2:=20000) (n3:=50000) (ann:=Hd.ou) (env:=Hd.uC pr) (l1:=(Bq pr).take 2) (l2:=((Bq pr).drop 2).take 16) (l3:=(Bq pr).drop 18) (cd:=Hd.Cd pr 16) (b0:=default) (b1:=Hd.Ug 2) (b2:=(Hd.Uh 34)) (qq:=default) rfl h0 h1 hA hB hC hD (λw=>Hd.T9 (hE w) (e5 w)) (by decide +kernel)
theorem Uw:PySem.Challenge.rw_evenhues_k46_strips_that_do_not_fit.wellSaid=true:=by kernel_rfl
theorem cy:PySem.W.defOf q PySem.Challenge.rw_evenhues_k46_strips_that_do_not_fit.row.name=some (dd,[]):=by kernel_rfl
theorem hp:PySem.Challenge.rw_evenhues_k46_strips_that_do_not_fit.row.prog.theDef PySem.Challenge.rw_evenhues_k46_strips_that_do_not_fit.row.name=some (dd.params,dd.body,dd.scope):=by kernel_rfl
theorem hk:PySem.W.kwWritten? dd.params.kwonlyargs dd.params.kw_defaults=some []:=by kernel_rfl
theorem hwr:(!PySem.Challenge.rw_evenhues_k46_strips_that_do_not_fit.row.writes||PySem.Challenge.rw_evenhues_k46_strips_that_do_not_fit.row.records.isEmpty)=true:=by kernel_rfl
theorem ok:(PySem.W.chainsOk q&&PySem.W.opensWell PySem.Challenge.rw_evenhues_k46_strips_that_do_not_fit.row.prog&&(PySem.W.frees PySem.Challenge.rw_evenhues_k46_strips_that_do_not_fit.row.toRowW&&PySem.Challenge.rw_evenhues_k46_strips_that_do_not_fit.row.within.isEmpty))=true:=by kernel_rfl
theorem hdf:dd.params.defaults=[]:=by kernel_rfl
theorem bare:PySem.Challenge.rw_evenhues_k46_strips_that_do_not_fit.row.prog.bare:=⟨rfl,rfl,rfl,rfl,rfl,by decide +kernel⟩
theorem hw:PySem.Challenge.rw_evenhues_k46_strips_that_do_not_fit.row.toRowW.promised:=by w_witness2
end P46
end
section
namespace L2
open PySem PySem.Spec PyProof.Rows
abbrev Key:=Sum Int Str
noncomputable def WR:Key->Value->Bool
 |.inl k,v=>Value.isInt k v
 |.inr x,v=>Value.isStrOf x v
noncomputable def QW(w:World):Key->Int
 |.inl k=>hashInt k
 |.inr x=>hashStr w x
theorem yR:∀{k} {v},WR k v=true->(∃i t,k=Es i/\v=F7 i t)\/(∃x t,k=Et x/\v=F8 x t)
 |.inl i,v,h=>by
  obtain⟨t,e⟩:=Value.isInt_shape (k:=i) (v:=v) h;exact .inl ⟨i,t,rfl,e⟩
 |.inr x,v,h=>by obtain⟨t,e⟩:=Value.isStrOf_shape (x:=x) (v:=v) h;exact .inr ⟨x,t,rfl,e⟩
theorem Vy a b:decide ((Es a:Key)=Es b)=(a == b):=by
 by_cases e:a=b
 . subst e;simp
 . have h:¬(Es a:Key)=Es b:=λq=>e (Es.inj q)
   rw[decide_eq_false h];exact(beq_eq_false_iff_ne.mpr e).symm
theorem V1 a b:decide ((Et a:Key)=Et b)=decide (a=b):=by
 by_cases e:a=b
 . subst e;simp
 . have h:¬(Et a:Key)=Et b:=λq=>e (Et.inj q)
   rw[decide_eq_false h,decide_eq_false e]
theorem Vz a b:decide ((Es a:Key)=Et b)=false:=decide_eq_false (λq=>nomatch q)
theorem V0 a b:decide ((Et a:Key)=Es b)=false:=decide_eq_false (λq=>nomatch q)
def nW(prog:Program)(w:World):PySem.KeyKind prog w Key where
 is:=WR
 hash:=QW w
 inj:=λv a b ha hb=>by
  rcases yR ha with⟨i,t,rfl,rfl⟩|⟨x,t,rfl,rfl⟩
  . rcases yR hb with⟨j,u,rfl,e⟩|⟨y,u,rfl,e⟩
    . injection e with e1 _;rw[e1]
    . exact nomatch e
  . rcases yR hb with⟨j,u,rfl,e⟩|⟨y,u,rfl,e⟩
    . exact nomatch e
    . injection e with e1 _;rw[e1]
 byValue:=λk v h=>by
  rcases yR h with⟨i,t,rfl,rfl⟩|⟨x,t,rfl,rfl⟩<;>rfl
 pyHash:=λhv h=>by
  rcases yR hv with⟨i,t,rfl,rfl⟩|⟨x,t,rfl,rfl⟩
  . exact wpAny_pyHash_int h
  . exact wpAny_pyHash_str h
 eqBool:=λhu hv h=>by
  rcases yR hu with⟨i,t,rfl,rfl⟩|⟨x,t,rfl,rfl⟩
  . rcases yR hv with⟨j,u,rfl,rfl⟩|⟨y,u,rfl,rfl⟩
    . rw[Vy]at h;exact wpAny_eqBool_int h
    . rw[Vz]at h;exact A9.int_str i t y u _ _ _ _ h
  . rcases yR hv with⟨j,u,rfl,rfl⟩|⟨y,u,rfl,rfl⟩
    . rw[V0]at h;exact A9.str_int x t j u _ _ _ _ h
    . rw[V1]at h;exact wpAny_eqBool_str h
 «strs»:=λk x t v h=>by
  rcases yR h with⟨i,u,rfl,e⟩|⟨y,u,rfl,e⟩
  . exact nomatch e
  . injection e with e1 _
    subst e1;cases v<;>rfl
inductive V where
 |g|f (b:Bool)|d (i:Int)|e (x:Str)|h (b:Array UInt8)|j (b:UInt64)|c (a:Addr)|k (n:String)
 deriving DecidableEq
def RelV:V->Value->Prop
 |.g,u=>u=Ci
 |.f b,u=>u=CZ b
 |.d i,u=>∃t,u=F7 i t
 |.e x,u=>∃t,u=F8 x t
 |.h b,u=>∃t,u=Value.bytes b t
 |.j b,u=>∃t,u=Value.float b t
 |.c a,u=>u=A2 a
 |.k n,u=>u=FI n
abbrev Vals:List V->List Value->Prop:=Paired RelV
theorem Vals.length(r:Vals xs us):xs.length=us.length:=Gx r
theorem Vals.get:∀{xs} {us} {i:Nat} {x},Vals xs us->xs[i]?=some x->∃u,us[i]?=some u/\RelV x u
 |_,_,_,_,.nil,e=>by simp at e
 |_,_,0,_,.cons r _,e=>by simp at e;subst e;exact⟨_,rfl,r⟩
 |_,_,i+1,x,.cons _ t,e=>by
  obtain⟨u,h1,h2⟩:=Vals.get (i:=i) (x:=x) t (by simpa using e)
  exact⟨u,by simpa using h1,h2⟩
theorem Vals.set(r:RelV x u):∀{xs} {us} i,Vals xs us->Vals (xs.set i x) (us.set i u)
 |_,_,_,.nil=>.nil
 |_,_,0,.cons _ t=>.cons r t
 |_,_,i+1,.cons q t=>.cons q (Vals.set r i t)
theorem Vals.append:∀{xs ys} {us ws},Vals xs us->Vals ys ws->Vals (xs++ys) (us++ws)
 |_,_,_,_,.nil,s=>s
 |_,_,_,_,.cons r t,s=>.cons r (Vals.append t s)
theorem Vals.take:∀{xs} {us} n,Vals xs us->Vals (xs.take n) (us.take n)
 |_,_,0,_=>.nil
 |_,_,_+1,.nil=>.nil
 |_,_,n+1,.cons r t=>.cons r (Vals.take n t)
theorem Vals.drop:∀{xs} {us} n,Vals xs us->Vals (xs.drop n) (us.drop n)
 |_,_,0,r=>r
 |_,_,_+1,.nil=>.nil
 |_,_,n+1,.cons _ t=>Vals.drop n t
theorem Vals.none_of:∀{xs} {us} {i:Nat},Vals xs us->xs[i]?=none->us[i]?=none:=λ{xs us i} r e=>by have h1:=r.length;have h2:xs.length<=i:=CB.mp e;exact CB.mpr (by omega)
def Wy:Option V->Option Value->Prop
 |some v,some u=>RelV v u
 |none,none=>True
 |_,_=>False
def KV{κ:Type}:List (κ × V)->List (κ × Value)->Prop:=Paired λ(p:κ × V) (q:κ × Value)=>p.1=q.1/\RelV p.2 q.2
noncomputable def kV:Key->V
 |.inl i=>.d i
 |.inr x=>.e x
inductive HO where
 /-- a list -/
 |b (xs:List V)
 /-- a tuple (never changes) -/
 |c (xs:List V)
 /-- a dict whose keys are ints and texts;one whose keys are tuples of ints and texts (the empty one is both) -/
 |i (kvs:List (Key × V))|j (kvs:List (List Key × V))
 /-- a set of ints: its members,its size -/
 |l (S:Int->Bool) (n:Nat)
 /-- an instance of the class at C,its dict at dx,its attributes -/
 |k (C dx:Addr) (fs:List (Str × V))
 /-- the dict of the instance at x -/
 |d (x:Addr)
 /-- the dict of an exception -/
 |r (fs:List (Str × V))
 /-- a bound method,f of x -/
 |p (f x:Addr)
 /-- a range object lo,lo+1,.. below hi -/
 |q (lo hi:Int)
 /-- a thing that is known to the object (the script;a dict while a loop walks it): read,never written while it is so -/
 |e (o:Obj) (u:HO)
 /-- a code object's table -/
 |g (ps:Array Value)
 /-- any other thing,by what is true of its one object (a def of one's own: SetO a S n:=HO.ext λh=>..) -/
 |m (φ:Heap->Prop)
abbrev Hp:=Addr->Option HO
def tM(h:Heap)(a:Addr)(items:Array Value):Prop:=∃o,h.get? a=some o/\o.cls=.type "tuple"/\∃n,o.data=.seq items n/\o.dict=none
theorem tM.tup{h:Heap}{a:Addr}{items:Array Value}(x:tM h a items):IsTup h a items:=let ⟨o,e,c,n,d,_⟩:=x;⟨o,e,c,n,d⟩
theorem tM.lt(x:tM h a items):a<h.objs.size:=let ⟨_,e,_⟩:=x;Ai e
theorem tM.new(h:Heap)items:tM (h.push {cls:=.type "tuple",data:=.seq items}) h.objs.size items:=⟨_,Az _ rfl,rfl,_,rfl,rfl⟩
noncomputable def upd(H:Hp)(a:Addr)(o:HO):Hp:=λb=>if b=a then some o else H b
theorem zP:upd H a o a=some o:=by unfold upd;rw[if_pos rfl]
theorem zJ(h:b≠a):upd H a o b=H b:=by unfold upd;rw[if_neg h]
theorem zT{H:Hp}(h:H a=some o)(h':H b=none):a≠b:=by intro e;subst e;rw[h]at h';cases h'
section
variable (P:Program)(w:World)
def yL(H:Hp)(h:Heap)(a:Addr):HO->Prop
 |.b xs=>xs.length<=As/\∃(its:List Value) (n:Nat),Vals xs its/\h.get? a=some {cls:=.type "list",data:=.seq its.toArray n}
 |.c xs=>xs.length<=As/\∃its:List Value,Vals xs its/\tM h a its.toArray
 |.i kvs=>kvs.length<=As/\(a == B6)=false/\∃vs,KV kvs vs/\h.DictOf (nW P w) a vs
 |.j kvs=>kvs.length<=As/\(a == B6)=false/\∃xs:List (List Key × Addr × Value),
  Paired (λ(p:List Key × V) (q:List Key × Addr × Value)=>p.1=q.1/\H q.2.1=some (.c (p.1.map kV))/\RelV p.2 q.2.2) kvs xs /\
  ∃o es ep,h.get? a=some o/\o.ExactDict/\o.data=.dict es ep/\es.toList=xs.map (entryOfKey (tupleKind (nW P w)))/\(xs.map (·.1)).Nodup
 |.l S n=>h.SetOf (intKind P w) a S n
 |.k C dx fs=>H dx=some (.d a)/\fs.length<=1000/\dx≠a/\h.get? a=some (F9 C dx) /\
  ∃mA,h.Ns1 dx mA/\(∀f,Wy (fs.lookup f) (mA f))/\PySem.Within mA (fs.map (·.1))
 |.d _=>∃o,h.get? a=some o
 |.r fs=>∃mA,h.Ns1 a mA/\∀f,Wy (fs.lookup f) (mA f)
 |.q lo hi=>∃t u v,h.get? a=some {cls:=.type "range",data:=.fields #[.int lo t,.int hi u,.int 1 v]}
 |.e o u=>h.get? a=some o/\yL H h a u
 |.g ps=>h.get? a=some {cls:=.none,data:=.fields ps}
 |.p f x=>h.get? a=some (Fw (.ref f) (.ref x))
 |.m φ=>φ h/\(∃o,h.get? a=some o)/\∀h1 h2:Heap,φ h1->(∀o,h1.get? a=some o->h2.get? a=some o)->φ h2
def HOk(H:Hp)(h:Heap):Prop:=∀a o,H a=some o->yL P w H h a o
end
section
variable {P:Program}{w:World}{H H':Hp}{h h':Heap}{a:Addr}{o:HO}
theorem yL.lt(x:yL P w H h a o):a<h.objs.size:=by
 cases o with
 |b xs=>obtain⟨_,_,_,_,e⟩:=x;exact Ai e
 |c xs=>obtain⟨_,_,_,p⟩:=x;exact p.lt
 |i kvs=>obtain⟨_,_,_,_,o,_,_,e,_⟩:=x;exact Ai e
 |j kvs=>obtain⟨_,_,_,_,o,_,_,e,_⟩:=x;exact Ai e
 |l S n=>obtain⟨o,_,_,_,e,_⟩:=x;exact Ai e
 |k C dx fs=>obtain⟨_,_,_,e,_⟩:=x;exact Ai e
 |d y=>obtain⟨_,e⟩:=x;exact Ai e
 |r fs=>obtain⟨_,⟨_,_,_,e,_⟩,_⟩:=x;exact Ai e
 |q lo hi=>obtain⟨_,_,_,e⟩:=x;exact Ai e
 |e ob u=>obtain⟨e,_⟩:=x;exact Ai e
 |g ps=>exact Ai (show h.get? a=some _ from x)
 |p f y=>exact Ai (show h.get? a=some _ from x)
 |m φ=>obtain⟨_,⟨_,e⟩,_⟩:=x;exact Ai e
theorem Paired.Sl:∀{l₁} {l₂},Paired F l₁ l₂->(∀a b,F a b->G a b)->Paired G l₁ l₂
 |_,_,.nil,_=>.nil
 |_,_,.cons r t,f=>.cons (f _ _ r) (Paired.Sl t f)
theorem yL.pQ(x:yL P w H h a o)(k:∀b u,(b=a\/H b=some (.d a))->h.get? b=some u->h'.get? b=some u)
 (ho:∀b,H b=some (.d a)->H' b=some (.d a)) (ht:∀b xs,H b=some (.c xs)->H' b=some (.c xs)):yL P w H' h' a o:=by
 induction o with
 |b xs=>obtain⟨z,its,n,r,e⟩:=x;exact⟨z,its,n,r,k _ _ (.inl rfl) e⟩
 |c xs=>obtain⟨z,its,r,ob,e,c⟩:=x;exact⟨z,its,r,ob,k _ _ (.inl rfl) e,c⟩
 |i kvs=>obtain⟨z,y,vs,r,ob,es,ep,e,c⟩:=x;exact⟨z,y,vs,r,ob,es,ep,k _ _ (.inl rfl) e,c⟩
 |j kvs=>
  obtain⟨z,y,xs,r,ob,es,ep,e,c⟩:=x;exact⟨z,y,xs,Paired.Sl r λp q z=>⟨z.1,ht _ _ z.2.1,z.2.2⟩,ob,es,ep,k _ _ (.inl rfl) e,c⟩
 |l S n=>obtain⟨ob,es,ep,t,e,c⟩:=x;exact⟨ob,es,ep,t,k _ _ (.inl rfl) e,c⟩
 |k C dx fs=>
  obtain⟨d,z,ne,e,mA,⟨od,es,ep,e2,c⟩,r⟩:=x;exact⟨ho _ d,z,ne,k _ _ (.inl rfl) e,mA,⟨od,es,ep,k _ _ (.inr d) e2,c⟩,r⟩
 |d y=>obtain⟨ob,e⟩:=x;exact⟨ob,k _ _ (.inl rfl) e⟩
 |r fs=>obtain⟨mA,⟨od,es,ep,e,c⟩,r⟩:=x;exact⟨mA,⟨od,es,ep,k _ _ (.inl rfl) e,c⟩,r⟩
 |q lo hi=>obtain⟨t,u,v,e⟩:=x;exact⟨t,u,v,k _ _ (.inl rfl) e⟩
 |e ob u ih=>obtain⟨e,q⟩:=x;exact⟨k _ _ (.inl rfl) e,ih q⟩
 |g ps=>
  have e:h.get? a=some {cls:=.none,data:=.fields ps}:=x;show h'.get? a=some {cls:=.none,data:=.fields ps};exact k a _ (.inl rfl) e
 |p f y=>
  have e:h.get? a=some (Fw (.ref f) (.ref y)):=x;show h'.get? a=some (Fw (.ref f) (.ref y));exact k a _ (.inl rfl) e
 |m φ=>obtain⟨p,⟨o,e⟩,st⟩:=x;exact⟨st _ _ p λo q=>k _ _ (.inl rfl) q,⟨o,k _ _ (.inl rfl) e⟩,st⟩
theorem HOk.lt(x:HOk P w H h)(e:H a=some o):a<h.objs.size:=(x a o e).lt
theorem HOk.fresh(x:HOk P w H h)(e:h.objs.size<=a):H a=none:=by
 cases q:H a with
 |none=>rfl
 |some u=>exact absurd (Au (x.lt q) e) (Be _)
theorem HOk.kept(x:HOk P w H h)(k:∀b u,h.get? b=some u->h'.get? b=some u):HOk P w H h':=λa o e=>
 (x a o e).pQ (λb u _ q=>k b u q) (λ_ q=>q) λ_ _ q=>q
theorem HOk.laid(x:HOk P w H h)(k:∀b u,h.get? b=some u->h'.get? b=some u)(hp:h.objs.size<=a)(new:yL P w (upd H a o) h' a o):HOk P w (upd H a o) h':=λb u e=>by
 have hn:=x.fresh hp;by_cases hb:b=a
 . subst hb;rw[zP]at e;cases e;exact new
 . rw[zJ hb]at e
   exact(x b u e).pQ (λc v _ q=>k c v q) (λc q=>by rw[zJ (zT q hn)];exact q) λc xs q=>by rw[zJ (zT q hn)];exact q
end
def Rd(H:Hp)(a:Addr)(u:HO):Prop:=H a=some u\/∃o,H a=some (.e o u)
theorem Rd.ok(r:Rd H a u)(x:HOk P w H h):yL P w H h a u:=by
 rcases r with r|⟨o,r⟩
 . exact x a u r
 . obtain⟨_,q⟩:=x a _ r
   exact q
def Mut:Option HO->Prop
 |some (.b _)=>True
 |some (.i _)=>True
 |some (.j _)=>True
 |some (.l _ _)=>True
 |some (.k _ _ _)=>True
 |some (.m _)=>True
 |_=>False
section
variable {P:Program}{w:World}{H:Hp}{h h':Heap}{x e:Addr}{o':HO}
theorem HOk.write(ok:HOk P w H h)(mu:Mut (H x))(he:e=x\/H e=some (.d x))(k:∀b u,b≠e->h.get? b=some u->h'.get? b=some u)(heo:∃u,h'.get? e=some u)
 (new:yL P w (upd H x o') h' x o'):HOk P w (upd H x o') h':=λb u q=>by
 have nown:∀c y,H c=some (.d y)->c≠x:=λc y r z=>by subst z;rw[r]at mu;exact mu
 have ntup:∀c xs,H c=some (.c xs)->c≠x:=λc xs r z=>by subst z;rw[r]at mu;exact mu
 by_cases hb:b=x
 . subst hb;rw[zP]at q;cases q;exact new
 . rw[zJ hb]at q
   by_cases hbe:b=e
   . have q':H b=some (.d x):=by
      rcases he with z|z
      . exact absurd (hbe.trans z) hb
      . rw[hbe];exact z
     rw[q]at q';cases q';obtain⟨v,hv⟩:=heo;exact⟨v,by rw[hbe];exact hv⟩
   . refine(ok b u q).pQ (λc v hc r=>k c v ?_ r) (λc r=>by rw[zJ (nown c b r)];exact r) λc xs r=>by rw[zJ (ntup c xs r)];exact r
     rcases hc with rfl|hc
     . exact hbe
     . rintro rfl
       rcases he with z|z
       . exact nown c b hc z
       . rw[hc]at z;cases z;exact hb rfl
end
structure Un(fs ex:List Addr)(H H':Hp)(h h':Heap):Prop where
 f:∀b o,h.get? b=some o->H b=none->b ∉ fs->b ∉ ex->h'.get? b=some o
 i:∀b o,h.get? b=some o->H b=none->b∈fs->b ∉ ex->∃sl,h'.get? b=some {o with slots:=sl}
 d:∀b o,h.get? b=some o->H b=none->b ∉ ex->H' b=none
 c:∀b o,h.get? b=some o->b ∉ ex->∃o',h'.get? b=some o'
 l:∀b xs,H b=some (.c xs)->H' b=some (.c xs)
 g:∀b o u,H b=some (.e o u)->H' b=some (.e o u)
 j:∀b ps,H b=some (.g ps)->∃more,H' b=some (.g (ps++more))
section
variable {fs fs' ex ex':List Addr}{H H1 H2:Hp}{h h1 h2 h':Heap}{a x e:Addr}{o:HO}
theorem Un.any(u:Un fs ex H H1 h h1)(q:h.get? b=some ob)(n:H b=none)(hx:b ∉ ex):∃sl,h1.get? b=some {ob with slots:=sl}:=by
 by_cases hb:b∈fs
 . exact u.i b ob q n hb hx
 . exact⟨ob.slots,u.f b ob q n hb hx⟩
theorem Un.kept(k:∀b u,h.get? b=some u->h'.get? b=some u):Un fs ex H H h h':=
 ⟨λb ob q _ _ _=>k b ob q,λb ob q _ _ _=>⟨ob.slots,k b ob q⟩,λ_ _ _ n _=>n,λb ob q _=>⟨ob,k b ob q⟩,λ_ _ q=>q,λ_ _ _ q=>q,λ_ ps q=>⟨#[],by rw[q];simp⟩⟩
theorem Un.refl:Un fs ex H H h h:=Un.kept λ_ _ q=>q
theorem Un.laid(k:∀b u,h.get? b=some u->h'.get? b=some u)(hp:h.objs.size<=a)(hn:H a=none):Un fs ex H (upd H a o) h h' where
 f:=λb u q _ _ _=>k b u q
 i:=λb u q _ _ _=>⟨u.slots,k b u q⟩
 d:=λb u q n _=>by rw[zJ (AI (Au (Ai q) hp))];exact n
 c:=λb u q _=>⟨u,k b u q⟩
 l:=λb xs q=>by rw[zJ (zT q hn)];exact q
 g:=λb u xs q=>by rw[zJ (zT q hn)];exact q
 j:=λb ps q=>⟨#[],by rw[zJ (zT q hn),q];simp⟩
theorem Un.write(mu:Mut (H x))(he:e=x\/H e=some (.d x))(k:∀b u,b≠e->h.get? b=some u->h'.get? b=some u)(heo:∃u,h'.get? e=some u):Un fs ex H (upd H x o) h h':=by
 have hx:∀b,H b=none->b≠x:=λb n z=>by subst z;rw[n]at mu;exact mu
 have hb:∀b,H b=none->b≠e:=λb n z=>by
  subst z;rcases he with r|r
  . exact hx b n r
  . rw[n]at r;cases r
 have hm:∀b u,H b=some u->¬Mut (some u)->b≠x:=λb u q nm z=>by subst z;rw[q]at mu;exact nm mu
 refine⟨λb u q n _ _=>k b u (hb b n) q,λb u q n _ _=>⟨u.slots,k b u (hb b n) q⟩,λb u q n _=>by rw[zJ (hx b n)];exact n,λb u q _=>?_,
  λb xs q=>by rw[zJ (hm b _ q λz=>z)];exact q,λb u xs q=>by rw[zJ (hm b _ q λz=>z)];exact q,λb ps q=>⟨#[],by rw[zJ (hm b _ q λz=>z),q];simp⟩⟩
 by_cases hbe:b=e
 . subst hbe;exact heo
 . exact⟨u,k b u hbe q⟩
end
noncomputable def trk(h:Heap)(H:Hp):List Addr:=(Ao h.objs.size).filter λa=>(H a).isSome
def nQ(h:Heap)(H:Hp):Heap:=PySem.W.hideAll h (trk h H)
theorem g7 h H:(nQ h H).objs.size=h.objs.size:=PySem.W.hideAll_size _ _
theorem cz(e:h.get? b=some o)(n:H b=none):(nQ h H).get? b=some o:=
 PySem.W.hideAll_get _ e λhm=>by have q:(H b).isSome=true:=(BJ.mp hm).2;rw[n]at q;simp at q
theorem Yz(e:(nQ h H).get? b=some o):h.get? b=some o/\H b=none:=by
 have e':h.get? b=some o:=PySem.W.of_hideAll (trk h H) e;refine⟨e',?_⟩;cases q:H b with
 |none=>rfl
 |some x=>
  have hm:b∈trk h H:=BJ.mpr ⟨Ar.mpr (Ai e'),by simp[q]⟩
  have z:(nQ h H).get? b=none:=PySem.W.hideAll_none (trk h H) hm;rw[z]at e;cases e
structure Mod(K:Af)(mg:Str->Option Value)(base:Heap):Prop where
 a:K.In base
 c:base.Ns AK mg
 d:∃mb,base.Ns FJ mb/\∀x:Str,x≠"__name__"->mb x=B7 x
 b:base.NoLimit
structure Cx where
 f:Program
 w:World
 K:Af
 d:Str->Option Value
 h:Heap
 A:Around
 N:List Str
 l:Shared
 r:Hp
 a:Env
 k:List Env
 g:List Env
 m:List Addr
 n:Str->Bool
 j:Bool
 q:List (Addr × Obj)
 i:Value->Shared->Prop
noncomputable def frs(l:List Env):List Addr:=l.filterMap (·.frame)
abbrev Cx.fs(X:Cx):List Addr:=frs X.k
def Vis(sc:Scope)(x:Str):Prop:=sc.names.lookup x=some .local\/sc.names.lookup x=some .cell\/sc.names.lookup x=some .free
def Loc(sc:Scope)(x:Str):Prop:=sc.names.lookup x=some .local\/sc.names.lookup x=some .cell
def Look(env:Env)(h:Heap)(m:Str->Option Value)(x:Str)(u:Value):Prop:=
 (env.kindOf x=some .local/\m x=some u)\/((env.kindOf x=some .cell\/env.kindOf x=some .free)/\∃c,env.cells.lookup x=some c/\h.IsCell c (some u))
structure Cx.Ok(X:Cx):Prop where
 j:Mod X.K X.d X.h
 a:X.a.scope.kind=.function
 k:X.a.globals=AK
 t:X.a.builtins=FJ
 d:X.l.heap.objs.size<=X.a.locals
 s:∀x y c,X.a.cells.lookup x=some c->X.a.cells.lookup y=some c->x=y
 r:∀x,(X.a.kindOf x=some .cell\/X.a.kindOf x=some .free)->∃c,X.a.cells.lookup x=some c
 q:∀x c,X.n x=true->X.a.cells.lookup x=some c->X.l.heap.objs.size<=c
 i:X.j=true->X.A.handled=none
 g:X.A.frames=some X.g
 w:X.g=X.k\/(X.g=X.a::X.k/\X.a.frame=some X.a.locals)
 G:∀b∈X.m,b≠X.a.locals/\∀x c,X.a.cells.lookup x=some c->c≠b
 B:∀b o,X.h.get? b=some o->X.l.heap.get? b=some o/\X.r b=none
 p:X.h.objs.size<=X.l.heap.objs.size
 m:∀b o,X.h.get? b=some o->b ∉ X.m
 l:∀b∈X.m,b ∉ X.fs
 D:X.l.heap.FunFrames X.h X.k
 u:∀b∈X.fs,X.r b=none
structure Inv(X:Cx)(pins:List (Addr × Obj))(σ:List (Option V))(H:Hp)(s:Shared):Prop where
 B:X.Ok
 R:s.os=X.l.os
 D:AllBare s.gens
 C:Un X.fs X.m X.r H X.l.heap s.heap
 M:∃m,s.heap.Ns X.a.locals m/\∀(i:Nat) (x:Str) (v:V),X.N[i]?=some x->σ[i]?=some (some v)->Vis X.a.scope x->∃u,RelV v u/\Look X.a s.heap m x u
 F:∀x c,X.a.cells.lookup x=some c->∃v,s.heap.IsCell c v
 G:H X.a.locals=none
 J:∀x c,X.a.cells.lookup x=some c->H c=none
 O:∀p∈X.q++pins,s.heap.get? p.1=some p.2/\H p.1=none/\p.1≠X.a.locals/\p.1 ∉ X.fs/\∀v,p.2.data≠.cell v
 j:HOk X.f X.w H s.heap
 P:σ.length=X.N.length
section
variable {X:Cx}{pins:List (Addr × Obj)}{σ:List (Option V)}{H H':Hp}{s:Shared}{h':Heap}
theorem Cx.Ok.QY(ok:X.Ok)(e:X.h.get? b=some o):b ∉ X.fs:=λhb=>by have:=(ok.D.mem hb).1;rw[e]at this;cases this
theorem Inv.bs(I:Inv X pins σ H s):∀b o,X.h.get? b=some o->s.heap.get? b=some o/\H b=none:=λb o e=>
 ⟨I.C.f b o (I.B.B b o e).1 (I.B.B b o e).2 (I.B.QY e) (I.B.m b o e),I.C.d b o (I.B.B b o e).1 (I.B.B b o e).2 (I.B.m b o e)⟩
theorem Inv.bk(I:Inv X pins σ H s):∀b o,X.h.get? b=some o->s.heap.get? b=some o:=λb o e=>(I.bs b o e).1
theorem Inv.mod(I:Inv X pins σ H s):Mod X.K X.d X.h:=I.B.j
theorem Inv.kIn(I:Inv X pins σ H s):X.K.In s.heap:=I.B.j.a.keeps I.bk
theorem Inv.lt(I:Inv X pins σ H s):X.a.locals<s.heap.objs.size:=let ⟨_,hn,_⟩:=I.M;hn.lt
theorem Inv.sz(I:Inv X pins σ H s):X.l.heap.objs.size<=s.heap.objs.size:=AD I.B.d (DJ I.lt)
theorem Inv.QZ(I:Inv X pins σ H s)(h:s.heap.objs.size<=a):a ∉ X.fs:=λhb=>by obtain⟨_,o,ho,_⟩:=I.B.D.mem hb;exact absurd (Au (Ai ho) (AD I.sz h)) (Be _)
theorem Inv.cne(I:Inv X pins σ H s):∀x c,X.a.cells.lookup x=some c->c≠X.a.locals:=λx c e z=>by obtain⟨v,o,ho,hd⟩:=I.F x c e;obtain⟨m,⟨o',es,ep,ho',hd',_⟩,_⟩:=I.M;rw[z,ho']at ho;cases ho;rw[hd']at hd;cases hd
theorem Inv.tm(I:Inv X pins σ H s):s.heap.FunFrames X.h X.k:=by
 have all:∀(l:List Env),(∀b∈frs l,b∈X.fs)->X.l.heap.FunFrames X.h l->s.heap.FunFrames X.h l:=by
  intro l;induction l with
  |nil=>intro _ _;trivial
  |cons env r ih=>
   intro hs hl;obtain⟨hk,⟨L,o,hf,hn,ho,hd⟩,hr⟩:=hl;have hL:L∈X.fs:=hs L (by unfold frs;rw[A0,hf];exact Ap)
   obtain⟨sl,e⟩:=I.C.i L o ho (I.B.u L hL) hL λz=>I.B.l L z hL;exact⟨hk,⟨L,_,hf,hn,e,hd⟩,ih (λb hb=>hs b (by unfold frs;rw[A0,hf];exact Ah _ hb)) hr⟩
 exact all X.k (λ_ hb=>hb) I.B.D
theorem Inv.stack(I:Inv X pins σ H s):s.heap.FunFrames X.h X.g:=by
 rcases I.B.w with e|⟨e,hf⟩
 . rw[e];exact I.tm
 . rw[e]
   obtain⟨m,hn,_⟩:=I.M;refine .cons (by rw[I.B.a];decide) hf hn ?_ I.tm
   exact EG (AD I.B.p I.B.d)
theorem Inv.jq(I:Inv X pins σ H s):∀b∈frs X.g,b∈X.a.locals::X.fs:=λb hb=>by
 rcases I.B.w with e|⟨e,hf⟩
 . rw[e]at hb;exact Ah _ hb
 . rw[e]at hb
   unfold frs at hb;rw[A0,hf]at hb;exact hb
theorem Inv.mK(I:Inv X pins σ H s):∀b∈frs X.g,H b=none:=λb hb=>by
 rcases Aj.mp (I.jq b hb) with e|hb
 . rw[e];exact I.G
 . obtain⟨_,o,ho,_⟩:=I.B.D.mem hb
   exact I.C.d b o ho (I.B.u b hb) λz=>I.B.l b z hb
theorem Inv.step{ch:List Addr}(I:Inv X pins σ H s)
 (hch:∀b∈ch,(b∈X.m\/X.l.heap.objs.size<=b)/\b≠X.a.locals/\(∀x c,X.a.cells.lookup x=some c->c≠b)/\∀p∈X.q++pins,p.1≠b)
 (keep:∀b o,b≠X.a.locals->b ∉ X.fs->b ∉ ch->s.heap.get? b=some o->H b=none->h'.get? b=some o)
 (slot:∀b o,b≠X.a.locals->b∈X.fs->b ∉ ch->s.heap.get? b=some o->H b=none->∃sl,h'.get? b=some {o with slots:=sl}) (free:∀b o,b ∉ ch->s.heap.get? b=some o->H b=none->H' b=none)
 (there:∀b o,b ∉ ch->s.heap.get? b=some o->∃o',h'.get? b=some o')
 (tups:∀b xs,H b=some (.c xs)->H' b=some (.c xs)) (frzs:∀b o u,H b=some (.e o u)->H' b=some (.e o u)) (tbls:∀b ps,H b=some (.g ps)->∃more,H' b=some (.g (ps++more)))
 (ns:∀m,s.heap.Ns X.a.locals m->h'.Ns X.a.locals m) (hok:HOk X.f X.w H' h') (hg:AllBare g') :
 Inv X pins σ H' {s with heap:=h',gens:=g',drawn:=d',toks:=t'}:=by
 have neL:∀b o,X.l.heap.get? b=some o->b≠X.a.locals:=λb o e=>AI (Au (Ai e) I.B.d);have neC:∀b o,X.l.heap.get? b=some o->b ∉ X.m->b ∉ ch:=λb o e hx hb=>by
  rcases (hch b hb).1 with z|z
  . exact hx z
  . exact absurd (Au (Ai e) z) (Be _)
 have cellK:∀x c,X.a.cells.lookup x=some c->∀v,s.heap.IsCell c v->h'.IsCell c v:=λx c e v ⟨o,ho,hd⟩=>by
  have nch:c ∉ ch:=λz=>(hch c z).2.2.1 x c e rfl;by_cases hc:c∈X.fs
  . obtain⟨sl,q⟩:=slot c o (I.cne x c e) hc nch ho (I.J x c e)
    exact⟨_,q,hd⟩
  . exact⟨o,keep c o (I.cne x c e) hc nch ho (I.J x c e),hd⟩
 refine⟨I.B,I.R,hg,⟨λb o e n hb hx=>?_,λb o e n hb hx=>?_,λb o e n hx=>?_,λb o e hx=>?_,λb xs e=>tups b xs (I.C.l b xs e),λb o xs e=>frzs b o xs (I.C.g b o xs e),λb ps e=>?_⟩,?_,λx c e=>?_,?_,λx c e=>?_,λp hp=>?_,hok,I.P⟩
 . exact keep b o (neL b o e) hb (neC b o e hx) (I.C.f b o e n hb hx) (I.C.d b o e n hx)
 . obtain⟨sl,e1⟩:=I.C.i b o e n hb hx
   obtain⟨sl',e2⟩:=slot b _ (neL b o e) hb (neC b o e hx) e1 (I.C.d b o e n hx);exact⟨sl',e2⟩
 . obtain⟨o',e1⟩:=I.C.c b o e hx
   exact free b o' (neC b o e hx) e1 (I.C.d b o e n hx)
 . obtain⟨o',e1⟩:=I.C.c b o e hx
   exact there b o' (neC b o e hx) e1
 . obtain⟨m1,e1⟩:=I.C.j b ps e
   obtain⟨m2,e2⟩:=tbls b _ e1;exact⟨m1++m2,by rw[e2,Array.append_assoc]⟩
 . obtain⟨m,hn,hl⟩:=I.M
   refine⟨m,ns m hn,λi x v e1 e2 e3=>?_⟩;obtain⟨u,r,l⟩:=hl i x v e1 e2 e3;refine⟨u,r,?_⟩;rcases l with l|⟨k,c,e,z⟩
   . exact .inl l
   . exact .inr ⟨k,c,e,cellK x c e _ z⟩
 . obtain⟨v,z⟩:=I.F x c e
   exact⟨v,cellK x c e v z⟩
 . obtain⟨m,⟨o,_,_,ho,_⟩,_⟩:=I.M
   exact free _ o (λz=>(hch _ z).2.1 rfl) ho I.G
 . obtain⟨v,o,ho,hd⟩:=I.F x c e
   exact free c o (λz=>(hch c z).2.2.1 x c e rfl) ho (I.J x c e)
 . obtain⟨e,n,ne,nf,d⟩:=I.O p hp
   have nch:p.1 ∉ ch:=λz=>(hch p.1 z).2.2.2 p hp rfl;exact⟨keep p.1 p.2 ne nf nch e n,free p.1 p.2 nch e n,ne,nf,d⟩
theorem Inv.un(I:Inv X pins σ H s)(u:Un X.fs [] H H' s.heap h')(hok:HOk X.f X.w H' h'):Inv X pins σ H' {s with heap:=h',toks:=t'}:=by
 obtain⟨m,⟨o,es,ep,ho,r⟩,_⟩:=id I.M;obtain⟨sl,hL⟩:=u.any ho I.G (by simp)
 exact I.step (g':=s.gens) (d':=s.drawn) (ch:=[]) (λ_ z=>nomatch z) (λb o _ hb _ e n=>u.f b o e n hb (by simp)) (λb o _ hb _ e n=>u.i b o e n hb (by simp)) (λb o _ e n=>u.d b o e n (by simp)) (λb o _ e=>u.c b o e (by simp)) u.l u.g u.j (λm' hm=>by obtain⟨o',es',ep',ho',r'⟩:=hm;rw[ho]at ho';cases ho';exact⟨_,es',ep',hL,r'⟩) hok I.D
theorem Inv.call(I:Inv X pins σ H s)(u:Un (frs X.g) ch H H' s.heap h')(hok:HOk X.f X.w H' h')(hg:AllBare g')
 (hch:∀b∈ch,(b∈X.m\/X.l.heap.objs.size<=b)/\b≠X.a.locals/\(∀x c,X.a.cells.lookup x=some c->c≠b)/\∀p∈X.q++pins,p.1≠b) :
 Inv X pins σ H' {s with heap:=h',gens:=g',drawn:=d',toks:=t'}:=by
 obtain⟨m,⟨o,es,ep,ho,r⟩,_⟩:=id I.M;obtain⟨sl,hL⟩:=u.any ho I.G λz=>(hch _ z).2.1 rfl;exact I.step (ch:=ch) hch (λb o hL hb hc e n=>u.f b o e n (λz=>(Aj.mp (I.jq b z)).elim hL hb) hc) (λb o _ _ hc e n=>u.any e n hc) (λb o hc e n=>u.d b o e n hc) (λb o hc e=>u.c b o e hc) u.l u.g u.j (λm' hm=>by obtain⟨o',es',ep',ho',r'⟩:=hm;rw[ho]at ho';cases ho';exact⟨_,es',ep',hL,r'⟩) hok hg
theorem Inv.turned(I:Inv X pins σ H s)(k:∀b o,b≠it->s.heap.get? b=some o->h'.get? b=some o)(hn:H it=none)(hL:it≠X.a.locals)
 (h1:it∈X.m\/X.l.heap.objs.size<=it) (h2:∀x c,X.a.cells.lookup x=some c->c≠it) (h3:∀p∈X.q++pins,p.1≠it):Inv X pins σ H {s with heap:=h',toks:=t'}:=by
 have nit:∀b u,H b=some u->b≠it:=λb u e z=>by rw[z,hn]at e;cases e
 refine I.step (g':=s.gens) (d':=s.drawn) (ch:=[it]) (λb hb=>?_) (λb o _ _ hc e _=>k b o (λz=>hc (by simp[z])) e) (λb o _ _ hc e _=>⟨o.slots,k b o (λz=>hc (by simp[z])) e⟩) (λ_ _ _ _ n=>n)
  (λb o hc e=>⟨o,k b o (λz=>hc (by simp[z])) e⟩) (λ_ _ e=>e) (λ_ _ _ e=>e) (λb ps e=>⟨#[],by rw[e];simp⟩) (λm hm=>?_) (λb u e=>?_) I.D
 . have e:b=it:=by simpa using hb
   subst e;exact⟨h1,hL,h2,h3⟩
 . obtain⟨o,es,ep,ho,r⟩:=hm
   exact⟨o,es,ep,k _ o (Bt hL) ho,r⟩
 . refine(I.j b u e).pQ (λc v hc q=>k c v ?_ q) (λ_ q=>q) λ_ _ q=>q
   rcases hc with z|z
   . rw[z];exact nit b u e
   . exact nit c _ z
theorem Inv.tok(I:Inv X pins σ H s)t:Inv X pins σ H {s with toks:=t}:=I.un (h':=s.heap) (t':=t) Un.refl I.j
theorem Inv.kept(I:Inv X pins σ H s)(k:∀b u,s.heap.get? b=some u->h'.get? b=some u):Inv X pins σ H {s with heap:=h',toks:=t'}:=I.un (Un.kept k) (I.j.kept k)
theorem Inv.laid(I:Inv X pins σ H s)(k:∀b u,s.heap.get? b=some u->h'.get? b=some u)(hp:s.heap.objs.size<=a)(new:yL X.f X.w (upd H a o) h' a o) :
 Inv X pins σ (upd H a o) {s with heap:=h',toks:=t'}:=I.un (Un.laid k hp (I.j.fresh hp)) (I.j.laid k hp new)
theorem Inv.write(I:Inv X pins σ H s)(mu:Mut (H x))(he:e=x\/H e=some (.d x))(k:∀b u,b≠e->s.heap.get? b=some u->h'.get? b=some u)(heo:∃u,h'.get? e=some u)
 (new:yL X.f X.w (upd H x o) h' x o):Inv X pins σ (upd H x o) {s with heap:=h',toks:=t'}:=I.un (Un.write mu he k heo) (I.j.write mu he k heo new)
theorem Inv.mB{pins':List (Addr × Obj)}(I:Inv X pins σ H s)(h:∀p∈pins',s.heap.get? p.1=some p.2/\H p.1=none/\p.1≠X.a.locals/\p.1 ∉ X.fs/\∀v,p.2.data≠.cell v):Inv X pins' σ H s:=
 ⟨I.B,I.R,I.D,I.C,I.M,I.F,I.G,I.J,λp hp=>(AS.mp hp).elim (λz=>I.O p (Bp _ z)) (h p),I.j,I.P⟩
theorem lN{N:List Str}(hN:N.Nodup){i j:Nat}(a:N[i]?=some x)(b:N[j]?=some x):i=j:=by obtain⟨h1,e1⟩:=Am.mp a;obtain⟨h2,e2⟩:=Am.mp b;exact(List.getElem_inj hN).mp (e1.trans e2.symm)
theorem oU{Q:Unit->Shared->Prop}(I:Inv X pins σ H s)(hN:X.N.Nodup)(hi:X.N[i]?=some x)(hx:Loc X.a.scope x)(r:RelV v u)
 (h:∀s',Inv X pins (σ.set i (some v)) H s'->(∃a,DK a s.heap s'.heap/\(a=X.a.locals\/X.a.cells.lookup x=some a))->Q () s') (hf:X.n x=true\/X.a.scope.names.lookup x=some .local:=by first|exact .inl rfl|exact .inr rfl|assumption):wpAny M A (GB X.a x u) Q E s:=by
 obtain⟨m,hn,hl⟩:=id I.M;have hcls:(X.a.scope.kind == .class||(X.a.scope.kind == .module&&X.a.locals != X.a.globals))=false:=by rw[I.B.a];rfl
 have hiσ:i<σ.length:=by rw[I.P];exact(Am.mp hi).1
 have cne:=I.cne;have tracked:∀{a:Addr} {h':Heap},(∃o,s.heap.get? a=some o/\H a=none)->DK a s.heap h'->HOk X.f X.w H h':=λ{a h'} ha hs b ob e=>by
  obtain⟨_,_,hfree⟩:=ha;refine(I.j b ob e).pQ (λc w' hc q=>(hs.2 c ?_).trans q) (λ_ q=>q) λ_ _ q=>q;rintro rfl;rcases hc with rfl|hc
  . rw[hfree]at e;cases e
  . rw[hfree]at hc;cases hc
 rcases hx with hk|hk
 . refine wpAny_storeName_local hk hn (λh' hn' hs=>?_) hcls
   obtain⟨oL,_,_,hoL,_⟩:=id hn;refine h _ ⟨I.B,I.R,I.D,⟨λb o e n hb hx=>?_,λb o e n hb hx=>?_,I.C.d,λb o e hx=>?_,I.C.l,I.C.g,I.C.j⟩,⟨_,hn',λj y v' e1 e2 e3=>?_⟩,λy c e=>?_,I.G,I.J,λp hp=>?_,tracked ⟨oL,hoL,I.G⟩ hs,by simpa using I.P⟩ ⟨_,hs,.inl rfl⟩
   . exact(hs.2 b (AI (Au (Ai e) I.B.d))).trans (I.C.f b o e n hb hx)
   . obtain⟨sl,e1⟩:=I.C.i b o e n hb hx
     exact⟨sl,(hs.2 b (AI (Au (Ai e) I.B.d))).trans e1⟩
   . obtain⟨o',e1⟩:=I.C.c b o e hx
     exact⟨o',(hs.2 b (AI (Au (Ai e) I.B.d))).trans e1⟩
   . by_cases hj:j=i
     . subst hj
       rw[hi]at e1;cases e1;rw[AM hiσ]at e2;cases e2;exact⟨u,r,.inl ⟨hk,by simp⟩⟩
     . rw[BF (Bt hj)]at e2
       obtain⟨u',r',q⟩:=hl j y v' e1 e2 e3;refine⟨u',r',?_⟩;rcases q with⟨k,e⟩|⟨k,c,e,z⟩
       . refine .inl ⟨k,?_⟩
         have:y≠x:=λe=>hj (lN hN e1 (e▸hi));simp[this,e]
       . exact .inr ⟨k,c,e,z.sameBut hs (cne y c e)⟩
   . obtain⟨w',z⟩:=I.F y c e
     exact⟨w',z.sameBut hs (cne y c e)⟩
   . obtain⟨e,n,ne,nf,d⟩:=I.O p hp
     exact⟨(hs.2 p.1 ne).trans e,n,ne,nf,d⟩
 . have hfn:X.n x=true:=by
    rcases hf with z|z
    . exact z
    . rw[z]at hk;cases hk
   obtain⟨c,hc⟩:=I.B.r x (.inl hk);obtain⟨w',z⟩:=I.F x c hc;refine wpAny_storeName_cell I.B.a hk hc z (λh' hc' hs=>?_);obtain⟨oc,hoc,hocd⟩:=id z;refine h {s with heap:=h'} ⟨I.B,I.R,I.D,⟨λb o e n hb hx=>?_,λb o e n hb hx=>?_,I.C.d,λb o e hx=>?_,I.C.l,I.C.g,I.C.j⟩,⟨m,hn.sameBut hs (Bt (cne x c hc)),λj y v' e1 e2 e3=>?_⟩,λy c' e=>?_,I.G,I.J,λp hp=>?_,tracked ⟨oc,hoc,I.J x c hc⟩ hs,by simpa using I.P⟩ ⟨c,hs,.inr hc⟩
   . exact(hs.2 b (AI (Au (Ai e) (I.B.q x c hfn hc)))).trans (I.C.f b o e n hb hx)
   . obtain⟨sl,e1⟩:=I.C.i b o e n hb hx
     exact⟨sl,(hs.2 b (AI (Au (Ai e) (I.B.q x c hfn hc)))).trans e1⟩
   . obtain⟨o',e1⟩:=I.C.c b o e hx
     exact⟨o',(hs.2 b (AI (Au (Ai e) (I.B.q x c hfn hc)))).trans e1⟩
   . by_cases hj:j=i
     . subst hj
       rw[hi]at e1;cases e1;rw[AM hiσ]at e2;cases e2;exact⟨u,r,.inr ⟨.inl hk,c,hc,hc'⟩⟩
     . rw[BF (Bt hj)]at e2
       obtain⟨u',r',q⟩:=hl j y v' e1 e2 e3;refine⟨u',r',?_⟩;rcases q with q|⟨k,c',e,z'⟩
       . exact .inl q
       . refine .inr ⟨k,c',e,z'.sameBut hs ?_⟩
         rintro rfl;exact hj (lN hN e1 (I.B.s _ _ _ e hc▸hi))
   . by_cases hcc:c'=c
     . subst hcc;exact⟨_,hc'⟩
     . obtain⟨w2,z2⟩:=I.F y c' e
       exact⟨w2,z2.sameBut hs hcc⟩
   . obtain⟨e,n,ne,nf,d⟩:=I.O p hp
     refine⟨(hs.2 p.1 ?_).trans e,n,ne,nf,d⟩;intro q;rw[q,hoc]at e;have q':oc=p.2:=AA e;exact d w' (by rw[<-q'];exact hocd)
theorem xf{Q:Unit->Shared->Prop}(I:Inv X pins σ H s)(hN:X.N.Nodup)(hi:X.N[i]?=some x)(hx:Loc X.a.scope x)(r:RelV v u)
 (h:∀s',Inv X pins (σ.set i (some v)) H s'->Q () s') (hf:X.n x=true\/X.a.scope.names.lookup x=some .local:=by first|exact .inl rfl|exact .inr rfl|assumption):wpAny M A (GB X.a x u) Q E s:=
 oU I hN hi hx r (λs' I' _=>h s' I') hf
theorem Inv.Tn(I:Inv X pins σ H s)(ho:s'.os=s.os)(u:Un (frs X.g) ch H H' s.heap s'.heap)(hok:HOk X.f X.w H' s'.heap)(hg:AllBare s'.gens)
 (hch:∀b∈ch,(b∈X.m\/X.l.heap.objs.size<=b)/\b≠X.a.locals/\(∀x c,X.a.cells.lookup x=some c->c≠b)/\∀p∈X.q++pins,p.1≠b):Inv X pins σ H' s':=by
 obtain⟨h',g',d',t',o'⟩:=s';have e:o'=s.os:=ho;subst e;exact I.call (g':=g') (t':=t') (d':=d') u hok hg hch
end
abbrev XK:=Value->Option Addr->Hp->Prop
abbrev St:=List (Option V)
abbrev VK:=V->Hp->Prop
abbrev TE:=St->Hp->VK->Prop
abbrev TT:=St->Hp->(Bool->Hp->Prop)->Prop
abbrev TA:=St->Hp->(List V->Hp->Prop)->Prop
structure Ends where
 a:St->Hp->Prop
 b:VK
 c:St->Hp->Prop:=λ_ _=>False
 d:St->Hp->Prop:=λ_ _=>False
abbrev TS:=Ends->St->Hp->Prop
def EP(X:Cx)(pins:List (Addr × Obj))(σ:St)(Q:VK)(u:Value)(s':Shared):Prop:=∃v H',Inv X pins σ H' s'/\RelV v u/\Q v H'
def TP(X:Cx)(pins:List (Addr × Obj))(σ:St)(Q:Bool->Hp->Prop)(b:Bool)(s':Shared):Prop:=∃H',Inv X pins σ H' s'/\Q b H'
def AP(X:Cx)(pins:List (Addr × Obj))(σ:St)(Q:List V->Hp->Prop)(us:List Value)(s':Shared):Prop:=∃vs H',Inv X pins σ H' s'/\Vals vs us/\Q vs H'
def SP(X:Cx)(pins:List (Addr × Obj))(D:Ends)(f:Flow)(s':Shared):Prop:=
 match f with
 |.next=>∃σ' H',Inv X pins σ' H' s'/\D.a σ' H'
 |.brk=>∃σ' H',Inv X pins σ' H' s'/\D.c σ' H'
 |.cont=>∃σ' H',Inv X pins σ' H' s'/\D.d σ' H'
 |.ret u=>∃v σ' H',Inv X pins σ' H' s'/\RelV v u/\D.b v H'
def PE(X:Cx)(e:Expr)(t:TE):Prop:=
 ∀(pins:List (Addr × Obj)) (s:Shared) (σ:St) (H:Hp) (Q:VK),Inv X pins σ H s->t σ H Q->wpAny (model X.f X.w) X.A (eval e X.a) (EP X pins σ Q) X.i s
def PT(X:Cx)(e:Expr)(t:TT):Prop:=
 ∀(pins:List (Addr × Obj)) (s:Shared) (σ:St) (H:Hp) (Q:Bool->Hp->Prop),Inv X pins σ H s->t σ H Q->wpAny (model X.f X.w) X.A (isTrue e X.a (eval e X.a)) (TP X pins σ Q) X.i s
def PW(X:Cx)(e:Expr)(t:TT):Prop:=
 ∀(whole:Sem Value) (pins:List (Addr × Obj)) (s:Shared) (σ:St) (H:Hp) (Q:Bool->Hp->Prop),Inv X pins σ H s->t σ H Q->wpAny (model X.f X.w) X.A (isTrue e X.a whole) (TP X pins σ Q) X.i s
theorem PW.pt(h:PW X e t):PT X e t:=h _
def PA(X:Cx)(es:List Expr)(t:TA):Prop:=
 ∀(pos:Pos) (pins:List (Addr × Obj)) (s:Shared) (σ:St) (H:Hp) (Q:List V->Hp->Prop),Inv X pins σ H s->t σ H Q->wpAny (model X.f X.w) X.A (spliced (backTo pos (AJ es X.a))) (AP X pins σ Q) X.i s
def PS(X:Cx)(st:Stmt)(t:TS):Prop:=
 ∀(pins:List (Addr × Obj)) (s:Shared) (σ:St) (H:Hp) (D:Ends),Inv X pins σ H s->t D σ H->wpAny (model X.f X.w) X.A (exec st X.a) (SP X pins D) X.i s
def PSs(X:Cx)(st:List Stmt)(t:TS):Prop:=
 ∀(pins:List (Addr × Obj)) (s:Shared) (σ:St) (H:Hp) (D:Ends),Inv X pins σ H s->t D σ H->wpAny (model X.f X.w) X.A (execs st X.a) (SP X pins D) X.i s
theorem thn(h:wpAny M A t Q E s)(hQ:∀a s,Q a s->Q' a s):wpAny M A t Q' E s:=A3 h hQ λ_ _ x=>x
section
variable {X:Cx}
theorem bin(ha:PE X a ta)(hb:PE X b tb){R:V->V->Hp->Prop}(I:Inv X pins σ H s)(h:ta σ H λx H1=>tb σ H1 λy H2=>R x y H2)
  {Q} {f:Value->Value->Sem α}
 (hf:∀v u s2 x y H2,Inv X pins σ H2 s2->RelV x v->RelV y u->R x y H2->wpAny (model X.f X.w) X.A (f v u) Q X.i s2) :
 wpAny (model X.f X.w) X.A (eval a X.a) (λv s₁=>wpAny (model X.f X.w) X.A (eval b X.a) (λu s₂=>wpAny (model X.f X.w) X.A (f v u) Q X.i s₂) X.i s₁) X.i s:=by
 refine thn (ha pins s σ H _ I h) λv s1 ⟨x,H1,I1,r1,q1⟩=>?_;refine thn (hb pins s1 σ H1 _ I1 q1) λu s2 ⟨y,H2,I2,r2,q2⟩=>?_;exact hf v u s2 x y H2 I2 r1 r2 q2
def tH(i:Nat):TE:=λσ H Q=>∃v,σ[i]?=some (some v)/\Q v H
def tC(v:V):TE:=λ_ H Q=>Q v H
theorem uM(hN:X.N[i]?=some x)(hv:Vis X.a.scope x)(hd:(x == ("__debug__":Str))=false:=by decide)(hcd:(x == ("__classdict__":Str))=false:=by decide):PE X (.Name x pos) (tH i):=by
 intro pins s σ H Q I h;obtain⟨v,e,h⟩:=h;obtain⟨m,hn,hl⟩:=I.M;obtain⟨u,r,l⟩:=hl i x v hN e hv;have fin:EP X pins σ Q u s:=⟨v,H,I,r,h⟩;rcases l with⟨hk,hm⟩|⟨hk,c,hc,hcell⟩
 . exact wpAny_Name (wpAny_loadName_local I.B.a hk hn hm fin) hd
 . rcases hk with hk|hk
   . exact wpAny_Name (wpAny_loadName_cell I.B.a hk hc hcell fin) hd
   . exact wpAny_Name (wpAny_loadName_free I.B.a hk hc hcell fin hcd) hd
theorem aY{i j pos}:PE X (.Constant (.int i) j pos) (tC (.d i)):=λ_ _ _ H _ I h=>wpAny_Constant_int ⟨.d i,H,I.tok _,⟨_,rfl⟩,h⟩
theorem aS{b j pos}:PE X (.Constant (.bool b) j pos) (tC (.f b)):=λ_ _ _ H _ I h=>Constant_bool ⟨.f b,H,I,rfl,h⟩
theorem UY{j pos}:PE X (.Constant .none j pos) (tC .g):=λ_ _ _ H _ I h=>Constant_none ⟨.g,H,I,rfl,h⟩
theorem sx{x j pos}:PE X (.Constant (.str x) j pos) (tC (.e x)):=λ_ _ _ H _ I h=>DL ⟨.e x,H,I.tok _,⟨_,rfl⟩,h⟩
def Gl(X:Cx)(x:Str):Prop:=X.a.kindOf x=some .globalImplicit
theorem wy(I:Inv X pins σ H s)(hg:Gl X x)(hm:X.d x=some u)(h:Q u s)
 (hd:(x == ("__debug__":Str))=false:=by decide):wpAny (model X.f X.w) X.A (eval (.Name x pos) X.a) Q E s:=
 Fe I.B.a hg (Calls.loadGlobal_global (by rw[I.B.k];exact I.mod.c.keeps I.bk) hm h) hd
theorem u7(I:Inv X pins σ H s)(hg:Gl X x)(hm:X.d x=none)(hv:B7 x=some u)(h:Q u s)
 (hn:x≠"__name__":=by decide) (hd:(x == ("__debug__":Str))=false:=by decide):wpAny (model X.f X.w) X.A (eval (.Name x pos) X.a) Q E s:=by
 obtain⟨mb,h1,h2⟩:=I.mod.d;exact Fe I.B.a hg (Calls.loadGlobal_builtin (by rw[I.B.k];exact I.mod.c.keeps I.bk) hm (by rw[I.B.t];exact h1.keeps I.bk) ((h2 x hn).trans hv) h) hd
theorem XO(hg:Gl X x)(hm:X.d x=some u)(r:RelV v u)(hd:(x == ("__debug__":Str))=false:=by decide):PE X (.Name x pos) (tC v):=
 λ_ _ _ H _ I h=>wy I hg hm ⟨v,H,I,r,h⟩ hd
theorem XN(hg:Gl X x)(hm:X.d x=none)(hv:B7 x=some u)(r:RelV v u)(hn:x≠"__name__":=by decide)(hd:(x == ("__debug__":Str))=false:=by decide):PE X (.Name x pos) (tC v):=
 λ_ _ _ H _ I h=>u7 I hg hm hv ⟨v,H,I,r,h⟩ hn hd
variable {a b:Expr}{ta tb:TE}{pos:Pos}
def PC(X:Cx)(op:CmpOp)(a b:Expr)(t:TE):Prop:=
 ∀(pins:List (Addr × Obj)) (s:Shared) (σ:St) (H:Hp) (Q:VK),Inv X pins σ H s->t σ H Q ->
  wpAny (model X.f X.w) X.A (eval a X.a) (λv s₁=>wpAny (model X.f X.w) X.A (eval b X.a) (λu s₂=>wpAny (model X.f X.w) X.A (A6 op v u) (EP X pins σ Q) X.i s₂) X.i s₁) X.i s
theorem qc b(h:op≠.In)(h2:op≠.NotIn):Dt op b=false:=by
 have e1:(op == CmpOp.In)=false:=by cases op<;>first|rfl|exact absurd rfl h
 have e2:(op == CmpOp.NotIn)=false:=by cases op<;>first|rfl|exact absurd rfl h2
 cases b<;>simp[Dt,e1,e2]
def tB(t:TE):TT:=λσ H Q=>t σ H λx H1=>∃c,x=.f c/\Q c H1
theorem Qe(h:PC X op a b t)(h1:Dt op b=false:=by first|exact qc _ (by decide) (by decide)|rfl):PT X (.Compare a [op] [b] pos) (tB t):=by intro pins s σ H Q I hw;refine wpAny_isTrue_Compare1 (thn (h pins s σ H _ I hw) λv s1 h1=>thn h1 λu s2 h2=>thn h2 λc s3 ⟨x,H1,I1,r1,q1⟩=>?_) h1;obtain⟨d,rfl,q⟩:=q1;cases r1;exact Bw ⟨H1,I1,q⟩
theorem Uk(h:PE X e t)(he:∀whole,isTrue e X.a whole=(do let v <-whole;standAt e.pos;holding [v] (truthy v)):=by intro _;rfl):PT X e (tB t):=by intro pins s σ H Q I hw;refine isTrue_plain (thn (h pins s σ H _ I hw) λv s1 ⟨x,H1,I1,r1,q1⟩=>?_) (he _);obtain⟨d,rfl,q⟩:=q1;cases r1;exact Bw ⟨H1,I1,q⟩
variable {tA tB':TT}{rest:List Expr}
def tOr(t u:TT):TT:=λσ H Q=>t σ H λc H1=>if c=true then Q true H1 else u σ H1 Q
def R7(t:TT):TT:=λσ H Q=>t σ H λc H1=>Q (!c) H1
theorem Ul(ha:PT X a tA):PW X (.BoolOp .Or [a] pos) tA:=by
 intro wh pins s σ H Q I h;refine isTrue_or (thn (ha pins s σ H Q I h) λc s1 e=>?_);cases c with
 |false=>exact isTrue_or_nil e
 |true=>exact e
theorem Ra(ha:PT X a tA)(hb:PW X (.BoolOp .Or (b::rest) pos) tB'):PW X (.BoolOp .Or (a::b::rest) pos) (tOr tA tB'):=by
 intro wh pins s σ H Q I h;refine isTrue_or (thn (ha pins s σ H _ I h) λc s1 ⟨H1,I1,q1⟩=>?_);cases c with
 |true=>exact⟨H1,I1,q1⟩
 |false=>exact hb wh pins s1 σ H1 Q I1 q1
theorem jY(ha:PT X a tA):PT X (.UnaryOp .Not a pos) (R7 tA):=by intro pins s σ H Q I h;exact isTrue_not (ha pins s σ H (λc H1=>Q (!c) H1) I h)
def R4(ta tb:TE):TE:=λσ H Q=>ta σ H λx H1=>∃c,x=.f c/\if c=true then tb σ H1 Q else Q (.f false) H1
def R8(ta:TE):TE:=λσ H Q=>ta σ H λx H1=>∃c,x=.f c/\Q (.f (!c)) H1
theorem jR{op}(h:PE X a t):PE X (.BoolOp op [a] pos) t:=λpins s σ H Q I hw=>BoolOp_one (h pins s σ H Q I hw)
theorem UT(ha:PE X a ta)(hb:PE X (.BoolOp .And (b::rest) pos) tb):PE X (.BoolOp .And (a::b::rest) pos) (R4 ta tb):=by
 intro pins s σ H Q I h;refine BoolOp_and (thn (ha pins s σ H _ I h) λv s1 ⟨x,H1,I1,r1,q1⟩=>?_);obtain⟨c,rfl,q1⟩:=q1;cases r1;refine Bw ?_;cases c with
 |true=>exact hb pins s1 σ H1 Q I1 q1
 |false=>exact⟨.f false,H1,I1,rfl,q1⟩
theorem UZ(ha:PE X a ta):PE X (.UnaryOp .Not a pos) (R8 ta):=by intro pins s σ H Q I h;refine UnaryOp_ (thn (ha pins s σ H _ I h) λv s1 ⟨x,H1,I1,r1,q1⟩=>?_);obtain⟨c,rfl,q1⟩:=q1;cases r1;exact not_of (Bw ⟨.f (!c),H1,I1,rfl,q1⟩)
def tIf(t:TT)(ta tb:TE):TE:=λσ H Q=>t σ H λc H1=>if c=true then ta σ H1 Q else tb σ H1 Q
theorem lX(hc:PT X c tA)(ha:PE X a ta)(hb:PE X b tb):PE X (.IfExp c a b pos) (tIf tA ta tb):=by
 intro pins s σ H Q I h;refine wpAny_IfExp (thn (hc pins s σ H _ I h) λd s1 ⟨H1,I1,q1⟩=>?_);cases d with
 |true=>exact ha pins s1 σ H1 Q I1 q1
 |false=>exact hb pins s1 σ H1 Q I1 q1
end
def SqL(K:Af)(H:Hp)(a:Addr)(xs:List V):Prop:=
 Rd H a (.b xs) \/
  ∃(o:Obj) (its:Array Value) (n:Nat),K.lookup a=some o/\o.cls=.type "list"/\o.dict=none/\o.data=.seq its n/\its.size<=As/\Vals xs its.toList
def SqT(K:Af)(H:Hp)(a:Addr)(xs:List V):Prop:=
 Rd H a (.c xs) \/
  ∃(o:Obj) (its:Array Value) (n:Nat),K.lookup a=some o/\o.cls=.type "tuple"/\o.data=.seq its n/\its.size<=As/\Vals xs its.toList
noncomputable def QN:Value->Option V
 |.none=>some .g
 |.bool b=>some (.f b)
 |.int i _=>some (.d i)
 |.str x _=>some (.e x)
 |.bytes b _=>some (.h b)
 |.float b _=>some (.j b)
 |.ref a=>some (.c a)
 |.type n=>some (.k n)
 |_=>none
theorem RelV.abs(r:RelV x u):QN u=some x:=by
 cases x with
 |g=>cases r;rfl
 |f _=>cases r;rfl
 |d _=>obtain⟨t,rfl⟩:=r;rfl
 |e _=>obtain⟨t,rfl⟩:=r;rfl
 |h _=>obtain⟨t,rfl⟩:=r;rfl
 |j _=>obtain⟨t,rfl⟩:=r;rfl
 |c _=>cases r;rfl
 |k _=>cases r;rfl
theorem RelV.inj(r:RelV x u)(q:RelV y u):x=y:=AA (r.abs.symm.trans q.abs)
theorem Vals.inj:∀{xs ys} {us},Vals xs us->Vals ys us->xs=ys
 |_,_,_,.nil,.nil=>rfl
 |_,_,_,.cons r t,.cons r' t'=>by rw[r.inj r',Vals.inj t t']
section
variable {X:Cx}{pins:List (Addr × Obj)}{σ:St}{H:Hp}{s:Shared}{a:Addr}{xs ys:List V}
theorem SqL.of{K}(h:H a=some (.b xs)):SqL K H a xs:=.inl (.inl h)
theorem SqT.of{K}(h:H a=some (.c xs)):SqT K H a xs:=.inl (.inl h)
theorem Inv.list(I:Inv X pins σ H s)(h:SqL X.K H a xs):∃its:List Value,Vals xs its/\PlainL s.heap a its.toArray/\xs.length<=As:=by
 rcases h with h|⟨o,its,n,hk,hc,hd,hs,hz,r⟩
 . obtain⟨z,its,n,r,e⟩:=h.ok I.j
   exact⟨its,r,⟨_,n,e,rfl,rfl,rfl⟩,z⟩
 . refine⟨its.toList,r,⟨o,n,I.kIn a o hk,hc,hd,by simpa using hs⟩,?_⟩
   have e:=r.length;simp only[CU]at e;omega
theorem Inv.tuple(I:Inv X pins σ H s)(h:SqT X.K H a xs):∃its:List Value,Vals xs its/\IsTup s.heap a its.toArray/\xs.length<=As:=by
 rcases h with h|⟨o,its,n,hk,hc,hs,hz,r⟩
 . obtain⟨z,its,r,p⟩:=h.ok I.j
   exact⟨its,r,p.tup,z⟩
 . refine⟨its.toList,r,⟨o,I.kIn a o hk,hc,n,by simpa using hs⟩,?_⟩
   have e:=r.length;simp only[CU]at e;omega
theorem Inv.lE(I:Inv X pins σ H s)(h:SqL X.K H a xs)(h':SqL X.K H a ys):xs=ys:=by
 obtain⟨its,r,⟨o,n,e,_,_,d⟩,_⟩:=I.list h;obtain⟨its',r',⟨o',n',e',_,_,d'⟩,_⟩:=I.list h';rw[e]at e';cases e';rw[d]at d';injection d' with d1 _
 have:its=its':=by simpa using congrArg Array.toList d1
 subst this;exact r.inj r'
theorem Inv.oY(I:Inv X pins σ H s)(h:SqT X.K H a xs)(h':SqT X.K H a ys):xs=ys:=by
 obtain⟨its,r,⟨o,e,_,n,d⟩,_⟩:=I.tuple h;obtain⟨its',r',⟨o',e',_,n',d'⟩,_⟩:=I.tuple h';rw[e]at e';cases e';rw[d]at d';injection d' with d1 _
 have:its=its':=by simpa using congrArg Array.toList d1
 subst this;exact r.inj r'
end
noncomputable abbrev Cx.wo(X:Cx)(E:Value->Shared->Prop):Cx:={X with i:=E}
abbrev Cx.nox(X:Cx):Cx:=X.wo λ_ _=>False
theorem Cx.Ok.wo{X:Cx}(ok:X.Ok)E:(X.wo E).Ok:=
 ⟨ok.j,ok.a,ok.k,ok.t,ok.d,ok.s,ok.r,ok.q,ok.i,ok.g,ok.w,ok.G,ok.B,ok.p,ok.m,ok.l,ok.D,ok.u⟩
theorem Cx.Ok.xK{X:Cx}(ok:(X.wo E).Ok):X.Ok:=
 ⟨ok.j,ok.a,ok.k,ok.t,ok.d,ok.s,ok.r,ok.q,ok.i,ok.g,ok.w,ok.G,ok.B,ok.p,ok.m,ok.l,ok.D,ok.u⟩
section
variable {X:Cx}{pins:List (Addr × Obj)}{σ:St}{H:Hp}{s:Shared}{E:Value->Shared->Prop}
theorem Inv.wo(I:Inv X pins σ H s)E:Inv (X.wo E) pins σ H s:=⟨I.B.wo E,I.R,I.D,I.C,I.M,I.F,I.G,I.J,I.O,I.j,I.P⟩
theorem Inv.xK(I:Inv (X.wo E) pins σ H s):Inv X pins σ H s:=⟨I.B.xK,I.R,I.D,I.C,I.M,I.F,I.G,I.J,I.O,I.j,I.P⟩
theorem SP.xK(h:SP (X.wo E) pins D f s'):SP X pins D f s':=by
 cases f with
 |next=>obtain⟨σ',H',I,q⟩:=h;exact⟨σ',H',I.xK,q⟩
 |brk=>obtain⟨σ',H',I,q⟩:=h;exact⟨σ',H',I.xK,q⟩
 |cont=>obtain⟨σ',H',I,q⟩:=h;exact⟨σ',H',I.xK,q⟩
 |ret u=>obtain⟨v,σ',H',I,r,q⟩:=h;exact⟨v,σ',H',I.xK,r,q⟩
theorem PE.nox(h:PE X.nox e t):PE X e t:=λpins s σ H Q I hw=>
 A3 (h pins s σ H Q (I.wo _) hw) (λ_ _ ⟨v,H',I',r,q⟩=>⟨v,H',I'.xK,r,q⟩) λ_ _ z=>Ay z
theorem PT.nox(h:PT X.nox e t):PT X e t:=λpins s σ H Q I hw=>
 A3 (h pins s σ H Q (I.wo _) hw) (λ_ _ ⟨H',I',q⟩=>⟨H',I'.xK,q⟩) λ_ _ z=>Ay z
theorem PSs.nox{st}(h:PSs X.nox st t):PSs X st t:=λpins s σ H D I hw=>
 A3 (h pins s σ H D (I.wo _) hw) (λ_ _ q=>q.xK) λ_ _ z=>Ay z
end
section
variable {X:Cx}{st:Stmt}{rest:List Stmt}{t u:TS}{e:Expr}{te:TE}{pos:Pos}
def Wh:TS:=λD σ H=>D.a σ H
def kF(t u:TS):TS:=λD σ H=>t {D with a:=u D} σ H
theorem mD:PSs X [] Wh:=λ_ _ σ H _ I h=>DC ⟨σ,H,I,h⟩
theorem yv(h1:PS X st t)(h2:PSs X rest u):PSs X (st::rest) (kF t u):=by
 intro pins s σ H D I h;refine Ek (thn (h1 pins s σ H {D with a:=u D} I h) λf s1 q=>?_)
 cases f with
 |next=>
  obtain⟨σ',H',I',q⟩:=q;exact h2 pins s1 σ' H' D I' q
 |ret v=>exact q
 |brk=>exact q
 |cont=>exact q
theorem vj(h1:PS X st t):PSs X [st] t:=by
 intro pins s σ H D I h;refine Ek (thn (h1 pins s σ H D I h) λf s1 q=>?_);cases f with
 |next=>exact DC q
 |ret v=>exact q
 |brk=>exact q
 |cont=>exact q
theorem Inv.quiet(I:Inv X pins σ H s):interactive X.a=false:=by simp[interactive,I.B.a]
def R5(te:TE):TS:=λD σ H=>te σ H λ_ H1=>D.a σ H1
theorem mC(he:PE X e te)(hs:Eu e none pos.line X.a=pure false:=by rfl):PS X (.Expr e pos) (R5 te):=by intro pins s σ H D I h;exact wpAny_Expr_any (thn (he pins s σ H _ I h) λv s1 ⟨x,H1,I1,r1,q1⟩=>⟨σ,H1,I1,q1⟩) I.quiet hs
def eT(te:TE):TS:=λD σ H=>te σ H D.b
theorem uN(he:PE X e te):PS X (.Return (some e) pos) (eT te):=by intro pins s σ H D I h;exact wpAny_Return_some (thn (he pins s σ H _ I h) λv s1 ⟨x,H1,I1,r1,q1⟩=>⟨x,σ,H1,I1,r1,q1⟩)
def R6(c:TT)(t u:TS):TS:=λD σ H=>c σ H λb H1=>if b=true then t D σ H1 else u D σ H1
theorem lj(hc:PT X c tc)(ha:PSs X a t)(hb:PSs X b u):PS X (.If c a b pos) (R6 tc t u):=by
 intro pins s σ H D I h;refine wpAny_If (thn (hc pins s σ H _ I h) λd s1 ⟨H1,I1,q1⟩=>?_);cases d with
 |true=>exact ha pins s1 σ H1 D I1 q1
 |false=>exact hb pins s1 σ H1 D I1 q1
end
abbrev TG:=V->St->Hp->(St->Hp->Prop)->Prop
abbrev TGs:=List V->St->Hp->(St->Hp->Prop)->Prop
def PG(X:Cx)(target:Expr)(t:TG):Prop:=
 ∀(pins:List (Addr × Obj)) (s:Shared) (σ:St) (H:Hp) (v:V) (u:Value) (Q:St->Hp->Prop),Inv X pins σ H s->RelV v u->t v σ H Q ->
  wpAny (model X.f X.w) X.A (assign target X.a u) (λ_ s'=>∃σ' H',Inv X pins σ' H' s'/\Q σ' H') X.i s
def PGs(X:Cx)(ts:List Expr)(t:TGs):Prop:=
 ∀(pins:List (Addr × Obj)) (s:Shared) (σ:St) (H:Hp) (vs:List V) (us:List Value) (Q:St->Hp->Prop),Inv X pins σ H s->Vals vs us->t vs σ H Q ->
  wpAny (model X.f X.w) X.A (Eg ((CC ts X.a).map (·.2)) us) (λ_ s'=>∃σ' H',Inv X pins σ' H' s'/\Q σ' H') X.i s
abbrev Wz:=V->V->V->Hp->(Hp->Prop)->Prop
def Td(X:Cx)(t:Wz):Prop:=
 ∀(pins:List (Addr × Obj)) (s:Shared) (σ:St) (H:Hp) (o i v:V) (ov iv u:Value) (Q:Hp->Prop),Inv X pins σ H s->RelV o ov->RelV i iv->RelV v u->t o i v H Q ->
  wpAny (model X.f X.w) X.A (setItem ov iv u) (λ_ s'=>∃H',Inv X pins σ H' s'/\Q H') X.i s
abbrev TIp:=V->V->Hp->VK->Prop
def PIp(X:Cx)(op:Operator)(t:TIp):Prop:=
 ∀(pins:List (Addr × Obj)) (s:Shared) (σ:St) (H:Hp) (x y:V) (v u:Value) (Q:VK),Inv X pins σ H s->RelV x v->RelV y u->t x y H Q ->
  wpAny (model X.f X.w) X.A (DM op v u) (EP X pins σ Q) X.i s
section
variable {X:Cx}{pos:Pos}
def wA(i:Nat):TG:=λv σ H Q=>Q (σ.set i (some v)) H
theorem XS(hN:X.N.Nodup)(hi:X.N[i]?=some x)(hx:Loc X.a.scope x)(hf:X.n x=true\/X.a.scope.names.lookup x=some .local:=by first|exact .inl rfl|exact .inr rfl|assumption):PG X (.Name x pos) (wA i):=by intro pins s σ H v u Q I r h;exact wpAny_assign_Name (xf I hN hi hx r (λs' I'=>⟨_,H,I',h⟩) hf)
def T4:TGs:=λvs σ H Q=>vs=[]/\Q σ H
def WK(t:TG)(u:TGs):TGs:=λvs σ H Q=>∃v r,vs=v::r/\t v σ H λσ' H'=>u r σ' H' Q
theorem XU:PGs X [] T4:=by intro pins s σ H vs us Q I r h;obtain⟨e,h⟩:=h;subst e;cases r;exact Fx ⟨σ,H,I,h⟩
theorem aa{e:Expr}{es:List Expr}{t:TG}{u:TGs}(h1:PG X e t)(h2:PGs X es u)
 (hs:(CC (e::es) X.a).map (·.2)=assign e X.a::(CC es X.a).map (·.2):=by rfl):PGs X (e::es) (WK t u):=by
 intro pins s σ H vs us Q I r h;obtain⟨v,vr,e1,h⟩:=h;subst e1;cases r with
 |cons r rr=>
  rw[hs];refine Cm (thn (h1 pins s σ H _ _ _ I r h) λ_ s1 ⟨σ1,H1,I1,q1⟩=>?_);exact h2 pins s1 σ1 H1 _ _ Q I1 rr q1
def T6(K:Af)(n:Nat)(t:TGs):TG:=λv σ H Q=>∃a xs,v=.c a/\SqT K H a xs/\xs.length=n/\t xs σ H Q
theorem tF(hc:X.j=true)(h:PGs X es t)
 (hn:(CC es X.a).length=n:=by rfl) (hst:(CC es X.a).findIdx? (·.1)=none:=by rfl):PG X (.Tuple es k pos) (T6 X.K n t):=by
 intro pins s σ H v u Q I r hw;obtain⟨a,xs,e1,hq,hl,hw⟩:=hw;subst e1;cases r;obtain⟨its,rv,ht,hz⟩:=I.tuple hq;refine assign_Tuple_tuple (I.B.i hc) ht (by simp[hn,<-hl,rv.length]) hst λh' hx=>?_
 have I1:Inv X pins σ H {s with heap:=h'}:=I.kept (t':=s.toks) λb o e=>hx b o (AI (Ai e)) e
 exact h pins _ σ H xs _ Q I1 (by simpa using rv) hw
def T5(to ti:TE)(t:Wz):TG:=λv σ H Q=>to σ H λo H1=>ti σ H1 λi H2=>t o i v H2 λH3=>Q σ H3
theorem Ud(ho:PE X o to)(hi:PE X i ti)(hs:Td X t)
 (ha:∀v,assign (.Subscript o i pos) X.a v=(do
  let ov <-holding [v] (eval o X.a);let iv <-holding [v,ov] (eval i X.a)
  standAt pos
  holding [v,ov,iv] (setItem ov iv v)
  release [v,ov,iv] []):=by intro _;rfl):PG X (.Subscript o i pos) (T5 to ti t):=by
 intro pins s σ H v u Q I r h;rw[ha];refine lp (B0 (thn (ho pins s σ H _ I h) λov s1 ⟨x,H1,I1,r1,q1⟩=>?_));refine lp (B0 (thn (hi pins s1 σ H1 _ I1 q1) λiv s2 ⟨y,H2,I2,r2,q2⟩=>?_));refine lp (Bi (lp (B0 (thn (hs pins s2 σ H2 x y v ov iv u _ I2 r1 r2 r q2) λ_ s3 ⟨H3,I3,q3⟩=>?_))));exact wpAny_release ⟨σ,H3,I3,q3⟩
def um(te:TE)(g:TG):TS:=λD σ H=>te σ H λx H1=>g x σ H1 D.a
theorem jX(he:PE X e te)(hg:PG X tg g)(hs:Eh [tg] e pos.line X.a=pure false:=by rfl)(hw:BQ [tg] e X.a=pure none:=by rfl)
 (h1:(CC [tg] X.a).map (·.2)=[assign tg X.a]:=by rfl):PS X (.Assign [tg] e pos) (um te g):=by
 intro pins s σ H D I h;refine wpAny_Assign_stores (thn (he pins s σ H _ I h) λv s1 ⟨x,H1,I1,r1,q1⟩=>?_) hs hw;rw[h1];exact thn (hg pins s1 σ H1 x v _ I1 r1 q1) λ_ s2 q=>q
theorem uO(hN:X.N.Nodup)(hi:X.N[i]?=some x)(hx:Loc X.a.scope x)(he:PE X e te)(hs:Eu e (some (.Name x pos')) pos.line X.a=pure false:=by rfl)(hf:X.n x=true\/X.a.scope.names.lookup x=some .local:=by first|exact .inl rfl|exact .inr rfl|assumption) :
 PS X (.Assign [.Name x pos'] e pos) (um te (wA i)):=by
 intro pins s σ H D I h;refine wpAny_Assign_Name (thn (he pins s σ H _ I h) λv s1 ⟨y,H1,I1,r1,q1⟩=>?_) hs;exact xf I1 hN hi hx r1 (λs2 I2=>⟨_,H1,I2,q1⟩) hf
def QA(i j:Nat)(ta:TA):TS:=λD σ H=>ta σ H λvs H1=>∃v w,vs=[v,w]/\D.a ((σ.set i (some v)).set j (some w)) H1
theorem Uj{kt k2 pt2}(hc:X.j=true)(hN:X.N.Nodup)(hi:X.N[i]?=some x)(hj:X.N[j]?=some y)(hij:i≠j)
 (hx:X.a.scope.names.lookup x=some .local) (hy:X.a.scope.names.lookup y=some .local) (ha:PA X [a,b] ta)
 (hw:BQ [.Tuple [.Name x px,.Name y py] kt pt] (.Tuple [a,b] k2 pt2) X.a=pure (some [x,y]))
 (hs:Eh [.Tuple [.Name x px,.Name y py] kt pt] (.Tuple [a,b] k2 pt2) pos.line X.a=pure false:=by rfl) :
 PS X (.Assign [.Tuple [.Name x px,.Name y py] kt pt] (.Tuple [a,b] k2 pt2) pos) (QA i j ta):=by
 intro pins s σ H D I h;rw[exec_Assign_arm];refine lp (Bi ?_);rw[hs];refine lp (Ag ?_);rw[if_neg (by decide)]
 refine lp (Tuple_ (thn (ha _ pins s σ H _ I h) λus s1 ⟨vs,H1,I1,r1,q1⟩=>?_));obtain⟨v,w,e1,q1⟩:=q1;subst e1;obtain⟨u1,u2,rfl,rv,rw'⟩:∃u1 u2,us=[u1,u2]/\RelV v u1/\RelV w u2:=by
  cases r1 with
  |cons p q=>
   cases q with
   |cons p' q'=>
    cases q';exact⟨_,_,rfl,p,p'⟩
 refine Bb ?_ (by show 2<=As;decide)
 have I2:Inv X pins σ H1 {s1 with heap:=s1.heap.push {cls:=.type "tuple",data:=.seq [u1,u2].toArray}}:=I1.kept (t':=s1.toks) λb o e=>nx _ e
 rw[hw];refine lp (Ag ?_);show wpAny (model X.f X.w) X.A (do rule "assign.swapped-stores";let items <-unpackItems (.ref s1.heap.objs.size) 2 none;Eg [λv=>C6 X.a y v,λv=>C6 X.a x v] items.reverse;pure GC) _ _ _
 refine lp (D0 (lp (unpackItems_tuple (items:=#[u1,u2]) (I.B.i hc) (IsTup.new s1.heap _) λh' hx'=>?_)));have I3:=I2.kept (h':=h') (t':=s1.toks) λb o e=>hx' b o (AI (Ai e)) e;show wpAny _ _ (Eg [λv=>C6 X.a y v,λv=>C6 X.a x v] [u2,u1] >>= λ_=>pure GC) _ _ _;refine lp (Cm (D1 (xf I3 hN hj (.inl hy) rw' (λs2 I4=>?_) (.inr hy))));refine Cm (D1 (xf I4 hN hi (.inl hx) rv (λs3 I5=>Fx (Ag ?_)) (.inr hx)));rw[Ff _ _ (Bt hij)]at I5;exact⟨_,H1,I5,q1⟩
def Qm(i:Nat)(te:TE)(ti:TIp):TS:=λD σ H=>∃x,σ[i]?=some (some x)/\te σ H λy H1=>ti x y H1 λz H2=>D.a (σ.set i (some z)) H2
theorem ai(hN:X.N.Nodup)(hi:X.N[i]?=some x)(hx:Loc X.a.scope x)(he:PE X e te)(ho:PIp X op ti)(hf:X.n x=true\/X.a.scope.names.lookup x=some .local:=by first|exact .inl rfl|exact .inr rfl|assumption) :
 PS X (.AugAssign (.Name x pos') op e pos) (Qm i te ti):=by
 intro pins s σ H D I h;obtain⟨v,e1,h⟩:=h;obtain⟨m,hn,hl⟩:=I.M;have vis:Vis X.a.scope x:=by rcases hx with k|k;exact .inl k;exact .inr (.inl k)
 obtain⟨u,r,l⟩:=hl i x v hi e1 vis;refine wpAny_AugAssign_Name ?_;have go:wpAny (model X.f X.w) X.A (eval e X.a) (λw s₂=>wpAny (model X.f X.w) X.A (DM op u w) (λr s₃=>wpAny (model X.f X.w) X.A (GB X.a x r) (λ_=>SP X pins D .next) X.i s₃) X.i s₂) X.i s:=by refine thn (he pins s σ H _ I h) λw s1 ⟨y,H1,I1,r1,q1⟩=>?_;refine thn (ho pins s1 σ H1 v y u w _ I1 r r1 q1) λz s2 ⟨zv,H2,I2,r2,q2⟩=>?_;exact xf I2 hN hi hx r2 (λs3 I3=>⟨_,H2,I3,q2⟩) hf
 rcases l with⟨hk,hm⟩|⟨hk,c,hc,hcell⟩
 . exact wpAny_loadName_local I.B.a hk hn hm go
 . rcases hk with hk|hk
   . exact wpAny_loadName_cell I.B.a hk hc hcell go
   . rcases hx with k|k
     . have:X.a.scope.names.lookup x=some .free:=hk
       rw[k]at this;cases this
     . have:X.a.scope.names.lookup x=some .free:=hk
       rw[k]at this;cases this
end
section
variable {X:Cx}{pos:Pos}
def ZZ(c:TT)(tb:TS):TS:=λD σ H=>∃W:Nat->St->Hp->Prop,(∃m,W m σ H)/\∀m σ H,W m σ H ->
 c σ H λb H1=>if b=true then ∃N:St->Hp->Prop,(∀σ' H',N σ' H'->∃m',m'<m/\W m' σ' H')/\tb {D with a:=N,d:=N,c:=D.a} σ H1 else D.a σ H1
theorem ak(hp:E5 (model X.f X.w) X.A X.a X.i)(hc:PT X c tc)(hb:PSs X body tb):PS X (.While c body [] pos) (ZZ tc tb):=by
 intro pins s σ H D I h;obtain⟨W,⟨m0,w0⟩,turn⟩:=h;refine wpAny_While (codeAny_whileLoop (λn s'=>∃σ' H',Inv X pins σ' H' s'/\W n σ' H') ?_ m0 ⟨σ,H,I,w0⟩);rintro n s1 ⟨σ1,H1,I1,w1⟩;refine Cu hp (thn (hc pins s1 σ1 H1 _ I1 (turn n σ1 H1 w1)) λb s2 ⟨H2,I2,q2⟩=>?_);cases b with
 |true=>
  obtain⟨N,hN,q2⟩:=q2;rw[if_pos rfl];refine Cu hp (thn (hb pins s2 σ1 H2 _ I2 q2) λf s3 q3=>?_);cases f with
  |next=>
   obtain⟨σ3,H3,I3,n3⟩:=q3;obtain⟨m',hm,w3⟩:=hN σ3 H3 n3;exact⟨m',hm,σ3,H3,I3,w3⟩
  |cont=>
   obtain⟨σ3,H3,I3,n3⟩:=q3;obtain⟨m',hm,w3⟩:=hN σ3 H3 n3;exact⟨m',hm,σ3,H3,I3,w3⟩
  |brk=>exact q3
  |ret v=>exact q3
 |false=>
  rw[if_neg xd];exact DC ⟨σ1,H2,I2,q2⟩
end
structure It where
 c:Nat->Hp->Prop
 b:Nat->Hp->V->Hp->Prop
 a:Nat->Hp->Prop
def ug(X:Cx)(pins:List (Addr × Obj))(H:Hp)(b:Addr):Prop:=
 H b=none/\b≠X.a.locals/\b ∉ X.fs/\(b∈X.m\/X.l.heap.objs.size<=b)/\(∀x c,X.a.cells.lookup x=some c->c≠b)/\∀p∈X.q++pins,p.1≠b
theorem Inv.YJ(I:Inv X pins σ H s)(hb:s.heap.objs.size<=b)(hn:H' b=none):ug X pins H' b:=by
 refine⟨hn,DN (Au I.lt hb),I.QZ hb,.inr (AD I.sz hb),λx c e z=>?_,λp hp z=>?_⟩
 . obtain⟨v,q⟩:=I.F x c e
   exact absurd (Au q.lt (by rw[z];exact hb)) (Be _)
 . exact absurd (Au (Ai (I.O p hp).1) (by rw[z];exact hb)) (Be _)
structure Turn(P:Program)(w:World)(K:Af)(tg:Expr)(J:It)(fp:List Addr)(it:Addr)(tn:Nat->Heap->Prop):Prop where
 g:it∈fp
 c:∀i h,tn i h->∀b∈fp,∃o,h.get? b=some o/\∀v,o.data≠.cell v
 a:∀i h h',tn i h->(∀b∈fp,∀o,h.get? b=some o->h'.get? b=some o)->tn i h'
 e:∀(X:Cx),X.f=P->X.w=w->X.K=K->X.j=true->∀(i:Nat) (pins:List (Addr × Obj)) (s:Shared) (σ:St) (H:Hp) (E:Value->Shared->Prop),Inv X pins σ H s->(∀b∈fp,ug X pins H b)->tn i s.heap->J.c i H ->
  wpAny (model P w) X.A (pyNext (.ref it)) (λr s1=>∃u,r=some u /\
   wpAny (model P w) X.A (BA tg (.ref it) u) (λ_ s2=>∃x H',Inv X pins σ H' s2/\RelV x u/\J.b i H x H'/\tn (i+1) s2.heap/\∀b∈fp,H' b=none) E s1) E s
 d:∀(X:Cx),X.f=P->X.w=w->X.K=K->X.j=true->∀(i:Nat) (pins:List (Addr × Obj)) (s:Shared) (σ:St) (H:Hp) (E:Value->Shared->Prop),Inv X pins σ H s->(∀b∈fp,ug X pins H b)->tn i s.heap->J.a i H ->
  wpAny (model P w) X.A (pyNext (.ref it)) (λr s1=>r=none/\Inv X pins σ H s1) E s
 f:∀(A:Around) (i:Nat) (s:Shared) (Q:Value->Shared->Prop) (E:Value->Shared->Prop),tn i s.heap->Q (.ref it) s->wpAny (model P w) A (pyIter (.ref it)) Q E s
abbrev TI:=St->Hp->(It->Hp->Prop)->Prop
def PIE(X:Cx)(pins:List (Addr × Obj))(σ:St)(tg:Expr)(R:It->Hp->Prop)(itv:Value)(s2:Shared):Prop:=
 ∃(it:Addr) (fp:List Addr) (tn:Nat->Heap->Prop) (J:It) (H':Hp),itv=.ref it/\Inv X pins σ H' s2/\Turn X.f X.w X.K tg J fp it tn/\tn 0 s2.heap/\(∀b∈fp,ug X pins H' b)/\R J H'
def PI(X:Cx)(tg iter:Expr)(wi:TI):Prop:=
 ∀(pins:List (Addr × Obj)) (s:Shared) (σ:St) (H:Hp) (R:It->Hp->Prop),Inv X pins σ H s->wi σ H R ->
  wpAny (model X.f X.w) X.A (eval iter X.a) (λv s1=>wpAny (model X.f X.w) X.A (pyIter v) (PIE X pins σ tg R) X.i s1) X.i s
theorem cw(ho:s.heap.get? it=some o)(hc:o.cls=.type n)(hd:o.data=.fields vs)
 (hn:["enumerate","zip","dict_itemiterator","dict_reverseitemiterator","odict_iterator","itertools.zip_longest","itertools.pairwise"].contains n=false) (hQ:Q () s):wpAny M A (BA tg (.ref it) u) Q E s:=by
 unfold BA;cases tg<;>first
  |exact Ag hQ
  |(cases u<;>first
   |exact Ag hQ
   |(refine lp (wpAny_load ho ?_)
     rw[hc,hd];show wpAny M A (if (["enumerate","zip","dict_itemiterator","dict_reverseitemiterator","odict_iterator","itertools.zip_longest","itertools.pairwise"].contains n&&vs[0]? == some (rawInt _))=true then _ else _) Q E s
     rw[if_neg (by intro h;rw[hn,Dd]at h;cases h)]
     exact Ag hQ))
noncomputable def Itl(K:Af)(a:Addr):It:=
 ⟨λi H=>∃xs x,SqL K H a xs/\xs[i]?=some x,λi H x H'=>H'=H/\∀xs,SqL K H a xs->xs[i]?=some x,λi H=>∃xs,SqL K H a xs/\xs.length<=i⟩
noncomputable def Itt(K:Af)(a:Addr):It:=
 ⟨λi H=>∃xs x,SqT K H a xs/\xs[i]?=some x,λi H x H'=>H'=H/\∀xs,SqT K H a xs->xs[i]?=some x,λi H=>∃xs,SqT K H a xs/\xs.length<=i⟩
noncomputable def Itr(lo:Int)(n:Nat):It:=⟨λi _=>i<n,λi H x H'=>H'=H/\x=.d (lo+i),λi _=>n<=i⟩
theorem eV{K}a it:Turn P w K tg (Itl K a) [it] it (λi h=>h.IsListIter it a i) where
 g:=by simp
 c:=λi h st b hb=>by
  have e:b=it:=by simpa using hb
  subst e;obtain⟨o,e,c,d⟩:=st;exact⟨o,e,λv z=>by rw[d]at z;cases z⟩
 a:=λi h h' st k=>st.at λo e=>k it (by simp) o e
 e:=by
  intro X hP hw hK hc i pins s σ H E I hf st hg;subst hP hw hK;obtain⟨xs,x,hq,hx⟩:=hg;obtain⟨its,rv,p,hz⟩:=I.list hq;obtain⟨u,hu,ru⟩:=rv.get hx;obtain⟨f0,f1,f2,f3,f4,f5⟩:=hf it (by simp)
  refine wpAny_pyNext_list_item st p.isList (x:=u) (by simpa using hu) λh' st' sb=>?_
  have I1:Inv X pins σ H {s with heap:=h'}:=I.turned (t':=s.toks) (λb o hb e=>(sb.2 b hb).trans e) f0 f1 f3 f4 f5
  obtain⟨o,e,c,d⟩:=id st';exact⟨u,rfl,cw (s:={s with heap:=h'}) e c d (by decide) ⟨x,H,I1,ru,⟨rfl,λys hy=>by rw[I.lE hy hq];exact hx⟩,st',λb hb=>(hf b hb).1⟩⟩
 d:=by
  intro X hP hw hK hc i pins s σ H E I hf st hg;subst hP hw hK;obtain⟨xs,hq,hx⟩:=hg;obtain⟨its,rv,p,hz⟩:=I.list hq;obtain⟨f0,f1,f2,f3,f4,f5⟩:=hf it (by simp)
  have hl:=rv.length;exact wpAny_pyNext_list_end (I.B.i hc) st p.isList (by simp;omega) λh' eb=>⟨rfl,I.turned (t':=s.toks) (λb o hb e=>eb b o hb e) f0 f1 f3 f4 f5⟩
 f:=λ_ _ _ _ _ st h=>wpAny_pyIter_listiter st h
theorem j8{K}a it:Turn P w K tg (Itt K a) [it] it (λi h=>h.IsTupleIter it a i) where
 g:=by simp
 c:=λi h st b hb=>by
  have e:b=it:=by simpa using hb
  subst e;obtain⟨o,e,c,d⟩:=st;exact⟨o,e,λv z=>by rw[d]at z;cases z⟩
 a:=λi h h' st k=>st.at λo e=>k it (by simp) o e
 e:=by
  intro X hP hw hK hc i pins s σ H E I hf st hg;subst hP hw hK;obtain⟨xs,x,hq,hx⟩:=hg;obtain⟨its,rv,p,hz⟩:=I.tuple hq;obtain⟨u,hu,ru⟩:=rv.get hx;obtain⟨f0,f1,f2,f3,f4,f5⟩:=hf it (by simp)
  refine wpAny_pyNext_tuple_item st (show s.heap.IsTuple a its.toArray from p) (x:=u) (by simpa using hu) λh' st' sb=>?_
  have I1:Inv X pins σ H {s with heap:=h'}:=I.turned (t':=s.toks) (λb o hb e=>(sb.2 b hb).trans e) f0 f1 f3 f4 f5
  obtain⟨o,e,c,d⟩:=id st';exact⟨u,rfl,cw (s:={s with heap:=h'}) e c d (by decide) ⟨x,H,I1,ru,⟨rfl,λys hy=>by rw[I.oY hy hq];exact hx⟩,st',λb hb=>(hf b hb).1⟩⟩
 d:=by
  intro X hP hw hK hc i pins s σ H E I hf st hg;subst hP hw hK;obtain⟨xs,hq,hx⟩:=hg;obtain⟨its,rv,p,hz⟩:=I.tuple hq;obtain⟨f0,f1,f2,f3,f4,f5⟩:=hf it (by simp)
  have hl:=rv.length;exact wpAny_pyNext_tuple_end (I.B.i hc) st (show s.heap.IsTuple a its.toArray from p) (by simp;omega) λh' eb=>⟨rfl,I.turned (t':=s.toks) (λb o hb e=>eb b o hb e) f0 f1 f3 f4 f5⟩
 f:=λ_ _ _ _ _ st h=>wpAny_pyIter_tupleiter st h
theorem j7{K}it lo n:Turn P w K tg (Itr lo n) [it] it (λi h=>IsRangeIter h it (lo+(i:Nat)*1) ((n:Int)-(i:Nat)) 1) where
 g:=by simp
 c:=λi h st b hb=>by
  have e:b=it:=by simpa using hb
  subst e;exact⟨_,st,λv z=>by have z':Gb _=Data.cell v:=z;cases z'⟩
 a:=λi h h' st k=>k it (by simp) _ st
 e:=by
  intro X hP hw hK hc i pins s σ H E I hf st hg;subst hP hw hK;obtain⟨f0,f1,f2,f3,f4,f5⟩:=hf it (by simp)
  have W:=Walks.range (prog:=X.f) (w:=X.w) (I.B.i hc) it lo 1 n;refine W.item i s _ _ hg st λv h' tk hv st' kk=>?_;obtain⟨t,rfl⟩:=hv;have I1:Inv X pins σ H {s with heap:=h',toks:=tk}:=I.turned (λb o hb e=>kk b o (by simpa using hb) e) f0 f1 f3 f4 f5
  refine⟨_,rfl,cw (s:={s with heap:=h',toks:=tk}) (n:="range_iterator") st' rfl rfl (by decide) ⟨.d (lo+i),H,I1,⟨t,?_⟩,⟨rfl,rfl⟩,st',λb hb=>(hf b hb).1⟩⟩
  rw[Int.mul_one]
 d:=by
  intro X hP hw hK hc i pins s σ H E I hf st hg;subst hP hw hK;obtain⟨f0,f1,f2,f3,f4,f5⟩:=hf it (by simp)
  exact wpAny_pyNext_range_end (I.B.i hc) st (by have:n<=i:=hg;omega) λh' eb=>⟨rfl,I.turned (t':=s.toks) (λb o hb e=>eb b o hb e) f0 f1 f3 f4 f5⟩
 f:=λ_ _ _ _ _ st h=>wpAny_pyIter_rangeiter st h
section
variable {X:Cx}{tg:Expr}
def SE(K:Af)(tl:TE):TI:=λσ H R=>tl σ H λx H1=>∃a,x=.c a/\(∃xs,SqL K H1 a xs)/\R (Itl K a) H1
def QV(K:Af)(tl:TE):TI:=λσ H R=>tl σ H λx H1=>∃a,x=.c a/\(∃xs,SqT K H1 a xs)/\R (Itt K a) H1
theorem gD(hl:PE X l tl):PI X tg l (SE X.K tl):=by
 intro pins s σ H R I h;refine thn (hl pins s σ H _ I h) λv s1 ⟨x,H1,I1,r1,q1⟩=>?_;obtain⟨a,e,⟨xs,hq⟩,q⟩:=q1;subst e;cases r1;obtain⟨its,rv,p,hz⟩:=I1.list hq;refine D8 p.isList ?_;refine⟨s1.heap.objs.size,[s1.heap.objs.size],_,_,H1,rfl,I1.kept (t':=s1.toks) λb o e=>nx _ e,eV a _,⟨_,Az _ rfl,rfl,rfl⟩,λb hb=>?_,q⟩;have e:b=s1.heap.objs.size:=by simpa using hb
 subst e;exact I1.YJ (Ac _) (I1.j.fresh (Ac _))
theorem ae(hl:PE X l tl):PI X tg l (QV X.K tl):=by
 intro pins s σ H R I h;refine thn (hl pins s σ H _ I h) λv s1 ⟨x,H1,I1,r1,q1⟩=>?_;obtain⟨a,e,⟨xs,hq⟩,q⟩:=q1;subst e;cases r1;obtain⟨its,rv,p,hz⟩:=I1.tuple hq;refine Co (show s1.heap.IsTuple a its.toArray from p) ?_;refine⟨s1.heap.objs.size,[s1.heap.objs.size],_,_,H1,rfl,I1.kept (t':=s1.toks) λb o e=>nx _ e,j8 a _,⟨_,Az _ rfl,rfl,rfl⟩,λb hb=>?_,q⟩;have e:b=s1.heap.objs.size:=by simpa using hb
 subst e;exact I1.YJ (Ac _) (I1.j.fresh (Ac _))
theorem lx{lo hi}(I:Inv X pins σ H s)(h1:-(2 ^ 62)<=lo)(h2:lo<2 ^ 62)(h3:-(2 ^ 62)<=hi)(h4:hi<2 ^ 62)
 (q:R (Itr lo (hi-lo).toNat) H):wpAny (model X.f X.w) X.A (pyIter (.ref s.heap.objs.size)) (PIE X pins σ tg R) E {s with heap:=s.heap.push {cls:=.type "range",data:=.fields #[.int lo t,.int hi u,.int 1 v]},toks:=tk}:=by
 refine wpAny_pyIter_range (IsRange.new ..) (small_one h1 h2 h3 h4) ?_;have I1:Inv X pins σ H {s with heap:=s.heap.push {cls:=.type "range",data:=.fields #[.int lo t,.int hi u,.int 1 v]},toks:=tk}:=I.kept λb o e=>nx _ e
 refine⟨(s.heap.push {cls:=.type "range",data:=.fields #[.int lo t,.int hi u,.int 1 v]}).objs.size,[(s.heap.push {cls:=.type "range",data:=.fields #[.int lo t,.int hi u,.int 1 v]}).objs.size],_,_,H,rfl,
  I1.kept (t':=tk) λb o e=>nx _ e,j7 _ lo (hi-lo).toNat,?_,λb hb=>?_,q⟩
 . have e1:lo+((0:Nat):Int)*1=lo:=by simp
   have e2:(((hi-lo).toNat:Nat):Int)-((0:Nat):Int)=Ce lo hi 1:=by rw[rangeSize_one];split<;>omega
   show IsRangeIter _ _ (lo+((0:Nat):Int)*1) ((((hi-lo).toNat:Nat):Int)-((0:Nat):Int)) 1;rw[e1,e2];exact Az _ rfl
 . have e:b=(s.heap.push {cls:=.type "range",data:=.fields #[.int lo t,.int hi u,.int 1 v]}).objs.size:=by simpa using hb
   subst e;exact I1.YJ (Ac _) (I1.j.fresh (Ac _))
def SG(ta:TA):TI:=λσ H R=>ta σ H λvs H1=>∃j:Int,vs=[.d j]∧-(2 ^ 62)<=j/\j<2 ^ 62/\R (Itr 0 j.toNat) H1
def SH(ta:TA):TI:=λσ H R=>ta σ H λvs H1=>∃i j:Int,vs=[.d i,.d j]/\(-(2 ^ 62)<=i/\i<2 ^ 62∧-(2 ^ 62)<=j/\j<2 ^ 62)/\R (Itr i (j-i).toNat) H1
theorem fz(hg:Gl X "range")(hm:X.d "range"=none)(ha:PA X [a] ta)(hs:AJ [a] X.a=[(false,eval a X.a)]:=by rfl):PI X tg (.Call (.Name "range" p) [a] [] pos) (SG ta):=by
 intro pins s σ H R I h;refine Call_ (u7 I hg hm boot_range (Cp (thn (ha pos pins s σ H _ I h) λus s1 ⟨vs,H1,I1,r1,q1⟩=>?_) hs rfl));obtain⟨j,e,q1,q2,q⟩:=q1;subst e;cases r1 with
 |cons r rr=>
  cases rr;obtain⟨t,rfl⟩:=r;exact call_range_1 (lx I1 (by omega) (by omega) q1 q2 (by simpa using q))
theorem eA(hg:Gl X "range")(hm:X.d "range"=none)(ha:PA X [a,b] ta)(hs:AJ [a,b] X.a=[(false,eval a X.a),(false,eval b X.a)]:=by rfl)(hs2:AJ [b] X.a=[(false,eval b X.a)]:=by rfl) :
 PI X tg (.Call (.Name "range" p) [a,b] [] pos) (SH ta):=by
 intro pins s σ H R I h;refine Call_ (u7 I hg hm boot_range (Cp (thn (ha pos pins s σ H _ I h) λus s1 ⟨vs,H1,I1,r1,q1⟩=>?_) (by rw[hs,hs2]) (by rw[hs2];rfl)))
 obtain⟨i,j,e,⟨q1,q2,q3,q4⟩,q⟩:=q1;subst e;cases r1 with
 |cons r rr=>
  cases rr with
  |cons r' rr=>
   cases rr;obtain⟨t,rfl⟩:=r;obtain⟨t',rfl⟩:=r';exact call_range_2 (lx I1 q1 q2 q3 q4 q)
def Qo(wi:TI)(g:TG)(tb:TS):TS:=λD σ H=>wi σ H λJ H1=>∃W:Nat->Nat->St->Hp->Prop,(∃m,W 0 m σ H1)/\∀i m σ H,W i m σ H ->
 (J.a i H/\D.a σ H)\/(J.c i H/\∃N:St->Hp->Prop,(∀σ' H',N σ' H'->∃m',m'<m/\W (i+1) m' σ' H')/\∀x H',J.b i H x H'->g x σ H' λσ2 H2=>tb {D with a:=N,d:=N,c:=D.a} σ2 H2)
noncomputable def qp(fp:List Addr)(h:Heap):List (Addr × Obj):=fp.filterMap λb=>(h.get? b).map λo=>(b,o)
theorem vi(hb:b∈fp)(e:h.get? b=some o):(b,o)∈qp fp h:=Cq.mpr ⟨b,hb,by rw[e];rfl⟩
theorem fT(hp:p∈qp fp h):p.1∈fp/\h.get? p.1=some p.2:=by
 obtain⟨b,hb,e⟩:=Cq.mp hp;cases q:h.get? b with
 |none=>rw[q]at e;cases e
 |some o=>
  rw[q]at e;have e':(b,o)=p:=AA e;subst e';exact⟨hb,q⟩
theorem Inv.pinned(I:Inv X pins σ H s)(hf:∀b∈fp,ug X pins H b)(ho:∀b∈fp,∃o,s.heap.get? b=some o/\∀v,o.data≠.cell v):Inv X (pins++qp fp s.heap) σ H s:=
 I.mB λp hp=>(AS.mp hp).elim (λz=>I.O p (A8 _ z)) λz=>by obtain⟨hb,e⟩:=fT z;obtain⟨f0,f1,f2,_⟩:=hf p.1 hb;obtain⟨o,e',d⟩:=ho p.1 hb;rw[e]at e';cases e';exact⟨e,f0,f1,f2,d⟩
theorem Inv.sP(I:Inv X (pins++pl) σ H s):Inv X pins σ H s:=I.mB λp hp=>I.O p (A8 _ (Bp _ hp))
theorem Ui(hp:E5 (model X.f X.w) X.A X.a X.i)(hc:X.j=true)(hi:PI X tg iter wi)(hg:PG X tg g)(hb:PSs X body tb)
 (hs:∀x,AZ iter X.a x=pure x:=by intro _;rfl):PS X (.For tg iter body [] pos) (Qo wi g tb):=by
 intro pins s σ H D I h;refine wpAny_For (thn (hi pins s σ H _ I h) λv s1 h1=>thn h1 λitv s2 h2=>?_) hs;obtain⟨it,fp,tn,J,H2,e,I2,T,st2,f2,W,⟨m0,w0⟩,turn⟩:=h2;subst e
 -- what stays true of the iterator's objects through the loop
 have stat:∀{H':Hp},(∀b∈fp,H' b=none)->∀b∈fp,ug X pins H' b:=λhn b hb=>⟨hn b hb,(f2 b hb).2⟩;refine codeAny_forLoop_any (λn s'=>∃i σ' H',Inv X pins σ' H' s'/\tn i s'.heap/\(∀b∈fp,H' b=none)/\W i n σ' H') ?_ m0 ⟨0,σ,H2,I2,st2,λb hb=>(f2 b hb).1,w0⟩;rintro n s3 ⟨i,σ3,H3,I3,st3,fr3,w3⟩;rcases turn i n σ3 H3 w3 with⟨stop,qn⟩|⟨go,N,hN,step⟩
 . refine Cu hp (thn (T.d X rfl rfl rfl hc i pins s3 σ3 H3 X.i I3 (stat fr3) st3 stop) λr s4 ⟨hr,I4⟩=>?_)
   subst hr;exact DC ⟨σ3,H3,I4,qn⟩
 . refine Cu hp (thn (T.e X rfl rfl rfl hc i pins s3 σ3 H3 X.i I3 (stat fr3) st3 go) λr s4 ⟨u,hr,h4⟩=>?_)
   subst hr;refine Cu hp (thn h4 λ_ s5 ⟨x,H5,I5,r5,y5,st5,fr5⟩=>?_);have I5':=I5.pinned (stat fr5) (T.c _ _ st5);refine Cu hp (thn (hg _ s5 σ3 H5 x u _ I5' r5 (step x H5 y5)) λ_ s6 ⟨σ6,H6,I6,q6⟩=>?_);refine Cu hp (thn (hb _ s6 σ6 H6 _ I6 q6) λf s7 q7=>?_);have again:∀{σ7:St} {H7:Hp},Inv X (pins++qp fp s5.heap) σ7 H7 s7->N σ7 H7->∃m,m<n/\∃i σ' H',Inv X pins σ' H' s7/\tn i s7.heap/\(∀b∈fp,H' b=none)/\W i m σ' H':=λ{σ7 H7} I7 n7=>by obtain⟨m',hm,w7⟩:=hN σ7 H7 n7;refine⟨m',hm,i+1,σ7,H7,I7.sP,T.a _ _ _ st5 λb hb o e=>(I7.O (b,o) (A8 _ (A8 _ (vi hb e)))).1,λb hb=>?_,w7⟩;obtain⟨o,e,d⟩:=T.c _ _ st5 b hb;exact(I7.O (b,o) (A8 _ (A8 _ (vi hb e)))).2.1
   cases f with
   |next=>obtain⟨σ7,H7,I7,n7⟩:=q7;exact again I7 n7
   |cont=>obtain⟨σ7,H7,I7,n7⟩:=q7;exact again I7 n7
   |brk=>obtain⟨σ7,H7,I7,q7⟩:=q7;exact⟨σ7,H7,I7.sP,q7⟩
   |ret v=>obtain⟨x7,σ7,H7,I7,r7,q7⟩:=q7;exact⟨x7,σ7,H7,I7.sP,r7,q7⟩
end
abbrev R2:=V->V->Hp->VK->Prop
def OpR(X:Cx)(f:Value->Value->Sem Value)(r:R2):Prop:=
 ∀(pins:List (Addr × Obj)) (s:Shared) (σ:St) (H:Hp) (x y:V) (v u:Value) (Q:VK),Inv X pins σ H s->RelV x v->RelV y u->r x y H Q ->
  wpAny (model X.f X.w) X.A (f v u) (EP X pins σ Q) X.i s
def UnR(X:Cx)(f:Value->Sem Value)(r:V->Hp->VK->Prop):Prop:=
 ∀(pins:List (Addr × Obj)) (s:Shared) (σ:St) (H:Hp) (x:V) (v:Value) (Q:VK),Inv X pins σ H s->RelV x v->r x H Q ->
  wpAny (model X.f X.w) X.A (f v) (EP X pins σ Q) X.i s
def yV(X:Cx)(f:Value)(r:List V->Hp->VK->Prop):Prop:=
 ∀(pins:List (Addr × Obj)) (s:Shared) (σ:St) (H:Hp) (xs:List V) (us:List Value) (Q:VK),Inv X pins σ H s->Vals xs us->r xs H Q ->
  wpAny (model X.f X.w) X.A (call f us) (EP X pins σ Q) X.i s
def QM(X:Cx)(r:V->Hp->(Bool->Hp->Prop)->Prop):Prop:=
 ∀(pins:List (Addr × Obj)) (s:Shared) (σ:St) (H:Hp) (x:V) (v:Value) (Q:Bool->Hp->Prop),Inv X pins σ H s->RelV x v->r x H Q ->
  wpAny (model X.f X.w) X.A (truthy v) (TP X pins σ Q) X.i s
def tOp(r:R2)(ta tb:TE):TE:=λσ H Q=>ta σ H λx H1=>tb σ H1 λy H2=>r x y H2 Q
def tUn(r:V->Hp->VK->Prop)(ta:TE):TE:=λσ H Q=>ta σ H λx H1=>r x H1 Q
def rI(C:Int->Int->Prop)(g:Int->Int->V):R2:=λx y H Q=>∃i j,x=.d i/\y=.d j/\C i j/\Q (g i j) H
def rI0(g:Int->Int->V):R2:=λx y H Q=>∃i j,x=.d i/\y=.d j/\Q (g i j) H
def rU(g:Int->V):V->Hp->VK->Prop:=λx H Q=>∃i,x=.d i/\Q (g i) H
section
variable {X:Cx}{a b c:Expr}{ta tb tc:TE}{pos:Pos}
theorem W2(ha:PE X a ta)(hb:PE X b tb){R:V->V->Hp->Prop}(I:Inv X pins σ H s)
 (h:ta σ H λx H1=>tb σ H1 λy H2=>R x y H2)  {f:Value->Value->Sem Value}
 (hf:∀v u s2 x y H2,Inv X pins σ H2 s2->RelV x v->RelV y u->R x y H2->wpAny (model X.f X.w) X.A (f v u) Q X.i s2) :
 wpAny (model X.f X.w) X.A (eval a X.a) (λv s₁=>wpAny (model X.f X.w) X.A (eval b X.a) (λu s₂=>wpAny (model X.f X.w) X.A (f v u) Q X.i s₂) X.i s₁) X.i s:=by
 refine thn (ha pins s σ H _ I h) λv s1 ⟨x,H1,I1,r1,q1⟩=>?_;refine thn (hb pins s1 σ H1 _ I1 q1) λu s2 ⟨y,H2,I2,r2,q2⟩=>?_;exact hf v u s2 x y H2 I2 r1 r2 q2
theorem lY(ho:OpR X (Br op) r)(ha:PE X a ta)(hb:PE X b tb):PE X (.BinOp a op b pos) (tOp r ta tb):=by intro pins s σ H Q I h;exact wpAny_BinOp (W2 ha hb I h λv u s2 x y H2 I2 rx ry q=>ho pins s2 σ H2 x y v u Q I2 rx ry q)
theorem RR(ho:UnR X (unaryOp op) r)(ha:PE X a ta):PE X (.UnaryOp op a pos) (tUn r ta):=by intro pins s σ H Q I h;exact UnaryOp_ (thn (ha pins s σ H _ I h) λv s1 ⟨x,H1,I1,r1,q1⟩=>ho pins s1 σ H1 x v Q I1 r1 q1)
theorem opI{f:Value->Value->Sem Value}{C:Int->Int->Prop}{g:Int->Int->Int}
 (rule:∀i j t u (s:Shared) (Q:Value->Shared->Prop) E,C i j->Q (.int (g i j) s.toks) {s with toks:=s.toks+1}->wpAny (model X.f X.w) X.A (f (.int i t) (.int j u)) Q E s) :
 OpR X f (rI C λi j=>.d (g i j)):=by
 intro pins s σ H x y v u Q I rx ry h;obtain⟨i,j,rfl,rfl,hc,q⟩:=h;obtain⟨t,rfl⟩:=rx;obtain⟨t',rfl⟩:=ry;exact rule i j t t' s _ _ hc ⟨.d (g i j),H,I.tok _,⟨_,rfl⟩,q⟩
theorem Y6{f:Value->Value->Sem Value}{g:Int->Int->Int}
 (rule:∀i j t u (s:Shared) (Q:Value->Shared->Prop) E,Q (.int (g i j) s.toks) {s with toks:=s.toks+1}->wpAny (model X.f X.w) X.A (f (.int i t) (.int j u)) Q E s) :
 OpR X f (rI0 λi j=>.d (g i j)):=by
 intro pins s σ H x y v u Q I rx ry h;obtain⟨i,j,rfl,rfl,q⟩:=h;obtain⟨t,rfl⟩:=rx;obtain⟨t',rfl⟩:=ry;exact rule i j t t' s _ _ ⟨.d (g i j),H,I.tok _,⟨_,rfl⟩,q⟩
theorem Y5{f:Value->Value->Sem Value}{g:Int->Int->Bool}
 (rule:∀i j t u s (Q:Value->Shared->Prop) E,Q (.bool (g i j)) s->wpAny (model X.f X.w) X.A (f (.int i t) (.int j u)) Q E s) :
 OpR X f (rI0 λi j=>.f (g i j)):=by
 intro pins s σ H x y v u Q I rx ry h;obtain⟨i,j,rfl,rfl,q⟩:=h;obtain⟨t,rfl⟩:=rx;obtain⟨t',rfl⟩:=ry;exact rule i j t t' s _ _ ⟨.f (g i j),H,I,rfl,q⟩
def Wt(i j:Int):Prop:=0<j/\j<1073741824
def QK(i j:Int):Prop:=0<=j/\j<=1000000/\i.natAbs<2 ^ 64
def Zq(i j:Int):Prop:=(-(2 ^ 64)<i/\i<2 ^ 64)\/(-(2 ^ 64)<j/\j<2 ^ 64)
theorem Zq.ok(h:Zq i j):IntMulOk i j:=by
 rcases h with⟨h1,h2⟩|⟨h1,h2⟩
 . exact .of_left (intBits_le_64 h1 h2)
 . exact .of_right (intBits_le_64 h1 h2)
theorem V9:OpR X (Br .Add) (rI0 λi j=>.d (i+j)):=Y6 λ_ _ _ _ _ _ _ q=>add_int q
theorem UG:OpR X (Br .Sub) (rI0 λi j=>.d (i-j)):=Y6 λ_ _ _ _ _ _ _ q=>sub_int q
theorem UC:OpR X (Br .Mult) (rI Zq λi j=>.d (i*j)):=opI λ_ _ _ _ _ _ _ hc q=>mul_int q hc.ok
theorem Y8:OpR X (Br .FloorDiv) (rI Wt λi j=>.d (i/j)):=opI λi j _ _ _ _ _ hc q=>by have h1:(0:Int)<j:=hc.1;have h2:j<1073741824:=hc.2;exact floordiv_int (by omega) (by rw[Du i (by omega)];exact q) (.inl (Eb (by omega)))
theorem UB:OpR X (Br .Mod) (rI (λ_ j=>0<j) λi j=>.d (i%j)):=opI λi j _ _ _ _ _ hc q=>by have h1:(0:Int)<j:=hc;exact mod_int' (by omega) (by rw[Dv i (by omega)];exact q)
theorem UD:OpR X (Br .Pow) (rI QK λi j=>.d (i ^ j.toNat)):=opI λ_ _ _ _ _ _ _ hc q=>pow_int_small hc.1 hc.2.1 hc.2.2 q
theorem YQ:OpR X (DM .Add) (rI0 λi j=>.d (i+j)):=Y6 λ_ _ _ _ _ _ _ q=>iadd_int q
theorem YT:OpR X (DM .Sub) (rI0 λi j=>.d (i-j)):=Y6 λ_ _ _ _ _ _ _ q=>isub_int q
theorem YS:OpR X (DM .Mult) (rI Zq λi j=>.d (i*j)):=opI λ_ _ _ _ _ _ _ hc q=>imul_int q hc.ok
theorem bA:OpR X (DM .FloorDiv) (rI Wt λi j=>.d (i/j)):=opI λi j _ _ _ _ _ hc q=>by have h1:(0:Int)<j:=hc.1;have h2:j<1073741824:=hc.2;exact ifloordiv_int (by omega) (by rw[Du i (by omega)];exact q) (.inl (Eb (by omega)))
theorem YR:OpR X (DM .Mod) (rI (λ_ j=>0<j) λi j=>.d (i%j)):=opI λi j _ _ _ _ _ hc q=>by have h1:(0:Int)<j:=hc;exact imod_int (by omega) (by rw[Dv i (by omega)];exact q)
theorem unI{f:Value->Sem Value}{g:Int->Int}
 (rule:∀i t (s:Shared) (Q:Value->Shared->Prop) E,Q (.int (g i) s.toks) {s with toks:=s.toks+1}->wpAny (model X.f X.w) X.A (f (.int i t)) Q E s) :
 UnR X f (rU λi=>.d (g i)):=by
 intro pins s σ H x v Q I rx h;obtain⟨i,rfl,q⟩:=h;obtain⟨t,rfl⟩:=rx;exact rule i t s _ _ ⟨.d (g i),H,I.tok _,⟨_,rfl⟩,q⟩
theorem TR:UnR X (unaryOp .USub) (rU λi=>.d (-i)):=unI λ_ _ _ _ _ q=>neg_int q
end
noncomputable def Rx:V->V->Bool
 |.g,.g=>true|.g,.d _=>true|.d _,.g=>true|.g,.f _=>true|.f _,.g=>true|.g,.e _=>true|.e _,.g=>true
 |.d _,.d _=>true|.f _,.f _=>true|.e _,.e _=>true|.h _,.h _=>true
 |.d _,.e _=>true|.e _,.d _=>true|.f _,.e _=>true|.e _,.f _=>true
 |_,_=>false
def rEq:R2:=λx y H Q=>Rx x y=true/\Q (.f (decide (x=y))) H
def rNe:R2:=λx y H Q=>Rx x y=true/\Q (.f (!decide (x=y))) H
theorem iT:decide (V.d i=V.d j)=(i == j):=by rw[BK];simp
theorem d9:decide (V.f i=V.f j)=(i == j):=by rw[BK];simp
theorem iU:decide (V.e i=V.e j)=(i == j):=by rw[BK];simp
theorem iS:decide (V.h i=V.h j)=(i.toList == j.toList):=by rw[BK];cases i;cases j;simp
section
variable {X:Cx}{a b c:Expr}{ta tb tc:TE}{pos:Pos}
theorem zh(I:Inv X pins σ H s)(q:Q (.f k) H)(e:k=k'):EP X pins σ Q (.bool k') s:=by subst e;exact⟨.f k,H,I,rfl,q⟩
theorem WS:OpR X (A6 .Eq) rEq:=by
 intro pins s σ H x y v u Q I rx ry h;obtain⟨hs,q⟩:=h;cases x with
 |g=>
  cases rx;cases y with
  |g=>cases ry;exact PySem.EqNone.eq_none_none (zh I q (by simp))
  |f j=>cases ry;exact PySem.EqNone.eq_none_bool (zh I q (by simp))
  |d j=>obtain⟨t',rfl⟩:=ry;exact PySem.EqNone.eq_none_int (zh I q (by simp))
  |e j=>obtain⟨t',rfl⟩:=ry;exact PySem.EqNone.eq_none_str (zh I q (by simp))
  |_=>exact absurd (show false=true from hs) xd
 |f i=>
  cases rx;cases y with
  |g=>cases ry;exact PySem.EqNone.eq_bool_none (zh I q (by simp))
  |f j=>cases ry;exact eq_bool (zh I q d9)
  |e j=>obtain⟨t',rfl⟩:=ry;exact PySem.EqMixed.eq_bool_str (zh I q (by simp))
  |_=>exact absurd (show false=true from hs) xd
 |d i=>
  obtain⟨t,rfl⟩:=rx;cases y with
  |g=>cases ry;exact PySem.EqNone.eq_int_none (zh I q (by simp))
  |d j=>obtain⟨t',rfl⟩:=ry;exact eq_int (zh I q iT)
  |e j=>obtain⟨t',rfl⟩:=ry;exact PySem.EqMixed.eq_int_str (zh I q (by simp))
  |_=>exact absurd (show false=true from hs) xd
 |e i=>
  obtain⟨t,rfl⟩:=rx;cases y with
  |g=>cases ry;exact PySem.EqNone.eq_str_none (zh I q (by simp))
  |f j=>cases ry;exact PySem.EqMixed.eq_str_bool (zh I q (by simp))
  |d j=>obtain⟨t',rfl⟩:=ry;exact PySem.EqMixed.eq_str_int (zh I q (by simp))
  |e j=>obtain⟨t',rfl⟩:=ry;exact eq_str (zh I q iU)
  |_=>exact absurd (show false=true from hs) xd
 |h i=>
  obtain⟨t,rfl⟩:=rx;cases y with
  |h j=>obtain⟨t',rfl⟩:=ry;exact PySem.W.eq_bytes (zh I q iS)
  |_=>exact absurd (show false=true from hs) xd
 |_=>cases y<;>exact absurd (show false=true from hs) xd
theorem WT:OpR X (A6 .NotEq) rNe:=by
 intro pins s σ H x y v u Q I rx ry h;obtain⟨hs,q⟩:=h;cases x with
 |g=>
  cases rx;cases y with
  |g=>cases ry;exact PySem.EqNone.ne_none_none (zh I q (by simp))
  |f j=>cases ry;exact PySem.EqNone.ne_none_bool (zh I q (by simp))
  |d j=>obtain⟨t',rfl⟩:=ry;exact PySem.EqNone.ne_none_int (zh I q (by simp))
  |e j=>obtain⟨t',rfl⟩:=ry;exact PySem.EqNone.ne_none_str (zh I q (by simp))
  |_=>exact absurd (show false=true from hs) xd
 |f i=>
  cases rx;cases y with
  |g=>cases ry;exact PySem.EqNone.ne_bool_none (zh I q (by simp))
  |f j=>cases ry;exact ne_bool (zh I q (congrArg not d9))
  |e j=>obtain⟨t',rfl⟩:=ry;exact PySem.EqMixed.ne_bool_str (zh I q (by simp))
  |_=>exact absurd (show false=true from hs) xd
 |d i=>
  obtain⟨t,rfl⟩:=rx;cases y with
  |g=>cases ry;exact PySem.EqNone.ne_int_none (zh I q (by simp))
  |d j=>obtain⟨t',rfl⟩:=ry;exact ne_int (zh I q (congrArg not iT))
  |e j=>obtain⟨t',rfl⟩:=ry;exact PySem.EqMixed.ne_int_str (zh I q (by simp))
  |_=>exact absurd (show false=true from hs) xd
 |e i=>
  obtain⟨t,rfl⟩:=rx;cases y with
  |g=>cases ry;exact PySem.EqNone.ne_str_none (zh I q (by simp))
  |f j=>cases ry;exact PySem.EqMixed.ne_str_bool (zh I q (by simp))
  |d j=>obtain⟨t',rfl⟩:=ry;exact PySem.EqMixed.ne_str_int (zh I q (by simp))
  |e j=>obtain⟨t',rfl⟩:=ry;exact ne_str (zh I q (congrArg not iU))
  |_=>exact absurd (show false=true from hs) xd
 |h i=>
  obtain⟨t,rfl⟩:=rx;cases y with
  |h j=>obtain⟨t',rfl⟩:=ry;exact PySem.W.ne_bytes (zh I q (congrArg not iS))
  |_=>exact absurd (show false=true from hs) xd
 |_=>cases y<;>exact absurd (show false=true from hs) xd
theorem Sv:OpR X (A6 .Lt) (rI0 λi j=>.f (decide (i<j))):=Y5 λ_ _ _ _ _ _ _ q=>lt_int q
theorem Su:OpR X (A6 .LtE) (rI0 λi j=>.f (decide (i<=j))):=Y5 λ_ _ _ _ _ _ _ q=>le_int q
theorem Ss:OpR X (A6 .Gt) (rI0 λi j=>.f (decide (j<i))):=Y5 λ_ _ _ _ _ _ _ q=>gt_int q
theorem Sr:OpR X (A6 .GtE) (rI0 λi j=>.f (decide (j<=i))):=Y5 λ_ _ _ _ _ _ _ q=>ge_int q
theorem UA:OpR X (A6 .Is) (λx y H Q=>y=.g/\Q (.f (decide (x=.g))) H):=by
 intro pins s σ H x y v u Q I rx ry h;obtain⟨rfl,q⟩:=h;cases ry;refine is_none_gen (zh I q ?_);cases x<;>first
  |(cases rx;rfl)
  |(obtain⟨t,rfl⟩:=rx;rfl)
theorem Y9:OpR X (A6 .IsNot) (λx y H Q=>y=.g/\Q (.f (!decide (x=.g))) H):=by
 intro pins s σ H x y v u Q I rx ry h;obtain⟨rfl,q⟩:=h;cases ry;refine isnot_none_gen (zh I q ?_);cases x<;>first
  |(cases rx;rfl)
  |(obtain⟨t,rfl⟩:=rx;rfl)
theorem gA(ho:OpR X (A6 op) r)(ha:PE X a ta)(hb:PE X b tb)(hm:Dt op b=false):PE X (.Compare a [op] [b] pos) (tOp r ta tb):=by intro pins s σ H Q I h;exact wpAny_Compare1 (W2 ha hb I h λv u s2 x y H2 I2 rx ry q=>ho pins s2 σ H2 x y v u Q I2 rx ry q) hm
def gO(t:TE):TT:=λσ H Q=>t σ H λx H'=>∃k,x=.f k/\Q k H'
theorem mE(ho:OpR X (A6 op) r)(ha:PE X a ta)(hb:PE X b tb)(hm:Dt op b=false):PT X (.Compare a [op] [b] pos) (gO (tOp r ta tb)):=by
 intro pins s σ H Q I h;refine wpAny_isTrue_Compare1 (thn (ha pins s σ H _ I h) λv s1 ⟨x,H1,I1,r1,q1⟩=>thn (hb pins s1 σ H1 _ I1 q1) λu s2 ⟨y,H2,I2,r2,q2⟩=>
  thn (ho pins s2 σ H2 x y v u _ I2 r1 r2 q2) λc s3 ⟨z,H3,I3,r3,k,e,q3⟩=>?_) hm
 subst e;cases r3;exact Bw ⟨H3,I3,q3⟩
def ZX(r r':R2)(ta tb tc:TE):TE:=λσ H Q=>ta σ H λx H1=>tb σ H1 λy H2=>r x y H2 λz H3=>∃k,z=.f k /\
 (if k=true then tc σ H3 λw' H4=>r' y w' H4 Q else Q (.f false) H3)
theorem aV(ho:OpR X (A6 op) r)(ho':OpR X (A6 op') r')(ha:PE X a ta)(hb:PE X b tb)(hc:PE X c tc)
 (hm:GD [op,op'] [b,c]=false:=by with_unfolding_all rfl):PE X (.Compare a [op,op'] [b,c] pos) (ZX r r' ta tb tc):=by
 intro pins s σ H Q I h;refine Compare_chain (thn (ha pins s σ H _ I h) λv s1 ⟨x,H1,I1,r1,q1⟩=>chain_link (thn (hb pins s1 σ H1 _ I1 q1) λu s2 ⟨y,H2,I2,r2,q2⟩=>
  thn (ho pins s2 σ H2 x y v u _ I2 r1 r2 q2) λd s3 ⟨z,H3,I3,r3,k,e,q3⟩=>?_)) hm
 subst e;cases r3;refine Bw ?_;cases k with
 |false=>exact ite_ff ⟨.f false,H3,I3,rfl,q3⟩
 |true=>exact ite_tt (chain_last (thn (hc pins s3 σ H3 _ I3 q3) λw' s4 ⟨z',H4,I4,r4,q4⟩=>ho' pins s4 σ H4 y z' u w' Q I4 r2 r4 q4))
theorem ao(ho:OpR X (A6 op) r)(ho':OpR X (A6 op') r')(ha:PE X a ta)(hb:PE X b tb)(hc:PE X c tc)
 (hm:GD [op,op'] [b,c]=false:=by with_unfolding_all rfl):PT X (.Compare a [op,op'] [b,c] pos) (gO (ZX r r' ta tb tc)):=by
 intro pins s σ H Q I h;refine isTrue_chain (thn (ha pins s σ H _ I h) λv s1 ⟨x,H1,I1,r1,q1⟩=>test_link (thn (hb pins s1 σ H1 _ I1 q1) λu s2 ⟨y,H2,I2,r2,q2⟩=>
  thn (ho pins s2 σ H2 x y v u _ I2 r1 r2 q2) λd s3 ⟨z,H3,I3,r3,k,e,q3⟩=>?_)) hm
 subst e;cases r3;refine Bw ?_;cases k with
 |false=>
  obtain⟨k',e',q'⟩:=q3;cases e';exact ite_ff ⟨H3,I3,q'⟩
 |true=>
  refine ite_tt (test_last (thn (hc pins s3 σ H3 _ I3 q3) λw' s4 ⟨z',H4,I4,r4,q4⟩=>thn (ho' pins s4 σ H4 y z' u w' _ I4 r2 r4 q4) λd' s5 ⟨z2,H5,I5,r5,k2,e2,q5⟩=>?_));subst e2;cases r5;exact Bw ⟨H5,I5,q5⟩
def Zs(K:Af)(x:V)(H:Hp)(k:Bool):Prop:=
 match x with
 |.g=>k=false
 |.f b=>k=b
 |.d i=>k=(i != 0)
 |.e y=>y.length<=As/\k=((y.length:Int) != 0)
 |.h y=>y.size<=As/\k=((y.size:Int) != 0)
 |.c p=>(∃xs,SqL K H p xs/\k=!xs.isEmpty)\/(∃xs,SqT K H p xs/\k=!xs.isEmpty)\/∃kvs,H p=some (.i kvs)/\k=!kvs.isEmpty
 |_=>False
theorem ki(r:KV kvs vs):(!vs.isEmpty)=!kvs.isEmpty:=by
 cases r<;>rfl
theorem qQ(r:Vals xs its):(!its.toArray.isEmpty)=!xs.isEmpty:=by
 cases r<;>simp
theorem u9:(As:Nat)<2 ^ 63:=by rw[AV];decide
theorem Ze:QM X (λx H Q=>∃k,Zs X.K x H k/\Q k H):=by
 intro pins s σ H x v Q I rx h;obtain⟨k,e,q⟩:=h;have hl:=u9;have hs:As=16777216:=AV;cases x with
 |g=>
  cases rx;have e':k=false:=e;subst e';exact truthy_none ⟨H,I,q⟩
 |f b=>
  cases rx;have e':k=b:=e;subst e';exact Bw ⟨H,I,q⟩
 |d i=>
  obtain⟨t,rfl⟩:=rx;have e':k=(i != 0):=e;subst e';exact PySem.P.truthy_int ⟨H,I,q⟩
 |e y=>
  obtain⟨t,rfl⟩:=rx;obtain⟨hy,e'⟩:y.length<=As/\k=((y.length:Int) != 0):=e;subst e';exact PySem.P.truthy_str (by omega) ⟨H,I.tok _,q⟩
 |h y=>
  obtain⟨t,rfl⟩:=rx;obtain⟨hy,e'⟩:y.size<=As/\k=((y.size:Int) != 0):=e;subst e';exact PySem.W.truthy_bytes (by omega) ⟨H,I.tok _,q⟩
 |c p=>
  cases rx;have e':(∃xs,SqL X.K H p xs/\k=!xs.isEmpty)\/(∃xs,SqT X.K H p xs/\k=!xs.isEmpty)\/∃kvs,H p=some (.i kvs)/\k=!kvs.isEmpty:=e;rcases e' with⟨xs,hx,e'⟩|⟨xs,hx,e'⟩|⟨kvs,hx,e'⟩
  . subst e'
    obtain⟨its,r,pl,hz⟩:=I.list hx;have hlen:=r.length;exact wpAny_truthy_list pl.isList (by simp only[Ae];omega) ⟨H,I.tok _,by rw[qQ r];exact q⟩
  . subst e'
    obtain⟨its,r,pl,hz⟩:=I.tuple hx;have hlen:=r.length;exact truthy_tuple pl (by simp only[Ae];omega) ⟨H,I.tok _,by rw[qQ r];exact q⟩
  . subst e'
    obtain⟨hz,hS,vs,r,m⟩:kvs.length<=As/\(p == B6)=false/\∃vs,KV kvs vs/\s.heap.DictOf (nW X.f X.w) p vs:=I.j p _ hx;have hlen:kvs.length=vs.length:=Gx r;exact wpAny_truthy_dict hS m (by omega) ⟨H,I.tok _,by rw[ki r];exact q⟩
 |_=>exact(show False from e).elim
theorem lr(ha:PE X a ta)(he:∀whole,isTrue a X.a whole=(do let v <-whole;standAt a.pos;holding [v] (truthy v))) :
 PT X a (λσ H Q=>ta σ H λx H'=>∃k,Zs X.K x H' k/\Q k H'):=by
 intro pins s σ H Q I h;exact isTrue_plain (thn (ha pins s σ H _ I h) λv s1 ⟨x,H1,I1,r1,q1⟩=>Ze pins s1 σ H1 x v Q I1 r1 q1) (he _)
theorem qj:OpR X (Br .Add) (λx y H Q=>∃i j,x=.e i/\y=.e j/\i.length+j.length<=As/\Q (.e (i++j)) H):=by intro pins s σ H x y v u Q I rx ry h;obtain⟨i,j,rfl,rfl,hz,q⟩:=h;obtain⟨t,rfl⟩:=rx;obtain⟨t',rfl⟩:=ry;exact add_str (λt' tk=>⟨.e (i++j),H,I.tok _,⟨_,rfl⟩,q⟩) hz
theorem vals1(r:Vals [x] us):∃u,us=[u]/\RelV x u:=by
 cases r with
 |cons r1 r2=>cases r2;exact⟨_,rfl,r1⟩
theorem vals2(r:Vals [x,y] us):∃u w',us=[u,w']/\RelV x u/\RelV y w':=by
 cases r with
 |cons r1 r2=>
  cases r2 with
  |cons r3 r4=>cases r4;exact⟨_,_,rfl,r1,r3⟩
theorem gZ(hc:X.j=true):yV X (.builtin "max") (λxs H Q=>∃i j,xs=[.d i,.d j]/\Q (.d (if j > i then j else i)) H):=by
 intro pins s σ H xs us Q I r h;obtain⟨i,j,rfl,q⟩:=h;obtain⟨u,w',rfl,⟨t,rfl⟩,⟨t',rfl⟩⟩:=vals2 r;refine max_two_ints (I.B.i hc) λh' tk k=>⟨_,H,I.kept k,?_,q⟩;by_cases hj:j > i
 . rw[if_pos hj,if_pos hj];exact⟨_,rfl⟩
 . rw[if_neg hj,if_neg hj];exact⟨_,rfl⟩
theorem gf(hc:X.j=true):yV X (.builtin "min") (λxs H Q=>∃i j,xs=[.d i,.d j]/\Q (.d (if j<i then j else i)) H):=by
 intro pins s σ H xs us Q I r h;obtain⟨i,j,rfl,q⟩:=h;obtain⟨u,w',rfl,⟨t,rfl⟩,⟨t',rfl⟩⟩:=vals2 r;refine min_two_ints (I.B.i hc) λh' tk k=>⟨_,H,I.kept k,?_,q⟩;by_cases hj:j<i
 . rw[if_pos hj,if_pos hj];exact⟨_,rfl⟩
 . rw[if_neg hj,if_neg hj];exact⟨_,rfl⟩
theorem pf:yV X (.type "int") (λxs H Q=>(∃i,xs=[.d i]/\Q (.d i) H)\/∃k,xs=[.f k]/\Q (.d (if k then 1 else 0)) H):=by
 intro pins s σ H xs us Q I r h;rcases h with⟨i,rfl,q⟩|⟨k,rfl,q⟩
 . obtain⟨u,rfl,t,rfl⟩:=vals1 r
   exact call_int_int ⟨.d i,H,I,⟨_,rfl⟩,q⟩
 . obtain⟨u,rfl,r1⟩:=vals1 r
   cases r1;exact call_int_bool ⟨.d (if k then 1 else 0),H,I.tok _,⟨_,rfl⟩,q⟩
theorem v7:yV X (.builtin "divmod") (λxs H Q=>∃i j,xs=[.d i,.d j]/\Wt i j/\∀p,H p=none->Q (.c p) (upd H p (.c [.d (i/j),.d (i%j)]))):=by
 intro pins s σ H xs us Q I r h;obtain⟨i,j,rfl,⟨h1,h2⟩,q⟩:=h;obtain⟨u,w',rfl,⟨t,rfl⟩,⟨t',rfl⟩⟩:=vals2 r;refine divmod_int (by omega) ?_ (.inl (Eb (by omega)))
 rw[Du i (by omega),Dv i (by omega)]
 have hn:H s.heap.objs.size=none:=I.j.fresh (Ac _);refine⟨.c s.heap.objs.size,_,?_,rfl,q _ hn⟩;refine I.laid (λb o e=>nx _ e) (Ac _) ⟨by simp only[AF,BW];rw[AV];decide,[.int (i/j) s.toks,.int (i%j) (s.toks+1)],.cons ⟨_,rfl⟩ (.cons ⟨_,rfl⟩ .nil),?_⟩
 exact⟨_,Az s.heap rfl,rfl,0,rfl,rfl⟩
end
structure Wx(h:Heap)(x dx C:Addr)(mA:Str->Option Value):Prop where
 a:h.get? x=some (F9 C dx)
 ns:h.Ns1 dx mA
 ne:dx≠x
theorem fM{h:Heap}(n:h.Ns1 dx mA):∃od,h.get? dx=some od/\∀name,Gf name od=some (mA name):=by
 obtain⟨o,es,ep,ho,hd,hk,_,hm⟩:=n;refine⟨o,ho,λname=>?_⟩;have e:=hm name;unfold nsFind findBy at e;rw[<-Array.find?_toList]at e;unfold Gf;rw[hd];dsimp only;split
 . rename_i y q
   rw[q]at e;exact congrArg some e
 . rename_i q
   rw[q]at e;have a:es.toList.any (·.refKey)=false:=by rw[List.any_eq_false];intro y hy;obtain⟨z,t,hkey⟩:=hk y (Array.mem_toList_iff.mp hy);simp[F5.refKey,hkey]
   have a':¬es.toList.any (·.refKey)=true:=by rw[a];exact xd
   rw[if_neg a'];exact congrArg some e
theorem Wx.look(I:Wx h x dx C mA):∃od,PySem.W.InstAt h x (F9 C dx) C (some od)/\∀name,Gf name od=some (mA name):=
 let ⟨od,ho,hl⟩:=fM I.ns
 ⟨od,⟨I.a,rfl,rfl,ho⟩,hl⟩
section
variable {P:Program}{w:World}{H H':Hp}{h h':Heap}{a C dx:Addr}{fs fs':List (Str × V)}
theorem YO(hok:HOk P w H h)(e:H a=some (.k C dx fs)):∃mA,Wx h a dx C mA/\(∀f,Wy (fs.lookup f) (mA f))/\PySem.Within mA (fs.map (·.1))/\fs.length<=1000/\H dx=some (.d a):=by obtain⟨d,z,ne,ob,mA,n,r,q⟩:=(show yL P w H h a (.k C dx fs) from hok a _ e);exact⟨mA,⟨ob,n,ne⟩,r,q,z,d⟩
end
structure Cls(K:Af)(C:Addr):Prop where
 pg:PySem.W.plainGet K C Ew=true
 hd:PySem.W.hasDictIn K C=true
 po:PySem.W.plainOver K C=true
 sa:PySem.W.findIn K (.ref C) "__setattr__"=some (some (.builtin "object.__setattr__"))
theorem Cls.get{K}(c:Cls K C)f:PySem.W.plainGet K C f=true:=c.pg
section
variable {X:Cx}{pins:List (Addr × Obj)}{σ:St}{H:Hp}{s:Shared}{A:Around}{E:Value->Shared->Prop}{Q:Value->Shared->Prop}{c:Value}{b:Bool}
inductive tN(K:Af)(H:Hp):V->Value->Prop where
 |d:tN K H .g (.type "NoneType")
 |bl (x:Bool):tN K H (.f x) (.type "bool")
 |c (i:Int):tN K H (.d i) (.type "int")
 |f (x:Str):tN K H (.e x) (.type "str")
 |h (x:UInt64):tN K H (.j x) (.type "float")
 |b {a:Addr} {xs:List V} (e:H a=some (.b xs)):tN K H (.c a) (.type "list")
 |j {a:Addr} {o:Obj} {xs:List V} (e:H a=some (.e o (.b xs))):tN K H (.c a) (.type "list")
 |g {a:Addr} {xs:List V} (e:H a=some (.c xs)):tN K H (.c a) (.type "tuple")
 |dK {a:Addr} {kvs:List (Key × V)} (e:H a=some (.i kvs)):tN K H (.c a) (.type "dict")
 |dT {a:Addr} {kvs:List (List Key × V)} (e:H a=some (.j kvs)):tN K H (.c a) (.type "dict")
 |k {a C dx:Addr} {fs:List (Str × V)} (e:H a=some (.k C dx fs)) (cl:Cls K C) (ha:PySem.W.findIn K (.ref C) "__class__"=some (some (.builtin "object.__class__")))
  (hn:PySem.W.specialIn K (.builtin "object.__class__") "__get__"=some (some (.builtin "getset_descriptor.__get__"))) (htk:PySem.W.takesIn K (.builtin "object.__class__")=some true)
  (hm:PySem.W.mroIn K C (.type "object")=some true):tN K H (.c a) (.ref C)
theorem g9(I:Inv X pins σ H s)(rx:RelV x u)(ty:tN X.K H x t)(e:Gg X.K t c=some b)(h:∀tk,Q (.bool b) {s with toks:=tk}) :
 wpAny (model X.f X.w) A (call (.builtin "isinstance") [u,c]) Q E s:=by
 cases ty with
 |d=>cases (show u=Ci from rx);exact BB PySem.W.kitx_none I.kIn Ba e (λz=>nomatch z) h
 |bl y=>cases (show u=CZ y from rx);exact BB PySem.W.kitx_bool I.kIn Ba e (λz=>nomatch z) h
 |c i=>obtain⟨t,q⟩:=(show ∃t,u=F7 i t from rx);cases q;exact BB PySem.W.kitx_int I.kIn Ba e (λz=>nomatch z) h
 |f y=>obtain⟨t,q⟩:=(show ∃t,u=F8 y t from rx);cases q;exact BB PySem.W.kitx_str I.kIn Ba e (λz=>nomatch z) h
 |h y=>obtain⟨t,q⟩:=(show ∃t,u=Value.float y t from rx);cases q;exact BB PySem.W.kitx_float I.kIn Ba e (λz=>nomatch z) h
 |@b a xs ea=>
  cases (show u=A2 a from rx);obtain⟨_,_,n,_,h1⟩:=(show yL X.f X.w H s.heap a (.b xs) from I.j a _ ea);exact BB PySem.W.kitx_list I.kIn ⟨_,h1,rfl⟩ e (λz=>nomatch z) h
 |@j a ob xs ea=>
  cases (show u=A2 a from rx);obtain⟨_,_,_,n,_,h1⟩:=(show yL X.f X.w H s.heap a (.e ob (.b xs)) from I.j a _ ea);exact BB PySem.W.kitx_list I.kIn ⟨_,h1,rfl⟩ e (λz=>nomatch z) h
 |@g a xs ea=>
  cases (show u=A2 a from rx);obtain⟨_,_,_,p⟩:=(show yL X.f X.w H s.heap a (.c xs) from I.j a _ ea);obtain⟨o,h1,h2,_⟩:=p;exact BB PySem.W.kitx_tuple I.kIn ⟨o,h1,h2⟩ e (λz=>nomatch z) h
 |@dK a kvs ea=>
  cases (show u=A2 a from rx);obtain⟨_,_,vs,_,p⟩:=(show yL X.f X.w H s.heap a (.i kvs) from I.j a _ ea);obtain⟨o,es,ep,h1,h2,_⟩:=p;exact BB PySem.W.kitx_dict I.kIn ⟨o,h1,h2.1⟩ e (λz=>nomatch z) h
 |@dT a kvs ea=>
  cases (show u=A2 a from rx);obtain⟨_,_,xs,_,o,es,ep,h1,h2,_⟩:=(show yL X.f X.w H s.heap a (.j kvs) from I.j a _ ea);exact BB PySem.W.kitx_dict I.kIn ⟨o,h1,h2.1⟩ e (λz=>nomatch z) h
 |@k a C dx fs ea cl ha hn htk hm=>
  cases (show u=A2 a from rx);obtain⟨mA,O,_⟩:=YO I.j ea;obtain⟨od,J,_⟩:=O.look;exact BB (PySem.W.kitx_own (cl.get _) cl.hd ha hn htk hm) I.kIn J e (λz=>nomatch z) h
end
structure xW(k:Nat)(A:Around):Prop where
 b:A.handled=none
 c:A.depth+3*k+5<CI
 a:A.units+16*k+200<cLine
 d:A.guards=some []
theorem xW.deeper(r:xW (k+1) A)env:xW k (A.deeper env):=
 ⟨r.b,by have:=r.c;show A.depth+1+3*k+5<_;omega,by have:=r.a;show A.units+3+16*k+200<_;omega,r.d⟩
theorem xW.depth(r:xW k A):A.depth<CI:=by have:=r.c;omega
def rV:TA:=λ_ H Q=>Q [] H
def vU(ta:TE)(tr:TA):TA:=λσ H Q=>ta σ H λx H1=>tr σ H1 λxs H2=>Q (x::xs) H2
section
variable {X:Cx}{e:Expr}{es:List Expr}{te:TE}{t:TA}{pos:Pos}
theorem xI:PA X [] rV:=λ_ _ _ _ H Q I h=>Calls.spliced_nil ⟨[],H,I,.nil,h⟩
theorem x8(ha:PE X e te)(hr:PA X es t)(hs:AJ (e::es) X.a=(false,eval e X.a)::AJ es X.a:=by rfl):PA X (e::es) (vU te t):=by intro pos pins s σ H Q I h;rw[hs];show wpAny _ _ (spliced ((false,eval e X.a)::backTo pos (AJ es X.a))) _ _ s;refine Calls.spliced_cons (thn (ha pins s σ H _ I h) λu s1 ⟨x,H1,I1,r1,q1⟩=>?_);exact thn (hr pos pins s1 σ H1 _ I1 q1) λus s2 ⟨xs,H2,I2,r2,q2⟩=>⟨x::xs,H2,I2,.cons r1 r2,q2⟩
def Qq(t:TA):TE:=λσ H Q=>t σ H λxs H1=>xs.length<=As/\∀p,H1 p=none->Q (.c p) (upd H1 p (.c xs))
def ju(t:TA):TE:=λσ H Q=>t σ H λxs H1=>xs.length<=As/\∀p,H1 p=none->Q (.c p) (upd H1 p (.b xs))
theorem Uc{x1}(h:PA X es t):PE X (.Tuple es x1 pos) (Qq t):=by
 intro pins s σ H Q I hq;refine wpAny_Tuple_spliced (thn (h pos pins s σ H _ I hq) λus s1 ⟨xs,H1,I1,r,z,q⟩=>⟨by rw[<-r.length];exact z,?_⟩)
 have hf:H1 s1.heap.objs.size=none:=I1.j.fresh (Ac _);refine⟨.c s1.heap.objs.size,upd H1 s1.heap.objs.size (.c xs),I1.laid (t':=s1.toks) (λb u e=>nx _ e) (Ac _) ?_,rfl,q _ hf⟩;exact⟨z,us,r,⟨_,Az _ rfl,rfl,_,rfl,rfl⟩⟩
theorem qo(h:PA X es t):PE X (.List es pos) (ju t):=by
 intro pins s σ H Q I hq;refine wpAny_List_spliced (thn (h pos pins s σ H _ I hq) λus s1 ⟨xs,H1,I1,r,z,q⟩=>⟨by rw[<-r.length];exact z,?_⟩)
 have hf:H1 s1.heap.objs.size=none:=I1.j.fresh (Ac _);refine⟨.c s1.heap.objs.size,upd H1 s1.heap.objs.size (.b xs),I1.laid (t':=s1.toks) (λb u e=>nx _ e) (Ac _) ?_,rfl,q _ hf⟩;exact⟨z,us,0,r,Az _ rfl⟩
end
abbrev Sp:=List V->Hp->VK->XK->Prop
abbrev CXT:=List Env->Hp->Shared->XK->Value->Shared->Prop
structure kK(P:Program)(w:World)(K:Af)(mg:Str->Option Value)(base:Heap)(A:Around)(outer:List Env)(s:Shared)(H:Hp):Prop where
 a:A.frames=some outer
 c:Mod K mg base
 e:∀b o,base.get? b=some o->s.heap.get? b=some o/\H b=none
 g:base.objs.size<=s.heap.objs.size
 i:s.heap.FunFrames base outer
 h:∀b∈frs outer,H b=none
 d:HOk P w H s.heap
 f:AllBare s.gens
def CE(outer:List Env)(P:Program)(w:World)(H:Hp)(s:Shared)(Q:VK)(u:Value)(s':Shared):Prop:=
 ∃v H',s'.os=s.os/\AllBare s'.gens/\Un (frs outer) [] H H' s.heap s'.heap/\HOk P w H' s'.heap/\RelV v u/\Q v H'
def CR(CX:CXT)(outer:List Env)(P:Program)(w:World)(H:Hp)(s:Shared)(Q:VK)(E:XK)(r:Result)(s':Shared):Prop:=
 match r with
 |.ok (.ret u)=>CE outer P w H s Q u s'
 |.ok _=>False
 |.error e=>CX outer H s E e s'
structure tL(P:Program)(w:World)(K:Af)(mg:Str->Option Value)(base:Heap)(CX:CXT)(k:Nat)(f:Addr)(fd:BV)(ps:List Str)(sp:Sp):Prop where
 b:∀vs H Q E,sp vs H Q E->vs.length=ps.length
 a:∀(A:Around) (outer:List Env) (s:Shared) (H:Hp) (args:Args) (us:List Value) (vs:List V) (Q:VK) (E:XK),xW k A->kK P w K mg base A outer s H->BindsTo s fd args (ps.zip us)->Vals vs us->sp vs H Q E ->
  codeAny (model P w) A (.call (.ref f) args) (CR CX outer P w H s Q E) s
theorem tL.imp{K}(F:tL P w K mg base CX k f fd ps sp)
 (h:∀vs H Q E,sp' vs H Q E->sp vs H Q E):tL P w K mg base CX k f fd ps sp':=
 ⟨λvs H Q E q=>F.b vs H Q E (h _ _ _ _ q),λA outer s H args us vs Q E hr he hb hv hs=>F.a A outer s H args us vs Q E hr he hb hv (h _ _ _ _ hs)⟩
section
variable {X:Cx}{pins:List (Addr × Obj)}{σ:St}{H:Hp}{s s':Shared}
theorem Inv.uC(I:Inv X pins σ H s):kK X.f X.w X.K X.d X.h X.A X.g s H:=
 ⟨I.B.g,I.B.j,I.bs,AD I.B.p I.sz,I.stack,I.mK,I.j,I.D⟩
theorem Inv.after(I:Inv X pins σ H s)(h:CE X.g X.f X.w H s Q u s'):EP X pins σ Q u s':=by obtain⟨v,H',os,bare,un,hok,r,q⟩:=h;obtain⟨hh,g,d,t,os'⟩:=s';obtain rfl:os'=s.os:=os;exact⟨v,H',I.call (h':=hh) (g':=g) (d':=d) (t':=t) (ch:=[]) un hok bare (λb z=>absurd z (by simp)),r,q⟩
end
def gM(sp:Sp)(dvs:List V)(E:XK)(t:TA):TE:=λσ H Q=>t σ H λvs H1=>sp (vs++dvs) H1 Q E
def Binds(K:Af)(fd:BV)(ps:List Str)(ds:List Value):Prop:=
 ∀(s:Shared) (us:List Value),K.In s.heap->(us++ds).length=ps.length->BindsTo s fd ⟨us,[]⟩ (ps.zip (us++ds))
theorem Binds.all{K}(h:∀us:List Value,us.length=ps.length->Gs fd ⟨us,[]⟩=pure (ps.zip us)):Binds K fd ps []:=λs us _ hl=>by rw[A5]at hl ⊢;exact .of_eq (h us hl)
def Passes(CX:CXT)(X:Cx)(E:XK):Prop:=∀(pins:List (Addr × Obj)) (σ:St) (H:Hp) (s:Shared) (e:Value) (s':Shared),Inv X pins σ H s->CX X.g H s E e s'->X.i e s'
section
variable {X:Cx}{CX:CXT}{k:Nat}{f C:Addr}{fd:BV}{ps:List Str}{sp:Sp}{dvs:List V}{ds:List Value}{E:XK}{x m:Str}{p pos apos:Pos}{e o:Expr}{es:List Expr}{ta:TE}{t:TA}
theorem jg(F:tL X.f X.w X.K X.d X.h CX k f fd ps sp)(hr:xW k X.A)(hb:Binds X.K fd ps ds)(hd:Vals dvs ds)(hx:Passes CX X E)
 (I:Inv X pins σ H s) (r:Vals vs us) (h:sp (vs++dvs) H Q E):wpAny (model X.f X.w) X.A (call (.ref f) us) (EP X pins σ Q) X.i s:=by
 have r2:Vals (vs++dvs) (us++ds):=r.append hd;have hl:(us++ds).length=ps.length:=by rw[<-r2.length];exact F.b _ _ _ _ h
 refine EH (De (F.a X.A X.g s H ⟨us,[]⟩ (us++ds) (vs++dvs) Q E hr I.uC (hb s us I.kIn hl) r2 h) λr s' hq=>?_);cases r with
 |error e=>exact hx pins σ H s e s' I hq
 |ok fl=>
  cases fl with
  |ret u=>exact I.after hq
  |next=>exact Ay hq
  |brk=>exact Ay hq
  |cont=>exact Ay hq
theorem n9(F:tL X.f X.w X.K X.d X.h CX k f fd ps sp)(hr:xW k X.A)(hg:Gl X x)(hm:X.d x=some (.ref f))(hk:B2 X.K (.ref f)=true)(hb:Binds X.K fd ps ds)(hd:Vals dvs ds)(hx:Passes CX X E)
 (ha:PA X (e::es) t) (hdb:(x == ("__debug__":Str))=false:=by decide) (he:AJ (e::es) X.a=(false,eval e X.a)::AJ es X.a:=by rfl) (hpl:(backTo pos (AJ es X.a)).any (·.1)=false:=by rfl) :
 PE X (.Call (.Name x p) (e::es) [] pos) (gM sp dvs E t):=by
 intro pins s σ H Q I h;refine BO (wy I hg hm ?_ hdb);refine DO (h₀:=X.h) I.B.j.a hk (thn (ha pos pins s σ H _ I h) λus s1 ⟨vs,H1,I1,r,q⟩=>⟨I1.kIn,?_⟩) he hpl;exact jg F hr hb hd hx I1 r q
theorem lU(F:tL X.f X.w X.K X.d X.h CX k f fd ps sp)(hr:xW k X.A)(hg:Gl X x)(hm:X.d x=some (.ref f))(hk:B2 X.K (.ref f)=true)(hb:Binds X.K fd ps ds)(hd:Vals dvs ds)(hx:Passes CX X E)
 (hdb:(x == ("__debug__":Str))=false:=by decide):PE X (.Call (.Name x p) [] [] pos) (gM sp dvs E rV):=by
 intro pins s σ H Q I h;refine BO (wy I hg hm ?_ hdb);exact PySem.W.callWith_K0 I.kIn hk (jg (us:=[]) F hr hb hd hx I .nil h)
end
structure wq(N P:List Str)(sc:Scope):Prop where
 a:sc.kind=.function
 co:sc.isCoroutine=false
 f:sc.isGenerator=false
 b:N.Nodup
 c:N.take P.length=P
 e:∀x∈P,sc.names.lookup x=some .local\/sc.names.lookup x=some .cell
 d:∀y∈sc.names,y.2≠.free
theorem pd{kindOf}:∀{binds} {m},(∀v,(x,v) ∉ binds)->bindL kindOf binds m x=m x
 |[],_,_=>rfl
 |(n,v)::r,m,h=>by
  unfold bindL;rw[pd λw hw=>h w (Ah _ hw)];split
  . have:x≠n:=by rintro rfl;exact h v Ap
    simp[this]
  . rfl
theorem pY{kindOf}:∀{binds} {m},(∀v,(x,v) ∉ binds)->bindC kindOf binds m x=m x
 |[],_,_=>rfl
 |(n,v)::r,m,h=>by
  unfold bindC;rw[pY λw hw=>h w (Ah _ hw)];split
  . rfl
  . have:x≠n:=by rintro rfl;exact h v Ap
    simp[this]
theorem pZ{kindOf}:∀{P:List Str} {vs} {i:Nat} {m},P.Nodup->P[i]?=some x->vs[i]?=some v->kindOf x=some .local ->
 bindL kindOf (P.zip vs) m x=some v
 |[],_,_,_,_,h,_,_=>by simp at h
 |_::_,[],_,_,_,_,h,_=>by simp at h
 |p::P,w::vs,0,m,nd,h1,h2,hk=>by
  simp at h1 h2;subst h1;subst h2;show bindL kindOf ((p,w)::P.zip vs) m p=_;unfold bindL;rw[pd λv hv=>(BX.mp nd).1 (EI hv).1,if_pos hk];simp
 |p::P,w::vs,i+1,m,nd,h1,h2,hk=>by show bindL kindOf ((p,w)::P.zip vs) m x=_;unfold bindL;exact pZ (i:=i) (BX.mp nd).2 (by simpa using h1) (by simpa using h2) hk
theorem pX{kindOf}:∀{P:List Str} {vs} {i:Nat} {m},P.Nodup->P[i]?=some x->vs[i]?=some v->kindOf x≠some .local ->
 bindC kindOf (P.zip vs) m x=some v
 |[],_,_,_,_,h,_,_=>by simp at h
 |_::_,[],_,_,_,_,h,_=>by simp at h
 |p::P,w::vs,0,m,nd,h1,h2,hk=>by
  simp at h1 h2;subst h1;subst h2;show bindC kindOf ((p,w)::P.zip vs) m p=_;unfold bindC;rw[pY λv hv=>(BX.mp nd).1 (EI hv).1,if_neg hk];simp
 |p::P,w::vs,i+1,m,nd,h1,h2,hk=>by show bindC kindOf ((p,w)::P.zip vs) m x=_;unfold bindC;exact pX (i:=i) (BX.mp nd).2 (by simpa using h1) (by simpa using h2) hk
noncomputable def start(N:List Str)(vs:List V):St:=vs.map some++Ak (N.length-vs.length) none
noncomputable def x9(CX:CXT)(P:Program)(w:World)(K:Af)(mg:Str->Option Value)(base:Heap)(N:List Str)(qual:Str)(scope:Scope)(f:Addr)(cd:Value)(A:Around)(outer:List Env)(s:Shared)(H:Hp)(E:XK):Cx where
 f:=P
 w:=w
 K:=K
 d:=mg
 h:=base
 A:=A.deeper (envOfC qual scope s.heap.objs.size f cd)
 N:=N
 l:=s
 r:=H
 a:=envOfC qual scope s.heap.objs.size f cd
 k:=outer
 g:=envOfC qual scope s.heap.objs.size f cd::outer
 m:=[]
 j:=true
 n:=λ_=>true
 q:=[]
 i:=λe s'=>wpAny (model P w) (A.deeper (envOfC qual scope s.heap.objs.size f cd)) (leaving (envOfC qual scope s.heap.objs.size f cd) e) (λ_ s''=>CX outer H s E e s'') (λe' s''=>CX outer H s E e' s'') s'
theorem me{sc:Scope}(h:sc.names.lookup x=some .cell):∃c,(Cr n sc.names []).lookup x=some c:=by have q:=Ec sc.names n [] (.inl h);exact B8.mp q
theorem oD{K}
 (S:wq N ps scope) (hd:A.handled=none) (e0:kK P w K mg base A outer s H) (hl:vs.length=ps.length) (r:Vals vs us)
 (x:InCallC s s.heap.objs.size (bindL (envOfC qual scope s.heap.objs.size f cd).kindOf (ps.zip us) λ_=>none) (Cr (s.heap.objs.size+1) scope.names []) (bindC (envOfC qual scope s.heap.objs.size f cd).kindOf (ps.zip us) λ_=>none) s1) :
 Inv (x9 CX P w K mg base N qual scope f cd A outer s H E) [] (start N vs) H s1:=by
 have hpl:ps.length<=N.length:=by have:=congrArg Ed S.c;rw[B1]at this;omega
 obtain⟨h1,tk,rfl,hk⟩:=x.done;have noA:∀b:Addr,b ∉ (x9 CX P w K mg base N qual scope f cd A outer s H E).m:=λb z=>absurd (show b∈([]:List Addr) from z) (by simp)
 refine⟨⟨e0.c,S.a,rfl,rfl,Ac _,λy z c h1 h2=>?_,λy hy=>?_,λy c _ h=>?_,λ_=>hd,EJ e0.a,.inr ⟨rfl,rfl⟩,λb z=>absurd z (noA b),e0.e,e0.g,λb _ _=>noA b,λb z=>absurd z (noA b),e0.i,e0.h⟩,
  rfl,e0.f,Un.kept hk,⟨_,x.toInCall.ns,λi y v h1 h2 h3=>?_⟩,λy c h=>⟨_,x.cell y c h⟩,e0.d.fresh (Ac _),λy c h=>?_,λp hp=>absurd (show p∈([]:List (Addr × Obj)) from hp) (by simp),e0.d.kept hk,?_⟩
 . exact name_of_addr x.apart (AW h1) (AW h2)
 . have hy:scope.names.lookup y=some .cell\/scope.names.lookup y=some .free:=hy
   rcases hy with hy|hy
   . exact me hy
   . exact absurd rfl (S.d _ (AW hy))
 . exact DJ (x.above y c (AW h))
 . have hi:i<vs.length:=by
    unfold start at h2;by_cases hi:i<vs.length
    . exact hi
    . rw[A7 (by simpa using hi)]at h2
      rw[CV]at h2;split at h2<;>cases h2
   have ha:vs[i]?=some v:=by
    unfold start at h2;rw[AU (by simpa using hi),AR]at h2
    cases e:vs[i]? with
    |none=>rw[e]at h2;cases h2
    |some a=>rw[e]at h2;cases h2;rfl
   obtain⟨u,hu,rv⟩:=r.get ha;have hp:ps[i]?=some y:=by rw[<-S.c,DP (by omega)];exact h1
   have ndP:ps.Nodup:=by rw[<-S.c];exact S.b.sublist (Fy _ _)
   refine⟨u,rv,?_⟩;rcases S.e y (AE hp) with k|k
   . exact .inl ⟨k,pZ ndP hp hu k⟩
   . obtain⟨c,e⟩:=me (n:=s.heap.objs.size+1) k
     refine .inr ⟨.inl k,c,e,?_⟩;have q:=x.cell y c e;rw[pX ndP hp hu (by show scope.names.lookup y≠_;rw[k];decide)]at q
     exact q
 . exact e0.d.fresh (DJ (x.above y c (AW h)))
 . unfold start
   show _=N.length;rw[Al,Ab,B3];omega
theorem WI{K}{dV kV doc pm cdv ct oc}
    (lk:K.lookup f=some ⟨oc,od,.func (BG name qual params body scope dV kV doc pm an cdv ct),osl⟩) (hcd:BS K cdv qual=true) (S:wq N ps scope)
 (len:∀vs H Q E,sp vs H Q E->vs.length=ps.length)
 (hbody:∀A outer s H vs Q E,xW k (A.deeper (envOfC qual scope s.heap.objs.size f cdv))->sp vs H Q E ->
  ∃t,PSs (x9 CX P w K mg base N qual scope f cdv A outer s H E) body t/\t {a:=λ_ H'=>Q .g H',b:=Q} (start N vs) H) :
 tL P w K mg base CX (k+1) f (BG name qual params body scope dV kV doc pm an cdv ct) ps sp:=by
 refine⟨len,λA outer s H args us vs Q E hr e0 hb r hsp=>?_⟩;have hl:=len _ _ _ _ hsp;have KX:K.In s.heap:=e0.c.a.keeps λb o e=>(e0.e b o e).1;have lim:s.heap.NoLimit:=e0.c.b.keeps λb o e=>(e0.e b o e).1;have hkind:∀y∈ps.zip us,scope.names.lookup y.1=some .local\/(scope.names.lookup y.1=some .cell/\((Cr (s.heap.objs.size+1) scope.names []).lookup y.1).isSome=true):=λ⟨n,v⟩ hy=>by
  rcases S.e n (EI hy).1 with q|q
  . exact .inl q
  . exact .inr ⟨q,Ec _ _ _ (.inl q)⟩
 refine codeAny_call_function hr.depth (KX _ _ lk) rfl S.co S.f rfl (PySem.W.codeRec_of KX hcd) (hb _ _ _ _ ?_);refine Fg S.a hkind λenv he s1 x=>?_;subst he;refine⟨lim.keeps x.toInCall.keep,codeAny_func ?_⟩;obtain⟨t,ht,hq⟩:=hbody A outer s H vs Q E (hr.deeper _) hsp;have I:Inv (x9 CX P w K mg base N qual scope f cdv A outer s H E) [] (start N vs) H s1:=oD S hr.b e0 hl r x;refine A3 (ht [] s1 (start N vs) H _ I hq) (λfl s' hs=>?_) λe s' hs=>hs;have fin:∀{σ':St} {H':Hp} {v:V} {u:Value},Inv (x9 CX P w K mg base N qual scope f cdv A outer s H E) [] σ' H' s'->RelV v u->Q v H'->CE outer P w H s Q u s':=
  λ{σ' H' v u} J rv q=>⟨v,H',J.R,J.D,J.C,J.j,rv,q⟩
 cases fl with
 |ret u=>
  obtain⟨v,σ',H',J,rv,q⟩:=hs;exact fin J rv q
 |next=>
  obtain⟨σ',H',J,q⟩:=hs;exact fin (v:=V.g) (u:=Ci) J rfl q
 |brk=>
  obtain⟨_,_,_,q⟩:=hs;exact Ay q
 |cont=>
  obtain⟨_,_,_,q⟩:=hs;exact Ay q
section
variable {X:Cx}{x:Str}{p pos:Pos}{e:Expr}{es:List Expr}{t:TA}{id T:String}{r:List V->Hp->VK->Prop}
def tCB(r:List V->Hp->VK->Prop)(t:TA):TE:=λσ H Q=>t σ H λvs H1=>r vs H1 Q
theorem t8(hc:yV X (.builtin id) r)(hg:Gl X x)(hm:X.d x=none)(hv:B7 x=some (.builtin id))(ha:PA X (e::es) t)(hn:x≠"__name__":=by decide)(hdb:(x == ("__debug__":Str))=false:=by decide)
 (he:AJ (e::es) X.a=(false,eval e X.a)::AJ es X.a:=by rfl) (hpl:(backTo pos (AJ es X.a)).any (·.1)=false:=by rfl):PE X (.Call (.Name x p) (e::es) [] pos) (tCB r t):=by
 intro pins s σ H Q I h;refine BO (u7 I hg hm hv ?_ hn hdb);exact PyProof.Rows.callWith_builtin1 (thn (ha pos pins s σ H _ I h) λus s1 ⟨vs,H1,I1,r1,q1⟩=>hc pins s1 σ H1 vs us Q I1 r1 q1) he hpl
theorem xR(hc:yV X (.type T) r)(hg:Gl X x)(hm:X.d x=none)(hv:B7 x=some (.type T))(ha:PA X (e::es) t)(hn:x≠"__name__":=by decide)(hdb:(x == ("__debug__":Str))=false:=by decide)
 (he:AJ (e::es) X.a=(false,eval e X.a)::AJ es X.a:=by rfl) (hpl:(backTo pos (AJ es X.a)).any (·.1)=false:=by rfl):PE X (.Call (.Name x p) (e::es) [] pos) (tCB r t):=by
 intro pins s σ H Q I h;refine BO (u7 I hg hm hv ?_ hn hdb);exact Cp (thn (ha pos pins s σ H _ I h) λus s1 ⟨vs,H1,I1,r1,q1⟩=>hc pins s1 σ H1 vs us Q I1 r1 q1) he hpl
end
end L2
namespace HT
open PySem PyProof.Rows
section
variable {prog:Program}{w:World}{A:Around}{E:Value->Shared->Prop}{s:Shared}
theorem Zx(ht:IsTup s.heap t vs.toArray)(hb:IsTup s.heap b ws.toArray)(hv:vs≠[])
 (h1:ws=[]->Q (.ref t) s) (h2:ws≠[]->Q (.ref s.heap.objs.size) {s with heap:=s.heap.push {cls:=.type "tuple",data:=.seq (vs++ws).toArray}})
 (hsz:vs.length+ws.length<=As):wpAny (model prog w) A (Br .Add (.ref t) (.ref b)) Q E s:=by
 obtain⟨⟨cls,dd,data,sl⟩,ho,hc,n,hd⟩:=id ht;obtain⟨⟨cls2,dd2,data2,sl2⟩,ho2,hc2,n2,hd2⟩:=id hb;simp only at hc hd hc2 hd2;subst hc hd hc2 hd2;have e:vs.toArray++ws.toArray=(vs++ws).toArray:=by simp
 by_cases hw:ws=[]
 . exact concat_meets ⟨_,ho,rfl⟩ ⟨_,ho2,rfl⟩ El Fh BY BU (BP _ _)
    (tuple_addW1 t b vs.toArray ws.toArray n n2 dd dd2 sl sl2 (by simpa using hv) (by simp[hw])) ⟨ho,ho2,h1 hw⟩
 . refine concat_meets ⟨_,ho,rfl⟩ ⟨_,ho2,rfl⟩ El Fh BY BU (BP _ _)
    (tuple_addW2 t b vs.toArray ws.toArray n n2 dd dd2 sl sl2 (by simpa using hv) (by simpa using hw) (by rw[Ae,Ae];exact hsz)) ⟨ho,ho2,?_⟩
   rw[e];exact h2 hw
noncomputable def sIx(n d:Nat):Option Int->Nat
 |none=>d
 |some v=>if v<0 then (v+(n:Int)).toNat else min v.toNat n
theorem gI(n d k:Nat):sIx n d (some (k:Int))=min k n:=by
 show (if (k:Int)<0 then ((k:Int)+(n:Int)).toNat else min (k:Int).toNat n)=min k n
 rw[if_neg (by omega),Bl]
theorem Uu n d(hd:d<=n)o:sIx n d o<=n:=by
 cases o with
 |none=>exact hd
 |some v=>
  show (if v<0 then (v+(n:Int)).toNat else min v.toNat n)<=n
  by_cases hv:v<0
  . rw[if_pos hv];omega
  . rw[if_neg hv];exact Dj _ _
theorem iP v(n d:Nat):(if v<0 then max (v+(n:Int)) 0 else min v (n:Int))=((sIx n d (some v):Nat):Int):=by
 show (if v<0 then max (v+(n:Int)) 0 else min v (n:Int))=(((if v<0 then (v+(n:Int)).toNat else min v.toNat n):Nat):Int)
 by_cases hv:v<0
 . simp only[if_pos hv];omega
 . simp only[if_neg hv];omega
theorem kM lo hi(n:Nat):AY lo hi 1 (n:Int)=(((sIx n 0 lo:Nat):Int),((sIx n n hi:Nat):Int)):=by
 have h1:¬((1:Int)<0):=by omega
 unfold AY;simp only[h1,if_false];refine CL ?_ ?_
 . cases lo with
   |none=>rfl
   |some v=>exact iP v n 0
 . cases hi with
   |none=>rfl
   |some v=>exact iP v n n
theorem jW(i j:Nat):Bu (i:Int) (j:Int) 1=j-i:=by
 unfold Bu;have h1:(1:Int) > 0:=by omega
 simp only[h1,if_true,Int.ediv_one];split<;>omega
theorem wk(p:IsPart v o)(h:Q o s):wpAny (model prog w) A (Builtin.Slice.slicePartIndex v) Q E s:=by
 cases p with
 |none=>exact slicePart_none h
 |int i t=>exact slicePart_int h
theorem vT{lo hi}{n:Nat}(hs:s.heap.IsSliceOf sl vl vu .none)(pl:IsPart vl lo)(pu:IsPart vu hi)
 (h:Q (((sIx n 0 lo:Nat):Int),1,sIx n n hi-sIx n 0 lo) s):wpAny (model prog w) A (Cw (.ref sl) (pure (n:Int))) Q E s:=by
 obtain⟨os,hos,hcs,hds⟩:=id hs;unfold Cw FK;refine lp (lp (Cj hos hds (x:=vl) rfl (lp (Cj hos hds (x:=vu) rfl (lp (Cj hos hds (x:=.none) rfl (Ag ?_)))))));refine lp (slicePart_none ?_);show wpAny _ _ (if ((1:Int) == 0)=true then _ else _) _ _ s
 rw[if_neg (by decide)]
 refine lp (wk pl (lp (wk pu (lp (Ag ?_)))));show wpAny _ _ (match AY lo hi 1 (n:Int) with|(lo,hi)=>pure (lo,(1:Int),Bu lo hi 1)) _ _ s
 rw[kM lo hi n];show wpAny _ _ (pure (((sIx n 0 lo:Nat):Int),(1:Int),Bu ((sIx n 0 lo:Nat):Int) ((sIx n n hi:Nat):Int) 1)) _ _ s;rw[jW];exact Ag h
theorem af(xs:Array Value)(i k:Nat):((Ao k).filterMap λ(m:Nat)=>xs[((i:Int)+(m:Int)*1).toNat]?).toArray=((xs.toList.drop i).take k).toArray:=by
 have e:(λ(m:Nat)=>xs[((i:Int)+(m:Int)*1).toNat]?)=λm=>xs[i+m]?:=by
  funext m;have:((i:Int)+(m:Int)*1).toNat=i+m:=by omega
  rw[this]
 rw[e];have:=pick_run xs i k;rw[B4]at this;have e2:((λx=>xs[x]?)∘λx=>i+x)=λm=>xs[i+m]?:=rfl;rw[e2]at this;rw[this]
theorem tq{lo hi}(ht:IsTup s.heap t items)(hs:s.heap.IsSliceOf sl vl vu .none)(pl:IsPart vl lo)(pu:IsPart vu hi)
 (hw:¬(sIx items.size 0 lo=0/\sIx items.size items.size hi=items.size))
 (h:Q (.ref s.heap.objs.size) {s with heap:=s.heap.push {cls:=.type "tuple",data:=.seq ((items.toList.drop (sIx items.size 0 lo)).take (sIx items.size items.size hi-sIx items.size 0 lo)).toArray}})
 (hsz:items.size<=As):wpAny (model prog w) A (getItem (.ref t) (.ref sl)) Q E s:=by
 have htake:sizeOk (.seq ((items.toList.drop (sIx items.size 0 lo)).take (sIx items.size items.size hi-sIx items.size 0 lo)).toArray):=by show ((items.toList.drop (sIx items.size 0 lo)).take (sIx items.size items.size hi-sIx items.size 0 lo)).toArray.size<=As;rw[Ae,B1,CM,CU];omega
 have hj:sIx items.size items.size hi<=items.size:=Uu _ _ (Ac _) hi;obtain⟨os,hos,hcs,hds⟩:=id hs;have hTs:s.TypeIs (.ref sl) "slice":=⟨os,hos,hcs⟩;unfold getItem
 try with_reducible refine B0 ?_
 first|refine lp (Ag ?_)|skip
 refine lp (FA ht.typeIs (by decide) ?_)
 refine lp (Cf (name:=Df "__getitem__") ht.typeIs AX
  (Dk AX ht.typeIs EX ?_ (E6 _ _)))
 show wpAny _ _ (Dw (.ref t) >>= _) _ _ s;refine lp (Ei ht ?_);refine lp (EK hTs ?_);rw[if_pos (by decide)]
 refine lp (vT hs pl pu ?_);have hno:¬((((sIx items.size 0 lo:Nat):Int) == 0&&(1:Int) == 1&&(sIx items.size items.size hi-sIx items.size 0 lo) == items.size)=true):=by intro q;rw[cf,cf]at q;have q1:((sIx items.size 0 lo:Nat):Int)=0:=Ct q.1.1;have q2:sIx items.size items.size hi-sIx items.size 0 lo=items.size:=Ct q.2;exact hw ⟨by omega,by omega⟩
 show wpAny _ _ (if (((sIx items.size 0 lo:Nat):Int) == 0&&(1:Int) == 1&&(sIx items.size items.size hi-sIx items.size 0 lo) == items.size)=true then _ else _) _ _ s
 rw[if_neg hno,af]
 first
  |exact lp (m:=Bj _) (Bb (Ag ⟨_,rfl,Ag h⟩) htake)
  |exact lp (m:=Bj _) (Bb (lp (Ag (Ag ⟨_,rfl,Ag h⟩))) htake)
  |exact lp (lp (m:=Bj _) (Bb (Ag (Ag ⟨_,rfl,Ag h⟩)) htake))
  |exact lp (lp (m:=Bj _) (Bb (Ag ⟨_,rfl,Ag h⟩) htake))
end
end HT
namespace L2
open PySem PySem.Spec PyProof.Rows
abbrev TO:=St->Hp->(Option Int->Hp->Prop)->Prop
def PO(X:Cx)(e:Option Expr)(t:TO):Prop:=
 ∀(pins:List (Addr × Obj)) (s:Shared) (σ:St) (H:Hp) (Q:Option Int->Hp->Prop),Inv X pins σ H s->t σ H Q ->
  wpAny (model X.f X.w) X.A (evalPart e X.a) (λu s'=>∃o H',Inv X pins σ H' s'/\IsPart u o/\Q o H') X.i s
def Xq:TO:=λ_ H Q=>Q none H
def QB(t:TE):TO:=λσ H Q=>t σ H λx H1=>∃i,x=.d i/\Q (some i) H1
section
variable {X:Cx}{e:Expr}{te:TE}{lo hi:Option Expr}{tl th:TO}{pos p2:Pos}
theorem XX:PO X none Xq:=by intro pins s σ H Q I h;rw[evalPart_none];exact Ag ⟨none,H,I,.none,h⟩
theorem XY(h:PE X e te):PO X (some e) (QB te):=by intro pins s σ H Q I hw;rw[evalPart_some];refine thn (h pins s σ H _ I hw) λu s1 ⟨x,H1,I1,r1,q1⟩=>?_;obtain⟨i,rfl,q⟩:=q1;obtain⟨t,rfl⟩:=r1;exact⟨some i,H1,I1,.int i t,q⟩
def SlR(X:Cx)(r:V->Option Int->Option Int->Hp->VK->Prop):Prop:=
 ∀(pins:List (Addr × Obj)) (s:Shared) (σ:St) (H:Hp) (x:V) (v vl vu:Value) (lo hi:Option Int) (sl:Addr) (Q:VK),Inv X pins σ H s->RelV x v->s.heap.IsSliceOf sl vl vu .none->IsPart vl lo->IsPart vu hi->r x lo hi H Q ->
  ∃T id,FL (.type T) "__getitem__"=pure (some (.builtin id))/\s.TypeIs v T/\wpAny (model X.f X.w) X.A (getItem v (.ref sl)) (EP X pins σ Q) X.i s
def tSl(r:V->Option Int->Option Int->Hp->VK->Prop)(te:TE)(tl th:TO):TE:=λσ H Q=>te σ H λx H1=>tl σ H1 λl H2=>th σ H2 λu H3=>r x l u H3 Q
theorem aZ(hr:SlR X r)(he:PE X e te)(hl:PO X lo tl)(hu:PO X hi th):PE X (.Subscript e (.Slice lo hi none p2) pos) (tSl r te tl th):=by
 intro pins s σ H Q I h;refine Gu (thn (he pins s σ H _ I h) λv s1 ⟨x,H1,I1,r1,q1⟩=>?_);refine wpAny_Slice (thn (hl pins s1 σ H1 _ I1 q1) λvl s2 ⟨l,H2,I2,pl,q2⟩=>thn (hu pins s2 σ H2 _ I2 q2) λvu s3 ⟨u,H3,I3,pu,q3⟩=>?_);rw[evalPart_none];refine Ag ?_;have I4:Inv X pins σ H3 {s3 with heap:=s3.heap.push {cls:=.type "slice",data:=.fields #[vl,vu,.none]}}:=I3.kept (t':=s3.toks) λb ob q=>nx _ q
 obtain⟨T,id,hT,ht,hg⟩:=hr pins {s3 with heap:=s3.heap.push {cls:=.type "slice",data:=.fields #[vl,vu,.none]}} σ H3 x v vl vu l u s3.heap.objs.size Q I4 r1 (E7 ..) pl pu q3
 show wpAny (model X.f X.w) X.A (Fi e (.Slice lo hi none p2) v (.ref s3.heap.objs.size)) (EP X pins σ Q) X.i {s3 with heap:=s3.heap.push {cls:=.type "slice",data:=.fields #[vl,vu,.none]}}
 exact tail_any (ops:=[.ref s3.heap.objs.size,v]) ht hT hg (by with_unfolding_all rfl)
def pJ(xs:List V)(lo hi:Option Int):List V:=(xs.drop (HT.sIx xs.length 0 lo)).take (HT.sIx xs.length xs.length hi-HT.sIx xs.length 0 lo)
theorem rM xs lo hi:(pJ xs lo hi).length<=xs.length:=by unfold pJ;rw[B1,CM];omega
def Qj(K:Af):V->Option Int->Option Int->Hp->VK->Prop:=λx lo hi H Q=>∃a xs,x=.c a/\SqT K H a xs /\
 ¬(HT.sIx xs.length 0 lo=0/\HT.sIx xs.length xs.length hi=xs.length)/\∀p,H p=none->Q (.c p) (upd H p (.c (pJ xs lo hi)))
theorem Ux:SlR X (Qj X.K):=by
 intro pins s σ H x v vl vu lo hi sl Q I rx hs pl pu h;obtain⟨a,xs,rfl,hx,hw,q⟩:=h;cases rx;obtain⟨its,r,ht,hz⟩:=I.tuple hx;have hlen:its.toArray.size=xs.length:=by rw[Ae];exact r.length.symm
 refine⟨"tuple",_,AX.lookup,ht.typeIs,?_⟩;refine HT.tq ht hs pl pu (by rw[hlen];exact hw) ?_ (by rw[hlen];exact hz)
 rw[hlen];refine⟨.c s.heap.objs.size,_,I.laid (t':=s.toks) (o:=.c (pJ xs lo hi)) (λb ob q=>nx _ q) (Ac _) ?_,rfl,q _ (I.j.fresh (Ac _))⟩;exact⟨AD (rM xs lo hi) hz,_,(r.drop (HT.sIx xs.length 0 lo)).take (HT.sIx xs.length xs.length hi-HT.sIx xs.length 0 lo),tM.new _ _⟩
def Rg(K:Af):R2:=λx y H Q=>∃a b xs ys,x=.c a/\y=.c b/\SqT K H a xs/\SqT K H b ys/\xs≠[]/\xs.length+ys.length<=As /\
 (ys=[]->Q (.c a) H)/\(ys≠[]->∀p,H p=none->Q (.c p) (upd H p (.c (xs++ys))))
theorem Vals.w6(r:Vals xs us):us=[]↔xs=[]:=by
 cases r with
 |nil=>simp
 |cons _ _=>simp
theorem Y7:OpR X (Br .Add) (Rg X.K):=by
 intro pins s σ H x y v u Q I rx ry h;obtain⟨a,b,xs,ys,rfl,rfl,ha,hb,hx,hz,q1,q2⟩:=h;cases rx;cases ry;obtain⟨its,r1,p1,_⟩:=I.tuple ha;obtain⟨its2,r2,p2,_⟩:=I.tuple hb;refine HT.Zx p1 p2 (λz=>hx (r1.w6.mp z)) (λz=>⟨.c a,H,I,rfl,q1 (r2.w6.mp z)⟩) (λz=>?_) (by rw[<-r1.length,<-r2.length];exact hz)
 refine⟨.c s.heap.objs.size,_,I.laid (t':=s.toks) (o:=.c (xs++ys)) (λb ob q=>nx _ q) (Ac _) ?_,rfl,q2 (λw=>z (r2.w6.mpr w)) _ (I.j.fresh (Ac _))⟩;exact⟨by rw[Al];exact hz,_,r1.append r2,tM.new _ _⟩
end
noncomputable def ixN(n:Nat)(i:Int):Option Nat:=if 0<=i then (if i<n then some i.toNat else none) else if -(n:Int)<=i then some (i+n).toNat else none
def atI{α:Type}(xs:List α)(i:Int):Option α:=(ixN xs.length i).bind λj=>xs[j]?
theorem iz(h:ixN n i=some j):seqIndex? i n=some j/\j<n∧-(n:Int)<=i/\i<n:=by
 unfold ixN at h;by_cases h0:0<=i
 . rw[if_pos h0]at h
   by_cases h1:i<n
   . rw[if_pos h1]at h
     have e:i.toNat=j:=AA h;exact⟨by rw[seqIndex_of h0 h1,e],by omega,by omega,h1⟩
   . rw[if_neg h1]at h;cases h
 . rw[if_neg h0]at h
   by_cases h1:-(n:Int)<=i
   . rw[if_pos h1]at h
     have e:(i+n).toNat=j:=AA h;exact⟨by rw[seqIndex_neg (by omega) h1,e],by omega,h1,by omega⟩
   . rw[if_neg h1]at h;cases h
theorem oy(h:atI xs i=some v):∃j,seqIndex? i xs.length=some j/\xs[j]?=some v/\j<xs.length∧-(xs.length:Int)<=i/\i<xs.length:=by
 unfold atI at h;cases e:ixN xs.length i with
 |none=>rw[e]at h;cases h
 |some j=>
  rw[e]at h;obtain⟨h1,h2,h3,h4⟩:=iz e;exact⟨j,h1,h,h2,h3,h4⟩
theorem rW{xs}{j:Nat}{v:α}(h:xs[j]?=some v):atI xs (j:Int)=some v:=by
 have hj:j<xs.length:=(Am.mp h).1;have e:ixN xs.length (j:Int)=some j:=by unfold ixN;rw[if_pos (by omega),if_pos (by omega)];simp
 unfold atI;rw[e];exact h
def iL(b:Expr):Prop:=∀o i,subscripted b false o i=operate [o,i] (getItem o i)
def IxR(X:Cx)(r:R2):Prop:=
 ∀(value slice:Expr) (pins:List (Addr × Obj)) (s:Shared) (σ:St) (H:Hp) (x y:V) (v u:Value) (Q:VK),Inv X pins σ H s->RelV x v->RelV y u->r x y H Q ->
  subscripted slice false v u=operate [v,u] (getItem v u)->wpAny (model X.f X.w) X.A (Fi value slice v u) (EP X pins σ Q) X.i s
def MtR(X:Cx)(id:String)(r:V->List V->Hp->VK->Prop):Prop:=
 ∀(pins:List (Addr × Obj)) (s:Shared) (σ:St) (H:Hp) (x:V) (xs:List V) (v:Value) (us:List Value) (Q:VK),Inv X pins σ H s->RelV x v->Vals xs us->r x xs H Q ->
  wpAny (model X.f X.w) X.A (call (.builtin id) (v::us)) (EP X pins σ Q) X.i s
section
variable {X:Cx}{a b:Expr}{ta tb:TE}{pos:Pos}
theorem IxR.or(h:IxR X r)(h':IxR X r'):IxR X (λx y H Q=>r x y H Q\/r' x y H Q):=by
 intro value slice pins s σ H x y v u Q I rx ry q hs;rcases q with q|q
 . exact h value slice pins s σ H x y v u Q I rx ry q hs
 . exact h' value slice pins s σ H x y v u Q I rx ry q hs
theorem WY(hr:IxR X r)(ha:PE X a ta)(hb:PE X b tb)(hs:iL b):PE X (.Subscript a b pos) (tOp r ta tb):=by intro pins s σ H Q I h;exact Gu (W2 ha hb I h λv u s2 x y H2 I2 rx ry q=>hr a b pins s2 σ H2 x y v u Q I2 rx ry q (hs _ _))
def Up(K:Af):R2:=λx y H Q=>∃p xs i v,x=.c p/\y=.d i/\SqL K H p xs/\atI xs i=some v/\Q v H
def Rj(K:Af):R2:=λx y H Q=>∃p xs i v,x=.c p/\y=.d i/\SqT K H p xs/\atI xs i=some v/\Q v H
def Ri:R2:=λx y H Q=>∃z i c,x=.e z/\y=.d i/\z.length<=As/\atI z.cps.toList i=some c/\Q (.e ⟨#[c]⟩) H
theorem i6:IxR X (Up X.K):=by
 intro value slice pins s σ H x y v u Q I rx ry h hs;obtain⟨p,xs,i,z,rfl,rfl,hq,he,q⟩:=h;cases rx;obtain⟨t,rfl⟩:=ry;obtain⟨its,r,pl,hz⟩:=I.list hq;obtain⟨j,h1,h2,h3,h4,h5⟩:=oy he;obtain⟨w,ew,rw'⟩:=r.get h2;have hl:=r.length;have hn:=u9;have fin:EP X pins σ Q w s:=⟨z,H,I,rw',q⟩;by_cases h0:0<=i
 . have hj:i.toNat=j:=by rw[seqIndex_of h0 h5]at h1;exact AA h1
   exact item_listR pl.isList h0 (by omega) (by rw[hj];simpa using ew) fin hs
 . have hj:(i+(its.toArray.size:Int)).toNat=j:=by
    rw[seqIndex_neg (by omega) h4]at h1
    rw[Ae,<-hl];exact AA h1
   exact subscriptTail_builtinR (x:=w) pl.isList.typeIs FC.lookup
    (wpAny_getItem_list_neg (Q:=λr s'=>r=w/\EP X pins σ Q r s') pl.isList (by omega) (by rw[Ae]<;>omega) (by omega) (by rw[hj];simpa using ew) ⟨rfl,fin⟩) hs
theorem VQ:IxR X (Rj X.K):=by
 intro value slice pins s σ H x y v u Q I rx ry h hs;obtain⟨p,xs,i,z,rfl,rfl,hq,he,q⟩:=h;cases rx;obtain⟨t,rfl⟩:=ry;obtain⟨its,r,pl,hz⟩:=I.tuple hq;obtain⟨j,h1,h2,h3,h4,h5⟩:=oy he;obtain⟨w,ew,rw'⟩:=r.get h2;have hl:=r.length;have hn:=u9;have fin:EP X pins σ Q w s:=⟨z,H,I,rw',q⟩;exact subscriptTail_builtinR (x:=w) pl.typeIs slot_tuple_getitem.lookup
  (getItem_tuple (j:=j) (Q:=λr s'=>r=w/\EP X pins σ Q r s') pl (by omega) (by omega) (by rw[Ae,<-hl];exact h1) (by simpa using ew) ⟨rfl,fin⟩) hs
theorem VP:IxR X Ri:=by
 intro value slice pins s σ H x y v u Q I rx ry h hs;obtain⟨z,i,c,rfl,rfl,hz,he,q⟩:=h;obtain⟨t,rfl⟩:=rx;obtain⟨t',rfl⟩:=ry;obtain⟨j,h1,h2,h3,h4,h5⟩:=oy he;have hl:z.cps.toList.length=z.length:=by simp[Str.length]
 rw[hl]at h1 h4 h5;have hn:=u9;exact tail_any (typeIs_str s z t) slot_str_getitem.lookup (getItem_str (c:=c) (by
  have e1:decide (i < -(2 ^ 63:Int))=false:=decide_eq_false (by omega)
  have e2:decide (i ≥ 2 ^ 63)=false:=decide_eq_false (by omega)
  rw[e1,e2,Bool.or_false]) (by rw[h1];simpa using h2) ⟨.e ⟨#[c]⟩,H,I.tok _,⟨_,rfl⟩,q⟩) hs
def rIx(K:Af):R2:=λx y H Q=>Up K x y H Q\/Rj K x y H Q\/Ri x y H Q
theorem VO:IxR X (rIx X.K):=i6.or (VQ.or VP)
theorem jA(its:List Value)n j u:FN (·.setIfInBounds j u) {cls:=.type "list",data:=.seq its.toArray n}={cls:=.type "list",data:=.seq (its.set j u).toArray n}:=by simp[FN]
theorem Inv.lst{pins:List (Addr × Obj)}{σ:St}{H:Hp}{s:Shared}{p:Addr}{xs:List V}(I:Inv X pins σ H s)(h:H p=some (.b xs)) :
 ∃(its:List Value) (n:Nat),Vals xs its/\s.heap.get? p=some {cls:=.type "list",data:=.seq its.toArray n}/\xs.length<=As:=by
 obtain⟨z,its,n,r,e⟩:=I.j p _ h;exact⟨its,n,r,e,z⟩
theorem Inv.V6{its its':List Value}(I:Inv X pins σ H s)(h:H p=some (.b xs))
 (ho:s.heap.get? p=some {cls:=.type "list",data:=.seq its.toArray n}) (hf:f {cls:=.type "list",data:=.seq its.toArray n}={cls:=.type "list",data:=.seq its'.toArray n'}) (r:Vals ys its') (hz:ys.length<=As) t :
 Inv X pins σ (upd H p (.b ys)) {s with heap:=s.heap.update p f,toks:=t}:=by
 have e:(s.heap.update p f).get? p=some {cls:=.type "list",data:=.seq its'.toArray n'}:=by rw[Ey f ho (by rw[hf]<;>rfl),hf]
 refine I.write (x:=p) (e:=p) (by rw[h];trivial) (.inl rfl) (λb u hb q=>(C7 _ _ (Bt hb)).trans q) ⟨_,e⟩ ?_
 exact⟨hz,its',n',r,e⟩
def Wc:V->V->V->Hp->(Hp->Prop)->Prop:=λo i v H Q=>∃p xs k j,o=.c p/\i=.d k/\H p=some (.b xs)/\ixN xs.length k=some j/\Q (upd H p (.b (xs.set j v)))
theorem set_list:Td X Wc:=by
 intro pins s σ H o i v ov iv u Q I ro ri rv h;obtain⟨p,xs,k,j,rfl,rfl,hp,hj,q⟩:=h;cases ro;obtain⟨t,rfl⟩:=ri;obtain⟨its,n,r,ho,hz⟩:=I.lst hp;obtain⟨h1,h2,h3,h4⟩:=iz hj;have hl:=r.length;have hn:=u9;have I':Inv X pins σ (upd H p (.b (xs.set j v))) {s with heap:=s.heap.update p (FN (·.setIfInBounds j u))}:=
  I.V6 hp ho (jA its n j u) (r.set rv j) (by rw[B9];exact hz) s.toks
 by_cases h0:0<=k
 . have hk:k.toNat=j:=by rw[seqIndex_of h0 h4]at h1;exact AA h1
   exact PySem.W.ki_setAt ho h0 (by omega) (by rw[Ae,<-hl];exact h4) (by rw[hk];exact⟨_,I',q⟩)
 . have hk:(k+(its.toArray.size:Int)).toNat=j:=by
    rw[seqIndex_neg (by omega) h3]at h1
    rw[Ae,<-hl];exact AA h1
   exact PySem.W.ki_setBack ho (by omega) (by rw[Ae,<-hl];exact h3) (by omega) (by rw[hk];exact⟨_,I',q⟩)
theorem mJ lo hi n:(Bn lo hi none n).1=((HT.sIx n 0 lo:Nat):Int)/\(Bn lo hi none n).2.1=((HT.sIx n n hi:Nat):Int)/\(Bn lo hi none n).2.2=1:=by
 refine⟨?_,?_,rfl⟩
 . cases lo with
   |none=>simp[Bn,HT.sIx]
   |some i=>
    simp only[Bn,HT.sIx,FQ,show (1:Int) > 0 by decide,if_true]
    by_cases h:i<0
    . simp only[h,if_true]<;>omega
    . simp only[h,if_false]<;>omega
 . cases hi with
   |none=>simp[Bn,HT.sIx]
   |some i=>
    simp only[Bn,HT.sIx,FQ,show (1:Int) > 0 by decide,if_true]
    by_cases h:i<0
    . simp only[h,if_true]<;>omega
    . simp only[h,if_false]<;>omega
theorem pP(its:List Value)lo hi:GF its.toArray lo hi none=((its.drop (HT.sIx its.length 0 lo)).take (HT.sIx its.length its.length hi-HT.sIx its.length 0 lo)).toArray:=by obtain⟨h1,h2,h3⟩:=mJ lo hi its.toArray.size;unfold GF;rw[h1,h2,h3];simp only[sliceRange_one,pick_run,Ae]<;>rfl
def Qi(K:Af):V->Option Int->Option Int->Hp->VK->Prop:=λx lo hi H Q=>∃a xs,x=.c a/\SqL K H a xs/\∀p,H p=none->Q (.c p) (upd H p (.b (pJ xs lo hi)))
theorem Xj:SlR X (Qi X.K):=by
 intro pins s σ H x v vl vu lo hi sl Q I rx hs pl pu h;obtain⟨a,xs,rfl,hx,q⟩:=h;cases rx;obtain⟨its,r,ht,hz⟩:=I.list hx;have hlen:=r.length;refine⟨"list",_,FC.lookup,ht.isList.typeIs,?_⟩;refine FR ht.isList hs pl pu .none (by simp) ?_ (by rw[Ae]<;>omega)
 rw[pP,<-hlen];refine⟨.c s.heap.objs.size,_,I.laid (t':=s.toks) (o:=.b (pJ xs lo hi)) (λb ob q=>nx _ q) (Ac _) ?_,rfl,q _ (I.j.fresh (Ac _))⟩;exact⟨AD (rM xs lo hi) hz,_,0,(r.drop (HT.sIx xs.length 0 lo)).take (HT.sIx xs.length xs.length hi-HT.sIx xs.length 0 lo),Az _ rfl⟩
noncomputable def xh:V->Bool
 |.g=>true
 |.f _=>true
 |.d _=>true
 |.e _=>true
 |_=>false
noncomputable def eqV:V->V->Bool
 |.g,.g=>true
 |.f a,.f b=>a == b
 |.f a,.d b=>(if a then 1 else 0) == b
 |.d a,.f b=>a == (if b then 1 else 0)
 |.d a,.d b=>a == b
 |.e a,.e b=>a == b
 |_,_=>false
theorem VG(ry:RelV y u)(rx:RelV x v)(fy:xh y=true)(fx:xh x=true):A9 A s u v (eqV y x):=by
 cases y with
 |g=>
  cases ry;cases x with
  |g=>cases rx;exact A9.same _
  |f b=>cases rx;exact A9.none_bool b
  |d b=>obtain⟨t,rfl⟩:=rx;exact A9.none_int b t
  |e b=>obtain⟨t,rfl⟩:=rx;exact A9.none_str b t
  |_=>exact absurd (show false=true from fx) xd
 |f a=>
  cases ry;cases x with
  |g=>cases rx;exact A9.bool_none a
  |f b=>cases rx;exact A9.bool_bool a b
  |d b=>obtain⟨t,rfl⟩:=rx;exact A9.bool_int a b t
  |e b=>obtain⟨t,rfl⟩:=rx;exact A9.bool_str a b t
  |_=>exact absurd (show false=true from fx) xd
 |d a=>
  obtain⟨t',rfl⟩:=ry;cases x with
  |g=>cases rx;exact A9.int_none a t'
  |f b=>cases rx;exact A9.int_bool a t' b
  |d b=>obtain⟨t,rfl⟩:=rx;exact A9.int_int a t' b t
  |e b=>obtain⟨t,rfl⟩:=rx;exact A9.int_str a t' b t
  |_=>exact absurd (show false=true from fx) xd
 |e a=>
  obtain⟨t',rfl⟩:=ry;cases x with
  |g=>cases rx;exact A9.str_none a t'
  |f b=>cases rx;exact A9.str_bool a t' b
  |d b=>obtain⟨t,rfl⟩:=rx;exact A9.str_int a t' b t
  |e b=>obtain⟨t,rfl⟩:=rx;exact A9.str_str a t' b t
  |_=>exact absurd (show false=true from fx) xd
 |_=>exact absurd (show false=true from fy) xd
def eqU(x:V)(u:Value):Bool:=match u with
 |.none=>eqV .g x
 |.bool b=>eqV (.f b) x
 |.int i _=>eqV (.d i) x
 |.str z _=>eqV (.e z) x
 |_=>false
theorem nM(r:RelV y u)(f:xh y=true):eqU x u=eqV y x:=by
 cases y with
 |g=>cases r;rfl
 |f b=>cases r;rfl
 |d i=>obtain⟨t,rfl⟩:=r;rfl
 |e z=>obtain⟨t,rfl⟩:=r;rfl
 |_=>exact absurd (show false=true from f) xd
theorem ow:∀{xs} {us},Vals xs us->xs.all xh=true->us.any (eqU x)=xs.any λy=>eqV y x
 |_,_,.nil,_=>rfl
 |y::xs,u::us,.cons r t,f=>by rw[BR,cf]at f;rw[CW,CW,nM r f.1,ow t f.2]
theorem vR(rx:RelV x v)(fx:xh x=true):∀{xs} {us},Vals xs us->xs.all xh=true->∀u∈us,A9 A s u v (eqU x u)
 |_,_,.nil,_=>λu hu=>by cases hu
 |y::xs,u::us,.cons r t,f=>λu' hu=>by
  rw[BR,cf]at f;rcases Aj.mp hu with rfl|hu
  . rw[nM r f.1];exact VG r rx f.1 fx
  . exact vR rx fx t f.2 u' hu
def inV(x:V)(xs:List V):Bool:=xs.any λy=>eqV y x
def rIn(K:Af)(neg:Bool):R2:=λx y H Q=>∃p xs,y=.c p/\(SqL K H p xs\/SqT K H p xs)/\xh x=true/\xs.all xh=true/\Q (.f (if neg then !inV x xs else inV x xs)) H
theorem fm:OpR X (A6 .In) (rIn X.K false):=by
 intro pins s σ H x y v u Q I rx ry h;obtain⟨p,xs,rfl,hq,fx,fs,q⟩:=h;cases ry;rcases hq with hq|hq
 . obtain⟨its,r,pl,hz⟩:=I.list hq
   refine SeqAt.in_listAt (eqU x) pl.isList (λw hw=>vR rx fx r fs w (by simpa using hw)) ⟨.f _,H,I,rfl,?_⟩
   rw[show its.toArray.any (eqU x)=its.any (eqU x) by simp,ow r fs]
   exact q
 . obtain⟨its,r,pl,hz⟩:=I.tuple hq
   refine SeqAt.in_tupleAt (eqU x) pl (λw hw=>vR rx fx r fs w (by simpa using hw)) ⟨.f _,H,I,rfl,?_⟩
   rw[show its.toArray.any (eqU x)=its.any (eqU x) by simp,ow r fs]
   exact q
theorem nA:yV X (.builtin "len") (λxs H Q=>∃p ys,xs=[.c p]/\(SqL X.K H p ys\/SqT X.K H p ys)/\Q (.d ys.length) H):=by
 intro pins s σ H xs us Q I r h;obtain⟨p,ys,rfl,hq,q⟩:=h;obtain⟨u,rfl,rx⟩:=vals1 r;cases rx;have hn:=u9;rcases hq with hq|hq
 . obtain⟨its,r',pl,hz⟩:=I.list hq
   have hlen:=r'.length;exact Calls.call_len_list pl.isList (by simp only[Ae]<;>omega) ⟨.d ys.length,H,I.tok _,⟨s.toks+1,by rw[Ae,hlen]⟩,q⟩
 . obtain⟨its,r',pl,hz⟩:=I.tuple hq
   have hlen:=r'.length;exact len_tuple pl (by simp only[Ae]<;>omega) ⟨.d ys.length,H,I.tok _,⟨s.toks+1,by rw[Ae,hlen]⟩,q⟩
theorem nB:yV X (.builtin "len") (λxs H Q=>∃z,xs=[.e z]/\z.length<=As/\Q (.d z.length) H):=by intro pins s σ H xs us Q I r h;obtain⟨z,rfl,hz,q⟩:=h;obtain⟨u,rfl,t,rfl⟩:=vals1 r;have hn:=u9;exact len_str (by omega) ⟨.d z.length,H,I.tok _,⟨_,rfl⟩,q⟩
theorem nD:yV X (.type "list") (λxs H Q=>∃p ys,xs=[.c p]/\(SqL X.K H p ys\/SqT X.K H p ys)/\∀l,H l=none->Q (.c l) (upd H l (.b ys))):=by
 intro pins s σ H xs us Q I r h;obtain⟨p,ys,rfl,hq,q⟩:=h;obtain⟨u,rfl,rx⟩:=vals1 r;cases rx;have fin:∀(its:List Value),Vals ys its->ys.length<=As->∀(h':Heap) (c':Nat),(∀b o',s.heap.get? b=some o'->h'.get? b=some o') ->
  h'.get? s.heap.objs.size=some {cls:=.type "list",dict:=none,data:=.seq its.toArray c',slots:=#[]}->EP X pins σ Q (.ref s.heap.objs.size) {s with heap:=h'}:=λits r' hz h' c' kp e=>
  ⟨.c s.heap.objs.size,_,I.laid (t':=s.toks) kp (Ac _) (show yL X.f X.w _ h' _ (.b ys) from ⟨hz,its,c',r',e⟩),rfl,q _ (I.j.fresh (Ac _))⟩
 rcases hq with hq|hq
 . obtain⟨its,r',pl,hz⟩:=I.list hq
   have hlen:=r'.length;obtain⟨o,ho,hc,n,hd⟩:=pl.isList;exact call_list_seq p (.inl rfl) ho hc hd (λh' c' kp e=>fin its r' hz h' c' kp e) (by simp only[Ae]<;>omega)
 . obtain⟨its,r',pl,hz⟩:=I.tuple hq
   have hlen:=r'.length;obtain⟨o,ho,hc,n,hd⟩:=pl;exact call_list_seq p (.inr rfl) ho hc hd (λh' c' kp e=>fin its r' hz h' c' kp e) (by simp only[Ae]<;>omega)
theorem uq:yV X (.type "tuple") (λxs H Q=>∃p ys,xs=[.c p]/\((SqL X.K H p ys/\∀l,H l=none->Q (.c l) (upd H l (.c ys)))\/(SqT X.K H p ys/\Q (.c p) H))):=by
 intro pins s σ H xs us Q I r h;obtain⟨p,ys,rfl,h⟩:=h;obtain⟨u,rfl,rx⟩:=vals1 r;cases rx;rcases h with⟨hq,q⟩|⟨hq,q⟩
 . obtain⟨its,r',pl,hz⟩:=I.list hq
   have hlen:=r'.length;refine call_tuple_list pl.isList (λh' kp=>?_) (by simp only[Ae]<;>omega)
   have I1:Inv X pins σ H {s with heap:=h'}:=I.kept (t':=s.toks) kp
   have I2:Inv X pins σ (upd H h'.objs.size (.c ys)) {s with heap:=h'.push {cls:=.type "tuple",data:=.seq its.toArray}}:=
    I1.laid (t':=s.toks) (λb o e=>nx _ e) (Ac _) (show yL X.f X.w _ _ _ (.c ys) from ⟨hz,its,r',tM.new _ _⟩)
   exact⟨.c h'.objs.size,_,I2,rfl,q _ (I1.j.fresh (Ac _))⟩
 . obtain⟨its,r',pl,hz⟩:=I.tuple hq
   exact call_tuple_same pl ⟨.c p,H,I,rfl,q⟩
def tyV(K:Af)(T:String)(x:V)(H:Hp):Prop:=match x with
 |.e _=>T="str"
 |.d _=>T="int"
 |.c p=>(T="list"/\∃xs,SqL K H p xs)\/(T="tuple"/\∃o,K.lookup p=some o/\o.cls=.type "tuple"/\o.dict=none) \/
  (T="dict"/\((∃kvs,H p=some (.i kvs))\/∃kvs,H p=some (.j kvs)))\/(T="set"/\∃S n,H p=some (.l S n))
 |_=>False
theorem TQ(I:Inv X pins σ H s)(r:RelV x v)(ty:tyV X.K T x H) :
 s.TypeIs v T/\∀a,v=.ref a->∃ob,s.heap.get? a=some ob/\ob.dict=none:=by
 cases x with
 |e z=>
  obtain⟨t,rfl⟩:=r;cases (show T="str" from ty);exact⟨typeIs_str s z t,λ_ e=>nomatch e⟩
 |d i=>
  obtain⟨t,rfl⟩:=r;cases (show T="int" from ty);exact⟨C0 s i t,λ_ e=>nomatch e⟩
 |c p=>
  cases r;rcases ty with⟨rfl,xs,hq⟩|⟨rfl,o,hk,hc,hd⟩|⟨rfl,hk⟩|⟨rfl,S,n,hk⟩
  . obtain⟨its,_,pl,_⟩:=I.list hq
    refine⟨pl.isList.typeIs,λa e=>?_⟩;cases e;obtain⟨o,n,e,c,hd,_⟩:=pl;exact⟨o,e,hd⟩
  . refine⟨⟨o,I.kIn p o hk,hc⟩,λa e=>?_⟩
    cases e;exact⟨o,I.kIn _ o hk,hd⟩
  . have z:∃o,s.heap.get? p=some o/\o.ExactDict:=by
     rcases hk with⟨kvs,hk⟩|⟨kvs,hk⟩
     . obtain⟨_,_,_,_,o,_,_,e,ex,_⟩:=I.j p _ hk
       exact⟨o,e,ex⟩
     . obtain⟨_,_,_,_,o,_,_,e,ex,_⟩:=I.j p _ hk
       exact⟨o,e,ex⟩
    obtain⟨o,e,ex⟩:=z;refine⟨⟨o,e,ex.1⟩,λa e2=>?_⟩;cases e2;exact⟨o,e,ex.2.1⟩
  . obtain⟨o,_,_,_,e,ex,_⟩:=I.j p _ hk
    refine⟨⟨o,e,ex.1⟩,λa e2=>?_⟩;cases e2;exact⟨o,e,ex.2.1⟩
 |_=>exact Ay ty
def tBM(K:Af)(T:String)(r:V->List V->Hp->VK->Prop)(to:TE)(t:TA):TE:=λσ H Q=>to σ H λx H1=>tyV K T x H1/\t σ H1 λxs H2=>r x xs H2 Q
variable {o e:Expr}{es:List Expr}{to:TE}{t:TA}{name:Str}{apos cpos:Pos}{T id:String}{r:V->List V->Hp->VK->Prop}
theorem aT(pa:PlainAttrs T)(slot:Slot T name id)(hty:typeOf (.builtin id)=pure (.type "method_descriptor"))(hm:MtR X id r)(ho:PE X o to)(ha:PA X (e::es) t)
 (hbase:CY o name X.a (eval o X.a)=eval o X.a:=by rfl)
 (hfew:((backTo cpos (AJ (e::es) X.a)).all (λx=>!x.1)&&(backToKw cpos (keywordEach [] X.a)).all (λx=>x.1.isSome)
  && decide ((e::es).length+([]:List Keyword).length+(if ([]:List Keyword).isEmpty then 0 else 1)<30))=true:=by rfl)
 (hline:(apos.endLine == cpos.line)=true:=by rfl) (hs:AJ (e::es) X.a=(false,eval e X.a)::AJ es X.a:=by rfl) (hplain:(backTo cpos (AJ es X.a)).any (·.1)=false:=by rfl) :
 PE X (.Call (.Attribute o name apos) (e::es) [] cpos) (tBM X.K T r to t):=by
 intro pins s σ H Q I h;refine wpAny_Call_method_late hbase hfew hline rfl (thn (ho pins s σ H _ I h) λv s1 ⟨x,H1,I1,r1,ty,q1⟩=>?_);obtain⟨h1,h2⟩:=TQ I1 r1 ty;refine⟨T,id,pa,slot,hty,h1,h2,?_⟩;have hA:=ha cpos pins s1 σ H1 _ I1 q1;rw[hs]at hA ⊢;refine Calls.callWith_builtin (by show (false||(backTo cpos (AJ es X.a)).any (·.1))=false;rw[hplain]<;>rfl) (EL ?_)
 exact thn hA λus s2 ⟨vs,H2,I2,r2,q2⟩=>hm pins s2 σ H2 x vs v us Q I2 r1 r2 q2
/- xs.append(e),list.index on a module's tuple .. are MtR facts of 06m -/
end
def MtM(X:Cx)(id:String)(r:V->List V->Hp->VK->Prop):Prop:=
 ∀(pins:List (Addr × Obj)) (s:Shared) (σ:St) (H:Hp) (x:V) (xs:List V) (v:Value) (us:List Value) (Q:VK),Inv X pins σ H s->RelV x v->Vals xs us->r x xs H Q ->
  wpAny (model X.f X.w) X.A (call (.builtin id) (v::us)) (EP X pins σ Q) X.i s
theorem Vals.one:∀{x} {us},Vals [x] us->∃u,us=[u]/\RelV x u
 |_,_,.cons r .nil=>⟨_,rfl,r⟩
theorem Vals.rep(h:Vals xs us):∀k:Nat,Vals (Ak k xs).flatten (Ak k us).flatten
 |0=>.nil
 |k+1=>by rw[Bv,Bv,Cc,Cc];exact Vals.append h (Vals.rep h k)
theorem foldl_rep its:∀k (acc:List Value),
 D2 (λx1 x2=>x1++x2) acc.toArray (Ak k its.toArray)=(acc++(Ak k its).flatten).toArray
 |0,acc=>by simp
 |k+1,acc=>by
  have e:acc.toArray++its.toArray=(acc++its).toArray:=by simp
  have e2:(acc++its)++(Ak k its).flatten=acc++(Ak (k+1) its).flatten:=by rw[Bv,Cc,Bo]
  rw[<-e2,<-foldl_rep its k (acc++its),<-e,Bv,List.foldl_cons]
section
variable {X:Cx}{pins:List (Addr × Obj)}{σ:St}{H:Hp}{s:Shared}{l b:Addr}{xs ys zs:List V}
theorem Inv.QX{its its':List Value}(I:Inv X pins σ H s)(hH:H l=some (.b xs))
 (e:s.heap.get? l=some {cls:=.type "list",data:=.seq its.toArray n}) (hf:f its.toArray=its'.toArray) (hv:Vals ys its') (hz:ys.length<=As) :
 Inv X pins σ (upd H l (.b ys)) {s with heap:=s.heap.update l (FN f),toks:=t'}:=by
 have q:=PySem.IsL.update e f;rw[hf]at q;refine I.write (x:=l) (e:=l) (by rw[hH];exact trivial) (.inl rfl) (λb' u hb hu=>(C7 s.heap (FN f) (Bt hb)).trans hu) ⟨_,q⟩ ?_
 exact⟨hz,its',_,hv,q⟩
theorem Inv.Si(I:Inv X pins σ H s)(hv:Vals ys its)(hz:ys.length<=As) :
 Inv X pins σ (upd H s.heap.objs.size (.b ys)) {s with heap:=s.heap.push {cls:=.type "list",data:=.seq its.toArray},toks:=t'}:=
 I.laid (λ_ _ q=>nx _ q) (Ac _) ⟨hz,its,0,hv,Az _ rfl⟩
theorem Inv.fresh(I:Inv X pins σ H s):H s.heap.objs.size=none:=I.j.fresh (Ac _)
theorem Inv.Yv(I:Inv X pins σ H s)(hH:H l=some (.b xs)):xs.length<=As/\∃its n,Vals xs its/\xs.length=its.length/\s.heap.get? l=some {cls:=.type "list",data:=.seq its.toArray n}:=by obtain⟨z,its,n,r,e⟩:=I.j l _ hH;exact⟨z,its,n,r,r.length,e⟩
theorem b9(h:n<=As):DQ n=false:=by unfold DQ;exact decide_eq_false (by omega)
end
section
variable {X:Cx}
def gG:V->List V->Hp->VK->Prop:=λx vs H Q=>∃l xs y,x=.c l/\vs=[y]/\H l=some (.b xs)/\xs.length<As/\Q .g (upd H l (.b (xs++[y])))
theorem oH:MtM X "list.append" gG:=by
 intro pins s σ H x vs v us Q I rx rv h;obtain⟨l,xs,y,rfl,rfl,hH,hz,q⟩:=h;cases rx;obtain⟨u,rfl,ru⟩:=rv.one;obtain⟨z,its,n,r,hl,e⟩:=I.Yv hH;refine BL F.slot_list_append ⟨_,e,rfl⟩ F.entry_list_append (F.args_list_append_2 _ _) (PySem.list_append l its.toArray n u (by rw[Ae];omega)) ⟨e,?_⟩
 refine⟨.g,_,I.QX (its':=its++[u]) hH e (by simp) (r.append (.cons ru .nil)) ?_,rfl,q⟩
 rw[Al,Cv];omega
def Xb:R2:=λx y H Q=>∃l b xs zs,x=.c l/\y=.c b/\H l=some (.b xs)/\H b=some (.b zs)/\xs.length+zs.length<=As/\∀p,H p=none->Q (.c p) (upd H p (.b (xs++zs)))
theorem jP:OpR X (Br .Add) Xb:=by
 intro pins s σ H x y v u Q I rx ry h;obtain⟨l,b,xs,zs,rfl,rfl,hH,hB,hz,q⟩:=h;cases rx;cases ry;obtain⟨z,its,n,r,hl,e⟩:=I.Yv hH;obtain⟨z2,its2,n2,r2,hl2,e2⟩:=I.Yv hB;refine PySem.P.add_list e e2 ?_ (by rw[Ae,Ae];omega)
 have ea:its.toArray++its2.toArray=(its++its2).toArray:=by simp
 rw[ea];exact⟨.c _,_,I.Si (t':=s.toks) (r.append r2) (by rw[Al];omega),rfl,q _ I.fresh⟩
def Qf:R2:=λx y H Q=>∃l k xs,x=.c l/\y=.d k/\H l=some (.b xs)∧-(2 ^ 63)<=k/\k<2 ^ 63/\xs.length*k.toNat<=As /\
 ∀p,H p=none->Q (.c p) (upd H p (.b (Ak k.toNat xs).flatten))
theorem len_rep{α:Type}(xs:List α)k:(Ak k xs).flatten.length=k*xs.length:=by
 induction k with
 |zero=>simp
 |succ k ih=>rw[Bv,Cc,Al,ih,FT,Nat.add_comm]
theorem UE:OpR X (Br .Mult) Qf:=by
 intro pins s σ H x y v u Q I rx ry h;obtain⟨l,k,xs,rfl,rfl,hH,h1,h2,hz,q⟩:=h;cases rx;obtain⟨t,rfl⟩:=ry;obtain⟨z,its,n,r,hl,e⟩:=I.Yv hH;have hlen:its.toArray.size*k.toNat<=As:=by rw[Ae,<-hl];exact hz
 have hcap:¬its.toArray.size*k.toNat > (2 ^ 63-1)/8:=by
  have:(As:Nat)<=(2 ^ 63-1)/8:=by decide
  omega
 have hfit:¬(!Builtin.List.listFitsIndex k)=true:=by rw[fitsIndex_both h1 h2];exact xd
 have hlong:¬DQ (its.toArray.size*k.toNat)=true:=by rw[b9 hlen];exact xd
 have hnew:D2 (λx1 x2=>x1++x2) #[] (Ak (if its.toArray.isEmpty=true then 0 else k.toNat) its.toArray)=(Ak k.toNat its).flatten.toArray:=by
  have f0:∀m:Nat,D2 (λx1 x2=>x1++x2) #[] (Ak m its.toArray)=(Ak m its).flatten.toArray:=λm=>by have:=foldl_rep its m [];rw[DE]at this;exact this
  rw[f0];cases its with
  |nil=>simp
  |cons a r'=>rw[if_neg (by simp)]
 refine CD (T:="list") (U:="int") (by decide) ⟨_,e,rfl⟩ (λs'=>C0 s' k t) noFill_list_mul EM Ca repeat_list Em.lookup
  (BL Ca (C0 s k t) En (D9 _ _) (int___rmul___int_list k t l its.toArray n)
   ⟨e,rfl,⟨_,e,rfl⟩,BL F.slot_list_mul ⟨_,e,rfl⟩ F.entry_list_mul (F.args_list_mul_2 _ _) (AutoListH.list___mul___list_int_3 l its.toArray n k t hfit hcap hlong) ⟨e,?_⟩⟩)
 rw[hnew];exact⟨.c _,_,I.Si (t':=s.toks) (r.rep k.toNat) (by rw[len_rep,Bz];exact hz),rfl,q _ I.fresh⟩
end
end L2
namespace Att
open PySem PySem.W PySem.Calls PyProof.Rows
theorem rR:∀ns vs,WellAll P h vs (ns.map WData.int)->IntsAre vs ns:=by
 intro ns;induction ns with
 |nil=>
  intro vs w;rw[List.map_nil]at w;cases w;exact .nil
 |cons n ns ih=>
  intro vs w;rw[AN]at w;cases w with
  |cons a b=>
   cases a;exact .cons _ _ (ih _ b)
theorem eO{l:OpenLaw}(hn:l.most=some n)
 (hpre:l.row.toRowW.claim.pre args=true) (hwl:WellAll P h vals args) :
 ∃a vs ns,vals=[A2 a]/\args=[WData.list (ns.map WData.int)]/\h.get? a=some {cls:=.type "list",data:=.seq vs.toArray}/\IntsAre vs ns/\ns.length<=n:=by
 have hsh:WShape.hasAll [] args [.list .int]=true:=(pre_splitW hpre).1;have hc:l.pre.holds [] {args:=args}=true:=(pre_splitW hpre).2;obtain⟨d,r,rfl,h1,h2⟩:=hasAllW_cons hsh;obtain rfl:=hasAllW_nil h2;obtain⟨xs,rfl,h3⟩:=hasW_list h1;obtain⟨ns,rfl⟩:=items_int h3;have hlen:ns.length<=n:=by
  unfold OpenLaw.pre at hc;have h4:(WTm.not (.lt (.lit (.int (n:Int))) (.len (.arg 0)))).holds [] {args:=[.list (ns.map .int)]}=true:=by have h4:=(holds_andW hc).1;rw[hn]at h4;exact h4
  have h5:=condW_of h4 (w_not (w_lt w_lit (w_len_list (w_arg rfl))));rw[Ab]at h5;refine Nat.le_of_not_lt λq=>?_;have q':(n:Int)<((ns.length:Nat):Int):=by omega
  first
   |(rw[decide_eq_true q']at h5;exact absurd h5 (by decide))
   |(simp at h5;omega)
 cases hwl with
 |cons w1 w2=>
  cases w2;cases w1 with
  |list ho hall=>exact⟨_,_,ns,rfl,rfl,ho,rR ns _ hall,hlen⟩
theorem eB(l:OpenLaw)args:l.row.toRowW.claim.post args (.bool true) args=true:=
 postW_of (r:=l.row.toRowW) (X:=(true == true))
  (show WShape.has [] (.bool true) .bool=true by first|rfl|decide|simp[WShape.has,WShape.arms,WShape.armsAll])
  (show (WTm.eq .res (.lit (.bool true))).value [] {args:=args,res:=some (.bool true),after:=args}=some (.bool (true == true)) from w_eq_bool (w_res rfl) w_lit) rfl
theorem mY{l:OpenLaw}
 (hn:l.most=some n) (hdf:d.params.defaults=[])
 (call:∀w s₀ s₁ mg mb fa o pm cd doc a vs ns,
  Ground q loose [] XP w s₀ mg mb s₁.heap->YP w s₁.heap ->
  s₁.heap.get? fa=some o->o.data=.func (docDef d.name d.params d.body d.scope pm cd doc)->s₁.heap.CodeRec cd d.name->mg d.name=some (.ref fa) ->
  s₁.heap.get? a=some {cls:=.type "list",data:=.seq vs.toArray}->IntsAre vs ns->ns.length<=n->s₁.gens=#[] ->
  codeAny (model l.prog w) callerA (.call (.ref fa) ⟨[.ref a],[]⟩) (λr s'=>r=.ok (.ret (.bool true))/\OldK s₁.heap s'.heap/\s'.os=s₁.os/\AllBare s'.gens) s₁) :
 WalkO q loose XP YP l.row.toRowW d [] (λf vs=>PySem.call f vs):=by
 intro w s₀ s₁ mg mb G Y fa o pm cd doc dV kV ho hd hcd hD hmg hg args vals as hpre hlay hrd hwl hlo;obtain rfl:dV=.none:=Dflts.none hD hdf;obtain rfl:kV=.none:=Dflts.noKw hD;obtain⟨a,vs,ns,rfl,rfl,hobj,hints,hlen⟩:=eO hn hpre hwl;refine enter_call (De (call w s₀ s₁ mg mb fa o pm cd doc a vs ns G Y ho (fd_plain hd) hcd hmg hobj hints hlen hg) λr s' hq=>?_);obtain⟨rfl,h2,h3,h4⟩:=hq;exact⟨.inl ⟨.bool true,.bool true,[],rfl,λ_=>rfl,.bool true,eB l _,λ_=>⟨FD,λ_ hm=>(nomatch hm)⟩⟩,h2,h3,h4⟩
end Att
namespace L2
open PySem PySem.Spec PyProof.Rows
theorem oa:∀{vs} {ns},IntsAre vs ns->Vals (ns.map V.d) vs
 |_,_,.nil=>.nil
 |_,_,.cons n t h=>.cons ⟨t,rfl⟩ (oa h)
end L2
/- THE LAST THEOREM (shape;LID,My.* are yours):
   My.Adr: a structure of the addresses that your layer names (classes,functions);My.Txt K t: a structure (Prop) of the equations over K;
   My.txt_mk:{K} {implicit addresses ..} (e1:nsIn K AK "law"=some (some (.ref f))) (e2:K.lookup f=some ⟨oc,od,.func (fnOf "law" "law" params body scope dV kV doc pm an cdv ct),sl⟩) (e3:codeIn K cdv "law"=true) ..:∃t,My.Txt K t
(the tactic k_is has no namespace: write k_is) -/
namespace L2
open PySem PySem.Spec PyProof.Rows
noncomputable def xy(s:Stmt):Er:=match s with
 |.FunctionDef _ a _ _ _ _ _ _ _ _=>a
 |_=>{posonlyargs:=[],args:=[],vararg:=none,kwonlyargs:=[],kw_defaults:=[],kwarg:=none,defaults:=[]}
noncomputable def yf(s:Stmt):List Stmt:=match s with
 |.FunctionDef _ _ b _ _ _ _ _ _ _=>b
 |_=>[]
noncomputable def zH(s:Stmt):Scope:=match s with
 |.FunctionDef _ _ _ _ _ _ sc _ _ _=>sc
 |_=>{kind:=.function,names:=[],isGenerator:=false,isCoroutine:=false}
abbrev CX0:CXT:=λ_ _ _ _ _ _=>False
abbrev E0:XK:=λ_ _ _=>False
theorem WX:Passes CX0 X E0:=λ_ _ _ _ _ _ _ h=>h.elim
structure Fun(K:Af)(x qual:Str)(st:Stmt)(f:Addr)(fd:BV):Prop where
 a:∃(oc:Value) (od:Option Addr) (kV doc pm:Value) (an:Option Addr) (cdv ct:Value) (osl:Array (Option Value)),
  fd=BG x qual (xy st) (yf st) (zH st) .none kV doc pm an cdv ct/\K.lookup f=some ⟨oc,od,.func fd,osl⟩/\BS K cdv qual=true
 b:B2 K (.ref f)=true
section
variable {P:Program}{w:World}{K:Af}{mg:Str->Option Value}{base:Heap}
theorem Fun.binds{st}{ps:List Str}(F:Fun K x qual st f fd)
 (h:∀kV doc pm an cdv ct (us:List Value),us.length=ps.length->Gs (BG x qual (xy st) (yf st) (zH st) .none kV doc pm an cdv ct) ⟨us,[]⟩=pure (ps.zip us)):Binds K fd ps []:=by
 obtain⟨oc,od,kV,doc,pm,an,cdv,ct,osl,rfl,lk,hcd⟩:=F.a;exact .all (h kV doc pm an cdv ct)
theorem VJ{st}{kV doc pm cdv ct}(l:K.lookup f=some ⟨oc,od,.func (BG x qual (xy st) (yf st) (zH st) .none kV doc pm an cdv ct),osl⟩)
 (c:BS K cdv qual=true) (k:B2 K (.ref f)=true):Fun K x qual st f (BG x qual (xy st) (yf st) (zH st) .none kV doc pm an cdv ct):=⟨⟨oc,od,kV,doc,pm,an,cdv,ct,osl,rfl,l,c⟩,k⟩
end
theorem tu{A B:Prop}(h:B):if false=true then A else B:=by rw[if_neg xd];exact h
theorem qS{A B:Prop}(h:A):if true=true then A else B:=by rw[if_pos rfl];exact h
def wH(H H':Hp):Prop:=∀b o,H b=some o->H' b=some o
theorem wH.refl H:wH H H:=λ_ _ h=>h
theorem wH.trans(a:wH H H1)(b:wH H1 H2):wH H H2:=λc o h=>b c o (a c o h)
end L2
end
section
namespace M
open PySem
noncomputable def el(a n:Nat)(f:a=n->Bool):Bool:=if h:a=n then f h else false
theorem zq(h:el a n f=true):∃hc,f hc=true:=by
 unfold el at h;by_cases hc:a=n
 . rw[dif_pos hc]at h;exact⟨hc,h⟩
 . rw[dif_neg hc]at h;cases h
def WE(e:Expr)(k:BoolOp->List Expr->Pos->Bool):Bool:=el e.ctorIdx 0 λh=>Expr.BoolOp.elim (motive_1:=λ_=>Bool) e h k
theorem gq(h:WE e k=true):∃o xs p,e=.BoolOp o xs p/\k o xs p=true:=by obtain⟨hc,h⟩:=zq h;obtain⟨o,xs,p,rfl⟩:∃o xs p,e=.BoolOp o xs p:=Expr.BoolOp.elim (motive_1:=λe=>∃o xs p,e=Expr.BoolOp o xs p) e hc λo xs p=>⟨o,xs,p,rfl⟩;exact⟨o,xs,p,rfl,h⟩
def Ts(e:Expr)(k:Expr->Operator->Expr->Pos->Bool):Bool:=el e.ctorIdx 2 λh=>Expr.BinOp.elim (motive_1:=λ_=>Bool) e h k
theorem mj(h:Ts e k=true):∃l o r p,e=.BinOp l o r p/\k l o r p=true:=by obtain⟨hc,h⟩:=zq h;obtain⟨l,o,r,p,rfl⟩:∃l o r p,e=.BinOp l o r p:=Expr.BinOp.elim (motive_1:=λe=>∃l o r p,e=Expr.BinOp l o r p) e hc λl o r p=>⟨l,o,r,p,rfl⟩;exact⟨l,o,r,p,rfl,h⟩
def eUn(e:Expr)(k:UnaryOp->Expr->Pos->Bool):Bool:=el e.ctorIdx 3 λh=>Expr.UnaryOp.elim (motive_1:=λ_=>Bool) e h k
theorem YE(h:eUn e k=true):∃o x p,e=.UnaryOp o x p/\k o x p=true:=by obtain⟨hc,h⟩:=zq h;obtain⟨o,x,p,rfl⟩:∃o x p,e=.UnaryOp o x p:=Expr.UnaryOp.elim (motive_1:=λe=>∃o x p,e=Expr.UnaryOp o x p) e hc λo x p=>⟨o,x,p,rfl⟩;exact⟨o,x,p,rfl,h⟩
def Tw(e:Expr)(k:Er->Expr->Scope->Pos->Bool):Bool:=el e.ctorIdx 4 λh=>Expr.Lambda.elim (motive_1:=λ_=>Bool) e h k
theorem cR(h:Tw e k=true):∃a b c p,e=.Lambda a b c p/\k a b c p=true:=by obtain⟨hc,h⟩:=zq h;obtain⟨a,b,c,p,rfl⟩:∃a b c p,e=.Lambda a b c p:=Expr.Lambda.elim (motive_1:=λe=>∃a b c p,e=Expr.Lambda a b c p) e hc λa b c p=>⟨a,b,c,p,rfl⟩;exact⟨a,b,c,p,rfl,h⟩
def Tv(e:Expr)(k:Expr->Expr->Expr->Pos->Bool):Bool:=el e.ctorIdx 5 λh=>Expr.IfExp.elim (motive_1:=λ_=>Bool) e h k
theorem cQ(h:Tv e k=true):∃t x y p,e=.IfExp t x y p/\k t x y p=true:=by obtain⟨hc,h⟩:=zq h;obtain⟨t,x,y,p,rfl⟩:∃t x y p,e=.IfExp t x y p:=Expr.IfExp.elim (motive_1:=λe=>∃t x y p,e=Expr.IfExp t x y p) e hc λt x y p=>⟨t,x,y,p,rfl⟩;exact⟨t,x,y,p,rfl,h⟩
def Tt(e:Expr)(k:List (Option Expr)->List Expr->Pos->Bool):Bool:=el e.ctorIdx 6 λh=>Expr.Dict.elim (motive_1:=λ_=>Bool) e h k
theorem cK(h:Tt e k=true):∃ks vs p,e=.Dict ks vs p/\k ks vs p=true:=by obtain⟨hc,h⟩:=zq h;obtain⟨ks,vs,p,rfl⟩:∃ks vs p,e=.Dict ks vs p:=Expr.Dict.elim (motive_1:=λe=>∃ks vs p,e=Expr.Dict ks vs p) e hc λks vs p=>⟨ks,vs,p,rfl⟩;exact⟨ks,vs,p,rfl,h⟩
def VD(e:Expr)(k:Expr->List Fj->Scope->Pos->Bool):Bool:=el e.ctorIdx 8 λh=>E8 (motive_1:=λ_=>Bool) e h k
theorem ml(h:VD e k=true):∃x gs sc p,e=.ListComp x gs sc p/\k x gs sc p=true:=by obtain⟨hc,h⟩:=zq h;obtain⟨x,gs,sc,p,rfl⟩:∃x gs sc p,e=.ListComp x gs sc p:=E8 (motive_1:=λe=>∃x gs sc p,e=Expr.ListComp x gs sc p) e hc λx gs sc p=>⟨x,gs,sc,p,rfl⟩;exact⟨x,gs,sc,p,rfl,h⟩
def VE(e:Expr)(k:Expr->List CmpOp->List Expr->Pos->Bool):Bool:=el e.ctorIdx 15 λh=>FE (motive_1:=λ_=>Bool) e h k
theorem mn(h:VE e k=true):∃l os rs p,e=.Compare l os rs p/\k l os rs p=true:=by obtain⟨hc,h⟩:=zq h;obtain⟨l,os,rs,p,rfl⟩:∃l os rs p,e=.Compare l os rs p:=FE (motive_1:=λe=>∃l os rs p,e=Expr.Compare l os rs p) e hc λl os rs p=>⟨l,os,rs,p,rfl⟩;exact⟨l,os,rs,p,rfl,h⟩
def cJ(e:Expr)(k:Expr->List Expr->List Keyword->Pos->Bool):Bool:=el e.ctorIdx 16 λh=>Expr.Call.elim (motive_1:=λ_=>Bool) e h k
theorem oA(h:cJ e k=true):∃f xs ks p,e=.Call f xs ks p/\k f xs ks p=true:=by obtain⟨hc,h⟩:=zq h;obtain⟨f,xs,ks,p,rfl⟩:∃f xs ks p,e=.Call f xs ks p:=Expr.Call.elim (motive_1:=λe=>∃f xs ks p,e=Expr.Call f xs ks p) e hc λf xs ks p=>⟨f,xs,ks,p,rfl⟩;exact⟨f,xs,ks,p,rfl,h⟩
def Tu(e:Expr)(k:Expr->Int->Option Expr->Pos->Bool):Bool:=el e.ctorIdx 17 λh=>FU (motive_1:=λ_=>Bool) e h k
theorem cP(h:Tu e k=true):∃x c s p,e=.FormattedValue x c s p/\k x c s p=true:=by obtain⟨hc,h⟩:=zq h;obtain⟨x,c,s,p,rfl⟩:∃x c s p,e=.FormattedValue x c s p:=FU (motive_1:=λe=>∃x c s p,e=Expr.FormattedValue x c s p) e hc λx c s p=>⟨x,c,s,p,rfl⟩;exact⟨x,c,s,p,rfl,h⟩
def eJn(e:Expr)(k:List Expr->Pos->Bool):Bool:=el e.ctorIdx 18 λh=>Gh.elim (motive_1:=λ_=>Bool) e h k
theorem YA(h:eJn e k=true):∃xs p,e=.JoinedStr xs p/\k xs p=true:=by obtain⟨hc,h⟩:=zq h;obtain⟨xs,p,rfl⟩:∃xs p,e=.JoinedStr xs p:=Gh.elim (motive_1:=λe=>∃xs p,e=Gh xs p) e hc λxs p=>⟨xs,p,rfl⟩;exact⟨xs,p,rfl,h⟩
def Z7(e:Expr)(k:Const->Nat->Pos->Bool):Bool:=el e.ctorIdx 19 λh=>Gy.elim (motive_1:=λ_=>Bool) e h k
theorem qG(h:Z7 e k=true):∃c n p,e=.Constant c n p/\k c n p=true:=by obtain⟨hc,h⟩:=zq h;obtain⟨c,n,p,rfl⟩:∃c n p,e=.Constant c n p:=Gy.elim (motive_1:=λe=>∃c n p,e=Gy c n p) e hc λc n p=>⟨c,n,p,rfl⟩;exact⟨c,n,p,rfl,h⟩
def Tr(e:Expr)(k:Expr->Str->Pos->Bool):Bool:=el e.ctorIdx 20 λh=>Gi.elim (motive_1:=λ_=>Bool) e h k
theorem cI(h:Tr e k=true):∃o x p,e=.Attribute o x p/\k o x p=true:=by obtain⟨hc,h⟩:=zq h;obtain⟨o,x,p,rfl⟩:∃o x p,e=.Attribute o x p:=Gi.elim (motive_1:=λe=>∃o x p,e=Gi o x p) e hc λo x p=>⟨o,x,p,rfl⟩;exact⟨o,x,p,rfl,h⟩
def YD(e:Expr)(k:Expr->Expr->Pos->Bool):Bool:=el e.ctorIdx 21 λh=>Gj.elim (motive_1:=λ_=>Bool) e h k
theorem qH(h:YD e k=true):∃l r p,e=.Subscript l r p/\k l r p=true:=by obtain⟨hc,h⟩:=zq h;obtain⟨l,r,p,rfl⟩:∃l r p,e=.Subscript l r p:=Gj.elim (motive_1:=λe=>∃l r p,e=Gj l r p) e hc λl r p=>⟨l,r,p,rfl⟩;exact⟨l,r,p,rfl,h⟩
def eName(e:Expr)(k:Str->Pos->Bool):Bool:=el e.ctorIdx 23 λh=>Ez.elim (motive_1:=λ_=>Bool) e h k
theorem xC(h:eName e k=true):∃x p,e=.Name x p/\k x p=true:=by obtain⟨hc,h⟩:=zq h;obtain⟨x,p,rfl⟩:∃x p,e=.Name x p:=Ez.elim (motive_1:=λe=>∃x p,e=Ez x p) e hc λx p=>⟨x,p,rfl⟩;exact⟨x,p,rfl,h⟩
def Tx(e:Expr)(k:List Expr->Pos->Bool):Bool:=el e.ctorIdx 24 λh=>Expr.List.elim (motive_1:=λ_=>Bool) e h k
theorem mq(h:Tx e k=true):∃xs p,e=.List xs p/\k xs p=true:=by obtain⟨hc,h⟩:=zq h;obtain⟨xs,p,rfl⟩:∃xs p,e=.List xs p:=Expr.List.elim (motive_1:=λe=>∃xs p,e=Expr.List xs p) e hc λxs p=>⟨xs,p,rfl⟩;exact⟨xs,p,rfl,h⟩
def cU(e:Expr)(k:List Expr->Nat->Pos->Bool):Bool:=el e.ctorIdx 25 λh=>Ga (motive_1:=λ_=>Bool) e h k
theorem uB(h:cU e k=true):∃xs n p,e=.Tuple xs n p/\k xs n p=true:=by obtain⟨hc,h⟩:=zq h;obtain⟨xs,n,p,rfl⟩:∃xs n p,e=.Tuple xs n p:=Ga (motive_1:=λe=>∃xs n p,e=Expr.Tuple xs n p) e hc λxs n p=>⟨xs,n,p,rfl⟩;exact⟨xs,n,p,rfl,h⟩
def Tz(e:Expr)(k:Option Expr->Option Expr->Option Expr->Pos->Bool):Bool:=el e.ctorIdx 26 λh=>Expr.Slice.elim (motive_1:=λ_=>Bool) e h k
theorem cT(h:Tz e k=true):∃x y z p,e=.Slice x y z p/\k x y z p=true:=by obtain⟨hc,h⟩:=zq h;obtain⟨x,y,z,p,rfl⟩:∃x y z p,e=.Slice x y z p:=Expr.Slice.elim (motive_1:=λe=>∃x y z p,e=Expr.Slice x y z p) e hc λx y z p=>⟨x,y,z,p,rfl⟩;exact⟨x,y,z,p,rfl,h⟩
def Rr(e:Stmt)(k:Option Expr->Pos->Bool):Bool:=el e.ctorIdx 3 λh=>Stmt.Return.elim (motive_2:=λ_=>Bool) e h k
theorem l9(h:Rr e k=true):∃o p,e=.Return o p/\k o p=true:=by obtain⟨hc,h⟩:=zq h;obtain⟨o,p,rfl⟩:∃o p,e=.Return o p:=Stmt.Return.elim (motive_2:=λe=>∃o p,e=Stmt.Return o p) e hc λo p=>⟨o,p,rfl⟩;exact⟨o,p,rfl,h⟩
def ZG(e:Stmt)(k:List Expr->Expr->Pos->Bool):Bool:=el e.ctorIdx 5 λh=>Stmt.Assign.elim (motive_2:=λ_=>Bool) e h k
theorem uR(h:ZG e k=true):∃ts v p,e=.Assign ts v p/\k ts v p=true:=by obtain⟨hc,h⟩:=zq h;obtain⟨ts,v,p,rfl⟩:∃ts v p,e=.Assign ts v p:=Stmt.Assign.elim (motive_2:=λe=>∃ts v p,e=Stmt.Assign ts v p) e hc λts v p=>⟨ts,v,p,rfl⟩;exact⟨ts,v,p,rfl,h⟩
def Ro(e:Stmt)(k:Expr->Operator->Expr->Pos->Bool):Bool:=el e.ctorIdx 7 λh=>Gk.elim (motive_2:=λ_=>Bool) e h k
theorem ZH(h:Ro e k=true):∃t o v p,e=.AugAssign t o v p/\k t o v p=true:=by obtain⟨hc,h⟩:=zq h;obtain⟨t,o,v,p,rfl⟩:∃t o v p,e=.AugAssign t o v p:=Gk.elim (motive_2:=λe=>∃t o v p,e=Gk t o v p) e hc λt o v p=>⟨t,o,v,p,rfl⟩;exact⟨t,o,v,p,rfl,h⟩
def Rq(e:Stmt)(k:Expr->Expr->List Stmt->List Stmt->Pos->Bool):Bool:=el e.ctorIdx 9 λh=>Stmt.For.elim (motive_2:=λ_=>Bool) e h k
theorem ZI(h:Rq e k=true):∃t i b c p,e=.For t i b c p/\k t i b c p=true:=by obtain⟨hc,h⟩:=zq h;obtain⟨t,i,b,c,p,rfl⟩:∃t i b c p,e=.For t i b c p:=Stmt.For.elim (motive_2:=λe=>∃t i b c p,e=Stmt.For t i b c p) e hc λt i b c p=>⟨t,i,b,c,p,rfl⟩;exact⟨t,i,b,c,p,rfl,h⟩
def Rt(e:Stmt)(k:Expr->List Stmt->List Stmt->Pos->Bool):Bool:=el e.ctorIdx 11 λh=>Stmt.While.elim (motive_2:=λ_=>Bool) e h k
theorem ZJ(h:Rt e k=true):∃c b d p,e=.While c b d p/\k c b d p=true:=by obtain⟨hc,h⟩:=zq h;obtain⟨c,b,d,p,rfl⟩:∃c b d p,e=.While c b d p:=Stmt.While.elim (motive_2:=λe=>∃c b d p,e=Stmt.While c b d p) e hc λc b d p=>⟨c,b,d,p,rfl⟩;exact⟨c,b,d,p,rfl,h⟩
def sIf(e:Stmt)(k:Expr->List Stmt->List Stmt->Pos->Bool):Bool:=el e.ctorIdx 12 λh=>Stmt.If.elim (motive_2:=λ_=>Bool) e h k
theorem gH(h:sIf e k=true):∃c a b p,e=.If c a b p/\k c a b p=true:=by obtain⟨hc,h⟩:=zq h;obtain⟨c,a,b,p,rfl⟩:∃c a b p,e=.If c a b p:=Stmt.If.elim (motive_2:=λe=>∃c a b p,e=Stmt.If c a b p) e hc λc a b p=>⟨c,a,b,p,rfl⟩;exact⟨c,a,b,p,rfl,h⟩
def sRs(e:Stmt)(k:Option Expr->Option Expr->Pos->Bool):Bool:=el e.ctorIdx 16 λh=>Stmt.Raise.elim (motive_2:=λ_=>Bool) e h k
theorem Xi(h:sRs e k=true):∃a b p,e=.Raise a b p/\k a b p=true:=by obtain⟨hc,h⟩:=zq h;obtain⟨a,b,p,rfl⟩:∃a b p,e=.Raise a b p:=Stmt.Raise.elim (motive_2:=λe=>∃a b p,e=Stmt.Raise a b p) e hc λa b p=>⟨a,b,p,rfl⟩;exact⟨a,b,p,rfl,h⟩
def Rp(e:Stmt)(k:Expr->Pos->Bool):Bool:=el e.ctorIdx 24 λh=>Stmt.Expr.elim (motive_2:=λ_=>Bool) e h k
theorem l8(h:Rp e k=true):∃x p,e=.Expr x p/\k x p=true:=by obtain⟨hc,h⟩:=zq h;obtain⟨x,p,rfl⟩:∃x p,e=.Expr x p:=Stmt.Expr.elim (motive_2:=λe=>∃x p,e=Stmt.Expr x p) e hc λx p=>⟨x,p,rfl⟩;exact⟨x,p,rfl,h⟩
noncomputable def l1{α:Type}(xs:List α)(k:α->Bool):Bool:=match xs with
 |[x]=>k x
 |_=>false
theorem yn(h:l1 xs k=true):∃x,xs=[x]/\k x=true:=by
 cases xs with
 |nil=>cases h
 |cons x xs=>cases xs with
  |nil=>exact⟨x,rfl,h⟩
  |cons _ _=>cases h
noncomputable def lc{α:Type}(xs:List α)(k:α->List α->Bool):Bool:=match xs with
 |x::xs=>k x xs
 |[]=>false
theorem yj(h:lc xs k=true):∃x ys,xs=x::ys/\k x ys=true:=by
 cases xs with
 |nil=>cases h
 |cons x ys=>exact⟨x,ys,rfl,h⟩
theorem bq{xs}{k:α->α->Bool}(h:(lc xs λx ys=>l1 ys (k x))=true):∃x y,xs=[x,y]/\k x y=true:=by obtain⟨x,ys,rfl,h⟩:=yj h;obtain⟨y,rfl,h⟩:=yn h;exact⟨x,y,rfl,h⟩
noncomputable def o1{α:Type}(x:Option α)(k:α->Bool):Bool:=match x with
 |some x=>k x
 |none=>false
theorem nq(h:o1 x k=true):∃y,x=some y/\k y=true:=by
 cases x with
 |none=>cases h
 |some x=>exact⟨x,rfl,h⟩
theorem zX(h:(a&&b)=true):a=true/\b=true:=by
 cases a with
 |false=>cases h
 |true=>exact⟨rfl,h⟩
def eOp(u:UnaryOp)(e:Expr)(k:Expr->Bool):Bool:=eUn e λo x _=>decide (o=u)&&k x
theorem rX(h:eOp u e k=true):∃x p,e=.UnaryOp u x p/\k x=true:=by obtain⟨o,x,p,rfl,h2⟩:=YE h;obtain⟨h1,h3⟩:=zX h2;cases of_decide_eq_true h1;exact⟨x,p,rfl,h3⟩
def eBl(u:BoolOp)(e:Expr)(k:Expr->List Expr->Bool):Bool:=WE e λo xs _=>decide (o=u)&&lc xs k
theorem nJ(h:eBl u e k=true):∃x xs p,e=.BoolOp u (x::xs) p/\k x xs=true:=by obtain⟨o,xs,p,rfl,h2⟩:=gq h;obtain⟨h1,h3⟩:=zX h2;cases of_decide_eq_true h1;obtain⟨x,ys,rfl,h4⟩:=yj h3;exact⟨x,ys,p,rfl,h4⟩
def eC1(e:Expr)(k:Expr->CmpOp->Expr->Bool):Bool:=VE e λl os rs _=>l1 os λo=>l1 rs λr=>k l o r
theorem nK(h:eC1 e k=true):∃l o r p,e=.Compare l [o] [r] p/\k l o r=true:=by obtain⟨l,os,rs,p,rfl,h⟩:=mn h;obtain⟨o,rfl,h⟩:=yn h;obtain⟨r,rfl,h⟩:=yn h;exact⟨l,o,r,p,rfl,h⟩
def eC2(e:Expr)(k:Expr->CmpOp->CmpOp->Expr->Expr->Bool):Bool:=VE e λl os rs _=>lc os λo os=>l1 os λo'=>lc rs λr rs=>l1 rs λr'=>k l o o' r r'
theorem iX(h:eC2 e k=true):∃l o o' r r' p,e=.Compare l [o,o'] [r,r'] p/\k l o o' r r'=true:=by obtain⟨l,os,rs,p,rfl,h⟩:=mn h;obtain⟨o,os,rfl,h⟩:=yj h;obtain⟨o',rfl,h⟩:=yn h;obtain⟨r,rs,rfl,h⟩:=yj h;obtain⟨r',rfl,h⟩:=yn h;exact⟨l,o,o',r,r',p,rfl,h⟩
def eD0(e:Expr):Bool:=Tt e λks vs _=>ks.isEmpty&&vs.isEmpty
theorem Z8(h:eD0 e=true):∃p,e=.Dict [] [] p:=by obtain⟨ks,vs,p,rfl,h⟩:=cK h;obtain⟨h1,h2⟩:=zX h;rw[AL.mp h1,AL.mp h2];exact⟨p,rfl⟩
def eCN(e:Expr)(k:Str->List Expr->Bool):Bool:=cJ e λf xs ks _=>ks.isEmpty&&eName f λx _=>k x xs
theorem xY(h:eCN e k=true):∃x p xs pos,e=.Call (.Name x p) xs [] pos/\k x xs=true:=by obtain⟨f,xs,ks,pos,rfl,h⟩:=oA h;obtain⟨h1,h⟩:=zX h;obtain⟨x,p,rfl,h⟩:=xC h;rw[AL.mp h1];exact⟨x,p,xs,pos,rfl,h⟩
def eMt(e:Expr)(k:Expr->Str->Pos->Expr->Pos->Bool):Bool:=cJ e λf xs ks cp=>ks.isEmpty&&Tr f λob x ap=>l1 xs λy=>k ob x ap y cp
theorem YB(h:eMt e k=true):∃ob x ap y cp,e=.Call (.Attribute ob x ap) [y] [] cp/\k ob x ap y cp=true:=by obtain⟨f,xs,ks,pos,rfl,h⟩:=oA h;obtain⟨h1,h⟩:=zX h;obtain⟨ob,x,ap,rfl,h⟩:=cI h;obtain⟨y,rfl,h⟩:=yn h;rw[AL.mp h1];exact⟨ob,x,ap,y,pos,rfl,h⟩
def eSS(e:Expr)(k:Expr->Option Expr->Option Expr->Option Expr->Bool):Bool:=YD e λl r _=>Tz r λx y z _=>k l x y z
theorem YC(h:eSS e k=true):∃l x y z p pos,e=.Subscript l (.Slice x y z p) pos/\k l x y z=true:=by obtain⟨l,r,pos,rfl,h⟩:=qH h;obtain⟨x,y,z,p,rfl,h⟩:=cT h;exact⟨l,x,y,z,p,pos,rfl,h⟩
noncomputable def gC(g:Fj)(k:Expr->Expr->List Expr->Bool):Bool:=decide (g.is_async=0)&&k g.target g.iter g.ifs
theorem kZ(h:gC g k=true):∃t i f,g=⟨t,i,f,0⟩/\k t i f=true:=by obtain⟨t,i,f,a⟩:=g;obtain⟨h1,h⟩:=zX h;have h1:a=0:=of_decide_eq_true h1;subst h1;exact⟨t,i,f,rfl,h⟩
def eG1(e:Expr)(k:Expr->Expr->Expr->List Expr->Scope->Bool):Bool:=VD e λx gs sc _=>l1 gs λg=>gC g λt i f=>k x t i f sc
theorem iY(h:eG1 e k=true):∃x t i f sc p,e=.ListComp x [⟨t,i,f,0⟩] sc p/\k x t i f sc=true:=by obtain⟨x,gs,sc,p,rfl,h2⟩:=ml h;obtain⟨g,rfl,h3⟩:=yn h2;obtain⟨t,i,f,rfl,h4⟩:=kZ h3;exact⟨x,t,i,f,sc,p,rfl,h4⟩
def eG2(e:Expr)(k:Expr->Expr->Expr->List Expr->Expr->Expr->List Expr->Scope->Bool):Bool:=VD e λx gs sc _=>lc gs λg gs=>l1 gs λg2=>gC g λt i f=>gC g2 λt2 i2 f2=>k x t i f t2 i2 f2 sc
theorem iZ(h:eG2 e k=true):∃x t i f t2 i2 f2 sc p,e=.ListComp x [⟨t,i,f,0⟩,⟨t2,i2,f2,0⟩] sc p/\k x t i f t2 i2 f2 sc=true:=by obtain⟨x,gs,sc,p,rfl,h2⟩:=ml h;obtain⟨g,gs,rfl,h3⟩:=yj h2;obtain⟨g2,rfl,h4⟩:=yn h3;obtain⟨t,i,f,rfl,h5⟩:=kZ h4;obtain⟨t2,i2,f2,rfl,h6⟩:=kZ h5;exact⟨x,t,i,f,t2,i2,f2,sc,p,rfl,h6⟩
end M
end
section
namespace L2
open PySem PySem.Spec PyProof.Rows
noncomputable def uh(cells:List (Str × Addr)):List (Str × CN)->List (Str × Addr)->List (Str × Addr)
 |[],acc=>acc
 |(n,k)::r,acc=>if k == .free then (match cells.lookup n with|some c=>uh cells r ((n,c)::acc)|none=>uh cells r acc) else uh cells r acc
theorem u0:∀names acc,(∀x∈names,x.2=.free->∃c,env.cells.lookup x.1=some c) ->
 (forIn names acc λx cs =>(if x.2 == .free then do let a <-cellOf env x.1;pure (Cb ((x.1,a)::cs)) else pure (Cb cs):Sem (ForInStep (List (Str × Addr)))))=pure (uh env.cells names acc)
 |[],acc,_=>rfl
 |(n,k)::r,acc,h=>by
  rw[EN];dsimp only;unfold uh;by_cases hk:(k == AH)=true
  . have hk':k=.free:=by simpa using hk
    obtain⟨c,hc⟩:=h (n,k) Ap hk';have hc':env.cells.lookup n=some c:=hc;have hcell:cellOf env n=pure c:=by unfold cellOf;rw[hc']
    rw[if_pos hk,if_pos hk,hcell,hc',DR,DR];exact u0 r _ λx hx=>h x (Ah _ hx)
  . rw[if_neg hk,if_neg hk,DR]
    exact u0 r _ λx hx=>h x (Ah _ hx)
theorem ur(h:∀x∈scope.names,x.2=.free->∃c,env.cells.lookup x.1=some c):Gv scope env=pure (uh env.cells scope.names []):=by
 have e:=u0 (env:=env) scope.names [] h;show (do let cs <-forIn scope.names [] _;pure cs)=_
 refine Eq.trans ?_ e;refine Eq.trans (bind_pure _) ?_;congr 1
theorem tS:∀names acc,(∀x c,acc.lookup x=some c->cells.lookup x=some c)->∀x c,(uh cells names acc).lookup x=some c->cells.lookup x=some c
 |[],acc,h,x,c,e=>h x c e
 |(n,k)::r,acc,h,x,c,e=>by
  unfold uh at e;by_cases hk:(k == AH)=true
  . rw[if_pos hk]at e
    cases hc:cells.lookup n with
    |none=>rw[hc]at e;exact tS r acc h x c e
    |some d=>
     rw[hc]at e;refine tS r _ (λy z q=>?_) x c e;rw[An]at q;cases hy:(y == n) with
     |true=>rw[hy]at q;have hy':y=n:=by simpa using hy
            cases q;rw[hy'];exact hc
     |false=>rw[hy]at q;exact h y z q
  . rw[if_neg hk]at e;exact tS r acc h x c e
theorem vL:∀names acc x c,cells.lookup x=some c->(acc.lookup x=some c\/(x,AH)∈names)->(∀y d,acc.lookup y=some d->cells.lookup y=some d)->(uh cells names acc).lookup x=some c
 |[],acc,x,c,_,h,_=>by
  rcases h with h|h
  . exact h
  . cases h
 |(n,k)::r,acc,x,c,hc,h,ha=>by
  unfold uh;by_cases hk:(k == AH)=true
  . rw[if_pos hk]
    cases hn:cells.lookup n with
    |none=>
     refine vL r acc x c hc ?_ ha;rcases h with h|h
     . exact .inl h
     . rcases Aj.mp h with e|e
       . cases e;rw[hn]at hc;cases hc
       . exact .inr e
    |some d=>
     have ha':∀y z,((n,d)::acc).lookup y=some z->cells.lookup y=some z:=λy z q=>by
      rw[An]at q;cases hy:(y == n) with
      |true=>rw[hy]at q;have hy':y=n:=by simpa using hy
             cases q;rw[hy'];exact hn
      |false=>rw[hy]at q;exact ha y z q
     by_cases hx:x=n
     . subst hx
       refine vL r _ x c hc (.inl ?_) ha';rw[hn]at hc;cases hc;simp[An]
     . refine vL r _ x c hc ?_ ha'
       rcases h with h|h
       . refine .inl ?_
         have:(x == n)=false:=by simpa using hx
         rw[An,this];exact h
       . rcases Aj.mp h with e|e
         . cases e;exact absurd rfl hx
         . exact .inr e
  . rw[if_neg hk]
    refine vL r acc x c hc ?_ ha;rcases h with h|h
    . exact .inl h
    . rcases Aj.mp h with e|e
      . cases e;exact absurd (by decide) hk
      . exact .inr e
theorem uy:∀names n acc,Cr n names acc=Cr n names []++acc
 |[],_,_=>rfl
 |(x,k)::r,n,acc=>by
  unfold Cr;split
  . rw[uy r (n+1) ((x,n)::acc),uy r (n+1) [(x,n)],Bo];rfl
  . exact uy r n acc
theorem nG:∀names n {x} {c},(x,c)∈Cr n names []->(x,Bg)∈names/\n<=c
 |[],_,_,_,h=>by cases h
 |(y,k)::r,n,x,c,h=>by
  unfold Cr at h;split at h
  . rename_i hk
    rw[uy]at h;rcases AS.mp h with h|h
    . obtain⟨h1,h2⟩:=nG r (n+1) h
      exact⟨Ah _ h1,by omega⟩
    . cases Av.mp h
      have:k=.cell:=by simpa using hk
      rw[this];exact⟨Ap,Ac _⟩
  . obtain⟨h1,h2⟩:=nG r n h
    exact⟨Ah _ h1,h2⟩
theorem nF:∀names n {x},(x,Bg)∈names->∃c,(x,c)∈Cr n names []
 |[],_,_,h=>by cases h
 |(y,k)::r,n,x,h=>by
  unfold Cr;rcases Aj.mp h with e|h
  . cases e
    rw[if_pos (by rfl),uy]
    exact⟨n,A8 _ Ap⟩
  . split
    . obtain⟨c,hc⟩:=nF r (n+1) h
      rw[uy];exact⟨c,Bp _ hc⟩
    . exact nF r n h
theorem bz{l:List (Str × Addr)}:(x,c)∈l->∃d,l.lookup x=some d:=by
 induction l with
 |nil=>intro h;cases h
 |cons p r ih=>
  intro h;rw[An];cases hx:x == p.1 with
  |true=>exact⟨_,rfl⟩
  |false=>
   rcases Aj.mp h with e|h
   . rw[<-e]at hx;simp at hx
   . exact ih h
theorem ky{l m:List (Str × Addr)}{x:Str}:(l++m).lookup x=match l.lookup x with|some c=>some c|none=>m.lookup x:=by
 induction l with
 |nil=>rfl
 |cons p r ih=>
  rw[CO,An,An];cases hx:x == p.1 with
  |true=>rfl
  |false=>exact ih
noncomputable def vF(sc:Scope)(C:Addr):List (Str × Addr):=Cr (C+1) sc.names []
theorem XE(h:Heap)sc:∃h',CellsOk h' (h.objs.size+1) (vF sc h.objs.size):=by
 have ok:=cellsFrom_ok sc.names (h.push {cls:=.type "dict",data:=.dict #[]}) (h.objs.size+1) [] ⟨λ_ _ hm=>(nomatch hm),FD⟩ (by rw[Bc];exact Ac _)
 rw[Bc]at ok;exact⟨_,ok⟩
abbrev Cx.comp(X:Cx)(N:List Str)(sc:Scope)(C:Addr)(s:Shared)(H:Hp)(ex:List Addr):Cx:=
 {X with N:=N,l:=s,r:=H,a:=compEnvC sc (vF sc C++uh X.a.cells sc.names []) C X.a,k:=X.g,m:=ex,n:=λx=>sc.names.any λp=>decide (p=(x,Bg)),q:=[],i:=λ_ _=>False}
structure zo(X:Cx)(N:List Str)(sc:Scope)(fr:List (Option Nat)):Prop where
 b:sc.kind=.function
 e:∀x,(x,Bg)∈sc.names->(x,AH)∈sc.names->False
 a:∀x∈sc.names,x.2=.local->sc.names.lookup x.1=some .local
 d:∀x∈sc.names,x.2=.free->X.a.kindOf x.1=some .cell\/X.a.kindOf x.1=some .free
 g:fr.length=N.length
 f:∀(i j:Nat) (x:Str),N[i]?=some x->fr[i]?=some (some j)->X.N[j]?=some x/\(x,AH)∈sc.names
 h:∀x,sc.names.lookup x=some .local->(x,AH)∈sc.names->False
noncomputable def zR(fr:List (Option Nat))(σ:St):St:=fr.map λo=>match o with|some j=>(σ[j]?).join|none=>none
theorem mG(h:(relabel sc env).names.lookup x=some .cell\/(relabel sc env).names.lookup x=some .free):(x,AH)∈sc.names\/(x,Bg)∈sc.names:=by
 have key:∀(names:List (Str × CN)),((names.map λ(n,k)=>if (k == AH&&env.scope.kind == .function&&env.kindOf n == some .cell) then (n,Bg) else (n,k)).lookup x=some .cell \/
  (names.map λ(n,k)=>if (k == AH&&env.scope.kind == .function&&env.kindOf n == some .cell) then (n,Bg) else (n,k)).lookup x=some .free)->(x,AH)∈names\/(x,Bg)∈names:=by
  intro names;induction names with
  |nil=>intro h;simp at h
  |cons p r ih=>
   obtain⟨n,k⟩:=p;intro h;rw[AN]at h;dsimp only at h;by_cases hx:x=n
   . subst hx
     by_cases hf:k=.free
     . subst hf;exact .inl Ap
     . have hf':(k == AH)=false:=by simpa using hf
       rw[hf']at h;simp only[Dd,AO,if_false,An,beq_self_eq_true]at h;rcases h with h|h
       . cases h;exact .inr Ap
       . cases h;exact absurd rfl hf
   . have hx':(x == n)=false:=by simpa using hx
     have:=ih (by split at h<;>simpa only[An,hx'] using h)
     exact this.elim (λz=>.inl (Ah _ z)) λz=>.inr (Ah _ z)
 exact key sc.names h
theorem vm(h:sc.names.lookup x=some .cell):(relabel sc env).names.lookup x=some .cell:=by
 have key:∀(names:List (Str × CN)),names.lookup x=some .cell->(names.map λ(n,k)=>if (k == AH&&env.scope.kind == .function&&env.kindOf n == some .cell) then (n,Bg) else (n,k)).lookup x=some .cell:=by
  intro names;induction names with
  |nil=>intro h;simp at h
  |cons p r ih=>
   obtain⟨n,k⟩:=p;intro h;rw[AN];dsimp only;cases hx:(x == n) with
   |true=>
    rw[An,hx]at h;cases h;have e:(Bg == AH)=false:=rfl;rw[e];simp only[Dd,AO,if_false,An,hx]
   |false=>
    rw[An,hx]at h;have:=ih h;split<;>simpa only[An,hx] using this
 exact key sc.names h
theorem sG(hl:∀y∈sc.names,y.2=.local->sc.names.lookup y.1=some .local)(h:sc.names.lookup x=some .free) :
 (relabel sc env).names.lookup x=some .cell\/(relabel sc env).names.lookup x=some .free:=by
 have key:∀(names:List (Str × CN)),names.lookup x=some .free->((names.map λ(n,k)=>if (k == AH&&env.scope.kind == .function&&env.kindOf n == some .cell) then (n,Bg) else (n,k)).lookup x=some .cell \/
  (names.map λ(n,k)=>if (k == AH&&env.scope.kind == .function&&env.kindOf n == some .cell) then (n,Bg) else (n,k)).lookup x=some .free):=by
  intro names;induction names with
  |nil=>intro h;simp at h
  |cons p r ih=>
   obtain⟨n,k⟩:=p;intro h;rw[AN];dsimp only;cases hx:(x == n) with
   |true=>
    rw[An,hx]at h;cases h;split
    . left;simp only[An,hx]
    . right;simp only[An,hx]
   |false=>
    rw[An,hx]at h;have:=ih h;split<;>simpa only[An,hx] using this
 exact key sc.names h
section
variable {X:Cx}{pins:List (Addr × Obj)}{σ:St}{H:Hp}{s:Shared}{N:List Str}{sc:Scope}{fr:List (Option Nat)}{fp:List Addr}
theorem zo.cells(S:zo X N sc fr)(ok:X.Ok):∀x∈sc.names,x.2=.free->∃c,X.a.cells.lookup x.1=some c:=λx hx hk=>ok.r x.1 (S.d x hx hk)
theorem vK(h:(vF sc C++uh cells sc.names []).lookup x=some c):((vF sc C).lookup x=some c)\/((vF sc C).lookup x=none/\cells.lookup x=some c):=by
 rw[ky]at h;cases ho:(vF sc C).lookup x with
 |some d=>rw[ho]at h;exact .inl h
 |none=>rw[ho]at h;exact .inr ⟨rfl,tS sc.names [] (λx c e=>by simp at e) x c h⟩
theorem qk(h:(vF sc C).lookup x=some c):@LE.le Nat _ (C+1) c:=(nG sc.names (C+1) (mem_of_lookup h)).2
theorem aI(S:zo X N sc fr)(h:(x,AH)∈sc.names):(vF sc C).lookup x=none:=by
 cases ho:(vF sc C).lookup x with
 |none=>rfl
 |some d=>exact(S.e x (nG sc.names (C+1) (mem_of_lookup ho)).1 h).elim
theorem Z0(I:Inv X pins σ H s)(S:zo X N sc fr)(hf:∀b∈fp,ug X pins H b)(hlt:∀b∈fp,b<s.heap.objs.size):(X.comp N sc s.heap.objs.size s H fp).Ok:=by
 obtain⟨h',hok⟩:=XE s.heap sc;have old:∀x c,X.a.cells.lookup x=some c->@LT.lt Nat _ c s.heap.objs.size:=λx c e=>by obtain⟨v,z⟩:=I.F x c e;exact z.lt
 refine⟨I.B.j,S.b,I.B.k,I.B.t,Ac _,λx y c e1 e2=>?_,λx h=>?_,λx c h e=>?_,I.B.i,I.B.g,.inl rfl,λb hb=>?_,λb o e=>I.bs b o e,?_,λb o e hb=>?_,λb hb z=>?_,I.stack,I.mK⟩
 . rcases vK e1 with e1|⟨_,e1⟩<;>rcases vK e2 with e2|⟨_,e2⟩
   . exact name_of_addr hok.apart (mem_of_lookup e1) (mem_of_lookup e2)
   . exact absurd (Au (old _ _ e2) (AD (C8 _) (qk e1))) (Be _)
   . exact absurd (Au (old _ _ e1) (AD (C8 _) (qk e2))) (Be _)
   . exact I.B.s x y c e1 e2
 . show ∃c,(vF sc s.heap.objs.size++uh X.a.cells sc.names []).lookup x=some c
   rw[ky];rcases mG h with m|m
   . obtain⟨c,hc⟩:=S.cells I.B (x,.free) m rfl
     rw[aI S m];exact⟨c,vL sc.names [] x c hc (.inr m) (λy d e=>by simp at e)⟩
   . obtain⟨c,hc⟩:=nF sc.names (s.heap.objs.size+1) m
     obtain⟨d,hd⟩:=bz hc;have hd':(vF sc s.heap.objs.size).lookup x=some d:=hd;rw[hd'];exact⟨d,rfl⟩
 . have m:(x,Bg)∈sc.names:=by obtain⟨p,hp,e'⟩:=Bk.mp h;rw[<-of_decide_eq_true e'];exact hp
   rcases vK e with e|⟨e,_⟩
   . exact AD (C8 _) (qk e)
   . obtain⟨c',hc⟩:=nF sc.names (s.heap.objs.size+1) m
     obtain⟨d,hd⟩:=bz hc;have hd':(vF sc s.heap.objs.size).lookup x=some d:=hd;rw[hd']at e;cases e
 . obtain⟨f0,f1,f2,f3,f4,f5⟩:=hf b hb
   refine⟨AI (hlt b hb),λx c e=>?_⟩;rcases vK e with e|⟨_,e⟩
   . exact λz=>absurd (Au (z▸hlt b hb) (AD (C8 _) (qk e))) (Be _)
   . exact f4 x c e
 . exact AD I.B.p I.sz
 . obtain⟨f0,f1,f2,f3,f4,f5⟩:=hf b hb
   rcases f3 with f3|f3
   . exact I.B.m b o e f3
   . exact absurd (Au (Ai e) (AD I.B.p f3)) (Be _)
 . obtain⟨f0,f1,f2,f3,f4,f5⟩:=hf b hb
   rcases Aj.mp (I.jq b z) with e|e
   . exact f1 e
   . exact f2 e
theorem kW(I:Inv X pins σ H s)(S:zo X N sc fr)(hf:∀b∈fp,ug X pins H b)(hlt:∀b∈fp,b<s.heap.objs.size)
 (hns:h'.Ns s.heap.objs.size (λ_=>none)) (k:∀b o,s.heap.get? b=some o->h'.get? b=some o) (ke:∀x c,(vF sc s.heap.objs.size).lookup x=some c->h'.IsCell c none):Inv (X.comp N sc s.heap.objs.size s H fp) [] (zR fr σ) H {s with heap:=h',toks:=tk}:=by
 refine⟨Z0 I S hf hlt,rfl,I.D,Un.kept k,⟨_,hns,λi x v e1 e2 e3=>?_⟩,λx c e=>?_,I.j.fresh (Ac _),λx c e=>?_,λp hp=>(by simp at hp),I.j.kept k,?_⟩
 . have e2':(fr.map λo=>match o with|some j=>(σ[j]?).join|none=>none)[i]?=some (some v):=e2
   rw[AR]at e2';cases hfi:fr[i]? with
   |none=>rw[hfi]at e2';cases e2'
   |some o=>
    rw[hfi]at e2';cases o with
    |none=>cases e2'
    |some j=>
     obtain⟨n1,n2⟩:=S.f i j x e1 hfi;have e3':σ[j]?=some (some v):=by
      have q:(σ[j]?).join=some v:=AA e2';cases hσ:σ[j]? with
      |none=>rw[hσ]at q;cases q
      |some w=>rw[hσ]at q;cases w with
       |none=>cases q
       |some w'=>have:w'=v:=AA q
                 rw[this]
     have hk:=S.d (x,.free) n2 rfl;obtain⟨m,hn,hl⟩:=I.M;obtain⟨u,r,l⟩:=hl j x v n1 e3' (hk.elim (λz=>.inr (.inl z)) λz=>.inr (.inr z));refine⟨u,r,?_⟩;rcases l with⟨hk',_⟩|⟨_,c,hc,z⟩
     . rcases hk with hk|hk<;>(rw[hk]at hk';cases hk')
     . refine .inr ⟨?_,c,(by show (vF sc s.heap.objs.size++uh X.a.cells sc.names []).lookup x=some c;rw[ky,aI S n2];exact vL sc.names [] x c hc (.inr n2) (λy d e=>by simp at e)),?_⟩
       . rcases e3 with e3|e3|e3
         . -- a local of that name: cannot be,the name is free in the block
           exfalso;have hloc:sc.names.lookup x=some .local:=by
            have key:∀(names:List (Str × CN)),(names.map λ(n,k)=>if (k == AH&&X.a.scope.kind == .function&&X.a.kindOf n == some .cell) then (n,Bg) else (n,k)).lookup x=some .local->names.lookup x=some .local:=by
             intro names;induction names with
             |nil=>intro h;simp at h
             |cons p r ih=>
              obtain⟨n,kk⟩:=p;intro h;rw[AN]at h;dsimp only at h;cases hx:(x == n) with
              |true=>
               split at h
               . simp only[An,hx]at h;cases h
               . simp only[An,hx]at h ⊢;exact h
              |false=>
               rw[An,hx];refine ih ?_;split at h<;>simpa only[An,hx] using h
            exact key sc.names e3
           exact S.h x hloc n2
         . exact .inl e3
         . exact .inr e3
       . obtain⟨o,ho,hd⟩:=z
         exact⟨o,k _ _ ho,hd⟩
 . rcases vK e with e|⟨_,e⟩
   . exact⟨none,ke x c e⟩
   . obtain⟨v,o,ho,hd⟩:=I.F x c e
     exact⟨v,o,k _ _ ho,hd⟩
 . rcases vK e with e|⟨_,e⟩
   . exact I.j.fresh (AD (C8 _) (qk e))
   . exact I.J x c e
 . show (fr.map _).length=N.length
   rw[Ab];exact S.g
end
end L2
end
section
namespace L2
open PySem PySem.Spec PyProof.Rows
def mL:List TT->TT
 |[]=>λ_ H Q=>Q true H
 |t::ts=>λσ H Q=>t σ H λc H1=>if c=true then mL ts σ H1 Q else Q false H1
inductive PTs(X:Cx):List Expr->List TT->Prop
 |b:PTs X [] []
 |a {c:Expr} {cs:List Expr} {t:TT} {ts:List TT}:PT X c t->PTs X cs ts->PTs X (c::cs) (t::ts)
theorem rQ{X:Cx}(h:Q false s):∀cs:List Expr,
 wpAny (model X.f X.w) X.A (forIn cs false λc r=>if r=true then do let ok <-isTrue c X.a (eval c X.a);pure (Cb ok) else pure (Cb r)) Q E s
 |[]=>Ag h
 |c::cs=>by rw[EN];exact lp (Ag (rQ h cs))
theorem PTs.run:∀{cs} {ts},PTs X cs ts->∀{pins} {s} {σ} {H} {Q},Inv X pins σ H s->mL ts σ H Q ->
 wpAny (model X.f X.w) X.A (forIn cs true λc r=>if r=true then do let ok <-isTrue c X.a (eval c X.a);pure (Cb ok) else pure (Cb r)) (TP X pins σ Q) X.i s
 |_,_,.b,pins,s,σ,H,Q,I,h=>Ag ⟨H,I,h⟩
 |_,_,.a hc hs,pins,s,σ,H,Q,I,h=>by
  rw[EN];refine lp (lp (thn (hc pins s σ H _ I h) λc s1 ⟨H1,I1,q1⟩=>Ag ?_));cases c with
  |true=>exact hs.run I1 q1
  |false=>exact rQ ⟨H1,I1,q1⟩ _
abbrev TB:=(St->Hp->Prop)->St->Hp->Prop
def PB(X:Cx)(B:Sem PUnit)(tb:TB):Prop:=
 ∀(pins:List (Addr × Obj)) (s:Shared) (σ:St) (H:Hp) (Nx:St->Hp->Prop),Inv X pins σ H s->tb Nx σ H->wpAny (model X.f X.w) X.A B (λ_ s'=>∃σ' H',Inv X pins σ' H' s'/\Nx σ' H') X.i s
def tTB(ts:List TT)(tb:TB):TS:=λD σ H=>mL ts σ H λc H1=>if c=true then tb D.a σ H1 else D.a σ H1
def oP(J:It)(g:TG)(tb:TS)(D:Ends)(σ:St)(H:Hp):Prop:=∃W:Nat->Nat->St->Hp->Prop,(∃m,W 0 m σ H)/\∀i m σ H,W i m σ H ->
 (J.a i H/\D.a σ H)\/(J.c i H/\∃N:St->Hp->Prop,(∀σ' H',N σ' H'->∃m',m'<m/\W (i+1) m' σ' H')/\∀x H',J.b i H x H'->g x σ H' λσ2 H2=>tb {D with a:=N,d:=N,c:=D.a} σ2 H2)
theorem vM{X:Cx}{elt:Expr}{gens:List Fj}{csc:Scope}{cpos:Pos}{d:Nat}{tg:Expr}{p:Pos}{ifs:List Expr}{B:Sem PUnit}{acc:Value}{it:Addr}{fp:List Addr}{tn:Nat->Heap->Prop}{J:It}{g:TG}{ts:List TT}{tb:TB}{D:Ends}
 {pins:List (Addr × Obj)} {σ:St} {H:Hp} {s:Shared} {R:Result->Shared->Prop}
 (heq:DS (.ListComp elt gens csc cpos) d (.ref it) acc X.a=(do
  standAt p
  match <-pyNext (.ref it) with
  |none=>pure (.done .next)
  |some v=>
   BA tg (.ref it) v
   assign tg X.a v
   let mut ok:=true
   for c in ifs do
    if ok then ok <-isTrue c X.a (eval c X.a)
   if ok then B
   again (.compLoop (.ListComp elt gens csc cpos) d (.ref it) acc X.a)))
 (hx:X.i=λ_ _=>False) (hc:X.j=true) (T:Turn X.f X.w X.K tg J fp it tn) (hg:PG X tg g) (ht:PTs X ifs ts) (hb:PB X B tb)
 (I:Inv X pins σ H s) (st:tn 0 s.heap) (f:∀b∈fp,ug X pins H b) (h:oP J g (tTB ts tb) D σ H)
 (hR:∀σ' H' s',Inv X pins σ' H' s'->D.a σ' H'->(∀b∈fp,H' b=none)->R (.ok .next) s') :
 codeAny (model X.f X.w) X.A (.compLoop (.ListComp elt gens csc cpos) d (.ref it) acc X.a) R s:=by
 obtain⟨W,⟨m0,w0⟩,turn⟩:=h;have stat:∀{H':Hp},(∀b∈fp,H' b=none)->∀b∈fp,ug X pins H' b:=λhn b hb=>⟨hn b hb,(f b hb).2⟩;have no:∀{α:Type} {t:Sem α} {Q:α->Shared->Prop} {E':Value->Shared->Prop} {s:Shared},wpAny (model X.f X.w) X.A t Q X.i s->wpAny (model X.f X.w) X.A t Q E' s:=λh=>A3 h (λ_ _ q=>q) λ_ _ z=>by rw[hx]at z;exact z.elim
 refine codeAny_loop rfl (λn s'=>∃i σ' H',Inv X pins σ' H' s'/\tn i s'.heap/\(∀b∈fp,H' b=none)/\W i n σ' H') (λn s3 hI=>?_) m0 ⟨0,σ,H,I,st,λb hb=>(f b hb).1,w0⟩;obtain⟨i,σ3,H3,I3,st3,fr3,w3⟩:=hI;show wpAny _ _ ((DS (.ListComp elt gens csc cpos) d (.ref it) acc X.a).onRaise (λx=>do noteFrame x X.a;theTreesLotGoes x)) _ _ s3
 refine wpAny_noted ?_;rw[heq];refine lp (Bi (lp ?_));rcases turn i n σ3 H3 w3 with⟨stop,qn⟩|⟨go,N,hN,step⟩
 . refine no (thn (T.d X rfl rfl rfl hc i pins s3 σ3 H3 X.i I3 (stat fr3) st3 stop) λr s4 ⟨hr,I4⟩=>?_)
   subst hr;exact Ag (hR σ3 H3 s4 I4 qn fr3)
 . refine no (thn (T.e X rfl rfl rfl hc i pins s3 σ3 H3 X.i I3 (stat fr3) st3 go) λr s4 ⟨u,hr,h4⟩=>?_)
   subst hr;refine lp (no (thn h4 λ_ s5 ⟨x,H5,I5,r5,y5,st5,fr5⟩=>?_));have I5':=I5.pinned (stat fr5) (T.c _ _ st5);refine lp (no (thn (hg _ s5 σ3 H5 x u _ I5' r5 (step x H5 y5)) λ_ s6 ⟨σ6,H6,I6,q6⟩=>?_));refine lp (no (thn (ht.run I6 q6) λok s7 ⟨H7,I7,q7⟩=>?_));have again':∀{σ7:St} {H7:Hp} {s7:Shared},Inv X (pins++qp fp s5.heap) σ7 H7 s7->N σ7 H7->∃m,m<n/\∃i σ' H',Inv X pins σ' H' s7/\tn i s7.heap/\(∀b∈fp,H' b=none)/\W i m σ' H':=λ{σ7 H7 s7} I7 n7=>by obtain⟨m',hm,w7⟩:=hN σ7 H7 n7;refine⟨m',hm,i+1,σ7,H7,I7.sP,T.a _ _ _ st5 λb hb o e=>(I7.O (b,o) (A8 _ (A8 _ (vi hb e)))).1,λb hb=>?_,w7⟩;obtain⟨o,e,d⟩:=T.c _ _ st5 b hb;exact(I7.O (b,o) (A8 _ (A8 _ (vi hb e)))).2.1
   cases ok with
   |false=>exact Ag ⟨rfl,again' I7 q7⟩
   |true=>exact lp (no (thn (hb _ s7 σ6 H7 N I7 q7) λ_ s8 ⟨σ8,H8,I8,n8⟩=>Ag ⟨rfl,again' I8 n8⟩))
def uu(acc:Addr)(te:TE):TB:=λNx σ H=>te σ H λy H1=>∃ys,H1 acc=some (.b ys)/\ys.length<As/\Nx σ (upd H1 acc (.b (ys++[y])))
theorem rj(he:PE X elt te):PB X (do let _ <-call (.builtin "list.append") [.ref acc,<-eval elt X.a]) (uu acc te):=by intro pins s σ H Nx I h;refine lp (thn (he pins s σ H _ I h) λu s1 ⟨y,H1,I1,r1,ys,hl,hz,q⟩=>?_);refine lp (thn (oH pins s1 σ H1 (.c acc) [y] (.ref acc) [u] (λ_ H'=>Nx σ H') I1 rfl (.cons r1 .nil) ⟨acc,ys,y,rfl,rfl,hl,hz,q⟩) λ_ s2 ⟨_,H2,I2,_,q2⟩=>?_);exact Ag ⟨σ,H2,I2,q2⟩
end L2
end
section
namespace L2
open PySem PySem.Spec PyProof.Rows
def uP(fr:List (Option Nat))(wi:TI)(g:TG)(ts:List TT)(tb:Addr->TB)(σ:St)(H:Hp)(Q:VK):Prop:=
 wi σ H λJ H1=>∀acc,H1 acc=none->oP J g (tTB ts (tb acc)) ⟨λ_ H'=>Q (.c acc) H',λ_ _=>False,λ_ _=>False,λ_ _=>False⟩ (zR fr σ) (upd H1 acc (.b []))
section
variable {X:Cx}{pins:List (Addr × Obj)}{σ:St}{H:Hp}{s:Shared}{N:List Str}{csc:Scope}{fr:List (Option Nat)}{elt tg iter:Expr}{ifs:List Expr}{rest:List Fj}{cpos:Pos}{wi:TI}{g:TG}{ts:List TT}{tb:Addr->TB}
theorem iC{outer:Env}{Q:Env->Shared->Prop}
 (hQ:∀h':Heap,h'.Ns s.heap.objs.size (λ_=>none)->(∀b o,s.heap.get? b=some o->h'.get? b=some o)->(∀x c,(vF scope s.heap.objs.size).lookup x=some c->h'.IsCell c none) ->
  Q {scope:=scope,locals:=s.heap.objs.size,globals:=globals,cells:=vF scope s.heap.objs.size++cl,qual:=qual,func:=none,code:=outer.code,frame:=outer.frame,builtins:=outer.builtins} {s with heap:=h'}) :
 wpAny M A (Gm scope globals cl [] qual none .none (some outer)) Q E s:=by
 simp only[Gm,Option.isSome_some,if_true];refine lp (wpAny_alloc ?_);refine lp (wpAny_layCells _ (λname kind cells=>by cases hkc:kind == Bg<;>simp[hkc]) _ _ _ _ ?_)
 have ok:=cellsFrom_ok scope.names (s.heap.push {cls:=.type "dict",data:=.dict #[]}) (s.heap.objs.size+1) [] ⟨λ_ _ hm=>(nomatch hm),FD⟩ (by rw[Bc];exact Ac _)
 rw[Bc]at ok;rw[show ({s with heap:=s.heap.push {cls:=.type "dict",data:=.dict #[]}}:Shared).heap.objs.size=s.heap.objs.size+1 from Bc ..]
 rw[Gn];refine lp (Ag (Ag ?_));rw[uy];exact hQ _ ((Heap.Ns.new s.heap (.type "dict")).keeps (pushCells_keeps _ _)) (λb o e=>pushCells_keeps _ _ b o (nx _ e)) λx c hc=>(ok.empty x c (mem_of_lookup hc)).1
theorem pq{use:Option (Value->Sem Unit)}{QQ:Value->Shared->Prop}{Qv:VK}{B:Value->Env->Sem PUnit}{E:Value->Shared->Prop}(hE:E=X.i)(hc:X.j=true)(S:zo X N csc fr)(hi:PI X tg iter wi)
 (hturn:∀(it:Addr) (acc:Value) (env:Env),DS (.ListComp elt (⟨tg,iter,ifs,0⟩::rest) csc cpos) 0 (.ref it) acc env=(do
  standAt iter.pos
  match <-pyNext (.ref it) with
  |none=>pure (.done .next)
  |some v=>
   BA tg (.ref it) v
   assign tg env v
   let mut ok:=true
   for c in ifs do
    if ok then ok <-isTrue c env (eval c env)
   if ok then B acc env
   again (.compLoop (.ListComp elt (⟨tg,iter,ifs,0⟩::rest) csc cpos) 0 (.ref it) acc env)))
 (hg:∀C s0 H0 ex,PG (X.comp N csc C s0 H0 ex) tg g) (ht:∀C s0 H0 ex,PTs (X.comp N csc C s0 H0 ex) ifs ts)
 (hb:∀C s0 H0 ex acc,PB (X.comp N csc C s0 H0 ex) (B (.ref acc) (X.comp N csc C s0 H0 ex).a) (tb acc))
 (I:Inv X pins σ H s) (h:uP fr wi g ts tb σ H Qv)
 (hfin:∀acc C H' s',Inv X pins σ H' s'->Qv (.c acc) H'->(∃m,s'.heap.Ns C m)->H' C=none->C≠X.a.locals->X.l.heap.objs.size<=C->(∀x c,X.a.cells.lookup x=some c->c≠C)->(∀p∈X.q++pins,p.1≠C) ->
  compPost (model X.f X.w) X.A X.i use QQ (.ref acc) C (.ok .next) s') :
 wpAny (model X.f X.w) X.A (eval iter X.a) (λx s₁=>wpAny (model X.f X.w) X.A (pyIter x) (λit s₂=>wpAny (model X.f X.w) X.A (newList []) (λacc s₃=>
  wpAny (model X.f X.w) X.A (Gm csc X.a.globals (uh X.a.cells csc.names []) [] X.a.qual none .none (some X.a)) (λcenv s₄=>
   codeAny (model X.f X.w) X.A (.compStart (.ListComp elt (⟨tg,iter,ifs,0⟩::rest) csc cpos) 0 it acc {cenv with scope:=relabel csc X.a}) (compPost (model X.f X.w) X.A E use QQ acc cenv.locals) s₄) E s₃) E s₂) E s₁) E s:=by
 subst hE;refine thn (hi pins s σ H _ I h) λv s1 h1=>thn h1 λitv s2 h2=>?_;obtain⟨it,fp,tn,J,H2,e,I2,T,st2,f2,q2⟩:=h2;subst e;refine Bb ?_;have hfr:H2 s2.heap.objs.size=none:=I2.j.fresh (Ac _);have q3:=q2 s2.heap.objs.size hfr;generalize hs3:({s2 with heap:=s2.heap.push {cls:=.type "list",dict:=none,data:=.seq ([]:List Value).toArray}}:Shared)=s3
 have k23:∀b u,s2.heap.get? b=some u->s3.heap.get? b=some u:=λb u e=>by rw[<-hs3];exact nx _ e
 have new3:s3.heap.get? s2.heap.objs.size=some {cls:=.type "list",dict:=none,data:=.seq ([]:List Value).toArray}:=by rw[<-hs3];exact Az _ rfl
 have I3:Inv X pins σ (upd H2 s2.heap.objs.size (.b [])) s3:=by rw[<-hs3];exact I2.laid (t':=s2.toks) (λb u e=>nx _ e) (Ac _) ⟨BC _,[],0,.nil,Az _ rfl⟩
 have lt2:∀b∈fp,b<s2.heap.objs.size:=λb hb=>by obtain⟨o,e,_⟩:=T.c _ _ st2 b hb;exact Ai e
 have hsz:s3.heap.objs.size=s2.heap.objs.size+1:=by rw[<-hs3];exact Bc ..
 have f3:∀b∈fp,ug X pins (upd H2 s2.heap.objs.size (.b [])) b:=λb hb=>⟨by rw[zJ (AI (lt2 b hb))];exact(f2 b hb).1,(f2 b hb).2⟩
 have lt3:∀b∈fp,b<s3.heap.objs.size:=λb hb=>by rw[hsz];exact Cz (lt2 b hb)
 refine iC λh4 hns4' k34 own4=>?_;have I4:=kW (tk:=s3.toks) I3 S f3 lt3 hns4' k34 own4;have st4:tn 0 h4:=T.a _ _ _ st2 λb hb o e=>k34 b o (k23 b o e);have f4:∀b∈fp,ug (X.comp N csc s3.heap.objs.size s3 (upd H2 s2.heap.objs.size (.b [])) fp) [] (upd H2 s2.heap.objs.size (.b [])) b:=λb hb=>by have ok:=I4.B;obtain⟨g1,g2⟩:=ok.G b hb;exact⟨(f3 b hb).1,g1,ok.l b hb,.inl hb,g2,λp hp=>by simp at hp⟩
 have fin:∀σ' H' s',Inv (X.comp N csc s3.heap.objs.size s3 (upd H2 s2.heap.objs.size (.b [])) fp) [] σ' H' s'->Qv (.c s2.heap.objs.size) H'->(∀b∈fp,H' b=none) ->
  compPost (model X.f X.w) X.A X.i use QQ (.ref s2.heap.objs.size) s3.heap.objs.size (.ok .next) s':=λσ' H' s' I' q' _=>by
  have IX:Inv X pins σ H' s':=I3.Tn I'.R I'.C I'.j I'.D λb hb=>by obtain⟨g0,g1,g2,g3,g4,g5⟩:=f3 b hb;exact⟨g3,g1,g4,g5⟩
  obtain⟨m,hn,_⟩:=I'.M;refine hfin _ _ H' s' IX q' ⟨m,hn⟩ I'.G (DN I3.lt) I3.sz (λx c e=>?_) λp hp=>?_
  . obtain⟨w',z⟩:=I3.F x c e
    exact AI z.lt
  . exact AI (Ai (I3.O p hp).1)
 have loop:codeAny (model X.f X.w) X.A (.compLoop (.ListComp elt (⟨tg,iter,ifs,0⟩::rest) csc cpos) 0 (.ref it) (.ref s2.heap.objs.size) (compEnvC csc (vF csc s3.heap.objs.size++uh X.a.cells csc.names []) s3.heap.objs.size X.a))
  (compPost (model X.f X.w) X.A X.i use QQ (.ref s2.heap.objs.size) s3.heap.objs.size) {s3 with heap:=h4}:=
  vM (X:=X.comp N csc s3.heap.objs.size s3 (upd H2 s2.heap.objs.size (.b [])) fp) (hturn it _ _) rfl hc T (hg _ _ _ _) (ht _ _ _ _) (hb _ _ _ _ _) I4 st4 f4 q3 fin
 exact codeAny_compStart_list loop (T.f X.A 0 _ _ _ st4 loop)
theorem lW{B:Value->Env->Sem PUnit}(hc:X.j=true)(S:zo X N csc fr)(hi:PI X tg iter wi)
 (hturn:∀(it:Addr) (acc:Value) (env:Env),DS (.ListComp elt (⟨tg,iter,ifs,0⟩::rest) csc cpos) 0 (.ref it) acc env=(do
  standAt iter.pos
  match <-pyNext (.ref it) with
  |none=>pure (.done .next)
  |some v=>
   BA tg (.ref it) v
   assign tg env v
   let mut ok:=true
   for c in ifs do
    if ok then ok <-isTrue c env (eval c env)
   if ok then B acc env
   again (.compLoop (.ListComp elt (⟨tg,iter,ifs,0⟩::rest) csc cpos) 0 (.ref it) acc env)))
 (hg:∀C s0 H0 ex,PG (X.comp N csc C s0 H0 ex) tg g) (ht:∀C s0 H0 ex,PTs (X.comp N csc C s0 H0 ex) ifs ts)
 (hb:∀C s0 H0 ex acc,PB (X.comp N csc C s0 H0 ex) (B (.ref acc) (X.comp N csc C s0 H0 ex).a) (tb acc))
 (hs:∀x,AZ iter X.a x=pure x:=by intro _;rfl) :
 PE X (.ListComp elt (⟨tg,iter,ifs,0⟩::rest) csc cpos) (uP fr wi g ts tb):=by
 intro pins s σ H Q I h;rw[eval_ListComp];refine FV (use:=none) rfl hs (ur (S.cells I.B)) S.b S.a ?_;refine pq (use:=none) rfl hc S hi hturn hg ht hb I h λacc C H' s' I' q' hn hC hL h0 hcl hpn=>?_;obtain⟨m,hn⟩:=hn;refine⟨m,hn,λh' sb=>⟨.c acc,H',?_,rfl,q'⟩⟩;exact I'.turned (t':=s'.toks) (λb o hb e=>(sb.2 b hb).trans e) hC (Bt (Bt hL)) (.inr h0) hcl hpn
theorem lh{B:Value->Env->Sem PUnit}{y:Str}{py spos:Pos}{i:Nat}(hc:X.j=true)(S:zo X N csc fr)(hi:PI X tg iter wi)
 (hturn:∀(it:Addr) (acc:Value) (env:Env),DS (.ListComp elt (⟨tg,iter,ifs,0⟩::rest) csc cpos) 0 (.ref it) acc env=(do
  standAt iter.pos
  match <-pyNext (.ref it) with
  |none=>pure (.done .next)
  |some v=>
   BA tg (.ref it) v
   assign tg env v
   let mut ok:=true
   for c in ifs do
    if ok then ok <-isTrue c env (eval c env)
   if ok then B acc env
   again (.compLoop (.ListComp elt (⟨tg,iter,ifs,0⟩::rest) csc cpos) 0 (.ref it) acc env)))
 (hg:∀C s0 H0 ex,PG (X.comp N csc C s0 H0 ex) tg g) (ht:∀C s0 H0 ex,PTs (X.comp N csc C s0 H0 ex) ifs ts)
 (hb:∀C s0 H0 ex acc,PB (X.comp N csc C s0 H0 ex) (B (.ref acc) (X.comp N csc C s0 H0 ex).a) (tb acc))
 (hN:X.N.Nodup) (hy:X.N[i]?=some y) (hx:Loc X.a.scope y)
 (hsw:Eu (.ListComp elt (⟨tg,iter,ifs,0⟩::rest) csc cpos) (some (.Name y py)) spos.line X.a=pure true:=by rfl)
 (hf:X.n y=true\/X.a.scope.names.lookup y=some .local:=by first|exact .inl rfl|exact .inr rfl|assumption)
 (hs:∀x,AZ iter X.a x=pure x:=by intro _;rfl) :
 PS X (.Assign [.Name y py] (.ListComp elt (⟨tg,iter,ifs,0⟩::rest) csc cpos) spos) (um (uP fr wi g ts tb) (wA i)):=by
 intro pins s σ H D I h;rw[exec_Assign_Name_used _ _ _ _ hsw];refine lp (Bi (lp ?_));show wpAny _ X.A (do let _ <-comprehension (.ListComp elt (⟨tg,iter,ifs,0⟩::rest) csc cpos) csc X.a _ (newList []) false (eval iter X.a) (some (assign (.Name y py) X.a))) _ _ s
 refine lp (A3 (FV (use:=some (assign (.Name y py) X.a)) (Q:=λ_ s'=>SP X pins D .next s') rfl hs (ur (S.cells I.B)) S.b S.a ?_) (λ_ s' hq=>Ag (Ag hq)) λ_ _ e=>e);refine pq (use:=some (assign (.Name y py) X.a)) rfl hc S hi hturn hg ht hb I h λacc C H' s' I' q' hn hC hL h0 hcl hpn=>?_;obtain⟨m,hn⟩:=hn;show wpAny _ X.A (assign (.Name y py) X.a (.ref acc)) _ _ _;refine wpAny_assign_Name (oU I' hN hy hx (show RelV (.c acc) (.ref acc) from rfl) (λs2 I2 ⟨a,sb,ha⟩=>?_) hf);have haC:C≠a:=by
  rcases ha with ha|ha
  . rw[ha];exact hL
  . exact Bt (hcl y a ha)
 refine⟨m,hn.sameBut sb haC,λh' sb'=>⟨_,H',?_,q'⟩⟩;exact I2.turned (t':=s2.toks) (λb o hb e=>(sb'.2 b hb).trans e) hC hL (.inr h0) hcl hpn
theorem Wl(elt tg iter:Expr)(ifs:List Expr)(csc:Scope)(cpos:Pos)(it:Addr)(acc:Value)(env:Env) :
 DS (.ListComp elt [⟨tg,iter,ifs,0⟩] csc cpos) 0 (.ref it) acc env=(do
  standAt iter.pos
  match <-pyNext (.ref it) with
  |none=>pure (.done .next)
  |some v=>
   BA tg (.ref it) v
   assign tg env v
   let mut ok:=true
   for c in ifs do
    if ok then ok <-isTrue c env (eval c env)
   if ok then (do let _ <-call (.builtin "list.append") [acc,<-eval elt env])
   again (.compLoop (.ListComp elt [⟨tg,iter,ifs,0⟩] csc cpos) 0 (.ref it) acc env)):=by rfl
theorem Wm(elt tg iter:Expr)(ifs:List Expr)(tg2 iter2:Expr)(ifs2:List Expr)(csc:Scope)(cpos:Pos)(it:Addr)(acc:Value)(env:Env) :
 DS (.ListComp elt [⟨tg,iter,ifs,0⟩,⟨tg2,iter2,ifs2,0⟩] csc cpos) 0 (.ref it) acc env=(do
  standAt iter.pos
  match <-pyNext (.ref it) with
  |none=>pure (.done .next)
  |some v=>
   BA tg (.ref it) v
   assign tg env v
   let mut ok:=true
   for c in ifs do
    if ok then ok <-isTrue c env (eval c env)
   if ok then (do
    let x <-eval iter2 env
    standAt iter2.pos
    let x <-AZ iter2 env x;let _ <-runOwn (.compStart (.ListComp elt [⟨tg,iter,ifs,0⟩,⟨tg2,iter2,ifs2,0⟩] csc cpos) 1 (<-holding [x] (pyIter x)) acc env) env)
   again (.compLoop (.ListComp elt [⟨tg,iter,ifs,0⟩,⟨tg2,iter2,ifs2,0⟩] csc cpos) 0 (.ref it) acc env)):=by
 have e:DS (.ListComp elt [⟨tg,iter,ifs,0⟩,⟨tg2,iter2,ifs2,0⟩] csc cpos) 0 (.ref it) acc env=(do
  standAt iter.pos
  match <-pyNext (.ref it) with
  |none=>pure (.done .next)
  |some v=>
   BA tg (.ref it) v
   assign tg env v
   let mut ok:=true
   for c in ifs do
    if ok then ok <-isTrue c env (eval c env)
   if ok then
    let x <-eval iter2 env
    standAt iter2.pos
    let x <-AZ iter2 env x;let _ <-runOwn (.compStart (.ListComp elt [⟨tg,iter,ifs,0⟩,⟨tg2,iter2,ifs2,0⟩] csc cpos) 1 (<-holding [x] (pyIter x)) acc env) env
   again (.compLoop (.ListComp elt [⟨tg,iter,ifs,0⟩,⟨tg2,iter2,ifs2,0⟩] csc cpos) 0 (.ref it) acc env)):=by rfl
 rw[e];simp only[bind_assoc,DR]
theorem TN(elt tg iter:Expr)(ifs:List Expr)(tg2 iter2:Expr)(ifs2:List Expr)(csc:Scope)(cpos:Pos)(it:Addr)(acc:Value)(env:Env) :
 DS (.ListComp elt [⟨tg,iter,ifs,0⟩,⟨tg2,iter2,ifs2,0⟩] csc cpos) 1 (.ref it) acc env=(do
  standAt iter2.pos
  match <-pyNext (.ref it) with
  |none=>pure (.done .next)
  |some v=>
   BA tg2 (.ref it) v
   assign tg2 env v
   let mut ok:=true
   for c in ifs2 do
    if ok then ok <-isTrue c env (eval c env)
   if ok then (do let _ <-call (.builtin "list.append") [acc,<-eval elt env])
   again (.compLoop (.ListComp elt [⟨tg,iter,ifs,0⟩,⟨tg2,iter2,ifs2,0⟩] csc cpos) 1 (.ref it) acc env)):=by rfl
end
end L2
end
section
namespace L2
open PySem PySem.Spec PyProof.Rows
theorem kU
 (h0:codeAny (model prog w) A (.compLoop (.ListComp elt [⟨tg,iter,ifs,0⟩,⟨tg2,iter2,ifs2,0⟩] csc cpos) 1 it acc env) R s)
 (h:wpAny (model prog w) A (pyIter it) (λit' s'=>codeAny (model prog w) A (.compLoop (.ListComp elt [⟨tg,iter,ifs,0⟩,⟨tg2,iter2,ifs2,0⟩] csc cpos) 1 it' acc env) R s')
  (notedBy (model prog w) A env λx s'=>R (.error x) s') s) :
 codeAny (model prog w) A (.compStart (.ListComp elt [⟨tg,iter,ifs,0⟩,⟨tg2,iter2,ifs2,0⟩] csc cpos) 1 it acc env) R s:=by
 refine codeAny_of_tree ?_;show wpAny _ _ ((compStart (.ListComp elt [⟨tg,iter,ifs,0⟩,⟨tg2,iter2,ifs2,0⟩] csc cpos) 1 it acc env).onRaise (λx=>do noteFrame x env;standAt theWindowsPlace)) _ _ s
 refine wpAny_notedAt ?_;unfold compStart;show wpAny _ _ (ask >>= _) _ _ s;refine lp (wpAny_askSetting (wpAny_ite ?_));split
 . first
    |exact lp (Ag (Ag (Ad rfl h0)))
    |exact Ag (Ad rfl h0)
 . first
    |exact lp (D0 (lp (Bi (lp (A3 h (λit' s' h'=>Ag (Ad rfl h')) λ_ _ x=>x)))))
    |(refine lp (D0 ?_);show wpAny _ _ (standAt iter2.pos >>= _) _ _ s;exact lp (Bi (lp (A3 h (λit' s' h'=>Ag (Ad rfl h')) λ_ _ x=>x))))
def q0(wi:TI)(g:TG)(ts:List TT)(tb:TB):TB:=λNx σ H=>wi σ H λJ H1=>oP J g (tTB ts tb) ⟨Nx,λ_ _=>False,λ_ _=>False,λ_ _=>False⟩ σ H1
theorem lT
 (hx:X.i=λ_ _=>False) (hc:X.j=true) (hi:PI X tg2 iter2 wi) (hg:PG X tg2 g) (ht:PTs X ifs2 ts) (hb:PB X (do let _ <-call (.builtin "list.append") [.ref acc,<-eval elt X.a]) tb)
 (hs:∀x,AZ iter2 X.a x=pure x:=by intro _;rfl) :
 PB X (do
       let x <-eval iter2 X.a
       standAt iter2.pos
       let x <-AZ iter2 X.a x;let _ <-runOwn (.compStart (.ListComp elt [⟨tg,iter,ifs,0⟩,⟨tg2,iter2,ifs2,0⟩] csc cpos) 1 (<-holding [x] (pyIter x)) (.ref acc) X.a) X.a) (q0 wi g ts tb):=by
 intro pins s σ H Nx I h;refine lp (thn (hi pins s σ H _ I h) λv s1 h1=>lp (Bi (lp (wpAny_of_eq (hs v) (lp (B0 (thn h1 λitv s2 h2=>?_)))))));obtain⟨it,fp,tn,J,H2,e,I2,T,st2,f2,q2⟩:=h2;subst e;refine lp (wpAny_runOwn ?_);have loop:codeAny (model X.f X.w) X.A (.compLoop (.ListComp elt [⟨tg,iter,ifs,0⟩,⟨tg2,iter2,ifs2,0⟩] csc cpos) 1 (.ref it) (.ref acc) X.a)
  (λr s'=>match r with|.ok f=>wpAny (model X.f X.w) X.A (pure PUnit.unit:Sem PUnit) (λ_ s'=>∃σ' H',Inv X pins σ' H' s'/\Nx σ' H') X.i s'|.error e=>FO (model X.f X.w) X.A X.a X.i e s') s2:=
  vM (TN ..) hx hc T hg ht hb I2 st2 f2 q2 λσ' H' s' I' n' _=>Ag ⟨σ',H',I',n'⟩
 exact kU loop (T.f X.A 0 _ _ _ st2 loop)
section
variable {X:Cx}{N:List Str}{csc:Scope}{fr:List (Option Nat)}{elt tg iter tg2 iter2:Expr}{ifs ifs2:List Expr}{cpos:Pos}{wi wi2:TI}{g g2:TG}{ts ts2:List TT}{te:TE}
theorem gB(hc:X.j=true)(S:zo X N csc fr)(hi:PI X tg iter wi)(hg:∀C s0 H0 ex,PG (X.comp N csc C s0 H0 ex) tg g)(ht:∀C s0 H0 ex,PTs (X.comp N csc C s0 H0 ex) ifs ts)
 (he:∀C s0 H0 ex,PE (X.comp N csc C s0 H0 ex) elt te) (hs:∀x,AZ iter X.a x=pure x:=by intro _;rfl) :
 PE X (.ListComp elt [⟨tg,iter,ifs,0⟩] csc cpos) (uP fr wi g ts λacc=>uu acc te):=
 lW hc S hi (B:=λacc env=>(do let _ <-call (.builtin "list.append") [acc,<-eval elt env])) (Wl elt tg iter ifs csc cpos) hg ht (λC s0 H0 ex acc=>rj (he C s0 H0 ex)) hs
theorem XZ(hc:X.j=true)(S:zo X N csc fr)(hi:PI X tg iter wi)(hg:∀C s0 H0 ex,PG (X.comp N csc C s0 H0 ex) tg g)(ht:∀C s0 H0 ex,PTs (X.comp N csc C s0 H0 ex) ifs ts)
 (he:∀C s0 H0 ex,PE (X.comp N csc C s0 H0 ex) elt te) (hN:X.N.Nodup) (hy:X.N[i]?=some y) (hx:Loc X.a.scope y)
 (hsw:Eu (.ListComp elt [⟨tg,iter,ifs,0⟩] csc cpos) (some (.Name y py)) spos.line X.a=pure true:=by rfl)
 (hf:X.n y=true\/X.a.scope.names.lookup y=some .local:=by first|exact .inl rfl|exact .inr rfl|assumption)
 (hs:∀x,AZ iter X.a x=pure x:=by intro _;rfl) :
 PS X (.Assign [.Name y py] (.ListComp elt [⟨tg,iter,ifs,0⟩] csc cpos) spos) (um (uP fr wi g ts λacc=>uu acc te) (wA i)):=
 lh hc S hi (B:=λacc env=>(do let _ <-call (.builtin "list.append") [acc,<-eval elt env])) (Wl elt tg iter ifs csc cpos) hg ht (λC s0 H0 ex acc=>rj (he C s0 H0 ex)) hN hy hx hsw hf hs
theorem lV(hc:X.j=true)(S:zo X N csc fr)(hi:PI X tg iter wi)(hg:∀C s0 H0 ex,PG (X.comp N csc C s0 H0 ex) tg g)(ht:∀C s0 H0 ex,PTs (X.comp N csc C s0 H0 ex) ifs ts)
 (hi2:∀C s0 H0 ex,PI (X.comp N csc C s0 H0 ex) tg2 iter2 wi2) (hg2:∀C s0 H0 ex,PG (X.comp N csc C s0 H0 ex) tg2 g2) (ht2:∀C s0 H0 ex,PTs (X.comp N csc C s0 H0 ex) ifs2 ts2)
 (he:∀C s0 H0 ex,PE (X.comp N csc C s0 H0 ex) elt te) (hs:∀x,AZ iter X.a x=pure x:=by intro _;rfl)
 (hs2:∀env x,AZ iter2 env x=pure x:=by intro _ _;rfl) :
 PE X (.ListComp elt [⟨tg,iter,ifs,0⟩,⟨tg2,iter2,ifs2,0⟩] csc cpos) (uP fr wi g ts λacc=>q0 wi2 g2 ts2 (uu acc te)):=
 lW hc S hi (B:=λacc env=>(do
         let x <-eval iter2 env
         standAt iter2.pos
         let x <-AZ iter2 env x;let _ <-runOwn (.compStart (.ListComp elt [⟨tg,iter,ifs,0⟩,⟨tg2,iter2,ifs2,0⟩] csc cpos) 1 (<-holding [x] (pyIter x)) acc env) env)) (Wm elt tg iter ifs tg2 iter2 ifs2 csc cpos) hg ht
  (λC s0 H0 ex acc=>lT rfl hc (hi2 C s0 H0 ex) (hg2 C s0 H0 ex) (ht2 C s0 H0 ex) (rj (he C s0 H0 ex)) (hs2 _)) hs
end
end L2
end
section
namespace L2
open PySem PySem.Spec PyProof.Rows
section
variable {X:Cx}
theorem qD:yV X (.builtin "isinstance") (λxs H Q=>∃x c t b,xs=[x,.k c]/\tN X.K H x (.type t)/\Gg X.K (.type t) (.type c)=some b/\Q (.f b) H):=by intro pins s σ H xs us Q I r h;obtain⟨x,c,t,b,rfl,ty,e,q⟩:=h;obtain⟨u,w',rfl,rx,rc⟩:=vals2 r;cases (show w'=FI c from rc);exact g9 I rx ty e λtk=>⟨.f b,H,I.tok _,rfl,q⟩
end
inductive Kd where
 |f|i|d|h|e|b|g
 deriving DecidableEq
noncomputable def Kd.nm:Kd->String
 |.f=>"NoneType"|.i=>"bool"|.d=>"int"|.h=>"str"|.e=>"list"|.b=>"tuple"|.g=>"dict"
noncomputable def Kd.sub(a c:Kd):Bool:=decide (a=c)||(decide (a=.i)&&decide (c=.d))
theorem V2 K(a c:Kd)(hc:c≠.f):Gg K (.type a.nm) (.type c.nm)=some (a.sub c):=by
 cases c with
 |f=>exact absurd rfl hc
 |i=>cases a<;>rfl
 |d=>cases a<;>rfl
 |h=>cases a<;>rfl
 |e=>cases a<;>rfl
 |b=>cases a<;>rfl
 |g=>cases a<;>rfl
section
variable {X:Cx}
theorem all_range:∀(bs:List Bool),((Ao bs.length).all λi=>bs.getD i false)=bs.all id:=by
 intro bs;induction bs with
 |nil=>rfl
 |cons b bs ih=>
  rw[AF,List.range_succ_eq_map,BR,BR,List.all_map];exact congrArg (b&&·) (Eq.trans (by congr 1) ih)
theorem Vals.bools:∀{bs:List Bool} {us},Vals (bs.map V.f) us->us=bs.map CZ
 |[],us,r=>by cases r;rfl
 |b::bs,us,r=>by
  rw[AN]at r;cases r with
  |cons r1 r2=>
   cases (show _=CZ b from r1);rw[Vals.bools r2,AN]
theorem qC(hc:X.j=true):yV X (.builtin "all") (λxs H Q=>∃(a:Addr) (bs:List Bool),xs=[.c a]/\SqL X.K H a (bs.map V.f)/\Q (.f (bs.all id)) H):=by
 intro pins s σ H xs us Q I r h;obtain⟨a,bs,rfl,ha,q⟩:=h;obtain⟨u,rfl,ru⟩:=vals1 r;cases ru;obtain⟨its,rv,pl,hz⟩:=I.list ha;have hits:=rv.bools;have alt:a<s.heap.objs.size:=by obtain⟨o,ho,_⟩:=pl.isList;exact Ai ho
 refine call_all_walk (D8 pl.isList ?_);refine⟨s.heap.objs.size,_,_,_,_,_,λi=>bs.getD i false,rfl,Walks.list (A:=X.A.in1) (I.B.i hc) s.heap.objs.size a (AI alt) its.toArray,⟨⟨_,Az _ rfl,rfl,rfl⟩,?_⟩,?_,λh' tk hk=>?_⟩
 . obtain⟨o,ho,hc',n,hd⟩:=pl.isList
   exact⟨o,nx _ ho,hc',n,hd⟩
 . intro i v s' Q' E' hv hq
   have hv':(bs.map CZ)[i]?=some v:=by rw[<-hits];simpa using hv
   rw[AR]at hv';cases hb:bs[i]? with
   |none=>rw[hb]at hv';cases hv'
   |some b=>
    rw[hb]at hv';have:v=CZ b:=(AA hv').symm;subst this;have e:bs.getD i false=b:=by rw[Aw,hb];rfl
    have hq':Q' (bs.getD i false) s':=hq;rw[e]at hq';exact Bw hq'
 . have e:(Ao its.toArray.size).all (λi=>bs.getD i false)=bs.all id:=by rw[Ae,hits,Ab];exact all_range bs
   rw[e];refine⟨.f (bs.all id),H,I.kept λb o ho=>hk b o ?_ (nx _ ho),rfl,q⟩;simpa using AI (Ai ho)
end
end L2
end
section
namespace L2
open PySem PySem.Spec PyProof.Rows
theorem ZL(h:H p=none)o:wH H (upd H p o):=λb u q=>by rw[zJ (zT q h)];exact q
def rK(H:Hp)(ys:List V)(Q:VK):Prop:=∀p H',wH H H'->H' p=some (.c ys)->Q (.c p) H'
theorem rK.new(g:rK H ys Q):∀p,H p=none->Q (.c p) (upd H p (.c ys)):=λp hp=>g p _ (ZL hp _) zP
def Qg:V->Option Int->Option Int->Hp->VK->Prop:=λx lo hi H Q=>∃a xs,x=.c a/\H a=some (.c xs)/\rK H (pJ xs lo hi) Q
def Wb:R2:=λx y H Q=>∃a b xs ys,x=.c a/\y=.c b/\H a=some (.c xs)/\H b=some (.c ys)/\xs.length+ys.length<=As/\rK H (xs++ys) Q
def Rk:R2:=λx y H Q=>∃a k xs,x=.c a/\y=.d k/\H a=some (.c xs)/\2<=k/\k<=1000/\xs≠[]/\xs.length<=1000/\rK H (Ak k.toNat xs).flatten Q
section
variable {X:Cx}
theorem gp{lo hi}(ht:IsTup s.heap t items)(hs:s.heap.IsSliceOf sl vl vu .none)(pl:IsPart vl lo)(pu:IsPart vu hi)
 (h0:HT.sIx items.size 0 lo=0) (h1:HT.sIx items.size items.size hi=items.size) (h:Q (.ref t) s):wpAny (model prog w) A (getItem (.ref t) (.ref sl)) Q E s:=by
 obtain⟨os,hos,hcs,hds⟩:=id hs;have hTs:s.TypeIs (.ref sl) "slice":=⟨os,hos,hcs⟩;unfold getItem
 try with_reducible refine B0 ?_
 first|refine lp (Ag ?_)|skip
 refine lp (FA ht.typeIs (by decide) ?_)
 refine lp (Cf (name:=Df "__getitem__") ht.typeIs AX
  (Dk AX ht.typeIs EX ?_ (E6 _ _)))
 show wpAny _ _ (Dw (.ref t) >>= _) _ _ s;refine lp (Ei ht ?_);refine lp (EK hTs ?_);rw[if_pos (by decide)]
 refine lp (HT.vT hs pl pu ?_);have hyes:(((HT.sIx items.size 0 lo:Nat):Int) == 0&&(1:Int) == 1&&(HT.sIx items.size items.size hi-HT.sIx items.size 0 lo) == items.size)=true:=by rw[h0,h1];simp
 show wpAny _ _ (if (((HT.sIx items.size 0 lo:Nat):Int) == 0&&(1:Int) == 1&&(HT.sIx items.size items.size hi-HT.sIx items.size 0 lo) == items.size)=true then _ else _) _ _ s
 rw[if_pos hyes];unfold Fm;refine lp (lp (EK ht.typeIs (Ag ?_)));rw[if_pos (by decide)]
 exact lp (D0 (Ag ⟨_,rfl,Ag h⟩))
theorem Xk:SlR X Qg:=by
 intro pins s σ H x v vl vu lo hi sl Q I rx hs pl pu h;obtain⟨a,xs,rfl,hx,g⟩:=h;by_cases hw:HT.sIx xs.length 0 lo=0/\HT.sIx xs.length xs.length hi=xs.length
 . cases rx
   obtain⟨its,r,ht,hz⟩:=I.tuple (.inl (.inl hx));have hlen:its.toArray.size=xs.length:=by rw[Ae];exact r.length.symm
   refine⟨"tuple",_,AX.lookup,ht.typeIs,?_⟩;refine gp ht hs pl pu (by rw[hlen];exact hw.1) (by rw[hlen];exact hw.2) ⟨.c a,H,I,rfl,g a H (wH.refl H) ?_⟩
   rw[hx];unfold pJ;rw[hw.1,hw.2,E1,FW,List.take_length]
 . exact Ux pins s σ H (.c a) v vl vu lo hi sl Q I rx hs pl pu ⟨a,xs,rfl,.inl (.inl hx),hw,g.new⟩
theorem aG:OpR X (Br .Add) Wb:=by
 intro pins s σ H x y v u Q I rx ry h;obtain⟨a,b,xs,ys,rfl,rfl,ha,hb,hz,g⟩:=h;by_cases hx:xs=[]
 . cases rx
   cases ry;subst hx;obtain⟨its,r1,p1,_⟩:=I.tuple (.inl (.inl ha));obtain⟨its2,r2,p2,_⟩:=I.tuple (.inl (.inl hb));cases r1;obtain⟨⟨cls,dd,data,sl⟩,ho,hc,n,hd⟩:=id p1;obtain⟨⟨cls2,dd2,data2,sl2⟩,ho2,hc2,n2,hd2⟩:=id p2;simp only at hc hd hc2 hd2;subst hc hd hc2 hd2;exact concat_meets ⟨_,ho,rfl⟩ ⟨_,ho2,rfl⟩ El Fh BY BU (BP _ _)
    (tuple_addW0 a b #[] its2.toArray n n2 dd dd2 sl sl2 rfl) ⟨ho,ho2,⟨.c b,H,I,rfl,g b H (wH.refl H) hb⟩⟩
 . refine Y7 pins s σ H (.c a) (.c b) v u Q I rx ry ⟨a,b,xs,ys,rfl,rfl,.inl (.inl ha),.inl (.inl hb),hx,hz,λe=>?_,λ_=>g.new⟩
   subst e;rw[A5]at g;exact g a H (wH.refl H) ha
theorem xq:fillsNumberSlot (.type "tuple") "mul"=pure false:=
 PySem.fillsNumberSlot_seq (id:="tuple.__mul__") (r:=some (.builtin "tuple.__rmul__")) Dl.lookup (by decide +kernel) F.slot_tuple_rmul.lookup (by decide +kernel)
theorem vn:seqRepeat? (.type "tuple")=pure (some (.builtin "tuple.__mul__")):=by
 unfold seqRepeat?;rw[PySem.seqSlot_of (T:="tuple") (name:="__mul__") (id:="tuple.__mul__") Dl.lookup (by decide +kernel),PySem.seqSlot_of (T:="tuple") (name:="__rmul__") (id:="tuple.__rmul__") F.slot_tuple_rmul.lookup (by decide +kernel)]
 rfl
theorem wZ a t l items n dd sl :
 Meets (Builtin.«int.__rmul__» ⟨[.int a t,.ref l],[]⟩) (λ_ R s=>s.heap.get? l=some {cls:=.type "tuple",dict:=dd,data:=.seq items n,slots:=sl}/\R (.ok (.ret Value.notImplemented)) s):=
 .of_wp λprog w A R s h=>by obtain⟨hp,g,d,tk,os⟩:=s;obtain⟨hl,h⟩:=h;wp_walk;exact⟨_,rfl,h⟩
theorem j4 l items n x u dd sl(h1:2<=x)(h2:x<=1000)(h3:¬items.isEmpty=true)(h4:items.size<=1000) :
 Meets (Builtin.«tuple.__mul__» ⟨[.ref l,.int x u],[]⟩) (λ_ R s=>s.heap.get? l=some {cls:=.type "tuple",dict:=dd,data:=.seq items n,slots:=sl} /\
  R (.ok (.ret (A2 s.heap.objs.size))) {s with heap:=s.heap.push {cls:=FI "tuple",data:=Data.seq (D2 (λx1 x2=>x1++x2) #[] (Ak x.toNat items))},toks:=s.toks}):=
 .of_wp λprog w A R s h=>by
  obtain⟨hp,g,d,tk,os⟩:=s;obtain⟨hl,h⟩:=h;have f1:=FX;have c1:¬((decide (x < -(2 ^ 63))||decide (x ≥ 2 ^ 63))=true):=by simp;omega
  have c2:¬((items.isEmpty||x == 1)=true):=by simp at h3 ⊢;exact⟨h3,by omega⟩
  have c3:¬((decide (x<=0)||items.isEmpty)=true):=by simp at h3 ⊢;exact⟨by omega,h3⟩
  have hprod:(items.size:Int)*x<=1000*1000:=Int.mul_le_mul (by omega) h2 (by omega) (by omega)
  have c4:¬((items.size:Int)*x > (2 ^ 63-1)/8):=by omega
  have hL:As=16777216:=AV;have c5:¬(Dx ((items.size:Int)*x)=true):=by unfold Dx;rw[hL];simp only[decide_eq_true_eq];omega
  have hn:(D2 (λx1 x2=>x1++x2) #[] (Ak x.toNat items)).size=x.toNat*items.size:=by have e:=foldl_rep items.toList x.toNat [];simp only[Array.toArray_toList,DE]at e;rw[e,Ae,len_rep,CU]
  have htake:sizeOk (.seq (D2 (λx1 x2=>x1++x2) #[] (Ak x.toNat items))):=by
   show (D2 (λx1 x2=>x1++x2) #[] (Ak x.toNat items)).size<=As;rw[hn,hL];have:x.toNat*items.size<=1000*1000:=CJ (by omega) h4
   omega
  wp_walk using BM hl
  rw[if_neg c1];refine lp (Ei (items:=items) ⟨_,hl,rfl,n,rfl⟩ ?_);rw[if_neg c2];show wpAny _ _ (if (decide (x<=0)||items.isEmpty)=true then _ else _) _ _ _
  rw[if_neg c3];show wpAny _ _ (if (items.size:Int)*x > (2 ^ 63-1)/8 then _ else _) _ _ _
  rw[if_neg c4];show wpAny _ _ (if Dx ((items.size:Int)*x)=true then _ else _) _ _ _
  rw[if_neg c5];exact lp (m:=Bj _) (Bb (Ag ⟨_,rfl,h⟩) htake)
theorem XD:OpR X (Br .Mult) Rk:=by
 intro pins s σ H x y v u Q I rx ry h;obtain⟨a,k,xs,rfl,rfl,ha,h1,h2,h3,h4,g⟩:=h;cases rx;obtain⟨t,rfl⟩:=ry;obtain⟨its,r,p1,_⟩:=I.tuple (.inl (.inl ha));obtain⟨⟨cls,dd,data,sl⟩,ho,hc,n,hd⟩:=id p1;simp only at hc hd;subst hc hd;have hl:=r.length;have hne:¬its.toArray.isEmpty=true:=by simp;intro e;exact h3 (r.w6.mp e)
 refine CD (T:="tuple") (U:="int") (by decide) ⟨_,ho,rfl⟩ (λs'=>C0 s' k t) xq EM Ca vn Em.lookup
  (BL Ca (C0 s k t) En (D9 _ _) (wZ k t a its.toArray n dd sl)
   ⟨ho,rfl,⟨_,ho,rfl⟩,BL Dl ⟨_,ho,rfl⟩ FF (E9 _ _) (j4 a its.toArray n k t dd sl h1 h2 hne (by rw[Ae,<-hl];exact h4)) ⟨ho,?_⟩⟩)
 have e:=foldl_rep its k.toNat [];rw[DE]at e;have hz:(Ak k.toNat xs).flatten.length<=As:=by
  rw[len_rep,AV];have:k.toNat*xs.length<=1000*1000:=CJ (by omega) h4
  omega
 refine⟨.c s.heap.objs.size,_,I.laid (t':=s.toks) (o:=.c (Ak k.toNat xs).flatten) (λb ob q=>nx _ q) (Ac _) ⟨hz,(Ak k.toNat its).flatten,r.rep k.toNat,?_⟩,rfl,g.new _ (I.j.fresh (Ac _))⟩;rw[show (#[]:Array Value)=([]:List Value).toArray from rfl,e];exact tM.new _ _
end
end L2
end
section
namespace L2
open PySem PySem.Spec PyProof.Rows
section
variable {X:Cx}{pos:Pos}
def Wi(i j k:Nat)(ta:TA):TS:=λD σ H=>ta σ H λvs H1=>∃v w z,vs=[v,w,z]/\D.a (((σ.set i (some v)).set j (some w)).set k (some z)) H1
theorem vals3(r:Vals [x,y,z] us):∃u1 u2 u3,us=[u1,u2,u3]/\RelV x u1/\RelV y u2/\RelV z u3:=by
 cases r with
 |cons r1 r2=>
  cases r2 with
  |cons r3 r4=>
   cases r4 with
   |cons r5 r6=>cases r6;exact⟨_,_,_,rfl,r1,r3,r5⟩
theorem Xa{kt k2 pt2}(hc:X.j=true)(hN:X.N.Nodup)(hi:X.N[i]?=some x)(hj:X.N[j]?=some y)(hk:X.N[k]?=some z)(hij:i≠j)(hik:i≠k)(hjk:j≠k)
 (hx:X.a.scope.names.lookup x=some .local) (hy:X.a.scope.names.lookup y=some .local) (hz:X.a.scope.names.lookup z=some .local) (ha:PA X [a,b,c] ta)
 (hw:BQ [.Tuple [.Name x px,.Name y py,.Name z pz] kt pt] (.Tuple [a,b,c] k2 pt2) X.a=pure (some [x,y,z]))
 (hs:Eh [.Tuple [.Name x px,.Name y py,.Name z pz] kt pt] (.Tuple [a,b,c] k2 pt2) pos.line X.a=pure false:=by rfl) :
 PS X (.Assign [.Tuple [.Name x px,.Name y py,.Name z pz] kt pt] (.Tuple [a,b,c] k2 pt2) pos) (Wi i j k ta):=by
 intro pins s σ H D I h;rw[exec_Assign_arm];refine lp (Bi ?_);rw[hs];refine lp (Ag ?_);rw[if_neg (by decide)]
 refine lp (Tuple_ (thn (ha _ pins s σ H _ I h) λus s1 ⟨vs,H1,I1,r1,q1⟩=>?_));obtain⟨v,w,zz,e1,q1⟩:=q1;subst e1;obtain⟨u1,u2,u3,rfl,rv,rw',rz⟩:=vals3 r1;refine Bb ?_ (by show 3<=As;decide)
 have I2:Inv X pins σ H1 {s1 with heap:=s1.heap.push {cls:=.type "tuple",data:=.seq [u1,u2,u3].toArray}}:=I1.kept (t':=s1.toks) λb o e=>nx _ e
 rw[hw];refine lp (Ag ?_);show wpAny (model X.f X.w) X.A (do rule "assign.swapped-stores";let items <-unpackItems (.ref s1.heap.objs.size) 3 none;Eg [λv=>C6 X.a z v,λv=>C6 X.a y v,λv=>C6 X.a x v] items.reverse;pure GC) _ _ _
 refine lp (D0 (lp (unpackItems_tuple (items:=#[u1,u2,u3]) (I.B.i hc) (IsTup.new s1.heap _) λh' hx'=>?_)));have I3:=I2.kept (h':=h') (t':=s1.toks) λb o e=>hx' b o (AI (Ai e)) e;show wpAny _ _ (Eg [λv=>C6 X.a z v,λv=>C6 X.a y v,λv=>C6 X.a x v] [u3,u2,u1] >>= λ_=>pure GC) _ _ _;refine lp (Cm (D1 (xf I3 hN hk (.inl hz) rz (λs2 I4=>?_) (.inr hz))));refine Cm (D1 (xf I4 hN hj (.inl hy) rw' (λs3 I5=>?_) (.inr hy)));refine Cm (D1 (xf I5 hN hi (.inl hx) rv (λs4 I6=>Fx (Ag ?_)) (.inr hx)));refine⟨_,H1,?_,q1⟩;have e:((σ.set k (some zz)).set j (some w)).set i (some v)=((σ.set i (some v)).set j (some w)).set k (some zz):=by rw[Ff _ _ (Bt hij),Ff _ _ (Bt hik),Ff _ _ (Bt hjk)]
 rw[<-e];exact I6
end
mutual
inductive DD(H:Hp)(p:Addr):V->PyData->Prop
 |non:DD H p .g .none
 |bl (b:Bool):DD H p (.f b) (.bool b)
 |int (i:Int):DD H p (.d i) (.int i)
 |str (x:Str):DD H p (.e x) (.str x)
 |lst {a:Addr} {xs:List V} {ds:List PyData}:H a=some (.b xs)->a≠p->DDs H p xs ds->DD H p (.c a) (.list ds)
 |tup {a:Addr} {xs:List V} {ds:List PyData}:H a=some (.c xs)->a≠p->DDs H p xs ds->DD H p (.c a) (.tuple ds)
 |dct {a:Addr}:H a=some (.i [])->a≠p->DD H p (.c a) (.dict [])
inductive DDs(H:Hp)(p:Addr):List V->List PyData->Prop
 |b:DDs H p [] []
 |a {x:V} {xs:List V} {d:PyData} {ds:List PyData}:DD H p x d->DDs H p xs ds->DDs H p (x::xs) (d::ds)
end
theorem DDs.length:∀{vs} {ds},DDs H p vs ds->vs.length=ds.length
 |_,_,.b=>rfl
 |_,_,.a _ rs=>by rw[AF,AF,rs.length]
theorem DDs.append:∀{vs ws} {ds es},DDs H p vs ds->DDs H p ws es->DDs H p (vs++ws) (ds++es)
 |_,_,_,_,.b,r=>r
 |_,_,_,_,.a r rs,q=>.a r (rs.append q)
mutual
noncomputable def xZ:PyData->Bool
 |.none|.bool _|.int _|.str _=>false
 |.list _=>true
 |.tuple xs=>xp xs
 |.dict _=>false
noncomputable def xp:List PyData->Bool
 |[]=>false
 |x::xs=>xZ x||xp xs
end
structure WB(d:PyData):Prop where
 sh:d.showable=true
 a:d.hasDict=true->xZ d=false
 dp:d.depth<=50
 ln:d.shown.length<=As
end L2
end
section
namespace L2
open PySem PySem.Spec PyProof.Rows
structure oo(k w:Nat)(d:PyData):Prop where
 c:d.showable=true
 b:d.leavesShort 40=true
 a:d.depth<=k
 f:d.weight<=w
theorem bx(h1:-(10 ^ 30)<i)(h2:i<10 ^ 30):oo 0 100 (.int i):=by
 have hn:i.natAbs<10 ^ 30:=by omega
 have h100:i.natAbs<2 ^ 100:=Nat.lt_trans hn (by decide)
 have hlog:i.natAbs≠0->i.natAbs.log2<100:=λz=>(Nat.log2_lt z).mpr h100;refine⟨?_,?_,BC _,?_⟩
 . show decide (i.natAbs.log2<1920)=true
   by_cases z:i.natAbs=0
   . rw[z];decide
   . exact decide_eq_true (Nat.lt_trans (hlog z) (by decide))
 . show decide ((PyData.shown (.int i)).length<=40)=true
   refine decide_eq_true ?_;show (Df (toString i)).length<=40;by_cases z:0<=i
   . exact AD (toString_length_le z (k:=30) (by decide) h2) (by decide)
   . have e:=len_text_negI (n:=i) (by omega)
     have e2:=toString_length_le (v:=0-i) (k:=30) (by omega) (by decide) (by omega)
     omega
 . show (if i == 0 then 0 else i.natAbs.log2+1)<=100
   split
   . exact BC _
   . rename_i z
     have z':i≠0:=by simpa using z
     exact hlog (by omega)
theorem tP:∀{ds},(∀d∈ds,d.showable=true)->PyData.showableAll ds=true
 |[],_=>rfl
 |d::ds,h=>by rw[PyData.showableAll,h d Ap,tP λx hx=>h x (Ah _ hx)];rfl
theorem pW:∀{ds},(∀d∈ds,d.leavesShort 40=true)->PyData.leavesShortAll 40 ds=true
 |[],_=>rfl
 |d::ds,h=>by rw[PyData.leavesShortAll,h d Ap,pW λx hx=>h x (Ah _ hx)];rfl
theorem pV:∀{ds},(∀d∈ds,d.depth<=k)->PyData.depthAll ds<=k
 |[],_=>BC _
 |d::ds,h=>by rw[PyData.depthAll];exact Nat.max_le.mpr ⟨h d Ap,pV λx hx=>h x (Ah _ hx)⟩
theorem rq:∀{ds},(∀d∈ds,d.weight<=w)->FY ds<=ds.length*(w+1)
 |[],_=>by simp[FY]
 |d::ds,h=>by rw[FY,AF,FT];have h1:=h d Ap;have h2:=rq λx hx=>h x (Ah _ hx);omega
theorem kq(h:∀d∈ds,oo k w d)(hn:ds.length<=n):oo (k+1) (n*(w+1)) (.tuple ds):=by refine⟨tP λd hd=>(h d hd).c,pW λd hd=>(h d hd).b,Nat.succ_le_succ (pV λd hd=>(h d hd).a),?_⟩;exact AD (rq λd hd=>(h d hd).f) (Dm _ hn)
theorem oo.Ry(h:oo k w d)(hk:k<=50)(hw:w<=300000)(mix:d.hasDict=true->xZ d=false):WB d:=by
 refine⟨h.c,mix,AD h.a hk,?_⟩;have e:=PyData.shown_le 40 (by decide) d h.b
 have e2:=h.f;rw[AV];have:(40+2)*d.weight<=42*300000:=Dz _ (AD e2 hw);omega
theorem oJ:∀{ds},(∀d∈ds,d.hasDict=false)->PyData.hasDictAll ds=false
 |[],_=>rfl
 |d::ds,h=>by rw[PyData.hasDictAll,h d Ap,oJ λx hx=>h x (Ah _ hx)];rfl
end L2
end
section
namespace L2
open PySem PySem.Spec PyProof.Rows
section
variable {X:Cx}{pos:Pos}
theorem RQ(hg:Gl X x)(hm:X.d x=none)(hv:B7 x=some (.type n))(hn:x≠"__name__":=by decide)(hd:(x == ("__debug__":Str))=false:=by decide):PE X (.Name x pos) (tC (.k n)):=
 XN hg hm hv (show RelV (.k n) (.type n) from rfl) hn hd
theorem RX(ha:PT X a tA)(hb:PW X (.BoolOp .Or (b::rest) pos) tB'):PT X (.BoolOp .Or (a::b::rest) pos) (tOr tA tB'):=(Ra ha hb).pt
noncomputable def noStar:Expr->Bool
 |.Starred ..=>false
 |_=>true
theorem zg(h:noStar e=true):AJ (e::es) env=(false,eval e env)::AJ es env:=by
 cases e<;>first|rfl|cases h
theorem pac(ha:PE X e te)(hr:PA X es t)(hs:noStar e=true:=by rfl):PA X (e::es) (vU te t):=x8 ha hr (zg hs)
noncomputable def sV(sc0:Scope)(N0 N:List Str)(csc:Scope)(fr:List (Option Nat)):Bool:=
 decide (csc.kind=.function)&&csc.names.all (λx=>decide (x.2≠.cell)||csc.names.all λy=>decide (y≠(x.1,AH)))&&csc.names.all (λx=>decide (x.2≠.local)||decide (csc.names.lookup x.1=some .local)) &&
 csc.names.all (λx=>decide (x.2≠.free)||(decide (sc0.names.lookup x.1=some .cell)||decide (sc0.names.lookup x.1=some .free)))&&decide (fr.length=N.length) &&
 (Ao N.length).all (λi=>match fr[i]?,N[i]? with|some (some j),some x=>decide (N0[j]?=some x)&&csc.names.any (λy=>decide (y.1=x)&&decide (y.2=.free))|_,_=>true) &&
 csc.names.all (λx=>decide (x.2≠.free)||decide (csc.names.lookup x.1≠some .local))&&(decide (("!":Str) ∉ N)||(decide (("!":Str)∈N0)&&sc0.names.any (λy=>decide (sc0.names.lookup y.1=some .cell))))
end
end L2
end
section
namespace L2
open PySem PySem.Spec PyProof.Rows
noncomputable def z6{α:Type}(xs:List α)(lo st:Int)(n:Nat):List α:=(Ao n).filterMap λ(k:Nat)=>xs[(lo+(k:Int)*st).toNat]?
theorem Vals.pick(r:Vals xs us):∀(is:List Nat),Vals (is.filterMap λi=>xs[i]?) (is.filterMap λi=>us[i]?)
 |[]=>.nil
 |i::is=>by
  rw[A0,A0];cases hx:xs[i]? with
  |none=>rw[r.none_of hx];exact Vals.pick r is
  |some x=>
   obtain⟨u,hu,ru⟩:=r.get hx;rw[hu];exact .cons ru (Vals.pick r is)
theorem Vals.z6{xs:List V}{us:List Value}(r:Vals xs us)(lo st:Int)(n:Nat):Vals (z6 xs lo st n) (L2.z6 us lo st n):=by have h:=r.pick ((Ao n).map λ(k:Nat)=>(lo+(k:Int)*st).toNat);rw[B4,B4]at h;exact h
theorem lZ(xs:List α)lo st n:(z6 xs lo st n).length<=n:=by have:=FZ (λ(k:Nat)=>xs[(lo+(k:Int)*st).toNat]?) (Ao n);rw[Bx]at this;exact this
noncomputable def ym(n:Nat)(lo hi:Option Int)(st:Int):Int × Nat:=((AY lo hi st (n:Int)).1,Bu (AY lo hi st (n:Int)).1 (AY lo hi st (n:Int)).2 st)
section
variable {prog:Program}{w:World}{A:Around}{E:Value->Shared->Prop}{s:Shared}
theorem pO{lo hi}{st}{n:Nat}(hs:s.heap.IsSliceOf sl vl vu vc)(pl:IsPart vl lo)(pu:IsPart vu hi)(pc:IsPart vc (some st))(h0:st≠0)
 (h:Q ((ym n lo hi st).1,st,(ym n lo hi st).2) s):wpAny (model prog w) A (Cw (.ref sl) (pure (n:Int))) Q E s:=by
 obtain⟨os,hos,hcs,hds⟩:=id hs;unfold Cw FK;refine lp (lp (Cj hos hds (x:=vl) rfl (lp (Cj hos hds (x:=vu) rfl (lp (Cj hos hds (x:=vc) rfl (Ag ?_)))))));refine lp (HT.wk pc ?_);show wpAny _ _ (if (st == 0)=true then _ else _) _ _ s
 rw[if_neg (by simpa using h0)]
 exact lp (HT.wk pl (lp (HT.wk pu (lp (Ag (Ag h))))))
theorem Zh{lo hi}{st}(ht:IsTup s.heap t items)(hs:s.heap.IsSliceOf sl vl vu vc)(pl:IsPart vl lo)(pu:IsPart vu hi)(pc:IsPart vc (some st))(h0:st≠0)
 (hq1:(ym items.size lo hi st).1=0->st=1->(ym items.size lo hi st).2=items.size->Q (.ref t) s)
 (hq2:Q (.ref s.heap.objs.size) {s with heap:=s.heap.push {cls:=.type "tuple",data:=.seq (z6 items.toList (ym items.size lo hi st).1 st (ym items.size lo hi st).2).toArray}})
 (hsz:(ym items.size lo hi st).2<=As):wpAny (model prog w) A (getItem (.ref t) (.ref sl)) Q E s:=by
 obtain⟨os,hos,hcs,hds⟩:=id hs;have hTs:s.TypeIs (.ref sl) "slice":=⟨os,hos,hcs⟩;have htake:sizeOk (.seq (z6 items.toList (ym items.size lo hi st).1 st (ym items.size lo hi st).2).toArray):=by show (z6 items.toList (ym items.size lo hi st).1 st (ym items.size lo hi st).2).toArray.size<=As;rw[Ae];exact AD (lZ _ _ _ _) hsz
 have epick:((Ao (ym items.size lo hi st).2).filterMap λ(k:Nat)=>items[((ym items.size lo hi st).1+(k:Int)*st).toNat]?).toArray=(z6 items.toList (ym items.size lo hi st).1 st (ym items.size lo hi st).2).toArray:=by unfold z6;simp only[Array.getElem?_toList]
 unfold getItem
 try with_reducible refine B0 ?_
 first|refine lp (Ag ?_)|skip
 refine lp (FA ht.typeIs (by decide) ?_)
 refine lp (Cf (name:=Df "__getitem__") ht.typeIs AX
  (Dk AX ht.typeIs EX ?_ (E6 _ _)))
 show wpAny _ _ (Dw (.ref t) >>= _) _ _ s;refine lp (Ei ht ?_);refine lp (EK hTs ?_);rw[if_pos (by decide)]
 refine lp (pO (n:=items.size) hs pl pu pc h0 ?_);by_cases hw:((ym items.size lo hi st).1 == 0&&st == 1&&(ym items.size lo hi st).2 == items.size)=true
 . show wpAny _ _ (if ((ym items.size lo hi st).1 == 0&&st == 1&&(ym items.size lo hi st).2 == items.size)=true then _ else _) _ _ s
   rw[if_pos hw];simp only[cf,beq_iff_eq]at hw;unfold Fm;refine lp (lp (EK ht.typeIs (Ag ?_)));rw[if_pos (by decide)]
   exact lp (D0 (Ag ⟨_,rfl,Ag (hq1 hw.1.1 hw.1.2 hw.2)⟩))
 . show wpAny _ _ (if ((ym items.size lo hi st).1 == 0&&st == 1&&(ym items.size lo hi st).2 == items.size)=true then _ else _) _ _ s
   rw[if_neg hw,epick]
   first
    |exact lp (m:=Bj _) (Bb (Ag ⟨_,rfl,Ag hq2⟩) htake)
    |exact lp (lp (m:=Bj _) (Bb (Ag ⟨_,rfl,Ag hq2⟩) htake))
end
theorem la{α:Type}:∀xs:List α,(Ao xs.length).filterMap (λk=>xs[k]?)=xs
 |[]=>rfl
 |x::xs=>by
  rw[AF,List.range_succ_eq_map,A0,B4];show x::_=_;refine congrArg (x::·) (Eq.trans ?_ (la xs))
  congr 1
theorem jV(xs:List α):z6 xs 0 1 xs.length=xs:=by
 unfold z6;have e:(λ(k:Nat)=>xs[(0+(k:Int)*1).toNat]?)=λk=>xs[k]?:=by funext k;rw[show (0+(k:Int)*1).toNat=k by omega]
 rw[e];exact la xs
def Qh:V->Option Int->Option Int->Option Int->Hp->VK->Prop:=λx lo hi st H Q=>∃a xs c,x=.c a/\H a=some (.c xs)/\st=some c/\c≠0/\(ym xs.length lo hi c).2<=As/\rK H (z6 xs (ym xs.length lo hi c).1 c (ym xs.length lo hi c).2) Q
def QC(r:V->Option Int->Option Int->Option Int->Hp->VK->Prop)(te:TE)(tl th tc:TO):TE:=λσ H Q=>te σ H λx H1=>tl σ H1 λl H2=>th σ H2 λu H3=>tc σ H3 λc H4=>r x l u c H4 Q
theorem fv{lo hi}{st}(he:PE X e te)(hl:PO X lo tl)(hu:PO X hi th)(hc:PO X (some st) tc):PE X (.Subscript e (.Slice lo hi (some st) p2) pos) (QC Qh te tl th tc):=by
 intro pins s σ H Q I h;refine Gu (thn (he pins s σ H _ I h) λv s1 ⟨x,H1,I1,r1,q1⟩=>?_);refine wpAny_Slice (thn (hl pins s1 σ H1 _ I1 q1) λvl s2 ⟨l,H2,I2,pl,q2⟩=>thn (hu pins s2 σ H2 _ I2 q2) λvu s3 ⟨u,H3,I3,pu,q3⟩=>thn (hc pins s3 σ H3 _ I3 q3) λvc s4 ⟨c,H4,I4,pc,q4⟩=>?_);obtain⟨a,xs,cc,rfl,hx,ec,h0,hsz,g⟩:=q4;subst ec;cases r1;have I5:Inv X pins σ H4 {s4 with heap:=s4.heap.push {cls:=.type "slice",data:=.fields #[vl,vu,vc]}}:=I4.kept (t':=s4.toks) λb ob q=>nx _ q
 obtain⟨its,r,ht,hz⟩:=I5.tuple (.inl (.inl hx));have hlen:its.toArray.size=xs.length:=by rw[Ae];exact r.length.symm
 show wpAny (model X.f X.w) X.A (Fi e (.Slice lo hi (some st) p2) (.ref a) (.ref s4.heap.objs.size)) (EP X pins σ Q) X.i {s4 with heap:=s4.heap.push {cls:=.type "slice",data:=.fields #[vl,vu,vc]}}
 refine tail_any (ops:=[.ref a,.ref s4.heap.objs.size]) ht.typeIs AX.lookup (Zh ht (E7 ..) pl pu pc h0 (λz1 z2 z3=>?_) ?_ (by rw[hlen];exact hsz)) (by with_unfolding_all rfl)
 . refine⟨.c a,H4,I5,rfl,g a H4 (wH.refl H4) ?_⟩
   rw[hlen]at z1 z3;rw[hx,z1,z3,z2,jV]
 . rw[hlen]
   refine⟨.c _,_,I5.laid (t':=s4.toks) (o:=.c (z6 xs (ym xs.length l u cc).1 cc (ym xs.length l u cc).2)) (λb ob q=>nx _ q) (Ac _) ?_,rfl,g.new _ (I5.j.fresh (Ac _))⟩;refine⟨AD (lZ _ _ _ _) hsz,_,r.z6 _ _ _,?_⟩;exact tM.new _ _
end L2
end
section
namespace L2
open PySem PyProof.Rows
section
variable {X:Cx}
noncomputable def vp(d:Int):List Int->Int
 |[]=>d
 |n::ns=>ns.foldl (λa b=>if b > a then b else a) n
theorem qJ:∀(ns:List Int) a,a<=ns.foldl (λa b=>if b > a then b else a) a/\(∀x∈ns,x<=ns.foldl (λa b=>if b > a then b else a) a)/\(ns.foldl (λa b=>if b > a then b else a) a=a\/ns.foldl (λa b=>if b > a then b else a) a∈ns)
 |[],a=>⟨Ee _,λ_ h=>(nomatch h),.inl rfl⟩
 |n::ns,a=>by
  obtain⟨h1,h2,h3⟩:=qJ ns (if n > a then n else a)
  show a<=ns.foldl _ (if n > a then n else a)/\_
  have hc:a<=(if n > a then n else a)/\n<=(if n > a then n else a):=by split<;>omega
  refine⟨EO hc.1 h1,λx hx=>?_,?_⟩
  . rcases Aj.mp hx with e|hx
    . rw[e];exact EO hc.2 h1
    . exact h2 x hx
  . rcases h3 with h3|h3
    . show ns.foldl _ (if n > a then n else a)=a\/ns.foldl _ (if n > a then n else a)∈n::ns
      rw[h3];split
      . exact .inr (Ap ..)
      . exact .inl rfl
    . exact .inr (Ah _ h3)
theorem jB(h:ns≠[]):vp d ns∈ns/\∀x∈ns,x<=vp d ns:=by
 cases ns with
 |nil=>exact absurd rfl h
 |cons n ns=>
  obtain⟨h1,h2,h3⟩:=qJ ns n;refine⟨?_,λx hx=>?_⟩
  . rcases h3 with h3|h3
    . show ns.foldl _ n∈_;rw[h3];exact Ap ..
    . exact Ah _ h3
  . rcases Aj.mp hx with e|hx
    . rw[e];exact h1
    . exact h2 x hx
theorem lG(h1:M∈ns)(h2:∀x∈ns,x<=M):vp d ns=M:=by
 have hne:ns≠[]:=λe=>by rw[e]at h1;exact nomatch h1
 obtain⟨a,b⟩:=jB (d:=d) hne;exact Int.le_antisymm (h2 _ a) (b _ h1)
theorem Vals.ints:∀{ns:List Int} {us},Vals (ns.map V.d) us->∀{i:Nat} {v},us[i]?=some v->∃t,v=.int (ns.getD i 0) t
 |[],_,.nil,_,_,h=>by cases h
 |n::ns,_,.cons r rs,0,v,h=>by
  obtain⟨t,e⟩:=r;have:v=.int n t:=(AA h).symm.trans e;exact⟨t,this⟩
 |n::ns,_,.cons r rs,i+1,v,h=>by have:=Vals.ints rs (i:=i) (v:=v) h;exact this
end
end L2
end
section
namespace L2
open PySem PyProof PyProof.Rows
section
variable {X:Cx}
theorem jz l items n u dd sl :
 Meets (Builtin.«tuple.__mul__» ⟨[.ref l,.int 1 u],[]⟩) (λ_ R s=>s.heap.get? l=some {cls:=.type "tuple",dict:=dd,data:=.seq items n,slots:=sl}/\R (.ok (.ret (A2 l))) s):=
 .of_wp λprog w A R s h=>by
  obtain⟨hp,g,d,tk,os⟩:=s;obtain⟨hl,h⟩:=h;have f1:=FX;have c1:¬((decide ((1:Int) < -(2 ^ 63))||decide ((1:Int) ≥ 2 ^ 63))=true):=by decide
  have c2:((items.isEmpty||((1:Int) == 1))=true):=by simp
  wp_walk using BM hl
  exact⟨_,rfl,h⟩
theorem jy l items n x u dd sl(h1:x<=0)(h2:-1000<=x)(h3:¬items.isEmpty=true) :
 Meets (Builtin.«tuple.__mul__» ⟨[.ref l,.int x u],[]⟩) (λ_ R s=>s.heap.get? l=some {cls:=.type "tuple",dict:=dd,data:=.seq items n,slots:=sl} /\
  R (.ok (.ret (A2 s.heap.objs.size))) {s with heap:=s.heap.push {cls:=FI "tuple",data:=Data.seq #[]},toks:=s.toks}):=
 .of_wp λprog w A R s h=>by
  obtain⟨hp,g,d,tk,os⟩:=s;obtain⟨hl,h⟩:=h;have f1:=FX;have c1:¬((decide (x < -(2 ^ 63))||decide (x ≥ 2 ^ 63))=true):=by simp;omega
  have c2:¬((items.isEmpty||x == 1)=true):=by simp at h3 ⊢;exact⟨h3,by omega⟩
  have c3:((decide (x<=0)||items.isEmpty)=true):=by simp;exact .inl h1
  wp_walk using BM hl
  rw[if_neg c1];refine lp (Ei (items:=items) ⟨_,hl,rfl,n,rfl⟩ ?_);rw[if_neg c2];show wpAny _ _ (if (decide (x<=0)||items.isEmpty)=true then _ else _) _ _ _
  rw[if_pos c3];exact lp (m:=Bj _) (Bb (Ag ⟨_,rfl,h⟩))
def Rl:R2:=λx y H Q=>∃a k xs,x=.c a/\y=.d k/\H a=some (.c xs)∧-1000<=k/\k<=1000/\xs≠[]/\xs.length<=1000/\rK H (Ak k.toNat xs).flatten Q
theorem XA:OpR X (Br .Mult) Rl:=by
 intro pins s σ H x y v u Q I rx ry h;obtain⟨a,k,xs,rfl,rfl,ha,h1,h2,h3,h4,g⟩:=h;by_cases hk2:2<=k
 . exact XD pins s σ H _ _ v u Q I rx ry ⟨a,k,xs,rfl,rfl,ha,hk2,h2,h3,h4,g⟩
 cases rx;obtain⟨t,rfl⟩:=ry;obtain⟨its,r,p1,_⟩:=I.tuple (.inl (.inl ha));obtain⟨⟨cls,dd,data,sl⟩,ho,hc,n,hd⟩:=id p1;simp only at hc hd;subst hc hd;by_cases hk1:k=1
 . subst hk1
   refine CD (T:="tuple") (U:="int") (by decide) ⟨_,ho,rfl⟩ (λs'=>C0 s' 1 t) xq EM Ca vn Em.lookup
    (BL Ca (C0 s 1 t) En (D9 _ _) (wZ 1 t a its.toArray n dd sl)
     ⟨ho,rfl,⟨_,ho,rfl⟩,BL Dl ⟨_,ho,rfl⟩ FF (E9 _ _) (jz a its.toArray n t dd sl) ⟨ho,?_⟩⟩)
   refine⟨.c a,H,I,rfl,g a H (wH.refl H) ?_⟩;rw[ha];simp
 . have hne:¬its.toArray.isEmpty=true:=by simp;intro e;exact h3 (r.w6.mp e)
   have e0:k.toNat=0:=by omega
   refine CD (T:="tuple") (U:="int") (by decide) ⟨_,ho,rfl⟩ (λs'=>C0 s' k t) xq EM Ca vn Em.lookup
    (BL Ca (C0 s k t) En (D9 _ _) (wZ k t a its.toArray n dd sl)
     ⟨ho,rfl,⟨_,ho,rfl⟩,BL Dl ⟨_,ho,rfl⟩ FF (E9 _ _) (jy a its.toArray n k t dd sl (by omega) h1 hne) ⟨ho,?_⟩⟩)
   rw[e0]at g;refine⟨.c s.heap.objs.size,_,I.laid (t':=s.toks) (o:=.c []) (λb ob q=>nx _ q) (Ac _) ⟨BC _,[],.nil,tM.new _ _⟩,rfl,g.new _ (I.j.fresh (Ac _))⟩
noncomputable def jZ(a b c:Int):List Int:=(Ao (Ce a b c).toNat).map λ(i:Nat)=>a+(i:Int)*c
end
end L2
end
section
namespace L2
open PySem PyProof PyProof.Rows
section
variable {X:Cx}
theorem sY:∀{xs} {us},Vals xs us->xs.all xh=true->us.countP (eqU x)=xs.countP λy=>eqV y x
 |_,_,.nil,_=>rfl
 |y::ys,u::us,.cons r rs,h=>by rw[BR,cf]at h;rw[CP,CP,sY rs h.2,nM r h.1]
def qr(K:Af)(tup:Bool):V->List V->Hp->VK->Prop:=λx vs H Q=>∃t xs y,x=.c t/\vs=[y]/\(if tup=true then SqT K H t xs else SqL K H t xs)/\xh y=true/\xs.all xh=true/\Q (.d (xs.countP λz=>eqV z y:Nat)) H
theorem fP:MtR X "tuple.count" (qr X.K true):=by
 intro pins s σ H x xs v us Q I rx rs h;obtain⟨t,ys,y,rfl,rfl,ht,fy,fs,q⟩:=h;cases rx;obtain⟨u,rfl,ru⟩:=vals1 rs;obtain⟨its,r,p1,_⟩:=I.tuple ht;obtain⟨⟨cls,dd,data,sl⟩,ho,hc,n,hd⟩:=id p1;simp only at hc hd;subst hc hd;refine BL F.slot_tuple_count ⟨_,ho,rfl⟩ F.entry_tuple_count (F.args_tuple_count_2 _ _) (SeqAt.tuple_countAt t its.toArray n dd sl u (eqU y)) ⟨ho,λw hw=>vR ru fy r fs w (by simpa using hw),?_⟩
 rw[show its.toArray.toList=its from rfl,sY r fs];exact⟨.d _,H,I.tok _,⟨s.toks,rfl⟩,q⟩
theorem fO:MtR X "list.count" (qr X.K false):=by
 intro pins s σ H x xs v us Q I rx rs h;obtain⟨t,ys,y,rfl,rfl,ht,fy,fs,q⟩:=h;cases rx;obtain⟨u,rfl,ru⟩:=vals1 rs;obtain⟨its,r,p1,_⟩:=I.list ht;obtain⟨⟨cls,dd,data,sl⟩,ho,hc,n,hd⟩:=id p1.isList;simp only at hc hd;subst hc hd;refine BL F.slot_list_count ⟨_,ho,rfl⟩ F.entry_list_count (F.args_list_count_2 _ _) (SeqAt.list_countAt t its.toArray n dd sl u (eqU y)) ⟨ho,λw hw=>vR ru fy r fs w (by simpa using hw),?_⟩
 rw[show its.toArray.toList=its from rfl,sY r fs];exact⟨.d _,H,I.tok _,⟨s.toks,rfl⟩,q⟩
theorem u6 h:∀ns:List Int,((ns.map V.d).countP λz=>eqV z (.d h))=ns.count h
 |[]=>rfl
 |n::ns=>by rw[AN,CP,u6 h ns,List.count_cons];rfl
theorem sZ:∀ns:List Int,(ns.map V.d).all xh=true
 |[]=>rfl
 |n::ns=>by rw[AN,BR,sZ ns];rfl
noncomputable def uK(d:Int):List Int->Int
 |[]=>d
 |n::ns=>ns.foldl (λa b=>if b<a then b else a) n
theorem qK:∀(ns:List Int) a,ns.foldl (λa b=>if b<a then b else a) a<=a/\(∀x∈ns,ns.foldl (λa b=>if b<a then b else a) a<=x)/\(ns.foldl (λa b=>if b<a then b else a) a=a\/ns.foldl (λa b=>if b<a then b else a) a∈ns)
 |[],a=>⟨Ee _,λ_ h=>(nomatch h),.inl rfl⟩
 |n::ns,a=>by
  obtain⟨h1,h2,h3⟩:=qK ns (if n<a then n else a)
  show ns.foldl _ (if n<a then n else a)<=a/\_
  have hc:(if n<a then n else a)<=a/\(if n<a then n else a)<=n:=by split<;>omega
  refine⟨EO h1 hc.1,λx hx=>?_,?_⟩
  . rcases Aj.mp hx with e|hx
    . rw[e];exact EO h1 hc.2
    . exact h2 x hx
  . rcases h3 with h3|h3
    . show ns.foldl _ (if n<a then n else a)=a\/ns.foldl _ (if n<a then n else a)∈n::ns
      rw[h3];split
      . exact .inr (Ap ..)
      . exact .inl rfl
    . exact .inr (Ah _ h3)
theorem jD(h:ns≠[]):uK d ns∈ns/\∀x∈ns,uK d ns<=x:=by
 cases ns with
 |nil=>exact absurd rfl h
 |cons n ns=>
  obtain⟨h1,h2,h3⟩:=qK ns n;refine⟨?_,λx hx=>?_⟩
  . rcases h3 with h3|h3
    . show ns.foldl _ n∈_;rw[h3];exact Ap ..
    . exact Ah _ h3
  . rcases Aj.mp hx with e|hx
    . rw[e];exact h1
    . exact h2 x hx
theorem lJ(h1:M∈ns)(h2:∀x∈ns,M<=x):uK d ns=M:=by
 have hne:ns≠[]:=λe=>by rw[e]at h1;exact nomatch h1
 obtain⟨a,b⟩:=jD (d:=d) hne;exact Int.le_antisymm (b _ h1) (h2 _ a)
def Wa(K:Af)(g:List Int->Int):List V->Hp->VK->Prop:=λxs H Q=>∃(a:Addr) (ns:List Int),xs=[.c a]/\SqL K H a (ns.map V.d)/\ns≠[]/\Q (.d (g ns)) H
theorem gb(hc:X.j=true):yV X (.builtin "max") (Wa X.K (vp 0)):=by
 intro pins s σ H xs us Q I r h;obtain⟨a,ns,rfl,ha,hne,q⟩:=h;obtain⟨u,rfl,ru⟩:=vals1 r;cases ru;obtain⟨its,rv,pl,hz⟩:=I.list ha;have hlen:=rv.length;have alt:a<s.heap.objs.size:=by obtain⟨o,ho,_⟩:=pl.isList;exact Ai ho
 have hl:its.toArray.size=ns.length:=by rw[Ae,<-hlen,Ab]
 have hpos:0<ns.length:=DA.mpr hne;have hat:∀(i:Nat) (v:Value),its.toArray[i]?=some v->∃t,v=.int (ns.getD i 0) t:=λi v hv=>rv.ints (by simpa using hv)
 refine call_max_walk (D8 pl.isList ?_);refine⟨s.heap.objs.size,_,_,_,_,_,_,rfl,Walks.list (A:=X.A.in1) (I.B.i hc) s.heap.objs.size a (AI alt) its.toArray,⟨⟨_,Az _ rfl,rfl,rfl⟩,?_⟩,λb hb=>?_,by omega,CmpOf.ints_gt (λi=>ns.getD i 0) hat,λv h' tk hP hk=>?_⟩
 . obtain⟨o,ho,hc',n,hd⟩:=pl.isList
   exact⟨o,nx _ ho,hc',n,hd⟩
 . rw[Bc]
   simp only[Aj,Bs,or_false]at hb;rcases hb with e|e
   . rw[e];exact CQ _
   . rw[e];exact Cz alt
 . obtain⟨t,rfl⟩:=hat _ _ hP
   obtain⟨b1,b2⟩:=argBest_gt (λi=>ns.getD i 0) (its.toArray.size-1);have e:vp 0 ns=ns.getD (argBest (λi j=>decide (ns.getD i 0 > ns.getD j 0)) (its.toArray.size-1)) 0:=by
    refine lG ?_ λx hx=>?_
    . have:argBest (λi j=>decide (ns.getD i 0 > ns.getD j 0)) (its.toArray.size-1)<ns.length:=by omega
      rw[Aw,Aa this];exact Dn this
    . obtain⟨i,hi,rfl⟩:=BI hx
      have:=b2 i (by omega)
      simpa [Aw,Aa hi] using this
   refine⟨.d (vp 0 ns),H,I.kept λb o ho=>hk b o ?_ (nx _ ho),⟨t,by rw[e]⟩,q⟩
   simpa using AI (Ai ho)
theorem gg(hc:X.j=true):yV X (.builtin "min") (Wa X.K (uK 0)):=by
 intro pins s σ H xs us Q I r h;obtain⟨a,ns,rfl,ha,hne,q⟩:=h;obtain⟨u,rfl,ru⟩:=vals1 r;cases ru;obtain⟨its,rv,pl,hz⟩:=I.list ha;have hlen:=rv.length;have alt:a<s.heap.objs.size:=by obtain⟨o,ho,_⟩:=pl.isList;exact Ai ho
 have hl:its.toArray.size=ns.length:=by rw[Ae,<-hlen,Ab]
 have hpos:0<ns.length:=DA.mpr hne;have hat:∀(i:Nat) (v:Value),its.toArray[i]?=some v->∃t,v=.int (ns.getD i 0) t:=λi v hv=>rv.ints (by simpa using hv)
 refine call_min_walk (D8 pl.isList ?_);refine⟨s.heap.objs.size,_,_,_,_,_,_,rfl,Walks.list (A:=X.A.in1) (I.B.i hc) s.heap.objs.size a (AI alt) its.toArray,⟨⟨_,Az _ rfl,rfl,rfl⟩,?_⟩,λb hb=>?_,by omega,CmpOf.ints_lt (λi=>ns.getD i 0) hat,λv h' tk hP hk=>?_⟩
 . obtain⟨o,ho,hc',n,hd⟩:=pl.isList
   exact⟨o,nx _ ho,hc',n,hd⟩
 . rw[Bc]
   simp only[Aj,Bs,or_false]at hb;rcases hb with e|e
   . rw[e];exact CQ _
   . rw[e];exact Cz alt
 . obtain⟨t,rfl⟩:=hat _ _ hP
   obtain⟨b1,b2⟩:=argBest_lt (λi=>ns.getD i 0) (its.toArray.size-1);have e:uK 0 ns=ns.getD (argBest (λi j=>decide (ns.getD i 0<ns.getD j 0)) (its.toArray.size-1)) 0:=by
    refine lJ ?_ λx hx=>?_
    . have:argBest (λi j=>decide (ns.getD i 0<ns.getD j 0)) (its.toArray.size-1)<ns.length:=by omega
      rw[Aw,Aa this];exact Dn this
    . obtain⟨i,hi,rfl⟩:=BI hx
      have:=b2 i (by omega)
      simpa [Aw,Aa hi] using this
   refine⟨.d (uK 0 ns),H,I.kept λb o ho=>hk b o ?_ (nx _ ho),⟨t,by rw[e]⟩,q⟩
   simpa using AI (Ai ho)
theorem fq{o e:Expr}{to te:TE}{apos cpos:Pos}{es:List Expr}(ho:PE X o to)(he:PE X e te)(hbase:CY o "append" X.a (eval o X.a)=eval o X.a:=by rfl)(hst:noStar e=true:=by rfl)(hline:(apos.endLine == cpos.line)=true:=by rfl) :
 PE X (.Call (.Attribute o "append" apos) [e] [] cpos) (tBM X.K "list" gG to (vU te rV)):=by
 have hs1:AJ [e] X.a=(false,eval e X.a)::AJ [] X.a:=zg hst;refine aT D6 PySem.F.slot_list_append PySem.F.type_list_append oH ho (pac he xI hst) hbase ?_ hline hs1 rfl;rw[hs1];rfl
theorem oM(ho:PE X o to)(he:PE X e te)(hbase:CY o "count" X.a (eval o X.a)=eval o X.a:=by rfl)(hst:noStar e=true:=by rfl)(hline:(apos.endLine == cpos.line)=true:=by rfl) :
 PE X (.Call (.Attribute o "count" apos) [e] [] cpos) (tBM X.K "list" (qr X.K false) to (vU te rV)):=by
 have hs1:AJ [e] X.a=(false,eval e X.a)::AJ [] X.a:=zg hst;refine aT D6 PySem.F.slot_list_count PySem.F.type_list_count fO ho (pac he xI hst) hbase ?_ hline hs1 rfl;rw[hs1];rfl
def Qn(r:V->List V->Hp->VK->Prop)(to:TE)(t:TA):TE:=λσ H Q=>to σ H λx H1=>(∃a xs,x=.c a/\H1 a=some (.c xs))/\t σ H1 λxs H2=>r x xs H2 Q
theorem ft(ho:PE X o to)(he:PE X e te)(hbase:CY o "count" X.a (eval o X.a)=eval o X.a:=by rfl)(hst:noStar e=true:=by rfl)(hline:(apos.endLine == cpos.line)=true:=by rfl) :
 PE X (.Call (.Attribute o "count" apos) [e] [] cpos) (Qn (qr X.K true) to (vU te rV)):=by
 have hs1:AJ [e] X.a=(false,eval e X.a)::AJ [] X.a:=zg hst;intro pins s σ H Q I h;refine wpAny_Call_method_late hbase (by rw[hs1];rfl) hline rfl (thn (ho pins s σ H _ I h) λv s1 ⟨x,H1,I1,r1,ty,q1⟩=>?_)
 obtain⟨a,xs,rfl,hx⟩:=ty;cases r1;obtain⟨z,its,rv,ob,e1,c1,n,d1,nd⟩:=(show yL X.f X.w H1 s1.heap a (.c xs) from I1.j a _ hx);refine⟨"tuple",_,PySem.F.plainAttrs_tuple,PySem.F.slot_tuple_count,PySem.F.type_tuple_count,⟨ob,e1,c1⟩,λb hb=>?_,?_⟩
 . cases hb;exact⟨ob,e1,nd⟩
 have hA:=(pac he xI hst:PA X [e] _) cpos pins s1 σ H1 _ I1 q1;rw[hs1]at hA ⊢;refine Calls.callWith_builtin rfl (EL ?_);exact thn hA λus s2 ⟨vs,H2,I2,r2,q2⟩=>fP pins s2 σ H2 (.c a) vs _ us Q I2 rfl r2 q2
end
end L2
namespace L2
open PySem
end L2
end
section
namespace L2
open PySem PySem.W PySem.Calls PyProof PyProof.Rows
noncomputable def xg(z:Int × Int):Int:=z.1*1000+z.2
theorem dz(ha:0<=a.2/\a.2<1000)(hb:0<=b.2/\b.2<1000):xg a<xg b↔a.1<b.1\/a.1=b.1/\a.2<b.2:=by unfold xg;omega
theorem gk(ha:0<=a.2/\a.2<1000)(hb:0<=b.2/\b.2<1000)(e:xg a=xg b):a=b:=by
 unfold xg at e;have h1:a.1=b.1:=by omega
 have h2:a.2=b.2:=by omega
 exact CL h1 h2
end L2
end
section
namespace L2
open PySem PySem.W PySem.Calls PyProof PyProof.Rows
noncomputable def pL:List Int->List Int->Bool
 |x::xs,y::ys=>if x=y then pL xs ys else decide (x<y)
 |_,_=>false
end L2
end
section
namespace L2
open PySem PySem.W PySem.Calls PyProof PyProof.Rows
noncomputable def Sg:List Int->List Int->Bool
 |x::xs,y::ys=>if x=y then Sg xs ys else decide (x<y)
 |[],_::_=>true
 |_,[]=>false
def SI(z:List Int):List (List Int)->List (List Int)
 |[]=>[z]
 |y::ys=>if Sg y z then y::SI z ys else z::y::ys
def We:List (List Int)->List (List Int)
 |[]=>[]
 |z::zs=>SI z (We zs)
end L2
end
section
namespace L2
open PySem PyProof.Rows
section
variable {X:Cx}{N:List Str}{csc:Scope}{fr:List (Option Nat)}{elt tg iter tg2 iter2:Expr}{ifs ifs2:List Expr}{cpos:Pos}{wi wi2:TI}{g g2:TG}{ts ts2:List TT}{te:TE}
theorem aj(hc:X.j=true)(S:zo X N csc fr)(hi:PI X tg iter wi)(hg:∀C s0 H0 ex,PG (X.comp N csc C s0 H0 ex) tg g)(ht:∀C s0 H0 ex,PTs (X.comp N csc C s0 H0 ex) ifs ts)
 (hi2:∀C s0 H0 ex,PI (X.comp N csc C s0 H0 ex) tg2 iter2 wi2) (hg2:∀C s0 H0 ex,PG (X.comp N csc C s0 H0 ex) tg2 g2) (ht2:∀C s0 H0 ex,PTs (X.comp N csc C s0 H0 ex) ifs2 ts2)
 (he:∀C s0 H0 ex,PE (X.comp N csc C s0 H0 ex) elt te) (hN:X.N.Nodup) (hy:X.N[i]?=some y) (hx:Loc X.a.scope y)
 (hsw:Eu (.ListComp elt [⟨tg,iter,ifs,0⟩,⟨tg2,iter2,ifs2,0⟩] csc cpos) (some (.Name y py)) spos.line X.a=pure true:=by rfl)
 (hf:X.n y=true\/X.a.scope.names.lookup y=some .local:=by first|exact .inl rfl|exact .inr rfl|assumption)
 (hs:∀x,AZ iter X.a x=pure x:=by intro _;rfl)
 (hs2:∀env x,AZ iter2 env x=pure x:=by intro _ _;rfl) :
 PS X (.Assign [.Name y py] (.ListComp elt [⟨tg,iter,ifs,0⟩,⟨tg2,iter2,ifs2,0⟩] csc cpos) spos) (um (uP fr wi g ts λacc=>q0 wi2 g2 ts2 (uu acc te)) (wA i)):=
 lh hc S hi (B:=λacc env=>(do
         let x <-eval iter2 env
         standAt iter2.pos
         let x <-AZ iter2 env x;let _ <-runOwn (.compStart (.ListComp elt [⟨tg,iter,ifs,0⟩,⟨tg2,iter2,ifs2,0⟩] csc cpos) 1 (<-holding [x] (pyIter x)) acc env) env)) (Wm elt tg iter ifs tg2 iter2 ifs2 csc cpos) hg ht
  (λC s0 H0 ex acc=>lT rfl hc (hi2 C s0 H0 ex) (hg2 C s0 H0 ex) (ht2 C s0 H0 ex) (rj (he C s0 H0 ex)) (hs2 _)) hN hy hx hsw hf hs
end
end L2
end
section
namespace L2
open PySem PySem.Calls PyProof PyProof.Rows
open AutoSeq1 (wpAny_loadPart')
section
variable {prog:Program}{w:World}{A:Around}{E:Value->Shared->Prop}{s:Shared}
theorem rT(hit:s.heap.IsTupleIter it t i)(ht:s.heap.IsTuple t items)(hx:items[i]?=some x)
 (hQ:∀h',h'.IsTupleIter it t (i+1)->DK it s.heap h'->Q x {s with heap:=h'}):wpAny (model prog w) A (CG (.ref it)) Q E s:=by
 obtain⟨o,ho,hc,hd⟩:=id hit;obtain⟨ol,hol,_,nl,hdl⟩:=ht;unfold CG;refine lp (Cf (name:=Df "__next__") hit.typeIs Cy
  (Dk Cy hit.typeIs Fb ?_ (E2 _)))
 show wpAny _ _ (field (.ref it) 0 >>= _) _ _ s;refine lp (Cj ho hd (x:=.ref t) rfl ?_);show wpAny _ _ (if (A2 t == Ci)=true then _ else _) _ _ s
 rw[if_neg (show ¬((A2 t == Ci)=true) from xd)];show wpAny _ _ (field (.ref it) 1 >>= _) _ _ s;refine lp (Cj ho hd (x:=.int i 0) rfl ?_);show wpAny _ _ (seqItems? (.ref t) >>= _) _ _ s;refine lp (wpAny_seqItems hol hdl ?_);simp only[Bl,hx];refine lp (Gp ho hd (by simp) (Ag ⟨x,rfl,Ag (hQ _ ?_ (DK.update ..))⟩))
 exact⟨_,Ey _ ho (Obj.isFreed_of_fields (Obj.data_mapFields hd _)),(Obj.cls_mapFields ..).trans hc,by
  rw[Obj.data_mapFields hd];simp[rawInt]⟩
theorem qZ(hh:A.handled=none)(hit:s.heap.IsTupleIter it t i)(ht:s.heap.IsTuple t items)(hx:items[i]?=none)
 (hE:∀h' e,Heap.ExtBut it s.heap h'->(∃o,h'.get? e=some o/\o.cls=.type "StopIteration")->E (.ref e) {s with heap:=h'}):wpAny (model prog w) A (CG (.ref it)) Q E s:=by
 obtain⟨o,ho,hc,hd⟩:=id hit;obtain⟨ol,hol,_,nl,hdl⟩:=ht;unfold CG;refine lp (Cf (name:=Df "__next__") hit.typeIs Cy
  (Dk Cy hit.typeIs Fb ?_ (E2 _)))
 show wpAny _ _ (field (.ref it) 0 >>= _) _ _ s;refine lp (Cj ho hd (x:=.ref t) rfl ?_);show wpAny _ _ (if (A2 t == Ci)=true then _ else _) _ _ s
 rw[if_neg (show ¬((A2 t == Ci)=true) from xd)];show wpAny _ _ (field (.ref it) 1 >>= _) _ _ s;refine lp (Cj ho hd (x:=.int i 0) rfl ?_);show wpAny _ _ (seqItems? (.ref t) >>= _) _ _ s;refine lp (wpAny_seqItems hol hdl ?_);simp only[Bl,hx]
 first
  |refine lp (D0 (lp (Gp ho hd (by simp) ?_)))
  |refine lp (Gp ho hd (by simp) ?_)
 first
  |show wpAny _ _ (newExc (.type "StopIteration") [] >>= _) _ _ _
  |(refine lp (wpAny_letGo ?_);show wpAny _ _ (newExc (.type "StopIteration") [] >>= _) _ _ _)
 refine lp ?_;simp only[newExc,newTuple];refine lp (Bb ?_ (by size_fits))
 refine lp (m:=firstArgMember _ _) (wpAny_of_eq (a:=Ci) (by first|rfl|(simp only[firstArgMember];rfl)) ?_)
 refine Bb ?_ (by size_fits)
 simp only[raiseNew];refine lp (wpAny_handled ?_)
 first|rw[show A.in1.handled=none from hh]|rw[hh]
 refine lp (Ag (wpAny_throw ?_));exact hE _ _ (((DK.update ..).extBut.push _).push _) ⟨_,Az _ rfl,rfl⟩
end
theorem pv(hh:A.handled=none)it t(hne:t≠it)items :
 Draws prog w A it [it,t] items.size (λi v=>items[i]?=some v) (λi h=>h.IsTupleIter it t i/\h.IsTuple t items) where
 live:=λ_ _ st=>let ⟨o,ho,_⟩:=st.1;⟨o,ho⟩
 frame:=λ_ _ _ st hk=>⟨st.1.at λo e=>hk it (by simp) o e,let ⟨o,ho,r⟩:=st.2;⟨o,hk t (by simp) o ho,r⟩⟩
 item:=λi s Q E hi st hQ=>by
  refine rT st.1 st.2 (x:=items[i]) (by simp[hi]) λh' hit' hs'=>?_
  exact hQ _ h' s.toks (by simp[hi]) ⟨hit',let ⟨o,ho,r⟩:=st.2;⟨o,hs'.extBut t o hne ho,r⟩⟩ hs'
 done:=λs Q E st hE=>qZ hh st.1 st.2 (by simp) hE
theorem qV l items n dct sl :
 Meets (Builtin.«enumerate.__new__» ⟨[.type "enumerate",.ref l],[]⟩) (λ_ R s=>s.heap.get? l=some {cls:=.type "tuple",dict:=dct,data:=.seq items n,slots:=sl} /\
  R (.ok (.ret (.ref (s.heap.push {cls:=.type "tuple_iterator",data:=.fields #[.ref l,.int 0 0]}).objs.size)))
    {s with heap:=(s.heap.push {cls:=.type "tuple_iterator",data:=.fields #[.ref l,.int 0 0]}).push {cls:=.type "enumerate",data:=.fields #[.none,.bool false,.ref s.heap.objs.size,rawInt 0,.none,.none]}}):=
 .of_wp λprog w A R s h=>by
  obtain⟨hp,g,d,tk,os⟩:=s;obtain⟨hl,h⟩:=h;have hsub:=sub_enumerate;have hL:Heap.IsTuple (Shared.heap ⟨hp,g,d,tk,os⟩) l items:=⟨_,hl,rfl,n,rfl⟩
  wp_walk using BM hl
  refine wpAny_stack_any λst=>Ag ?_;split
  . rename_i c _ _ _ _ _
    cases (c == FI "enumerate")
    . wp_walk using BM hl,Co hL
      exact⟨_,rfl,h⟩
    . wp_walk using BM hl,Co hL
      exact⟨_,rfl,h⟩
  . wp_walk using BM hl,Co hL
    exact⟨_,rfl,h⟩
section
variable {prog:Program}{w:World}{A:Around}{E:Value->Shared->Prop}{s:Shared}
theorem pI(hL:s.heap.IsTuple l items)
 (h:∀h',IsEnum h' (s.heap.objs.size+1) s.heap.objs.size 0 .none->h'.IsTupleIter s.heap.objs.size l 0->h'.objs.size=s.heap.objs.size+2 ->
  (∀b o,s.heap.get? b=some o->h'.get? b=some o)->Q (.ref (s.heap.objs.size+1)) {s with heap:=h'}) :
 wpAny (model prog w) A (call (.type "enumerate") [.ref l]) Q E s:=by
 obtain⟨⟨c,dct,dt,sl⟩,hl,hc,n,hd⟩:=hL;replace hc:c=.type "tuple":=hc;replace hd:dt=.seq items n:=hd;subst hc hd;refine callType_new F.called_enumerate (by decide) (F.typeCall_enumerate_1 _) (F.newCall_enumerate_1 _) (λobj=>F.args_object_init_2 obj _) F.entry_enumerate_new
  (qV l items n dct sl) ⟨hl,?_⟩
 have hz:(s.heap.push {cls:=.type "tuple_iterator",data:=.fields #[.ref l,.int 0 0]}).objs.size=s.heap.objs.size+1:=Bc ..;show _/\_;rw[hz];have he:IsEnum ((s.heap.push {cls:=.type "tuple_iterator",data:=.fields #[.ref l,.int 0 0]}).push
  {cls:=.type "enumerate",data:=.fields #[.none,.bool false,.ref s.heap.objs.size,rawInt 0,.none,.none]}) (s.heap.objs.size+1) s.heap.objs.size 0 .none:=by
  have:=Az (s.heap.push {cls:=.type "tuple_iterator",data:=.fields #[.ref l,.int 0 0]})
   (o:={cls:=.type "enumerate",data:=.fields #[.none,.bool false,.ref s.heap.objs.size,rawInt 0,.none,.none]}) rfl
  rw[hz]at this;exact this
 refine⟨⟨_,he,rfl⟩,h _ he ⟨_,nx _ (Az _ rfl),rfl,rfl⟩ (by rw[Bc,hz]) λb o x=>nx _ (nx _ x)⟩
end
end L2
end
section
namespace L2
open PySem PySem.Calls PyProof PyProof.Rows
noncomputable def Ite(K:Af)(a:Addr):It:=
 ⟨λi H=>∃xs x,SqT K H a xs/\xs[i]?=some x,λi H x H'=>∃t y,H t=none/\x=.c t/\(∀xs,SqT K H a xs->xs[i]?=some y)/\H'=upd H t (.c [.d (i:Nat),y]),λi H=>∃xs,SqT K H a xs/\xs.length=i⟩
theorem Inv.gR(I:Inv X pins σ H s)(fe:ug X pins H e)(fi:ug X pins H it)
 (k:∀b o,b≠e->b≠it->s.heap.get? b=some o->h'.get? b=some o) (hT:s.heap.objs.size<=T) (hz:ys.length<=As) (r:Vals ys its) (ho:h'.get? T=some {cls:=.type "tuple",data:=.seq its.toArray n}) :
 Inv X pins σ (upd H T (.c ys)) {s with heap:=h',toks:=t'}:=by
 obtain⟨e0,e1,e2,e3,e4,e5⟩:=fe;obtain⟨i0,i1,i2,i3,i4,i5⟩:=fi;have hn:H T=none:=I.j.fresh hT;have neT:∀b u,H b=some u->b≠T:=λb u q z=>by rw[z,hn]at q;cases q
 have nee:∀b u,H b=some u->b≠e:=λb u q z=>by rw[z,e0]at q;cases q
 have nei:∀b u,H b=some u->b≠it:=λb u q z=>by rw[z,i0]at q;cases q
 have neoT:∀b o,s.heap.get? b=some o->b≠T:=λb o q z=>absurd (Au (Ai q) hT) (by rw[z];exact Be _)
 refine I.step (g':=s.gens) (d':=s.drawn) (ch:=[e,it]) (λb hb=>?_) (λb o _ _ hc q _=>k b o (λz=>hc (by simp[z])) (λz=>hc (by simp[z])) q) (λb o _ _ hc q _=>⟨o.slots,k b o (λz=>hc (by simp[z])) (λz=>hc (by simp[z])) q⟩)
  (λb o _ q m=>by rw[zJ (neoT b o q)];exact m) (λb o hc q=>⟨o,k b o (λz=>hc (by simp[z])) (λz=>hc (by simp[z])) q⟩) (λb xs q=>by rw[zJ (neT b _ q)];exact q) (λb o u q=>by rw[zJ (neT b _ q)];exact q)
  (λb ps q=>⟨#[],by rw[zJ (neT b _ q),q];simp⟩) (λm hm=>?_) (λb u q=>?_) I.D
 . rcases Aj.mp hb with z|hb
   . subst z;exact⟨e3,e1,e4,e5⟩
   . have z:=Av.mp hb
     subst z;exact⟨i3,i1,i4,i5⟩
 . obtain⟨o,es,ep,ho,r⟩:=hm
   exact⟨o,es,ep,k _ o (Bt e1) (Bt i1) ho,r⟩
 . by_cases hb:b=T
   . subst hb
     rw[zP]at q;cases q;exact⟨hz,its,r,_,ho,rfl,n,rfl,rfl⟩
   . rw[zJ hb]at q
     refine(I.j b u q).pQ (λc v hc w=>k c v ?_ ?_ w) (λc hc=>by rw[zJ (neT c _ hc)];exact hc) λc xs hc=>by rw[zJ (neT c _ hc)];exact hc
     . rcases hc with z|z
       . rw[z];exact nee b u q
       . exact nee c _ z
     . rcases hc with z|z
       . rw[z];exact nei b u q
       . exact nei c _ z
theorem Inv.gQ(I:Inv X pins σ H s)(fi:ug X pins H it)(k:∀b o,b≠it->s.heap.get? b=some o->h'.get? b=some o):Inv X pins σ H {s with heap:=h',toks:=t'}:=by obtain⟨i0,i1,i2,i3,i4,i5⟩:=fi;exact I.turned k i0 i1 i3 i4 i5
theorem eU{K}a e it(hei:e≠it):Turn P w K (.Tuple elts x1 pos) (Ite K a) [e,it] e (λi h=>(∃old,IsEnum h e it (i:Nat) old)/\h.IsTupleIter it a i) where
 g:=by simp
 c:=λi h st b hb=>by
  rcases Aj.mp hb with z|hb
  . subst z
    obtain⟨old,he⟩:=st.1;exact⟨_,he,λv z=>by cases (show Gb _=Data.cell v from z)⟩
  . have z:=Av.mp hb
    subst z;obtain⟨o,q,c,d⟩:=st.2;exact⟨o,q,λv z=>by rw[d]at z;cases z⟩
 a:=λi h h' st k=>⟨let ⟨old,he⟩:=st.1;⟨old,k e (by simp) _ he⟩,st.2.at λo q=>k it (by simp) o q⟩
 e:=by
  intro X hP hw hK hc i pins s σ H E I hf st hg;subst hP hw hK;obtain⟨xs,x,hq,hx⟩:=hg;obtain⟨⟨old,he⟩,hit⟩:=st;obtain⟨its,rv,p,hz⟩:=I.tuple hq;obtain⟨u,hu,ru⟩:=rv.get hx;have hlen:=rv.length;have hi:i<xs.length:=(Am.mp hx).1;have hai:a≠it:=λz=>by obtain⟨o1,q1,c1,_⟩:=id p;obtain⟨o2,q2,c2,_⟩:=id hit;rw[z,q2]at q1;cases q1;rw[c2]at c1;exact absurd (Dg c1) (by decide)
  have hae:a≠e:=λz=>by obtain⟨o1,q1,c1,_⟩:=id p;have he':s.heap.get? e=_:=he;rw[z,he']at q1;cases q1;exact absurd (Dg c1) (by decide)
  have D:=pv (prog:=X.f) (w:=X.w) (A:=X.A.in1) (I.B.i hc) it a hai its.toArray;refine F1 D he ⟨hit,p⟩ (by rw[Ae];omega) hei (λm=>?_) λv h1 tk hP ho hs1 hT hsz hk=>?_
  . rcases Aj.mp m with z|m
    . exact hei z
    . exact hae (Av.mp m).symm
  . have hP:its.toArray[i]?=some v:=hP
    have ev:v=u:=by rw[EA,hu]at hP;exact(AA hP).symm
    subst ev;refine⟨_,rfl,Fo (s:={s with heap:=h1,toks:=tk+1}) ho λh2 he2 sb=>?_⟩
    have sz:s.heap.objs.size≠e:=DN (Ai he);refine⟨.c s.heap.objs.size,_,Inv.gR (s:=s) (h':=h2) (t':=tk+1) (T:=s.heap.objs.size) (ys:=[.d (i:Nat),x]) (its:=[.int (i:Nat) tk,v]) (n:=0) I (hf e (by simp)) (hf it (by simp)) (λb o h1' h2' q=>(sb.2 b h1').trans (hk b o h1' h2' q)) (Ac _) (by rw[AV];show 2<=_;decide) (.cons ⟨tk,rfl⟩ (.cons ru .nil)) ((sb.2 _ sz).trans hT),rfl,
     ⟨s.heap.objs.size,x,I.j.fresh (Ac _),rfl,λys hy=>by rw[I.oY hy hq];exact hx,rfl⟩,⟨⟨v,by simpa using he2⟩,hs1.1.at λo q=>(sb.2 it (Bt hei)).trans q⟩,λb hb=>?_⟩
    rw[zJ (λz=>?_)]
    . exact(hf b hb).1
    . have hlt:b<s.heap.objs.size:=by
       rcases Aj.mp hb with y|hb
       . rw[y];exact Ai he
       . rw[Av.mp hb];obtain⟨o,q,_⟩:=hit;exact Ai q
      exact absurd z (AI hlt)
 d:=by
  intro X hP hw hK hc i pins s σ H E I hf st hg;subst hP hw hK;obtain⟨xs,hq,hx⟩:=hg;obtain⟨⟨old,he⟩,hit⟩:=st;obtain⟨its,rv,p,hz⟩:=I.tuple hq;have hlen:=rv.length;have hai:a≠it:=λz=>by obtain⟨o1,q1,c1,_⟩:=id p;obtain⟨o2,q2,c2,_⟩:=id hit;rw[z,q2]at q1;cases q1;rw[c2]at c1;exact absurd (Dg c1) (by decide)
  have D:=pv (prog:=X.f) (w:=X.w) (A:=X.A.in1) (I.B.i hc) it a hai its.toArray;have en:its.toArray.size=i:=by rw[Ae];omega
  exact wpAny_pyNext_enum_endD D he ⟨by rw[en];exact hit,p⟩ λh' eb=>⟨rfl,I.gQ (t':=s.toks) (hf it (by simp)) λb o hb q=>eb b o hb q⟩
 f:=λ_ _ _ _ _ st h=>let ⟨old,he⟩:=st.1;Ea he h
noncomputable def Wv(K:Af)(a:Addr):It:=
 ⟨λi H=>∃xs x,SqL K H a xs/\xs[i]?=some x,λi H x H'=>∃t y,H t=none/\x=.c t/\(∀xs,SqL K H a xs->xs[i]?=some y)/\H'=upd H t (.c [.d (i:Nat),y]),λi H=>∃xs,SqL K H a xs/\xs.length=i⟩
theorem j6{K}a e it(hei:e≠it):Turn P w K (.Tuple elts x1 pos) (Wv K a) [e,it] e (λi h=>(∃old,IsEnum h e it (i:Nat) old)/\h.IsListIter it a i) where
 g:=by simp
 c:=λi h st b hb=>by
  rcases Aj.mp hb with z|hb
  . subst z
    obtain⟨old,he⟩:=st.1;exact⟨_,he,λv z=>by cases (show Gb _=Data.cell v from z)⟩
  . have z:=Av.mp hb
    subst z;obtain⟨o,q,c,d⟩:=st.2;exact⟨o,q,λv z=>by rw[d]at z;cases z⟩
 a:=λi h h' st k=>⟨let ⟨old,he⟩:=st.1;⟨old,k e (by simp) _ he⟩,st.2.at λo q=>k it (by simp) o q⟩
 e:=by
  intro X hP hw hK hc i pins s σ H E I hf st hg;subst hP hw hK;obtain⟨xs,x,hq,hx⟩:=hg;obtain⟨⟨old,he⟩,hit⟩:=st;obtain⟨its,rv,p0,hz⟩:=I.list hq;have p:=p0.isList;obtain⟨u,hu,ru⟩:=rv.get hx;have hlen:=rv.length;have hi:i<xs.length:=(Am.mp hx).1;have hai:a≠it:=λz=>by obtain⟨o1,q1,c1,_⟩:=id p;obtain⟨o2,q2,c2,_⟩:=id hit;rw[z,q2]at q1;cases q1;rw[c2]at c1;exact absurd (Dg c1) (by decide)
  have hae:a≠e:=λz=>by obtain⟨o1,q1,c1,_⟩:=id p;have he':s.heap.get? e=_:=he;rw[z,he']at q1;cases q1;exact absurd (Dg c1) (by decide)
  have D:=Draws.list (prog:=X.f) (w:=X.w) (A:=X.A.in1) (I.B.i hc) it a hai its.toArray;refine F1 D he ⟨hit,p⟩ (by rw[Ae];omega) hei (λm=>?_) λv h1 tk hP ho hs1 hT hsz hk=>?_
  . rcases Aj.mp m with z|m
    . exact hei z
    . exact hae (Av.mp m).symm
  . have hP:its.toArray[i]?=some v:=hP
    have ev:v=u:=by rw[EA,hu]at hP;exact(AA hP).symm
    subst ev;refine⟨_,rfl,Fo (s:={s with heap:=h1,toks:=tk+1}) ho λh2 he2 sb=>?_⟩
    have sz:s.heap.objs.size≠e:=DN (Ai he);refine⟨.c s.heap.objs.size,_,Inv.gR (s:=s) (h':=h2) (t':=tk+1) (T:=s.heap.objs.size) (ys:=[.d (i:Nat),x]) (its:=[.int (i:Nat) tk,v]) (n:=0) I (hf e (by simp)) (hf it (by simp)) (λb o h1' h2' q=>(sb.2 b h1').trans (hk b o h1' h2' q)) (Ac _) (by rw[AV];show 2<=_;decide) (.cons ⟨tk,rfl⟩ (.cons ru .nil)) ((sb.2 _ sz).trans hT),rfl,
     ⟨s.heap.objs.size,x,I.j.fresh (Ac _),rfl,λys hy=>by rw[I.lE hy hq];exact hx,rfl⟩,⟨⟨v,by simpa using he2⟩,hs1.1.at λo q=>(sb.2 it (Bt hei)).trans q⟩,λb hb=>?_⟩
    rw[zJ (λz=>?_)]
    . exact(hf b hb).1
    . have hlt:b<s.heap.objs.size:=by
       rcases Aj.mp hb with y|hb
       . rw[y];exact Ai he
       . rw[Av.mp hb];obtain⟨o,q,_⟩:=hit;exact Ai q
      exact absurd z (AI hlt)
 d:=by
  intro X hP hw hK hc i pins s σ H E I hf st hg;subst hP hw hK;obtain⟨xs,hq,hx⟩:=hg;obtain⟨⟨old,he⟩,hit⟩:=st;obtain⟨its,rv,p0,hz⟩:=I.list hq;have p:=p0.isList;have hlen:=rv.length;have hai:a≠it:=λz=>by obtain⟨o1,q1,c1,_⟩:=id p;obtain⟨o2,q2,c2,_⟩:=id hit;rw[z,q2]at q1;cases q1;rw[c2]at c1;exact absurd (Dg c1) (by decide)
  have D:=Draws.list (prog:=X.f) (w:=X.w) (A:=X.A.in1) (I.B.i hc) it a hai its.toArray;have en:its.toArray.size=i:=by rw[Ae];omega
  exact wpAny_pyNext_enum_endD D he ⟨by rw[en];exact hit,p⟩ λh' eb=>⟨rfl,I.gQ (t':=s.toks) (hf it (by simp)) λb o hb q=>eb b o hb q⟩
 f:=λ_ _ _ _ _ st h=>let ⟨old,he⟩:=st.1;Ea he h
def SD(K:Af)(ta:TA):TI:=λσ H R=>ta σ H λvs H1=>∃a,vs=[.c a]/\(((∃xs,SqT K H1 a xs)/\R (Ite K a) H1)\/((∃xs,SqL K H1 a xs)/\R (Wv K a) H1))
theorem XW(hg:Gl X "enumerate")(hm:X.d "enumerate"=none)(ha:PA X [a] ta)(hs:AJ [a] X.a=[(false,eval a X.a)]:=by rfl):PI X (.Tuple elts x1 tpos) (.Call (.Name "enumerate" p) [a] [] pos) (SD X.K ta):=by
 intro pins s σ H R I h;refine Call_ (u7 I hg hm boot_enumerate (Cp (thn (ha pos pins s σ H _ I h) λus s1 ⟨vs,H1,I1,r1,q1⟩=>?_) hs rfl));obtain⟨c,e,q⟩:=q1;subst e;cases r1 with
 |cons r rr=>
  cases rr;cases r;have fp:∀b∈[s1.heap.objs.size+1,s1.heap.objs.size],ug X pins H1 b:=λb hb=>by
   have hb':s1.heap.objs.size<=b:=by
    rcases Aj.mp hb with z|hb
    . rw[z];exact C8 _
    . rw[Av.mp hb];exact Ac _
   exact I1.YJ hb' (I1.j.fresh hb')
  rcases q with⟨⟨xs,hq⟩,q⟩|⟨⟨xs,hq⟩,q⟩
  . obtain⟨its,rv,pt,hz⟩:=I1.tuple hq
    refine pI (show s1.heap.IsTuple c its.toArray from pt) λh' he hit hsz hk=>Ea he ?_;exact⟨s1.heap.objs.size+1,[s1.heap.objs.size+1,s1.heap.objs.size],_,_,H1,rfl,I1.kept (t':=s1.toks) hk,eU c _ _ (Nat.succ_ne_self _),⟨⟨_,he⟩,hit⟩,fp,q⟩
  . obtain⟨its,rv,pt,hz⟩:=I1.list hq
    refine call_enumerate_list pt.isList λh' he hit hsz hk=>Ea he ?_;exact⟨s1.heap.objs.size+1,[s1.heap.objs.size+1,s1.heap.objs.size],_,_,H1,rfl,I1.kept (t':=s1.toks) hk,j6 c _ _ (Nat.succ_ne_self _),⟨⟨_,he⟩,hit⟩,fp,q⟩
end L2
end
section
namespace L2
open PySem PyProof.Rows
noncomputable def intsOf:List Expr->Option (List Int)
 |[]=>some []
 |.Constant (.int i) _ _::es=>(intsOf es).map λr=>i::r
 |.UnaryOp .USub (.Constant (.int i) _ _) _::es=>(intsOf es).map λr=>-i::r
 |_=>none
end L2
end
section
namespace L2
open PySem PyProof.Rows
section
variable {X:Cx}{a b:Expr}{rest:List Expr}{ta tb:TE}{pos:Pos}
def Qp(K:Af)(ta tb:TE):TE:=λσ H Q=>ta σ H λx H1=>∃c,Zs K x H1 c/\if c=true then Q x H1 else tb σ H1 Q
theorem Ua(ha:PE X a ta)(hb:PE X (.BoolOp .Or (b::rest) pos) tb):PE X (.BoolOp .Or (a::b::rest) pos) (Qp X.K ta tb):=by
 intro pins s σ H Q I h;refine BoolOp_or (thn (ha pins s σ H _ I h) λv s1 ⟨x,H1,I1,r1,c,ht,q1⟩=>?_);refine thn (Ze pins s1 σ H1 x v (λk H2=>if k=true then Q x H2 else tb σ H2 Q) I1 r1 ⟨c,ht,q1⟩) λk s2 ⟨H2,I2,q2⟩=>?_
 cases k with
 |false=>exact hb pins s2 σ H2 Q I2 q2
 |true=>exact⟨x,H2,I2,r1,q2⟩
end
noncomputable def uA(n:Nat)(lo hi:Option Int)(c:Int):Int × Nat:=((Bn lo hi (some c) n).1,(if c > 0 then (if (Bn lo hi (some c) n).1<(Bn lo hi (some c) n).2.1 then ((Bn lo hi (some c) n).2.1-(Bn lo hi (some c) n).1+c-1)/c else 0) else (if (Bn lo hi (some c) n).1 > (Bn lo hi (some c) n).2.1 then ((Bn lo hi (some c) n).1-(Bn lo hi (some c) n).2.1-c-1)/(-c) else 0):Int).toNat)
theorem uS its lo hi c:GF its.toArray lo hi (some c)=(z6 its (uA its.length lo hi c).1 c (uA its.length lo hi c).2).toArray:=by unfold GF sliceRange z6 uA;rw[B4];refine congrArg List.toArray ?_;have e:(Bn lo hi (some c) its.toArray.size).2.2=c:=rfl;rw[e];simp only[Ae];refine congrArg (λf=>List.filterMap f _) ?_;funext k;show its.toArray[_]?=_;rw[EA,Int.mul_comm]
def Rm(K:Af):V->Option Int->Option Int->Option Int->Hp->VK->Prop:=λx lo hi st H Q=>∃a xs c,x=.c a/\SqL K H a xs/\st=some c/\c≠0/\∀p,H p=none->Q (.c p) (upd H p (.b (z6 xs (uA xs.length lo hi c).1 c (uA xs.length lo hi c).2)))
theorem jT{lo hi}{st}(he:PE X e te)(hl:PO X lo tl)(hu:PO X hi th)(hc:PO X (some st) tc):PE X (.Subscript e (.Slice lo hi (some st) p2) pos) (QC (Rm X.K) te tl th tc):=by
 intro pins s σ H Q I h;refine Gu (thn (he pins s σ H _ I h) λv s1 ⟨x,H1,I1,r1,q1⟩=>?_);refine wpAny_Slice (thn (hl pins s1 σ H1 _ I1 q1) λvl s2 ⟨l,H2,I2,pl,q2⟩=>thn (hu pins s2 σ H2 _ I2 q2) λvu s3 ⟨u,H3,I3,pu,q3⟩=>thn (hc pins s3 σ H3 _ I3 q3) λvc s4 ⟨c,H4,I4,pc,q4⟩=>?_);obtain⟨a,xs,cc,rfl,hx,ec,h0,g⟩:=q4;subst ec;cases r1;have I5:Inv X pins σ H4 {s4 with heap:=s4.heap.push {cls:=.type "slice",data:=.fields #[vl,vu,vc]}}:=I4.kept (t':=s4.toks) λb ob q=>nx _ q
 obtain⟨its,r,ht,hz⟩:=I5.list hx;have hlen:=r.length;show wpAny (model X.f X.w) X.A (Fi e (.Slice lo hi (some st) p2) (.ref a) (.ref s4.heap.objs.size)) (EP X pins σ Q) X.i {s4 with heap:=s4.heap.push {cls:=.type "slice",data:=.fields #[vl,vu,vc]}}
 refine tail_any (ops:=[.ref a,.ref s4.heap.objs.size]) ht.isList.typeIs FC.lookup (FR ht.isList (E7 ..) pl pu pc (λz=>h0 (AA z)) ?_ (by rw[Ae]<;>omega)) (by with_unfolding_all rfl)
 rw[uS,<-hlen];refine⟨.c _,_,I5.laid (t':=s4.toks) (o:=.b (z6 xs (uA xs.length l u cc).1 cc (uA xs.length l u cc).2)) (λb ob q=>nx _ q) (Ac _) ?_,rfl,g _ (I5.j.fresh (Ac _))⟩;have rp:=r.z6 (uA xs.length l u cc).1 cc (uA xs.length l u cc).2;have bound:(z6 xs (uA xs.length l u cc).1 cc (uA xs.length l u cc).2).length<=xs.length:=by have:=slicePick_size_le its.toArray l u (some cc);rw[uS,Ae,Ae,<-hlen,<-rp.length]at this;exact this
 exact⟨AD bound hz,_,0,rp,Az _ rfl⟩
end L2
end
section
namespace L2
open PySem PyProof PyProof.Rows
section
variable {X:Cx}
noncomputable def SY(z:Str)(ys:List Str):Str:=Txt.join z ys
end
end L2
end
section
namespace L2
open PySem PySem.Spec PyProof PyProof.Rows
theorem lM:FL (.type "tuple") (dunderI "add")=(pure none:Sem (Option Value)):=rfl
section
variable {X:Cx}
theorem g8:OpR X (DM .Add) Wb:=by
 intro pins s σ H x y v u Q I rx ry h;obtain⟨a,b,xs,ys,rfl,rfl,ha,hb,hz,g⟩:=h;cases rx;cases ry;obtain⟨its,r1,p1,_⟩:=I.tuple (.inl (.inl ha));obtain⟨its2,r2,p2,_⟩:=I.tuple (.inl (.inl hb));obtain⟨⟨cls,dd,data,sl⟩,ho,hc,n,hd⟩:=id p1;obtain⟨⟨cls2,dd2,data2,sl2⟩,ho2,hc2,n2,hd2⟩:=id p2;simp only at hc hd hc2 hd2;subst hc hd hc2 hd2;have e:its.toArray++its2.toArray=(its++its2).toArray:=by simp
 have tA:s.TypeIs (.ref a) "tuple":=⟨_,ho,rfl⟩;have tB:s.TypeIs (.ref b) "tuple":=⟨_,ho2,rfl⟩;refine inplaceOp_concat tA tB lM El Fh ?_;by_cases hx:xs=[]
 . subst hx
   cases r1;exact BL BY tA BU (BP _ _) (tuple_addW0 a b #[] its2.toArray n n2 dd dd2 sl sl2 rfl) ⟨ho,ho2,⟨.c b,H,I,rfl,g b H (wH.refl H) hb⟩⟩
 . have hv:its≠[]:=λz=>hx (r1.w6.mp z)
   by_cases hy:ys=[]
   . have hw:its2=[]:=r2.w6.mpr hy
     subst hy;rw[A5]at g;exact BL BY tA BU (BP _ _) (tuple_addW1 a b its.toArray its2.toArray n n2 dd dd2 sl sl2 (by simpa using hv) (by simp[hw])) ⟨ho,ho2,⟨.c a,H,I,rfl,g a H (wH.refl H) ha⟩⟩
   . have hw:its2≠[]:=λz=>hy (r2.w6.mp z)
     refine BL BY tA BU (BP _ _) (tuple_addW2 a b its.toArray its2.toArray n n2 dd dd2 sl sl2 (by simpa using hv) (by simpa using hw) (by rw[Ae,Ae,<-r1.length,<-r2.length];exact hz)) ⟨ho,ho2,?_⟩
     rw[e];refine⟨.c s.heap.objs.size,_,I.laid (t':=s.toks) (o:=.c (xs++ys)) (λb ob q=>nx _ q) (Ac _) ?_,rfl,g.new _ (I.j.fresh (Ac _))⟩;exact⟨by rw[Al];exact hz,_,r1.append r2,tM.new _ _⟩
noncomputable def R3(ns:List Int):Bool:=decide (ns.length<=1000)&&ns.all λn=>decide (-1000000<=n)&&decide (n<=1000000)
end
end L2
end
section
namespace L2
open PySem PySem.W PySem.Calls PyProof PyProof.Rows
open AutoSeq1 (wpAny_loadPart')
open SeqAt
theorem cW:∀{xs} {us},Vals xs us->xs.all xh=true->us.map (eqU x)=xs.map λy=>eqV y x
 |_,_,.nil,_=>rfl
 |y::ys,u::us,.cons r rs,h=>by rw[BR,cf]at h;rw[AN,AN,cW rs h.2,nM r h.1]
section
variable {X:Cx}
def au(K:Af)(g:List Int->Int):List V->Hp->VK->Prop:=λxs H Q=>∃(a:Addr) (ns:List Int),xs=[.c a]/\SqT K H a (ns.map V.d)/\ns≠[]/\Q (.d (g ns)) H
theorem gc(hc:X.j=true):yV X (.builtin "max") (au X.K (vp 0)):=by
 intro pins s σ H xs us Q I r h;obtain⟨a,ns,rfl,ha,hne,q⟩:=h;obtain⟨u,rfl,ru⟩:=vals1 r;cases ru;obtain⟨its,rv,pl,hz⟩:=I.tuple ha;have hlen:=rv.length;have alt:a<s.heap.objs.size:=by obtain⟨o,ho,_⟩:=id pl;exact Ai ho
 have hl:its.toArray.size=ns.length:=by rw[Ae,<-hlen,Ab]
 have hpos:0<ns.length:=DA.mpr hne;have hat:∀(i:Nat) (v:Value),its.toArray[i]?=some v->∃t,v=.int (ns.getD i 0) t:=λi v hv=>rv.ints (by simpa using hv)
 refine call_max_walk (Co pl ?_);refine⟨s.heap.objs.size,_,_,_,_,_,_,rfl,Walks.tuple (A:=X.A.in1) (I.B.i hc) s.heap.objs.size a (AI alt) its.toArray,⟨⟨_,Az _ rfl,rfl,rfl⟩,?_⟩,λb hb=>?_,by omega,CmpOf.ints_gt (λi=>ns.getD i 0) hat,λv h' tk hP hk=>?_⟩
 . obtain⟨o,ho,hc',n,hd⟩:=id pl
   exact⟨o,nx _ ho,hc',n,hd⟩
 . rw[Bc]
   simp only[Aj,Bs,or_false]at hb;rcases hb with e|e
   . rw[e];exact CQ _
   . rw[e];exact Cz alt
 . obtain⟨t,rfl⟩:=hat _ _ hP
   obtain⟨b1,b2⟩:=argBest_gt (λi=>ns.getD i 0) (its.toArray.size-1);have e:vp 0 ns=ns.getD (argBest (λi j=>decide (ns.getD i 0 > ns.getD j 0)) (its.toArray.size-1)) 0:=by
    refine lG ?_ λx hx=>?_
    . have:argBest (λi j=>decide (ns.getD i 0 > ns.getD j 0)) (its.toArray.size-1)<ns.length:=by omega
      rw[Aw,Aa this];exact Dn this
    . obtain⟨i,hi,rfl⟩:=BI hx
      have:=b2 i (by omega)
      simpa [Aw,Aa hi] using this
   refine⟨.d (vp 0 ns),H,I.kept λb o ho=>hk b o ?_ (nx _ ho),⟨t,by rw[e]⟩,q⟩
   simpa using AI (Ai ho)
theorem kR(hc:X.j=true):yV X (.builtin "min") (au X.K (uK 0)):=by
 intro pins s σ H xs us Q I r h;obtain⟨a,ns,rfl,ha,hne,q⟩:=h;obtain⟨u,rfl,ru⟩:=vals1 r;cases ru;obtain⟨its,rv,pl,hz⟩:=I.tuple ha;have hlen:=rv.length;have alt:a<s.heap.objs.size:=by obtain⟨o,ho,_⟩:=id pl;exact Ai ho
 have hl:its.toArray.size=ns.length:=by rw[Ae,<-hlen,Ab]
 have hpos:0<ns.length:=DA.mpr hne;have hat:∀(i:Nat) (v:Value),its.toArray[i]?=some v->∃t,v=.int (ns.getD i 0) t:=λi v hv=>rv.ints (by simpa using hv)
 refine call_min_walk (Co pl ?_);refine⟨s.heap.objs.size,_,_,_,_,_,_,rfl,Walks.tuple (A:=X.A.in1) (I.B.i hc) s.heap.objs.size a (AI alt) its.toArray,⟨⟨_,Az _ rfl,rfl,rfl⟩,?_⟩,λb hb=>?_,by omega,CmpOf.ints_lt (λi=>ns.getD i 0) hat,λv h' tk hP hk=>?_⟩
 . obtain⟨o,ho,hc',n,hd⟩:=id pl
   exact⟨o,nx _ ho,hc',n,hd⟩
 . rw[Bc]
   simp only[Aj,Bs,or_false]at hb;rcases hb with e|e
   . rw[e];exact CQ _
   . rw[e];exact Cz alt
 . obtain⟨t,rfl⟩:=hat _ _ hP
   obtain⟨b1,b2⟩:=argBest_lt (λi=>ns.getD i 0) (its.toArray.size-1);have e:uK 0 ns=ns.getD (argBest (λi j=>decide (ns.getD i 0<ns.getD j 0)) (its.toArray.size-1)) 0:=by
    refine lJ ?_ λx hx=>?_
    . have:argBest (λi j=>decide (ns.getD i 0<ns.getD j 0)) (its.toArray.size-1)<ns.length:=by omega
      rw[Aw,Aa this];exact Dn this
    . obtain⟨i,hi,rfl⟩:=BI hx
      have:=b2 i (by omega)
      simpa [Aw,Aa hi] using this
   refine⟨.d (uK 0 ns),H,I.kept λb o ho=>hk b o ?_ (nx _ ho),⟨t,by rw[e]⟩,q⟩
   simpa using AI (Ai ho)
end
end L2
end
section
namespace L2
open PySem PySem.W PySem.Calls PyProof PyProof.Rows
open AutoSeq1 (wpAny_loadPart')
open SeqAt
noncomputable def Sh:List Int->List Int->Bool
 |[],[]=>false
 |[],_::_=>true
 |_::_,[]=>false
 |x::xs,y::ys=>if x=y then Sh xs ys else decide (x<y)
end L2
namespace L2
open PySem PySem.W PySem.Calls PyProof PyProof.Rows
def So:List (List Int)->List Int
 |[]=>[]
 |z::t=>t.foldl (λm y=>if Sh y m then y else m) z
end L2
end
section
namespace L2
open PySem PySem.W PySem.Calls PyProof PyProof.Rows
noncomputable def dN(ns:List Int):Nat:=(firstMet (λi=>ns.getD i 0) ns.length).length
end L2
end
section
namespace PySem
open Sem (wp)
structure wW(B newId initId:String)(bm:List Value):Prop extends ExcCallFacts B newId initId where
 b:splitId newId=some (B,"__new__")
 d:builtinKind newId=some .builtinFn
 e:Manifest.signature? newId=some ⟨.any,B,B,.cls,[⟨"args",.varPos,false⟩,⟨"kwargs",.varKw,false⟩]⟩
 a:bm.contains (.type B)=true
 c:bm.contains (.type "BaseException")=true
 f:bm.contains (.type "AttributeError")=false
 g:bm.contains (.type "NameError")=false
 h:Manifest.canonical newId=Manifest.canonical "BaseException.__new__"
theorem ExcBaseFacts.two(F:ExcBaseFacts B newId initId bm)D:wW B newId initId (.ref D::bm):=
 ⟨F.toExcCallFacts,F.newSplit,F.newKind,F.newRow,by rw[BE,F.hasB,ES],by rw[BE,F.hasBase,ES],by rw[BE,F.noAttr];rfl,by rw[BE,F.noName];rfl,F.canon⟩
section
variable {M:Model}{A:Around}{E:Value->Shared->Prop}{h:Heap}{g:Array GenState}{d:Drawn}{t:Nat}{os:OsState}
variable {nm q:Str}{C N:Addr}{bs bm:List Value}{hdct:Bool}{sn:List Str}{sub:List Value}{ab:Bool}{col:Option Bool}{dd:Option Addr}{k0 k1 k2 k3 k5:Option Value}{B newId initId:String}
theorem vy
 (hC:h.get? C=some (BZ nm q C N bs bm hdct sn sub ab col dd k0 k1 k2 k3 k5 newId)) (hn:h.Ns N mN) (hni:mN name=none)
 (hD:h.get? D=some (BZ nm1 q1 D N1 bs1 bm1 hd1 sn1 sub1 ab1 col1 dd1 j0 j1 j2 j3 j5 new1)) (hn1:h.Ns N1 mN1) (hni1:mN1 name=none) (hbm:bm=.ref D::bm1) (hb1:mroOf (.type B)=pure bm1) (hB:FL (.type B) name=pure y)
 (hq:Q y ⟨h,g,d,t,os⟩):wpAny M A (FL (.ref C) name) Q E ⟨h,g,d,t,os⟩:=by
 have hrest:lookupAlong bm1 name=pure y:=by rw[typeLookup_eq,hb1]at hB;exact hB
 rw[typeLookup_eq];refine lp (wpAny_mroOf_exc hC ?_);rw[lookupAlong_cons];refine lp (wpAny_classOwn_exc hC hn ?_);rw[hni,hbm];show wpAny M A (lookupAlong (.ref D::bm1) name) Q E _;rw[lookupAlong_cons];refine lp (wpAny_classOwn_exc hD hn1 ?_);rw[hni1,hrest];exact Ag hq
theorem uU(F:wW B newId initId bm)(hC:h.get? C=some (BZ nm q C N bs bm hdct sn sub ab col dd k0 k1 k2 k3 k5 newId))
 (hq:Q () ⟨h,g,d,t,os⟩):wpAny M A (CT newId ⟨.ref C::rest,[]⟩) Q E ⟨h,g,d,t,os⟩:=by
 have hcont:(A2 C::bm).contains (.type B)=true:=by rw[BE,F.a,ES]
 have hstar:=F.noStar;simp only[CT,F.d,F.b,F.e]
 repeat (first|refine Bh hC ?_|(refine DB hC ?_;rw[hcont])|refine wpAny_staticBase_exc hC ?_|refine wpAny_madeBy_exc hC ?_|simp only[bne_self_eq_false,AO,if_false]|wp_step)
 exact hq
end
section
variable {prog:Program}{w:World}{A:Around}{R:Result->Shared->Prop}{h:Heap}{g:Array GenState}{d:Drawn}{t:Nat}{os:OsState}
variable {nm q:Str}{C N:Addr}{bs bm:List Value}{hdct:Bool}{sn:List Str}{sub:List Value}{ab:Bool}{col:Option Bool}{dd:Option Addr}{k0 k1 k2 k3 k5:Option Value}{B newId initId:String}
theorem v9(F:wW B newId initId bm)(hC:h.get? C=some (BZ nm q C N bs bm hdct sn sub ab col dd k0 k1 k2 k3 k5 newId))
 (hq:R (.ok (.ret (.ref (h.objs.size+1)))) ⟨(h.push {cls:=.type "tuple",data:=.seq rest.toArray}).push
  {cls:=.ref C,data:=.fields #[.ref h.objs.size,.none,.none,.none,.bool false,.none]},g,d,t,os⟩) (hrest:rest.length<=As:=by size_fits) :
 codeAny (model prog w) A (.builtin newId ⟨.ref C::rest,[]⟩) R ⟨h,g,d,t,os⟩:=by
 have hends:=F.ends;have hcB:(A2 C::bm).contains (.type B)=true:=by rw[BE,F.a,ES]
 have hcA:(A2 C::bm).contains (.type "AttributeError")=false:=by rw[BE,F.f];rfl
 have hcN:(A2 C::bm).contains (.type "NameError")=false:=by rw[BE,F.g];rfl
 refine codeAny_builtinAt F.entry ?_;unfold Builtin.«BaseException.__new__»;refine wpAt_bind ?_;show wpAt _ _ _ (stack >>= _) _ _ _;refine wpAt_bind (wpAt_stack λp below=>wpAt_of_wpAny ?_)
 wp_walk
 refine wpAt_of_wpAny ?_;rw[F.owner]
 repeat (first|with_reducible refine wpAny_madeHere_exc F.h hC ?_|with_reducible refine Bh hC ?_|(with_reducible refine DB hC ?_;first|rw[hcB]|rw[hcA]|rw[hcN])|wp_step)
 show R _ _;rw[Bc];exact hq
end
section
variable {prog:Program}{w:World}{A:Around}{E:Value->Shared->Prop}{h:Heap}{g:Array GenState}{d:Drawn}{t:Nat}{os:OsState}
variable {nm q:Str}{C N:Addr}{bs bm:List Value}{hdct:Bool}{sn:List Str}{sub:List Value}{ab:Bool}{col:Option Bool}{dd:Option Addr}{k0 k1 k2 k3 k5:Option Value}{B newId initId:String}
theorem vx(F:wW B newId initId bm)
 (hC:h.get? C=some (BZ nm q C N bs bm hdct sn sub ab col dd k0 k1 k2 k3 k5 newId)) (he:h.get? e=some oe) (hcls:oe.cls=.ref C) (hq:Q () ⟨h,g,d,t,os⟩) :
 wpAny M A (CT initId ⟨.ref e::rest,[]⟩) Q E ⟨h,g,d,t,os⟩:=by
 have hcB:(A2 C::bm).contains (.type B)=true:=by rw[BE,F.a,ES]
 have hshort:=F.noStar;simp only[CT,F.initKind,F.initSplit,F.initRow]
 repeat (first|(with_reducible refine Bh he ?_;rw[hcls])|with_reducible refine Bh hC ?_|(with_reducible refine DB hC ?_;rw[hcB])|wp_step)
 refine wpAny_onRaise ?_;rw[show ∀(a b:String) (n:Nat),Bind.check ⟨.positional,"*",B,.self,[⟨"args",.varPos,false⟩]⟩ a b n (DT (λx=>x.fst) ({pos:=A2 e::rest}:Args).kw)=pure () from
  λa b n=>check_star_args _ _ _ _ _ _]
 exact Ag hq
theorem vI(F:wW B newId initId bm)
 (hC:h.get? C=some (BZ nm q C N bs bm hdct sn sub ab col dd k0 k1 k2 k3 k5 newId)) (hn:h.Ns N mN) (hni:mN "__init__"=none) (hD:h.get? D=some (BZ nm1 q1 D N1 bs1 bm1 hd1 sn1 sub1 ab1 col1 dd1 j0 j1 j2 j3 j5 new1)) (hn1:h.Ns N1 mN1) (hni1:mN1 "__init__"=none) (hbm:bm=.ref D::bm1) (hb1:mroOf (.type B)=pure bm1) 
 (hq:∀h' e,D3 h h' e (.ref C) rest->Q (.done (.ret (.ref e))) ⟨h',g,d,t,os⟩) (hrest:rest.length<=As:=by size_fits) :
 wpAny (model prog w) A (Builtin.«type.__call__» ⟨.ref C::rest,[]⟩) Q E ⟨h,g,d,t,os⟩:=by
 repeat (first|with_reducible refine Bh hC ?_|with_reducible refine wpAny_madeBy_exc hC ?_|wp_step)
 refine codeAny_call_builtin_code (Fc _ F.quiet) (uU F hC ?_);refine v9 F hC ?_ hrest;show wpAny _ _ _ _ _ _;have hC₁:=nx {cls:=.ref C,data:=.fields #[.ref h.objs.size,.none,.none,.none,.bool false,.none]}
  (nx {cls:=.type "tuple",data:=.seq rest.toArray} hC)
 have hn₁:((h.push {cls:=.type "tuple",data:=.seq rest.toArray}).push {cls:=.ref C,data:=.fields #[.ref h.objs.size,.none,.none,.none,.bool false,.none]}).Ns N mN:=
  let ⟨o,es,ep,e,r⟩:=hn;⟨o,es,ep,nx _ (nx _ e),r⟩
 have hget:((h.push {cls:=.type "tuple",data:=.seq rest.toArray}).push
  {cls:=.ref C,data:=.fields #[.ref h.objs.size,.none,.none,.none,.bool false,.none]}).get? (h.objs.size+1)=some
  {cls:=.ref C,data:=.fields #[.ref h.objs.size,.none,.none,.none,.bool false,.none]}:=by heap_get
 have hcC:(A2 C::bm).contains (.ref C)=true:=by simp
 unfold isInstance
 repeat (first|with_reducible refine Bh hget ?_|(with_reducible refine DB hC₁ ?_;rw[hcC])|wp_step)
 show wpAny _ _ (FL (.ref C) _) _ _ _;have hD₁:=nx {cls:=.ref C,data:=.fields #[.ref h.objs.size,.none,.none,.none,.bool false,.none]}
  (nx {cls:=.type "tuple",data:=.seq rest.toArray} hD)
 have hn1₁:((h.push {cls:=.type "tuple",data:=.seq rest.toArray}).push {cls:=.ref C,data:=.fields #[.ref h.objs.size,.none,.none,.none,.bool false,.none]}).Ns N1 mN1:=
  let ⟨o,es,ep,e,r⟩:=hn1;⟨o,es,ep,nx _ (nx _ e),r⟩
 refine vy hC₁ hn₁ hni hD₁ hn1₁ hni1 hbm hb1 F.init.lookup ?_;refine B0 (lp (wpAny_of_eq (F.init.bind _) ?_));refine lp (EH (ET F.init.plain F.initEntry (vx F hC₁ hget rfl ?_)))
 wp_walk
 refine hq _ _ ⟨λb o hb=>?_,EG (C8 _),h.objs.size+2,?_,EG (by omega),?_⟩
 . rw[C7 _ _ (DN (Cz (Ai hb)))]
   exact nx _ (nx _ (nx _ hb))
 . rw[Ey _ (nx _ hget) rfl]
   simp only[Bc];rfl
 . rw[C7 _ _ (show h.objs.size+1≠h.objs.size+2 by omega)]
   exact Heap.get?_push_at (by simp only[Bc]) rfl
theorem uo(F:wW B newId initId bm)
 (hC:h.get? C=some (BZ nm q C N bs bm hdct sn sub ab col dd k0 k1 k2 k3 k5 newId)) (hn:h.Ns N mN) (hni:mN "__init__"=none) (hD:h.get? D=some (BZ nm1 q1 D N1 bs1 bm1 hd1 sn1 sub1 ab1 col1 dd1 j0 j1 j2 j3 j5 new1)) (hn1:h.Ns N1 mN1) (hni1:mN1 "__init__"=none) (hbm:bm=.ref D::bm1) (hb1:mroOf (.type B)=pure bm1) 
 (hq:∀h' e,D3 h h' e (.ref C) rest->Q (.ref e) ⟨h',g,d,t,os⟩) (hrest:rest.length<=As:=by size_fits) :
 wpAny (model prog w) A (call (.ref C) rest) Q E ⟨h,g,d,t,os⟩:=by
 have f1:=tc_lookup;have f2:=tc_bind (.ref C);have hT:(⟨h,g,d,t,os⟩:Shared).TypeIs (.ref C) "type":=⟨_,hC,rfl⟩;refine EH (codeAny_of_tree ?_);show wpAny _ _ (callAny (.ref C) _) _ _ _
 repeat (any_goals (first|assumption|with_reducible refine Bh hC ?_|wp_step))
 refine⟨rfl,?_⟩;refine codeAny_call_builtin_at (Fc _ (by decide +kernel)) entry_typeCall (wpAny_check_type_call_sub hC (vI (hrest:=hrest) F hC hn hni hD hn1 hni1 hbm hb1 λh' e hm=>?_))
 exact hq h' e hm
end
section
variable {prog:Program}{w:World}{A:Around}{E:Value->Shared->Prop}{s:Shared}{env:Env}
variable {nm q:Str}{C N:Addr}{bs bm:List Value}{hdct:Bool}{sn:List Str}{sub:List Value}{ab:Bool}{col:Option Bool}{dd:Option Addr}{k0 k1 k2 k3 k5:Option Value}{B newId initId:String}
theorem vv(F:wW B newId initId bm)
 (hh:A.handled=none) (hplain:(backTo cpos (AJ args env)).any (·.1)=false) (hni:mN "__init__"=none) (hni1:mN1 "__init__"=none) (hbm:bm=.ref D::bm1) (hb1:mroOf (.type B)=pure bm1)
 (h:wpAny (model prog w) A (eval (.Name x np) env) (λf s₁=>f=.ref C/\wpAny (model prog w) A (evalArgs (.ref C) true (backTo cpos (AJ args env)) [])
  (λa s₂=>a.kw=[]/\a.pos.length<=As/\s₂.heap.get? C=some (BZ nm q C N bs bm hdct sn sub ab col dd k0 k1 k2 k3 k5 newId)/\s₂.heap.Ns N mN/\s₂.heap.get? D=some (BZ nm1 q1 D N1 bs1 bm1 hd1 sn1 sub1 ab1 col1 dd1 j0 j1 j2 j3 j5 new1)/\s₂.heap.Ns N1 mN1 /\
   ∀h' e,D3 s₂.heap h' e (.ref C) a.pos->E (.ref e) {s₂ with heap:=h'}) E s₁) E s) :
 wpAny (model prog w) A (exec (.Raise (some (.Call (.Name x np) args [] cpos)) none pos) env) Q E s:=by
 rw[arm_exec_Raise]
 first
  |refine lp (Bi (DU (C:=C) (nm:=nm) (q:=q) (N:=N) (bs:=bs) (bm:=bm) (hdct:=hdct) (sn:=sn) (sub:=sub) (ab:=ab) (col:=col) (dd:=dd) (k0:=k0) (k1:=k1) (k2:=k2) (k3:=k3) (k5:=k5) (newId:=newId) F.c hh (lp (A3 (FG (A3 h (λf s₁ h₁=>?_) λ_ _ x=>x)) (λv s₃ h₃=>lp (Bi (Ag h₃))) λ_ _ x=>x))))
  |(simp only[evalOpt,Option.map];refine lp (Bi (DU (C:=C) (nm:=nm) (q:=q) (N:=N) (bs:=bs) (bm:=bm) (hdct:=hdct) (sn:=sn) (sub:=sub) (ab:=ab) (col:=col) (dd:=dd) (k0:=k0) (k1:=k1) (k2:=k2) (k3:=k3) (k5:=k5) (newId:=newId) F.hasBase hh (lp (A3 (FG (A3 h (λf s₁ h₁=>?_) λ_ _ x=>x)) (λv s₃ h₃=>lp (Bi (Ag h₃))) λ_ _ x=>x)))))
  |(refine lp (Bi (DU (C:=C) (nm:=nm) (q:=q) (N:=N) (bs:=bs) (bm:=bm) (hdct:=hdct) (sn:=sn) (sub:=sub) (ab:=ab) (col:=col) (dd:=dd) (k0:=k0) (k1:=k1) (k2:=k2) (k3:=k3) (k5:=k5) (newId:=newId) F.hasBase hh ?_));refine lp (A3 (FG (A3 h (λf s₁ h₁=>?_) λ_ _ x=>x)) (λv s₃ h₃=>lp (Bi (Ag h₃))) λ_ _ x=>x))
 obtain⟨rfl,h₁⟩:=h₁;unfold callWith;refine lp (B0 (A3 h₁ (λa s₂ h₂=>lp (Bi ?_)) λ_ _ x=>x));obtain⟨apos,akw⟩:=a;obtain⟨hkw,hlen,hC,hn,hD,hn1,h₂⟩:=h₂;obtain rfl:akw=[]:=hkw;obtain⟨hp,g,d,tk,os⟩:=s₂;simp only[hplain];refine lp (wpAny_keeperOf_exc hC ?_);refine lp (uo (hrest:=hlen) F hC hn hni hD hn1 hni1 hbm hb1 λh' e hm=>lp (B0 (wpAny_point (Ag ?_))));obtain⟨t,ht,_,_⟩:=hm.there;exact⟨e,t,rfl,hm.keeps _ _ hC,ht,h₂ h' e hm⟩
end
end PySem
end
section
namespace L2
open PySem PySem.W PySem.Spec PyProof PyProof.Rows
structure tK(P:Program)(w:World)(outer:List Env)(H:Hp)(s:Shared)(H':Hp)(a:Addr)(cls:Value)(s':Shared):Prop where
 j:s'.os=s.os
 d:AllBare s'.gens
 i:∀b∈frs outer,H' b=none
 h:∃(t:Addr) (g B:Heap),Un (frs outer) [] H H' s.heap g/\HOk P w H' g/\(∀b o,g.get? b=some o->b ∉ frs outer->(b<s.heap.objs.size\/H' b≠none)->B.get? b=some o) /\
  (∀b o,g.get? b=some o->b∈frs outer->∃sl,s'.heap.get? b=some {o with slots:=sl})/\Heap.FlyingW B outer a cls (.ref t) s'.heap
def CXE(P:Program)(w:World):CXT:=λouter H s E e s'=>∃(a:Addr) (cls:Value) (H':Hp),e=.ref a/\tK P w outer H s H' a cls s'/\E cls none H'
theorem tK.un(f:tK P w outer H s H' a cls s'):Un (frs outer) [] H H' s.heap s'.heap/\HOk P w H' s'.heap:=by
 obtain⟨t,g,B,u,hk,cov,fr,k,_⟩:=f.h;have go:∀b o,s.heap.get? b=some o->b ∉ frs outer->∀o',g.get? b=some o'->s'.heap.get? b=some o':=λb o e n o' e'=>k b o' (cov b o' e' n (.inl (Ai e)));refine⟨⟨λb o e n hb hx=>go b o e hb o (u.f b o e n hb hx),λb o e n hb hx=>?_,u.d,λb o e hx=>?_,u.l,u.g,u.j⟩,λb o e=>(hk b o e).pQ (λc v hc e'=>?_) (λ_ q=>q) λ_ _ q=>q⟩
 . obtain⟨sl,e1⟩:=u.i b o e n hb hx
   obtain⟨sl',e2⟩:=fr b _ e1 hb;exact⟨sl',e2⟩
 . obtain⟨o',e1⟩:=u.c b o e hx
   by_cases hb:b∈frs outer
   . obtain⟨sl,e2⟩:=fr b o' e1 hb
     exact⟨_,e2⟩
   . exact⟨o',go b o e hb o' e1⟩
 . have hc':H' c≠none:=by
    rcases hc with rfl|hc
    . rw[e];exact nofun
    . rw[hc];exact nofun
   exact k c v (cov c v e' (λhm=>hc' (f.i c hm)) (.inr hc'))
section
variable {P:Program}{w:World}{K:Af}{mg:Str->Option Value}{base:Heap}{N:List Str}{qual:Str}{scope:Scope}{f:Addr}{cd:Value}{A:Around}{outer:List Env}{s₀:Shared}{H₀:Hp}{E:XK}
theorem fo:Passes (CXE P w) (x9 (CXE P w) P w K mg base N qual scope f cd A outer s₀ H₀ E) E:=by
 rintro pins σ H s e s' I ⟨a,cls,H',rfl,fl,hE⟩;obtain⟨t,g,B,u,hk,cov,fr,fly⟩:=fl.h;show wpAny _ _ _ _ _ _;have I1:Inv (x9 (CXE P w) P w K mg base N qual scope f cd A outer s₀ H₀ E) pins σ H' {s with heap:=g}:=I.call (g':=s.gens) (t':=s.toks) (d':=s.drawn) (ch:=[]) u hk I.D λb z=>absurd z (by simp)
 have hL:∀b,(b<s₀.heap.objs.size\/H' b≠none)->b≠s₀.heap.objs.size:=λb hb z=>by
  subst z;rcases hb with hb|hb
  . exact Be _ hb
  . exact hb I1.G
 have hmem:∀b,b∈frs outer->b∈frs (envOfC qual scope s₀.heap.objs.size f cd::outer):=λb hb=>Ah _ hb;refine wpAny_leaves_onW (base:=B) (env:=envOfC qual scope s₀.heap.objs.size f cd) (outer:=outer) (L:=s₀.heap.objs.size) I.B.g rfl fly λh' x1 x2=>?_;refine⟨a,cls,H',rfl,⟨fl.j.trans I.R,fl.d,λb hb=>fl.i b (hmem b hb),t,g,B,I1.C,hk,λb o e n hb=>?_,λb o e hb=>?_,x1⟩,hE⟩
 . refine cov b o e (λhm=>?_) ?_
   . rcases Aj.mp (show b∈s₀.heap.objs.size::frs outer from hm) with z|z
     . exact hL b hb z
     . exact n z
   . rcases hb with hb|hb
     . exact .inl (Au hb I.sz)
     . exact .inr hb
 . obtain⟨sl,e1⟩:=fr b o e (hmem b hb)
   obtain⟨_,o',e2,hd⟩:=fly.2.2.1.mem (hmem b hb);rw[e1]at e2;cases e2;obtain⟨sl',e3⟩:=x2 b _ e1 hd;exact⟨sl',e3⟩
theorem lu(I:Inv (x9 (CXE P w) P w K mg base N qual scope f cd A outer s₀ H₀ E) pins σ H s)(m:D3 s.heap h1 a (.ref C) us)(hE:E (.ref C) none H) :
 (x9 (CXE P w) P w K mg base N qual scope f cd A outer s₀ H₀ E).i (.ref a) {s with heap:=h1}:=by
 have hmem:∀b,b∈frs outer->b∈frs (envOfC qual scope s₀.heap.objs.size f cd::outer):=λb hb=>Ah _ hb;have hin:∀env∈(envOfC qual scope s₀.heap.objs.size f cd::outer),∀b,env.frame=some b->b∈frs (envOfC qual scope s₀.heap.objs.size f cd::outer):=λenv he b hb=>Cq.mpr ⟨env,he,hb⟩;have hst:s.heap.FunFrames base (envOfC qual scope s₀.heap.objs.size f cd::outer):=I.stack;show wpAny _ _ _ _ _ _;refine wpAny_leaves_madeW (base:=hideAll s.heap (frs (envOfC qual scope s₀.heap.objs.size f cd::outer))) (h:=s.heap) (env:=envOfC qual scope s₀.heap.objs.size f cd) (outer:=outer) (L:=s₀.heap.objs.size) I.B.g rfl (λb o q=>of_hideAll _ q) (funFrames_hide hst hin) m λh' t x1 x2 x3 x4=>?_;refine⟨a,_,H,rfl,⟨I.R,I.D,λb hb=>I.mK b (hmem b hb),t,s.heap,_,I.C,I.j,λb o e n hb=>hideAll_get _ e λhm=>?_,λb o e hb=>?_,x1⟩,hE⟩
 . rcases Aj.mp (show b∈s₀.heap.objs.size::frs outer from hm) with z|z
   . subst z
     rcases hb with hb|hb
     . exact Be _ hb
     . exact hb I.G
   . exact n z
 . obtain⟨_,o',e2,hd⟩:=hst.mem (hmem b hb)
   rw[e]at e2;cases e2;obtain⟨sl,e3⟩:=x4 b o (m.keeps b o e) hd;exact⟨sl,e3⟩
end
end L2
end
section
namespace L2
open PySem PySem.W PySem.Spec PyProof PyProof.Rows
noncomputable def veM:List Value:=[.type "ValueError",.type "Exception",.type "BaseException",.type "object"]
def ClsAt(h:Heap)(C:Addr)(bm:List Value):Prop:=∃(nm q:Str) (N:Addr) (bs:List Value) (hdct:Bool) (sn:List Str) (sub:List Value) (ab:Bool) (col:Option Bool) (dd:Option Addr) (k0 k1 k2 k3 k5:Option Value) (mN:Str->Option Value),
 h.get? C=some (BZ nm q C N bs bm hdct sn sub ab col dd k0 k1 k2 k3 k5 "ValueError.__new__")/\h.Ns N mN/\mN "__init__"=none
def XR(X:Cx)(C:Addr)(H:Hp):Prop:=∀(pins:List (Addr × Obj)) (σ:St) (s:Shared),Inv X pins σ H s->∀(h1:Heap) (a:Addr) (us:List Value),D3 s.heap h1 a (.ref C) us->X.i (.ref a) {s with heap:=h1}
def U4(X:Cx)(C:Addr)(t:TA):TS:=λ_ σ H=>t σ H λvs H1=>vs.length<=As/\XR X C H1
section
variable {X:Cx}
theorem ll(hc:X.A.handled=none)(hg:Gl X x)(hm:X.d x=some (.ref C))(cC:ClsAt X.h C (.ref D::veM))(cD:ClsAt X.h D veM)(ha:PA X (e::es) t)
 (hdb:(x == ("__debug__":Str))=false) (he:AJ (e::es) X.a=(false,eval e X.a)::AJ es X.a) (hpl:(backTo cpos (AJ es X.a)).any (·.1)=false):PS X (.Raise (some (.Call (.Name x np) (e::es) [] cpos)) none pos) (U4 X C t):=by
 intro pins s σ H D' I h;obtain⟨nm,q,N,bs,hdct,sn,sub,ab,col,dd,k0,k1,k2,k3,k5,mN,hC,hN,hz⟩:=cC;obtain⟨nm1,q1,N1,bs1,hd1,sn1,sub1,ab1,col1,dd1,j0,j1,j2,j3,j5,mN1,hD,hN1,hz1⟩:=cD;refine vv (C:=C) (D:=D) (nm:=nm) (q:=q) (N:=N) (bs:=bs) (hdct:=hdct) (sn:=sn) (sub:=sub) (ab:=ab) (col:=col) (dd:=dd) (k0:=k0) (k1:=k1) (k2:=k2) (k3:=k3) (k5:=k5) (mN:=mN)
  (nm1:=nm1) (q1:=q1) (N1:=N1) (bs1:=bs1) (hd1:=hd1) (sn1:=sn1) (sub1:=sub1) (ab1:=ab1) (col1:=col1) (dd1:=dd1) (j0:=j0) (j1:=j1) (j2:=j2) (j3:=j3) (j5:=j5) (mN1:=mN1) (new1:="ValueError.__new__") (Fp.two D) hc ?_ hz hz1 rfl Fp.mroIs (wy I hg hm ⟨rfl,?_⟩ hdb)
 . rw[he];exact hpl
 . rw[he]
   refine EL ?_;have q:=ha cpos pins s σ H _ I h;rw[he]at q;refine A3 q (λus s1 hq=>?_) λ_ _ z=>z;obtain⟨vs,H1,I1,r,hl,hx⟩:=hq;exact⟨rfl,by rw[<-r.length];exact hl,I1.bk _ _ hC,hN.keeps I1.bk,I1.bk _ _ hD,hN1.keeps I1.bk,λh' e' m=>hx pins σ s1 I1 h' e' _ m⟩
end
theorem X5{K}
 (hE:E (.ref C) none H):XR (x9 (CXE P w) P w K mg base N qual scope f cd A outer s₀ H₀ E) C H:=λ_ _ _ I _ _ _ m=>lu I m hE
end L2
end
section
namespace L2
open PySem PySem.W PySem.Spec PyProof PyProof.Rows
def tFs(ta tb:TE):TE:=λσ H Q=>ta σ H λx H1=>∃i:Int,x=.d i/\i.natAbs<2 ^ 64/\tb σ H1 λy H2=>∃j:Int,y=.d j/\j.natAbs<2 ^ 64/\∀z,Q (.e z) H2
theorem rC{i:Int}(h:i.natAbs<2 ^ 64):i.natAbs.log2<64:=by
 by_cases z:i.natAbs=0
 . rw[z];decide
 . exact(Nat.log2_lt z).mpr h
theorem oS{i:Int}(h:i.natAbs<2 ^ 64):(Df (toString i)).length<=65:=by rw[PySem.ofString_length];exact int_text_length_le (by decide) (rC h)
section
variable {X:Cx}
theorem RM(ha:PE X a ta)(hb:PE X b tb)(h1:c1.length<=1000)(h2:c2.length<=1000)(h3:c3.length<=1000) :
 PE X (.JoinedStr [.Constant (.str c1) k1 p1,.FormattedValue a (-1) none p2,.Constant (.str c2) k2 p3,.FormattedValue b (-1) none p4,.Constant (.str c3) k3 p5] pos) (tFs ta tb):=by
 intro pins s σ H Q I h;refine JoinedStr_many (D4 (DL ⟨?_,D4 (FormattedValue_plain ?_)⟩))
 . rw[A4,AV,show Ew.length=0 from rfl];omega
 refine thn (ha pins _ σ H _ (I.tok _) h) λu s1 ⟨x,H1,I1,r1,i,e1,hi,q1⟩=>?_;subst e1;obtain⟨t1,rfl⟩:=r1;have l1:=oS hi;refine formatField_int_small (Au (rC hi) (by decide)) ⟨?_,D4 (DL ⟨?_,D4 (FormattedValue_plain ?_)⟩)⟩
 . rw[A4,A4,AV,show Ew.length=0 from rfl];omega
 . rw[A4,A4,A4,AV,show Ew.length=0 from rfl];omega
 refine thn (hb pins _ σ H1 _ (I1.tok _) q1) λu2 s2 ⟨y,H2,I2,r2,j,e2,hj,q2⟩=>?_;subst e2;obtain⟨t2,rfl⟩:=r2;have l2:=oS hj;refine formatField_int_small (Au (rC hj) (by decide)) ⟨?_,D4 (DL ⟨?_,joinParts_nil ⟨.e _,H2,I2.tok _,⟨_,rfl⟩,q2 _⟩ ?_⟩)⟩
 . rw[A4,A4,A4,A4,AV,show Ew.length=0 from rfl];omega
 . rw[A4,A4,A4,A4,A4,AV,show Ew.length=0 from rfl];omega
 . rw[A4,A4,A4,A4,A4,AV,show Ew.length=0 from rfl];omega
end
end L2
end
section
namespace L2
open PySem PySem.W PySem.Spec PyProof PyProof.Rows
def Bm(base:Heap)(mg:Str->Option Value):Prop:=∃(bm:Addr) (ob:Obj),mg "__builtins__"=some (.ref bm)/\bm≠FJ/\base.get? bm=some ob/\ob.cls=.type "module"/\ob.dict=some FJ/\ob.data=.plain
def Ta(H:Hp)(P:Addr)(ps:Array Value)(pos:Pos)(q:Str)(c:Addr)(H':Hp):Prop:=H'=H \/
 ∃(o:Obj) (vs:Array Value) (t:Tok),DV pos ps.toList=none/\H c=none/\o.data=.fields vs/\vs[1]?=some (.str q t)/\H'=upd (upd H P (.g (ps++#[rawInt pos.line,rawInt pos.col,.ref c]))) c (.e o (.d 0))
section
variable {X:Cx}{pins:List (Addr × Obj)}{σ:St}{H:Hp}{s:Shared}{M:Model}{A:Around}{E:Value->Shared->Prop}
theorem bu(I:Inv X pins σ H s)(cy:defaultsOf a X.a=([],[]))(hcl:Gv lsc X.a=pure clos)
 (hcode:X.a.code=.ref c) (C:CodeHd s.heap c P) (hP:H P=some (.g ps)) (ht:DW ps.toList) (B:Bm X.h X.d)
 (hit:∀cv,DV pos ps.toList=some cv->∃c' o vs t,cv=.ref c'/\H c'=some (.e o (.d 0))/\o.data=.fields vs/\vs[1]?=some (.str (X.a.qual++("<lambda>":Str)) t))
 (h:∀lf c' ctv H' h' tk,Inv X pins σ H' {s with heap:=h',toks:=tk}->Ta H P ps pos (X.a.qual++("<lambda>":Str)) c' H'->(H' lf=none/\lf ∉ frs X.g/\∃o vs t,H' c'=some (.e o (.d 0))/\o.data=.fields vs/\vs[1]?=some (.str (X.a.qual++("<lambda>":Str)) t)) ->
  h'.get? lf=some (kla_obj "<lambda>" (X.a.qual++("<lambda>":Str)) a body lsc clos ((X.d "__name__").getD .none) c' ctv)->h'.CodeRec (.ref c') (X.a.qual++("<lambda>":Str))->Q (.ref lf) {s with heap:=h',toks:=tk}) :
 wpAny M A (eval (.Lambda a body lsc pos) X.a) Q E s:=by
 obtain⟨bm,ob,b1,b2,b3,b4,b5,b6⟩:=B;have hPo:s.heap.get? P=some (tabObj ps):=I.j P _ hP;have hg:s.heap.Ns AK X.d:=I.mod.c.keeps I.bk;have hbH:H bm=none:=(I.bs _ _ b3).2;have hbP:bm≠P:=λz=>by rw[z,hP]at hbH;cases hbH
 obtain⟨og,eg,pg,g1,g2,_⟩:=I.mod.c;have hgH:H AK=none:=(I.bs _ _ g1).2;have hgP:AK≠P:=λz=>by rw[z,hP]at hgH;cases hgH
 have hbG:bm≠AK:=λz=>by rw[z,g1]at b3;cases b3;rw[g2]at b6;cases b6
 have hb:s.heap.BuiltinsAt X.d P:=⟨bm,ob,b1,b2,hbG,hbP,I.bk _ _ b3,b4,b5,b6⟩;have nst:∀lf,s.heap.objs.size<=lf->lf ∉ frs X.g:=λlf hl hm=>by obtain⟨_,o,e,_⟩:=I.stack.mem hm;exact absurd (Au (Ai e) hl) (Be _)
 refine kla_eval cy ?_;cases hf:DV pos ps.toList with
 |some cv=>
  obtain⟨c',o,vs,t,rfl,q1,q2,q3⟩:=hit cv hf;refine kla_makeFunctionHit (mg:=X.d) hcl I.B.k hg hcode C hPo ht hf hb λctv h' tk hk hsz=>?_;have hk2:∀b u,s.heap.get? b=some u->(h'.push {cls:=.type "function",data:=.func (kla_fn "<lambda>" (X.a.qual++("<lambda>":Str)) a body lsc clos ((X.d "__name__").getD .none) (.ref c') ctv)}).get? b=some u:=λb u e=>nx _ (hk b u e);have hcr:s.heap.CodeRec (.ref c') (X.a.qual++("<lambda>":Str)):=⟨c',o,vs,t,rfl,(I.j c' _ q1).1,q2,q3⟩;refine h _ c' ctv H _ tk (I.kept hk2) (.inl rfl) ⟨I.j.fresh hsz,nst _ hsz,o,vs,t,q1,q2,q3⟩ (Az _ rfl) ?_;obtain⟨c2,o2,vs2,t2,e1,e2,e3⟩:=hcr;exact⟨c2,o2,vs2,t2,e1,hk2 _ _ e2,e3⟩
 |none=>
  refine kla_makeFunction (mg:=X.d) hcl I.B.k hg hcode C hPo ht hf hgP hb λc' ctv h' tk hx hge hlt kf htb=>?_;obtain⟨c2,oc,vs,t,e1,e2,e3,e4⟩:=kf;cases e1;have hcn:H c'=none:=I.j.fresh hge;have hcP:c'≠P:=λz=>by rw[z,hP]at hcn;cases hcn
  have hk2:∀b u,b≠P->s.heap.get? b=some u->(h'.push (kla_obj "<lambda>" (X.a.qual++("<lambda>":Str)) a body lsc clos ((X.d "__name__").getD .none) c' ctv)).get? b=some u:=λb u n e=>nx _ (hx b u n e);have nP:∀b,H b=none->b≠P:=λb n z=>by rw[z,hP]at n;cases n
  have nc:∀b o,s.heap.get? b=some o->b≠c':=λb o e z=>absurd (Au (Ai e) hge) (by rw[z];exact Be _)
  refine h _ c' ctv (upd (upd H P (.g (ps++#[rawInt pos.line,rawInt pos.col,.ref c']))) c' (.e oc (.d 0))) _ tk (I.un (t':=tk) ⟨λb o e n _ _=>hk2 b o (nP b n) e,λb o e n _ _=>⟨o.slots,hk2 b o (nP b n) e⟩,λb o e n _=>?_,λb o e _=>?_,λb xs e=>?_,λb o u e=>?_,λb qs e=>?_⟩ λb u e=>?_)
   (.inr ⟨oc,vs,t,hf,hcn,e3,e4,rfl⟩) ⟨by rw[zJ (DN hlt),zJ (nP _ (I.j.fresh (AD hge (DJ hlt))))];exact I.j.fresh (AD hge (DJ hlt)),nst _ (AD hge (DJ hlt)),oc,vs,t,zP,e3,e4⟩ (Az _ rfl) ⟨c',oc,vs,t,rfl,nx _ e2,e3,e4⟩
  . rw[zJ (nc b o e),zJ (nP b n)];exact n
  . by_cases z:b=P
    . rw[z];exact⟨_,nx _ htb⟩
    . exact⟨o,hk2 b o z e⟩
  . have z1:b≠c':=λz=>by rw[z,hcn]at e;cases e
    have z2:b≠P:=λz=>by rw[z,hP]at e;cases e
    rw[zJ z1,zJ z2];exact e
  . have z1:b≠c':=λz=>by rw[z,hcn]at e;cases e
    have z2:b≠P:=λz=>by rw[z,hP]at e;cases e
    rw[zJ z1,zJ z2];exact e
  . have z1:b≠c':=λz=>by rw[z,hcn]at e;cases e
    rw[zJ z1];by_cases z:b=P
    . subst z
      rw[hP]at e;cases e;exact⟨_,zP⟩
    . rw[zJ z];exact⟨#[],by rw[e];simp⟩
  . by_cases z1:b=c'
    . subst z1
      rw[zP]at e;cases e;exact⟨nx _ e2,oc,nx _ e2⟩
    . rw[zJ z1]at e
      by_cases z:b=P
      . subst z
        rw[zP]at e;cases e;exact nx _ htb
      . rw[zJ z]at e
        have own:∀d y,H d=some (.d y)->d≠c'/\d≠P:=λd y r=>⟨λz=>(by rw[z,hcn]at r;cases r),λz=>(by rw[z,hP]at r;cases r)⟩
        refine(I.j b u e).pQ (λd v hd q=>hk2 d v ?_ q) (λd r=>by rw[zJ (own d b r).1,zJ (own d b r).2];exact r) λd xs r=>?_
        . rcases hd with rfl|hd
          . exact z
          . exact(own d b hd).2
        . have y1:d≠c':=λz=>by rw[z,hcn]at r;cases r
          have y2:d≠P:=λz=>by rw[z,hP]at r;cases r
          rw[zJ y1,zJ y2];exact r
end
end L2
end
section
namespace L2
open PySem PySem.W PySem.Spec PyProof PyProof.Rows
section
variable {P:Program}{w:World}{K:Af}{mg:Str->Option Value}{base:Heap}{CX:CXT}{A:Around}{outer:List Env}{s:Shared}{H:Hp}{E:XK}{R:Result->Shared->Prop}
noncomputable abbrev Cx.loud(X:Cx)(A:Around):Cx:={X with A:=A,j:=false}
theorem Inv.loud(I:Inv X pins σ H s)(hf:A'.frames=some X.g):Inv (X.loud A') pins σ H s:=
 ⟨⟨I.B.j,I.B.a,I.B.k,I.B.t,I.B.d,I.B.s,I.B.r,I.B.q,λz=>absurd z xd,hf,I.B.w,I.B.G,I.B.B,I.B.p,I.B.m,I.B.l,I.B.D,I.B.u⟩,I.R,I.D,I.C,I.M,I.F,I.G,I.J,I.O,I.j,I.P⟩
theorem Inv.calm(I:Inv (X.loud A') pins σ H s)(ok:X.Ok):Inv X pins σ H s:=
 ⟨ok,I.R,I.D,I.C,I.M,I.F,I.G,I.J,I.O,I.j,I.P⟩
abbrev dC(P:Program)(w:World)(A:Around)(env:Env)(R:Result->Shared->Prop)(body:List Stmt)(s1:Shared):Prop:=
 wpAny (model P w) (A.deeper env) (execs body env) (λfl s'=>R (.ok (.ret (match fl with|.ret v=>v|_=>.none))) s')
  (λe s'=>wpAny (model P w) (A.deeper env) (leaving env e) (λ_ s''=>R (.error e) s'') (λe' s''=>R (.error e') s'') s') s1
theorem my{dV kV doc pm cdv ct oc}
 (lk:K.lookup f=some ⟨oc,od,.func (BG name qual params body scope dV kV doc pm an cdv ct),osl⟩) (hcd:BS K cdv qual=true) (S:wq N ps scope) (hdp:A.depth<CI)
 (e0:kK P w K mg base A outer s H) (hb:BindsTo s (BG name qual params body scope dV kV doc pm an cdv ct) args (ps.zip us)) (hl:vs.length=ps.length) (r:Vals vs us)
 (h:∀s1:Shared,Inv (x9 CX P w K mg base N qual scope f cdv {A with handled:=none} outer s H E) [] (start N vs) H s1->(∀b o,s.heap.get? b=some o->s1.heap.get? b=some o)->dC P w A (envOfC qual scope s.heap.objs.size f cdv) R body s1) :
 codeAny (model P w) A (.call (.ref f) args) R s:=by
 have KX:K.In s.heap:=e0.c.a.keeps λb o e=>(e0.e b o e).1;have lim:s.heap.NoLimit:=e0.c.b.keeps λb o e=>(e0.e b o e).1;have hkind:∀y∈ps.zip us,scope.names.lookup y.1=some .local\/(scope.names.lookup y.1=some .cell/\((Cr (s.heap.objs.size+1) scope.names []).lookup y.1).isSome=true):=λ⟨n,v⟩ hy=>by
  rcases S.e n (EI hy).1 with q|q
  . exact .inl q
  . exact .inr ⟨q,Ec _ _ _ (.inl q)⟩
 refine codeAny_call_function hdp (KX _ _ lk) rfl S.co S.f rfl (PySem.W.codeRec_of KX hcd) (hb _ _ _ _ ?_);refine Fg S.a hkind λenv he s1 x=>?_;subst he;refine⟨lim.keeps x.toInCall.keep,codeAny_func ?_⟩;exact h s1 (oD (A:={A with handled:=none}) S rfl ⟨e0.a,e0.c,e0.e,e0.g,e0.i,e0.h,e0.d,e0.f⟩ hl r x) x.toInCall.keep
theorem mX(h:A.handled=none):{A with handled:=none}=A:=by
 cases A;simp only at h;subst h;rfl
noncomputable def noArgs:Er:=⟨[],[],none,[],[],none,[]⟩
noncomputable def qF(CX:CXT)(P:Program)(w:World)(K:Af)(mg:Str->Option Value)(base:Heap)(N:List Str)(qual:Str)(scope:Scope)(f:Addr)(cd:Value)(cl:List (Str × Addr))(A:Around)(outer:List Env)(s:Shared)(H:Hp)(E:XK):Cx where
 f:=P
 w:=w
 K:=K
 d:=mg
 h:=base
 A:=A.deeper (envX qual scope s.heap.objs.size f cd cl)
 N:=N
 l:=s
 r:=H
 a:=envX qual scope s.heap.objs.size f cd cl
 k:=outer
 g:=envX qual scope s.heap.objs.size f cd cl::outer
 m:=[]
 j:=true
 n:=λ_=>false
 q:=[]
 i:=λe s'=>wpAny (model P w) (A.deeper (envX qual scope s.heap.objs.size f cd cl)) (leaving (envX qual scope s.heap.objs.size f cd cl) e) (λ_ s''=>CX outer H s E e s'') (λe' s''=>CX outer H s E e' s'') s'
theorem Ys(hdp:A.depth<CI)(hh:A.handled=none)(e0:kK P w K mg base A outer s H)
 (ho:s.heap.get? lf=some (kla_obj nm qual noArgs body lsc cl pm c ctv)) (hcr:s.heap.CodeRec (.ref c) qual) (hk:lsc.kind=.function) (hco:lsc.isCoroutine=false) (hgen:lsc.isGenerator=false)
 (hnm:∀x∈lsc.names,x.2≠.cell/\x.2≠.local) (hinj:∀x y b,cl.lookup x=some b->cl.lookup y=some b->x=y) (hhas:∀x,lsc.names.lookup x=some .free->∃b,cl.lookup x=some b)
 (hcel:∀x b,cl.lookup x=some b->(∃v,s.heap.IsCell b v)/\H b=none)
 (hval:∀(i:Nat) x v,N[i]?=some x->σ[i]?=some (some v)->lsc.names.lookup x=some .free->∃u b,RelV v u/\cl.lookup x=some b/\s.heap.IsCell b (some u)) (hlen:σ.length=N.length)
 (h:∀s1:Shared,Inv (qF CX P w K mg base N qual lsc lf (.ref c) cl A outer s H E) [] σ H s1->wpAny (model P w) (A.deeper (envX qual lsc s.heap.objs.size lf (.ref c) cl)) (eval body (envX qual lsc s.heap.objs.size lf (.ref c) cl)) (λv s'=>R (.ok (.ret v)) s')
  (λe s'=>wpAny (model P w) (A.deeper (envX qual lsc s.heap.objs.size lf (.ref c) cl)) (leaving (envX qual lsc s.heap.objs.size lf (.ref c) cl) e) (λ_ s''=>R (.error e) s'') (λe' s''=>R (.error e') s'') s') s1) :
 codeAny (model P w) A (.call (.ref lf) ⟨[],[]⟩) R s:=by
 have lim:s.heap.NoLimit:=e0.c.b.keeps λb o e=>(e0.e b o e).1;refine kla_callFunE hdp ho rfl hco hgen rfl hcr ?_;have hb:Gs (kla_fn nm qual noArgs body lsc cl pm (.ref c) ctv) ⟨[],[]⟩=pure []:=rfl;rw[hb];refine Ag (wpAny_newFunctionEnv (λx hx=>(hnm x hx).1) (λx hx=>absurd hx (by simp)) (λh₁ hns hsb=>⟨lim.fresh _ hsb,?_⟩) hk)
 show codeAny _ _ (.expr body (envX qual lsc s.heap.objs.size lf (.ref c) cl)) _ _;have hk₁:∀b o,s.heap.get? b=some o->h₁.get? b=some o:=λb o e=>hsb.extBut b o (AI (Ai e)) (nx _ e);have noA:∀b:Addr,b ∉ (qF CX P w K mg base N qual lsc lf (.ref c) cl A outer s H E).m:=λb z=>absurd (show b∈([]:List Addr) from z) (by simp)
 have cellK:∀b v,s.heap.IsCell b v->h₁.IsCell b v:=λb v ⟨o,e,d⟩=>⟨o,hk₁ b o e,d⟩;refine kla_codeExpr (h _ ⟨⟨e0.c,hk,rfl,rfl,Ac _,hinj,λy hy=>?_,λy b z _=>absurd z xd,λ_=>hh,EJ e0.a,.inr ⟨rfl,rfl⟩,λb z=>absurd z (noA b),e0.e,e0.g,λb _ _=>noA b,λb z=>absurd z (noA b),e0.i,e0.h⟩,
  rfl,e0.f,Un.kept hk₁,⟨_,hns,λi y v h1 h2 h3=>?_⟩,λy b e=>?_,e0.d.fresh (Ac _),λy b e=>(hcel y b e).2,λp hp=>absurd (show p∈([]:List (Addr × Obj)) from hp) (by simp),e0.d.kept hk₁,hlen⟩)
 . have hy:lsc.names.lookup y=some .cell\/lsc.names.lookup y=some .free:=hy
   rcases hy with hy|hy
   . exact absurd rfl (hnm _ (AW hy)).1
   . exact hhas y hy
 . have h3:lsc.names.lookup y=some .local\/lsc.names.lookup y=some .cell\/lsc.names.lookup y=some .free:=h3
   rcases h3 with z|z|z
   . exact absurd rfl (hnm _ (AW z)).2
   . exact absurd rfl (hnm _ (AW z)).1
   . obtain⟨u,b,q1,q2,q3⟩:=hval i y v h1 h2 z
     exact⟨u,q1,.inr ⟨.inr z,b,q2,cellK _ _ q3⟩⟩
 . obtain⟨v,q⟩:=(hcel y b e).1
   exact⟨v,cellK b v q⟩
end
end L2
end
section
namespace L2
open PySem PySem.W PySem.Spec PyProof PyProof.Rows
section
variable {P:Program}{w:World}{K:Af}{mg:Str->Option Value}{base:Heap}{A:Around}{outer:List Env}{s₀:Shared}{H₀:Hp}{E:XK}
theorem qm:Passes (CXE P w) (qF (CXE P w) P w K mg base N qual scope f cd cl A outer s₀ H₀ E) E:=by
 rintro pins σ H s e s' I ⟨a,cls,H',rfl,fl,hE⟩;obtain⟨t,g,B,u,hk,cov,fr,fly⟩:=fl.h;show wpAny _ _ _ _ _ _;have I1:Inv (qF (CXE P w) P w K mg base N qual scope f cd cl A outer s₀ H₀ E) pins σ H' {s with heap:=g}:=I.call (g':=s.gens) (t':=s.toks) (d':=s.drawn) (ch:=[]) u hk I.D λb z=>absurd z (by simp)
 have hL:∀b,(b<s₀.heap.objs.size\/H' b≠none)->b≠s₀.heap.objs.size:=λb hb z=>by
  subst z;rcases hb with hb|hb
  . exact Be _ hb
  . exact hb I1.G
 have hmem:∀b,b∈frs outer->b∈frs (envX qual scope s₀.heap.objs.size f cd cl::outer):=λb hb=>Ah _ hb;refine wpAny_leaves_onW (base:=B) (env:=envX qual scope s₀.heap.objs.size f cd cl) (outer:=outer) (L:=s₀.heap.objs.size) I.B.g rfl fly λh' x1 x2=>?_;refine⟨a,cls,H',rfl,⟨fl.j.trans I.R,fl.d,λb hb=>fl.i b (hmem b hb),t,g,B,I1.C,hk,λb o e n hb=>?_,λb o e hb=>?_,x1⟩,hE⟩
 . refine cov b o e (λhm=>?_) ?_
   . rcases Aj.mp (show b∈s₀.heap.objs.size::frs outer from hm) with z|z
     . exact hL b hb z
     . exact n z
   . rcases hb with hb|hb
     . exact .inl (Au hb I.sz)
     . exact .inr hb
 . obtain⟨sl,e1⟩:=fr b o e (hmem b hb)
   obtain⟨_,o',e2,hd⟩:=fly.2.2.1.mem (hmem b hb);rw[e1]at e2;cases e2;obtain⟨sl',e3⟩:=x2 b _ e1 hd;exact⟨sl',e3⟩
end
section
variable {X:Cx}{pins:List (Addr × Obj)}{σ:St}{H H':Hp}{s s':Shared}{a:Addr}{cls:Value}
theorem Inv.WH(I:Inv X pins σ H s)(f:tK X.f X.w X.g H s H' a cls s'):Inv X pins σ H' s':=by obtain⟨u,hk⟩:=f.un;obtain⟨hh,g,d,t,os⟩:=s';obtain rfl:os=s.os:=f.j;exact I.call (h':=hh) (g':=g) (d':=d) (t':=t) (ch:=[]) u hk f.d λb z=>absurd z (by simp)
theorem tK.obj(f:tK X.f X.w X.g H s H' a cls s')(I:Inv X pins σ H s):∃oe,s'.heap.get? a=some oe/\oe.cls=cls/\H' a=none/\s.heap.get? a=none/\(∃vs,oe.data=.fields vs):=by
 obtain⟨t,g,B,u,hk,cov,fr,fly⟩:=f.h;obtain⟨f1,f2,f3,oe,vs,_,_,_,he,hc,hd,_⟩:=id fly;have nfr:a ∉ frs X.g:=λhm=>by obtain⟨_,o',e2,hd'⟩:=f3.mem hm;rw[he]at e2;cases e2;exact hd' vs hd
 refine⟨oe,he,hc.1,?_,?_,vs,hd⟩
 . cases q:H' a with
   |none=>rfl
   |some o=>
    have ht:=(hk a o q);have:∃ob,g.get? a=some ob:=by
     have hlt:=ht.lt;cases qg:g.get? a with
     |some ob=>exact⟨ob,rfl⟩
     |none=>
      exfalso;cases o with
      |b xs=>obtain⟨_,_,_,_,e⟩:=ht;rw[qg]at e;cases e
      |c xs=>obtain⟨_,_,_,ob,e,_⟩:=ht;rw[qg]at e;cases e
      |i kvs=>obtain⟨_,_,_,_,ob,_,_,e,_⟩:=ht;rw[qg]at e;cases e
      |j kvs=>obtain⟨_,_,_,_,ob,_,_,e,_⟩:=ht;rw[qg]at e;cases e
      |l S n=>obtain⟨ob,_,_,_,e,_⟩:=ht;rw[qg]at e;cases e
      |k C dx fs=>obtain⟨_,_,_,e,_⟩:=ht;rw[qg]at e;cases e
      |d y=>obtain⟨_,e⟩:=ht;rw[qg]at e;cases e
      |r fs=>obtain⟨_,⟨_,_,_,e,_⟩,_⟩:=ht;rw[qg]at e;cases e
      |q lo hi=>obtain⟨_,_,_,e⟩:=ht;rw[qg]at e;cases e
      |e ob u=>obtain⟨e,_⟩:=ht;rw[qg]at e;cases e
      |g ps=>have e:g.get? a=some _:=ht;rw[qg]at e;cases e
      |p f y=>have e:g.get? a=some _:=ht;rw[qg]at e;cases e
      |m φ=>obtain⟨_,⟨_,e⟩,_⟩:=ht;rw[qg]at e;cases e
    obtain⟨ob,e⟩:=this;rw[cov a ob e nfr (.inr (by rw[q];exact nofun))]at f2
    cases f2
 . cases q:s.heap.get? a with
   |none=>rfl
   |some o=>
    obtain⟨o',e⟩:=u.c a o q (by simp)
    rw[cov a o' e nfr (.inl (Ai q))]at f2;cases f2
theorem Inv.adopt(I:Inv X [] σ H s)(hn:H a=none)(he:s.heap.get? a=some oe)(hd:oe.data=.fields vs)(h0:X.l.heap.get? a=none)(hpn:X.q=[]):Inv X [] σ (upd H a (.e oe (.d 0))) s:=by
 have ne:∀b,H b≠none->b≠a:=λb n z=>n (by rw[z];exact hn)
 have nL:X.a.locals≠a:=λz=>by obtain⟨m,⟨o,es,ep,e,d,_⟩,_⟩:=I.M;rw[z,he]at e;cases e;rw[hd]at d;cases d
 have nC:∀x c,X.a.cells.lookup x=some c->c≠a:=λx c e z=>by obtain⟨v,o,e2,d⟩:=I.F x c e;rw[z,he]at e2;cases e2;rw[hd]at d;cases d
 have ob:∀b u,H b=some u->upd H a (.e oe (.d 0)) b=some u:=λb u e=>by rw[zJ (ne b (by rw[e];exact nofun))];exact e
 refine⟨I.B,I.R,I.D,⟨I.C.f,I.C.i,λb o e n hx=>?_,I.C.c,λb xs e=>ob _ _ (I.C.l b xs e),λb o u e=>ob _ _ (I.C.g b o u e),λb ps e=>?_⟩,I.M,I.F,?_,λx c e=>?_,λp hp=>?_,λb u e=>?_,I.P⟩
 . rw[zJ (λz=>by rw[z,h0]at e;cases e)];exact I.C.d b o e n hx
 . obtain⟨more,q⟩:=I.C.j b ps e
   exact⟨more,ob _ _ q⟩
 . rw[zJ nL];exact I.G
 . rw[zJ (nC x c e)];exact I.J x c e
 . rw[hpn]at hp;cases hp
 . by_cases z:b=a
   . subst z
     rw[zP]at e;cases e;exact⟨he,oe,he⟩
   . rw[zJ z]at e
     exact(I.j b u e).pQ (λ_ _ _ q=>q) (λc q=>ob _ _ q) λc xs q=>ob _ _ q
theorem Inv.gone(I:Inv X [] σ H s)(hn:h'.Ns X.a.locals m')(hs:DK X.a.locals s.heap h')(hpn:X.q=[]):Inv X [] (Ak X.N.length none) H {s with heap:=h',toks:=tk}:=by
 have neL:∀b o,X.l.heap.get? b=some o->b≠X.a.locals:=λb o e=>AI (Au (Ai e) I.B.d);refine⟨I.B,I.R,I.D,⟨λb o e n hb hx=>?_,λb o e n hb hx=>?_,I.C.d,λb o e hx=>?_,I.C.l,I.C.g,I.C.j⟩,⟨m',hn,λi x v e1 e2 e3=>?_⟩,λy c e=>?_,I.G,I.J,λp hp=>?_,λb u e=>?_,by simp⟩
 . exact(hs.2 b (neL b o e)).trans (I.C.f b o e n hb hx)
 . obtain⟨sl,e1⟩:=I.C.i b o e n hb hx
   exact⟨sl,(hs.2 b (neL b o e)).trans e1⟩
 . obtain⟨o',e1⟩:=I.C.c b o e hx
   exact⟨o',(hs.2 b (neL b o e)).trans e1⟩
 . rw[CV]at e2
   split at e2<;>cases e2
 . obtain⟨v,z⟩:=I.F y c e
   exact⟨v,z.sameBut hs (I.cne y c e)⟩
 . rw[hpn]at hp;cases hp
 . refine(I.j b u e).pQ (λc v hc q=>(hs.2 c ?_).trans q) (λ_ q=>q) λ_ _ q=>q
   rintro rfl;have z:=I.G;rcases hc with rfl|hc
   . rw[z]at e;cases e
   . rw[z]at hc;cases hc
end
end L2
end
section
namespace L2
open PySem PySem.W PySem.Spec PyProof PyProof.Rows
section
variable {prog:Program}{w:World}{A:Around}{E:Value->Shared->Prop}{s:Shared}{env:Env}
theorem g6
 (h:wpAny (model prog w) (A.mark (some (.ref e))) (eval t env) (λc s₁=>Looks (model prog w) s₁.heap (excMatches (.ref e) c) true /\
  wpAny (model prog w) (A.mark (some (.ref e))) (setFlight (.ref e) none) (λ_ s₂=>
   wpAny (model prog w) (A.mark (some (.ref e))) (GB env n (.ref e)) (λ_ s₃=>
    wpAny (model prog w) (A.mark (some (.ref e))) (execs (b₀::suite) env)
     (λf s₄=>wpAny (model prog w) A (do C6 env n .none;unbindBehindTheSuite env n pos) (λ_ s₅=>Q f s₅) E s₄)
     (AsSuiteRaised (model prog w) (A.mark (some (.ref e))) env n pos (notedBy (model prog w) (A.mark (some (.ref e))) env (FO (model prog w) A env E))) s₃) (notedBy (model prog w) (A.mark (some (.ref e))) env (FO (model prog w) A env E)) s₂) (notedBy (model prog w) (A.mark (some (.ref e))) env (FO (model prog w) A env E)) s₁) (notedBy (model prog w) (A.mark (some (.ref e))) env (FO (model prog w) A env E)) s) :
 wpAny (model prog w) A (handleBy (.ref e) env (.ExceptHandler (some t) (some n) (b₀::suite) pos::rest)) Q E s:=by
 refine wpAny_handleBy_cons (codeAny_handlers_test (A3 h (λc s₁ h₁=>?_) λ_ _ y=>y)) (by intro q;cases q)
 obtain⟨L,hk⟩:=h₁;exact L.here (codeAny_handlers_suite_as hk)
end
def pG(Kc K:Af):Prop:=∀a o,Kc.lookup a=some o->K.lookup a=some o
theorem pG.inn{Kc K}(s:pG Kc K)(x:K.In h):Kc.In h:=λa o e=>x a o (s a o e)
def XC(X:Cx)(EE:Value->Hp->Prop)(e:Value)(s':Shared):Prop:=∃(a:Addr) (cls:Value) (σ2:St) (H2:Hp) (s2:Shared) (H':Hp),e=.ref a/\Inv X [] σ2 H2 s2/\tK X.f X.w X.g H2 s2 H' a cls s'/\EE cls H'
theorem qU(e:h.get? a=some o)(hc:o.cls=cls):Looks M h (typeOf (.ref a)) cls:=hc▸(Looks.ld e).andThen .now
theorem qL{g B h h':Heap}(fr:∀b o,g.get? b=some o->b∈frs l->∃sl,h.get? b=some {o with slots:=sl})(ff:h.FunFrames B l)(sm:h.UpToSlots h'):∀b o,g.get? b=some o->b∈frs l->∃sl,h'.get? b=some {o with slots:=sl}:=λb o e hb=>by obtain⟨sl,e1⟩:=fr b o e hb;obtain⟨_,o',e2,hd⟩:=ff.mem hb;rw[e1]at e2;cases e2;obtain⟨sl',e3⟩:=sm b _ e1 hd;exact⟨sl',e3⟩
section
variable {X:Cx}{σ:St}{H:Hp}{s:Shared}{D:Ends}{EE:Value->Hp->Prop}
theorem Zf(I:Inv X [] σ H s)(hpn:X.q=[])(hxn:X.m=[])(hN:X.N.Nodup)(hl:X.a.scope.names.lookup n=some .local)(hi:X.N[ie]?=some n)
 (hst:X.g=X.a::X.k) (hfr:X.a.frame=some X.a.locals) (hg:Gl X hx) (hdb:(hx == ("__debug__":Str))=false) (hm:X.d hx=some (.ref hue)) (hb:PSs (X.wo (XC X EE)) body tb) (hq:tb D σ H)
 (hex:∀cls H',EE cls H'->(∃Kc,pG Kc X.K/\exmOne Kc cls (.ref hue)=some true)/\∀a oe (σ2:St),H' a=none->oe.cls=cls->σ2.length=X.N.length->ts {a:=λ_ _=>False,b:=D.b} (σ2.set ie (some (.c a))) (upd H' a (.e oe (.d 0))))
 (hs:∀a:Addr,PSs (X.loud (X.A.mark (some (.ref a)))).nox (b₀::suite) ts) :
 wpAny (model X.f X.w) X.A (exec (.Try body [.ExceptHandler (some (.Name hx np)) (some n) (b₀::suite) hpos] [] [] pos) X.a) (SP X [] D) X.i s:=by
 refine wpAny_Try_except (A3 (hb [] s σ H D (I.wo _) hq) (λf s1 hsp=>?_) λe s1 hx'=>?_)
 . have q:=hsp.xK
   cases f with
   |next=>
    obtain⟨σ1,H1,I1,q1⟩:=q;exact mD [] s1 σ1 H1 D I1 q1
   |brk=>exact q
   |cont=>exact q
   |ret u=>exact q
 . obtain⟨a,cls,σ2,H2,s2,H',rfl,I2,f,hE⟩:=hx'
   obtain⟨hx1,hx2⟩:=hex cls H' hE;obtain⟨t,g,B,u,hk,cov,fr,fly⟩:=f.h;have fl0:=fly;rw[hst]at fly;have hA:X.A.frames=some (X.a::X.k):=by rw[<-hst];exact I.B.g
   refine wpAny_looks_onW hA hfr fly λh4 held4 sm4=>?_;refine wpAny_landsW held4 λh5 fly5 sm5=>?_;have fly5':Heap.FlyingW B X.g a cls (.ref t) h5:=by rw[hst];exact fly5
   have f5:tK X.f X.w X.g H2 s2 H' a cls {s1 with heap:=h5}:=⟨f.j,f.d,f.i,t,g,B,u,hk,cov,qL fr fl0.2.2.1 (sm4.trans sm5),fly5'⟩
   have I5:=(I2.WH f5).loud (A':=X.A.mark (some (.ref a))) (by rw[hst];exact hA)
   refine g6 (wy (X:=X.loud (X.A.mark (some (.ref a)))) I5 hg hm ⟨?_,?_⟩ hdb)
   . obtain⟨oe,e1,e2,_⟩:=f5.obj I2
     obtain⟨Kc,sub,hx1⟩:=hx1;exact exm_one (sub.inn I5.kIn) (qU e1 e2) hx1
   . refine lands_againW fly5' λh6 fly6 sm6=>?_
     have f6:tK X.f X.w X.g H2 s2 H' a cls {s1 with heap:=h6}:=⟨f.j,f.d,f.i,t,g,B,u,hk,cov,qL (qL fr fl0.2.2.1 (sm4.trans sm5)) fly5'.2.2.1 sm6,fly6⟩
     obtain⟨oe,e1,e2,e3,e4,vs,e5⟩:=f6.obj I2;have I6:=I2.WH f6;have h0:X.l.heap.get? a=none:=by
      cases q:X.l.heap.get? a with
      |none=>rfl
      |some o=>
       have hne:a ∉ X.m:=by rw[hxn];exact nofun
       obtain⟨o',q'⟩:=I2.C.c a o q hne;rw[e4]at q';cases q'
     have I7:=(I6.adopt e3 e1 e5 h0 hpn).loud (A':=X.A.mark (some (.ref a))) (by rw[hst];exact hA)
     refine xf (X:=X.loud (X.A.mark (some (.ref a)))) (v:=.c a) I7 hN hi (.inl hl) rfl (λs8 I8=>?_) (.inr hl);refine A3 ((hs a) [] s8 _ _ {a:=λ_ _=>False,b:=D.b} (I8.wo _) (hx2 a oe σ2 e3 e2 I2.P)) (λfl s9 hsp=>?_) λ_ _ z=>Ay z;have q:=hsp.xK;cases fl with
     |next=>obtain⟨_,_,_,z⟩:=q;exact Ay z
     |brk=>obtain⟨_,_,_,z⟩:=q;exact Ay z
     |cont=>obtain⟨_,_,_,z⟩:=q;exact Ay z
     |ret u=>
      obtain⟨v,σ',H3,I9,rv,q9⟩:=q;have I10:Inv X [] σ' H3 s9:=I9.calm I.B;obtain⟨m,hn,_⟩:=I10.M;exact wpAny_nameGoes hl hn (by rw[I.B.a];rfl) λh' m' hn' hs'=>⟨v,_,H3,I10.gone hn' hs' hpn,rv,q9⟩
end
end L2
end
section
namespace L2
open PySem PySem.W PySem.Spec PyProof PyProof.Rows
open Sem (wp)
structure rm(K:Af)(C:Addr):Prop where
 ga:findIn K (.ref C) "__getattribute__"=some (some (.builtin "BaseException.__getattribute__"))
 gt:findIn K (.ref C) "__getattr__"=some none
 cl:findIn K (.ref C) "__class__"=some (some (.builtin "object.__class__"))
 be:subIn K (.ref C) (.type "BaseException")=some true
 ob:subIn K (.ref C) (.type "object")=some true
 it:(clsIn K C).isSome=true
section
variable {prog:Program}{w:World}{A:Around}{E:Value->Shared->Prop}{h:Heap}{g:Array GenState}{d:Drawn}{t:Nat}{os:OsState}{a C:Addr}{o:Obj}{K:Af}
theorem iG(F:rm K C)(X:K.In h)(hx:h.get? a=some o)(hc:o.cls=.ref C)(hq:R (.ok (.ret (.ref C))) ⟨h,g,d,t,os⟩) :
 codeAny (model prog w) A (.call (.builtin "getset_descriptor.__get__") ⟨[.builtin "object.__class__",.ref a,.ref C],[]⟩) R ⟨h,g,d,t,os⟩:=by
 have hT5:(⟨h,g,d,t,os⟩:Shared).TypeIs (.builtin "object.__class__") "getset_descriptor":=Di;have L1:Looks (model prog w) h (isSubtype (.ref C) (.type (".".intercalate ("object.__class__".cutAt '.').dropLast))) true:=by rw[PySem.F.owner_object_class];exact looks_subIn X F.ob
 refine ET EY.plain PySem.F.entry_gs_get (EY.check _ _ _ _ _ _ _ _ hT5 (PySem.F.args_gs_get _ _ _) ?_)
 repeat (any_goals (first|assumption|(with_reducible refine Bh hx ?_;rw[hc])|with_reducible refine L1.at ?_|wp_step))
 refine⟨Fc _ (by decide +kernel),codeAny_builtin PySem.F.entry_object_class ?_⟩
 repeat (any_goals (first|assumption|(with_reducible refine Bh hx ?_;rw[hc])|wp_step))
theorem mS(F:rm K C)(X:K.In h)(hx:h.get? a=some o)(hc:o.cls=.ref C)(hq:Q (.done (.ret (.ref C))) ⟨h,g,d,t,os⟩) :
 wpAny (model prog w) A (Builtin.«object.__getattribute__» ⟨[.ref a,.str "__class__" tk],[]⟩) Q E ⟨h,g,d,t,os⟩:=by
 have hT5:(⟨h,g,d,t,os⟩:Shared).TypeIs (.builtin "object.__class__") "getset_descriptor":=Di;have f5:=Di;have f6:=EY.lookup;have f7:=PySem.F.slot_gs_set.lookup;have L1:=looks_findIn (M:=model prog w) X F.cl
 repeat (any_goals (first|assumption|(with_reducible refine Bh hx ?_;rw[hc])|with_reducible refine L1.at ?_|wp_step))
 refine iG F X hx hc ?_
 repeat (any_goals (first|assumption|wp_step))
theorem mR(F:rm K C)(X:K.In h)(hx:h.get? a=some o)(hc:o.cls=.ref C)(hq:Q () ⟨h,g,d,t,os⟩):wpAny M A (CT "BaseException.__getattribute__" ⟨[.ref a,nameV],[]⟩) Q E ⟨h,g,d,t,os⟩:=by
 have hk:builtinKind "BaseException.__getattribute__"=some .slot:=by decide +kernel
 have hsplit:splitId "BaseException.__getattribute__"=some ("BaseException","__getattribute__"):=by decide +kernel
 have L1:=looks_subIn (M:=M) X F.be;have ha:=PySem.F.args_bexc_ga (.ref a) nameV;simp only[CT,hk,hsplit];refine lp ?_
 . unfold isInstance
   repeat (first|(with_reducible refine Bh hx ?_;rw[hc])|with_reducible refine L1.at ?_|wp_step)
   exact hq
theorem kJ(F:rm K C)(X:K.In h)(hx:h.get? a=some o)(hc:o.cls=.ref C)(hq:R (.ok (.ret (.ref C))) ⟨h,g,d,t,os⟩) :
 codeAny (model prog w) A (.call (.builtin "BaseException.__getattribute__") ⟨[.ref a,.str "__class__" tk],[]⟩) R ⟨h,g,d,t,os⟩:=
 ET Fq.ga.plain PySem.F.entry_bexc_ga (mR F X hx hc (mS F X hx hc hq))
theorem ek{fill expr}(F:rm K C)(X:K.In h)(hx:h.get? a=some o)(hc:o.cls=.ref C)(hq:Q (.ref C) ⟨h,g,d,t,os⟩) :
 wpAny (model prog w) A (getAttrBy (.ref a) (.str "__class__" tk) fill expr) Q E ⟨h,g,d,t,os⟩:=by
 have f3:=Fq.ga.bind (.ref a);have hx0:(expr&&onTheHeap (Ej "BaseException.__getattribute__"))=false:=by cases expr<;>rfl
 have hx2:(Ej "BaseException.__getattribute__" == Ej "object.__getattribute__")=false:=by decide +kernel
 have hx1:(onTheHeap (A2 C)&&Ej "BaseException.__getattribute__" == Ej "object.__getattribute__")=false:=by rw[hx2];rfl
 have L1:=looks_findIn (M:=model prog w) X F.ga;have L2:=looks_findIn (M:=model prog w) X F.gt
 repeat (any_goals (first|assumption|(with_reducible refine Bh hx ?_;rw[hc])|with_reducible refine L1.at ?_|with_reducible refine L2.at ?_|wp_step))
 refine kJ F X hx hc ?_
 repeat (any_goals (first|assumption|wp_step))
theorem kI(F:rm K C)(X:K.In h)(hx:h.get? a=some o)(hc:o.cls=.ref C)(hq:Q (some (.ref C)) ⟨h,g,d,t+1,os⟩):wpAny (model prog w) A (getAttr? (.ref a) "__class__") Q E ⟨h,g,d,t,os⟩:=by
 unfold getAttr? getAttrBy?
 repeat (any_goals (first|assumption|with_reducible apply ek F X hx hc|wp_step))
theorem bp(F:rm K C)(hc:o.cls=.ref C):KitX K (.ref a) (.ref C) (λh=>h.get? a=some o) where
 ty:=λM h _ e=>qU e hc
 it:=λM h X _=>by
  have z:=F.it;unfold clsIn at z;split at z
  . rename_i c' d' cd' sl' ho
    intro A' Q' E' s' k q;unfold isType loadHead;exact lp (wpAny_loadPart (k _ _ (X _ _ ho)) (Ag q))
  . cases z
 ne:=λh tp dd its n sl X htp=>by
  have z:=F.it;refine Bool.eq_false_iff.mpr λq=>?_;have e:C=tp:=A2.inj (beq_iff_eq.mp q);subst e;unfold clsIn at z;split at z
  . rename_i c' d' cd' sl' ho
    have z:=(X _ _ ho).symm.trans htp;cases z
  . cases z
 ca:=λ{prog w A E Q s} X e k=>by obtain⟨h,g,d,t,os⟩:=s;exact kI F X e hc k
end
end L2
end
section
namespace L2
open PySem PySem.W PySem.Spec PySem.Calls PyProof PyProof.Rows
open SeqAt
def mF(K:Af):V->List V->Hp->VK->Prop:=λx vs H Q=>∃t xs y j,x=.c t/\vs=[y]/\SqL K H t xs/\xh y=true/\xs.all xh=true/\xs.findIdx? (λz=>eqV z y)=some j/\Q (.d (j:Nat)) H
def Rh(K:Af):List V->Hp->VK->Prop:=λxs H Q=>∃(a:Addr) (oe:Obj) (C:Addr) (dv:V) (du:Value) (b:Bool) (Kc:Af),xs=[.c a,dv]/\H a=some (.e oe (.d 0))/\oe.cls=.ref C/\pG Kc K/\rm Kc C/\(∀u,RelV dv u->u=du)/\kitOne Kc (.ref C) du=some b/\Q (.f b) H
section
variable {X:Cx}
theorem fQ:MtR X "list.index" (mF X.K):=by
 intro pins s σ H x xs v us Q I rx rs h;obtain⟨t,ys,y,j,rfl,rfl,ht,fy,fs,hx,q⟩:=h;cases rx;obtain⟨u,rfl,ru⟩:=vals1 rs;obtain⟨its,r,p1,hz⟩:=I.list ht;obtain⟨⟨cls,dd,data,sl⟩,ho,hc,n,hd⟩:=id p1.isList;simp only at hc hd;subst hc hd;have hm:=cW (x:=y) r fs;have at_:∀(i:Nat) (h1:i<its.length) (h2:i<ys.length),eqU y its[i]=eqV ys[i] y:=λi h1 h2=>by
  have:=congrArg (·[i]?) hm
  simp only[AR,Aa h1,Aa h2,EF,Fv]at this;exact this
 have hl:=r.length;obtain⟨hj,hit,hno⟩:=Ef.mp hx;have hsz:its.length<=As:=by first|exact hz|(rw[<-hl];exact hz)|simpa using hz
 rw[AV]at hsz;refine BL F.slot_list_index ⟨_,ho,rfl⟩ F.entry_list_index (F.args_list_index_2 _ _) (list_indexAt t its.toArray n dd sl u (eqU y) j (by rw[Ae];omega) (by omega) ?_ λm hm hmj=>?_) ⟨ho,λw hw=>vR ru fy r fs w (by simpa using hw),?_⟩
 . rw[List.getElem_toArray,at_ j (by omega) hj];exact hit
 . rw[Ae]at hm
   rw[List.getElem_toArray,at_ m hm (by omega)]
   have:=hno m hmj;simpa using this
 . exact⟨.d _,H,I.tok _,⟨s.toks,rfl⟩,q⟩
theorem fu(ho:PE X o to)(he:PE X e te)(hbase:CY o "index" X.a (eval o X.a)=eval o X.a:=by rfl)(hst:noStar e=true:=by rfl)(hline:(apos.endLine == cpos.line)=true:=by rfl) :
 PE X (.Call (.Attribute o "index" apos) [e] [] cpos) (tBM X.K "list" (mF X.K) to (vU te rV)):=by
 have hs1:AJ [e] X.a=(false,eval e X.a)::AJ [] X.a:=zg hst;refine aT D6 PySem.F.slot_list_index PySem.F.type_list_index fQ ho (pac he xI hst) hbase ?_ hline hs1 rfl;rw[hs1];rfl
theorem mZ:yV X (.builtin "isinstance") (Rh X.K):=by
 intro pins s σ H vs us Q I r h;obtain⟨a,oe,C,dv,du,b,Kc,rfl,ha,hc,sub,F,hd,hk,q⟩:=h;cases r with
 |cons r1 r2=>
  cases r2 with
  |cons r2 r3=>
   cases r3;cases r1;rw[hd _ r2];exact kia_one (bp F hc) (sub.inn I.kIn) (I.j a _ ha).1 hk (λz=>nomatch z) λtk=>⟨.f b,H,I.tok tk,rfl,q⟩
theorem Ub(hg:Gl X c)(hm:X.d c=some (.ref D))(hdb:(c == ("__debug__":Str))=false):PE X (.Name c p) (tC (.c D)):=λpins s σ H Q I h=>wy I hg hm ⟨.c D,H,I,rfl,h⟩ hdb
theorem UU(hg:Gl X c)(hm:X.d c=none)(hv:B7 c=some (.type n))(hn:c≠"__name__")(hdb:(c == ("__debug__":Str))=false):PE X (.Name c p) (tC (.k n)):=λpins s σ H Q I h=>u7 I hg hm hv ⟨.k n,H,I,rfl,h⟩ hn hdb
end
end L2
end
section
namespace L2
open PySem PySem.W PySem.Spec PySem.Calls PyProof PyProof.Rows
def v8(sc:Scope):List Str->List Expr->Bool
 |[],es=>es.isEmpty
 |c::cs,es=>M.lc es λe es=>(M.eCN e λf xs=>M.lc xs λa ys=>M.l1 ys λb=>M.eName a λy _=>M.eName b λx _=>decide (f="isinstance")&&decide (y="_law_e")&&decide (x=c)&&decide (sc.names.lookup c=some .globalImplicit)&&!(c == ("__debug__":Str)))&&v8 sc cs es
def sW:List Str->List Expr->Bool
 |[],es=>es.isEmpty
 |w::ws,es=>M.lc es λe es=>(M.Z7 e λc _ _=>decide (c=.str w))&&sW ws es
noncomputable def adr(mg:Str->Option Value)(c:Str):Addr:=match mg c with|some (.ref D)=>D|_=>0
theorem dQ(h:mg c=some (.ref D)):adr mg c=D:=by unfold adr;rw[h]
def ZY(K:Af)(dv:V):TE:=tCB (Rh K) (vU (tH 0) (vU (tC dv) rV))
def jt(K:Af)(mg:Str->Option Value):List Str->TA
 |[]=>rV
 |c::cs=>vU (ZY K (.c (adr mg c))) (jt K mg cs)
def kG:List Str->TA
 |[]=>rV
 |w::ws=>vU (tC (.e w)) (kG ws)
structure KB(X:Cx)(sc:Scope):Prop where
 d:X.a.scope=sc
 l:X.N.Nodup
 n0:X.N[0]?=some ("_law_e":Str)
 j:X.N[1]?=some ("_law_marks":Str)
 n2:X.N[2]?=some ("_law_words":Str)
 l0:sc.names.lookup ("_law_e":Str)=some .local
 g:sc.names.lookup ("_law_marks":Str)=some .local
 i:sc.names.lookup ("_law_words":Str)=some .local
 gi:sc.names.lookup ("isinstance":Str)=some .globalImplicit
 gv:sc.names.lookup ("ValueError":Str)=some .globalImplicit
 mi:X.d "isinstance"=none
 mv:X.d "ValueError"=none
structure KS(K Kc:Af)(C a:Addr)(oe:Obj)(H0:Hp)(σ:St)(H:Hp):Prop where
 c:σ[0]?=some (some (.c a))
 d:H a=some (.e oe (.d 0))
 e:oe.cls=.ref C
 F:rm Kc C
 b:pG Kc K
 f:wH H0 H
section
variable {X:Cx}{sc:Scope}
theorem KB.gl(B:KB X sc)(h:sc.names.lookup x=some .globalImplicit):Gl X x:=by show X.a.scope.names.lookup x=_;rw[B.d];exact h
theorem KB.vis(B:KB X sc)(h:sc.names.lookup x=some .local):Vis X.a.scope x:=by rw[B.d];exact .inl h
theorem KB.RL(B:KB X sc):PE X (.Name "_law_e" p) (tH 0):=uM B.n0 (B.vis B.l0) (by decide) (by decide)
theorem KB.UX(B:KB X sc):PE X (.Name "_law_marks" p) (tH 1):=uM B.j (B.vis B.g) (by decide) (by decide)
theorem KB.Qd(B:KB X sc):PE X (.Name "_law_words" p) (tH 2):=uM B.n2 (B.vis B.i) (by decide) (by decide)
theorem KB.RN(B:KB X sc)(hg:sc.names.lookup c=some .globalImplicit)(hdb:(c == ("__debug__":Str))=false)(hm:X.d c=some (.ref D)):PE X (.Call (.Name "isinstance" p1) [.Name "_law_e" p2,.Name c p3] [] p4) (ZY X.K (.c D)):=
 t8 mZ (B.gl B.gi) B.mi boot_isinstance (x8 B.RL (x8 (Ub (B.gl hg) hm hdb) xI))
theorem KB.UW(B:KB X sc):PE X (.Call (.Name "isinstance" p1) [.Name "_law_e" p2,.Name "ValueError" p3] [] p4) (ZY X.K (.k "ValueError")):=
 t8 mZ (B.gl B.gi) B.mi boot_isinstance (x8 B.RL (x8 (UU (B.gl B.gv) B.mv (by first|rfl|decide +kernel) (by decide) (by decide)) xI))
theorem KB.isl(B:KB X sc):∀{cs} {es},v8 sc cs es=true->(∀c∈cs,∃D,X.d c=some (.ref D))->PA X es (jt X.K X.d cs)
 |[],es,h,_=>by cases AL.mp h;exact xI
 |c::cs,es,h,hm=>by replace h:=M.yj h;obtain⟨e,es,rfl,h⟩:=h;obtain⟨h0,h6⟩:=M.zX h;replace h0:=M.xY h0;obtain⟨f,p1,xs,p4,rfl,h0⟩:=h0;replace h0:=M.bq h0;obtain⟨a,b,rfl,h0⟩:=h0;replace h0:=M.xC h0;obtain⟨y,p2,rfl,h0⟩:=h0;replace h0:=M.xC h0;obtain⟨x,p3,rfl,h0⟩:=h0;clear h;simp only[cf,decide_eq_true_eq,AG]at h0;obtain⟨⟨⟨⟨rfl,rfl⟩,rfl⟩,h4⟩,h5⟩:=h0;obtain⟨D,hD⟩:=hm _ (Ap ..);refine x8 ?_ (KB.isl B h6 λc' hc'=>hm c' (Ah _ hc'));rw[dQ hD];exact B.RN h4 h5 hD
theorem U1:∀{ws} {es},sW ws es=true->PA X es (kG ws)
 |[],es,h=>by cases AL.mp h;exact xI
 |w::ws,es,h=>by replace h:=M.yj h;obtain⟨e,es,rfl,h⟩:=h;obtain⟨h0,h6⟩:=M.zX h;obtain⟨c,k,p,rfl,h1⟩:=M.qG h0;obtain rfl:=of_decide_eq_true h1;exact x8 sx (U1 h6)
end
section
variable {K Kc:Af}{mg:Str->Option Value}{C a:Addr}{oe:Obj}{H0 H:Hp}{σ:St}
theorem bC(S:KS K Kc C a oe H0 σ H)(hd:∀u,RelV dv u->u=du)(hk:kitOne Kc (.ref C) du=some b)(q:Q (.f b) H):ZY K dv σ H Q:=
 ⟨_,S.c,a,oe,C,dv,du,b,Kc,rfl,S.d,S.e,S.b,S.F,hd,hk,q⟩
theorem nT(S:KS K Kc C a oe H0 σ H)(b:Str->Bool):∀{cs} {Q},(∀c∈cs,kitOne Kc (.ref C) (.ref (adr mg c))=some (b c))->Q (cs.map λc=>.f (b c)) H->jt K mg cs σ H Q
 |[],_,_,q=>q
 |c::cs,Q,hk,q=>bC S (λu z=>z) (hk c (Ap ..)) (nT S b (λc' hc'=>hk c' (Ah _ hc')) q)
theorem qy:∀{ws} {Q},Q (ws.map V.e) H->kG ws σ H Q
 |[],_,q=>q
 |w::ws,Q,q=>qy (ws:=ws) q
theorem wF(h:H p=none):wH H (upd H p o):=λb u e=>by rw[zJ (zT e h)];exact e
theorem KS.new(S:KS K Kc C a oe H0 σ H)(h:H p=none):KS K Kc C a oe H0 σ (upd H p o):=⟨S.c,wF h _ _ S.d,S.e,S.F,S.b,S.f.trans (wF h)⟩
theorem KS.put(S:KS K Kc C a oe H0 σ H):KS K Kc C a oe H0 (σ.set (i+1) (some v)) H:=⟨by rw[BF (by omega)];exact S.c,S.d,S.e,S.F,S.b,S.f⟩
theorem Yw{b:Str->Bool}(S:KS K Kc C a oe H0 σ H)(hl:3<=σ.length)(hz:cs.length<=1000)(hk:∀c∈cs,kitOne Kc (.ref C) (.ref (adr mg c))=some (b c))
 (q:∀p σ' H',KS K Kc C a oe H0 σ' H'->σ'.length=σ.length->σ'[1]?=some (some (.c p))->H' p=some (.b (cs.map λc=>.f (b c)))->D.a σ' H'):um (ju (jt K mg cs)) (wA 1) D σ H:=
 nT S b hk ⟨by rw[Ab,AV];omega,λp hp=>q p _ _ (S.new hp).put (by simp) (by rw[AM (by omega)]) zP⟩
theorem nX{b:Str->Bool}(S:KS K Kc C a oe H0 σ H)(hl:3<=σ.length)(h1:σ[1]?=some (some (.c p0)))(h2:H p0=some (.b (ds.map λc=>.f (b c))))(hz:ds.length+cs.length<=1000)(hk:∀c∈cs,kitOne Kc (.ref C) (.ref (adr mg c))=some (b c))
 (q:∀p σ' H',KS K Kc C a oe H0 σ' H'->σ'.length=σ.length->σ'[1]?=some (some (.c p))->H' p=some (.b ((ds++cs).map λc=>.f (b c)))->D.a σ' H'):um (tOp Xb (tH 1) (ju (jt K mg cs))) (wA 1) D σ H:=by
 refine⟨_,h1,nT S b hk ⟨by rw[Ab,AV];omega,λp1 hp1=>⟨p0,p1,_,_,rfl,rfl,by rw[zJ (zT h2 hp1)];exact h2,zP,by rw[Ab,Ab,AV];omega,λp hp=>?_⟩⟩⟩
 refine q p _ _ ((S.new hp1).new hp).put (by simp) (by rw[AM (by omega)]) ?_
 rw[zP,DF]
end
end L2
end
section
namespace L2
open PySem PySem.W PySem.Spec PySem.Calls PyProof PyProof.Rows
noncomputable def ans(pre:Option Str)(w:Str):Str:=match pre with|none=>w|some x=>x++w
def Rf:R2:=λx y H Q=>∃i j,x=.e i/\y=.e j/\i.length+j.length<=As/\Q (.e (i++j)) H
def gN(K:Af)(ws2:List Str):TE:=tOp (Up K) (tOp Xb (tH 2) (ju (kG ws2))) (tBM K "list" (mF K) (tH 1) (vU (tC (.f true)) rV))
def jv(K:Af)(pre:Option Str)(ws2:List Str):TE:=match pre with
 |none=>gN K ws2
 |some x=>tOp Rf (tC (.e x)) (gN K ws2)
def tMk(K:Af)(mg:Str->Option Value)(cs:List Str):TS:=um (tOp Xb (tH 1) (ju (jt K mg cs))) (wA 1)
def Wg(K:Af)(mg:Str->Option Value)(cs1 cs2 cs3 cs4 ws1 ws2:List Str)(pre:Option Str)(odd:Str):TS:=
 kF (um (ju (jt K mg cs1)) (wA 1)) (kF (tMk K mg cs2) (kF (tMk K mg cs3) (kF (tMk K mg cs4)
  (kF (R6 (tOr (R7 (tB (ZY K (.k "ValueError")))) (gO (tOp rNe (tBM K "list" (qr K false) (tH 1) (vU (tC (.f true)) rV)) (tC (.d 1))))) (eT (tC (.e odd))) Wh)
   (kF (um (ju (kG ws1)) (wA 2)) (eT (jv K pre ws2)))))))
section
variable {X:Cx}{sc:Scope}
theorem KB.pick(B:KB X sc){l2}(w2:sW ws2 l2=true)(hline:(ap.endLine == cp.line)=true) :
 PE X (.Subscript (.BinOp (.Name "_law_words" p1) .Add (.List l2 p2) p3) (.Call (.Attribute (.Name "_law_marks" p4) "index" ap) [.Constant (.bool true) k p5] [] cp) p6) (gN X.K ws2):=
 WY i6 (lY jP B.Qd (qo (U1 w2))) (fu B.UX aS (hline:=hline)) (λ_ _=>rfl)
theorem KB.mks(B:KB X sc){es}(h:v8 sc cs es=true)(hm:∀c∈cs,∃D,X.d c=some (.ref D)) :
 PS X (.Assign [.Name "_law_marks" p1] (.BinOp (.Name "_law_marks" p2) .Add (.List es p3) p4) p5) (tMk X.K X.d cs):=
 uO B.l B.j (by rw[B.d];exact .inl B.g) (lY jP B.UX (qo (B.isl h hm))) (hf:=.inr (by rw[B.d];exact B.g))
theorem bh(B:KB X sc)
 (h1:v8 sc cs1 e1=true) (h2:v8 sc cs2 e2=true) (h3:v8 sc cs3 e3=true) (h4:v8 sc cs4 e4=true) (hm:∀c∈cs1++cs2++cs3++cs4,∃D,X.d c=some (.ref D)) (w1:sW ws1 l1=true) (hline:(ap.endLine == cp.line)=true) (hr:PE X r (jv X.K pre ws2)) :
 PSs X [.Assign [.Name "_law_marks" a1] (.List e1 a2) a3,.Assign [.Name "_law_marks" b1] (.BinOp (.Name "_law_marks" b2) .Add (.List e2 b3) b4) b5,.Assign [.Name "_law_marks" c1] (.BinOp (.Name "_law_marks" c2) .Add (.List e3 c3) c4) c5,
  .Assign [.Name "_law_marks" d1] (.BinOp (.Name "_law_marks" d2) .Add (.List e4 d3) d4) d5,
  .If (.BoolOp .Or [.UnaryOp .Not (.Call (.Name "isinstance" f1) [.Name "_law_e" f2,.Name "ValueError" f3] [] f4) f5,.Compare (.Call (.Attribute (.Name "_law_marks" f6) "count" ap) [.Constant (.bool true) k1 f7] [] cp) [.NotEq] [.Constant (.int 1) k2 f8] f9] fa) [.Return (some (.Constant (.str odd) k3 fb)) fc] [] fd,
  .Assign [.Name "_law_words" g1] (.List l1 g2) g3,.Return (some r) r1] (Wg X.K X.d cs1 cs2 cs3 cs4 ws1 ws2 pre odd):=by
 have m1:∀c∈cs1,∃D,X.d c=some (.ref D):=λc h=>hm c (by simp[h])
 have m2:∀c∈cs2,∃D,X.d c=some (.ref D):=λc h=>hm c (by simp[h])
 have m3:∀c∈cs3,∃D,X.d c=some (.ref D):=λc h=>hm c (by simp[h])
 have m4:∀c∈cs4,∃D,X.d c=some (.ref D):=λc h=>hm c (by simp[h])
 refine yv (uO B.l B.j (by rw[B.d];exact .inl B.g) (qo (B.isl h1 m1)) (hf:=.inr (by rw[B.d];exact B.g))) (yv (B.mks h2 m2) (yv (B.mks h3 m3) (yv (B.mks h4 m4) (yv ?_ (yv
  (uO B.l B.n2 (by rw[B.d];exact .inl B.i) (qo (U1 w1)) (hf:=.inr (by rw[B.d];exact B.i))) (vj (uN hr)))))))
 exact lj (RX (jY (Uk B.UW)) (Ul (mE WT (oM B.UX aS (hline:=hline)) aY (qc _ (by decide) (by decide))))) (vj (uN sx)) mD
end
section
variable {K Kc:Af}{mg:Str->Option Value}{C a:Addr}{oe:Obj}{H0 H:Hp}{σ:St}
theorem iN{cs:List Str}{b:Str->Bool}:(cs.map λc=>V.f (b c)).all xh=true:=by rw[List.all_map,Aq];intro _ _;rfl
theorem aE{cs:List Str}(nd:cs.Nodup)(hm:c0∈cs):((cs.map λc=>V.f (decide (c=c0))).countP λz=>eqV z (.f true))=1:=by
 rw[List.countP_map];have e:((λz=>eqV z (.f true))∘λc=>V.f (decide (c=c0)))=λc:Str=>c == c0:=by
  funext c;by_cases z:c=c0
  . subst z;simp[eqV]
  . simp[eqV,z]
 rw[e];have h1:cs.count c0<=1:=List.nodup_iff_count.mp nd c0;have h2:0<cs.count c0:=List.count_pos_iff.mpr hm;show cs.count c0=1;omega
theorem YW{cs:List Str}(nd:cs.Nodup)(hi:cs[i]?=some c0):(cs.map λc=>V.f (decide (c=c0))).findIdx? (λz=>eqV z (.f true))=some i:=by
 obtain⟨h1,h2⟩:=Am.mp hi;rw[Ef];refine⟨by rw[Ab];exact h1,by rw[List.getElem_map,h2];simp[eqV],λj hj=>?_⟩
 rw[List.getElem_map];have:cs[j]≠c0:=λz=>by rw[<-h2]at z;exact absurd ((List.getElem_inj nd).mp z) (by omega)
 simp[eqV,this]
theorem bj{i:Nat}(S:KS K Kc C a oe H0 σ H)(hl:3<=σ.length)(nd:(cs1++cs2++cs3++cs4).Nodup)(hz:(cs1++cs2++cs3++cs4).length<=100)(hz2:(ws1++ws2).length<=100)
 (hi:(cs1++cs2++cs3++cs4)[i]?=some c0) (hw:(ws1++ws2)[i]?=some w) (hwl:w.length<=100) (hpl:∀x,pre=some x->x.length<=100) (hk:∀c∈cs1++cs2++cs3++cs4,kitOne Kc (.ref C) (.ref (adr mg c))=some (decide (c=c0))) (hv:kitOne Kc (.ref C) (.type "ValueError")=some true)
 (q:∀H',wH H0 H'->D.b (.e (ans pre w)) H'):Wg K mg cs1 cs2 cs3 cs4 ws1 ws2 pre odd D σ H:=by
 simp only[Al]at hz hz2;have k1:∀c∈cs1,kitOne Kc (.ref C) (.ref (adr mg c))=some (decide (c=c0)):=λc h=>hk c (by simp[h])
 have k2:∀c∈cs2,kitOne Kc (.ref C) (.ref (adr mg c))=some (decide (c=c0)):=λc h=>hk c (by simp[h])
 have k3:∀c∈cs3,kitOne Kc (.ref C) (.ref (adr mg c))=some (decide (c=c0)):=λc h=>hk c (by simp[h])
 have k4:∀c∈cs4,kitOne Kc (.ref C) (.ref (adr mg c))=some (decide (c=c0)):=λc h=>hk c (by simp[h])
 refine Yw (b:=λc=>decide (c=c0)) S hl (by omega) k1 λp1 σ1 H1 S1 n1 e1 q1=>?_
 refine nX (b:=λc=>decide (c=c0)) (ds:=cs1) S1 (by omega) e1 q1 (by omega) k2 λp2 σ2 H2 S2 n2 e2 q2=>?_
 refine nX (b:=λc=>decide (c=c0)) (ds:=cs1++cs2) S2 (by omega) e2 q2 (by rw[Al];omega) k3 λp3 σ3 H3 S3 n3 e3 q3=>?_
 refine nX (b:=λc=>decide (c=c0)) (ds:=cs1++cs2++cs3) S3 (by omega) e3 q3 (by rw[Al,Al];omega) k4 λp4 σ4 H4 S4 n4 e4 q4=>?_
 have hmem:c0∈cs1++cs2++cs3++cs4:=AE hi;refine bC S4 (λu z=>z) hv ⟨true,rfl,?_⟩;refine tu ?_;refine⟨_,e4,?_,p4,_,.f true,rfl,rfl,.inl (.inl q4),rfl,iN,rfl,_,rfl,?_⟩
 . exact .inl ⟨rfl,_,.inl (.inl q4)⟩
 rw[aE nd hmem];refine tu ?_;refine qy ⟨by rw[Ab,AV];omega,λp5 hp5=>?_⟩
 have S5:KS K Kc C a oe H0 (σ4.set 2 (some (.c p5))) (upd H4 p5 (.b (ws1.map V.e))):=(S4.new hp5).put;have e5:(σ4.set 2 (some (V.c p5)))[1]?=some (some (.c p4)):=by rw[BF (by omega)];exact e4
 have q5:upd H4 p5 (.b (ws1.map V.e)) p4=some (.b ((cs1++cs2++cs3++cs4).map λc=>V.f (decide (c=c0)))):=by rw[zJ (zT q4 hp5)];exact q4
 have pick:∀Q:VK,(∀H',wH H0 H'->Q (.e w) H')->gN K ws2 (σ4.set 2 (some (.c p5))) (upd H4 p5 (.b (ws1.map V.e))) Q:=λQ hQ=>by
  refine⟨_,by rw[AM (by omega)],qy ⟨by rw[Ab,AV];omega,λp6 hp6=>⟨p5,p6,_,_,rfl,rfl,by rw[zJ (zT zP hp6)];exact zP,zP,by rw[Ab,Ab,AV];omega,λp7 hp7=>?_⟩⟩⟩
  have q6:=wF (o:=.b (ws1.map V.e++ws2.map V.e)) hp7 _ _ (wF (o:=.b (ws2.map V.e)) hp6 _ _ q5);refine⟨_,e5,.inl ⟨rfl,_,.inl (.inl q6)⟩,p4,_,.f true,i,rfl,rfl,.inl (.inl q6),rfl,iN,YW nd hi,p7,_,i,.e w,rfl,rfl,.inl (.inl zP),?_,hQ _ ((S5.f.trans (wF hp6)).trans (wF hp7))⟩;obtain⟨h1,h2⟩:=Am.mp hw;rw[Al]at h1;unfold atI ixN;rw[<-DF,if_pos (by omega),Ab,Al,if_pos (by omega)]
  show (DT V.e (ws1++ws2))[(i:Int).toNat]?=_;rw[Bl,AR,hw];rfl
 cases pre with
 |none=>exact pick _ q
 |some x=>
  refine pick _ λH' sm=>⟨x,w,rfl,rfl,?_,q H' sm⟩;have:=hpl x rfl;rw[AV];omega
end
end L2
end
section
namespace L2
open PySem PySem.W PySem.Spec PySem.Calls PyProof PyProof.Rows
noncomputable def kN:List Str:=["_law_e","_law_marks","_law_words"]
def dD(sc:Scope)(cs ws:List Str)(pre:Option Str)(body:List Stmt):Prop:=
 ∃(cs1 cs2 cs3 cs4 ws1 ws2:List Str) (odd:Str) (e1 e2 e3 e4 l1 l2:List Expr) (r s:Expr) (a1 a2 a3 b1 b2 b3 b4 b5 c1 c2 c3 c4 c5 d1 d2 d3 d4 d5 f1 f2 f3 f4 f5 f6 f7 f8 f9 fa fb fc fd g1 g2 g3 ap cp r1 q1 q2 q3 q4 q5 q6 ap2 cp2 t1 t2:Pos) (k1 k2 k3 k4 k5:Nat),
  body=[.Assign [.Name "_law_marks" a1] (.List e1 a2) a3,.Assign [.Name "_law_marks" b1] (.BinOp (.Name "_law_marks" b2) .Add (.List e2 b3) b4) b5,.Assign [.Name "_law_marks" c1] (.BinOp (.Name "_law_marks" c2) .Add (.List e3 c3) c4) c5,
   .Assign [.Name "_law_marks" d1] (.BinOp (.Name "_law_marks" d2) .Add (.List e4 d3) d4) d5,
   .If (.BoolOp .Or [.UnaryOp .Not (.Call (.Name "isinstance" f1) [.Name "_law_e" f2,.Name "ValueError" f3] [] f4) f5,.Compare (.Call (.Attribute (.Name "_law_marks" f6) "count" ap) [.Constant (.bool true) k1 f7] [] cp) [.NotEq] [.Constant (.int 1) k2 f8] f9] fa) [.Return (some (.Constant (.str odd) k3 fb)) fc] [] fd,
   .Assign [.Name "_law_words" g1] (.List l1 g2) g3,.Return (some r) r1] /\
  s=.Subscript (.BinOp (.Name "_law_words" q1) .Add (.List l2 q2) q3) (.Call (.Attribute (.Name "_law_marks" q4) "index" ap2) [.Constant (.bool true) k4 q5] [] cp2) q6 /\
  (match pre with|none=>r=s|some x=>r=.BinOp (.Constant (.str x) k5 t1) .Add s t2) /\
  (v8 sc cs1 e1&&v8 sc cs2 e2&&v8 sc cs3 e3&&v8 sc cs4 e4&&sW ws1 l1&&sW ws2 l2&&(ap.endLine == cp.line)&&(ap2.endLine == cp2.line))=true/\cs=cs1++cs2++cs3++cs4/\ws=ws1++ws2
structure om(K:Af)(mg:Str->Option Value)(x:Str)(cs ws:List Str)(pre:Option Str):Prop where
 ex:∃(st:Stmt) (f:Addr) (fd:BV),mg x=some (.ref f)/\Fun K x x st f fd/\wq kN ["_law_e"] (zH st)/\Binds K fd ["_law_e"] []/\dD (zH st) cs ws pre (yf st) /\
  ((zH st).names.lookup ("_law_e":Str)=some .local/\(zH st).names.lookup ("_law_marks":Str)=some .local/\(zH st).names.lookup ("_law_words":Str)=some .local/\(zH st).names.lookup ("isinstance":Str)=some .globalImplicit/\(zH st).names.lookup ("ValueError":Str)=some .globalImplicit)
 b:∀c∈cs,∃D,mg c=some (.ref D)
 mi:mg "isinstance"=none
 mv:mg "ValueError"=none
 nd:cs.Nodup
 hz:cs.length<=100
 a:ws.length<=100
 hw:∀w∈ws,w.length<=100
 hp:∀x,pre=some x->x.length<=100
structure Ww(Kc:Af)(mg:Str->Option Value)(cs:List Str)(C:Addr)(c0:Str):Prop where
 F:rm Kc C
 a:∀c∈cs,kitOne Kc (.ref C) (.ref (adr mg c))=some (decide (c=c0))
 ve:kitOne Kc (.ref C) (.type "ValueError")=some true
def Named(K:Af)(mg:Str->Option Value)(cs:List Str)(C:Addr)(c0:Str):Prop:=∃Kc,pG Kc K/\Ww Kc mg cs C c0
def tKC(K:Af)(mg:Str->Option Value)(cs ws:List Str)(pre:Option Str)(ie:Nat):TE:=λσ H Q=>∃(a:Addr) (oe:Obj) (C:Addr) (c0:Str) (i:Nat) (w:Str),σ[ie]?=some (some (.c a))/\H a=some (.e oe (.d 0))/\oe.cls=.ref C/\Named K mg cs C c0 /\
 cs[i]?=some c0/\ws[i]?=some w/\∀H',wH H H'->Q (.e (ans pre w)) H'
section
variable {X:Cx}
theorem fF(F:om X.K X.d x cs ws pre)(hdp:X.A.depth<CI)(hg:Gl X x)(hdb:(x == ("__debug__":Str))=false)(hN:X.N[ie]?=some e)(hv:Vis X.a.scope e)(hd1:(e == ("__debug__":Str))=false)(hd2:(e == ("__classdict__":Str))=false) :
 PE X (.Call (.Name x p) [.Name e p2] [] pos) (tKC X.K X.d cs ws pre ie):=by
 intro pins s σ H Q I ⟨a,oe,C,c0,i,w,h0,ha,hc,nm,hi,hw,q⟩;obtain⟨st,f,fd,hm,Fn,S,hb,sh,hl0,hl1,hl2,hgi,hgv⟩:=F.ex;refine BO (wy I hg hm ?_ hdb);have hpa:PA X [.Name e p2] (vU (tH ie) rV):=x8 (uM hN hv hd1 hd2) xI;refine DO (h₀:=X.h) I.B.j.a Fn.b (thn (hpa pos pins s σ H (λvs H1=>vs=[V.c a]/\H1=H) I ⟨_,h0,rfl,rfl⟩) λus s1 ⟨vs,H1,I1,r,hvs,hH⟩=>⟨I1.kIn,?_⟩);subst hvs hH;obtain⟨oc,od,kV,doc,pm,an,cdv,ct,osl,rfl,lk,hcd⟩:=Fn.a;have hl:us.length=1:=by rw[<-r.length];rfl
 have hbt:=hb s1 us I1.kIn (by rw[A5];exact hl)
 rw[A5]at hbt;refine EH (De (my (CX:=CX0) (E:=E0) (R:=CR CX0 X.g X.f X.w H1 s1 Q E0) (N:=kN) lk hcd S hdp I1.uC hbt rfl r λs2 I2 _=>?_) λr s' hq=>?_)
 . have I3:=I2.loud (A':=X.A.deeper (envOfC x (zH st) s1.heap.objs.size f cdv)) (EJ I1.uC.a)
   have B:KB ((x9 CX0 X.f X.w X.K X.d X.h kN x (zH st) f cdv {X.A with handled:=none} X.g s1 H1 E0).loud (X.A.deeper (envOfC x (zH st) s1.heap.objs.size f cdv))).nox (zH st):=
    ⟨rfl,S.b,rfl,rfl,rfl,hl0,hl1,hl2,hgi,hgv,F.mi,F.mv⟩
   obtain⟨cs1,cs2,cs3,cs4,ws1,ws2,odd,e1,e2,e3,e4,l1,l2,rr,ss,a1,a2,a3,b1,b2,b3,b4,b5,c1,c2,c3,c4,c5,d1,d2,d3,d4,d5,f1,f2,f3,f4,f5,f6,f7,f8,f9,fa,fb,fc,fd,g1,g2,g3,ap,cp,r1,q1,q2,q3,q4,q5,q6,ap2,cp2,t1,t2,k1,k2,k3,k4,k5,hbody,hs,hr,hck,hcs,hws⟩:=sh;simp only[cf]at hck;obtain⟨⟨⟨⟨⟨⟨⟨y1,y2⟩,y3⟩,y4⟩,y5⟩,y6⟩,y7⟩,y8⟩:=hck;subst hcs hws hs;have hpe:PE ((x9 CX0 X.f X.w X.K X.d X.h kN x (zH st) f cdv {X.A with handled:=none} X.g s1 H1 E0).loud (X.A.deeper (envOfC x (zH st) s1.heap.objs.size f cdv))).nox rr (jv X.K pre ws2):=by
    cases pre with
    |none=>subst hr;exact B.pick y6 y8
    |some x=>subst hr;exact lY qj sx (B.pick y6 y8)
   have t:=bh B (a1:=a1) (a2:=a2) (a3:=a3) (b1:=b1) (b2:=b2) (b3:=b3) (b4:=b4) (b5:=b5) (c1:=c1) (c2:=c2) (c3:=c3) (c4:=c4) (c5:=c5) (d1:=d1) (d2:=d2) (d3:=d3) (d4:=d4) (d5:=d5) (f1:=f1) (f2:=f2) (f3:=f3) (f4:=f4) (f5:=f5) (f6:=f6) (f7:=f7) (f8:=f8) (f9:=f9) (fa:=fa) (fb:=fb) (fc:=fc) (fd:=fd) (g1:=g1) (g2:=g2) (g3:=g3) (ap:=ap) (cp:=cp) (r1:=r1) (k1:=k1) (k2:=k2) (k3:=k3) (odd:=odd) (pre:=pre) (ws2:=ws2) y1 y2 y3 y4 F.b y5 y7 hpe;unfold dC;rw[hbody];obtain⟨Kc,sub,nm⟩:=nm;have KS0:KS X.K Kc C a oe H1 (start kN [.c a]) H1:=⟨rfl,ha,hc,nm.F,sub,wH.refl _⟩;refine A3 (t [] s2 (start kN [.c a]) H1 {a:=λ_ _=>False,b:=Q} (I3.wo _) (bj KS0 (show 3<=3 from Ac _) F.nd F.hz F.a hi hw (F.hw _ (AE hw)) F.hp nm.a nm.ve λH' sm=>q H' sm)) (λfl s' hs=>?_) λ_ _ z=>Ay z;cases fl with
   |ret u=>
    obtain⟨v,σ',H',J,rv,q'⟩:=hs;exact⟨v,H',J.R,J.D,J.C,J.j,rv,q'⟩
   |next=>obtain⟨_,_,_,z⟩:=hs;exact Ay z
   |brk=>obtain⟨_,_,_,z⟩:=hs;exact Ay z
   |cont=>obtain⟨_,_,_,z⟩:=hs;exact Ay z
 . cases r with
   |error e=>exact Ay hq
   |ok fl=>
    cases fl with
    |ret u=>exact I1.after hq
    |next=>exact Ay hq
    |brk=>exact Ay hq
    |cont=>exact Ay hq
end
end L2
end
section
namespace L2
open PySem PySem.W PySem.Spec PySem.Calls PyProof PyProof.Rows
structure iK(outer:List Env)(h:Heap)(H:Hp)(lf c:Addr)(qual:Str)(body:Expr)(lsc:Scope)(cl:List (Str × Addr))(pm ctv:Value)(N:List Str)(σ:St):Prop where
 ob:h.get? lf=some (kla_obj "<lambda>" qual noArgs body lsc cl pm c ctv)
 nl:H lf=none
 fl:lf ∉ frs outer
 cd:∃(o:Obj) (vs:Array Value) (t:Tok),H c=some (.e o (.d 0))/\o.data=.fields vs/\vs[1]?=some (.str qual t)
 e:∀x y b,cl.lookup x=some b->cl.lookup y=some b->x=y
 d:∀x,lsc.names.lookup x=some .free->∃b,cl.lookup x=some b
 a:∀x b,cl.lookup x=some b->(∃v,h.IsCell b v)/\H b=none
 g:∀(i:Nat) (x:Str) (v:V),N[i]?=some x->σ[i]?=some (some v)->lsc.names.lookup x=some .free->∃u b,RelV v u/\cl.lookup x=some b/\h.IsCell b (some u)
 f:σ.length=N.length
 kd:lsc.kind=.function
 co:lsc.isCoroutine=false
 gn:lsc.isGenerator=false
 nm:∀x∈lsc.names,x.2≠.cell/\x.2≠.local
section
variable {X:Cx}{EE:Value->Hp->Prop}
theorem bt{ic:Nat}(L:iK X.k X.l.heap X.r lf c qual body lsc cl pm ctv N σ)(hxn:X.m=[])(hdp:X.A.depth<CI)(hh:X.A.handled=none)
 (hN:X.N[ic]?=some ("_law_call":Str)) (hv:Vis X.a.scope "_law_call")
 (hbody:∀s' H',PE (qF (CXE X.f X.w) X.f X.w X.K X.d X.h N qual lsc lf (.ref c) cl X.A X.g s' H' (λcls _ H'=>EE cls H')) body tb) :
 PE (X.wo (XC X EE)) (.Call (.Name "_law_call" p) [] [] pos) (λσ1 H1 Q=>σ1[ic]?=some (some (.c lf))/\tb σ H1 Q):=by
 intro pins s1 σ1 H1 Q I ⟨h0,hq⟩;have hpe:PE (X.wo (XC X EE)) (.Name "_law_call" p) (tH ic):=uM hN hv (by decide) (by decide)
 refine BO (thn (hpe pins s1 σ1 H1 (λv H2=>v=V.c lf/\H2=H1) I ⟨_,h0,rfl,rfl⟩) λu s2 ⟨v,H2,I2,r,hv2,hH2⟩=>?_);subst hv2 hH2;cases r;have un:Un (frs X.k) [] X.r H2 X.l.heap s2.heap:=by have:=I2.C;rw[show (X.wo (XC X EE)).m=[] from hxn]at this;exact this
 have ob2:s2.heap.get? lf=some (kla_obj "<lambda>" qual noArgs body lsc cl pm c ctv):=un.f _ _ L.ob L.nl L.fl (by simp)
 have cr2:s2.heap.CodeRec (.ref c) qual:=by obtain⟨o,vs,t,q1,q2,q3⟩:=L.cd;exact⟨c,o,vs,t,rfl,(I2.j c _ (un.g c o _ q1)).1,q2,q3⟩
 have cell2:∀b v,X.l.heap.IsCell b v->X.r b=none->s2.heap.IsCell b v:=λb v ⟨o,e,d⟩ n=>by
  by_cases f:b∈frs X.k
  . obtain⟨sl,e1⟩:=un.i b o e n f (by simp)
    exact⟨_,e1,d⟩
  . exact⟨o,un.f b o e n f (by simp),d⟩
 refine callWith_of (P:=λh=>h.get? lf=some (kla_obj "<lambda>" qual noArgs body lsc cl pm c ctv)) rfl (λh e=>⟨.frame,.inl rfl,(Looks.ld (part:=none) e).andThen .now⟩) (evalArgs_nil3 ⟨ob2,?_⟩);refine EH (De (Ys (CX:=CXE X.f X.w) (E:=λcls _ H'=>EE cls H') (R:=CR (CXE X.f X.w) X.g X.f X.w H2 s2 Q (λcls _ H'=>EE cls H')) (N:=N) (σ:=σ) hdp hh I2.uC ob2 cr2 L.kd L.co L.gn L.nm L.e L.d (λx b e=>?_) (λi x v e1 e2 e3=>?_) L.f λs3 I3=>?_) λr s' hq=>?_)
 . obtain⟨⟨v,z⟩,n⟩:=L.a x b e
   obtain⟨o,eo,_⟩:=id z;exact⟨⟨v,cell2 b v z n⟩,un.d b o eo n (by simp)⟩
 . obtain⟨u,b,q1,q2,q3⟩:=L.g i x v e1 e2 e3
   obtain⟨_,n⟩:=L.a x b q2;exact⟨u,b,q1,q2,cell2 b _ q3 n⟩
 . refine A3 (hbody s2 H2 [] s3 σ H2 Q I3 hq) (λu s' ⟨v,H',J,rv,q⟩=>?_) λe s' z=>z
   exact⟨v,H',J.R,J.D,J.C,J.j,rv,q⟩
 . cases r with
   |error e=>
    obtain⟨a,cls,H',rfl,fl,hE⟩:=hq;exact⟨a,cls,σ1,H2,s2,H',rfl,I2.xK.mB λp hp=>absurd hp (by simp),fl,hE⟩
   |ok fl=>
    cases fl with
    |ret u=>exact I2.after hq
    |next=>exact Ay hq
    |brk=>exact Ay hq
    |cont=>exact Ay hq
end
end L2
end
section
namespace L2
open PySem PySem.W PySem.Spec PySem.Calls PyProof PyProof.Rows
noncomputable def yd(m:Bool):Str:=if m then "_law_got" else "_law_said"
noncomputable def wD(m:Bool):List Str:=if m then ["_law_call","_law_e"] else ["_law_call","_law_e","_law_word"]
def dG(m:Bool)(kx:Str)(body:List Stmt):Prop:=∃(te:Expr) (p1 p2 p3 p4 p5 p6 p7 p8 p9 pa pb q1 q2 q3 q4 q5 q6 q7 q8:Pos) (k1 k2:Nat),body=if m then
 [.Try [.Return (some (.Call (.Name "_law_call" p1) [] [] p2)) p3] [.ExceptHandler (some (.Name "HueError" p4)) (some "_law_e") [.Return (some (.Call (.Name kx p6) [.Name "_law_e" p7] [] p8)) p9] pa] [] [] pb]
 else [.Try [.Expr (.Call (.Name "_law_call" p1) [] [] p2) p3] [.ExceptHandler (some (.Name "HueError" p4)) (some "_law_e") [.Assign [.Name "_law_word" p5] (.Call (.Name kx p6) [.Name "_law_e" p7] [] p8) p9,
  .Return (some (.IfExp (.Compare (.Name "_law_word" q1) [.Eq] [.Constant (.str "great") k1 q2] q3) te (.Name "_law_word" q4) q5)) q6] pa] [] [] pb,.Return (some (.Constant (.str "told") k2 q7)) q8]
structure dF(K:Af)(mg:Str->Option Value)(m:Bool)(kx:Str)(f:Addr):Prop where
 ex:∃(st:Stmt) (fd:BV),mg (yd m)=some (.ref f)/\Fun K (yd m) (yd m) st f fd/\wq (wD m) ["_law_call"] (zH st)/\Binds K fd ["_law_call"] []/\dG m kx (yf st) /\
  (zH st).names.lookup ("_law_call":Str)=some .local/\(zH st).names.lookup ("_law_e":Str)=some .local/\(m=false->(zH st).names.lookup ("_law_word":Str)=some .local)/\(zH st).names.lookup ("HueError":Str)=some .globalImplicit/\(zH st).names.lookup kx=some .globalImplicit
 kd:(kx == ("__debug__":Str))=false
section
variable {X:Cx}{D:Ends}{s:Shared}{E:Value->Shared->Prop}
theorem gu{st}(h:wpAny (model X.f X.w) X.A (exec st X.a) (SP X [] D) E s):wpAny (model X.f X.w) X.A (execs [st] X.a) (SP X [] D) E s:=by
 refine Ek (thn h λf s1 q=>?_);cases f with
 |next=>exact DC q
 |brk=>exact q
 |cont=>exact q
 |ret u=>exact q
theorem gw{st st2}(h:wpAny (model X.f X.w) X.A (exec st X.a) (SP X [] {D with a:=t D}) X.i s)(h2:PS X st2 t):wpAny (model X.f X.w) X.A (execs [st,st2] X.a) (SP X [] D) X.i s:=by
 refine Ek (thn h λf s1 q=>?_);cases f with
 |next=>obtain⟨σ',H',I,q⟩:=q;exact vj h2 [] s1 σ' H' D I q
 |brk=>exact q
 |cont=>exact q
 |ret u=>exact q
end
section
variable {P:Program}{w:World}{K:Af}{mg:Str->Option Value}{base:Heap}{A:Around}{outer:List Env}{s:Shared}{H:Hp}{Q:VK}
theorem ZK{EE:Value->Hp->Prop}
 (e0:kK P w K mg base A outer s H) (hh:A.handled=none) (hdp:A.depth+1<CI) (S:dF K mg m kx f) (KF:om K mg kx cs ws pre) (hu:mg "HueError"=some (.ref hue)) (L:iK outer s.heap H lf c qual body lsc cl pm ctv N σ)
 (hbody:∀env s' H',PE (qF (CXE P w) P w K mg base N qual lsc lf (.ref c) cl (A.deeper env) (env::outer) s' H' (λcls _ H'=>EE cls H')) body tb)
 (hq:tb σ H λv H1=>Q (if m then v else .e "told") H1)
 (hE:∀cls H',EE cls H'->∃(C:Addr) (c0:Str) (i:Nat) (x:Str),cls=.ref C/\(∃Kc,pG Kc K/\exmOne Kc (.ref C) (.ref hue)=some true)/\Named K mg cs C c0/\cs[i]?=some c0/\ws[i]?=some x/\(m=false->ans pre x≠"great")/\∀H'',wH H' H''->Q (.e (ans pre x)) H'') :
 codeAny (model P w) A (.call (.ref f) ⟨[.ref lf],[]⟩) (CR CX0 outer P w H s Q E0) s:=by
 obtain⟨st,fd,hm,Fn,Sc,hb,sh,l0,l1,l2,g0,g1⟩:=S.ex;obtain⟨oc,od,kV,doc,pm',an,cdv,ct,osl,rfl,lk,hcd⟩:=Fn.a;have KX:K.In s.heap:=e0.c.a.keeps λb o e=>(e0.e b o e).1;have hbt:=hb s [.ref lf] KX rfl;refine my (CX:=CX0) (E:=E0) (R:=CR CX0 outer P w H s Q E0) (N:=wD m) (vs:=[.c lf]) lk hcd Sc (by omega) e0 hbt rfl (.cons rfl .nil) λs1 I1 _=>?_
 rw[mX hh]at I1;obtain⟨te,p1,p2,p3,p4,p5,p6,p7,p8,p9,pa,pb,q1,q2,q3,q4,q5,q6,q7,q8,k1,k2,hbd⟩:=sh;have hLam:iK (x9 CX0 P w K mg base (wD m) (yd m) (zH st) f cdv A outer s H E0).k (x9 CX0 P w K mg base (wD m) (yd m) (zH st) f cdv A outer s H E0).l.heap (x9 CX0 P w K mg base (wD m) (yd m) (zH st) f cdv A outer s H E0).r lf c qual body lsc cl pm ctv N σ:=L;have hA:(x9 CX0 P w K mg base (wD m) (yd m) (zH st) f cdv A outer s H E0).A.depth=A.depth+1:=rfl;have hlam:∀{p pos:Pos},PE ((x9 CX0 P w K mg base (wD m) (yd m) (zH st) f cdv A outer s H E0).wo (XC (x9 CX0 P w K mg base (wD m) (yd m) (zH st) f cdv A outer s H E0) EE)) (.Call (.Name "_law_call" p) [] [] pos) (λσ1 H1 Q=>σ1[0]?=some (some (.c lf))/\tb σ H1 Q):=λ{p pos}=>
  bt hLam rfl (by rw[hA];exact hdp) hh (by cases m<;>rfl) (.inl l0) λs' H'=>hbody _ s' H'
 have n1:(wD m)[1]?=some ("_law_e":Str):=by cases m<;>rfl
 have fin:∀(fl:Flow) (s':Shared),SP (x9 CX0 P w K mg base (wD m) (yd m) (zH st) f cdv A outer s H E0) [] {a:=λ_ _=>False,b:=Q} fl s'->CR CX0 outer P w H s Q E0 (.ok (.ret (match fl with|.ret v=>v|_=>.none))) s':=λfl s' hs=>by
  cases fl with
  |ret u=>
   obtain⟨v,σ',H',J,rv,q'⟩:=hs;exact⟨v,H',J.R,J.D,J.C,J.j,rv,q'⟩
  |next=>obtain⟨_,_,_,z⟩:=hs;exact Ay z
  |brk=>obtain⟨_,_,_,z⟩:=hs;exact Ay z
  |cont=>obtain⟨_,_,_,z⟩:=hs;exact Ay z
 have kc:∀(a:Addr) {p p2 pos:Pos},PE ((x9 CX0 P w K mg base (wD m) (yd m) (zH st) f cdv A outer s H E0).loud ((x9 CX0 P w K mg base (wD m) (yd m) (zH st) f cdv A outer s H E0).A.mark (some (.ref a)))).nox (.Call (.Name kx p) [.Name "_law_e" p2] [] pos) (tKC K mg cs ws pre 1):=λa {p p2 pos}=>
  fF KF (by show A.depth+1<_;exact hdp) g1 S.kd n1 (.inl l1) (by decide) (by decide)
 unfold dC;rw[hbd];cases m with
 |true=>
  rw[if_pos rfl];refine A3 (gu (X:=x9 CX0 P w K mg base (wD true) (yd true) (zH st) f cdv A outer s H E0) (D:={a:=λ_ _=>False,b:=Q}) (Zf (EE:=EE) (ts:=eT (tKC K mg cs ws pre 1)) (ie:=1) I1 rfl rfl Sc.b l1 n1 rfl rfl g0 (by decide) hu (vj (uN hlam)) ⟨rfl,hq⟩ (λcls H' hc=>?_) λa=>vj (uN (kc a)))) fin λe s' z=>z
  obtain⟨C,c0,i,x,rfl,hx,nm,hi,hw,_,qq⟩:=hE cls H' hc;refine⟨hx,λa oe σ2 hn hcl hl=>⟨a,oe,C,c0,i,x,?_,zP,hcl,nm,hi,hw,λH'' sm=>qq H'' ((wF hn).trans sm)⟩⟩;rw[AM (by rw[hl];exact(by decide:1<2))]
 |false=>
  rw[if_neg xd];have n2:(wD false)[2]?=some ("_law_word":Str):=rfl;refine A3 (gw (X:=x9 CX0 P w K mg base (wD false) (yd false) (zH st) f cdv A outer s H E0) (D:={a:=λ_ _=>False,b:=Q}) (t:=eT (tC (.e "told"))) (Zf (EE:=EE) (ts:=kF (um (tKC K mg cs ws pre 1) (wA 2)) (eT (tIf (gO (tOp rEq (tH 2) (tC (.e "great")))) (λ_ _ _=>False) (tH 2)))) (ie:=1) I1 rfl rfl Sc.b l1 n1 rfl rfl g0 (by decide) hu (vj (mC hlam)) ⟨rfl,hq⟩ (λcls H' hc=>?_) λa=>?_) (uN sx)) fin λe s' z=>z
  . obtain⟨C,c0,i,x,rfl,hx,nm,hi,hw,ng,qq⟩:=hE cls H' hc
    refine⟨hx,λa oe σ2 hn hcl hl=>⟨a,oe,C,c0,i,x,?_,zP,hcl,nm,hi,hw,λH'' sm=>?_⟩⟩
    . rw[AM (by rw[hl];exact(by decide:1<3))]
    . have e2:((σ2.set 1 (some (V.c a))).set 2 (some (V.e (ans pre x))))[2]?=some (some (.e (ans pre x))):=by rw[AM (by rw[B9,hl];exact(by decide:2<3))]
      refine⟨_,e2,rfl,_,rfl,?_⟩;have hne:¬(V.e (ans pre x)=V.e "great"):=λz=>ng rfl (V.e.inj z);rw[decide_eq_false hne];exact tu ⟨_,e2,qq H'' ((wF hn).trans sm)⟩
  . have vw:Vis (zH st) "_law_word":=.inl (l2 rfl)
    have pw:∀{X':Cx} {p:Pos},X'.N=wD false->X'.a.scope=zH st->PE X' (.Name "_law_word" p) (tH 2):=λ{X' p} h1 h2=>uM (by rw[h1];exact n2) (by rw[h2];exact vw) (by decide) (by decide)
    exact yv (uO Sc.b n2 (.inl (l2 rfl)) (kc a) (hf:=.inr (l2 rfl))) (vj (uN (lX (mE WS (pw rfl rfl) sx (qc _ (by decide) (by decide))) (λ_ _ _ _ _ _ z=>Ay z) (pw rfl rfl))))
end
end L2
end
section
namespace M
open PySem
inductive Val where
 |g|e (b:Bool)|c (i:Int)|h (x:Str)
 |f (vs:List Val)|j (vs:List Val)|m
 |l (ns:List Int)|p (ns:List Int)
 |k (i:Nat)|q (x:Str)|r (n:String)|o (i:Nat)
 deriving Inhabited
inductive Cel where
 |c (vs:List Val)
 |e (kvs:List (Str × Val))
 |f (kvs:List (List Int × Val))
 /-- the table of the codes that lie within the def x -/
 |d (x:Str)
 deriving Inhabited
abbrev Sto:=List Cel
abbrev Env:=List (Option Val)
inductive Out(α:Type) where
 |e (a:α) (s:Sto)
 |g (c:Str) (args:List Val) (s:Sto)
 |d
noncomputable def Out.bind{α β:Type}(o:Out α)(f:α->Sto->Out β):Out β:=
 match o with
 |.e a s=>f a s
 |.g c as s=>.g c as s
 |.d=>.d
@[simp] theorem zM a s(f:α->Sto->Out β):(Out.e a s).bind f=f a s:=rfl
@[simp] theorem vX(f:α->Sto->Out β):(Out.d:Out α).bind f=.d:=rfl
@[simp] theorem r9 c as s(f:α->Sto->Out β):(Out.g c as s:Out α).bind f=.g c as s:=rfl
mutual
noncomputable def Val.isD:Val->Bool
 |.g|.e _|.c _=>true
 |.h x=>PyData.strOk x
 |.f vs=>uF vs
 |.j vs=>uF vs
 |.m|.l _|.p _|.k _|.q _|.r _|.o _=>false
noncomputable def uF:List Val->Bool
 |[]=>true
 |v::vs=>v.isD&&uF vs
end
mutual
noncomputable def Val.isR:Val->Bool
 |.g|.e _|.c _|.h _|.m=>true
 |.f vs=>rS vs
 |.j vs=>rS vs
 |.l _|.p _|.k _|.q _|.r _|.o _=>false
noncomputable def rS:List Val->Bool
 |[]=>true
 |v::vs=>v.isR&&rS vs
end
mutual
noncomputable def Val.d:Val->PyData
 |.g=>.none
 |.e b=>.bool b
 |.c i=>.int i
 |.h x=>.str x
 |.f vs=>.tuple (ds vs)
 |.j vs=>.list (ds vs)
 |.m=>.dict []
 |.l _|.p _|.k _|.q _|.r _|.o _=>.none
noncomputable def ds:List Val->List PyData
 |[]=>[]
 |v::vs=>v.d::ds vs
end
mutual
noncomputable def Val.noRef:Val->Bool
 |.k _|.o _=>false
 |.f vs=>zr vs
 |.j vs=>zr vs
 |.g|.e _|.c _|.h _|.m|.l _|.p _|.q _|.r _=>true
noncomputable def zr:List Val->Bool
 |[]=>true
 |v::vs=>v.noRef&&zr vs
end
def Cel.noRef:Cel->Bool
 |.c vs=>zr vs
 |.e kvs=>zr (kvs.map (·.2))
 |.f kvs=>zr (kvs.map (·.2))
 |.d _=>true
mutual
noncomputable def Val.beq:Val->Val->Bool
 |.g,.g=>true
 |.e a,.e b=>a == b
 |.c a,.c b=>a == b
 |.h a,.h b=>a == b
 |.f a,.f b=>sU a b
 |.j a,.j b=>sU a b
 |.m,.m=>true
 |.l a,.l b=>a == b
 |.p a,.p b=>a == b
 |.k a,.k b=>a == b
 |.q a,.q b=>a == b
 |.r a,.r b=>a == b
 |.o a,.o b=>a == b
 |_,_=>false
noncomputable def sU:List Val->List Val->Bool
 |[],[]=>true
 |a::as,b::bs=>a.beq b&&sU as bs
 |_,_=>false
end
def Cel.beq:Cel->Cel->Bool
 |.c a,.c b=>sU a b
 |.e a,.e b=>decide (a.map (·.1)=b.map (·.1))&&sU (a.map (·.2)) (b.map (·.2))
 |.f a,.f b=>decide (a.map (·.1)=b.map (·.1))&&sU (a.map (·.2)) (b.map (·.2))
 |.d a,.d b=>decide (a=b)
 |_,_=>false
def wb:Sto->Sto->Bool
 |[],_=>true
 |o::r,o'::r'=>(o'.noRef||o'.beq o)&&wb r r'
 |_::_,[]=>false
mutual
noncomputable def vZ(n0:Nat)(s:Sto):Nat->Val->Option Val
 |_,.o i=>if i<n0 then some (.o i) else dS
 |_,.k i=>if i<n0 then some (.k i) else match s[i]? with
  |some (.c vs)=>if zr vs then some (.j vs) else dS
  |_=>dS
 |k+1,.f vs=>(tj n0 s k vs).map .f
 |_,v=>if v.noRef then some v else dS
noncomputable def tj(n0:Nat)(s:Sto):Nat->List Val->Option (List Val)
 |_,[]=>some []
 |0,_::_=>dS
 |k+1,v::vs=>match (if v.noRef then some v else vZ n0 s k v),tj n0 s k vs with
  |some v',some vs'=>some (v'::vs')
  |_,_=>dS
end
def freeze(n0:Nat)(s:Sto)(v:Val):Option Val:=if v.noRef then some v else vZ n0 s 20 v
inductive Bop|a|c|b|d|e|g|h|i|f
 deriving DecidableEq
inductive Cop|d|a|l|c|h|j|i|b|k|g|m|e|f
 deriving DecidableEq
inductive Bf|a|p|q|e|j|g|h|k|l|s|o|i|b|r|c|n|d|m
 deriving DecidableEq
inductive Mf|a|b|c|f|d|e
 deriving DecidableEq
inductive Tgt
 |a (i:Nat)
 |b (is:List Nat)
mutual
inductive Ex
 |g (v:Val)|e (i:Nat)|A (x:Str)|L (x:Str) (n:String)
 |j (m:Bool) (op:Bop) (a b:Ex)|B (a:Ex)|G (a:Ex)
 |l (op:Cop) (a b:Ex)|w (op op':Cop) (a b c:Ex)
 |z (a:Ex) (es:Exs)|I (a:Ex) (es:Exs)|F (c:Cn) (a b:Ex)
 |p (es:Exs)|s (m:Bool) (es:Exs)|D
 |h (f:Str) (ver:Nat) (es:Exs)|k (f:Bf) (m:Bool) (es:Exs)|E (a d:Ex)
 |K (f:Mf) (m:Bool) (o:Ex) (es:Exs)
 |u (a b:Ex)|H (m:Bool) (a:Ex) (lo hi st:OEx)
 |q (m:Bool) (N:List Str) (fr:List (Option Nat)) (elt:Ex) (t:Tgt) (it:Itb) (ifs:Cns)
 |y (m:Bool) (N:List Str) (fr:List (Option Nat)) (elt:Ex) (t:Tgt) (it:Itb) (ifs:Cns) (t2:Tgt) (it2:Itb) (ifs2:Cns)
 |r (m:Bool) (a b c:Ex)
 |C (t:Bool)|J (a b:Ex)
inductive Exs
 |b|a (e:Ex) (es:Exs)
inductive OEx
 |b|a (e:Ex)
inductive Cn
 |a (e:Ex)|b (c:Cn)|d (c:Cn) (cs:Cns)|f (c:Cn) (cs:Cns)
inductive Cns
 |a|b (c:Cn) (cs:Cns)
inductive Itb
 |f (e:Ex)|c (a:Ex)|d (a b:Ex)|g (e:Ex)|h (a b:Ex)
end
mutual
inductive Sm
 |h (e:Ex)|d (e:Ex)|s|f (i:Nat) (e:Ex)|n (is:List Nat) (e:Ex)|p (is:List Nat) (es:Exs)
 |u (i:Nat) (op:Bop) (e:Ex)|l (o i e:Ex)
 |g (c:Cn) (a b:Sms)|j (t:Tgt) (it:Itb) (b:Sms)|m (c:Cn) (b:Sms)
 |r|w|q|k (e:Ex)|v (o i e:Ex)
inductive Sms
 |b|a (s:Sm) (ss:Sms)
end
structure Fn where
 N:List Str
 b:List Str
 c:Bool
 a:Sms
abbrev Calls:=Str->Nat->List Val->Sto->Out Val
noncomputable def zO:Nat:=16777216
noncomputable def newList(m:Bool)(vs:List Val)(s:Sto):Out Val:=if m then .e (.k s.length) (s++[.c vs]) else .e (.j vs) s
noncomputable def wG(s:Sto):Val->Option (List Val)
 |.f vs=>some vs
 |.j vs=>some vs
 |.l ns=>some (ns.map .c)
 |.p ns=>some (ns.map .c)
 |.k i=>match s[i]? with
  |some (.c vs)=>some vs
  |_=>dS
 |_=>dS
noncomputable def yX(s:Sto):Val->Option (List Val)
 |.j vs=>some vs
 |.k i=>match s[i]? with
  |some (.c vs)=>some vs
  |_=>dS
 |_=>dS
def truth(s:Sto):Val->Option Bool
 |.g=>some false
 |.e b=>some b
 |.c i=>some (i != 0)
 |.h x=>if x.length<=zO then some ((x.length:Int) != 0) else dS
 |.f vs=>some !vs.isEmpty
 |.j vs=>some !vs.isEmpty
 |.m=>some false
 |.k i=>match s[i]? with
  |some (.c vs)=>some !vs.isEmpty
  |_=>dS
 |_=>dS
def Out.truth(o:Out Val):Out Bool:=o.bind λv s=>match M.truth s v with
 |some b=>.e b s
 |dS=>.d
noncomputable def yg(s:Sto):Val->Val
 |.k i=>match s[i]? with
  |some (.c vs)=>.j vs
  |_=>.k i
 |v=>v
def zu(s:Sto):Val->Val
 |.f vs=>.f (vs.map (yg s))
 |v=>yg s v
def qi(d:PyData):Bool:=d.showable&&d.leavesShort 40&&decide (d.depth<=50)&&decide (d.weight<=300000)&&(!d.hasDict||!L2.xZ d)
noncomputable def flat:Val->Bool
 |.g|.e _|.c _|.h _=>true
 |_=>false
noncomputable def eqF:Val->Val->Bool
 |.g,.g=>true
 |.e a,.e b=>a == b
 |.e a,.c b=>(if a then 1 else 0) == b
 |.c a,.e b=>a == (if b then 1 else 0)
 |.c a,.c b=>a == b
 |.h a,.h b=>a == b
 |_,_=>false
def pK(a b:Val):Option Bool:=if a.isD&&b.isD&&decide (b.d.depth<=60) then some (Ck a.d b.d) else dS
noncomputable def intsOf:List Val->Option (List Int)
 |[]=>some []
 |.c i::vs=>(intsOf vs).map (i::·)
 |_=>dS
noncomputable def Val.isN:Val->Bool
 |.g=>true
 |_=>false
def inD(x:Val)(vs:List Val):Bool:=x.isD&&uF vs&&decide (x.d.depth<=60)
noncomputable def Z3{κ:Type} [DecidableEq κ]:List (κ × Val)->κ->Option Val
 |[],_=>dS
 |p::r,k=>if p.1=k then some p.2 else Z3 r k
def Tq{κ:Type} [DecidableEq κ] (kvs:List (κ × Val))(k:κ)(v:Val):List (κ × Val):=
 if (Z3 kvs k).isSome then kvs.map (λp=>if p.1=k then (p.1,v) else p) else kvs++[(k,v)]
noncomputable def WD(s:Sto):Val->Option (Nat × Cel)
 |.o i=>(s[i]?).map λc=>(i,c)
 |_=>dS
def W5:Cel->Val->Option (Option Val)
 |.e kvs,.h k=>some (Z3 kvs k)
 |.f kvs,.f vs=>(intsOf vs).map λk=>Z3 kvs k
 |_,_=>dS
def W6:Cel->Val->Val->Option Cel
 |.e kvs,.h k,v=>if kvs.length<zO then some (.e (Tq kvs k v)) else dS
 |.f kvs,.f vs,v=>(intsOf vs).bind λk=>if kvs.length<zO then some (.f (Tq kvs k v)) else dS
 |_,_,_=>dS
def getD(d y:Val)(s:Sto):Option (Option Val):=(WD s d).bind λc=>W5 c.2 y
def ixD(d y:Val)(s:Sto):Out Val:=match getD d y s with
 |some (some v)=>.e v s
 |_=>.d
def putD(d y v:Val)(s:Sto):Option Sto:=(WD s d).bind λc=>(W6 c.2 y v).map λc'=>s.set c.1 c'
noncomputable def strsOf:List Val->Option (List Str)
 |[]=>some []
 |.h x::vs=>(strsOf vs).map (x::·)
 |_=>dS
def zS(op:Cop)(x y:Val)(s:Sto):Out Val:=
 match op with
 |.d=>match x,y with
  |.h a,.h b=>.e (.e (decide (a=b))) s
  |.f a,.l ns=>match pK (zu s (.f a)) (.f (ns.map .c)) with|some b=>.e (.e b) s|dS=>.d
  |_,_=>match pK (zu s x) (zu s y) with|some b=>.e (.e b) s|dS=>.d
 |.a=>match x,y with
  |.h a,.h b=>.e (.e !(decide (a=b))) s
  |_,_=>match pK (zu s x) (zu s y) with|some b=>.e (.e !b) s|dS=>.d
 |.i=>match y with|.g=>.e (.e x.isN) s|.e b=>(match x with|.e a=>.e (.e (decide (a=b))) s|_=>.d)|_=>.d
 |.b=>match y with|.g=>.e (.e !x.isN) s|.e b=>(match x with|.e a=>.e (.e !(decide (a=b))) s|_=>.d)|_=>.d
 |.k=>match wG s y with
  |some vs=>if flat x&&vs.all flat then .e (.e (vs.any λz=>eqF z x)) s else if inD x vs then .e (.e (vs.any λz=>Ck z.d x.d)) s else .d
  |dS=>.d
 |.g=>match wG s y with
  |some vs=>if flat x&&vs.all flat then .e (.e !(vs.any λz=>eqF z x)) s else if inD x vs then .e (.e !(vs.any λz=>Ck z.d x.d)) s else .d
  |dS=>.d
 |.m=>match getD y x s with|some o=>.e (.e o.isSome) s|dS=>.d
 |.e=>match getD y x s with|some o=>.e (.e !o.isSome) s|dS=>.d
 |.f=>match x with
  |.m=>(match wG s y with
   |some vs=>(match M.intsOf vs with|some _=>.e (.e true) s|dS=>.d)
   |dS=>.d)
  |_=>(match wG s y with
   |some vs=>if flat x&&vs.all flat then .e (.e !(vs.any λz=>eqF z x)) s else if inD x vs then .e (.e !(vs.any λz=>Ck z.d x.d)) s else .d
   |dS=>.d)
 |.l=>match x,y with|.c i,.c j=>.e (.e (decide (i<j))) s|_,_=>.d
 |.c=>match x,y with|.c i,.c j=>.e (.e (decide (i<=j))) s|_,_=>.d
 |.h=>match x,y with|.c i,.c j=>.e (.e (decide (j<i))) s|_,_=>.d
 |.j=>match x,y with|.c i,.c j=>.e (.e (decide (j<=i))) s|_,_=>.d
def binOp(m:Bool)(op:Bop)(x y:Val)(s:Sto):Out Val:=
 match op with
 |.a=>match x,y with
  |.c i,.c j=>.e (.c (i+j)) s
  |.h a,.h b=>if a.length+b.length<=zO then .e (.h (a++b)) s else .d
  |.f a,.f b=>if a.length+b.length<=zO then .e (.f (a++b)) s else .d
  |_,_=>match yX s x,yX s y with
   |some a,some b=>if a.length+b.length<=zO then newList m (a++b) s else .d
   |_,_=>.d
 |.c=>match x,y with|.c i,.c j=>.e (.c (i-j)) s|_,_=>.d
 |.b=>match x,y with
  |.c i,.c j=>if (-(2 ^ 64)<i/\i<2 ^ 64)\/(-(2 ^ 64)<j/\j<2 ^ 64) then .e (.c (i*j)) s else .d
  |.f a,.c k=>if -1000<=k/\k<=1000/\a≠[]/\a.length<=1000 then .e (.f (Ak k.toNat a).flatten) s else .d
  |_,.c k=>match yX s x with
   |some a=>if -1000<=k/\k<=1000/\a.length*k.toNat<=zO then newList m (Ak k.toNat a).flatten s else .d
   |dS=>.d
  |_,_=>.d
 |.d=>match x,y with|.c i,.c j=>if 0<j/\j<1073741824 then .e (.c (i/j)) s else .d|_,_=>.d
 |.e=>match x,y with|.c i,.c j=>if 0<j then .e (.c (i%j)) s else .d|_,_=>.d
 |.g=>match x,y with|.c i,.c j=>if 0<=j/\j<=1000000/\i.natAbs<2 ^ 64 then .e (.c (i ^ j.toNat)) s else .d|_,_=>.d
 |.h=>match x,y with|.c i,.c j=>if 0<=j/\j<=1000000/\i.natAbs<2 ^ 64 then .e (.c (i*2 ^ j.toNat)) s else .d|_,_=>.d
 |.i=>match x,y with|.c i,.c j=>if 0<=j then .e (.c (i/2 ^ j.toNat)) s else .d|_,_=>.d
 |.f=>match x,y with|.c i,.c j=>.e (.c (Builtin.bitAnd i j)) s|_,_=>.d
noncomputable def kindOf:Val->Option L2.Kd
 |.g=>some .f
 |.e _=>some .i
 |.c _=>some .d
 |.h _=>some .h
 |.f _=>some .b
 |.j _=>some .e
 |.m=>some .g
 |.k _=>some .e
 |_=>dS
noncomputable def uG:String->Option L2.Kd
 |"bool"=>some .i
 |"int"=>some .d
 |"str"=>some .h
 |"list"=>some .e
 |"tuple"=>some .b
 |"dict"=>some .g
 |_=>dS
noncomputable def boolsOf:List Val->Option (List Bool)
 |[]=>some []
 |.e b::vs=>(boolsOf vs).map (b::·)
 |_=>dS
noncomputable def pairsOf:List Val->Option (List (Int × Int))
 |[]=>some []
 |.f [.c a,.c b]::vs=>(pairsOf vs).map ((a,b)::·)
 |_=>dS
noncomputable def prV(z:Int × Int):Val:=.f [.c z.1,.c z.2]
def kh(z:Int × Int):List (Int × Int)->List (Int × Int)
 |[]=>[z]
 |y::ys=>if L2.xg z<=L2.xg y then z::y::ys else y::kh z ys
def vq:List (Int × Int)->List (Int × Int)
 |[]=>[]
 |z::zs=>kh z (vq zs)
def mP:List Val->Option (List (List Int))
 |[]=>some []
 |.f a::vs=>match intsOf a,mP vs with
  |some z,some zs=>some (z::zs)
  |_,_=>dS
 |_=>dS
noncomputable def tpV(z:List Int):Val:=.f (z.map .c)
noncomputable def tpS(x:Str)(z:List Int):Val:=.f (.h x::z.map .c)
def Wk(x:Str):List Val->Option (List (List Int))
 |[]=>some []
 |.f (.h y::a)::vs=>if y=x then (match intsOf a,Wk x vs with
  |some z,some zs=>some (z::zs)
  |_,_=>dS) else dS
 |_=>dS
noncomputable def WL:List Val->Str
 |.f (.h x::_)::_=>x
 |_=>""
def ZS(m:Bool)(vs:List Val)(s:Sto):Out Val:=match mP vs with
 |some zs=>if zs.Nodup/\(zs.length<2\/∀z∈zs,z≠[]) then newList m ((L2.We zs).map tpV) s else .d
 |dS=>.d
def Rn(zs:List (List Int)):Bool:=decide (zs.length<2)||match zs with
 |[]=>true
 |z::_=>decide (0<z.length)&&zs.all (λy=>decide (y.length=z.length))&&(Ao (zs.length-1)).all λi=>!L2.pL (zs.getD (i+1) []) (zs.getD i [])
def Us(m:Bool)(vs:List Val)(s:Sto):Out Val:=match mP vs with
 |some zs=>if Rn zs then newList m vs s else .d
 |dS=>.d
noncomputable def insI(z:Int):List Int->List Int
 |[]=>[z]
 |y::ys=>if z<=y then z::y::ys else y::insI z ys
def sortI:List Int->List Int
 |[]=>[]
 |z::zs=>insI z (sortI zs)
def blt(f:Bf)(m:Bool)(xs:List Val)(s:Sto):Out Val:=
 match f with
 |.a=>match xs with
  |[.h x]=>if x.length<=zO then .e (.c x.length) s else .d
  |[x]=>match wG s x with|some vs=>.e (.c vs.length) s|dS=>.d
  |_=>.d
 |.p=>match xs with
  |[x]=>match yX s x with|some vs=>(match boolsOf vs with|some bs=>.e (.e (bs.all id)) s|dS=>.d)|dS=>.d
  |_=>.d
 |.q=>match xs with
  |[x]=>match yX s x with|some vs=>(match boolsOf vs with|some bs=>.e (.e (bs.any id)) s|dS=>.d)|dS=>.d
  |_=>.d
 |.e=>match xs with
  |[.f vs]=>.e (.f vs) s
  |[x]=>match yX s x with|some vs=>.e (.f vs) s|dS=>.d
  |_=>.d
 |.j=>match xs with
  |[x]=>match wG s x with|some vs=>newList m vs s|dS=>.d
  |_=>.d
 |.h=>match xs with
  |[x]=>if (zu s x).isR&&qi (zu s x).d then .e (.h (zu s x).d.shown) s else .d
  |_=>.d
 |.k=>match xs with
  |[.c i,.c j]=>.e (.c (if j > i then j else i)) s
  |[.f vs]=>(match M.intsOf vs with|some ns=>if ns≠[] then .e (.c (L2.vp 0 ns)) s else .d|dS=>.d)
  |[x]=>match yX s x with|some vs=>(match M.intsOf vs with|some ns=>if ns≠[] then .e (.c (L2.vp 0 ns)) s else .d|dS=>.d)|dS=>.d
  |_=>.d
 |.l=>match xs with
  |[.c i,.c j]=>.e (.c (if j<i then j else i)) s
  |[.f vs]=>(match M.intsOf vs with|some ns=>if ns≠[] then .e (.c (L2.uK 0 ns)) s else .d|dS=>.d)
  |[x]=>match yX s x with|some vs=>(match M.intsOf vs with|some ns=>if ns≠[] then .e (.c (L2.uK 0 ns)) s else .d|dS=>.d)|dS=>.d
  |_=>.d
 |.o=>match xs with
  |[.c i]=>.e (.c i) s
  |[.e b]=>.e (.c (if b then 1 else 0)) s
  |_=>.d
 |.i=>match xs with
  |[x,.r n]=>match kindOf x,uG n with|some a,some c=>.e (.e (a.sub c)) s|_,_=>.d
  |_=>.d
 |.b=>match xs with
  |[.c i,.c j]=>if 0<j/\j<1073741824 then .e (.f [.c (i/j),.c (i%j)]) s else .d
  |_=>.d
 |.r=>match xs with
  |[.c i]=>if i.natAbs.log2<1920 then .e (.h (toString i)) s else .d
  |_=>.d
 |.s=>match xs with
  |[x]=>match yX s x with|some vs=>(match M.intsOf vs with|some ns=>if L2.R3 ns then .e (.c ns.sum) s else .d|dS=>.d)|dS=>.d
  |_=>.d
 |.g=>match xs with
  |[x]=>match yX s x with
   |some vs=>(match pairsOf vs with
    |some zs=>if zs.Nodup/\∀z∈zs,0<=z.2/\z.2<1000 then newList m ((vq zs).map prV) s else ZS m vs s
    |dS=>ZS m vs s)
   |dS=>.d
  |_=>.d
 |.n=>match xs with
  |[x]=>match yX s x with|some vs=>(match mP vs with|some zs=>if zs≠[] then .e (tpV (L2.So zs)) s else .d|dS=>.d)|dS=>.d
  |_=>.d
 |.m=>match xs with
  |[x]=>match yX s x with|some vs=>(match Wk (WL vs) vs with|some zs=>if zs≠[] then .e (tpS (WL vs) (L2.So zs)) s else .d|dS=>.d)|dS=>.d
  |_=>.d
 |.d=>match xs with
  |[x]=>match yX s x with|some vs=>Us m vs s|dS=>.d
  |_=>.d
 |.c=>match xs with
  |[x]=>match wG s x with|some vs=>(match M.intsOf vs with|some ns=>if ns.length<64 then newList m ((sortI ns).map .c) s else .d|dS=>.d)|dS=>.d
  |_=>.d
def mxD(x y:Val)(s:Sto):Out Val:=match y with
 |.c k=>(match yX s x with|some vs=>(match M.intsOf vs with|some ns=>.e (.c (L2.vp k ns)) s|dS=>.d)|dS=>.d)
 |_=>.d
noncomputable def upd(s:Sto)(i:Nat)(vs:List Val):Sto:=s.set i (.c vs)
def xF(f:Mf)(o:Val)(xs:List Val)(s:Sto):Out Val:=
 match f with
 |.a=>match o,xs with
  |.f vs,[y]=>if flat y&&vs.all flat then .e (.c (vs.countP λz=>eqF z y:Nat)) s else .d
  |_,[y]=>match yX s o with|some vs=>if flat y&&vs.all flat then .e (.c (vs.countP λz=>eqF z y:Nat)) s else .d|dS=>.d
  |_,_=>.d
 |.b=>match o,xs with
  |.k i,[y]=>match s[i]? with|some (.c vs)=>if vs.length<zO then .e .g (upd s i (vs++[y])) else .d|_=>.d
  |_,_=>.d
 |.c=>match o,xs with
  |.k i,[y]=>match s[i]?,yX s y with|some (.c vs),some ws=>if vs.length+ws.length<=zO then .e .g (upd s i (vs++ws)) else .d|_,_=>.d
  |_,_=>.d
 |.f=>match o,xs with
  |.k i,[.c k]=>(match s[i]? with
   |some (.c vs)=>if -(2 ^ 63)<=k/\k<2 ^ 63 then (match seqIndex? k vs.length with
    |some j=>(match vs[j]? with|some y=>.e y (upd s i (vs.eraseIdx j))|dS=>.d)
    |dS=>.d) else .d
   |_=>.d)
  |_,_=>.d
 |.d=>match o,xs with
  |.f vs,[y]=>if flat y&&vs.all flat then (match vs.findIdx? λz=>eqF z y with|some j=>.e (.c (j:Nat)) s|dS=>.d) else .d
  |_,_=>.d
 |.e=>match o,xs with
  |.h z,[y]=>(match yX s y with
   |some vs=>(match strsOf vs with|some ys=>if (ys.map (·.length)).sum+ys.length*z.length<=16777216 then .e (.h (L2.SY z ys)) s else .d|dS=>.d)
   |dS=>.d)
  |_,_=>.d
def vP(a b:Val)(s:Sto):Out Val:=
 match b with
 |.c i=>match wG s a with|some vs=>(match L2.atI vs i with|some v=>.e v s|dS=>.d)|dS=>.d
 |_=>.d
def d8{α:Type}(xs:List α)(lo hi:Option Int):List α:=(xs.drop (HT.sIx xs.length 0 lo)).take (HT.sIx xs.length xs.length hi-HT.sIx xs.length 0 lo)
def uk(m:Bool)(a:Val)(lo hi st:Option Int)(s:Sto):Out Val:=
 match a,st with
 |.f vs,dS=>.e (.f (d8 vs lo hi)) s
 |.f vs,some c=>if c≠0/\(L2.ym vs.length lo hi c).2<=zO then .e (.f (L2.z6 vs (L2.ym vs.length lo hi c).1 c (L2.ym vs.length lo hi c).2)) s else .d
 |_,dS=>match yX s a with|some vs=>newList m (d8 vs lo hi) s|dS=>.d
 |_,some c=>match yX s a with|some vs=>if c≠0 then newList m (L2.z6 vs (L2.uA vs.length lo hi c).1 c (L2.uA vs.length lo hi c).2) s else .d|dS=>.d
def Sj(m:Bool)(x y z:Val)(s:Sto):Out Val:=match x,y,z with
 |.c i,.c j,.c k=>if -(2 ^ 30)<=i/\i<=2 ^ 30∧-(2 ^ 30)<=j/\j<=2 ^ 30/\0<k/\k<=2 ^ 29/\Ce i j k<=1000 then newList m ((L2.jZ i j k).map .c) s else .d
 |.g,y,.h _=>(match wG s y with|some vs=>(match M.intsOf vs with|some ns=>if ns.length<=1000 then .e (.c (L2.dN ns:Nat)) s else .d|dS=>.d)|dS=>.d)
 |.c i,.c j,.e _=>if -(2 ^ 30)<=i/\i<=2 ^ 30∧-(2 ^ 30)<=j/\j<=2 ^ 30/\Ce i j 1<=1000 then newList m ((L2.jZ i j 1).map .c) s else .d
 |.c i,.c j,.g=>if -(2 ^ 30)<=i/\i<=2 ^ 30∧-(2 ^ 30)<=j/\j<=2 ^ 30/\Ce i j 1<=1000 then .e (.f ((L2.jZ i j 1).map .c)) s else .d
 |_,_,_=>.d
noncomputable def yk(t:Tgt)(v:Val)(env:Env):Option Env:=
 match t with
 |.a i=>some (env.set i (some v))
 |.b is=>match v with
  |.f vs=>if vs.length=is.length then some ((is.zip vs).foldl (λe p=>e.set p.1 (some p.2)) env) else dS
  |_=>dS
structure Src where
 a:List Val
 b:Option Nat
def Src.ok(r:Src)(s:Sto):Bool:=match r.b with
 |dS=>true
 |some i=>match s[i]? with
  |some (.c vs)=>sU vs r.a
  |_=>false
noncomputable def QJ:List Val->List Val->List Val
 |v::vs,w::ws=>.f [v,w]::QJ vs ws
 |_,_=>[]
noncomputable def yQ(n:Nat):List Val->List Val
 |[]=>[]
 |v::vs=>.f [.c n,v]::yQ (n+1) vs
noncomputable def srcOf(s:Sto):Val->Option Src
 |.f vs=>some ⟨vs,dS⟩
 |.j vs=>some ⟨vs,dS⟩
 |.l ns=>some ⟨ns.map .c,dS⟩
 |.k i=>match s[i]? with
  |some (.c vs)=>some ⟨vs,some i⟩
  |_=>dS
 |_=>dS
noncomputable def yb(lo:Int)(n:Nat):List Val:=(Ao n).map λ(k:Nat)=>Val.c (lo+k)
def yl(r:Src)(t:Tgt)(body:Env->Sto->List Val->Out (List Val × Env)):List Val->Env->Sto->List Val->Out (List Val × Env)
 |[],env,s,acc=>if r.ok s then .e (acc,env) s else .d
 |x::xs,env,s,acc=>if r.ok s then match yk t x env with
    |dS=>.d
    |some env'=>(body env' s acc).bind λp s'=>yl r t body xs p.2 s' p.1
  else .d
noncomputable def zR(fr:List (Option Nat))(env:Env):Env:=fr.map λo=>match o with|some j=>(env[j]?).join|dS=>dS
inductive Fl
 |a (env:Env)|c (env:Env)|d (env:Env)|b (v:Val)
def vo(r:Src)(t:Tgt)(body:Env->Sto->Out Fl):List Val->Env->Sto->Out Fl
 |[],env,s=>if r.ok s then .e (.a env) s else .d
 |x::xs,env,s=>if r.ok s then match yk t x env with
    |dS=>.d
    |some env'=>(body env' s).bind λfl s'=>match fl with
     |.a e=>vo r t body xs e s'
     |.d e=>vo r t body xs e s'
     |.c e=>.e (.a e) s'
     |.b v=>.e (.b v) s'
  else .d
def uJ(c:Env->Sto->Out Bool)(body:Env->Sto->Out Fl):Nat->Env->Sto->Out Fl
 |0,_,_=>.d
 |n+1,env,s=>(c env s).bind λb s1=>if b then (body env s1).bind λfl s2=>match fl with
    |.a e=>uJ c body n e s2
    |.d e=>uJ c body n e s2
    |.c e=>.e (.a e) s2
    |.b v=>.e (.b v) s2
  else .e (.a env) s1
noncomputable def mV:Nat:=100000
section
variable (Φ:Calls)(G:Str->Option Val)
mutual
noncomputable def evE(env:Env):Ex->Sto->Out Val
 |.g v,s=>.e v s
 |.e i,s=>match env[i]? with|some (some v)=>.e v s|_=>.d
 |.A x,s=>match G x with|some v=>.e v s|dS=>.d
 |.L _ n,s=>.e (.r n) s
 |.j m op a b,s=>(evE env a s).bind λx s1=>(evE env b s1).bind λy s2=>binOp m op x y s2
 |.B a,s=>(evE env a s).bind λx s1=>match x with|.c i=>.e (.c (-i)) s1|_=>.d
 |.G a,s=>(evE env a s).bind λx s1=>match x with|.e b=>.e (.e !b) s1|_=>.d
 |.l op a b,s=>(evE env a s).bind λx s1=>(evE env b s1).bind λy s2=>zS op x y s2
 |.w op op' a b c,s=>(evE env a s).bind λx s1=>(evE env b s1).bind λy s2=>(zS op x y s2).bind λr s3=>match r with
  |.e true=>(evE env c s3).bind λz s4=>zS op' y z s4
  |.e false=>.e (.e false) s3
  |_=>.d
 |.z a es,s=>match es with
  |.b=>evE env a s
  |.a _ _=>(evE env a s).bind λx s1=>match x with
   |.e true=>rN env es s1
   |.e false=>.e (.e false) s1
   |_=>.d
 |.I a es,s=>match es with
  |.b=>evE env a s
  |.a _ _=>(evE env a s).bind λx s1=>match truth s1 x with
   |some false=>mr env es s1
   |some true=>.e x s1
   |dS=>.d
 |.F c a b,s=>(evT env c s).bind λt s1=>if t then evE env a s1 else evE env b s1
 |.p es,s=>(zf env es s).bind λvs s1=>if vs.length<=zO then .e (.f vs) s1 else .d
 |.s m es,s=>(zf env es s).bind λvs s1=>if vs.length<=zO then newList m vs s1 else .d
 |.D,s=>.e .m s
 |.h f ver es,s=>(zf env es s).bind λvs s1=>Φ f ver vs s1
 |.k f m es,s=>(zf env es s).bind λvs s1=>blt f m vs s1
 |.E a d,s=>(evE env a s).bind λx s1=>(evE env d s1).bind λy s2=>mxD x y s2
 |.K f _ o es,s=>(evE env o s).bind λx s1=>(zf env es s1).bind λvs s2=>xF f x vs s2
 |.u a b,s=>(evE env a s).bind λx s1=>(evE env b s1).bind λy s2=>vP x y s2
 |.H m a lo hi st,s=>(evE env a s).bind λx s1=>(evO env lo s1).bind λl s2=>(evO env hi s2).bind λh s3=>(evO env st s3).bind λc s4=>uk m x l h c s4
 |.q m _ fr elt t it ifs,s=>(yh env it s).bind λr s1=>
  (yl r t (λe s' acc=>(xH e ifs s').bind λb s2=>if b then (evE e elt s2).bind λv s3=>.e (acc++[v],e) s3 else .e (acc,e) s2) r.a (zR fr env) s1 []).bind λp s2=>newList m p.1 s2
 |.y m _ fr elt t it ifs t2 it2 ifs2,s=>(yh env it s).bind λr s1=>
  (yl r t (λe s' acc=>(xH e ifs s').bind λb s2=>if b then (yh e it2 s2).bind λr2 s3=>
      yl r2 t2 (λe' s4 acc'=>(xH e' ifs2 s4).bind λb' s5=>if b' then (evE e' elt s5).bind λv s6=>.e (acc'++[v],e') s6 else .e (acc',e') s5) r2.a e s3 acc
   else .e (acc,e) s2) r.a (zR fr env) s1 []).bind λp s2=>if p.1.length<=zO then newList m p.1 s2 else .d
 |.C t,s=>.e (.o s.length) (s++[if t then .f [] else .e []])
 |.J a b,s=>(evE env a s).bind λx s1=>(evE env b s1).bind λy s2=>ixD x y s2
 |.r m a b c,s=>(evE env a s).bind λx s1=>(evE env b s1).bind λy s2=>(evE env c s2).bind λz s3=>Sj m x y z s3
noncomputable def rN(env:Env):Exs->Sto->Out Val
 |.b,_=>.d
 |.a a es,s=>match es with
  |.b=>evE env a s
  |.a _ _=>(evE env a s).bind λx s1=>match x with
   |.e true=>rN env es s1
   |.e false=>.e (.e false) s1
   |_=>.d
noncomputable def mr(env:Env):Exs->Sto->Out Val
 |.b,_=>.d
 |.a a es,s=>match es with
  |.b=>evE env a s
  |.a _ _=>(evE env a s).bind λx s1=>match truth s1 x with
   |some false=>mr env es s1
   |some true=>.e x s1
   |dS=>.d
noncomputable def zf(env:Env):Exs->Sto->Out (List Val)
 |.b,s=>.e [] s
 |.a e es,s=>(evE env e s).bind λv s1=>(zf env es s1).bind λvs s2=>.e (v::vs) s2
noncomputable def evO(env:Env):OEx->Sto->Out (Option Int)
 |.b,s=>.e dS s
 |.a e,s=>(evE env e s).bind λv s1=>match v with|.c i=>.e (some i) s1|_=>.d
/-- a test -/
noncomputable def evT(env:Env):Cn->Sto->Out Bool
 |.a e,s=>(evE env e s).truth
 |.b a,s=>(evT env a s).bind λb s1=>.e (!b) s1
 |.d a es,s=>(evT env a s).bind λb s1=>if b then xH env es s1 else .e false s1
 |.f a es,s=>(evT env a s).bind λb s1=>if b then .e true s1 else qI env es s1
noncomputable def xH(env:Env):Cns->Sto->Out Bool
 |.a,s=>.e true s
 |.b a es,s=>(evT env a s).bind λb s1=>if b then xH env es s1 else .e false s1
noncomputable def qI(env:Env):Cns->Sto->Out Bool
 |.a,s=>.e false s
 |.b a es,s=>(evT env a s).bind λb s1=>if b then .e true s1 else qI env es s1
noncomputable def yh(env:Env):Itb->Sto->Out Src
 |.f e,s=>(evE env e s).bind λv s1=>match srcOf s1 v with|some r=>.e r s1|dS=>.d
 |.c a,s=>(evE env a s).bind λx s1=>match x with
  |.c j=>if -(2 ^ 62)<=j/\j<=zO then .e ⟨yb 0 j.toNat,dS⟩ s1 else .d
  |_=>.d
 |.d a b,s=>(evE env a s).bind λx s1=>(evE env b s1).bind λy s2=>match x,y with
  |.c i,.c j=>if -(2 ^ 62)<=i/\i<2 ^ 62∧-(2 ^ 62)<=j/\j<2 ^ 62/\j-i<=zO then .e ⟨yb i (j-i).toNat,dS⟩ s2 else .d
  |_,_=>.d
 |.g e,s=>(evE env e s).bind λv s1=>match v with
  |.f vs=>.e ⟨yQ 0 vs,dS⟩ s1
  |.j vs=>.e ⟨yQ 0 vs,dS⟩ s1
  |_=>.d
 |.h a b,s=>(evE env a s).bind λx s1=>(evE env b s1).bind λy s2=>match x,y with
  |.f vs,.f ws=>if ws.length<=vs.length then .e ⟨QJ vs ws,dS⟩ s2 else .d
  |_,_=>.d
end
mutual
noncomputable def exS(env:Env):Sm->Sto->Out Fl
 |.h e,s=>(evE Φ G env e s).bind λ_ s1=>.e (.a env) s1
 |.d e,s=>(evE Φ G env e s).bind λv s1=>.e (.b v) s1
 |.s,s=>.e (.b .g) s
 |.f i e,s=>(evE Φ G env e s).bind λv s1=>.e (.a (env.set i (some v))) s1
 |.n is e,s=>(evE Φ G env e s).bind λv s1=>match yk (.b is) v env with|some env'=>.e (.a env') s1|dS=>.d
 |.p is es,s=>(zf Φ G env es s).bind λvs s1=>if vs.length=is.length then .e (.a ((is.zip vs).foldl (λe p=>e.set p.1 (some p.2)) env)) s1 else .d
 |.u i op e,s=>match env[i]? with
  |some (some (.c x))=>(evE Φ G env e s).bind λv s1=>match v with
   |.c y=>(binOp false op (.c x) (.c y) s1).bind λz s2=>.e (.a (env.set i (some z))) s2
   |_=>.d
  |some (some (.f x))=>if op=.a then (evE Φ G env e s).bind λv s1=>match v with
   |.f y=>(binOp false .a (.f x) (.f y) s1).bind λz s2=>.e (.a (env.set i (some z))) s2
   |_=>.d
   else .d
  |_=>.d
 |.l o i e,s=>(evE Φ G env e s).bind λv s1=>(evE Φ G env o s1).bind λx s2=>(evE Φ G env i s2).bind λy s3=>match x,y with
  |.k r,.c k=>(match s3[r]? with
   |some (.c vs)=>(match L2.ixN vs.length k with|some j=>.e (.a env) (upd s3 r (vs.set j v))|dS=>.d)
   |_=>.d)
  |_,_=>.d
 |.g c a b,s=>(evT Φ G env c s).bind λt s1=>if t then ze env a s1 else ze env b s1
 |.j t it b,s=>(yh Φ G env it s).bind λr s1=>vo r t (λe s'=>ze e b s') r.a env s1
 |.m c b,s=>uJ (λe s'=>evT Φ G e c s') (λe s'=>ze e b s') mV env s
 |.r,s=>.e (.a env) s
 |.w,s=>.e (.c env) s
 |.q,s=>.e (.d env) s
 |.k _,_=>.d
 |.v o i e,s=>(evE Φ G env e s).bind λv s1=>(evE Φ G env o s1).bind λx s2=>(evE Φ G env i s2).bind λy s3=>match putD x y v s3 with|some s4=>.e (.a env) s4|dS=>.d
noncomputable def ze(env:Env):Sms->Sto->Out Fl
 |.b,s=>.e (.a env) s
 |.a c cs,s=>(exS env c s).bind λfl s1=>match fl with
  |.a e=>ze e cs s1
  |fl=>.e fl s1
end
end
abbrev rn:=Option (Str × List Val × Sto)
abbrev xn:=Str->Nat->List Val->Sto->rn
noncomputable def lK:List Val->Bool
 |[.h _]=>true
 |[.c i,.c j]=>decide (i.natAbs<2 ^ 64)&&decide (j.natAbs<2 ^ 64)
 |_=>false
section
variable (W:Str->Bool)(Φ:Calls)(Ψ:xn)(G:Str->Option Val)
mutual
noncomputable def xE(env:Env):Ex->Sto->rn
 |.h f v es,s=>match zf Φ G env es s with
  |.e vs s1=>Ψ f v vs s1
  |_=>dS
 |.l _ a _,s=>xE env a s
 |.j _ _ a _,s=>xE env a s
 |.k _ _ es,s=>xL env es s
 |_,_=>dS
/-- one argument that raises -/
noncomputable def xL(env:Env):Exs->Sto->rn
 |.a a es,s=>match es with
  |.b=>xE env a s
  |.a _ _=>dS
 |.b,_=>dS
end
def xT(env:Env):Cn->Sto->rn
 |.a e,s=>match e with
  |.h f v es=>xE Φ Ψ G env (.h f v es) s
  |_=>dS
 |.b c,s=>xT env c s
 |_,_=>dS
mutual
noncomputable def xS(env:Env):Sm->Sto->rn
 |.h e,s=>xE Φ Ψ G env e s
 |.d e,s=>xE Φ Ψ G env e s
 |.f _ e,s=>xE Φ Ψ G env e s
 |.g c a b,s=>match evT Φ G env c s with
  |.e t s1=>if t then xSs env a s1 else xSs env b s1
  |_=>xT Φ Ψ G env c s
 |.k e,s=>match e with
  |.h c _ es=>(match zf Φ G env es s with
   |.e vs s1=>if lK vs&&W c then some (c,vs,s1) else dS
   |_=>dS)
  |_=>dS
 |_,_=>dS
noncomputable def xSs(env:Env):Sms->Sto->rn
 |.b,_=>dS
 |.a c cs,s=>match exS Φ G env c s with
  |.e fl s1=>(match fl with
   |.a e=>xSs e cs s1
   |_=>dS)
  |_=>xS env c s
end
end
noncomputable def zV(N:List Str)(vs:List Val):Env:=vs.map some++Ak (N.length-vs.length) dS
def leave(F:Fn)(s0:Sto)(v:Val)(s:Sto):Out Val:=
 if F.c then .e v s
 else if wb s0 s then (match freeze s0.length s v with|some v'=>.e v' (s.take s0.length)|dS=>.d) else .d
structure Tbl where
 d:Str->Nat->Option Fn
 b:Str->Option Val
 /-- the defs whose tables the store holds,from its start -/
 f:List Str:=[]
 /-- the classes of exceptions,and what the law's def says of each -/
 e:List (Str × Str):=[]
 /-- which of the law's two defs that try a call is there -/
 c:Bool->Bool:=λ_=>false
noncomputable def z0:List Str->Sto->Bool
 |[],_=>true
 |x::r,.d y::s=>decide (x=y)&&z0 r s
 |_::_,_=>false
noncomputable def qv(T:Tbl)(m:Bool)(o:Out Val)(x:rn):Out Val:=match o with
 |.e v s=>.e (if m then v else .h "told") s
 |_=>match x with
  |some (c,_,s)=>(match T.e.lookup c with
   |some w=>.e (.h w) s
   |dS=>.d)
  |dS=>.d
def run(T:Tbl)(Φ:Calls)(F:Fn)(vs:List Val)(s:Sto):Out Val:=
 if vs.length=F.b.length then (ze Φ T.b (zV F.N vs) F.a s).bind λfl s1=>match fl with
  |.a _=>leave F s .g s1
  |.b v=>leave F s v s1
  |_=>.d
 else .d
noncomputable def mx:List Val->Option Str
 |.q g::_=>some g
 |_=>dS
mutual
noncomputable def zE(T:Tbl):Nat->Calls
 |0=>λ_ _ _ _=>.d
 |n+1=>λf ver vs s=>match T.d f ver with|some F=>run T (zE T n) F vs s|dS=>if ((decide (ver=100)&&T.c false)||(decide (ver=101)&&T.c true))&&z0 T.f s then qv T (decide (ver=101)) (zE T n f 0 vs s) (zk T n f 0 vs s) else (match mx vs with|some g=>if decide (ver=200) then (match T.d g 0 with|some F=>run T (zE T n) F vs.tail s|dS=>.d) else if ((decide (ver=300)&&T.c false)||(decide (ver=301)&&T.c true))&&z0 T.f s then qv T (decide (ver=301)) (zE T n g 0 vs.tail s) (zk T n g 0 vs.tail s) else .d|dS=>.d)
noncomputable def zk(T:Tbl):Nat->xn
 |0=>λ_ _ _ _=>dS
 |n+1=>λf ver vs s=>match T.d f ver with
  |some F=>if vs.length=F.b.length then xSs (λc=>(T.e.lookup c).isSome) (zE T n) (zk T n) T.b (zV F.N vs) F.a s else dS
  |dS=>dS
end
end M
end
section
namespace M
open PySem
abbrev KF:=Af
structure Own where
 o:List Addr
 h:List Addr
def Own.no(ρ:Own)(a:Addr):Prop:=a ∉ ρ.o/\a ∉ ρ.h
def KT(K:KF)(a:Addr)(xs:List L2.V):Prop:=∃(o:Obj) (its:Array Value) (n:Nat),K.lookup a=some o/\o.cls=.type "tuple"/\o.data=.seq its n/\its.size<=As/\L2.Vals xs its.toList
def SC(K:KF)(ρ:Own)(H:L2.Hp)(a:Addr)(xs:List L2.V):Prop:=(ρ.no a/\L2.Rd H a (.b xs)) \/
 ∃(o:Obj) (its:Array Value) (n:Nat),K.lookup a=some o/\o.cls=.type "list"/\o.dict=none/\o.data=.seq its n/\its.size<=As/\L2.Vals xs its.toList
noncomputable def hk:Option L2.HO->Nat
 |some (.b _)=>1
 |some (.i _)=>2
 |some (.j _)=>3
 |some (.g _)=>4
 |_=>0
mutual
inductive RD(K:KF)(mg:Str->Option Value)(ρ:Own)(H:L2.Hp):Val->L2.V->Prop
 |s:RD K mg ρ H .g .g
 |j (b:Bool):RD K mg ρ H (.e b) (.f b)
 |l (i:Int):RD K mg ρ H (.c i) (.d i)
 |D (x:Str):RD K mg ρ H (.h x) (.e x)
 |m {a:Addr} {vs:List Val} {xs:List L2.V}:ρ.no a->H a=some (.c xs)->RDs K mg ρ H vs xs->RD K mg ρ H (.f vs) (.c a)
 |E {a:Addr} {vs:List Val} {xs:List L2.V}:ρ.no a->H a=some (.b xs)->RDs K mg ρ H vs xs->RD K mg ρ H (.j vs) (.c a)
 |B {a:Addr}:ρ.no a->H a=some (.i [])->RD K mg ρ H .m (.c a)
 |p {a:Addr} {ns:List Int}:KT K a (ns.map L2.V.d)->RD K mg ρ H (.l ns) (.c a)
 |F {a:Addr} {ns:List Int}:SC K ρ H a (ns.map L2.V.d)->RD K mg ρ H (.p ns) (.c a)
 |C {a:Addr} {i:Nat}:ρ.o[i]?=some a->hk (H a)=1->RD K mg ρ H (.k i) (.c a)
 |A {a:Addr} {i:Nat}:ρ.o[i]?=some a->1<hk (H a)->RD K mg ρ H (.o i) (.c a)
 |G {x:Str} {f:Addr}:mg x=some (.ref f)->RD K mg ρ H (.q x) (.c f)
 |I (n:String):RD K mg ρ H (.r n) (.k n)
inductive RDs(K:KF)(mg:Str->Option Value)(ρ:Own)(H:L2.Hp):List Val->List L2.V->Prop
 |d:RDs K mg ρ H [] []
 |a {v:Val} {x:L2.V} {vs:List Val} {xs:List L2.V}:RD K mg ρ H v x->RDs K mg ρ H vs xs->RDs K mg ρ H (v::vs) (x::xs)
end
noncomputable def V4(x:Str):Str:=(x++(".<locals>.":Str))++("<lambda>":Str)
def Tf(K:KF)(mg:Str->Option Value)(ρ:Own)(H:L2.Hp)(P:Addr)(x:Str):Prop:=∃ps,H P=some (.g ps)/\DW ps.toList /\
 (∀(pos:Pos) (cv:Value),DV pos ps.toList=some cv->∃(c:Addr) (o:Obj) (vs:Array Value) (t:Tok),cv=.ref c/\ρ.no c/\H c=some (.e o (.d 0))/\o.data=.fields vs/\vs[1]?=some (.str (V4 x) t)) /\
 ∃(fa c:Addr) (o:Obj) (fd:BV),mg x=some (.ref fa)/\K.lookup fa=some o/\o.data=.func fd/\fd.code=.ref c/\∀h:Heap,K.In h->PySem.W.CodeHd h c P
def CR(K:KF)(mg:Str->Option Value)(ρ:Own)(H:L2.Hp)(a:Addr):Cel->Prop
 |.c vs=>∃xs,H a=some (.b xs)/\RDs K mg ρ H vs xs
 |.e kvs=>∃kxs,H a=some (.i kxs)/\kxs.map (·.1)=kvs.map (λp=>Et p.1)/\RDs K mg ρ H (kvs.map (·.2)) (kxs.map (·.2))
 |.f kvs=>∃kxs,H a=some (.j kxs)/\kxs.map (·.1)=kvs.map (λp=>p.1.map Es)/\RDs K mg ρ H (kvs.map (·.2)) (kxs.map (·.2))
 |.d x=>Tf K mg ρ H a x
structure HR(K:KF)(mg:Str->Option Value)(ρ:Own)(s:Sto)(H:L2.Hp):Prop where
 f:ρ.o.length=s.length
 v:ρ.o.Nodup
 m:∀(i:Nat) (c:Cel),s[i]?=some c->∃a:Addr,ρ.o[i]?=some a/\CR K mg ρ H a c
 d:∀a∈ρ.h,(∃xs,H a=some (.b xs))/\a ∉ ρ.o
structure Ext(ρ:Own)(H:L2.Hp)(ρ':Own)(H':L2.Hp):Prop where
 d:∃new:List Addr,ρ'.o=ρ.o++new/\∀a∈new,H a=none
 f:ρ'.h=ρ.h
 c:∀(a:Addr) (o:L2.HO),H a=some o->a ∉ ρ.o->H' a=some o
 g:∀a∈ρ.o,hk (H' a)=hk (H a)
structure ER(K:KF)(mg:Str->Option Value)(ρ:Own)(H:L2.Hp)(env:Env)(σ:L2.St):Prop where
 b:env.length=σ.length
 a:∀(i:Nat) (v:Val),env[i]?=some (some v)->∃x:L2.V,σ[i]?=some (some x)/\RD K mg ρ H v x
section
variable {K:KF}{mg:Str->Option Value}{ρ ρ' ρ'':Own}{H H' H'':L2.Hp}{s s':Sto}
theorem HR.obj(h:HR K mg ρ s H)(i:Nat)vs(e:s[i]?=some (Cel.c vs)):∃(a:Addr) (xs:List L2.V),ρ.o[i]?=some a/\H a=some (.b xs)/\RDs K mg ρ H vs xs:=by obtain⟨a,e1,xs,e2,r⟩:=h.m i _ e;exact⟨a,xs,e1,e2,r⟩
theorem CR.there(h:CR K mg ρ H a c):∃o,H a=some o:=by
 cases c with
 |c vs=>obtain⟨xs,e,_⟩:=h;exact⟨_,e⟩
 |e kvs=>obtain⟨xs,e,_⟩:=h;exact⟨_,e⟩
 |f kvs=>obtain⟨xs,e,_⟩:=h;exact⟨_,e⟩
 |d x=>obtain⟨ps,e,_⟩:=h;exact⟨_,e⟩
theorem CR.hk{a:Addr}{c:Cel}(h:CR K mg ρ H a c):0<hk (H a):=by
 cases c with
 |c vs=>obtain⟨xs,e,_⟩:=h;rw[e];exact CQ 0
 |e kvs=>obtain⟨xs,e,_⟩:=h;rw[e];exact EB rfl
 |f kvs=>obtain⟨xs,e,_⟩:=h;rw[e];exact EB rfl
 |d x=>obtain⟨ps,e,_⟩:=h;rw[e];exact EB rfl
theorem HR.trk(h:HR K mg ρ s H)(ha:a∈ρ.o):∃o,H a=some o:=by
 obtain⟨i,hi,e⟩:=BI ha;have hs:i<s.length:=by rw[<-h.f];exact hi
 obtain⟨b,e1,e2⟩:=h.m i _ (Aa hs);rw[Aa hi,e]at e1;cases e1;exact e2.there
theorem ka(h:hk (H a)=1):∃xs,H a=some (.b xs):=by
 cases e:H a with
 |none=>rw[e]at h;cases h
 |some o=>
  rw[e]at h;cases o with
  |b xs=>exact⟨xs,rfl⟩
  |_=>cases h
theorem HR.new(h:HR K mg ρ s H)(hp:H p=none):ρ.no p:=by
 refine⟨λhm=>?_,λhm=>?_⟩
 . obtain⟨xs,e⟩:=h.trk hm
   rw[hp]at e;cases e
 . obtain⟨⟨xs,e⟩,_⟩:=h.d p hm
   rw[hp]at e;cases e
theorem Ext.refl:Ext ρ H ρ H:=⟨⟨[],by simp,λa ha=>by cases ha⟩,rfl,λa o e _=>e,λ_ _=>rfl⟩
theorem Ext.Sq(x:Ext ρ H ρ' H')(e:H a=some o)(n:ρ.no a):ρ'.no a:=by
 obtain⟨new,e1,hn⟩:=x.d;refine⟨?_,by rw[x.f];exact n.2⟩
 rw[e1];intro hm;rcases AS.mp hm with hm|hm
 . exact n.1 hm
 . rw[hn a hm]at e;cases e
theorem Ext.get(x:Ext ρ H ρ' H'){i:Nat}(e:ρ.o[i]?=some a):ρ'.o[i]?=some a:=by obtain⟨new,e1,hn⟩:=x.d;have hi:i<ρ.o.length:=(Am.mp e).1;rw[e1,AU hi];exact e
theorem Ext.trans(x:Ext ρ H ρ' H')(h:HR K mg ρ' s H')(y:Ext ρ' H' ρ'' H''):Ext ρ H ρ'' H'':=by
 obtain⟨new,e1,hn⟩:=x.d;obtain⟨new2,e2,hn2⟩:=y.d;refine⟨⟨new++new2,by rw[e2,e1,Bo],λa ha=>?_⟩,y.f.trans x.f,λa o e n=>y.c a o (x.c a o e n) ?_,λa ha=>(y.g a (by rw[e1];exact Bp _ ha)).trans (x.g a ha)⟩
 . rcases AS.mp ha with ha|ha
   . exact hn a ha
   . cases q:H a with
     |none=>rfl
     |some o=>
      by_cases hm:a∈ρ.o
      . obtain⟨xs,e⟩:=h.trk (a:=a) (by rw[e1];exact Bp _ hm)
        rw[hn2 a ha]at e;cases e
      . have:=x.c a o q hm
        rw[hn2 a ha]at this;cases this
 . rw[e1]
   intro hm;rcases AS.mp hm with hm|hm
   . exact n hm
   . rw[hn a hm]at e;cases e
theorem SC.sql(h:SC K ρ H a xs):L2.SqL K H a xs:=by
 rcases h with⟨_,h⟩|h
 . exact .inl h
 . exact .inr h
theorem KT.sqt(h:KT K a xs):L2.SqT K H a xs:=.inr h
structure Mv(ρ:Own)(H:L2.Hp)(ρ':Own)(H':L2.Hp):Prop where
 b:∀(a:Addr) (o:L2.HO),H a=some o->ρ.no a->H' a=some o/\ρ'.no a
 c:∀(i:Nat) (a:Addr),ρ.o[i]?=some a->ρ'.o[i]?=some a
 d:∀a∈ρ.o,hk (H' a)=hk (H a)
theorem Ext.mv(x:Ext ρ H ρ' H'):Mv ρ H ρ' H':=⟨λa o e n=>⟨x.c a o e n.1,x.Sq e n⟩,λi a e=>x.get e,x.g⟩
theorem SC.mv(x:Mv ρ H ρ' H')(h:SC K ρ H a xs):SC K ρ' H' a xs:=by
 rcases h with⟨n,h|⟨o,h⟩⟩|h
 . exact .inl ⟨(x.b _ _ h n).2,.inl (x.b _ _ h n).1⟩
 . exact .inl ⟨(x.b _ _ h n).2,.inr ⟨o,(x.b _ _ h n).1⟩⟩
 . exact .inr h
end
mutual
theorem RD.mv{K:KF}{mg:Str->Option Value}{ρ ρ':Own}{H H':L2.Hp}(x:Mv ρ H ρ' H'){v:Val}{u:L2.V}(q:RD K mg ρ H v u):RD K mg ρ' H' v u:=by
 cases q with
 |s=>exact .s
 |j b=>exact .j b
 |l i=>exact .l i
 |D t=>exact .D t
 |m n e r=>exact .m (x.b _ _ e n).2 (x.b _ _ e n).1 (RDs.mv x r)
 |E n e r=>exact .E (x.b _ _ e n).2 (x.b _ _ e n).1 (RDs.mv x r)
 |B n e=>exact .B (x.b _ _ e n).2 (x.b _ _ e n).1
 |p h=>exact .p h
 |F h=>exact .F (h.mv x)
 |C e k=>exact .C (x.c _ _ e) ((x.d _ (AE e)).trans k)
 |A e k=>exact .A (x.c _ _ e) (by rw[x.d _ (AE e)];exact k)
 |G e=>exact .G e
 |I n=>exact .I n
theorem RDs.mv{K:KF}{mg:Str->Option Value}{ρ ρ':Own}{H H':L2.Hp}(x:Mv ρ H ρ' H'){vs:List Val}{us:List L2.V}(q:RDs K mg ρ H vs us):RDs K mg ρ' H' vs us:=by
 cases q with
 |d=>exact .d
 |a r rs=>exact .a (RD.mv x r) (RDs.mv x rs)
end
theorem CR.mv(x:Mv ρ H ρ' H')(e:H' a=H a)(h:CR K mg ρ H a c):CR K mg ρ' H' a c:=by
 cases c with
 |c vs=>obtain⟨xs,e1,r⟩:=h;exact⟨xs,e.trans e1,RDs.mv x r⟩
 |e kvs=>obtain⟨xs,e1,k,r⟩:=h;exact⟨xs,e.trans e1,k,RDs.mv x r⟩
 |f kvs=>obtain⟨xs,e1,k,r⟩:=h;exact⟨xs,e.trans e1,k,RDs.mv x r⟩
 |d y=>
  obtain⟨ps,e1,k,r,g⟩:=h;refine⟨ps,e.trans e1,k,λpos cv hc=>?_,g⟩;obtain⟨c,o,vs,t,q1,q2,q3,q4⟩:=r pos cv hc;exact⟨c,o,vs,t,q1,(x.b _ _ q3 q2).2,(x.b _ _ q3 q2).1,q4⟩
theorem RD.mono(r:RD K mg ρ H v u)(x:Ext ρ H ρ' H'):RD K mg ρ' H' v u:=RD.mv x.mv r
theorem RDs.mono(r:RDs K mg ρ H v u)(x:Ext ρ H ρ' H'):RDs K mg ρ' H' v u:=RDs.mv x.mv r
end M
end
section
namespace M
open PySem
section
variable {K:KF}{mg:Str->Option Value}{ρ ρ' ρ'':Own}{H H' H'':L2.Hp}{s s':Sto}
theorem RDs.length(q:RDs K mg ρ H vs xs):vs.length=xs.length:=by
 cases q with
 |d=>rfl
 |a _ r=>rw[AF,AF,r.length]
theorem RDs.get{i:Nat}(q:RDs K mg ρ H vs xs)(e:vs[i]?=some v):∃x,xs[i]?=some x/\RD K mg ρ H v x:=by
 cases q with
 |d=>cases e
 |a r rs=>
  cases i with
  |zero=>cases e;exact⟨_,rfl,r⟩
  |succ i=>exact RDs.get (i:=i) rs e
theorem RDs.T7{i:Nat}(q:RDs K mg ρ H vs xs)(e:xs[i]?=some x):∃v,vs[i]?=some v/\RD K mg ρ H v x:=by
 cases q with
 |d=>cases e
 |a r rs=>
  cases i with
  |zero=>cases e;exact⟨_,rfl,r⟩
  |succ i=>exact RDs.T7 (i:=i) rs e
theorem RDs.append(p:RDs K mg ρ H vs xs)(q:RDs K mg ρ H ws ys):RDs K mg ρ H (vs++ws) (xs++ys):=by
 cases p with
 |d=>exact q
 |a r rs=>exact .a r (rs.append q)
theorem RDs.take n(q:RDs K mg ρ H vs xs):RDs K mg ρ H (vs.take n) (xs.take n):=by
 cases n with
 |zero=>exact .d
 |succ n=>cases q with
  |d=>exact .d
  |a r rs=>exact .a r (rs.take n)
theorem RDs.drop n(q:RDs K mg ρ H vs xs):RDs K mg ρ H (vs.drop n) (xs.drop n):=by
 cases n with
 |zero=>exact q
 |succ n=>cases q with
  |d=>exact .d
  |a _ rs=>exact rs.drop n
theorem RDs.set(r:RD K mg ρ H v x)i(q:RDs K mg ρ H vs xs):RDs K mg ρ H (vs.set i v) (xs.set i x):=by
 cases q with
 |d=>exact .d
 |a q t=>cases i with
  |zero=>exact .a r t
  |succ i=>exact .a q (RDs.set r i t)
theorem RDs.rep(r:RDs K mg ρ H vs xs):∀k:Nat,RDs K mg ρ H (Ak k vs).flatten (Ak k xs).flatten
 |0=>.d
 |k+1=>by rw[Bv,Bv,Cc,Cc];exact r.append (RDs.rep r k)
theorem RDs.pick(r:RDs K mg ρ H vs xs):∀(is:List Nat),RDs K mg ρ H (is.filterMap λi=>vs[i]?) (is.filterMap λi=>xs[i]?)
 |[]=>.d
 |i::is=>by
  rw[A0,A0];cases hx:vs[i]? with
  |none=>
   have:xs[i]?=none:=by have h2:vs.length<=i:=CB.mp hx;exact CB.mpr (by rw[<-r.length];exact h2)
   rw[this];exact RDs.pick r is
  |some v=>
   obtain⟨u,hu,ru⟩:=r.get hx;rw[hu];exact .a ru (RDs.pick r is)
theorem RDs.z6(r:RDs K mg ρ H vs xs)lo st n:RDs K mg ρ H (L2.z6 vs lo st n) (L2.z6 xs lo st n):=by have h:=r.pick ((Ao n).map λ(k:Nat)=>(lo+(k:Int)*st).toNat);rw[B4,B4]at h;exact h
theorem RDs.ints:∀(ns:List Int),RDs K mg ρ H (ns.map .c) (ns.map .d)
 |[]=>.d
 |n::ns=>.a (.l n) (RDs.ints ns)
theorem RDs.cut(r:RDs K mg ρ H vs xs)lo hi:RDs K mg ρ H (d8 vs lo hi) (L2.pJ xs lo hi):=by unfold d8 L2.pJ;rw[r.length];exact(r.drop _).take _
theorem b8{α:Type}:∀{l:List α} {i j:Nat} {x},l.Nodup->l[i]?=some x->l[j]?=some x->i=j
 |[],_,_,_,_,e,_=>by simp at e
 |a::l,0,0,_,_,_,_=>rfl
 |a::l,0,j+1,x,nd,e1,e2=>by
  simp at e1 e2;subst e1;exact absurd (AE e2) (BX.mp nd).1
 |a::l,i+1,0,x,nd,e1,e2=>by
  simp at e1 e2;subst e2;exact absurd (AE e1) (BX.mp nd).1
 |a::l,i+1,j+1,x,nd,e1,e2=>by simp at e1 e2;rw[b8 (BX.mp nd).2 e1 e2]
theorem Ext.new(h:HR K mg ρ s H)(hp:H p=none)o:Ext ρ H ρ (L2.upd H p o):=
 ⟨⟨[],by simp,λa ha=>by cases ha⟩,rfl,λa u e _=>by rw[L2.zJ (L2.zT e hp)];exact e,λa ha=>by rw[L2.zJ λz=>(h.new hp).1 (by rw[<-z];exact ha)]⟩
theorem HR.more(h:HR K mg ρ s H)(hp:H p=none)o:HR K mg ρ s (L2.upd H p o):=by
 refine⟨h.f,h.v,λi c e=>?_,λa ha=>?_⟩
 . obtain⟨a,e1,r⟩:=h.m i c e
   obtain⟨u,e2⟩:=r.there;exact⟨a,e1,r.mv (Ext.new h hp o).mv (L2.zJ (L2.zT e2 hp))⟩
 . obtain⟨⟨xs,e⟩,n⟩:=h.d a ha
   exact⟨⟨xs,by rw[L2.zJ (L2.zT e hp)];exact e⟩,n⟩
noncomputable def Own.more(ρ:Own)(p:Addr):Own:=⟨ρ.o++[p],ρ.h⟩
theorem Ext.own(h:HR K mg ρ s H)(hp:H p=none)o:Ext ρ H (ρ.more p) (L2.upd H p o):=
 ⟨⟨[p],rfl,λa ha=>by rw[Av.mp ha];exact hp⟩,rfl,λa u e _=>by rw[L2.zJ (L2.zT e hp)];exact e,λa ha=>by rw[L2.zJ λz=>(h.new hp).1 (by rw[<-z];exact ha)]⟩
theorem rd(h:HR K mg ρ s H)p:(ρ.more p).o[s.length]?=some p:=by show (ρ.o++[p])[s.length]?=some p;rw[<-h.f,A7 (Ac _)];simp
theorem HR.vF(h:HR K mg ρ s H)(hp:H p=none)(r:CR K mg (ρ.more p) (L2.upd H p o) p c):HR K mg (ρ.more p) (s++[c]) (L2.upd H p o):=by
 have X:=Ext.own h hp o;refine⟨by show (ρ.o++[p]).length=_;rw[Al,Al,h.f];rfl,?_,λi ws q=>?_,λa ha=>?_⟩
 . show (ρ.o++[p]).Nodup
   rw[FH];exact⟨h.v,by simp,λa ha b hb=>by rw[Av.mp hb];intro z;subst z;exact(h.new hp).1 ha⟩
 . by_cases hi:i<s.length
   . rw[AU hi]at q
     obtain⟨a,e1,t⟩:=h.m i ws q;obtain⟨u,e2⟩:=t.there;exact⟨a,X.get e1,t.mv X.mv (L2.zJ (L2.zT e2 hp))⟩
   . have hi':i=s.length:=by have:=(Am.mp q).1;rw[Al]at this;simp at this;omega
     subst hi';rw[A7 (Ac _)]at q;simp at q;subst q;exact⟨p,rd h p,r⟩
 . obtain⟨⟨ys,q⟩,n⟩:=h.d a ha
   refine⟨⟨ys,by rw[L2.zJ (L2.zT q hp)];exact q⟩,λhm=>?_⟩
   rcases AS.mp hm with hm|hm
   . exact n hm
   . rw[Av.mp hm,hp]at q;cases q
theorem HR.own(h:HR K mg ρ s H)(hp:H p=none)(r:RDs K mg ρ H vs xs):HR K mg (ρ.more p) (s++[.c vs]) (L2.upd H p (.b xs)):=h.vF hp ⟨xs,L2.zP,r.mono (Ext.own h hp _)⟩
theorem Ext.rF(h:HR K mg ρ s H){i:Nat}(e:ρ.o[i]?=some a)(k:hk (some o)=hk (H a)):Ext ρ H ρ (L2.upd H a o):=
 ⟨⟨[],by simp,λa ha=>by cases ha⟩,rfl,λb u q n=>by rw[L2.zJ (λz=>n (by rw[z];exact AE e))];exact q,λb hb=>by
   by_cases z:b=a
   . subst z;rw[L2.zP];exact k
   . rw[L2.zJ z]⟩
theorem Ext.write(h:HR K mg ρ s H){i:Nat}(e:ρ.o[i]?=some a)(k:H a=some (.b ys))xs:Ext ρ H ρ (L2.upd H a (.b xs)):=Ext.rF h e (by rw[k];rfl)
theorem HR.rF(h:HR K mg ρ s H)(e:ρ.o[i]?=some a)(k:hk (some o)=hk (H a))(r:CR K mg ρ (L2.upd H a o) a c):HR K mg ρ (s.set i c) (L2.upd H a o):=by
 have X:=Ext.rF h e k;refine⟨by rw[B9];exact h.f,h.v,λj ws q=>?_,λb hb=>?_⟩
 . skip
   by_cases hij:i=j
   . subst hij
     have hi:i<s.length:=by rw[<-h.f];exact(Am.mp e).1
     rw[AM hi]at q;cases q;exact⟨a,e,r⟩
   . rw[BF hij]at q
     obtain⟨b,e1,t⟩:=h.m j ws q;refine⟨b,e1,t.mv X.mv ?_⟩;have hb:b≠a:=by intro z;subst z;exact hij (b8 h.v e e1)
     rw[L2.zJ hb]
 . obtain⟨⟨ys,q⟩,n⟩:=h.d b hb
   exact⟨⟨ys,by rw[L2.zJ (λz=>n (by rw[z];exact AE e))];exact q⟩,n⟩
theorem HR.write(h:HR K mg ρ s H)(e:ρ.o[i]?=some a)(k:H a=some (.b ys))(r:RDs K mg ρ H vs xs):HR K mg ρ (upd s i vs) (L2.upd H a (.b xs)):=
 h.rF e (by rw[k];rfl) ⟨xs,L2.zP,r.mono (Ext.write h e k xs)⟩
theorem ER.mono(x:Ext ρ H ρ' H')(h:ER K mg ρ H env σ):ER K mg ρ' H' env σ:=⟨h.b,λi v e=>by obtain⟨u,h1,h2⟩:=h.a i v e;exact⟨u,h1,h2.mono x⟩⟩
theorem ER.set(h:ER K mg ρ H env σ)i(r:RD K mg ρ H v x):ER K mg ρ H (env.set i (some v)) (σ.set i (some x)):=by
 refine⟨by rw[B9,B9,h.b],λj w e=>?_⟩
 by_cases hij:i=j
 . subst hij
   by_cases hi:i<env.length
   . rw[AM hi]at e
     cases e;exact⟨x,by rw[AM (by rw[<-h.b];exact hi)],r⟩
   . rw[List.getElem?_eq_none (by rw[B9];omega)]at e
     cases e
 . rw[BF hij]at e
   rw[BF hij];exact h.a j w e
end
section
variable (K:KF)(mg:Str->Option Value)
def yt{α β:Type}(R:Own->L2.Hp->α->β->Prop)(ρ:Own)(H:L2.Hp)(o:Out α)(Q:β->L2.Hp->Prop):Prop:=
 match o with
 |.e v s'=>∀ρ' x H',Ext ρ H ρ' H'->HR K mg ρ' s' H'->R ρ' H' v x->Q x H'
 |_=>False
def tV(env:Env)(s:Sto)(o:Out Val):L2.TE:=λσ H Q=>∃ρ,HR K mg ρ s H/\ER K mg ρ H env σ/\yt K mg (RD K mg) ρ H o Q
def tVs(env:Env)(s:Sto)(o:Out (List Val)):L2.TA:=λσ H Q=>∃ρ,HR K mg ρ s H/\ER K mg ρ H env σ/\yt K mg (RDs K mg) ρ H o Q
def tT(env:Env)(s:Sto)(o:Out Bool):L2.TT:=λσ H Q=>∃ρ,HR K mg ρ s H/\ER K mg ρ H env σ/\yt K mg (λ_ _ a b=>a=b) ρ H o Q
def tO(env:Env)(s:Sto)(o:Out (Option Int)):L2.TO:=λσ H Q=>∃ρ,HR K mg ρ s H/\ER K mg ρ H env σ/\yt K mg (λ_ _ a b=>a=b) ρ H o Q
end
section
variable {X:L2.Cx}{e:Expr}
theorem za(h:L2.PE X e t)(i:∀σ H Q,t' σ H Q->t σ H Q):L2.PE X e t':=λpins s σ H Q I q=>h pins s σ H Q I (i σ H Q q)
theorem sy(h:L2.PT X e t)(i:∀σ H Q,t' σ H Q->t σ H Q):L2.PT X e t':=λpins s σ H Q I q=>h pins s σ H Q I (i σ H Q q)
theorem aR{t t':L2.TA}(h:L2.PA X es t)(i:∀σ H Q,t' σ H Q->t σ H Q):L2.PA X es t':=λpos pins s σ H Q I q=>h pos pins s σ H Q I (i σ H Q q)
theorem ya{t t':L2.TS}(h:L2.PS X st t)(i:∀D σ H,t' D σ H->t D σ H):L2.PS X st t':=λpins s σ H D I q=>h pins s σ H D I (i D σ H q)
theorem sC{t t':L2.TS}(h:L2.PSs X st t)(i:∀D σ H,t' D σ H->t D σ H):L2.PSs X st t':=λpins s σ H D I q=>h pins s σ H D I (i D σ H q)
theorem yY(h:∀σ H Q,¬t σ H Q):L2.PE X e t:=λpins s σ H Q I q=>(h σ H Q q).elim
theorem gE(h:∀σ H Q,¬t σ H Q):L2.PT X e t:=λpins s σ H Q I q=>(h σ H Q q).elim
theorem RZ(h:∀σ H Q,¬t σ H Q):L2.PW X e t:=λwh pins s σ H Q I q=>(h σ H Q q).elim
theorem RK{t:L2.TA}(h:∀σ H Q,¬t σ H Q):L2.PA X es t:=λpos pins s σ H Q I q=>(h σ H Q q).elim
end
section
variable {K:KF}{mg:Str->Option Value}{env:Env}{s:Sto}
theorem QD(h:∀v s',o≠.e v s'):¬tV K mg env s o σ H Q:=by
 rintro ⟨ρ,_,_,w⟩;cases o with
 |e v s'=>exact h v s' rfl
 |_=>exact w
theorem U6(h:∀v s',o≠.e v s'):¬tVs K mg env s o σ H Q:=by
 rintro ⟨ρ,_,_,w⟩;cases o with
 |e v s'=>exact h v s' rfl
 |_=>exact w
theorem Wj(h:∀v s',o≠.e v s'):¬tT K mg env s o σ H Q:=by
 rintro ⟨ρ,_,_,w⟩;cases o with
 |e v s'=>exact h v s' rfl
 |_=>exact w
end
end M
end
section
namespace M
open PySem
theorem yp:zO=As:=by rw[AV];rfl
section
variable {K:KF}{mg:Str->Option Value}{ρ ρ':Own}{H H':L2.Hp}{s s':Sto}
theorem vE(hr:HR K mg ρ s H)(r:RD K mg ρ H v x)(e:yX s v=some vs):∃a xs,x=.c a/\H a=some (.b xs)/\RDs K mg ρ H vs xs:=by
 cases r with
 |E n h q=>cases e;exact⟨_,_,rfl,h,q⟩
 |@C a i h _=>
  simp only[yX]at e;split at e
  . rename_i ws hw
    cases e;obtain⟨b,xs,e1,e2,q⟩:=hr.obj i _ hw;rw[h]at e1;cases e1;exact⟨_,_,rfl,e2,q⟩
  . cases e
 |_=>cases e
theorem mI(hr:HR K mg ρ s H)(r:RD K mg ρ H v x)(e:wG s v=some vs):∃a xs,x=.c a/\(L2.SqL K H a xs\/L2.SqT K H a xs)/\RDs K mg ρ H vs xs:=by
 cases r with
 |E n h q=>cases e;exact⟨_,_,rfl,.inl (.of h),q⟩
 |m n h q=>cases e;exact⟨_,_,rfl,.inr (.of h),q⟩
 |p h=>cases e;exact⟨_,_,rfl,.inr h.sqt,RDs.ints _⟩
 |F h=>cases e;exact⟨_,_,rfl,.inl h.sql,RDs.ints _⟩
 |@C a i h _=>
  simp only[wG]at e;split at e
  . rename_i ws hw
    cases e;obtain⟨b,xs,e1,e2,q⟩:=hr.obj i _ hw;rw[h]at e1;cases e1;exact⟨_,_,rfl,.inl (.of e2),q⟩
  . cases e
 |_=>cases e
mutual
theorem RD.reads{P:Program}{w:World}{h:Heap}(ok:L2.HOk P w H h){v:Val}{x:L2.V}{u:Value}(q:RD K mg ρ H v x)(hv:v.isR=true)(r:L2.RelV x u):∃as,Reads h u v.d as/\(L2.xZ v.d=false->B6 ∉ as):=by
 cases q with
 |s=>cases (show u=Ci from r);exact⟨[],.none,λ_=>by simp⟩
 |j b=>cases (show u=CZ b from r);exact⟨[],.bool b,λ_=>by simp⟩
 |l i=>obtain⟨t,q⟩:=(show ∃t,u=F7 i t from r);cases q;exact⟨[],.int i t,λ_=>by simp⟩
 |D x=>obtain⟨t,q⟩:=(show ∃t,u=F8 x t from r);cases q;exact⟨[],.str x t,λ_=>by simp⟩
 |@E a vs xs n ha rs=>
  cases (show u=A2 a from r);obtain⟨z,its,n,rv,e⟩:=(show L2.yL P w H h a (.b xs) from ok a _ ha);obtain⟨as,q,_⟩:=RDs.reads ok rs (by simpa only[Val.isR] using hv) rv
  exact⟨a::as,.list e rfl rfl (by simpa using q),λz=>by simp[Val.d,L2.xZ]at z⟩
 |@m a vs xs n ha rs=>
  cases (show u=A2 a from r);obtain⟨z,its,rv,o,e,c,n,dd⟩:=(show L2.yL P w H h a (.c xs) from ok a _ ha);obtain⟨as,q,q2⟩:=RDs.reads ok rs (by simpa only[Val.isR] using hv) rv
  exact⟨as,.tuple e c dd.1 (by simpa using q),λz=>q2 (by simpa [Val.d,L2.xZ] using z)⟩
 |@B a n ha=>
  cases (show u=A2 a from r);obtain⟨z,y,vs,rv,o,es,ep,e,c,dd,k⟩:=(show L2.yL P w H h a (.i []) from ok a _ ha);cases rv;have hes:es=#[]:=by
   have h2:=k.2.1;cases hl:es.toList with
   |nil=>simpa using hl
   |cons a r=>rw[hl]at h2;cases h2
  subst hes;refine⟨[a]++[],Reads.dict (as:=[]) (bs:=[]) e c.1 dd .nil .nil,λ_=>?_⟩;have:a≠B6:=by simpa using y
  simpa using Bt this
 |p _=>cases hv
 |F _=>cases hv
 |C _ _=>cases hv
 |A _ _=>cases hv
 |G _=>cases hv
 |I _=>cases hv
theorem RDs.reads{P:Program}{w:World}{h:Heap}(ok:L2.HOk P w H h){vs:List Val}{xs:List L2.V}{us:List Value}(p:RDs K mg ρ H vs xs)(hv:rS vs=true)(q:L2.Vals xs us):∃as,ReadsAll h us (ds vs) as/\(L2.xp (ds vs)=false->B6 ∉ as):=by
 cases p with
 |d=>cases q;exact⟨[],.nil,λ_=>by simp⟩
 |a r rs=>
  cases q with
  |cons q1 q2=>
   rw[rS,cf]at hv;obtain⟨as,h1,h2⟩:=RD.reads ok r hv.1 q1;obtain⟨bs,h3,h4⟩:=RDs.reads ok rs hv.2 q2;refine⟨as++bs,.cons h1 h3,λz=>?_⟩;rw[ds,L2.xp,Dp]at z;intro hm;rcases AS.mp hm with hm|hm
   . exact h2 z.1 hm
   . exact h4 z.2 hm
end
theorem tW(ok:L2.HOk P w H h)(hr:HR K mg ρ s H)(hv:(yg s v).isR=true)(r:RD K mg ρ H v x)(ru:L2.RelV x u) :
 ∃as,Reads h u (yg s v).d as/\(L2.xZ (yg s v).d=false->B6 ∉ as):=by
 cases v with
 |k i=>
  cases r with
  |@C a _ e0=>
  simp only[yg]at hv ⊢;split at hv
  . rename_i ws hw
    obtain⟨b,xs,e1,e2,q⟩:=hr.obj i _ hw;rw[e0]at e1;cases e1;cases (show u=A2 a from ru);obtain⟨z,its,n,rv,e⟩:=(show L2.yL P w H h a (.b xs) from ok a _ e2);obtain⟨as,q,_⟩:=RDs.reads ok q (by simpa only[Val.isR] using hv) rv
    exact⟨a::as,.list e rfl rfl (by simpa using q),λz=>by simp[Val.d,L2.xZ]at z⟩
  . cases hv
 |_=>exact RD.reads ok r hv ru
theorem RDs.av(ok:L2.HOk P w H h)(hr:HR K mg ρ s H):∀{vs} {xs} {us},RDs K mg ρ H vs xs->rS (vs.map (yg s))=true->L2.Vals xs us->∃as,ReadsAll h us (ds (vs.map (yg s))) as/\(L2.xp (ds (vs.map (yg s)))=false->B6 ∉ as)
 |_,_,_,.d,_,r=>by cases r;exact⟨[],.nil,λ_=>by simp⟩
 |_,_,_,.a r rs,hv,q=>by
  cases q with
  |cons q1 q2=>
   rw[AN,rS,cf]at hv;obtain⟨as,h1,h2⟩:=tW ok hr hv.1 r q1;obtain⟨bs,h3,h4⟩:=RDs.av ok hr rs hv.2 q2;rw[AN];refine⟨as++bs,.cons h1 h3,λz=>?_⟩;rw[ds,L2.xp,Dp]at z;intro hm;rcases AS.mp hm with hm|hm
   . exact h2 z.1 hm
   . exact h4 z.2 hm
theorem cB{v:Val}(h:∀vs,v≠.f vs):zu s v=yg s v:=by
 cases v<;>first|rfl|exact absurd rfl (h _)
theorem xP(ok:L2.HOk P w H h)(hr:HR K mg ρ s H)(hv:(zu s v).isR=true)(r:RD K mg ρ H v x)(ru:L2.RelV x u) :
 ∃as,Reads h u (zu s v).d as/\(L2.xZ (zu s v).d=false->B6 ∉ as):=by
 cases v with
 |f vs=>
  cases r with
  |@m a _ xs n ha rs=>
   cases (show u=A2 a from ru);obtain⟨z,its,rv,o,e,c,n,dd⟩:=(show L2.yL P w H h a (.c xs) from ok a _ ha);obtain⟨as,q,q2⟩:=RDs.av ok hr rs (by simpa only[zu,Val.isR] using hv) rv
   exact⟨as,.tuple e c dd.1 (by simpa using q),λz=>q2 (by simpa [zu,Val.d,L2.xZ] using z)⟩
 |_=>exact(show _ from by rw[cB (λ_ h=>by cases h)]at hv ⊢;exact tW ok hr hv r ru)
mutual
theorem yi:∀{v:Val},v.isD=true->v.isR=true
 |.g,_=>rfl
 |.e _,_=>rfl
 |.c _,_=>rfl
 |.h _,_=>rfl
 |.f vs,h=>by rw[Val.isR];exact vd (by simpa only[Val.isD] using h)
 |.j vs,h=>by rw[Val.isR];exact vd (by simpa only[Val.isD] using h)
 |.m,h=>by cases h
 |.l _,h=>by cases h
 |.p _,h=>by cases h
 |.k _,h=>by cases h
 |.q _,h=>by cases h
 |.r _,h=>by cases h
theorem vd:∀{vs:List Val},uF vs=true->rS vs=true
 |[],_=>rfl
 |v::vs,h=>by rw[uF,cf]at h;rw[rS,yi h.1,vd h.2];rfl
end
mutual
theorem zw:∀{v:Val},v.isD=true->v.d.canLay0=true
 |.g,_=>rfl
 |.e _,_=>rfl
 |.c _,_=>rfl
 |.h _,h=>by simpa only[Val.isD,Val.d,Gq] using h
 |.f vs,h=>by rw[Val.d,Gq];exact wJ (by simpa only[Val.isD] using h)
 |.j vs,h=>by rw[Val.d,Gq];exact wJ (by simpa only[Val.isD] using h)
 |.m,h=>by cases h
 |.l _,h=>by cases h
 |.p _,h=>by cases h
 |.k _,h=>by cases h
 |.q _,h=>by cases h
 |.r _,h=>by cases h
theorem wJ:∀{vs:List Val},uF vs=true->PyData.canLayAll0 (ds vs)=true
 |[],_=>rfl
 |v::vs,h=>by rw[uF,cf]at h;rw[ds,PyData.canLayAll0,zw h.1,wJ h.2];rfl
end
theorem uc(hr:HR K mg ρ s H)(r:RDs K mg ρ H vs xs)(w:yt K mg (RD K mg) ρ H (newList m vs s) Q):∀p,H p=none->Q (.c p) (L2.upd H p (.b xs)):=λp hp=>by
 cases m with
 |true=>exact w _ _ _ (Ext.own hr hp _) (hr.own hp r) (.C (rd hr p) (by rw[L2.zP];rfl))
 |false=>exact w _ _ _ (Ext.new hr hp _) (hr.more hp _) (.E (hr.new hp) L2.zP (r.mono (Ext.new hr hp _)))
theorem nY(hr:HR K mg ρ s H)(r:RDs K mg ρ H vs xs)(w:yt K mg (RD K mg) ρ H (.e (.f vs) s) Q):∀p,H p=none->Q (.c p) (L2.upd H p (.c xs)):=λp hp=>
 w _ _ _ (Ext.new hr hp _) (hr.more hp _) (.m (hr.new hp) L2.zP (r.mono (Ext.new hr hp _)))
theorem Ext.same(hr:HR K mg ρ s H)(e:L2.wH H H'):Ext ρ H ρ H':=⟨⟨[],by simp,λa ha=>by cases ha⟩,rfl,λa o h _=>e a o h,λa ha=>by obtain⟨o,q⟩:=hr.trk ha;rw[q,e a o q]⟩
theorem HR.same(hr:HR K mg ρ s H)(e:L2.wH H H'):HR K mg ρ s H':=⟨hr.f,hr.v,λi c q=>by
 obtain⟨a,e1,r⟩:=hr.m i c q;obtain⟨o,e2⟩:=r.there;exact⟨a,e1,r.mv (Ext.same hr e).mv ((e a _ e2).trans e2.symm)⟩,λa ha=>by
 obtain⟨⟨ys,q⟩,n⟩:=hr.d a ha;exact⟨⟨ys,e a _ q⟩,n⟩⟩
theorem uD(hr:HR K mg ρ s H)(r:RDs K mg ρ H vs xs)(w:yt K mg (RD K mg) ρ H (.e (.f vs) s) Q):L2.rK H xs Q:=λp H' e h=>by
 have hr':=hr.same e;refine w _ _ _ (Ext.same hr e) hr' (.m ⟨λhm=>?_,λhm=>?_⟩ h (r.mono (Ext.same hr e)))
 . obtain⟨i,hi,q⟩:=BI hm
   have hs:i<s.length:=by rw[<-hr'.f];exact hi
   obtain⟨b,e1,e2⟩:=hr'.m i _ (Aa hs);rw[Aa hi,q]at e1;cases e1;have:=e2.hk;rw[h]at this;exact absurd this (Be 0)
 . obtain⟨⟨ys,q⟩,_⟩:=hr'.d _ hm
   rw[h]at q;cases q
end
section
variable (K:KF)(mg:Str->Option Value)
def rM2(g:Val->Val->Sto->Out Val):L2.R2:=λx y H Q=>∃ρ s v w,HR K mg ρ s H/\RD K mg ρ H v x/\RD K mg ρ H w y/\yt K mg (RD K mg) ρ H (g v w s) Q
def rMc(g:List Val->Sto->Out Val):List L2.V->L2.Hp->L2.VK->Prop:=λxs H Q=>∃ρ s vs,HR K mg ρ s H/\RDs K mg ρ H vs xs/\yt K mg (RD K mg) ρ H (g vs s) Q
end
section
variable {X:L2.Cx}{k:Nat}
theorem zL(hr:HR K mg ρ s H)(r:RD K mg ρ H v x)(w:yt K mg (RD K mg) ρ H (.e v s) Q):Q x H:=w _ _ _ Ext.refl hr r
theorem jH m:L2.OpR X (Br .Add) (rM2 X.K X.d (binOp m .a)):=by
 intro pins s σ H x y v u Q I rx ry h;obtain⟨ρ,t,a,b,hr,ra,rb,w⟩:=h;simp only[binOp]at w;split at w
 . cases ra;cases rb
   exact L2.V9 pins s σ H _ _ v u Q I rx ry ⟨_,_,rfl,rfl,zL hr (.l _) w⟩
 . split at w
   . rename_i hz
     cases ra;cases rb;exact L2.qj pins s σ H _ _ v u Q I rx ry ⟨_,_,rfl,rfl,by rw[<-yp];exact hz,zL hr (.D _) w⟩
   . exact w.elim
 . split at w
   . rename_i hz
     cases ra with
     |m n1 h1 q1=>
      cases rb with
      |m n2 h2 q2=>
       refine L2.aG pins s σ H _ _ v u Q I rx ry ⟨_,_,_,_,rfl,rfl,h1,h2,?_,uD hr (q1.append q2) w⟩;rw[<-q1.length,<-q2.length,<-yp];exact hz
   . exact w.elim
 . split at w
   . rename_i ea eb
     split at w
     . rename_i hz
       obtain⟨p1,xs,rfl,h1,q1⟩:=vE hr ra ea;obtain⟨p2,ys,rfl,h2,q2⟩:=vE hr rb eb;refine L2.jP pins s σ H _ _ v u Q I rx ry ⟨_,_,_,_,rfl,rfl,h1,h2,?_,uc hr (q1.append q2) w⟩;rw[<-q1.length,<-q2.length,<-yp];exact hz
     . exact w.elim
   . exact w.elim
theorem jN m:L2.OpR X (Br .Sub) (rM2 X.K X.d (binOp m .c)):=by
 intro pins s σ H x y v u Q I rx ry h;obtain⟨ρ,t,a,b,hr,ra,rb,w⟩:=h;simp only[binOp]at w;split at w
 . cases ra;cases rb
   exact L2.UG pins s σ H _ _ v u Q I rx ry ⟨_,_,rfl,rfl,zL hr (.l _) w⟩
 . exact w.elim
theorem jK m:L2.OpR X (Br .Mult) (rM2 X.K X.d (binOp m .b)):=by
 intro pins s σ H x y v u Q I rx ry h;obtain⟨ρ,t,a,b,hr,ra,rb,w⟩:=h;simp only[binOp]at w;split at w
 . split at w
   . rename_i hz
     cases ra;cases rb;exact L2.UC pins s σ H _ _ v u Q I rx ry ⟨_,_,rfl,rfl,hz,zL hr (.l _) w⟩
   . exact w.elim
 . split at w
   . rename_i hz
     obtain⟨z1,z2,z3,z4⟩:=hz;cases ra with
     |m n1 h1 q1=>
      cases rb;refine L2.XA pins s σ H _ _ v u Q I rx ry ⟨_,_,_,rfl,rfl,h1,z1,z2,?_,?_,uD hr (q1.rep _) w⟩
      . intro e;subst e;cases q1;exact z3 rfl
      . rw[<-q1.length];exact z4
   . exact w.elim
 . split at w
   . rename_i ea
     split at w
     . rename_i hz
       obtain⟨z1,z2,z3⟩:=hz;obtain⟨p1,xs,rfl,h1,q1⟩:=vE hr ra ea;cases rb;refine L2.UE pins s σ H _ _ v u Q I rx ry ⟨_,_,_,rfl,rfl,h1,by omega,by omega,?_,uc hr (q1.rep _) w⟩
       rw[<-q1.length,<-yp];exact z3
     . exact w.elim
   . exact w.elim
 . exact w.elim
theorem lP m:L2.OpR X (Br .FloorDiv) (rM2 X.K X.d (binOp m .d)):=by
 intro pins s σ H x y v u Q I rx ry h;obtain⟨ρ,t,a,b,hr,ra,rb,w⟩:=h;simp only[binOp]at w;split at w
 . split at w
   . rename_i hz
     cases ra;cases rb;exact L2.Y8 pins s σ H _ _ v u Q I rx ry ⟨_,_,rfl,rfl,hz,zL hr (.l _) w⟩
   . exact w.elim
 . exact w.elim
theorem jJ m:L2.OpR X (Br .Mod) (rM2 X.K X.d (binOp m .e)):=by
 intro pins s σ H x y v u Q I rx ry h;obtain⟨ρ,t,a,b,hr,ra,rb,w⟩:=h;simp only[binOp]at w;split at w
 . split at w
   . rename_i hz
     cases ra;cases rb;exact L2.UB pins s σ H _ _ v u Q I rx ry ⟨_,_,rfl,rfl,hz,zL hr (.l _) w⟩
   . exact w.elim
 . exact w.elim
theorem jM m:L2.OpR X (Br .Pow) (rM2 X.K X.d (binOp m .g)):=by
 intro pins s σ H x y v u Q I rx ry h;obtain⟨ρ,t,a,b,hr,ra,rb,w⟩:=h;simp only[binOp]at w;split at w
 . split at w
   . rename_i hz
     cases ra;cases rb;exact L2.UD pins s σ H _ _ v u Q I rx ry ⟨_,_,rfl,rfl,hz,zL hr (.l _) w⟩
   . exact w.elim
 . exact w.elim
end
end M
end
section
namespace L2
open PySem PyProof PyProof.Rows
section
variable {κ:Type} [DecidableEq κ]
theorem KV.length{kvs:List (κ × V)}{vs:List (κ × Value)}(r:KV kvs vs):kvs.length=vs.length:=Gx r
end
section
variable {X:Cx}{pins:List (Addr × Obj)}{σ:St}{H:Hp}{s:Shared}{a:Addr}{y v:V}{u r:Value}{o:Option V}{A:Around}{E:Value->Shared->Prop}
theorem Inv.big(I:Inv X pins σ H s):B6<s.heap.objs.size:=by have h:AK<s.heap.objs.size:=(I.mod.c.keeps I.bk).lt;exact Nat.lt_trans (by decide) h
end
theorem cG(h:Heap)(hb:B6<h.objs.size):yL P w H (h.push {cls:=.type "dict",data:=.dict #[]}) h.objs.size (.i []):=
 ⟨BC _,beq_eq_false_iff_ne.mpr (Bt (AI hb)),[],.nil,Heap.DictOf.new h⟩
theorem cH(h:Heap)(hb:B6<h.objs.size):yL P w H (h.push {cls:=.type "dict",data:=.dict #[]}) h.objs.size (.j []):=
 ⟨BC _,beq_eq_false_iff_ne.mpr (Bt (AI hb)),[],.nil,_,#[],0,Az _ rfl,⟨rfl,rfl,rfl⟩,rfl,rfl,List.nodup_nil⟩
def U2:TE:=λ_ H Q=>∀p,H p=none->Q (.c p) (upd H p (.i []))
def U3:TE:=λ_ H Q=>∀p,H p=none->Q (.c p) (upd H p (.j []))
section
variable {X:Cx}{pos:Pos}
theorem aW:PE X (.Dict [] [] pos) U2:=λpins s σ H Q I h=>
 wpAny_Dict_empty ⟨.c s.heap.objs.size,_,I.laid (a:=s.heap.objs.size) (o:=.i []) (t':=s.toks) (λ_ _ q=>nx _ q) (Ac _) (cG s.heap I.big),rfl,h _ (I.j.fresh (Ac _))⟩
theorem aX:PE X (.Dict [] [] pos) U3:=λpins s σ H Q I h=>
 wpAny_Dict_empty ⟨.c s.heap.objs.size,_,I.laid (a:=s.heap.objs.size) (o:=.j []) (t':=s.toks) (λ_ _ q=>nx _ q) (Ac _) (cH s.heap I.big),rfl,h _ (I.j.fresh (Ac _))⟩
end
end L2
end
section
namespace M
open PySem
section
variable {K:KF}{mg:Str->Option Value}{ρ:Own}{H:L2.Hp}{s:Sto}
def RO(K:KF)(mg:Str->Option Value)(ρ:Own)(H:L2.Hp):Option Val->Option L2.V->Prop
 |none,none=>True
 |some v,some x=>RD K mg ρ H v x
 |_,_=>False
theorem RO.isSome(h:RO K mg ρ H o o'):o'.isSome=o.isSome:=by
 cases o with
 |none=>cases o' with|none=>rfl|some _=>exact h.elim
 |some v=>cases o' with|none=>exact h.elim|some _=>rfl
end
end M
end
section
namespace M
open PySem
section
variable {K:KF}{mg:Str->Option Value}{ρ ρ':Own}{H H':L2.Hp}{s s':Sto}
theorem RD.flat{v:Val}{x:L2.V}(r:RD K mg ρ H v x)(h:flat v=true):L2.xh x=true:=by
 cases r<;>first|rfl|cases h
theorem RD.eqF(r:RD K mg ρ H v x)(q:RD K mg ρ H w y)(h:M.flat v=true)(h':M.flat w=true):L2.eqV x y=M.eqF v w:=by
 cases r<;>first|(cases h;done)|(cases q<;>first|rfl|(cases h';done))
theorem RDs.flat:∀{vs:List Val} {xs:List L2.V},RDs K mg ρ H vs xs->vs.all flat=true->xs.all L2.xh=true
 |_,_,.d,_=>rfl
 |_,_,.a r rs,h=>by rw[BR,cf]at h;rw[BR,r.flat h.1,rs.flat h.2];rfl
theorem RDs.any(q:RD K mg ρ H w y)(hw:M.flat w=true):∀{vs} {xs},RDs K mg ρ H vs xs->vs.all M.flat=true->(xs.any λz=>L2.eqV z y)=vs.any λz=>M.eqF z w
 |_,_,.d,_=>rfl
 |_,_,.a r rs,h=>by rw[BR,cf]at h;rw[CW,CW,r.eqF q h.1 hw,RDs.any q hw rs h.2]
theorem RDs.countP(q:RD K mg ρ H w y)(hw:M.flat w=true):∀{vs} {xs},RDs K mg ρ H vs xs->vs.all M.flat=true->(xs.countP λz=>L2.eqV z y)=vs.countP λz=>M.eqF z w
 |_,_,.d,_=>rfl
 |_,_,.a r rs,h=>by rw[BR,cf]at h;rw[CP,CP,r.eqF q h.1 hw,RDs.countP q hw rs h.2]
theorem RDs.bools:∀{vs} {xs} {bs},RDs K mg ρ H vs xs->boolsOf vs=some bs->xs=bs.map L2.V.f
 |_,_,_,.d,h=>by cases h;rfl
 |_,_,_,.a r rs,h=>by
  cases r with
  |j b=>
   simp only[boolsOf,A1]at h;obtain⟨bs',h1,h2⟩:=h;subst h2;rw[rs.bools h1];rfl
  |_=>cases h
theorem RDs.m7:∀{vs} {xs} {ns},RDs K mg ρ H vs xs->intsOf vs=some ns->xs=ns.map L2.V.d
 |_,_,_,.d,h=>by cases h;rfl
 |_,_,_,.a r rs,h=>by
  cases r with
  |l b=>
   simp only[intsOf,A1]at h;obtain⟨bs',h1,h2⟩:=h;subst h2;rw[rs.m7 h1];rfl
  |_=>cases h
theorem Zt(r:RDs K mg ρ H vs xs)(h:L2.atI vs i=some v):∃x,L2.atI xs i=some x/\RD K mg ρ H v x:=by unfold L2.atI at h ⊢;rw[<-r.length];obtain⟨j,h1,h2⟩:=D5.mp h;obtain⟨x,h3,h4⟩:=r.get h2;exact⟨x,by rw[h1];exact h3,h4⟩
theorem Zd(hr:HR K mg ρ s H)(r:RD K mg ρ H v x)(h:truth s v=some b):L2.Zs K x H b:=by
 have hz:∀{vs:List Val} {xs:List L2.V},RDs K mg ρ H vs xs->vs.isEmpty=xs.isEmpty:=λr=>by cases r<;>rfl
 cases r with
 |s=>cases h;rfl
 |j b=>cases h;rfl
 |l i=>cases h;rfl
 |D x=>
  simp only[truth]at h;split at h
  . cases h
    rename_i q;exact⟨by rw[<-yp];exact q,rfl⟩
  . cases h
 |m n e q=>cases h;exact .inr (.inl ⟨_,.of e,by rw[hz q]⟩)
 |E n e q=>cases h;exact .inl ⟨_,.of e,by rw[hz q]⟩
 |B n e=>cases h;exact .inr (.inr ⟨_,e,rfl⟩)
 |p _=>cases h
 |F _=>cases h
 |@C a i e _=>
  simp only[truth]at h;split at h
  . rename_i ws hw
    cases h;obtain⟨c,xs,e1,e2,q⟩:=hr.obj i _ hw;rw[e]at e1;cases e1;exact .inl ⟨_,.of e2,by rw[hz q]⟩
  . cases h
 |G _=>cases h
 |I _=>cases h
 |A _ _=>cases h
theorem QG(hr:HR K mg ρ s H)(r:RD K mg ρ H v x)(h:kindOf v=some a):(L2.tN K H x (.type a.nm)):=by
 cases r with
 |s=>cases h;exact .d
 |j b=>cases h;exact .bl b
 |l i=>cases h;exact .c i
 |D x=>cases h;exact .f x
 |m n e q=>cases h;exact .g e
 |E n e q=>cases h;exact .b e
 |B n e=>cases h;exact .dK e
 |C e k=>
  cases h;obtain⟨xs,q⟩:=ka k;exact .b q
 |_=>cases h
theorem Sf(h:uG n=some c):n=c.nm/\c≠.f:=by unfold uG at h;split at h<;>first|(cases h;exact⟨rfl,by decide⟩)|cases h
end
section
variable {X:L2.Cx}{k:Nat}
theorem Sk(h:qi d=true):L2.WB d:=by
 unfold qi at h;simp only[cf,decide_eq_true_eq,Ax,AG]at h;obtain⟨⟨⟨⟨h1,h2⟩,h3⟩,h4⟩,h5⟩:=h;have L:L2.oo d.depth d.weight d:=⟨h1,h2,Ac _,Ac _⟩;refine L.Ry h3 h4 λz=>?_;rcases h5 with h5|h5
 . rw[h5]at z;cases z
 . exact h5
theorem fW(hr0:L2.xW k X.A):L2.OpR X (A6 .Eq) (rM2 X.K X.d (zS .d)):=by
 intro pins s σ H x y v u Q I rx ry h;obtain⟨ρ,t,a,b,hr,ra,rb,w⟩:=h;simp only[zS,pK]at w;split at w
 . rename_i p q
   cases ra;cases rb;have e:decide (L2.V.e p=L2.V.e q)=decide (p=q):=by rw[BK];simp
   refine L2.WS pins s σ H _ _ v u Q I rx ry ⟨rfl,?_⟩;rw[e];exact zL hr (.j _) w
 . rename_i a ns
   cases rb with
   |p g=>
    by_cases hc:((zu t (.f a)).isD&&(Val.f (ns.map .c)).isD&&decide ((Val.f (ns.map .c)).d.depth<=60))=true
    . rw[if_pos hc]at w
      simp only[cf,decide_eq_true_eq]at hc;obtain⟨as,r1,_⟩:=xP I.j hr (yi hc.1.1) ra rx;obtain⟨its,rv,p1,_⟩:=I.tuple g.sqt;obtain⟨o,ho,hcl,n,hd⟩:=id p1;obtain⟨bs,q,_⟩:=RDs.reads I.j (RDs.ints (K:=X.K) (mg:=X.d) (ρ:=ρ) (H:=H) ns) (yi hc.1.2) rv;have r2:Reads s.heap u (Val.f (ns.map .c)).d bs:=by cases ry;exact .tuple ho hcl hd (by simpa using q)
      have hu:=hr0.a;have hm:=Dj (zu t (.f a)).d.depth (Val.f (ns.map .c)).d.depth;exact SeqAt.compareEq_reads r1 r2 (zw hc.1.1) (zw hc.1.2) (by omega) ⟨.f _,H,I,rfl,zL hr (.j _) w⟩
    . rw[if_neg hc]at w;exact w.elim
 . by_cases hc:((zu t a).isD&&(zu t b).isD&&decide ((zu t b).d.depth<=60))=true
   . rw[if_pos hc]at w
     simp only[cf,decide_eq_true_eq]at hc;obtain⟨as,r1,_⟩:=xP I.j hr (yi hc.1.1) ra rx;obtain⟨bs,r2,_⟩:=xP I.j hr (yi hc.1.2) rb ry;have hu:=hr0.a;have hm:=Dj (zu t a).d.depth (zu t b).d.depth;exact SeqAt.compareEq_reads r1 r2 (zw hc.1.1) (zw hc.1.2) (by omega) ⟨.f _,H,I,rfl,zL hr (.j _) w⟩
   . rw[if_neg hc]at w;exact w.elim
theorem fk(hr0:L2.xW k X.A):L2.OpR X (A6 .NotEq) (rM2 X.K X.d (zS .a)):=by
 intro pins s σ H x y v u Q I rx ry h;obtain⟨ρ,t,a,b,hr,ra,rb,w⟩:=h;simp only[zS,pK]at w;split at w
 . rename_i p q
   cases ra;cases rb;have e:decide (L2.V.e p=L2.V.e q)=decide (p=q):=by rw[BK];simp
   refine L2.WT pins s σ H _ _ v u Q I rx ry ⟨rfl,?_⟩;rw[e];exact zL hr (.j _) w
 . by_cases hc:((zu t a).isD&&(zu t b).isD&&decide ((zu t b).d.depth<=60))=true
   . rw[if_pos hc]at w
     simp only[cf,decide_eq_true_eq]at hc;obtain⟨as,r1,_⟩:=xP I.j hr (yi hc.1.1) ra rx;obtain⟨bs,r2,_⟩:=xP I.j hr (yi hc.1.2) rb ry;have hu:=hr0.a;have hm:=Dj (zu t a).d.depth (zu t b).d.depth;exact SeqAt.compareNe_reads r1 r2 (zw hc.1.1) (zw hc.1.2) (by omega) ⟨.f _,H,I,rfl,zL hr (.j _) w⟩
   . rw[if_neg hc]at w;exact w.elim
theorem RD.isNone(r:RD K mg ρ H v x):decide (x=.g)=v.isN:=by
 cases r<;>first|rfl|exact decide_eq_false (λz=>nomatch z)
theorem fg:L2.OpR X (A6 .Is) (rM2 X.K X.d (zS .i)):=by
 intro pins s σ H x y v u Q I rx ry h;obtain⟨ρ,t,a,b,hr,ra,rb,w⟩:=h;cases rb with
 |s=>
  refine L2.UA pins s σ H _ _ v u Q I rx ry ⟨rfl,?_⟩;rw[ra.isNone];exact zL hr (.j _) w
 |j c=>
  cases ra with
  |j d=>cases rx;cases ry;cases c<;>cases d<;>exact Ag ⟨.f _,H,I,rfl,zL hr (.j _) w⟩
  |_=>exact w.elim
 |_=>exact w.elim
theorem nu:L2.OpR X (A6 .IsNot) (rM2 X.K X.d (zS .b)):=by
 intro pins s σ H x y v u Q I rx ry h;obtain⟨ρ,t,a,b,hr,ra,rb,w⟩:=h;cases rb with
 |s=>
  refine L2.Y9 pins s σ H _ _ v u Q I rx ry ⟨rfl,?_⟩;rw[ra.isNone];exact zL hr (.j _) w
 |j c=>
  cases ra with
  |j d=>cases rx;cases ry;cases c<;>cases d<;>exact Ag ⟨.f _,H,I,rfl,zL hr (.j _) w⟩
  |_=>exact w.elim
 |_=>exact w.elim
theorem qP:∀{vs} {v},uF vs=true->v∈vs->v.isD=true
 |w::vs,v,h,m=>by
  rw[uF,cf]at h;rcases Aj.mp m with rfl|m
  . exact h.1
  . exact qP h.2 m
theorem cX{g:Val->Bool}(q:RDs K mg ρ H vs xs)(r:L2.Vals xs its)
 (hE:∀z x w,z∈vs->RD K mg ρ H z x->L2.RelV x w->A9 A s w u (g z)):∃f:Value->Bool,(∀w∈its.toArray,A9 A s w u (f w))/\its.toArray.any f=vs.any g:=by
 classical
 have at_:∀i w,its[i]?=some w->∃z x,vs[i]?=some z/\RD K mg ρ H z x/\L2.RelV x w:=λi w e=>by
  have hi:i<xs.length:=by rw[r.length];exact(Am.mp e).1
  have hx:xs[i]?=some xs[i]:=Aa hi;obtain⟨w',e',rw'⟩:=r.get hx;rw[e]at e';cases e';obtain⟨z,e1,rz⟩:=q.T7 hx;exact⟨z,_,e1,rz,rw'⟩
 refine⟨λw=>decide (∃(i:Nat) (z:Val),its[i]?=some w/\vs[i]?=some z/\g z=true),λw hw=>?_,?_⟩
 . obtain⟨i,hi⟩:=Dq (by simpa using hw:w∈its)
   by_cases hd:∃(i:Nat) (z:Val),its[i]?=some w/\vs[i]?=some z/\g z=true
   . dsimp only;rw[decide_eq_true hd]
     obtain⟨j,z,e1,e2,e3⟩:=hd;obtain⟨z',x,e4,rz,rw'⟩:=at_ j w e1;rw[e2]at e4;cases e4;rw[<-e3];exact hE z x w (AE e2) rz rw'
   . dsimp only;rw[decide_eq_false hd]
     obtain⟨z,x,e4,rz,rw'⟩:=at_ i w hi;have hg:g z=false:=by
      cases hg:g z with
      |false=>rfl
      |true=>exact(hd ⟨i,z,hi,e4,hg⟩).elim
     rw[<-hg];exact hE z x w (AE e4) rz rw'
 . rw[BK,Array.any_toList.symm,Bk,Bk]
   constructor
   . rintro ⟨w,_,h⟩
     obtain⟨i,z,_,e2,e3⟩:=of_decide_eq_true h;exact⟨z,AE e2,e3⟩
   . rintro ⟨z,hz,e3⟩
     obtain⟨i,hi⟩:=Dq hz;obtain⟨x,e1,_⟩:=q.get hi;obtain⟨w,e2,_⟩:=r.get e1;exact⟨w,AE e2,decide_eq_true ⟨i,z,e2,hi,e3⟩⟩
theorem eqD(hu:A.units+60<cLine)(ok:L2.HOk P w H s.heap)(ra:RD K mg ρ H a x)(rx:L2.RelV x v)(ha:a.isD=true)(hd:a.d.depth<=60)
 (rz:RD K mg ρ H z y) (ry:L2.RelV y u) (hz:z.isD=true):A9 A s u v (Ck z.d a.d):=by
 obtain⟨as,r1,_⟩:=RD.reads ok ra (yi ha) rx;obtain⟨bs,r2,_⟩:=RD.reads ok rz (yi hz) ry;have hm:=Dj z.d.depth a.d.depth;exact SeqAt.eqAt_reads _ _ _ _ _ _ _ _ r2 r1 (zw hz) (zw ha) (by omega)
theorem fZ(hr0:L2.xW k X.A):L2.OpR X (A6 .In) (rM2 X.K X.d (zS .k)):=by
 intro pins s σ H x y v u Q I rx ry h;obtain⟨ρ,t,a,b,hr,ra,rb,w⟩:=h;simp only[zS]at w;split at w
 . rename_i vs e
   obtain⟨p,xs,rfl,hq,q⟩:=mI hr rb e;split at w
   . rename_i hf
     rw[cf]at hf;refine L2.fm pins s σ H _ _ v u Q I rx ry ⟨p,xs,rfl,hq,ra.flat hf.1,q.flat hf.2,?_⟩;simp only[L2.inV,AO,if_false];rw[RDs.any ra hf.1 q hf.2];exact zL hr (.j _) w
   . split at w
     . rename_i hf
       simp only[inD,cf,decide_eq_true_eq]at hf;have hu:=hr0.a;cases ry;rcases hq with hq|hq
       . obtain⟨its,r,pl,hz⟩:=I.list hq
         obtain⟨f,f1,f2⟩:=cX (A:=X.A.in1) (s:=s) (u:=v) (g:=λz=>Ck z.d a.d) q r λz x' w' hz rz ry'=>eqD (show X.A.units+1+60<cLine by omega) I.j ra rx hf.1.1 hf.2 rz ry' (qP hf.1.2 hz)
         exact SeqAt.in_listAt f pl.isList f1 ⟨.f _,H,I,rfl,by rw[f2];exact zL hr (.j _) w⟩
       . obtain⟨its,r,pl,hz⟩:=I.tuple hq
         obtain⟨f,f1,f2⟩:=cX (A:=X.A.in1) (s:=s) (u:=v) (g:=λz=>Ck z.d a.d) q r λz x' w' hz rz ry'=>eqD (show X.A.units+1+60<cLine by omega) I.j ra rx hf.1.1 hf.2 rz ry' (qP hf.1.2 hz)
         exact SeqAt.in_tupleAt f pl f1 ⟨.f _,H,I,rfl,by rw[f2];exact zL hr (.j _) w⟩
     . exact w.elim
 . exact w.elim
theorem fj:L2.OpR X (A6 .Lt) (rM2 X.K X.d (zS .l)):=by
 intro pins s σ H x y v u Q I rx ry h;obtain⟨ρ,t,a,b,hr,ra,rb,w⟩:=h;simp only[zS]at w;split at w
 . cases ra;cases rb
   exact L2.Sv pins s σ H _ _ v u Q I rx ry ⟨_,_,rfl,rfl,zL hr (.j _) w⟩
 . exact w.elim
theorem fh:L2.OpR X (A6 .LtE) (rM2 X.K X.d (zS .c)):=by
 intro pins s σ H x y v u Q I rx ry h;obtain⟨ρ,t,a,b,hr,ra,rb,w⟩:=h;simp only[zS]at w;split at w
 . cases ra;cases rb
   exact L2.Su pins s σ H _ _ v u Q I rx ry ⟨_,_,rfl,rfl,zL hr (.j _) w⟩
 . exact w.elim
theorem fY:L2.OpR X (A6 .Gt) (rM2 X.K X.d (zS .h)):=by
 intro pins s σ H x y v u Q I rx ry h;obtain⟨ρ,t,a,b,hr,ra,rb,w⟩:=h;simp only[zS]at w;split at w
 . cases ra;cases rb
   exact L2.Ss pins s σ H _ _ v u Q I rx ry ⟨_,_,rfl,rfl,zL hr (.j _) w⟩
 . exact w.elim
theorem fX:L2.OpR X (A6 .GtE) (rM2 X.K X.d (zS .j)):=by
 intro pins s σ H x y v u Q I rx ry h;obtain⟨ρ,t,a,b,hr,ra,rb,w⟩:=h;simp only[zS]at w;split at w
 . cases ra;cases rb
   exact L2.Sr pins s σ H _ _ v u Q I rx ry ⟨_,_,rfl,rfl,zL hr (.j _) w⟩
 . exact w.elim
noncomputable def Cop.op:Cop->CmpOp
 |.d=>.Eq|.a=>.NotEq|.l=>.Lt|.c=>.LtE|.h=>.Gt|.j=>.GtE|.i=>.Is|.b=>.IsNot|.k=>.In|.g=>.NotIn|.m=>.In|.e=>.NotIn|.f=>.NotIn
noncomputable def okC:Cop->Bool
 |.g|.m|.e|.f=>false
 |_=>true
theorem tE(hr0:L2.xW k X.A):∀op:Cop,okC op=true->L2.OpR X (A6 op.op) (rM2 X.K X.d (zS op))
 |.d,_=>fW hr0
 |.a,_=>fk hr0
 |.l,_=>fj
 |.c,_=>fh
 |.h,_=>fY
 |.j,_=>fX
 |.i,_=>fg
 |.b,_=>nu
 |.k,_=>fZ hr0
 |.g,h=>by cases h
 |.m,h=>by cases h
 |.e,h=>by cases h
 |.f,h=>by cases h
noncomputable def Bop.op:Bop->Operator
 |.a=>.Add|.c=>.Sub|.b=>.Mult|.d=>.FloorDiv|.e=>.Mod|.g=>.Pow|.h=>.LShift|.i=>.RShift|.f=>.BitAnd
noncomputable def okB:Bop->Bool
 |.h|.i|.f=>false
 |_=>true
theorem aF m:∀op:Bop,okB op=true->L2.OpR X (Br op.op) (rM2 X.K X.d (binOp m op))
 |.a,_=>jH m
 |.c,_=>jN m
 |.b,_=>jK m
 |.d,_=>lP m
 |.e,_=>jJ m
 |.g,_=>jM m
 |.h,h=>by cases h
 |.i,h=>by cases h
 |.f,h=>by cases h
theorem SJ:L2.IxR X (rM2 X.K X.d vP):=by
 intro value slice pins s σ H x y v u Q I rx ry h hs;obtain⟨ρ,t,a,b,hr,ra,rb,w⟩:=h;simp only[vP]at w;split at w
 . split at w
   . rename_i vs e
     split at w
     . rename_i z hz
       obtain⟨p,xs,rfl,hq,q⟩:=mI hr ra e;cases rb;obtain⟨xz,h1,h2⟩:=Zt q hz;refine L2.VO value slice pins s σ H _ _ v u Q I rx ry ?_ hs;rcases hq with hq|hq
       . exact .inl ⟨p,xs,_,xz,rfl,rfl,hq,h1,zL hr h2 w⟩
       . exact .inr (.inl ⟨p,xs,_,xz,rfl,rfl,hq,h1,zL hr h2 w⟩)
     . exact w.elim
   . exact w.elim
 . exact w.elim
end
end M
end
section
namespace M
open PySem
noncomputable def Bf.nm:Bf->Str
 |.a=>"len"|.p=>"all"|.q=>"any"|.e=>"tuple"|.j=>"list"|.g=>"sorted"|.h=>"repr"|.k=>"max"|.l=>"min"|.s=>"sum"|.o=>"int"|.i=>"isinstance"|.b=>"divmod"|.r=>"str"|.c=>"sorted"|.n=>"min"|.d=>"sorted"|.m=>"min"
noncomputable def Bf.val:Bf->Value
 |.a=>.builtin "len"|.p=>.builtin "all"|.q=>.builtin "any"|.e=>.type "tuple"|.j=>.type "list"|.g=>.builtin "sorted"|.h=>.builtin "repr"|.k=>.builtin "max"|.l=>.builtin "min"|.s=>.builtin "sum"|.o=>.type "int"
 |.i=>.builtin "isinstance"|.b=>.builtin "divmod"|.r=>.type "str"|.c=>.builtin "sorted"|.n=>.builtin "min"|.d=>.builtin "sorted"|.m=>.builtin "min"
theorem Bf.boot:∀f:Bf,B7 f.nm=some f.val
 |.a=>boot_len|.p=>PyProof.Rows.boot_all|.q=>PyProof.Rows.boot_any|.e=>F2|.j=>PyProof.Rows.boot_list|.g=>DX|.h=>PyProof.Rows.boot_repr|.k=>PyProof.Rows.boot_max|.l=>EC
 |.s=>PyProof.Rows.boot_sum|.o=>PyProof.Rows.boot_int|.i=>PyProof.Rows.boot_isinstance|.b=>PyProof.Rows.boot_divmod|.r=>PyProof.Rows.boot_str|.c=>DX|.n=>EC|.d=>DX|.m=>EC
section
variable {X:L2.Cx}{k:Nat}{m:Bool}
theorem sE(r:RDs K mg ρ H [v] xs):∃x,xs=[x]/\RD K mg ρ H v x:=by
 cases r with
 |a r1 r2=>cases r2;exact⟨_,rfl,r1⟩
theorem eC(r:RDs K mg ρ H [v,w] xs):∃x y,xs=[x,y]/\RD K mg ρ H v x/\RD K mg ρ H w y:=by
 cases r with
 |a r1 r2=>
  obtain⟨y,rfl,r3⟩:=sE r2;exact⟨_,_,rfl,r1,r3⟩
theorem dh:L2.yV X (.builtin "len") (rMc X.K X.d (blt .a m)):=by
 intro pins s σ H xs us Q I r h;obtain⟨ρ,t,vs,hr,rv,w⟩:=h;simp only[blt]at w;split at w
 . split at w
   . rename_i hz
     obtain⟨x,rfl,rx⟩:=sE rv;cases rx;exact L2.nB pins s σ H _ us Q I r ⟨_,rfl,by rw[<-yp];exact hz,zL hr (.l _) w⟩
   . exact w.elim
 . split at w
   . rename_i e
     obtain⟨x,rfl,rx⟩:=sE rv;obtain⟨p,ys,rfl,hq,q⟩:=mI hr rx e;refine L2.nA pins s σ H _ us Q I r ⟨p,ys,rfl,hq,?_⟩;rw[<-q.length];exact zL hr (.l _) w
   . exact w.elim
 . exact w.elim
theorem qC(hc:X.j=true):L2.yV X (.builtin "all") (rMc X.K X.d (blt .p m)):=by
 intro pins s σ H xs us Q I r h;obtain⟨ρ,t,vs,hr,rv,w⟩:=h;simp only[blt]at w;split at w
 . split at w
   . rename_i e
     split at w
     . rename_i bs eb
       obtain⟨x,rfl,rx⟩:=sE rv;obtain⟨p,ys,rfl,hq,q⟩:=vE hr rx e;rw[q.bools eb]at hq;exact L2.qC hc pins s σ H _ us Q I r ⟨p,bs,rfl,.of hq,zL hr (.j _) w⟩
     . exact w.elim
   . exact w.elim
 . exact w.elim
theorem kS:L2.yV X (.type "tuple") (rMc X.K X.d (blt .e m)):=by
 intro pins s σ H xs us Q I r h;obtain⟨ρ,t,vs,hr,rv,w⟩:=h;simp only[blt]at w;split at w
 . obtain⟨x,rfl,rx⟩:=sE rv
   cases rx with
   |m n e q=>exact L2.uq pins s σ H _ us Q I r ⟨_,_,rfl,.inr ⟨.of e,zL hr (.m n e q) w⟩⟩
 . split at w
   . rename_i e
     obtain⟨x,rfl,rx⟩:=sE rv;obtain⟨p,ys,rfl,hq,q⟩:=vE hr rx e;exact L2.uq pins s σ H _ us Q I r ⟨p,ys,rfl,.inl ⟨.of hq,nY hr q w⟩⟩
   . exact w.elim
 . exact w.elim
theorem gY:L2.yV X (.type "list") (rMc X.K X.d (blt .j m)):=by
 intro pins s σ H xs us Q I r h;obtain⟨ρ,t,vs,hr,rv,w⟩:=h;simp only[blt]at w;split at w
 . split at w
   . rename_i e
     obtain⟨x,rfl,rx⟩:=sE rv;obtain⟨p,ys,rfl,hq,q⟩:=mI hr rx e;exact L2.nD pins s σ H _ us Q I r ⟨p,ys,rfl,hq,uc hr q w⟩
   . exact w.elim
 . exact w.elim
theorem dk(hr0:L2.xW k X.A):L2.yV X (.builtin "repr") (rMc X.K X.d (blt .h m)):=by
 intro pins s σ H xs us Q I r h;obtain⟨ρ,t,vs,hr,rv,w⟩:=h;simp only[blt]at w;split at w
 . rename_i v
   split at w
   . rename_i hc
     rw[cf]at hc;obtain⟨x,rfl,rx⟩:=sE rv;obtain⟨u,rfl,ru⟩:=L2.vals1 r;have S:=Sk hc.2;have q:Q (.e (zu t v).d.shown) H:=zL hr (.D _) w;have fin:∀(tk':Tok) (tk:Nat),L2.EP X pins σ Q (.str (zu t v).d.shown tk') {s with toks:=tk}:=λ_ tk=>⟨.e _,H,I.tok _,⟨_,rfl⟩,q⟩
     obtain⟨as,R,hs⟩:=xP I.j hr hc.1 rx ru;have fr:∀a,u=.ref a->wpAny (model X.f X.w) X.A (call (.builtin "repr") [u]) (L2.EP X pins σ Q) X.i s:=λa e=>by subst e;refine repr_of_reads' R S.sh (λz=>hs (S.a z)) hr0.d ?_ (λ_ _ e=>e) (λh' u tk hk=>⟨.e _,H,I.kept hk,⟨_,rfl⟩,q⟩) S.ln;have:=S.dp;have:=hr0.a;omega
     cases rx with
     |s=>cases (show u=Ci from ru);exact PySem.P.repr_of_none (fin _ _)
     |j b=>cases (show u=CZ b from ru);exact PySem.P.repr_of_bool (fin _ _)
     |l i=>obtain⟨t',z⟩:=(show ∃t,u=F7 i t from ru);cases z;exact PySem.P.repr_of_int (by simpa [zu,yg,Val.d,PyData.showable] using S.sh) (fin _ _)
     |D x=>obtain⟨t',z⟩:=(show ∃t,u=F8 x t from ru);cases z;exact PySem.P.repr_of_str (fin _ _) S.ln
     |m _ _ _=>exact fr _ ru
     |E _ _ _=>exact fr _ ru
     |B _ _=>exact fr _ ru
     |C _ _=>exact fr _ ru
     |p _=>exact fr _ ru
     |F _=>exact fr _ ru
     |G _=>exact fr _ ru
     |I _=>exact absurd hc.1 (by simp[zu,yg,Val.isR])
     |A _ _=>exact fr _ ru
   . exact w.elim
 . exact w.elim
theorem di(hc:X.j=true):L2.yV X (.builtin "max") (rMc X.K X.d (blt .k m)):=by
 intro pins s σ H xs us Q I r h;obtain⟨ρ,t,vs,hr,rv,w⟩:=h;simp only[blt]at w;split at w
 . obtain⟨x,y,rfl,rx,ry⟩:=eC rv
   cases rx;cases ry;exact L2.gZ hc pins s σ H _ us Q I r ⟨_,_,rfl,zL hr (.l _) w⟩
 . split at w
   . rename_i ns en
     split at w
     . rename_i hn
       obtain⟨x,rfl,rx⟩:=sE rv;cases rx with
       |m n e q=>
        rw[q.m7 en]at e;exact L2.gc hc pins s σ H _ us Q I r ⟨_,ns,rfl,.of e,hn,zL hr (.l _) w⟩
     . exact w.elim
   . exact w.elim
 . split at w
   . rename_i e
     split at w
     . rename_i ns en
       split at w
       . rename_i hn
         obtain⟨x,rfl,rx⟩:=sE rv;obtain⟨p,ys,rfl,hq,q⟩:=vE hr rx e;rw[q.m7 en]at hq;exact L2.gb hc pins s σ H _ us Q I r ⟨p,ns,rfl,.of hq,hn,zL hr (.l _) w⟩
       . exact w.elim
     . exact w.elim
   . exact w.elim
 . exact w.elim
theorem dj(hc:X.j=true):L2.yV X (.builtin "min") (rMc X.K X.d (blt .l m)):=by
 intro pins s σ H xs us Q I r h;obtain⟨ρ,t,vs,hr,rv,w⟩:=h;simp only[blt]at w;split at w
 . obtain⟨x,y,rfl,rx,ry⟩:=eC rv
   cases rx;cases ry;exact L2.gf hc pins s σ H _ us Q I r ⟨_,_,rfl,zL hr (.l _) w⟩
 . split at w
   . rename_i ns en
     split at w
     . rename_i hn
       obtain⟨x,rfl,rx⟩:=sE rv;cases rx with
       |m n e q=>
        rw[q.m7 en]at e;exact L2.kR hc pins s σ H _ us Q I r ⟨_,ns,rfl,.of e,hn,zL hr (.l _) w⟩
     . exact w.elim
   . exact w.elim
 . split at w
   . rename_i e
     split at w
     . rename_i ns en
       split at w
       . rename_i hn
         obtain⟨x,rfl,rx⟩:=sE rv;obtain⟨p,ys,rfl,hq,q⟩:=vE hr rx e;rw[q.m7 en]at hq;exact L2.gg hc pins s σ H _ us Q I r ⟨p,ns,rfl,.of hq,hn,zL hr (.l _) w⟩
       . exact w.elim
     . exact w.elim
   . exact w.elim
 . exact w.elim
theorem dg:L2.yV X (.type "int") (rMc X.K X.d (blt .o m)):=by
 intro pins s σ H xs us Q I r h;obtain⟨ρ,t,vs,hr,rv,w⟩:=h;simp only[blt]at w;split at w
 . obtain⟨x,rfl,rx⟩:=sE rv
   cases rx;exact L2.pf pins s σ H _ us Q I r (.inl ⟨_,rfl,zL hr (.l _) w⟩)
 . obtain⟨x,rfl,rx⟩:=sE rv
   cases rx;exact L2.pf pins s σ H _ us Q I r (.inr ⟨_,rfl,zL hr (.l _) w⟩)
 . exact w.elim
theorem qD:L2.yV X (.builtin "isinstance") (rMc X.K X.d (blt .i m)):=by
 intro pins s σ H xs us Q I r h;obtain⟨ρ,t,vs,hr,rv,w⟩:=h;simp only[blt]at w;split at w
 . split at w
   . rename_i ea ec
     obtain⟨x,y,rfl,rx,ry⟩:=eC rv;cases ry;obtain⟨e1,e2⟩:=Sf ec;subst e1;exact L2.qD pins s σ H _ us Q I r ⟨_,_,_,_,rfl,QG hr rx ea,L2.V2 X.K _ _ e2,zL hr (.j _) w⟩
   . exact w.elim
 . exact w.elim
theorem v7:L2.yV X (.builtin "divmod") (rMc X.K X.d (blt .b m)):=by
 intro pins s σ H xs us Q I r h;obtain⟨ρ,t,vs,hr,rv,w⟩:=h;simp only[blt]at w;split at w
 . split at w
   . rename_i hz
     obtain⟨x,y,rfl,rx,ry⟩:=eC rv;cases rx;cases ry;exact L2.v7 pins s σ H _ us Q I r ⟨_,_,rfl,hz,nY hr (.a (.l _) (.a (.l _) .d)) w⟩
   . exact w.elim
 . exact w.elim
theorem sg z:∀l,(kh z l).Perm (z::l)
 |[]=>.refl _
 |y::ys=>by
  unfold kh;split
  . exact .refl _
  . exact((sg z ys).cons y).trans (.swap z y ys)
theorem xu:∀l,(vq l).Perm l
 |[]=>.refl _
 |z::zs=>(sg z _).trans ((xu zs).cons z)
theorem iu z:∀l,l.Pairwise (λa b=>L2.xg a<=L2.xg b)->(kh z l).Pairwise (λa b=>L2.xg a<=L2.xg b)
 |[],_=>by simp[kh]
 |y::ys,h=>by
  rw[C1]at h;unfold kh;split
  . rename_i hz
    refine C1.mpr ⟨λa ha=>?_,C1.mpr h⟩;rcases Aj.mp ha with e|e
    . subst e;exact hz
    . exact EO hz (h.1 a e)
  . rename_i hz
    refine C1.mpr ⟨λa ha=>?_,iu z ys h.2⟩;rcases Aj.mp ((sg z ys).mem_iff.mp ha) with e|e
    . subst e;omega
    . exact h.1 a e
theorem kA:∀l,(vq l).Pairwise (λa b=>L2.xg a<=L2.xg b)
 |[]=>.nil
 |z::zs=>iu z _ (kA zs)
theorem ZT{l:List (Int × Int)}(nd:l.Nodup)(hb:∀z∈l,0<=z.2/\z.2<1000):(vq l).Pairwise (λa b=>L2.xg a<L2.xg b):=by
 have h1:=kA l;have h2:(vq l).Pairwise (·≠·):=(xu l).nodup_iff.mpr nd
 have h3:=h1.and h2;refine h3.imp_of_mem ?_;intro a b ha hb' hab;have m1:=hb a ((xu l).mem_iff.mp ha);have m2:=hb b ((xu l).mem_iff.mp hb');rcases Int.lt_or_eq_of_le hab.1 with z|z
 . exact z
 . exact absurd (L2.gk m1 m2 z) hab.2
noncomputable def okF:Bf->Bool
 |.q|.g|.s|.r|.c|.n|.d|.m=>false
 |_=>true
theorem Zw(hc:X.j=true)(hr0:L2.xW k X.A):∀f m,okF f=true->L2.yV X f.val (rMc X.K X.d (blt f m))
 |.a,_,_=>dh
 |.p,_,_=>qC hc
 |.q,_,h=>by cases h
 |.e,_,_=>kS
 |.j,_,_=>gY
 |.g,_,h=>by cases h
 |.h,_,_=>dk hr0
 |.k,_,_=>di hc
 |.l,_,_=>dj hc
 |.s,_,h=>by cases h
 |.o,_,_=>dg
 |.i,_,_=>qD
 |.b,_,_=>v7
 |.r,_,h=>by cases h
 |.c,_,h=>by cases h
 |.d,_,h=>by cases h
 |.n,_,h=>by cases h
 |.m,_,h=>by cases h
end
end M
end
section
namespace M
open PySem
noncomputable def Out.isOk{α:Type}:Out α->Bool
 |.e _ _=>true
 |.g _ _ _|.d=>false
theorem zG{o:Out α}(h:o.isOk=false)v s:o≠.e v s:=λe=>by subst e;cases h
noncomputable def plain:Expr->Bool
 |.Starred ..|.Set ..|.Slice ..|.SetComp ..=>false
 |_=>true
theorem zW(h:plain e=true):L2.noStar e=true:=by cases e<;>first|rfl|cases h
theorem we(h:plain e=true):Dt op e=false:=by cases e<;>first|rfl|cases h
theorem ag(h:plain e=true):L2.iL e:=by intro o i;cases e<;>first|rfl|cases h
theorem yT(h:plain e=true)x:AZ e env x=pure x:=by cases e<;>first|rfl|cases h
noncomputable def nZ:Expr->Bool
 |.Call (.Name _ _) [] [] _=>false
 |_=>true
theorem uY(h:nZ o=true):CY o name env (eval o env)=eval o env:=by
 unfold CY;split
 . cases h
 . rfl
noncomputable def plainT:Expr->Bool
 |.UnaryOp .Not _ _|.BoolOp ..|.IfExp ..|.Compare ..=>false
 |_=>true
theorem oO(h:plainT e=true)whole:isTrue e env whole=(do let v <-whole;standAt e.pos;holding [v] (truthy v)):=by
 cases e with
 |UnaryOp op a p=>cases op<;>first|rfl|cases h
 |_=>first|rfl|cases h
def zi:List Expr->Bool
 |[]=>true
 |e::es=>plain e&&zi es
theorem xJ:∀{es} {pos} {env},zi es=true->(backTo pos (AJ es env)).any (·.1)=false
 |[],_,_,_=>rfl
 |e::es,pos,env,h=>by
  rw[zi,cf]at h;rw[L2.zg (zW h.1)];show (false||(backTo pos (AJ es env)).any (·.1))=false
  rw[xJ h.2];rfl
section
variable {K:KF}{mg:Str->Option Value}{env:Env}{s s1:Sto}{ρ ρ':Own}{H H':L2.Hp}
theorem yt.mono(w:yt K mg R ρ H o Q)(x:Ext ρ H ρ' H')(h:HR K mg ρ' s1 H'):yt K mg R ρ' H' o Q:=by
 cases o with
 |e v s'=>exact λρ2 y H2 x2 h2 r2=>w ρ2 y H2 (x.trans h x2) h2 r2
 |_=>exact w
end
section
variable {X:L2.Cx}{env:Env}{s:Sto}{E a b c:Expr}
theorem zK{o:Out Val}(h:∀v s',o≠.e v s'):L2.PE X E (tV X.K X.d env s o):=yY λ_ _ _=>QD h
theorem un1{g:Val->Sto->Out Val}(h:L2.PE X a (tV X.K X.d env s o))(rule:∀ta,L2.PE X a ta->L2.PE X E (L2.tUn r ta))
 (op:∀ρ H s1 v x Q,HR X.K X.d ρ s1 H->RD X.K X.d ρ H v x->yt X.K X.d (RD X.K X.d) ρ H (g v s1) Q->r x H Q):L2.PE X E (tV X.K X.d env s (o.bind g)):=by
 cases o with
 |e v s1=>exact za (rule _ h) λσ H Q ⟨ρ,hr,er,w⟩=>⟨ρ,hr,er,λρ1 x H1 x1 hr1 r1=>op ρ1 H1 s1 v x Q hr1 r1 (w.mono x1 hr1)⟩
 |g _ _ _=>exact zK (zG rfl)
 |d=>exact zK (zG rfl)
theorem W0{f2:Sto->Out Val}(h1:L2.PE X a (tV X.K X.d env s o))(h2:∀s1,L2.PE X b (tV X.K X.d env s1 (f2 s1)))
 (rule:∀ta tb,L2.PE X a ta->L2.PE X b tb->L2.PE X E (L2.tOp (rM2 X.K X.d g) ta tb)):L2.PE X E (tV X.K X.d env s (o.bind λx s1=>(f2 s1).bind λy s2=>g x y s2)):=by
 cases o with
 |e v s1=>
  show L2.PE X E (tV X.K X.d env s ((f2 s1).bind λy s2=>g v y s2));have h2':=h2 s1;cases hb:f2 s1 with
  |e w s2=>
   rw[hb]at h2';exact za (rule _ _ h1 h2') λσ H Q ⟨ρ,hr,er,wt⟩=>⟨ρ,hr,er,λρ1 x H1 x1 hr1 r1=>⟨ρ1,hr1,er.mono x1,λρ2 y H2 x2 hr2 r2=>⟨ρ2,s2,v,w,hr2,r1.mono x2,r2,wt.mono (x1.trans hr1 x2) hr2⟩⟩⟩
  |g _ _ _=>exact zK (zG rfl)
  |d=>exact zK (zG rfl)
 |g _ _ _=>exact zK (zG rfl)
 |d=>exact zK (zG rfl)
theorem bQ{op op':Cop}{o:Out Val}{f2 f3:Sto->Out Val}{k:Nat}{pos:Pos}(k1:okC op=true)(k2:okC op'=true)(hr0:L2.xW k X.A)(h1:L2.PE X a (tV X.K X.d env s o))(h2:∀s1,L2.PE X b (tV X.K X.d env s1 (f2 s1)))(h3:∀s1,L2.PE X c (tV X.K X.d env s1 (f3 s1)))(hm:plain c=true) :
 L2.PE X (.Compare a [op.op,op'.op] [b,c] pos) (tV X.K X.d env s (o.bind λx s1=>(f2 s1).bind λy s2=>(zS op x y s2).bind λr s3=>match r with
  |.e true=>(f3 s3).bind λz s4=>zS op' y z s4
  |.e false=>.e (.e false) s3
  |_=>.d)):=by
 cases o with
 |e v s1=>
  have h2':=h2 s1;show L2.PE X _ (tV X.K X.d env s ((f2 s1).bind _));cases hb:f2 s1 with
  |e w s2=>
   rw[hb]at h2';show L2.PE X _ (tV X.K X.d env s ((zS op v w s2).bind _));cases hc:zS op v w s2 with
   |e r s3=>
    cases r with
    |e t=>
     have h3':=h3 s3;have rule:=L2.aV (pos:=pos) (tE hr0 op k1) (tE hr0 op' k2) h1 h2' h3' (show GD [op.op,op'.op] [b,c]=false from we hm);refine za rule λσ H Q ⟨ρ,hr,er,wt⟩=>⟨ρ,hr,er,λρ1 x H1 x1 hr1 r1=>⟨ρ1,hr1,er.mono x1,λρ2 y H2 x2 hr2 r2=>⟨ρ2,s2,v,w,hr2,r1.mono x2,r2,?_⟩⟩⟩;rw[hc];intro ρ3 z H3 x3 hr3 r3;cases r3;refine⟨t,rfl,?_⟩;have xx:=(x1.trans hr1 x2).trans hr2 x3;have wt':=wt.mono xx hr3;cases t with
     |true=>
      rw[if_pos rfl];refine⟨ρ3,hr3,er.mono xx,?_⟩;have wt2:yt X.K X.d (RD X.K X.d) ρ3 H3 ((f3 s3).bind λz s4=>zS op' w z s4) Q:=wt';cases hz:f3 s3 with
      |e u s4=>
       rw[hz]at wt2;exact λρ4 q H4 x4 hr4 r4=>⟨ρ4,s4,w,u,hr4,(r2.mono x3).mono x4,r4,wt2.mono x4 hr4⟩
      |g _ _ _=>rw[hz]at wt2;exact wt2
      |d=>rw[hz]at wt2;exact wt2
     |false=>
      rw[if_neg xd];exact zL hr3 (.j false) wt'
    |_=>exact zK (zG rfl)
   |g _ _ _=>exact zK (zG rfl)
   |d=>exact zK (zG rfl)
  |g _ _ _=>exact zK (zG rfl)
  |d=>exact zK (zG rfl)
 |g _ _ _=>exact zK (zG rfl)
 |d=>exact zK (zG rfl)
theorem Vl{o:Out Val}{pos:Pos}(h:L2.PE X a (tV X.K X.d env s o)):L2.PE X (.UnaryOp .USub a pos) (tV X.K X.d env s (o.bind λx s1=>match x with|.c i=>.e (.c (-i)) s1|_=>.d)):=by
 refine un1 h (λta q=>L2.RR L2.TR q) λρ H s1 v x Q hr r w=>?_;cases r with
 |l i=>exact⟨i,rfl,zL hr (.l _) w⟩
 |_=>exact w.elim
theorem Vm{o:Out Val}{pos:Pos}(h:L2.PE X a (tV X.K X.d env s o)):L2.PE X (.UnaryOp .Not a pos) (tV X.K X.d env s (o.bind λx s1=>match x with|.e b=>.e (.e !b) s1|_=>.d)):=by
 refine un1 (r:=λx H Q=>∃c,x=.f c/\Q (.f (!c)) H) h (λta q=>L2.UZ q) λρ H s1 v x Q hr r w=>?_;cases r with
 |j i=>exact⟨i,rfl,zL hr (.j _) w⟩
 |_=>exact w.elim
theorem bO{rest:List Expr}{o:Out Val}{f2:Sto->Out Val}{pos:Pos}(h1:L2.PE X a (tV X.K X.d env s o))(h2:∀s1,L2.PE X (.BoolOp .And (b::rest) pos) (tV X.K X.d env s1 (f2 s1))) :
 L2.PE X (.BoolOp .And (a::b::rest) pos) (tV X.K X.d env s (o.bind λx s1=>match x with|.e true=>f2 s1|.e false=>.e (.e false) s1|_=>.d)):=by
 cases o with
 |e v s1=>
  refine za (L2.UT h1 (h2 s1)) λσ H Q ⟨ρ,hr,er,wt⟩=>⟨ρ,hr,er,λρ1 x H1 x1 hr1 r1=>?_⟩;have wt':=wt.mono x1 hr1;cases r1 with
  |j t=>
   refine⟨t,rfl,?_⟩;cases t with
   |true=>exact L2.qS (⟨ρ1,hr1,er.mono x1,wt'⟩)
   |false=>exact L2.tu (zL hr1 (.j _) wt')
  |_=>exact wt'.elim
 |g _ _ _=>exact zK (zG rfl)
 |d=>exact zK (zG rfl)
theorem SU{rest:List Expr}{o:Out Val}{f2:Sto->Out Val}{pos:Pos}(h1:L2.PE X a (tV X.K X.d env s o))(h2:∀s1,L2.PE X (.BoolOp .Or (b::rest) pos) (tV X.K X.d env s1 (f2 s1))) :
 L2.PE X (.BoolOp .Or (a::b::rest) pos) (tV X.K X.d env s (o.bind λx s1=>match truth s1 x with|some false=>f2 s1|some true=>.e x s1|dS=>.d)):=by
 cases o with
 |e v s1=>
  refine za (L2.Ua h1 (h2 s1)) λσ H Q ⟨ρ,hr,er,wt⟩=>⟨ρ,hr,er,λρ1 x H1 x1 hr1 r1=>?_⟩;have wt':yt X.K X.d (RD X.K X.d) ρ1 H1 (match truth s1 v with|some false=>f2 s1|some true=>.e v s1|dS=>.d) Q:=wt.mono x1 hr1
  cases ht:truth s1 v with
  |none=>rw[ht]at wt';exact wt'.elim
  |some t=>
   rw[ht]at wt';refine⟨t,Zd hr1 r1 ht,?_⟩;cases t with
   |true=>exact L2.qS (zL hr1 r1 wt')
   |false=>exact L2.tu (⟨ρ1,hr1,er.mono x1,wt'⟩)
 |g _ _ _=>exact zK (zG rfl)
 |d=>exact zK (zG rfl)
theorem Vk{f2 f3:Sto->Out Val}(h1:L2.PT X c (tT X.K X.d env s o))(h2:∀s1,L2.PE X a (tV X.K X.d env s1 (f2 s1)))(h3:∀s1,L2.PE X b (tV X.K X.d env s1 (f3 s1))) :
 L2.PE X (.IfExp c a b pos) (tV X.K X.d env s (o.bind λt s1=>if t then f2 s1 else f3 s1)):=by
 cases o with
 |e v s1=>
  refine za (L2.lX h1 (h2 s1) (h3 s1)) λσ H Q ⟨ρ,hr,er,wt⟩=>⟨ρ,hr,er,λρ1 x H1 x1 hr1 r1=>?_⟩;have wt':=wt.mono x1 hr1;cases r1;cases v with
  |true=>exact L2.qS (⟨ρ1,hr1,er.mono x1,wt'⟩)
  |false=>exact L2.tu (⟨ρ1,hr1,er.mono x1,wt'⟩)
 |g _ _ _=>exact zK (zG rfl)
 |d=>exact zK (zG rfl)
theorem t7{o:Out (List Val)}(h:∀v s',o≠.e v s'):L2.PA X es (tVs X.K X.d env s o):=RK λ_ _ _=>U6 h
theorem i7:L2.PA X [] (tVs X.K X.d env s (.e [] s)):=aR L2.xI λσ H Q ⟨ρ,hr,er,wt⟩=>wt ρ [] H Ext.refl hr .d
theorem m8{f2:Sto->Out (List Val)}(hp:plain a=true)(h1:L2.PE X a (tV X.K X.d env s o))(h2:∀s1,L2.PA X es (tVs X.K X.d env s1 (f2 s1))) :
 L2.PA X (a::es) (tVs X.K X.d env s (o.bind λv s1=>(f2 s1).bind λvs s2=>.e (v::vs) s2)):=by
 cases o with
 |e v s1=>
  have h2':=h2 s1;show L2.PA X _ (tVs X.K X.d env s ((f2 s1).bind _));cases hb:f2 s1 with
  |e ws s2=>
   rw[hb]at h2';exact aR (L2.pac h1 h2' (zW hp)) λσ H Q ⟨ρ,hr,er,wt⟩=>⟨ρ,hr,er,λρ1 x H1 x1 hr1 r1=>⟨ρ1,hr1,er.mono x1,λρ2 y H2 x2 hr2 r2=>wt ρ2 _ H2 (x1.trans hr1 x2) hr2 (.a (r1.mono x2) r2)⟩⟩
  |g _ _ _=>exact t7 (zG rfl)
  |d=>exact t7 (zG rfl)
 |g _ _ _=>exact t7 (zG rfl)
 |d=>exact t7 (zG rfl)
theorem kl(h:L2.PA X es (tVs X.K X.d env s o)):L2.PE X (.Tuple es k pos) (tV X.K X.d env s (o.bind λvs s1=>if vs.length<=zO then .e (.f vs) s1 else .d)):=by
 cases o with
 |e vs s1=>
  refine za (L2.Uc h) λσ H Q ⟨ρ,hr,er,wt⟩=>⟨ρ,hr,er,λρ1 xs H1 x1 hr1 r1=>?_⟩;have wt':yt X.K X.d (RD X.K X.d) ρ1 H1 (if vs.length<=zO then .e (.f vs) s1 else .d) Q:=wt.mono x1 hr1
  by_cases hz:vs.length<=zO
  . rw[if_pos hz]at wt'
    exact⟨by rw[<-r1.length,<-yp];exact hz,nY hr1 r1 wt'⟩
  . rw[if_neg hz]at wt';exact wt'.elim
 |g _ _ _=>exact zK (zG rfl)
 |d=>exact zK (zG rfl)
theorem bS(h:L2.PA X es (tVs X.K X.d env s o)):L2.PE X (.List es pos) (tV X.K X.d env s (o.bind λvs s1=>if vs.length<=zO then newList m vs s1 else .d)):=by
 cases o with
 |e vs s1=>
  refine za (L2.qo h) λσ H Q ⟨ρ,hr,er,wt⟩=>⟨ρ,hr,er,λρ1 xs H1 x1 hr1 r1=>?_⟩;have wt':yt X.K X.d (RD X.K X.d) ρ1 H1 (if vs.length<=zO then newList m vs s1 else .d) Q:=wt.mono x1 hr1
  by_cases hz:vs.length<=zO
  . rw[if_pos hz]at wt'
    exact⟨by rw[<-r1.length,<-yp];exact hz,uc hr1 r1 wt'⟩
  . rw[if_neg hz]at wt';exact wt'.elim
 |g _ _ _=>exact zK (zG rfl)
 |d=>exact zK (zG rfl)
theorem SR(h:L2.PA X es (tVs X.K X.d env s o))(rule:∀t,L2.PA X es t->L2.PE X E (L2.tCB (rMc X.K X.d g) t)):L2.PE X E (tV X.K X.d env s (o.bind g)):=by
 cases o with
 |e vs s1=>exact za (rule _ h) λσ H Q ⟨ρ,hr,er,wt⟩=>⟨ρ,hr,er,λρ1 xs H1 x1 hr1 r1=>⟨ρ1,s1,vs,hr1,r1,wt.mono x1 hr1⟩⟩
 |g _ _ _=>exact zK (zG rfl)
 |d=>exact zK (zG rfl)
theorem Vj(k1:okF f=true)(hc:X.j=true)(hr0:L2.xW k X.A)(hg:L2.Gl X f.nm)(hm:X.d f.nm=none)(hp:zi (a::es)=true)(h:L2.PA X (a::es) (tVs X.K X.d env s o)) :
 L2.PE X (.Call (.Name f.nm p) (a::es) [] pos) (tV X.K X.d env s (o.bind (blt f m))):=by
 rw[zi,cf]at hp;refine SR h λt ht=>?_;have hb:=Zw hc hr0 f m k1;have bo:=f.boot;have st:=L2.zg (es:=es) (env:=X.a) (zW hp.1);have hn:=xJ (pos:=pos) (env:=X.a) hp.2;cases f with
 |e=>exact L2.xR hb hg hm bo ht (by decide) (by decide) st hn
 |j=>exact L2.xR hb hg hm bo ht (by decide) (by decide) st hn
 |o=>exact L2.xR hb hg hm bo ht (by decide) (by decide) st hn
 |r=>exact L2.xR hb hg hm bo ht (by decide) (by decide) st hn
 |_=>exact L2.t8 hb hg hm bo ht (by decide) (by decide) st hn
theorem yJ{o:Out Bool}(h:∀v s',o≠.e v s'):L2.PT X E (tT X.K X.d env s o):=gE λ_ _ _=>Wj h
theorem Vu(hp:plainT a=true)(h:L2.PE X a (tV X.K X.d env s o)):L2.PT X a (tT X.K X.d env s o.truth):=by
 cases o with
 |e v s1=>
  refine sy (L2.lr h (oO hp)) λσ H Q ⟨ρ,hr,er,wt⟩=>⟨ρ,hr,er,λρ1 x H1 x1 hr1 r1=>?_⟩;have wt':=wt.mono x1 hr1;simp only[Out.truth,zM]at wt';cases ht:truth s1 v with
  |none=>rw[ht]at wt';exact wt'.elim
  |some b=>rw[ht]at wt';exact⟨b,Zd hr1 r1 ht,wt' _ _ _ Ext.refl hr1 rfl⟩
 |g _ _ _=>exact yJ (zG rfl)
 |d=>exact yJ (zG rfl)
theorem Vt(h:L2.PT X a (tT X.K X.d env s o)):L2.PT X (.UnaryOp .Not a pos) (tT X.K X.d env s (o.bind λb s1=>.e (!b) s1)):=by
 cases o with
 |e v s1=>exact sy (L2.jY h) λσ H Q ⟨ρ,hr,er,wt⟩=>⟨ρ,hr,er,λρ1 x H1 x1 hr1 r1=>by cases r1;exact wt _ _ _ x1 hr1 rfl⟩
 |g _ _ _=>exact yJ (zG rfl)
 |d=>exact yJ (zG rfl)
theorem sD{o:Out Bool}(h:∀v s',o≠.e v s'):L2.PW X E (tT X.K X.d env s o):=RZ λ_ _ _=>Wj h
theorem kn:L2.PW X (.BoolOp .And [] pos) (tT X.K X.d env s (.e true s)):=λwh pins sh σ H Q I ⟨ρ,hr,er,wt⟩=>PyProof.Rows.isTrue_and_nil ⟨H,I,wt _ _ _ Ext.refl hr rfl⟩
theorem fE:L2.PW X (.BoolOp .Or [] pos) (tT X.K X.d env s (.e false s)):=λwh pins sh σ H Q I ⟨ρ,hr,er,wt⟩=>PyProof.Rows.isTrue_or_nil ⟨H,I,wt _ _ _ Ext.refl hr rfl⟩
theorem ba{f2:Sto->Out Bool}(h1:L2.PT X a (tT X.K X.d env s o))(h2:∀s1,L2.PW X (.BoolOp .And rest pos) (tT X.K X.d env s1 (f2 s1))) :
 L2.PW X (.BoolOp .And (a::rest) pos) (tT X.K X.d env s (o.bind λb s1=>if b then f2 s1 else .e false s1)):=by
 cases o with
 |e v s1=>
  intro wh pins sh σ H Q I h;obtain⟨ρ,hr,er,wt⟩:=h;refine PyProof.Rows.isTrue_and (L2.thn (h1 pins sh σ H (λc H1=>if c=true then tT X.K X.d env s1 (f2 s1) σ H1 Q else Q false H1) I ⟨ρ,hr,er,λρ1 x H1 x1 hr1 r1=>?_⟩) λc s' ⟨H1,I1,q1⟩=>?_)
  . have wt':=wt.mono x1 hr1
    cases r1;cases v with
    |true=>exact L2.qS (⟨ρ1,hr1,er.mono x1,wt'⟩)
    |false=>exact L2.tu (wt' _ _ _ Ext.refl hr1 rfl)
  . cases c with
    |true=>exact h2 s1 wh pins s' σ H1 Q I1 q1
    |false=>exact⟨H1,I1,q1⟩
 |g _ _ _=>exact sD (zG rfl)
 |d=>exact sD (zG rfl)
theorem WQ{f2:Sto->Out Bool}(h1:L2.PT X a (tT X.K X.d env s o))(h2:∀s1,L2.PW X (.BoolOp .Or rest pos) (tT X.K X.d env s1 (f2 s1))) :
 L2.PW X (.BoolOp .Or (a::rest) pos) (tT X.K X.d env s (o.bind λb s1=>if b then .e true s1 else f2 s1)):=by
 cases o with
 |e v s1=>
  intro wh pins sh σ H Q I h;obtain⟨ρ,hr,er,wt⟩:=h;refine PyProof.Rows.isTrue_or (L2.thn (h1 pins sh σ H (λc H1=>if c=true then Q true H1 else tT X.K X.d env s1 (f2 s1) σ H1 Q) I ⟨ρ,hr,er,λρ1 x H1 x1 hr1 r1=>?_⟩) λc s' ⟨H1,I1,q1⟩=>?_)
  . have wt':=wt.mono x1 hr1
    cases r1;cases v with
    |true=>exact L2.qS (wt' _ _ _ Ext.refl hr1 rfl)
    |false=>exact L2.tu (⟨ρ1,hr1,er.mono x1,wt'⟩)
  . cases c with
    |true=>exact⟨H1,I1,q1⟩
    |false=>exact h2 s1 wh pins s' σ H1 Q I1 q1
 |g _ _ _=>exact sD (zG rfl)
 |d=>exact sD (zG rfl)
end
end M
end
section
namespace M
open PySem
section
variable {X:L2.Cx}{env:Env}{s:Sto}{E a b c:Expr}
theorem ah{t t':L2.TO}(h:L2.PO X e t)(i:∀σ H Q,t' σ H Q->t σ H Q):L2.PO X e t':=λpins s σ H Q I q=>h pins s σ H Q I (i σ H Q q)
theorem R9{o:Out (Option Int)}(h:∀v s',o≠.e v s'):¬tO X.K X.d env s o σ H Q:=by
 rintro ⟨ρ,_,_,w⟩;cases o with
 |e v s'=>exact h v s' rfl
 |_=>exact w
theorem lg{o:Out (Option Int)}(h:∀v s',o≠.e v s'):L2.PO X e (tO X.K X.d env s o):=λpins sh σ H Q I q=>(R9 h q).elim
theorem SX:L2.PO X none (tO X.K X.d env s (.e none s)):=ah L2.XX λσ H Q ⟨ρ,hr,er,wt⟩=>wt _ _ _ Ext.refl hr rfl
theorem Vo{o:Out Val}(h:L2.PE X a (tV X.K X.d env s o)):L2.PO X (some a) (tO X.K X.d env s (o.bind λv s1=>match v with|.c i=>.e (some i) s1|_=>.d)):=by
 cases o with
 |e v s1=>
  refine ah (L2.XY h) λσ H Q ⟨ρ,hr,er,wt⟩=>⟨ρ,hr,er,λρ1 x H1 x1 hr1 r1=>?_⟩;have wt':=wt.mono x1 hr1;cases r1 with
  |l i=>exact⟨i,rfl,wt' _ _ _ Ext.refl hr1 rfl⟩
  |_=>exact wt'.elim
 |g _ _ _=>exact lg (zG rfl)
 |d=>exact lg (zG rfl)
def rMs(K:KF)(mg:Str->Option Value)(m:Bool):L2.V->Option Int->Option Int->L2.Hp->L2.VK->Prop:=λx lo hi H Q=>∃ρ s v,HR K mg ρ s H/\RD K mg ρ H v x/\yt K mg (RD K mg) ρ H (uk m v lo hi none s) Q
theorem R0 m:L2.SlR X (rMs X.K X.d m):=by
 intro pins s σ H x v vl vu lo hi sl Q I rx hs pl pu h;obtain⟨ρ,t,w,hr,rw',wt⟩:=h;simp only[uk]at wt;split at wt
 . cases rw' with
   |m n e q=>exact L2.Xk pins s σ H _ v vl vu lo hi sl Q I rx hs pl pu ⟨_,_,rfl,e,uD hr (q.cut lo hi) wt⟩
 . rename_i heq
   cases heq
 . split at wt
   . rename_i e
     obtain⟨p,xs,rfl,hq,q⟩:=vE hr rw' e;exact L2.Xj pins s σ H _ v vl vu lo hi sl Q I rx hs pl pu ⟨_,_,rfl,.of hq,uc hr (q.cut lo hi) wt⟩
   . exact wt.elim
 . rename_i heq
   cases heq
theorem SV{f2 f3 f4:Sto->Out (Option Int)}(h1:L2.PE X a (tV X.K X.d env s o))(h2:∀s1,L2.PO X lo (tO X.K X.d env s1 (f2 s1)))(h3:∀s1,L2.PO X hi (tO X.K X.d env s1 (f3 s1)))
 (h4:∀s1,L2.PO X st (tO X.K X.d env s1 (f4 s1))) (hst:(st=none/\∀s1,f4 s1=.e none s1)\/∃e,st=some e/\∀s1 s2,f4 s1≠.e none s2) :
 L2.PE X (.Subscript a (.Slice lo hi st p2) pos) (tV X.K X.d env s (o.bind λx s1=>(f2 s1).bind λl s2=>(f3 s2).bind λh s3=>(f4 s3).bind λc s4=>uk m x l h c s4)):=by
 cases o with
 |e v s1=>
  have h2':=h2 s1;show L2.PE X _ (tV X.K X.d env s ((f2 s1).bind _));cases hl:f2 s1 with
  |e l s2=>
   rw[hl]at h2';have h3':=h3 s2;show L2.PE X _ (tV X.K X.d env s ((f3 s2).bind _));cases hh:f3 s2 with
   |e h s3=>
    rw[hh]at h3';have h4':=h4 s3;show L2.PE X _ (tV X.K X.d env s ((f4 s3).bind _));rcases hst with⟨rfl,e4⟩|⟨e,rfl,e4⟩
    . rw[e4 s3]
      refine za (L2.aZ (R0 m) h1 h2' h3') λσ H Q ⟨ρ,hr,er,wt⟩=>⟨ρ,hr,er,λρ1 x H1 x1 hr1 r1=>⟨ρ1,hr1,er.mono x1,λρ2 y H2 x2 hr2 r2=>?_⟩⟩;cases r2;refine⟨ρ2,hr2,(er.mono x1).mono x2,λρ3 z H3 x3 hr3 r3=>?_⟩;cases r3;exact⟨ρ3,s3,v,hr3,(r1.mono x2).mono x3,wt.mono ((x1.trans hr1 x2).trans hr2 x3) hr3⟩
    . cases hc:f4 s3 with
      |e cc s4=>
       rw[hc]at h4';cases cc with
       |none=>exact absurd hc (e4 s3 s4)
       |some ci=>
        by_cases hv:∃vs,v=.f vs
        case neg=>
         refine za (L2.jT h1 h2' h3' h4') λσ H Q ⟨ρ,hr,er,wt⟩=>⟨ρ,hr,er,λρ1 x H1 x1 hr1 r1=>⟨ρ1,hr1,er.mono x1,λρ2 y H2 x2 hr2 r2=>?_⟩⟩;cases r2;refine⟨ρ2,hr2,(er.mono x1).mono x2,λρ3 z H3 x3 hr3 r3=>?_⟩;cases r3;refine⟨ρ3,hr3,((er.mono x1).mono x2).mono x3,λρ4 z4 H4 x4 hr4 r4=>?_⟩;cases r4;have wt':yt X.K X.d (RD X.K X.d) ρ4 H4 (uk m v l h (some ci) s4) Q:=wt.mono (((x1.trans hr1 x2).trans hr2 x3).trans hr3 x4) hr4;have em:uk m v l h (some ci) s4=(match yX s4 v with|some vs=>if ci≠0 then newList m (L2.z6 vs (L2.uA vs.length l h ci).1 ci (L2.uA vs.length l h ci).2) s4 else .d|dS=>.d):=by
          cases v with
          |f vs=>exact absurd ⟨vs,rfl⟩ hv
          |_=>rfl
         rw[em]at wt';cases hl:yX s4 v with
         |none=>rw[hl]at wt';exact wt'.elim
         |some vs=>
          rw[hl]at wt';dsimp only at wt';obtain⟨p,xs,rfl,hq,q⟩:=vE hr4 (((r1.mono x2).mono x3).mono x4) hl;by_cases c0:ci≠0
          . have wt2:yt X.K X.d (RD X.K X.d) ρ4 H4 (newList m (L2.z6 vs (L2.uA vs.length l h ci).1 ci (L2.uA vs.length l h ci).2) s4) Q:=by rwa [if_pos c0]at wt'
            refine⟨p,xs,ci,rfl,.of hq,rfl,c0,?_⟩;rw[<-q.length];exact uc hr4 (q.z6 _ _ _) wt2
          . rw[if_neg c0]at wt';exact wt'.elim
        refine za (L2.fv h1 h2' h3' h4') λσ H Q ⟨ρ,hr,er,wt⟩=>⟨ρ,hr,er,λρ1 x H1 x1 hr1 r1=>⟨ρ1,hr1,er.mono x1,λρ2 y H2 x2 hr2 r2=>?_⟩⟩;cases r2;refine⟨ρ2,hr2,(er.mono x1).mono x2,λρ3 z H3 x3 hr3 r3=>?_⟩;cases r3;refine⟨ρ3,hr3,((er.mono x1).mono x2).mono x3,λρ4 z4 H4 x4 hr4 r4=>?_⟩;cases r4;have xx:=((x1.trans hr1 x2).trans hr2 x3).trans hr3 x4;have wt':yt X.K X.d (RD X.K X.d) ρ4 H4 (uk m v l h (some ci) s4) Q:=wt.mono xx hr4;have r:=((r1.mono x2).mono x3).mono x4;cases r with
        |m n e q=>
         change yt X.K X.d (RD X.K X.d) ρ4 H4 (if ci≠0/\(L2.ym (Ed _) l h ci).2<=zO then .e (.f (L2.z6 _ (L2.ym (Ed _) l h ci).1 ci (L2.ym (Ed _) l h ci).2)) s4 else .d) Q at wt'
         split at wt'
         . rename_i hz
           have hlen:=q.length;refine⟨_,_,ci,rfl,e,rfl,hz.1,by rw[<-hlen,<-yp];exact hz.2,?_⟩
           rw[<-hlen];exact uD hr4 (q.z6 _ _ _) wt'
         . exact wt'.elim
        |_=>obtain⟨_,e⟩:=hv;cases e
      |g _ _ _=>exact zK (zG rfl)
      |d=>exact zK (zG rfl)
   |g _ _ _=>exact zK (zG rfl)
   |d=>exact zK (zG rfl)
  |g _ _ _=>exact zK (zG rfl)
  |d=>exact zK (zG rfl)
 |g _ _ _=>exact zK (zG rfl)
 |d=>exact zK (zG rfl)
noncomputable def Mf.nm:Mf->Str
 |.a=>"count"|.b=>"append"|.c=>"extend"|.f=>"pop"|.d=>"index"|.e=>"join"
noncomputable def okM:Mf->Bool
 |.c|.f|.d|.e=>false
 |_=>true
theorem bT{f2:Sto->Out Val}(hm:okM f=true)(hs:nZ a=true)(hp:plain b=true)(hline:(apos.endLine == cpos.line)=true)(h1:L2.PE X a (tV X.K X.d env s o))(h2:∀s1,L2.PE X b (tV X.K X.d env s1 (f2 s1))) :
 L2.PE X (.Call (.Attribute a f.nm apos) [b] [] cpos) (tV X.K X.d env s (o.bind λx s1=>((f2 s1).bind λv s2=>(Out.e [v] s2:Out (List Val))).bind λvs s2=>xF f x vs s2)):=by
 cases o with
 |e v s1=>
  have h2':=h2 s1;show L2.PE X _ (tV X.K X.d env s (((f2 s1).bind λv s2=>(Out.e [v] s2:Out (List Val))).bind λvs s2=>xF f v vs s2));cases hb:f2 s1 with
  |e w s2=>
   rw[hb]at h2';show L2.PE X _ (tV X.K X.d env s (xF f v [w] s2));cases f with
   |a=>
    by_cases hv:∃vs,v=.f vs
    . obtain⟨vs,rfl⟩:=hv
      refine za (L2.ft h1 h2' (uY hs) (zW hp) hline) λσ H Q ⟨ρ,hr,er,wt⟩=>⟨ρ,hr,er,λρ1 x H1 x1 hr1 r1=>?_⟩;cases r1 with
      |m n e q=>
       refine⟨⟨_,_,rfl,e⟩,ρ1,hr1,er.mono x1,λρ2 y H2 x2 hr2 r2=>?_⟩;have wt':yt X.K X.d (RD X.K X.d) ρ2 H2 (xF .a (.f vs) [w] s2) Q:=wt.mono (x1.trans hr1 x2) hr2;simp only[xF]at wt';split at wt'
       . rename_i hf
         rw[cf]at hf;have q2:=q.mono x2;refine⟨_,_,y,rfl,rfl,L2.SqT.of (x2.c _ _ e n.1),r2.flat hf.1,q2.flat hf.2,?_⟩;rw[RDs.countP r2 hf.1 q2 hf.2];exact zL hr2 (.l _) wt'
       . exact wt'.elim
    . refine za (L2.oM h1 h2' (uY hs) (zW hp) hline) λσ H Q ⟨ρ,hr,er,wt⟩=>⟨ρ,hr,er,λρ1 x H1 x1 hr1 r1=>?_⟩
      have wt':yt X.K X.d (RD X.K X.d) ρ1 H1 (xF .a v [w] s2) Q:=wt.mono x1 hr1;have em:xF .a v [w] s2=(match yX s2 v with|some vs=>if M.flat w&&vs.all M.flat then .e (.c (vs.countP λz=>eqF z w:Nat)) s2 else .d|dS=>.d):=by
       cases v with
       |f vs=>exact absurd ⟨vs,rfl⟩ hv
       |_=>rfl
      rw[em]at wt';cases hl:yX s2 v with
      |none=>rw[hl]at wt';exact wt'.elim
      |some vs=>
       rw[hl]at wt'
       -- the receiver is a list already ahead of the argument
       have ty:L2.tyV X.K "list" x H1:=by
        cases r1 with
        |E n e q=>exact .inl ⟨rfl,_,.of e⟩
        |C e k=>
         obtain⟨xs,q⟩:=ka k;exact .inl ⟨rfl,_,.of q⟩
        |_=>cases hl
       refine⟨ty,ρ1,hr1,er.mono x1,λρ2 y H2 x2 hr2 r2=>?_⟩;obtain⟨p,xs,rfl,hq,q⟩:=vE hr2 (r1.mono x2) hl;have wt2:=wt'.mono x2 hr2;simp only at wt2;split at wt2
       . rename_i hf
         rw[cf]at hf;refine⟨_,_,y,rfl,rfl,L2.SqL.of hq,r2.flat hf.1,q.flat hf.2,?_⟩;rw[RDs.countP r2 hf.1 q hf.2];exact zL hr2 (.l _) wt2
       . exact wt2.elim
   |b=>
    cases v with
    |k i=>
     refine za (L2.fq (es:=[]) h1 h2' (uY hs) (zW hp) hline) λσ H Q ⟨ρ,hr,er,wt⟩=>⟨ρ,hr,er,λρ1 x H1 x1 hr1 r1=>?_⟩;cases r1 with
     |C e k=>
      obtain⟨xs,q⟩:=ka k;refine⟨.inl ⟨rfl,_,.of q⟩,ρ1,hr1,er.mono x1,λρ2 y H2 x2 hr2 r2=>?_⟩;have wt':yt X.K X.d (RD X.K X.d) ρ2 H2 (xF .b (.k i) [w] s2) Q:=wt.mono (x1.trans hr1 x2) hr2;simp only[xF]at wt';split at wt'
      . rename_i vs hv
        split at wt'
        . rename_i hz
          obtain⟨b',ys,e1,e2,q2⟩:=hr2.obj i _ hv;have e':=x2.get e;rw[e']at e1;cases e1;refine⟨_,ys,y,rfl,rfl,e2,by rw[<-q2.length,<-yp];exact hz,?_⟩
          exact wt' _ _ _ (Ext.write hr2 e' e2 _) (hr2.write e' e2 (q2.append (.a r2 .d))) .s
        . exact wt'.elim
      . exact wt'.elim
    |_=>exact zK (zG rfl)
   |c=>cases hm
   |f=>cases hm
   |d=>cases hm
   |e=>cases hm
  |g _ _ _=>exact zK (zG rfl)
  |d=>exact zK (zG rfl)
 |g _ _ _=>exact zK (zG rfl)
 |d=>exact zK (zG rfl)
end
def spN(T:Tbl)(K:KF)(mg:Str->Option Value)(n:Nat)(f:Str)(ver:Nat):L2.Sp:=λvs H Q _=>∃ρ s args,HR K mg ρ s H/\RDs K mg ρ H args vs/\yt K mg (RD K mg) ρ H (zE T n f ver args s) Q
structure Callee(T:Tbl)(n:Nat)(X:L2.Cx)(f:Str)(ver:Nat)(F:Fn):Prop where
 a:∃fa fd,X.d f=some (.ref fa)/\B2 X.K (.ref fa)=true/\L2.Binds X.K fd F.b []/\L2.tL X.f X.w X.K X.d X.h L2.CX0 n fa fd F.b (spN T X.K X.d n f ver)
section
variable {X:L2.Cx}{env:Env}{s:Sto}{T:Tbl}{n ver:Nat}{f:Str}{F:Fn}
theorem bP(C:Callee T n X f ver F)(hr0:L2.xW n X.A)(hg:L2.Gl X f)(hd:(f == ("__debug__":Str))=false):L2.PE X (.Call (.Name f p) [] [] pos) (tV X.K X.d env s (zE T n f ver [] s)):=by obtain⟨fa,fd,hm,hk,hb,hf⟩:=C.a;exact za (L2.lU hf hr0 hg hm hk hb .nil L2.WX hd) λσ H Q ⟨ρ,hr,er,wt⟩=>⟨ρ,s,[],hr,.d,wt⟩
theorem Yi(C:Callee T n X f ver F)(hr0:L2.xW n X.A)(hg:L2.Gl X f)(hd:(f == ("__debug__":Str))=false)(hp:zi es=true)(hne:es≠[])(h:L2.PA X es (tVs X.K X.d env s o)) :
 L2.PE X (.Call (.Name f p) es [] pos) (tV X.K X.d env s (o.bind (zE T n f ver))):=by
 obtain⟨fa,fd,hm,hk,hb,hf⟩:=C.a;cases o with
 |e vs s1=>
  cases es with
  |nil=>exact absurd rfl hne
  |cons e es=>
   rw[zi,cf]at hp;refine za (L2.n9 hf hr0 hg hm hk hb .nil L2.WX h hd (L2.zg (zW hp.1)) (xJ hp.2)) λσ H Q ⟨ρ,hr,er,wt⟩=>⟨ρ,hr,er,λρ1 xs H1 x1 hr1 r1=>?_⟩;show spN T X.K X.d n f ver (xs++[]) H1 Q L2.E0;rw[A5];exact⟨ρ1,s1,vs,hr1,r1,wt.mono x1 hr1⟩
 |g _ _ _=>exact zK (zG rfl)
 |d=>exact zK (zG rfl)
end
end M
end
section
namespace M
open PySem
theorem wK:∀{c} {p},(c=true->p)->cond c p True
 |true,_,h=>h rfl
 |false,_,_=>Ba
theorem qE(h:cond c p True)(e:c=true):p:=by subst e;exact h
mutual
theorem Ti:∀(a b:Val),cond (a.beq b) (a=b) True
 |.g,b=>by cases b<;>first|exact(rfl:Val.g=Val.g)|exact Ba
 |.e x,b=>by cases b with|e y=>exact wK λh=>congrArg Val.e (Ct (show (x == y)=true from h))|_=>exact Ba
 |.c x,b=>by cases b with|c y=>exact wK λh=>congrArg Val.c (Ct (show (x == y)=true from h))|_=>exact Ba
 |.h x,b=>by cases b with|h y=>exact wK λh=>congrArg Val.h (Ct (show (x == y)=true from h))|_=>exact Ba
 |.f x,b=>by cases b with|f y=>exact wK λh=>congrArg Val.f (qE (o9 x y) h)|_=>exact Ba
 |.j x,b=>by cases b with|j y=>exact wK λh=>congrArg Val.j (qE (o9 x y) h)|_=>exact Ba
 |.m,b=>by cases b<;>first|exact(rfl:Val.m=Val.m)|exact Ba
 |.l x,b=>by cases b with|l y=>exact wK λh=>congrArg Val.l (Ct (show (x == y)=true from h))|_=>exact Ba
 |.p x,b=>by cases b with|p y=>exact wK λh=>congrArg Val.p (Ct (show (x == y)=true from h))|_=>exact Ba
 |.k x,b=>by cases b with|k y=>exact wK λh=>congrArg Val.k (Ct (show (x == y)=true from h))|_=>exact Ba
 |.q x,b=>by cases b with|q y=>exact wK λh=>congrArg Val.q (Ct (show (x == y)=true from h))|_=>exact Ba
 |.r x,b=>by cases b with|r y=>exact wK λh=>congrArg Val.r (Ct (show (x == y)=true from h))|_=>exact Ba
 |.o x,b=>by cases b with|o y=>exact wK λh=>congrArg Val.o (Ct (show (x == y)=true from h))|_=>exact Ba
theorem o9:∀(a b:List Val),cond (sU a b) (a=b) True
 |[],[]=>(rfl:([]:List Val)=[])
 |[],_::_=>Ba
 |_::_,[]=>Ba
 |x::xs,y::ys=>wK λh=>by have h:(x.beq y&&sU xs ys)=true:=h;rw[cf]at h;rw[qE (Ti x y) h.1,qE (o9 xs ys) h.2]
end
theorem tQ(h:sU a b=true):a=b:=qE (o9 a b) h
mutual
theorem beq_refl:∀a:Val,a.beq a=true
 |.g=>rfl
 |.e x=>(beq_self_eq_true x:(x == x)=true)
 |.c x=>(beq_self_eq_true x:(x == x)=true)
 |.h x=>(beq_self_eq_true x:(x == x)=true)
 |.f x=>uZ x
 |.j x=>uZ x
 |.m=>rfl
 |.l x=>(beq_self_eq_true x:(x == x)=true)
 |.p x=>(beq_self_eq_true x:(x == x)=true)
 |.k x=>(beq_self_eq_true x:(x == x)=true)
 |.q x=>(beq_self_eq_true x:(x == x)=true)
 |.r x=>(beq_self_eq_true x:(x == x)=true)
 |.o x=>(beq_self_eq_true x:(x == x)=true)
theorem uZ:∀a:List Val,sU a a=true
 |[]=>rfl
 |x::xs=>by rw[sU,beq_refl x,uZ xs];rfl
end
section
variable {K:KF}{mg:Str->Option Value}
theorem Mv.refl:Mv ρ H ρ H:=⟨λa o e n=>⟨e,n⟩,λi a e=>e,λ_ _=>rfl⟩
theorem Mv.trans(x:Mv ρ H ρ1 H1)(y:Mv ρ1 H1 ρ2 H2):Mv ρ H ρ2 H2:=
 ⟨λa o e n=>y.b a o (x.b a o e n).1 (x.b a o e n).2,λi a e=>y.c i a (x.c i a e),λa ha=>by obtain⟨i,hi⟩:=Dq ha;exact(y.d a (AE (x.c i a hi))).trans (x.d a ha)⟩
structure Walk(K:KF)(mg:Str->Option Value)(ρ:Own)(H:L2.Hp)(r:Src)(J:L2.It):Prop where
 b:r.a.length<=zO
 c:∀(ρ2:Own) (H2:L2.Hp) (s2:Sto) (i:Nat) (v:Val),Mv ρ H ρ2 H2->HR K mg ρ2 s2 H2->r.ok s2=true->r.a[i]?=some v->J.c i H2/\∀x H3,J.b i H2 x H3->(H3=H2\/∃p o,H2 p=none/\H3=L2.upd H2 p o)/\RD K mg ρ2 H3 v x
 a:∀(ρ2:Own) (H2:L2.Hp) (s2:Sto) (i:Nat),Mv ρ H ρ2 H2->HR K mg ρ2 s2 H2->r.ok s2=true->i=r.a.length->J.a i H2
theorem Walk.mv(w:Walk K mg ρ H r J)(x:Mv ρ H ρ1 H1):Walk K mg ρ1 H1 r J:=
 ⟨w.b,λρ2 H2 s2 i v y=>w.c ρ2 H2 s2 i v (x.trans y),λρ2 H2 s2 i y=>w.a ρ2 H2 s2 i (x.trans y)⟩
def dI(H:L2.Hp):Prop:=∀a xs,(H a=some (.c xs)\/H a=some (.b xs))->xs.length<=As
theorem sA(h:L2.PI X tg it wi):L2.PI X tg it (λσ H R=>wi σ H λJ H1=>dI H1->R J H1):=λpins s σ H R I q=>
 L2.thn (h pins s σ H _ I q) λv s1 h1=>L2.thn h1 λitv s2 ⟨i,fp,tn,J,H',e,I',T,t0,f,r⟩=>⟨i,fp,tn,J,H',e,I',T,t0,f,r λa xs hx=>by
  rcases hx with hx|hx
  . obtain⟨z,_⟩:=(show L2.yL X.f X.w H' s2.heap a (.c xs) from I'.j a _ hx);exact z
  . obtain⟨z,_⟩:=(show L2.yL X.f X.w H' s2.heap a (.b xs) from I'.j a _ hx);exact z⟩
theorem Zl(hz:vs.length<=zO)(n:ρ.no a)(e:H a=some (.c xs))(q:RDs K mg ρ H vs xs):Walk K mg ρ H ⟨vs,none⟩ (L2.Itt K a) where
 b:=hz
 c:=λρ2 H2 s2 i v x hr _ hv=>by have e2:=(x.b a _ e n).1;have q2:=RDs.mv x q;obtain⟨y,h1,h2⟩:=q2.get hv;refine⟨⟨xs,y,.of e2,h1⟩,λz H3 ⟨e3,h3⟩=>⟨.inl e3,?_⟩⟩;subst e3;have:=h3 xs (.of e2);rw[h1]at this;cases this;exact h2
 a:=λρ2 H2 s2 i x hr _ hi=>⟨xs,.of (x.b a _ e n).1,by rw[<-q.length];exact EU hi.symm⟩
theorem Zj(hz:vs.length<=zO)(n:ρ.no a)(e:H a=some (.b xs))(q:RDs K mg ρ H vs xs):Walk K mg ρ H ⟨vs,none⟩ (L2.Itl K a) where
 b:=hz
 c:=λρ2 H2 s2 i v x hr _ hv=>by have e2:=(x.b a _ e n).1;have q2:=RDs.mv x q;obtain⟨y,h1,h2⟩:=q2.get hv;refine⟨⟨xs,y,.of e2,h1⟩,λz H3 ⟨e3,h3⟩=>⟨.inl e3,?_⟩⟩;subst e3;have:=h3 xs (.of e2);rw[h1]at this;cases this;exact h2
 a:=λρ2 H2 s2 i x hr _ hi=>⟨xs,.of (x.b a _ e n).1,by rw[<-q.length];exact EU hi.symm⟩
theorem eY{ns:List Int}(k:KT K a (ns.map L2.V.d)):Walk K mg ρ H ⟨ns.map .c,none⟩ (L2.Itt K a) where
 b:=by obtain⟨o,its,n,_,_,_,h4,h5⟩:=k;have:=h5.length;simp only[Ab,CU]at this;show (ns.map Val.c).length<=_;rw[Ab,yp,this];exact h4
 c:=λρ2 H2 s2 i v x hr _ hv=>by obtain⟨y,h1,h2⟩:=(RDs.ints (K:=K) (mg:=mg) (ρ:=ρ2) (H:=H2) ns).get hv;refine⟨⟨_,y,k.sqt,h1⟩,λz H3 ⟨e3,h3⟩=>⟨.inl e3,?_⟩⟩;subst e3;have:=h3 _ k.sqt;rw[h1]at this;cases this;exact h2
 a:=λρ2 H2 s2 i x hr _ hi=>⟨_,k.sqt,by rw[Ab];rw[hi];simp⟩
theorem Zk(hz:vs.length<=zO)(e:ρ.o[i0]?=some a):Walk K mg ρ H ⟨vs,some i0⟩ (L2.Itl K a) where
 b:=hz
 c:=λρ2 H2 s2 i v x hr ho hv=>by
  simp only[Src.ok]at ho;split at ho
  . rename_i ws hw
    cases tQ ho;obtain⟨b,xs,e1,e2,q⟩:=hr.obj i0 _ hw;rw[x.c _ _ e]at e1;cases e1;obtain⟨y,h1,h2⟩:=q.get hv;refine⟨⟨xs,y,.of e2,h1⟩,λz H3 ⟨e3,h3⟩=>⟨.inl e3,?_⟩⟩;subst e3;have:=h3 xs (.of e2);rw[h1]at this;cases this;exact h2
  . cases ho
 a:=λρ2 H2 s2 i x hr ho hi=>by
  simp only[Src.ok]at ho;split at ho
  . rename_i ws hw
    cases tQ ho;obtain⟨b,xs,e1,e2,q⟩:=hr.obj i0 _ hw;rw[x.c _ _ e]at e1;cases e1;exact⟨xs,.of e2,by rw[<-q.length];exact EU hi.symm⟩
  . cases ho
theorem aw:(yb lo n)[i]?=if i<n then some (.c (lo+i)) else none:=by
 unfold yb;rw[AR];by_cases h:i<n
 . rw[if_pos h,List.getElem?_range h];rfl
 . rw[if_neg h,List.getElem?_eq_none (by rw[Bx];omega)];rfl
theorem ly:(yb lo n).length=n:=by unfold yb;rw[Ab,Bx]
theorem kH(hz:n<=zO):Walk K mg ρ H ⟨yb lo n,none⟩ (L2.Itr lo n) where
 b:=by show (yb lo n).length<=_;rw[ly];exact hz
 c:=λρ2 H2 s2 i v x hr _ hv=>by
  have hv':(yb lo n)[i]?=some v:=hv;rw[aw]at hv';split at hv'
  . rename_i hi
    cases hv';refine⟨hi,λz H3 ⟨e3,h3⟩=>⟨.inl e3,?_⟩⟩;subst h3;exact .l _
  . cases hv'
 a:=λρ2 H2 s2 i x hr _ hi=>by have:i=(yb lo n).length:=hi;rw[ly]at this;exact EU this.symm
theorem vO:∀{vs} {n i:Nat},(yQ n vs)[i]?=(vs[i]?).map λv=>.f [.c ((n+i:Nat):Int),v]
 |[],_,_=>rfl
 |v::vs,n,0=>rfl
 |v::vs,n,i+1=>by show (yQ (n+1) vs)[i]?=(vs[i]?).map _;rw[vO];rw[show n+1+i=n+(i+1) by omega]
theorem wV:∀{vs} {n},(yQ n vs).length=vs.length
 |[],_=>rfl
 |v::vs,n=>by show (yQ (n+1) vs).length+1=_;rw[wV];rfl
theorem eZ(hz:vs.length<=zO)(n:ρ.no a)(e:H a=some (.c xs))(q:RDs K mg ρ H vs xs):Walk K mg ρ H ⟨yQ 0 vs,none⟩ (L2.Ite K a) where
 b:=by show (yQ 0 vs).length<=_;rw[wV];exact hz
 c:=λρ2 H2 s2 i v x hr _ hv=>by have e2:=(x.b a _ e n).1;have q2:=RDs.mv x q;have hv':(yQ 0 vs)[i]?=some v:=hv;rw[vO,A1]at hv';obtain⟨w,h0,rfl⟩:=hv';obtain⟨y,h1,h2⟩:=q2.get h0;refine⟨⟨xs,y,.of e2,h1⟩,λz H3 ⟨t,y',ht,e3,h3,e4⟩=>⟨.inr ⟨t,_,ht,e4⟩,?_⟩⟩;subst e3 e4;have:=h3 xs (.of e2);rw[h1]at this;cases this;have X:=Ext.new hr ht (.c [.d ((i:Nat):Int),y]);refine .m (hr.new ht) L2.zP (.a ?_ (.a (h2.mono X) .d));rw[EV];exact .l _
 a:=λρ2 H2 s2 i x hr _ hi=>⟨xs,.of (x.b a _ e n).1,by rw[<-q.length,hi];exact wV.symm⟩
theorem iA(hz:vs.length<=zO)(n:ρ.no a)(e:H a=some (.b xs))(q:RDs K mg ρ H vs xs):Walk K mg ρ H ⟨yQ 0 vs,none⟩ (L2.Wv K a) where
 b:=by show (yQ 0 vs).length<=_;rw[wV];exact hz
 c:=λρ2 H2 s2 i v x hr _ hv=>by have e2:=(x.b a _ e n).1;have q2:=RDs.mv x q;have hv':(yQ 0 vs)[i]?=some v:=hv;rw[vO,A1]at hv';obtain⟨w,h0,rfl⟩:=hv';obtain⟨y,h1,h2⟩:=q2.get h0;refine⟨⟨xs,y,.of e2,h1⟩,λz H3 ⟨t,y',ht,e3,h3,e4⟩=>⟨.inr ⟨t,_,ht,e4⟩,?_⟩⟩;subst e3 e4;have:=h3 xs (.of e2);rw[h1]at this;cases this;have X:=Ext.new hr ht (.c [.d ((i:Nat):Int),y]);refine .m (hr.new ht) L2.zP (.a ?_ (.a (h2.mono X) .d));rw[EV];exact .l _
 a:=λρ2 H2 s2 i x hr _ hi=>⟨xs,.of (x.b a _ e n).1,by rw[<-q.length,hi];exact wV.symm⟩
def tI(env:Env)(s:Sto)(o:Out Src):L2.TI:=λσ H R=>∃ρ,HR K mg ρ s H/\ER K mg ρ H env σ/\(match o with
 |.e r s'=>∀ρ' H' J,Ext ρ H ρ' H'->HR K mg ρ' s' H'->Walk K mg ρ' H' r J->R J H'
 |_=>False)
end
section
variable {X:L2.Cx}{env:Env}{s:Sto}{a b tg:Expr}
theorem tG{t t':L2.TI}(h:L2.PI X tg it t)(i:∀σ H R,t' σ H R->t σ H R):L2.PI X tg it t':=λpins s σ H R I q=>h pins s σ H R I (i σ H R q)
theorem yZ{o:Out Src}(h:∀v s',o≠.e v s'):L2.PI X tg it (tI (K:=X.K) (mg:=X.d) env s o):=λpins sh σ H R I q=>by
 obtain⟨ρ,_,_,w⟩:=q;cases o with
 |e v s'=>exact(h v s' rfl).elim
 |g _ _ _=>exact w.elim
 |d=>exact w.elim
theorem dI.of(z:dI H){a}(q:RDs K mg ρ H vs xs)(h:H a=some (.c xs)\/H a=some (.b xs)):vs.length<=zO:=by rw[q.length,yp];exact z a xs h
theorem Vn{o:Out Val}(h:L2.PE X a (tV X.K X.d env s o)):L2.PI X tg a (tI (K:=X.K) (mg:=X.d) env s (o.bind λv s1=>match srcOf s1 v with|some r=>.e r s1|dS=>.d)):=by
 cases o with
 |e v s1=>
  show L2.PI X tg a (tI (K:=X.K) (mg:=X.d) env s (match srcOf s1 v with|some r=>.e r s1|dS=>.d))
  cases v with
  |f vs=>
   refine tG (sA (L2.ae h)) λσ H R ⟨ρ,hr,er,w⟩=>⟨ρ,hr,er,λρ1 x H1 x1 hr1 r1=>?_⟩;cases r1 with
   |m n e q=>exact⟨_,rfl,⟨_,.of e⟩,λz=>w ρ1 H1 _ x1 hr1 (Zl (z.of q (.inl e)) n e q)⟩
  |j vs=>
   refine tG (sA (L2.gD h)) λσ H R ⟨ρ,hr,er,w⟩=>⟨ρ,hr,er,λρ1 x H1 x1 hr1 r1=>?_⟩;cases r1 with
   |E n e q=>exact⟨_,rfl,⟨_,.of e⟩,λz=>w ρ1 H1 _ x1 hr1 (Zj (z.of q (.inr e)) n e q)⟩
  |l ns=>
   refine tG (L2.ae h) λσ H R ⟨ρ,hr,er,w⟩=>⟨ρ,hr,er,λρ1 x H1 x1 hr1 r1=>?_⟩;cases r1 with
   |p k=>exact⟨_,rfl,⟨_,k.sqt⟩,w ρ1 H1 _ x1 hr1 (eY k)⟩
  |k i=>
   simp only[srcOf];cases hs:s1[i]? with
   |none=>exact yZ (zG rfl)
   |some cl=>
    cases cl with
    |c vs=>
     refine tG (sA (L2.gD h)) λσ H R ⟨ρ,hr,er,w⟩=>⟨ρ,hr,er,λρ1 x H1 x1 hr1 r1=>?_⟩;cases r1 with
     |C e=>
      obtain⟨b',xs,e1,e2,q⟩:=hr1.obj i _ hs;rw[e]at e1;cases e1;exact⟨_,rfl,⟨_,.of e2⟩,λz=>w ρ1 H1 _ x1 hr1 (Zk (z.of q (.inr e2)) e)⟩
    |_=>exact yZ (zG rfl)
  |_=>exact yZ (zG rfl)
 |g _ _ _=>exact yZ (zG rfl)
 |d=>exact yZ (zG rfl)
theorem fC{o:Out Val}{p pos:Pos}(hp:plain a=true)(hg:L2.Gl X "range")(hm:X.d "range"=none)(h:L2.PE X a (tV X.K X.d env s o)) :
 L2.PI X tg (.Call (.Name "range" p) [a] [] pos) (tI (K:=X.K) (mg:=X.d) env s (o.bind λx s1=>match x with
  |.c j=>if -(2 ^ 62)<=j/\j<=zO then .e ⟨yb 0 j.toNat,dS⟩ s1 else .d
  |_=>.d)):=by
 cases o with
 |e v s1=>
  have st:AJ [a] X.a=[(false,eval a X.a)]:=L2.zg (zW hp);refine tG (L2.fz hg hm (L2.pac h L2.xI (zW hp)) st) λσ H R ⟨ρ,hr,er,w⟩=>⟨ρ,hr,er,λρ1 x H1 x1 hr1 r1=>?_⟩;cases r1 with
  |l j=>
   simp only[zM]at w;by_cases hz:-(2 ^ 62)<=j/\j<=zO
   . rw[if_pos hz]at w
     have hl:(zO:Int)<2 ^ 62:=by decide
     exact⟨j,rfl,hz.1,by omega,w ρ1 H1 _ x1 hr1 (kH (by omega))⟩
   . rw[if_neg hz]at w;exact w.elim
  |_=>exact w.elim
 |g _ _ _=>exact yZ (zG rfl)
 |d=>exact yZ (zG rfl)
theorem fD{o:Out Val}{f2:Sto->Out Val}{p pos:Pos}(hp:plain a=true)(hp2:plain b=true)(hg:L2.Gl X "range")(hm:X.d "range"=none)(h:L2.PE X a (tV X.K X.d env s o))(h2:∀s1,L2.PE X b (tV X.K X.d env s1 (f2 s1))) :
 L2.PI X tg (.Call (.Name "range" p) [a,b] [] pos) (tI (K:=X.K) (mg:=X.d) env s (o.bind λx s1=>(f2 s1).bind λy s2=>match x,y with
  |.c i,.c j=>if -(2 ^ 62)<=i/\i<2 ^ 62∧-(2 ^ 62)<=j/\j<2 ^ 62/\j-i<=zO then .e ⟨yb i (j-i).toNat,dS⟩ s2 else .d
  |_,_=>.d)):=by
 cases o with
 |e v s1=>
  have h2':=h2 s1;simp only[zM];cases hb:f2 s1 with
  |e w s2=>
   rw[hb]at h2';have st2:AJ [b] X.a=[(false,eval b X.a)]:=L2.zg (zW hp2);have st:AJ [a,b] X.a=[(false,eval a X.a),(false,eval b X.a)]:=by rw[L2.zg (zW hp),st2]
   refine tG (L2.eA hg hm (L2.pac h (L2.pac h2' L2.xI (zW hp2)) (zW hp)) st st2) λσ H R ⟨ρ,hr,er,wt⟩=>⟨ρ,hr,er,λρ1 x H1 x1 hr1 r1=>⟨ρ1,hr1,er.mono x1,λρ2 y H2 x2 hr2 r2=>?_⟩⟩;simp only[zM]at wt;cases r1 with
   |l i=>
    cases r2 with
    |l j=>
     simp only at wt;by_cases hz:-(2 ^ 62)<=i/\i<2 ^ 62∧-(2 ^ 62)<=j/\j<2 ^ 62/\j-i<=zO
     . rw[if_pos hz]at wt
       exact⟨i,j,rfl,⟨hz.1,hz.2.1,hz.2.2.1,hz.2.2.2.1⟩,wt ρ2 H2 _ (x1.trans hr1 x2) hr2 (kH (by omega))⟩
     . rw[if_neg hz]at wt;exact wt.elim
    |_=>exact wt.elim
   |_=>exact wt.elim
  |g _ _ _=>exact yZ (zG rfl)
  |d=>exact yZ (zG rfl)
 |g _ _ _=>exact yZ (zG rfl)
 |d=>exact yZ (zG rfl)
theorem Yl{es:List Expr}{k:Nat}{o:Out Val}{p pos tp:Pos}(hp:plain a=true)(hg:L2.Gl X "enumerate")(hm:X.d "enumerate"=none)(h:L2.PE X a (tV X.K X.d env s o)) :
 L2.PI X (.Tuple es k tp) (.Call (.Name "enumerate" p) [a] [] pos) (tI (K:=X.K) (mg:=X.d) env s (o.bind λv s1=>match v with
  |.f vs=>.e ⟨yQ 0 vs,dS⟩ s1
  |.j vs=>.e ⟨yQ 0 vs,dS⟩ s1
  |_=>.d)):=by
 cases o with
 |e v s1=>
  have st:AJ [a] X.a=[(false,eval a X.a)]:=L2.zg (zW hp);refine tG (sA (L2.XW hg hm (L2.pac h L2.xI (zW hp)) st)) λσ H R ⟨ρ,hr,er,w⟩=>⟨ρ,hr,er,λρ1 x H1 x1 hr1 r1=>?_⟩;cases r1 with
  |m n e q=>exact⟨_,rfl,.inl ⟨⟨_,.of e⟩,λz=>w ρ1 H1 _ x1 hr1 (eZ (z.of q (.inl e)) n e q)⟩⟩
  |E n e q=>exact⟨_,rfl,.inr ⟨⟨_,.of e⟩,λz=>w ρ1 H1 _ x1 hr1 (iA (z.of q (.inr e)) n e q)⟩⟩
  |_=>exact w.elim
 |g _ _ _=>exact yZ (zG rfl)
 |d=>exact yZ (zG rfl)
end
end M
end
section
namespace M
open PySem
def sS(K:KF)(mg:Str->Option Value)(t:Tgt)(g:L2.TG):Prop:=∀(ρ:Own) (s:Sto) (H:L2.Hp) (v:Val) (x:L2.V) (env env':Env) (σ:L2.St) (Q:L2.St->L2.Hp->Prop),HR K mg ρ s H->RD K mg ρ H v x->ER K mg ρ H env σ->yk t v env=some env' ->
 (∀σ',ER K mg ρ H env' σ'->Q σ' H)->g x σ H Q
theorem sN:sS K mg (.a i) (L2.wA i):=λρ s H v x env env' σ Q hr r er e q=>by
 cases e;exact q _ (er.set i r)
def nO:List Nat->L2.TGs
 |[]=>L2.T4
 |i::is=>L2.WK (L2.wA i) (nO is)
theorem oI:∀{is} {vs} {xs} {env} {σ},RDs K mg ρ H vs xs->ER K mg ρ H env σ->vs.length=is.length ->
 (∀σ',ER K mg ρ H ((is.zip vs).foldl (λe p=>e.set p.1 (some p.2)) env) σ'->Q σ' H)->nO is xs σ H Q
 |[],[],_,env,σ,.d,er,_,q=>⟨rfl,q σ er⟩
 |[],_::_,_,_,_,_,_,h,_=>by cases h
 |_::_,[],_,_,_,_,_,h,_=>by cases h
 |i::is,v::vs,x::xs,env,σ,.a r rs,er,h,q=>⟨x,xs,rfl,oI rs (er.set i r) (by simpa using h) q⟩
theorem wm:sS K mg (.b is) (L2.T6 K is.length (nO is)):=λρ s H v x env env' σ Q hr r er e q=>by
 simp only[yk]at e;split at e
 . split at e
   . rename_i hl
     cases e;cases r with
     |m n e q2=>exact⟨_,_,rfl,.of e,by rw[<-q2.length];exact hl,oI q2 er hl q⟩
   . cases e
 . cases e
noncomputable def yG(sc:Scope)(N:List Str):List Nat->List Expr->Bool
 |[],[]=>true
 |i::is,.Name x _::es=>decide (N[i]?=some x)&&(decide (sc.names.lookup x=some .local)||decide (sc.names.lookup x=some .cell))&&yG sc N is es
 |_,_=>false
def ckT(sc:Scope)(N:List Str):Tgt->Expr->Bool
 |.a i,.Name x _=>decide (N[i]?=some x)&&(decide (sc.names.lookup x=some .local)||decide (sc.names.lookup x=some .cell))
 |.b is,.Tuple es _ _=>yG sc N is es&&decide (es≠[])
 |_,_=>false
section
variable {X:L2.Cx}
structure Scp(sc:Scope)(N:List Str)(X:L2.Cx):Prop where
 a:X.N=N
 d:N.Nodup
 e:∀x,sc.names.lookup x=some .local\/sc.names.lookup x=some .cell\/sc.names.lookup x=some .free->L2.Vis X.a.scope x
 c:∀x,sc.names.lookup x=some .local\/sc.names.lookup x=some .cell->L2.Loc X.a.scope x/\(X.n x=true\/X.a.scope.names.lookup x=some .local)
 b:∀x,sc.names.lookup x=some .globalImplicit->L2.Gl X x
 f:∀x,sc.names.lookup x=some .cell\/sc.names.lookup x=some .free->X.a.kindOf x=some .cell\/X.a.kindOf x=some .free
theorem oN(S:Scp sc N X)(h1:N[i]?=some x)(h2:sc.names.lookup x=some .local\/sc.names.lookup x=some .cell):L2.PG X (.Name x p) (L2.wA i):=by obtain⟨a,b⟩:=S.c x h2;exact L2.XS (by rw[S.a];exact S.d) (by rw[S.a];exact h1) a b
theorem xU(S:Scp sc N X):∀{is} {es},yG sc N is es=true->L2.PGs X es (nO is)/\(CC es X.a).length=is.length/\(CC es X.a).findIdx? (·.1)=none
 |[],[],_=>⟨L2.XU,rfl,rfl⟩
 |[],_::_,h=>by cases h
 |_::_,[],h=>by cases h
 |i::is,e::es,h=>by
  cases e with
  |Name x p=>
   simp only[yG,cf,Ax,decide_eq_true_eq]at h;obtain⟨a,b,c⟩:=xU S h.2;refine⟨L2.aa (oN S h.1.1 h.1.2) a,?_,?_⟩
   . show (CC es X.a).length+1=is.length+1
     rw[b]
   . show List.findIdx? (·.1) ((false,assign (.Name x p) X.a)::CC es X.a)=none
     rw[List.findIdx?_cons];simp only[AO,if_false];rw[c];rfl
  |_=>cases h
theorem RT(S:Scp sc N X)(hc:X.j=true)(h:ckT sc N t e=true):∃g,L2.PG X e g/\sS X.K X.d t g:=by
 cases t with
 |a i=>
  cases e with
  |Name x p=>
   simp only[ckT,cf,Ax,decide_eq_true_eq]at h;exact⟨_,oN S h.1 h.2,sN⟩
  |_=>cases h
 |b is=>
  cases e with
  |Tuple es k p=>
   simp only[ckT,cf,decide_eq_true_eq]at h;obtain⟨a,b,c⟩:=xU S h.1;exact⟨_,L2.tF hc a b c,wm⟩
  |_=>cases h
end
structure Lp(acc:Addr)(ρ:Own)(H:L2.Hp)(ρ':Own)(H':L2.Hp):Prop where
 f:∃new:List Addr,ρ'.o=ρ.o++new/\∀a∈new,H a=none
 c:ρ'.h=acc::ρ.h
 d:∀(a:Addr) (o:L2.HO),H a=some o->a ∉ ρ.o->H' a=some o
 g:∀a∈ρ.o,hk (H' a)=hk (H a)
section
variable {K:KF}{mg:Str->Option Value}{ρ ρ1 ρ2:Own}{H H1 H2:L2.Hp}{s s1:Sto}{acc:Addr}
noncomputable def Own.hide(ρ:Own)(acc:Addr):Own:=⟨ρ.o,acc::ρ.h⟩
theorem nR(hr:HR K mg ρ s H)(hn:H acc=none)o:Mv ρ H (ρ.hide acc) (L2.upd H acc o):=
 ⟨λa u e n=>⟨by rw[L2.zJ (L2.zT e hn)];exact e,n.1,λhm=>by
  rcases Aj.mp hm with z|z
  . exact L2.zT e hn z
  . exact n.2 z⟩,λi a e=>e,λa ha=>by rw[L2.zJ λz=>(hr.new hn).1 (by rw[<-z];exact ha)]⟩
theorem HR.hide(hr:HR K mg ρ s H)(hn:H acc=none):HR K mg (ρ.hide acc) s (L2.upd H acc (.b xs)):=by
 refine⟨hr.f,hr.v,λi c e=>?_,λa ha=>?_⟩
 . obtain⟨a,e1,q⟩:=hr.m i c e
   obtain⟨o,e2⟩:=q.there;exact⟨a,e1,q.mv (nR hr hn _) (L2.zJ (L2.zT e2 hn))⟩
 . rcases Aj.mp ha with z|z
   . subst z;exact⟨⟨xs,L2.zP⟩,(hr.new hn).1⟩
   . obtain⟨⟨ys,e⟩,n⟩:=hr.d a z
     exact⟨⟨ys,by rw[L2.zJ (L2.zT e hn)];exact e⟩,n⟩
theorem Lp.start(hr:HR K mg ρ s H)(hn:H acc=none)o:Lp acc ρ H (ρ.hide acc) (L2.upd H acc o):=
 ⟨⟨[],by simp[Own.hide],λa ha=>by cases ha⟩,rfl,λa u e _=>by rw[L2.zJ (L2.zT e hn)];exact e,(nR hr hn o).d⟩
theorem Lp.step(l:Lp acc ρ H ρ1 H1)(hr:HR K mg ρ1 s1 H1)(x:Ext ρ1 H1 ρ2 H2):Lp acc ρ H ρ2 H2:=by
 obtain⟨new,e1,hn⟩:=l.f;obtain⟨new2,e2,hn2⟩:=x.d;refine⟨⟨new++new2,by rw[e2,e1,Bo],λa ha=>?_⟩,x.f.trans l.c,λa o e n=>x.c a o (l.d a o e n) ?_,λa ha=>(x.g a (by rw[e1];exact Bp _ ha)).trans (l.g a ha)⟩
 . rcases AS.mp ha with ha|ha
   . exact hn a ha
   . cases q:H a with
     |none=>rfl
     |some o=>
      by_cases hm:a∈ρ.o
      . obtain⟨xs,e⟩:=hr.trk (a:=a) (by rw[e1];exact Bp _ hm)
        rw[hn2 a ha]at e;cases e
      . have:=l.d a o q hm
        rw[hn2 a ha]at this;cases this
 . rw[e1]
   intro hm;rcases AS.mp hm with hm|hm
   . exact n hm
   . rw[hn a hm]at e;cases e
theorem Lp.emit(l:Lp acc ρ H ρ1 H1)(hr:HR K mg ρ1 s1 H1)(hn:H acc=none)o:Lp acc ρ H ρ1 (L2.upd H1 acc o):=
 ⟨l.f,l.c,λa u e n=>by rw[L2.zJ (L2.zT e hn)];exact l.d a u e n,λa ha=>by
  obtain⟨new,e1,_⟩:=l.f;rw[L2.zJ λz=>(hr.d acc (by rw[l.c];exact Ap)).2 (by rw[<-z,e1];exact Bp _ ha)]
  exact l.g a ha⟩
theorem Lp.here(l:Lp acc ρ H ρ1 H1):acc∈ρ1.h:=by rw[l.c];exact Ap
theorem ij(hr:HR K mg ρ1 s1 H1)(ha:acc∈ρ1.h)o:Mv ρ1 H1 ρ1 (L2.upd H1 acc o):=
 ⟨λa u e n=>⟨by rw[L2.zJ (λz=>n.2 (by rw[z];exact ha))];exact e,n⟩,λi a e=>e,λa h=>by rw[L2.zJ λz=>(hr.d acc ha).2 (by rw[<-z];exact h)]⟩
theorem HR.emit(hr:HR K mg ρ1 s1 H1)(ha:acc∈ρ1.h):HR K mg ρ1 s1 (L2.upd H1 acc (.b xs)):=by
 have hno:=(hr.d acc ha).2;refine⟨hr.f,hr.v,λi c e=>?_,λa hm=>?_⟩
 . obtain⟨a,e1,q⟩:=hr.m i c e
   exact⟨a,e1,q.mv (ij hr ha _) (L2.zJ (λz=>hno (by rw[<-z];exact AE e1)))⟩
 . obtain⟨⟨ys,e⟩,n⟩:=hr.d a hm
   by_cases z:a=acc
   . subst z;exact⟨⟨xs,L2.zP⟩,n⟩
   . exact⟨⟨ys,by rw[L2.zJ z];exact e⟩,n⟩
theorem Lp.done(l:Lp acc ρ H ρ1 H1)(h0:HR K mg ρ s H)(hn:H acc=none)(hr:HR K mg ρ1 s1 H1)(e:H1 acc=some (.b ys))(q:RDs K mg ρ1 H1 vs ys)(w:yt K mg (RD K mg) ρ H (newList m vs s1) Q):Q (.c acc) H1:=by
 have ha:=l.here;have hacc:=(hr.d acc ha).2;have hnh:=(h0.new hn).2;cases m with
 |false=>
  have mv:Mv ρ1 H1 ⟨ρ1.o,ρ.h⟩ H1:=⟨λa u e n=>⟨e,n.1,λz=>n.2 (by rw[l.c];exact Ah _ z)⟩,λi a e=>e,λ_ _=>rfl⟩
  refine w ⟨ρ1.o,ρ.h⟩ _ H1 ⟨l.f,rfl,l.d,l.g⟩ ⟨hr.f,hr.v,λi ws e=>?_,λa hm=>?_⟩ (.E ⟨hacc,hnh⟩ e (RDs.mv mv q))
  . obtain⟨a,e1,t⟩:=hr.m i ws e
    exact⟨a,e1,t.mv mv rfl⟩
  . exact hr.d a (by rw[l.c];exact Ah _ hm)
 |true=>
  have mv:Mv ρ1 H1 ⟨ρ1.o++[acc],ρ.h⟩ H1:=by
   refine⟨λa u e n=>⟨e,λhm=>?_,λz=>n.2 (by rw[l.c];exact Ah _ z)⟩,λi a e=>?_,λ_ _=>rfl⟩
   . rcases AS.mp hm with hm|hm
     . exact n.1 hm
     . rw[Av.mp hm]at n;exact n.2 ha
   . show (ρ1.o++[acc])[i]?=_
     rw[AU (Am.mp e).1];exact e
  have rf:(ρ1.o++[acc])[s1.length]?=some acc:=by rw[<-hr.f,A7 (Ac _)];simp
  refine w ⟨ρ1.o++[acc],ρ.h⟩ _ H1 ⟨?_,rfl,l.d,l.g⟩ ⟨?_,?_,λi ws q'=>?_,λa hm=>?_⟩ (.C rf (by rw[e];rfl))
  . obtain⟨new,e1,hnew⟩:=l.f
    refine⟨new++[acc],by show ρ1.o++[acc]=_;rw[e1,Bo],λa hm=>?_⟩
    rcases AS.mp hm with hm|hm
    . exact hnew a hm
    . rw[Av.mp hm];exact hn
  . show (ρ1.o++[acc]).length=(s1++[Cel.c vs]).length
    rw[Al,Al,hr.f];rfl
  . show (ρ1.o++[acc]).Nodup
    rw[FH];exact⟨hr.v,by simp,λa ha' b hb=>by rw[Av.mp hb];intro z;subst z;exact hacc ha'⟩
  . by_cases hi:i<s1.length
    . rw[AU hi]at q'
      obtain⟨a,e1,t⟩:=hr.m i ws q';exact⟨a,mv.c i a e1,t.mv mv rfl⟩
    . have hi':i=s1.length:=by have:=(Am.mp q').1;rw[Al]at this;simp at this;omega
      subst hi';rw[A7 (Ac _)]at q';simp at q';subst q';exact⟨acc,rf,ys,e,RDs.mv mv q⟩
  . obtain⟨x,n⟩:=hr.d a (by rw[l.c];exact Ah _ hm)
    refine⟨x,λz=>?_⟩;rcases AS.mp z with z|z
    . exact n z
    . rw[Av.mp z]at hm;exact hnh hm
end
end M
end
section
namespace M
open PySem
section
variable {K:KF}{mg:Str->Option Value}
theorem mz{J:L2.It}{g:L2.TG}{tb:L2.TS}{D:L2.Ends}(Pv:Nat->L2.St->L2.Hp->Prop)(h0:Pv 0 σ H)(hd:∀σ H,Pv n σ H->J.a n H/\D.a σ H)
 (hs:∀i σ H,i<n->Pv i σ H->J.c i H/\∀x H',J.b i H x H'->g x σ H' λσ2 H2=>tb {D with a:=Pv (i+1),d:=Pv (i+1),c:=D.a} σ2 H2):L2.oP J g tb D σ H:=by
 refine⟨λi m σ H=>m=n-i/\i<=n/\Pv i σ H,⟨n,by simp,BC _,h0⟩,?_⟩
 rintro i m σ H ⟨rfl,hi,p⟩;by_cases hlt:i<n
 . obtain⟨a,b⟩:=hs i σ H hlt p
   exact .inr ⟨a,Pv (i+1),λσ' H' p'=>⟨n-(i+1),by omega,rfl,hlt,p'⟩,b⟩
 . have e:i=n:=by omega
   subst e;exact .inl (hd σ H p)
structure CS(K:KF)(mg:Str->Option Value)(acc:Addr)(ρ0:Own)(H0:L2.Hp)(a:List Val)(s:Sto)(env:Env)(ρ:Own)(σ:L2.St)(H:L2.Hp):Prop where
 d:Lp acc ρ0 H0 ρ H
 b:HR K mg ρ s H
 c:ER K mg ρ H env σ
 e:∃ys,H acc=some (.b ys)/\RDs K mg ρ H a ys
def Grows(body:Env->Sto->List Val->Out (List Val × Env)):Prop:=∀e s a p s',body e s a=.e p s'->a.length<=p.1.length
theorem uH(hb:Grows body):∀{xs} {env} {s} {a} {p} {s'},yl r t body xs env s a=.e p s'->a.length<=p.1.length
 |[],env,s,a,p,s',h=>by
  rw[yl]at h;split at h
  . cases h;exact Ac _
  . cases h
 |x::xs,env,s,a,p,s',h=>by
  rw[yl]at h;split at h
  . split at h
    . cases h
    . rename_i env' he
      cases hc:body env' s a with
      |e q s1=>
       rw[hc]at h;exact AD (hb _ _ _ _ _ hc) (uH hb h)
      |g _ _ _=>rw[hc]at h;cases h
      |d=>rw[hc]at h;cases h
  . cases h
def BodyOk(K:KF)(mg:Str->Option Value)(acc:Addr)(ρ0:Own)(H0:L2.Hp)(body:Env->Sto->List Val->Out (List Val × Env))(tb:L2.TS):Prop:=
 ∀(ρ:Own) (s:Sto) (H:L2.Hp) (env:Env) (σ:L2.St) (a:List Val) (p:List Val × Env) (s':Sto) (D:L2.Ends),CS K mg acc ρ0 H0 a s env ρ σ H->body env s a=.e p s'->p.1.length<=zO ->
  (∀ρ' H' σ',CS K mg acc ρ0 H0 p.1 s' p.2 ρ' σ' H'->Mv ρ H ρ' H'->D.a σ' H')->tb D σ H
theorem vM
   (W:Walk K mg ρ H r J) (TG:sS K mg t g) (hg:Grows body) (hb:BodyOk K mg acc ρ0 H0 body tb)
 (C:CS K mg acc ρ0 H0 a s env ρ σ H) (h:yl r t body r.a env s a=.e p sf) (hz:p.1.length<=zO) (fin:∀ρ' H' σ',CS K mg acc ρ0 H0 p.1 sf p.2 ρ' σ' H'->Mv ρ H ρ' H'->D.a σ' H'):L2.oP J g tb D σ H:=by
 refine mz (n:=r.a.length) (λi σ2 H2=>∃ρ2 s2 env2 a2,CS K mg acc ρ0 H0 a2 s2 env2 ρ2 σ2 H2/\Mv ρ H ρ2 H2/\yl r t body (r.a.drop i) env2 s2 a2=.e p sf) ⟨ρ,s,env,a,C,Mv.refl,by rw[E1];exact h⟩ ?_ ?_
 . rintro σ2 H2 ⟨ρ2,s2,env2,a2,C2,mv,h2⟩
   rw[List.drop_length,yl]at h2;split at h2
   . rename_i ho
     cases h2;exact⟨W.a ρ2 H2 _ _ mv C2.b ho rfl,fin ρ2 H2 σ2 C2 mv⟩
   . cases h2
 . rintro i σ2 H2 hi ⟨ρ2,s2,env2,a2,C2,mv,h2⟩
   rw[DG hi,yl]at h2;split at h2
   . rename_i ho
     obtain⟨hgo,hy⟩:=W.c ρ2 H2 s2 i (r.a[i]) mv C2.b ho (Aa hi);refine⟨hgo,λx H3 y=>?_⟩;obtain⟨hH,rx⟩:=hy x H3 y;split at h2
     . cases h2
     . rename_i env' he
       -- the item is there: perhaps a new thing
       have C3:CS K mg acc ρ0 H0 a2 s2 env2 ρ2 σ2 H3/\Mv ρ2 H2 ρ2 H3:=by
        rcases hH with e|⟨q,o,hq,e⟩
        . subst e;exact⟨C2,Mv.refl⟩
        . subst e
          have X:=Ext.new C2.b hq o;refine⟨⟨C2.d.step C2.b X,C2.b.more hq o,C2.c.mono X,?_⟩,X.mv⟩;obtain⟨ys,e1,e2⟩:=C2.e;exact⟨ys,by rw[L2.zJ (L2.zT e1 hq)];exact e1,e2.mono X⟩
       refine TG ρ2 s2 H3 _ x env2 env' σ2 _ C3.1.b rx C3.1.c he λσ4 er4=>?_;cases hc:body env' s2 a2 with
       |e q s5=>
        rw[hc]at h2;have hlen:q.1.length<=zO:=AD (uH hg h2) hz;exact hb ρ2 s2 H3 env' σ4 a2 q s5 _ ⟨C3.1.d,C3.1.b,er4,C3.1.e⟩ hc hlen λρ5 H5 σ5 C5 mv5=>⟨ρ5,s5,q.2,q.1,C5,(mv.trans C3.2).trans mv5,h2⟩
       |g _ _ _=>rw[hc]at h2;cases h2
       |d=>rw[hc]at h2;cases h2
   . cases h2
end
section
variable (K:KF)(mg:Str->Option Value)(Φ:Calls)(G:Str->Option Val)
def uE(e:Ex):L2.TE:=λσ H Q=>∃env s,tV K mg env s (evE Φ G env e s) σ H Q
def uT(e:Cn):L2.TT:=λσ H Q=>∃env s,tT K mg env s (evT Φ G env e s) σ H Q
def uI(it:Itb):L2.TI:=λσ H R=>∃env s,tI (K:=K) (mg:=mg) env s (yh Φ G env it s) σ H R
noncomputable def uTs:Cns->List L2.TT
 |.a=>[]
 |.b e es=>uT K mg Φ G e::uTs es
end
section
variable {K:KF}{mg:Str->Option Value}{Φ:Calls}{G:Str->Option Val}
theorem XQ(h:∀env s,L2.PE X E (tV X.K X.d env s (evE Φ G env e s))):L2.PE X E (uE X.K X.d Φ G e):=λpins s σ H Q I ⟨env,t,q⟩=>h env t pins s σ H Q I q
theorem RY(h:∀env s,L2.PT X E (tT X.K X.d env s (evT Φ G env e s))):L2.PT X E (uT X.K X.d Φ G e):=λpins s σ H Q I ⟨env,t,q⟩=>h env t pins s σ H Q I q
theorem jU(h:∀env s,L2.PI X tg E (tI (K:=X.K) (mg:=X.d) env s (yh Φ G env it s))):L2.PI X tg E (uI X.K X.d Φ G it):=λpins s σ H Q I ⟨env,t,q⟩=>h env t pins s σ H Q I q
theorem pA:∀{es} {ρ} {s} {H},HR K mg ρ s H->ER K mg ρ H env σ->xH Φ G env es s=.e b s2 ->
 (∀ρ' H',Ext ρ H ρ' H'->HR K mg ρ' s2 H'->Q b H')->L2.mL (uTs K mg Φ G es) σ H Q
 |.a,ρ,s,H,hr,er,h,q=>by
  rw[xH]at h;cases h;exact q ρ H Ext.refl hr
 |.b e es,ρ,s,H,hr,er,h,q=>by
  rw[xH]at h;refine⟨env,s,ρ,hr,er,?_⟩;cases hc:evT Φ G env e s with
  |e c s1=>
   rw[hc]at h;intro ρ1 c' H1 x1 hr1 e1;cases e1;cases c with
   |true=>exact L2.qS (pA hr1 (er.mono x1) h λρ' H' x' hr'=>q ρ' H' (x1.trans hr1 x') hr')
   |false=>
    simp only[zM]at h;cases h;exact L2.tu (q ρ1 H1 x1 hr1)
  |g _ _ _=>rw[hc]at h;cases h
  |d=>rw[hc]at h;cases h
def uv(Φ:Calls)(G:Str->Option Val)(elt:Ex)(ifs:Cns):Env->Sto->List Val->Out (List Val × Env):=λe s' acc=>(xH Φ G e ifs s').bind λb s2=>if b then (evE Φ G e elt s2).bind λv s3=>.e (acc++[v],e) s3 else .e (acc,e) s2
theorem vB:Grows (uv Φ G elt ifs):=by
 intro e s a p s' h;unfold uv at h;cases hc:xH Φ G e ifs s with
 |e b s1=>
  rw[hc]at h;cases b with
  |true=>
   simp only[zM,if_true]at h;cases hv:evE Φ G e elt s1 with
   |e v s2=>rw[hv]at h;cases h;simp
   |g _ _ _=>rw[hv]at h;cases h
   |d=>rw[hv]at h;cases h
  |false=>simp only[zM]at h;cases h;exact Ac _
 |g _ _ _=>rw[hc]at h;cases h
 |d=>rw[hc]at h;cases h
theorem pD(hn:H0 acc=none):BodyOk K mg acc ρ0 H0 (uv Φ G elt ifs) (L2.tTB (uTs K mg Φ G ifs) (L2.uu acc (uE K mg Φ G elt))):=by
 intro ρ s H env σ a p s' D C h hz q;unfold uv at h;cases hc:xH Φ G env ifs s with
 |e b s1=>
  rw[hc]at h;refine pA (ρ:=ρ) (s:=s) C.b C.c hc λρ1 H1 x1 hr1=>?_;have hacc1:∃ys,H1 acc=some (.b ys)/\RDs K mg ρ1 H1 a ys:=by obtain⟨ys,e1,e2⟩:=C.e;exact⟨ys,x1.c _ _ e1 (C.b.d acc C.d.here).2,e2.mono x1⟩
  cases b with
  |true=>
   simp only[zM,if_true]at h;refine L2.qS ⟨env,s1,ρ1,hr1,C.c.mono x1,?_⟩;cases hv:evE Φ G env elt s1 with
   |e v s2=>
    rw[hv]at h;cases h;intro ρ2 y H2 x2 hr2 r2;have xx:=x1.trans hr1 x2;have lp2:=C.d.step C.b xx;obtain⟨ys,e1,e2⟩:=hacc1;have e3:H2 acc=some (.b ys):=x2.c _ _ e1 (hr1.d acc (C.d.step C.b x1).here).2;have e4:=e2.mono x2;have hl:ys.length<As:=by have h1:(a++[v]).length<=zO:=hz;rw[Al,e2.length,yp]at h1;simp at h1;omega
    have mv2:=ij (H1:=H2) hr2 lp2.here (.b (ys++[y]));refine⟨ys,e3,hl,q ρ2 _ σ ⟨lp2.emit hr2 hn _,hr2.emit lp2.here,⟨C.c.b,λi v' e'=>?_⟩,⟨_,L2.zP,RDs.mv mv2 (e4.append (.a r2 .d))⟩⟩ (xx.mv.trans mv2)⟩;obtain⟨u,h1,h2⟩:=(C.c.mono xx).a i v' e';exact⟨u,h1,RD.mv mv2 h2⟩
   |g _ _ _=>rw[hv]at h;cases h
   |d=>rw[hv]at h;cases h
  |false=>
   simp only[zM]at h;cases h;exact L2.tu (q ρ1 H1 σ ⟨C.d.step C.b x1,hr1,C.c.mono x1,hacc1⟩ x1.mv)
 |g _ _ _=>rw[hc]at h;cases h
 |d=>rw[hc]at h;cases h
def rD(Φ:Calls)(G:Str->Option Val)(elt:Ex)(ifs:Cns)(t2:Tgt)(it2:Itb)(ifs2:Cns):Env->Sto->List Val->Out (List Val × Env):=λe s' acc=>(xH Φ G e ifs s').bind λb s2=>if b then (yh Φ G e it2 s2).bind λr2 s3=>
 yl r2 t2 (uv Φ G elt ifs2) r2.a e s3 acc
 else .e (acc,e) s2
theorem sO:Grows (rD Φ G elt ifs t2 it2 ifs2):=by
 intro e s a p s' h;unfold rD at h;cases hc:xH Φ G e ifs s with
 |e b s1=>
  rw[hc]at h;cases b with
  |true=>
   simp only[zM,if_true]at h;cases hv:yh Φ G e it2 s1 with
   |e v s2=>rw[hv]at h;exact uH vB h
   |g _ _ _=>rw[hv]at h;cases h
   |d=>rw[hv]at h;cases h
  |false=>simp only[zM]at h;cases h;exact Ac _
 |g _ _ _=>rw[hc]at h;cases h
 |d=>rw[hc]at h;cases h
theorem oZ(hn:H0 acc=none)(TG:sS K mg t2 g2) :
 BodyOk K mg acc ρ0 H0 (rD Φ G elt ifs t2 it2 ifs2) (L2.tTB (uTs K mg Φ G ifs) (L2.q0 (uI K mg Φ G it2) g2 (uTs K mg Φ G ifs2) (L2.uu acc (uE K mg Φ G elt)))):=by
 intro ρ s H env σ a p s' D C h hz q;unfold rD at h;cases hc:xH Φ G env ifs s with
 |e b s1=>
  rw[hc]at h;refine pA (ρ:=ρ) (s:=s) C.b C.c hc λρ1 H1 x1 hr1=>?_;have hacc1:∃ys,H1 acc=some (.b ys)/\RDs K mg ρ1 H1 a ys:=by obtain⟨ys,e1,e2⟩:=C.e;exact⟨ys,x1.c _ _ e1 (C.b.d acc C.d.here).2,e2.mono x1⟩
  have lp1:=C.d.step C.b x1;cases b with
  |true=>
   simp only[zM,if_true]at h;refine L2.qS ⟨env,s1,ρ1,hr1,C.c.mono x1,?_⟩;cases hv:yh Φ G env it2 s1 with
   |e r2 s2=>
    rw[hv]at h;intro ρ2 H2 J x2 hr2 W;have xx:=x1.trans hr1 x2;obtain⟨ys,e1,e2⟩:=hacc1;have e3:H2 acc=some (.b ys):=x2.c _ _ e1 (hr1.d acc lp1.here).2;exact vM W TG vB (pD hn) ⟨lp1.step hr1 x2,hr2,C.c.mono xx,⟨ys,e3,e2.mono x2⟩⟩ h hz λρ3 H3 σ3 C3 mv3=>q ρ3 H3 σ3 C3 (xx.mv.trans mv3)
   |g _ _ _=>rw[hv]at h;cases h
   |d=>rw[hv]at h;cases h
  |false=>
   simp only[zM]at h;cases h;exact L2.tu (q ρ1 H1 σ ⟨lp1,hr1,C.c.mono x1,hacc1⟩ x1.mv)
 |g _ _ _=>rw[hc]at h;cases h
 |d=>rw[hc]at h;cases h
theorem eP(er:ER K mg ρ H env σ)fr:ER K mg ρ H (zR fr env) (L2.zR fr σ):=by
 refine⟨by unfold zR L2.zR;rw[Ab,Ab],λi v e=>?_⟩
 unfold zR at e;unfold L2.zR;rw[AR]at e ⊢;cases hf:fr[i]? with
 |none=>rw[hf]at e;cases e
 |some o=>
  rw[hf]at e;cases o with
  |none=>cases e
  |some j=>
   have e':(env[j]?).join=some v:=AA e;have e2:env[j]?=some (some v):=by
    cases h1:env[j]? with
    |none=>rw[h1]at e';cases e'
    |some w=>rw[h1]at e';have:w=some v:=e';rw[this]
   obtain⟨x,h1,h2⟩:=er.a j v e2;refine⟨x,?_,h2⟩;show some ((σ[j]?).join)=_;rw[h1];rfl
theorem ua(TG:sS K mg t g)(hg:Grows body)
 (hb:∀acc ρ0 H0,H0 acc=none->BodyOk K mg acc ρ0 H0 body (L2.tTB ts (tb acc)))    
 (h:tV K mg env s ((yh Φ G env it s).bind λr s1=>(yl r t body r.a (zR fr env) s1 []).bind λp s2=>if chk=true->p.1.length<=zO then newList m p.1 s2 else .d) σ H Q)
 (hlen:chk=false->∀r s1 p s2,yl r t body r.a (zR fr env) s1 []=.e p s2->p.1.length<=r.a.length):L2.uP fr (uI K mg Φ G it) g ts tb σ H Q:=by
 obtain⟨ρ,hr,er,w⟩:=h;refine⟨env,s,ρ,hr,er,?_⟩;cases hi:yh Φ G env it s with
 |e r s1=>
  rw[hi]at w;simp only[zM]at w;intro ρ1 H1 J x1 hr1 W acc hacc;cases hl:yl r t body r.a (zR fr env) s1 [] with
  |e p s2=>
   rw[hl]at w;simp only[zM]at w;have hz:p.1.length<=zO/\yt K mg (RD K mg) ρ H (newList m p.1 s2) Q:=by
    by_cases hc:chk=true->p.1.length<=zO
    . rw[if_pos hc]at w
      refine⟨?_,w⟩;cases chk with
      |true=>exact hc rfl
      |false=>exact AD (hlen rfl r s1 p s2 hl) W.b
    . rw[if_neg hc]at w;exact w.elim
   have mv:=nR (ρ:=ρ1) hr1 hacc (.b []);have ers:=eP (er.mono x1) fr;refine vM (ρ0:=ρ1) (H0:=H1) (W.mv mv) TG hg (hb acc ρ1 H1 hacc) ⟨Lp.start hr1 hacc _,hr1.hide hacc,⟨ers.b,λi v e=>?_⟩,⟨[],L2.zP,.d⟩⟩ hl hz.1 λρ3 H3 σ3 C3 _=>?_
   . obtain⟨x,h1,h2⟩:=ers.a i v e
     exact⟨x,h1,RD.mv mv h2⟩
   . obtain⟨ys,e1,e2⟩:=C3.e
     exact C3.d.done hr1 hacc C3.b e1 e2 (hz.2.mono x1 hr1)
  |g _ _ _=>rw[hl]at w;exact w.elim
  |d=>rw[hl]at w;exact w.elim
 |g _ _ _=>rw[hi]at w;exact w.elim
 |d=>rw[hi]at w;exact w.elim
theorem rE:∀{xs} {env} {s} {a} {p} {s'},yl r t (uv Φ G elt ifs) xs env s a=.e p s'->p.1.length<=a.length+xs.length
 |[],env,s,a,p,s',h=>by
  rw[yl]at h;split at h
  . cases h;exact Ac _
  . cases h
 |x::xs,env,s,a,p,s',h=>by
  rw[yl]at h;split at h
  . split at h
    . cases h
    . rename_i env' he
      cases hc:uv Φ G elt ifs env' s a with
      |e q s1=>
       rw[hc]at h;have h1:=rE h;have h2:q.1.length<=a.length+1:=by
        unfold uv at hc;cases h3:xH Φ G env' ifs s with
        |e b s2=>
         rw[h3]at hc;cases b with
         |true=>
          simp only[zM,if_true]at hc;cases h4:evE Φ G env' elt s2 with
          |e v s3=>rw[h4]at hc;cases hc;simp
          |g _ _ _=>rw[h4]at hc;cases hc
          |d=>rw[h4]at hc;cases hc
         |false=>simp only[zM]at hc;cases hc;exact C8 _
        |g _ _ _=>rw[h3]at hc;cases hc
        |d=>rw[h3]at hc;cases hc
       rw[AF];omega
      |g _ _ _=>rw[hc]at h;cases h
      |d=>rw[hc]at h;cases h
  . cases h
end
end M
end
section
namespace M
open PySem PySem.W
def pF(K:KF)(mg:Str->Option Value)(ρ:Own)(H:L2.Hp)(x:rn)(E:L2.XK):Prop:=match x with
 |some (c,_,s')=>∀ρ' H',Ext ρ H ρ' H'->HR K mg ρ' s' H'->∀C,mg c=some (.ref C)->E (.ref C) none H'
 |dS=>False
def spX(T:Tbl)(K:KF)(mg:Str->Option Value)(n:Nat)(f:Str)(ver:Nat):L2.Sp:=λvs H Q E=>∃ρ s args,HR K mg ρ s H/\RDs K mg ρ H args vs/\(yt K mg (RD K mg) ρ H (zE T n f ver args s) Q\/pF K mg ρ H (zk T n f ver args s) E)
structure Sc(T:Tbl)(K:KF)(mg:Str->Option Value):Prop where
 ex:∃(kx:Str) (cs ws:List Str) (pre:Option Str) (hue:Addr),mg "HueError"=some (.ref hue)/\L2.om K mg kx cs ws pre/\(∀b,T.c b=true->∃f,L2.dF K mg b kx f) /\
  (∀c w,T.e.lookup c=some w->∃(C:Addr) (i:Nat) (x:Str),mg c=some (.ref C)/\(∃Kc,L2.pG Kc K/\exmOne Kc (.ref C) (.ref hue)=some true)/\L2.Named K mg cs C c/\cs[i]?=some c/\ws[i]?=some x/\w=L2.ans pre x/\w≠"great") /\
  ∀c w,T.e.lookup c=some w->∀base,K.In base->∃C,mg c=some (.ref C)/\L2.ClsAt base C (.ref hue::L2.veM)/\L2.ClsAt base hue L2.veM
 bm:∀base,K.In base->L2.Bm base mg
structure Lv(T:Tbl)(P:Program)(w:World)(K:KF)(mg:Str->Option Value)(base:Heap)(n:Nat):Prop where
 a:∀f v F,T.d f v=some F->∃fa fd,mg f=some (.ref fa)/\B2 K (.ref fa)=true/\L2.Binds K fd F.b []/\L2.tL P w K mg base L2.CX0 n fa fd F.b (spN T K mg n f v)/\L2.tL P w K mg base (L2.CXE P w) n fa fd F.b (spX T K mg n f v)
structure Sd(T:Tbl)(P:Program)(w:World)(K:KF)(mg:Str->Option Value)(base:Heap)(m:Nat):Prop where
 b:Sc T K mg
 a:∀j,j<=m->Lv T P w K mg base j
def Cod(T:Tbl)(X:L2.Cx):Prop:=∃g∈T.f,∃(fa c:Addr) (o:Obj) (fd:BV),X.d g=some (.ref fa)/\X.K.lookup fa=some o/\o.data=.func fd/\fd.code=.ref c/\X.a.code=.ref c/\X.a.qual=g++(".<locals>.":Str)
theorem m5:∀{l} {s} {g},z0 l s=true->g∈l->∃j:Nat,s[j]?=some (.d g)
 |[],_,_,_,h=>by cases h
 |x::r,[],_,h,_=>by cases h
 |x::r,c::s,g,h,hm=>by
  cases c with
  |d y=>
   rw[z0,cf,decide_eq_true_eq]at h;rcases Aj.mp hm with z|z
   . subst z;rw[h.1];exact⟨0,rfl⟩
   . obtain⟨j,e⟩:=m5 h.2 z
     exact⟨j+1,e⟩
  |_=>cases h
section
variable {K:KF}{mg:Str->Option Value}{ρ:Own}{H H':L2.Hp}{s:Sto}
theorem HR.Rv(h:HR K mg ρ s H)(sm:L2.wH H H'):HR K mg ρ s H'/\Ext ρ H ρ H':=by
 have X:Ext ρ H ρ H':=⟨⟨[],by simp,λa ha=>by cases ha⟩,rfl,λa o e _=>sm a o e,λa ha=>by obtain⟨o,e⟩:=h.trk ha;rw[e,sm a o e]⟩
 refine⟨⟨h.f,h.v,λi c e=>?_,λa ha=>?_⟩,X⟩
 . obtain⟨a,e1,r⟩:=h.m i c e
   obtain⟨o,e2⟩:=r.there;exact⟨a,e1,r.mv X.mv (by rw[e2,sm a o e2])⟩
 . obtain⟨⟨xs,e⟩,n⟩:=h.d a ha
   exact⟨⟨xs,sm _ _ e⟩,n⟩
theorem oX(h:DW l):l=[]\/∃i j t u c r,l=.int i t::.int j u::c::r/\DW r:=by
 unfold DW at h;split at h
 . exact .inl rfl
 . exact .inr ⟨_,_,_,_,_,_,rfl,h⟩
 . exact h.elim
theorem oW:∀n {l},l.length<=n->DW l->DW (l++[.int i t,.int j u,c])
 |n,l,hl,h=>by
  rcases oX h with rfl|⟨i',j',t',u',c',r,rfl,h'⟩
  . exact Ba
  . cases n with
    |zero=>cases hl
    |succ n=>exact oW n (l:=r) (by simp only[AF]at hl;omega) h'
theorem r8:∀n {l},l.length<=n->DW l->DV pos (l++[.int i t,.int j u,c])=some cv->DV pos l=some cv\/cv=c
 |n,l,hl,h,e=>by
  rcases oX h with rfl|⟨i',j',t',u',c',r,rfl,h'⟩
  . have e':(if i == pos.line&&j == pos.col then some c else none)=some cv:=e
    split at e'
    . cases e';exact .inr rfl
    . cases e'
  . have e':(if i' == pos.line&&j' == pos.col then some c' else DV pos (r++[.int i t,.int j u,c]))=some cv:=e
    show (if i' == pos.line&&j' == pos.col then some c' else DV pos r)=some cv\/_
    cases n with
    |zero=>cases hl
    |succ n=>
     split at e'
     . rename_i z;rw[if_pos z];exact .inl e'
     . rename_i z;rw[if_neg z];exact r8 n (l:=r) (by simp only[AF]at hl;omega) h' e'
theorem HR.lam{j:Nat}(h:HR K mg ρ s H)(hs:s[j]?=some (.d g))(hj:ρ.o[j]?=some P)(tr:Tf K mg ρ H P g)(hP:H P=some (.g ps))(l:L2.Ta H P ps pos (V4 g) c H'):HR K mg ρ s H'/\Ext ρ H ρ H':=by
 rcases l with rfl|⟨o,vs,t,hf,hc,hd,hv,rfl⟩
 . exact⟨h,Ext.refl⟩
 . obtain⟨ps',e1,tok,among,fn⟩:=tr
   rw[hP]at e1;cases e1;have hcP:c≠P:=λz=>by rw[z,hP]at hc;cases hc
   have comm:L2.upd (L2.upd H P (.g (ps++#[rawInt pos.line,rawInt pos.col,.ref c]))) c (.e o (.d 0))=L2.upd (L2.upd H c (.e o (.d 0))) P (.g (ps++#[rawInt pos.line,rawInt pos.col,.ref c])):=by
    funext b;unfold L2.upd;by_cases z1:b=c
    . subst z1;rw[if_pos rfl,if_neg hcP,if_pos rfl]
    . rw[if_neg z1]
      by_cases z2:b=P
      . rw[if_pos z2,if_pos z2]
      . rw[if_neg z2,if_neg z2,if_neg z1]
   rw[comm];have h1:=h.more hc (.e o (.d 0));have X1:=Ext.new h hc (.e o (.d 0));have hP1:L2.upd H c (.e o (.d 0)) P=some (.g ps):=by rw[L2.zJ (Bt hcP)];exact hP
   have kk:hk (some (.g (ps++#[rawInt pos.line,rawInt pos.col,.ref c])))=hk (L2.upd H c (.e o (.d 0)) P):=by rw[hP1];rfl
   have X2:=Ext.rF h1 hj kk;have hnoc:ρ.no c:=h.new hc;have kc:∀b u,ρ.no b->H b=some u->L2.upd (L2.upd H c (.e o (.d 0))) P (.g (ps++#[rawInt pos.line,rawInt pos.col,.ref c])) b=some u:=λb u nb e=>X2.c b u (X1.c b u e nb.1) nb.1;refine⟨?_,X1.trans h1 X2⟩;have hr:=h1.rF (c:=.d g) hj kk ⟨_,L2.zP,?_,λpos' cv hcv=>?_,fn⟩
   . rw[show s.set j (.d g)=s from ?_]at hr
     . exact hr
     . refine List.ext_getElem? λi=>?_
       by_cases z:j=i
       . subst z;rw[AM (Am.mp hs).1,hs]
       . rw[BF z]
   . rw[Array.toList_append];exact oW _ (Ac _) tok
   . rw[Array.toList_append]at hcv
     rcases r8 _ (Ac _) tok hcv with z|z
     . obtain⟨b,ob,vb,tb,q1,q2,q3,q4⟩:=among pos' cv z
       exact⟨b,ob,vb,tb,q1,q2,kc b _ q2 q3,q4⟩
     . exact⟨c,o,vs,t,z,hnoc,X2.c c _ L2.zP hnoc.1,hd,hv⟩
end
noncomputable def wY(cells:List (Str × Addr)):List (Str × CN)->List (Str × Addr)->List (Str × Addr)
 |[],acc=>acc
 |(x,k)::r,acc=>wY cells r (if k == .free then (x,(cells.lookup x).getD 0)::acc else acc)
theorem Zy(h:∀x∈lsc.names,x.2=.free->∃c,env.cells.lookup x.1=some c):Gv lsc env=pure (wY env.cells lsc.names []):=by
 have key:∀(names:List (Str × CN)) (acc:List (Str × Addr)),(∀x∈names,x.2=.free->∃c,env.cells.lookup x.1=some c) ->
  (forIn names acc λ(x:Str × CN) (cs:List (Str × Addr))=>(do if x.2 == .free then pure (Cb ((x.1,<-cellOf env x.1)::cs)) else pure (Cb cs):Sem (ForInStep (List (Str × Addr)))))=pure (wY env.cells names acc):=by
  intro names;induction names with
  |nil=>intro acc _;rfl
  |cons p r ih=>
   obtain⟨x,k⟩:=p;intro acc hh;rw[EN];by_cases hk:k=.free
   . subst hk
     obtain⟨c,hc⟩:=hh (x,.free) (Ap ..) rfl;have e:cellOf env x=pure c:=by unfold cellOf;rw[hc]
     have e2:wY env.cells ((x,.free)::r) acc=wY env.cells r ((x,c)::acc):=by show wY env.cells r ((x,(env.cells.lookup x).getD 0)::acc)=_;rw[hc];rfl
     rw[e2];simp only[show ((AH == AH)=true) from rfl,if_true,e,DR];exact ih _ λy hy=>hh y (Ah _ hy)
   . have hb:(k == AH)=false:=by simpa using hk
     have e2:wY env.cells ((x,k)::r) acc=wY env.cells r acc:=by
      show wY env.cells r (if k == .free then _ else acc)=_
      rw[hb];rfl
     rw[e2];simp only[hb,AO,if_false,DR];exact ih _ λy hy=>hh y (Ah _ hy)
 unfold Gv;have:=key lsc.names [] h;simpa using this
theorem pk:∀{names} {acc} {x} {b},(x,b)∈wY cells names acc->(x,b)∈acc\/((x,AH)∈names/\b=(cells.lookup x).getD 0)
 |[],_,_,_,h=>.inl h
 |(y,k)::r,acc,x,b,h=>by
  rcases pk (names:=r) h with z|z
  . by_cases hk:k=.free
    . subst hk
      rcases Aj.mp z with z|z
      . cases z;exact .inr ⟨Ap ..,rfl⟩
      . exact .inl z
    . have hb:(k == AH)=false:=by simpa using hk
      rw[hb]at z;exact .inl z
  . exact .inr ⟨Ah _ z.1,z.2⟩
theorem pj:∀{names} {acc} {x} {b},(x,b)∈acc->(x,b)∈wY cells names acc
 |[],_,_,_,h=>h
 |(y,k)::r,acc,x,b,h=>pj (names:=r) (by
  split
  . exact Ah _ h
  . exact h)
theorem sX:∀{names} {acc} {x},(x,AH)∈names->(x,(cells.lookup x).getD 0)∈wY cells names acc
 |(y,k)::r,acc,x,h=>by
  rcases Aj.mp h with z|z
  . cases z;exact pj (names:=r) (Ap ..)
  . exact sX (names:=r) z
theorem lookup_mem{α:Type}{l:List (Str × α)}{b}(h:(x,b)∈l):∃c,l.lookup x=some c:=by
 cases e:l.lookup x with
 |some c=>exact⟨c,rfl⟩
 |none=>
  rw[F3]at e;have:=e _ h;simp at this
end M
end
section
namespace L2
open PySem PySem.Spec PyProof.Rows
def Tb(tabs:List Addr)(H:Hp):Prop:=∀b,H b=none\/(∃o xs,H b=some (.e o (.b xs)))\/(b∈tabs/\H b=some (.g #[]))
theorem fH{K}{tabs:List Addr}
 (KX:K.In s₁.heap) (hns:s₁.heap.Ns AK mg) (hb:s₁.heap.Ns FJ mb) (hbb:∀x:Str,x≠"__name__"->mb x=B7 x) (hlim:s₁.heap.NoLimit) (hg:s₁.gens=#[])
 (ha:s₁.heap.get? a=some {cls:=.type "list",data:=.seq vs.toArray}) (hi:IntsAre vs ns) (hl:ns.length<=As) (hr:xW k callerA)
 (ht:∀b∈tabs,s₁.heap.get? b=some (E3 #[])/\K.lookup b=none/\Gd s₁.heap b)
 (F:∀base:Heap,K.In base->base.Ns AK mg->tL P w K mg base CX k fa fd [x] sp) (hbind:∀s u,BindsTo s fd ⟨[u],[]⟩ [(x,u)])
 (hsp:∀H:Hp,(∀b∈tabs,H b=some (.g #[]))->SqL K H a (ns.map V.d)->sp [.c a] H (λv _=>v=.f true) λ_ _ _=>False)
 (hCX:∀H e s',CX [] H s₁ (λ_ _ _=>False) e s'->False) :
 codeAny (model P w) callerA (.call (.ref fa) ⟨[.ref a],[]⟩) (λr s'=>r=.ok (.ret (.bool true))/\OldK s₁.heap s'.heap/\s'.os=s₁.os/\AllBare s'.gens) s₁:=by
 have rv:=oa hi;have lenV:=hi.length;have nat:a ∉ tabs:=λz=>by have:=(ht a z).1;rw[ha]at this;cases this
 have core:∀H:Hp,Tb tabs H->(∀b∈tabs,H b=some (.g #[]))->SqL K H a (ns.map V.d)->HOk P w H s₁.heap->(∀b,H b≠none->b=a\/b∈tabs)->(H a≠none->K.lookup a=none) ->
  codeAny (model P w) callerA (.call (.ref fa) ⟨[.ref a],[]⟩) (λr s'=>r=.ok (.ret (.bool true))/\OldK s₁.heap s'.heap/\s'.os=s₁.os/\AllBare s'.gens) s₁:=by
  intro H hO hT hS hok hA hK;have uY:∀{b:Addr} {o:Obj},s₁.heap.get? b=some o->H b=none->(nQ s₁.heap H).get? b=some o:=λe n=>cz e n;have noA:∀{b:Addr} {o:Obj} {es:Array F5} {ep:Nat},s₁.heap.get? b=some o->o.data=.dict es ep->H b=none:=λ{b o es ep} e d=>by
   cases q:H b with
   |none=>rfl
   |some u=>
    rcases hA b (by rw[q];simp) with e'|e'
    . subst e'
      rw[ha]at e;cases e;have d':Data.seq vs.toArray _=Data.dict es ep:=d;cases d'
    . rw[(ht b e').1]at e;cases e
      have d':Gb #[]=Data.dict es ep:=d;cases d'
  have nsK:∀{b:Addr} {m:Str->Option Value},s₁.heap.Ns b m->(nQ s₁.heap H).Ns b m:=λ{b m} ⟨o,es,ep,e,d,r⟩=>⟨o,es,ep,uY e (noA e d),d,r⟩;have hKb:K.In (nQ s₁.heap H):=λb o e=>uY (KX b o e) (by
   cases q:H b with
   |none=>rfl
   |some u=>
    rcases hA b (by rw[q];simp) with e'|e'
    . subst e'
      rw[hK (by rw[q];simp)]at e;cases e
    . rw[(ht b e').2.1]at e;cases e)
  have hM:Mod K mg (nQ s₁.heap H):=⟨hKb,nsK hns,⟨mb,nsK hb,hbb⟩,let ⟨mc,h1,h2⟩:=hlim;⟨mc,nsK h1,h2⟩⟩;have e0:kK P w K mg (nQ s₁.heap H) callerA [] s₁ H:=⟨rfl,hM,λb o e=>Yz e,EU (g7 _ _),trivial,λb hb=>absurd (show b∈([]:List Addr) from hb) (by simp),hok,.of_eq hg⟩
  refine De ((F _ hKb (nsK hns)).a callerA [] s₁ H ⟨[.ref a],[]⟩ [.ref a] [.c a] _ _ hr e0 (hbind s₁ (.ref a)) (.cons rfl .nil) (hsp H hT hS)) λr s' h=>?_;cases r with
  |error e=>exact(hCX H e s' h).elim
  |ok fl=>
   cases fl with
   |next=>exact Ay h
   |brk=>exact Ay h
   |cont=>exact Ay h
   |ret u=>
    obtain⟨v,H',os,bare,un,hok',r',q⟩:=h;have q':v=.f true:=q;subst q';obtain rfl:u=CZ true:=r';have all:∀b o,s₁.heap.get? b=some o->asItWas s₁.heap s'.heap b o:=λb o e=>by
     cases q:H b with
     |none=>exact .inl (un.f b o e q (by intro z;exact absurd (show b∈([]:List Addr) from z) (by simp)) (by simp))
     |some u=>
      rcases hO b with z|⟨ob,xs,z⟩|⟨z1,z⟩
      . rw[q]at z;cases z
      . have z2:=un.g b ob _ z
        obtain⟨e1,_⟩:=hok b _ z;obtain⟨e2,_⟩:=hok' b _ z2;rw[e]at e1;cases e1;exact .inl e2
      . obtain⟨more,z2⟩:=un.j b _ z
        have e2:s'.heap.get? b=some (E3 (#[]++more)):=hok' b _ z2;obtain⟨t1,_,t3⟩:=ht b z1;rw[e]at t1;cases t1;exact .inr (.inl ⟨t3,rfl,#[],more,rfl,e2⟩)
    exact⟨rfl,⟨all,λb o e=>by
     rcases all b o e with z|⟨_,_,_,_,_,z⟩|⟨_,_,⟨o',_,_,z,_⟩,_⟩
     . exact⟨_,z⟩
     . exact⟨_,z⟩
     . exact⟨_,z⟩⟩,os,bare⟩
 cases hk:K.lookup a with
 |some o=>
  have e:=KX a o hk;rw[ha]at e;cases e;refine core (λb=>if b∈tabs then some (.g #[]) else none) (λb=>?_) (λb hb=>if_pos hb) (.inr ⟨_,vs.toArray,_,hk,rfl,rfl,rfl,by rw[Ae,lenV];exact hl,by simpa using rv⟩) (λb u z=>?_) (λb z=>?_) λz=>?_
  . by_cases hb:b∈tabs
    . exact .inr (.inr ⟨hb,if_pos hb⟩)
    . exact .inl (if_neg hb)
  . by_cases hb:b∈tabs
    . have z':=(if_pos hb).symm.trans z
      cases z';exact(ht b hb).1
    . have z':=(if_neg hb).symm.trans z
      cases z'
  . by_cases hb:b∈tabs
    . exact .inr hb
    . exact absurd (if_neg hb) z
  . exact absurd (if_neg nat) z
 |none=>
  refine core (λb=>if b=a then some (.e {cls:=.type "list",data:=.seq vs.toArray} (.b (ns.map V.d))) else if b∈tabs then some (.g #[]) else none) (λb=>?_) (λb hb=>(if_neg (λz=>nat (by rw[<-z];exact hb))).trans (if_pos hb)) (.inl (.inr ⟨{cls:=.type "list",data:=.seq vs.toArray},if_pos rfl⟩)) (λb u z=>?_) (λb z=>?_) λ_=>hk
  . by_cases hb:b=a
    . exact .inr (.inl ⟨_,_,if_pos hb⟩)
    . by_cases hb2:b∈tabs
      . exact .inr (.inr ⟨hb2,(if_neg hb).trans (if_pos hb2)⟩)
      . exact .inl ((if_neg hb).trans (if_neg hb2))
  . by_cases hb:b=a
    . have z':=(if_pos hb).symm.trans z
      cases z';subst hb;exact⟨ha,by rw[Ab];exact hl,vs,_,rv,ha⟩
    . by_cases hb2:b∈tabs
      . have z':=((if_neg hb).trans (if_pos hb2)).symm.trans z
        cases z';exact(ht b hb2).1
      . have z':=((if_neg hb).trans (if_neg hb2)).symm.trans z
        cases z'
  . by_cases hb:b=a
    . exact .inl hb
    . by_cases hb2:b∈tabs
      . exact .inr hb2
      . exact absurd ((if_neg hb).trans (if_neg hb2)) z
end L2
end
section
namespace M
open PySem
noncomputable def oE(sc:Scope)(x:Str):Bool:=decide (sc.names.lookup x=some .local)||decide (sc.names.lookup x=some .cell)||decide (sc.names.lookup x=some .free)
noncomputable def wa(sc:Scope)(x:Str):Bool:=decide (sc.names.lookup x=some .globalImplicit)
noncomputable def wX:List Str:=["len","all","any","tuple","list","sorted","repr","max","min","sum","int","isinstance","divmod","str","bool","dict","set","range","enumerate","zip"]
noncomputable def QF(y:Str)(n:String):Bool:=(decide (y="int")&&decide (n="int"))||(decide (y="bool")&&decide (n="bool"))||(decide (y="str")&&decide (n="str"))||(decide (y="list")&&decide (n="list"))||(decide (y="tuple")&&decide (n="tuple"))||(decide (y="dict")&&decide (n="dict"))
noncomputable def vC:Val->Option Const
 |.g=>some .none
 |.e b=>some (.bool b)
 |.c i=>some (.int i)
 |.h x=>some (.str x)
 |_=>none
def Tp(v:Val)(e:Expr):Bool:=Z7 e λc _ _=>decide (vC v=some c)
def eSd(e:Expr)(k:Str->Er->Str->List Expr->Scope->Bool):Bool:=eCN e λx xs=>l1 xs λl=>Tw l λa b lsc _=>eCN b λy ys=>k x a y ys lsc
theorem ig(h:eSd e k=true):∃x a y ys lsc p1 p2 p3 p4 p5,e=.Call (.Name x p1) [.Lambda a (.Call (.Name y p2) ys [] p3) lsc p4] [] p5/\k x a y ys lsc=true:=by obtain⟨x,p1,xs,p5,rfl,h1⟩:=xY h;obtain⟨l,rfl,h2⟩:=yn h1;obtain⟨a,b,lsc,p4,rfl,h3⟩:=cR h2;obtain⟨y,p2,ys,p3,rfl,h4⟩:=xY h3;exact⟨x,a,y,ys,lsc,p1,p2,p3,p4,p5,rfl,h4⟩
noncomputable def uz(a:Er):Bool:=a.posonlyargs.isEmpty&&a.args.isEmpty&&a.vararg.isNone&&a.kwonlyargs.isEmpty&&a.kw_defaults.isEmpty&&a.kwarg.isNone&&a.defaults.isEmpty
noncomputable def ph(sc lsc:Scope):Bool:=decide (lsc.kind=.function)&&!lsc.isCoroutine&&!lsc.isGenerator&&lsc.names.all (λy=>decide (y.2=.globalImplicit)||(decide (y.2=.free)&&(decide (sc.names.lookup y.1=some .cell)||decide (sc.names.lookup y.1=some .free))))&&sc.names.any (λy=>decide (sc.names.lookup y.1=some .cell))
noncomputable def okV:Bool:=true
noncomputable def Xz:Exs->Bool
 |.a (.e _) _=>true
 |_=>false
theorem X3(h:Xz es=true):∃i es',es=.a (.e i) es':=by
 unfold Xz at h;split at h
 . exact⟨_,_,rfl⟩
 . cases h
mutual
noncomputable def sim:Ex->Bool
 |.g _|.e _|.A _=>true
 |.j m _ a b=>!m&&sim a&&sim b
 |.B a=>sim a
 |.p es=>uj es
 |.s m es=>!m&&uj es
 |.u a b=>sim a&&sim b
 |_=>false
noncomputable def uj:Exs->Bool
 |.b=>true
 |.a e es=>sim e&&uj es
end
def ckA(sc:Scope)(f:Str)(q:List Expr->Bool)(e:Expr):Bool:=eCN e λx xs=>decide (x=f)&&wa sc x&&!(x == ("__debug__":Str))&&q xs&&zi xs
def ckB(sc:Scope)(N:List Str)(f:Str)(ver:Nat)(es:Exs)(q:Scope->List Expr->Bool)(e:Expr):Bool:=eSd e λx a y ys lsc=>decide (x=L2.yd (decide (ver=101)))&&wa sc x&&uz a&&ph sc lsc&&decide (y=f)&&wa lsc y&&!(y == ("__debug__":Str))&&uj es&&q lsc ys&&zi ys&&!ys.isEmpty&&decide (("!":Str)∈N)
def ckV(sc:Scope)(N:List Str)(ver:Nat)(es:Exs)(q:Scope->List Expr->Bool)(e:Expr):Bool:=(okV&&Xz es)&&eSd e λx a y ys lsc=>decide (x=L2.yd (decide (ver=301)))&&wa sc x&&uz a&&ph sc lsc&&uj es&&q lsc (.Name y default::ys)&&zi ys&&!ys.isEmpty&&decide (("!":Str)∈N)&&decide (ver≠200)
mutual
noncomputable def ck(sc:Scope)(N:List Str):Ex->Expr->Bool
 |.g v,e=>Tp v e
 |.e i,e=>(eName e λx _=>decide (N[i]?=some x)&&oE sc x&&!(x == ("__debug__":Str))&&!(x == ("__classdict__":Str)))
 |.A y,e=>(eName e λx _=>decide (x=y)&&wa sc x&&!(x == ("__debug__":Str)))
 |.L y n,e=>(eName e λx _=>decide (x=y)&&wa sc x&&QF y n)
 |.j _ op a b,e=>(Ts e λl o r _=>(okB op&&decide (o=op.op))&&ck sc N a l&&ck sc N b r)
 |.B a,e=>(eOp .USub e λx=>ck sc N a x)
 |.G a,e=>(eOp .Not e λx=>ck sc N a x)
 |.l op a b,e=>(eC1 e λl o r=>(okC op&&decide (o=op.op))&&ck sc N a l&&ck sc N b r&&plain r)
 |.w op op' a b c,e=>(eC2 e λl o o' r r'=>(okC op&&decide (o=op.op))&&(okC op'&&decide (o'=op'.op))&&ck sc N a l&&ck sc N b r&&ck sc N c r'&&plain r')
 |.z a es,e=>(eBl .And e λx xs=>ck sc N a x&&ckL sc N es xs)
 |.I _ _,_=>false
 |.F c a b,e=>(Tv e λt x y _=>ckC sc N c t&&ck sc N a x&&ck sc N b y)
 |.p es,e=>(cU e λxs _ _=>ckL sc N es xs&&zi xs)
 |.s _ es,e=>(Tx e λxs _=>ckL sc N es xs&&zi xs)
 |.D,_=>false
 |.C _,e=>(eD0 e)
 |.J _ _,_=>false
 |.h f ver es,e=>if ver<100 then ckA sc f (λxs=>ckL sc N es xs) e else if ver<200 then ckB sc N f ver es (λl ys=>ckL l N es ys) e else ckV sc N ver es (λl ys=>ckL l N es ys) e
 |.k f _ es,e=>(eCN e λx xs=>lc xs λy ys=>(okF f&&decide (x=f.nm))&&wa sc x&&ckL sc N es (y::ys)&&zi (y::ys))
 |.E _ _,_=>false
 |.K f _ o es,e=>(eMt e λob x ap y cp=>decide (x=f.nm)&&ck sc N o ob&&ckL sc N es [y]&&plain y&&nZ ob&&(ap.endLine == cp.line)&&okM f)
 |.u a b,e=>(YD e λl r _=>ck sc N a l&&ck sc N b r&&plain r)
 |.H _ a lo hi st,e=>(eSS e λl x y z=>ck sc N a l&&ckO sc N lo x&&ckO sc N hi y&&ckO sc N st z)
 |.q _ N' fr elt t it ifs,e=>(eG1 e λx tg iter fs csc=>L2.sV sc N N' csc fr&&decide N'.Nodup&&ckT csc N' t tg&&ckI sc N it iter tg&&kT csc N' ifs fs&&ck csc N' elt x&&plain iter)
 |.y _ N' fr elt t it ifs t2 it2 ifs2,e=>(eG2 e λx tg iter fs tg2 iter2 fs2 csc=>L2.sV sc N N' csc fr&&decide N'.Nodup&&ckT csc N' t tg&&ckI sc N it iter tg&&kT csc N' ifs fs&&ckT csc N' t2 tg2&&ckI csc N' it2 iter2 tg2&&kT csc N' ifs2 fs2&&ck csc N' elt x&&plain iter&&plain iter2)
 |.r _ _ _ _,_=>false
noncomputable def ckL(sc:Scope)(N:List Str):Exs->List Expr->Bool
 |.b,es=>es.isEmpty
 |.a a as,es=>(lc es λe es=>ck sc N a e&&ckL sc N as es)
noncomputable def ckO(sc:Scope)(N:List Str):OEx->Option Expr->Bool
 |.b,e=>e.isNone
 |.a a,e=>(o1 e λe=>ck sc N a e)
noncomputable def ckC(sc:Scope)(N:List Str):Cn->Expr->Bool
 |.a a,e=>ck sc N a e&&(plainT e||decide (e.ctorIdx=15))
 |.b c,e=>(eOp .Not e λx=>ckC sc N c x)
 |.d c cs,e=>(eBl .And e λx xs=>ckC sc N c x&&kT sc N cs xs)
 |.f c cs,e=>(eBl .Or e λx xs=>ckC sc N c x&&kT sc N cs xs)
noncomputable def kT(sc:Scope)(N:List Str):Cns->List Expr->Bool
 |.a,es=>es.isEmpty
 |.b a as,es=>(lc es λe es=>ckC sc N a e&&kT sc N as es)
noncomputable def ckI(sc:Scope)(N:List Str):Itb->Expr->Expr->Bool
 |.f a,e,_=>ck sc N a e
 |.c a,e,_=>(eCN e λx xs=>l1 xs λy=>decide (x="range")&&wa sc x&&ck sc N a y&&plain y)
 |.d a b,e,_=>(eCN e λx xs=>lc xs λy ys=>l1 ys λz=>decide (x="range")&&wa sc x&&ck sc N a y&&ck sc N b z&&plain y&&plain z)
 |.g a,e,tg=>(decide (tg.ctorIdx=25)&&eCN e λx xs=>l1 xs λy=>decide (x="enumerate")&&wa sc x&&ck sc N a y&&plain y)
 |.h _ _,_,_=>false
end
structure Ok(T:Tbl)(n:Nat)(sc:Scope)(N:List Str)(X:L2.Cx):Prop where
 c:X.j=true
 d:L2.xW n X.A
 a:Scp sc N X
 l:∀f v F,T.d f v=some F->Callee T n X f v F
 i:∀x v,T.b x=some v->∃u xv,X.d x=some u/\L2.RelV xv u/\∀ρ H,RD X.K X.d ρ H v xv
 g:∀x∈wX,X.d x=none
 xe:X.i=λ_ _=>False
 j:∀f v,100<=v->T.d f v=none
 sd:∀m,n=m+1->(∃b,T.c b=true)->Sd T X.f X.w X.K X.d X.h m
 k:(∃b,T.c b=true)->(∃x,sc.names.lookup x=some .cell)->("!":Str)∈N->Cod T X
theorem iQ(S:Scp sc N X)(h:L2.sV sc N N' csc fr=true):L2.zo X N' csc fr:=by
 unfold L2.sV at h;simp only[cf,Aq,Ax,decide_eq_true_eq,Ar]at h;obtain⟨⟨⟨⟨⟨⟨⟨a1,a2⟩,a3⟩,a4⟩,a5⟩,a6⟩,a7⟩,a8⟩:=h;refine⟨a1,λx h1 h2=>(a2 _ h1).elim (λz=>z rfl) λz=>z _ h2 rfl,λx hx hk=>?_,λx hx hk=>?_,a5,λi j x e1 e2=>?_,λx e1 e2=>?_⟩
 . rcases a3 x hx with z|z
   . exact absurd hk z
   . exact z
 . rcases a4 x hx with z|z
   . exact absurd hk z
   . exact S.f x.1 z
 . have hi:i<N'.length:=(Am.mp e1).1
   have q:=a6 i hi;rw[e1,e2]at q;simp only[cf,decide_eq_true_eq,Bk]at q;obtain⟨q1,y,q2,q3,q4⟩:=q;refine⟨by rw[S.a];exact q1,?_⟩
   have:y=(x,AH):=CL q3 q4;rw[<-this];exact q2
 . rcases a7 (x,.free) e2 with z|z
   . exact z rfl
   . exact z e1
theorem vH(h:sc.names.lookup x=some .local):(relabel sc env).names.lookup x=some .local:=lookup_relabel_local h
theorem jd(h:sc.names.lookup x=some .globalImplicit):(relabel sc env).names.lookup x=some .globalImplicit:=by
 have key:∀(names:List (Str × CN)),names.lookup x=some .globalImplicit->(names.map λ(n,k)=>if (k == AH&&env.scope.kind == .function&&env.kindOf n == some .cell) then (n,Bg) else (n,k)).lookup x=some .globalImplicit:=by
  intro names;induction names with
  |nil=>intro h;simp at h
  |cons p r ih=>
   obtain⟨n,k⟩:=p;intro h;rw[AN];dsimp only;cases hx:(x == n) with
   |true=>
    rw[An,hx]at h;cases h;have e:(D7 == AH)=false:=rfl;rw[e];simp only[Dd,AO,if_false,An,hx]
   |false=>
    rw[An,hx]at h;have:=ih h;split<;>simpa only[An,hx] using this
 exact key sc.names h
theorem Scp.comp(S:Scp sc N X)(hc:L2.zo X N' csc fr)(nd:N'.Nodup)C s0 H0 ex:Scp csc N' (X.comp N' csc C s0 H0 ex):=by
 refine⟨rfl,nd,λx h=>?_,λx h=>?_,λx h=>?_,λx h=>?_⟩
 . rcases h with h|h|h
   . exact .inl (vH h)
   . exact .inr (.inl (L2.vm h))
   . exact(L2.sG hc.a h).elim (λz=>.inr (.inl z)) λz=>.inr (.inr z)
 . rcases h with h|h
   . exact⟨.inl (vH h),.inr (vH h)⟩
   . exact⟨.inr (L2.vm h),.inl (Bk.mpr ⟨_,AW h,decide_eq_true rfl⟩)⟩
 . exact jd h
 . rcases h with h|h
   . exact .inl (L2.vm h)
   . exact L2.sG hc.a h
theorem Callee.comp(c:Callee T n X f v F)N' csc C s0 H0 ex:Callee T n (X.comp N' csc C s0 H0 ex) f v F:=⟨c.a⟩
theorem Ok.comp(o:Ok T n sc N X)(hc:L2.zo X N' csc fr)(nd:N'.Nodup)(hck:L2.sV sc N N' csc fr=true)C s0 H0 ex:Ok T n csc N' (X.comp N' csc C s0 H0 ex):=
 ⟨o.c,o.d,o.a.comp hc nd C s0 H0 ex,λf v F h=>(o.l f v F h).comp N' csc C s0 H0 ex,o.i,o.g,rfl,o.j,o.sd,λhmd _ h=>by
  unfold L2.sV at hck;simp only[cf,Bk,Ax,decide_eq_true_eq]at hck;rcases hck.2 with z|⟨z1,y,_,z2⟩
  . exact absurd h z
  . exact o.k hmd ⟨y.1,z2⟩ z1⟩
end M
end
section
namespace M
open PySem
section
variable {T:Tbl}{n:Nat}
def JE(T:Tbl)(n:Nat)(a:Ex):Prop:=∀(sc:Scope) (N:List Str) (X:L2.Cx) (e:Expr),Ok T n sc N X->ck sc N a e=true->∀env s,L2.PE X e (tV X.K X.d env s (evE (zE T n) T.b env a s))
def JL(T:Tbl)(n:Nat)(a:Exs):Prop:=∀(sc:Scope) (N:List Str) (X:L2.Cx) (es:List Expr),Ok T n sc N X->ckL sc N a es=true ->
 (zi es=true->∀env s,L2.PA X es (tVs X.K X.d env s (zf (zE T n) T.b env a s))) /\
 (∀e es' pos,es=e::es'->∀env s,L2.PE X (.BoolOp .And es pos) (tV X.K X.d env s (rN (zE T n) T.b env a s))) /\
 (∀e es' pos,es=e::es'->∀env s,L2.PE X (.BoolOp .Or es pos) (tV X.K X.d env s (mr (zE T n) T.b env a s))) /\
 (∀y,es=[y]->plain y=true->∃b,a=.a b .b/\∀env s,L2.PE X y (tV X.K X.d env s (evE (zE T n) T.b env b s)))
def JO(T:Tbl)(n:Nat)(a:OEx):Prop:=∀(sc:Scope) (N:List Str) (X:L2.Cx) (e:Option Expr),Ok T n sc N X->ckO sc N a e=true->(∀env s,L2.PO X e (tO X.K X.d env s (evO (zE T n) T.b env a s))) /\
 ((e=none/\∀env s1,evO (zE T n) T.b env a s1=.e none s1)\/∃e',e=some e'/\∀env s1 s2,evO (zE T n) T.b env a s1≠.e none s2)
def JC(T:Tbl)(n:Nat)(a:Cn):Prop:=∀(sc:Scope) (N:List Str) (X:L2.Cx) (e:Expr),Ok T n sc N X->ckC sc N a e=true->∀env s,L2.PT X e (tT X.K X.d env s (evT (zE T n) T.b env a s))
def JCs(T:Tbl)(n:Nat)(a:Cns):Prop:=∀(sc:Scope) (N:List Str) (X:L2.Cx) (es:List Expr),Ok T n sc N X->kT sc N a es=true ->
 (∀pos env s,L2.PW X (.BoolOp .And es pos) (tT X.K X.d env s (xH (zE T n) T.b env a s)))/\(∀pos env s,L2.PW X (.BoolOp .Or es pos) (tT X.K X.d env s (qI (zE T n) T.b env a s)))/\L2.PTs X es (uTs X.K X.d (zE T n) T.b a)
def JI(T:Tbl)(n:Nat)(a:Itb):Prop:=∀(sc:Scope) (N:List Str) (X:L2.Cx) (e tg:Expr),Ok T n sc N X->ckI sc N a e tg=true->∀env s,L2.PI X tg e (tI (K:=X.K) (mg:=X.d) env s (yh (zE T n) T.b env a s))
theorem bR:JE T n (.g v):=by
 intro sc N X e o h env s;show L2.PE X e (tV X.K X.d env s (.e v s));replace h:=qG h;obtain⟨c,k,p,rfl,h⟩:=h;have h:=of_decide_eq_true h;cases v with
 |g=>cases h;exact za L2.UY λσ H Q ⟨ρ,hr,er,w⟩=>zL hr .s w
 |e b=>cases h;exact za L2.aS λσ H Q ⟨ρ,hr,er,w⟩=>zL hr (.j _) w
 |c i=>cases h;exact za L2.aY λσ H Q ⟨ρ,hr,er,w⟩=>zL hr (.l _) w
 |h x=>cases h;exact za L2.sx λσ H Q ⟨ρ,hr,er,w⟩=>zL hr (.D _) w
 |_=>cases h
theorem bV:JE T n (.e i):=by
 intro sc N X e o h env s;replace h:=xC h;obtain⟨x,p,rfl,h⟩:=h;simp only[cf,decide_eq_true_eq,oE,Ax,AG]at h;obtain⟨⟨⟨h1,h2⟩,h3⟩,h4⟩:=h;have hv:L2.Vis X.a.scope x:=o.a.e x (by rcases h2 with (z|z)|z;exact .inl z;exact .inr (.inl z);exact .inr (.inr z))
 show L2.PE X _ (tV X.K X.d env s (match env[i]? with|some (some v)=>.e v s|_=>.d))
 refine za (L2.uM (i:=i) (by rw[o.a.a];exact h1) hv h3 h4) λσ H Q ⟨ρ,hr,er,w⟩=>?_
 split at w
 . rename_i v e
   obtain⟨x',h5,h6⟩:=er.a i v e;exact⟨x',h5,zL hr h6 w⟩
 . exact w.elim
theorem WO:JE T n (.A y):=by
 intro sc N X e o h env s;replace h:=xC h;obtain⟨x,p,rfl,h⟩:=h;simp only[cf,decide_eq_true_eq,wa,AG]at h;obtain⟨⟨h1,h2⟩,h3⟩:=h;subst h1;show L2.PE X _ (tV X.K X.d env s (match T.b x with|some v=>.e v s|dS=>.d))
 cases hv:T.b x with
 |none=>exact zK (zG rfl)
 |some v=>
  obtain⟨u,xv,e1,e2,e3⟩:=o.i x v hv;exact za (L2.XO (o.a.b x h2) e1 e2 h3) λσ H Q ⟨ρ,hr,er,w⟩=>zL hr (e3 ρ H) w
theorem SW:JE T n (.L y m):=by
 intro sc N X e o h env s;replace h:=xC h;obtain⟨x,p,rfl,h⟩:=h;simp only[cf,decide_eq_true_eq,wa]at h;obtain⟨⟨h1,h2⟩,h3⟩:=h;subst h1;show L2.PE X _ (tV X.K X.d env s (.e (.r m) s));have key:x∈wX/\B7 x=some (.type m)/\x≠"__name__"/\(x == ("__debug__":Str))=false:=by
  unfold QF at h3;simp only[Ax,cf,decide_eq_true_eq]at h3;rcases h3 with ((((⟨rfl,rfl⟩|⟨rfl,rfl⟩)|⟨rfl,rfl⟩)|⟨rfl,rfl⟩)|⟨rfl,rfl⟩)|⟨rfl,rfl⟩
  . exact⟨by decide,PyProof.Rows.boot_int,by decide,by decide⟩
  . exact⟨by decide,PyProof.Rows.boot_bool,by decide,by decide⟩
  . exact⟨by decide,PyProof.Rows.boot_str,by decide,by decide⟩
  . exact⟨by decide,PyProof.Rows.boot_list,by decide,by decide⟩
  . exact⟨by decide,F2,by decide,by decide⟩
  . exact⟨by decide,PyProof.Rows.boot_dict,by decide,by decide⟩
 exact za (L2.RQ (o.a.b x h2) (o.g x key.1) key.2.1 key.2.2.1 key.2.2.2) λσ H Q ⟨ρ,hr,er,w⟩=>zL hr (.I _) w
theorem Yj:JE T n (.C t):=by
 intro sc N X e o h env s;obtain⟨p,rfl⟩:=Z8 h;show L2.PE X _ (tV X.K X.d env s (.e (.o s.length) (s++[if t then .f [] else .e []])))
 cases t with
 |true=>exact za L2.aX λσ H Q ⟨ρ,hr,er,w⟩ p hp=>w _ _ _ (Ext.own hr hp _) (hr.vF hp ⟨[],L2.zP,rfl,.d⟩) (.A (rd hr p) (by rw[L2.zP];decide))
 |false=>exact za L2.aW λσ H Q ⟨ρ,hr,er,w⟩ p hp=>w _ _ _ (Ext.own hr hp _) (hr.vF hp ⟨[],L2.zP,rfl,.d⟩) (.A (rd hr p) (by rw[L2.zP];decide))
theorem mh(h:zS op x y s=.e v s'):∃b,v=.e b:=by unfold zS at h;split at h<;>(split at h<;>first|(cases h;exact⟨_,rfl⟩)|cases h|(split at h<;>first|(cases h;exact⟨_,rfl⟩)|cases h|(split at h<;>first|(cases h;exact⟨_,rfl⟩)|cases h|(split at h<;>first|(cases h;exact⟨_,rfl⟩)|cases h))))
theorem pC{o:Out Val}(hb:∀v s',o=.e v s'->∃b,v=.e b)(w:yt K mg (λ_ _ a b=>a=b) ρ H o.truth Q):yt K mg (RD K mg) ρ H o λx H'=>∃k,x=.f k/\Q k H':=by
 cases o with
 |e v s1=>
  obtain⟨b,rfl⟩:=hb v s1 rfl;intro ρ1 x H1 x1 hr1 r1;cases r1;exact⟨b,rfl,w _ _ _ x1 hr1 rfl⟩
 |g _ _ _=>exact w
 |d=>exact w
theorem Vs{f2:Sto->Out Val}(k1:okC op=true)(hr0:L2.xW k X.A)(h1:L2.PE X a (tV X.K X.d env s o))(h2:∀s1,L2.PE X b (tV X.K X.d env s1 (f2 s1)))(hm:plain b=true) :
 L2.PT X (.Compare a [op.op] [b] pos) (tT X.K X.d env s (o.bind λx s1=>(f2 s1).bind λy s2=>zS op x y s2).truth):=by
 cases o with
 |e v s1=>
  have h2':=h2 s1;show L2.PT X _ (tT X.K X.d env s ((f2 s1).bind λy s2=>zS op v y s2).truth);cases hb:f2 s1 with
  |e w s2=>
   rw[hb]at h2';exact sy (L2.mE (tE hr0 op k1) h1 h2' (we hm)) λσ H Q ⟨ρ,hr,er,wt⟩=>⟨ρ,hr,er,λρ1 x H1 x1 hr1 r1=>⟨ρ1,hr1,er.mono x1,λρ2 y H2 x2 hr2 r2=>⟨ρ2,s2,v,w,hr2,r1.mono x2,r2,pC (λ_ _ h=>mh h) (wt.mono (x1.trans hr1 x2) hr2)⟩⟩⟩
  |g _ _ _=>exact yJ (zG rfl)
  |d=>exact yJ (zG rfl)
 |g _ _ _=>exact yJ (zG rfl)
 |d=>exact yJ (zG rfl)
theorem bZ{X:L2.Cx}{env:Env}{s:Sto}{a b c:Expr}{op op':Cop}{o:Out Val}{f2 f3:Sto->Out Val}{k:Nat}{pos:Pos}(k1:okC op=true)(k2:okC op'=true)(hr0:L2.xW k X.A)(h1:L2.PE X a (tV X.K X.d env s o))(h2:∀s1,L2.PE X b (tV X.K X.d env s1 (f2 s1)))(h3:∀s1,L2.PE X c (tV X.K X.d env s1 (f3 s1)))(hm:plain c=true) :
 L2.PT X (.Compare a [op.op,op'.op] [b,c] pos) (tT X.K X.d env s (o.bind λx s1=>(f2 s1).bind λy s2=>(zS op x y s2).bind λr s3=>match r with
  |.e true=>(f3 s3).bind λz s4=>zS op' y z s4
  |.e false=>.e (.e false) s3
  |_=>.d).truth):=by
 cases o with
 |e v s1=>
  have h2':=h2 s1;show L2.PT X _ (tT X.K X.d env s ((f2 s1).bind _).truth);cases hb:f2 s1 with
  |e w s2=>
   rw[hb]at h2';show L2.PT X _ (tT X.K X.d env s ((zS op v w s2).bind _).truth);cases hc:zS op v w s2 with
   |e r s3=>
    cases r with
    |e t=>
     have h3':=h3 s3;have rule:=L2.ao (pos:=pos) (tE hr0 op k1) (tE hr0 op' k2) h1 h2' h3' (show GD [op.op,op'.op] [b,c]=false from we hm);refine sy rule λσ H Q ⟨ρ,hr,er,wt⟩=>⟨ρ,hr,er,λρ1 x H1 x1 hr1 r1=>⟨ρ1,hr1,er.mono x1,λρ2 y H2 x2 hr2 r2=>⟨ρ2,s2,v,w,hr2,r1.mono x2,r2,?_⟩⟩⟩;rw[hc];intro ρ3 z H3 x3 hr3 r3;cases r3;refine⟨t,rfl,?_⟩;have xx:=(x1.trans hr1 x2).trans hr2 x3;have wt':=wt.mono xx hr3;cases t with
     |true=>
      rw[if_pos rfl];refine⟨ρ3,hr3,er.mono xx,?_⟩;have wt2:yt X.K X.d (λ_ _ a b=>a=b) ρ3 H3 ((f3 s3).bind λz s4=>zS op' w z s4).truth Q:=wt';cases hz:f3 s3 with
      |e u s4=>
       rw[hz]at wt2;exact λρ4 q H4 x4 hr4 r4=>⟨ρ4,s4,w,u,hr4,(r2.mono x3).mono x4,r4,pC (λ_ _ h=>mh h) (wt2.mono x4 hr4)⟩
      |g _ _ _=>rw[hz]at wt2;exact wt2
      |d=>rw[hz]at wt2;exact wt2
     |false=>
      rw[if_neg xd];exact⟨false,rfl,wt' _ _ _ Ext.refl hr3 rfl⟩
    |_=>exact yJ (zG rfl)
   |g _ _ _=>exact yJ (zG rfl)
   |d=>exact yJ (zG rfl)
  |g _ _ _=>exact yJ (zG rfl)
  |d=>exact yJ (zG rfl)
 |g _ _ _=>exact yJ (zG rfl)
 |d=>exact yJ (zG rfl)
theorem Vi(ja:JE T n a)(jb:JE T n b):JC T n (.a (.l op a b)):=by intro sc N X e o h env s;replace h:=nK (zX h).1;obtain⟨_,_,_,_,rfl,h1⟩:=h;simp only[cf,decide_eq_true_eq]at h1;obtain⟨⟨⟨⟨k1,rfl⟩,h3⟩,h4⟩,h5⟩:=h1;exact Vs k1 o.d (ja _ _ _ _ o h3 env s) (λs1=>jb _ _ _ _ o h4 env s1) h5
theorem bN(ja:JE T n a)(jb:JE T n b)(jc:JE T n c):JC T n (.a (.w op op' a b c)):=by intro sc N X e o h env s;replace h:=iX (zX h).1;obtain⟨_,_,_,_,_,_,rfl,h1⟩:=h;simp only[cf,decide_eq_true_eq]at h1;obtain⟨⟨⟨⟨⟨⟨k1,rfl⟩,k2,rfl⟩,h3⟩,h4⟩,h5⟩,h6⟩:=h1;exact bZ k1 k2 o.d (ja _ _ _ _ o h3 env s) (λs1=>jb _ _ _ _ o h4 env s1) (λs1=>jc _ _ _ _ o h5 env s1) h6
noncomputable def WM:Ex->Bool
 |.l ..|.w ..=>true
 |_=>false
theorem dm{os}(h:ck sc N a (.Compare l os rs p)=true):WM a=true:=by
 cases a with
 |l _ _ _=>rfl
 |w _ _ _ _ _=>rfl
 |h f v es=>
  replace h:(if v<100 then ckA sc f (λxs=>ckL sc N es xs) (.Compare l os rs p) else if v<200 then ckB sc N f v es (λl ys=>ckL l N es ys) (.Compare l os rs p) else ckV sc N v es (λl ys=>ckL l N es ys) (.Compare l os rs p))=true:=h
  split at h
  . cases h
  . split at h
    . cases h
    . exact absurd (show false=true from (zX h).2) xd
 |_=>cases h
theorem dw{e:Expr}(h:e.ctorIdx=15):∃l os rs p,e=.Compare l os rs p:=FE (motive_1:=λe=>∃l os rs p,e=Expr.Compare l os rs p) e h λl os rs p=>⟨l,os,rs,p,rfl⟩
theorem yD(ja:JE T n a)(hn:WM a=false):JC T n (.a a):=by
 intro sc N X e o h env s;obtain⟨h1,h2⟩:=zX h;have je:=ja sc N X e o h1 env s;rcases (Ax _ _).mp h2 with h2|h2
 . exact Vu h2 je
 . obtain⟨l,os,rs,p,rfl⟩:=dw (of_decide_eq_true h2)
   rw[dm h1]at hn;cases hn
end
end M
end
section
namespace M
open PySem
section
variable {T:Tbl}{n:Nat}
theorem bF(ja:JE T n a)(jb:JE T n b):JE T n (.j m op a b):=by intro sc N X e o h env s;replace h:=mj h;obtain⟨l,o1,r,p,rfl,h⟩:=h;simp only[cf,decide_eq_true_eq]at h;obtain⟨⟨⟨k1,rfl⟩,h1⟩,h2⟩:=h;exact W0 (ja _ _ _ _ o h1 env s) (λs1=>jb _ _ _ _ o h2 env s1) λta tb pa pb=>L2.lY (aF m op k1) pa pb
theorem bI(ja:JE T n a):JE T n (.B a):=by intro sc N X e o h env s;replace h:=rX h;obtain⟨x,p,rfl,h⟩:=h;exact Vl (ja _ _ _ _ o h env s)
theorem VZ(jl:JL T n es):JE T n (.p es):=by intro sc N X e o h env s;replace h:=uB h;obtain⟨xs,k,p,rfl,h⟩:=h;simp only[cf]at h;exact kl ((jl _ _ _ _ o h.1).1 h.2 env s)
theorem VX(jl:JL T n es):JE T n (.s m es):=by intro sc N X e o h env s;replace h:=mq h;obtain⟨xs,p,rfl,h⟩:=h;simp only[cf]at h;exact bS ((jl _ _ _ _ o h.1).1 h.2 env s)
theorem WN(ja:JE T n a)(jb:JE T n b):JE T n (.u a b):=by intro sc N X e o h env s;replace h:=qH h;obtain⟨l,r,p,rfl,h⟩:=h;simp only[cf]at h;exact W0 (ja _ _ _ _ o h.1.1 env s) (λs1=>jb _ _ _ _ o h.1.2 env s1) λta tb pa pb=>L2.WY SJ pa pb (ag h.2)
end
section
variable {Φ Φ':Calls}{G:Str->Option Val}{env:Env}
mutual
theorem rA:∀(a:Ex) (s:Sto),sim a=true->evE Φ G env a s=evE Φ' G env a s
 |.g _,_,_=>rfl
 |.e _,_,_=>rfl
 |.A _,_,_=>rfl
 |.j m op a b,s,h=>by
  simp only[sim,cf]at h;show (evE Φ G env a s).bind _=(evE Φ' G env a s).bind _;rw[rA a s h.1.2];exact congrArg _ (funext λx=>funext λs1=>by rw[rA b s1 h.2])
 |.B a,s,h=>by
  simp only[sim]at h;show (evE Φ G env a s).bind _=(evE Φ' G env a s).bind _;rw[rA a s h]
 |.p es,s,h=>by
  simp only[sim]at h;show (zf Φ G env es s).bind _=(zf Φ' G env es s).bind _;rw[sJ es s h]
 |.s m es,s,h=>by
  simp only[sim,cf]at h;show (zf Φ G env es s).bind _=(zf Φ' G env es s).bind _;rw[sJ es s h.2]
 |.u a b,s,h=>by
  simp only[sim,cf]at h;show (evE Φ G env a s).bind _=(evE Φ' G env a s).bind _;rw[rA a s h.1];exact congrArg _ (funext λx=>funext λs1=>by rw[rA b s1 h.2])
 |.L _ _,_,h=>by cases h
 |.G _,_,h=>by cases h
 |.l _ _ _,_,h=>by cases h
 |.w _ _ _ _ _,_,h=>by cases h
 |.z _ _,_,h=>by cases h
 |.I _ _,_,h=>by cases h
 |.F _ _ _,_,h=>by cases h
 |.D,_,h=>by cases h
 |.h _ _ _,_,h=>by cases h
 |.k _ _ _,_,h=>by cases h
 |.E _ _,_,h=>by cases h
 |.K _ _ _ _,_,h=>by cases h
 |.H _ _ _ _ _,_,h=>by cases h
 |.q _ _ _ _ _ _ _,_,h=>by cases h
 |.y _ _ _ _ _ _ _ _ _ _,_,h=>by cases h
 |.r _ _ _ _,_,h=>by cases h
 |.C _,_,h=>by cases h
 |.J _ _,_,h=>by cases h
theorem sJ:∀(es:Exs) (s:Sto),uj es=true->zf Φ G env es s=zf Φ' G env es s
 |.b,_,_=>rfl
 |.a e es,s,h=>by simp only[uj,cf]at h;show (evE Φ G env e s).bind _=(evE Φ' G env e s).bind _;rw[rA e s h.1];exact congrArg _ (funext λx=>funext λs1=>by rw[sJ es s1 h.2])
end
theorem qY(h:newList false vs s=.e v s'):s'=s:=by simp only[newList,AO,if_false]at h;cases h;rfl
theorem dY(h:binOp false op x y s=.e v s'):s'=s:=by unfold binOp at h;split at h<;>(repeat' split at h)<;>first|exact qY h|(cases h;rfl)|cases h
theorem YV(h:vP x y s=.e v s'):s'=s:=by
 unfold vP at h;split at h
 . split at h
   . split at h
     . cases h;rfl
     . cases h
   . cases h
 . cases h
theorem zy{o:Out α}{f}{b:β}(h:o.bind f=.e b s):∃a s1,o=.e a s1/\f a s1=.e b s:=by
 cases o with
 |e a s1=>exact⟨a,s1,rfl,h⟩
 |g _ _ _=>cases h
 |d=>cases h
mutual
theorem rB:∀(a:Ex) (s s':Sto) (v:Val),sim a=true->evE Φ G env a s=.e v s'->s'=s
 |.g _,_,_,_,_,h=>by cases h;rfl
 |.e i,s,s',v,_,h=>by
  have key:∀o:Option (Option Val),(match o with|some (some v)=>Out.e v s|_=>.d)=.e v s'->s'=s:=λo h=>by
   cases o with
   |none=>cases h
   |some o=>cases o with
    |none=>cases h
    |some w=>cases h;rfl
  exact key _ h
 |.A x,s,s',v,_,h=>by
  have key:∀o:Option Val,(match o with|some v=>Out.e v s|dS=>.d)=.e v s'->s'=s:=λo h=>by
   cases o with
   |none=>cases h
   |some w=>cases h;rfl
  exact key _ h
 |.j m op a b,s,s',v,z,h=>by
  simp only[sim,cf,AG]at z;obtain⟨⟨rfl,z1⟩,z2⟩:=z;obtain⟨x,s1,e1,h⟩:=zy h;obtain⟨y,s2,e2,h⟩:=zy h;rw[dY h,rB b _ _ _ z2 e2,rB a _ _ _ z1 e1]
 |.B a,s,s',v,z,h=>by
  simp only[sim]at z;obtain⟨x,s1,e1,h⟩:=zy h;rw[<-rB a _ _ _ z e1];split at h
  . cases h;rfl
  . cases h
 |.p es,s,s',v,z,h=>by
  simp only[sim]at z;obtain⟨x,s1,e1,h⟩:=zy h;rw[<-sL es _ _ _ z e1];split at h
  . cases h;rfl
  . cases h
 |.s m es,s,s',v,z,h=>by
  simp only[sim,cf,AG]at z;obtain⟨rfl,z⟩:=z;obtain⟨x,s1,e1,h⟩:=zy h;rw[<-sL es _ _ _ z e1];split at h
  . exact qY h
  . cases h
 |.u a b,s,s',v,z,h=>by
  simp only[sim,cf]at z;obtain⟨x,s1,e1,h⟩:=zy h;obtain⟨y,s2,e2,h⟩:=zy h;rw[YV h,rB b _ _ _ z.2 e2,rB a _ _ _ z.1 e1]
 |.L _ _,_,_,_,h,_=>by cases h
 |.G _,_,_,_,h,_=>by cases h
 |.l _ _ _,_,_,_,h,_=>by cases h
 |.w _ _ _ _ _,_,_,_,h,_=>by cases h
 |.z _ _,_,_,_,h,_=>by cases h
 |.I _ _,_,_,_,h,_=>by cases h
 |.F _ _ _,_,_,_,h,_=>by cases h
 |.D,_,_,_,h,_=>by cases h
 |.h _ _ _,_,_,_,h,_=>by cases h
 |.k _ _ _,_,_,_,h,_=>by cases h
 |.E _ _,_,_,_,h,_=>by cases h
 |.K _ _ _ _,_,_,_,h,_=>by cases h
 |.H _ _ _ _ _,_,_,_,h,_=>by cases h
 |.q _ _ _ _ _ _ _,_,_,_,h,_=>by cases h
 |.y _ _ _ _ _ _ _ _ _ _,_,_,_,h,_=>by cases h
 |.r _ _ _ _,_,_,_,h,_=>by cases h
 |.C _,_,_,_,h,_=>by cases h
 |.J _ _,_,_,_,h,_=>by cases h
theorem sL:∀(es:Exs) (s s':Sto) (vs:List Val),uj es=true->zf Φ G env es s=.e vs s'->s'=s
 |.b,_,_,_,_,h=>by cases h;rfl
 |.a e es,s,s',vs,z,h=>by simp only[uj,cf]at z;obtain⟨x,s1,e1,h⟩:=zy h;obtain⟨y,s2,e2,h⟩:=zy h;cases h;rw[sL es _ _ _ z.2 e2,rB e _ _ _ z.1 e1]
end
end
section
variable {T:Tbl}{n:Nat}
mutual
theorem sj:∀(a:Ex),sim a=true->JE T n a
 |.g _,_=>bR
 |.e _,_=>bV
 |.A _,_=>WO
 |.j m op a b,h=>by
  simp only[sim,cf]at h;exact bF (sj a h.1.2) (sj b h.2)
 |.B a,h=>bI (sj a (by simpa only[sim] using h))
 |.p es,h=>by
  simp only[sim]at h;intro sc N X e o hc env s;replace hc:=uB hc;obtain⟨xs,k,p,rfl,hc⟩:=hc;simp only[cf]at hc;exact kl (n5 es h _ _ _ _ o hc.1 hc.2 env s)
 |.s m es,h=>by
  simp only[sim,cf]at h;intro sc N X e o hc env s;replace hc:=mq hc;obtain⟨xs,p,rfl,hc⟩:=hc;simp only[cf]at hc;exact bS (n5 es h.2 _ _ _ _ o hc.1 hc.2 env s)
 |.u a b,h=>by
  simp only[sim,cf]at h;exact WN (sj a h.1) (sj b h.2)
 |.L _ _,h=>by cases h
 |.G _,h=>by cases h
 |.l _ _ _,h=>by cases h
 |.w _ _ _ _ _,h=>by cases h
 |.z _ _,h=>by cases h
 |.I _ _,h=>by cases h
 |.F _ _ _,h=>by cases h
 |.D,h=>by cases h
 |.h _ _ _,h=>by cases h
 |.k _ _ _,h=>by cases h
 |.E _ _,h=>by cases h
 |.K _ _ _ _,h=>by cases h
 |.H _ _ _ _ _,h=>by cases h
 |.q _ _ _ _ _ _ _,h=>by cases h
 |.y _ _ _ _ _ _ _ _ _ _,h=>by cases h
 |.r _ _ _ _,h=>by cases h
 |.C _,h=>by cases h
 |.J _ _,h=>by cases h
theorem n5:∀(es:Exs),uj es=true->∀(sc:Scope) (N:List Str) (X:L2.Cx) (xs:List Expr),Ok T n sc N X->ckL sc N es xs=true->zi xs=true->∀env s,L2.PA X xs (tVs X.K X.d env s (zf (zE T n) T.b env es s))
 |.b,_=>λsc N X xs o h hp env s=>by
  cases AL.mp h;exact i7
 |.a e es,hs=>λsc N X xs o h hp env s=>by simp only[uj,cf]at hs;replace h:=yj h;obtain⟨y,ys,rfl,h⟩:=h;rw[zi,cf]at hp;exact m8 hp.1 (sj e hs.1 _ _ _ _ o (zX h).1 env s) λs1=>n5 es hs.2 _ _ _ _ o (zX h).2 hp.2 env s1
end
end
end M
end
section
namespace M
open PySem PySem.W PyProof.Rows
theorem jQ(h:L2.PA X.nox es t):L2.PA X es t:=λpos pins s σ H Q I hw=>
 A3 (h pos pins s σ H Q (I.wo _) hw) (λ_ _ ⟨vs,H',I',r,q⟩=>⟨vs,H',I'.xK,r,q⟩) λ_ _ z=>Ay z
theorem fR(h:uz a=true):a=L2.noArgs:=by obtain⟨po,ar,va,ko,kd,kw,df⟩:=a;simp only[uz,cf,AL,B5]at h;obtain⟨⟨⟨⟨⟨⟨rfl,rfl⟩,rfl⟩,rfl⟩,rfl⟩,rfl⟩,rfl⟩:=h;rfl
theorem ay(r:L2.xW (m+1) A)e1 e2:L2.xW m ((A.deeper e1).deeper e2):=
 ⟨r.b,by have:=r.c;show A.depth+1+1+3*m+5<_;omega,by have:=r.a;show A.units+3+3+16*m+200<_;omega,r.d⟩
theorem RP(h:∀v s',o=.e v s'->L2.PE X E (tV X.K X.d env s o)):L2.PE X E (tV X.K X.d env s o):=by
 cases o with
 |e v s'=>exact h v s' rfl
 |g _ _ _=>exact zK (zG rfl)
 |d=>exact zK (zG rfl)
theorem bB(h:oE sc x=true):L2.Vis sc x:=by
 simp only[oE,Ax,decide_eq_true_eq]at h;rcases h with (h|h)|h
 . exact .inl h
 . exact .inr (.inl h)
 . exact .inr (.inr h)
theorem aU{ds}{i:Nat}(F:L2.tL X.f X.w X.K X.d X.h CX k f fd ps sp)(hr:L2.xW k X.A)(hN:X.N[i]?=some x)(hv:L2.Vis X.a.scope x)(hk:B2 X.K (.ref f)=true)(hb:L2.Binds X.K fd ps ds)(hd:L2.Vals dvs ds)(hx:L2.Passes CX X E)
 (ha:L2.PA X (e::es) t) (hdb:(x == ("__debug__":Str))=false) (hcd:(x == ("__classdict__":Str))=false) (he:AJ (e::es) X.a=(false,eval e X.a)::AJ es X.a) (hpl:(backTo pos (AJ es X.a)).any (·.1)=false) :
 L2.PE X (.Call (.Name x p) (e::es) [] pos) (λσ H Q=>σ[i]?=some (some (.c f))/\L2.gM sp dvs E t σ H Q):=by
 intro pins s σ H Q I ⟨h0,h⟩;refine BO (L2.thn (L2.uM hN hv hdb hcd pins s σ H (λv H2=>v=L2.V.c f/\H2=H) I ⟨_,h0,rfl,rfl⟩) λu s2 ⟨v,H2,I2,r,hv2,hH2⟩=>?_);subst hv2 hH2;cases r;refine DO (h₀:=X.h) I2.B.j.a hk (L2.thn (ha pos pins s2 σ H2 _ I2 h) λus s1 ⟨vs,H1,I1,r,q⟩=>⟨I1.kIn,?_⟩) he hpl;exact L2.jg F hr hb hd hx I1 r q
section
variable {T:Tbl}{n:Nat}{sc lsc:Scope}{N:List Str}{X:L2.Cx}
def Cal(lsc:Scope)(N:List Str)(env:Env)(y f:Str):Prop:=(y=f/\lsc.names.lookup y=some .globalImplicit/\(y == ("__debug__":Str))=false) \/
 ∃i:Nat,N[i]?=some y/\oE lsc y=true/\(y == ("__debug__":Str))=false/\(y == ("__classdict__":Str))=false/\env[i]?=some (some (.q f))
theorem oR(o:Ok T (m+1) sc N X)(h2:sc.names.lookup (L2.yd md)=some .globalImplicit)(h3:uz a=true)(h4:ph sc lsc=true)
 (h8:uj es=true) (h9:ckL lsc N es ys=true) (h10:zi ys=true) (h11:ys.isEmpty=false) (h12:("!":Str)∈N) env s (hcal:Cal lsc N env y f) (ho:zf (zE T m) T.b env es s=.e vs s) (htb:z0 T.f s=true) (hmd:T.c md=true) :
 L2.PE X (.Call (.Name (L2.yd md) p1) [.Lambda a (.Call (.Name y p2) ys [] p3) lsc p4] [] p5) (tV X.K X.d env s (qv T md (zE T m f 0 vs s) (zk T m f 0 vs s))):=by
 obtain rfl:=fR h3;intro pins s0 σ H Q I ⟨ρ,hr,er,wt⟩;have sd:=o.sd m rfl ⟨md,hmd⟩;obtain⟨kx,cs,ws,pre,hue,hhue,KF,SF,CF,RF⟩:=sd.b.ex;obtain⟨fS,SF'⟩:=SF md hmd;obtain⟨stS,fdS,hmS,FnS,_⟩:=id SF'.ex;simp only[ph,cf,decide_eq_true_eq,AG,Aq,Bk,Ax]at h4;obtain⟨⟨⟨⟨k1,k2⟩,k3⟩,k4⟩,⟨x0,hx0,hx0f⟩⟩:=h4;have fcell:∀x∈lsc.names,x.2=.free->sc.names.lookup x.1=some .cell\/sc.names.lookup x.1=some .free:=λx hx hf=>by
  rcases k4 x hx with z|z
  . rw[hf]at z;cases z
  . exact z.2
 obtain⟨g,hg,fa,c,ob,fd,q1,q2,q3,q4,q5,q6⟩:=o.k ⟨md,hmd⟩ ⟨x0.1,hx0f⟩ h12;obtain⟨j,hj⟩:=m5 htb hg;obtain⟨P,hPo,tr⟩:=hr.m j _ hj;obtain⟨ps,hP,tok,among,fa',c',o',fd',w1,w2,w3,w4,w5⟩:=id tr;rw[q1]at w1;cases w1;rw[q2]at w2;cases w2;rw[q3]at w3;cases w3;rw[q4]at w4;cases w4;have hq:X.a.qual++("<lambda>":Str)=V4 g:=by rw[q6];rfl
 have cellOf':∀x,(x,AH)∈lsc.names->∃b,X.a.cells.lookup x=some b:=λx hx=>I.B.r x (o.a.f x (fcell _ hx rfl));have clk:∀x b,(wY X.a.cells lsc.names []).lookup x=some b->(x,AH)∈lsc.names/\X.a.cells.lookup x=some b:=λx b e=>by
  rcases pk (AW e) with z|⟨z1,z2⟩
  . cases z
  . obtain⟨b',hb'⟩:=cellOf' x z1
    rw[hb']at z2;exact⟨z1,by rw[hb',z2];rfl⟩
 have hdbg:(L2.yd md == ("__debug__":Str))=false:=by cases md<;>decide
 refine BO (L2.wy I (o.a.b _ h2) hmS ?_ hdbg);refine DO (h₀:=X.h) I.B.j.a FnS.b ?_;show wpAny _ _ (spliced ((false,eval (.Lambda L2.noArgs (.Call (.Name y p2) ys [] p3) lsc p4) X.a)::backTo p5 (AJ [] X.a))) _ _ s0;refine Calls.spliced_cons (L2.bu (P:=P) (ps:=ps) (c:=c) I rfl (Zy λx hx hf=>cellOf' x.1 (by rw[<-hf];exact hx)) q5 (w5 _ I.kIn) hP tok (sd.b.bm _ I.B.j.a) (λcv hcv=>?_) λlf c2 ctv H' h' tk I' lamh ⟨nl,nf,cdr⟩ obj cr=>Calls.spliced_nil ⟨I'.kIn,?_⟩)
 . obtain⟨b,ob',vb,tb,z1,_,z3,z4,z5⟩:=among _ cv hcv
   exact⟨b,ob',vb,tb,z1,z3,z4,by rw[hq];exact z5⟩
 rw[hq]at lamh;obtain⟨hr',X0⟩:=hr.lam hj hPo tr hP lamh;cases hfn:T.d f 0 with
 |none=>
  exfalso;have h1:zE T m f 0 vs s=.d:=by
   cases m with
   |zero=>rfl
   |succ m=>simp only[zE,hfn];cases mx vs<;>rfl
  have h2:zk T m f 0 vs s=dS:=by
   cases m with
   |zero=>rfl
   |succ m=>simp only[zk,hfn]
  rw[h1,h2]at wt;exact wt
 |some F=>
  obtain⟨fa2,fd2,e1,e2,e3,e4,e5⟩:=(sd.a m (Ac _)).a f 0 F hfn;have L:L2.iK X.g h' H' lf c2 (X.a.qual++("<lambda>":Str)) (.Call (.Name y p2) ys [] p3) lsc (wY X.a.cells lsc.names []) ((X.d "__name__").getD .none) ctv N σ:=by
   refine⟨obj,nl,nf,cdr,λx y b z1 z2=>I.B.s x y b (clk x b z1).2 (clk y b z2).2,λx hx=>lookup_mem (sX (AW hx)),λx b e=>?_,λi x v z1 z2 z3=>?_,by rw[<-o.a.a];exact I'.P,k1,k2,k3,λx hx=>?_⟩
   . obtain⟨y1,y2⟩:=clk x b e
     exact⟨I'.F x b y2,I'.J x b y2⟩
   . have hm3:=AW z3
     have hcl:=fcell _ hm3 rfl;obtain⟨mm,hn,hl⟩:=I'.M;obtain⟨u,ru,lk⟩:=hl i x v (by rw[o.a.a];exact z1) z2 (o.a.e x (.inr hcl))
     rcases lk with⟨y,_⟩|⟨_,b,y2,y3⟩
     . rcases o.a.f x hcl with y'|y'
       . rw[y]at y';cases y'
       . rw[y]at y';cases y'
     . obtain⟨b',hb'⟩:=lookup_mem (sX (cells:=X.a.cells) (acc:=[]) hm3)
       have:=(clk x b' hb').2;rw[y2]at this;cases this;exact⟨u,b,ru,hb',y3⟩
   . rcases k4 x hx with z|z
     . rw[z];exact⟨nofun,nofun⟩
     . rw[z.1];exact⟨nofun,nofun⟩
  refine EH (De (L2.ZK (EE:=λcls H2=>∃(cc:Str) (as:List Val) (s':Sto) (ρ2:Own) (C:Addr),((∀v s1,zE T m f 0 vs s≠.e v s1)/\zk T m f 0 vs s=some (cc,as,s'))/\Ext ρ H' ρ2 H2/\HR X.K X.d ρ2 s' H2/\X.d cc=some (.ref C)/\cls=.ref C)
   (Q:=Q) (tb:=λσ1 H1 Q1=>(∀i:Nat,env[i]?=some (some (.q f))->σ1[i]?=some (some (.c fa2)))/\L2.gM (spX T X.K X.d m f 0) [] (λcls _ H2=>∃(cc:Str) (as:List Val) (s':Sto) (ρ2:Own) (C:Addr),((∀v s1,zE T m f 0 vs s≠.e v s1)/\zk T m f 0 vs s=some (cc,as,s'))/\Ext ρ H' ρ2 H2/\HR X.K X.d ρ2 s' H2/\X.d cc=some (.ref C)/\cls=.ref C) (tVs X.K X.d env s (zf (zE T m) T.b env es s)) σ1 H1 Q1)
   I'.uC o.d.b (by have:=o.d.c;omega) SF' KF hhue L (λuC s' H2=>?_) ?_ λcls H2 hEE=>?_) λr s' hres=>?_)
  . cases ys with
    |nil=>cases h11
    |cons y1 ys=>
     have hp2:=h10;rw[zi,cf]at hp2;have okL:Ok T m lsc N (L2.qF (L2.CXE X.f X.w) X.f X.w X.K X.d X.h N (X.a.qual++("<lambda>":Str)) lsc lf (.ref c2) (wY X.a.cells lsc.names []) (X.A.deeper uC) (uC::X.g) s' H2 (λcls _ H2=>∃(cc:Str) (as:List Val) (s':Sto) (ρ2:Own) (C:Addr),((∀v s1,zE T m f 0 vs s≠.e v s1)/\zk T m f 0 vs s=some (cc,as,s'))/\Ext ρ H' ρ2 H2/\HR X.K X.d ρ2 s' H2/\X.d cc=some (.ref C)/\cls=.ref C)).nox:=by
      refine⟨rfl,ay o.d _ _,⟨rfl,o.a.d,λx hx=>hx,λx hx=>?_,λx hx=>hx,λx hx=>hx⟩,λf' v' F' hf'=>?_,o.i,o.g,rfl,o.j,λm' hm' hmd'=>⟨sd.b,λj hj=>sd.a j (by omega)⟩,λ_ ⟨x,hx⟩ _=>?_⟩
      . exfalso
        rcases hx with hx|hx
        . rcases k4 _ (AW hx) with z|z
          . cases z
          . cases z.1
        . rcases k4 _ (AW hx) with z|z
          . cases z
          . cases z.1
      . obtain⟨fa3,fd3,y1,y2,y3,y4,y5⟩:=(sd.a m (Ac _)).a f' v' F' hf'
        exact⟨⟨fa3,fd3,y1,y2,y3,y4⟩⟩
      . exfalso
        rcases k4 _ (AW hx) with z|z
        . cases z
        . cases z.1
     have hpa:=jQ (n5 es h8 lsc N _ _ okL h9 h10 env s);rcases hcal with⟨rfl,h6,h7⟩|⟨i,c1,c2,c3,c4,c5⟩
     . exact za (L2.n9 e5 (ay o.d _ _) h6 e1 e2 e3 .nil L2.qm hpa h7 (L2.zg (zW hp2.1)) (xJ hp2.2)) λσ H Q h=>h.2
     . exact za (aU e5 (ay o.d _ _) c1 (bB c2) e2 e3 .nil L2.qm hpa c3 c4 (L2.zg (zW hp2.1)) (xJ hp2.2)) λσ H Q h=>⟨h.1 i c5,h.2⟩
  . refine Ad (λi he=>?_) ⟨ρ,hr',er.mono X0,?_⟩
    . obtain⟨x,hx,r⟩:=er.a i _ he
      cases r with
      |G e=>rw[e1]at e;cases e;exact hx
    rw[ho];intro ρ1 xs H1 x1 hr1 r1;refine⟨ρ1,s,vs,hr1,by rw[A5];exact r1,?_⟩
    cases hres:zE T m f 0 vs s with
    |e v s'=>
     rw[hres]at wt;refine .inl λρ2 x H2 x2 hr2 r2=>?_;have X2:=X0.trans hr' (x1.trans hr1 x2);cases md with
     |true=>exact wt ρ2 x H2 X2 hr2 r2
     |false=>exact wt ρ2 _ H2 X2 hr2 (.D _)
    |g _ _ _=>
     rw[hres]at wt;cases hx:zk T m f 0 vs s with
     |none=>rw[hx]at wt;exact wt.elim
     |some r=>
      obtain⟨cc,as,s'⟩:=r;exact .inr λρ2 H2 x2 hr2 C hC=>⟨cc,as,s',ρ2,C,⟨zG rfl,rfl⟩,x1.trans hr1 x2,hr2,hC,rfl⟩
    |d=>
     rw[hres]at wt;cases hx:zk T m f 0 vs s with
     |none=>rw[hx]at wt;exact wt.elim
     |some r=>
      obtain⟨cc,as,s'⟩:=r;exact .inr λρ2 H2 x2 hr2 C hC=>⟨cc,as,s',ρ2,C,⟨zG rfl,rfl⟩,x1.trans hr1 x2,hr2,hC,rfl⟩
  . obtain⟨cc,as,s',ρ2,C,⟨hno,hexc⟩,x2,hr2,hC,rfl⟩:=hEE
    have wt:yt X.K X.d (RD X.K X.d) ρ H (match T.e.lookup cc with|some w=>.e (.h w) s'|dS=>.d) Q:=by
     rw[hexc]at wt;cases hn:zE T m f 0 vs s with
     |e v s1=>exact absurd hn (hno v s1)
     |g _ _ _=>rw[hn]at wt;exact wt
     |d=>rw[hn]at wt;exact wt
    cases hw:T.e.lookup cc with
    |none=>rw[hw]at wt;exact wt.elim
    |some w=>
     rw[hw]at wt;obtain⟨C',i,x,c1,c2,c3,c4,c5,c6,c7⟩:=CF cc w hw;rw[hC]at c1;cases c1;refine⟨C,cc,i,x,rfl,c2,c3,c4,c5,λ_=>by rw[<-c6];exact c7,λH3 sm=>?_⟩
     obtain⟨hr3,x3⟩:=hr2.Rv sm;have:=wt ρ2 (.e w) H3 (X0.trans hr' (x2.trans hr2 x3)) hr3 (.D w);rw[<-c6];exact this
  . cases r with
    |error e=>exact Ay hres
    |ok fl=>
     cases fl with
     |ret u=>exact I'.after hres
     |next=>exact Ay hres
     |brk=>exact Ay hres
     |cont=>exact Ay hres
theorem Yk(o:Ok T n sc N X)(hver:¬ver<100)(hver2:ver<200)(h2:sc.names.lookup (L2.yd (decide (ver=101)))=some .globalImplicit)(h3:uz a=true)(h4:ph sc lsc=true)(h6:lsc.names.lookup f=some .globalImplicit)
 (h7:(f == ("__debug__":Str))=false) (h8:uj es=true) (h9:ckL lsc N es ys=true) (h10:zi ys=true) (h11:ys.isEmpty=false) (h12:("!":Str)∈N) env s :
 L2.PE X (.Call (.Name (L2.yd (decide (ver=101))) p1) [.Lambda a (.Call (.Name f p2) ys [] p3) lsc p4] [] p5) (tV X.K X.d env s (evE (zE T n) T.b env (.h f ver es) s)):=by
 show L2.PE X _ (tV X.K X.d env s ((zf (zE T n) T.b env es s).bind λvs s1=>zE T n f ver vs s1));cases n with
 |zero=>
  refine zK λv s' e=>?_;obtain⟨_,_,_,z⟩:=zy e;cases z
 |succ m=>
  rw[sJ (Φ':=zE T m) es s h8];cases ho:zf (zE T m) T.b env es s with
  |g _ _ _=>exact zK (zG rfl)
  |d=>exact zK (zG rfl)
  |e vs s1=>
   obtain rfl:s=s1:=(sL es _ _ _ h8 ho).symm;rw[zM];have hcall:zE T (m+1) f ver vs s=if ((decide (ver=100)&&T.c false)||(decide (ver=101)&&T.c true))&&z0 T.f s then qv T (decide (ver=101)) (zE T m f 0 vs s) (zk T m f 0 vs s) else .d:=by
    simp only[zE,o.j f ver (by omega)]
    rw[decide_eq_false (show ¬ver=200 by omega),decide_eq_false (show ¬ver=300 by omega),decide_eq_false (show ¬ver=301 by omega)]
    congr 1;cases mx vs<;>rfl
   rw[hcall];by_cases hcond:(((decide (ver=100)&&T.c false)||(decide (ver=101)&&T.c true))&&z0 T.f s)=true
   case neg=>rw[if_neg hcond];exact zK (zG rfl)
   rw[if_pos hcond];rw[cf]at hcond;obtain⟨hmd0,htb⟩:=hcond;have hmd:T.c (decide (ver=101))=true:=by
    simp only[Ax,cf,decide_eq_true_eq]at hmd0;rcases hmd0 with⟨z1,z2⟩|⟨z1,z2⟩
    . rw[decide_eq_false (by omega)];exact z2
    . rw[decide_eq_true z1];exact z2
   exact oR o h2 h3 h4 h8 h9 h10 h11 h12 env s (.inl ⟨rfl,h6,h7⟩) ho htb hmd
theorem bU(o:Ok T n sc N X)(hver:¬ver<200)(hv2:ver≠200)(hvf:Xz es=true)(h2:sc.names.lookup (L2.yd (decide (ver=301)))=some .globalImplicit)(h3:uz a=true)(h4:ph sc lsc=true)
 (h8:uj es=true) (h9:ckL lsc N es (.Name y default::ys)=true) (h10:zi ys=true) (h11:ys.isEmpty=false) (h12:("!":Str)∈N) env s :
 L2.PE X (.Call (.Name (L2.yd (decide (ver=301))) p1) [.Lambda a (.Call (.Name y p2) ys [] p3) lsc p4] [] p5) (tV X.K X.d env s (evE (zE T n) T.b env (.h f ver es) s)):=by
 show L2.PE X _ (tV X.K X.d env s ((zf (zE T n) T.b env es s).bind λvs s1=>zE T n f ver vs s1));obtain⟨i,es',rfl⟩:=X3 hvf;have h9:((decide (N[i]?=some y)&&oE lsc y&&!(y == ("__debug__":Str))&&!(y == ("__classdict__":Str)))&&ckL lsc N es' ys)=true:=h9;simp only[cf,decide_eq_true_eq,AG]at h9;obtain⟨⟨⟨⟨c1,c2⟩,c3⟩,c4⟩,c5⟩:=h9;have h8:uj es'=true:=by rw[uj,cf]at h8;exact h8.2
 cases n with
 |zero=>
  refine zK λv s' e=>?_;obtain⟨_,_,_,z⟩:=zy e;cases z
 |succ m=>
  refine RP λv s' e=>?_;obtain⟨vs,s1,hvs,hc⟩:=zy e;obtain⟨v0,s0,hv0,hr0⟩:=zy (show ((evE (zE T (m+1)) T.b env (.e i) s).bind λv s1=>(zf (zE T (m+1)) T.b env es' s1).bind λvs s2=>.e (v::vs) s2)=.e vs s1 from hvs);obtain⟨us,s2,hus,hr1⟩:=zy hr0;cases hr1;have hv0':(match env[i]? with|some (some v)=>Out.e v s|_=>.d)=.e v0 s0:=hv0
  split at hv0'
  case h_2=>cases hv0'
  rename_i v0' he;cases hv0';rw[sJ (Φ':=zE T m) es' s h8]at hus;obtain rfl:s1=s:=sL es' _ _ _ h8 hus;simp only[zE,o.j f ver (by omega)]at hc
  rw[decide_eq_false (show ¬ver=100 by omega),decide_eq_false (show ¬ver=101 by omega),decide_eq_false hv2]at hc
  cases v0 with
  |q g=>
   have hc:(if ((decide (ver=300)&&T.c false)||(decide (ver=301)&&T.c true))&&z0 T.f s1 then qv T (decide (ver=301)) (zE T m g 0 us s1) (zk T m g 0 us s1) else .d)=.e v s':=hc
   by_cases hcond:(((decide (ver=300)&&T.c false)||(decide (ver=301)&&T.c true))&&z0 T.f s1)=true
   case neg=>rw[if_neg hcond]at hc;cases hc
   rw[if_pos hcond]at hc;rw[cf]at hcond;obtain⟨hmd0,htb⟩:=hcond;have hmd:T.c (decide (ver=301))=true:=by
    simp only[Ax,cf,decide_eq_true_eq]at hmd0;rcases hmd0 with⟨z1,z2⟩|⟨z1,z2⟩
    . rw[decide_eq_false (by omega)];exact z2
    . rw[decide_eq_true z1];exact z2
   have:=oR (p1:=p1) (p2:=p2) (p3:=p3) (p4:=p4) (p5:=p5) o h2 h3 h4 h8 c5 h10 h11 h12 env s1 (.inr ⟨i,c1,c2,c3,c4,he⟩) hus htb hmd;rw[hc]at this;rw[e];exact this
  |_=>cases hc
end
end M
end
section
namespace M
open PySem
section
variable {T:Tbl}{n:Nat}
theorem VY(ja:JE T n a):JE T n (.G a):=by intro sc N X e o h env s;replace h:=rX h;obtain⟨x,p,rfl,h⟩:=h;exact Vm (ja _ _ _ _ o h env s)
theorem VV(ja:JE T n a)(jb:JE T n b):JE T n (.l op a b):=by intro sc N X e o h env s;replace h:=nK h;obtain⟨l,o1,r,p,rfl,h⟩:=h;simp only[cf,decide_eq_true_eq]at h;obtain⟨⟨⟨⟨k1,rfl⟩,h1⟩,h2⟩,h3⟩:=h;exact W0 (ja _ _ _ _ o h1 env s) (λs1=>jb _ _ _ _ o h2 env s1) λta tb pa pb=>L2.gA (tE o.d op k1) pa pb (we h3)
theorem bG(ja:JE T n a)(jb:JE T n b)(jc:JE T n c):JE T n (.w op op' a b c):=by intro sc N X e o h env s;replace h:=iX h;obtain⟨l,o1,o2,r,r2,p,rfl,h⟩:=h;simp only[cf,decide_eq_true_eq]at h;obtain⟨⟨⟨⟨⟨⟨k1,rfl⟩,k2,rfl⟩,h3⟩,h4⟩,h5⟩,h6⟩:=h;exact bQ k1 k2 o.d (ja _ _ _ _ o h3 env s) (λs1=>jb _ _ _ _ o h4 env s1) (λs1=>jc _ _ _ _ o h5 env s1) h6
theorem VT(ja:JE T n a)(jl:JL T n es):JE T n (.z a es):=by
 intro sc N X e o h env s;replace h:=nJ h;obtain⟨x,xs,pos,rfl,h⟩:=h;simp only[cf]at h;obtain⟨h1,h2⟩:=h;cases es with
 |b=>
  cases AL.mp h2;exact L2.jR (ja _ _ _ _ o h1 env s)
 |a b es'=>
  cases xs with
  |nil=>cases h2
  |cons y ys=>exact bO (ja _ _ _ _ o h1 env s) λs1=>(jl _ _ _ _ o h2).2.1 y ys pos rfl env s1
theorem VW(jc:JC T n c)(ja:JE T n a)(jb:JE T n b):JE T n (.F c a b):=by intro sc N X e o h env s;replace h:=cQ h;obtain⟨t,x,y,p,rfl,h⟩:=h;simp only[cf]at h;exact Vk (jc _ _ _ _ o h.1.1 env s) (λs1=>ja _ _ _ _ o h.1.2 env s1) (λs1=>jb _ _ _ _ o h.2 env s1)
theorem kQ(hv:ver<100)(h:T.d f ver=none)vs s:zE T n f ver vs s=.d:=by
 cases n with
 |zero=>rfl
 |succ n=>
  have h1:decide (ver=100)=false:=decide_eq_false (by omega)
  have h2:decide (ver=101)=false:=decide_eq_false (by omega)
  have h3:decide (ver=200)=false:=decide_eq_false (by omega)
  have h4:decide (ver=300)=false:=decide_eq_false (by omega)
  have h5:decide (ver=301)=false:=decide_eq_false (by omega)
  simp only[zE,h,h1,h2,h3,h4,h5,Dd,Bool.or_self,AO,if_false];cases mx vs<;>rfl
theorem YY(jl:JL T n es):JE T n (.h f ver es):=by
 intro sc N X e o h env s;replace h:(if ver<100 then ckA sc f (λxs=>ckL sc N es xs) e else if ver<200 then ckB sc N f ver es (λl ys=>ckL l N es ys) e else ckV sc N ver es (λl ys=>ckL l N es ys) e)=true:=h
 split at h
 . rename_i hver
   replace h:=xY h;obtain⟨x,p,xs,pos,rfl,h⟩:=h;simp only[cf,decide_eq_true_eq,wa,AG]at h;obtain⟨⟨⟨⟨rfl,h2⟩,h3⟩,h4⟩,h5⟩:=h;show L2.PE X _ (tV X.K X.d env s ((zf (zE T n) T.b env es s).bind λvs s1=>zE T n x ver vs s1));cases hf:T.d x ver with
   |none=>
    refine zK λv s' e=>?_;cases hv:zf (zE T n) T.b env es s with
    |e vs s1=>rw[hv]at e;simp only[zM,kQ hver hf]at e;cases e
    |g _ _ _=>rw[hv]at e;cases e
    |d=>rw[hv]at e;cases e
   |some F=>
    have C:=o.l x ver F hf;cases xs with
    |nil=>
     cases es with
     |b=>exact bP C o.d (o.a.b x h2) h3
     |a _ _=>cases h4
    |cons y ys=>exact Yi C o.d (o.a.b x h2) h3 h5 (by simp) ((jl _ _ _ _ o h4).1 h5 env s)
 . rename_i hver
   split at h
   . rename_i hver2
     replace h:=ig h;obtain⟨x,a,y,ys,lsc,p1,p2,p3,p4,p5,rfl,h⟩:=h;simp only[cf,decide_eq_true_eq,wa,AG]at h;obtain⟨⟨⟨⟨⟨⟨⟨⟨⟨⟨⟨rfl,h2⟩,h3⟩,h4⟩,rfl⟩,h6⟩,h7⟩,h8⟩,h9⟩,h10⟩,h11⟩,h12⟩:=h;exact Yk o hver hver2 h2 h3 h4 h6 h7 h8 h9 h10 h11 h12 env s
   . rename_i hver2
     obtain⟨h0,hh⟩:=zX h;replace h:=ig hh;obtain⟨x,a,y,ys,lsc,p1,p2,p3,p4,p5,rfl,h⟩:=h;simp only[cf,decide_eq_true_eq,wa,AG]at h;obtain⟨⟨⟨⟨⟨⟨⟨⟨⟨rfl,h2⟩,h3⟩,h4⟩,h8⟩,h9⟩,h10⟩,h11⟩,h12⟩,h13⟩:=h;exact bU o hver2 h13 (zX h0).2 h2 h3 h4 h8 h9 h10 h11 h12 env s
theorem dX(f:Bf):f.nm∈wX:=by cases f<;>decide
theorem VU(jl:JL T n es):JE T n (.k f m es):=by intro sc N X e o h env s;replace h:=xY h;obtain⟨x,p,xs,pos,rfl,h⟩:=h;replace h:=yj h;obtain⟨y,ys,rfl,h⟩:=h;simp only[cf,decide_eq_true_eq,wa]at h;obtain⟨⟨⟨⟨k1,rfl⟩,h2⟩,h3⟩,h4⟩:=h;exact Vj k1 o.c o.d (o.a.b _ h2) (o.g _ (dX f)) h4 ((jl _ _ _ _ o h3).1 h4 env s)
theorem Yb(ja:JE T n a)(jl:JL T n es):JE T n (.K f m a es):=by intro sc N X e o h env s;replace h:=YB h;obtain⟨ob,x,ap,y,cp,rfl,h⟩:=h;simp only[cf,decide_eq_true_eq]at h;obtain⟨⟨⟨⟨⟨⟨rfl,h1⟩,h2⟩,h3⟩,h4⟩,h5⟩,hm⟩:=h;obtain⟨b,rfl,jb⟩:=(jl _ _ _ _ o h2).2.2.2 y rfl h3;exact bT hm h4 h3 h5 (ja _ _ _ _ o h1 env s) λs1=>jb env s1
theorem SM(ja:JE T n a)(j1:JO T n lo)(j2:JO T n hi)(j3:JO T n st):JE T n (.H m a lo hi st):=by
 intro sc N X e o h env s;replace h:=YC h;obtain⟨l1,x1,y1,z1,p1,p2,rfl,h⟩:=h;simp only[cf]at h;obtain⟨⟨⟨h1,h2⟩,h3⟩,h4⟩:=h;obtain⟨p3,q3⟩:=j3 _ _ _ _ o h4;refine SV (ja _ _ _ _ o h1 env s) (λs1=>(j1 _ _ _ _ o h2).1 env s1) (λs1=>(j2 _ _ _ _ o h3).1 env s1) (λs1=>p3 env s1) ?_;rcases q3 with⟨e1,e2⟩|⟨e',e1,e2⟩
 . exact .inl ⟨e1,λs1=>e2 env s1⟩
 . exact .inr ⟨e',e1,λs1 s2=>e2 env s1 s2⟩
theorem YZ(je:JE T n elt)(ji:JI T n it)(jc:JCs T n ifs):JE T n (.q m N' fr elt t it ifs):=by
 intro sc N X e o h env s;replace h:=iY h;obtain⟨x,tg,iter,fs,csc,cpos,rfl,h⟩:=h;simp only[cf,decide_eq_true_eq]at h;obtain⟨⟨⟨⟨⟨⟨h1,h2⟩,h3⟩,h4⟩,h5⟩,h6⟩,h7⟩:=h;have S:=iQ o.a h1;have oc:=o.comp S h2 h1;obtain⟨g,pg,tg'⟩:∃g,(∀C s0 H0 ex,L2.PG (X.comp N' csc C s0 H0 ex) tg g)/\sS X.K X.d t g:=by
  cases t with
  |a i=>
   cases tg with
   |Name y p=>
    simp only[ckT,cf,Ax,decide_eq_true_eq]at h3;exact⟨_,λC s0 H0 ex=>oN (oc C s0 H0 ex).a h3.1 h3.2,sN⟩
   |_=>cases h3
  |b is=>
   cases tg with
   |Tuple es k p=>
    simp only[ckT,cf,decide_eq_true_eq]at h3;refine⟨_,λC s0 H0 ex=>?_,wm (is:=is)⟩;obtain⟨a,b,c⟩:=xU (oc C s0 H0 ex).a h3.1;exact L2.tF (X:=X.comp N' csc C s0 H0 ex) o.c a b c
   |_=>cases h3
 have rule:L2.PE X (.ListComp x [⟨tg,iter,fs,0⟩] csc cpos) (L2.uP fr (uI X.K X.d (zE T n) T.b it) g (uTs X.K X.d (zE T n) T.b ifs) λacc=>L2.uu acc (uE X.K X.d (zE T n) T.b elt)):=
  L2.gB o.c S (jU λenv s=>ji _ _ _ _ _ o h4 env s) pg (λC s0 H0 ex=>(jc _ _ _ _ (oc C s0 H0 ex) h5).2.2) (λC s0 H0 ex=>XQ (X:=X.comp N' csc C s0 H0 ex) λenv s=>je _ _ _ _ (oc C s0 H0 ex) h6 env s) (yT h7)
 refine za rule λσ H Q hq=>ua (env:=env) (s:=s) (chk:=false) (m:=m) (body:=uv (zE T n) T.b elt ifs) tg' vB (λacc ρ0 H0 hn=>pD hn) ?_ λ_ r s1 p s2 hl=>?_
 . simp only[AO,false_implies,if_true];exact hq
 . have:=rE hl
   simpa using this
theorem bH(je:JE T n elt)(ji:JI T n it)(jc:JCs T n ifs)(ji2:JI T n it2)(jc2:JCs T n ifs2):JE T n (.y m N' fr elt t it ifs t2 it2 ifs2):=by
 intro sc N X e o h env s;replace h:=iZ h;obtain⟨x,tg,iter,fs,tg2,iter2,fs2,csc,cpos,rfl,h⟩:=h;simp only[cf,decide_eq_true_eq]at h;obtain⟨⟨⟨⟨⟨⟨⟨⟨⟨⟨h1,h2⟩,h3⟩,h4⟩,h5⟩,h6⟩,h7⟩,h8⟩,h9⟩,h10⟩,h11⟩:=h;have S:=iQ o.a h1;have oc:=o.comp S h2 h1;have tgt:∀(t:Tgt) (tg:Expr),ckT csc N' t tg=true->∃g,(∀C s0 H0 ex,L2.PG (X.comp N' csc C s0 H0 ex) tg g)/\sS X.K X.d t g:=by
  intro t tg h3;cases t with
  |a i=>
   cases tg with
   |Name y p=>
    simp only[ckT,cf,Ax,decide_eq_true_eq]at h3;exact⟨_,λC s0 H0 ex=>oN (oc C s0 H0 ex).a h3.1 h3.2,sN⟩
   |_=>cases h3
  |b is=>
   cases tg with
   |Tuple es k p=>
    simp only[ckT,cf,decide_eq_true_eq]at h3;refine⟨_,λC s0 H0 ex=>?_,wm (is:=is)⟩;obtain⟨a,b,c⟩:=xU (oc C s0 H0 ex).a h3.1;exact L2.tF (X:=X.comp N' csc C s0 H0 ex) o.c a b c
   |_=>cases h3
 obtain⟨g,pg,tg'⟩:=tgt t tg h3;obtain⟨g2,pg2,tg2'⟩:=tgt t2 tg2 h6;have rule:=L2.lV (cpos:=cpos) (elt:=x) (ifs:=fs) (ifs2:=fs2) (ts:=uTs X.K X.d (zE T n) T.b ifs) (ts2:=uTs X.K X.d (zE T n) T.b ifs2) (wi2:=uI X.K X.d (zE T n) T.b it2) (te:=uE X.K X.d (zE T n) T.b elt) o.c S (jU (tg:=tg) λenv s=>ji _ _ _ _ _ o h4 env s) pg (λC s0 H0 ex=>(jc _ _ _ _ (oc C s0 H0 ex) h5).2.2)
  (λC s0 H0 ex=>jU (X:=X.comp N' csc C s0 H0 ex) (tg:=tg2) λenv s=>ji2 _ _ _ _ _ (oc C s0 H0 ex) h7 env s) pg2 (λC s0 H0 ex=>(jc2 _ _ _ _ (oc C s0 H0 ex) h8).2.2)
  (λC s0 H0 ex=>XQ (X:=X.comp N' csc C s0 H0 ex) λenv s=>je _ _ _ _ (oc C s0 H0 ex) h9 env s) (yT h10) (λenv=>yT h11)
 refine za rule λσ H Q hq=>ua (env:=env) (s:=s) (chk:=true) (m:=m) (body:=rD (zE T n) T.b elt ifs t2 it2 ifs2) tg' sO (λacc ρ0 H0 hn=>oZ hn tg2') ?_ λz=>by cases z
 simp only[true_implies];exact hq
theorem Vb:JL T n .b:=by intro sc N X es o h;cases AL.mp h;exact⟨λ_ env s=>i7,⟨λe es' pos z=>(nomatch z),⟨λe es' pos z=>(nomatch z),λy z=>(nomatch z)⟩⟩⟩
theorem Yd(ja:JE T n a)(jl:JL T n as):JL T n (.a a as):=by
 intro sc N X es o h;replace h:=yj h;obtain⟨e,es,rfl,h⟩:=h;simp only[cf]at h;obtain⟨h1,h2⟩:=h;obtain⟨l1,l2,l3,l4⟩:=jl _ _ _ _ o h2;refine⟨λhp env s=>?_,λe' es' pos z env s=>?_,λe' es' pos z env s=>?_,λy z hp=>?_⟩
 . rw[zi,cf]at hp
   exact m8 hp.1 (ja _ _ _ _ o h1 env s) λs1=>l1 hp.2 env s1
 . cases as with
   |b=>
    cases AL.mp h2;exact L2.jR (ja _ _ _ _ o h1 env s)
   |a b as'=>
    cases es with
    |nil=>cases h2
    |cons y ys=>exact bO (ja _ _ _ _ o h1 env s) λs1=>l2 y ys pos rfl env s1
 . cases as with
   |b=>
    cases AL.mp h2;exact L2.jR (ja _ _ _ _ o h1 env s)
   |a b as'=>
    cases es with
    |nil=>cases h2
    |cons y ys=>exact SU (ja _ _ _ _ o h1 env s) λs1=>l3 y ys pos rfl env s1
 . cases z
   cases as with
   |b=>exact⟨a,rfl,λenv s=>ja _ _ _ _ o h1 env s⟩
   |a _ _=>cases h2
theorem SN:JO T n .b:=by intro sc N X e o h;cases B5.mp h;exact⟨λenv s=>SX,.inl ⟨rfl,λenv s1=>rfl⟩⟩
theorem Vc(ja:JE T n a):JO T n (.a a):=by
 intro sc N X e o h;replace h:=nq h;obtain⟨e1,rfl,h⟩:=h;refine⟨λenv s=>Vo (ja _ _ _ _ o h env s),.inr ⟨_,rfl,λenv s1 s2 z=>?_⟩⟩;have z':((evE (zE T n) T.b env a s1).bind λv s1=>match v with|.c i=>.e (some i) s1|_=>.d)=.e none s2:=z
 cases hv:evE (zE T n) T.b env a s1 with
 |e v s3=>rw[hv]at z';cases v<;>cases z'
 |g _ _ _=>rw[hv]at z';cases z'
 |d=>rw[hv]at z';cases z'
theorem VS(jc:JC T n c):JC T n (.b c):=by intro sc N X e o h env s;replace h:=rX h;obtain⟨x1,p1,rfl,h⟩:=h;exact Vt (jc _ _ _ _ o h env s)
theorem VR(jc:JC T n c)(jcs:JCs T n cs):JC T n (.d c cs):=by intro sc N X e o h env s;replace h:=nJ h;obtain⟨x1,xs1,p1,rfl,h⟩:=h;simp only[cf]at h;exact(ba (jc _ _ _ _ o h.1 env s) λs1=>(jcs _ _ _ _ o h.2).1 _ env s1).pt
theorem SK(jc:JC T n c)(jcs:JCs T n cs):JC T n (.f c cs):=by intro sc N X e o h env s;replace h:=nJ h;obtain⟨x1,xs1,p1,rfl,h⟩:=h;simp only[cf]at h;exact(WQ (jc _ _ _ _ o h.1 env s) λs1=>(jcs _ _ _ _ o h.2).2.1 _ env s1).pt
theorem YX:JCs T n .a:=by intro sc N X es o h;cases AL.mp h;exact⟨λpos env s=>kn,λpos env s=>fE,.b⟩
theorem bE(jc:JC T n c)(jcs:JCs T n cs):JCs T n (.b c cs):=by intro sc N X es o h;replace h:=yj h;obtain⟨e1,es1,rfl,h⟩:=h;simp only[cf]at h;obtain⟨a,b,d⟩:=jcs _ _ _ _ o h.2;exact⟨λpos env s=>ba (jc _ _ _ _ o h.1 env s) λs1=>a pos env s1,λpos env s=>WQ (jc _ _ _ _ o h.1 env s) λs1=>b pos env s1,.a (RY λenv s=>jc _ _ _ _ o h.1 env s) d⟩
theorem TM{e:Expr}(h:e.ctorIdx=25):∃xs k p,e=.Tuple xs k p:=Ga (motive_1:=λe=>∃xs k p,e=Expr.Tuple xs k p) e h λxs k p=>⟨xs,k,p,rfl⟩
theorem Va(ja:JE T n a):JI T n (.f a):=λsc N X e tg o h env s=>Vn (ja _ _ _ _ o h env s)
theorem fA(ja:JE T n a):JI T n (.c a):=by intro sc N X e tg o h env s;replace h:=xY h;obtain⟨x1,p1,xs1,p2,rfl,h⟩:=h;replace h:=yn h;obtain⟨y1,rfl,h⟩:=h;simp only[cf,decide_eq_true_eq,wa]at h;obtain⟨⟨⟨rfl,h1⟩,h2⟩,h3⟩:=h;exact fC h3 (o.a.b _ h1) (o.g _ (by decide)) (ja _ _ _ _ o h2 env s)
theorem fB(ja:JE T n a)(jb:JE T n b):JI T n (.d a b):=by intro sc N X e tg o h env s;replace h:=xY h;obtain⟨x1,p1,xs1,p2,rfl,h⟩:=h;replace h:=bq h;obtain⟨y1,y2,rfl,h⟩:=h;simp only[cf,decide_eq_true_eq,wa]at h;obtain⟨⟨⟨⟨⟨rfl,h1⟩,h2⟩,h3⟩,h4⟩,h5⟩:=h;exact fD h4 h5 (o.a.b _ h1) (o.g _ (by decide)) (ja _ _ _ _ o h2 env s) λs1=>jb _ _ _ _ o h3 env s1
theorem Yc(ja:JE T n a):JI T n (.g a):=by intro sc N X e tg o h env s;obtain⟨h0,hh⟩:=zX h;obtain⟨ts,k,tp,rfl⟩:=TM (of_decide_eq_true h0);clear h;have h:=hh;replace h:=xY h;obtain⟨x1,p1,xs1,p2,rfl,h⟩:=h;replace h:=yn h;obtain⟨y1,rfl,h⟩:=h;simp only[cf,decide_eq_true_eq,wa]at h;obtain⟨⟨⟨rfl,h1⟩,h2⟩,h3⟩:=h;exact Yl h3 (o.a.b _ h1) (o.g _ (by decide)) (ja _ _ _ _ o h2 env s)
end
section
variable (T:Tbl)(n:Nat)
mutual
theorem jE:∀a:Ex,JE T n a
 |.g _=>bR
 |.e _=>bV
 |.A _=>WO
 |.L _ _=>SW
 |.j _ _ a b=>bF (jE a) (jE b)
 |.B a=>bI (jE a)
 |.G a=>VY (jE a)
 |.l _ a b=>VV (jE a) (jE b)
 |.w _ _ a b c=>bG (jE a) (jE b) (jE c)
 |.z a es=>VT (jE a) (jL es)
 |.I _ _=>λsc N X e o h=>by cases h
 |.F c a b=>VW (jC c) (jE a) (jE b)
 |.p es=>VZ (jL es)
 |.s _ es=>VX (jL es)
 |.D=>λsc N X e o h=>by cases h
 |.C _=>Yj
 |.J _ _=>λsc N X e o h=>by cases h
 |.h _ _ es=>YY (jL es)
 |.k _ _ es=>VU (jL es)
 |.E _ _=>λsc N X e o h=>by cases h
 |.K _ _ a es=>Yb (jE a) (jL es)
 |.u a b=>WN (jE a) (jE b)
 |.H _ a lo hi st=>SM (jE a) (jO lo) (jO hi) (jO st)
 |.q _ _ _ elt _ it ifs=>YZ (jE elt) (jI it) (jCs ifs)
 |.y _ _ _ elt _ it ifs _ it2 ifs2=>bH (jE elt) (jI it) (jCs ifs) (jI it2) (jCs ifs2)
 |.r _ _ _ _=>λsc N X e o h=>by cases h
theorem jL:∀a:Exs,JL T n a
 |.b=>Vb
 |.a a as=>Yd (jE a) (jL as)
theorem jO:∀a:OEx,JO T n a
 |.b=>SN
 |.a a=>Vc (jE a)
theorem jC:∀a:Cn,JC T n a
 |.a (.l _ a b)=>Vi (jE a) (jE b)
 |.a (.w _ _ a b c)=>bN (jE a) (jE b) (jE c)
 |.a (.g v)=>yD (jE (.g v)) rfl
 |.a (.e v)=>yD (jE (.e v)) rfl
 |.a (.A v)=>yD (jE (.A v)) rfl
 |.a (.L v w)=>yD (jE (.L v w)) rfl
 |.a (.j m o a b)=>yD (jE (.j m o a b)) rfl
 |.a (.B a)=>yD (jE (.B a)) rfl
 |.a (.G a)=>yD (jE (.G a)) rfl
 |.a (.z a b)=>yD (jE (.z a b)) rfl
 |.a (.I a b)=>yD (jE (.I a b)) rfl
 |.a (.F a b c)=>yD (jE (.F a b c)) rfl
 |.a (.p a)=>yD (jE (.p a)) rfl
 |.a (.s m a)=>yD (jE (.s m a)) rfl
 |.a .D=>yD (jE .D) rfl
 |.a (.C t)=>yD (jE (.C t)) rfl
 |.a (.J a b)=>yD (jE (.J a b)) rfl
 |.a (.h a b c)=>yD (jE (.h a b c)) rfl
 |.a (.k a b c)=>yD (jE (.k a b c)) rfl
 |.a (.E a b)=>yD (jE (.E a b)) rfl
 |.a (.K a b c d)=>yD (jE (.K a b c d)) rfl
 |.a (.u a b)=>yD (jE (.u a b)) rfl
 |.a (.H a b c d e)=>yD (jE (.H a b c d e)) rfl
 |.a (.q a b c d e f g)=>yD (jE (.q a b c d e f g)) rfl
 |.a (.y a b c d e f g h i j)=>yD (jE (.y a b c d e f g h i j)) rfl
 |.a (.r a b c d)=>yD (jE (.r a b c d)) rfl
 |.b c=>VS (jC c)
 |.d c cs=>VR (jC c) (jCs cs)
 |.f c cs=>SK (jC c) (jCs cs)
theorem jCs:∀a:Cns,JCs T n a
 |.a=>YX
 |.b c cs=>bE (jC c) (jCs cs)
theorem jI:∀a:Itb,JI T n a
 |.f a=>Va (jE a)
 |.c a=>fA (jE a)
 |.d a b=>fB (jE a) (jE b)
 |.g a=>Yc (jE a)
 |.h _ _=>λsc N X e tg o h=>by cases h
end
end
end M
end
section
namespace M
open PySem
section
variable (K:KF)(mg:Str->Option Value)
def rl(ρ:Own)(H:L2.Hp)(o:Out Fl)(D:L2.Ends):Prop:=
 match o with
 |.e (.a e) s'=>∀ρ' H' σ',Ext ρ H ρ' H'->HR K mg ρ' s' H'->ER K mg ρ' H' e σ'->D.a σ' H'
 |.e (.c e) s'=>∀ρ' H' σ',Ext ρ H ρ' H'->HR K mg ρ' s' H'->ER K mg ρ' H' e σ'->D.c σ' H'
 |.e (.d e) s'=>∀ρ' H' σ',Ext ρ H ρ' H'->HR K mg ρ' s' H'->ER K mg ρ' H' e σ'->D.d σ' H'
 |.e (.b v) s'=>∀ρ' H' x,Ext ρ H ρ' H'->HR K mg ρ' s' H'->RD K mg ρ' H' v x->D.b x H'
 |_=>False
def tSt(env:Env)(s:Sto)(o:Out Fl):L2.TS:=λD σ H=>∃ρ,HR K mg ρ s H/\ER K mg ρ H env σ/\rl K mg ρ H o D
end
section
variable {K:KF}{mg:Str->Option Value}{ρ ρ':Own}{H H':L2.Hp}
theorem rl.mono(w:rl K mg ρ H o D)(x:Ext ρ H ρ' H')(h:HR K mg ρ' s1 H'):rl K mg ρ' H' o D:=by
 cases o with
 |e fl s'=>
  cases fl with
  |a e=>exact λρ2 H2 σ2 x2 h2 r2=>w ρ2 H2 σ2 (x.trans h x2) h2 r2
  |c e=>exact λρ2 H2 σ2 x2 h2 r2=>w ρ2 H2 σ2 (x.trans h x2) h2 r2
  |d e=>exact λρ2 H2 σ2 x2 h2 r2=>w ρ2 H2 σ2 (x.trans h x2) h2 r2
  |b v=>exact λρ2 H2 y x2 h2 r2=>w ρ2 H2 y (x.trans h x2) h2 r2
 |g _ _ _=>exact w
 |d=>exact w
end
noncomputable def ud:Expr->Bool
 |.ListComp ..|.SetComp ..|.DictComp ..=>false
 |_=>true
theorem sM(h:ud e=true):Eu e t l env=pure false:=by cases e<;>first|rfl|cases h
theorem uf:Eh [.Tuple ts k p] e l env=pure false:=by cases e<;>rfl
theorem eR:Eh [.Subscript o i p] e l env=pure false:=by cases e<;>rfl
noncomputable def notTuple:Expr->Bool
 |.Tuple ..=>false
 |_=>true
theorem js(h:notTuple e=true):BQ [.Tuple ts k p] e env=pure none:=by
 cases e<;>first|(cases h;done)|rfl
theorem kD:BQ [.Subscript o i p] e env=pure none:=by cases e<;>rfl
noncomputable def Wf(sc:Scope)(ts vs:List Expr):Bool:=
 match ts with
 |[.Name x px,.Name y py]=>decide (sc.names.lookup x=some .local)&&decide (sc.names.lookup y=some .local)&&(px.line == py.line)&&decide (x≠y)&&!(vs.all (Fs 8))&&!(vs.all (E4 8))
 |[.Name x px,.Name y py,.Name z pz]=>decide (sc.names.lookup x=some .local)&&decide (sc.names.lookup y=some .local)&&decide (sc.names.lookup z=some .local)&&(px.line == py.line)&&(px.line == pz.line)&&decide (x≠y)&&decide (x≠z)&&decide (y≠z)&&!(vs.all (Fs 8))&&!(vs.all (E4 8))
 |_=>false
noncomputable def Wn(sc:Scope)(ts:List Expr):Bool:=ts.any (λ|.Name x _=>decide (sc.names.lookup x≠some .local)|_=>false)||decide (3<ts.length)
theorem qb{vs:List Expr}(h:zi vs=true):(vs.any λ|.Starred ..=>true|_=>false)=false:=by
 induction vs with
 |nil=>rfl
 |cons v vs ih=>
  rw[zi,cf]at h;rw[CW,ih h.2];cases v<;>first|rfl|(have z:=h.1;cases z)
theorem kE(hb:env.blockKind=.function)(hx:env.kindOf x=some .local)(hy:env.kindOf y=some .local)(hl:(px.line == py.line)=true)(hne:x≠y)(hp:zi [a,b]=true)
 (hf:[a,b].all (Fs 8)=false) (hc:[a,b].all (E4 8)=false):BQ [.Tuple [.Name x px,.Name y py] kt pt] (.Tuple [a,b] k2 pt2) env=pure (some [x,y]):=by
 have hs:=qb hp;have hl':(py.line == px.line)=true:=by rw[beq_iff_eq]at hl ⊢;exact hl.symm
 unfold BQ;have e1:([x,y].eraseDups.length != [x,y].length)=false:=by
  have:(y == x)=false:=by simpa using Bt hne
  simp[List.eraseDups_cons,this]
 simp only[AF,BW,hb,hf,hs,hc,hx,hy,hl',List.head?_cons,EF,Option.getD_some,A0,List.filterMap_nil,beq_self_eq_true,Ft,if_true];have hpos:(Ez x px).pos.line=px.line:=rfl;refine(if_neg (by decide)).trans ((if_neg (λz=>xd (hs.symm.trans z))).trans ?_)
 simp only[hpos,beq_self_eq_true,hl',Ft,if_true,e1,AF,BW,bne_self_eq_false,Bool.or_self,AO,if_false];exact if_neg (λz=>xd (e1.symm.trans (by rw[Gz]at z;exact z)))
theorem pR(hb:env.blockKind=.function)(hx:env.kindOf x=some .local)(hy:env.kindOf y=some .local)(hz:env.kindOf z=some .local)(hl:(px.line == py.line)=true)(hl2:(px.line == pz.line)=true)
 (hne:x≠y) (hne2:x≠z) (hne3:y≠z) (hp:zi [a,b,c]=true) (hf:[a,b,c].all (Fs 8)=false) (hc:[a,b,c].all (E4 8)=false):BQ [.Tuple [.Name x px,.Name y py,.Name z pz] kt pt] (.Tuple [a,b,c] k2 pt2) env=pure (some [x,y,z]):=by
 have hs:=qb hp;have hl':(py.line == px.line)=true:=by rw[beq_iff_eq]at hl ⊢;exact hl.symm
 have hl2':(pz.line == px.line)=true:=by rw[beq_iff_eq]at hl2 ⊢;exact hl2.symm
 unfold BQ;have e1:([x,y,z].eraseDups.length != [x,y,z].length)=false:=by
  have h1:(y == x)=false:=by simpa using Bt hne
  have h2:(z == x)=false:=by simpa using Bt hne2
  have h3:(z == y)=false:=by simpa using Bt hne3
  simp[List.eraseDups_cons,h1,h2,h3]
 simp only[AF,BW,hb,hf,hs,hc,hx,hy,hz,hl',hl2',List.head?_cons,EF,Option.getD_some,A0,List.filterMap_nil,beq_self_eq_true,Ft,if_true];have hpos:(Ez x px).pos.line=px.line:=rfl;refine(if_neg (by decide)).trans ((if_neg (λz=>xd (hs.symm.trans z))).trans ?_)
 simp only[hpos,beq_self_eq_true,hl',hl2',Ft,if_true,e1,AF,BW,bne_self_eq_false,Bool.or_self,AO,if_false];exact if_neg (λz=>xd (e1.symm.trans (by rw[Gz]at z;exact z)))
theorem tY{α β:Type}{f:α->Option β}:∀{l:List α},(∃a∈l,f a=none)->(l.filterMap f).length<l.length
 |[],⟨a,h,_⟩=>by cases h
 |b::l,⟨a,h,e⟩=>by
  rw[A0];have hle:=FZ f l;rcases Aj.mp h with z|z
  . subst z;rw[e];simp only[AF];omega
  . have:=tY ⟨a,z,e⟩
    cases f b with
    |none=>simp only[AF];omega
    |some _=>simp only[AF];omega
theorem eW(h:(∃x p,Ez x p∈ts/\env.kindOf x≠some .local)\/3<ts.length):BQ [.Tuple ts kt pt] (.Tuple vs k2 pt2) env=pure none:=by
 unfold BQ;simp only[];split
 . rfl
 . rename_i h1
   split
   . rfl
   . rw[if_pos]
     rcases h with⟨x,p,hm,hk⟩|h
     . rw[Ax]
       left;rw[bne_iff_ne];refine AI (tY ⟨_,hm,?_⟩);have:(env.kindOf x == some .local)=false:=by simpa using hk
       simp only[this,Dd,AO,if_false]
     . exfalso
       apply h1;have:(ts.length == 2||ts.length == 3)=false:=by rw[Dp];constructor<;>(rw[beq_eq_false_iff_ne];omega)
       rw[this];rfl
theorem jr(h:plain i=true)v:assign (.Subscript o i p) env v=(do
 let ov <-holding [v] (eval o env);let iv <-holding [v,ov] (eval i env)
 standAt p
 holding [v,ov,iv] (setItem ov iv v)
 release [v,ov,iv] []):=by
 cases i<;>first|rfl|cases h
section
variable {X:L2.Cx}{env:Env}{s:Sto}
theorem wC{t:L2.TS}(h:∀D σ H,¬t D σ H):L2.PS X st t:=λpins s σ H D I q=>(h D σ H q).elim
theorem U5(h:∀v s',o≠.e v s'):¬tSt X.K X.d env s o D σ H:=by
 rintro ⟨ρ,_,_,w⟩;cases o with
 |e v s'=>exact h v s' rfl
 |g _ _ _=>exact w
 |d=>exact w
theorem zN(h:∀v s',o≠.e v s'):L2.PS X st (tSt X.K X.d env s o):=wC λ_ _ _=>U5 h
theorem Ym(hn:ud e=true)(h:L2.PE X e (tV X.K X.d env s o)):L2.PS X (.Expr e pos) (tSt X.K X.d env s (o.bind λ_ s1=>.e (.a env) s1)):=by
 cases o with
 |e v s1=>exact ya (L2.mC h (sM hn)) λD σ H ⟨ρ,hr,er,w⟩=>⟨ρ,hr,er,λρ1 x H1 x1 hr1 r1=>w ρ1 H1 σ x1 hr1 (er.mono x1)⟩
 |g _ _ _=>exact zN (zG rfl)
 |d=>exact zN (zG rfl)
theorem Vr(h:L2.PE X e (tV X.K X.d env s o)):L2.PS X (.Return (some e) pos) (tSt X.K X.d env s (o.bind λv s1=>.e (.b v) s1)):=by
 cases o with
 |e v s1=>exact ya (L2.uN h) λD σ H ⟨ρ,hr,er,w⟩=>⟨ρ,hr,er,λρ1 x H1 x1 hr1 r1=>w ρ1 H1 x x1 hr1 r1⟩
 |g _ _ _=>exact zN (zG rfl)
 |d=>exact zN (zG rfl)
theorem km(rule:L2.PS X st (L2.um te (L2.wA i)))(h:∀σ H Q,tV X.K X.d env s o σ H Q->te σ H Q):L2.PS X st (tSt X.K X.d env s (o.bind λv s1=>.e (.a (env.set i (some v))) s1)):=by
 cases o with
 |e v s1=>exact ya rule λD σ H ⟨ρ,hr,er,w⟩=>h _ _ _ ⟨ρ,hr,er,λρ1 x H1 x1 hr1 r1=>w ρ1 H1 _ x1 hr1 ((er.mono x1).set i r1)⟩
 |g _ _ _=>exact zN (zG rfl)
 |d=>exact zN (zG rfl)
theorem i8{t:Tgt}{g:L2.TG}{o:Out Val}{st:Stmt}{te:L2.TE}(TG:sS X.K X.d t g)(rule:L2.PS X st (L2.um te g))(h:∀σ H Q,tV X.K X.d env s o σ H Q->te σ H Q) :
 L2.PS X st (tSt X.K X.d env s (o.bind λv s1=>match yk t v env with|some env'=>.e (.a env') s1|dS=>.d)):=by
 cases o with
 |e v s1=>
  show L2.PS X st (tSt X.K X.d env s (match yk t v env with|some env'=>.e (.a env') s1|dS=>.d))
  cases hb:yk t v env with
  |none=>exact zN (zG rfl)
  |some env'=>exact ya rule λD σ H ⟨ρ,hr,er,w⟩=>h _ _ _ ⟨ρ,hr,er,λρ1 x H1 x1 hr1 r1=>TG ρ1 s1 H1 v x env env' σ _ hr1 r1 (er.mono x1) hb λσ' er'=>w ρ1 H1 σ' x1 hr1 er'⟩
 |g _ _ _=>exact zN (zG rfl)
 |d=>exact zN (zG rfl)
theorem VL op m:(∃r,L2.PIp X op.op r/\∀i j H Q v s s',binOp m op (.c i) (.c j) s=.e v s'->(∃k:Int,v=.c k/\s'=s/\(Q (.d k) H->r (.d i) (.d j) H Q)))\/(op=.g\/op=.h\/op=.i\/op=.f):=by
 cases op with
 |a=>exact .inl ⟨_,L2.YQ,λi j H Q v s s' h=>by cases h;exact⟨_,rfl,rfl,λq=>⟨i,j,rfl,rfl,q⟩⟩⟩
 |c=>exact .inl ⟨_,L2.YT,λi j H Q v s s' h=>by cases h;exact⟨_,rfl,rfl,λq=>⟨i,j,rfl,rfl,q⟩⟩⟩
 |b=>exact .inl ⟨_,L2.YS,λi j H Q v s s' h=>by
  simp only[binOp]at h;split at h
  . rename_i hz;cases h;exact⟨_,rfl,rfl,λq=>⟨i,j,rfl,rfl,hz,q⟩⟩
  . cases h⟩
 |d=>exact .inl ⟨_,L2.bA,λi j H Q v s s' h=>by
  simp only[binOp]at h;split at h
  . rename_i hz;cases h;exact⟨_,rfl,rfl,λq=>⟨i,j,rfl,rfl,hz,q⟩⟩
  . cases h⟩
 |e=>exact .inl ⟨_,L2.YR,λi j H Q v s s' h=>by
  simp only[binOp]at h;split at h
  . rename_i hz;cases h;exact⟨_,rfl,rfl,λq=>⟨i,j,rfl,rfl,hz,q⟩⟩
  . cases h⟩
 |g=>exact .inr (.inl rfl)
 |h=>exact .inr (.inr (.inl rfl))
 |i=>exact .inr (.inr (.inr (.inl rfl)))
 |f=>exact .inr (.inr (.inr (.inr rfl)))
theorem Zu{i:Nat}{op:Bop}{f:Sto->Out Val}{r:Fl}{s':Sto}(h:(match env[i]? with
 |some (some (.c x))=>(f s).bind λv s1=>match v with
  |.c y=>(binOp false op (.c x) (.c y) s1).bind λz s2=>.e (Fl.a (env.set i (some z))) s2
  |_=>.d
 |some (some (.f x))=>if op=Bop.a then (f s).bind λv s1=>match v with
  |.f y=>(binOp false .a (.f x) (.f y) s1).bind λz s2=>.e (Fl.a (env.set i (some z))) s2
  |_=>.d
  else .d
 |_=>.d:Out Fl)=.e r s'):(∃a b s1 z,env[i]?=some (some (.c a))/\f s=.e (.c b) s1/\binOp false op (.c a) (.c b) s1=.e z s'/\r=Fl.a (env.set i (some z))) \/
  (op=Bop.a/\∃a b,env[i]?=some (some (.f a))/\f s=.e (.f b) s'/\a.length+b.length<=zO/\r=Fl.a (env.set i (some (.f (a++b))))):=by
 generalize he:env[i]?=o at h;cases o with
 |none=>cases h
 |some ov=>
  cases ov with
  |none=>cases h
  |some v0=>
   cases v0 with
   |c a=>
    refine .inl ⟨a,?_⟩;generalize hv:f s=o at h;cases o with
    |e v s1=>
     cases v with
     |c b=>
      simp only[zM]at h;generalize hb:binOp false op (.c a) (.c b) s1=o at h;cases o with
      |e z s2=>cases h;exact⟨b,s1,z,rfl,rfl,hb,rfl⟩
      |g _ _ _=>cases h
      |d=>cases h
     |_=>cases h
    |g _ _ _=>cases h
    |d=>cases h
   |f a=>
    by_cases ho:op=.a
    . refine .inr ⟨ho,a,?_⟩
      simp only[if_pos ho]at h;generalize hv:f s=o at h;cases o with
      |e v s1=>
       cases v with
       |f b=>
        simp only[zM,binOp]at h;by_cases hz:a.length+b.length<=zO
        . rw[if_pos hz]at h;cases h;exact⟨b,rfl,rfl,hz,rfl⟩
        . rw[if_neg hz]at h;cases h
       |_=>cases h
      |g _ _ _=>cases h
      |d=>cases h
    . simp only[if_neg ho]at h;cases h
   |_=>cases h
theorem RW(h:∀r s',o=.e r s'->L2.PS X st (tSt X.K X.d env s (.e r s'))):L2.PS X st (tSt X.K X.d env s o):=by
 cases o with
 |e r s'=>exact h r s' rfl
 |g _ _ _=>exact zN (zG rfl)
 |d=>exact zN (zG rfl)
theorem Vp{i:Nat}{x:Str}{e:Expr}{op:Bop}{f:Sto->Out Val}{pos pos':Pos}(hop:¬(op=.g\/op=.h\/op=.i\/op=.f))(hN:X.N.Nodup)(hi:X.N[i]?=some x)(hx:L2.Loc X.a.scope x)(hf:X.n x=true\/X.a.scope.names.lookup x=some .local)(h:∀s,L2.PE X e (tV X.K X.d env s (f s))) :
 L2.PS X (.AugAssign (.Name x pos') op.op e pos) (tSt X.K X.d env s (match env[i]? with
 |some (some (.c x))=>(f s).bind λv s1=>match v with
  |.c y=>(binOp false op (.c x) (.c y) s1).bind λz s2=>.e (.a (env.set i (some z))) s2
  |_=>.d
 |some (some (.f x))=>if op=.a then (f s).bind λv s1=>match v with
  |.f y=>(binOp false .a (.f x) (.f y) s1).bind λz s2=>.e (.a (env.set i (some z))) s2
  |_=>.d
  else .d
 |_=>.d)):=by
 refine RW λr s' hO=>?_;have h':=h s;rcases Zu hO with⟨a,b,s1,z,he,hv,hb,rfl⟩|⟨rfl,a,b,he,hv,hz,rfl⟩
 . rw[hv]at h'
   rcases VL (X:=X) op false with⟨r,hr0,hq⟩|z
   . obtain⟨k,rfl,rfl,q⟩:=hq a b (λ_=>none) (λ_ _=>True) z s1 s' hb
     refine ya (L2.ai hN hi hx h' hr0 hf) λD σ H ⟨ρ,hr,er,w⟩=>?_;obtain⟨xv,e1,e2⟩:=er.a i _ he;cases e2;refine⟨_,e1,ρ,hr,er,λρ1 y H1 x1 hr1 r1=>?_⟩;cases r1;obtain⟨k',e3,_,q'⟩:=hq a b H1 (λz H2=>D.a (σ.set i (some z)) H2) _ _ _ hb;cases e3;exact q' (w ρ1 H1 _ x1 hr1 ((er.mono x1).set i (.l _)))
   . exact absurd z hop
 . rw[hv]at h'
   refine ya (L2.ai hN hi hx h' L2.g8 hf) λD σ H ⟨ρ,hr,er,w⟩=>?_;obtain⟨xv,e1,e2⟩:=er.a i _ he;refine⟨_,e1,ρ,hr,er,λρ1 y H1 x1 hr1 r1=>?_⟩;have e3:=e2.mono x1;cases e3 with
   |m n1 h1 q1=>
    cases r1 with
    |m n2 h2 q2=>
     refine⟨_,_,_,_,rfl,rfl,h1,h2,?_,uD hr1 (q1.append q2) λρ2 z H2 x2 hr2 rz=>w ρ2 H2 _ (x1.trans hr1 x2) hr2 ((er.mono (x1.trans hr1 x2)).set i rz)⟩;rw[<-q1.length,<-q2.length,<-yp];exact hz
theorem bW{a i e:Expr}{o:Out Val}{f2 f3:Sto->Out Val}{p pos:Pos}(hi0:plain i=true)(h1:L2.PE X e (tV X.K X.d env s o))(h2:∀s1,L2.PE X a (tV X.K X.d env s1 (f2 s1)))(h3:∀s1,L2.PE X i (tV X.K X.d env s1 (f3 s1))) :
 L2.PS X (.Assign [.Subscript a i p] e pos) (tSt X.K X.d env s (o.bind λv s1=>(f2 s1).bind λx s2=>(f3 s2).bind λy s3=>match x,y with
  |.k r,.c k=>(match s3[r]? with
   |some (.c vs)=>(match L2.ixN vs.length k with|some j=>.e (.a env) (upd s3 r (vs.set j v))|dS=>.d)
   |_=>.d)
  |_,_=>.d)):=by
 cases o with
 |e v s1=>
  have h2':=h2 s1;simp only[zM];cases hb:f2 s1 with
  |e x s2=>
   rw[hb]at h2';have h3':=h3 s2;simp only[zM];cases hc:f3 s2 with
   |e y s3=>
    rw[hc]at h3';simp only[zM];have rule:L2.PS X (.Assign [.Subscript a i p] e pos) (L2.um _ (L2.T5 _ _ L2.Wc)):=L2.jX h1 (L2.Ud h2' h3' L2.set_list (jr hi0)) eR kD;cases x with
    |k r=>
     cases y with
     |c k=>
      simp only[];cases hs:s3[r]? with
      |none=>exact zN (zG rfl)
      |some cl=>
       cases cl with
       |e _=>exact zN (zG rfl)
       |f _=>exact zN (zG rfl)
       |d _=>exact zN (zG rfl)
       |c vs=>
        simp only[];cases hj:L2.ixN vs.length k with
        |none=>exact zN (zG rfl)
        |some j=>
         refine ya rule λD σ H ⟨ρ,hr,er,w⟩=>⟨ρ,hr,er,λρ1 xv H1 x1 hr1 r1=>⟨ρ1,hr1,er.mono x1,λρ2 xo H2 x2 hr2 r2=>⟨ρ2,hr2,(er.mono x1).mono x2,λρ3 xi H3 x3 hr3 r3=>?_⟩⟩⟩;cases r3;have r2':=r2.mono x3;cases r2' with
         |C e0 _=>
          obtain⟨b',xs,e1,e2,q⟩:=hr3.obj r _ hs;rw[e0]at e1;cases e1;have xx:=(x1.trans hr1 x2).trans hr2 x3;refine⟨_,xs,k,j,rfl,rfl,e2,by rw[<-q.length];exact hj,?_⟩
          exact w ρ3 _ σ (xx.trans hr3 (Ext.write hr3 e0 e2 _)) (hr3.write e0 e2 (RDs.set ((r1.mono x2).mono x3) j q)) ((er.mono xx).mono (Ext.write hr3 e0 e2 _))
     |_=>exact zN (zG rfl)
    |_=>exact zN (zG rfl)
   |g _ _ _=>exact zN (zG rfl)
   |d=>exact zN (zG rfl)
  |g _ _ _=>exact zN (zG rfl)
  |d=>exact zN (zG rfl)
 |g _ _ _=>exact zN (zG rfl)
 |d=>exact zN (zG rfl)
end
end M
end
section
namespace M
open PySem
section
variable {X:L2.Cx}{env:Env}{s:Sto}
theorem Yn(rule:L2.PS X st (L2.QA i j ta))(h:∀σ H Q,tVs X.K X.d env s o σ H Q->ta σ H Q) :
 L2.PS X st (tSt X.K X.d env s (o.bind λvs s1=>if vs.length=[i,j].length then .e (.a (([i,j].zip vs).foldl (λe p=>e.set p.1 (some p.2)) env)) s1 else .d)):=by
 cases o with
 |e vs s1=>
  show L2.PS X st (tSt X.K X.d env s (if vs.length=[i,j].length then .e (.a (([i,j].zip vs).foldl (λe p=>e.set p.1 (some p.2)) env)) s1 else .d))
  match vs with
  |[v,w]=>
   refine ya rule λD σ H ⟨ρ,hr,er,wt⟩=>h _ _ _ ⟨ρ,hr,er,λρ1 xs H1 x1 hr1 r1=>?_⟩;obtain⟨x,y,rfl,rx,ry⟩:=eC r1;exact⟨x,y,rfl,wt ρ1 H1 _ x1 hr1 (((er.mono x1).set i rx).set j ry)⟩
  |[]=>exact zN (zG rfl)
  |[_]=>exact zN (zG rfl)
  |_::_::_::r=>exact zN (λ_ _ e=>by simp at e)
 |g _ _ _=>exact zN (zG rfl)
 |d=>exact zN (zG rfl)
theorem Qk(r:RDs K mg ρ H [v,w,z] xs):∃x y t,xs=[x,y,t]/\RD K mg ρ H v x/\RD K mg ρ H w y/\RD K mg ρ H z t:=by
 cases r with
 |a r1 r2=>
  obtain⟨y,t,rfl,r3,r4⟩:=eC r2;exact⟨_,_,_,rfl,r1,r3,r4⟩
theorem Yo(rule:L2.PS X st (L2.Wi i j k ta))(h:∀σ H Q,tVs X.K X.d env s o σ H Q->ta σ H Q) :
 L2.PS X st (tSt X.K X.d env s (o.bind λvs s1=>if vs.length=[i,j,k].length then .e (.a (([i,j,k].zip vs).foldl (λe p=>e.set p.1 (some p.2)) env)) s1 else .d)):=by
 cases o with
 |e vs s1=>
  show L2.PS X st (tSt X.K X.d env s (if vs.length=[i,j,k].length then .e (.a (([i,j,k].zip vs).foldl (λe p=>e.set p.1 (some p.2)) env)) s1 else .d))
  match vs with
  |[v,w,z]=>
   refine ya rule λD σ H ⟨ρ,hr,er,wt⟩=>h _ _ _ ⟨ρ,hr,er,λρ1 xs H1 x1 hr1 r1=>?_⟩;obtain⟨x,y,t,rfl,rx,ry,rt⟩:=Qk r1;exact⟨x,y,t,rfl,wt ρ1 H1 _ x1 hr1 ((((er.mono x1).set i rx).set j ry).set k rt)⟩
  |[]=>exact zN (zG rfl)
  |[_]=>exact zN (zG rfl)
  |[_,_]=>exact zN (zG rfl)
  |_::_::_::_::r=>exact zN (λ_ _ e=>by simp at e)
 |g _ _ _=>exact zN (zG rfl)
 |d=>exact zN (zG rfl)
def uSs(K:KF)(mg:Str->Option Value)(Φ:Calls)(G:Str->Option Val)(b:Sms):L2.TS:=λD σ H=>∃env s,tSt K mg env s (ze Φ G env b s) D σ H
theorem Sa{f2 f3:Sto->Out Fl}(hc:L2.PT X c (tT X.K X.d env s o))(ha:L2.PSs X a ta)(hb:L2.PSs X b tb)(ia:∀s1 D σ H,tSt X.K X.d env s1 (f2 s1) D σ H->ta D σ H)(ib:∀s1 D σ H,tSt X.K X.d env s1 (f3 s1) D σ H->tb D σ H) :
 L2.PS X (.If c a b pos) (tSt X.K X.d env s (o.bind λt s1=>if t then f2 s1 else f3 s1)):=by
 cases o with
 |e v s1=>
  refine ya (L2.lj hc ha hb) λD σ H ⟨ρ,hr,er,wt⟩=>⟨ρ,hr,er,λρ1 x H1 x1 hr1 r1=>?_⟩;have wt':=wt.mono x1 hr1;cases r1;cases v with
  |true=>exact L2.qS (ia s1 D σ H1 ⟨ρ1,hr1,er.mono x1,wt'⟩)
  |false=>exact L2.tu (ib s1 D σ H1 ⟨ρ1,hr1,er.mono x1,wt'⟩)
 |g _ _ _=>exact zN (zG rfl)
 |d=>exact zN (zG rfl)
theorem cg{body:Env->Sto->Out Fl}{tb:L2.TS}(W:Walk K mg ρ H r J)(TG:sS K mg t g)(hb:∀env s D σ H,tSt K mg env s (body env s) D σ H->tb D σ H)
 (hr:HR K mg ρ s H) (er:ER K mg ρ H env σ) (w:rl K mg ρ H (vo r t body r.a env s) D):L2.oP J g tb D σ H:=by
 refine mz (n:=r.a.length) (λi σ2 H2=>∃ρ2 s2 env2,HR K mg ρ2 s2 H2/\ER K mg ρ2 H2 env2 σ2/\Ext ρ H ρ2 H2/\vo r t body (r.a.drop i) env2 s2=vo r t body r.a env s) ⟨ρ,s,env,hr,er,Ext.refl,by rw[E1]⟩ ?_ ?_
 . rintro σ2 H2 ⟨ρ2,s2,env2,hr2,er2,x2,h2⟩
   rw[List.drop_length,vo]at h2;split at h2
   . rename_i ho
     rw[<-h2]at w;exact⟨W.a ρ2 H2 s2 _ x2.mv hr2 ho rfl,w ρ2 H2 σ2 x2 hr2 er2⟩
   . rw[<-h2]at w;exact w.elim
 . rintro i σ2 H2 hi ⟨ρ2,s2,env2,hr2,er2,x2,h2⟩
   rw[DG hi,vo]at h2;split at h2
   . rename_i ho
     obtain⟨hgo,hy⟩:=W.c ρ2 H2 s2 i (r.a[i]) x2.mv hr2 ho (Aa hi);refine⟨hgo,λx H3 y=>?_⟩;obtain⟨hH,rx⟩:=hy x H3 y;split at h2
     . rw[<-h2]at w;exact w.elim
     . rename_i env' he
       have C3:HR K mg ρ2 s2 H3/\Ext ρ2 H2 ρ2 H3:=by
        rcases hH with e|⟨q,o,hq,e⟩
        . subst e;exact⟨hr2,Ext.refl⟩
        . subst e;exact⟨hr2.more hq o,Ext.new hr2 hq o⟩
       have x3:=x2.trans hr2 C3.2;refine TG ρ2 s2 H3 _ x env2 env' σ2 _ C3.1 rx (er2.mono C3.2) he λσ4 er4=>hb env' s2 _ σ4 H3 ⟨ρ2,C3.1,er4,?_⟩;cases hc:body env' s2 with
       |e fl s5=>
        rw[hc]at h2;simp only[zM]at h2;cases fl with
        |a e=>exact λρ5 H5 σ5 x5 hr5 er5=>⟨ρ5,s5,e,hr5,er5,x3.trans C3.1 x5,h2⟩
        |d e=>exact λρ5 H5 σ5 x5 hr5 er5=>⟨ρ5,s5,e,hr5,er5,x3.trans C3.1 x5,h2⟩
        |c e=>
         simp only[]at h2;rw[<-h2]at w;exact λρ5 H5 σ5 x5 hr5 er5=>w ρ5 H5 σ5 (x3.trans C3.1 x5) hr5 er5
        |b v=>
         simp only[]at h2;rw[<-h2]at w;exact λρ5 H5 y5 x5 hr5 r5=>w ρ5 H5 y5 (x3.trans C3.1 x5) hr5 r5
       |g _ _ _=>rw[hc]at h2;simp only[r9]at h2;rw[<-h2]at w;exact w.elim
       |d=>rw[hc]at h2;simp only[vX]at h2;rw[<-h2]at w;exact w.elim
   . rw[<-h2]at w;exact w.elim
theorem Vq(hx:X.i=λ_ _=>False)(hc:X.j=true)(hp:plain iter=true)(hi:∀env s,L2.PI X tg iter (tI (K:=X.K) (mg:=X.d) env s (yh Φ G env it s)))(hg:L2.PG X tg g)(TG:sS X.K X.d t g)
 (hb:L2.PSs X body (uSs X.K X.d Φ G b)):L2.PS X (.For tg iter body [] pos) (tSt X.K X.d env s ((yh Φ G env it s).bind λr s1=>vo r t (λe s'=>ze Φ G e b s') r.a env s1)):=by
 have hpass:E5 (model X.f X.w) X.A X.a X.i:=by rw[hx];exact E5.never
 refine ya (L2.Ui hpass hc (jU hi) hg hb (yT hp)) λD σ H ⟨ρ,hr,er,w⟩=>⟨env,s,ρ,hr,er,?_⟩;cases hv:yh Φ G env it s with
 |e r s1=>
  rw[hv]at w;exact λρ1 H1 J x1 hr1 W=>cg W TG (λenv s D σ H h=>⟨env,s,h⟩) hr1 (er.mono x1) (w.mono x1 hr1)
 |g _ _ _=>rw[hv]at w;exact w.elim
 |d=>rw[hv]at w;exact w.elim
theorem iB{c:Env->Sto->Out Bool}{body:Env->Sto->Out Fl}{tc:L2.TT}{tb:L2.TS}(hc:∀env s σ H Q,tT K mg env s (c env s) σ H Q->tc σ H Q)(hb:∀env s D σ H,tSt K mg env s (body env s) D σ H->tb D σ H)
 (hr:HR K mg ρ s H) (er:ER K mg ρ H env σ) (w:rl K mg ρ H (uJ c body n env s) D):L2.ZZ tc tb D σ H:=by
 refine⟨λm σ2 H2=>∃ρ2 s2 env2,HR K mg ρ2 s2 H2/\ER K mg ρ2 H2 env2 σ2/\Ext ρ H ρ2 H2/\uJ c body m env2 s2=uJ c body n env s,⟨n,ρ,s,env,hr,er,Ext.refl,rfl⟩,?_⟩;rintro m σ2 H2 ⟨ρ2,s2,env2,hr2,er2,x2,h2⟩;cases m with
 |zero=>rw[uJ]at h2;rw[<-h2]at w;exact w.elim
 |succ m=>
  rw[uJ]at h2;refine hc env2 s2 σ2 H2 _ ⟨ρ2,hr2,er2,?_⟩;cases hv:c env2 s2 with
  |e t s3=>
   rw[hv]at h2;simp only[zM]at h2;intro ρ3 t' H3 x3 hr3 e3;cases e3;have x3':=x2.trans hr2 x3;cases t with
   |true=>
    refine L2.qS ⟨_,λσ' H' p=>⟨m,CQ m,p⟩,hb env2 s3 _ σ2 H3 ⟨ρ3,hr3,er2.mono x3,?_⟩⟩;simp only[if_true]at h2;cases hbd:body env2 s3 with
    |e fl s5=>
     rw[hbd]at h2;simp only[zM]at h2;cases fl with
     |a e=>exact λρ5 H5 σ5 x5 hr5 er5=>⟨ρ5,s5,e,hr5,er5,x3'.trans hr3 x5,h2⟩
     |d e=>exact λρ5 H5 σ5 x5 hr5 er5=>⟨ρ5,s5,e,hr5,er5,x3'.trans hr3 x5,h2⟩
     |c e=>
      simp only[]at h2;rw[<-h2]at w;exact λρ5 H5 σ5 x5 hr5 er5=>w ρ5 H5 σ5 (x3'.trans hr3 x5) hr5 er5
     |b v=>
      simp only[]at h2;rw[<-h2]at w;exact λρ5 H5 y5 x5 hr5 r5=>w ρ5 H5 y5 (x3'.trans hr3 x5) hr5 r5
    |g _ _ _=>rw[hbd]at h2;simp only[r9]at h2;rw[<-h2]at w;exact w.elim
    |d=>rw[hbd]at h2;simp only[vX]at h2;rw[<-h2]at w;exact w.elim
   |false=>
    simp only[AO,if_false]at h2;rw[<-h2]at w;exact L2.tu (w ρ3 H3 σ2 x3' hr3 (er2.mono x3))
  |g _ _ _=>rw[hv]at h2;simp only[r9]at h2;rw[<-h2]at w;exact w.elim
  |d=>rw[hv]at h2;simp only[vX]at h2;rw[<-h2]at w;exact w.elim
theorem bX(hx:X.i=λ_ _=>False)(hc:∀env s,L2.PT X ce (tT X.K X.d env s (evT Φ G env c s)))(hb:L2.PSs X body (uSs X.K X.d Φ G b)) :
 L2.PS X (.While ce body [] pos) (tSt X.K X.d env s (uJ (λe s'=>evT Φ G e c s') (λe s'=>ze Φ G e b s') mV env s)):=by
 have hpass:E5 (model X.f X.w) X.A X.a X.i:=by rw[hx];exact E5.never
 exact ya (L2.ak hpass (RY hc) hb) λD σ H ⟨ρ,hr,er,w⟩=>iB (λenv s σ H Q h=>⟨env,s,h⟩) (λenv s D σ H h=>⟨env,s,h⟩) hr er w
theorem Yp:L2.PSs X [] (tSt X.K X.d env s (.e (.a env) s)):=sC L2.mD λD σ H ⟨ρ,hr,er,w⟩=>w ρ H σ Ext.refl hr er
theorem bY{st:Stmt}{rest:List Stmt}{o:Out Fl}{f:Env->Sto->Out Fl}{tr:L2.TS}(h1:L2.PS X st (tSt X.K X.d env s o))(h2:L2.PSs X rest tr)(i2:∀env s D σ H,tSt X.K X.d env s (f env s) D σ H->tr D σ H) :
 L2.PSs X (st::rest) (tSt X.K X.d env s (o.bind λfl s1=>match fl with|.a e=>f e s1|fl=>.e fl s1)):=by
 refine sC (L2.yv h1 h2) λD σ H ⟨ρ,hr,er,w⟩=>⟨ρ,hr,er,?_⟩;cases o with
 |e fl s1=>
  simp only[zM]at w;cases fl with
  |a e=>exact λρ1 H1 σ1 x1 hr1 er1=>i2 e s1 D σ1 H1 ⟨ρ1,hr1,er1,w.mono x1 hr1⟩
  |c e=>exact w
  |d e=>exact w
  |b v=>exact w
 |g _ _ _=>exact w.elim
 |d=>exact w.elim
end
end M
end
section
namespace M
open PySem
def cS(c:Const)(k:Str->Bool):Bool:=el c.ctorIdx 5 λh=>Const.str.elim (motive:=λ_=>Bool) c h k
theorem W4(h:cS c k=true):∃x,c=.str x/\k x=true:=by obtain⟨hc,h⟩:=zq h;obtain⟨x,rfl⟩:∃x,c=.str x:=Const.str.elim (motive:=λc=>∃x,c=Const.str x) c hc λx=>⟨x,rfl⟩;exact⟨x,rfl,h⟩
def eS(e:Expr):Bool:=Z7 e λc _ _=>cS c λx=>decide (x.length<=1000)
theorem kX(h:eS e=true):∃x k p,e=.Constant (.str x) k p/\x.length<=1000:=by obtain⟨c,k,p,rfl,h1⟩:=qG h;obtain⟨x,rfl,h2⟩:=W4 h1;exact⟨x,k,p,rfl,of_decide_eq_true h2⟩
def eF(e:Expr)(k:Expr->Bool):Bool:=Tu e λu c s _=>decide (c=-1)&&s.isNone&&k u
theorem cL(h:eF e k=true):∃u p,e=.FormattedValue u (-1) none p/\k u=true:=by obtain⟨u,c,s,p,rfl,h1⟩:=cP h;obtain⟨h2,h3⟩:=zX h1;rw[of_decide_eq_true (zX h2).1,B5.mp (zX h2).2];exact⟨u,p,rfl,h3⟩
def eFs(e:Expr)(k:Expr->Expr->Bool):Bool:=eJn e λxs _=>lc xs λc1 xs=>lc xs λf1 xs=>lc xs λc2 xs=>lc xs λf2 xs=>l1 xs λc3=>(eS c1&&(eS c2&&eS c3))&&eF f1 λu=>eF f2 λv=>k u v
theorem Z9(h:eFs e k=true):∃u v c1 c2 c3 k1 k2 k3 p1 p2 p3 p4 p5 pos,e=.JoinedStr [.Constant (.str c1) k1 p1,.FormattedValue u (-1) none p2,.Constant (.str c2) k2 p3,.FormattedValue v (-1) none p4,.Constant (.str c3) k3 p5] pos/\c1.length<=1000/\c2.length<=1000/\c3.length<=1000/\k u v=true:=by obtain⟨xs,pos,rfl,h1⟩:=YA h;obtain⟨a1,xs,rfl,h2⟩:=yj h1;obtain⟨a2,xs,rfl,h3⟩:=yj h2;obtain⟨a3,xs,rfl,h4⟩:=yj h3;obtain⟨a4,xs,rfl,h5⟩:=yj h4;obtain⟨a5,rfl,h6⟩:=yn h5;obtain⟨h7,h8⟩:=zX h6;obtain⟨c1,k1,p1,rfl,z1⟩:=kX (zX h7).1;obtain⟨c2,k2,p3,rfl,z2⟩:=kX (zX (zX h7).2).1;obtain⟨c3,k3,p5,rfl,z3⟩:=kX (zX (zX h7).2).2;obtain⟨u,p2,rfl,h9⟩:=cL h8;obtain⟨v,p4,rfl,h10⟩:=cL h9;exact⟨u,v,c1,c2,c3,k1,k2,k3,p1,p2,p3,p4,p5,pos,rfl,z1,z2,z3,h10⟩
def QR(sc:Scope)(N:List Str)(es:Exs)(a:Expr):Bool:=eFs a λu v=>ckL sc N es [u,v]
mutual
noncomputable def ckS(sc:Scope)(N:List Str):Sm->Stmt->Bool
 |.h e,st=>(Rp st λx _=>ck sc N e x&&ud x)
 |.d e,st=>(Rr st λq _=>o1 q λx=>ck sc N e x)
 |.s,_=>false
 |.f i e,st=>(ZG st λts v _=>l1 ts λt=>eName t λx _=>decide (N[i]?=some x)&&(decide (sc.names.lookup x=some .local)||decide (sc.names.lookup x=some .cell))&&ck sc N e v)
 |.n is e,st=>(ZG st λt0 v _=>l1 t0 λt=>cU t λts _ _=>yG sc N is ts&&ck sc N e v&&notTuple v)
 |.p is es,st=>(ZG st λt0 v _=>l1 t0 λt=>cU t λts _ _=>cU v λvs _ _=>yG sc N is ts&&ckL sc N es vs&&zi vs&&decide (is.length<=8)&&decide is.Nodup&&decide (ts.length=vs.length)&&(Wf sc ts vs||Wn sc ts))
 |.u i op e,st=>(Ro st λt o v _=>eName t λx _=>decide (N[i]?=some x)&&(decide (sc.names.lookup x=some .local)||decide (sc.names.lookup x=some .cell))&&decide (o=op.op)&&ck sc N e v&&!(decide (op=.g)||decide (op=.h)||decide (op=.i)||decide (op=.f)))
 |.v _ _ _,_=>false
 |.l o i e,st=>(ZG st λts v _=>l1 ts λt=>YD t λa b _=>ck sc N o a&&ck sc N i b&&ck sc N e v&&plain b)
 |.g c a b,st=>(sIf st λt x y _=>ckC sc N c t&&nH sc N a x&&nH sc N b y)
 |.j t it b,st=>(Rq st λtg iter body els _=>els.isEmpty&&(ckT sc N t tg&&ckI sc N it iter tg&&nH sc N b body&&plain iter))
 |.m c b,st=>(Rt st λt body els _=>els.isEmpty&&(ckC sc N c t&&nH sc N b body))
 |.r,_=>false
 |.w,_=>false
 |.q,_=>false
 |.k e,st=>(match e with
  |.h c _ es=>(sRs st λq b _=>b.isNone&&o1 q λq=>eCN q λx xs=>l1 xs λa=>decide (x=c)&&wa sc x&&!(x == ("__debug__":Str))&&((ckL sc N es [a]&&plain a)||QR sc N es a))
  |.g _=>true
  |_=>false)
noncomputable def nH(sc:Scope)(N:List Str):Sms->List Stmt->Bool
 |.b,ss=>ss.isEmpty
 |.a c cs,ss=>(lc ss λt ts=>ckS sc N c t&&nH sc N cs ts)
end
structure OkF(T:Tbl)(n:Nat)(sc:Scope)(N:List Str)(X:L2.Cx):Prop where
 a:Ok T n sc N X
 b:X.a.scope=sc
 bk:X.a.blockKind=.function
section
variable {T:Tbl}{n:Nat}
def JS(T:Tbl)(n:Nat)(a:Sm):Prop:=∀(sc:Scope) (N:List Str) (X:L2.Cx) (st:Stmt),OkF T n sc N X->ckS sc N a st=true->∀env s,L2.PS X st (tSt X.K X.d env s (exS (zE T n) T.b env a s))
def JSs(T:Tbl)(n:Nat)(a:Sms):Prop:=∀(sc:Scope) (N:List Str) (X:L2.Cx) (st:List Stmt),OkF T n sc N X->nH sc N a st=true->∀env s,L2.PSs X st (tSt X.K X.d env s (ze (zE T n) T.b env a s))
theorem lq(h:∀env s,L2.PSs X st (tSt X.K X.d env s (ze Φ G env b s))):L2.PSs X st (uSs X.K X.d Φ G b):=λpins s σ H D I ⟨env,t,q⟩=>h env t pins s σ H D I q
theorem Yg:JS T n (.h e):=by intro sc N X st o h env s;replace h:=l8 h;obtain⟨x1,p1,rfl,h⟩:=h;simp only[cf]at h;exact Ym h.2 (jE T n e _ _ _ _ o.a h.1 env s)
theorem Vh:JS T n (.d e):=by intro sc N X st o h env s;replace h:=l9 h;obtain⟨q1,p1,rfl,h⟩:=h;replace h:=nq h;obtain⟨x1,rfl,h⟩:=h;exact Vr (jE T n e _ _ _ _ o.a h env s)
theorem qz:∃b,Eu (.ListComp elt gens csc cpos) (some (.Name y py)) l env=pure b:=⟨_,rfl⟩
noncomputable def YU:Ex->Bool
 |.q ..|.y ..=>true
 |_=>false
theorem lL(h:ck sc N a e=true)(ha:YU a=false):ud e=true:=by
 have no:∀{e:Expr},ck sc N a e=true->e.ctorIdx=8\/e.ctorIdx=9\/e.ctorIdx=10->False:=λ{e} h hc=>by
  have key:(∃x g c p,e=.ListComp x g c p)\/(∃x g c p,e=.SetComp x g c p)\/∃k x g c p,e=.DictComp k x g c p:=by
   rcases hc with hc|hc|hc
   . exact .inl (E8 (motive_1:=λe=>∃x g c p,e=Expr.ListComp x g c p) e hc λx g c p=>⟨x,g,c,p,rfl⟩)
   . exact .inr (.inl (Expr.SetComp.elim (motive_1:=λe=>∃x g c p,e=Expr.SetComp x g c p) e hc λx g c p=>⟨x,g,c,p,rfl⟩))
   . exact .inr (.inr (Expr.DictComp.elim (motive_1:=λe=>∃k x g c p,e=Expr.DictComp k x g c p) e hc λk x g c p=>⟨k,x,g,c,p,rfl⟩))
  rcases key with⟨x,g,c,p,rfl⟩|⟨x,g,c,p,rfl⟩|⟨k,x,g,c,p,rfl⟩ <;>
  . cases a with
    |q _ _ _ _ _ _ _=>cases ha
    |y _ _ _ _ _ _ _ _ _ _=>cases ha
    |h f v es=>
     have h:(if v<100 then _ else if v<200 then _ else _)=true:=h
     split at h
     . cases h
     . split at h
       . cases h
       . exact absurd (show false=true from (zX h).2) xd
    |_=>cases h
 cases e with
 |ListComp _ _ _ _=>exact(no h (.inl rfl)).elim
 |SetComp _ _ _ _=>exact(no h (.inr (.inl rfl))).elim
 |DictComp _ _ _ _ _=>exact(no h (.inr (.inr rfl))).elim
 |_=>rfl
theorem Vd:JS T n (.f i e):=by
 intro sc N X st o h env s;replace h:=uR h;obtain⟨ts1,v,pos,rfl,h⟩:=h;replace h:=yn h;obtain⟨t1,rfl,h⟩:=h;replace h:=xC h;obtain⟨x,px,rfl,h⟩:=h;simp only[cf,decide_eq_true_eq,Ax]at h;obtain⟨⟨h1,h2⟩,h3⟩:=h;obtain⟨l1,l2⟩:=o.a.a.c x h2;have hN:X.N.Nodup:=by rw[o.a.a.a];exact o.a.a.d
 have hi:X.N[i]?=some x:=by rw[o.a.a.a];exact h1
 by_cases hn:ud v=true
 . exact km (L2.uO hN hi l1 (jE T n e _ _ _ _ o.a h3 env s) (sM hn) l2) λσ H Q q=>q
 . -- a comprehension
   cases e with
   |q m N' fr elt t it ifs=>
    replace h3:=iY h3;obtain⟨x',tg,iter,fs,csc,cpos,rfl,h3⟩:=h3;simp only[cf,decide_eq_true_eq]at h3;obtain⟨⟨⟨⟨⟨⟨c1,c2⟩,c3⟩,c4⟩,c5⟩,c6⟩,c7⟩:=h3;have S:=iQ o.a.a c1;have oc:=o.a.comp S c2 c1;obtain⟨g,pg,tg'⟩:∃g,(∀C s0 H0 ex,L2.PG (X.comp N' csc C s0 H0 ex) tg g)/\sS X.K X.d t g:=by
     cases t with
     |a i=>
      cases tg with
      |Name y p=>
       simp only[ckT,cf,Ax,decide_eq_true_eq]at c3;exact⟨_,λC s0 H0 ex=>oN (oc C s0 H0 ex).a c3.1 c3.2,sN⟩
      |_=>cases c3
     |b is=>
      cases tg with
      |Tuple es k p=>
       simp only[ckT,cf,decide_eq_true_eq]at c3;refine⟨_,λC s0 H0 ex=>?_,wm (is:=is)⟩;obtain⟨a,b,c⟩:=xU (oc C s0 H0 ex).a c3.1;exact L2.tF (X:=X.comp N' csc C s0 H0 ex) o.a.c a b c
      |_=>cases c3
    have hpi:L2.PI X tg iter (uI X.K X.d (zE T n) T.b it):=jU λenv s=>jI T n it _ _ _ _ _ o.a c4 env s;have hts:∀C s0 H0 ex,L2.PTs (X.comp N' csc C s0 H0 ex) fs (uTs X.K X.d (zE T n) T.b ifs):=λC s0 H0 ex=>(jCs T n ifs _ _ _ _ (oc C s0 H0 ex) c5).2.2;have hel:∀C s0 H0 ex,L2.PE (X.comp N' csc C s0 H0 ex) x' (uE X.K X.d (zE T n) T.b elt):=λC s0 H0 ex=>XQ (X:=X.comp N' csc C s0 H0 ex) λenv s=>jE T n elt _ _ _ _ (oc C s0 H0 ex) c6 env s;have rule:L2.PS X (.Assign [.Name x px] (.ListComp x' [⟨tg,iter,fs,0⟩] csc cpos) pos) (L2.um (L2.uP fr (uI X.K X.d (zE T n) T.b it) g (uTs X.K X.d (zE T n) T.b ifs) λacc=>L2.uu acc (uE X.K X.d (zE T n) T.b elt)) (L2.wA i)):=by
     obtain⟨b,hb⟩:=qz (elt:=x') (gens:=[⟨tg,iter,fs,0⟩]) (csc:=csc) (cpos:=cpos) (y:=x) (py:=px) (l:=pos.line) (env:=X.a);cases b with
     |true=>exact L2.XZ o.a.c S hpi pg hts hel hN hi l1 hb l2 (yT c7)
     |false=>exact L2.uO hN hi l1 (L2.gB o.a.c S hpi pg hts hel (yT c7)) hb l2
    refine km (o:=evE (zE T n) T.b env (.q m N' fr elt t it ifs) s) rule λσ H Q hq=>ua (env:=env) (s:=s) (chk:=false) (m:=m) (body:=uv (zE T n) T.b elt ifs) tg' vB (λacc ρ0 H0 hn=>pD hn) ?_ λ_ r s1 p s2 hl=>?_
    . simp only[AO,false_implies,if_true];exact hq
    . have:=rE hl
      simpa using this
   |y m N' fr elt t it ifs t2 it2 ifs2=>
    replace h3:=iZ h3;obtain⟨x',tg,iter,fs,tg2,iter2,fs2,csc,cpos,rfl,h3⟩:=h3;simp only[cf,decide_eq_true_eq]at h3;obtain⟨⟨⟨⟨⟨⟨⟨⟨⟨⟨c1,c2⟩,c3⟩,c4⟩,c5⟩,c6⟩,c7⟩,c8⟩,c9⟩,c10⟩,c11⟩:=h3;have S:=iQ o.a.a c1;have oc:=o.a.comp S c2 c1;have tgt:∀(t:Tgt) (tg:Expr),ckT csc N' t tg=true->∃g,(∀C s0 H0 ex,L2.PG (X.comp N' csc C s0 H0 ex) tg g)/\sS X.K X.d t g:=by
     intro t tg c3;cases t with
     |a i=>
      cases tg with
      |Name y p=>
       simp only[ckT,cf,Ax,decide_eq_true_eq]at c3;exact⟨_,λC s0 H0 ex=>oN (oc C s0 H0 ex).a c3.1 c3.2,sN⟩
      |_=>cases c3
     |b is=>
      cases tg with
      |Tuple es k p=>
       simp only[ckT,cf,decide_eq_true_eq]at c3;refine⟨_,λC s0 H0 ex=>?_,wm (is:=is)⟩;obtain⟨a,b,c⟩:=xU (oc C s0 H0 ex).a c3.1;exact L2.tF (X:=X.comp N' csc C s0 H0 ex) o.a.c a b c
      |_=>cases c3
    obtain⟨g,pg,tg'⟩:=tgt t tg c3;obtain⟨g2,pg2,tg2'⟩:=tgt t2 tg2 c6;have hpi:L2.PI X tg iter (uI X.K X.d (zE T n) T.b it):=jU λenv s=>jI T n it _ _ _ _ _ o.a c4 env s;have hts:∀C s0 H0 ex,L2.PTs (X.comp N' csc C s0 H0 ex) fs (uTs X.K X.d (zE T n) T.b ifs):=λC s0 H0 ex=>(jCs T n ifs _ _ _ _ (oc C s0 H0 ex) c5).2.2;have hpi2:∀C s0 H0 ex,L2.PI (X.comp N' csc C s0 H0 ex) tg2 iter2 (uI X.K X.d (zE T n) T.b it2):=λC s0 H0 ex=>jU (X:=X.comp N' csc C s0 H0 ex) λenv s=>jI T n it2 _ _ _ _ _ (oc C s0 H0 ex) c7 env s;have hts2:∀C s0 H0 ex,L2.PTs (X.comp N' csc C s0 H0 ex) fs2 (uTs X.K X.d (zE T n) T.b ifs2):=λC s0 H0 ex=>(jCs T n ifs2 _ _ _ _ (oc C s0 H0 ex) c8).2.2;have hel:∀C s0 H0 ex,L2.PE (X.comp N' csc C s0 H0 ex) x' (uE X.K X.d (zE T n) T.b elt):=λC s0 H0 ex=>XQ (X:=X.comp N' csc C s0 H0 ex) λenv s=>jE T n elt _ _ _ _ (oc C s0 H0 ex) c9 env s;have rule:L2.PS X (.Assign [.Name x px] (.ListComp x' [⟨tg,iter,fs,0⟩,⟨tg2,iter2,fs2,0⟩] csc cpos) pos) (L2.um (L2.uP fr (uI X.K X.d (zE T n) T.b it) g (uTs X.K X.d (zE T n) T.b ifs) λacc=>L2.q0 (uI X.K X.d (zE T n) T.b it2) g2 (uTs X.K X.d (zE T n) T.b ifs2) (L2.uu acc (uE X.K X.d (zE T n) T.b elt))) (L2.wA i)):=by
     obtain⟨b,hb⟩:=qz (elt:=x') (gens:=[⟨tg,iter,fs,0⟩,⟨tg2,iter2,fs2,0⟩]) (csc:=csc) (cpos:=cpos) (y:=x) (py:=px) (l:=pos.line) (env:=X.a);cases b with
     |true=>exact L2.aj o.a.c S hpi pg hts hpi2 pg2 hts2 hel hN hi l1 hb l2 (yT c10) (λenv=>yT c11)
     |false=>exact L2.uO hN hi l1 (L2.lV o.a.c S hpi pg hts hpi2 pg2 hts2 hel (yT c10) (λenv=>yT c11)) hb l2
    refine km (o:=evE (zE T n) T.b env (.y m N' fr elt t it ifs t2 it2 ifs2) s) rule λσ H Q hq=>ua (env:=env) (s:=s) (chk:=true) (m:=m) (body:=rD (zE T n) T.b elt ifs t2 it2 ifs2) tg' sO (λacc ρ0 H0 hn=>oZ hn tg2') ?_ λz=>by cases z
    simp only[true_implies];exact hq
   |_=>exact absurd (lL h3 rfl) hn
theorem Ye:JS T n (.n is e):=by intro sc N X st o h env s;replace h:=uR h;obtain⟨ts1,v,pos,rfl,h⟩:=h;replace h:=yn h;obtain⟨t1,rfl,h⟩:=h;replace h:=uB h;obtain⟨ts,k,p,rfl,h⟩:=h;simp only[cf]at h;obtain⟨⟨h1,h2⟩,h3⟩:=h;obtain⟨a,b,c⟩:=xU o.a.a h1;exact i8 (t:=.b is) wm (L2.jX (jE T n e _ _ _ _ o.a h2 env s) (L2.tF o.a.c a b c) uf (js h3)) λσ H Q q=>q
theorem Vg:JS T n (.p is es):=by
 intro sc N X st o h env s;replace h:=uR h;obtain⟨ts1,v,pos,rfl,h⟩:=h;replace h:=yn h;obtain⟨t1,rfl,h⟩:=h;replace h:=uB h;obtain⟨ts,k,p,rfl,h⟩:=h;replace h:=uB h;obtain⟨vs,k2,p2,rfl,h⟩:=h;simp only[cf,decide_eq_true_eq,Ax]at h;obtain⟨⟨⟨⟨⟨⟨h1,h2⟩,h3⟩,h4⟩,h5⟩,h6⟩,h7⟩:=h;have hes:=(jL T n es _ _ _ _ o.a h2).1 h3 env s;have hN:X.N.Nodup:=by rw[o.a.a.a];exact o.a.a.d
 have kind:∀x,X.a.kindOf x=sc.names.lookup x:=λx=>by show X.a.scope.names.lookup x=_;rw[o.b]
 rcases h7 with h7|h7
 . unfold Wf at h7
   split at h7
   . rename_i x px y py
     simp only[cf,decide_eq_true_eq,AG]at h7;obtain⟨⟨⟨⟨⟨q1,q2⟩,q3⟩,q4⟩,q5⟩,q6⟩:=h7
     match is,h1,h5 with
     |[i,j],h1,h5=>
      simp only[yG,cf,decide_eq_true_eq,Ax]at h1;obtain⟨⟨i1,i2⟩,⟨j1,j2⟩,_⟩:=h1
      match vs,h6 with
      |[a,b],_=>
       have hij:i≠j:=by rw[BX]at h5;exact λz=>h5.1 (by rw[z];exact Av.mpr rfl)
       exact Yn (L2.Uj o.a.c hN (by rw[o.a.a.a];exact i1) (by rw[o.a.a.a];exact j1) hij (by rw[o.b];exact q1) (by rw[o.b];exact q2) hes
        (kE o.bk (by rw[kind];exact q1) (by rw[kind];exact q2) q3 q4 h3 q5 q6) uf) λσ H Q q=>q
     |[],h1,_=>exact absurd h1 (by simp[yG])
     |[_],h1,_=>exact absurd h1 (by simp[yG])
     |_::_::_::_,h1,_=>exact absurd h1 (by simp[yG])
   . rename_i x px y py z pz
     simp only[cf,decide_eq_true_eq,AG]at h7;obtain⟨⟨⟨⟨⟨⟨⟨⟨⟨q1,q2⟩,q3⟩,q4⟩,q5⟩,q6⟩,q7⟩,q8⟩,q9⟩,q10⟩:=h7
     match is,h1,h5 with
     |[i,j,l],h1,h5=>
      simp only[yG,cf,decide_eq_true_eq,Ax]at h1;obtain⟨⟨i1,i2⟩,⟨j1,j2⟩,⟨l1,l2⟩,_⟩:=h1
      match vs,h6 with
      |[a,b,c],_=>
       simp only[BX,Aj,Bs,or_false,not_or]at h5;exact Yo (L2.Xa o.a.c hN (by rw[o.a.a.a];exact i1) (by rw[o.a.a.a];exact j1) (by rw[o.a.a.a];exact l1) h5.1.1 h5.1.2 h5.2.1 (by rw[o.b];exact q1) (by rw[o.b];exact q2) (by rw[o.b];exact q3) hes
        (pR o.bk (by rw[kind];exact q1) (by rw[kind];exact q2) (by rw[kind];exact q3) q4 q5 q6 q7 q8 h3 q9 q10) uf) λσ H Q q=>q
     |[],h1,_=>exact absurd h1 (by simp[yG])
     |[_],h1,_=>exact absurd h1 (by simp[yG])
     |[_,_],h1,_=>exact absurd h1 (by simp[yG])
     |_::_::_::_::_,h1,_=>exact absurd h1 (by simp[yG])
   . cases h7
 . have hun:(∃x p,Ez x p∈ts/\X.a.kindOf x≠some .local)\/3<ts.length:=by
    unfold Wn at h7;simp only[Ax,decide_eq_true_eq,Bk]at h7;rcases h7 with⟨e,hm,he⟩|h7
    . cases e with
      |Name x px=>
       simp only[decide_eq_true_eq]at he;exact .inl ⟨x,px,hm,by rw[kind];exact he⟩
      |_=>cases he
    . exact .inr h7
   obtain⟨a,b,c⟩:=xU o.a.a h1;have rule:=i8 (t:=.b is) (env:=env) (s:=s) wm (L2.jX (pos:=pos) (kl (k:=k2) (pos:=p2) hes) (L2.tF (k:=k) (pos:=p) o.a.c a b c) uf (eW hun)) λσ H Q q=>q;have e:((zf (zE T n) T.b env es s).bind λvs s1=>if vs.length=is.length then (.e:Fl->Sto->Out Fl) (.a ((is.zip vs).foldl (λe p=>e.set p.1 (some p.2)) env)) s1 else .d)=(((zf (zE T n) T.b env es s).bind λvs s1=>if vs.length<=zO then (.e:Val->Sto->Out Val) (.f vs) s1 else .d).bind λv s1=>match yk (.b is) v env with|some env'=>(.e:Fl->Sto->Out Fl) (.a env') s1|dS=>.d):=by
    cases zf (zE T n) T.b env es s with
    |e ws s1=>
     simp only[zM];by_cases hl:ws.length=is.length
     . have hz:ws.length<=zO:=by rw[hl];exact AD h4 (by decide)
       simp only[if_pos hl,if_pos hz,zM,yk]
     . rw[if_neg hl]
       by_cases hz:ws.length<=zO
       . simp only[if_neg hl,if_pos hz,zM,yk]
       . simp only[if_neg hz,vX]
    |g _ _ _=>rfl
    |d=>rfl
   show L2.PS X _ (tSt X.K X.d env s ((zf (zE T n) T.b env es s).bind λvs s1=>if vs.length=is.length then .e (.a ((is.zip vs).foldl (λe p=>e.set p.1 (some p.2)) env)) s1 else .d))
   rw[e];exact rule
theorem Ve:JS T n (.u i op e):=by intro sc N X st o h env s;replace h:=ZH h;obtain⟨t1,o',v,pos,rfl,h⟩:=h;replace h:=xC h;obtain⟨x,px,rfl,h⟩:=h;simp only[cf,decide_eq_true_eq,Ax,AG,Dp,decide_eq_false_iff_not]at h;obtain⟨⟨⟨⟨h1,h2⟩,rfl⟩,h3⟩,h4⟩:=h;obtain⟨l1,l2⟩:=o.a.a.c x h2;exact Vp (f:=evE (zE T n) T.b env e) (by rintro (z|z|z|z);exact h4.1.1.1 z;exact h4.1.1.2 z;exact h4.1.2 z;exact h4.2 z) (by rw[o.a.a.a];exact o.a.a.d) (by rw[o.a.a.a];exact h1) l1 l2 λs=>jE T n e _ _ _ _ o.a h3 env s
theorem bK:JS T n (.l a i e):=by intro sc N X st o h env s;replace h:=uR h;obtain⟨ts1,v,pos,rfl,h⟩:=h;replace h:=yn h;obtain⟨t1,rfl,h⟩:=h;replace h:=qH h;obtain⟨a1,b1,p1,rfl,h⟩:=h;simp only[cf]at h;exact bW h.2 (jE T n e _ _ _ _ o.a h.1.2 env s) (λs1=>jE T n a _ _ _ _ o.a h.1.1.1 env s1) λs1=>jE T n i _ _ _ _ o.a h.1.1.2 env s1
theorem SQ(ja:JSs T n a)(jb:JSs T n b):JS T n (.g c a b):=by intro sc N X st o h env s;replace h:=gH h;obtain⟨t1,x1,y1,p1,rfl,h⟩:=h;simp only[cf]at h;exact Sa (jC T n c _ _ _ _ o.a h.1.1 env s) (lq λenv s=>ja _ _ _ _ o h.1.2 env s) (lq λenv s=>jb _ _ _ _ o h.2 env s) (λs1 D σ H q=>⟨env,s1,q⟩) λs1 D σ H q=>⟨env,s1,q⟩
theorem Vf(jb:JSs T n b):JS T n (.j t it b):=by intro sc N X st o h env s;replace h:=ZI h;obtain⟨tg1,i1,b1,e1,p1,rfl,h⟩:=h;obtain⟨h0,hh⟩:=zX h;cases AL.mp h0;clear h;have h:=hh;simp only[cf]at h;obtain⟨g,pg,tg⟩:=RT o.a.a o.a.c h.1.1.1;exact Vq o.a.xe o.a.c h.2 (λenv s=>jI T n it _ _ _ _ _ o.a h.1.1.2 env s) pg tg (lq λenv s=>jb _ _ _ _ o h.1.2 env s)
theorem bL(jb:JSs T n b):JS T n (.m c b):=by intro sc N X st o h env s;replace h:=ZJ h;obtain⟨t1,b1,e1,p1,rfl,h⟩:=h;obtain⟨h0,hh⟩:=zX h;cases AL.mp h0;clear h;have h:=hh;simp only[cf]at h;exact bX o.a.xe (λenv s=>jC T n c _ _ _ _ o.a h.1 env s) (lq λenv s=>jb _ _ _ _ o h.2 env s)
theorem bJ:JS T n (.k e):=λsc N X st o h env s=>zN (zG rfl)
theorem Yh:JSs T n .b:=by intro sc N X st o h env s;cases AL.mp h;exact Yp
theorem bM(jc:JS T n c)(jcs:JSs T n cs):JSs T n (.a c cs):=by intro sc N X st o h env s;replace h:=yj h;obtain⟨t1,ts1,rfl,h⟩:=h;simp only[cf]at h;exact bY (f:=λe s=>ze (zE T n) T.b e cs s) (jc _ _ _ _ o h.1 env s) (lq λenv s=>jcs _ _ _ _ o h.2 env s) λenv s D σ H q=>⟨env,s,q⟩
end
section
variable (T:Tbl)(n:Nat)
mutual
theorem jS:∀a:Sm,JS T n a
 |.h _=>Yg
 |.d _=>Vh
 |.s=>λsc N X e o h=>by cases h
 |.f _ _=>Vd
 |.n _ _=>Ye
 |.p _ _=>Vg
 |.u _ _ _=>Ve
 |.l _ _ _=>bK
 |.v _ _ _=>λsc N X e o h=>by cases h
 |.g _ a b=>SQ (jSs a) (jSs b)
 |.j _ _ b=>Vf (jSs b)
 |.m _ b=>bL (jSs b)
 |.r=>λsc N X e o h=>by cases h
 |.w=>λsc N X e o h=>by cases h
 |.q=>λsc N X e o h=>by cases h
 |.k _=>bJ
theorem jSs:∀a:Sms,JSs T n a
 |.b=>Yh
 |.a c cs=>bM (jS c) (jSs cs)
end
end
end M
end
section
namespace M
open PySem
structure OkX(T:Tbl)(n:Nat)(sc:Scope)(N:List Str)(X:L2.Cx)(E:L2.XK):Prop where
 a:OkF T n sc N X.nox
 ps:L2.Passes (L2.CXE X.f X.w) X E
 xr:∀C H,E (.ref C) none H->L2.XR X C H
 lv:Lv T X.f X.w X.K X.d X.h n
 b:∀c,(T.e.lookup c).isSome=true->∃C D,X.d c=some (.ref C)/\L2.ClsAt X.h C (.ref D::L2.veM)/\L2.ClsAt X.h D L2.veM
section
variable (K:KF)(mg:Str->Option Value)(E:L2.XK)
def tX(env:Env)(s:Sto)(x:rn):L2.TS:=λ_ σ H=>∃ρ,HR K mg ρ s H/\ER K mg ρ H env σ/\pF K mg ρ H x E
def tXe(env:Env)(s:Sto)(x:rn):L2.TE:=λσ H _=>∃ρ,HR K mg ρ s H/\ER K mg ρ H env σ/\pF K mg ρ H x E
end
theorem pF.mono(h:pF K mg ρ H x E)(e:Ext ρ H ρ' H')(hr:HR K mg ρ' s H'):pF K mg ρ' H' x E:=by
 cases x with
 |none=>exact h
 |some r=>
  obtain⟨c,as,s'⟩:=r;exact λρ2 H2 x2 hr2 C hC=>h ρ2 H2 (e.trans hr x2) hr2 C hC
noncomputable abbrev wx(T:Tbl):Str->Bool:=λc=>(T.e.lookup c).isSome
section
variable {T:Tbl}{n:Nat}{sc:Scope}{N:List Str}{X:L2.Cx}{E:L2.XK}
theorem zj:¬tXe X.K X.d E env s dS σ H Q:=λ⟨_,_,_,z⟩=>z
theorem xV:¬tX X.K X.d E env s dS D σ H:=λ⟨_,_,_,z⟩=>z
theorem qB(h:T.d f v=dS)vs s:zk T n f v vs s=dS:=by
 cases n with
 |zero=>rfl
 |succ n=>simp only[zk,h]
mutual
theorem jxE(o:OkX T n sc N X E):∀(a:Ex) (e:Expr),ck sc N a e=true->∀env s,L2.PE X e (tXe X.K X.d E env s (xE (zE T n) (zk T n) T.b env a s))
 |.h f v es,e,h=>λenv s=>by
  replace h:(if v<100 then ckA sc f (λxs=>ckL sc N es xs) e else if v<200 then ckB sc N f v es (λl ys=>ckL l N es ys) e else ckV sc N v es (λl ys=>ckL l N es ys) e)=true:=h
  split at h
  . replace h:=xY h
    obtain⟨x,p,xs,pos,rfl,h⟩:=h;simp only[cf,decide_eq_true_eq,wa,AG]at h;obtain⟨⟨⟨⟨rfl,h2⟩,h3⟩,h4⟩,h5⟩:=h;simp only[xE];cases hv:zf (zE T n) T.b env es s with
    |g _ _ _=>exact yY λ_ _ _=>zj
    |d=>exact yY λ_ _ _=>zj
    |e vs s1=>
     simp only[];cases hf:T.d x v with
     |none=>rw[qB hf];exact yY λ_ _ _=>zj
     |some F=>
      obtain⟨fa,fd,e1,e2,e3,e4,e5⟩:=o.lv.a x v F hf;have hp:=(jL T n es _ _ _ _ o.a.a h4).1 h5 env s;rw[hv]at hp;have hp:=jQ hp;cases xs with
      |nil=>
       cases es with
       |a _ _=>cases h4
       |b=>
        cases hv;exact za (L2.lU e5 o.a.a.d (o.a.a.a.b x h2) e1 e2 e3 .nil o.ps h3) λσ H Q ⟨ρ,hr,er,w⟩=>⟨ρ,_,[],hr,.d,.inr w⟩
      |cons y ys=>
       rw[zi,cf]at h5;refine za (L2.n9 e5 o.a.a.d (o.a.a.a.b x h2) e1 e2 e3 .nil o.ps hp h3 (L2.zg (zW h5.1)) (xJ h5.2)) λσ H Q ⟨ρ,hr,er,w⟩=>⟨ρ,hr,er,λρ1 zs H1 x1 hr1 r1=>?_⟩;show spX T X.K X.d n x v (zs++[]) H1 Q E;rw[A5];exact⟨ρ1,s1,vs,hr1,r1,.inr (w.mono x1 hr1)⟩
  . rename_i hver
    have hx:xE (zE T n) (zk T n) T.b env (.h f v es) s=dS:=by
     simp only[xE];cases zf (zE T n) T.b env es s with
     |e vs s1=>exact qB (o.a.a.j f v (by omega)) _ _
     |_=>rfl
    rw[hx];exact yY λ_ _ _=>zj
 |.l op a b,e,h=>λenv s=>by
  replace h:=nK h;obtain⟨l1,o1,r1,p1,rfl,h⟩:=h;simp only[cf,decide_eq_true_eq]at h;obtain⟨⟨⟨⟨k1,rfl⟩,h1⟩,h2⟩,h3⟩:=h;simp only[xE];exact za (L2.gA (tE (X:=X) o.a.a.d op k1) (jxE o a _ h1 env s) (L2.PE.nox (jE T n b _ _ _ _ o.a.a h2 env s)) (we h3)) λσ H Q z=>z
 |.g _,_,_=>λ_ _=>yY λ_ _ _=>zj
 |.e _,_,_=>λ_ _=>yY λ_ _ _=>zj
 |.A _,_,_=>λ_ _=>yY λ_ _ _=>zj
 |.L _ _,_,_=>λ_ _=>yY λ_ _ _=>zj
 |.j m op a b,e,h=>λenv s=>by
  replace h:=mj h;obtain⟨l1,o1,r1,p1,rfl,h⟩:=h;simp only[cf,decide_eq_true_eq]at h;obtain⟨⟨⟨k1,rfl⟩,h1⟩,h2⟩:=h;simp only[xE];exact za (L2.lY (aF (X:=X) m op k1) (jxE o a _ h1 env s) (L2.PE.nox (jE T n b _ _ _ _ o.a.a h2 env s))) λσ H Q z=>z
 |.B _,_,_=>λ_ _=>yY λ_ _ _=>zj
 |.G _,_,_=>λ_ _=>yY λ_ _ _=>zj
 |.w _ _ _ _ _,_,_=>λ_ _=>yY λ_ _ _=>zj
 |.z _ _,_,_=>λ_ _=>yY λ_ _ _=>zj
 |.I _ _,_,_=>λ_ _=>yY λ_ _ _=>zj
 |.F _ _ _,_,_=>λ_ _=>yY λ_ _ _=>zj
 |.p _,_,_=>λ_ _=>yY λ_ _ _=>zj
 |.s _ _,_,_=>λ_ _=>yY λ_ _ _=>zj
 |.D,_,_=>λ_ _=>yY λ_ _ _=>zj
 |.k f m es,e,h=>λenv s=>by
  replace h:=xY h;obtain⟨x,p,xs,pos,rfl,h⟩:=h;replace h:=yj h;obtain⟨y,ys,rfl,h⟩:=h;simp only[cf,decide_eq_true_eq,wa]at h;obtain⟨⟨⟨⟨k1,rfl⟩,h2⟩,h3⟩,h4⟩:=h;simp only[xE];have hpa:=jxL o es (y::ys) h3 h4 env s;rw[zi,cf]at h4;have bo:=f.boot;have hg:=o.a.a.a.b _ h2;have hm:=o.a.a.g _ (dX f);have st:=L2.zg (es:=ys) (env:=X.a) (zW h4.1);have hn:=xJ (pos:=pos) (env:=X.a) h4.2;cases f with
  |e=>exact za (L2.xR (r:=λ_ _ _=>False) (λ_ _ _ _ _ _ _ _ _ z=>Ay z) hg hm bo hpa (by decide) (by decide) st hn) λσ H Q z=>z
  |j=>exact za (L2.xR (r:=λ_ _ _=>False) (λ_ _ _ _ _ _ _ _ _ z=>Ay z) hg hm bo hpa (by decide) (by decide) st hn) λσ H Q z=>z
  |o=>exact za (L2.xR (r:=λ_ _ _=>False) (λ_ _ _ _ _ _ _ _ _ z=>Ay z) hg hm bo hpa (by decide) (by decide) st hn) λσ H Q z=>z
  |r=>exact za (L2.xR (r:=λ_ _ _=>False) (λ_ _ _ _ _ _ _ _ _ z=>Ay z) hg hm bo hpa (by decide) (by decide) st hn) λσ H Q z=>z
  |_=>exact za (L2.t8 (r:=λ_ _ _=>False) (λ_ _ _ _ _ _ _ _ _ z=>Ay z) hg hm bo hpa (by decide) (by decide) st hn) λσ H Q z=>z
 |.E _ _,_,_=>λ_ _=>yY λ_ _ _=>zj
 |.K _ _ _ _,_,_=>λ_ _=>yY λ_ _ _=>zj
 |.u _ _,_,_=>λ_ _=>yY λ_ _ _=>zj
 |.H _ _ _ _ _,_,_=>λ_ _=>yY λ_ _ _=>zj
 |.q _ _ _ _ _ _ _,_,_=>λ_ _=>yY λ_ _ _=>zj
 |.y _ _ _ _ _ _ _ _ _ _,_,_=>λ_ _=>yY λ_ _ _=>zj
 |.r _ _ _ _,_,_=>λ_ _=>yY λ_ _ _=>zj
 |.C _,_,_=>λ_ _=>yY λ_ _ _=>zj
 |.J _ _,_,_=>λ_ _=>yY λ_ _ _=>zj
theorem jxL(o:OkX T n sc N X E):∀(as:Exs) (es:List Expr),ckL sc N as es=true->zi es=true->∀env s,L2.PA X es (λσ H _=>tXe X.K X.d E env s (xL (zE T n) (zk T n) T.b env as s) σ H λ_ _=>False)
 |.b,_,_=>λ_ _ _=>λ_ _ _ _ _ _ _ z=>(zj z).elim
 |.a a as,es,h=>λhp env s=>by
  replace h:=yj h;obtain⟨e,es,rfl,h⟩:=h;obtain⟨h1,h2⟩:=zX h;cases as with
  |a _ _=>exact λ_ _ _ _ _ _ _ z=>(zj z).elim
  |b=>
   cases AL.mp h2;simp only[xL];exact λpos pins s0 σ H Q I z=>L2.x8 (jxE o a e h1 env s) L2.xI (L2.zg (zW (by rw[zi,cf]at hp;exact hp.1))) pos pins s0 σ H Q I z
end
theorem jxT(o:OkX T n sc N X E):∀c e,ckC sc N c e=true->∀env s,L2.PT X e (λσ H _=>tXe X.K X.d E env s (xT (zE T n) (zk T n) T.b env c s) σ H λ_ _=>False)
 |.a a,e,h=>λenv s=>by
  obtain⟨h1,h2⟩:=zX h;cases a with
  |h f v es=>
   simp only[xT];rcases (Ax _ _).mp h2 with h2|h2
   . exact sy (L2.lr (jxE o (.h f v es) e h1 env s) (oO h2)) λσ H Q z=>z
   . exfalso
     obtain⟨l,os,rs,p,rfl⟩:=dw (of_decide_eq_true h2);cases dm h1
  |_=>exact gE λ_ _ _=>zj
 |.b c,e,h=>λenv s=>by
  replace h:=rX h;obtain⟨x,p,rfl,h⟩:=h;simp only[xT];exact sy (L2.jY (jxT o c _ h env s)) λσ H Q z=>z
 |.d _ _,_,_=>λ_ _=>gE λ_ _ _=>zj
 |.f _ _,_,_=>λ_ _=>gE λ_ _ _=>zj
theorem hV(h:lK vs=true):(∃x,vs=[.h x])\/∃i j:Int,vs=[.c i,.c j]/\i.natAbs<2 ^ 64/\j.natAbs<2 ^ 64:=by
 unfold lK at h;split at h
 . exact .inl ⟨_,rfl⟩
 . rw[cf,decide_eq_true_eq,decide_eq_true_eq]at h
   exact .inr ⟨_,_,rfl,h⟩
 . cases h
theorem bb(o:OkX T n sc N X E)(h:ckS sc N (.k e) st=true)env s:L2.PS X st (tX X.K X.d E env s (xS (wx T) (zE T n) (zk T n) T.b env (.k e) s)):=by
 cases e with
 |h c v es=>
  replace h:=Xi h;obtain⟨q,b,pos,rfl,h⟩:=h;obtain⟨h0,hh⟩:=zX h;cases B5.mp h0;replace h:=nq hh;obtain⟨q,rfl,h⟩:=h;replace h:=xY h;obtain⟨x,np,xs,cpos,rfl,h⟩:=h;replace h:=yn h;obtain⟨a,rfl,h⟩:=h;simp only[cf,decide_eq_true_eq,wa,AG,Ax]at h;obtain⟨⟨⟨rfl,h2⟩,h3⟩,h4⟩:=h;simp only[xS];cases hv:zf (zE T n) T.b env es s with
  |g _ _ _=>exact wC λ_ _ _=>xV
  |d=>exact wC λ_ _ _=>xV
  |e vs s1=>
   simp only[];by_cases hm:(lK vs&&(T.e.lookup x).isSome)=true
   case neg=>rw[if_neg hm];exact wC λ_ _ _=>xV
   rw[if_pos hm];rw[cf]at hm;obtain⟨C,D,m1,m2,m3⟩:=o.b x hm.2;rcases h4 with⟨h4,h5⟩|h4
   . have hp:=(jL T n es _ _ _ _ o.a.a h4).1 (by rw[zi,zi,GA];exact h5) env s
     rw[hv]at hp;refine ya (L2.ll o.a.a.d.b (o.a.a.a.b x h2) m1 m2 m3 (jQ hp) h3 (L2.zg (zW h5)) rfl) λD' σ H ⟨ρ,hr,er,w⟩=>⟨ρ,hr,er,λρ1 xs H1 x1 hr1 r1=>⟨?_,o.xr C H1 (w ρ1 H1 x1 hr1 C m1)⟩⟩;rw[<-r1.length,AV];rcases hV hm.1 with⟨x,rfl⟩|⟨i,j,rfl,_⟩
     . simp
     . simp
   . replace h4:=Z9 h4
     obtain⟨u,v',c1,c2,c3,k1,k2,k3,p1,p2,p3,p4,p5,pos',rfl,z1,z2,z3,h4⟩:=h4;obtain⟨e1,e2,rfl,h41,h42⟩:∃e1 e2,es=.a e1 (.a e2 .b)/\ck sc N e1 u=true/\ck sc N e2 v'=true:=by
      cases es with
      |b=>cases h4
      |a e1 es=>
       obtain⟨q1,q2⟩:=zX h4;cases es with
       |b=>cases q2
       |a e2 es=>
        obtain⟨q3,q4⟩:=zX q2;cases es with
        |b=>exact⟨e1,e2,rfl,q1,q3⟩
        |a _ _=>cases q4
     obtain⟨v1,s2,q1,hv⟩:=zy hv;obtain⟨vs',s3,q2,hv⟩:=zy hv;obtain⟨v2,s4,q3,q2⟩:=zy q2;cases q2;cases hv;have pe:=L2.RM (c1:=c1) (c2:=c2) (c3:=c3) (k1:=k1) (k2:=k2) (k3:=k3) (p1:=p1) (p2:=p2) (p3:=p3) (p4:=p4) (p5:=p5) (pos:=pos') (L2.PE.nox (jE T n e1 _ _ _ _ o.a.a h41 env s)) (L2.PE.nox (jE T n e2 _ _ _ _ o.a.a h42 env s2)) z1 z2 z3;rcases hV hm.1 with⟨x,z⟩|⟨i,j,z,hi,hj⟩
     . cases z
     . cases z
       rw[q1,q3]at pe;refine ya (L2.ll o.a.a.d.b (o.a.a.a.b x h2) m1 m2 m3 (L2.x8 pe L2.xI) h3 rfl rfl) λD' σ H ⟨ρ,hr,er,w⟩=>⟨ρ,hr,er,λρ1 y1 H1 x1 hr1 r1=>?_⟩;cases r1;refine⟨i,rfl,hi,ρ1,hr1,er.mono x1,λρ2 y2 H2 x2 hr2 r2=>?_⟩;cases r2;exact⟨j,rfl,hj,λz=>⟨by rw[AV];simp,o.xr C H2 (w ρ2 H2 (x1.trans hr1 x2) hr2 C m1)⟩⟩
 |_=>exact wC λ_ _ _=>xV
theorem Vv(o:OkX T n sc N X E)(h:ckS sc N (.f i e) st=true)env s:L2.PS X st (tX X.K X.d E env s (xE (zE T n) (zk T n) T.b env e s)):=by
 replace h:=uR h;obtain⟨ts1,v,pos,rfl,h⟩:=h;replace h:=yn h;obtain⟨t1,rfl,h⟩:=h;replace h:=xC h;obtain⟨x,px,rfl,h⟩:=h;simp only[cf,decide_eq_true_eq,Ax]at h;obtain⟨⟨h1,h2⟩,h3⟩:=h;obtain⟨l1,l2⟩:=o.a.a.a.c x h2;have hN:X.N.Nodup:=by have:=o.a.a.a.a;rw[show X.N=N from this];exact o.a.a.a.d
 have hi:X.N[i]?=some x:=by have:=o.a.a.a.a;rw[show X.N=N from this];exact h1
 by_cases hn:ud v=true
 . exact ya (L2.uO hN hi l1 (jxE o e _ h3 env s) (sM hn) l2) λD σ H z=>z
 . cases e with
   |h _ _ _=>exact absurd (lL h3 rfl) hn
   |l _ _ _=>exact absurd (lL h3 rfl) hn
   |j _ _ _ _=>exact absurd (lL h3 rfl) hn
   |k _ _ _=>exact absurd (lL h3 rfl) hn
   |_=>exact wC λ_ _ _=>xV
def uX(T:Tbl)(n:Nat)(X:L2.Cx)(E:L2.XK)(b:Sms):L2.TS:=λD σ H=>∃env s,tX X.K X.d E env s (xSs (wx T) (zE T n) (zk T n) T.b env b s) D σ H
mutual
theorem jxS(o:OkX T n sc N X E):∀(a:Sm) (st:Stmt),ckS sc N a st=true->∀env s,L2.PS X st (tX X.K X.d E env s (xS (wx T) (zE T n) (zk T n) T.b env a s))
 |.h e,st,h=>λenv s=>by
  replace h:=l8 h;obtain⟨x1,p1,rfl,h⟩:=h;simp only[cf]at h;simp only[xS];exact ya (L2.mC (jxE o e _ h.1 env s) (sM h.2)) λD σ H z=>z
 |.d e,st,h=>λenv s=>by
  replace h:=l9 h;obtain⟨q1,p1,rfl,h⟩:=h;replace h:=nq h;obtain⟨x1,rfl,h⟩:=h;simp only[xS];exact ya (L2.uN (jxE o e _ h env s)) λD σ H z=>z
 |.f i e,st,h=>λenv s=>by simp only[xS];exact Vv o h env s
 |.k e,st,h=>λenv s=>bb o h env s
 |.g c a b,st,h=>λenv s=>by
  replace h:=gH h;obtain⟨t1,x1,y1,p1,rfl,h⟩:=h;simp only[cf]at h;have pc:=L2.PT.nox (jC T n c _ _ _ _ o.a.a h.1.1 env s);have pn:∀{ss:List Stmt},L2.PSs X ss (λ_ _ _=>False):=λpins s0 σ H D I q=>q.elim;simp only[xS];cases hc:evT (zE T n) T.b env c s with
  |g _ _ _=>exact ya (L2.lj (jxT o c _ h.1.1 env s) pn pn) λD σ H z=>z
  |d=>exact ya (L2.lj (jxT o c _ h.1.1 env s) pn pn) λD σ H z=>z
  |e t s1=>
   rw[hc]at pc;have pa:L2.PSs X _ (uX T n X E a):=λpins s0 σ H D I ⟨env',s',q⟩=>Yq o a _ h.1.2 env' s' pins s0 σ H D I q;have pb:L2.PSs X _ (uX T n X E b):=λpins s0 σ H D I ⟨env',s',q⟩=>Yq o b _ h.2 env' s' pins s0 σ H D I q;refine ya (L2.lj pc pa pb) λD σ H ⟨ρ,hr,er,w⟩=>⟨ρ,hr,er,λρ1 t' H1 x1 hr1 ht=>?_⟩;cases ht;simp only[]at w;cases t with
   |true=>exact L2.qS ⟨env,s1,ρ1,hr1,er.mono x1,pF.mono w x1 hr1⟩
   |false=>exact L2.tu ⟨env,s1,ρ1,hr1,er.mono x1,pF.mono w x1 hr1⟩
 |.s,_,_=>λ_ _=>wC λ_ _ _=>xV
 |.n _ _,_,_=>λ_ _=>wC λ_ _ _=>xV
 |.p _ _,_,_=>λ_ _=>wC λ_ _ _=>xV
 |.u _ _ _,_,_=>λ_ _=>wC λ_ _ _=>xV
 |.l _ _ _,_,_=>λ_ _=>wC λ_ _ _=>xV
 |.j _ _ _,_,_=>λ_ _=>wC λ_ _ _=>xV
 |.m _ _,_,_=>λ_ _=>wC λ_ _ _=>xV
 |.r,_,_=>λ_ _=>wC λ_ _ _=>xV
 |.w,_,_=>λ_ _=>wC λ_ _ _=>xV
 |.q,_,_=>λ_ _=>wC λ_ _ _=>xV
 |.v _ _ _,_,_=>λ_ _=>wC λ_ _ _=>xV
theorem Yq(o:OkX T n sc N X E):∀(b:Sms) (st:List Stmt),nH sc N b st=true->∀env s,L2.PSs X st (tX X.K X.d E env s (xSs (wx T) (zE T n) (zk T n) T.b env b s))
 |.b,_,_=>λ_ _=>λpins s0 σ H D I q=>(xV q).elim
 |.a c cs,st,h=>λenv s=>by
  replace h:=yj h;obtain⟨t0,ts,rfl,h⟩:=h;rw[cf]at h;simp only[xSs];have no:L2.PSs X ts (λ_ _ _=>False):=λpins s0 σ H D I q=>q.elim;cases hc:exS (zE T n) T.b env c s with
  |g _ _ _=>exact sC (L2.yv (jxS o c _ h.1 env s) no) λD σ H z=>z
  |d=>exact sC (L2.yv (jxS o c _ h.1 env s) no) λD σ H z=>z
  |e fl s1=>
   simp only[];cases fl with
   |a e=>
    have p1:=jS T n c _ _ _ _ o.a h.1 env s;rw[hc]at p1;have p1':L2.PS X t0 (tSt X.K X.d env s (.e (.a e) s1)):=λpins s0 σ H D I q=>A3 (p1 pins s0 σ H D (I.wo _) q) (λ_ _ z=>z.xK) λ_ _ z=>Ay z;have p2:L2.PSs X ts (uX T n X E cs):=λpins s0 σ H D I ⟨env',s',q⟩=>Yq o cs _ h.2 env' s' pins s0 σ H D I q;refine sC (L2.yv p1' p2) λD σ H ⟨ρ,hr,er,w⟩=>⟨ρ,hr,er,λρ1 H1 σ1 x1 hr1 er1=>?_⟩;exact⟨e,s1,ρ1,hr1,er1,pF.mono w x1 hr1⟩
   |b _=>exact λpins s0 σ H D I q=>(xV q).elim
   |c _=>exact λpins s0 σ H D I q=>(xV q).elim
   |d _=>exact λpins s0 σ H D I q=>(xV q).elim
end
end
end M
end
section
namespace M
open PySem
mutual
noncomputable def oQ(n:Nat):Val->Bool
 |.k i|.o i=>decide (i<n)
 |.f vs=>vG n vs
 |.j vs=>vG n vs
 |.g|.e _|.c _|.h _|.m|.l _|.p _|.q _|.r _=>true
noncomputable def vG(n:Nat):List Val->Bool
 |[]=>true
 |v::vs=>oQ n v&&vG n vs
end
mutual
theorem sF{n:Nat}{v:Val}(h:v.noRef=true):oQ n v=true:=by
 cases v with
 |k _=>cases h
 |o _=>cases h
 |f vs=>exact vS (vs:=vs) h
 |j vs=>exact vS (vs:=vs) h
 |_=>rfl
theorem vS{n:Nat}{vs:List Val}(h:zr vs=true):vG n vs=true:=by
 cases vs with
 |nil=>rfl
 |cons v vs=>
  rw[zr,cf]at h;rw[vG,sF h.1,vS h.2];rfl
end
section
variable {K:KF}{mg:Str->Option Value}
mutual
theorem RD.refs{ρ:Own}{H:L2.Hp}{v:Val}{x:L2.V}(q:RD K mg ρ H v x):oQ ρ.o.length v=true:=by
 cases q with
 |m _ _ r=>exact RDs.refs r
 |E _ _ r=>exact RDs.refs r
 |C e _=>exact decide_eq_true (Am.mp e).1
 |A e _=>exact decide_eq_true (Am.mp e).1
 |_=>rfl
theorem RDs.refs{ρ:Own}{H:L2.Hp}{v:List Val}{x:List L2.V}(q:RDs K mg ρ H v x):vG ρ.o.length v=true:=by
 cases q with
 |d=>rfl
 |a r rs=>rw[vG,RD.refs r,RDs.refs rs];rfl
end
structure Cut(ρ ρ':Own):Prop where
 b:∃new,ρ'.o=ρ.o++new
 d:ρ'.h=ρ.h
theorem Cut.no(c:Cut ρ ρ')(n:ρ'.no a):ρ.no a:=by obtain⟨new,e⟩:=c.b;exact⟨λh=>n.1 (by rw[e];exact Bp _ h),by rw[<-c.d];exact n.2⟩
mutual
theorem RD.ui{ρ ρ':Own}{H:L2.Hp}(c:Cut ρ ρ'){v:Val}{x:L2.V}(q:RD K mg ρ' H v x)(h:oQ ρ.o.length v=true):RD K mg ρ H v x:=by
 have at':∀{i:Nat} {a:Addr},ρ'.o[i]?=some a->decide (i<ρ.o.length)=true->ρ.o[i]?=some a:=λ{i a} e h=>by obtain⟨new,e'⟩:=c.b;rw[e',AU (of_decide_eq_true h)]at e;exact e
 cases q with
 |s=>exact .s
 |j b=>exact .j b
 |l i=>exact .l i
 |D t=>exact .D t
 |m n e r=>exact .m (c.no n) e (RDs.ui c r h)
 |E n e r=>exact .E (c.no n) e (RDs.ui c r h)
 |B n e=>exact .B (c.no n) e
 |p g=>exact .p g
 |F g=>
  refine .F ?_;rcases g with⟨n,g⟩|g
  . exact .inl ⟨c.no n,g⟩
  . exact .inr g
 |C e k=>exact .C (at' e h) k
 |A e k=>exact .A (at' e h) k
 |G e=>exact .G e
 |I n=>exact .I n
theorem RDs.ui{ρ ρ':Own}{H:L2.Hp}(c:Cut ρ ρ'){v:List Val}{x:List L2.V}(q:RDs K mg ρ' H v x)(h:vG ρ.o.length v=true):RDs K mg ρ H v x:=by
 cases q with
 |d=>exact .d
 |a r rs=>
  rw[vG,cf]at h;exact .a (RD.ui c r h.1) (RDs.ui c rs h.2)
end
noncomputable def nE:Cel->List Val
 |.c vs=>vs
 |.e kvs=>kvs.map (·.2)
 |.f kvs=>kvs.map (·.2)
 |.d _=>[]
theorem CR.vals(h:CR K mg ρ H a c):∃xs,RDs K mg ρ H (nE c) xs:=by
 cases c with
 |c vs=>obtain⟨xs,_,r⟩:=h;exact⟨_,r⟩
 |e kvs=>obtain⟨xs,_,_,r⟩:=h;exact⟨_,r⟩
 |f kvs=>obtain⟨xs,_,_,r⟩:=h;exact⟨_,r⟩
 |d x=>exact⟨[],.d⟩
theorem gh(h:c.noRef=true):zr (nE c)=true:=by cases c<;>first|exact h|rfl
theorem CR.ui(c:Cut ρ ρ')(h:CR K mg ρ' H a o)(hb:vG ρ.o.length (nE o)=true):CR K mg ρ H a o:=by
 cases o with
 |c vs=>obtain⟨xs,e,r⟩:=h;exact⟨xs,e,RDs.ui c r hb⟩
 |e kvs=>obtain⟨xs,e,k,r⟩:=h;exact⟨xs,e,k,RDs.ui c r hb⟩
 |f kvs=>obtain⟨xs,e,k,r⟩:=h;exact⟨xs,e,k,RDs.ui c r hb⟩
 |d y=>
  obtain⟨ps,e1,k,r,g⟩:=h;refine⟨ps,e1,k,λpos cv hc=>?_,g⟩;obtain⟨a,o,vs,t,q1,q2,q3,q4⟩:=r pos cv hc;exact⟨a,o,vs,t,q1,c.no q2,q3,q4⟩
theorem n6{α β:Type}:∀{a b:List (α × β)},a.map (·.1)=b.map (·.1)->a.map (·.2)=b.map (·.2)->a=b
 |[],[],_,_=>rfl
 |[],_::_,h,_=>by cases h
 |_::_,[],h,_=>by cases h
 |x::xs,y::ys,h1,h2=>by
  rw[AN,AN]at h1 h2;injection h1 with a1 a2
  injection h2 with b1 b2
  rw[n6 a2 b2,CL a1 b1]
theorem lO:∀{s s'} {i} {o'},wb s s'=true->i<s.length->s'[i]?=some o'->o'.noRef=true\/s[i]?=some o'
 |[],_,_,_,_,h,_=>by cases h
 |o::r,[],_,_,h,_,_=>by cases h
 |o::r,o'::r',0,q,h,_,e=>by
  rw[wb,cf,Ax]at h;simp only[List.getElem?_cons_zero,Fv]at e;subst e;rcases h.1 with z|z
  . exact .inl z
  . right
    cases o' with
    |c a=>cases o with
     |c b=>simp only[Cel.beq]at z;rw[tQ z];rfl
     |_=>cases z
    |e a=>cases o with
     |e b=>simp only[Cel.beq,cf,decide_eq_true_eq]at z;rw[n6 z.1 (tQ z.2)];rfl
     |_=>cases z
    |f a=>cases o with
     |f b=>simp only[Cel.beq,cf,decide_eq_true_eq]at z;rw[n6 z.1 (tQ z.2)];rfl
     |_=>cases z
    |d a=>cases o with
     |d b=>simp only[Cel.beq,decide_eq_true_eq]at z;rw[z];rfl
     |_=>cases z
 |o::r,o'::r',i+1,q,h,hi,e=>by
  rw[wb,cf]at h;have:=lO (i:=i) h.2 (by simpa using hi) (by simpa using e)
  simpa using this
noncomputable def Ue:Val->Bool
 |.k _|.o _|.f _=>false
 |.g|.e _|.c _|.h _|.m|.l _|.p _|.q _|.r _|.j _=>true
theorem YL{n:Nat}{s:Sto}{k i:Nat}:vZ n s k (.k i)=if i<n then some (Val.k i) else match s[i]? with
 |some (.c vs)=>if zr vs then some (.j vs) else dS
 |_=>dS:=by cases k<;>rfl
theorem cj:vZ n s k (.o i)=if i<n then some (Val.o i) else dS:=by cases k<;>rfl
theorem cm(h:Ue v=true):vZ n s k v=if v.noRef then some v else dS:=by
 cases v with
 |k _=>cases h
 |o _=>cases h
 |f _=>cases h
 |_=>cases k<;>rfl
theorem YK:tj n s k []=some []:=by cases k<;>rfl
mutual
theorem qN{ρ ρ':Own}{H:L2.Hp}{s:Sto}(c:Cut ρ ρ')(hr:HR K mg ρ' s H){k:Nat}{v v':Val}{x:L2.V}(r:RD K mg ρ' H v x)(h:vZ ρ.o.length s k v=some v'):RD K mg ρ H v' x:=by
 have sv:∀{w:Val},RD K mg ρ' H w x->(if w.noRef then some w else dS)=some v'->RD K mg ρ H v' x:=λ{w} r h=>by
  split at h
  . rename_i hn;cases h;exact RD.ui c r (sF hn)
  . cases h
 cases v with
 |k i=>
  rw[YL]at h;cases r with
  |C e hkd=>
   by_cases hi:i<ρ.o.length
   . rw[if_pos hi]at h
     cases h;exact RD.ui c (.C e hkd) (by rw[oQ];exact decide_eq_true hi)
   . rw[if_neg hi]at h
     split at h
     . rename_i vs hs
       split at h
       . rename_i hn
         cases h;obtain⟨a,xs,e1,e2,q⟩:=hr.obj i vs hs;rw[e]at e1;cases e1;obtain⟨new,e'⟩:=c.b;have hm:=AE e;refine .E ⟨λhm'=>?_,λhh=>?_⟩ e2 (RDs.ui c q (vS hn))
         . obtain⟨j,hj,ej⟩:=BI hm'
           have ej':ρ'.o[j]?=ρ'.o[i]?:=by rw[e,e',AU hj,Aa hj,ej]
           have:=b8 hr.v e (ej'.trans e);exact hi (this▸hj)
         . exact(hr.d _ (by rw[c.d];exact hh)).2 hm
       . cases h
     . cases h
 |o i=>
  rw[cj]at h;split at h
  . rename_i hi
    cases h;exact RD.ui c r (by rw[oQ];exact decide_eq_true hi)
  . cases h
 |f vs=>
  cases k with
  |zero=>exact sv r h
  |succ k=>
   rw[vZ,A1]at h;obtain⟨ws,h1,rfl⟩:=h;cases r with
   |m n e q=>exact .m (c.no n) e (qM c hr q h1)
 |_=>exact sv r ((cm rfl).symm.trans h)
theorem qM{ρ ρ':Own}{H:L2.Hp}{s:Sto}(c:Cut ρ ρ')(hr:HR K mg ρ' s H){k:Nat}{v v':List Val}{x:List L2.V}(r:RDs K mg ρ' H v x)(h:tj ρ.o.length s k v=some v'):RDs K mg ρ H v' x:=by
 cases r with
 |d=>rw[YK]at h;cases h;exact .d
 |@a v _ vs _ r1 r2=>
  cases k with
  |zero=>cases h
  |succ k=>
   rw[tj]at h;split at h
   . rename_i a b ha hb
     cases h;refine .a ?_ (qM c hr r2 hb);by_cases hn:v.noRef=true
     . rw[if_pos hn]at ha;cases ha;exact RD.ui c r1 (sF hn)
     . rw[if_neg hn]at ha;exact qN c hr r1 ha
   . cases h
end
theorem lA(h0:HR K mg ρ s H)(w:yt K mg (RD K mg) ρ H (leave F s v s1) Q)(X:Ext ρ H ρ' H')(hr:HR K mg ρ' s1 H')(r:RD K mg ρ' H' v x):Q x H':=by
 unfold leave at w;by_cases hk:F.c=true
 . rw[if_pos hk]at w;exact w ρ' x H' X hr r
 . rw[if_neg hk]at w
   by_cases ho:wb s s1=true
   . rw[if_pos ho]at w
     have c:Cut ρ ρ':=⟨by obtain⟨new,e,_⟩:=X.d;exact⟨new,e⟩,X.f⟩
     cases hf:freeze s.length s1 v with
     |none=>rw[hf]at w;exact w.elim
     |some v'=>
      rw[hf]at w;have hlen:s.length<=s1.length:=by obtain⟨new,e,_⟩:=X.d;rw[<-h0.f,<-hr.f,e,Al];omega
      refine w ρ x H' ⟨⟨[],by simp,λa ha=>by cases ha⟩,rfl,X.c,X.g⟩ ⟨?_,h0.v,λi vs e=>?_,λa ha=>?_⟩ ?_
      . rw[B1,h0.f];omega
      . have hi:i<s.length:=by have:=(Am.mp e).1;rw[B1]at this;omega
        rw[DP hi]at e;obtain⟨a,e1,q⟩:=hr.m i vs e;have e3:ρ.o[i]?=some a:=by
         obtain⟨new,e',_⟩:=X.d;rw[e',AU (by rw[h0.f];exact hi)]at e1
         exact e1
        refine⟨a,e3,q.ui c ?_⟩;rcases lO ho hi e with z|z
        . exact vS (gh z)
        . obtain⟨b,_,q'⟩:=h0.m i vs z
          obtain⟨xs,q2⟩:=q'.vals;exact RDs.refs q2
      . obtain⟨z,n⟩:=hr.d a (by rw[X.f];exact ha)
        exact⟨z,(h0.d a ha).2⟩
      . unfold freeze at hf
        by_cases hn:v.noRef=true
        . rw[if_pos hn]at hf;cases hf;exact RD.ui c r (sF hn)
        . rw[if_neg hn,<-h0.f]at hf
          exact qN c hr r hf
   . rw[if_neg ho]at w;exact w.elim
theorem kB(r:RDs K mg ρ H args vs):ER K mg ρ H (zV N args) (L2.start N vs):=by
 refine⟨by unfold zV L2.start;rw[Al,Al,Ab,Ab,B3,B3,r.length],λi v e=>?_⟩
 unfold zV at e;unfold L2.start;by_cases hi:i<args.length
 . rw[AU (by simpa using hi),AR]at e
   rw[AU (by rw[Ab,<-r.length];exact hi),AR]
   cases ha:args[i]? with
   |none=>rw[ha]at e;cases e
   |some a=>
    rw[ha]at e;have:a=v:=AA (AA e);subst this;obtain⟨x,h1,h2⟩:=r.get ha;exact⟨x,by rw[h1];rfl,h2⟩
 . rw[A7 (by simpa using hi),CV]at e
   split at e<;>cases e
end
noncomputable def argNames(a:Er):Option (List Str):=
 if a.posonlyargs.isEmpty&&a.vararg.isNone&&a.kwonlyargs.isEmpty&&a.kw_defaults.isEmpty&&a.kwarg.isNone&&a.defaults.isEmpty then some (a.args.map (·.arg)) else none
def gj(st:Stmt)(F:Fn):Bool:=
 match st with
 |.FunctionDef _ args body _ _ _ sc _ _ _=>decide (argNames args=some F.b)&&decide (sc.kind=.function)&&!sc.isCoroutine&&!sc.isGenerator&&decide F.N.Nodup&&decide (F.N.take F.b.length=F.b) &&
  F.b.all (λx=>decide (sc.names.lookup x=some .local)||decide (sc.names.lookup x=some .cell))&&sc.names.all (λy=>decide (y.2≠.free))&&nH sc F.N F.a body
 |_=>false
theorem kz:∀{ps:List Str} {us:List Value},ps.Nodup->us.length=ps.length->ps.filterMap (λn=>((ps.zip us).lookup n).map (n,·))=ps.zip us:=by
 have key:∀(ps qs:List Str) (us ws:List Value),(qs++ps).Nodup->us.length=ps.length->ws.length=qs.length->ps.filterMap (λn=>(((qs++ps).zip (ws++us)).lookup n).map (n,·))=ps.zip us:=by
  intro ps;induction ps with
  |nil=>intro qs us ws _ _ _;rfl
  |cons p ps ih=>
   intro qs us ws nd h1 h2;cases us with
   |nil=>cases h1
   |cons u us=>
    have hl:((qs++p::ps).zip (ws++u::us)).lookup p=some u:=by
     rw[List.zip_append h2.symm];have:∀(qs:List Str) (ws:List Value),p ∉ qs->((qs.zip ws)++(p::ps).zip (u::us)).lookup p=some u:=by
      intro qs;induction qs with
      |nil=>intro ws _;simp
      |cons q qs ih2=>
       intro ws hn;cases ws with
       |nil=>simp
       |cons w ws=>
        have hpq:(p == q)=false:=by
         have:p≠q:=λz=>hn (by rw[z];exact Ap)
         simpa using this
        rw[List.zip_cons_cons,CO,An,hpq];exact ih2 ws λz=>hn (Ah _ z)
     refine this qs ws λz=>?_;rw[FH]at nd;exact nd.2.2 p z p Ap rfl
    rw[A0,hl];have:=ih (qs++[p]) us (ws++[u]) (by simpa using nd) (by simpa using h1) (by simp[h2])
    rw[Bo,Bo]at this;exact congrArg ((p,u)::·) this
 intro ps us nd h;simpa using key ps [] us [] (by simpa using nd) h rfl
theorem lookup_some:∀{ps:List Str} {us:List Value},us.length=ps.length->∀n∈ps,((ps.zip us).lookup n).isNone=false
 |[],_,_,n,h=>by cases h
 |p::ps,[],h,_,_=>by cases h
 |p::ps,u::us,h,n,hn=>by
  rw[List.zip_cons_cons,An];cases hb:(n == p) with
  |true=>rfl
  |false=>
   have:n≠p:=by simpa using hb
   rcases Aj.mp hn with z|z
   . exact absurd z this
   . exact lookup_some (by simpa using h) n z
theorem tR(h:argNames a=some ps)(nd:ps.Nodup)us(hl:us.length=ps.length) :
 Gs (BG x qual a body sc .none kV doc pm an cdv ct) ⟨us,[]⟩=pure (ps.zip us):=by
 unfold argNames at h;split at h
 . rename_i hc
   simp only[cf,AL,B5]at hc;obtain⟨⟨⟨⟨⟨h1,h2⟩,h3⟩,h4⟩,h5⟩,h6⟩:=hc;cases h;obtain⟨po,ar,va,ko,kd,kw,df⟩:=a;simp only at h1 h2 h3 h4 h5 h6 hl nd ⊢;subst h1 h2 h3 h4 h5 h6;have hm:((ar.map (·.arg)).take ((ar.map (·.arg)).length-0)).filter (λn=>(((ar.map (·.arg)).zip us).lookup n).isNone)=[]:=by rw[C9];intro n hn;rw[lookup_some hl n (Dr hn)];decide
   unfold Gs;have hd:seqItems? Ci=pure none:=rfl;have hg:¬(us.length > (ar.map (·.arg)).length/\True):=by rintro ⟨z,_⟩;omega
   simp only[BG,List.map_nil,DE,A5,Gn,DR,hd,FQ,List.toList_toArray,BW,List.drop_nil,FW,Option.isNone_none,GA];rw[if_neg (by rw[Ab]at hl;simp;omega)]
   have hm':(List.filter (λn=>(List.lookup n ((DT (λx=>x.arg) ar).zip us)).isNone) (List.take (DT (λx=>x.arg) ar).length (DT (λx=>x.arg) ar)))=[]:=hm;rw[hm',if_neg (by decide),List.zip_nil_right,Gn,DR,if_neg (by decide),kz nd hl]
 . cases h
def rJ(K:KF)(x:Str)(st:Stmt):Prop:=∃f fd,By K AK x=some (some (.ref f))/\L2.Fun K x x st f fd
theorem VB(a:By K AK x=some (some (.ref f)))
 (l:K.lookup f=some ⟨oc,od,.func (BG x x (L2.xy st) (L2.yf st) (L2.zH st) .none kV doc pm an cdv ct),osl⟩) (c:BS K cdv x=true) (k:B2 K (.ref f)=true):rJ K x st:=
 ⟨f,_,a,L2.VJ l c k⟩
section
variable {P:Program}{w:World}{K:KF}{mg:Str->Option Value}{base:Heap}{T:Tbl}
structure Top(T:Tbl)(K:KF)(mg:Str->Option Value):Prop where
 a:∀f v F,T.d f v=some F->∃st fa fd,mg f=some (.ref fa)/\L2.Fun K f f st fa fd/\gj st F=true/\((∃b,T.c b=true)->("!":Str)∈F.N->f∈T.f)
 d:∀x v,T.b x=some v->∃u xv,mg x=some u/\L2.RelV xv u/\∀ρ H,RD K mg ρ H v xv
 c:∀x∈wX,mg x=none
 no:∀f v,100<=v->T.d f v=none
 sc:(T.e≠[]\/∃b,T.c b=true)->Sc T K mg
theorem vY(h:gj st F=true):argNames (L2.xy st)=some F.b/\L2.wq F.N F.b (L2.zH st)/\nH (L2.zH st) F.N F.a (L2.yf st)=true:=by
 unfold gj at h;split at h
 . simp only[cf,decide_eq_true_eq,AG,Aq,Ax]at h
   obtain⟨⟨⟨⟨⟨⟨⟨⟨h1,h2⟩,h3⟩,h4⟩,h5⟩,h6⟩,h7⟩,h8⟩,h9⟩:=h;exact⟨h1,⟨h2,h3,h4,h5,h6,h7,h8⟩,h9⟩
 . cases h
theorem aD(top:Top T K mg)(IH:∀j,j<=n->Lv T P w K mg base j){F:Fn}(p2:L2.wq F.N F.b (L2.zH st))
 (hm:mg f=some (.ref fa)) (hk:K.lookup fa=some ⟨oc,od,.func (BG f f (L2.xy st) (L2.yf st) (L2.zH st) .none kV doc pm an cdv ct),osl⟩) (hcd:BS K cdv f=true) (htb:(∃b,T.c b=true)->("!":Str)∈F.N->f∈T.f)
       (hr:L2.xW n (A.deeper (PyProof.Rows.envOfC f (L2.zH st) s.heap.objs.size fa cdv))):OkF T n (L2.zH st) F.N (L2.x9 CX P w K mg base F.N f (L2.zH st) fa cdv A outer s H E).nox:=by
 refine⟨⟨rfl,hr,⟨rfl,p2.b,λx hx=>hx,λx hx=>⟨hx,.inl rfl⟩,λx hx=>hx,λx hx=>hx⟩,λg v' G hg=>?_,top.d,top.c,rfl,top.no,λm hm hmd=>⟨top.sc (.inr hmd),λj hj=>IH j (by omega)⟩,λhmd _ hx=>?_⟩,rfl,?_⟩
 . obtain⟨ga,gd,q1,q2,q3,q4,q5⟩:=(IH n (Ac _)).a g v' G hg
   exact⟨ga,gd,q1,q2,q3,q4⟩
 . have:∃c,cdv=.ref c:=by
    unfold BS at hcd;split at hcd
    . exact⟨_,rfl⟩
    . cases hcd
   obtain⟨c,rfl⟩:=this;exact⟨f,htb hmd hx,fa,c,_,_,hm,hk,rfl,rfl,rfl,rfl⟩
 . show (if (L2.zH st).kind.isAnnotationScope then ScopeKind.function else (L2.zH st).kind)=.function
   rw[p2.a];rfl
theorem WJ(top:Top T K mg)(IH:∀j,j<=n->Lv T P w K mg base j)(h:T.d f v=some F)(hm:mg f=some (.ref fa))(e2:L2.Fun K f f st fa fd)(e3:gj st F=true)
 (htb:(∃b,T.c b=true)->("!":Str)∈F.N->f∈T.f):L2.tL P w K mg base L2.CX0 (n+1) fa fd F.b (spN T K mg (n+1) f v):=by
 obtain⟨p1,p2,p3⟩:=vY e3;have hcall:∀(vs:List Val) (s:Sto),zE T (n+1) f v vs s=run T (zE T n) F vs s:=λvs s=>by simp only[zE,h]
 obtain⟨oc,od,kV,doc,pm,an,cdv,ct,osl,rfl,lk,hcd⟩:=e2.a;refine L2.WI lk hcd p2 (λvs H Q E q=>?_) λA outer s H vs Q E hr q=>?_
 . obtain⟨ρ,t,as,_,r,z⟩:=q
   rw[hcall]at z;unfold run at z;split at z
   . rename_i hl;rw[<-r.length];exact hl
   . exact z.elim
 . obtain⟨ρ,t,as,h0,r,z⟩:=q
   rw[hcall]at z;unfold run at z;have hl:as.length=F.b.length:=by
    by_cases hl:as.length=F.b.length
    . exact hl
    . rw[if_neg hl]at z;exact z.elim
   rw[if_pos hl]at z;have okf:=aD (CX:=L2.CX0) (P:=P) (w:=w) (base:=base) (outer:=outer) (s:=s) (H:=H) (E:=E) top IH p2 hm lk hcd htb hr;refine⟨_,(jSs T n F.a (L2.zH st) F.N _ (L2.yf st) okf p3 (zV F.N as) t).nox,ρ,h0,kB r,?_⟩;show rl K mg ρ H (ze (zE T n) T.b (zV F.N as) F.a t) _;cases hx:ze (zE T n) T.b (zV F.N as) F.a t with
   |e fl s1=>
    rw[hx]at z;cases fl with
    |a e=>exact λρ1 H1 σ1 x1 hr1 er1=>lA h0 z x1 hr1 .s
    |b v'=>exact λρ1 H1 x x1 hr1 r1=>lA h0 z x1 hr1 r1
    |c e=>exact z.elim
    |d e=>exact z.elim
   |g _ _ _=>rw[hx]at z;exact z.elim
   |d=>rw[hx]at z;exact z.elim
theorem QT(top:Top T K mg)(hB:K.In base)(IH:∀j,j<=n->Lv T P w K mg base j)(h:T.d f v=some F)(hm:mg f=some (.ref fa))(e2:L2.Fun K f f st fa fd)(e3:gj st F=true)
 (htb:(∃b,T.c b=true)->("!":Str)∈F.N->f∈T.f):L2.tL P w K mg base (L2.CXE P w) (n+1) fa fd F.b (λvs H Q E=>∃ρ s args,HR K mg ρ s H/\RDs K mg ρ H args vs/\pF K mg ρ H (zk T (n+1) f v args s) E):=by
 obtain⟨p1,p2,p3⟩:=vY e3;have hcall:∀(vs:List Val) (s:Sto),zk T (n+1) f v vs s=if vs.length=F.b.length then xSs (wx T) (zE T n) (zk T n) T.b (zV F.N vs) F.a s else dS:=λvs s=>by simp only[zk,h]
 obtain⟨oc,od,kV,doc,pm,an,cdv,ct,osl,rfl,lk,hcd⟩:=e2.a;refine L2.WI lk hcd p2 (λvs H Q E q=>?_) λA outer s H vs Q E hr q=>?_
 . obtain⟨ρ,t,as,_,r,z⟩:=q
   rw[hcall]at z;split at z
   . rename_i hl;rw[<-r.length];exact hl
   . exact z.elim
 . obtain⟨ρ,t,as,h0,r,z⟩:=q
   rw[hcall]at z;have hl:as.length=F.b.length:=by
    by_cases hl:as.length=F.b.length
    . exact hl
    . rw[if_neg hl]at z;exact z.elim
   rw[if_pos hl]at z;have okf:=aD (CX:=L2.CXE P w) (P:=P) (w:=w) (base:=base) (outer:=outer) (s:=s) (H:=H) (E:=E) top IH p2 hm lk hcd htb hr;have okx:OkX T n (L2.zH st) F.N (L2.x9 (L2.CXE P w) P w K mg base F.N f (L2.zH st) fa cdv A outer s H E) E:=by
    refine⟨okf,L2.fo,λC H hE=>L2.X5 hE,IH n (Ac _),λc hc=>?_⟩;have hne:T.e≠[]:=λz=>by rw[z]at hc;cases hc
    obtain⟨_,_,_,_,hue,_,_,_,_,RF⟩:=(top.sc (.inl hne)).ex;obtain⟨w',hw⟩:=B8.mp hc;obtain⟨C,q1,q2,q3⟩:=RF c w' hw base hB;exact⟨C,hue,q1,q2,q3⟩
   exact⟨_,Yq okx F.a (L2.yf st) p3 (zV F.N as) t,ρ,h0,kB r,z⟩
theorem V7(top:Top T K mg)(hB:K.In base):∀n j,j<=n->Lv T P w K mg base j:=by
 have step:∀n,(∀j,j<n->Lv T P w K mg base j)->Lv T P w K mg base n:=λn IH=>⟨λf v F hf=>by
  obtain⟨st,fa,fd,q1,q2,q3,q4⟩:=top.a f v F hf;obtain⟨r1,r2,r3⟩:=vY q3;have nd:F.b.Nodup:=by rw[<-r2.c];exact r2.b.sublist (Fy _ _)
  have hb:L2.Binds K fd F.b []:=q2.binds λkV doc pm an cdv ct us hl=>tR r1 nd us hl;cases n with
  |zero=>
   refine⟨fa,fd,q1,q2.b,hb,⟨λvs H Q E q=>?_,λA outer s H args us vs Q E _ _ _ _ q=>?_⟩,⟨λvs H Q E q=>?_,λA outer s H args us vs Q E _ _ _ _ q=>?_⟩⟩
   . obtain⟨ρ,t,as,_,_,z⟩:=q;exact z.elim
   . obtain⟨ρ,t,as,_,_,z⟩:=q;exact z.elim
   . obtain⟨ρ,t,as,_,_,z|z⟩:=q<;>exact z.elim
   . obtain⟨ρ,t,as,_,_,z|z⟩:=q<;>exact z.elim
  |succ n=>
   have IH':∀j,j<=n->Lv T P w K mg base j:=λj hj=>IH j (by omega)
   have a:=WJ (P:=P) (w:=w) (base:=base) top IH' hf q1 q2 q3 q4;have b:=QT (P:=P) (w:=w) (base:=base) top hB IH' hf q1 q2 q3 q4;refine⟨fa,fd,q1,q2.b,hb,a,⟨λvs H Q E q=>?_,λA outer s H args us vs Q E h1 h2 h3 h4 q=>?_⟩⟩
   . obtain⟨ρ,t,as,x1,x2,z|z⟩:=q
     . exact a.b vs H Q E ⟨ρ,t,as,x1,x2,z⟩
     . exact b.b vs H Q E ⟨ρ,t,as,x1,x2,z⟩
   . obtain⟨ρ,t,as,x1,x2,z|z⟩:=q
     . refine De (a.a A outer s H args us vs Q E h1 h2 h3 h4 ⟨ρ,t,as,x1,x2,z⟩) λr s' hq=>?_
       cases r with
       |error e=>exact Ay hq
       |ok fl=>cases fl<;>exact hq
     . exact b.a A outer s H args us vs Q E h1 h2 h3 h4 ⟨ρ,t,as,x1,x2,z⟩⟩
 intro n;induction n with
 |zero=>intro j hj;exact step j λi hi=>absurd hi (by omega)
 |succ n ih=>
  intro j hj;by_cases h:j<=n
  . exact ih j h
  . have:j=n+1:=by omega
    subst this;exact step _ λi hi=>ih i (by omega)
end
end M
end
section
namespace M
open PySem Hd
def gT(K:KF)(x:Str):Val->Prop
 |.c i=>∃t,By K AK x=some (some (.int i t))
 |.h y=>∃t,By K AK x=some (some (.str y t))
 |.l ns=>∃a,By K AK x=some (some (.ref a))/\KT K a (ns.map L2.V.d)
 |_=>False
noncomputable def glO(fnL:List ((Str × Nat) × Fn))(glL:List (Str × Val))(x:Str):Option Val:=match glL.lookup x with
 |some v=>some v
 |dS=>match fnL.lookup (x,0) with
  |some _=>some (.q x)
  |dS=>dS
def jx(fnL:List ((Str × Nat) × Fn))(glL:List (Str × Val))(tb:List Str)(xc:List (Str × Str))(md:Bool->Bool):Tbl:=⟨λf v=>fnL.lookup (f,v),glO fnL glL,tb,xc,md⟩
def oV(fnL:List ((Str × Nat) × Fn))(D:List (Str × Stmt)):Bool:=fnL.all λp=>decide (p.1.2<100)&&match D.lookup p.1.1 with|some st=>gj st p.2|none=>false
theorem xa{α β:Type} [BEq α] [LawfulBEq α]:∀{l:List (α × β)} {a:α} {b:β},l.lookup a=some b->(a,b)∈l
 |[],_,_,h=>by cases h
 |(c,d)::l,a,b,h=>by
  rw[An]at h;cases hb:(a == c) with
  |true=>rw[hb]at h;cases h;rw[Ct hb];exact Ap
  |false=>rw[hb]at h;exact Ah _ (xa h)
theorem TJ(X:K.In h)(G:h.Ns AK mg)(hd:∀p∈D,rJ K p.1 p.2)(hg:∀p∈glL,gT K p.1 p.2)(hb:∀x∈wX,By K AK x=some none)
 (hc:oV fnL D=true)    (htb:(∃b,md b=true)->fnL.all (λp=>!decide (("!":Str)∈p.2.N)||decide (p.1.1∈tb))=true) (sc:(xc≠[]\/∃b,md b=true)->Sc (jx fnL glL tb xc md) K mg):Top (jx fnL glL tb xc md) K mg:=by
 refine⟨λf v F e=>?_,λx v e=>?_,λx hx=>PySem.W.mg_none_of X G (hb x hx),λf v hv=>?_,sc⟩
 . have hm:((f,v),F)∈fnL:=xa e
   unfold oV at hc;rw[Aq]at hc;have h1:=hc _ hm;rw[cf]at h1;have h1:=h1.2;split at h1
   . rename_i st hs
     obtain⟨fa,fd,a,F'⟩:=hd _ (xa hs);refine⟨st,fa,fd,Dy X G a,F',h1,λhmd hN=>?_⟩;have:=Aq.mp (htb hmd) _ hm;simp only[Ax,AG,decide_eq_false_iff_not,decide_eq_true_eq]at this;exact this.resolve_left λz=>z hN
   . cases h1
 case refine_3=>
  show fnL.lookup (f,v)=none;cases e:fnL.lookup (f,v) with
  |none=>rfl
  |some F=>
   have hm:((f,v),F)∈fnL:=xa e;unfold oV at hc;rw[Aq]at hc;have h1:=hc _ hm;rw[cf,decide_eq_true_eq]at h1;have h2:v<100:=h1.1;omega
 . have e:glO fnL glL x=some v:=e
   unfold glO at e;split at e
   case h_2=>
    split at e
    . rename_i F hF
      cases e;unfold oV at hc;rw[Aq]at hc;have h1:=hc _ (xa hF);rw[cf]at h1;have h1:=h1.2;split at h1
      . rename_i st hs
        obtain⟨fa,fd,a,F'⟩:=hd _ (xa hs);exact⟨_,.c fa,Dy X G a,rfl,λρ H=>.G (Dy X G a)⟩
      . cases h1
    . cases e
   rename_i v' e';cases e;have hm:(x,v)∈glL:=xa e';have h1:=hg _ hm;cases v with
   |c i=>
    obtain⟨t,a⟩:=h1;exact⟨_,.d i,Dy X G a,⟨t,rfl⟩,λρ H=>.l i⟩
   |h y=>
    obtain⟨t,a⟩:=h1;exact⟨_,.e y,Dy X G a,⟨t,rfl⟩,λρ H=>.D y⟩
   |l ns=>
    obtain⟨a,h2,h3⟩:=h1;exact⟨_,.c a,Dy X G h2,rfl,λρ H=>.p h3⟩
   |_=>exact h1.elim
theorem int_mk(a:By K AK x=some (some (.int i t))):gT K x (.c i):=⟨t,a⟩
theorem str_mk(a:By K AK x=some (some (.str y t))):gT K x (.h y):=⟨t,a⟩
theorem qO:∀{us} {ns},m6 us=some ns->L2.Vals (ns.map L2.V.d) us
 |[],_,h=>by cases h;exact .nil
 |u::us,ns,h=>by
  cases u with
  |int i t=>
   simp only[m6,A1]at h;obtain⟨ms,h1,rfl⟩:=h;exact .cons ⟨t,rfl⟩ (qO h1)
  |_=>cases h
theorem Z1(h:By K AK x=some (some (.ref a)))
 (l:K.lookup a=some ⟨.type "tuple",od,.seq us.toArray n,sl⟩) (hz:us.length<=1000) (hi:m6 us=some ns):gT K x (.l ns):=
 ⟨a,h,_,us.toArray,n,l,rfl,rfl,by rw[Ae,AV];omega,by simpa using qO hi⟩
structure Te(T:Tbl)(K:KF)(mg:Str->Option Value)(h:Heap)(tabs:List Addr):Prop where
 nd:tabs.Nodup
 b:tabs.length=T.f.length
 a:∀(i:Nat) (g:Str),T.f[i]?=some g->∃P,tabs[i]?=some P/\h.get? P=some (E3 #[])/\K.lookup P=none/\Gd h P /\
  ∃(fa c:Addr) (o:Obj) (fd:BV),mg g=some (.ref fa)/\K.lookup fa=some o/\o.data=.func fd/\fd.code=.ref c/\∀h':Heap,K.In h'->PySem.W.CodeHd h' c P
def R1(K:KF)(tabs:List Addr):L2.Sp:=λvs H Q _=>∃(a:Addr) (ns:List Int),vs=[.c a]/\(∀b∈tabs,H b=some (.g #[]))/\L2.SqL K H a (ns.map L2.V.d)/\ns.length<=63/\∀H',Q (.f true) H'
theorem walk{l:PySem.W.OpenLaw}(hn:l.most=some 63)(hdf:d.params.defaults=[])(hr:L2.xW n callerA)
 (hY:∀w h,YP w h->K.In h) (hF:T.d d.name 0=some F) (hx:F.b=[x])
 (TOP:∀w s₀ mg mb h,PySem.W.Ground q loose [] XP w s₀ mg mb h->K.In h->Top T K mg/\∃tabs,Te T K mg h tabs)
 (HL:∀ns:List Int,ns.length<=63->∃s',zE T n d.name 0 [.p ns] (T.f.map .d)=.e (.e true) s') :
 PySem.W.WalkO q loose XP YP l.row.toRowW d [] (λf vs=>PySem.call f vs):=by
 refine Att.mY hn hdf λw s₀ s₁ mg mb fa o pm cd doc a vs ns G Y ho hd hcd hmg hobj hints hlen hg=>?_;have KX:=hY w _ Y;obtain⟨top,tabs,TE⟩:=TOP w s₀ mg mb _ G KX;obtain⟨st,fa',fd',e1,e2,e3,e4⟩:=top.a _ _ _ hF;obtain⟨p1,p2,p3⟩:=vY e3;have nd:F.b.Nodup:=by rw[<-p2.c];exact p2.b.sublist (Fy _ _)
 rw[e1]at hmg;cases hmg;cases n with
 |zero=>
  obtain⟨s',hs⟩:=HL [] (by decide)
  cases hs
 |succ n=>
  have htab:∀b∈tabs,s₁.heap.get? b=some (E3 #[])/\K.lookup b=none/\Gd s₁.heap b:=λb hb=>by
   obtain⟨i,hi,e⟩:=BI hb;obtain⟨P,q1,q2,q3,q4,_⟩:=TE.a i _ (Aa (by rw[<-TE.b];exact hi))
   rw[Aa hi,e]at q1;cases q1;exact⟨q2,q3,q4⟩
  refine L2.fH (CX:=L2.CX0) (k:=n+1) (fd:=fd') (x:=x) (sp:=R1 K tabs) (tabs:=tabs) KX G.T.g G.T.b G.T.builtins G.T.nolimit hg hobj hints (AD hlen (by decide)) hr htab (λbase kb nb=>?_) (λs u=>?_) (λH hT hS=>⟨a,ns,rfl,hT,hS,hlen,λ_=>rfl⟩) λ_ _ _ z=>z
  . have f4:=WJ (P:=l.prog) (w:=w) (base:=base) top (λj hj=>V7 top kb n j hj) hF e1 e2 e3 e4
    rw[hx]at f4;refine f4.imp λvs H Q E ⟨a,ns,e,hT,hS,hl,hq⟩=>?_;subst e;obtain⟨s',hs⟩:=HL ns hl;refine⟨⟨tabs,[]⟩,T.f.map .d,[.p ns],⟨by rw[Ab];exact TE.b,TE.nd,λi c z=>?_,λa z=>by cases z⟩,.a (.F ?_) .d,?_⟩
    . rw[AR]at z
      cases hg:T.f[i]? with
      |none=>rw[hg]at z;cases z
      |some g=>
       rw[hg]at z;cases z;obtain⟨P,q1,q2,q3,q4,fn⟩:=TE.a i g hg;exact⟨P,q1,#[],hT P (AE q1),Ba,λpos cv hc=>(nomatch hc),fn⟩
    . rcases hS with hS|hS
      . refine .inl ⟨⟨λhm=>?_,by simp⟩,hS⟩
        have:=hT a hm;rcases hS with z|⟨o,z⟩<;>(rw[this]at z;cases z)
      . exact .inr hS
    . rw[hs]
      intro ρ' x' H' _ _ r;cases r;exact hq H'
  . obtain⟨oc,od,kV,doc,pm,an,cdv,ct,osl,e,_⟩:=e2.a
    subst e;refine .of_eq ?_;have:=tR (x:=d.name) (qual:=d.name) (body:=L2.yf st) (sc:=L2.zH st) (kV:=kV) (doc:=doc) (pm:=pm) (cdv:=cdv) (ct:=ct) (an:=an) p1 nd [u] (by rw[hx];rfl)
    rw[hx]at this;exact this
end M
end
section
namespace F
open PySem M
noncomputable def yF:Fn:=⟨["_law_script","_law_k"],["_law_script","_law_k"],false,(.a (.g (.a (.l .l (.e 1) (.k .a false (.a (.e 0) .b)))) (.a (.d (.u (.e 0) (.e 1))) .b) .b) (.a (.d (.g (.c 0))) .b))⟩
noncomputable def yq:Fn:=⟨["_law_pen_here","_law_many","_law_left","_law_found","_law_mixed"],["_law_pen_here","_law_many"],false,(.a (.g (.a (.l .h (.u (.e 0) (.g (.c 0))) (.g (.c 0)))) (.a (.n [2,3] (.k .b false (.a (.u (.e 0) (.g (.c 0))) (.a (.e 1) .b)))) (.a (.l (.e 0) (.g (.c 0)) (.e 2)) (.a (.d (.e 3)) .b))) .b) (.a (.l (.e 0) (.g (.c 1)) (.j false .e (.j false .a (.j false .b (.u (.e 0) (.g (.c 1))) (.g (.c 48271))) (.g (.c 30269))) (.g (.c 2147483629)))) (.a (.f 4 (.j false .e (.j false .a (.j false .a (.j false .b (.u (.e 0) (.g (.c 1))) (.u (.e 0) (.g (.c 1)))) (.j false .b (.g (.c 40692)) (.u (.e 0) (.g (.c 1))))) (.g (.c 7))) (.g (.c 2147483587)))) (.a (.d (.j false .e (.j false .d (.e 4) (.g (.c 64))) (.e 1))) .b))))⟩
noncomputable def yM:Fn:=⟨["_law_sizes_here","_law_found","_law_hue","_law_here","_law_size","_law_step"],["_law_sizes_here","_law_found","_law_hue"],false,(.a (.p [3,4] (.a (.k .a false (.a (.e 1) .b)) (.a (.u (.e 0) (.e 2)) .b))) (.a (.j (.a 5) (.d (.g (.c 1)) (.j false .a (.j false .d (.e 3) (.j false .c (.e 4) (.g (.c 1)))) (.g (.c 1)))) (.a (.g (.a (.l .d (.q false ["_law_k","_law_hue","_law_found","_law_here","_law_step"] [none,some 2,some 1,some 3,some 5] (.e 0) (.a 0) (.d (.g (.c 1)) (.e 4)) (.b (.a (.l .a (.u (.e 2) (.j false .c (.e 3) (.j false .b (.e 0) (.e 4)))) (.e 1))) .a)) (.s false .b))) (.a (.d (.g (.e true))) .b) .b) .b)) (.a (.d (.g (.e false))) .b)))⟩
noncomputable def yN:Fn:=⟨["_law_cell","_law_left"],["_law_cell"],true,(.a (.f 1 (.k .k false (.a (.e 0) (.a (.j false .c (.g (.c 0)) (.e 0)) .b)))) (.a (.d (.s true (.a (.j false .b (.e 1) (.k .o false (.a (.l .j (.e 1) (.j false .g (.g (.c 10)) (.g (.c 18)))) .b))) (.a (.j false .e (.e 1) (.g (.c 2147483629))) .b)))) .b))⟩
noncomputable def yy:Fn:=⟨["_law_pen_here","_law_many"],["_law_pen_here"],false,(.a (.f 1 (.u (.s false (.a (.g (.c 2)) (.a (.g (.c 2)) (.a (.g (.c 3)) (.a (.g (.c 1)) (.a (.g (.c 4)) (.a (.g (.c 2)) .b))))))) (.h "_law_draw" 0 (.a (.e 0) (.a (.g (.c 6)) .b))))) (.a (.d (.k .e false (.a (.q false ["_law_hue","_law_pen_here"] [none,some 0] (.u (.s false (.a (.g (.c 3)) (.a (.g (.c 3)) (.a (.g (.c 4)) (.a (.g (.c 2)) (.a (.g (.c 5)) (.a (.g (.c 3)) (.a (.g (.c 2)) (.a (.g (.c 8)) .b))))))))) (.h "_law_draw" 0 (.a (.e 1) (.a (.g (.c 8)) .b)))) (.a 0) (.c (.e 1)) .a) .b))) .b))⟩
noncomputable def xM:Fn:=⟨["thing"],["thing"],false,(.a (.d (.z (.k .i false (.a (.e 0) (.a (.L "tuple" "tuple") .b))) (.a (.w .c .c (.g (.c 1)) (.k .a false (.a (.e 0) .b)) (.k .a false (.a (.A "HUES") .b))) (.a (.h "are_wholes" 0 (.a (.e 0) (.a (.A "LEAST_SIZE") (.a (.A "MOST_SIZE") .b)))) .b)))) .b)⟩
noncomputable def y0:Fn:=⟨["things","least","most"],["things","least","most"],false,(.a (.d (.k .p false (.a (.q false ["thing","least","most"] [none,some 1,some 2] (.h "is_whole" 0 (.a (.e 0) (.a (.e 1) (.a (.e 2) .b)))) (.a 0) (.f (.e 0)) .a) .b))) .b)⟩
noncomputable def y9:Fn:=⟨["hues","first","step","size"],["hues","first","step","size"],false,(.a (.d (.l .d (.K .a false (.H false (.e 0) (.a (.e 1)) (.a (.j false .a (.e 1) (.j false .b (.e 2) (.e 3)))) (.a (.e 2))) (.a (.u (.e 0) (.e 1)) .b)) (.e 3))) .b)⟩
noncomputable def xm:Fn:=⟨["thing","least","most"],["thing","least","most"],false,(.a (.d (.z (.k .i false (.a (.e 0) (.a (.L "int" "int") .b))) (.a (.G (.k .i false (.a (.e 0) (.a (.L "bool" "bool") .b)))) (.a (.w .c .c (.e 1) (.e 0) (.e 2)) .b)))) .b)⟩
noncomputable def xO:Fn:=⟨["length","first","size"],["length","first","size"],false,(.a (.d (.j false .d (.j false .c (.j false .c (.e 0) (.g (.c 1))) (.e 1)) (.j false .c (.e 2) (.g (.c 1))))) .b)⟩
noncomputable def yP:Fn:=⟨["thing"],["thing"],false,(.a (.g (.b (.a (.h "are_sizes" 0 (.a (.e 0) .b)))) (.a (.k (.h "NoSizes" 0 (.a (.g (.h "one to four sizes are due")) .b))) .b) .b) .b)⟩
end F
end
section
namespace M
open PySem L2
noncomputable def qt(n s f:Nat):List (Nat × Nat):=(Ao ((n-1-f)/(s-1))).map λj=>(f,j+1)
def uQ(n s:Nat):List (Nat × Nat):=(Ao n).flatMap (qt n s)
theorem a0 n s f:(qt n s f).length=(n-1-f)/(s-1):=by unfold qt;rw[Ab,Bx]
theorem oG(hs:2<=s)(h:r∈uQ n s):0<r.2/\r.1+r.2*(s-1)<n:=by
 unfold uQ qt at h;obtain⟨f,hf,h⟩:=Cg.mp h;obtain⟨j,hj,rfl⟩:=AQ.mp h;rw[Ar]at hf hj;have:(j+1)*(s-1)<=n-1-f:=(BN (by omega)).mp hj
 refine⟨Nat.succ_pos _,?_⟩;show f+(j+1)*(s-1)<n;omega
noncomputable def uL(ns:List Int)(f d s:Nat):Bool:=(Ao s).all λk=>decide (ns[f+k*d]?=ns[f]?)
theorem iR{n f d s:Nat}(hd:0<d)(hs:1<=s)(h:f+d*(s-1)<n):ym n (some (f:Int)) (some ((f:Int)+(d:Int)*(s:Int))) (d:Int)=((f:Int),s):=by
 have hmul:d*s=d*(s-1)+d:=by rw[<-Nat.mul_succ];congr 1;omega
 have e0:(d:Int)*(s:Int)=((d*s:Nat):Int):=(DH d s).symm;have e1:AY (some (f:Int)) (some ((f:Int)+(d:Int)*(s:Int))) (d:Int) (n:Int)=((f:Int),((min (f+d*s) n:Nat):Int)):=by
  rw[e0];unfold AY;simp only[if_neg (show ¬(d:Int)<0 by omega),if_neg (show ¬(f:Int)<0 by omega),if_neg (show ¬((f:Int)+((d*s:Nat):Int))<0 by omega)]
  refine CL ?_ ?_
  . show min (f:Int) (n:Int)=f;omega
  . show min ((f:Int)+((d*s:Nat):Int)) (n:Int)=_;omega
 unfold ym;rw[e1];refine CL rfl ?_;show Bu (f:Int) ((min (f+d*s) n:Nat):Int) (d:Int)=s;unfold Bu;rw[if_pos (by omega),if_pos (by omega)]
 have e2:(((min (f+d*s) n:Nat):Int)-(f:Int)-1)=((min (f+d*s) n-f-1:Nat):Int):=by omega
 rw[e2,<-Eo];have e3:(min (f+d*s) n-f-1)/d=s-1:=by
  refine Nat.div_eq_of_lt_le ?_ ?_
  . rw[Bz];omega
  . have:(s-1+1)*d=d*s:=by rw[show s-1+1=s by omega,Bz]
    omega
 rw[e3];omega
theorem cb{α β:Type}{f}{g:α->β}:∀{l:List α},(∀x∈l,f x=some (g x))->l.filterMap f=l.map g
 |[],_=>rfl
 |x::l,h=>by rw[A0,h x (Ap ..),AN,cb λy hy=>h y (Ah _ hy)]
theorem lb{ns:List Int}(h:f+d*(s-1)<ns.length):z6 ns (f:Int) (d:Int) s=(Ao s).map λk=>ns.getD (f+k*d) 0:=by
 unfold z6;refine cb λk hk=>?_;rw[Ar]at hk;have h1:k*d<=d*(s-1):=by rw[Bz];exact Dz d (by omega)
 have e:((f:Int)+(k:Int)*(d:Int)).toNat=f+k*d:=by rw[show (k:Int)*(d:Int)=((k*d:Nat):Int) from (DH k d).symm];omega
 have hlt:f+k*d<ns.length:=by omega
 rw[e,Aa hlt];rw[Aw,Aa hlt];rfl
theorem Y0(h:f+d*(s-1)<ns.length):uL ns f d s=true↔∀x∈(Ao s).map (λk=>ns.getD (f+k*d) 0),x=ns.getD f 0:=by
 unfold uL;rw[Aq];constructor
 . intro h1 x hx
   obtain⟨k,hk,rfl⟩:=AQ.mp hx;have:=of_decide_eq_true (h1 k hk);rw[Aw,this,<-Aw]
 . intro h1 k hk
   have:=h1 _ (AQ.mpr ⟨k,hk,rfl⟩);rw[Ar]at hk;have h2:k*d<=d*(s-1):=by rw[Bz];exact Dz d (by omega)
   have hlt:f+k*d<ns.length:=by omega
   have hf:f<ns.length:=by omega
   rw[Aw,Aw,Aa hlt,Aa hf]at this;refine decide_eq_true ?_;rw[Aa hlt,Aa hf];exact congrArg some this
theorem iq n s:∀i,i<=n->2*((Ao i).flatMap (qt n s)).length+i*i+i<=2*(i*n)
 |0,_=>by simp
 |i+1,hi=>by
  have h1:=iq n s i (by omega)
  rw[List.range_succ,List.flatMap_append,Al];have e:List.flatMap (qt n s) [i]=qt n s i:=by simp
  have h2:(qt n s i).length<=n-1-i:=by rw[a0];exact DI _ _
  rw[e];have e2:(i+1)*(i+1)=i*i+2*i+1:=by rw[Ge,Nat.mul_add];omega
  have e3:(i+1)*n=i*n+n:=FT i n;rw[e2,e3];omega
theorem a9(h:n<=40):(uQ n z).length<=800:=by have h1:=iq n z n (Ac n);have h2:n*n<=40*n:=Dm n h;unfold uQ;omega
noncomputable def QU(z p:Nat)(r:Nat × Nat):Bool:=(Ao z).any λk=>decide (r.1+k*r.2=p)
def atP(n z p:Nat):List (Nat × Nat):=(uQ n z).filter (QU z p)
noncomputable def toI(r:Nat × Nat):Int × Int:=(r.1,r.2)
theorem tw(hz:2<=z):(f,d)∈uQ n z↔0<d/\f+d*(z-1)<n:=by
 constructor
 . exact λh=>oG hz h
 . rintro ⟨h1,h2⟩
   unfold uQ qt;refine Cg.mpr ⟨f,Ar.mpr (by omega),AQ.mpr ⟨d-1,Ar.mpr ?_,?_⟩⟩
   . have:d<=(n-1-f)/(z-1):=(BN (by omega)).mpr (by omega)
     omega
   . show (f,d-1+1)=(f,d)
     rw[show d-1+1=d by omega]
theorem jf(hn:n<=40):((uQ n z).map toI).Pairwise (λa b=>xg a<xg b):=by
 rw[CA];unfold uQ;rw[ED];have lt40:∀{f j:Nat},j∈Ao ((n-1-f)/(z-1))->j<40:=λ{f j} hj=>by rw[Ar]at hj;have:=DI (n-1-f) (z-1);omega
 refine⟨λf _=>?_,?_⟩
 . unfold qt
   rw[CA];refine Fu.imp ?_ Dc;intro i j hij;show (f:Int)*1000+((i+1:Nat):Int)<(f:Int)*1000+((j+1:Nat):Int);omega
 . refine Fu.imp ?_ Dc
   intro f g hfg x hx y hy;unfold qt at hx hy;obtain⟨i,hi,rfl⟩:=AQ.mp hx;obtain⟨j,hj,rfl⟩:=AQ.mp hy;have:=lt40 hi;have:=lt40 hj;show (f:Int)*1000+((i+1:Nat):Int)<(g:Int)*1000+((j+1:Nat):Int);omega
def Sz(zs:List Int):Prop:=1<=zs.length/\zs.length<=4/\∀x∈zs,2<=x/\x<=8
noncomputable def putL(ns:List Int)(p:Nat)(h:Int):List Int:=ns.take p++h::ns.drop (p+1)
def QO(ns:List Int)(z p:Nat)(h:Int):List (Nat × Nat):=(atP ns.length z p).filter λr=>uL (putL ns p h) r.1 r.2 z
noncomputable def zY(zs:List Int)(h:Nat):Nat:=(zs.getD h 0).toNat
def Sw(zs ns:List Int)(p:Nat):List Nat:=(Ao zs.length).filter λh=>(QO ns (zY zs h) p h).isEmpty
theorem yS(hz:Sz zs)(hh:h<zs.length):zs[h]?=some ((zY zs h:Nat):Int)/\2<=zY zs h/\zY zs h<=8:=by
 have e:zs.getD h 0=zs[h]:=by rw[Aw,Aa hh];rfl
 have:=hz.2.2 zs[h] (Dn hh);unfold zY;rw[e,Aa hh];refine⟨?_,by omega,by omega⟩
 congr 1;omega
end M
end
section
namespace M
open PySem
def Out.post{α:Type}(o:Out α)(P:α->Sto->Prop):Prop:=∃a s,o=.e a s/\P a s
theorem zC{α:Type}{a:α}{s:Sto}{P:α->Sto->Prop}:(Out.e a s).post P↔P a s:=
 ⟨λ⟨_,_,e,h⟩=>(by cases e;exact h),λh=>⟨a,s,rfl,h⟩⟩
theorem zI{o:Out α}{f}{P:β->Sto->Prop}:(o.bind f).post P↔o.post λa s=>(f a s).post P:=by
 cases o with
 |e a s=>exact(zC (P:=λa s=>(f a s).post P)).symm
 |g c as s=>exact⟨λ⟨_,_,e,_⟩=>(by cases e),λ⟨_,_,e,_⟩=>(by cases e)⟩
 |d=>exact⟨λ⟨_,_,e,_⟩=>(by cases e),λ⟨_,_,e,_⟩=>(by cases e)⟩
theorem zQ{o:Out α}{P Q}(h:o.post P)(i:∀a s,P a s->Q a s):o.post Q:=by obtain⟨a,s,e,h⟩:=h;exact⟨a,s,e,i a s h⟩
theorem zt{o:Out α}{P Q}(h:∀a s,P a s↔Q a s):o.post P↔o.post Q:=⟨λk=>zQ k λa s=>(h a s).mp,λk=>zQ k λa s=>(h a s).mpr⟩
theorem zb{α:Type}{P:α->Sto->Prop}:(Out.d:Out α).post P↔False:=⟨λ⟨_,_,e,_⟩=>(by cases e),Ay⟩
theorem xb{α:Type}{c:Prop} [Decidable c] {a b:Out α}{P:α->Sto->Prop}:(if c then a else b).post P↔if c then a.post P else b.post P:=by split<;>exact CK
theorem post_eq{o:Out α}{a}:o=.e a s↔o.post λx t=>x=a/\t=s:=⟨λh=>⟨a,s,h,rfl,rfl⟩,λ⟨_,_,h,e1,e2⟩=>(by rw[h,e1,e2])⟩
section
variable {Φ:Calls}{G:Str->Option Val}{env:Env}{s:Sto}
theorem WV{v:Val}{P:Val->Sto->Prop}:(evE Φ G env (.g v) s).post P↔P v s:=zC
theorem w9{i:Nat}{P:Val->Sto->Prop}:(evE Φ G env (.e i) s).post P↔∃v,env[i]?=some (some v)/\P v s:=by
 show (match env[i]? with|some (some v)=>Out.e v s|_=>.d).post P↔_
 split
 . rename_i v e
   refine zC.trans ⟨λh=>⟨_,e,h⟩,λ⟨u,h1,h2⟩=>?_⟩;rw[e]at h1;cases h1;exact h2
 . rename_i hn
   exact⟨λ⟨_,_,e,_⟩=>(by cases e),λ⟨u,h1,h2⟩=>absurd h1 (hn u)⟩
theorem S9{x:Str}{P:Val->Sto->Prop}:(evE Φ G env (.A x) s).post P↔∃v,G x=some v/\P v s:=by
 show (match G x with|some v=>Out.e v s|dS=>.d).post P↔_
 split
 . rename_i v e
   refine zC.trans ⟨λh=>⟨_,e,h⟩,λ⟨u,h1,h2⟩=>?_⟩;rw[e]at h1;cases h1;exact h2
 . rename_i e
   exact⟨λ⟨_,_,e,_⟩=>(by cases e),λ⟨u,h1,h2⟩=>(by rw[e]at h1;cases h1)⟩
theorem Qc{x:Str}{n:String}{P:Val->Sto->Prop}:(evE Φ G env (.L x n) s).post P↔P (.r n) s:=zC
theorem Sy{m:Bool}{op:Bop}{a b:Ex}{P:Val->Sto->Prop}:(evE Φ G env (.j m op a b) s).post P↔(evE Φ G env a s).post λx s1=>(evE Φ G env b s1).post λy s2=>(binOp m op x y s2).post P:=by show (Out.bind _ _).post P↔_;simp only[zI]
theorem RC{a:Ex}{P:Val->Sto->Prop}:(evE Φ G env (.B a) s).post P↔(evE Φ G env a s).post λx s1=>∃i,x=.c i/\P (.c (-i)) s1:=by show (Out.bind _ _).post P↔_;simp only[zI];exact zt λx s1=>by cases x<;>simp[zC,zb]
theorem RE{a:Ex}{P:Val->Sto->Prop}:(evE Φ G env (.G a) s).post P↔(evE Φ G env a s).post λx s1=>∃b,x=.e b/\P (.e !b) s1:=by show (Out.bind _ _).post P↔_;simp only[zI];exact zt λx s1=>by cases x<;>simp[zC,zb]
theorem S7{op:Cop}{a b:Ex}{P:Val->Sto->Prop}:(evE Φ G env (.l op a b) s).post P↔(evE Φ G env a s).post λx s1=>(evE Φ G env b s1).post λy s2=>(zS op x y s2).post P:=by show (Out.bind _ _).post P↔_;simp only[zI]
theorem XF{op op':Cop}{a b c:Ex}{P:Val->Sto->Prop}:(evE Φ G env (.w op op' a b c) s).post P↔(evE Φ G env a s).post λx s1=>(evE Φ G env b s1).post λy s2=>(zS op x y s2).post λr s3=>∃t,r=.e t/\if t=true then (evE Φ G env c s3).post λz s4=>(zS op' y z s4).post P else P (.e false) s3:=by
 show (Out.bind _ _).post P↔_;simp only[zI];refine zt λx s1=>zt λy s2=>zt λr s3=>?_;cases r with
 |e t=>cases t<;>simp[zC,zb,zI]
 |_=>simp[zb]
theorem Sx{a b:Ex}{es:Exs}{P:Val->Sto->Prop}:(evE Φ G env (.z a (.a b es)) s).post P↔(evE Φ G env a s).post λx s1=>∃t,x=.e t/\if t=true then (rN Φ G env (.a b es) s1).post P else P (.e false) s1:=by
 show (Out.bind _ _).post P↔_;simp only[zI];refine zt λx s1=>?_;cases x with
 |e t=>cases t<;>simp[zC,zb]
 |_=>simp[zb]
theorem UH{a:Ex}{P:Val->Sto->Prop}:(rN Φ G env (.a a .b) s).post P↔(evE Φ G env a s).post P:=CK
theorem UI{a b:Ex}{es:Exs}{P:Val->Sto->Prop}:(rN Φ G env (.a a (.a b es)) s).post P↔(evE Φ G env a s).post λx s1=>∃t,x=.e t/\if t=true then (rN Φ G env (.a b es) s1).post P else P (.e false) s1:=by
 show ((evE Φ G env a s).bind λx s1=>match x with
  |.e true=>rN Φ G env (.a b es) s1
  |.e false=>.e (.e false) s1
  |_=>.d).post P↔_
 simp only[zI];refine zt λx s1=>?_;cases x with
 |e t=>cases t<;>simp[zC,zb]
 |_=>simp[zb]
theorem Qa{a b:Ex}{es:Exs}{P:Val->Sto->Prop}:(evE Φ G env (.I a (.a b es)) s).post P↔(evE Φ G env a s).post λx s1=>∃t,truth s1 x=some t/\if t=true then P x s1 else (mr Φ G env (.a b es) s1).post P:=by
 show (Out.bind _ _).post P↔_;simp only[zI];refine zt λx s1=>?_;cases truth s1 x with
 |some t=>cases t<;>simp[zC,zb]
 |none=>simp[zb]
theorem RG{a:Ex}{P:Val->Sto->Prop}:(mr Φ G env (.a a .b) s).post P↔(evE Φ G env a s).post P:=CK
theorem RH{a b:Ex}{es:Exs}{P:Val->Sto->Prop}:(mr Φ G env (.a a (.a b es)) s).post P↔(evE Φ G env a s).post λx s1=>∃t,truth s1 x=some t/\if t=true then P x s1 else (mr Φ G env (.a b es) s1).post P:=by
 show ((evE Φ G env a s).bind λx s1=>match truth s1 x with
  |some false=>mr Φ G env (.a b es) s1
  |some true=>.e x s1
  |dS=>.d).post P↔_
 simp only[zI];refine zt λx s1=>?_;cases truth s1 x with
 |some t=>cases t<;>simp[zC,zb]
 |none=>simp[zb]
theorem RA{c:Cn}{a b:Ex}{P:Val->Sto->Prop}:(evE Φ G env (.F c a b) s).post P↔(evT Φ G env c s).post λt s1=>if t=true then (evE Φ G env a s1).post P else (evE Φ G env b s1).post P:=by show (Out.bind _ _).post P↔_;simp only[zI,xb]
theorem RJ{es:Exs}{P:Val->Sto->Prop}:(evE Φ G env (.p es) s).post P↔(zf Φ G env es s).post λvs s1=>(if vs.length<=zO then Out.e (Val.f vs) s1 else .d).post P:=by show (Out.bind _ _).post P↔_;simp only[zI]
theorem WW{m:Bool}{es:Exs}{P:Val->Sto->Prop}:(evE Φ G env (.s m es) s).post P↔(zf Φ G env es s).post λvs s1=>(if vs.length<=zO then newList m vs s1 else .d).post P:=by show (Out.bind _ _).post P↔_;simp only[zI]
theorem ql{f:Str}{v:Nat}{es:Exs}{P:Val->Sto->Prop}:(evE Φ G env (.h f v es) s).post P↔(zf Φ G env es s).post λvs s1=>(Φ f v vs s1).post P:=by show (Out.bind _ _).post P↔_;simp only[zI]
theorem WU{f:Bf}{m:Bool}{es:Exs}{P:Val->Sto->Prop}:(evE Φ G env (.k f m es) s).post P↔(zf Φ G env es s).post λvs s1=>(blt f m vs s1).post P:=by show (Out.bind _ _).post P↔_;simp only[zI]
theorem UM{f:Mf}{m:Bool}{o:Ex}{es:Exs}{P:Val->Sto->Prop}:(evE Φ G env (.K f m o es) s).post P↔(evE Φ G env o s).post λx s1=>(zf Φ G env es s1).post λvs s2=>(xF f x vs s2).post P:=by show (Out.bind _ _).post P↔_;simp only[zI]
theorem aM{m:Bool}{a b c:Ex}{P:Val->Sto->Prop}:(evE Φ G env (.r m a b c) s).post P↔(evE Φ G env a s).post λx s1=>(evE Φ G env b s1).post λy s2=>(evE Φ G env c s2).post λz s3=>(Sj m x y z s3).post P:=by show (Out.bind _ _).post P↔_;simp only[zI]
theorem RB{a b:Ex}{P:Val->Sto->Prop}:(evE Φ G env (.u a b) s).post P↔(evE Φ G env a s).post λx s1=>(evE Φ G env b s1).post λy s2=>(vP x y s2).post P:=by show (Out.bind _ _).post P↔_;simp only[zI]
theorem Qb{m:Bool}{a:Ex}{lo hi st:OEx}{P:Val->Sto->Prop}:(evE Φ G env (.H m a lo hi st) s).post P↔(evE Φ G env a s).post λx s1=>(evO Φ G env lo s1).post λl s2=>(evO Φ G env hi s2).post λh s3=>(evO Φ G env st s3).post λc s4=>(uk m x l h c s4).post P:=by show (Out.bind _ _).post P↔_;simp only[zI]
theorem UN{P:Option Int->Sto->Prop}:(evO Φ G env .b s).post P↔P none s:=zC
theorem UO{e:Ex}{P:Option Int->Sto->Prop}:(evO Φ G env (.a e) s).post P↔(evE Φ G env e s).post λv s1=>∃i,v=.c i/\P (some i) s1:=by show (Out.bind _ _).post P↔_;simp only[zI];exact zt λx s1=>by cases x<;>simp[zC,zb]
theorem tx{P:List Val->Sto->Prop}:(zf Φ G env .b s).post P↔P [] s:=zC
theorem wc{e:Ex}{es:Exs}{P:List Val->Sto->Prop}:(zf Φ G env (.a e es) s).post P↔(evE Φ G env e s).post λv s1=>(zf Φ G env es s1).post λvs s2=>P (v::vs) s2:=by show (Out.bind _ _).post P↔_;simp only[zI,zC]
theorem aQ{e:Ex}{P:Bool->Sto->Prop}:(evT Φ G env (.a e) s).post P↔(evE Φ G env e s).post λv s1=>∃b,truth s1 v=some b/\P b s1:=by
 show (Out.bind (evE Φ G env e s) _).post P↔_;simp only[zI];refine⟨λh=>zQ h λv s1 h=>?_,λh=>zQ h λv s1 h=>?_⟩
 . split at h
   . rename_i b e;exact⟨b,e,zC.mp h⟩
   . obtain⟨_,_,e,_⟩:=h;cases e
 . obtain⟨b,e,h⟩:=h
   rw[e];exact zC.mpr h
theorem US{c:Cn}{P:Bool->Sto->Prop}:(evT Φ G env (.b c) s).post P↔(evT Φ G env c s).post λb s1=>P (!b) s1:=by show (Out.bind _ _).post P↔_;simp only[zI,zC]
theorem UR{c:Cn}{cs:Cns}{P:Bool->Sto->Prop}:(evT Φ G env (.d c cs) s).post P↔(evT Φ G env c s).post λb s1=>if b=true then (xH Φ G env cs s1).post P else P false s1:=by show (Out.bind _ _).post P↔_;simp only[zI,xb,zC]
theorem RI{c:Cn}{cs:Cns}{P:Bool->Sto->Prop}:(evT Φ G env (.f c cs) s).post P↔(evT Φ G env c s).post λb s1=>if b=true then P true s1 else (qI Φ G env cs s1).post P:=by show (Out.bind _ _).post P↔_;simp only[zI,xb,zC]
theorem rh{P:Bool->Sto->Prop}:(xH Φ G env .a s).post P↔P true s:=zC
theorem XJ{P:Bool->Sto->Prop}:(qI Φ G env .a s).post P↔P false s:=zC
theorem aP{c:Cn}{cs:Cns}{P:Bool->Sto->Prop}:(xH Φ G env (.b c cs) s).post P↔(evT Φ G env c s).post λb s1=>if b=true then (xH Φ G env cs s1).post P else P false s1:=by show (Out.bind _ _).post P↔_;simp only[zI,xb,zC]
theorem aO{c:Cn}{cs:Cns}{P:Bool->Sto->Prop}:(qI Φ G env (.b c cs) s).post P↔(evT Φ G env c s).post λb s1=>if b=true then P true s1 else (qI Φ G env cs s1).post P:=by show (Out.bind _ _).post P↔_;simp only[zI,xb,zC]
theorem aL{e:Ex}{P:Src->Sto->Prop}:(yh Φ G env (.f e) s).post P↔(evE Φ G env e s).post λv s1=>∃r,srcOf s1 v=some r/\P r s1:=by
 show (Out.bind _ _).post P↔_;simp only[zI];refine⟨λh=>zQ h λv s1 h=>?_,λh=>zQ h λv s1 h=>?_⟩
 . split at h
   . rename_i b e;exact⟨b,e,zC.mp h⟩
   . obtain⟨_,_,e,_⟩:=h;cases e
 . obtain⟨b,e,h⟩:=h
   rw[e];exact zC.mpr h
theorem lQ{a:Ex}{P:Src->Sto->Prop}:(yh Φ G env (.c a) s).post P↔(evE Φ G env a s).post λx s1=>∃j,x=.c j/\(-(2 ^ 62)<=j/\j<=zO)/\P ⟨yb 0 j.toNat,dS⟩ s1:=by
 show (Out.bind _ _).post P↔_;simp only[zI];refine⟨λh=>zQ h λv s1 h=>?_,λh=>zQ h λv s1 h=>?_⟩
 . split at h
   . rw[xb]at h
     split at h
     . rename_i j z;exact⟨_,rfl,z,zC.mp h⟩
     . obtain⟨_,_,e,_⟩:=h;cases e
   . obtain⟨_,_,e,_⟩:=h;cases e
 . obtain⟨j,rfl,z,h⟩:=h
   simp only[if_pos z];exact zC.mpr h
theorem lR{a b:Ex}{P:Src->Sto->Prop}:(yh Φ G env (.d a b) s).post P↔(evE Φ G env a s).post λx s1=>(evE Φ G env b s1).post λy s2=>∃i j,x=.c i/\y=.c j/\(-(2 ^ 62)<=i/\i<2 ^ 62∧-(2 ^ 62)<=j/\j<2 ^ 62/\j-i<=zO)/\P ⟨yb i (j-i).toNat,dS⟩ s2:=by
 show (Out.bind _ _).post P↔_;simp only[zI];refine⟨λh=>zQ h λv s1 h=>zQ h λw s2 h=>?_,λh=>zQ h λv s1 h=>zQ h λw s2 h=>?_⟩
 . split at h
   . rw[xb]at h
     split at h
     . rename_i z;exact⟨_,_,rfl,rfl,z,zC.mp h⟩
     . obtain⟨_,_,e,_⟩:=h;cases e
   . obtain⟨_,_,e,_⟩:=h;cases e
 . obtain⟨i,j,rfl,rfl,z,h⟩:=h
   simp only[if_pos z];exact zC.mpr h
theorem UK{a:Ex}{P:Src->Sto->Prop}:(yh Φ G env (.g a) s).post P↔(evE Φ G env a s).post λx s1=>∃vs,(x=.f vs\/x=.j vs)/\P ⟨yQ 0 vs,dS⟩ s1:=by
 show (Out.bind _ _).post P↔_;simp only[zI];refine⟨λh=>zQ h λv s1 h=>?_,λh=>zQ h λv s1 h=>?_⟩
 . split at h
   . exact⟨_,.inl rfl,zC.mp h⟩
   . exact⟨_,.inr rfl,zC.mp h⟩
   . obtain⟨_,_,e,_⟩:=h;cases e
 . obtain⟨j,rfl|rfl,h⟩:=h<;>exact zC.mpr h
theorem ny{e:Ex}{P:Fl->Sto->Prop}:(exS Φ G env (.h e) s).post P↔(evE Φ G env e s).post λ_ s1=>P (.a env) s1:=by show (Out.bind _ _).post P↔_;simp only[zI,zC]
theorem lS{e:Ex}{P:Fl->Sto->Prop}:(exS Φ G env (.d e) s).post P↔(evE Φ G env e s).post λv s1=>P (.b v) s1:=by show (Out.bind _ _).post P↔_;simp only[zI,zC]
theorem UQ{P:Fl->Sto->Prop}:(exS Φ G env .s s).post P↔P (.b .g) s:=zC
theorem oK{i:Nat}{e:Ex}{P:Fl->Sto->Prop}:(exS Φ G env (.f i e) s).post P↔(evE Φ G env e s).post λv s1=>P (.a (env.set i (some v))) s1:=by show (Out.bind _ _).post P↔_;simp only[zI,zC]
theorem aJ{is:List Nat}{e:Ex}{P:Fl->Sto->Prop}:(exS Φ G env (.n is e) s).post P↔(evE Φ G env e s).post λv s1=>∃env',yk (.b is) v env=some env'/\P (.a env') s1:=by
 show (Out.bind _ _).post P↔_;simp only[zI];refine⟨λh=>zQ h λv s1 h=>?_,λh=>zQ h λv s1 h=>?_⟩
 . split at h
   . rename_i b e;exact⟨b,e,zC.mp h⟩
   . obtain⟨_,_,e,_⟩:=h;cases e
 . obtain⟨b,e,h⟩:=h
   rw[e];exact zC.mpr h
theorem aN{is:List Nat}{es:Exs}{P:Fl->Sto->Prop}:(exS Φ G env (.p is es) s).post P↔(zf Φ G env es s).post λvs s1=>(if vs.length=is.length then Out.e (Fl.a ((is.zip vs).foldl (λe p=>e.set p.1 (some p.2)) env)) s1 else .d).post P:=by show (Out.bind _ _).post P↔_;simp only[zI]
theorem XI{o i e:Ex}{P:Fl->Sto->Prop}:(exS Φ G env (.l o i e) s).post P↔(evE Φ G env e s).post λv s1=>(evE Φ G env o s1).post λx s2=>(evE Φ G env i s2).post λy s3=>∃r k vs j,x=.k r/\y=.c k/\s3[r]?=some (.c vs)/\L2.ixN vs.length k=some j/\P (.a env) (upd s3 r (vs.set j v)):=by
 show (Out.bind _ _).post P↔_;simp only[zI];refine zt λv s1=>zt λx s2=>zt λy s3=>⟨λh=>?_,λ⟨r,k,vs,j,h1,h2,h3,h4,h5⟩=>?_⟩
 . split at h
   . split at h
     . rename_i e3
       split at h
       . rename_i e4;exact⟨_,_,_,_,rfl,rfl,e3,e4,zC.mp h⟩
       . exact(zb.mp h).elim
     . exact(zb.mp h).elim
   . exact(zb.mp h).elim
 . subst h1;subst h2
   simp only[h3,h4];exact zC.mpr h5
theorem UL{c:Cn}{a b:Sms}{P:Fl->Sto->Prop}:(exS Φ G env (.g c a b) s).post P↔(evT Φ G env c s).post λt s1=>if t=true then (ze Φ G env a s1).post P else (ze Φ G env b s1).post P:=by show (Out.bind _ _).post P↔_;simp only[zI,xb]
theorem UP{P:Fl->Sto->Prop}:(exS Φ G env .r s).post P↔P (.a env) s:=zC
theorem S6{P:Fl->Sto->Prop}:(exS Φ G env .w s).post P↔P (.c env) s:=zC
theorem UJ{P:Fl->Sto->Prop}:(exS Φ G env .q s).post P↔P (.d env) s:=zC
theorem nz{P:Fl->Sto->Prop}:(ze Φ G env .b s).post P↔P (.a env) s:=zC
def pB(Φ:Calls)(G:Str->Option Val)(cs:Sms)(P:Fl->Sto->Prop):Fl->Sto->Prop
 |.a e,s1=>(ze Φ G e cs s1).post P
 |fl,s1=>P fl s1
theorem zZ{c:Sm}{cs:Sms}{P:Fl->Sto->Prop}:(ze Φ G env (.a c cs) s).post P↔(exS Φ G env c s).post (pB Φ G cs P):=by
 show (Out.bind _ _).post P↔_;simp only[zI];have:∀fl s1,(match fl with|.a e=>ze Φ G e cs s1|fl=>Out.e fl s1:Out Fl).post P↔pB Φ G cs P fl s1:=λfl s1=>by
  cases fl with
  |a e=>exact CK
  |_=>exact zC
 exact⟨λh=>zQ h λfl s1 h=>(this fl s1).mp h,λh=>zQ h λfl s1 h=>(this fl s1).mpr h⟩
theorem vA{cs:Sms}{P:Fl->Sto->Prop}{e:Env}:pB Φ G cs P (.a e) s↔(ze Φ G e cs s).post P:=CK
theorem mO{cs:Sms}{P:Fl->Sto->Prop}{v:Val}:pB Φ G cs P (.b v) s↔P (.b v) s:=CK
theorem Xv{cs:Sms}{P:Fl->Sto->Prop}{v:Env}:pB Φ G cs P (.c v) s↔P (.c v) s:=CK
theorem Xw{cs:Sms}{P:Fl->Sto->Prop}{v:Env}:pB Φ G cs P (.d v) s↔P (.d v) s:=CK
theorem vh{I:Env->Prop}(hr:r.ok s=true):∀xs,(∀x∈xs,∀e acc,I e->∃e1 e2,yk t x e=some e1/\body e1 s acc=.e (acc++g x,e2) s/\I e2)->∀e acc,I e->∃e',I e'/\yl r t body xs e s acc=.e (acc++xs.flatMap g,e') s
 |[],_,e,acc,h0=>⟨e,h0,by simp[yl,hr]⟩
 |x::xs,h,e,acc,h0=>by obtain⟨e1,e2,h1,h2,h3⟩:=h x (.head _) e acc h0;obtain⟨e',h4,h5⟩:=vh hr xs (λy hy=>h y (.tail _ hy)) e2 (acc++g x) h3;refine⟨e',h4,?_⟩;simp only[yl,hr,if_true,h1,h2,zM,h5,BH,Bo]
theorem aK(I:Env->Prop)g
 (h:(yh Φ G env it s).post λr s1=>r.ok s1=true/\I (zR fr env)/\(∀x∈r.a,∀e,I e->∃e1,yk t x e=some e1/\I e1/\(xH Φ G e1 ifs s1).post λb s2=>s2=s1/\if b=true then (evE Φ G e1 elt s1).post (λv s2=>s2=s1/\g x=[v]) else g x=[])/\(newList m (r.a.flatMap g) s1).post P) :
 (evE Φ G env (.q m N fr elt t it ifs) s).post P:=by
 obtain⟨r,s1,ei,h1,h2,h3,h4⟩:=h;obtain⟨e',_,h5⟩:=vh (I:=I) (g:=g) (body:=λe s' acc=>(xH Φ G e ifs s').bind λb s2=>if b then (evE Φ G e elt s2).bind λv s3=>.e (acc++[v],e) s3 else .e (acc,e) s2) h1 r.a (λx hx e acc he=>by
  obtain⟨e1,k1,k2,b,s2,k3,rfl,k4⟩:=h3 x hx e he;refine⟨e1,e1,k1,?_,k2⟩;rw[k3,zM];cases b with
  |true=>
   rw[if_pos rfl]at k4 ⊢;obtain⟨v,s3,kw,rfl,kv⟩:=k4;rw[kw,zM,kv]
  |false=>
   rw[if_neg xd]at k4 ⊢;rw[k4,A5]) (zR fr env) [] h2
 show (Out.bind (yh Φ G env it s) _).post P;rw[ei,zM];rw[h5,zM];exact h4
def Small(l:List Val):Prop:=l.length<=zO
theorem XG(I:Env->Prop)g(J:Val->Env->Prop)(g2:Val->Val->List Val)
 (h:(yh Φ G env it s).post λr s1=>r.ok s1=true/\I (zR fr env)/\(∀x∈r.a,∀e,I e->∃e1,yk t x e=some e1/\(xH Φ G e1 ifs s1).post λb s2=>s2=s1/\if b=true then (yh Φ G e1 it2 s1).post (λr2 s2=>s2=s1/\r2.ok s1=true/\J x e1/\(∀e,J x e->I e)/\g x=r2.a.flatMap (g2 x)/\∀y∈r2.a,∀e,J x e->∃e2,yk t2 y e=some e2/\J x e2/\(xH Φ G e2 ifs2 s1).post λb s2=>s2=s1/\if b=true then (evE Φ G e2 elt s1).post (λv s2=>s2=s1/\g2 x y=[v]) else g2 x y=[]) else g x=[]/\I e1)/\Small (r.a.flatMap g)/\(newList m (r.a.flatMap g) s1).post P) :
 (evE Φ G env (.y m N fr elt t it ifs t2 it2 ifs2) s).post P:=by
 obtain⟨r,s1,ei,h1,h2,h3,hl,h4⟩:=h;obtain⟨e',_,h5⟩:=vh (I:=I) (g:=g) (body:=λe s' acc=>(xH Φ G e ifs s').bind λb s2=>if b then (yh Φ G e it2 s2).bind λr2 s3=>
        yl r2 t2 (λe' s4 acc'=>(xH Φ G e' ifs2 s4).bind λb' s5=>if b' then (evE Φ G e' elt s5).bind λv s6=>.e (acc'++[v],e') s6 else .e (acc',e') s5) r2.a e s3 acc
  else .e (acc,e) s2) h1 r.a (λx hx e acc he=>by
  obtain⟨e1,k1,b,s2,k3,rfl,k4⟩:=h3 x hx e he;cases b with
  |true=>
   rw[if_pos rfl]at k4;obtain⟨r2,s3,k5,rfl,k6,k7,k8,k9,k10⟩:=k4;obtain⟨e2,k11,k12⟩:=vh (I:=J x) (g:=g2 x) (body:=λe' s4 acc'=>(xH Φ G e' ifs2 s4).bind λb' s5=>if b' then (evE Φ G e' elt s5).bind λv s6=>.e (acc'++[v],e') s6 else .e (acc',e') s5) k6 r2.a (λy hy e acc he=>by
    obtain⟨e1,k1,k2,b,s2,k3,rfl,k4⟩:=k10 y hy e he;refine⟨e1,e1,k1,?_,k2⟩;rw[k3,zM];cases b with
    |true=>
     rw[if_pos rfl]at k4 ⊢;obtain⟨v,s3,kw,rfl,kv⟩:=k4;rw[kw,zM,kv]
    |false=>
     rw[if_neg xd]at k4 ⊢;rw[k4,A5]) e1 acc k7
   refine⟨e1,e2,k1,?_,k8 _ k11⟩;rw[k3,zM,if_pos rfl,k5,zM,k12,k9]
  |false=>
   rw[if_neg xd]at k4;refine⟨e1,e1,k1,?_,k4.2⟩;rw[k3,zM,if_neg xd,k4.1,A5]) (zR fr env) [] h2
 show (Out.bind (yh Φ G env it s) _).post P;rw[ei,zM];rw[h5,zM];simp only[DE];rw[if_pos (show (r.a.flatMap g).length<=zO from hl)];exact h4
theorem oF(Q:List Val->Env->Sto->List Val->Prop):∀xs,(∀e s acc,Q [] e s acc->r.ok s=true)->(∀x rest e s acc,Q (x::rest) e s acc->r.ok s=true/\∃e1,yk t x e=some e1/\(body e1 s acc).post λp s2=>Q rest p.2 s2 p.1)->∀e s acc,Q xs e s acc->(yl r t body xs e s acc).post λp s2=>Q [] p.2 s2 p.1
 |[],h0,_,e,s,acc,q=>by
  simp only[yl,h0 e s acc q,if_true];exact zC.mpr q
 |x::xs,h0,h,e,s,acc,q=>by obtain⟨h1,e1,h2,h3⟩:=h x xs e s acc q;simp only[yl,h1,if_true,h2,zI];exact zQ h3 λp s2 q=>oF Q xs h0 h p.2 s2 p.1 q
theorem XH(Q:List Val->Env->Sto->List Val->Prop)
 (h:(yh Φ G env it s).post λr s1=>Q r.a (zR fr env) s1 []/\(∀rest e s acc,Q rest e s acc->r.ok s=true)/\(∀x rest e s acc,Q (x::rest) e s acc->∃e1,yk t x e=some e1/\(xH Φ G e1 ifs s).post λb s2=>if b=true then (evE Φ G e1 elt s2).post (λv s3=>Q rest e1 s3 (acc++[v])) else Q rest e1 s2 acc)/\∀e s acc,Q [] e s acc->(newList m acc s).post P) :
 (evE Φ G env (.q m N fr elt t it ifs) s).post P:=by
 obtain⟨r,s1,ei,h1,h2,h3,h4⟩:=h;show (Out.bind (yh Φ G env it s) _).post P;rw[ei,zM,zI];refine zQ (oF Q r.a (λe s acc q=>h2 _ e s acc q) (λx rest e s acc q=>⟨h2 _ e s acc q,?_⟩) _ _ _ h1) λp s2 q=>h4 _ _ _ q;obtain⟨e1,k1,k2⟩:=h3 x rest e s acc q;refine⟨e1,k1,?_⟩;simp only[zI];refine zQ k2 λb s2 k=>?_;cases b with
 |true=>
  rw[if_pos rfl]at k ⊢;simp only[zI,zC];exact k
 |false=>
  rw[if_neg xd]at k ⊢;exact zC.mpr k
theorem sk(Q:List Val->Env->Sto->Prop)(R:Fl->Sto->Prop){r:Src}{t:Tgt}{body:Env->Sto->Out Fl}(h0:∀e s,Q [] e s->R (.a e) s):∀(xs:List Val),(∀rest e s,Q rest e s->r.ok s=true)->(∀x rest e s,Q (x::rest) e s->∃e1,yk t x e=some e1/\(body e1 s).post λfl s2=>match fl with|.a e=>Q rest e s2|.d e=>Q rest e s2|.c e=>R (.a e) s2|.b v=>R (.b v) s2)->∀e s,Q xs e s->(vo r t body xs e s).post R
 |[],hk,_,e,s,q=>by
  simp only[vo,hk _ _ _ q,if_true];exact zC.mpr (h0 _ _ q)
 |x::xs,hk,h,e,s,q=>by
  obtain⟨e1,h2,h3⟩:=h x xs e s q;simp only[vo,hk _ _ _ q,if_true,h2,zI];refine zQ h3 λfl s2 q=>?_;cases fl with
  |a e=>exact sk Q R h0 xs hk h e s2 q
  |d e=>exact sk Q R h0 xs hk h e s2 q
  |c e=>exact zC.mpr q
  |b v=>exact zC.mpr q
def rP(Q:Env->Sto->Prop)(R:Fl->Sto->Prop):Fl->Sto->Prop
 |.a e,s=>Q e s
 |.d e,s=>Q e s
 |.c e,s=>R (.a e) s
 |.b v,s=>R (.b v) s
theorem gK{Q:Env->Sto->Prop}{R:Fl->Sto->Prop}{e:Env}:rP Q R (.a e) s↔Q e s:=CK
theorem Xn{Q:Env->Sto->Prop}{R:Fl->Sto->Prop}{e:Env}:rP Q R (.d e) s↔Q e s:=CK
theorem Xm{Q:Env->Sto->Prop}{R:Fl->Sto->Prop}{e:Env}:rP Q R (.c e) s↔R (.a e) s:=CK
theorem Xo{Q:Env->Sto->Prop}{R:Fl->Sto->Prop}{v:Val}:rP Q R (.b v) s↔R (.b v) s:=CK
theorem S8(Q:List Val->Env->Sto->Prop)
 (h:(yh Φ G env it s).post λr s1=>Q r.a env s1/\(∀rest e s,Q rest e s->r.ok s=true)/\(∀x rest e s,Q (x::rest) e s->∃e1,yk t x e=some e1/\(ze Φ G e1 b s).post (rP (Q rest) R))/\∀e s,Q [] e s->R (.a e) s) :
 (exS Φ G env (.j t it b) s).post R:=by
 obtain⟨r,s1,ei,h1,h2,h3,h4⟩:=h;show (Out.bind (yh Φ G env it s) _).post R;rw[ei,zM];refine sk Q R h4 r.a h2 (λx rest e s q=>?_) _ _ h1;obtain⟨e1,k1,k2⟩:=h3 x rest e s q;refine⟨e1,k1,zQ k2 λfl s2 k=>?_⟩;cases fl<;>exact k
theorem wd(Q:List Val->Env->Sto->Prop)xs(hi:yh Φ G env it s=.e ⟨xs,dS⟩ s1)(h0:Q xs env s1)
 (h1:∀x rest e s,Q (x::rest) e s->∃e1,yk t x e=some e1/\(ze Φ G e1 b s).post (rP (Q rest) R)) (h2:∀e s,Q [] e s->R (.a e) s) :
 (exS Φ G env (.j t it b) s).post R:=S8 Q ⟨_,_,hi,h0,λ_ _ _ _=>rfl,h1,h2⟩
theorem nv(I:Env->Prop)g xs(hi:yh Φ G env it s=.e ⟨xs,dS⟩ s1)(h0:I (zR fr env))
 (h1:∀x∈xs,∀e,I e->∃e1,yk t x e=some e1/\I e1/\(xH Φ G e1 ifs s1).post λb s2=>s2=s1/\if b=true then (evE Φ G e1 elt s1).post (λv s2=>s2=s1/\g x=[v]) else g x=[]) (h2:(newList m (xs.flatMap g) s1).post P) :
 (evE Φ G env (.q m N fr elt t it ifs) s).post P:=aK I g ⟨_,_,hi,rfl,h0,h1,h2⟩
theorem fN(Q:Nat->Env->Sto->Prop)R:∀n k,n<k->(∀n e s,Q n e s->(c e s).post λb s1=>if b=true then (body e s1).post (rP (λe s=>∃m,m<n/\Q m e s) R) else R (.a e) s1)->∀e s,Q n e s->(uJ c body k e s).post R:=by
 intro n;induction n using Nat.strongRecOn with
 |ind n ih=>
  intro k hk h e s q;cases k with
  |zero=>omega
  |succ k=>
   simp only[uJ,zI];refine zQ (h n e s q) λb s1 z=>?_;cases b with
   |true=>
    rw[if_pos rfl]at z ⊢;simp only[zI];refine zQ z λfl s2 z=>?_;cases fl with
    |a e=>
     obtain⟨m,h1,h2⟩:=z;exact ih m h1 k (by omega) h e s2 h2
    |d e=>
     obtain⟨m,h1,h2⟩:=z;exact ih m h1 k (by omega) h e s2 h2
    |c e=>exact zC.mpr z
    |b v=>exact zC.mpr z
   |false=>
    rw[if_neg xd]at z ⊢;exact zC.mpr z
theorem XM n(Q:Nat->Env->Sto->Prop)(hn:n<mV)(q:Q n env s)
 (h:∀n e s,Q n e s->(evT Φ G e c s).post λt s1=>if t=true then (ze Φ G e b s1).post (rP (λe s=>∃m,m<n/\Q m e s) R) else R (.a e) s1) :
 (exS Φ G env (.m c b) s).post R:=fN Q R n mV hn h env s q
end
theorem Xx{s:Sto}:truth s .g=some false:=rfl
theorem zc{s:Sto}{b:Bool}:truth s (.e b)=some b:=rfl
theorem TK{s:Sto}{i:Int}:truth s (.c i)=some (i != 0):=rfl
theorem TL{s:Sto}{vs:List Val}:truth s (.f vs)=some !vs.isEmpty:=rfl
theorem Zc{s:Sto}{vs:List Val}:truth s (.j vs)=some !vs.isEmpty:=rfl
theorem Uz{s:Sto}{vs:List Val}:srcOf s (.f vs)=some ⟨vs,dS⟩:=rfl
theorem Uy{s:Sto}{vs:List Val}:srcOf s (.j vs)=some ⟨vs,dS⟩:=rfl
theorem Xl{s:Sto}{ns:List Int}:srcOf s (.l ns)=some ⟨ns.map .c,dS⟩:=rfl
theorem ZR{s:Sto}{xs:List Val}:Src.ok ⟨xs,dS⟩ s=true:=rfl
theorem Tj{i:Nat}{v:Val}{env:Env}:yk (.a i) v env=some (env.set i (some v)):=rfl
theorem W3{is:List Nat}{vs:List Val}{env:Env}:yk (.b is) (.f vs) env=if vs.length=is.length then some ((is.zip vs).foldl (λe p=>e.set p.1 (some p.2)) env) else dS:=rfl
theorem da vs:sU vs vs=true:=uZ vs
theorem ma(c:Cel):c.beq c=true:=by cases c<;>simp[Cel.beq,da]
theorem ue:∀s t,wb s (s++t)=true
 |[],_=>rfl
 |c::r,t=>by simp[wb,ma c,ue r t]
theorem jG s:wb s s=true:=by have:=ue s [];rwa [A5]at this
theorem qh:∀s t i c,c.noRef=true->wb s (s.set i c++t)=true
 |[],_,_,_,_=>by simp[wb]
 |_::r,t,0,c,h=>by simp[wb,h,ue r t]
 |o::r,t,i+1,c,h=>by simp[wb,ma o,qh r t i c h]
theorem fU s t i vs(h:zr vs=true):wb s (s.set i (.c vs)++t)=true:=qh s t i _ h
theorem ni:Val.g.noRef=true:=by rw[Val.noRef]
theorem wR{b:Bool}:(Val.e b).noRef=true:=by rw[Val.noRef]
theorem nh{b:Int}:(Val.c b).noRef=true:=by rw[Val.noRef]
theorem aA{b:Str}:(Val.h b).noRef=true:=by rw[Val.noRef]
theorem nj{vs:List Val}:(Val.f vs).noRef=zr vs:=by rw[Val.noRef]
theorem jF{vs:List Val}:(Val.j vs).noRef=zr vs:=by rw[Val.noRef]
theorem nk:zr []=true:=by rw[zr]
theorem qd{v:Val}{vs:List Val}:zr (v::vs)=(v.noRef&&zr vs):=by rw[zr]
theorem xQ:∀ns:List Int,zr (ns.map .c)=true
 |[]=>rfl
 |_::ns=>by simp[zr,Val.noRef,xQ ns]
theorem qa:∀zs:List (Int × Int),zr (zs.map prV)=true
 |[]=>rfl
 |_::zs=>by simp[zr,Val.noRef,prV,qa zs]
def zm(k:Bool)(s0:Sto)(v:Val)(s:Sto):Out Val:=
 if k then .e v s
 else if wb s0 s then (match freeze s0.length s v with|some v'=>.e v' (s.take s0.length)|dS=>.d) else .d
theorem m9{s0 s:Sto}{v:Val}:zm true s0 v s=.e v s:=rfl
theorem yH{k:Bool}{s:Sto}{v:Val}(h:v.noRef=true):zm k s v s=.e v s:=by
 unfold zm;cases k
 . simp[jG,freeze,h]
 . rfl
theorem kr(h:v.noRef=true):zm false s v (s++t)=.e v s:=by unfold zm;simp[ue,freeze,h]
theorem ku(h:v.noRef=true)(hv:zr vs=true):zm false s v (s.set i (.c vs)++t)=.e v (s.set i (.c vs)):=by
 unfold zm;have e:s.length=(s.set i (.c vs)).length:=by rw[B9]
 simp only[fU s t i vs hv,freeze,h,if_true,AO,if_false,e,List.take_left']
def fin(k:Bool)(s:Sto)(P:Val->Sto->Prop):Fl->Sto->Prop
 |.a _,s1=>(zm k s .g s1).post P
 |.b v,s1=>(zm k s v s1).post P
 |_,_=>False
theorem VH{k:Bool}{s s1:Sto}{P:Val->Sto->Prop}{e:Env}:fin k s P (.a e) s1↔(zm k s .g s1).post P:=CK
theorem kY{k:Bool}{s s1:Sto}{P:Val->Sto->Prop}{v:Val}:fin k s P (.b v) s1↔(zm k s v s1).post P:=CK
theorem wB{T:Tbl}{Φ:Calls}{N ps:List Str}{k:Bool}{b:Sms}{vs:List Val}{s:Sto}{P:Val->Sto->Prop}:(run T Φ ⟨N,ps,k,b⟩ vs s).post P↔vs.length=ps.length/\(ze Φ T.b (zV N vs) b s).post (fin k s P):=by
 unfold run;by_cases hl:vs.length=ps.length
 . rw[if_pos hl,zI]
   refine⟨λh=>⟨hl,zQ h λfl s1 h=>?_⟩,λh=>zQ h.2 λfl s1 h=>?_⟩
   . cases fl<;>first|exact h|exact(zb.mp h).elim
   . cases fl<;>first|exact h|exact h.elim
 . rw[if_neg hl]
   exact⟨λh=>(zb.mp h).elim,λh=>absurd h.1 hl⟩
theorem zU(h:T.d f v=some F)vs s:zE T (n+1) f v vs s=run T (zE T n) F vs s:=by simp only[zE,h]
theorem de(h:T.d f v=some F)(hl:vs.length=F.b.length)s:zk T (n+1) f v vs s=xSs (λc=>(T.e.lookup c).isSome) (zE T n) (zk T n) T.b (zV F.N vs) F.a s:=by simp only[zk,h];rw[if_pos hl]
def At(T:Tbl)(k:Nat)(C:Calls->Prop):Prop:=∀n,k<=n->C (zE T n)
def EVl:=Ad @WV <| Ad @w9 <| Ad @S9 <| Ad @Qc <| Ad @Sy <| Ad @RC <| Ad @RE <| Ad @S7 <| Ad @XF <| Ad @Sx <| Ad @UH <| Ad @UI <| Ad @Qa <| Ad @RG <| Ad @RH <| Ad @RA <| Ad @RJ <| Ad @WW <| Ad @ql <| Ad @WU <| Ad @UM <| Ad @aM <| Ad @RB <| Ad @Qb <| Ad @UN <| Ad @UO <| Ad @tx <| Ad @wc <| Ad @aQ <| Ad @US <| Ad @UR <| Ad @RI <| Ad @rh <| Ad @XJ <| Ad @aP <| Ad @aO <| Ad @aL <| Ad @lQ <| Ad @lR <| Ad @UK <| Ad @ny <| Ad @lS <| Ad @UQ <| Ad @oK <| Ad @aJ <| Ad @aN <| Ad @XI <| Ad @UL <| Ad @UP <| Ad @S6 <| Ad @UJ <| Ad @nz <| Ad @zZ <| Ad @vA <| Ad @mO <| Ad @Xv <| Ad @Xw <| Ad @gK <| Ad @Xn <| Ad @Xm <| Ad @Xo <| Ad @zC <| Ad @xb <| Ad @zb <| Ad @Xx <| Ad @zc <| Ad @TK <| Ad @TL <| Ad @Zc <| Ad @Uz <| Ad @Uy <| Ad @Xl <| Ad @ZR <| Ad @Tj <| Ad @W3 <| Ad @wB <| Ad @VH <| Ad @kY <| Ad @m9 <| Ad @yH <| Ad @ni <| Ad @wR <| Ad @nh <| Ad @aA <| Ad @nj <| Ad @jF <| Ad @nk <| Ad @qd <| Ad @xQ <| @qa
end M
end
section
namespace M
open PySem
theorem bnd{o:Out α}{a}{f}{r:Out β}(h:o=.e a s)(k:f a s=r):o.bind f=r:=by rw[h];exact k
section
variable {Φ:Calls}{G:Str->Option Val}{env:Env}{s s1 s2 s3 s4:Sto}
theorem zF:evE Φ G env (.g v) s=.e v s:=rfl
theorem zB(h:env[i]?=some (some v)):evE Φ G env (.e i) s=.e v s:=post_eq.mpr (w9.mpr ⟨v,h,rfl,rfl⟩)
theorem pE:evE Φ G env (.L x n) s=.e (.r n) s:=rfl
theorem tJ(h:G x=some v):evE Φ G env (.A x) s=.e v s:=post_eq.mpr (S9.mpr ⟨v,h,rfl,rfl⟩)
theorem iD(h1:evE Φ G env a s=.e (.e false) s1):evE Φ G env (.z a (.a b es)) s=.e (.e false) s1:=bnd h1 rfl
theorem iE(h1:evE Φ G env a s=.e (.e true) s1)(h2:evE Φ G env b s1=.e (.e false) s2):evE Φ G env (.z a (.a b (.a c es))) s=.e (.e false) s2:=bnd h1 (show (evE Φ G env b s1).bind _=_ from bnd h2 rfl)
theorem iF(h1:evE Φ G env a s=.e (.e true) s1)(h2:evE Φ G env b s1=.e (.e true) s2)(h3:evE Φ G env c s2=r):evE Φ G env (.z a (.a b (.a c .b))) s=r:=bnd h1 (show (evE Φ G env b s1).bind _=_ from bnd h2 h3)
theorem Wq(h:evE Φ G env a s=.e (.c i) s1):evE Φ G env (.B a) s=.e (.c (-i)) s1:=bnd h rfl
theorem zd(h1:evE Φ G env a s=.e x s1)(h2:evE Φ G env b s1=.e y s2)(h3:binOp m op x y s2=r):evE Φ G env (.j m op a b) s=r:=bnd h1 (bnd h2 h3)
theorem ye(h1:evE Φ G env a s=.e x s1)(h2:evE Φ G env b s1=.e y s2)(h3:zS op x y s2=r):evE Φ G env (.l op a b) s=r:=bnd h1 (bnd h2 h3)
theorem vV(h1:evE Φ G env a s=.e x s1)(h2:evE Φ G env b s1=.e y s2)(h3:vP x y s2=r):evE Φ G env (.u a b) s=r:=bnd h1 (bnd h2 h3)
theorem qe:evO Φ G env .b s=.e none s:=rfl
theorem qf(h:evE Φ G env e s=.e (.c i) s1):evO Φ G env (.a e) s=.e (some i) s1:=bnd h rfl
theorem ef(h0:evE Φ G env a s=.e x s1)(h1:evO Φ G env lo s1=.e l s2)(h2:evO Φ G env hi s2=.e h s3)(h3:evO Φ G env st s3=.e c s4)(h4:uk m x l h c s4=r):evE Φ G env (.H m a lo hi st) s=r:=bnd h0 (bnd h1 (bnd h2 (bnd h3 h4)))
theorem zD:zf Φ G env .b s=.e [] s:=rfl
theorem zA(h1:evE Φ G env e s=.e v s1)(h2:zf Φ G env es s1=.e vs s2):zf Φ G env (.a e es) s=.e (v::vs) s2:=bnd h1 (bnd h2 rfl)
theorem rg{P:List Val->Sto->Prop}(h:evE Φ G env e s=.e v s1)(k:(zf Φ G env es s1).post λvs s2=>P (v::vs) s2):(zf Φ G env (.a e es) s).post P:=wc.mpr (by rw[h];exact zC.mpr k)
theorem yK(h:zf Φ G env es s=.e vs s1)(hl:vs.length<=zO):evE Φ G env (.p es) s=.e (.f vs) s1:=bnd h (if_pos hl)
theorem vt(h:zf Φ G env es s=.e vs s1)(hl:vs.length<=zO):evE Φ G env (.s false es) s=.e (.j vs) s1:=bnd h (if_pos hl)
theorem yx(h:zf Φ G env es s=.e vs s1)(k:blt f m vs s1=r):evE Φ G env (.k f m es) s=r:=bnd h k
theorem x_call(h:zf Φ G env es s=.e vs s1)(k:Φ f v vs s1=r):evE Φ G env (.h f v es) s=r:=bnd h k
theorem yw(h:evE Φ G env e s=.e v s1)(k:(ze Φ G (env.set i (some v)) cs s1).post P):(ze Φ G env (.a (.f i e) cs) s).post P:=zZ.mpr (oK.mpr (by rw[h];exact zC.mpr k))
theorem Uv(h:evE Φ G env e s=.e v s1)(hb:yk (.b is) v env=some env')(k:(ze Φ G env' cs s1).post P):(ze Φ G env (.a (.n is e) cs) s).post P:=zZ.mpr (aJ.mpr (by rw[h];exact zC.mpr ⟨env',hb,k⟩))
theorem sH(h:evE Φ G env e s=.e v s1)(k:(ze Φ G env cs s1).post P):(ze Φ G env (.a (.h e) cs) s).post P:=zZ.mpr (ny.mpr (by rw[h];exact zC.mpr k))
theorem yc(h:evE Φ G env e s=.e v s1)(k:P (.b v) s1):(ze Φ G env (.a (.d e) cs) s).post P:=zZ.mpr (lS.mpr (by rw[h];exact zC.mpr k))
theorem qR(h:evE Φ G env e s=.e v s1)(k:srcOf s1 v=some ⟨xs,none⟩):yh Φ G env (.f e) s=.e ⟨xs,none⟩ s1:=post_eq.mpr (aL.mpr (by rw[h];exact zC.mpr ⟨_,k,rfl,rfl⟩))
theorem yW(h:evE Φ G env e s=.e v s1)(k:truth s1 v=some b):evT Φ G env (.a e) s=.e b s1:=post_eq.mpr (aQ.mpr (by rw[h];exact zC.mpr ⟨_,k,rfl,rfl⟩))
theorem Za(h:evT Φ G env c s=.e b s1):evT Φ G env (.b c) s=.e (!b) s1:=bnd h rfl
theorem QE(h:evT Φ G env c s=.e false s1)(k:qI Φ G env cs s1=.e b s2):evT Φ G env (.f c cs) s=.e b s2:=bnd h k
theorem Zb:qI Φ G env .a s=.e false s:=rfl
theorem gP(h:evT Φ G env c s=.e false s1)(k:qI Φ G env cs s1=.e b s2):qI Φ G env (.b c cs) s=.e b s2:=bnd h k
theorem wg(h:evT Φ G env c s=.e false s1)(k:(ze Φ G env cs s1).post P):(ze Φ G env (.a (.g c a .b) cs) s).post P:=zZ.mpr (UL.mpr (by rw[h];refine zC.mpr ?_;rw[if_neg xd];exact nz.mpr k))
theorem sI(h:evT Φ G env c s=.e true s1)(k:(ze Φ G env a s1).post (pB Φ G cs P)):(ze Φ G env (.a (.g c a b) cs) s).post P:=zZ.mpr (UL.mpr (by rw[h];refine zC.mpr ?_;rw[if_pos rfl];exact k))
theorem Ru{J:Env->Sto->Prop}(h:evT Φ G env c s=.e b s1)(k1:b=true->(ze Φ G env a s1).post λfl s2=>∃e,fl=.a e/\J e s2)(k0:b=false->J env s1)(k:∀e s2,J e s2->(ze Φ G e cs s2).post P):(ze Φ G env (.a (.g c a .b) cs) s).post P:=by
 cases b with
 |true=>exact sI h (zQ (k1 rfl) λfl s2 ⟨e,he,j⟩=>by subst he;exact k e s2 j)
 |false=>exact wg h (k env s1 (k0 rfl))
theorem iw(h:evE Φ G env e s=.e (.f vs) s1):yh Φ G env (.g e) s=.e ⟨yQ 0 vs,none⟩ s1:=bnd h rfl
theorem Ws(h:evE Φ G env a s=.e (.e b) s1):evE Φ G env (.G a) s=.e (.e !b) s1:=bnd h rfl
theorem TV(h:evT Φ G env c s=.e true s1)(k:evE Φ G env a s1=r):evE Φ G env (.F c a b) s=r:=bnd h k
theorem TU(h:evT Φ G env c s=.e false s1)(k:evE Φ G env b s1=r):evE Φ G env (.F c a b) s=r:=bnd h k
theorem wj(k:P (.a env) s):(ze Φ G env .b s).post P:=nz.mpr k
theorem hX{is:List Nat}{vs:List Val}{P:Fl->Sto->Prop}(hl:vs.length=is.length)(k:P (.a ((is.zip vs).foldl (λe p=>e.set p.1 (some p.2)) env)) s):(if vs.length=is.length then Out.e (Fl.a ((is.zip vs).foldl (λe p=>e.set p.1 (some p.2)) env)) s else .d).post P:=by rw[if_pos hl];exact zC.mpr k
theorem bD{k:Nat}(h:evE Φ G env e s=.e (.c (k:Int)) s1)(hk:k<=zO):yh Φ G env (.c e) s=.e ⟨yb 0 k,none⟩ s1:=by rw[post_eq];refine lQ.mpr ?_;rw[h];exact zC.mpr ⟨_,rfl,⟨by omega,by omega⟩,by rw[Bl],rfl⟩
theorem iy{i j:Nat}(h:evE Φ G env a s=.e (.c (i:Int)) s1)(h':evE Φ G env b s1=.e (.c (j:Int)) s2)(hi:i<=1000)(hj:j<=1000):yh Φ G env (.d a b) s=.e ⟨yb i (j-i),none⟩ s2:=by rw[post_eq];refine lR.mpr ?_;rw[h];refine zC.mpr ?_;rw[h'];exact zC.mpr ⟨_,_,rfl,rfl,⟨by omega,by omega,by omega,by omega,by unfold zO;omega⟩,by congr 2;omega,rfl⟩
theorem Zg(h:evT Φ G env c s=.e b s):xH Φ G env (.b c .a) s=.e b s:=bnd h (by cases b<;>rfl)
theorem Zo(h:zf Φ G env es s=.e vs s1)(hl:vs.length<=zO):evE Φ G env (.s true es) s=.e (.k s1.length) (s1++[.c vs]):=bnd h (if_pos hl)
theorem gJ(he:evE Φ G env e s=.e v s1)(ho:evE Φ G env o s1=.e (.k r) s1)(hi:evE Φ G env i s1=.e (.c k) s1)(hs:s1[r]?=some (.c vs))(hj:L2.ixN vs.length k=some j)
 (q:(ze Φ G env cs (s1.set r (.c (vs.set j v)))).post P):(ze Φ G env (.a (.l o i e) cs) s).post P:=by
 have e0:exS Φ G env (.l o i e) s=.e (.a env) (s1.set r (.c (vs.set j v))):=by show ((evE Φ G env e s).bind _)=_;rw[he,zM,ho,zM,hi,zM];simp only[hs,hj];rfl
 refine zZ.mpr ?_;rw[e0];exact zC.mpr q
theorem Zn(h1:evE Φ G env a s=.e (.c i) s)(h2:evE Φ G env b s=.e (.c j) s)(h3:evE Φ G env c s=.e (.c k) s):evE Φ G env (.w .c .c a b c) s=.e (.e (decide (i<=j)&&decide (j<=k))) s:=by
 refine bnd h1 (bnd h2 (bnd (show zS .c (.c i) (.c j) s=.e (.e (decide (i<=j))) s from rfl) ?_));cases decide (i<=j) with
 |true=>
  show (evE Φ G env c s).bind (λz s4=>zS .c (.c j) z s4)=_;exact bnd h3 (by rw[show zS .c (.c j) (.c k) s=.e (.e (decide (j<=k))) s from rfl,Bool.true_and])
 |false=>rfl
end
theorem vN(h:v.noRef=true):(zm false s v s).post λx t=>x=v/\t=s:=by rw[yH h];exact zC.mpr ⟨rfl,rfl⟩
end M
end
section
namespace M
open PySem
noncomputable def yU(l m:Int):Val->Bool
 |.c i=>decide (l<=i)&&decide (i<=m)
 |_=>false
theorem ed(h1:l<=i)(h2:i<=m):yU l m (.c i)=true:=by simp[yU,h1,h2]
def dB(Φ:Calls):Prop:=∀(v:Val) (l m:Int) (s:Sto),kindOf v≠none->Φ "is_whole" 0 [v,.c l,.c m] s=.e (.e (yU l m v)) s
def oj(Φ:Calls):Prop:=∀(vs:List Val) (l m:Int) (s:Sto),(∀v∈vs,kindOf v≠none)->Φ "are_wholes" 0 [.f vs,.c l,.c m] s=.e (.e (vs.all (yU l m))) s
def X8(Φ:Calls):Prop:=∀(n i z:Nat) (s:Sto),i<n->2<=z->z<=8->Φ "most_step" 0 [.c n,.c i,.c z] s=.e (.c ((n-1-i)/(z-1):Nat)) s
theorem rO:blt .a m [.f vs] s=.e (.c vs.length) s:=rfl
theorem V3:blt .a m [.l ns] s=.e (.c ns.length) s:=by simp[blt,wG]
theorem br:blt .a m [.p ns] s=.e (.c ns.length) s:=by simp[blt,wG]
theorem le_int:zS .c (.c a) (.c b) s=.e (.e (decide (a<=b))) s:=rfl
theorem lt_int:zS .l (.c a) (.c b) s=.e (.e (decide (a<b))) s:=rfl
theorem ge_int:zS .j (.c a) (.c b) s=.e (.e (decide (b<=a))) s:=rfl
theorem gt_int:zS .h (.c a) (.c b) s=.e (.e (decide (b<a))) s:=rfl
theorem rL{α:Type}f:∀xs:List α,boolsOf (xs.map λx=>Val.e (f x))=some (xs.map f)
 |[]=>rfl
 |x::xs=>by simp[boolsOf,rL f xs]
theorem WG{α β:Type}(f:α->β)(xs:List α):xs.flatMap (λx=>[f x])=xs.map f:=by
 induction xs with
 |nil=>rfl
 |cons x xs ih=>simp[ih]
theorem oz:binOp m .a (.c i) (.c j) s=.e (.c (i+j)) s:=by simp only[binOp]
theorem gX:binOp m .c (.c i) (.c j) s=.e (.c (i-j)) s:=by simp only[binOp]
theorem dZ(h:-1000000<=i/\i<=1000000):binOp m .b (.c i) (.c j) s=.e (.c (i*j)) s:=by simp only[binOp];rw[if_pos (.inl (by omega))]
theorem iO(h:-1000000<=j/\j<=1000000):binOp m .b (.c i) (.c j) s=.e (.c (i*j)) s:=by simp only[binOp];rw[if_pos (.inr (by omega))]
section
variable {T:Tbl}{Φ:Calls}{s:Sto}
theorem nS(h:kindOf v=some a)(h':uG n=some c):blt .i m [v,.r n] s=.e (.e (a.sub c)) s:=by simp only[blt];rw[h,h']
theorem Vx(h:kindOf v=some a):(∃i,v=.c i)\/(∃b,v=.e b)\/(a.sub .d=false/\∀l m,yU l m v=false):=by
 cases v with
 |c i=>exact .inl ⟨i,rfl⟩
 |e b=>exact .inr (.inl ⟨b,rfl⟩)
 |_=>cases h<;>exact .inr (.inr ⟨rfl,λ_ _=>rfl⟩)
theorem nU(h:kindOf v≠none):∃a,kindOf v=some a:=Option.ne_none_iff_exists'.mp h
theorem bg(h:kindOf v=some a):(∃vs,v=.f vs)\/a.sub .b=false:=by
 cases v with
 |f vs=>exact .inl ⟨vs,rfl⟩
 |_=>cases h<;>exact .inr rfl
theorem eN(hk:kindOf v≠none):run T Φ F.xm [v,.c l,.c m] s=.e (.e (yU l m v)) s:=by
 obtain⟨a,ha⟩:=nU hk;have e1:=nS (m:=false) (s:=s) ha (show uG "int"=some .d from rfl);have e2:=nS (m:=false) (s:=s) ha (show uG "bool"=some .i from rfl);have end':∀{b:Bool},b=yU l m v->(zm false s (.e b) s).post λx t=>x=.e (yU l m v)/\t=s:=λ{b} e=>by rw[yH wR,e];exact zC.mpr ⟨rfl,rfl⟩
 rw[post_eq,F.xm,wB];refine⟨rfl,?_⟩;show (ze Φ T.b [some v,some (.c l),some (.c m)] _ s).post _;rcases Vx ha with⟨i,rfl⟩|⟨b,rfl⟩|⟨h1,h2⟩
 . cases ha
   have hc:evE Φ T.b [some (.c i),some (.c l),some (.c m)] (.w .c .c (.e 1) (.e 0) (.e 2)) s=.e (.e (yU l m (.c i))) s:=by
    refine bnd (zB rfl) (bnd (zB rfl) (bnd le_int ?_));show (match Val.e (decide (l<=i)) with
     |.e true=>(evE Φ T.b [some (.c i),some (.c l),some (.c m)] (.e 2) s).bind λz s4=>zS .c (.c i) z s4
     |.e false=>.e (.e false) s
     |_=>.d)=Out.e (.e (decide (l<=i)&&decide (i<=m))) s
    cases decide (l<=i) with
    |true=>exact bnd (zB rfl) le_int
    |false=>rfl
   exact yc (iF (yx (zA (zB rfl) (zA pE zD)) e1) (Ws (yx (zA (zB rfl) (zA pE zD)) e2)) hc) (end' rfl)
 . cases ha
   exact yc (iE (yx (zA (zB rfl) (zA pE zD)) e1) (Ws (yx (zA (zB rfl) (zA pE zD)) e2))) (end' rfl)
 . rw[h1]at e1
   exact yc (iD (yx (zA (zB rfl) (zA pE zD)) e1)) (end' (h2 _ _).symm)
theorem jn(c:dB Φ)(hk:∀v∈vs,kindOf v≠none):run T Φ F.y0 [.f vs,.c l,.c m] s=.e (.e (vs.all (yU l m))) s:=by
 rw[post_eq];simp[F.y0,EVl,zV,zR];refine aK (λe=>∃o,e=[o,some (.c l),some (.c m)]) (λx=>[.e (yU l m x)]) ?_;simp[EVl,zV,zR];refine⟨?_,?_⟩
 . intro x hx
   simp[EVl,zV,zR,c x l m s (hk x hx)]
 . simp[newList,EVl,zV,zR,blt,WG,yX,rL]
theorem ZE{n i z:Nat}(h1:i<n)(h2:2<=z)(h3:z<=8):run T Φ F.xO [.c n,.c i,.c z] s=.e (.c ((n-1-i)/(z-1):Nat)) s:=by
 rw[post_eq];have a1:(0:Int)<(z:Int)-1/\(z:Int)-1<1073741824:=by omega
 have a2:((n:Int)-1-(i:Int))/((z:Int)-1)=(((n-1-i)/(z-1):Nat):Int):=by rw[Eo];congr 1<;>omega
 simp[F.xO,EVl,zV,zR,binOp];refine⟨by omega,?_⟩
 rw[a2];simp
end
end M
end
section
namespace M
open PySem
theorem nV(h:x∈yb lo n):∃k:Nat,k<n/\x=.c (lo+k):=by unfold yb at h;obtain⟨k,h1,rfl⟩:=AQ.mp h;exact⟨k,Ar.mp h1,rfl⟩
theorem WZ ns lo st n:L2.z6 (ns.map Val.c) lo st n=(L2.z6 ns lo st n).map Val.c:=by unfold L2.z6;rw[List.map_filterMap];congr 1;funext k;simp[AR]
theorem il a b:Ck (.int a) (.int b)=decide (a=b):=by by_cases h:a=b<;>simp[Ck,h]
theorem eq_int:zS .d (.c a) (.c b) s=.e (.e (decide (a=b))) s:=by simp[zS,zu,yg,pK,Val.isD,Val.d,PyData.depth,il]
theorem ne_int:zS .a (.c a) (.c b) s=.e (.e !(decide (a=b))) s:=by simp[zS,zu,yg,pK,Val.isD,Val.d,PyData.depth,il]
theorem VM{k:Nat}(h:vs[k]?=some v):vP (.f vs) (.c k) s=.e v s:=by simp[vP,wG,L2.rW h]
theorem si{ns:List Int}{k:Nat}(h:ns[k]?=some i):vP (.f (ns.map .c)) (.c k) s=.e (.c i) s:=VM (by rw[AR,h];rfl)
theorem sZ(ns:List Int):(ns.map Val.c).all flat=true:=by rw[List.all_map];simp[flat]
theorem u6(ns:List Int)y:(ns.map Val.c).countP (λz=>eqF z (.c y))=ns.count y:=by rw[List.countP_map];rfl
section
variable {T:Tbl}{Φ:Calls}{s:Sto}
def TY(Φ:Calls):Prop:=∀(ns:List Int) (f d z:Nat) (s:Sto),0<d->1<=z->f+d*(z-1)<ns.length->z<=zO->Φ "is_one_hue" 0 [.f (ns.map .c),.c f,.c d,.c z] s=.e (.e (uL ns f d z)) s
theorem Xg{f d z:Nat}(hd:0<d)(hz:1<=z)(h:f+d*(z-1)<ns.length)(hl:z<=zO):run T Φ F.y9 [.f (ns.map .c),.c f,.c d,.c z] s=.e (.e (uL ns f d z)) s:=by
 have hf:f<ns.length:=by have:0<=d*(z-1):=BC _;omega
 have a1:=iR hd hz h;have hdI:(d:Int)≠0:=by omega
 rw[post_eq];have hm:-(2 ^ 64)<(z:Int)/\(z:Int)<2 ^ 64:=by unfold zO at hl;omega
 have hmul:binOp false .b (.c d) (.c z) s=.e (.c ((d:Int)*z)) s:=by simp only[binOp];rw[if_pos (.inr hm)]
 have hix:vP (.f (ns.map .c)) (.c f) s=.e (.c (ns.getD f 0)) s:=si (by rw[Aa hf,Aw,Aa hf];rfl)
 have hadd:binOp false .a (.c f) (.c ((d:Int)*z)) s=.e (.c ((f:Int)+(d:Int)*z)) s:=by simp only[binOp]
 have hsl:uk false (.f (ns.map .c)) (some (f:Int)) (some ((f:Int)+(d:Int)*z)) (some (d:Int)) s=.e (.f (((Ao z).map λk=>ns.getD (f+k*d) 0).map .c)) s:=by simp only[uk,Ab];rw[a1,if_pos ⟨hdI,hl⟩];simp only[WZ,lb h]
 have key:decide ((((Ao z).map λk=>ns.getD (f+k*d) 0).count (ns.getD f 0):Int)=(z:Int))=uL ns f d z:=by
  rw[BK,Y0 h,decide_eq_true_iff];have hl:((Ao z).map λk=>ns.getD (f+k*d) 0).length=z:=by rw[Ab,Bx]
  constructor
  . intro e x hx
    exact(Ds.mp (by rw[hl];exact Int.ofNat.inj e) x hx).symm
  . intro e
    rw[Ds.mpr λx hx=>(e x hx).symm,hl]
 generalize hy:ns.getD f 0=y at hix key;generalize hxs:(Ao z).map (λk=>ns.getD (f+k*d) 0)=xs at hsl key;simp only[F.y9,EVl,zV,zR];simp[EVl,zV,zR,hmul,hadd,hix,hsl,xF,sZ,u6,eq_int,flat];exact key
end
end M
end
section
namespace M
open PySem
theorem fG{ns:List Int}:∀v∈ns.map Val.c,kindOf v≠none:=λv hv=>by obtain⟨i,_,rfl⟩:=AQ.mp hv;simp[kindOf]
theorem r0{ns:List Int}(h:∀x∈ns,l<=x/\x<=m):(ns.map Val.c).all (yU l m)=true:=by rw[Aq];intro v hv;obtain⟨i,hi,rfl⟩:=AQ.mp hv;exact ed (h i hi).1 (h i hi).2
noncomputable abbrev tpI(ns:List Int):Val:=.f (ns.map .c)
section
variable {T:Tbl}{Φ:Calls}{s:Sto}
def pS(Φ:Calls):Prop:=∀(zs:List Int) (s:Sto),Sz zs->Φ "are_sizes" 0 [tpI zs] s=.e (.e true) s
def vW(Φ:Calls):Prop:=∀(zs:List Int) (s:Sto),Sz zs->Φ "need_sizes" 0 [tpI zs] s=.e .g s
theorem pM(c:pS Φ)(h:Sz zs):run T Φ F.yP [tpI zs] s=.e .g s:=by rw[post_eq];simp[F.yP,EVl,zV,zR,c zs s h]
theorem ot(h:a.length+b.length<=zO):binOp m .a (.f a) (.f b) s=.e (.f (a++b)) s:=by simp only[binOp];rw[if_pos h]
end
end M
end
section
namespace M
open PySem
theorem YI{α β:Type}f(g:α->β)(xs:List α):xs.flatMap (λx=>if f x then [g x] else [])=(xs.filter f).map g:=by
 induction xs with
 |nil=>rfl
 |cons x xs ih=>
  rw[BH,ih];cases h:f x<;>simp[h]
section
variable {T:Tbl}{Φ:Calls}{s:Sto}
theorem qA{ns:List Int}(h:ns[p]?=some i):p<ns.length:=(Am.mp h).1
end
end M
end
section
namespace M
open PySem
noncomputable def t9(a b:Int):Cel:=.c [.c a,.c b]
def wu(s:Sto)(p:Nat):Prop:=∃a b,s[p]?=some (t9 a b)/\0<=b/\b<2147483629
def yo(s:Sto)(p:Nat)(s':Sto):Prop:=∃a b,s'=s.set p (t9 a b)/\0<=b/\b<2147483629
theorem wu.lt(h:wu s p):p<s.length:=by obtain⟨a,b,h,_⟩:=h;exact(Am.mp h).1
theorem yo.at_(h:yo s p s')(hp:p<s.length):wu s' p:=by obtain⟨a,b,rfl,h1⟩:=h;exact⟨a,b,AM hp,h1⟩
theorem yo.trans(h:yo s p s1)(k:yo s1 p s2):yo s p s2:=by obtain⟨a,b,rfl,h1⟩:=h;obtain⟨c,d,rfl,h2⟩:=k;exact⟨c,d,by rw[List.set_set],h2⟩
theorem wu.refl(h:wu s p):yo s p s:=by obtain⟨a,b,h,h1⟩:=h;obtain⟨hp,e⟩:=Am.mp h;refine⟨a,b,?_,h1⟩;rw[<-e,List.set_getElem_self]
theorem yo.len(h:yo s p s'):s'.length=s.length:=by obtain⟨a,b,rfl,_⟩:=h;exact B9 ..
theorem fI(h:yo s p s')(hv:v.noRef=true):zm false s v (s'++t)=.e v s':=by obtain⟨a,b,rfl,_⟩:=h;exact ku hv rfl
theorem vg(h:yo s p s')(hv:v.noRef=true):zm false s v s'=.e v s':=by
 have:=fI (t:=[]) h hv
 rwa [A5]at this
theorem bmod(h:0<j):binOp m .e (.c i) (.c j) s=.e (.c (i%j)) s:=by simp only[binOp];rw[if_pos h]
theorem bdiv(h:0<j/\j<1073741824):binOp m .d (.c i) (.c j) s=.e (.c (i/j)) s:=by simp only[binOp];rw[if_pos h]
theorem kj{k:Nat}(h:vs[k]?=some v):vP (.j vs) (.c k) s=.e v s:=by simp[vP,wG,L2.rW h]
theorem VN{i k:Nat}(hs:s[i]?=some (.c vs))(h:vs[k]?=some v):vP (.k i) (.c k) s=.e v s:=by simp[vP,wG,hs,L2.rW h]
section
variable {T:Tbl}{Φ:Calls}{s:Sto}
def X6(Φ:Calls):Prop:=∀(ns:List Int) (k:Nat) (s:Sto),∃c,Φ "_law_cell_at" 0 [.p ns,.c k] s=.e (.c c) s
def TZ(Φ:Calls):Prop:=∀(c:Int) (s:Sto),∃a b,Φ "_law_pen" 1 [.c c] s=.e (.k s.length) (s++[t9 a b])/\0<=b/\b<2147483629
def iH(Φ:Calls):Prop:=∀(p:Nat) (m:Int) (s:Sto),wu s p->0<m->m<1000000->(Φ "_law_draw" 0 [.k p,.c m] s).post λv s'=>∃r:Nat,v=.c r/\(r:Int)<m/\yo s p s'
theorem ZA ns(k:Nat):∃c,run T Φ F.yF [.p ns,.c k] s=.e (.c c) s:=by
 by_cases h:k<ns.length
 . refine⟨ns[k],?_⟩
   rw[post_eq];have h':(k:Int)<ns.length:=by omega
   have e:(ns.map Val.c)[k]?=some (.c ns[k]):=by rw[AR,Aa h];rfl
   have c1:vP (.p ns) (.c k) s=.e (.c ns[k]) s:=by simp[vP,wG,L2.rW e]
   simp[F.yF,EVl,zV,zR,br,lt_int,h',h,c1]
 . refine⟨0,?_⟩
   rw[post_eq];have h':¬(k:Int)<ns.length:=by omega
   simp[F.yF,EVl,zV,zR,br,lt_int,h',h]
theorem Xh c:∃a b,run T Φ F.yN [.c c] s=.e (.k s.length) (s++[t9 a b])/\0<=b/\b<2147483629:=by
 have key:(run T Φ F.yN [.c c] s).post λv s'=>∃a b,v=.k s.length/\s'=s++[t9 a b]/\0<=b/\b<2147483629:=by
  have c1:∀(i:Int) (b:Bool),binOp false .b (.c i) (.c (if b then 1 else 0)) s=.e (.c (i*(if b then 1 else 0))) s:=λi b=>iO (by cases b<;>simp)
  have c2:∀i:Int,binOp false .e (.c i) (.c 2147483629) s=.e (.c (i%2147483629)) s:=λi=>by simp[binOp]
  have c3:binOp false .g (.c 10) (.c 18) s=.e (.c (10 ^ 18)) s:=by simp[binOp]
  simp[F.yN,EVl,zV,zR,gX,blt];simp[EVl,zV,zR,c1,c2,c3,ge_int,blt,zO,newList,t9];rw[iO (by split<;>omega)]
  simp only[zC];rw[bmod (by omega)]
  simp only[zC];exact⟨trivial,_,_,⟨trivial,rfl,rfl⟩,EW _ (by omega),DY _ (by omega)⟩
 obtain⟨v,s',h,a,b,rfl,rfl,h1⟩:=key;exact⟨a,b,h,h1⟩
theorem ZC(hp:wu s p)(h0:0<m)(h1:m<1000000):(run T Φ F.yq [.k p,.c m] s).post λv s'=>∃r:Nat,v=.c r/\(r:Int)<m/\yo s p s':=by
 have hpl:=hp.lt;obtain⟨a,b,hs,hb,hb1⟩:=hp;have ix:∀{s:Sto} {a b:Int} {k:Nat} {v:Val},s[p]?=some (t9 a b)->[Val.c a,.c b][k]?=some v->vP (.k p) (.c k) s=.e v s:=λh h'=>VN h h';have fin':∀{x:Int} {s':Sto},yo s p s'->(zm false s (.c (x%m)) s').post λv s'=>∃r:Nat,v=.c r/\(r:Int)<m/\yo s p s':=λ{x s'} t=>by
  rw[vg t nh];have h3:=EW x (show m≠0 by omega)
  have h4:=DY x h0;exact zC.mpr ⟨(x%m).toNat,by congr 1;omega,by omega,t⟩
 rw[F.yq,wB];refine⟨rfl,?_⟩;show (ze Φ T.b [some (.k p),some (.c m),none,none,none] _ s).post _;have tc:evT Φ T.b [some (.k p),some (.c m),none,none,none] (.a (.l .h (.u (.e 0) (.g (.c 0))) (.g (.c 0)))) s=.e (decide (0<a)) s:=yW (ye (vV (zB rfl) zF (ix (k:=0) hs rfl)) zF gt_int) zc;cases hd:decide (0<a) with
 |true=>
  rw[hd]at tc;refine sI tc (Uv (env':=[some (.k p),some (.c m),some (.c (a/m)),some (.c (a%m)),none]) (yx (zA (vV (zB rfl) zF (ix (k:=0) hs rfl)) (zA (zB rfl) zD)) (show blt .b false [.c a,.c m] s=.e (.f [.c (a/m),.c (a%m)]) s by simp only[blt];rw[if_pos ⟨h0,by omega⟩])) rfl ?_)
  exact gJ (j:=0) (zB rfl) (zB rfl) zF hs rfl (yc (zB rfl) (fin' ⟨a/m,b,rfl,hb,hb1⟩))
 |false=>
  rw[hd]at tc;refine wg tc ?_;refine gJ (j:=1) (zd (zd (zd (vV (zB rfl) zF (ix (k:=1) hs rfl)) zF (iO (by omega))) zF oz) zF (bmod (by omega))) (zB rfl) zF hs rfl ?_
  generalize hx:(b*48271+30269)%2147483629=x;have x0:0<=x:=by rw[<-hx];exact EW _ (by omega)
  have x1:x<2147483629:=by rw[<-hx];exact DY _ (by omega)
  have hs':(s.set p (t9 a x))[p]?=some (t9 a x):=AM hpl;show (ze Φ T.b [some (.k p),some (.c m),none,none,none] _ (s.set p (t9 a x))).post _;refine yw (zd (zd (zd (zd (vV (zB rfl) zF (ix (k:=1) hs' rfl)) (vV (zB rfl) zF (ix (k:=1) hs' rfl)) (show binOp false .b (.c x) (.c x) _=_ by simp only[binOp];rw[if_pos (.inl (by omega))])) (zd zF (vV (zB rfl) zF (ix (k:=1) hs' rfl)) (dZ (by omega))) oz) zF oz) zF (bmod (by omega))) ?_
  exact yc (zd (zd (zB rfl) zF (bdiv ⟨by omega,by omega⟩)) (zB rfl) (bmod h0)) (fin' ⟨a,x,rfl,x0,x1⟩)
end
end M
end
section
namespace M
open PySem
theorem ox(h:vs.length<zO):xF .b (.k s.length) [y] (s++[.c vs])=.e .g (s++[.c (vs++[y])]):=by simp[xF,h,upd]
section
variable {T:Tbl}{Φ:Calls}{s:Sto}
def iJ(Φ:Calls):Prop:=∀(p:Nat) (s:Sto),wu s p->(Φ "_law_sizes" 0 [.k p] s).post λv s'=>∃zs,v=tpI zs/\Sz zs/\yo s p s'
theorem RU(h:r<6):∃m:Nat,([2,2,3,1,4,2]:List Int)[r]?=some (m:Int)/\1<=m/\m<=4:=by
 have:r=0\/r=1\/r=2\/r=3\/r=4\/r=5:=by omega
 rcases this with rfl|rfl|rfl|rfl|rfl|rfl
 . exact⟨2,rfl,by decide,by decide⟩
 . exact⟨2,rfl,by decide,by decide⟩
 . exact⟨3,rfl,by decide,by decide⟩
 . exact⟨1,rfl,by decide,by decide⟩
 . exact⟨4,rfl,by decide,by decide⟩
 . exact⟨2,rfl,by decide,by decide⟩
theorem RV(h:r<8):∃m:Int,([3,3,4,2,5,3,2,8]:List Int)[r]?=some m/\2<=m/\m<=8:=by
 have:r=0\/r=1\/r=2\/r=3\/r=4\/r=5\/r=6\/r=7:=by omega
 rcases this with rfl|rfl|rfl|rfl|rfl|rfl|rfl|rfl
 . exact⟨3,rfl,by decide,by decide⟩
 . exact⟨3,rfl,by decide,by decide⟩
 . exact⟨4,rfl,by decide,by decide⟩
 . exact⟨2,rfl,by decide,by decide⟩
 . exact⟨5,rfl,by decide,by decide⟩
 . exact⟨3,rfl,by decide,by decide⟩
 . exact⟨2,rfl,by decide,by decide⟩
 . exact⟨8,rfl,by decide,by decide⟩
theorem lF{ns:List Int}{r:Nat}(h:ns[r]?=some m):vP (.j (ns.map .c)) (.c r) s=.e (.c m) s:=kj (by rw[AR,h];rfl)
theorem Xd lo n:(yb lo n).length=n:=by unfold yb;rw[Ab,Bx]
theorem jj(cD:iH Φ)(hp:wu s p):(run T Φ F.yy [.k p] s).post λv s'=>∃zs,v=tpI zs/\Sz zs/\yo s p s':=by
 rw[F.yy,wB];refine⟨rfl,?_⟩;show (ze Φ T.b [some (.k p),none] _ s).post _;obtain⟨_,s1,hd,r,rfl,hr,t1⟩:=cD p 6 s hp (by omega) (by omega)
 obtain⟨n,e,m1,m4⟩:=RU (r:=r) (by omega)
 refine yw (vV (vt (vs:=_) (zA zF (zA zF (zA zF (zA zF (zA zF (zA zF zD)))))) (show 6<=zO by decide)) (x_call (zA (zB rfl) (zA zF zD)) hd) (lF e)) ?_
 show (ze Φ T.b [some (.k p),some (.c n)] _ s1).post _;refine zZ.mpr (lS.mpr (WU.mpr (wc.mpr (XH (λrest e s' acc=>(∃o,e=[o,some (.k p)])/\yo s1 p s'/\∃zs:List Int,acc=zs.map .c/\(∀x∈zs,2<=x/\x<=8)/\zs.length+rest.length=n) ?_))));rw[bD (zB rfl) (show n<=zO by unfold zO;omega)]
 refine zC.mpr ⟨⟨⟨_,rfl⟩,(t1.at_ hp.lt).refl,[],rfl,nofun,by rw[Xd];exact EV _⟩,λ_ _ _ _ _=>rfl,?_,?_⟩
 . rintro x rest e s' acc ⟨⟨o,rfl⟩,t,zs,rfl,hz,hl⟩
   refine⟨[some x,some (.k p)],rfl,rh.mpr ?_⟩;rw[if_pos rfl];obtain⟨_,s2,hd2,r2,rfl,hr2,t2⟩:=cD p 8 s' (t.at_ (by rw[t1.len];exact hp.lt)) (by omega) (by omega)
   obtain⟨k,e,k1,k2⟩:=RV (r:=r2) (by omega)
   rw[vV (vt (vs:=_) (zA zF (zA zF (zA zF (zA zF (zA zF (zA zF (zA zF (zA zF zD)))))))) (show 8<=zO by decide)) (x_call (zA (zB rfl) (zA zF zD)) hd2) (lF e)]
   refine zC.mpr ⟨⟨_,rfl⟩,t.trans t2,zs++[k],by rw[DF];rfl,λy hy=>?_,by rw[Al,Cv];rw[AF]at hl;omega⟩
   rcases AS.mp hy with hy|hy
   . exact hz y hy
   . rw[Av.mp hy];exact⟨k1,k2⟩
 . rintro e s' acc ⟨_,t,zs,rfl,hz,hl⟩
   refine zC.mpr (tx.mpr (zC.mpr ?_));show (zm false s (tpI zs) s').post _;rw[vg (t1.trans t) (by rw[nj];exact xQ _)]
   rw[BW]at hl;exact zC.mpr ⟨zs,rfl,⟨by omega,by omega,hz⟩,t1.trans t⟩
end
end M
end
section
namespace M
open PySem
theorem ub:∀ks:List Int,uF (ks.map .c)=true
 |[]=>by rw[List.map_nil,uF]
 |k::ks=>by rw[AN,uF,ub ks,Val.isD];rfl
theorem eq_nil(h:uF vs=true):zS .d (.j vs) (.j []) s=.e (.e vs.isEmpty) s:=by
 have h1:(Val.j vs).isD=true:=by rw[Val.isD];exact h
 have h2:(Val.j []).isD=true:=by rw[Val.isD,uF]
 have h3:(Val.j []).d=.list []:=by rw[Val.d,ds]
 have h4:(Val.j vs).d=.list (ds vs):=by rw[Val.d]
 have h5:Ck (.list (ds vs)) (.list [])=vs.isEmpty:=by
  cases vs with
  |nil=>rw[ds];rfl
  |cons v vs=>rw[ds];rfl
 simp only[zS,zu,yg,pK,h1,h2,h3,h4,h5];rfl
noncomputable def T3(bad:Int->Bool):Val->List Val
 |.c x=>if bad x then [.c x] else []
 |_=>[]
theorem YG bad(ks:List Int):(ks.map Val.c).flatMap (T3 bad)=(ks.filter bad).map .c:=by rw[Ep,<-YI];rfl
section
variable {T:Tbl}{Φ:Calls}{s:Sto}
theorem Wo{ks:List Int}{bad:Int->Bool}(hi:yh Φ G env it s=.e ⟨ks.map .c,none⟩ s)(h0:zR fr env=none::e0)(h:∀k∈ks,xH Φ G (some (.c k)::e0) ifs s=.e (bad k) s):evE Φ G env (.q false N fr (.e 0) (.a 0) it ifs) s=.e (.j ((ks.filter bad).map .c)) s:=by
 refine post_eq.mpr (nv (λe=>∃o,e=o::e0) (T3 bad) (ks.map .c) (s1:=s) hi ⟨none,h0⟩ ?_ (by rw[YG];exact zC.mpr ⟨rfl,rfl⟩))
 rintro v hv e ⟨o,rfl⟩;obtain⟨k,hk,rfl⟩:=AQ.mp hv;refine⟨_,rfl,⟨_,rfl⟩,?_⟩;show (xH Φ G (some (.c k)::e0) ifs s).post _;rw[h k hk];refine zC.mpr ⟨rfl,?_⟩;show if bad k=true then _ else (if bad k then [Val.c k] else [])=[]
 cases hb:bad k with
 |true=>
  rw[if_pos rfl];refine w9.mpr ⟨_,rfl,rfl,?_⟩;show (if bad k then [Val.c k] else [])=_
  rw[hb,if_pos rfl]
 |false=>rw[if_neg xd,if_neg xd]
end
theorem vJ(h:env[i]?=some (some (tpI ns))):evE Φ G env (.k .a m (.a (.e i) .b)) s=.e (.c (ns.length:Nat)) s:=yx (zA (zB h) zD) (by rw[rO,Ab])
section
variable {Φ:Calls}{G:Str->Option Val}{env:Env}{s:Sto}
noncomputable def Ut(f:Nat->Int):Val->List Val
 |.c k=>[.c (f k.toNat)]
 |_=>[]
theorem ax:(yb 0 n).flatMap (Ut f)=((Ao n).map f).map .c:=by
 unfold yb;rw[Ep,DZ];have:(λ(k:Nat)=>Ut f (.c (0+(k:Int))))=λk=>[(Val.c∘f) k]:=by funext k;show [Val.c (f (0+(k:Int)).toNat)]=_;rw[Int.zero_add,Bl];rfl
 rw[this,WG]
theorem QH(hi:yh Φ G env it s=.e ⟨yb 0 n,none⟩ s)(h0:zR fr env=none::e0)(h:∀k (o:Option Val),k<n->evE Φ G (some (.c k)::e0) elt s=.e (.c (f k)) s)(hl:n<=zO):evE Φ G env (.q false N fr elt (.a 0) it .a) s=.e (.j (((Ao n).map f).map .c)) s:=by
 rw[post_eq];refine nv (λe=>∃o,e=o::e0) (Ut f) (yb 0 n) (s1:=s) hi ⟨none,h0⟩ ?_ ?_
 . rintro x hx e ⟨o,rfl⟩
   obtain⟨k,hk,rfl⟩:=nV hx;refine⟨_,rfl,⟨_,rfl⟩,rh.mpr ⟨rfl,?_⟩⟩;rw[if_pos rfl,Int.zero_add];show (evE Φ G (some (.c (k:Int))::e0) elt s).post _;rw[h k none hk];refine zC.mpr ⟨rfl,?_⟩;show [Val.c (f (k:Int).toNat)]=_;rw[Bl]
 . rw[ax]
   exact zC.mpr ⟨rfl,rfl⟩
end
end M
end
section
namespace M
open PySem
theorem eG lo n:yb lo n=((Ao n).map λ(k:Nat)=>lo+(k:Int)).map .c:=by unfold yb;rw[DZ];rfl
end M
end
section
namespace M
open PySem
theorem fV(L:L2.oo k w d)(hk:k<=50)(hw:w<=300000)(hd:d.hasDict=false):qi d=true:=by
 have:=L.a;have:=L.f;unfold qi;rw[L.c,L.b,hd,decide_eq_true (show d.depth<=50 by omega),decide_eq_true (show d.weight<=300000 by omega)]
 rfl
theorem lH:∀{n} {vs} {x},x∈yQ n vs->∃k v,vs[k]?=some v/\x=.f [.c ((n+k:Nat):Int),v]
 |_,[],_,h=>by cases h
 |n,v::vs,x,h=>by
  rw[yQ]at h;rcases Aj.mp h with e|h
  . exact⟨0,v,rfl,e⟩
  . obtain⟨k,w,h1,h2⟩:=lH h
    refine⟨k+1,w,by simpa using h1,?_⟩
    rw[h2];congr 3;omega
theorem max2:blt .k m [.c i,.c j] s=.e (.c (if j > i then j else i)) s:=rfl
theorem min2:blt .l m [.c i,.c j] s=.e (.c (if j<i then j else i)) s:=rfl
theorem cY{K:Nat}(h0:env[0]?=some (some (.p ns)))(hK:K<=100) :
 yh Φ G env (.c (.k .k false (.a (.g (.c 1)) (.a (.k .l false (.a (.k .a false (.a (.e 0) .b)) (.a (.g (.c K)) .b))) .b)))) s=.e ⟨yb 0 (max 1 (min ns.length K)),none⟩ s:=by
 rw[post_eq];simp only[EVl,zV,zR];refine⟨_,h0,?_⟩;rw[br];simp only[zC];rw[min2];simp only[zC];rw[max2];simp only[zC];have e:(if (if (K:Int)<(ns.length:Int) then (K:Int) else (ns.length:Int)) > 1 then (if (K:Int)<(ns.length:Int) then (K:Int) else (ns.length:Int)) else 1)=((max 1 (min ns.length K):Nat):Int):=by split<;>split<;>omega
 rw[e];refine⟨_,rfl,⟨by omega,by unfold zO;omega⟩,?_⟩
 simp
end M
end
section
namespace M
open L2
noncomputable def mW(ns:List Int)(f d z:Nat)(h:Int):Bool:=(Ao z).all λk=>decide (ns[f+k*d]?=some h)
theorem xG:mW ns f d z h=true↔∀k<z,ns[f+k*d]?=some h:=by unfold mW;rw[Aq];exact⟨λH k hk=>of_decide_eq_true (H k (Ar.mpr hk)),λH k hk=>decide_eq_true (H k (Ar.mp hk))⟩
noncomputable def wQ(ns:List Int)(z:Nat)(h:Int):Bool:=(Ao (ns.length/(z-1))).any λj=>(Ao (z-1)).all λk=>decide (ns[ns.length-(k+1)*(j+1)]?=some h)
theorem ik(hz:2<=z):wQ ns z h=true↔∃d,0<d/\(z-1)*d<=ns.length/\∀k,1<=k->k<z->ns[ns.length-k*d]?=some h:=by
 unfold wQ;rw[Bk];constructor
 . rintro ⟨j,hj,H⟩
   rw[Ar,Dh,BN (by omega),Bz]at hj
   rw[Aq]at H;refine⟨j+1,by omega,hj,λk h1 h2=>?_⟩
   have:=of_decide_eq_true (H (k-1) (Ar.mpr (by omega)))
   rwa [show k-1+1=k by omega]at this
 . rintro ⟨d,h1,h2,H⟩
   refine⟨d-1,?_,?_⟩
   . rw[Ar,Dh,BN (by omega),show d-1+1=d by omega,Bz];exact h2
   . rw[Aq]
     intro k hk;rw[Ar]at hk;rw[show d-1+1=d by omega]
     exact decide_eq_true (H (k+1) (by omega) (by omega))
def gS(zs ns:List Int):Prop:=∀h f d,h<zs.length->0<d->f+d*(zY zs h-1)<ns.length->mW ns f d (zY zs h) h≠true
structure Fit(zs ns:List Int):Prop where
 a:∀x∈ns,0<=x/\x<zs.length
 b:gS zs ns
theorem qx{h:Int}(hi:i<ns.length):(ns++[h])[i]?=ns[i]?:=AU hi
theorem Yt{h0:Nat}(hF:gS zs ns)(hh:h<zs.length)(hd:0<d)(hl:f+d*(zY zs h-1)<(ns++[(h0:Int)]).length)(hz:2<=zY zs h)(ha:mW (ns++[(h0:Int)]) f d (zY zs h) h=true) :
 f+d*(zY zs h-1)=ns.length/\h=h0:=by
 rw[Al,Cv]at hl;rw[xG]at ha;have key:f+d*(zY zs h-1)=ns.length:=by
  apply Nat.le_antisymm (by omega)
  refine Nat.not_lt.mp λhlt=>hF h f d hh hd hlt ?_;rw[xG];intro k hk;have hk':k*d<=(zY zs h-1)*d:=Dm _ (by omega)
  have e:=Bz d (zY zs h-1);rw[<-ha k hk,qx (by omega)]
 refine⟨key,?_⟩;have:=ha (zY zs h-1) (by omega)
 rw[Bz,key,A7 (Ac _),Nat.sub_self]at this;have:=AA this;omega
theorem VF{h0:Nat}(hz:2<=z)(hd:0<d)(hl:f+d*(z-1)=ns.length)(ha:mW (ns++[(h0:Int)]) f d z h0=true):wQ ns z h0=true:=by
 rw[ik hz];rw[xG]at ha;have e:=Bz d (z-1);refine⟨d,hd,by omega,λk h1 h2=>?_⟩
 have hk:=ha (z-1-k) (by omega)
 have e2:(z-1-k)*d+k*d=(z-1)*d:=by rw[<-Ge];congr 1;omega
 have hp:1*1<=k*d:=CJ h1 hd;have e3:f+(z-1-k)*d=ns.length-k*d:=by omega
 rw[e3,qx (by omega)]at hk
 exact hk
theorem V8{h0:Nat}(hz:2<=z)(he:wQ ns z h0=true):∃f d,0<d/\f+d*(z-1)=ns.length/\mW (ns++[(h0:Int)]) f d z h0=true:=by
 rw[ik hz]at he;obtain⟨d,hd,hl,H⟩:=he;have e:=Bz d (z-1);refine⟨ns.length-(z-1)*d,d,hd,by omega,?_⟩
 rw[xG];intro k hk;have e2:(z-1-k)*d+k*d=(z-1)*d:=by rw[<-Ge];congr 1;omega
 have e3:ns.length-(z-1)*d+k*d=ns.length-(z-1-k)*d:=by omega
 rw[e3];by_cases hc:k=z-1
 . subst hc
   rw[Nat.sub_self,Nat.zero_mul,FW,A7 (Ac _),Nat.sub_self];rfl
 . have hp:1*1<=(z-1-k)*d:=CJ (by omega) hd
   rw[qx (by omega)]
   exact H (z-1-k) (by omega) (by omega)
theorem oB(hz:Sz zs)(hF:gS zs ns)(hh:h0<zs.length):gS zs (ns++[(h0:Int)])↔wQ ns (zY zs h0) h0=false:=by
 have z2:=(yS hz hh).2.1;constructor
 . intro H
   cases he:wQ ns (zY zs h0) h0 with
   |false=>rfl
   |true=>
    obtain⟨f,d,hd,hl,ha⟩:=V8 z2 he;exact(H h0 f d hh hd (by rw[Al,Cv];omega) ha).elim
 . intro he h f d h1 h2 h3 ha
   obtain⟨e1,e2⟩:=Yt hF h1 h2 h3 (yS hz h1).2.1 ha;subst e2;rw[VF z2 h2 e1 ha]at he;cases he
theorem Fit.snoc(hz:Sz zs)(hF:Fit zs ns)(hh:h0<zs.length)(he:wQ ns (zY zs h0) h0=false):Fit zs (ns++[(h0:Int)]):=by
 refine⟨λx hx=>?_,(oB hz hF.b hh).mpr he⟩;rcases AS.mp hx with hx|hx
 . exact hF.a x hx
 . rw[Av.mp hx];omega
theorem Fit.take(hF:Fit zs ns)n:Fit zs (ns.take n):=by
 refine⟨λx hx=>hF.a x (Dr hx),λh f d h1 h2 h3 ha=>?_⟩;rw[B1]at h3;refine hF.b h f d h1 h2 (by omega) ?_
 rw[xG]at ha ⊢;intro k hk;have hk':k*d<=(zY zs h-1)*d:=Dm _ (by omega)
 have e:=Bz d (zY zs h-1);have:=ha k hk
 rwa [DP (by omega)]at this
theorem YH zs:Fit zs []:=⟨λx hx=>(by cases hx),λh f d _ _ h3 _=>absurd h3 (Nat.not_lt_zero _)⟩
def yE(zs ns:List Int):List (Nat × Nat):=(Ao zs.length).flatMap λh=>(uQ ns.length (zY zs h)).filter λr=>mW ns r.1 r.2 (zY zs h) h
theorem rG(hz:Sz zs):(yE zs ns).isEmpty=true↔gS zs ns:=by
 rw[AL];unfold yE;rw[F4];constructor
 . intro H h f d h1 h2 h3 ha
   have:=C9.mp (H h (Ar.mpr h1)) (f,d) ((tw (yS hz h1).2.1).mpr ⟨h2,h3⟩);exact this ha
 . intro H h hh
   have hh:=Ar.mp hh;rw[C9];rintro ⟨f,d⟩ hr ha;obtain⟨h2,h3⟩:=(tw (yS hz hh).2.1).mp hr;exact H h f d hh h2 h3 ha
theorem mw{α β:Type}{f:α->List β}:∀l:List α,(∀a∈l,(f a).length<=b)->(l.flatMap f).length<=l.length*b
 |[],_=>BC _
 |a::l,h=>by rw[BH,Al,AF,FT,Nat.add_comm];exact Nat.add_le_add (mw l λx hx=>h x (.tail _ hx)) (h a (.head _))
theorem ee(hz:Sz zs)(hn:ns.length<=40):(yE zs ns).length<=3200/\((yE zs ns).map toI).Nodup/\∀x∈(yE zs ns).map toI,0<=x.2/\x.2<1000:=by
 refine⟨?_,?_,λx hx=>?_⟩
 . have:=mw (f:=λh=>(uQ ns.length (zY zs h)).filter λr=>mW ns r.1 r.2 (zY zs h) h) (b:=800) (Ao zs.length) λh _=>AD (List.length_filter_le _ _) (a9 hn)
   rw[Bx]at this;have h4:=hz.2.1;unfold yE;omega
 . rw[List.nodup_iff_pairwise_ne,CA]
   unfold yE;rw[ED];refine⟨λh _=>?_,?_⟩
   . refine Fu.filter _ ?_
     have:=jf (n:=ns.length) (z:=zY zs h) hn;rw[CA]at this;exact this.imp λw e=>by rw[e]at w;omega
   . refine Fu.imp_of_mem (R:=λa b=>a<b) (λ{a b} ha hb w x hx y hy e=>?_) Dc
     have hx:=(BJ.mp hx).2;have hy:=(BJ.mp hy).2;have exy:x=y:=by
      unfold toI at e;injection e with e1 e2
      exact CL (Int.ofNat_inj.mp e1) (Int.ofNat_inj.mp e2)
     subst exy;have z1:=(yS hz (Ar.mp ha)).2.1;have z2:=(yS hz (Ar.mp hb)).2.1;have q1:=xG.mp hx 0 (by omega)
     have q2:=xG.mp hy 0 (by omega)
     rw[q1]at q2;injection q2 with q2
     omega
 . obtain⟨r,hr,rfl⟩:=AQ.mp hx
   obtain⟨h,hh,hr⟩:=Cg.mp hr;have hr:=(BJ.mp hr).1;have z2:=(yS hz (Ar.mp hh)).2.1;have:=oG z2 hr;have:r.2*1<=r.2*(zY zs h-1):=Dz _ (by omega)
   unfold toI;dsimp only;omega
def QS(zs ns:List Int):Bool:=(ns.all λx=>decide (0<=x)&&decide (x<zs.length))&&(yE zs ns).isEmpty
theorem VI(hz:Sz zs)(h:QS zs ns=true):Fit zs ns:=by obtain⟨h1,h2⟩:=CH.mp h;refine⟨λx hx=>?_,(rG hz).mp h2⟩;obtain⟨a,b⟩:=CH.mp (Aq.mp h1 x hx);exact⟨of_decide_eq_true a,of_decide_eq_true b⟩
end M
end
section
namespace F
open PySem M
noncomputable def zx:Fn:=⟨["_law_pen_here","_law_sizes_here","_law_limit","_law_found","_law_place","_law_hue","_law_some","_law_good"],["_law_pen_here","_law_sizes_here","_law_limit"],false,(.a (.f 3 (.p .b)) (.a (.j (.a 4) (.c (.h "_law_draw" 0 (.a (.e 0) (.a (.j false .a (.e 2) (.g (.c 1))) .b)))) (.a (.f 5 (.h "_law_draw" 0 (.a (.e 0) (.a (.k .a false (.a (.e 1) .b)) .b)))) (.a (.f 6 (.q false ["_law_k","_law_hue","_law_sizes_here"] [none,some 5,some 1] (.j false .e (.j false .a (.e 1) (.e 0)) (.k .a false (.a (.e 2) .b))) (.a 0) (.c (.k .a false (.a (.e 1) .b))) .a)) (.a (.f 7 (.q false ["_law_one","_law_sizes_here","_law_found"] [none,some 1,some 3] (.e 0) (.a 0) (.f (.e 6)) (.b (.b (.a (.h "_law_ended" 0 (.a (.e 1) (.a (.e 2) (.a (.e 0) .b)))))) .a))) (.a (.g (.a (.l .a (.e 7) (.s false .b))) (.a (.f 3 (.j false .a (.e 3) (.p (.a (.u (.e 7) (.g (.c 0))) .b)))) .b) .b) .b))))) (.a (.d (.e 3)) .b)))⟩
noncomputable def z7:Fn:=⟨["sizes","hues","place","hue"],["sizes","hues"],false,(.a (.j (.b [2,3]) (.g (.e 1)) (.a (.g (.a (.l .j (.e 3) (.k .a false (.a (.e 0) .b)))) (.a (.d (.e 2)) .b) .b) .b)) (.a (.d (.g .g)) .b))⟩
noncomputable def z8:Fn:=⟨["sizes","hues","first","hue","step"],["sizes","hues"],false,(.a (.j (.b [2,3]) (.g (.e 1)) (.a (.g (.a (.l .j (.e 3) (.g (.c 0)))) (.a (.j (.a 4) (.d (.g (.c 1)) (.j false .a (.h "most_step" 0 (.a (.k .a false (.a (.e 1) .b)) (.a (.e 2) (.a (.u (.e 0) (.e 3)) .b)))) (.g (.c 1)))) (.a (.g (.a (.h "is_one_hue" 0 (.a (.e 1) (.a (.e 2) (.a (.e 4) (.a (.u (.e 0) (.e 3)) .b)))))) (.a (.d (.p (.a (.e 2) (.a (.e 4) .b)))) .b) .b) .b)) .b) .b) .b)) (.a (.d (.g .g)) .b))⟩
noncomputable def zl:Fn:=⟨["sizes","strip","place","row"],["sizes","strip"],false,(.a (.h (.h "need_sizes" 0 (.a (.e 0) .b))) (.a (.h (.h "need_strip" 0 (.a (.e 1) .b))) (.a (.f 2 (.h "first_hue_wrong" 0 (.a (.e 0) (.a (.e 1) .b)))) (.a (.g (.a (.l .b (.e 2) (.g .g))) (.a (.d (.p (.a (.g (.h "hue")) (.a (.e 2) .b)))) .b) .b) (.a (.f 3 (.h "first_row_wrong" 0 (.a (.e 0) (.a (.e 1) .b)))) (.a (.d (.F (.a (.l .i (.e 3) (.g .g))) (.g .g) (.p (.a (.g (.h "row")) (.a (.u (.e 3) (.g (.c 0))) (.a (.u (.e 3) (.g (.c 1))) .b)))))) .b))))))⟩
noncomputable def vz:Fn:=⟨["sizes","strip"],["sizes","strip"],false,(.a (.d (.l .i (.h "first_wrong" 0 (.a (.e 0) (.a (.e 1) .b))) (.g .g))) .b)⟩
noncomputable def v5:Fn:=⟨["sizes","strip"],["sizes","strip"],false,(.a (.g (.a (.l .d (.k .a false (.a (.e 1) .b)) (.A "MOST_PLACES"))) (.a (.d (.p .b)) .b) .b) (.a (.d (.k .e false (.a (.q false ["hue","sizes","strip"] [none,some 0,some 1] (.e 0) (.a 0) (.c (.k .a false (.a (.e 0) .b))) (.b (.a (.h "may_follow" 0 (.a (.e 1) (.a (.e 2) (.a (.e 0) .b))))) .a)) .b))) .b))⟩
noncomputable def wO:Fn:=⟨["sizes","strip"],["sizes","strip"],false,(.a (.h (.h "need_fit" 0 (.a (.e 0) (.a (.e 1) .b)))) (.a (.d (.h "leaders" 0 (.a (.e 0) (.a (.e 1) .b)))) .b))⟩
noncomputable def xw:Fn:=⟨["sizes","strip"],["sizes","strip"],false,(.a (.h (.h "need_fit" 0 (.a (.e 0) (.a (.e 1) .b)))) (.a (.d (.h "followers" 0 (.a (.e 0) (.a (.e 1) .b)))) .b))⟩
noncomputable def xl:Fn:=⟨["thing"],["thing"],false,(.a (.d (.z (.k .i false (.a (.e 0) (.a (.L "tuple" "tuple") .b))) (.a (.l .c (.k .a false (.a (.e 0) .b)) (.A "MOST_PLACES")) (.a (.h "are_wholes" 0 (.a (.e 0) (.a (.u (.A "HUES") (.g (.c 0))) (.a (.u (.A "HUES") (.B (.g (.c 1)))) .b)))) .b)))) .b)⟩
noncomputable def sR:Fn:=⟨["sizes","strip"],["sizes","strip"],false,(.a (.d (.h "followers" 0 (.a (.e 0) (.a (.H false (.e 1) .b .b (.a (.B (.g (.c 1))))) .b)))) .b)⟩
noncomputable def xA:Fn:=⟨["sizes","strip","hue","end","others","step"],["sizes","strip","hue"],false,(.a (.f 3 (.k .a false (.a (.e 1) .b))) (.a (.f 4 (.j false .c (.u (.e 0) (.e 2)) (.g (.c 1)))) (.a (.j (.a 5) (.d (.g (.c 1)) (.j false .a (.j false .d (.e 3) (.e 4)) (.g (.c 1)))) (.a (.g (.a (.l .d (.K .a false (.H false (.e 1) (.a (.j false .c (.e 3) (.j false .b (.e 4) (.e 5)))) .b (.a (.e 5))) (.a (.e 2) .b)) (.e 4))) (.a (.d (.g (.e false))) .b) .b) .b)) (.a (.d (.g (.e true))) .b))))⟩
noncomputable def yA:Fn:=⟨["sizes","thing"],["sizes","thing"],false,(.a (.g (.b (.a (.h "fits" 0 (.a (.e 0) (.a (.e 1) .b))))) (.a (.k (.h "NoFit" 0 (.a (.g (.h "a strip that fits the sizes is due")) .b))) .b) .b) .b)⟩
noncomputable def yB:Fn:=⟨["thing"],["thing"],false,(.a (.g (.b (.a (.h "is_strip" 0 (.a (.e 0) .b)))) (.a (.k (.h "NoStrip" 0 (.a (.g (.h "a strip is due")) .b))) .b) .b) .b)⟩
end F
end
section
namespace M
open PySem
structure Gl4(T:Tbl):Prop where
 mp:T.b "MOST_PLACES"=some (.c 40)
 ls:T.b "LEAST_SIZE"=some (.c 2)
 ms:T.b "MOST_SIZE"=some (.c 8)
 hu:T.b "HUES"=some (.l [0,1,2,3])
section
variable {T:Tbl}{Φ:Calls}{s:Sto}
theorem sq{ns:List Int}(h:x∈yQ 0 (ns.map .c)):∃k i,ns[k]?=some i/\x=.f [.c (k:Nat),.c i]:=by obtain⟨k,v,h1,rfl⟩:=lH h;rw[AR]at h1;obtain⟨j,h2,rfl⟩:=A1.mp h1;exact⟨k,j,h2,by rw[EV]⟩
def TX(Φ:Calls):Prop:=∀(zs ns:List Int) (s:Sto),Sz zs->Fit zs ns->ns.length<=40->Φ "fits" 0 [tpI zs,tpI ns] s=.e (.e true) s
def rk(Φ:Calls):Prop:=∀(zs ns:List Int) (s:Sto),Sz zs->Fit zs ns->ns.length<=40->Φ "need_fit" 0 [tpI zs,tpI ns] s=.e .g s
theorem l7(c:TX Φ)(hz:Sz zs)(hf:Fit zs ns)(hn:ns.length<=40):run T Φ F.yA [tpI zs,tpI ns] s=.e .g s:=by rw[post_eq];simp[F.yA,EVl,zV,zR,c zs ns s hz hf hn]
end
end M
end
section
namespace M
open PySem
theorem Z2{n f d s:Nat}(hd:0<d)(hs:1<=s)(h:f+d*s=n):L2.ym n (some (f:Int)) none (d:Int)=((f:Int),s):=by
 have hm:d*s=d*(s-1)+d:=by rw[<-Nat.mul_succ];congr 1;omega
 have e:=iR (n:=n) (f:=f) hd hs (by omega)
 have e2:AY (some (f:Int)) none (d:Int) (n:Int)=AY (some (f:Int)) (some ((f:Int)+(d:Int)*(s:Int))) (d:Int) (n:Int):=by
  have e0:(f:Int)+(d:Int)*(s:Int)=(n:Int):=by rw[<-h,Int.natCast_add,DH]
  rw[e0];unfold AY;simp only[if_neg (show ¬(d:Int)<0 by omega),if_neg (show ¬(f:Int)<0 by omega),if_neg (show ¬(n:Int)<0 by omega)]
  refine CL rfl ?_;show (n:Int)=min (n:Int) (n:Int);omega
 unfold L2.ym at e ⊢;rw[e2];exact e
noncomputable def tB(ns:List Int)(z:Nat)(h:Int)(j:Nat):Bool:=(Ao (z-1)).all λk=>decide (ns[ns.length-(k+1)*(j+1)]?=some h)
theorem gm(hz:2<=z)(hj:(z-1)*(j+1)<=ns.length):decide ((((Ao (z-1)).map λk=>ns.getD (ns.length-(z-1)*(j+1)+k*(j+1)) 0).count h:Int)=((z-1:Nat):Int))=tB ns z h j:=by
 have hl:((Ao (z-1)).map λk=>ns.getD (ns.length-(z-1)*(j+1)+k*(j+1)) 0).length=z-1:=by rw[Ab,Bx]
 have key:∀k,k<z-1->ns.length-(z-1)*(j+1)+k*(j+1)=ns.length-((z-2-k)+1)*(j+1)/\ns.length-((z-2-k)+1)*(j+1)<ns.length:=λk hk=>by
  have e2:((z-2-k)+1)*(j+1)+k*(j+1)=(z-1)*(j+1):=by rw[<-Ge];congr 1;omega
  have hp:1*1<=((z-2-k)+1)*(j+1):=CJ (by omega) (by omega)
  omega
 rw[BK,decide_eq_true_iff];unfold tB;rw[Aq];constructor
 . intro e k hk
   have hk:=Ar.mp hk;have ha:=Ds.mp (by rw[hl];exact Int.ofNat.inj e)
   obtain⟨e1,e2⟩:=key (z-2-k) (by omega)
   rw[show z-2-(z-2-k)=k by omega]at e1 e2
   have:=ha _ (AQ.mpr ⟨z-2-k,Ar.mpr (by omega),rfl⟩)
   rw[e1,Aw,Aa e2]at this;rw[decide_eq_true_iff,Aa e2];exact congrArg some this.symm
 . intro H
   have:((Ao (z-1)).map λk=>ns.getD (ns.length-(z-1)*(j+1)+k*(j+1)) 0).count h=z-1:=by
    rw[Ds.mpr,hl];intro x hx;obtain⟨k,hk,rfl⟩:=AQ.mp hx;have hk:=Ar.mp hk;obtain⟨e1,e2⟩:=key k hk;have:=of_decide_eq_true (H (z-2-k) (Ar.mpr (by omega)))
    rw[e1,Aw,this];rfl
   rw[this]
theorem U9:xF .a (tpI st) [.c h] s=.e (.c (st.count h)) s:=by
 have e:∀l:List Int,(l.map Val.c).countP (λz=>eqF z (.c h))=l.count h:=by
  intro l;induction l with
  |nil=>rfl
  |cons a l ih=>rw[AN,CP,ih,List.count_cons];rfl
 have f:(st.map Val.c).all flat=true:=Aq.mpr λv hv=>by obtain⟨i,_,rfl⟩:=AQ.mp hv;rfl
 show (if (flat (.c h)&&(st.map Val.c).all flat)=true then Out.e (Val.c ((st.map Val.c).countP λz=>eqF z (.c h):Nat)) s else .d)=_
 rw[f,e];rfl
section
variable {T:Tbl}{Φ:Calls}{s:Sto}
def Wu(Φ:Calls):Prop:=∀(zs ns:List Int) (h:Nat) (s:Sto),Sz zs->ns.length<=40->h<zs.length->Φ "may_follow" 0 [tpI zs,tpI ns,.c h] s=.e (.e !(wQ ns (zY zs h) h)) s
theorem Xf(hz:Sz zs)(hn:ns.length<=40)(hh:h<zs.length):run T Φ F.xA [tpI zs,tpI ns,.c h] s=.e (.e !(wQ ns (zY zs h) h)) s:=by
 obtain⟨z1,z2,z3⟩:=yS hz hh;generalize hzz:zY zs h=z at *;have hK:ns.length/(z-1)<=40:=AD (DI _ _) hn;have hKm:∀j,j<ns.length/(z-1)->(z-1)*(j+1)<=ns.length:=λj hj=>by rw[Dh,BN (by omega),Bz]at hj;exact hj
 have he:wQ ns z h=(Ao (ns.length/(z-1))).any (tB ns z h):=rfl;have hdv:binOp false .d (.c (ns.length:Nat)) (.c ((z-1:Nat):Int)) s=.e (.c (ns.length/(z-1):Nat)) s:=by rw[bdiv (by omega),<-Eo]
 generalize hKK:ns.length/(z-1)=K at *;rw[post_eq,F.xA,wB];refine⟨rfl,?_⟩;show (ze Φ T.b [some (tpI zs),some (tpI ns),some (.c h),none,none,none] _ s).post _;refine yw (vJ rfl) (yw (zd (vV (zB rfl) (zB rfl) (si z1)) zF gX) ?_);rw[show ((z:Int)-1)=((z-1:Nat):Int) by omega]
 show (ze Φ T.b [some (tpI zs),some (tpI ns),some (.c h),some (.c ns.length),some (.c ((z-1:Nat):Int)),none] _ s).post _;refine zZ.mpr (wd (λrest e s'=>s'=s/\(∃o5,e=[some (tpI zs),some (tpI ns),some (.c h),some (.c ns.length),some (.c ((z-1:Nat):Int)),o5])/\∃todo:List Nat,rest=todo.map (λ(j:Nat)=>Val.c (1+(j:Int)))/\(∀j∈todo,j<K)/\wQ ns z h=todo.any (tB ns z h)) (yb 1 K) (s1:=s) (iy (i:=1) (j:=K+1) zF (zd (zd (zB rfl) (zB rfl) hdv) zF oz) (by omega) (by omega)) ⟨rfl,⟨_,rfl⟩,Ao K,rfl,λj hj=>Ar.mp hj,he⟩ ?_ ?_)
 . rintro x rest e s' ⟨rfl,⟨o5,rfl⟩,todo,hr,hb,hf⟩
   cases todo with
   |nil=>cases hr
   |cons j todo=>
    rw[AN]at hr;injection hr with hx hr
    subst hx;refine⟨_,rfl,?_⟩;have hj:=hKm j (hb j (.head _));have hc:=gm (h:=(h:Int)) z2 hj;obtain⟨d,hd0⟩:∃d,d=j+1:=⟨_,rfl⟩;have hd:(1+(j:Int))=(d:Int):=by omega
    rw[<-hd0]at hj hc;have d0:0<d:=by omega
    obtain⟨w,hw⟩:∃w,w=z-1:=⟨_,rfl⟩;have w1:1<=w:=by omega
    have w8:w<=8:=by omega
    rw[<-hw]at hj hc ⊢;have m1:binOp false .b (.c (w:Int)) (.c (d:Int)) s'=.e (.c ((w*d:Nat):Int)) s':=by rw[dZ (by omega),DH]
    obtain⟨f,hf0⟩:∃f,f=ns.length-w*d:=⟨_,rfl⟩;rw[<-hf0]at hc;have m2:binOp false .c (.c (ns.length:Nat)) (.c ((w*d:Nat):Int)) s'=.e (.c (f:Int)) s':=by rw[gX,show ((ns.length:Nat):Int)-((w*d:Nat):Int)=(f:Int) by omega]
    have hm:d*w=d*(w-1)+d:=by rw[<-Nat.mul_succ,Nat.succ_eq_add_one,Nat.sub_add_cancel w1]
    have hcm:=Bz d w;have hsl:uk false (tpI ns) (some (f:Int)) none (some (d:Int)) s'=.e (tpI ((Ao w).map λk=>ns.getD (f+k*d) 0)) s':=by
     have e5:L2.ym ns.length (some (f:Int)) none (d:Int)=((f:Int),w):=Z2 d0 w1 (by omega)
     have hl:w<=zO:=by unfold zO;omega
     have hdI:(d:Int)≠0:=by omega
     simp only[uk,Ab,e5];rw[if_pos ⟨hdI,hl⟩];simp only[WZ];rw[lb (by omega)]
    generalize (Ao w).map (λk=>ns.getD (f+k*d) 0)=xs at *;rw[hd];show (ze Φ T.b [some (tpI zs),some (tpI ns),some (.c h),some (.c ns.length),some (.c (w:Int)),some (.c (d:Int))] _ s').post _;rw[CW,<-hc]at hf;have tc:evT Φ T.b [some (tpI zs),some (tpI ns),some (.c h),some (.c ns.length),some (.c (w:Int)),some (.c (d:Int))] (.a (.l .d (.K .a false (.H false (.e 1) (.a (.j false .c (.e 3) (.j false .b (.e 4) (.e 5)))) .b (.a (.e 5))) (.a (.e 2) .b)) (.e 4))) s'=.e (decide ((xs.count (h:Int):Int)=(w:Int))) s':=yW (ye (bnd (ef (zB rfl) (qf (zd (zB rfl) (zd (zB rfl) (zB rfl) m1) m2)) qe (qf (zB rfl)) hsl) (bnd (zA (zB rfl) zD) U9)) (zB rfl) eq_int) zc;by_cases hq:(xs.count (h:Int):Int)=(w:Int)
    . rw[decide_eq_true hq]at tc hf
      rw[Bool.true_or]at hf;refine sI tc (yc zF ?_);rw[hf];exact vN wR
    . rw[decide_eq_false hq]at tc hf
      rw[Gz]at hf;exact wg tc (wj ⟨rfl,⟨_,rfl⟩,todo,hr,λj hj=>hb j (.tail _ hj),hf⟩)
 . rintro e s' ⟨rfl,⟨o5,rfl⟩,todo,hr,hb,hf⟩
   have ht:todo=[]:=by cases todo with|nil=>rfl|cons _ _=>cases hr
   subst ht;rw[hf];exact yc zF (vN wR)
end
end M
end
section
namespace M
open PySem
section
variable {T:Tbl}{Φ:Calls}{s:Sto}
def X7(Φ:Calls):Prop:=∀(zs fs:List Int) (h:Nat) (s:Sto),Sz zs->h<zs.length->fs.length<=40->Φ "_law_ended" 0 [tpI zs,tpI fs,.c h] s=.e (.e (wQ fs (zY zs h) h)) s
theorem ZD(hz:Sz zs)(hh:h<zs.length)(hf:fs.length<=40):run T Φ F.yM [tpI zs,tpI fs,.c h] s=.e (.e (wQ fs (zY zs h) h)) s:=by
 obtain⟨z1,z2,z3⟩:=yS hz hh;generalize hzz:zY zs h=z at *;have hdv:binOp false .d (.c (fs.length:Nat)) (.c ((z:Int)-1)) s=.e (.c (fs.length/(z-1):Nat)) s:=by rw[bdiv (by omega),Eo];congr 3;omega
 have hK:fs.length/(z-1)<=40:=AD (DI _ _) hf;have he:wQ fs z h=(Ao (fs.length/(z-1))).any (tB fs z h):=rfl;generalize hKK:fs.length/(z-1)=K at *;rw[post_eq,F.yM,wB];refine⟨rfl,?_⟩;show (ze Φ T.b [some (tpI zs),some (tpI fs),some (.c h),none,none,none] _ s).post _;refine zZ.mpr (aN.mpr (rg (vJ rfl) (rg (vV (zB rfl) (zB rfl) (si z1)) (tx.mpr (hX rfl ?_)))));show (ze Φ T.b [some (tpI zs),some (tpI fs),some (.c h),some (.c fs.length),some (.c z),none] _ s).post _;refine zZ.mpr (wd (λrest e s'=>s'=s/\(∃o5,e=[some (tpI zs),some (tpI fs),some (.c h),some (.c fs.length),some (.c z),o5])/\∃todo:List Nat,rest=todo.map (λ(j:Nat)=>Val.c (1+(j:Int)))/\(∀j∈todo,j<K)/\wQ fs z h=todo.any (tB fs z h)) (yb 1 K) (s1:=s) (iy (i:=1) (j:=K+1) zF (zd (zd (zB rfl) (zd (zB rfl) zF gX) hdv) zF oz) (by omega) (by omega)) ⟨rfl,⟨_,rfl⟩,Ao K,rfl,λj hj=>Ar.mp hj,he⟩ ?_ ?_)
 . rintro x rest e s' ⟨rfl,⟨o5,rfl⟩,todo,hr,hb,hfe⟩
   cases todo with
   |nil=>cases hr
   |cons j todo=>
    rw[AN]at hr;injection hr with hx hr
    subst hx;refine⟨_,rfl,?_⟩;have hjK:=hb j (.head _);have htB:tB fs z h j=(Ao (z-1)).all λk=>decide (fs[fs.length-(k+1)*(j+1)]?=some (h:Int)):=rfl;obtain⟨d,hd0⟩:∃d,d=j+1:=⟨_,rfl⟩;have hdc:(1+(j:Int))=(d:Int):=by omega
    rw[hdc];rw[<-hd0]at htB;have d1:1<=d:=by omega
    have hdz:∀k:Nat,k<=z-1->k*d<=fs.length:=λk hk=>by
     have h1:k*d<=(z-1)*K:=CJ hk (by omega)
     have h2:(z-1)*K<=fs.length:=by rw[<-hKK];exact Nat.mul_div_le _ _
     omega
    have cast:∀k:Nat,(1+(k:Int))*(d:Int)=(((k+1)*d:Nat):Int):=λk=>by rw[DH];congr 1;omega
    have hc:=Wo (Φ:=Φ) (G:=T.b) (env:=[some (tpI zs),some (tpI fs),some (.c h),some (.c fs.length),some (.c z),some (.c d)]) (s:=s') (N:=["_law_k","_law_hue","_law_found","_law_here","_law_step"]) (fr:=[none,some 2,some 1,some 3,some 5]) (it:=.d (.g (.c 1)) (.e 4)) (ifs:=.b (.a (.l .a (.u (.e 2) (.j false .c (.e 3) (.j false .b (.e 0) (.e 4)))) (.e 1))) .a) (ks:=(Ao (z-1)).map λ(k:Nat)=>1+(k:Int)) (bad:=λk=>!decide (fs[((fs.length:Int)-k*d).toNat]?=some (h:Int))) (e0:=[some (.c h),some (tpI fs),some (.c fs.length),some (.c d)]) ((iy (i:=1) (j:=z) zF (zB rfl) (by omega) (by omega)).trans (by rw[show ((1:Nat):Int)=1 from rfl,eG])) rfl λi hi=>by
     obtain⟨k,hk,rfl⟩:=AQ.mp hi;have hk:=Ar.mp hk;have hk1:=hdz (k+1) (by omega)
     have hpos:1<=(k+1)*d:=CJ (show 1<=k+1 by omega) d1
     have hlt:fs.length-(k+1)*d<fs.length:=by omega
     have e4:(fs.length:Int)-(1+(k:Int))*d=((fs.length-(k+1)*d:Nat):Int):=by rw[cast];omega
     have m1:binOp false .c (.c (fs.length:Nat)) (.c ((1+(k:Int))*d)) s'=.e (.c ((fs.length-(k+1)*d:Nat):Int)) s':=by rw[gX,e4]
     rw[e4,Bl,Aa hlt,show decide (some fs[fs.length-(k+1)*d]=some (h:Int))=decide (fs[fs.length-(k+1)*d]=(h:Int)) from decide_eq_decide.mpr Option.some_inj];exact Zg (yW (ye (vV (zB rfl) (zd (zB rfl) (zd (zB rfl) (zB rfl) (dZ (by omega))) m1) (si (Aa hlt))) (zB rfl) ne_int) zc)
    have key:(DT Val.c (((Ao (z-1)).map λ(k:Nat)=>1+(k:Int)).filter λk=>!decide (fs[((fs.length:Int)-k*d).toNat]?=some (h:Int)))).isEmpty=tB fs z h j:=by
     rw[htB,BK,AL,List.map_eq_nil_iff,C9,Aq,List.forall_mem_map];refine forall_congr' λk=>imp_congr_right λhk=>?_;have:((fs.length:Int)-(1+(k:Int))*(d:Int)).toNat=fs.length-(k+1)*d:=by rw[cast];omega
     rw[this,AG,Bool.not_eq_false]
    rw[CW]at hfe;have tc:=yW (ye hc (vt (es:=.b) zD (BC _)) (eq_nil (ub _))) zc;rw[key]at tc;cases hq:tB fs z h j with
    |false=>
     rw[hq]at tc hfe;exact wg tc (wj ⟨rfl,⟨_,rfl⟩,todo,hr,λj hj=>hb j (.tail _ hj),hfe⟩)
    |true=>
     rw[hq]at tc hfe;rw[Bool.true_or]at hfe;refine sI tc (yc zF ?_);rw[hfe];exact vN wR
 . rintro e s' ⟨rfl,⟨o5,rfl⟩,todo,hr,hb,hfe⟩
   have ht:todo=[]:=by cases todo with|nil=>rfl|cons _ _=>cases hr
   subst ht;rw[hfe];exact yc zF (vN wR)
end
end M
end
section
namespace M
open PySem
theorem ne_nil(h:uF vs=true):zS .a (.j vs) (.j []) s=.e (.e !vs.isEmpty) s:=by
 have h1:(Val.j vs).isD=true:=by rw[Val.isD];exact h
 have h2:(Val.j []).isD=true:=by rw[Val.isD,uF]
 have h3:(Val.j []).d=.list []:=by rw[Val.d,ds]
 have h4:(Val.j vs).d=.list (ds vs):=by rw[Val.d]
 have h5:Ck (.list (ds vs)) (.list [])=vs.isEmpty:=by
  cases vs with
  |nil=>rw[ds];rfl
  |cons v vs=>rw[ds];rfl
 simp only[zS,zu,yg,pK,h1,h2,h3,h4,h5];rfl
section
variable {T:Tbl}{Φ:Calls}{s:Sto}
def mU(Φ:Calls):Prop:=∀(p:Nat) (zs:List Int) (m:Nat) (s:Sto),wu s p->Sz zs->m<=30->(Φ "_law_fitting" 0 [.k p,tpI zs,.c m] s).post λv s'=>∃ns,v=tpI ns/\Fit zs ns/\ns.length<=30/\yo s p s'
theorem l5(cD:iH Φ)(cE:X7 Φ){m:Nat}(hp:wu s p)(hz:Sz zs)(hm:m<=30):(run T Φ F.zx [.k p,tpI zs,.c m] s).post λv s'=>∃ns,v=tpI ns/\Fit zs ns/\ns.length<=30/\yo s p s':=by
 have hpl:=hp.lt;have hz1:=hz.1;have hz4:=hz.2.1;rw[F.zx,wB];refine⟨rfl,?_⟩;show (ze Φ T.b [some (.k p),some (tpI zs),some (.c m),none,none,none,none,none] _ s).post _;refine yw (yK zD (BC _)) ?_;obtain⟨_,s1,hd,len,rfl,hlen,t1⟩:=cD p ((m:Int)+1) s hp (by omega) (by omega)
 refine zZ.mpr (wd (λrest e s'=>∃ns o4 o5 o6 o7,e=[some (.k p),some (tpI zs),some (.c m),some (tpI ns),o4,o5,o6,o7]/\Fit zs ns/\ns.length+rest.length<=30/\yo s p s') (yb 0 len) (s1:=s1) (bD (x_call (zA (zB rfl) (zA (zd (zB rfl) zF oz) zD)) hd) (by unfold zO;omega)) ⟨[],_,_,_,_,rfl,YH zs,by unfold yb;simp;omega,t1⟩ ?_ ?_)
 . rintro x rest e s' ⟨ns,o4,o5,o6,o7,rfl,hf,hl,t⟩
   rw[AF]at hl;refine⟨_,rfl,?_⟩;obtain⟨_,s4,hd4,h0,rfl,hh0,t4⟩:=cD p zs.length s' (t.at_ hpl) (by omega) (by omega)
   have tt:=t.trans t4;have hLn:zs.length<=zO:=by unfold zO;omega
   refine yw (x_call (zA (zB rfl) (zA (vJ rfl) zD)) hd4) (yw (QH (n:=zs.length) (f:=λk=>((h0:Int)+k)%zs.length) (bD (vJ rfl) hLn) rfl (λk o hk=>zd (zd (zB rfl) (zB rfl) oz) (vJ rfl) (by simp only[binOp];rw[if_pos (by omega)])) hLn) ?_)
   have hks:∀x∈(Ao zs.length).map (λ(k:Nat)=>((h0:Int)+k)%zs.length),∃a:Nat,x=a/\a<zs.length:=λx hx=>by
    obtain⟨k,_,rfl⟩:=AQ.mp hx;have h1:=EW ((h0:Int)+k) (show (zs.length:Int)≠0 by omega)
    have h2:=DY ((h0:Int)+k) (show (0:Int)<zs.length by omega)
    exact⟨(((h0:Int)+k)%zs.length).toNat,by omega,by omega⟩
   generalize (Ao zs.length).map (λ(k:Nat)=>((h0:Int)+k)%zs.length)=ks at *;refine yw (Wo (ks:=ks) (bad:=λx=>!wQ ns (zY zs x.toNat) x) (qR (zB rfl) rfl) rfl λi hi=>?_) ?_
   . obtain⟨a,rfl,ha⟩:=hks i hi
     exact Zg (Za (yW (x_call (zA (zB rfl) (zA (zB rfl) (zA (zB rfl) zD))) (cE zs ns a s4 hz ha (by omega))) zc))
   . cases hg:ks.filter (λx=>!wQ ns (zY zs x.toNat) x) with
     |nil=>exact wg (yW (ye (zB rfl) (vt zD (BC _)) (ne_nil (ub _))) zc) (wj ⟨ns,_,_,_,_,rfl,hf,by omega,tt⟩)
     |cons g gs=>
      obtain⟨hg2,hg3⟩:=BJ.mp (show g∈ks.filter (λx=>!wQ ns (zY zs x.toNat) x) by rw[hg];exact .head _)
      obtain⟨a,rfl,ha⟩:=hks g hg2;have he:wQ ns (zY zs a) a=false:=by simpa using hg3
      refine sI (yW (ye (zB rfl) (vt zD (BC _)) (ne_nil (ub _))) zc) (yw (zd (zB rfl) (yK (zA (vV (zB rfl) zF (kj (k:=0) rfl)) zD) (show 1<=zO by decide)) (ot (by rw[Ab];show ns.length+1<=zO;unfold zO;omega))) (wj (wj ⟨ns++[(a:Int)],_,_,_,_,by rw[show tpI (ns++[(a:Int)])=Val.f (ns.map Val.c++[Val.c a]) from congrArg Val.f DF];rfl,hf.snoc hz ha he,by rw[Al,Cv];omega,tt⟩)))
 . rintro e s' ⟨ns,o4,o5,o6,o7,rfl,hf,hl,t⟩
   refine yc (zB rfl) ?_;show (zm false s (tpI ns) s').post _;rw[vg t (by rw[nj];exact xQ _)]
   exact zC.mpr ⟨ns,rfl,hf,by simpa using hl,t⟩
end
end M
end
section
namespace F12
open PySem M
noncomputable def yM:Fn:=⟨["_law_sizes","_law_strip","_law_hue","_law_here","_law_size","_law_step"],["_law_sizes","_law_strip","_law_hue"],false,(.a (.p [3,4] (.a (.k .a false (.a (.e 1) .b)) (.a (.u (.e 0) (.e 2)) .b))) (.a (.j (.a 5) (.d (.g (.c 1)) (.j false .a (.j false .d (.e 3) (.j false .c (.e 4) (.g (.c 1)))) (.g (.c 1)))) (.a (.g (.a (.l .d (.q false ["_law_k","_law_hue","_law_strip","_law_here","_law_step"] [none,some 2,some 1,some 3,some 5] (.e 0) (.a 0) (.d (.g (.c 1)) (.e 4)) (.b (.a (.l .a (.u (.e 2) (.j false .c (.e 3) (.j false .b (.e 0) (.e 4)))) (.e 1))) .a)) (.s false .b))) (.a (.d (.g (.e true))) .b) .b) .b)) (.a (.d (.g (.e false))) .b)))⟩
noncomputable def zx:Fn:=⟨["_law_pen_here","_law_sizes","_law_limit","_law_found","_law_place","_law_hue","_law_some","_law_good"],["_law_pen_here","_law_sizes","_law_limit"],false,(.a (.f 3 (.p .b)) (.a (.j (.a 4) (.c (.h "_law_draw" 0 (.a (.e 0) (.a (.j false .a (.e 2) (.g (.c 1))) .b)))) (.a (.f 5 (.h "_law_draw" 0 (.a (.e 0) (.a (.k .a false (.a (.e 1) .b)) .b)))) (.a (.f 6 (.q false ["_law_k","_law_hue","_law_sizes"] [none,some 5,some 1] (.j false .e (.j false .a (.e 1) (.e 0)) (.k .a false (.a (.e 2) .b))) (.a 0) (.c (.k .a false (.a (.e 1) .b))) .a)) (.a (.f 7 (.q false ["_law_one","_law_sizes","_law_found"] [none,some 1,some 3] (.e 0) (.a 0) (.f (.e 6)) (.b (.b (.a (.h "_law_ended" 0 (.a (.e 1) (.a (.e 2) (.a (.e 0) .b)))))) .a))) (.a (.g (.a (.l .a (.e 7) (.s false .b))) (.a (.f 3 (.j false .a (.e 3) (.p (.a (.u (.e 7) (.g (.c 0))) .b)))) .b) .b) .b))))) (.a (.d (.e 3)) .b)))⟩
noncomputable def uW:Fn:=⟨["sizes","strips"],["sizes","strips"],false,(.a (.d (.y false ["strip","hue","sizes"] [none,none,some 0] (.j false .a (.e 0) (.p (.a (.e 1) .b))) (.a 0) (.f (.e 1)) .a (.a 1) (.c (.k .a false (.a (.e 2) .b))) (.b (.a (.h "may_follow" 0 (.a (.e 2) (.a (.e 0) (.a (.e 1) .b))))) .a))) .b)⟩
noncomputable def yr:Fn:=⟨["sizes","strip"],["sizes","strip"],false,(.a (.d (.j false .c (.k .a false (.a (.h "led_on" 0 (.a (.e 0) (.a (.e 1) .b))) .b)) (.k .a false (.a (.e 1) .b)))) .b)⟩
noncomputable def xX:Fn:=⟨["sizes","strip","strips","longer"],["sizes","strip"],false,(.a (.h (.h "need_small_sizes" 0 (.a (.e 0) .b))) (.a (.h (.h "need_fit" 0 (.a (.e 0) (.a (.e 1) .b)))) (.a (.f 2 (.s false (.a (.e 1) .b))) (.a (.f 3 (.h "grown" 0 (.a (.e 0) (.a (.e 2) .b)))) (.a (.m (.a (.e 3)) (.a (.f 2 (.e 3)) (.a (.f 3 (.h "grown" 0 (.a (.e 0) (.a (.e 2) .b)))) .b))) (.a (.d (.u (.e 2) (.g (.c 0)))) .b))))))⟩
noncomputable def zp:Fn:=⟨["thing","product"],["thing"],false,(.a (.h (.h "need_sizes" 0 (.a (.e 0) .b))) (.a (.f 1 (.h "product_of" 0 (.a (.e 0) .b))) (.a (.g (.a (.l .h (.e 1) (.A "MOST_PRODUCT"))) (.a (.k (.g .g)) .b) .b) .b)))⟩
noncomputable def xB:Fn:=⟨["numbers","product","number"],["numbers"],false,(.a (.f 1 (.g (.c 1))) (.a (.j (.a 2) (.f (.e 0)) (.a (.u 1 .b (.e 2)) .b)) (.a (.d (.e 1)) .b)))⟩
end F12
end
section
namespace M
open L2
def okH(zs ns:List Int):List Nat:=(Ao zs.length).filter λh=>!wQ ns (zY zs h) h
def yu(zs:List Int)(L:List (List Int)):List (List Int):=L.flatMap λns=>(okH zs ns).map λ(h:Nat)=>ns++[(h:Int)]
def yI(zs:List Int)(L:List (List Int)):Nat->List (List Int)
 |0=>L
 |n+1=>yu zs (yI zs L n)
theorem lI:y∈yu zs L↔∃x∈L,∃h:Nat,h<zs.length/\wQ x (zY zs h) h=false/\y=x++[(h:Int)]:=by
 unfold yu okH;rw[Cg];constructor
 . rintro ⟨x,hx,hy⟩
   obtain⟨h,hh,rfl⟩:=AQ.mp hy;rw[BJ,Ar,AG]at hh;exact⟨x,hx,h,hh.1,hh.2,rfl⟩
 . rintro ⟨x,hx,h,h1,h2,rfl⟩
   refine⟨x,hx,AQ.mpr ⟨h,?_,rfl⟩⟩;rw[BJ,Ar,AG];exact⟨h1,h2⟩
theorem qT(h:∀x∈L,x.length=k):∀n,∀x∈yI zs L n,x.length=k+n
 |0,x,hx=>h x hx
 |n+1,x,hx=>by obtain⟨y,hy,a,_,_,rfl⟩:=lI.mp hx;rw[Al,qT h n y hy];rfl
def dE(L:List (List Int)):Prop:=L.Pairwise λa b=>pL a b=true
theorem hU:∀{a b x y},pL a b=true->pL (a++x) (b++y)=true
 |[],[],_,_,h=>by cases h
 |[],_::_,_,_,h=>by cases h
 |_::_,[],_,_,h=>by cases h
 |u::a,v::b,x,y,h=>by
  rw[CO,CO];unfold pL at h ⊢;by_cases e:u=v
  . rw[if_pos e]at h ⊢;exact hU h
  . rw[if_neg e]at h ⊢;exact h
theorem lD:∀{a} {x y},x<y->pL (a++[x]) (a++[y])=true
 |[],x,y,h=>by
  show pL [x] [y]=true;unfold pL;rw[if_neg (by omega)];exact decide_eq_true h
 |u::a,x,y,h=>by rw[CO,CO];unfold pL;rw[if_pos rfl];exact lD h
theorem eD(h:dE L):dE (yu zs L):=by
 unfold dE yu;rw[ED];refine⟨λa _=>?_,h.imp λ{a b} hab x hx y hy=>?_⟩
 . rw[CA]
   exact(Dc.filter _).imp λ{i j} hij=>lD (by omega)
 . obtain⟨i,_,rfl⟩:=AQ.mp hx
   obtain⟨j,_,rfl⟩:=AQ.mp hy;exact hU hab
theorem eE(h:dE L):∀n,dE (yI zs L n)
 |0=>h
 |n+1=>eD (eE h n)
theorem cx(h:L.Sublist L'):(yu zs L).Sublist (yu zs L'):=by
 unfold yu;induction h with
 |slnil=>exact .slnil
 |cons a _ ih=>rw[BH];exact ih.trans (List.sublist_append_right _ _)
 |cons_cons a _ ih=>rw[BH,BH];exact ih.append_left _
theorem lC(h:L.Sublist L'):∀n,(yI zs L n).Sublist (yI zs L' n)
 |0=>h
 |n+1=>cx (lC h n)
theorem tv zs L m:∀n,yI zs (yI zs L m) n=yI zs L (m+n)
 |0=>rfl
 |n+1=>congrArg (yu zs) (tv zs L m n)
theorem ip(hz:Sz zs):∀n {ns},ns.length=n->Fit zs ns->ns∈yI zs [[]] n
 |0,ns,hl,_=>by rw[List.eq_nil_of_length_eq_zero hl];exact .head _
 |n+1,ns,hl,hf=>by
  have hne:ns≠[]:=λe=>by rw[e]at hl;cases hl
  have e:=List.dropLast_concat_getLast hne;have h1:(ns.take n)=ns.dropLast:=by rw[List.dropLast_eq_take,hl];rfl
  have hm:=ip hz n (ns:=ns.dropLast) (by rw[List.length_dropLast,hl];rfl) (by rw[<-h1];exact hf.take n)
  have hh:=hf.a _ (List.getLast_mem hne);obtain⟨h,eh⟩:∃h:Nat,ns.getLast hne=h:=⟨(ns.getLast hne).toNat,by omega⟩
  rw[eh]at e hh;refine lI.mpr ⟨_,hm,h,by omega,?_,e.symm⟩
  have hF:gS zs ns.dropLast:=by rw[<-h1];exact(hf.take n).b
  rw[<-oB hz hF (by omega),e]
  exact hf.b
theorem nN(hz:Sz zs)(hf:Fit zs ns)n:(yI zs [ns] n).Sublist (yI zs [[]] (ns.length+n)):=by rw[<-tv];exact lC (List.singleton_sublist.mpr (ip hz _ rfl hf)) n
def Z4(zs:List Int):Nat->List (List Int)->Bool
 |0,L=>L.isEmpty
 |n+1,L=>decide (L.length<=100)&&Z4 zs n (yu zs L)
theorem iW:∀{n} {L},Z4 zs n L=true->yI zs L n=[]/\∀m,m<n->(yI zs L m).length<=100
 |0,L,h=>⟨AL.mp h,λm hm=>absurd hm (Nat.not_lt_zero _)⟩
 |n+1,L,h=>by
  unfold Z4 at h;rw[cf]at h;have ⟨h1,h2⟩:=iW h.2;have e:∀m,yI zs (yu zs L) m=yI zs L (m+1):=λm=>by have:=tv zs L 1 m;rw[show yI zs L 1=yu zs L from rfl,Nat.add_comm 1 m]at this;exact this
  rw[e]at h1;refine⟨h1,λm hm=>?_⟩;cases m with
  |zero=>exact of_decide_eq_true h.1
  |succ m=>rw[<-e];exact h2 m (by omega)
noncomputable def ZQ:List (List Int):=[3,3]::[3,4]::[4,3]::[2,2,3]::[2,3,2]::[3,2,2]::[2,6]::[5,2]::[2,4]::[3,2]::[2,2]::[2,2,2]::[2]::[3]::[5]::[8]::[]
theorem jo:(ZQ.all λzs=>Z4 zs 18 [[]]&&decide (zs.foldl (·*·) 1<=12)&&(decide (1<=zs.length)&&decide (zs.length<=4)&&zs.all λx=>decide (2<=x)&&decide (x<=8)))=true:=by decide +kernel
theorem lB(h:yI zs L n=[]):∀m,yI zs L (n+m)=[]:=λm=>by
 rw[<-tv,h];induction m with
 |zero=>rfl
 |succ m ih=>show yu zs (yI zs [] m)=[];rw[ih];rfl
structure xD(zs:List Int):Prop where
 a:Sz zs
 c:zs.foldl (·*·) 1<=12
 b:∀m,18<=m->yI zs [[]] m=[]
 d:∀m,(yI zs [[]] m).length<=100
theorem ZP(h:zs∈ZQ):xD zs:=by
 have:=Aq.mp jo zs h;simp only[cf,decide_eq_true_eq,Aq]at this;obtain⟨⟨h1,h2⟩,⟨h3,h4⟩,h5⟩:=this;have ⟨d1,d2⟩:=iW h1;have d3:∀m,18<=m->yI zs [[]] m=[]:=λm hm=>by
  have:=lB d1 (m-18)
  rwa [show 18+(m-18)=m by omega]at this
 refine⟨⟨h3,h4,λx hx=>h5 x hx⟩,h2,d3,λm=>?_⟩;by_cases hm:m<18
 . exact d2 m hm
 . rw[d3 m (by omega)];simp
end M
end
section
namespace M
open PySem
abbrev tps(L:List (List Int)):List Val:=L.map tpI
noncomputable def unI:Val->List Int
 |.f vs=>vs.map λv=>match v with|.c i=>i|_=>0
 |_=>[]
theorem j9 ns:unI (tpI ns)=ns:=by show (ns.map Val.c).map _=ns;rw[DZ];exact List.map_id' ns
theorem tD:∀L:List (List Int),zr (tps L)=true
 |[]=>rfl
 |ns::L=>by show (Val.noRef (tpI ns)&&zr (tps L))=true;rw[tD L,GA];exact xQ ns
theorem gx{G:Nat->Val}{n:Nat}(hF:∀k<n,F (.c k)=if f k then [G k] else []):(yb 0 n).flatMap F=((Ao n).filter f).map G:=by
 unfold yb;rw[Ep];have:∀l:List Nat,(∀k∈l,k<n)->l.flatMap (λ(k:Nat)=>F (.c (0+(k:Int))))=(l.filter f).map G:=λl=>by
  induction l with
  |nil=>intro _;rfl
  |cons k l ih=>
   intro h;rw[BH,ih λj hj=>h j (.tail _ hj),show (0:Int)+(k:Int)=(k:Int) by omega,hF k (h k (.head _)),List.filter_cons]
   cases f k<;>rfl
 exact this _ λk hk=>Ar.mp hk
def az(zs ns:List Int):Val->List Val
 |.c a=>if !wQ ns (zY zs a.toNat) a then [tpI (ns++[a])] else []
 |_=>[]
theorem Xe zs ns:(yb 0 zs.length).flatMap (az zs ns)=tps ((okH zs ns).map λ(h:Nat)=>ns++[(h:Int)]):=by
 rw[gx (f:=λh=>!wQ ns (zY zs h) h) (G:=λh=>tpI (ns++[(h:Int)])) (λk _=>by simp[az])]
 show _=DT tpI (DT _ (List.filter _ _));rw[DZ];rfl
section
variable {T:Tbl}{Φ:Calls}{s:Sto}
def WA(Φ:Calls):Prop:=∀(zs:List Int) (s:Sto),Sz zs->Φ "product_of" 0 [tpI zs] s=.e (.c (zs.foldl (·*·) 1)) s
theorem ZF(hz:Sz zs):run T Φ F12.xB [tpI zs] s=.e (.c (zs.foldl (·*·) 1)) s:=by
 rw[post_eq];simp[F12.xB,EVl,zV,zR];refine wd (λrest e s'=>s'=s/\∃o2 acc todo,e=[some (tpI zs),some (.c acc),o2]/\rest=todo.map Val.c/\(∀x∈todo,2<=x/\x<=8)/\todo.foldl (·*·) acc=zs.foldl (·*·) 1) (zs.map .c) (s1:=s) ?_ ⟨rfl,_,_,zs,rfl,rfl,hz.2.2,rfl⟩ ?_ ?_
 . rw[post_eq]
   simp[EVl,zV,zR]
 . rintro x rest e s' ⟨rfl,o2,acc,todo,rfl,hr,hb,hf⟩
   cases todo with
   |nil=>cases hr
   |cons y todo=>
    rw[AN]at hr;injection hr with h1 h2
    subst h1;have hy:=hb y (.head _);refine⟨_,rfl,?_⟩;rw[zZ];show (Out.bind (binOp false .b (.c acc) (.c y) s') _).post _;rw[iO (by omega),zM]
    simp only[EVl,zV,zR];exact⟨trivial,_,_,todo,rfl,h2,λx hx=>hb x (.tail _ hx),hf⟩
 . rintro e s' ⟨rfl,o2,acc,todo,rfl,hr,hb,hf⟩
   have ht:todo=[]:=by cases todo with|nil=>rfl|cons _ _=>cases hr
   subst ht;simp[EVl,zV,zR];exact hf
def uw(Φ:Calls):Prop:=∀(zs:List Int) (s:Sto),xD zs->Φ "need_small_sizes" 0 [tpI zs] s=.e .g s
theorem pN(g:T.b "MOST_PRODUCT"=some (.c 12))(c1:vW Φ)(c2:WA Φ)(hz:xD zs):run T Φ F12.zp [tpI zs] s=.e .g s:=by
 rw[post_eq];have h12:¬(12<zs.foldl (·*·) 1):=by have:=hz.c;omega
 simp[F12.zp,EVl,zV,zR,c1 zs s hz.a,c2 zs s hz.a,g,gt_int,h12]
theorem cZ(c:Wu Φ){L:List (List Int)}(hz:Sz zs)(hL:∀x∈L,x.length<=40)(hl:(yu zs L).length<=zO)(hi:yh Φ G env (.f (.e 1)) s=.e ⟨tps L,at_⟩ s)(ho:Src.ok ⟨tps L,at_⟩ s=true)(h0:zR [none,none,some 0] env=[none,none,some (tpI zs)])
  (hP:(newList m (tps (yu zs L)) s).post P) :
 (evE Φ G env (.y m N [none,none,some 0] (.j false .a (.e 0) (.p (.a (.e 1) .b))) (.a 0) (.f (.e 1)) .a (.a 1) (.c (.k .a false (.a (.e 2) .b))) (.b (.a (.h "may_follow" 0 (.a (.e 2) (.a (.e 0) (.a (.e 1) .b))))) .a)) s).post P:=by
 have key:(tps L).flatMap (λx=>tps ((okH zs (unI x)).map λ(h:Nat)=>unI x++[(h:Int)]))=tps (yu zs L):=by unfold yu;show _=DT tpI (List.flatMap _ _);rw[Ep,List.map_flatMap];congr 1;funext ns;rw[j9]
 refine XG (λe=>∃a b,e=[a,b,some (tpI zs)]) (λx=>tps ((okH zs (unI x)).map λ(h:Nat)=>unI x++[(h:Int)])) (λx e=>∃b,e=[some x,b,some (tpI zs)]) (λx=>az zs (unI x)) ?_;refine⟨_,_,hi,ho,⟨_,_,h0⟩,?_,?_,?_⟩
 . rintro x hx e ⟨a,b,rfl⟩
   obtain⟨ns,hns,rfl⟩:=AQ.mp hx;have hn:=hL ns hns;refine⟨_,rfl,?_⟩;simp only[EVl,zV,zR,if_true];refine⟨trivial,_,rfl,?_⟩;rw[rO,Ab];simp only[zC];refine⟨_,rfl,⟨by omega,by have:=hz.2.1;unfold zO;omega⟩,trivial,trivial,⟨_,rfl⟩,?_,?_,?_⟩
   . rintro e ⟨b,rfl⟩;exact⟨_,_,rfl⟩
   . rw[j9,Bl,Xe]
   . rintro y hy e ⟨b,rfl⟩
     obtain⟨k,hk,rfl⟩:=nV hy;rw[Bl]at hk;rw[show (0:Int)+(k:Int)=(k:Int) by omega]
     refine⟨_,rfl,⟨_,rfl⟩,?_⟩;refine⟨_,rfl,_,rfl,_,rfl,?_⟩;rw[c zs ns k s hz hn hk];simp only[zC,zc];refine⟨_,rfl,?_⟩;rw[j9];cases he:wQ ns (zY zs k) k with
     |true=>simp[az,he]
     |false=>
      simp only[Bool.not_false,if_true,zC,true_and];refine⟨_,rfl,_,rfl,?_⟩;rw[if_pos (by simp[zO]),ot (by simp[zO];omega)]
      simp[az,he,EVl,zV,zR]
 . show Small ((tps L).flatMap _)
   rw[key];show (tps (yu zs L)).length<=zO;rw[Ab];exact hl
 . show (newList m ((tps L).flatMap _) s).post P
   rw[key];exact hP
def iI(Φ:Calls):Prop:=∀(zs:List Int) (L:List (List Int)) (s:Sto),Sz zs->(∀x∈L,x.length<=40)->(yu zs L).length<=zO->Φ "grown" 0 [tpI zs,.j (tps L)] s=.e (.j (tps (yu zs L))) s
theorem jh(c:Wu Φ)(hz:Sz zs)(hL:∀x∈L,x.length<=40)(hl:(yu zs L).length<=zO):run T Φ F12.uW [tpI zs,.j (tps L)] s=.e (.j (tps (yu zs L))) s:=by rw[post_eq,F12.uW,wB];refine⟨rfl,?_⟩;rw[zZ,lS];refine cZ c hz hL hl (at_:=none) rfl rfl rfl ?_;simp only[M.newList,AO,if_false,zC,mO,kY];rw[yH (v:=.j (tps (yu zs L))) (tD _)];exact zC.mpr ⟨rfl,rfl⟩
end
end M
end
section
namespace M
open PySem
theorem Yu(h:xD zs)n:∀x∈yI zs [[]] n,x.length=n/\n<18:=λx hx=>by
 have:=qT (k:=0) (L:=[[]]) (zs:=zs) (λx hx=>by rw[Av.mp hx];rfl) n x hx
 refine⟨by omega,?_⟩
 by_cases hn:n<18
 . exact hn
 . rw[h.b n (by omega)]at hx;cases hx
theorem fL(h:xD zs)n:∀x∈yI zs [[]] n,x.length<=40:=λx hx=>by have:=Yu h n x hx;omega
end M
end
section
namespace M
open PySem
structure Zr(zs x:List Int)(N:Nat):Prop where
 a:yI zs [x] N=[]
 on:∀m,m<N->yI zs [x] m≠[]
 le:N<=18
 b:0<N
theorem YF(h:xD zs)(hf:Fit zs x):∃N,Zr zs x N:=by
 have key:∀n,yI zs [x] n=[]->∃N,N<=n/\yI zs [x] N=[]/\∀m,m<N->yI zs [x] m≠[]:=λn=>by
  induction n with
  |zero=>intro e;cases e
  |succ n ih=>
   intro e;by_cases hn:yI zs [x] n=[]
   . obtain⟨N,h1,h2,h3⟩:=ih hn
     exact⟨N,by omega,h2,h3⟩
   . refine⟨n+1,Ac _,e,λm hm he=>?_⟩
     have:=lB he (n-m);rw[show m+(n-m)=n by omega]at this
     exact hn this
 have d:yI zs [x] 18=[]:=by
  have:=nN h.a hf 18;rw[h.b _ (by omega)]at this
  exact List.sublist_nil.mp this
 obtain⟨N,h1,h2,h3⟩:=key 18 d;refine⟨N,h2,h3,h1,?_⟩;cases N with
 |zero=>cases h2
 |succ N=>omega
theorem Qu(h:xD zs)(hf:Fit zs x)n:(yI zs [x] n).length<=100:=AD (nN h.a hf n).length_le (h.d _)
theorem QI(h:xD zs)(hf:Fit zs x)n:(yI zs [x] n).length<=zO:=AD (Qu h hf n) (by unfold zO;omega)
theorem Qw n:∀y∈yI zs [x] n,y.length=x.length+n:=qT (λy hy=>by rw[Av.mp hy]) n
theorem xle(h:xD zs)(hf:Fit zs x)n:∀y∈yI zs [x] n,y.length<=40:=λy hy=>by have h1:=(nN h.a hf n).subset hy;exact fL h _ y h1
theorem YN(h:L.head?=some y):vP (.j (tps L)) (.c 0) s=.e (tpI y) s:=by
 cases L with
 |nil=>cases h
 |cons z L=>cases h;exact kj (k:=0) rfl
section
variable {T:Tbl}{Φ:Calls}{s:Sto}
def ez(Φ:Calls):Prop:=∀(zs x y:List Int) (N:Nat) (s:Sto),xD zs->Fit zs x->x.length<=40->Zr zs x N->(yI zs [x] (N-1)).head?=some y->Φ "led_on" 0 [tpI zs,tpI x] s=.e (tpI y) s
theorem eK(c1:uw Φ)(c2:rk Φ)(c:iI Φ)(hz:xD zs)(hf:Fit zs x)(hl:x.length<=40)(hN:Zr zs x N)(hy:(yI zs [x] (N-1)).head?=some y):run T Φ F12.xX [tpI zs,tpI x] s=.e (tpI y) s:=by
 have hg:∀m s,Φ "grown" 0 [tpI zs,.j (tps (yI zs [x] m))] s=.e (.j (tps (yI zs [x] (m+1)))) s:=λm s=>c zs (yI zs [x] m) s hz.a (xle hz hf m) (QI hz hf (m+1));have h0:.j [tpI x]=Val.j (tps (yI zs [x] 0)):=rfl;rw[post_eq,F12.xX,wB];refine⟨rfl,?_⟩;rw[zZ,ny,ql,wc,w9];refine⟨_,rfl,?_⟩;rw[tx,c1 zs s hz,zC,vA,zZ,ny,ql,wc,w9];refine⟨_,rfl,?_⟩;rw[wc,w9];refine⟨_,rfl,?_⟩;rw[tx,c2 zs x s hz.a hf hl,zC,vA,zZ,oK,WW,wc,w9];refine⟨_,rfl,?_⟩;rw[tx,if_pos (by simp[zO])]
 simp only[M.newList,AO,if_false,zC,vA];rw[zZ,oK,ql,wc,w9];refine⟨_,rfl,?_⟩;rw[wc,w9];refine⟨_,rfl,?_⟩;rw[tx,h0,hg,zC,vA,zZ];have n0:=hN.b;refine XM (N-1) (λk e s'=>s'=s/\∃m,m+1+k=N/\e=[some (tpI zs),some (tpI x),some (.j (tps (yI zs [x] m))),some (.j (tps (yI zs [x] (m+1))))]) (by have:=hN.le;unfold mV;omega) ⟨rfl,0,by omega,rfl⟩ ?_
 rintro k e s' ⟨rfl,m,hm,rfl⟩;rw[aQ,w9];refine⟨_,rfl,_,Zc,?_⟩;cases k with
 |zero=>
  have hmN:m+1=N:=by omega
  rw[show m=N-1 by omega]
  rw[show N-1+1=N by omega,hN.a,if_neg (by simp),vA,zZ,lS,RB,w9]
  refine⟨_,rfl,?_⟩;rw[WV,YN hy,zC,mO,kY,yH (v:=tpI y) (xQ _)];exact zC.mpr ⟨rfl,rfl⟩
 |succ k=>
  have ht:(!(tps (yI zs [x] (m+1))).isEmpty)=true:=by
   cases hL:yI zs [x] (m+1) with
   |nil=>exact absurd hL (hN.on (m+1) (by omega))
   |cons _ _=>rfl
  rw[if_pos ht,zZ,oK,w9];refine⟨_,rfl,?_⟩;rw[vA,zZ,oK,ql,wc,w9];refine⟨_,rfl,?_⟩;rw[wc,w9];refine⟨_,rfl,?_⟩;rw[tx,hg,zC,vA,nz,gK];exact⟨k,by omega,rfl,m+1,by omega,rfl⟩
theorem l6(c:ez Φ)(hz:xD zs)(hf:Fit zs x)(hl:x.length<=40)(hN:Zr zs x N)(hy:(yI zs [x] (N-1)).head?=some y):run T Φ F12.yr [tpI zs,tpI x] s=.e (.c ((y.length:Int)-x.length)) s:=by rw[post_eq];simp[F12.yr,EVl,zV,zR,c zs x y N s hz hf hl hN hy,rO,gX]
end
end M
end
section
namespace M
open PySem
def endOf(ms:List Int)(st:List (Nat × Nat)):List Int:=st.foldl (λms q=>putL ms q.1 q.2) ms
def SO(zs:List Int):List Int->List (Nat × Nat)->Prop
 |_,[]=>True
 |ms,(p,h)::st=>ms[p]?=some (-1)/\Sw zs ms p=[h]/\SO zs (putL ms p h) st
theorem SO.append:∀{st st'} {ms},SO zs ms st->SO zs (endOf ms st) st'->SO zs ms (st++st')
 |[],_,_,_,h=>h
 |(p,h)::st,st',ms,⟨a,b,c⟩,d=>⟨a,b,SO.append c d⟩
end M
end
section
namespace M
open PySem
def Wr(zs ns:List Int)(f d:Nat):Prop:=∃h:Nat,ns[f]?=some (h:Int)/\h<zs.length/\0<d/\f+d*(zY zs h-1)<ns.length/\uL ns f d (zY zs h)=true
theorem sr(hz:Sz zs):(f,d)∈yE zs ns↔Wr zs ns f d:=by
 unfold yE Wr;rw[Cg];constructor
 . rintro ⟨h,hh,hr⟩
   have hh:=Ar.mp hh;obtain⟨z1,z2,z3⟩:=yS hz hh;obtain⟨h1,h2⟩:=BJ.mp hr;obtain⟨h3,h4⟩:=(tw z2).mp h1;have ha:=xG.mp h2;have h0:=ha 0 (by omega)
   rw[Nat.zero_mul,Nat.add_zero]at h0;refine⟨h,h0,hh,h3,h4,Aq.mpr λk hk=>decide_eq_true ?_⟩;rw[ha k (Ar.mp hk),h0]
 . rintro ⟨h,h0,hh,h3,h4,ho⟩
   obtain⟨z1,z2,z3⟩:=yS hz hh;refine⟨h,Ar.mpr hh,BJ.mpr ⟨(tw z2).mpr ⟨h3,h4⟩,xG.mpr λk hk=>?_⟩⟩;rw[of_decide_eq_true (Aq.mp ho k (Ar.mpr hk)),h0]
def se(zs ns:List Int):Val:=match vq ((yE zs ns).map toI) with
 |[]=>.g
 |z::_=>prV z
theorem cn(hz:Sz zs)(h:∀f d,¬Wr zs ns f d):se zs ns=.g:=by have e:yE zs ns=[]:=List.eq_nil_iff_forall_not_mem.mpr λ⟨f,d⟩ hm=>h f d ((sr hz).mp hm);unfold se;rw[e];rfl
theorem cq(hz:Sz zs)(hn:ns.length<=40)(h:Wr zs ns f d)(hm:∀f' d',Wr zs ns f' d'->f<f'\/f=f'/\d<=d'):se zs ns=.f [.c f,.c d]:=by
 obtain⟨_,w2,w3⟩:=ee hz hn;have hs:=ZT w2 w3;have hp:=xu ((yE zs ns).map toI);have hin:((f:Int),(d:Int))∈(yE zs ns).map toI:=AQ.mpr ⟨(f,d),(sr hz).mpr h,rfl⟩;have hin':=hp.mem_iff.mpr hin;unfold se;generalize vq ((yE zs ns).map toI)=l at *;cases l with
 |nil=>cases hin'
 |cons z l=>
  rw[C1]at hs;have e:z=((f:Int),(d:Int)):=by
   rcases Aj.mp hin' with q|q
   . exact q.symm
   . have lt:=hs.1 _ q
     have hz':=hp.mem_iff.mp (Ap (a:=z) (l:=l));obtain⟨⟨f',d'⟩,k1,rfl⟩:=AQ.mp hz';have b1:=w3 _ hz';have b2:=w3 _ hin;have:=hm f' d' ((sr hz).mp k1);unfold toI at lt b1;have lt:=(L2.dz b1 b2).mp lt;dsimp only at lt b1 b2;omega
  rw[e];rfl
theorem gz:(se zs ns).isN=(yE zs ns).isEmpty:=by
 unfold se;have hp:=(xu ((yE zs ns).map toI)).length_eq;rw[Ab]at hp;generalize vq ((yE zs ns).map toI)=l at *;cases l with
 |nil=>
  have:yE zs ns=[]:=List.length_eq_zero_iff.mp hp.symm;rw[this];rfl
 |cons z l=>
  cases hw:yE zs ns with
  |nil=>rw[hw]at hp;simp at hp
  |cons a b=>rfl
end M
end
section
namespace M
open PySem
theorem drop_cons{α:Type}{l r:List α}{x}(h:x::r=l.drop i):l[i]?=some x/\r=l.drop (i+1):=by
 have hi:i<l.length:=by have:=congrArg Ed h;rw[AF,CM]at this;omega
 rw[DG hi]at h;injection h with h1 h2
 exact⟨by rw[Aa hi,h1],h2⟩
theorem drop_nil{α:Type}{l:List α}(h:[]=l.drop i):l.length<=i:=by have:=congrArg Ed h;rw[BW,CM]at this;omega
theorem gr{ns:List Int}{x:Val}(h:(yQ 0 (ns.map .c))[i]?=some x):∃k,ns[i]?=some k/\x=.f [.c (i:Nat),.c k]:=by
 rw[vO,AR]at h;cases hi:ns[i]? with
 |none=>rw[hi]at h;cases h
 |some k=>
  rw[hi]at h;refine⟨k,rfl,?_⟩;have h:=(AA h).symm;rw[h,EV]
theorem Xc(h:(yb lo n)[j]?=some x):j<n/\x=.c (lo+j):=by unfold yb at h;rw[AR]at h;obtain⟨k,h1,rfl⟩:=A1.mp h;obtain⟨h2,h3⟩:=Am.mp h1;rw[List.getElem_range]at h3;subst h3;exact⟨by rwa [Bx]at h2,rfl⟩
section
variable {T:Tbl}{Φ:Calls}{s:Sto}
def eu(Φ:Calls):Prop:=∀(zs ns:List Int) (s:Sto),Sz zs->(∀x∈ns,x<zs.length)->ns.length<=40->Φ "first_row_wrong" 0 [tpI zs,tpI ns] s=.e (se zs ns) s
theorem eI(cM:X8 Φ)(cO:TY Φ){zs ns:List Int}(hz:Sz zs)(hu:∀x∈ns,x<zs.length)(hn:ns.length<=40):run T Φ F.z8 [tpI zs,tpI ns] s=.e (se zs ns) s:=by
 have hl:blt .a false [tpI ns] s=.e (.c ns.length) s:=by rw[rO,Ab]
 rw[post_eq,F.z8,wB];refine⟨rfl,?_⟩;show (ze Φ T.b [some (tpI zs),some (tpI ns),none,none,none] _ s).post _;refine zZ.mpr (wd (λrest e s'=>s'=s/\(∃o2 o3 o4,e=[some (tpI zs),some (tpI ns),o2,o3,o4])/\∃i,rest=(yQ 0 (ns.map .c)).drop i/\∀f d,Wr zs ns f d->i<=f) (yQ 0 (ns.map .c)) (s1:=s) (iw (zB rfl)) ⟨rfl,⟨_,_,_,rfl⟩,0,rfl,λ_ _ _=>BC _⟩ ?_ ?_)
 . rintro x rest e s' ⟨rfl,⟨o2,o3,o4,rfl⟩,f,hr,hW⟩
   obtain⟨hx,hr'⟩:=drop_cons hr;obtain⟨i,hk,rfl⟩:=gr hx;refine⟨_,rfl,?_⟩;have hi:=hu i (AE hk);by_cases h0:0<=i
   . obtain⟨h,rfl⟩:∃h:Nat,i=h:=⟨i.toNat,by omega⟩
     have hh:h<zs.length:=by omega
     obtain⟨z1,z2,z3⟩:=yS hz hh;have hfl:=qA hk;have c1:=cM ns.length f (zY zs h) s' hfl z2 z3;have i1:=si (s:=s') z1;have own:∀{h':Nat},ns[f]?=some (h':Int)->h=h':=λq1=>by rw[hk]at q1;have:=AA q1;omega
     refine sI (yW (ye (zB rfl) zF ge_int) (by rw[zc,decide_eq_true h0])) ?_
     have hK:(ns.length-1-f)/(zY zs h-1)<=40:=AD (DI _ _) (by omega)
     refine zZ.mpr (wd (λrest e s''=>s''=s'/\(∃o4,e=[some (tpI zs),some (tpI ns),some (.c f),some (.c h),o4])/\∃j,rest=(yb ((1:Nat):Int) ((ns.length-1-f)/(zY zs h-1))).drop j/\∀d,Wr zs ns f d->j<d) (yb ((1:Nat):Int) ((ns.length-1-f)/(zY zs h-1))) (s1:=s') (iy (i:=1) (j:=(ns.length-1-f)/(zY zs h-1)+1) zF (zd (x_call (zA (yx (zA (zB rfl) zD) hl) (zA (zB rfl) (zA (vV (zB rfl) (zB rfl) i1) zD))) c1) zF oz) (by omega) (by omega)) ⟨rfl,⟨_,rfl⟩,0,rfl,λd hd=>?_⟩ ?_ ?_)
     . obtain⟨_,_,_,h3,_⟩:=hd;exact h3
     . rintro x rest2 e s'' ⟨rfl,⟨o4,rfl⟩,j,hr2,hJ⟩
       obtain⟨hx2,hr2'⟩:=drop_cons hr2;obtain⟨hj,rfl⟩:=Xc hx2;have d2:f+(j+1)*(zY zs h-1)<ns.length:=by
        rw[Dh,BN (by omega)]at hj
        omega
       have ej:((1:Nat):Int)+(j:Int)=((j+1:Nat):Int):=by omega
       rw[ej];generalize hd:j+1=d at *;refine⟨_,rfl,?_⟩;have c2:=cO ns f d (zY zs h) s'' (by omega) (by omega) d2 (by unfold zO;omega)
       cases ho:uL ns f d (zY zs h) with
       |true=>
        rw[ho]at c2;refine sI (yW (x_call (zA (zB rfl) (zA (zB rfl) (zA (zB rfl) (zA (vV (zB rfl) (zB rfl) i1) zD)))) c2) zc) (yc (yK (zA (zB rfl) (zA (zB rfl) zD)) (show 2<=zO by unfold zO;omega)) ?_)
        have w:Wr zs ns f d:=⟨h,hk,hh,by omega,d2,ho⟩
        have:=cq hz hn w λf' d' w'=>by
         have h1:=hW f' d' w';by_cases e:f=f'
         . subst e
           have:=hJ d' w';exact .inr ⟨rfl,by omega⟩
         . exact .inl (by omega)
        rw[this];show (zm false s'' _ s'').post _;rw[yH rfl];exact zC.mpr ⟨rfl,rfl⟩
       |false=>
        rw[ho]at c2;refine wg (yW (x_call (zA (zB rfl) (zA (zB rfl) (zA (zB rfl) (zA (vV (zB rfl) (zB rfl) i1) zD)))) c2) zc) (wj ⟨rfl,⟨_,rfl⟩,d,hr2',λd' w'=>?_⟩);have h1:=hJ d' w';by_cases e:d'=d
        . subst e
          obtain⟨h',q1,_,_,_,q5⟩:=w';have:=own q1;subst this;rw[ho]at q5;cases q5
        . omega
     . rintro e s'' ⟨rfl,⟨o4,rfl⟩,j,hr2,hJ⟩
       have hj:=drop_nil hr2;refine wj (wj ⟨rfl,⟨_,_,_,rfl⟩,f+1,hr',λf' d' w'=>?_⟩);have h1:=hW f' d' w';by_cases e:f'=f
       . subst e
         have h2:=hJ d' w';obtain⟨h',q1,_,q3,q4,_⟩:=w';have:=own q1;subst this;unfold yb at hj;rw[Ab,Bx]at hj;have:d'<=(ns.length-1-f')/(zY zs h-1):=by
          rw[BN (by omega)]
          omega
         omega
       . omega
   . refine wg (yW (ye (zB rfl) zF ge_int) (by rw[zc,decide_eq_false h0])) (wj ⟨rfl,⟨_,_,_,rfl⟩,f+1,hr',λf' d' w'=>?_⟩)
     have h1:=hW f' d' w';by_cases e:f'=f
     . subst e
       obtain⟨h',q1,_⟩:=w';rw[hk]at q1;have:=AA q1;omega
     . omega
 . rintro e s' ⟨rfl,⟨o2,o3,o4,rfl⟩,i,hr,hW⟩
   have hi:=drop_nil hr;have hl:(yQ 0 (ns.map .c)).length=ns.length:=wV.trans (Ab _);have:=cn hz (ns:=ns) λf d w=>by have h1:=hW f d w;obtain⟨h',q1,_⟩:=w;have:=qA q1;omega
   refine yc zF ?_;rw[this];show (zm false s' _ s').post _;rw[yH ni];exact zC.mpr ⟨rfl,rfl⟩
end
end M
end
section
namespace M
open PySem
structure Th(k w:Nat)(v:Val):Prop where
 nr:v.noRef=true
 kd:kindOf v≠none
 r:v.isR=true
 lf:L2.oo k w v.d
 nd:v.d.hasDict=false
 dr:∀s,yg s v=v
theorem TF(h1:-(10 ^ 30)<i)(h2:i<10 ^ 30):Th 0 100 (.c i):=⟨nh,nofun,by rw[Val.isR],by rw[Val.d];exact L2.bx h1 h2,by rw[Val.d];rfl,λ_=>rfl⟩
theorem ths:∀{vs},(∀v∈vs,Th k w v)->zr vs=true/\rS vs=true/\(ds vs).length=vs.length/\∀d∈ds vs,L2.oo k w d/\d.hasDict=false
 |[],_=>⟨nk,by rw[rS],by rw[ds];rfl,λd h=>by rw[ds]at h;cases h⟩
 |v::vs,h=>by
  obtain⟨a,b,c,e⟩:=ths λx hx=>h x (.tail _ hx);have t:=h v (.head _);refine⟨by rw[qd,t.nr,a];rfl,by rw[rS,t.r,b];rfl,by rw[ds,AF,AF,c],λd hd=>?_⟩
  rw[ds]at hd;rcases Aj.mp hd with rfl|hd
  . exact⟨t.lf,t.nd⟩
  . exact e d hd
theorem TH(h:∀v∈vs,Th k w v)(hn:vs.length<=n):Th (k+1) (n*(w+1)) (.f vs):=by
 obtain⟨a,b,c,e⟩:=ths h;refine⟨by rw[nj];exact a,nofun,by rw[Val.isR];exact b,by rw[Val.d];exact L2.kq (λd hd=>(e d hd).1) (by rw[c];exact hn),?_,λ_=>rfl⟩
 rw[Val.d,PyData.hasDict];exact L2.oJ λd hd=>(e d hd).2
end M
end
section
namespace M
open PySem
theorem Zm:yU l m (.c i)=(decide (l<=i)&&decide (i<=m)):=rfl
theorem Yx{k:Nat}(h:k<=1000)(h1:vs≠[])(h2:vs.length<=1000):binOp m .b (.f vs) (.c k) s=.e (.f (Ak k vs).flatten) s:=by simp only[binOp];rw[if_pos ⟨by omega,by omega,h1,h2⟩,Bl]
end M
end
section
namespace M
open PySem
noncomputable def U0(zs:List Int):Val->List Val
 |.f [.c i,.c h]=>if (zs.length:Int)<=h then [.c i] else []
 |_=>[]
def kC(zs ns:List Int):List Val:=(yQ 0 (ns.map .c)).flatMap (U0 zs)
theorem Xp(h:v∈kC zs ns):∃k:Nat,v=.c k/\k<ns.length:=by
 obtain⟨x,hx,hv⟩:=Cg.mp h;obtain⟨k,i,hk,rfl⟩:=sq hx;have hv:v∈if (zs.length:Int)<=i then [Val.c (k:Nat)] else []:=hv
 by_cases hi:(zs.length:Int)<=i
 . rw[if_pos hi]at hv
   exact⟨k,Av.mp hv,qA hk⟩
 . rw[if_neg hi]at hv;cases hv
theorem gL(h:kC zs ns=[]):∀x∈ns,x<zs.length:=λx hx=>by
 obtain⟨k,hk⟩:=Dq hx;have hm:Val.f [.c ((0+k:Nat):Int),.c x]∈yQ 0 (ns.map .c):=AE (i:=k) (by rw[vO,AR,hk];rfl)
 have:=F4.mp h _ hm;by_cases hi:(zs.length:Int)<=x
 . have this:(if (zs.length:Int)<=x then [Val.c ((0+k:Nat):Int)] else [])=[]:=this
   rw[if_pos hi]at this;cases this
 . omega
def kg(zs ns:List Int):Val:=match kC zs ns with
 |[]=>.g
 |v::_=>v
noncomputable def Wd:Val->Val
 |.f [a,b]=>.f [.h "row",a,b]
 |_=>.g
def vD(zs ns:List Int):Val:=match kC zs ns with
 |v::_=>.f [.h "hue",v]
 |[]=>Wd (se zs ns)
theorem oC zs ns:(vq ((yE zs ns).map toI)=[]/\se zs ns=.g)\/∃z l,vq ((yE zs ns).map toI)=z::l/\se zs ns=.f [.c z.1,.c z.2]:=by
 unfold se;cases vq ((yE zs ns).map toI) with
 |nil=>exact .inl ⟨rfl,rfl⟩
 |cons z l=>exact .inr ⟨z,l,rfl,rfl⟩
section
variable {T:Tbl}{Φ:Calls}{s:Sto}
def et(Φ:Calls):Prop:=∀(zs ns:List Int) (s:Sto),Φ "first_hue_wrong" 0 [tpI zs,tpI ns] s=.e (kg zs ns) s
theorem eH:run T Φ F.z7 [tpI zs,tpI ns] s=.e (kg zs ns) s:=by
 have hl:blt .a false [tpI zs] s=.e (.c zs.length) s:=by rw[rO,Ab]
 rw[post_eq,F.z7,wB];refine⟨rfl,?_⟩;show (ze Φ T.b [some (tpI zs),some (tpI ns),none,none] _ s).post _;refine zZ.mpr (wd (λrest e s'=>s'=s/\(∃o2 o3,e=[some (tpI zs),some (tpI ns),o2,o3])/\(∀x∈rest,x∈yQ 0 (ns.map .c))/\kC zs ns=rest.flatMap (U0 zs)) (yQ 0 (ns.map .c)) (s1:=s) (iw (zB rfl)) ⟨rfl,⟨_,_,rfl⟩,λx hx=>hx,rfl⟩ ?_ ?_)
 . rintro x rest e s' ⟨rfl,⟨o2,o3,rfl⟩,hr,hS⟩
   obtain⟨k,i,hk,rfl⟩:=sq (hr x (.head _));have hr':∀x∈rest,x∈yQ 0 (ns.map .c):=λx hx=>hr x (.tail _ hx);refine⟨_,rfl,?_⟩;rw[BH,show U0 zs (.f [.c (k:Nat),.c i])=if (zs.length:Int)<=i then [Val.c (k:Nat)] else [] from rfl]at hS
   by_cases hn:(zs.length:Int)<=i
   . rw[if_pos hn]at hS
     have:kg zs ns=.c (k:Nat):=by unfold kg;rw[hS];rfl
     refine sI (yW (ye (zB rfl) (yx (zA (zB rfl) zD) hl) ge_int) (by rw[zc,decide_eq_true hn])) (yc (zB rfl) ?_)
     rw[this];show (zm false s' _ s').post _;rw[yH nh];exact zC.mpr ⟨rfl,rfl⟩
   . rw[if_neg hn]at hS
     exact wg (yW (ye (zB rfl) (yx (zA (zB rfl) zD) hl) ge_int) (by rw[zc,decide_eq_false hn])) (wj ⟨rfl,⟨_,_,rfl⟩,hr',hS⟩)
 . rintro e s' ⟨rfl,⟨o2,o3,rfl⟩,_,hS⟩
   have:kg zs ns=.g:=by unfold kg;rw[hS];rfl
   refine yc zF ?_;rw[this];show (zm false s' _ s').post _;rw[yH ni];exact zC.mpr ⟨rfl,rfl⟩
def wI(ns:List Int):Prop:=ns.length<=40/\∀x∈ns,0<=x/\x<=3
def rH(Φ:Calls):Prop:=∀(ns:List Int) (s:Sto),wI ns->Φ "need_strip" 0 [tpI ns] s=.e .g s
def pT(Φ:Calls):Prop:=∀(ns:List Int) (s:Sto),wI ns->Φ "is_strip" 0 [tpI ns] s=.e (.e true) s
theorem qu(c:pT Φ)(hn:wI ns):run T Φ F.yB [tpI ns] s=.e .g s:=by rw[post_eq];simp[F.yB,EVl,zV,zR,c ns s hn]
def mT(Φ:Calls):Prop:=∀(zs ns:List Int) (s:Sto),Sz zs->wI ns->Φ "first_wrong" 0 [tpI zs,tpI ns] s=.e (vD zs ns) s
def ey(Φ:Calls):Prop:=∀(zs ns:List Int) (s:Sto),Sz zs->wI ns->Φ "fits" 0 [tpI zs,tpI ns] s=.e (.e (vD zs ns).isN) s
theorem lz(c1:vW Φ)(c2:rH Φ)(c3:et Φ)(c4:eu Φ)(hz:Sz zs)(hn:wI ns):run T Φ F.zl [tpI zs,tpI ns] s=.e (vD zs ns) s:=by
 have L1:∀n,n<100->n<=zO:=λn h=>by unfold zO;omega
 have k3:=c3 zs ns s;unfold kg at k3;have end':∀{v:Val},v=vD zs ns->v.noRef=true->(zm false s v s).post λx t=>x=vD zs ns/\t=s:=λ{v} e h=>by rw[yH h,e];exact zC.mpr ⟨rfl,rfl⟩
 rw[post_eq,F.zl,wB];refine⟨rfl,?_⟩;show (ze Φ T.b [some (tpI zs),some (tpI ns),none,none] _ s).post _;refine sH (x_call (zA (zB rfl) zD) (c1 zs s hz)) (sH (x_call (zA (zB rfl) zD) (c2 ns s hn)) ?_);cases hS:kC zs ns with
 |cons v r=>
  obtain⟨k,rfl,_⟩:=Xp (zs:=zs) (ns:=ns) (v:=v) (by rw[hS];exact .head _)
  rw[hS]at k3;have e:vD zs ns=.f [.h "hue",.c k]:=by unfold vD;rw[hS]
  exact yw (x_call (zA (zB rfl) (zA (zB rfl) zD)) k3) (sI (yW (ye (zB rfl) zF (show zS .b (.c (k:Nat)) .g s=.e (.e true) s from rfl)) zc) (yc (yK (zA zF (zA (zB rfl) zD)) (L1 2 (by omega))) (end' e.symm rfl)))
 |nil=>
  rw[hS]at k3;have hu:=gL hS;have k4:=c4 zs ns s hz hu hn.1;have e:vD zs ns=Wd (se zs ns):=by unfold vD;rw[hS]
  refine yw (x_call (zA (zB rfl) (zA (zB rfl) zD)) k3) (wg (yW (ye (zB rfl) zF (show zS .b .g .g s=.e (.e false) s from rfl)) zc) ?_);rcases oC zs ns with⟨_,h2⟩|⟨z,l,_,h2⟩
  . rw[h2]at k4 e
    exact yw (x_call (zA (zB rfl) (zA (zB rfl) zD)) k4) (yc (TV (yW (ye (zB rfl) zF (show zS .i .g .g s=.e (.e true) s from rfl)) zc) zF) (end' e.symm rfl))
  . rw[h2]at k4 e
    exact yw (x_call (zA (zB rfl) (zA (zB rfl) zD)) k4) (yc (TU (yW (ye (zB rfl) zF (show zS .i (.f [.c z.1,.c z.2]) .g s=.e (.e false) s from rfl)) zc) (yK (zA zF (zA (vV (zB rfl) zF rfl) (zA (vV (zB rfl) zF rfl) zD))) (L1 3 (by omega)))) (end' e.symm rfl))
theorem eJ(c:mT Φ)(hz:Sz zs)(hn:wI ns):run T Φ F.vz [tpI zs,tpI ns] s=.e (.e (vD zs ns).isN) s:=by rw[post_eq];have n2:zS .i (vD zs ns) .g s=.e (.e (vD zs ns).isN) s:=rfl;simp[F.vz,EVl,zV,zR,c zs ns s hz hn,n2]
def wL:Val->Bool
 |.f vs=>(decide (1<=vs.length)&&decide (vs.length<=4))&&vs.all (yU 2 8)
 |_=>false
def oh(Φ:Calls):Prop:=∀(v:Val) (s:Sto),kindOf v≠none->(∀vs,v=.f vs->∀w∈vs,kindOf w≠none)->Φ "are_sizes" 0 [v] s=.e (.e (wL v)) s
theorem ZO{v:Val}(h:∀vs,v≠.f vs):wL v=false:=by
 cases v with
 |f vs=>exact absurd rfl (h vs)
 |_=>rfl
theorem jk(g:Gl4 T)(c:oj Φ)(hk:kindOf v≠none)(hks:∀vs,v=.f vs->∀w∈vs,kindOf w≠none):run T Φ F.xM [v] s=.e (.e (wL v)) s:=by
 obtain⟨a,ha⟩:=nU hk;have i1:=nS (m:=false) (s:=s) ha (show uG "tuple"=some .b from rfl);have end':∀{b:Bool},b=wL v->(zm false s (.e b) s).post λx t=>x=.e (wL v)/\t=s:=λ{b} e=>by rw[e];exact vN wR
 rw[post_eq,F.xM,wB];refine⟨rfl,?_⟩;show (ze Φ T.b [some v] _ s).post _;rcases bg ha with⟨vs,rfl⟩|hn
 . have e1:a=.b:=by cases ha;rfl
   subst e1;have e2:(decide ((1:Int)<=(vs.length:Nat))&&decide (((vs.length:Nat):Int)<=4))=(decide (1<=vs.length)&&decide (vs.length<=4)):=by
    congr 1
    . exact decide_eq_decide.mpr (by omega)
    . exact decide_eq_decide.mpr (by omega)
   have hc:=Zn (Φ:=Φ) (G:=T.b) (env:=[some (.f vs)]) (s:=s) (a:=.g (.c 1)) (b:=.k .a false (.a (.e 0) .b)) (c:=.k .a false (.a (.A "HUES") .b)) zF (yx (zA (zB rfl) zD) rO) (yx (zA (tJ g.hu) zD) V3);rw[show ((([0,1,2,3]:List Int).length:Nat):Int)=4 from rfl,e2]at hc;have e3:wL (.f vs)=((decide (1<=vs.length)&&decide (vs.length<=4))&&vs.all (yU 2 8)):=rfl;cases hb:(decide (1<=vs.length)&&decide (vs.length<=4)) with
   |true=>
    rw[hb]at hc e3;exact yc (iF (yx (zA (zB rfl) (zA pE zD)) i1) hc (x_call (zA (zB rfl) (zA (tJ g.ls) (zA (tJ g.ms) zD))) (c vs 2 8 s (hks vs rfl)))) (end' (by rw[e3];rfl))
   |false=>
    rw[hb]at hc e3;exact yc (iE (yx (zA (zB rfl) (zA pE zD)) i1) hc) (end' e3.symm)
 . rw[hn]at i1
   exact yc (iD (yx (zA (zB rfl) (zA pE zD)) i1)) (end' (ZO λvs e=>by rw[e]at ha;cases ha;cases hn).symm)
end
end M
end
section
namespace M
open PySem
def wM:Val->Bool
 |.f vs=>decide (vs.length<=40)&&vs.all (yU 0 3)
 |_=>false
theorem ZU(h:∀vs,v≠.f vs):wM v=false:=by
 cases v with
 |f vs=>exact absurd rfl (h vs)
 |_=>rfl
theorem ZV(h:wI t):wM (tpI t)=true:=by show (decide ((t.map Val.c).length<=40)&&(t.map Val.c).all (yU 0 3))=true;rw[Ab,decide_eq_true h.1,r0 h.2];rfl
theorem nI:(vD zs t).isN=true↔(∀x∈t,x<zs.length)/\(yE zs t).isEmpty=true:=by
 unfold vD;cases hS:kC zs t with
 |cons v r=>
  refine⟨λh=>(xd h).elim,λh=>?_⟩;obtain⟨x,hx,hv⟩:=Cg.mp (show v∈kC zs t by rw[hS];exact .head _)
  obtain⟨k,i,hk,rfl⟩:=sq hx;have hv:v∈if (zs.length:Int)<=i then [Val.c (k:Nat)] else []:=hv
  rw[if_neg (by have:=h.1 i (AE hk);omega)]at hv
  cases hv
 |nil=>
  have hu:=gL hS;rw[<-gz];rcases oC zs t with⟨_,h2⟩|⟨z,l,_,h2⟩
  . rw[h2];exact⟨λ_=>⟨hu,rfl⟩,λ_=>rfl⟩
  . rw[h2];exact⟨λh=>(xd h).elim,λh=>(xd h.2).elim⟩
end M
end
section
namespace F31
open PySem M
noncomputable def yM:Fn:=⟨["_law_sizes","_law_found","_law_hue","_law_here","_law_size","_law_step"],["_law_sizes","_law_found","_law_hue"],false,(.a (.p [3,4] (.a (.k .a false (.a (.e 1) .b)) (.a (.u (.e 0) (.e 2)) .b))) (.a (.j (.a 5) (.d (.g (.c 1)) (.j false .a (.j false .d (.e 3) (.j false .c (.e 4) (.g (.c 1)))) (.g (.c 1)))) (.a (.g (.a (.l .d (.q false ["_law_k","_law_hue","_law_found","_law_here","_law_step"] [none,some 2,some 1,some 3,some 5] (.e 0) (.a 0) (.d (.g (.c 1)) (.e 4)) (.b (.a (.l .a (.u (.e 2) (.j false .c (.e 3) (.j false .b (.e 0) (.e 4)))) (.e 1))) .a)) (.s false .b))) (.a (.d (.g (.e true))) .b) .b) .b)) (.a (.d (.g (.e false))) .b)))⟩
end F31
end
section
namespace F75
open PySem M
noncomputable def yq:Fn:=⟨["_law_pen_here","_law_bound","_law_found","_law_stir"],["_law_pen_here","_law_bound"],false,(.a (.g (.d (.a (.l .d (.u (.e 0) (.g (.c 1))) (.g (.c 1)))) (.b (.a (.l .h (.u (.e 0) (.g (.c 0))) (.g (.c 0)))) .a)) (.a (.f 2 (.j false .e (.u (.e 0) (.g (.c 0))) (.e 1))) (.a (.l (.e 0) (.g (.c 0)) (.j false .d (.u (.e 0) (.g (.c 0))) (.e 1))) (.a (.d (.e 2)) .b))) .b) (.a (.l (.e 0) (.g (.c 2)) (.j false .a (.u (.e 0) (.g (.c 2))) (.g (.c 1)))) (.a (.f 3 (.j false .e (.j false .b (.j false .a (.u (.e 0) (.g (.c 3))) (.g (.c 17))) (.j false .a (.g (.c 69621)) (.j false .b (.g (.c 2)) (.u (.e 0) (.g (.c 2)))))) (.g (.c 2147483647)))) (.a (.f 3 (.j false .e (.j false .a (.j false .a (.j false .b (.e 3) (.e 3)) (.j false .b (.g (.c 40503)) (.u (.e 0) (.g (.c 2))))) (.g (.c 5))) (.g (.c 2147483629)))) (.a (.d (.j false .e (.j false .d (.j false .e (.j false .b (.e 3) (.g (.c 48271))) (.g (.c 2147483647))) (.g (.c 32))) (.e 1))) .b)))))⟩
noncomputable def yN:Fn:=⟨["_law_cell"],["_law_cell"],true,(.a (.d (.s true (.a (.e 0) (.a (.k .o false (.a (.l .j (.e 0) (.j false .g (.g (.c 10)) (.g (.c 18)))) .b)) (.a (.g (.c 0)) (.a (.j false .e (.e 0) (.g (.c 1000000007))) .b)))))) .b)⟩
end F75
end
section
namespace M
open PySem
noncomputable def RS(a b c d:Int):Cel:=.c [.c a,.c b,.c c,.c d]
def QL(s:Sto)(p:Nat):Prop:=∃a b c d,s[p]?=some (RS a b c d)/\0<=d/\d<1000000007
def Tc(s:Sto)(p:Nat)(s':Sto):Prop:=∃a b c d,s'=s.set p (RS a b c d)/\0<=d/\d<1000000007
theorem Tc.at_(h:Tc s p s')(hp:p<s.length):QL s' p:=by obtain⟨a,b,c,d,rfl,h1⟩:=h;exact⟨a,b,c,d,AM hp,h1⟩
end M
end
section
namespace M
open PySem
section
variable {W:Str->Bool}{Φ:Calls}{Ψ:xn}{G:Str->Option Val}{env:Env}{s s1:Sto}
theorem Vw(h:exS Φ G env c s=.e (.a e) s1):ze Φ G env (.a c cs) s=ze Φ G e cs s1:=bnd h rfl
theorem vf(h:exS Φ G env c s=.d):ze Φ G env (.a c cs) s=.d:=by show (exS Φ G env c s).bind _=_;rw[h];rfl
theorem Sb(h:evT Φ G env c s=.e true s1)(k:ze Φ G env a s1=.d):exS Φ G env (.g c a b) s=.d:=bnd h k
theorem rY:exS Φ G env (.k e) s=.d:=rfl
theorem bc(h:evE Φ G env e s=.d):exS Φ G env (.h e) s=.d:=by show (evE Φ G env e s).bind _=_;rw[h];rfl
theorem Yr(h:evE Φ G env e s=.e v s1):exS Φ G env (.h e) s=.e (.a env) s1:=bnd h rfl
theorem Um(h:exS Φ G env c s=.e (.a e) s1):xSs W Φ Ψ G env (.a c cs) s=xSs W Φ Ψ G e cs s1:=by simp only[xSs,h]
theorem vk(h:exS Φ G env c s=.d):xSs W Φ Ψ G env (.a c cs) s=xS W Φ Ψ G env c s:=by simp only[xSs,h]
theorem Rb(h:evT Φ G env c s=.e true s1):xS W Φ Ψ G env (.g c a b) s=xSs W Φ Ψ G env a s1:=by simp only[xS,h,if_true]
theorem aq(h:zf Φ G env es s=.e vs s1):xS W Φ Ψ G env (.h (.h f v es)) s=Ψ f v vs s1:=by simp only[xS,xE,h]
theorem gF(h:zf Φ G env es s=.e vs s1)(k:(lK vs&&W c)=true):xS W Φ Ψ G env (.k (.h c v es)) s=some (c,vs,s1):=by simp only[xS,h];rw[if_pos k]
theorem xt(hl:vs.length=F.b.length)(h:ze Φ T.b (zV F.N vs) F.a s=.d):run T Φ F vs s=.d:=by unfold run;rw[if_pos hl,h];rfl
end
def Rz(Φ:Calls)(Ψ:xn)(f:Str)(vs:List Val)(s:Sto)(c:Str):Prop:=Φ f 0 vs s=.d/\∃as,Ψ f 0 vs s=some (c,as,s)
theorem mH(h:Rz (zE T n) (zk T n) f vs s c)(h1:T.d f 100=none)(h2:T.c false=true)(h3:z0 T.f s=true)(h4:T.e.lookup c=some w):zE T (n+1) f 100 vs s=.e (.h w) s:=by obtain⟨a,as,b⟩:=h;simp only[zE,h1,a,b,h2,h3,h4,qv];rfl
end M
end
section
namespace M
open PySem
theorem wU:∀{tb} {s},z0 tb s=true↔∃r,s=tb.map Cel.d++r
 |[],s=>⟨λ_=>⟨s,rfl⟩,λ_=>rfl⟩
 |x::tb,s=>by
  constructor
  . intro h
    cases s with
    |nil=>cases h
    |cons c r=>
     cases c with
     |d y=>
      have h':(decide (x=y)&&z0 tb r)=true:=h;rw[cf,decide_eq_true_eq]at h';obtain⟨r',e⟩:=wU.mp h'.2;exact⟨r',by rw[h'.1,e];rfl⟩
     |_=>cases h
  . rintro ⟨r,rfl⟩
    show (decide (x=x)&&z0 tb (tb.map Cel.d++r))=true;rw[decide_eq_true rfl,wU.mpr ⟨r,rfl⟩];rfl
theorem mM(h:z0 tb s=true):z0 tb (s++t)=true:=by obtain⟨r,rfl⟩:=wU.mp h;exact wU.mpr ⟨r++t,Bo ..⟩
theorem Xu(h:z0 tb s=true)(hp:tb.length<=p):z0 tb (s.set p c)=true:=by obtain⟨r,rfl⟩:=wU.mp h;refine wU.mpr ⟨r.set (p-tb.length) c,?_⟩;rw[List.set_append_right _ _ (by rw[Ab];exact hp),Ab]
theorem Xr(h:z0 tb s=true):tb.length<=s.length:=by obtain⟨r,rfl⟩:=wU.mp h;rw[Al,Ab];omega
theorem fJ(hs:z0 tb s=true)(h:v.noRef=true):zm false (tb.map Cel.d) v s=.e v (tb.map Cel.d):=by obtain⟨r,rfl⟩:=wU.mp hs;exact kr h
def RzF(T:Tbl)(Φ:Calls)(Ψ:xn)(F:Fn)(vs:List Val)(s:Sto)(c:Str):Prop:=run T Φ F vs s=.d/\∃as,xSs (λc=>(T.e.lookup c).isSome) Φ Ψ T.b (zV F.N vs) F.a s=some (c,as,s)
theorem RzF.up(h:RzF T (zE T n) (zk T n) F vs s c)(hf:T.d f 0=some F)(hl:vs.length=F.b.length):Rz (zE T (n+1)) (zk T (n+1)) f vs s c:=by obtain⟨a,as,b⟩:=h;exact⟨by rw[zU hf];exact a,as,by rw[de hf hl];exact b⟩
section
variable {T:Tbl}{Φ:Calls}{Ψ:xn}{s:Sto}
theorem sT(hb:F.a=.a (.h (.h f 0 es)) cs)(hl:vs.length=F.b.length)(he:zf Φ T.b (zV F.N vs) es s=.e ws s)(h:Rz Φ Ψ f ws s c):RzF T Φ Ψ F vs s c:=by obtain⟨a,as,b⟩:=h;have hs:=bc (x_call he a);refine⟨xt hl (by rw[hb];exact vf hs),as,by rw[hb];exact(vk hs).trans ((aq he).trans b)⟩
theorem ux(hb:F.a=.a (.h (.h f 0 es)) (.a (.h (.h g 0 es2)) cs))(hl:vs.length=F.b.length)(he:zf Φ T.b (zV F.N vs) es s=.e ws s)(h1:Φ f 0 ws s=.e v s)(he2:zf Φ T.b (zV F.N vs) es2 s=.e ys s)(h:Rz Φ Ψ g ys s c):RzF T Φ Ψ F vs s c:=by obtain⟨a,as,b⟩:=h;have hs:=bc (x_call he2 a);have hn:=Yr (x_call he h1);refine⟨xt hl (by rw[hb];exact(Vw hn).trans (vf hs)),as,by rw[hb];exact(Um hn).trans ((vk hs).trans ((aq he2).trans b))⟩
end
end M
end
section
namespace M
open PySem
structure Kds(v:Val):Prop where
 b:kindOf v≠none
 a:∀vs,v=.f vs->∀w∈vs,kindOf w≠none
section
variable {T:Tbl}{Φ:Calls}{Ψ:xn}{s:Sto}
def oi(Φ:Calls):Prop:=∀(v:Val) (s:Sto),Kds v->Φ "is_strip" 0 [v] s=.e (.e (wM v)) s
theorem jm(g1:T.b "MOST_PLACES"=some (.c 40))(g2:T.b "HUES"=some (.l [0,1,2,3]))(c:oj Φ)(hv:Kds v):run T Φ F.xl [v] s=.e (.e (wM v)) s:=by
 obtain⟨a,ha⟩:=nU hv.b;have i1:=nS (m:=false) (s:=s) ha (show uG "tuple"=some .b from rfl);have end':∀{b:Bool},b=wM v->(zm false s (.e b) s).post λx t=>x=.e (wM v)/\t=s:=λ{b} e=>by rw[yH wR,e];exact zC.mpr ⟨rfl,rfl⟩
 rw[post_eq,F.xl,wB];refine⟨rfl,?_⟩;show (ze Φ T.b [some v] _ s).post _;rcases bg ha with⟨vs,rfl⟩|hn
 . have e1:a=.b:=by cases ha;rfl
   subst e1;by_cases h4:vs.length<=40
   . exact yc (iF (yx (zA (zB rfl) (zA pE zD)) i1) (ye (yx (zA (zB rfl) zD) rO) (tJ g1) (by rw[le_int,decide_eq_true (by omega)])) (x_call (zA (zB rfl) (zA (vV (tJ g2) zF rfl) (zA (vV (tJ g2) (Wq zF) rfl) zD))) (c vs 0 3 s (hv.a vs rfl)))) (end' (by show _=(decide (vs.length<=40)&&vs.all (yU 0 3));rw[decide_eq_true h4];rfl))
   . exact yc (iE (yx (zA (zB rfl) (zA pE zD)) i1) (ye (yx (zA (zB rfl) zD) rO) (tJ g1) (by rw[le_int,decide_eq_false (by omega)]))) (end' (by show _=(decide (vs.length<=40)&&vs.all (yU 0 3));rw[decide_eq_false h4];rfl))
 . rw[hn]at i1
   exact yc (iD (yx (zA (zB rfl) (zA pE zD)) i1)) (end' (ZU λvs e=>by rw[e]at ha;cases ha;cases hn).symm)
theorem vQ ns:Kds (tpI ns):=⟨nofun,λvs e=>by cases e;exact fG⟩
theorem eQ(c:oi Φ):pT Φ:=λns s h=>by rw[c _ s (vQ ns),ZV h]
end
end M
end
section
namespace M
open PySem
section
variable {T:Tbl}{Φ:Calls}{Ψ:xn}{G:Str->Option Val}{s:Sto}
theorem dR(c:oh Φ):pS Φ:=λzs s h=>by rw[c _ s (vQ zs).b (vQ zs).a];show Out.e (Val.e (decide (1<=(zs.map Val.c).length)&&decide ((zs.map Val.c).length<=4)&&(zs.map Val.c).all (yU 2 8))) s=_;rw[Ab,decide_eq_true h.1,decide_eq_true h.2.1,r0 h.2.2];rfl
def dJ(Φ:Calls)(Ψ:xn):Prop:=∀(v:Val) (s:Sto),Kds v->wL v=false->Rz Φ Ψ "need_sizes" [v] s "NoSizes"
theorem gV(c:oh Φ)(hW:(T.e.lookup ("NoSizes":Str)).isSome=true)(hv:Kds v)(hr:wL v=false):RzF T Φ Ψ F.yP [v] s "NoSizes":=by have cs:=c v s hv.b hv.a;rw[hr]at cs;have ht:evT Φ T.b [some v] (.b (.a (.h "are_sizes" 0 (.a (.e 0) .b)))) s=.e true s:=Za (b:=false) (yW (x_call (zA (zB rfl) zD) cs) zc);have hs:=Sb (b:=.b) ht (vf (cs:=.b) (rY (e:=.h "NoSizes" 0 (.a (.g (.h "one to four sizes are due")) .b))));refine⟨xt rfl (vf hs),_,(vk hs).trans ((Rb ht).trans ((vk rY).trans (gF (zA zF zD) ?_)))⟩;rw[hW];rfl
end
end M
end
section
namespace M
open PySem
section
variable {W:Str->Bool}{Φ:Calls}{Ψ:xn}{G:Str->Option Val}{env:Env}{s s1:Sto}{T:Tbl}
theorem Se(h:evT Φ G env c s=.d):exS Φ G env (.g c a b) s=.d:=by show (evT Φ G env c s).bind _=_;rw[h];rfl
theorem Rc(h:evT Φ G env c s=.d):xS W Φ Ψ G env (.g c a b) s=xT Φ Ψ G env c s:=by simp only[xS,h]
theorem U7(he:zf Φ G env es s=.e vs s1)(h:Φ f v vs s1=.d):evT Φ G env (.b (.a (.h f v es))) s=.d:=by have h1:evE Φ G env (.h f v es) s=.d:=x_call he h;show ((evE Φ G env (.h f v es) s).bind _).bind _=_;rw[h1];rfl
theorem Uo(he:zf Φ G env es s=.e vs s1):xT Φ Ψ G env (.b (.a (.h f v es))) s=Ψ f v vs s1:=by simp only[xT,xE,he]
theorem iM(hb:F.a=.a (.g (.b (.a (.h f 0 es))) a b) cs)(hl:vs.length=F.b.length)(he:zf Φ T.b (zV F.N vs) es s=.e ws s)(h:Rz Φ Ψ f ws s c):RzF T Φ Ψ F vs s c:=by obtain⟨h1,as,h2⟩:=h;have ht:=U7 he h1;have hs:=Se (a:=a) (b:=b) ht;exact⟨xt hl (by rw[hb];exact vf hs),as,by rw[hb];exact(vk hs).trans ((Rc ht).trans ((Uo he).trans h2))⟩
theorem dW{F:Fn}{f c x:Str}{vs ws:List Val}{es:Exs}{b cs:Sms}(hb:F.a=.a (.g (.b (.a (.h f 0 es))) (.a (.k (.h c 0 (.a (.g (.h x)) .b))) .b) .b) cs)(hl:vs.length=F.b.length)(he:zf Φ T.b (zV F.N vs) es s=.e ws s)(h:Φ f 0 ws s=.e (.e false) s)
 (hW:(T.e.lookup c).isSome=true):RzF T Φ Ψ F vs s c:=by
 have ht:=Za (yW (x_call he h) zc);have hs:=Sb (b:=.b) ht (vf (cs:=.b) (rY (e:=.h c 0 (.a (.g (.h x)) .b))));exact⟨xt hl (by rw[hb];exact vf hs),_,by rw[hb];exact(vk hs).trans ((Rb ht).trans ((vk rY).trans (gF (zA zF zD) (by rw[hW];rfl))))⟩
end
end M
end
section
namespace F46
open PySem M
noncomputable def zx:Fn:=⟨["_law_pen_here","_law_sizes_here","_law_limit","_law_found","_law_place","_law_hue","_law_some","_law_good"],["_law_pen_here","_law_sizes_here","_law_limit"],false,(.a (.f 3 (.p .b)) (.a (.j (.a 4) (.c (.h "_law_draw" 0 (.a (.e 0) (.a (.j false .a (.e 2) (.g (.c 1))) .b)))) (.a (.f 5 (.h "_law_draw" 0 (.a (.e 0) (.a (.k .a false (.a (.e 1) .b)) .b)))) (.a (.f 6 (.q false ["_law_k","_law_hue","_law_sizes_here"] [none,some 5,some 1] (.j false .e (.j false .a (.e 1) (.e 0)) (.k .a false (.a (.e 2) .b))) (.a 0) (.c (.k .a false (.a (.e 1) .b))) .a)) (.a (.f 7 (.q false ["_law_one_here","_law_sizes_here","_law_found"] [none,some 1,some 3] (.e 0) (.a 0) (.f (.e 6)) (.b (.b (.a (.h "_law_ended" 0 (.a (.e 1) (.a (.e 2) (.a (.e 0) .b)))))) .a))) (.a (.g (.a (.l .a (.e 7) (.s false .b))) (.a (.f 3 (.j false .a (.e 3) (.p (.a (.u (.e 7) (.g (.c 0))) .b)))) .b) .b) .b))))) (.a (.d (.e 3)) .b)))⟩
noncomputable def xk:Fn:=⟨["_law_sizes_here","_law_strip","!"],["_law_sizes_here","_law_strip"],false,(.a (.d (.q false ["_law_call","_law_sizes_here","_law_strip","!"] [none,some 0,some 1,none] (.h "" 300 (.a (.e 0) (.a (.e 1) (.a (.e 2) .b)))) (.a 0) (.f (.p (.a (.A "hues_behind") (.a (.A "hues_ahead") (.a (.A "form_of") (.a (.A "alike_many") .b)))))) .a)) .b)⟩
noncomputable def yz:Fn:=⟨["_law_pen_here","_law_sizes_here","_law_strip","_law_hue","_law_at","_law_row","_law_found"],["_law_pen_here","_law_sizes_here","_law_strip"],false,(.a (.p [3,4] (.a (.h "_law_draw" 0 (.a (.e 0) (.a (.k .a false (.a (.e 1) .b)) .b))) (.a (.h "_law_draw" 0 (.a (.e 0) (.a (.j false .a (.k .a false (.a (.e 2) .b)) (.g (.c 1))) .b))) .b))) (.a (.f 5 (.j false .b (.p (.a (.e 3) .b)) (.u (.e 1) (.e 3)))) (.a (.f 6 (.s false (.a (.j false .a (.e 5) (.e 2)) (.a (.j false .a (.e 2) (.e 5)) (.a (.j false .a (.j false .a (.H false (.e 2) .b (.a (.e 4)) .b) (.e 5)) (.H false (.e 2) (.a (.e 4)) .b .b)) (.a (.e 5) .b)))))) (.a (.g (.a (.l .l (.k .a false (.a (.e 1) .b)) (.g (.c 4)))) (.a (.f 6 (.j false .a (.e 6) (.s false (.a (.j false .a (.j false .a (.H false (.e 2) .b (.a (.e 4)) .b) (.p (.a (.k .a false (.a (.e 1) .b)) .b))) (.H false (.e 2) (.a (.e 4)) .b .b)) (.a (.p (.a (.g (.c 3)) .b)) (.a (.j false .a (.e 2) (.p (.a (.g (.c 3)) .b))) (.a (.j false .a (.p (.a (.k .a false (.a (.e 1) .b)) .b)) (.e 2)) .b))))))) .b) .b) (.a (.d (.e 6)) .b)))))⟩
noncomputable def wN:Fn:=⟨["sizes","strip"],["sizes","strip"],false,(.a (.h (.h "need_fit" 0 (.a (.e 0) (.a (.e 1) .b)))) (.a (.d (.k .a false (.a (.h "alike_to" 0 (.a (.e 0) (.a (.e 1) .b))) .b))) .b))⟩
noncomputable def yO:Fn:=⟨["sizes","one","other"],["sizes","one","other"],false,(.a (.h (.h "need_fit" 0 (.a (.e 0) (.a (.e 1) .b)))) (.a (.h (.h "need_fit" 0 (.a (.e 0) (.a (.e 2) .b)))) (.a (.d (.l .k (.e 2) (.h "alike_to" 0 (.a (.e 0) (.a (.e 1) .b))))) .b)))⟩
noncomputable def uV:Fn:=⟨["sizes","strip"],["sizes","strip"],false,(.a (.h (.h "need_fit" 0 (.a (.e 0) (.a (.e 1) .b)))) (.a (.d (.u (.h "alike_to" 0 (.a (.e 0) (.a (.e 1) .b))) (.g (.c 0)))) .b))⟩
end F46
end
section
namespace M
open PySem
inductive Bad:Val->Val->Str->Prop
 |a {v w:Val} (h:Kds v) (k:wL v=false):Bad v w "NoSizes"
 |b {zs:List Int} {w:Val} (z:Sz zs) (h:Kds w) (k:wM w=false):Bad (tpI zs) w "NoStrip"
 |c {zs t:List Int} (z:Sz zs) (h:wI t) (k:(vD zs t).isN=false):Bad (tpI zs) (tpI t) "NoFit"
def XB(f:Str)(Φ:Calls)(Ψ:xn):Prop:=∀(v w:Val) (c:Str) (s:Sto),Bad v w c->Rz Φ Ψ f [v,w] s c
section
variable {T:Tbl}{Φ:Calls}{Ψ:xn}{s:Sto}
def dM(Φ:Calls)(Ψ:xn):Prop:=∀(v:Val) (s:Sto),Kds v->wM v=false->Rz Φ Ψ "need_strip" [v] s "NoStrip"
theorem gW(c:oi Φ)(hW:(T.e.lookup ("NoStrip":Str)).isSome=true)(hv:Kds v)(hr:wM v=false):RzF T Φ Ψ F.yB [v] s "NoStrip":=
 dW (b:=.b) (F:=F.yB) rfl rfl (zA (zB rfl) zD) (by rw[c v s hv,hr]) hW
theorem Bad.fw{c}(h:Bad v w c)(hc:c≠"NoFit")(c1:vW Φ)(x1:dJ Φ Ψ)(x2:dM Φ Ψ):RzF T Φ Ψ F.zl [v,w] s c:=by
 cases h with
 |a h k=>exact sT (F:=F.zl) rfl rfl (zA (zB rfl) zD) (x1 _ s h k)
 |b z h k=>exact ux (F:=F.zl) rfl rfl (zA (zB rfl) zD) (c1 _ s z) (zA (zB rfl) zD) (x2 _ s h k)
 |c z h k=>exact absurd rfl hc
theorem gU(h:Rz Φ Ψ "first_wrong" [v,w] s c):RzF T Φ Ψ F.vz [v,w] s c:=by
 obtain⟨a,as,b⟩:=h;have he:zf Φ T.b [some v,some w] (.a (.e 0) (.a (.e 1) .b)) s=.e [v,w] s:=zA (zB rfl) (zA (zB rfl) zD);have h1:evE Φ T.b [some v,some w] (.h "first_wrong" 0 (.a (.e 0) (.a (.e 1) .b))) s=.d:=x_call he a;have hs:exS Φ T.b [some v,some w] (.d (.l .i (.h "first_wrong" 0 (.a (.e 0) (.a (.e 1) .b))) (.g .g))) s=.d:=by show ((evE Φ T.b [some v,some w] (.h "first_wrong" 0 (.a (.e 0) (.a (.e 1) .b))) s).bind _).bind _=_;rw[h1];rfl
 refine⟨xt rfl (vf hs),as,(vk hs).trans ?_⟩;simp only[xS,xE,he];exact b
theorem Bad.nf{c}(h:Bad v w c)(hW:(T.e.lookup ("NoFit":Str)).isSome=true)(cF:ey Φ)(x:c≠"NoFit"->Rz Φ Ψ "fits" [v,w] s c):RzF T Φ Ψ F.yA [v,w] s c:=by
 have he:∀v w:Val,zf Φ T.b (zV F.yA.N [v,w]) (.a (.e 0) (.a (.e 1) .b)) s=.e [v,w] s:=λv w=>zA (zB rfl) (zA (zB rfl) zD);cases h with
 |a h k=>exact iM (F:=F.yA) rfl rfl (he _ _) (x (by decide))
 |b z h k=>exact iM (F:=F.yA) rfl rfl (he _ _) (x (by decide))
 |c z h k=>exact dW (b:=.b) (F:=F.yA) rfl rfl (he _ _) (by rw[cF _ _ s z h,k]) hW
theorem sQ(x:XB "need_fit" Φ Ψ)(hb:F.a=.a (.h (.h "need_fit" 0 (.a (.e 0) (.a (.e 1) .b)))) cs)(hl:F.b.length=2)(h:Bad v w c):RzF T Φ Ψ F [v,w] s c:=
 sT hb hl.symm (zA (zB rfl) (zA (zB rfl) zD)) (x v w c s h)
theorem kO(x:XB "need_fit" Φ Ψ)(h:Bad v w c):RzF T Φ Ψ F46.yO [v,w,u] s c:=sT (F:=F46.yO) rfl rfl (zA (zB rfl) (zA (zB rfl) zD)) (x v w c s h)
theorem kP(x:XB "need_fit" Φ Ψ)(cN:rk Φ)(hz:Sz zs)(hf:Fit zs t)(hn:t.length<=40)(h:Bad (tpI zs) u c):RzF T Φ Ψ F46.yO [tpI zs,tpI t,u] s c:=
 ux (F:=F46.yO) rfl rfl (zA (zB rfl) (zA (zB rfl) zD)) (cN zs t s hz hf hn) (zA (zB rfl) (zA (zB rfl) zD)) (x _ u c s h)
theorem Zv(x:XB "need_fit" Φ Ψ)(cS:uw Φ)(hz:xD zs)(h:Bad (tpI zs) w c):RzF T Φ Ψ F12.xX [tpI zs,w] s c:=
 ux (F:=F12.xX) rfl rfl (zA (zB rfl) zD) (cS zs s hz) (zA (zB rfl) (zA (zB rfl) zD)) (x _ w c s h)
theorem dU(h:Rz Φ Ψ "led_on" [v,w] s c):RzF T Φ Ψ F12.yr [v,w] s c:=by
 obtain⟨a,as,b⟩:=h;have he:zf Φ T.b [some v,some w] (.a (.e 0) (.a (.e 1) .b)) s=.e [v,w] s:=zA (zB rfl) (zA (zB rfl) zD);have h1:evE Φ T.b [some v,some w] (.h "led_on" 0 (.a (.e 0) (.a (.e 1) .b))) s=.d:=x_call he a;have hs:exS Φ T.b [some v,some w] (.d (.j false .c (.k .a false (.a (.h "led_on" 0 (.a (.e 0) (.a (.e 1) .b))) .b)) (.k .a false (.a (.e 1) .b)))) s=.d:=by show ((((evE Φ T.b [some v,some w] (.h "led_on" 0 (.a (.e 0) (.a (.e 1) .b))) s).bind _).bind _).bind _).bind _=_;rw[h1];rfl
 refine⟨xt rfl (vf hs),as,(vk hs).trans ?_⟩;simp only[xS,xE,xL,he];exact b
end
theorem qw(h:Rz (zE T n) (zk T n) f vs s c)(h1:T.d "" 300=none)(h2:T.c false=true)(h3:z0 T.f s=true)(h4:T.e.lookup c=some w):zE T (n+1) "" 300 (.q f::vs) s=.e (.h w) s:=by obtain⟨a,as,b⟩:=h;simp only[zE,h1,mx,List.tail_cons,a,b,h2,h3,h4,qv];rfl
theorem Z6(hz:Sz zs)(hh:h<zs.length):(vD zs (a++(Ak (zY zs h) (h:Int)++b))).isN=false:=by
 obtain⟨_,z2,_⟩:=yS hz hh;cases e:(vD zs (a++(Ak (zY zs h) (h:Int)++b))).isN with
 |false=>rfl
 |true=>
  have hF:=(rG hz).mp (nI.mp e).2;exfalso;refine hF h a.length 1 hh (by omega) (by simp only[Al,B3];omega) (xG.mpr λk hk=>?_)
  rw[A7 (by omega),AU (by rw[B3];omega),CV,if_pos (by omega)]
theorem Z5(hx:x∈t)(hl:(zs.length:Int)<=x):(vD zs t).isN=false:=by
 cases e:(vD zs t).isN with
 |false=>rfl
 |true=>have:=(nI.mp e).1 x hx;omega
end M
end
section
namespace M
open PySem Hd
def cu(h:Heap)(a:Addr):Option Obj:=(h.get? a).bind λo=>if xj o then none else some o
theorem YM(e:h.get? a=some o)(n:xj o=false):cu h a=some o:=by unfold cu;rw[e];show (if xj o=true then none else some o)=some o;rw[n];rfl
theorem ir(e:cu h a=some o):h.get? a=some o/\xj o=false:=by
 unfold cu at e;obtain⟨o',e1,e2⟩:=D5.mp e;split at e2
 . cases e2
 . rename_i z
   cases e2;exact⟨e1,by simpa using z⟩
def z9(h:Heap):KF:=(Ao h.objs.size).filterMap λa=>(cu h a).map λo=>(a,o)
theorem rZ{g:Addr->Option Obj}:∀{l:List Addr},a∈l->(l.filterMap λb=>(g b).map λo=>(b,o)).lookup a=g a
 |b::r,hm=>by
  rw[A0];by_cases e:a=b
  . subst e
    cases hg:g a with
    |none=>
     show (r.filterMap _).lookup a=none;by_cases m:a∈r
     . rw[rZ m,hg]
     . exact F3.mpr λp hp=>by
        obtain⟨c,hc,e⟩:=Cq.mp hp;obtain⟨o,_,rfl⟩:=A1.mp e;have z:a≠c:=λz=>m (by rw[z];exact hc)
        simpa using z
    |some o=>show (List.lookup a ((a,o)::_))=_;rw[An,beq_self_eq_true]
  . have m:a∈r:=(Aj.mp hm).resolve_left e
    cases hg:g b with
    |none=>exact rZ m
    |some o=>
     show (List.lookup a ((b,o)::_))=_;rw[An,beq_false_of_ne e];exact rZ m
theorem yC o(e:h.get? a=some o)(n:xj o=false):(z9 h).lookup a=some o:=by rw[<-YM e n];exact rZ (Ar.mpr (Ai e))
theorem tZ:(z9 h).In h:=λa o e=>by obtain⟨c,_,e⟩:=Cq.mp (xa e);obtain⟨o',e1,e2⟩:=A1.mp e;cases e2;exact(ir e1).1
theorem gy(e:(z9 h).lookup a=some o):xj o=false:=by obtain⟨c,_,e⟩:=Cq.mp (xa e);obtain⟨o',e1,e2⟩:=A1.mp e;cases e2;exact(ir e1).2
theorem su(e:nsH h x=some v):By (z9 h) AK x=some v:=by
 unfold nsH at e;split at e
 . rename_i o ho
   have hn:xj o=false:=by
    unfold By at e;rw[An,beq_self_eq_true]at e;dsimp only at e;split at e
    . rename_i hd;cases hd;unfold xj;simp
    . cases e
   unfold By at e ⊢;rw[yC o ho hn];rw[An,beq_self_eq_true]at e;exact e
 . cases e
theorem d7(e:d6 h cd x=true):BS (z9 h) cd x=true:=by
 unfold d6 at e;split at e
 . split at e
   . rename_i c o ho
     rw[cf,AG]at e;obtain⟨hn,e⟩:=e;unfold BS at e ⊢;dsimp only at e ⊢;rw[An,beq_self_eq_true]at e;rw[yC o ho hn];exact e
   . cases e
 . cases e
theorem args_eq st:args st=L2.xy st/\body st=L2.yf st/\scope st=L2.zH st:=by cases st<;>exact⟨rfl,rfl,rfl⟩
theorem VC(e:Yy h p.1=Xy p):rJ (z9 h) p.1 p.2:=by
 obtain⟨a1,a2,a3⟩:=args_eq p.2;unfold Xy at e;rw[a1,a2,a3]at e;unfold Yy at e;split at e
 . rename_i f hf
   split at e
   . rename_i oc od fd osl ho
     split at e
     . rename_i hc
       have e':=AA e;obtain⟨n,q,ps,b,sc,g,cl,df,kw,dc,pm,an,cd,ct,bl⟩:=fd;injection e' with e1 e2 e3 e4 e5 e6 e7 e8 _ _ _ _ _ _ e9
       subst e1 e2 e3 e4 e5 e6 e7 e8 e9;exact VB (su hf) (yC _ ho (by unfold xj;simp)) (d7 hc) (by unfold B2;dsimp only;rw[yC _ ho (by unfold xj;simp)])
     . cases e
   . cases e
 . cases e
noncomputable def gv:G->Val
 |.a i=>.c i
 |.c x=>.h x
 |.b ns=>.l ns
theorem T8(e:glB h x v=true):gT (z9 h) x (gv v):=by
 cases v with
 |a i=>
  unfold glB at e;dsimp only at e;split at e
  . rename_i hn;have:=of_decide_eq_true e;subst this;exact int_mk (su hn)
  . cases e
 |c y=>
  unfold glB at e;dsimp only at e;split at e
  . rename_i hn;have:=of_decide_eq_true e;subst this;exact str_mk (su hn)
  . cases e
 |b ns=>
  unfold glB at e;dsimp only at e;split at e
  . rename_i hn
    split at e
    . rename_i n od us k sl ho
      obtain⟨e1,e3⟩:=CH.mp e;obtain⟨e1,e2⟩:=CH.mp e1;have:=of_decide_eq_true e1;subst this;exact Z1 (us:=us.toList) (su hn) (yC _ ho rfl) (of_decide_eq_true e2) (of_decide_eq_true e3)
    . cases e
  . cases e
theorem WC(e:blB h x=true):By (z9 h) AK x=some none:=by
 unfold blB at e;split at e
 . rename_i hn;exact su hn
 . cases e
theorem iV:∀{D:List (Str × Stmt)},(D.map λp=>Yy h p.1)=D.map Xy->∀p∈D,rJ (z9 h) p.1 p.2
 |p::D,e,q,hq=>by
  rw[AN,AN]at e;obtain⟨e1,e2⟩:=List.cons.inj e;rcases Aj.mp hq with rfl|hq
  . exact VC e1
  . exact iV e2 q hq
end M
end
section
namespace M
open PySem Hd PySem.W
noncomputable def scB(N ps:List Str)(sc:Scope):Bool:=decide (sc.kind=.function)&&!sc.isCoroutine&&!sc.isGenerator&&decide N.Nodup&&decide (N.take ps.length=ps)&&ps.all (λx=>decide (sc.names.lookup x=some .local)||decide (sc.names.lookup x=some .cell))&&sc.names.all (λy=>decide (y.2≠.free))
theorem ZN(h:scB N ps sc=true):L2.wq N ps sc:=by unfold scB at h;simp only[cf,decide_eq_true_eq,AG,Aq,Ax]at h;obtain⟨⟨⟨⟨⟨⟨h1,h2⟩,h3⟩,h4⟩,h5⟩,h6⟩,h7⟩:=h;exact⟨h1,h2,h3,h4,h5,h6,h7⟩
noncomputable def lkB(sc:Scope)(l:List (Str × CN)):Bool:=l.all λp=>decide (sc.names.lookup p.1=some p.2)
structure kL(st:Stmt)(cs ws:List Str)(pre:Option Str):Prop where
 b:argNames (L2.xy st)=some [("_law_e":Str)]
 c:scB L2.kN ["_law_e"] (L2.zH st)=true
 sh:L2.dD (L2.zH st) cs ws pre (L2.yf st)
 a:lkB (L2.zH st) [("_law_e",.local),("_law_marks",.local),("_law_words",.local),("isinstance",.globalImplicit),("ValueError",.globalImplicit)]=true
structure oq(m:Bool)(kx:Str)(st:Stmt):Prop where
 b:argNames (L2.xy st)=some [("_law_call":Str)]
 c:scB (L2.wD m) ["_law_call"] (L2.zH st)=true
 sh:L2.dG m kx (L2.yf st)
 a:lkB (L2.zH st) ((("_law_call":Str),NameKind.local)::(("_law_e":Str),NameKind.local)::(("HueError":Str),D7)::(kx,D7)::if m then [] else [(("_law_word":Str),NameKind.local)])=true
noncomputable def wsB(cs ws:List Str)(pre:Option Str):Bool:=decide cs.Nodup&&decide (cs.length<=100)&&decide (ws.length<=100)&&ws.all (λw=>decide (w.length<=100))&&(match pre with|none=>true|some x=>decide (x.length<=100))
def xcB(rz cs ws:List Str)(pre:Option Str)(xc:List (Str × Str)):Bool:=xc.all λp=>decide (p.1∈rz)&&(Ao cs.length).any λi=>decide (cs[i]?=some p.1)&&(match ws[i]? with|some x=>decide (p.2=L2.ans pre x)|none=>false)&&decide (p.2≠"great")
def aH(q:Program)(c:Str):Bool:=(PyProof.Rows.ownsOf q).any λo=>decide (o.name=c)&&(o.bm == Hd.veM)&&(o.newId == "ValueError.__new__")
section
variable {h0 h:Heap}{mg:Str->Option Value}
theorem dO(e:adH h0 x=some a):nsIn (z9 h0) AK x=some (some (.ref a)):=by
 unfold adH at e;split at e
 . rename_i hn;cases e;exact su hn
 . cases e
theorem dq(hm:p∈W8 h0 x):h0.get? p.1=some p.2/\xj p.2=false:=by
 unfold W8 at hm;split at hm
 . split at hm
   . rename_i a o ho
     split at hm
     . rename_i cd hcd
       rcases Aj.mp hm with z|z
       . subst z
         refine⟨ho,?_⟩;unfold xj;rw[hcd];simp
       . split at z
         . rename_i n hn
           split at z
           . cases z
           . rename_i hz
             rw[Av]at z;subst z;exact⟨hn,by simpa using hz⟩
         . cases z
     . cases hm
   . cases hm
 . cases hm
theorem i9:∀{xs},p∈kcH h0 xs->h0.get? p.1=some p.2/\xj p.2=false
 |[],hm=>by cases hm
 |x::xs,hm=>by
  rcases AS.mp hm with z|z
  . exact dq z
  . exact i9 z
theorem hG:L2.pG (kcH h0 xs) (z9 h0):=λa o e=>by obtain⟨e1,e2⟩:=i9 (xa e);exact yC o e1 e2
theorem X4(h:Zp K C=true):L2.rm K C:=by unfold Zp at h;simp only[cf,beq_iff_eq]at h;obtain⟨⟨⟨⟨⟨h1,h2⟩,h3⟩,h4⟩,h5⟩,h6⟩:=h;exact⟨h1,h2,h3,h4,h5,h6⟩
theorem mf(T:F0 q loose mean mg mb h)(KX:(z9 h0).In h)(KB:(z9 h0).In base)(ho:aH q c=true)(hm:mg c=some (.ref C))(hb:b7 h0 C bm=true):L2.ClsAt base C bm:=by
 unfold aH at ho;rw[Bk]at ho;obtain⟨o,hmem,ho⟩:=ho;simp only[cf,decide_eq_true_eq,beq_iff_eq]at ho;obtain⟨⟨o1,o2⟩,o3⟩:=ho;obtain⟨C',O,_⟩:=T.own o hmem;have hb':=O.bound;rw[o1,hm]at hb';cases hb';obtain⟨bm',N,nm,qq,bs,hdct,sn,sub,ab,col,dd,k0,k1,k2,k3,k5,mN,hC,hN,hq,_⟩:=O.obj;rw[o3]at hC;unfold b7 at hb;split at hb
 . rename_i ob hob
   split at hb
   . rename_i cd hcd
     rw[cf,beq_iff_eq]at hb;obtain⟨hb1,hb2⟩:=hb;have hk:=yC ob hob (by unfold xj;rw[hcd];simp)
     have e1:=KX _ _ hk;rw[hC]at e1;cases e1;cases hcd;obtain⟨_,rfl⟩:=List.cons.inj hb1;split at hb2
     . rename_i n hn
       have hkN:=yC n hn (by simpa using hb2)
       obtain⟨on,es,ep,f1,f2,f3⟩:=hN;rw[KX _ _ hkN]at f1;cases f1;exact⟨nm,qq,N,bs,hdct,sn,sub,ab,col,dd,k0,k1,k2,k3,k5,mN,KB _ _ hk,⟨n,es,ep,KB _ _ hkN,f2,f3⟩,hq _ (.head _)⟩
     . cases hb2
   . cases hb
 . cases hb
theorem Rw(sst:Bool->Stmt)(TT:F0 q loose mean mg mb h)(KX:(z9 h0).In h)(ob:nt X h0=true)
 (hD:rJ (z9 h0) kx kst) (hS:∀b,T.c b=true->rJ (z9 h0) (L2.yd b) (sst b)/\oq b kx (sst b)) (hK:kL kst X.a ws pre) (hb:∀x∈wX,nsIn (z9 h0) AK x=some none) (hkd:(kx == ("__debug__":Str))=false)
 (hws:wsB X.a ws pre=true) (hxc:xcB X.c X.a ws pre T.e=true) (ke:((("HueError":Str))::X.c).all (λc=>aH q c)=true):Sc T (z9 h0) mg:=by
 unfold nt at ob;split at ob
 . cases ob
 . rename_i hue hhue
   simp only[cf,Aq,decide_eq_true_eq]at ob;obtain⟨⟨⟨⟨⟨x1,x2⟩,x3⟩,x4⟩,x5⟩,x6⟩:=ob;have mghue:=mg_of KX TT.g (dO hhue);have adm:∀c a,adH h0 c=some a->mg c=some (.ref a):=λc a e=>mg_of KX TT.g (dO e);simp only[wsB,cf,decide_eq_true_eq,Aq]at hws;obtain⟨⟨⟨⟨w1,w2⟩,w3⟩,w4⟩,w5⟩:=hws;have lkk:∀{sc:Scope} {l:List (Str × CN)} {x:Str} {k:CN},lkB sc l=true->(x,k)∈l->sc.names.lookup x=some k:=λ{sc l x k} hh hm=>of_decide_eq_true (Aq.mp hh _ hm);have KFn:L2.om (z9 h0) mg kx X.a ws pre:=by
    obtain⟨f,fd,a1,a2⟩:=hD;refine⟨⟨kst,f,fd,mg_of KX TT.g a1,a2,ZN hK.c,a2.binds λkV doc pm an cdv ct us hl=>tR hK.b (by decide) us hl,hK.sh,lkk hK.a (by simp),lkk hK.a (by simp),lkk hK.a (by simp),lkk hK.a (by simp),lkk hK.a (by simp)⟩,λc hc=>?_,mg_none_of KX TT.g (hb _ (by decide)),mg_none_of KX TT.g (WC x2),w1,w2,w3,λw hw=>w4 w hw,λx hx=>?_⟩
    . obtain⟨a,e⟩:=B8.mp (x1 c hc)
      exact⟨a,adm c a e⟩
    . subst hx;exact of_decide_eq_true w5
   have raised:∀c∈X.c,∃C,mg c=some (.ref C)/\(∃Kc,L2.pG Kc (z9 h0)/\exmOne Kc (.ref C) (.ref hue)=some true)/\L2.Named (z9 h0) mg X.a C c/\b7 h0 C (.ref hue::Hd.veM)=true:=λc hc=>by
    have z:=x3 c hc;split at z
    . cases z
    . rename_i C hC
      simp only[cf,Aq,beq_iff_eq]at z;obtain⟨⟨⟨⟨z1,z2⟩,z3⟩,z4⟩,z5⟩:=z;refine⟨C,adm c C hC,⟨_,hG,z2⟩,⟨_,hG,X4 z1,λd hd=>?_,z4⟩,z5⟩;obtain⟨a,e⟩:=B8.mp (x1 d hd);have:=z3 d hd;rw[e]at this;rw[L2.dQ (adm d a e)];exact this
   have xcf:∀c w,T.e.lookup c=some w->c∈X.c/\∃(i:Nat) (x:Str),X.a[i]?=some c/\ws[i]?=some x/\w=L2.ans pre x/\w≠"great":=λc w e=>by
    have z:=Aq.mp hxc _ (xa e);simp only[cf,decide_eq_true_eq,Bk]at z;obtain⟨z1,i,_,⟨z2,z3⟩,z4⟩:=z;split at z3
    . rename_i x hx
      exact⟨z1,i,x,z2,hx,of_decide_eq_true z3,z4⟩
    . cases z3
   have hw:=Aq.mp ke;refine⟨⟨kx,X.a,ws,pre,hue,mghue,KFn,λb hbm=>?_,λc w e=>?_,λc w e base KB=>?_⟩,λbase KB=>?_⟩
   . obtain⟨⟨f,fd,a1,a2⟩,SS⟩:=hS b hbm
     refine⟨f,⟨⟨sst b,fd,mg_of KX TT.g a1,a2,ZN SS.c,a2.binds λkV doc pm an cdv ct us hl=>tR SS.b (by decide) us hl,SS.sh,lkk SS.a (by simp),lkk SS.a (by simp),λhbf=>lkk SS.a (by subst hbf;simp),lkk SS.a (by simp),lkk SS.a (by simp)⟩,hkd⟩⟩
   . obtain⟨y1,i,x,y2,y3,y4,y5⟩:=xcf c w e
     obtain⟨C,r1,r2,r3,_⟩:=raised c y1;exact⟨C,i,x,r1,r2,r3,y2,y3,y4,y5⟩
   . obtain⟨y1,_⟩:=xcf c w e
     obtain⟨C,r1,_,_,r4⟩:=raised c y1;exact⟨C,r1,mf TT KX KB (hw c (Ah _ y1)) r1 r4,mf TT KX KB (hw _ (Ap ..)) mghue x4⟩
   . obtain⟨bm,obj,b1,b2,b3,b4,b5,b6⟩:=TT.bmain
     unfold bmB at x5;split at x5
     . rename_i b hbb
       have:=adm _ _ hbb;rw[b1]at this;cases this;split at x5
       . rename_i o hob
         have hk:=yC o hob (by simpa using x5)
         have e1:=KX _ _ hk;rw[b3]at e1;cases e1;exact⟨bm,obj,b1,b2,KB _ _ hk,b4,b5,b6⟩
       . cases x5
     . cases x5
theorem tab_of{D:List (Str × Stmt)}(TT:F0 q loose mean mg mb h)(KX:(z9 h0).In h)(ob:nt X h0=true)(htb:T.f=X.b)
 (hd:∀p∈D,rJ (z9 h0) p.1 p.2) (kf:X.b.all (λg=>(EZ q).any (λd=>decide (d.name=g))&&(D.lookup g).isSome)=true):∃tabs,Te T (z9 h0) mg h tabs:=by
 have nd:(X.b.map (jw h0)).Nodup:=by
  unfold nt at ob;split at ob
  . cases ob
  . simp only[cf,decide_eq_true_eq]at ob
    exact ob.2
 have one:∀g∈X.b,∃P,jw h0 g=some P/\h.get? P=some (tabObj #[])/\(z9 h0).lookup P=none/\Gd h P/\∃(fa c:Addr) (o:Obj) (fd:BV),mg g=some (.ref fa)/\(z9 h0).lookup fa=some o/\o.data=.func fd/\fd.code=.ref c/\∀h':Heap,(z9 h0).In h'->CodeHd h' c P:=λg hg=>by
  have z:=Aq.mp kf g hg;rw[cf,Bk]at z;obtain⟨⟨d,d1,d2⟩,z2⟩:=z;have d2:=of_decide_eq_true d2;obtain⟨st,hst⟩:=B8.mp z2;obtain⟨fa,fd,a1,a2⟩:=hd _ (xa hst);obtain⟨oc,od,kV,doc,pm,an,cdv,ct,osl,rfl,lk,hcd⟩:=a2.a;have hmg:=mg_of KX TT.g a1;obtain⟨a',o',fd',c,P,t1,t2,t3,t4,t5,t6⟩:=TT.tab d d1;rw[d2,hmg]at t1;cases t1;rw[KX _ _ lk]at t2;cases t2;cases t3;have hcdv:cdv=.ref c:=t4;subst hcdv;have hkc:∃occ,(z9 h0).lookup c=some occ:=by
   unfold codeIn at hcd;dsimp only at hcd;split at hcd
   . rename_i hh;exact⟨_,hh⟩
   . cases hcd
  obtain⟨occ,hkc⟩:=hkc;obtain⟨⟨oT,vsT,u1,u2,u3,u4⟩,u5⟩:=id t6;rw[KX _ _ hkc]at u1;cases u1;refine⟨P,?_,u5,?_,t6.isCodeTable,fa,c,_,_,hmg,lk,rfl,rfl,λh' K'=>?_⟩
  . have g1:adH h0 g=some fa:=by
     unfold adH;have a1':nsIn (z9 h0) AK g=some (some (.ref fa)):=a1;unfold nsH;unfold nsIn at a1';split at a1'
     . rename_i c1 d1 es n1 s1 hmn
       have:=tZ _ _ hmn;rw[this];dsimp only;unfold nsIn;rw[An,beq_self_eq_true];dsimp only;rw[a1']
     . cases a1'
    unfold jw;rw[g1];dsimp only;rw[tZ _ _ lk];dsimp only;rw[tZ _ _ hkc];dsimp only;rw[u3];dsimp only;rw[u4]
  . cases e:(z9 h0).lookup P with
    |none=>rfl
    |some o=>
     have n1:=gy e;have e2:=KX _ _ e;rw[u5]at e2;cases e2;cases n1
  . obtain⟨o2,vs2,file,tf,flags,tg,inF,text,tt,v1,v2,v3⟩:=CodeHd.of t5 t6
    rw[KX _ _ hkc]at v1;cases v1;exact⟨_,vs2,file,tf,flags,tg,inF,text,tt,K' _ _ hkc,v2,v3⟩
 have hmap:X.b.map (jw h0)=(X.b.map λg=>(jw h0 g).getD 0).map some:=by rw[DZ];refine List.map_congr_left λg hg=>?_;obtain⟨P,e,_⟩:=one g hg;simp[e]
 refine⟨X.b.map λg=>(jw h0 g).getD 0,?_,by rw[htb,Ab],λi g hi=>?_⟩
 . rw[hmap]at nd
   exact(CA.mp nd).imp λhne z=>hne (by rw[z])
 . rw[htb]at hi
   obtain⟨P,e,r⟩:=one g (AE hi);refine⟨P,?_,r⟩;rw[AR,hi];simp[e]
end
def dH(D:List (Str × Stmt))(glL:List (Str × Val))(X:XT)(K:KF)(h:Heap):Prop:=K.In h/\(∀p∈D,rJ K p.1 p.2)/\(∀p∈glL,gT K p.1 p.2)/\(∀x∈wX,nsIn K AK x=some none)/\∃h0,K=z9 h0/\nt X h0=true
theorem ZM(e:(aC D gl s,nt X s.heap)=(Zi D,true)):∃K,dH D (gl.map λp=>(p.1,gv p.2)) X K s.heap:=by obtain⟨e0,eX⟩:=Prod.mk.inj e;obtain⟨e1,e2⟩:=Prod.mk.inj e0;obtain⟨e2,e3⟩:=CH.mp e2;exact⟨z9 s.heap,tZ,iV e1,λp hp=>(by obtain⟨p',h1,rfl⟩:=AQ.mp hp;exact T8 (Aq.mp e2 p' h1)),λx hx=>WC (Aq.mp e3 x hx),s.heap,rfl,eX⟩
theorem W7{l:PySem.W.OpenLaw}(sst:Bool->Stmt)
 (Uw:l.wellSaid=true) (left:PySem.W.LeftO l.row.prog q [] (λs=>Fd l.row.records s) (λz=>(aC D gl z,nt X z.heap)) (λ_=>(Zi D,true)) N) (hgl:glL=gl.map λp=>(p.1,gv p.2))
 (cy:PySem.W.defOf q l.row.name=some (d,[])) (hp:l.row.prog.theDef l.row.name=some (d.params,d.body,d.scope)) (hk:PySem.W.kwWritten? d.params.kwonlyargs d.params.kw_defaults=some [])
 (hwr:(!l.row.writes||l.row.records.isEmpty)=true) (ok:(PySem.W.chainsOk q&&PySem.W.opensWell l.row.prog&&(PySem.W.frees l.row.toRowW&&l.row.within.isEmpty))=true) (hb:l.row.prog.bare) (hw:l.row.toRowW.promised)
 (hn:l.most=some 63) (hdf:d.params.defaults=[]) (hr:L2.xW n callerA) (hF:(jx fnL glL tb xc md).d d.name 0=some F) (hx:F.b=[x]) (hc:oV fnL D=true)
 (htb:tb=X.b) (htb2:fnL.all (λp=>!decide (("!":Str)∈p.2.N)||decide (p.1.1∈tb))=true) (hkx:D.lookup kx=some kst) (hK:kL kst X.a ws pre) (hS:∀b,md b=true->D.lookup (L2.yd b)=some (sst b)/\oq b kx (sst b)) (hkd:(kx == ("__debug__":Str))=false)
 (hws:wsB X.a ws pre=true) (hxc:xcB X.c X.a ws pre xc=true) (ke:((("HueError":Str))::X.c).all (λc=>aH q c)=true) (kf:X.b.all (λg=>(EZ q).any (λd=>decide (d.name=g))&&(D.lookup g).isSome)=true)
 (HL:∀ns:List Int,ns.length<=63->∃s',zE (jx fnL glL tb xc md) n d.name 0 [.p ns] (tb.map .d)=.e (.e true) s'):l.Holds:=by
 refine PySem.W.holds_law Uw λsaid'=>PySem.W.holds_open (q:=q) (loose:=[]) (Xt:=λs=>Fd l.row.records s) (XP:=λ_ _=>True) (YP:=λ_ h=>∃K,dH D glL X K h) left (λw s e=>hgl▸ZM e)
  (λw h h' ⟨K,a,b⟩ k=>⟨K,a.keeps k,b⟩) (λ_ _=>trivial) (λ_ _ _ _ _=>trivial) cy hp hk (λs e=>PySem.W.recFacts_of e) hwr said' ok hb hw ?_
 intro w s₀ s₁ mg mb G ⟨K,Y⟩;obtain⟨Y1,Y2,Y3,Y4,h0,rfl,ob⟩:=id Y;refine walk (l:=l) (q:=q) (loose:=[]) (XP:=λ_ _=>True) (YP:=λ_ h=>dH D glL X (z9 h0) h) (d:=d) (K:=z9 h0) (T:=jx fnL glL tb xc md) hn hdf hr (λ_ _ y=>y.1) hF hx (λw s₀ mg mb h G KX=>⟨?_,?_⟩) HL w s₀ s₁ mg mb G Y
 . exact TJ KX G.T.g Y2 Y3 Y4 hc (λ_=>htb2) λ_=>Rw sst G.T KX ob (Y2 _ (xa hkx)) (λb hbm=>⟨Y2 _ (xa (hS b hbm).1),(hS b hbm).2⟩) hK Y4 hkd hws hxc ke
 . exact tab_of G.T KX ob htb Y2 kf
end M
end
section
namespace P46
open PySem M
noncomputable def yF:Fn:=F.yF
noncomputable def yq:Fn:=F.yq
noncomputable def yM:Fn:=F.yM
noncomputable def zx:Fn:=F46.zx
noncomputable def xk:Fn:=F46.xk
noncomputable def yN:Fn:=F.yN
noncomputable def yy:Fn:=F.yy
noncomputable def yz:Fn:=F46.yz
noncomputable def wN:Fn:=F46.wN
noncomputable def yO:Fn:=F46.yO
noncomputable def xM:Fn:=F.xM
noncomputable def y0:Fn:=F.y0
noncomputable def z7:Fn:=F.z7
noncomputable def z8:Fn:=F.z8
noncomputable def zl:Fn:=F.zl
noncomputable def vz:Fn:=F.vz
noncomputable def v5:Fn:=F.v5
noncomputable def uV:Fn:=F46.uV
noncomputable def uW:Fn:=F12.uW
noncomputable def wO:Fn:=F.wO
noncomputable def xw:Fn:=F.xw
noncomputable def y9:Fn:=F.y9
noncomputable def xl:Fn:=F.xl
noncomputable def xm:Fn:=F.xm
noncomputable def pU:Fn:=⟨["_law_script","_law_k","_law_pen_here","_law_sizes_here","_law_strip","_law_good","_law_bad","_law_as_it_was","_law_said_here","!"],["_law_script"],false,(.a (.j (.a 1) (.c (.k .k false (.a (.g (.c 1)) (.a (.k .l false (.a (.k .a false (.a (.e 0) .b)) (.a (.g (.c 4)) .b))) .b)))) (.a (.f 2 (.h "_law_pen" 1 (.a (.h "_law_cell_at" 0 (.a (.e 0) (.a (.e 1) .b))) .b))) (.a (.f 3 (.h "_law_sizes" 0 (.a (.e 2) .b))) (.a (.f 4 (.h "_law_fitting" 0 (.a (.e 2) (.a (.e 3) (.a (.g (.c 24)) .b))))) (.a (.f 5 (.H false (.e 4) .b (.a (.g (.c 3))) .b)) (.a (.j (.a 6) (.f (.h "_law_unfit" 0 (.a (.e 2) (.a (.e 3) (.a (.e 4) .b))))) (.a (.f 7 (.k .h false (.a (.e 6) .b))) (.a (.f 8 (.s true (.a (.h "are_alike" 100 (.a (.e 3) (.a (.e 6) (.a (.e 5) .b)))) .b))) (.a (.h (.K .b false (.e 8) (.a (.h "are_alike" 100 (.a (.e 3) (.a (.e 5) (.a (.e 6) .b)))) .b))) (.a (.h (.K .b false (.e 8) (.a (.h "are_alike" 100 (.a (.e 3) (.a (.e 6) (.a (.g .g) .b)))) .b))) (.a (.g (.f (.a (.l .a (.j false .a (.h "_law_one" 0 (.a (.e 3) (.a (.e 6) .b))) (.e 8)) (.j false .b (.s false (.a (.g (.h "fit")) .b)) (.g (.c 7))))) (.b (.a (.l .a (.k .h false (.a (.e 6) .b)) (.e 7))) .a)) (.a (.d (.g (.e false))) .b) .b) (.a (.g (.f (.a (.l .a (.h "_law_one" 0 (.a (.p (.a (.g (.c 1)) .b)) (.a (.e 6) .b))) (.j false .b (.s false (.a (.g (.h "sizes")) .b)) (.g (.c 4))))) (.b (.a (.l .a (.h "are_alike" 100 (.a (.g .g) (.a (.e 6) (.a (.e 6) .b)))) (.g (.h "sizes")))) .a)) (.a (.d (.g (.e false))) .b) .b) .b))))))) (.a (.j (.a 6) (.f (.p (.a (.g .g) (.a (.k .j false (.a (.e 4) .b)) (.a (.j false .a (.e 4) (.p (.a (.g (.c 4)) .b))) (.a (.j false .a (.p (.a (.B (.g (.c 1))) .b)) (.e 4)) (.a (.p (.a (.g (.e true)) .b)) (.a (.g (.h "0")) (.a (.p (.a (.e 4) .b)) (.a (.j false .b (.p (.a (.g (.c 0)) .b)) (.g (.c 41))) .b)))))))))) (.a (.f 8 (.s true (.a (.h "are_alike" 100 (.a (.e 3) (.a (.e 6) (.a (.e 5) .b)))) .b))) (.a (.h (.K .b false (.e 8) (.a (.h "are_alike" 100 (.a (.e 3) (.a (.e 5) (.a (.e 6) .b)))) .b))) (.a (.g (.a (.l .a (.j false .a (.h "_law_one" 0 (.a (.e 3) (.a (.e 6) .b))) (.e 8)) (.j false .b (.s false (.a (.g (.h "strip")) .b)) (.g (.c 6))))) (.a (.d (.g (.e false))) .b) .b) (.a (.g (.a (.l .a (.q false ["_law_call","_law_bad","!"] [none,some 6,none] (.h "" 300 (.a (.e 0) (.a (.p (.a (.g (.c 3)) (.a (.g (.c 4)) .b))) (.a (.e 1) .b)))) (.a 0) (.f (.p (.a (.A "led_on") (.a (.A "led_more") .b)))) .a) (.j false .b (.s false (.a (.g (.h "strip")) .b)) (.g (.c 2))))) (.a (.d (.g (.e false))) .b) .b) .b))))) (.a (.j (.a 6) (.f (.p (.a (.p (.a (.g (.c 0)) (.a (.g (.c 0)) (.a (.g (.c 0)) .b)))) (.a (.p (.a (.g (.c 1)) (.a (.g (.c 0)) (.a (.g (.c 0)) (.a (.g (.c 0)) .b))))) (.a (.p (.a (.g (.c 2)) .b)) (.a (.p (.a (.g (.c 0)) (.a (.g (.c 2)) .b))) (.a (.j false .b (.p (.a (.g (.c 1)) .b)) (.g (.c 4))) (.a (.p (.a (.g (.c 0)) (.a (.g (.c 1)) (.a (.g (.c 0)) (.a (.g (.c 1)) (.a (.g (.c 0)) .b)))))) .b)))))))) (.a (.g (.a (.l .a (.q false ["_law_call","_law_bad","!"] [none,some 6,none] (.h "" 300 (.a (.e 0) (.a (.p (.a (.g (.c 3)) (.a (.g (.c 4)) .b))) (.a (.e 1) .b)))) (.a 0) (.f (.p (.a (.A "led_on") (.a (.A "led_more") .b)))) .a) (.j false .b (.s false (.a (.g (.h "fit")) .b)) (.g (.c 2))))) (.a (.d (.g (.e false))) .b) .b) .b)) .b)))))))) (.a (.g (.a (.l .a (.h "hues_behind" 100 (.a (.p (.a (.g (.c 2)) (.a (.g (.c 2)) .b))) (.a (.j false .b (.p (.a (.g (.c 0)) .b)) (.g (.c 25))) .b))) (.g (.h "fit")))) (.a (.d (.g (.e false))) .b) .b) (.a (.d (.l .h (.h "led_more" 0 (.a (.p (.a (.g (.c 3)) (.a (.g (.c 4)) .b))) (.a (.p (.a (.g (.c 1)) (.a (.g (.c 1)) (.a (.g (.c 1)) .b)))) .b))) (.g (.c 0)))) .b)))⟩
noncomputable def sR:Fn:=F.sR
noncomputable def yr:Fn:=F12.yr
noncomputable def xX:Fn:=F12.xX
noncomputable def xA:Fn:=F.xA
noncomputable def xO:Fn:=F.xO
noncomputable def yA:Fn:=F.yA
noncomputable def yP:Fn:=F.yP
noncomputable def zp:Fn:=F12.zp
noncomputable def yB:Fn:=F.yB
noncomputable def xB:Fn:=F12.xB
def fnL:List ((Str × Nat) × Fn):=((("_law_cell_at":Str),(0:Nat)),yF)::((("_law_draw":Str),(0:Nat)),yq)::((("_law_ended":Str),(0:Nat)),yM)::((("_law_fitting":Str),(0:Nat)),zx)::((("_law_one":Str),(0:Nat)),xk)::((("_law_pen":Str),(1:Nat)),yN)::((("_law_sizes":Str),(0:Nat)),yy)::((("_law_unfit":Str),(0:Nat)),yz)::((("alike_many":Str),(0:Nat)),wN)::((("are_alike":Str),(0:Nat)),yO)::((("are_sizes":Str),(0:Nat)),xM)::((("are_wholes":Str),(0:Nat)),y0)::((("first_hue_wrong":Str),(0:Nat)),z7)::((("first_row_wrong":Str),(0:Nat)),z8)::((("first_wrong":Str),(0:Nat)),zl)::((("fits":Str),(0:Nat)),vz)::((("followers":Str),(0:Nat)),v5)::((("form_of":Str),(0:Nat)),uV)::((("grown":Str),(0:Nat)),uW)::((("hues_ahead":Str),(0:Nat)),wO)::((("hues_behind":Str),(0:Nat)),xw)::((("is_one_hue":Str),(0:Nat)),y9)::((("is_strip":Str),(0:Nat)),xl)::((("is_whole":Str),(0:Nat)),xm)::((("law":Str),(0:Nat)),pU)::((("leaders":Str),(0:Nat)),sR)::((("led_more":Str),(0:Nat)),yr)::((("led_on":Str),(0:Nat)),xX)::((("may_follow":Str),(0:Nat)),xA)::((("most_step":Str),(0:Nat)),xO)::((("need_fit":Str),(0:Nat)),yA)::((("need_sizes":Str),(0:Nat)),yP)::((("need_small_sizes":Str),(0:Nat)),zp)::((("need_strip":Str),(0:Nat)),yB)::((("product_of":Str),(0:Nat)),xB)::[]
noncomputable def glL:List (Str × Val):=[("MOST_PLACES",.c 40),("LEAST_SIZE",.c 2),("MOST_SIZE",.c 8),("HUES",.l [0,1,2,3]),("MOST_PRODUCT",.c 12)]
noncomputable def tb:List Str:=["_law_one","law"]
noncomputable def xc:List (Str × Str):=[("NoStrip","strip"),("NoSizes","sizes"),("NoFit","fit")]
noncomputable def md:Bool->Bool:=λb=>!b
def T:Tbl:=jx fnL glL tb xc md
set_option maxHeartbeats 0 in
theorem U8:oV fnL D=true:=by decide +kernel
end P46
end
section
namespace P46
open PySem M
theorem qX:zS .a (.h x) (.h x) s=.e (.e false) s:=by simp[zS]
section
variable {Φ:Calls}{s:Sto}
theorem mQ{gs:List Str}{env e0}(hi:zf Φ T.b env es s=.e (gs.map .q) s)(hl:gs.length<=100)(h0:zR fr env=none::e0)(hf:∀o,zf Φ T.b (o::e0) fs s=.e vs s)(h:∀g∈gs,Φ "" 300 (.q g::vs) s=.e (.h x) s) :
 evE Φ T.b env (.q false N fr (.h "" 300 (.a (.e 0) fs)) (.a 0) (.f (.p es)) .a) s=.e (.j (Ak gs.length (.h x))) s:=by
 rw[post_eq];refine nv (λe=>∃o,e=o::e0) (λ_=>[.h x]) (gs.map .q) (s1:=s) (qR (yK hi (by rw[Ab];unfold zO;omega)) rfl) ⟨none,h0⟩ ?_ ?_
 . rintro v hv e ⟨o,rfl⟩
   obtain⟨g,hg,rfl⟩:=AQ.mp hv;refine⟨some (.q g)::e0,rfl,⟨_,rfl⟩,rh.mpr ⟨rfl,?_⟩⟩;rw[if_pos rfl,x_call (zA (zB rfl) (hf _)) (h g hg)];exact zC.mpr ⟨rfl,rfl⟩
 . have e:(gs.map Val.q).flatMap (λ_=>[Val.h x])=Ak gs.length (.h x):=by
    clear hi hl h;induction gs with
    |nil=>rfl
    |cons g gs ih=>rw[AN,BH,ih];rfl
   rw[e];exact zC.mpr ⟨rfl,rfl⟩
def four:List Str:=["hues_behind","hues_ahead","form_of","alike_many"]
def two:List Str:=["led_on","led_more"]
def CSd(gs:List Str)(ok:Val->Prop)(Φ:Calls):Prop:=∀g∈gs,∀(v w:Val) (c x:Str) (s:Sto),z0 tb s=true->Bad v w c->xc.lookup c=some x->ok v->Φ "" 300 [.q g,v,w] s=.e (.h x) s
def Sm(v:Val):Prop:=∃zs,v=tpI zs/\xD zs
def X9(Φ:Calls):Prop:=∀(v w:Val) (c x:Str) (s:Sto),z0 tb s=true->Bad v w c->xc.lookup c=some x->Φ "_law_one" 0 [v,w] s=.e (.j (Ak 4 (.h x))) s
theorem aB:(Val.j (Ak n (.h x))).noRef=true:=by
 rw[jF];induction n with
 |zero=>rw[List.replicate_zero,nk]
 |succ n ih=>rw[Bv,qd,ih,aA];rfl
theorem eL(c:CSd four (λ_=>True) Φ)(hs:z0 tb s=true)(hb:Bad v w d)(hx:xc.lookup d=some x):run T Φ F46.xk [v,w] s=.e (.j (Ak 4 (.h x))) s:=by rw[post_eq,F46.xk,wB];refine⟨rfl,?_⟩;show (ze Φ T.b [some v,some w,none] _ s).post _;exact yc (mQ (gs:=four) (vs:=[v,w]) (zA (tJ rfl) (zA (tJ rfl) (zA (tJ rfl) (zA (tJ rfl) zD)))) (by decide) rfl (λo=>zA (zB rfl) (zA (zB rfl) zD)) λg hg=>c g hg v w d x s hs hb hx trivial) (vN aB)
def NoF(zs t:List Int):Prop:=wI t/\(vD zs t).isN=false
def dA(Φ:Calls):Prop:=∀(p:Nat) (zs t:List Int) (s:Sto),wu s p->Sz zs->Fit zs t->t.length<=30->(Φ "_law_unfit" 0 [.k p,tpI zs,tpI t] s).post λv s'=>∃L:List (List Int),v=.j (tps L)/\(∀x∈L,NoF zs x)/\yo s p s'
theorem pH(h:a.length+b.length<=1000):binOp false .a (tpI a) (tpI b) s=.e (tpI (a++b)) s:=by show binOp false .a (.f (a.map .c)) (.f (b.map .c)) s=.e (.f ((a++b).map .c)) s;rw[DF];exact ot (by rw[Ab,Ab];unfold zO;omega)
theorem Uq{k:Nat}(hk:k<=100):binOp false .b (tpI [h]) (.c k) s=.e (tpI (Ak k h)) s:=by
 have e:∀n:Nat,(Ak n [Val.c h]).flatten=(Ak n h).map Val.c:=λn=>by
  induction n with
  |zero=>rfl
  |succ n ih=>rw[Bv,Cc,ih];rfl
 show binOp false .b (.f [.c h]) (.c k) s=.e (.f ((Ak k h).map .c)) s;rw[<-e];exact Yx (by omega) (by simp) (by simp)
theorem tU{a:Nat}:uk false (tpI t) none (some (a:Int)) none s=.e (tpI (t.take a)) s/\(a<=t.length->uk false (tpI t) (some (a:Int)) none none s=.e (tpI (t.drop a)) s):=by
 simp only[uk];unfold d8;rw[HT.gI,HT.gI,Ab];refine⟨?_,λh=>?_⟩
 . rw[show HT.sIx t.length 0 none=0 from rfl,E1,FW,<-List.map_take,<-List.take_eq_take_min]
 . rw[show HT.sIx t.length t.length none=t.length from rfl,Nat.min_eq_left h,<-List.map_drop,List.take_of_length_le (by rw[Ab,CM];exact Ac _)]
theorem eM(cD:iH Φ)(hp:wu s p)(hz:Sz zs)(hf:Fit zs t)(hl:t.length<=30):(run T Φ F46.yz [.k p,tpI zs,tpI t] s).post λv s'=>∃L:List (List Int),v=.j (tps L)/\(∀x∈L,NoF zs x)/\yo s p s':=by
 have L4:4<=zO:=by decide
 have L1:1<=zO:=by decide
 have hz1:=hz.1;have hz4:=hz.2.1;rw[F46.yz,wB];refine⟨rfl,?_⟩;show (ze Φ T.b [some (.k p),some (tpI zs),some (tpI t),none,none,none,none] _ s).post _;obtain⟨_,s1,hd1,h,rfl,hh,t1⟩:=cD p zs.length s hp (by omega) (by omega)
 obtain⟨_,s2,hd2,a,rfl,ha,t2⟩:=cD p ((t.length:Int)+1) s1 (t1.at_ hp.lt) (by omega) (by omega)
 refine zZ.mpr (aN.mpr (rg (x_call (zA (zB rfl) (zA (vJ rfl) zD)) hd1) (rg (x_call (zA (zB rfl) (zA (zd (vJ rfl) zF oz) zD)) hd2) (tx.mpr (hX rfl ?_)))));have tt:=t1.trans t2;generalize s2=s' at *;have hh':h<zs.length:=by omega
 have ha':a<=t.length:=by omega
 obtain⟨z1,z2,z3⟩:=yS hz hh';generalize hR:Ak (zY zs h) (h:Int)=R;have hRl:R.length<=8:=by rw[<-hR,B3];exact z3
 show (ze Φ T.b [some (.k p),some (tpI zs),some (tpI t),some (.c h),some (.c a),none,none] _ s').post _;refine yw (zd (yK (zA (zB rfl) zD) L1) (vV (zB rfl) (zB rfl) (si z1)) (by have:=Uq (h:=(h:Int)) (s:=s') (show zY zs h<=100 by omega);rw[hR]at this;exact this)) ?_
 have ht:∀x∈t,0<=x/\x<=3:=λx hx=>by have:=hf.a x hx;omega
 have hRx:∀x∈R,0<=x/\x<=3:=λx hx=>by rw[<-hR]at hx;rw[List.eq_of_mem_replicate hx];omega
 have mk:∀{A B C:List Int},(∀x∈A,x∈t)->(∀x∈C,x∈t)->A.length+C.length<=30->(∀x∈B,0<=x/\x<=3)->B.length<=8->wI (A++(B++C)):=λ{A B C} h1 h2 h3 h4 h5=>⟨by simp only[Al];omega,λx hx=>by
  rcases AS.mp hx with hx|hx
  . exact ht x (h1 x hx)
  . rcases AS.mp hx with hx|hx
    . exact h4 x hx
    . exact ht x (h2 x hx)⟩
 have run:∀{A C:List Int},(∀x∈A,x∈t)->(∀x∈C,x∈t)->A.length+C.length<=30->NoF zs (A++(R++C)):=λ{A C} h1 h2 h3=>⟨mk h1 h2 h3 hRx hRl,by rw[<-hR];exact Z6 hz hh'⟩
 have n0:∀x∈([]:List Int),x∈t:=nofun;have tk:(t.take a).length=a:=by rw[B1];omega
 have td:(t.drop a).length=t.length-a:=CM;refine yw (v:=.j (tps [R++t,t++R,t.take a++R++t.drop a,R])) (vt (zA (zd (zB rfl) (zB rfl) (pH (by omega))) (zA (zd (zB rfl) (zB rfl) (pH (by omega))) (zA (zd (zd (ef (zB rfl) qe (qf (zB rfl)) qe tU.1) (zB rfl) (pH (by omega))) (ef (zB rfl) (qf (zB rfl)) qe qe (tU.2 ha')) (pH (by rw[Al];omega))) (zA (zB rfl) zD)))) L4) ?_
 show (ze Φ T.b [some (.k p),some (tpI zs),some (tpI t),some (.c h),some (.c a),some (tpI R),some (.j (tps [R++t,t++R,t.take a++R++t.drop a,R]))] _ s').post _;have good4:∀x∈[R++t,t++R,t.take a++R++t.drop a,R],NoF zs x:=λx hx=>by
  simp only[Aj,Bs,or_false]at hx;rcases hx with rfl|rfl|rfl|rfl
  . exact run (A:=[]) (C:=t) n0 (λx hx=>hx) (by simpa using hl)
  . have:=run (A:=t) (C:=[]) (λx hx=>hx) n0 (by simpa using hl)
    rwa [A5]at this
  . rw[Bo]
    exact run (λx hx=>Dr hx) (λx hx=>List.mem_of_mem_drop hx) (by omega)
  . have:=run (A:=[]) (C:=[]) n0 n0 (by decide)
    rwa [A5]at this
 have nrL:∀L:List (List Int),(Val.j (tps L)).noRef=true:=λL=>by rw[jF];exact tD L
 refine Ru (J:=λe t'=>t'=s'/\∃L,(∀x∈L,NoF zs x)/\e=[some (.k p),some (tpI zs),some (tpI t),some (.c h),some (.c a),some (tpI R),some (.j (tps L))]) (yW (ye (vJ rfl) zF lt_int) zc) (λhb=>?_) (λ_=>⟨rfl,_,good4,rfl⟩) ?_
 . have hlt:(zs.length:Int)<4:=of_decide_eq_true hb
   have hu:∀{A B C:List Int},(∀x∈A,x∈t)->(∀x∈C,x∈t)->A.length+C.length<=30->∀y:Int,(zs.length:Int)<=y->y<=3->NoF zs (A++([y]++C)):=λh1 h2 h3 y y1 y2=>⟨mk h1 h2 h3 (λx hx=>by rw[Av.mp hx];omega) (by simp),Z5 (x:=y) (by simp) y1⟩
   refine yw (v:=.j (tps ([R++t,t++R,t.take a++R++t.drop a,R]++[t.take a++[(zs.length:Int)]++t.drop a,[3],t++[3],[(zs.length:Int)]++t]))) (zd (zB rfl) (vt (zA (zd (zd (ef (zB rfl) qe (qf (zB rfl)) qe tU.1) (yK (zA (vJ rfl) zD) L1) (pH (b:=[(zs.length:Int)]) (by simp;omega))) (ef (zB rfl) (qf (zB rfl)) qe qe (tU.2 ha')) (pH (by simp;omega))) (zA (yK (zA zF zD) L1) (zA (zd (zB rfl) (yK (zA zF zD) L1) (pH (b:=[3]) (by simp;omega))) (zA (zd (yK (zA (vJ rfl) zD) L1) (zB rfl) (pH (a:=[(zs.length:Int)]) (by simp;omega))) zD)))) L4) ?_) (wj ⟨_,rfl,rfl,_,λx hx=>?_,rfl⟩)
   . rfl
   . rcases AS.mp hx with hx|hx
     . exact good4 x hx
     . simp only[Aj,Bs,or_false]at hx
       rcases hx with rfl|rfl|rfl|rfl
       . rw[Bo]
         exact hu (B:=[]) (λx hx=>Dr hx) (λx hx=>List.mem_of_mem_drop hx) (by omega) _ (Ee _) (by omega)
       . exact hu (A:=[]) (B:=[]) (C:=[]) n0 n0 (by decide) 3 (by omega) (Ee _)
       . exact hu (A:=t) (B:=[]) (C:=[]) (λx hx=>hx) n0 (by simpa using hl) 3 (by omega) (Ee _)
       . exact hu (A:=[]) (B:=[]) (C:=t) n0 (λx hx=>hx) (by simpa using hl) _ (Ee _) (by omega)
 . rintro e t' ⟨rfl,L,hL,rfl⟩
   refine yc (zB rfl) ?_;show (zm false s (.j (tps L)) t').post _;rw[vg tt (nrL L)];exact zC.mpr ⟨L,rfl,hL,tt⟩
def CA1(Φ:Calls):Prop:=∀(v w u:Val) (c x:Str) (s:Sto),z0 tb s=true->Bad v w c->xc.lookup c=some x->Φ "are_alike" 100 [v,w,u] s=.e (.h x) s
def CA2(Φ:Calls):Prop:=∀(zs t:List Int) (u:Val) (c x:Str) (s:Sto),z0 tb s=true->Sz zs->Fit zs t->t.length<=40->Bad (tpI zs) u c->xc.lookup c=some x->Φ "are_alike" 100 [tpI zs,tpI t,u] s=.e (.h x) s
structure Cs(Φ:Calls):Prop where
 h:X6 Φ
 j:TZ Φ
 e:iJ Φ
 a:mU Φ
 f:dA Φ
 b:X9 Φ
 g:CSd two Sm Φ
 d:CA1 Φ
 a2:CA2 Φ
 hb:∀(v w:Val) (c x:Str) (s:Sto),z0 tb s=true->Bad v w c->xc.lookup c=some x->Φ "hues_behind" 100 [v,w] s=.e (.h x) s
 i:∀s,∃k:Int,0<k/\Φ "led_more" 0 [tpI [3,4],tpI [1,1,1]] s=.e (.c k) s
theorem Xs(h:z0 tb s=true)(hp:tb.length<=p)(t:yo s p s'):z0 tb s'=true:=by obtain⟨a,b,rfl,_⟩:=t;exact Xu h hp
theorem Ur(h:wI x):∃r,∀s,blt .h false [tpI x] s=.e (.h r) s:=by
 refine⟨(tpI x).d.shown,λs=>?_⟩;have th:Th 1 4040 (tpI x):=TH (k:=0) (w:=100) (n:=40) (λv hv=>by obtain⟨i,hi,rfl⟩:=AQ.mp hv;have:=h.2 i hi;exact TF (by omega) (by omega)) (by rw[Ab];exact h.1)
 have e:zu s (tpI x)=tpI x:=by show Val.f ((x.map Val.c).map (yg s))=_;rw[DZ];rfl
 simp only[blt];rw[e,th.r,fV th.lf (by decide) (by decide) th.nd]
 rfl
theorem qW(h:pK (.j vs) (.j ws)=some true):zS .a (.j vs) (.j ws) s=.e (.e false) s:=by simp only[zS,zu,yg,h];rfl
theorem dP(h:a.length+b.length<=zO):binOp false .a (.j a) (.k s.length) (s++[.c b])=.e (.j (a++b)) (s++[.c b]):=by
 have hb:(s++[Cel.c b])[s.length]?=some (.c b):=by simp
 simp only[binOp,yX,hb];exact if_pos h
theorem s34:xD [3,4]:=ZP (by decide +kernel)
abbrev en(ns:List Int)(o1 o2 o3 o4 o5 o6 o7 o8:Option Val):M.Env:=[some (.p ns),o1,o2,o3,o4,o5,o6,o7,o8,none]
theorem bw(c:Cs Φ)ns:(run T Φ pU [.p ns] (tb.map .d)).post λv _=>v=.e true:=by
 have L1:1<=zO:=by decide
 have L2':2<=zO:=by decide
 have L8:8<=zO:=by decide
 have z34:=s34.a;rw[pU,wB];refine⟨rfl,?_⟩;show (ze Φ T.b (en ns none none none none none none none none) _ (tb.map .d)).post _;refine zZ.mpr (wd (λrest e s'=>(∃o1 o2 o3 o4 o5 o6 o7 o8,e=en ns o1 o2 o3 o4 o5 o6 o7 o8)/\z0 tb s'=true/\∀x∈rest,∃k:Nat,x=.c k) (yb 0 (max 1 (min ns.length 4))) (s1:=tb.map .d) (cY (K:=4) rfl (by omega)) ⟨⟨_,_,_,_,_,_,_,_,rfl⟩,wU.mpr ⟨[],by rw[A5]⟩,λx hx=>?_⟩ ?_ ?_)
 . obtain⟨k,_,rfl⟩:=nV hx
   exact⟨k,by congr 1;omega⟩
 . rintro x rest e s' ⟨⟨o1,o2,o3,o4,o5,o6,o7,o8,rfl⟩,hZ,hr⟩
   obtain⟨k,rfl⟩:=hr x (.head _);refine⟨_,rfl,?_⟩;obtain⟨cv,hcell⟩:=c.h ns k s';obtain⟨pa,pb,hpen,hb⟩:=c.j cv s';refine yw (x_call (zA (x_call (zA (zB rfl) (zA (zB rfl) zD)) hcell) zD) hpen) ?_;have hP:wu (s'++[t9 pa pb]) s'.length:=⟨pa,pb,by simp,hb⟩
   have hZ1:z0 tb (s'++[t9 pa pb])=true:=mM hZ;have hpl:tb.length<=s'.length:=Xr hZ;show (ze Φ T.b (en ns (some (.c k)) (some (.k s'.length)) o3 o4 o5 o6 o7 o8) _ (s'++[t9 pa pb])).post _;generalize s'++[t9 pa pb]=s1 at hP hZ1;generalize s'.length=p at hP hpl;obtain⟨_,s2,hd2,zs,rfl,hz,t2⟩:=c.e p s1 hP;refine yw (x_call (zA (zB rfl) zD) hd2) ?_;have hP2:=t2.at_ hP.lt;obtain⟨_,s3,hd3,t,rfl,hf,hl,t3⟩:=c.a p zs 24 s2 hP2 hz (by decide)
   refine yw (x_call (zA (zB rfl) (zA (zB rfl) (zA zF zD))) hd3) (yw (ef (zB rfl) qe (qf zF) qe (tU (a:=3)).1) ?_);have hP3:=t3.at_ hP2.lt;obtain⟨_,s4,hd4,L,rfl,hL,t4⟩:=c.f p zs t s3 hP3 hz hf hl;have hZ4:=Xs hZ1 hpl ((t2.trans t3).trans t4);have hg:=hf.take 3;have hgl:(t.take 3).length<=40:=by rw[B1];omega
   generalize t.take 3=g at *;show (ze Φ T.b (en ns (some (.c k)) (some (.k p)) (some (tpI zs)) (some (tpI t)) (some (tpI g)) o6 o7 o8) _ s3).post _;have wf:xc.lookup ("NoFit":Str)=some "fit":=rfl;have wz:xc.lookup ("NoSizes":Str)=some "sizes":=rfl;have ws:xc.lookup ("NoStrip":Str)=some "strip":=rfl;refine zZ.mpr (wd (λrest e s'=>z0 tb s'=true/\(∃o6 o7 o8,e=en ns (some (.c k)) (some (.k p)) (some (tpI zs)) (some (tpI t)) (some (tpI g)) o6 o7 o8)/\∀x∈rest,∃y,x=tpI y/\NoF zs y) (tps L) (s1:=s4) (qR (x_call (zA (zB rfl) (zA (zB rfl) (zA (zB rfl) zD))) hd4) rfl) ⟨hZ4,⟨_,_,_,rfl⟩,λx hx=>?_⟩ ?_ ?_)
   . obtain⟨y,hy,rfl⟩:=AQ.mp hx
     exact⟨y,rfl,hL y hy⟩
   . rintro x rest2 e s5 ⟨hZ5,⟨o6,o7,o8,rfl⟩,hr2⟩
     obtain⟨y,rfl,hy⟩:=hr2 x (.head _);obtain⟨r,hrep⟩:=Ur hy.1;have bf:Bad (tpI zs) (tpI y) "NoFit":=.c hz hy.1 hy.2;have b1:Bad (tpI [1]) (tpI y) "NoSizes":=.a (vQ _) rfl;have bn:Bad .g (tpI y) "NoSizes":=.a ⟨nofun,nofun⟩ rfl;have Z:∀vs:List Val,z0 tb (s5++[.c vs])=true:=λvs=>mM hZ5;refine⟨_,rfl,?_⟩;refine yw (yx (zA (zB rfl) zD) (hrep s5)) (yw (Zo (zA (x_call (zA (zB rfl) (zA (zB rfl) (zA (zB rfl) zD))) (c.d _ _ _ _ _ s5 hZ5 bf wf)) zD) L1) ?_);refine sH (bnd (zB rfl) (bnd (zA (x_call (zA (zB rfl) (zA (zB rfl) (zA (zB rfl) zD))) (c.a2 zs g _ _ _ _ (Z _) hz hg hgl bf wf)) zD) (ox (show 1<zO by decide)))) ?_
     refine sH (bnd (zB rfl) (bnd (zA (x_call (zA (zB rfl) (zA (zB rfl) (zA zF zD))) (c.d _ _ _ _ _ _ (Z _) bf wf)) zD) (ox (show 2<zO by decide)))) ?_
     refine wg (QE (yW (ye (zd (x_call (zA (zB rfl) (zA (zB rfl) zD)) (c.b _ _ _ _ _ (Z _) bf wf)) (zB rfl) (dP (show 7<=zO by decide))) (zd (vt (zA zF zD) L1) zF rfl) (qW (by decide +kernel))) zc) (gP (yW (ye (yx (zA (zB rfl) zD) (hrep _)) (zB rfl) qX) zc) Zb)) ?_
     exact wg (QE (yW (ye (x_call (zA (yK (zA zF zD) L1) (zA (zB rfl) zD)) (c.b _ _ _ _ _ (Z _) b1 wz)) (zd (vt (zA zF zD) L1) zF rfl) (qW (by decide +kernel))) zc) (gP (yW (ye (x_call (zA zF (zA (zB rfl) (zA (zB rfl) zD))) (c.d _ _ _ _ _ _ (Z _) bn wz)) zF qX) zc) Zb)) (wj ⟨Z _,⟨_,_,_,rfl⟩,λx hx=>hr2 x (.tail _ hx)⟩)
   . rintro e s5 ⟨hZ5,⟨o6,o7,o8,rfl⟩,_⟩
     refine zZ.mpr (wd (λrest e s'=>z0 tb s'=true/\(∃o6 o7 o8,e=en ns (some (.c k)) (some (.k p)) (some (tpI zs)) (some (tpI t)) (some (tpI g)) o6 o7 o8)/\∀x∈rest,Kds x/\wM x=false) [.g,.j (t.map .c),tpI (t++[4]),tpI ([-1]++t),.f [.e true],.h "0",.f [tpI t],tpI (Ak 41 0)] (s1:=s5) (qR (yK (zA zF (zA (yx (zA (zB rfl) zD) rfl) (zA (zd (zB rfl) (yK (zA zF zD) L1) (pH (b:=[4]) (by simp;omega))) (zA (zd (yK (zA (Wq zF) zD) L1) (zB rfl) (pH (a:=[-1]) (by simp;omega))) (zA (yK (zA zF zD) L1) (zA zF (zA (yK (zA (zB rfl) zD) L1) (zA (zd (yK (zA zF zD) L1) zF (Uq (k:=41) (by decide))) zD)))))))) L8) rfl) ⟨hZ5,⟨_,_,_,rfl⟩,λx hx=>?_⟩ ?_ ?_)
     . have no:∀{l:List Int} {y:Int},y∈l->¬(0<=y/\y<=3)->Kds (tpI l)/\wM (tpI l)=false:=λ{l y} h1 h2=>⟨vQ _,by
        cases e:wM (tpI l) with
        |false=>rfl
        |true=>
         have e:(decide ((l.map Val.c).length<=40)&&(l.map Val.c).all (yU 0 3))=true:=e;rw[cf,Aq]at e;have:=e.2 _ (List.mem_map_of_mem h1);rw[Zm,cf,decide_eq_true_eq,decide_eq_true_eq]at this;exact absurd this h2⟩
       simp only[Aj,Bs,or_false]at hx;rcases hx with rfl|rfl|rfl|rfl|rfl|rfl|rfl|rfl
       . exact⟨⟨nofun,nofun⟩,rfl⟩
       . exact⟨⟨nofun,nofun⟩,rfl⟩
       . exact no (y:=4) (by simp) (by omega)
       . exact no (y:=-1) (by simp) (by omega)
       . exact⟨⟨nofun,λvs e w hw=>by cases e;rw[Av.mp hw];nofun⟩,rfl⟩
       . exact⟨⟨nofun,nofun⟩,rfl⟩
       . exact⟨⟨nofun,λvs e w hw=>by cases e;rw[Av.mp hw];nofun⟩,rfl⟩
       . exact⟨vQ _,rfl⟩
     . rintro x rest2 e s6 ⟨hZ6,⟨o6,o7,o8,rfl⟩,hr2⟩
       obtain⟨h1,h2⟩:=hr2 x (.head _);have bs:Bad (tpI zs) x "NoStrip":=.b hz h1 h2;have b3:Bad (tpI [3,4]) x "NoStrip":=.b z34 h1 h2;have Z:∀vs:List Val,z0 tb (s6++[.c vs])=true:=λvs=>mM hZ6;refine⟨_,rfl,?_⟩;refine yw (Zo (zA (x_call (zA (zB rfl) (zA (zB rfl) (zA (zB rfl) zD))) (c.d _ _ _ _ _ s6 hZ6 bs ws)) zD) L1) ?_;refine sH (bnd (zB rfl) (bnd (zA (x_call (zA (zB rfl) (zA (zB rfl) (zA (zB rfl) zD))) (c.a2 zs g _ _ _ _ (Z _) hz hg hgl bs ws)) zD) (ox (show 1<zO by decide)))) ?_
       refine wg (yW (ye (zd (x_call (zA (zB rfl) (zA (zB rfl) zD)) (c.b _ _ _ _ _ (Z _) bs ws)) (zB rfl) (dP (show 6<=zO by decide))) (zd (vt (zA zF zD) L1) zF rfl) (qW (by decide +kernel))) zc) ?_
       exact wg (yW (ye (mQ (gs:=two) (vs:=[tpI [3,4],x]) (zA (tJ rfl) (zA (tJ rfl) zD)) (by decide) rfl (λo=>zA (yK (zA zF (zA zF zD)) L2') (zA (zB rfl) zD)) λq hq=>c.g q hq _ _ _ _ _ (Z _) b3 ws ⟨_,rfl,s34⟩) (zd (vt (zA zF zD) L1) zF rfl) (qW (by decide +kernel))) zc) (wj ⟨Z _,⟨_,_,_,rfl⟩,λx hx=>hr2 x (.tail _ hx)⟩)
     . rintro e s6 ⟨hZ6,⟨o6,o7,o8,rfl⟩,_⟩
       refine zZ.mpr (wd (λrest e s'=>s'=s6/\(∃o6,e=en ns (some (.c k)) (some (.k p)) (some (tpI zs)) (some (tpI t)) (some (tpI g)) o6 o7 o8)/\∀x∈rest,∃y,x=tpI y/\NoF [3,4] y) [tpI [0,0,0],tpI [1,0,0,0],tpI [2],tpI [0,2],tpI [1,1,1,1],tpI [0,1,0,1,0]] (s1:=s6) (qR (yK (zA (yK (zA zF (zA zF (zA zF zD))) (show 3<=zO by decide)) (zA (yK (zA zF (zA zF (zA zF (zA zF zD)))) (show 4<=zO by decide)) (zA (yK (zA zF zD) L1) (zA (yK (zA zF (zA zF zD)) L2') (zA (zd (yK (zA zF zD) L1) zF rfl) (zA (yK (zA zF (zA zF (zA zF (zA zF (zA zF zD))))) (show 5<=zO by decide)) zD)))))) (show 6<=zO by decide)) rfl) ⟨rfl,⟨_,rfl⟩,λx hx=>?_⟩ ?_ ?_)
       . have no:∀l:List Int,(l.length<=40/\∀x∈l,0<=x/\x<=3)/\(vD [3,4] l).isN=false->∃y,tpI l=tpI y/\NoF [3,4] y:=λl h=>⟨l,rfl,h⟩
         simp only[Aj,Bs,or_false]at hx;rcases hx with rfl|rfl|rfl|rfl|rfl|rfl<;>exact no _ (by decide +kernel)
       . rintro x rest2 e s7 ⟨rfl,⟨o6,rfl⟩,hr2⟩
         obtain⟨y,rfl,hy⟩:=hr2 x (.head _);refine⟨_,rfl,?_⟩;exact wg (yW (ye (mQ (gs:=two) (vs:=[tpI [3,4],tpI y]) (zA (tJ rfl) (zA (tJ rfl) zD)) (by decide) rfl (λo=>zA (yK (zA zF (zA zF zD)) L2') (zA (zB rfl) zD)) λq hq=>c.g q hq _ _ _ _ _ hZ6 (.c z34 hy.1 hy.2) wf ⟨_,rfl,s34⟩) (zd (vt (zA zF zD) L1) zF rfl) (qW (by decide +kernel))) zc) (wj ⟨rfl,⟨_,rfl⟩,λx hx=>hr2 x (.tail _ hx)⟩)
       . rintro e s7 ⟨rfl,⟨o6,rfl⟩,_⟩
         exact wj ⟨⟨_,_,_,_,_,_,_,_,rfl⟩,hZ6,λx hx=>hr x (.tail _ hx)⟩
 . rintro e s' ⟨⟨o1,o2,o3,o4,o5,o6,o7,o8,rfl⟩,hZ,_⟩
   obtain⟨k,hk,hm⟩:=c.i s';have b25:Bad (tpI [2,2]) (tpI (Ak 25 0)) "NoFit":=.c ⟨by decide,by decide,by decide⟩ ⟨by decide,by decide⟩ (by decide +kernel)
   refine wg (yW (ye (x_call (zA (yK (zA zF (zA zF zD)) L2') (zA (zd (yK (zA zF zD) L1) zF (Uq (k:=25) (by decide))) zD)) (c.hb _ _ _ _ s' hZ b25 rfl)) zF qX) zc) ?_
   refine yc (ye (x_call (zA (yK (zA zF (zA zF zD)) L2') (zA (yK (zA zF (zA zF (zA zF zD))) (show 3<=zO by decide)) zD)) hm) zF gt_int) ?_
   rw[decide_eq_true hk];show (zm false (tb.map .d) (.e true) s').post _;rw[fJ hZ wR];exact zC.mpr rfl
end
theorem cs:At T 10 Cs:=λn hn=>by
 obtain⟨n,rfl⟩:∃m,n=m+10:=⟨n-10,by omega⟩
 have g4:Gl4 T:=⟨rfl,rfl,rfl,rfl⟩;have whole:∀m,dB (zE T (m+1)):=λm v l k s h=>by rw[zU (F:=F.xm) rfl];exact eN h
 have wholes:∀m,oj (zE T (m+2)):=λm vs l k s h=>by rw[zU (F:=F.y0) rfl];exact jn (whole m) h
 have most:∀m,X8 (zE T (m+1)):=λm a b d s h1 h2 h3=>by rw[zU (F:=F.xO) rfl];exact ZE h1 h2 h3
 have one:∀m,TY (zE T (m+1)):=λm a b d e s h1 h2 h3 h4=>by rw[zU (F:=F.y9) rfl];exact Xg h1 h2 h3 h4
 have stripW:∀m,oi (zE T (m+3)):=λm v s h=>by rw[zU (F:=F.xl) rfl];exact jm rfl rfl (wholes m) h
 have wL:∀m,oh (zE T (m+3)):=λm v s h h'=>by rw[zU (F:=F.xM) rfl];exact jk g4 (wholes m) h h'
 have needSizes:∀m,vW (zE T (m+4)):=λm zs s h=>by rw[zU (F:=F.yP) rfl];exact pM (dR (wL m)) h
 have needStrip:∀m,rH (zE T (m+4)):=λm ns s h=>by rw[zU (F:=F.yB) rfl];exact qu (eQ (stripW m)) h
 have fHue:∀m,et (zE T (m+1)):=λm zs ns s=>by rw[zU (F:=F.z7) rfl];exact eH
 have fRow:∀m,eu (zE T (m+2)):=λm zs ns s h1 h2 h3=>by rw[zU (F:=F.z8) rfl];exact eI (most m) (one m) h1 h2 h3
 have fWrong:∀m,mT (zE T (m+5)):=λm zs ns s h1 h2=>by rw[zU (F:=F.zl) rfl];exact lz (needSizes m) (needStrip m) (fHue (m+3)) (fRow (m+2)) h1 h2
 have fits:∀m,ey (zE T (m+6)):=λm zs ns s h1 h2=>by rw[zU (F:=F.vz) rfl];exact eJ (fWrong m) h1 h2
 have needFit:∀m,rk (zE T (m+7)):=λm zs ns s h1 h2 h3=>by rw[zU (F:=F.yA) rfl];exact l7 (λzs ns s h1 h2 h3=>by rw[fits m zs ns s h1 ⟨h3,λx hx=>by have:=h2.a x hx;have:=h1.2.1;omega⟩,nI.mpr ⟨λx hx=>(h2.a x hx).2,(rG h1).mpr h2.b⟩]) h1 h2 h3
 have xSizes:∀m,dJ (zE T (m+4)) (zk T (m+4)):=λm v s h1 h2=>RzF.up (F:=F.yP) (gV (wL m) rfl h1 h2) rfl rfl;have xStrip:∀m,dM (zE T (m+4)) (zk T (m+4)):=λm v s h1 h2=>RzF.up (F:=F.yB) (gW (stripW m) rfl h1 h2) rfl rfl;have xN:∀m,XB "need_fit" (zE T (m+7)) (zk T (m+7)):=λm v w c s h=>RzF.up (n:=m+6) (F:=F.yA) (h.nf rfl (fits m) λhc=>RzF.up (n:=m+5) (F:=F.vz) (gU (RzF.up (n:=m+4) (F:=F.zl) (h.fw hc (needSizes m) (xSizes m) (xStrip m)) rfl rfl)) rfl rfl) rfl rfl;have x4:∀m g,g∈four->XB g (zE T (m+8)) (zk T (m+8)):=λm g hg v w c s h=>by
  simp only[four,Aj,Bs,or_false]at hg;rcases hg with rfl|rfl|rfl|rfl
  . exact RzF.up (n:=m+7) (F:=F.xw) (sQ (xN m) rfl rfl h) rfl rfl
  . exact RzF.up (n:=m+7) (F:=F.wO) (sQ (xN m) rfl rfl h) rfl rfl
  . exact RzF.up (n:=m+7) (F:=F46.uV) (sQ (xN m) rfl rfl h) rfl rfl
  . exact RzF.up (n:=m+7) (F:=F46.wN) (sQ (xN m) rfl rfl h) rfl rfl
 have prod:∀m,WA (zE T (m+1)):=λm zs s h=>by rw[zU (F:=F12.xB) rfl];exact ZF h
 have small:∀m,uw (zE T (m+5)):=λm zs s h=>by rw[zU (F:=F12.zp) rfl];exact pN rfl (needSizes m) (prod (m+3)) h
 have xOn:∀m (zs:List Int) (w:Val) (c:Str) (s:Sto),xD zs->Bad (tpI zs) w c->Rz (zE T (m+8)) (zk T (m+8)) "led_on" [tpI zs,w] s c:=λm zs w c s hz h=>RzF.up (n:=m+7) (F:=F12.xX) (Zv (xN m) (small (m+2)) hz h) rfl rfl;have led:∀m,CSd two Sm (zE T (m+10)):=λm g hg v w c x s hs h hx ⟨zs,e,hz⟩=>by
  subst e;simp only[two,Aj,Bs,or_false]at hg;rcases hg with rfl|rfl
  . exact qw (xOn (m+1) zs w c s hz h) rfl rfl hs hx
  . exact qw (RzF.up (n:=m+8) (F:=F12.yr) (dU (xOn m zs w c s hz h)) rfl rfl) rfl rfl hs hx
 have oneL:∀m,X9 (zE T (m+10)):=λm v w c x s hs h hx=>by rw[zU (F:=F46.xk) rfl];exact eL (λg hg v w c x s hs h hx _=>qw (x4 m g hg v w c s h) rfl rfl hs hx) hs h hx
 have a1:∀m,CA1 (zE T (m+9)):=λm v w u c x s hs h hx=>mH (RzF.up (n:=m+7) (F:=F46.yO) (kO (xN m) h) rfl rfl) rfl rfl hs hx;have a2:∀m,CA2 (zE T (m+9)):=λm zs t u c x s hs hz hf hl h hx=>mH (RzF.up (n:=m+7) (F:=F46.yO) (kP (xN m) (needFit m) hz hf hl h) rfl rfl) rfl rfl hs hx;have may:∀m,Wu (zE T (m+1)):=λm zs ns h s h1 h2 h3=>by rw[zU (F:=F.xA) rfl];exact Xf h1 h2 h3
 have grown:∀m,iI (zE T (m+2)):=λm zs L s h1 h2 h3=>by rw[zU (F:=F12.uW) rfl];exact jh (may m) h1 h2 h3
 have ledOn:∀m,ez (zE T (m+8)):=λm zs x y N s h1 h2 h3 h4 h5=>by rw[zU (F:=F12.xX) rfl];exact eK (small (m+2)) (needFit m) (grown (m+5)) h1 h2 h3 h4 h5
 have more:∀m s,∃k:Int,0<k/\zE T (m+9) "led_more" 0 [tpI [3,4],tpI [1,1,1]] s=.e (.c k) s:=λm s=>by
  have hf:Fit [3,4] [1,1,1]:=VI s34.a (by decide +kernel)
  obtain⟨N,hN⟩:=YF s34 hf;cases hy:(yI [3,4] [[1,1,1]] (N-1)).head? with
  |none=>exact absurd (List.head?_eq_none_iff.mp hy) (hN.on _ (by have:=hN.b;omega))
  |some y=>
   refine⟨_,?_,by rw[zU (F:=F12.yr) rfl];exact l6 (ledOn m) s34 hf (by decide) hN hy⟩
   have hl:=Qw (N-1) y (List.mem_of_mem_head? hy);have:N≠1:=λe=>by have:=hN.a;rw[e]at this;exact absurd this (by decide +kernel)
   have:=hN.b;rw[hl];simp only[AF,BW];omega
 have cell:∀m,X6 (zE T (m+1)):=λm ns k s=>by obtain⟨c,h⟩:=ZA (T:=T) (Φ:=zE T m) (s:=s) ns k;exact⟨c,by rw[zU (F:=F.yF) rfl];exact h⟩
 have pen:∀m,TZ (zE T (m+1)):=λm c s=>by obtain⟨a,b,h,h2⟩:=Xh (T:=T) (Φ:=zE T m) (s:=s) c;exact⟨a,b,by rw[zU (F:=F.yN) rfl];exact h,h2⟩
 have draw:∀m,iH (zE T (m+1)):=λm p k s h1 h2 h3=>by rw[zU (F:=F.yq) rfl];exact ZC h1 h2 h3
 have sizes:∀m,iJ (zE T (m+2)):=λm p s h=>by rw[zU (F:=F.yy) rfl];exact jj (draw m) h
 have endT:∀m,X7 (zE T (m+1)):=λm zs fs h s h1 h2 h3=>by rw[zU (F:=F.yM) rfl];exact ZD h1 h2 h3
 have fitting:∀m,mU (zE T (m+2)):=λm p zs k s h1 h2 h3=>by rw[zU (F:=F46.zx) rfl];exact l5 (T:=T) (draw m) (endT m) h1 h2 h3
 have unfit:∀m,dA (zE T (m+2)):=λm p zs t s h1 h2 h3 h4=>by rw[zU (F:=F46.yz) rfl];exact eM (draw m) h1 h2 h3 h4
 exact⟨cell (n+9),pen (n+9),sizes (n+8),fitting (n+8),unfit (n+8),oneL n,led n,a1 (n+1),a2 (n+1),λv w c x s hs h hx=>mH (x4 (n+1) _ (by decide) v w c s h) rfl rfl hs hx,more (n+1)⟩
theorem V5 ns:∃s',zE T 11 "law" 0 [.p ns] (tb.map .d)=.e (.e true) s':=by
 obtain⟨v,s',h,rfl⟩:=bw (cs 10 (by omega)) ns
 exact⟨s',by rw[zU (F:=pU) rfl];exact h⟩
end P46
end
section
open PySem PySem.W PyProof.Rows
theorem P46.hx:P46.pU.b=[("_law_script":Str)]:=by kernel_rfl
theorem P46.hF:(M.jx P46.fnL P46.glL P46.tb P46.xc P46.md).d P46.dd.name 0=some P46.pU:=by kernel_rfl
theorem P46.hgl:P46.glL=P46.gl.map λp=>(p.1,M.gv p.2):=by kernel_rfl
def P46.ws1:List Str:=["strip","sizes","number","place","hue","draft","paper","fit","lot"]
def P46.ws2:List Str:=["ring","round","stand","text","deed","line","great"]
theorem P46.kst:M.kL (P46.top 66) P46.X.a (P46.ws1++P46.ws2) none:=by
 refine⟨by kernel_rfl,by decide +kernel,?_,by decide +kernel⟩
 exact⟨P46.X.a.take 4,(P46.X.a.drop 4).take 4,(P46.X.a.drop 8).take 4,P46.X.a.drop 12,P46.ws1,P46.ws2,_,_,_,_,_,_,_,_,_,_,_,_,_,_,_,_,_,_,_,_,_,_,_,_,_,_,_,_,_,_,_,_,_,_,_,_,_,_,_,_,_,_,_,_,_,_,_,_,_,_,_,_,_,_,default,default,_,_,_,_,0,rfl,rfl,rfl,by decide +kernel,rfl,rfl⟩
theorem P46.Ql:M.oq false "_law_class" (P46.top 67):=⟨by kernel_rfl,by decide +kernel,⟨_,_,_,_,_,_,_,_,_,_,_,_,_,_,_,_,_,_,_,_,_,_,rfl⟩,by decide +kernel⟩
theorem P46.hS:∀b,P46.md b=true->P46.D.lookup (L2.yd b)=some ((λb=>match b with|true=>P46.top 0|false=>P46.top 67) b)/\M.oq b "_law_class" ((λb=>match b with|true=>P46.top 0|false=>P46.top 67) b)
 |false,_=>⟨rfl,P46.Ql⟩|true,h=>by cases h
theorem P46.ke:((("HueError":Str))::P46.X.c).all (λc=>M.aH P46.q c)=true:=by decide +kernel
theorem P46.kf:P46.X.b.all (λg=>(EZ P46.q).any (λd=>decide (d.name=g))&&(P46.D.lookup g).isSome)=true:=by decide +kernel
theorem PySem.Challenge.cw_evenhues_k46_strips_that_do_not_fit_holds : PySem.Challenge.rw_evenhues_k46_strips_that_do_not_fit.Holds := by
 exact M.W7 (n:=11) _ P46.Uw P46.left P46.hgl P46.cy P46.hp P46.hk P46.hwr P46.ok P46.bare P46.hw (by kernel_rfl) P46.hdf ⟨rfl,by decide,by decide,rfl⟩ P46.hF P46.hx P46.U8 rfl (by decide +kernel) rfl P46.kst P46.hS rfl (by decide +kernel) (by decide +kernel) P46.ke P46.kf (λns _=>P46.V5 ns)
end
end
