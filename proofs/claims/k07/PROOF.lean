import PyProof.Rows.All
import Wide.All
import OpenK.AllK
import Wide.FinOn
import Lean
import PyProof.EqAt
import PyProof.EqKinds
import PyProof.TupleCall
import KE.KTryMore
import PyProof.P3Eq
import PyProof.NeData
import PyProof.P3In
import PyProof.Rows.EnumRows
import PyProof.ZipIter
import PyProof.Rows.SetFrom
import PyProof.ExcClass
import OpenK.KRaise
import PyProof.ExcBaseAll.ValueError
import KE.KLam
import PyProof.ExcArgsOwn
import PyProof.IsiH_list
import PySem.Challenge.RW_evenhues_k07_strips_refused
set_option genSizeOf false
set_option genSizeOfSpec false
set_option bootstrap.genMatcherCode false
set_option Elab.async false
set_option linter.all false
set_option maxRecDepth 100000
set_option maxHeartbeats 4000000
set_option autoImplicit true
set_option relaxedAutoImplicit true
noncomputable section
open And renaming intro->Ac
open Array renaming length_toList->CM
open Bool renaming and_eq_true->cf,false_ne_true->Aj,or_eq_true->Ao,not_eq_true'->Ay,false_eq_true->AZ,false_and->CD,eq_iff_iff->CP,or_eq_false_iff->Dg,or_true->Et,and_eq_true_iff->EB,and_self->Fb
open False renaming elim->AA
open ForInStep renaming yield->B8
open Iff renaming rfl->CH
open Int renaming toNat_natCast->BS,fdiv_eq_ediv_of_nonneg->Di,fmod_eq_emod_of_nonneg->Dj,le_trans->Es,emod_lt_of_pos->EW,natCast_emod->FL,le_antisymm->F0,emod_nonneg->F1
open LawfulBEq renaming eq_of_beq->B2
open LawfulMonad renaming pure_bind->Dz
open List renaming size_toArray->Aa,getElem?_eq_getElem->Ad,mem_cons_of_mem->Ah,length_map->Ai,mem_cons->Ak,replicate->Al,getElem?_eq_some_iff->Am,lookup_cons->An,length_append->Ap,mem_cons_self->As,getElem?_set_self->Av,mem_singleton->Aw,all_eq_true->AF,getD_eq_getElem?_getD->AH,length_cons->AI,length_set->AL,isEmpty_iff->AN,getElem?_set_ne->AO,mem_append->AS,mem_of_getElem?->AU,getElem?_append_left->AW,getElem?_map->AX,filterMap_cons->A3,mem_append_right->A6,map_cons->A7,append_nil->Bb,not_mem_nil->Bg,range->Bj,any_eq_true->Bo,getElem_of_mem->Bp,mem_append_left->Bs,append_assoc->Bx,length_singleton->BA,contains_cons->BD,getElem?_append_right->BF,replicate_succ->BI,length_take->BN,nodup_cons->BU,filterMap_map->B1,length_nil->B5,mem_map->B9,flatten_cons->Ca,getElem_mem->Cf,mem_filterMap->Co,length_replicate->Cr,getElem?_eq_none->Cu,all_cons->Cw,getElem?_eq_none_iff->Cz,length_range->C0,mem_range->C1,length_pos_iff->Dn,nil_append->Ds,drop_eq_getElem_cons->Du,foldl->DH,drop_zero->DI,getElem?_replicate->DN,findIdx?_eq_some_iff_getElem->DW,length_drop->D5,countP_cons->D8,getElem?_toArray->Eg,of_mem_zip->El,forIn_cons->Er,map_append->Ew,mem_of_mem_take->EA,map_congr_left->EF,set_comm->EZ,take_sublist->Fe,nodup_append->Fo,getElem?_take_of_lt->Fy,cons_append->FE,length_filterMap_le->FI,drop_length->FK,eq_of_mem_replicate->FO,lookup_eq_none_iff->FR,length->F3,forIn_nil->Ge,map->Gq
open List.Pairwise renaming nil->Fh
open MonadExcept renaming tryCatch->Gp
open Nat renaming le_refl->xd,lt_of_lt_of_le->Ar,ne_of_lt->Ax,le_trans->AE,lt_irrefl->A1,lt_succ_of_lt->BH,zero_le->BX,lt_succ_self->Ce,ne_of_gt->CI,le_succ->CW,le_of_lt->C4,min_le_right->D4,lt_of_sub_eq_succ->Eh,le_of_eq->Ez,zero_add->FJ
open Ne renaming symm->A9
open Option renaming none->dr,map_eq_some_iff->A8,isNone_iff_eq_none->B4,isSome_iff_exists->B6,map_some->Dq,bind_eq_some_iff->DM,bind_some->Fw,getD_none->FA
open Option.some renaming inj->AQ,injEq->DQ
open Prod.mk renaming injEq->Gs
open PyProof renaming noPylong_small->DT
open PyProof.Rows renaming slot_tuple_getitem->AV,assignInOrder_cons->Cj,callWith_type1->Cm,boot_sorted->DF,joinParts_cons->DL,tupleItemsOf_->DZ,boot_min->Ei,entry_tuple_getitem->EC,recsOf->EG,args_tuple_getitem->EM,subscriptTail->E3,assignInOrder_nil->Fd,Top->FN,boot_tuple->FQ,Subscript_->Gj
open PySem renaming wpAny_bind->dS,wpAny_pure->Ab,sizeLine->Au,Spec->Az,starEach->AD,mainGlobals->AJ,sizeLine_eq->AK,mem_of_lookup->AM,foldedSetIterable->AR,wpAny_mono->AY,strLen_append->A2,wpAny_newObj_type->A4,compareOp->Ba,wpAny_standAt->Bc,wpAny_loadPart_at->Bh,wpAny_truthy_bool->Bq,sliceBounds->Br,letOwnedTupleGo->Bt,wpAny_Call_Name_kw->Bu,binaryOp->Bw,wpAny_holding->By,treeTable->BC,call_meets->BK,wpAny_loadPart'->BL,FuncData->BM,swappedStores->BP,bootBuiltins->BV,excClassObj->BY,sysModules->BZ,wpAny_callSpecial?_slot->Cc,wpAny_field->Ci,wpAny_pyIter_tuple->Ck,cellsFrom->Cp,wpAny_passesOwn->Cq,assignEach->CA,wpAny_binaryOp_repeat_ref->CB,recursionLimit->CG,wpAny_call_entry->CJ,NameKind->CK,checkBuiltinCall->CL,attributeBase->CN,typeIs_int->CT,bindName->CV,wpAny_pyIter_list->CZ,codeAny_mono->C6,wpAny_seqItems->C7,wpAny_rule->Dc,compTurn->Dd,behindInMarks->Dh,wpAny_isSubtype_exc->Dp,wpAny_execs_nil->Dr,codeAny_builtin->Dt,inplaceOp->Dx,wpAny_comprehension_free->DA,wpAny_raiseStmt_made_sub->DB,codeAmong->DC,TriplesOk->DE,wpAny_bindName->DG,wpAny_tryCatch->DJ,wpAny_pyIter_enum->DS,keywordEach->DU,assignInOrder->DX,swapsWithSole->DY,plainId_quiet->D0,wpAny_execs_cons->D2,noFill_tuple_add->D3,Arguments->D9,swapsWith->Ec,seqItems?->Ef,wpAny_call->Ek,wpAny_typeOf->En,codeAny_call_builtin->Eu,constantsAlone->EJ,wpAny_letGo->EK,PassesOwn->EL,wpAny_newFunctionEnv_cells->E1,seq_tuple_add->E2,Comprehension->E4,wpAny_letOwnedTupleGo_enum->E6,foldedForSure->E9,wpAny_sequenceKey->Ff,slot_list_getitem->Fg,wpAny_Call_ofName->Fm,builtinsNs->Fq,typeLookup->Ft,cameBackBy->Fv,backToKw->Fx,wpAny_getItem_list_slice->FC,wpAny_Dict_empty->FG,wpAny_pyNext_enum_itemD->FP,DictEntry->FT,importedModules->FU,wpAny_updateSeq->FZ,wpAny_of_eq->F4,isCodeTable->F5,newFunctionEnv->Gd,wpAny_setField->Gf,bindArgs->Gi,closureFor->Gk,storeName->Gx,lastMarks->Gz,slicePick->GA
open PySem.Around renaming under_plainId->Df,frames_deeper->Em
open PySem.AutoSeq1 renaming idx_int->FF
open PySem.Builtin.Builtins renaming bindParams->ET
open PySem.Builtin.List renaming listTooLong->Dy
open PySem.Builtin.Range renaming rangeSize->Cb
open PySem.Builtin.Slice renaming sliceAdjust->BJ,slicePlaces->B3,sliceApplied->Cv,sliceFields->Fs
open PySem.Builtin.SmallTypes renaming nextOf->CC
open PySem.Builtin.Tuple renaming tupleExact->Bn,tupleItemsOf->Dk,tupleTooMany->Dl,tupleIsExact->E5
open PySem.Calls renaming Constant_str->Dw,evalArgs_plain->Eo,Name_function_global->EY
open PySem.CmpOf renaming ints_gt->Gw
open PySem.Code renaming quiet_builtin->EV
open PySem.Data renaming fields->F2
open PySem.Expr renaming Name->Ee,JoinedStr->F8,Attribute->F9,Subscript->Ga,Constant->Gv
open PySem.Expr.Compare renaming elim->Fi
open PySem.Expr.FormattedValue renaming elim->FD
open PySem.Expr.ListComp renaming elim->EO
open PySem.Expr.Tuple renaming elim->FY
open PySem.F renaming plain_max_loop->Bl,args_tuple_add_2->BO,entry_tuple_add->BR,slot_tuple_add->BW,slot_int_rmul->B7,slot_tuple_iterator_next->Cy,entry_max_loop->CY,typeOf_object_class->C9,slot_tuple_mul->De,plainAttrs_list->DO,args_int_rmul_2->DR,slot_int_index->D6,entry_int_rmul->D7,fills_int_mul->Ep,slot_gs_get->ED,args_tuple_iterator_next_1->EH,args_tuple_mul_2->ES,entry_tuple_iterator_next->EU,excBase_ValueError->E7,excAttr_ValueError->E8,entry_tuple_mul->Fj
open PySem.Flow renaming next->Gy
open PySem.Heap renaming get?_push_of_some->nx,lt_size->Ae,get?_push_size->Aq,size_push->A5,get?_update_other->Bk,get?_update_self->Ct,SameBut->Dv,MadeExcOf->DK,get?_none_of_le->Ej
open PySem.Heap.IsSliceOf renaming new->EN
open PySem.NameKind renaming free->AB,cell->Be,globalImplicit->DP
open PySem.Obj renaming mapSeq->Fu
open PySem.Paired renaming length->Gu
open PySem.PyData renaming eqv->Ey,weightAll->FH,canLay0->Gg
open PySem.SeqAt renaming EqAt->Bi
open PySem.Stmt renaming AugAssign->Gb
open PySem.Str renaming ofString->BG,empty->Ed
open PySem.Value renaming ref->A0,none->Cg,bool->CO,builtin->D1,type->Fp,int->FV,str->FW
open PySem.Value.type renaming inj->C8
open PySem.W renaming Frag->Ag,behindTheImports->Bv,nsIn->Bz,kia_one->BB,fnOf->BE,codeIn->BQ,keepIn->B0,callWith_K->CQ,topFrame->CU,mg_of->Dm,cellsFrom_some->DV,tabObj->EI,recOk->EX,methodObj->Fc,instObj->FX,lookIn->F6,kitOne->F7,piecesOf->Gh,fencedOpening->Gr
open PySem.Walks renaming list->Gm
open Sum renaming inl->Ea,inr->Eb
open ToString renaming toString->Gn
open True renaming intro->AG
section
namespace Hd
open PySem
inductive G where
 |a (i:Int)|c (x:Str)|b (ns:List Int)
noncomputable def args(s:Stmt):D9:=match s with
 |.FunctionDef _ a _ _ _ _ _ _ _ _=>a
 |_=>{posonlyargs:=[],args:=[],vararg:=none,kwonlyargs:=[],kw_defaults:=[],kwarg:=none,defaults:=[]}
noncomputable def body(s:Stmt):List Stmt:=match s with
 |.FunctionDef _ _ b _ _ _ _ _ _ _=>b
 |_=>[]
noncomputable def scope(s:Stmt):Scope:=match s with
 |.FunctionDef _ _ _ _ _ _ sc _ _ _=>sc
 |_=>{kind:=.function,names:=[],isGenerator:=false,isCoroutine:=false}
noncomputable def posOf(s:Stmt):Pos:=match s with
 |.FunctionDef _ _ _ _ _ _ _ _ _ p=>p
 |_=>⟨0,0,0,0⟩
def X4(x:Str)(st:Stmt):DefRec:=⟨x,args st,body st,scope st,posOf st⟩
noncomputable def S9:List Str:=["len","all","any","tuple","list","sorted","repr","max","min","sum","int","isinstance","divmod","str","bool","dict","set","range","enumerate","zip"]
noncomputable def mF:List Value->Option (List Int)
 |[]=>some []
 |.int i _::r=>(mF r).map (i::·)
 |_=>none
noncomputable def nsH(h:Heap)(x:Str):Option (Option Value):=match h.get? AJ with
 |some o=>Bz [(AJ,o)] AJ x
 |none=>none
noncomputable def UR(fd:BM):BM:={fd with kwdefaults:=.none,doc:=.none,pyModule:=.none,annotations:=none,code:=.none,closureTuple:=.none}
noncomputable def xK(o:Obj):Bool:=(match o.cls with|.none=>true|_=>false)&&(match o.data with|.fields _=>true|_=>false)
def fz(h:Heap)(cd:Value)(x:Str):Bool:=match cd with
 |.ref c=>(match h.get? c with
  |some o=>!xK o&&BQ [(c,o)] (.ref c) x
  |none=>false)
 |_=>false
def Zh(h:Heap)(x:Str):Option BM:=match nsH h x with
 |some (some (.ref f))=>(match h.get? f with
  |some ⟨_,_,.func fd,_⟩=>if fz h fd.code x then some (UR fd) else none
  |_=>none)
 |_=>none
def YW(p:Str × Stmt):Option BM:=some (BE p.1 p.1 (args p.2) (body p.2) (scope p.2) .none .none .none .none none .none .none)
def glB(h:Heap)(x:Str):G->Bool
 |.a i=>(match nsH h x with|some (some (.int j _))=>decide (i=j)|_=>false)
 |.c y=>(match nsH h x with|some (some (.str z _))=>decide (y=z)|_=>false)
 |.b ns=>(match nsH h x with
  |some (some (.ref a))=>(match h.get? a with
   |some ⟨.type n,_,.seq us _,_⟩=>decide (n="tuple")&&decide (us.toList.length<=1000)&&decide (mF us.toList=some ns)
   |_=>false)
  |_=>false)
def blB(h:Heap)(x:Str):Bool:=match nsH h x with|some none=>true|_=>false
def cF(D:List (Str × Stmt))(gl:List (Str × G))(s:Shared):List (Option BM) × Bool:=(D.map λp=>Zh s.heap p.1,gl.all (λp=>glB s.heap p.1 p.2)&&S9.all λx=>blB s.heap x)
def aE(D:List (Str × Stmt)):List (Option BM) × Bool:=(D.map YW,true)
end Hd
end
section
namespace Hd
open PySem PySem.W
noncomputable def hsh(w:World)(x:Str):Int:=reduceHash (w.params.strHash x.cps)
def ent(w:World)(x:Str)(t:Tok)(v:Value):FT:=⟨hsh w x,.str x t,v⟩
def aY(w:World)(n:Nat)(t:Tok)(b:Addr)(md:Value)(x:Str)(l:Int):List Obj:=
 [{cls:=.type "tuple",data:=.seq #[.ref b]},
  {cls:=.type "builtin_function_or_method",data:=.fields #[.builtin "type.__prepare__",.type "type"]},
  {cls:=.type "dict",data:=.dict #[ent w "__module__" (t+7) md,ent w "__qualname__" (t+9) (.str x (t+8)),ent w "__firstlineno__" (t+11) (.int l (t+10)),ent w "__static_attributes__" (t+12) (.ref (n+7))] 4},
  {cls:=.type "tuple",data:=.seq #[]},
  {cls:=.none,data:=.fields #[]},
  {cls:=.type "code",data:=.fields #[.str x (t+2),.str x (t+3),.str "/claim/cut.py" (t+4),.int l 0,.int 0 0,.int 0 0,.int 0 0,.int 0 0,.ref (n+3),.bool false,.int 181 0,.ref (n+4),.none,.none,.none,.none,.int (t+5) 0,.int l 0,.str "/claim/cut.py" (t+6)]},
  {cls:=.type "frame",data:=.plain,slots:=#[some (.ref (n+5)),some (.ref 3),some (.ref (n+2)),none,some md,none,some (.ref 0)]},
  {cls:=.type "tuple",data:=.seq #[]},
  {cls:=.type "dict",data:=.dict #[ent w "__module__" (t+7) md,ent w "__firstlineno__" (t+11) (.int l (t+10)),ent w "__static_attributes__" (t+12) (.ref (n+7)),ent w "__doc__" (t+13) .none] 2},
  {cls:=.type "type",data:=.cls {name:=x,bases:=[.ref b],mro:=[.ref (n+9),.ref b,.type "ValueError",.type "Exception",.type "BaseException",.type "object"],ns:=n+8,qualname:=x},slots:=#[some (.ref n),none,some (.str x t),some (.str x (t+8)),some (.builtin "ValueError.__new__"),some (.bool true)]},
  {cls:=.type "super",data:=.fields #[.ref (n+9),.ref (n+9),.ref (n+9)]},
  {cls:=.type "builtin_function_or_method",data:=.fields #[.builtin "object.__init_subclass__",.ref (n+9)]}]
def fq(w:World)(b:Addr)(md:Value):Nat->Nat->List (Str × Int)->List Obj
 |_,_,[]=>[]
 |n,t,c::cs=>aY w n t b md c.1 c.2++fq w b md (n+12) (t+16) cs
def eR(w:World):Nat->Nat->List (Str × Int)->List FT
 |_,_,[]=>[]
 |n,t,c::cs=>ent w c.1 (t+15) (.ref (n+9))::eR w (n+12) (t+16) cs
noncomputable def fv:Nat->List (Str × Int)->List Value
 |_,[]=>[]
 |n,c::cs=>.int c.2 0::.int 0 0::.ref (n+5)::fv (n+12) cs
noncomputable def bh:Nat->List (Str × Int)->List Value
 |_,[]=>[]
 |n,_::cs=>.ref (n+9)::bh (n+12) cs
noncomputable def Rf(es':List FT):Obj->Obj
 |⟨c,d,.dict es n,s⟩=>⟨c,d,.dict ⟨es.toList++es'⟩ (n+es'.length),s⟩
 |o=>o
noncomputable def Rh(vs':List Value):Obj->Obj
 |⟨c,d,.fields vs,s⟩=>⟨c,d,.fields ⟨vs.toList++vs'⟩,s⟩
 |o=>o
noncomputable def Rg(vs':List Value):Obj->Obj
 |⟨c,d,.cls k,s⟩=>⟨c,d,.cls {k with subclasses:=k.subclasses++vs'},s⟩
 |o=>o
noncomputable def atL(f:Obj->Obj):Nat->List Obj->List Obj
 |_,[]=>[]
 |0,o::os=>f o::os
 |n+1,o::os=>o::atL f n os
noncomputable def eE(st:Stmt):Stmt:=match st with
 |.ClassDef _ _ _ b _ _ _ _ _ _ _=>b.getD 0 st
 |_=>st
def V7(w:World)(n:Nat)(t:Tok)(b:Addr)(md:Value)(st:Stmt)(l:Int):List Obj:=
 let x:Str:="TooGreat";let f:BM:={name:="__init__",qualname:="TooGreat.__init__",params:=args (eE st),body:=.stmts (body (eE st)),scope:=scope (eE st),globals:=0,closure:=[],defaults:=.none,kwdefaults:=.none}
 [{cls:=.type "tuple",data:=.seq #[.ref b]},
  {cls:=.type "builtin_function_or_method",data:=.fields #[.builtin "type.__prepare__",.type "type"]},
  {cls:=.type "dict",data:=.dict #[ent w "__module__" (t+7) md,ent w "__qualname__" (t+9) (.str x (t+8)),ent w "__firstlineno__" (t+11) (.int l (t+10)),ent w "__init__" (t+20) (.ref (n+13)),ent w "__static_attributes__" (t+23) (.ref (n+14))] 5},
  {cls:=.type "tuple",data:=.seq #[]},
  {cls:=.none,data:=.fields #[.int (l+2) 0,.int 4 0,.ref (n+12)]},
  {cls:=.type "code",data:=.fields #[.str x (t+2),.str x (t+3),.str "/claim/cut.py" (t+4),.int l 0,.int 0 0,.int 0 0,.int 0 0,.int 0 0,.ref (n+3),.bool false,.int 181 0,.ref (n+4),.none,.none,.none,.none,.int (t+5) 0,.int l 0,.str "/claim/cut.py" (t+6)]},
  {cls:=.type "frame",data:=.plain,slots:=#[some (.ref (n+5)),some (.ref 3),some (.ref (n+2)),none,some md,none,some (.ref 0)]},
  {cls:=.type "tuple",data:=.seq #[]},
  {cls:=.none,data:=.fields #[]},
  {cls:=.type "tuple",data:=.seq #[.str "self" (t+15),.str "many" (t+16),.str "most" (t+17)]},
  {cls:=.type "tuple",data:=.seq #[]},
  {cls:=.none,data:=.func f},
  {cls:=.type "code",data:=.fields #[.str "__init__" (t+12),.str "TooGreat.__init__" (t+13),.str "/claim/cut.py" (t+14),.int (l+2) 0,.int 3 0,.int 0 0,.int 0 0,.int 3 0,.ref (n+7),.bool true,.int 181 0,.ref (n+8),.none,.ref (n+9),.ref (n+10),.ref (n+11),.int (t+18) 0,.int (l+2) 0,.str "/claim/cut.py" (t+19)]},
  {cls:=.type "function",data:=.func {f with globals:=3,pyModule:=md,code:=.ref (n+12)}},
  {cls:=.type "tuple",data:=.seq #[.str "many" (t+21),.str "most" (t+22)]},
  {cls:=.type "dict",data:=.dict #[ent w "__module__" (t+7) md,ent w "__firstlineno__" (t+11) (.int l (t+10)),ent w "__init__" (t+20) (.ref (n+13)),ent w "__static_attributes__" (t+23) (.ref (n+14)),ent w "__doc__" (t+24) .none] 2},
  {cls:=.type "type",data:=.cls {name:=x,bases:=[.ref b],mro:=[.ref (n+16),.ref b,.type "ValueError",.type "Exception",.type "BaseException",.type "object"],ns:=n+15,qualname:=x},slots:=#[some (.ref n),none,some (.str x t),some (.str x (t+8)),some (.builtin "ValueError.__new__"),some (.bool true)]},
  {cls:=.type "super",data:=.fields #[.ref (n+16),.ref (n+16),.ref (n+16)]},
  {cls:=.type "builtin_function_or_method",data:=.fields #[.builtin "object.__init_subclass__",.ref (n+16)]}]
def tgF(w:World)(n t:Nat)(b:Addr)(md:Value)(cs:List (Str × Int))(st:Stmt)(l:Int)(s:Shared):Shared:=
 let m:=n+12*cs.length;let u:=t+16*cs.length
 {s with toks:=u+27,heap:={s.heap with objs:=⟨atL (Rf (eR w n t cs++[ent w "TooGreat" (u+26) (.ref (m+16))])) 3 (atL (Rh (fv n cs++[.int l 0,.int 0 0,.ref (m+5)])) 12 (atL (Rg (bh n cs++[.ref (m+16)])) b s.heap.objs.toList))++(fq w b md n t cs++V7 w m u b md st l)⟩}}
noncomputable def vn(p:Program):Env:={scope:=p.main.scope,locals:=mainNs,globals:=mainNs,cells:=[],code:=.ref 13,frame:=some 14}
noncomputable def oO:Option Value:=some (.ref 6)
noncomputable def S0(p:Program)(w:World):Shared:=(Gr BC p w 100000).getD (start (opening p)).1
def SA(p:Program)(w:World):Shared:=((topGo BC p w 11 oO 12 (S0 p w) (topStub p)).map Prod.fst).getD (S0 p w)
noncomputable def Bd(p:Program)(k:Nat):List Stmt:=(Bv p).take 2++(((Bv p).drop 2).take k++(Bv p).drop (2+k))
def Cd(p:Program)(k:Nat):Code:=.body (Bd p k) (vn p)
def S1(p:Program)(k:Nat)(w:World):Shared:=((segRun BC p w 11 oO 1 1000 (SA p w) (Gh ((Bv p).take 2) (vn p) (Cd p k) default [CU default])).map λr=>r.2.1).getD (SA p w)
noncomputable def Vh(l:Nat):Pos:=⟨l,0,l+1,8⟩
noncomputable def Vi(l:Nat):Pos:=⟨l,0,l+5,24⟩
def S3(p:Program)(cs:List (Str × Int))(l:Nat)(w:World):Shared:=tgF w 28 207 24 (.str "evenhues.errors" 187) cs ((Bv p).getD (2+cs.length) (.Pass ⟨0,0,0,0⟩)) l (S1 p (cs.length+1) w)
noncomputable def aW(p:Program)(h:Heap)(z:Shared):Bool:=staticsOk (FU p.main.body) h z.heap&&namesBound p z.heap&&gensDone z&&laidKept h z.heap
def chk(p:Program)(h:Heap)(z:Shared):Option Shared:=match aW p h z with
 |true=>some z
 |false=>none
theorem gD{Yf}{Ya:World->α}{T0 TA T1 T2:World->Shared}
 (hc:cd=.body (l1++(l2++l3)) env)
 (h0:∀w,Gr BC p w N=some (T0 w))
 (h1:∀w,((T0 w).heap.isNs AJ&&(T0 w).gens.size == 0,(T0 w).heap.objs.size,(T0 w).heap.nsMap AJ "__annotations__")=(true,m,ann))
 (hA:∀w,topGo BC p w m ann k0 (T0 w) (topStub p)=some (TA w,⟨denote BC (.body (l1++(l2++l3)) env),cd,b0,[CU qq]⟩))
 (hB:∀w,segRun BC p w m ann 1 1 (TA w) (blockOf (l1++(l2++l3)) env cd b0 [CU qq])=some (.next,TA w,cd,b0))
 (hC:∀w,segRun BC p w m ann 1 n1 (TA w) (Gh l1 env cd b0 [CU qq])=some (.next,T1 w,cd,b1))
 (hD:∀w,segRun BC p w m ann 1 n2 (T1 w) (Gh l2 env cd b1 [CU qq])=some (.next,T2 w,cd,b2))
 (hE:∀w,((topRun BC p w m ann n3 (T2 w) (restOf l3 env cd b2 [CU qq])).bind (chk p (T0 w).heap)).map (λz=>(openSeen q loose (FU p.main.body) Xt true z,Yf z))=some (openGood q loose,Ya w))
 (le:Nat.ble (k0+(1+(n1+(n2+n3)))) N=true):LeftO p q loose Xt Yf Ya N:=λw=>by
 have hs:=h1 w;simp only[Gs]at hs;obtain⟨r,k1,k2⟩:=A8.mp (hE w);obtain⟨r',k3,k4⟩:=DM.mp k1;have go:=topRun_mono (N-(k0+(1+(n1+(n2+n3))))) _ _ _ _ (go_top (hA w) (piece_block (hB w) (piece_app (hC w) (piece_app (hD w) k3))));rw[Nat.add_sub_cancel' (Nat.le_of_ble_eq_true le)]at go;have tf:topFrom BC p w N (T0 w)=some r:=by unfold topFrom;rw[hs.1,hs.2.1,hs.2.2];dsimp only;rw[go];unfold chk aW at k4;exact k4
 unfold openEnds;rw[h0 w,Fw,tf];exact congrArg some k2
theorem Uj{α β γ δ ε ζ η κ:Type}{o:Option Shared}{f:Shared->α × β × γ × δ × ε × ζ × η}{g:Shared->κ}{a}{b}{c}{d}{e}{i}{j}{u}(h0:o.map (λz=>(f z).1)=some a)(h1:o.map (λz=>((f z).2.1,(f z).2.2.1))=some (b,c))(h2:o.map (λz=>(f z).2.2.2.1)=some d)(h5:o.map (λz=>((f z).2.2.2.2.1,(f z).2.2.2.2.2.1))=some (e,i))(h3:o.map (λz=>(f z).2.2.2.2.2.2)=some j)(h4:o.map (λz=>(g z,aW p h z))=some (u,true)):(o.bind (chk p h)).map (λz=>(f z,g z))=some ((a,b,c,d,e,i,j),u):=by
 cases o with
 |none=>cases h4
 |some z=>
  simp only[Dq,DQ,Gs]at h0 h1 h2 h3 h4 h5;have e1:chk p h z=some z:=by unfold chk;rw[h4.2]
  rw[Fw,e1,<-h0,<-h1.1,<-h1.2,<-h2,<-h5.1,<-h5.2,<-h3,<-h4.1];rfl
end Hd
end
section
namespace Hd
open PySem PySem.W
structure XT where
 a:List Str
 c:List Str
 b:List Str
def adH(h:Heap)(x:Str):Option Addr:=match nsH h x with
 |some (some (.ref a))=>some a
 |_=>none
def Xz(h:Heap)(x:Str):List (Addr × Obj):=match adH h x with
 |some a=>(match h.get? a with
  |some o=>(match o.data with
   |.cls cd=>(a,o)::(match h.get? cd.ns with
    |some n=>if xK n then [] else [(cd.ns,n)]
    |none=>[])
   |_=>[])
  |none=>[])
 |none=>[]
def kcH(h:Heap):List Str->Frag
 |[]=>[]
 |x::xs=>Xz h x++kcH h xs
noncomputable def veM:List Value:=[.type "ValueError",.type "Exception",.type "BaseException",.type "object"]
noncomputable def aM(K:Frag)(C:Addr):Bool:=(findIn K (.ref C) "__getattribute__" == some (some (.builtin "BaseException.__getattribute__")))&&(findIn K (.ref C) "__getattr__" == some none)&&(findIn K (.ref C) "__class__" == some (some (.builtin "object.__class__"))) &&
 (subIn K (.ref C) (.type "BaseException") == some true)&&(subIn K (.ref C) (.type "object") == some true)&&(clsIn K C).isSome
def d7(h:Heap)(C:Addr)(bm:List Value):Bool:=match h.get? C with
 |some o=>(match o.data with
  |.cls cd=>(cd.mro == .ref C::bm)&&(match h.get? cd.ns with
   |some n=>!xK n
   |none=>false)
  |_=>false)
 |none=>false
def bmB(h:Heap):Bool:=match adH h "__builtins__" with
 |some b=>(match h.get? b with
  |some o=>!xK o
  |none=>false)
 |none=>false
def kg(h:Heap)(x:Str):Option Addr:=match adH h x with
 |some f=>(match h.get? f with
  |some o=>(match o.data with
   |.func fd=>(match fd.code with
    |.ref c=>(match h.get? c with
     |some oc=>(match oc.data with
      |.fields vs=>(match (vs[11]?:Option Value) with
       |some (.ref P)=>some P
       |_=>none)
      |_=>none)
     |none=>none)
    |_=>none)
   |_=>none)
  |none=>none)
 |none=>none
def o9(X:XT)(h:Heap):Bool:=match adH h "HueError" with
 |none=>false
 |some hue=>X.a.all (λc=>(adH h c).isSome)&&blB h "ValueError"&&X.c.all (λc=>match adH h c with
  |none=>false
  |some C=>aM (kcH h ("HueError"::X.a)) C&&(exmOne (kcH h ("HueError"::X.a)) (.ref C) (.ref hue) == some true)&&X.a.all (λd=>kitOne (kcH h ("HueError"::X.a)) (.ref C) (.ref ((adH h d).getD 0)) == some (decide (d=c))) &&
   (kitOne (kcH h ("HueError"::X.a)) (.ref C) (.type "ValueError") == some true)&&d7 h C (.ref hue::veM)) &&
  d7 h hue veM&&bmB h&&decide ((X.b.map (kg h)).Nodup)
theorem Uk{α β γ:Type}{z:Option γ}{f:γ->α}{g:γ->β}{p}{a}{b}(h1:z.map (λz=>(f z,g z))=some (a,b))(h2:z.map p=some true):z.map (λz=>(f z,(g z,p z)))=some (a,(b,true)):=by
 cases z with
 |none=>cases h1
 |some z=>
  simp only[Dq,DQ,Gs]at h1 h2 ⊢;exact⟨h1.1,h1.2,h2⟩
theorem Ul{α β:Type}{o:Option Shared}{f:Shared->α}{g:Shared->β}{a}{b}(h1:(o.bind (chk p h)).map (λz=>(f z,g z))=some (a,b))(h2:o.map q=some true):(o.bind (chk p h)).map (λz=>(f z,(g z,q z)))=some (a,(b,true)):=by
 refine Uk h1 ?_;cases o with
 |none=>cases h2
 |some z=>
  rw[Fw]at h1 ⊢;unfold chk at h1 ⊢;split
  . exact h2
  . rename_i e;rw[e]at h1;cases h1
end Hd
end
section
set_option maxHeartbeats 0
open PySem PySem.W PyProof.Rows
namespace P07
noncomputable def top(i:Nat):Stmt:=PySem.Challenge.pw_evenhues_k07_strips_refused.main.body.getD i (.Pass ⟨0,0,0,0⟩)
def D:List (Str × Stmt):=(("is_whole":Str),top 22)::(("are_wholes":Str),top 23)::(("need_whole":Str),top 24)::(("need_size":Str),top 25)::(("need_length":Str),top 26)::(("need_first":Str),top 27)::(("need_step":Str),top 28)::(("most_step":Str),top 30)::(("rows_in":Str),top 31)::(("is_strip":Str),top 34)::(("need_strip":Str),top 35)::(("is_order":Str),top 36)::(("backward":Str),top 37)::(("exchanged":Str),top 38)::(("thinned":Str),top 39)::(("joined":Str),top 40)::(("is_one_hue":Str),top 42)::(("whole_rows":Str),top 43)::(("first_whole":Str),top 44)::(("whole_by":Str),top 45)::(("longest":Str),top 46)::(("alike_from":Str),top 47)::(("are_sizes":Str),top 49)::(("need_sizes":Str),top 50)::(("fits":Str),top 51)::(("first_wrong":Str),top 52)::(("first_hue_wrong":Str),top 53)::(("first_row_wrong":Str),top 54)::(("_law_cell_at":Str),top 56)::(("_law_pen":Str),top 57)::(("_law_draw":Str),top 58)::(("_law_strip":Str),top 59)::(("_law_class":Str),top 60)::(("_law_said":Str),top 61)::(("_law_no_strips":Str),top 62)::(("law":Str),top 63)::[]
noncomputable def gl:List (Str × Hd.G):=[("MOST_PLACES",.a 40),("LEAST_SIZE",.a 2),("MOST_SIZE",.a 8),("HUES",.b [0,1,2,3])]
def q:Program:={PySem.Challenge.pw_evenhues_k07_strips_refused with main:={PySem.Challenge.pw_evenhues_k07_strips_refused.main with body:=[1,2,3,4,5,6,7,8,9,10,11,12,13,14,15,16,17,19,20,21,22,23,24,25,26,27,28,30,31,33,34,35,36,37,38,39,40,42,43,44,45,46,47,49,50,51,52,53,54,56,57,58,59,60,61,62,63].map top}}
def dd:DefRec:=Hd.X4 "law" (top 63)
noncomputable def X:Hd.XT:=⟨["NoStrip","NoSizes","NoNumber","NoPlace","NoHue","NoDraft","NoPaper","NoFit","NoLot","NoRing","NoRound","NoStand","NoText","NoDeed","NoLine","TooGreat"],["NoStrip","NoSizes","NoNumber","NoHue"],["law"]⟩
noncomputable abbrev pr:Program:=PySem.Challenge.rw_evenhues_k07_strips_refused.row.prog
noncomputable def X3:List (Str × Int):=[("NoStrip",4),("NoSizes",6),("NoNumber",8),("NoPlace",10),("NoHue",12),("NoDraft",14),("NoPaper",16),("NoFit",18),("NoLot",20),("NoRing",22),("NoRound",24),("NoStand",26),("NoText",28),("NoDeed",30),("NoLine",32)]
def Fz(w:World):Option Shared:=topRun BC pr w 11 Hd.oO 50000 (Hd.S3 pr X3 34 w) (restOf ((Bv pr).drop 18) (Hd.vn pr) (Hd.Cd pr 16) (Hd.Vi 34) [CU default])
def Sn(z:Shared):=openSeen q [] (FU pr.main.body) (λs=>EX PySem.Challenge.rw_evenhues_k07_strips_refused.row.records s) true z
theorem e0:∀w,(Fz w).map (λz=>(Sn z).1)=some (expectedOf q):=by
 intro w
 kernel_rfl
theorem e1:∀w,(Fz w).map (λz=>((Sn z).2.1,(Sn z).2.2.1))=some (bltViewBooted,true):=by
 intro w
 kernel_rfl
theorem e2:∀w,(Fz w).map (λz=>(Sn z).2.2.2.1)=some true:=by
 intro w
 kernel_rfl
theorem e6:∀w,(Fz w).map (λz=>((Sn z).2.2.2.2.1,(Sn z).2.2.2.2.2.1))=some (pinGoodD (drecsOf q),plainGoodE q (looseW q [])):=by
 intro w
 kernel_rfl
theorem e3:∀w,(Fz w).map (λz=>(Sn z).2.2.2.2.2.2)=some (plainGoodD q [],wideGood q,clsGoodW q []):=by
 intro w
 kernel_rfl
theorem e4:∀w,(Fz w).map (λz=>(Hd.cF D gl z,Hd.aW pr (Hd.S0 pr w).heap z))=some (Hd.aE D,true):=by
 intro w
 kernel_rfl
theorem e5:∀w,(Fz w).map (λz=>Hd.o9 X z.heap)=some true:=by
 intro w
 kernel_rfl
theorem h0:∀w,Gr BC pr w 100000=some (Hd.S0 pr w):=by
 intro w
 kernel_rfl
theorem h1:∀w,((Hd.S0 pr w).heap.isNs AJ&&(Hd.S0 pr w).gens.size == 0,(Hd.S0 pr w).heap.objs.size,(Hd.S0 pr w).heap.nsMap AJ "__annotations__")=(true,11,Hd.oO):=by
 intro w
 kernel_rfl
theorem hA:∀w,topGo BC pr w 11 Hd.oO 12 (Hd.S0 pr w) (topStub pr)=some (Hd.SA pr w,⟨denote BC (.body (Hd.Bd pr 16) (Hd.vn pr)),Hd.Cd pr 16,default,[CU default]⟩):=by
 intro w
 kernel_rfl
theorem hB:∀w,segRun BC pr w 11 Hd.oO 1 1 (Hd.SA pr w) (blockOf (Hd.Bd pr 16) (Hd.vn pr) (Hd.Cd pr 16) default [CU default])=some (.next,Hd.SA pr w,Hd.Cd pr 16,default):=by
 intro w
 kernel_rfl
theorem hC:∀w,segRun BC pr w 11 Hd.oO 1 1000 (Hd.SA pr w) (Gh ((Bv pr).take 2) (Hd.vn pr) (Hd.Cd pr 16) default [CU default])=some (.next,Hd.S1 pr 16 w,Hd.Cd pr 16,Hd.Vh 2):=by
 intro w
 kernel_rfl
theorem hD:∀w,segRun BC pr w 11 Hd.oO 1 20000 (Hd.S1 pr 16 w) (Gh (((Bv pr).drop 2).take 16) (Hd.vn pr) (Hd.Cd pr 16) (Hd.Vh 2) [CU default])=some (.next,Hd.S3 pr X3 34 w,Hd.Cd pr 16,(Hd.Vi 34)):=by
 intro w
 kernel_rfl
theorem hE:∀w,((Fz w).bind (Hd.chk pr (Hd.S0 pr w).heap)).map (λz=>(Sn z,Hd.cF D gl z))=some (openGood q [],Hd.aE D):=λw=>Hd.Uj (e0 w) (e1 w) (e2 w) (e6 w) (e3 w) (e4 w)
theorem left:PySem.W.LeftO pr q [] (λs=>EX PySem.Challenge.rw_evenhues_k07_strips_refused.row.records s) (λz=>(Hd.cF D gl z,Hd.o9 X z.heap)) (λ_=>(Hd.aE D,true)) 100000:=
 Hd.gD (p:=pr) (T0:=Hd.S0 pr) (TA:=Hd.SA pr) (T1:=Hd.S1 pr 16) (T2:=Hd.S3 pr X3 34) (N:=100000) (m:=11) (k0:=12) (n1:=1000) (n2:=20000) (n3:=50000) (ann:=Hd.oO) (env:=Hd.vn pr) (l1:=(Bv pr).take 2) (l2:=((Bv pr).drop 2).take 16) (l3:=(Bv pr).drop 18) (cd:=Hd.Cd pr 16) (b0:=default) (b1:=Hd.Vh 2) (b2:=(Hd.Vi 34)) (qq:=default) rfl h0 h1 hA hB hC hD (λw=>Hd.Ul (hE w) (e5 w)) (by decide +kernel)
theorem Vw:PySem.Challenge.rw_evenhues_k07_strips_refused.wellSaid=true:=by kernel_rfl
theorem ef:PySem.W.defOf q PySem.Challenge.rw_evenhues_k07_strips_refused.row.name=some (dd,[]):=by kernel_rfl
theorem hp:PySem.Challenge.rw_evenhues_k07_strips_refused.row.prog.theDef PySem.Challenge.rw_evenhues_k07_strips_refused.row.name=some (dd.params,dd.body,dd.scope):=by kernel_rfl
theorem hk:PySem.W.kwWritten? dd.params.kwonlyargs dd.params.kw_defaults=some []:=by kernel_rfl
theorem hwr:(!PySem.Challenge.rw_evenhues_k07_strips_refused.row.writes||PySem.Challenge.rw_evenhues_k07_strips_refused.row.records.isEmpty)=true:=by kernel_rfl
theorem ok:(PySem.W.chainsOk q&&PySem.W.opensWell PySem.Challenge.rw_evenhues_k07_strips_refused.row.prog&&(PySem.W.frees PySem.Challenge.rw_evenhues_k07_strips_refused.row.toRowW&&PySem.Challenge.rw_evenhues_k07_strips_refused.row.within.isEmpty))=true:=by kernel_rfl
theorem hdf:dd.params.defaults=[]:=by kernel_rfl
theorem bare:PySem.Challenge.rw_evenhues_k07_strips_refused.row.prog.bare:=⟨rfl,rfl,rfl,rfl,rfl,by decide +kernel⟩
theorem hw:PySem.Challenge.rw_evenhues_k07_strips_refused.row.toRowW.promised:=by w_witness2
end P07
end
section
namespace L2
open PySem PySem.Spec PyProof.Rows
abbrev Key:=Sum Int Str
noncomputable def Yz:Key->Value->Bool
 |.inl k,v=>Value.isInt k v
 |.inr x,v=>Value.isStrOf x v
noncomputable def RG(w:World):Key->Int
 |.inl k=>hashInt k
 |.inr x=>hashStr w x
theorem yH:∀{k} {v},Yz k v=true->(∃i t,k=Ea i/\v=FV i t)\/(∃x t,k=Eb x/\v=FW x t)
 |.inl i,v,h=>by
  obtain⟨t,e⟩:=Value.isInt_shape (k:=i) (v:=v) h;exact .inl ⟨i,t,rfl,e⟩
 |.inr x,v,h=>by obtain⟨t,e⟩:=Value.isStrOf_shape (x:=x) (v:=v) h;exact .inr ⟨x,t,rfl,e⟩
theorem Ww a b:decide ((Ea a:Key)=Ea b)=(a == b):=by
 by_cases e:a=b
 . subst e;simp
 . have h:¬(Ea a:Key)=Ea b:=λq=>e (Ea.inj q)
   rw[decide_eq_false h];exact(beq_eq_false_iff_ne.mpr e).symm
theorem Wz a b:decide ((Eb a:Key)=Eb b)=decide (a=b):=by
 by_cases e:a=b
 . subst e;simp
 . have h:¬(Eb a:Key)=Eb b:=λq=>e (Eb.inj q)
   rw[decide_eq_false h,decide_eq_false e]
theorem Wx a b:decide ((Ea a:Key)=Eb b)=false:=decide_eq_false (λq=>nomatch q)
theorem Wy a b:decide ((Eb a:Key)=Ea b)=false:=decide_eq_false (λq=>nomatch q)
def ou(prog:Program)(w:World):PySem.KeyKind prog w Key where
 is:=Yz
 hash:=RG w
 inj:=λv a b ha hb=>by
  rcases yH ha with⟨i,t,rfl,rfl⟩|⟨x,t,rfl,rfl⟩
  . rcases yH hb with⟨j,u,rfl,e⟩|⟨y,u,rfl,e⟩
    . injection e with e1 _;rw[e1]
    . exact nomatch e
  . rcases yH hb with⟨j,u,rfl,e⟩|⟨y,u,rfl,e⟩
    . exact nomatch e
    . injection e with e1 _;rw[e1]
 byValue:=λk v h=>by
  rcases yH h with⟨i,t,rfl,rfl⟩|⟨x,t,rfl,rfl⟩<;>rfl
 pyHash:=λhv h=>by
  rcases yH hv with⟨i,t,rfl,rfl⟩|⟨x,t,rfl,rfl⟩
  . exact wpAny_pyHash_int h
  . exact wpAny_pyHash_str h
 eqBool:=λhu hv h=>by
  rcases yH hu with⟨i,t,rfl,rfl⟩|⟨x,t,rfl,rfl⟩
  . rcases yH hv with⟨j,u,rfl,rfl⟩|⟨y,u,rfl,rfl⟩
    . rw[Ww]at h;exact wpAny_eqBool_int h
    . rw[Wx]at h;exact Bi.int_str i t y u _ _ _ _ h
  . rcases yH hv with⟨j,u,rfl,rfl⟩|⟨y,u,rfl,rfl⟩
    . rw[Wy]at h;exact Bi.str_int x t j u _ _ _ _ h
    . rw[Wz]at h;exact wpAny_eqBool_str h
 «strs»:=λk x t v h=>by
  rcases yH h with⟨i,u,rfl,e⟩|⟨y,u,rfl,e⟩
  . exact nomatch e
  . injection e with e1 _
    subst e1;cases v<;>rfl
inductive V where
 |g|f (b:Bool)|d (i:Int)|e (x:Str)|h (b:Array UInt8)|j (b:UInt64)|c (a:Addr)|k (n:String)
 deriving DecidableEq
def RelV:V->Value->Prop
 |.g,u=>u=Cg
 |.f b,u=>u=CO b
 |.d i,u=>∃t,u=FV i t
 |.e x,u=>∃t,u=FW x t
 |.h b,u=>∃t,u=Value.bytes b t
 |.j b,u=>∃t,u=Value.float b t
 |.c a,u=>u=A0 a
 |.k n,u=>u=Fp n
abbrev Vals:List V->List Value->Prop:=Paired RelV
theorem Vals.length(r:Vals xs us):xs.length=us.length:=Gu r
theorem Vals.get:∀{xs} {us} {i:Nat} {x},Vals xs us->xs[i]?=some x->∃u,us[i]?=some u/\RelV x u
 |_,_,_,_,.nil,e=>by simp at e
 |_,_,0,_,.cons r _,e=>by simp at e;subst e;exact⟨_,rfl,r⟩
 |_,_,i+1,x,.cons _ t,e=>by
  obtain⟨u,h1,h2⟩:=Vals.get (i:=i) (x:=x) t (by simpa using e)
  exact⟨u,by simpa using h1,h2⟩
theorem Vals.set(r:RelV x u):∀{xs} {us} i,Vals xs us->Vals (xs.set i x) (us.set i u)
 |_,_,_,.nil=>.nil
 |_,_,0,.cons _ t=>.cons r t
 |_,_,i+1,.cons q t=>.cons q (Vals.set r i t)
theorem Vals.append:∀{xs ys} {us ws},Vals xs us->Vals ys ws->Vals (xs++ys) (us++ws)
 |_,_,_,_,.nil,s=>s
 |_,_,_,_,.cons r t,s=>.cons r (Vals.append t s)
theorem Vals.take:∀{xs} {us} n,Vals xs us->Vals (xs.take n) (us.take n)
 |_,_,0,_=>.nil
 |_,_,_+1,.nil=>.nil
 |_,_,n+1,.cons r t=>.cons r (Vals.take n t)
theorem Vals.drop:∀{xs} {us} n,Vals xs us->Vals (xs.drop n) (us.drop n)
 |_,_,0,r=>r
 |_,_,_+1,.nil=>.nil
 |_,_,n+1,.cons _ t=>Vals.drop n t
theorem Vals.none_of:∀{xs} {us} {i:Nat},Vals xs us->xs[i]?=none->us[i]?=none:=λ{xs us i} r e=>by have h1:=r.length;have h2:xs.length<=i:=Cz.mp e;exact Cz.mpr (by omega)
def Xi:Option V->Option Value->Prop
 |some v,some u=>RelV v u
 |none,none=>True
 |_,_=>False
def KV{κ:Type}:List (κ × V)->List (κ × Value)->Prop:=Paired λ(p:κ × V) (q:κ × Value)=>p.1=q.1/\RelV p.2 q.2
noncomputable def kV:Key->V
 |.inl i=>.d i
 |.inr x=>.e x
inductive HO where
 /-- a list -/
 |b (xs:List V)
 /-- a tuple (never changes) -/
 |c (xs:List V)
 /-- a dict whose keys are ints and texts;one whose keys are tuples of ints and texts (the empty one is both) -/
 |i (kvs:List (Key × V))|k (kvs:List (List Key × V))
 /-- a set of ints: its members,its size -/
 |l (S:Int->Bool) (n:Nat)
 /-- an instance of the class at C,its dict at dx,its attributes -/
 |j (C dx:Addr) (fs:List (Str × V))
 /-- the dict of the instance at x -/
 |e (x:Addr)
 /-- the dict of an exception -/
 |r (fs:List (Str × V))
 /-- a bound method,f of x -/
 |p (f x:Addr)
 /-- a range object lo,lo+1,.. below hi -/
 |q (lo hi:Int)
 /-- a thing that is known to the object (the script;a dict while a loop walks it): read,never written while it is so -/
 |d (o:Obj) (u:HO)
 /-- a code object's table -/
 |g (ps:Array Value)
 /-- any other thing,by what is true of its one object (a def of one's own: SetO a S n:=HO.ext λh=>..) -/
 |m (φ:Heap->Prop)
abbrev Hp:=Addr->Option HO
def ux(h:Heap)(a:Addr)(items:Array Value):Prop:=∃o,h.get? a=some o/\o.cls=.type "tuple"/\∃n,o.data=.seq items n/\o.dict=none
theorem ux.tup{h:Heap}{a:Addr}{items:Array Value}(x:ux h a items):IsTup h a items:=let ⟨o,e,c,n,d,_⟩:=x;⟨o,e,c,n,d⟩
theorem ux.lt(x:ux h a items):a<h.objs.size:=let ⟨_,e,_⟩:=x;Ae e
theorem ux.new(h:Heap)items:ux (h.push {cls:=.type "tuple",data:=.seq items}) h.objs.size items:=⟨_,Aq _ rfl,rfl,_,rfl,rfl⟩
noncomputable def upd(H:Hp)(a:Addr)(o:HO):Hp:=λb=>if b=a then some o else H b
theorem zL:upd H a o a=some o:=by unfold upd;rw[if_pos rfl]
theorem zE(h:b≠a):upd H a o b=H b:=by unfold upd;rw[if_neg h]
theorem zQ{H:Hp}(h:H a=some o)(h':H b=none):a≠b:=by intro e;subst e;rw[h]at h';cases h'
section
variable (P:Program)(w:World)
def zt(H:Hp)(h:Heap)(a:Addr):HO->Prop
 |.b xs=>xs.length<=Au/\∃(its:List Value) (n:Nat),Vals xs its/\h.get? a=some {cls:=.type "list",data:=.seq its.toArray n}
 |.c xs=>xs.length<=Au/\∃its:List Value,Vals xs its/\ux h a its.toArray
 |.i kvs=>kvs.length<=Au/\(a == BZ)=false/\∃vs,KV kvs vs/\h.DictOf (ou P w) a vs
 |.k kvs=>kvs.length<=Au/\(a == BZ)=false/\∃xs:List (List Key × Addr × Value),
  Paired (λ(p:List Key × V) (q:List Key × Addr × Value)=>p.1=q.1/\H q.2.1=some (.c (p.1.map kV))/\RelV p.2 q.2.2) kvs xs /\
  ∃o es ep,h.get? a=some o/\o.ExactDict/\o.data=.dict es ep/\es.toList=xs.map (entryOfKey (tupleKind (ou P w)))/\(xs.map (·.1)).Nodup
 |.l S n=>h.SetOf (intKind P w) a S n
 |.j C dx fs=>H dx=some (.e a)/\fs.length<=1000/\dx≠a/\h.get? a=some (FX C dx) /\
  ∃mA,h.Ns1 dx mA/\(∀f,Xi (fs.lookup f) (mA f))/\PySem.Within mA (fs.map (·.1))
 |.e _=>∃o,h.get? a=some o
 |.r fs=>∃mA,h.Ns1 a mA/\∀f,Xi (fs.lookup f) (mA f)
 |.q lo hi=>∃t u v,h.get? a=some {cls:=.type "range",data:=.fields #[.int lo t,.int hi u,.int 1 v]}
 |.d o u=>h.get? a=some o/\zt H h a u
 |.g ps=>h.get? a=some {cls:=.none,data:=.fields ps}
 |.p f x=>h.get? a=some (Fc (.ref f) (.ref x))
 |.m φ=>φ h/\(∃o,h.get? a=some o)/\∀h1 h2:Heap,φ h1->(∀o,h1.get? a=some o->h2.get? a=some o)->φ h2
def HOk(H:Hp)(h:Heap):Prop:=∀a o,H a=some o->zt P w H h a o
end
section
variable {P:Program}{w:World}{H H':Hp}{h h':Heap}{a:Addr}{o:HO}
theorem zt.lt(x:zt P w H h a o):a<h.objs.size:=by
 cases o with
 |b xs=>obtain⟨_,_,_,_,e⟩:=x;exact Ae e
 |c xs=>obtain⟨_,_,_,p⟩:=x;exact p.lt
 |i kvs=>obtain⟨_,_,_,_,o,_,_,e,_⟩:=x;exact Ae e
 |k kvs=>obtain⟨_,_,_,_,o,_,_,e,_⟩:=x;exact Ae e
 |l S n=>obtain⟨o,_,_,_,e,_⟩:=x;exact Ae e
 |j C dx fs=>obtain⟨_,_,_,e,_⟩:=x;exact Ae e
 |e y=>obtain⟨_,e⟩:=x;exact Ae e
 |r fs=>obtain⟨_,⟨_,_,_,e,_⟩,_⟩:=x;exact Ae e
 |q lo hi=>obtain⟨_,_,_,e⟩:=x;exact Ae e
 |d ob u=>obtain⟨e,_⟩:=x;exact Ae e
 |g ps=>exact Ae (show h.get? a=some _ from x)
 |p f y=>exact Ae (show h.get? a=some _ from x)
 |m φ=>obtain⟨_,⟨_,e⟩,_⟩:=x;exact Ae e
theorem Paired.TH:∀{l₁} {l₂},Paired F l₁ l₂->(∀a b,F a b->G a b)->Paired G l₁ l₂
 |_,_,.nil,_=>.nil
 |_,_,.cons r t,f=>.cons (f _ _ r) (Paired.TH t f)
theorem zt.rB(x:zt P w H h a o)(k:∀b u,(b=a\/H b=some (.e a))->h.get? b=some u->h'.get? b=some u)
 (ho:∀b,H b=some (.e a)->H' b=some (.e a)) (ht:∀b xs,H b=some (.c xs)->H' b=some (.c xs)):zt P w H' h' a o:=by
 induction o with
 |b xs=>obtain⟨z,its,n,r,e⟩:=x;exact⟨z,its,n,r,k _ _ (.inl rfl) e⟩
 |c xs=>obtain⟨z,its,r,ob,e,c⟩:=x;exact⟨z,its,r,ob,k _ _ (.inl rfl) e,c⟩
 |i kvs=>obtain⟨z,y,vs,r,ob,es,ep,e,c⟩:=x;exact⟨z,y,vs,r,ob,es,ep,k _ _ (.inl rfl) e,c⟩
 |k kvs=>
  obtain⟨z,y,xs,r,ob,es,ep,e,c⟩:=x;exact⟨z,y,xs,Paired.TH r λp q z=>⟨z.1,ht _ _ z.2.1,z.2.2⟩,ob,es,ep,k _ _ (.inl rfl) e,c⟩
 |l S n=>obtain⟨ob,es,ep,t,e,c⟩:=x;exact⟨ob,es,ep,t,k _ _ (.inl rfl) e,c⟩
 |j C dx fs=>
  obtain⟨d,z,ne,e,mA,⟨od,es,ep,e2,c⟩,r⟩:=x;exact⟨ho _ d,z,ne,k _ _ (.inl rfl) e,mA,⟨od,es,ep,k _ _ (.inr d) e2,c⟩,r⟩
 |e y=>obtain⟨ob,e⟩:=x;exact⟨ob,k _ _ (.inl rfl) e⟩
 |r fs=>obtain⟨mA,⟨od,es,ep,e,c⟩,r⟩:=x;exact⟨mA,⟨od,es,ep,k _ _ (.inl rfl) e,c⟩,r⟩
 |q lo hi=>obtain⟨t,u,v,e⟩:=x;exact⟨t,u,v,k _ _ (.inl rfl) e⟩
 |d ob u ih=>obtain⟨e,q⟩:=x;exact⟨k _ _ (.inl rfl) e,ih q⟩
 |g ps=>
  have e:h.get? a=some {cls:=.none,data:=.fields ps}:=x;show h'.get? a=some {cls:=.none,data:=.fields ps};exact k a _ (.inl rfl) e
 |p f y=>
  have e:h.get? a=some (Fc (.ref f) (.ref y)):=x;show h'.get? a=some (Fc (.ref f) (.ref y));exact k a _ (.inl rfl) e
 |m φ=>obtain⟨p,⟨o,e⟩,st⟩:=x;exact⟨st _ _ p λo q=>k _ _ (.inl rfl) q,⟨o,k _ _ (.inl rfl) e⟩,st⟩
theorem HOk.lt(x:HOk P w H h)(e:H a=some o):a<h.objs.size:=(x a o e).lt
theorem HOk.fresh(x:HOk P w H h)(e:h.objs.size<=a):H a=none:=by
 cases q:H a with
 |none=>rfl
 |some u=>exact absurd (Ar (x.lt q) e) (A1 _)
theorem HOk.kept(x:HOk P w H h)(k:∀b u,h.get? b=some u->h'.get? b=some u):HOk P w H h':=λa o e=>
 (x a o e).rB (λb u _ q=>k b u q) (λ_ q=>q) λ_ _ q=>q
theorem HOk.laid(x:HOk P w H h)(k:∀b u,h.get? b=some u->h'.get? b=some u)(hp:h.objs.size<=a)(new:zt P w (upd H a o) h' a o):HOk P w (upd H a o) h':=λb u e=>by
 have hn:=x.fresh hp;by_cases hb:b=a
 . subst hb;rw[zL]at e;cases e;exact new
 . rw[zE hb]at e
   exact(x b u e).rB (λc v _ q=>k c v q) (λc q=>by rw[zE (zQ q hn)];exact q) λc xs q=>by rw[zE (zQ q hn)];exact q
end
def Rd(H:Hp)(a:Addr)(u:HO):Prop:=H a=some u\/∃o,H a=some (.d o u)
theorem Rd.ok(r:Rd H a u)(x:HOk P w H h):zt P w H h a u:=by
 rcases r with r|⟨o,r⟩
 . exact x a u r
 . obtain⟨_,q⟩:=x a _ r
   exact q
def Mut:Option HO->Prop
 |some (.b _)=>True
 |some (.i _)=>True
 |some (.k _)=>True
 |some (.l _ _)=>True
 |some (.j _ _ _)=>True
 |some (.m _)=>True
 |_=>False
section
variable {P:Program}{w:World}{H:Hp}{h h':Heap}{x e:Addr}{o':HO}
theorem HOk.write(ok:HOk P w H h)(mu:Mut (H x))(he:e=x\/H e=some (.e x))(k:∀b u,b≠e->h.get? b=some u->h'.get? b=some u)(heo:∃u,h'.get? e=some u)
 (new:zt P w (upd H x o') h' x o'):HOk P w (upd H x o') h':=λb u q=>by
 have nown:∀c y,H c=some (.e y)->c≠x:=λc y r z=>by subst z;rw[r]at mu;exact mu
 have ntup:∀c xs,H c=some (.c xs)->c≠x:=λc xs r z=>by subst z;rw[r]at mu;exact mu
 by_cases hb:b=x
 . subst hb;rw[zL]at q;cases q;exact new
 . rw[zE hb]at q
   by_cases hbe:b=e
   . have q':H b=some (.e x):=by
      rcases he with z|z
      . exact absurd (hbe.trans z) hb
      . rw[hbe];exact z
     rw[q]at q';cases q';obtain⟨v,hv⟩:=heo;exact⟨v,by rw[hbe];exact hv⟩
   . refine(ok b u q).rB (λc v hc r=>k c v ?_ r) (λc r=>by rw[zE (nown c b r)];exact r) λc xs r=>by rw[zE (ntup c xs r)];exact r
     rcases hc with rfl|hc
     . exact hbe
     . rintro rfl
       rcases he with z|z
       . exact nown c b hc z
       . rw[hc]at z;cases z;exact hb rfl
end
structure Un(fs ex:List Addr)(H H':Hp)(h h':Heap):Prop where
 f:∀b o,h.get? b=some o->H b=none->b ∉ fs->b ∉ ex->h'.get? b=some o
 i:∀b o,h.get? b=some o->H b=none->b∈fs->b ∉ ex->∃sl,h'.get? b=some {o with slots:=sl}
 d:∀b o,h.get? b=some o->H b=none->b ∉ ex->H' b=none
 c:∀b o,h.get? b=some o->b ∉ ex->∃o',h'.get? b=some o'
 l:∀b xs,H b=some (.c xs)->H' b=some (.c xs)
 g:∀b o u,H b=some (.d o u)->H' b=some (.d o u)
 j:∀b ps,H b=some (.g ps)->∃more,H' b=some (.g (ps++more))
section
variable {fs fs' ex ex':List Addr}{H H1 H2:Hp}{h h1 h2 h':Heap}{a x e:Addr}{o:HO}
theorem Un.any(u:Un fs ex H H1 h h1)(q:h.get? b=some ob)(n:H b=none)(hx:b ∉ ex):∃sl,h1.get? b=some {ob with slots:=sl}:=by
 by_cases hb:b∈fs
 . exact u.i b ob q n hb hx
 . exact⟨ob.slots,u.f b ob q n hb hx⟩
theorem Un.kept(k:∀b u,h.get? b=some u->h'.get? b=some u):Un fs ex H H h h':=
 ⟨λb ob q _ _ _=>k b ob q,λb ob q _ _ _=>⟨ob.slots,k b ob q⟩,λ_ _ _ n _=>n,λb ob q _=>⟨ob,k b ob q⟩,λ_ _ q=>q,λ_ _ _ q=>q,λ_ ps q=>⟨#[],by rw[q];simp⟩⟩
theorem Un.refl:Un fs ex H H h h:=Un.kept λ_ _ q=>q
theorem Un.laid(k:∀b u,h.get? b=some u->h'.get? b=some u)(hp:h.objs.size<=a)(hn:H a=none):Un fs ex H (upd H a o) h h' where
 f:=λb u q _ _ _=>k b u q
 i:=λb u q _ _ _=>⟨u.slots,k b u q⟩
 d:=λb u q n _=>by rw[zE (Ax (Ar (Ae q) hp))];exact n
 c:=λb u q _=>⟨u,k b u q⟩
 l:=λb xs q=>by rw[zE (zQ q hn)];exact q
 g:=λb u xs q=>by rw[zE (zQ q hn)];exact q
 j:=λb ps q=>⟨#[],by rw[zE (zQ q hn),q];simp⟩
theorem Un.write(mu:Mut (H x))(he:e=x\/H e=some (.e x))(k:∀b u,b≠e->h.get? b=some u->h'.get? b=some u)(heo:∃u,h'.get? e=some u):Un fs ex H (upd H x o) h h':=by
 have hx:∀b,H b=none->b≠x:=λb n z=>by subst z;rw[n]at mu;exact mu
 have hb:∀b,H b=none->b≠e:=λb n z=>by
  subst z;rcases he with r|r
  . exact hx b n r
  . rw[n]at r;cases r
 have hm:∀b u,H b=some u->¬Mut (some u)->b≠x:=λb u q nm z=>by subst z;rw[q]at mu;exact nm mu
 refine⟨λb u q n _ _=>k b u (hb b n) q,λb u q n _ _=>⟨u.slots,k b u (hb b n) q⟩,λb u q n _=>by rw[zE (hx b n)];exact n,λb u q _=>?_,
  λb xs q=>by rw[zE (hm b _ q λz=>z)];exact q,λb u xs q=>by rw[zE (hm b _ q λz=>z)];exact q,λb ps q=>⟨#[],by rw[zE (hm b _ q λz=>z),q];simp⟩⟩
 by_cases hbe:b=e
 . subst hbe;exact heo
 . exact⟨u,k b u hbe q⟩
end
noncomputable def trk(h:Heap)(H:Hp):List Addr:=(Bj h.objs.size).filter λa=>(H a).isSome
def oh(h:Heap)(H:Hp):Heap:=PySem.W.hideAll h (trk h H)
theorem il h H:(oh h H).objs.size=h.objs.size:=PySem.W.hideAll_size _ _
theorem eh(e:h.get? b=some o)(n:H b=none):(oh h H).get? b=some o:=
 PySem.W.hideAll_get _ e λhm=>by have q:(H b).isSome=true:=(List.mem_filter.mp hm).2;rw[n]at q;simp at q
theorem Zi(e:(oh h H).get? b=some o):h.get? b=some o/\H b=none:=by
 have e':h.get? b=some o:=PySem.W.of_hideAll (trk h H) e;refine⟨e',?_⟩;cases q:H b with
 |none=>rfl
 |some x=>
  have hm:b∈trk h H:=List.mem_filter.mpr ⟨C1.mpr (Ae e'),by simp[q]⟩
  have z:(oh h H).get? b=none:=PySem.W.hideAll_none (trk h H) hm;rw[z]at e;cases e
structure Mod(K:Ag)(mg:Str->Option Value)(base:Heap):Prop where
 a:K.In base
 c:base.Ns AJ mg
 d:∃mb,base.Ns Fq mb/\∀x:Str,x≠"__name__"->mb x=BV x
 b:base.NoLimit
structure Cx where
 f:Program
 w:World
 K:Ag
 d:Str->Option Value
 h:Heap
 A:Around
 N:List Str
 l:Shared
 r:Hp
 a:Env
 k:List Env
 g:List Env
 m:List Addr
 n:Str->Bool
 j:Bool
 q:List (Addr × Obj)
 i:Value->Shared->Prop
noncomputable def frs(l:List Env):List Addr:=l.filterMap (·.frame)
abbrev Cx.fs(X:Cx):List Addr:=frs X.k
def Vis(sc:Scope)(x:Str):Prop:=sc.names.lookup x=some .local\/sc.names.lookup x=some .cell\/sc.names.lookup x=some .free
def Loc(sc:Scope)(x:Str):Prop:=sc.names.lookup x=some .local\/sc.names.lookup x=some .cell
def Look(env:Env)(h:Heap)(m:Str->Option Value)(x:Str)(u:Value):Prop:=
 (env.kindOf x=some .local/\m x=some u)\/((env.kindOf x=some .cell\/env.kindOf x=some .free)/\∃c,env.cells.lookup x=some c/\h.IsCell c (some u))
structure Cx.Ok(X:Cx):Prop where
 j:Mod X.K X.d X.h
 a:X.a.scope.kind=.function
 k:X.a.globals=AJ
 t:X.a.builtins=Fq
 d:X.l.heap.objs.size<=X.a.locals
 r:∀x y c,X.a.cells.lookup x=some c->X.a.cells.lookup y=some c->x=y
 p:∀x,(X.a.kindOf x=some .cell\/X.a.kindOf x=some .free)->∃c,X.a.cells.lookup x=some c
 s:∀x c,X.n x=true->X.a.cells.lookup x=some c->X.l.heap.objs.size<=c
 i:X.j=true->X.A.handled=none
 g:X.A.frames=some X.g
 w:X.g=X.k\/(X.g=X.a::X.k/\X.a.frame=some X.a.locals)
 G:∀b∈X.m,b≠X.a.locals/\∀x c,X.a.cells.lookup x=some c->c≠b
 B:∀b o,X.h.get? b=some o->X.l.heap.get? b=some o/\X.r b=none
 q:X.h.objs.size<=X.l.heap.objs.size
 m:∀b o,X.h.get? b=some o->b ∉ X.m
 l:∀b∈X.m,b ∉ X.fs
 D:X.l.heap.FunFrames X.h X.k
 u:∀b∈X.fs,X.r b=none
structure Inv(X:Cx)(pins:List (Addr × Obj))(σ:List (Option V))(H:Hp)(s:Shared):Prop where
 C:X.Ok
 S:s.os=X.l.os
 F:AllBare s.gens
 B:Un X.fs X.m X.r H X.l.heap s.heap
 O:∃m,s.heap.Ns X.a.locals m/\∀(i:Nat) (x:Str) (v:V),X.N[i]?=some x->σ[i]?=some (some v)->Vis X.a.scope x->∃u,RelV v u/\Look X.a s.heap m x u
 J:∀x c,X.a.cells.lookup x=some c->∃v,s.heap.IsCell c v
 M:H X.a.locals=none
 G:∀x c,X.a.cells.lookup x=some c->H c=none
 P:∀p∈X.q++pins,s.heap.get? p.1=some p.2/\H p.1=none/\p.1≠X.a.locals/\p.1 ∉ X.fs/\∀v,p.2.data≠.cell v
 j:HOk X.f X.w H s.heap
 R:σ.length=X.N.length
section
variable {X:Cx}{pins:List (Addr × Obj)}{σ:List (Option V)}{H H':Hp}{s:Shared}{h':Heap}
theorem Cx.Ok.RI(ok:X.Ok)(e:X.h.get? b=some o):b ∉ X.fs:=λhb=>by have:=(ok.D.mem hb).1;rw[e]at this;cases this
theorem Inv.bs(I:Inv X pins σ H s):∀b o,X.h.get? b=some o->s.heap.get? b=some o/\H b=none:=λb o e=>
 ⟨I.B.f b o (I.C.B b o e).1 (I.C.B b o e).2 (I.C.RI e) (I.C.m b o e),I.B.d b o (I.C.B b o e).1 (I.C.B b o e).2 (I.C.m b o e)⟩
theorem Inv.bk(I:Inv X pins σ H s):∀b o,X.h.get? b=some o->s.heap.get? b=some o:=λb o e=>(I.bs b o e).1
theorem Inv.mod(I:Inv X pins σ H s):Mod X.K X.d X.h:=I.C.j
theorem Inv.kIn(I:Inv X pins σ H s):X.K.In s.heap:=I.C.j.a.keeps I.bk
theorem Inv.lt(I:Inv X pins σ H s):X.a.locals<s.heap.objs.size:=let ⟨_,hn,_⟩:=I.O;hn.lt
theorem Inv.sz(I:Inv X pins σ H s):X.l.heap.objs.size<=s.heap.objs.size:=AE I.C.d (C4 I.lt)
theorem Inv.RJ(I:Inv X pins σ H s)(h:s.heap.objs.size<=a):a ∉ X.fs:=λhb=>by obtain⟨_,o,ho,_⟩:=I.C.D.mem hb;exact absurd (Ar (Ae ho) (AE I.sz h)) (A1 _)
theorem Inv.cne(I:Inv X pins σ H s):∀x c,X.a.cells.lookup x=some c->c≠X.a.locals:=λx c e z=>by obtain⟨v,o,ho,hd⟩:=I.J x c e;obtain⟨m,⟨o',es,ep,ho',hd',_⟩,_⟩:=I.O;rw[z,ho']at ho;cases ho;rw[hd']at hd;cases hd
theorem Inv.tG(I:Inv X pins σ H s):s.heap.FunFrames X.h X.k:=by
 have all:∀(l:List Env),(∀b∈frs l,b∈X.fs)->X.l.heap.FunFrames X.h l->s.heap.FunFrames X.h l:=by
  intro l;induction l with
  |nil=>intro _ _;trivial
  |cons env r ih=>
   intro hs hl;obtain⟨hk,⟨L,o,hf,hn,ho,hd⟩,hr⟩:=hl;have hL:L∈X.fs:=hs L (by unfold frs;rw[A3,hf];exact As)
   obtain⟨sl,e⟩:=I.B.i L o ho (I.C.u L hL) hL λz=>I.C.l L z hL;exact⟨hk,⟨L,_,hf,hn,e,hd⟩,ih (λb hb=>hs b (by unfold frs;rw[A3,hf];exact Ah _ hb)) hr⟩
 exact all X.k (λ_ hb=>hb) I.C.D
theorem Inv.stack(I:Inv X pins σ H s):s.heap.FunFrames X.h X.g:=by
 rcases I.C.w with e|⟨e,hf⟩
 . rw[e];exact I.tG
 . rw[e]
   obtain⟨m,hn,_⟩:=I.O;refine .cons (by rw[I.C.a];decide) hf hn ?_ I.tG
   exact Ej (AE I.C.q I.C.d)
theorem Inv.kX(I:Inv X pins σ H s):∀b∈frs X.g,b∈X.a.locals::X.fs:=λb hb=>by
 rcases I.C.w with e|⟨e,hf⟩
 . rw[e]at hb;exact Ah _ hb
 . rw[e]at hb
   unfold frs at hb;rw[A3,hf]at hb;exact hb
theorem Inv.nW(I:Inv X pins σ H s):∀b∈frs X.g,H b=none:=λb hb=>by
 rcases Ak.mp (I.kX b hb) with e|hb
 . rw[e];exact I.M
 . obtain⟨_,o,ho,_⟩:=I.C.D.mem hb
   exact I.B.d b o ho (I.C.u b hb) λz=>I.C.l b z hb
theorem Inv.step{ch:List Addr}(I:Inv X pins σ H s)
 (hch:∀b∈ch,(b∈X.m\/X.l.heap.objs.size<=b)/\b≠X.a.locals/\(∀x c,X.a.cells.lookup x=some c->c≠b)/\∀p∈X.q++pins,p.1≠b)
 (keep:∀b o,b≠X.a.locals->b ∉ X.fs->b ∉ ch->s.heap.get? b=some o->H b=none->h'.get? b=some o)
 (slot:∀b o,b≠X.a.locals->b∈X.fs->b ∉ ch->s.heap.get? b=some o->H b=none->∃sl,h'.get? b=some {o with slots:=sl}) (free:∀b o,b ∉ ch->s.heap.get? b=some o->H b=none->H' b=none)
 (there:∀b o,b ∉ ch->s.heap.get? b=some o->∃o',h'.get? b=some o')
 (tups:∀b xs,H b=some (.c xs)->H' b=some (.c xs)) (frzs:∀b o u,H b=some (.d o u)->H' b=some (.d o u)) (tbls:∀b ps,H b=some (.g ps)->∃more,H' b=some (.g (ps++more)))
 (ns:∀m,s.heap.Ns X.a.locals m->h'.Ns X.a.locals m) (hok:HOk X.f X.w H' h') (hg:AllBare g') :
 Inv X pins σ H' {s with heap:=h',gens:=g',drawn:=d',toks:=t'}:=by
 have neL:∀b o,X.l.heap.get? b=some o->b≠X.a.locals:=λb o e=>Ax (Ar (Ae e) I.C.d);have neC:∀b o,X.l.heap.get? b=some o->b ∉ X.m->b ∉ ch:=λb o e hx hb=>by
  rcases (hch b hb).1 with z|z
  . exact hx z
  . exact absurd (Ar (Ae e) z) (A1 _)
 have cellK:∀x c,X.a.cells.lookup x=some c->∀v,s.heap.IsCell c v->h'.IsCell c v:=λx c e v ⟨o,ho,hd⟩=>by
  have nch:c ∉ ch:=λz=>(hch c z).2.2.1 x c e rfl;by_cases hc:c∈X.fs
  . obtain⟨sl,q⟩:=slot c o (I.cne x c e) hc nch ho (I.G x c e)
    exact⟨_,q,hd⟩
  . exact⟨o,keep c o (I.cne x c e) hc nch ho (I.G x c e),hd⟩
 refine⟨I.C,I.S,hg,⟨λb o e n hb hx=>?_,λb o e n hb hx=>?_,λb o e n hx=>?_,λb o e hx=>?_,λb xs e=>tups b xs (I.B.l b xs e),λb o xs e=>frzs b o xs (I.B.g b o xs e),λb ps e=>?_⟩,?_,λx c e=>?_,?_,λx c e=>?_,λp hp=>?_,hok,I.R⟩
 . exact keep b o (neL b o e) hb (neC b o e hx) (I.B.f b o e n hb hx) (I.B.d b o e n hx)
 . obtain⟨sl,e1⟩:=I.B.i b o e n hb hx
   obtain⟨sl',e2⟩:=slot b _ (neL b o e) hb (neC b o e hx) e1 (I.B.d b o e n hx);exact⟨sl',e2⟩
 . obtain⟨o',e1⟩:=I.B.c b o e hx
   exact free b o' (neC b o e hx) e1 (I.B.d b o e n hx)
 . obtain⟨o',e1⟩:=I.B.c b o e hx
   exact there b o' (neC b o e hx) e1
 . obtain⟨m1,e1⟩:=I.B.j b ps e
   obtain⟨m2,e2⟩:=tbls b _ e1;exact⟨m1++m2,by rw[e2,Array.append_assoc]⟩
 . obtain⟨m,hn,hl⟩:=I.O
   refine⟨m,ns m hn,λi x v e1 e2 e3=>?_⟩;obtain⟨u,r,l⟩:=hl i x v e1 e2 e3;refine⟨u,r,?_⟩;rcases l with l|⟨k,c,e,z⟩
   . exact .inl l
   . exact .inr ⟨k,c,e,cellK x c e _ z⟩
 . obtain⟨v,z⟩:=I.J x c e
   exact⟨v,cellK x c e v z⟩
 . obtain⟨m,⟨o,_,_,ho,_⟩,_⟩:=I.O
   exact free _ o (λz=>(hch _ z).2.1 rfl) ho I.M
 . obtain⟨v,o,ho,hd⟩:=I.J x c e
   exact free c o (λz=>(hch c z).2.2.1 x c e rfl) ho (I.G x c e)
 . obtain⟨e,n,ne,nf,d⟩:=I.P p hp
   have nch:p.1 ∉ ch:=λz=>(hch p.1 z).2.2.2 p hp rfl;exact⟨keep p.1 p.2 ne nf nch e n,free p.1 p.2 nch e n,ne,nf,d⟩
theorem Inv.un(I:Inv X pins σ H s)(u:Un X.fs [] H H' s.heap h')(hok:HOk X.f X.w H' h'):Inv X pins σ H' {s with heap:=h',toks:=t'}:=by
 obtain⟨m,⟨o,es,ep,ho,r⟩,_⟩:=id I.O;obtain⟨sl,hL⟩:=u.any ho I.M (by simp)
 exact I.step (g':=s.gens) (d':=s.drawn) (ch:=[]) (λ_ z=>nomatch z) (λb o _ hb _ e n=>u.f b o e n hb (by simp)) (λb o _ hb _ e n=>u.i b o e n hb (by simp)) (λb o _ e n=>u.d b o e n (by simp)) (λb o _ e=>u.c b o e (by simp)) u.l u.g u.j (λm' hm=>by obtain⟨o',es',ep',ho',r'⟩:=hm;rw[ho]at ho';cases ho';exact⟨_,es',ep',hL,r'⟩) hok I.F
theorem Inv.call(I:Inv X pins σ H s)(u:Un (frs X.g) ch H H' s.heap h')(hok:HOk X.f X.w H' h')(hg:AllBare g')
 (hch:∀b∈ch,(b∈X.m\/X.l.heap.objs.size<=b)/\b≠X.a.locals/\(∀x c,X.a.cells.lookup x=some c->c≠b)/\∀p∈X.q++pins,p.1≠b) :
 Inv X pins σ H' {s with heap:=h',gens:=g',drawn:=d',toks:=t'}:=by
 obtain⟨m,⟨o,es,ep,ho,r⟩,_⟩:=id I.O;obtain⟨sl,hL⟩:=u.any ho I.M λz=>(hch _ z).2.1 rfl;exact I.step (ch:=ch) hch (λb o hL hb hc e n=>u.f b o e n (λz=>(Ak.mp (I.kX b z)).elim hL hb) hc) (λb o _ _ hc e n=>u.any e n hc) (λb o hc e n=>u.d b o e n hc) (λb o hc e=>u.c b o e hc) u.l u.g u.j (λm' hm=>by obtain⟨o',es',ep',ho',r'⟩:=hm;rw[ho]at ho';cases ho';exact⟨_,es',ep',hL,r'⟩) hok hg
theorem Inv.turned(I:Inv X pins σ H s)(k:∀b o,b≠it->s.heap.get? b=some o->h'.get? b=some o)(hn:H it=none)(hL:it≠X.a.locals)
 (h1:it∈X.m\/X.l.heap.objs.size<=it) (h2:∀x c,X.a.cells.lookup x=some c->c≠it) (h3:∀p∈X.q++pins,p.1≠it):Inv X pins σ H {s with heap:=h',toks:=t'}:=by
 have nit:∀b u,H b=some u->b≠it:=λb u e z=>by rw[z,hn]at e;cases e
 refine I.step (g':=s.gens) (d':=s.drawn) (ch:=[it]) (λb hb=>?_) (λb o _ _ hc e _=>k b o (λz=>hc (by simp[z])) e) (λb o _ _ hc e _=>⟨o.slots,k b o (λz=>hc (by simp[z])) e⟩) (λ_ _ _ _ n=>n)
  (λb o hc e=>⟨o,k b o (λz=>hc (by simp[z])) e⟩) (λ_ _ e=>e) (λ_ _ _ e=>e) (λb ps e=>⟨#[],by rw[e];simp⟩) (λm hm=>?_) (λb u e=>?_) I.F
 . have e:b=it:=by simpa using hb
   subst e;exact⟨h1,hL,h2,h3⟩
 . obtain⟨o,es,ep,ho,r⟩:=hm
   exact⟨o,es,ep,k _ o (A9 hL) ho,r⟩
 . refine(I.j b u e).rB (λc v hc q=>k c v ?_ q) (λ_ q=>q) λ_ _ q=>q
   rcases hc with z|z
   . rw[z];exact nit b u e
   . exact nit c _ z
theorem Inv.tok(I:Inv X pins σ H s)t:Inv X pins σ H {s with toks:=t}:=I.un (h':=s.heap) (t':=t) Un.refl I.j
theorem Inv.kept(I:Inv X pins σ H s)(k:∀b u,s.heap.get? b=some u->h'.get? b=some u):Inv X pins σ H {s with heap:=h',toks:=t'}:=I.un (Un.kept k) (I.j.kept k)
theorem Inv.laid(I:Inv X pins σ H s)(k:∀b u,s.heap.get? b=some u->h'.get? b=some u)(hp:s.heap.objs.size<=a)(new:zt X.f X.w (upd H a o) h' a o) :
 Inv X pins σ (upd H a o) {s with heap:=h',toks:=t'}:=I.un (Un.laid k hp (I.j.fresh hp)) (I.j.laid k hp new)
theorem Inv.write(I:Inv X pins σ H s)(mu:Mut (H x))(he:e=x\/H e=some (.e x))(k:∀b u,b≠e->s.heap.get? b=some u->h'.get? b=some u)(heo:∃u,h'.get? e=some u)
 (new:zt X.f X.w (upd H x o) h' x o):Inv X pins σ (upd H x o) {s with heap:=h',toks:=t'}:=I.un (Un.write mu he k heo) (I.j.write mu he k heo new)
theorem Inv.nO{pins':List (Addr × Obj)}(I:Inv X pins σ H s)(h:∀p∈pins',s.heap.get? p.1=some p.2/\H p.1=none/\p.1≠X.a.locals/\p.1 ∉ X.fs/\∀v,p.2.data≠.cell v):Inv X pins' σ H s:=
 ⟨I.C,I.S,I.F,I.B,I.O,I.J,I.M,I.G,λp hp=>(AS.mp hp).elim (λz=>I.P p (Bs _ z)) (h p),I.j,I.R⟩
theorem mT{N:List Str}(hN:N.Nodup){i j:Nat}(a:N[i]?=some x)(b:N[j]?=some x):i=j:=by obtain⟨h1,e1⟩:=Am.mp a;obtain⟨h2,e2⟩:=Am.mp b;exact(List.getElem_inj hN).mp (e1.trans e2.symm)
theorem oB{Q:Unit->Shared->Prop}(I:Inv X pins σ H s)(hN:X.N.Nodup)(hi:X.N[i]?=some x)(hx:Loc X.a.scope x)(r:RelV v u)
 (h:∀s',Inv X pins (σ.set i (some v)) H s'->(∃a,Dv a s.heap s'.heap/\(a=X.a.locals\/X.a.cells.lookup x=some a))->Q () s') (hf:X.n x=true\/X.a.scope.names.lookup x=some .local:=by first|exact .inl rfl|exact .inr rfl|assumption):wpAny M A (Gx X.a x u) Q E s:=by
 obtain⟨m,hn,hl⟩:=id I.O;have hcls:(X.a.scope.kind == .class||(X.a.scope.kind == .module&&X.a.locals != X.a.globals))=false:=by rw[I.C.a];rfl
 have hiσ:i<σ.length:=by rw[I.R];exact(Am.mp hi).1
 have cne:=I.cne;have tracked:∀{a:Addr} {h':Heap},(∃o,s.heap.get? a=some o/\H a=none)->Dv a s.heap h'->HOk X.f X.w H h':=λ{a h'} ha hs b ob e=>by
  obtain⟨_,_,hfree⟩:=ha;refine(I.j b ob e).rB (λc w' hc q=>(hs.2 c ?_).trans q) (λ_ q=>q) λ_ _ q=>q;rintro rfl;rcases hc with rfl|hc
  . rw[hfree]at e;cases e
  . rw[hfree]at hc;cases hc
 rcases hx with hk|hk
 . refine wpAny_storeName_local hk hn (λh' hn' hs=>?_) hcls
   obtain⟨oL,_,_,hoL,_⟩:=id hn;refine h _ ⟨I.C,I.S,I.F,⟨λb o e n hb hx=>?_,λb o e n hb hx=>?_,I.B.d,λb o e hx=>?_,I.B.l,I.B.g,I.B.j⟩,⟨_,hn',λj y v' e1 e2 e3=>?_⟩,λy c e=>?_,I.M,I.G,λp hp=>?_,tracked ⟨oL,hoL,I.M⟩ hs,by simpa using I.R⟩ ⟨_,hs,.inl rfl⟩
   . exact(hs.2 b (Ax (Ar (Ae e) I.C.d))).trans (I.B.f b o e n hb hx)
   . obtain⟨sl,e1⟩:=I.B.i b o e n hb hx
     exact⟨sl,(hs.2 b (Ax (Ar (Ae e) I.C.d))).trans e1⟩
   . obtain⟨o',e1⟩:=I.B.c b o e hx
     exact⟨o',(hs.2 b (Ax (Ar (Ae e) I.C.d))).trans e1⟩
   . by_cases hj:j=i
     . subst hj
       rw[hi]at e1;cases e1;rw[Av hiσ]at e2;cases e2;exact⟨u,r,.inl ⟨hk,by simp⟩⟩
     . rw[AO (A9 hj)]at e2
       obtain⟨u',r',q⟩:=hl j y v' e1 e2 e3;refine⟨u',r',?_⟩;rcases q with⟨k,e⟩|⟨k,c,e,z⟩
       . refine .inl ⟨k,?_⟩
         have:y≠x:=λe=>hj (mT hN e1 (e▸hi));simp[this,e]
       . exact .inr ⟨k,c,e,z.sameBut hs (cne y c e)⟩
   . obtain⟨w',z⟩:=I.J y c e
     exact⟨w',z.sameBut hs (cne y c e)⟩
   . obtain⟨e,n,ne,nf,d⟩:=I.P p hp
     exact⟨(hs.2 p.1 ne).trans e,n,ne,nf,d⟩
 . have hfn:X.n x=true:=by
    rcases hf with z|z
    . exact z
    . rw[z]at hk;cases hk
   obtain⟨c,hc⟩:=I.C.p x (.inl hk);obtain⟨w',z⟩:=I.J x c hc;refine wpAny_storeName_cell I.C.a hk hc z (λh' hc' hs=>?_);obtain⟨oc,hoc,hocd⟩:=id z;refine h {s with heap:=h'} ⟨I.C,I.S,I.F,⟨λb o e n hb hx=>?_,λb o e n hb hx=>?_,I.B.d,λb o e hx=>?_,I.B.l,I.B.g,I.B.j⟩,⟨m,hn.sameBut hs (A9 (cne x c hc)),λj y v' e1 e2 e3=>?_⟩,λy c' e=>?_,I.M,I.G,λp hp=>?_,tracked ⟨oc,hoc,I.G x c hc⟩ hs,by simpa using I.R⟩ ⟨c,hs,.inr hc⟩
   . exact(hs.2 b (Ax (Ar (Ae e) (I.C.s x c hfn hc)))).trans (I.B.f b o e n hb hx)
   . obtain⟨sl,e1⟩:=I.B.i b o e n hb hx
     exact⟨sl,(hs.2 b (Ax (Ar (Ae e) (I.C.s x c hfn hc)))).trans e1⟩
   . obtain⟨o',e1⟩:=I.B.c b o e hx
     exact⟨o',(hs.2 b (Ax (Ar (Ae e) (I.C.s x c hfn hc)))).trans e1⟩
   . by_cases hj:j=i
     . subst hj
       rw[hi]at e1;cases e1;rw[Av hiσ]at e2;cases e2;exact⟨u,r,.inr ⟨.inl hk,c,hc,hc'⟩⟩
     . rw[AO (A9 hj)]at e2
       obtain⟨u',r',q⟩:=hl j y v' e1 e2 e3;refine⟨u',r',?_⟩;rcases q with q|⟨k,c',e,z'⟩
       . exact .inl q
       . refine .inr ⟨k,c',e,z'.sameBut hs ?_⟩
         rintro rfl;exact hj (mT hN e1 (I.C.r _ _ _ e hc▸hi))
   . by_cases hcc:c'=c
     . subst hcc;exact⟨_,hc'⟩
     . obtain⟨w2,z2⟩:=I.J y c' e
       exact⟨w2,z2.sameBut hs hcc⟩
   . obtain⟨e,n,ne,nf,d⟩:=I.P p hp
     refine⟨(hs.2 p.1 ?_).trans e,n,ne,nf,d⟩;intro q;rw[q,hoc]at e;have q':oc=p.2:=AQ e;exact d w' (by rw[<-q'];exact hocd)
theorem xG{Q:Unit->Shared->Prop}(I:Inv X pins σ H s)(hN:X.N.Nodup)(hi:X.N[i]?=some x)(hx:Loc X.a.scope x)(r:RelV v u)
 (h:∀s',Inv X pins (σ.set i (some v)) H s'->Q () s') (hf:X.n x=true\/X.a.scope.names.lookup x=some .local:=by first|exact .inl rfl|exact .inr rfl|assumption):wpAny M A (Gx X.a x u) Q E s:=
 oB I hN hi hx r (λs' I' _=>h s' I') hf
theorem Inv.UW(I:Inv X pins σ H s)(ho:s'.os=s.os)(u:Un (frs X.g) ch H H' s.heap s'.heap)(hok:HOk X.f X.w H' s'.heap)(hg:AllBare s'.gens)
 (hch:∀b∈ch,(b∈X.m\/X.l.heap.objs.size<=b)/\b≠X.a.locals/\(∀x c,X.a.cells.lookup x=some c->c≠b)/\∀p∈X.q++pins,p.1≠b):Inv X pins σ H' s':=by
 obtain⟨h',g',d',t',o'⟩:=s';have e:o'=s.os:=ho;subst e;exact I.call (g':=g') (t':=t') (d':=d') u hok hg hch
end
abbrev XK:=Value->Option Addr->Hp->Prop
abbrev St:=List (Option V)
abbrev VK:=V->Hp->Prop
abbrev TE:=St->Hp->VK->Prop
abbrev TT:=St->Hp->(Bool->Hp->Prop)->Prop
abbrev TA:=St->Hp->(List V->Hp->Prop)->Prop
structure Ends where
 a:St->Hp->Prop
 b:VK
 c:St->Hp->Prop:=λ_ _=>False
 d:St->Hp->Prop:=λ_ _=>False
abbrev TS:=Ends->St->Hp->Prop
def EP(X:Cx)(pins:List (Addr × Obj))(σ:St)(Q:VK)(u:Value)(s':Shared):Prop:=∃v H',Inv X pins σ H' s'/\RelV v u/\Q v H'
def TP(X:Cx)(pins:List (Addr × Obj))(σ:St)(Q:Bool->Hp->Prop)(b:Bool)(s':Shared):Prop:=∃H',Inv X pins σ H' s'/\Q b H'
def AP(X:Cx)(pins:List (Addr × Obj))(σ:St)(Q:List V->Hp->Prop)(us:List Value)(s':Shared):Prop:=∃vs H',Inv X pins σ H' s'/\Vals vs us/\Q vs H'
def SP(X:Cx)(pins:List (Addr × Obj))(D:Ends)(f:Flow)(s':Shared):Prop:=
 match f with
 |.next=>∃σ' H',Inv X pins σ' H' s'/\D.a σ' H'
 |.brk=>∃σ' H',Inv X pins σ' H' s'/\D.c σ' H'
 |.cont=>∃σ' H',Inv X pins σ' H' s'/\D.d σ' H'
 |.ret u=>∃v σ' H',Inv X pins σ' H' s'/\RelV v u/\D.b v H'
def PE(X:Cx)(e:Expr)(t:TE):Prop:=
 ∀(pins:List (Addr × Obj)) (s:Shared) (σ:St) (H:Hp) (Q:VK),Inv X pins σ H s->t σ H Q->wpAny (model X.f X.w) X.A (eval e X.a) (EP X pins σ Q) X.i s
def PT(X:Cx)(e:Expr)(t:TT):Prop:=
 ∀(pins:List (Addr × Obj)) (s:Shared) (σ:St) (H:Hp) (Q:Bool->Hp->Prop),Inv X pins σ H s->t σ H Q->wpAny (model X.f X.w) X.A (isTrue e X.a (eval e X.a)) (TP X pins σ Q) X.i s
def PW(X:Cx)(e:Expr)(t:TT):Prop:=
 ∀(whole:Sem Value) (pins:List (Addr × Obj)) (s:Shared) (σ:St) (H:Hp) (Q:Bool->Hp->Prop),Inv X pins σ H s->t σ H Q->wpAny (model X.f X.w) X.A (isTrue e X.a whole) (TP X pins σ Q) X.i s
theorem PW.pt(h:PW X e t):PT X e t:=h _
def PA(X:Cx)(es:List Expr)(t:TA):Prop:=
 ∀(pos:Pos) (pins:List (Addr × Obj)) (s:Shared) (σ:St) (H:Hp) (Q:List V->Hp->Prop),Inv X pins σ H s->t σ H Q->wpAny (model X.f X.w) X.A (spliced (backTo pos (AD es X.a))) (AP X pins σ Q) X.i s
def PS(X:Cx)(st:Stmt)(t:TS):Prop:=
 ∀(pins:List (Addr × Obj)) (s:Shared) (σ:St) (H:Hp) (D:Ends),Inv X pins σ H s->t D σ H->wpAny (model X.f X.w) X.A (exec st X.a) (SP X pins D) X.i s
def PSs(X:Cx)(st:List Stmt)(t:TS):Prop:=
 ∀(pins:List (Addr × Obj)) (s:Shared) (σ:St) (H:Hp) (D:Ends),Inv X pins σ H s->t D σ H->wpAny (model X.f X.w) X.A (execs st X.a) (SP X pins D) X.i s
theorem thn(h:wpAny M A t Q E s)(hQ:∀a s,Q a s->Q' a s):wpAny M A t Q' E s:=AY h hQ λ_ _ x=>x
section
variable {X:Cx}
theorem bin(ha:PE X a ta)(hb:PE X b tb){R:V->V->Hp->Prop}(I:Inv X pins σ H s)(h:ta σ H λx H1=>tb σ H1 λy H2=>R x y H2)
  {Q} {f:Value->Value->Sem α}
 (hf:∀v u s2 x y H2,Inv X pins σ H2 s2->RelV x v->RelV y u->R x y H2->wpAny (model X.f X.w) X.A (f v u) Q X.i s2) :
 wpAny (model X.f X.w) X.A (eval a X.a) (λv s₁=>wpAny (model X.f X.w) X.A (eval b X.a) (λu s₂=>wpAny (model X.f X.w) X.A (f v u) Q X.i s₂) X.i s₁) X.i s:=by
 refine thn (ha pins s σ H _ I h) λv s1 ⟨x,H1,I1,r1,q1⟩=>?_;refine thn (hb pins s1 σ H1 _ I1 q1) λu s2 ⟨y,H2,I2,r2,q2⟩=>?_;exact hf v u s2 x y H2 I2 r1 r2 q2
def vT(i:Nat):TE:=λσ H Q=>∃v,σ[i]?=some (some v)/\Q v H
def tC(v:V):TE:=λ_ H Q=>Q v H
theorem wU(hN:X.N[i]?=some x)(hv:Vis X.a.scope x)(hd:(x == ("__debug__":Str))=false:=by decide)(hcd:(x == ("__classdict__":Str))=false:=by decide):PE X (.Name x pos) (vT i):=by
 intro pins s σ H Q I h;obtain⟨v,e,h⟩:=h;obtain⟨m,hn,hl⟩:=I.O;obtain⟨u,r,l⟩:=hl i x v hN e hv;have fin:EP X pins σ Q u s:=⟨v,H,I,r,h⟩;rcases l with⟨hk,hm⟩|⟨hk,c,hc,hcell⟩
 . exact wpAny_Name (wpAny_loadName_local I.C.a hk hn hm fin) hd
 . rcases hk with hk|hk
   . exact wpAny_Name (wpAny_loadName_cell I.C.a hk hc hcell fin) hd
   . exact wpAny_Name (wpAny_loadName_free I.C.a hk hc hcell fin hcd) hd
theorem cz{i j pos}:PE X (.Constant (.int i) j pos) (tC (.d i)):=λ_ _ _ H _ I h=>wpAny_Constant_int ⟨.d i,H,I.tok _,⟨_,rfl⟩,h⟩
theorem cb{b j pos}:PE X (.Constant (.bool b) j pos) (tC (.f b)):=λ_ _ _ H _ I h=>Constant_bool ⟨.f b,H,I,rfl,h⟩
theorem VZ{j pos}:PE X (.Constant .none j pos) (tC .g):=λ_ _ _ H _ I h=>Constant_none ⟨.g,H,I,rfl,h⟩
theorem sO{x j pos}:PE X (.Constant (.str x) j pos) (tC (.e x)):=λ_ _ _ H _ I h=>Dw ⟨.e x,H,I.tok _,⟨_,rfl⟩,h⟩
def Gl(X:Cx)(x:Str):Prop:=X.a.kindOf x=some .globalImplicit
theorem xl(I:Inv X pins σ H s)(hg:Gl X x)(hm:X.d x=some u)(h:Q u s)
 (hd:(x == ("__debug__":Str))=false:=by decide):wpAny (model X.f X.w) X.A (eval (.Name x pos) X.a) Q E s:=
 EY I.C.a hg (Calls.loadGlobal_global (by rw[I.C.k];exact I.mod.c.keeps I.bk) hm h) hd
theorem vt(I:Inv X pins σ H s)(hg:Gl X x)(hm:X.d x=none)(hv:BV x=some u)(h:Q u s)
 (hn:x≠"__name__":=by decide) (hd:(x == ("__debug__":Str))=false:=by decide):wpAny (model X.f X.w) X.A (eval (.Name x pos) X.a) Q E s:=by
 obtain⟨mb,h1,h2⟩:=I.mod.d;exact EY I.C.a hg (Calls.loadGlobal_builtin (by rw[I.C.k];exact I.mod.c.keeps I.bk) hm (by rw[I.C.t];exact h1.keeps I.bk) ((h2 x hn).trans hv) h) hd
theorem Zz(hg:Gl X x)(hm:X.d x=some u)(r:RelV v u)(hd:(x == ("__debug__":Str))=false:=by decide):PE X (.Name x pos) (tC v):=
 λ_ _ _ H _ I h=>xl I hg hm ⟨v,H,I,r,h⟩ hd
theorem Zx(hg:Gl X x)(hm:X.d x=none)(hv:BV x=some u)(r:RelV v u)(hn:x≠"__name__":=by decide)(hd:(x == ("__debug__":Str))=false:=by decide):PE X (.Name x pos) (tC v):=
 λ_ _ _ H _ I h=>vt I hg hm hv ⟨v,H,I,r,h⟩ hn hd
variable {a b:Expr}{ta tb:TE}{pos:Pos}
def PC(X:Cx)(op:CmpOp)(a b:Expr)(t:TE):Prop:=
 ∀(pins:List (Addr × Obj)) (s:Shared) (σ:St) (H:Hp) (Q:VK),Inv X pins σ H s->t σ H Q ->
  wpAny (model X.f X.w) X.A (eval a X.a) (λv s₁=>wpAny (model X.f X.w) X.A (eval b X.a) (λu s₂=>wpAny (model X.f X.w) X.A (Ba op v u) (EP X pins σ Q) X.i s₂) X.i s₁) X.i s
theorem qT b(h:op≠.In)(h2:op≠.NotIn):Dh op b=false:=by
 have e1:(op == CmpOp.In)=false:=by cases op<;>first|rfl|exact absurd rfl h
 have e2:(op == CmpOp.NotIn)=false:=by cases op<;>first|rfl|exact absurd rfl h2
 cases b<;>simp[Dh,e1,e2]
def tB(t:TE):TT:=λσ H Q=>t σ H λx H1=>∃c,x=.f c/\Q c H1
theorem RQ(h:PC X op a b t)(h1:Dh op b=false:=by first|exact qT _ (by decide) (by decide)|rfl):PT X (.Compare a [op] [b] pos) (tB t):=by intro pins s σ H Q I hw;refine wpAny_isTrue_Compare1 (thn (h pins s σ H _ I hw) λv s1 h1=>thn h1 λu s2 h2=>thn h2 λc s3 ⟨x,H1,I1,r1,q1⟩=>?_) h1;obtain⟨d,rfl,q⟩:=q1;cases r1;exact Bq ⟨H1,I1,q⟩
theorem Vl(h:PE X e t)(he:∀whole,isTrue e X.a whole=(do let v <-whole;standAt e.pos;holding [v] (truthy v)):=by intro _;rfl):PT X e (tB t):=by intro pins s σ H Q I hw;refine isTrue_plain (thn (h pins s σ H _ I hw) λv s1 ⟨x,H1,I1,r1,q1⟩=>?_) (he _);obtain⟨d,rfl,q⟩:=q1;cases r1;exact Bq ⟨H1,I1,q⟩
variable {tA tB':TT}{rest:List Expr}
def tOr(t u:TT):TT:=λσ H Q=>t σ H λc H1=>if c=true then Q true H1 else u σ H1 Q
def Sh(t:TT):TT:=λσ H Q=>t σ H λc H1=>Q (!c) H1
theorem Vm(ha:PT X a tA):PW X (.BoolOp .Or [a] pos) tA:=by
 intro wh pins s σ H Q I h;refine isTrue_or (thn (ha pins s σ H Q I h) λc s1 e=>?_);cases c with
 |false=>exact isTrue_or_nil e
 |true=>exact e
theorem T6(ha:PT X a tA)(hb:PW X (.BoolOp .Or (b::rest) pos) tB'):PW X (.BoolOp .Or (a::b::rest) pos) (tOr tA tB'):=by
 intro wh pins s σ H Q I h;refine isTrue_or (thn (ha pins s σ H _ I h) λc s1 ⟨H1,I1,q1⟩=>?_);cases c with
 |true=>exact⟨H1,I1,q1⟩
 |false=>exact hb wh pins s1 σ H1 Q I1 q1
theorem kL(ha:PT X a tA):PT X (.UnaryOp .Not a pos) (Sh tA):=by intro pins s σ H Q I h;exact isTrue_not (ha pins s σ H (λc H1=>Q (!c) H1) I h)
def Se(ta tb:TE):TE:=λσ H Q=>ta σ H λx H1=>∃c,x=.f c/\if c=true then tb σ H1 Q else Q (.f false) H1
def Si(ta:TE):TE:=λσ H Q=>ta σ H λx H1=>∃c,x=.f c/\Q (.f (!c)) H1
theorem kF{op}(h:PE X a t):PE X (.BoolOp op [a] pos) t:=λpins s σ H Q I hw=>BoolOp_one (h pins s σ H Q I hw)
theorem VV(ha:PE X a ta)(hb:PE X (.BoolOp .And (b::rest) pos) tb):PE X (.BoolOp .And (a::b::rest) pos) (Se ta tb):=by
 intro pins s σ H Q I h;refine BoolOp_and (thn (ha pins s σ H _ I h) λv s1 ⟨x,H1,I1,r1,q1⟩=>?_);obtain⟨c,rfl,q1⟩:=q1;cases r1;refine Bq ?_;cases c with
 |true=>exact hb pins s1 σ H1 Q I1 q1
 |false=>exact⟨.f false,H1,I1,rfl,q1⟩
theorem Va(ha:PE X a ta):PE X (.UnaryOp .Not a pos) (Si ta):=by intro pins s σ H Q I h;refine UnaryOp_ (thn (ha pins s σ H _ I h) λv s1 ⟨x,H1,I1,r1,q1⟩=>?_);obtain⟨c,rfl,q1⟩:=q1;cases r1;exact not_of (Bq ⟨.f (!c),H1,I1,rfl,q1⟩)
def tIf(t:TT)(ta tb:TE):TE:=λσ H Q=>t σ H λc H1=>if c=true then ta σ H1 Q else tb σ H1 Q
theorem mf(hc:PT X c tA)(ha:PE X a ta)(hb:PE X b tb):PE X (.IfExp c a b pos) (tIf tA ta tb):=by
 intro pins s σ H Q I h;refine wpAny_IfExp (thn (hc pins s σ H _ I h) λd s1 ⟨H1,I1,q1⟩=>?_);cases d with
 |true=>exact ha pins s1 σ H1 Q I1 q1
 |false=>exact hb pins s1 σ H1 Q I1 q1
end
def SqL(K:Ag)(H:Hp)(a:Addr)(xs:List V):Prop:=
 Rd H a (.b xs) \/
  ∃(o:Obj) (its:Array Value) (n:Nat),K.lookup a=some o/\o.cls=.type "list"/\o.dict=none/\o.data=.seq its n/\its.size<=Au/\Vals xs its.toList
def SqT(K:Ag)(H:Hp)(a:Addr)(xs:List V):Prop:=
 Rd H a (.c xs) \/
  ∃(o:Obj) (its:Array Value) (n:Nat),K.lookup a=some o/\o.cls=.type "tuple"/\o.data=.seq its n/\its.size<=Au/\Vals xs its.toList
noncomputable def S7:Value->Option V
 |.none=>some .g
 |.bool b=>some (.f b)
 |.int i _=>some (.d i)
 |.str x _=>some (.e x)
 |.bytes b _=>some (.h b)
 |.float b _=>some (.j b)
 |.ref a=>some (.c a)
 |.type n=>some (.k n)
 |_=>none
theorem RelV.abs(r:RelV x u):S7 u=some x:=by
 cases x with
 |g=>cases r;rfl
 |f _=>cases r;rfl
 |d _=>obtain⟨t,rfl⟩:=r;rfl
 |e _=>obtain⟨t,rfl⟩:=r;rfl
 |h _=>obtain⟨t,rfl⟩:=r;rfl
 |j _=>obtain⟨t,rfl⟩:=r;rfl
 |c _=>cases r;rfl
 |k _=>cases r;rfl
theorem RelV.inj(r:RelV x u)(q:RelV y u):x=y:=AQ (r.abs.symm.trans q.abs)
theorem Vals.inj:∀{xs ys} {us},Vals xs us->Vals ys us->xs=ys
 |_,_,_,.nil,.nil=>rfl
 |_,_,_,.cons r t,.cons r' t'=>by rw[r.inj r',Vals.inj t t']
section
variable {X:Cx}{pins:List (Addr × Obj)}{σ:St}{H:Hp}{s:Shared}{a:Addr}{xs ys:List V}
theorem SqL.of{K}(h:H a=some (.b xs)):SqL K H a xs:=.inl (.inl h)
theorem SqT.of{K}(h:H a=some (.c xs)):SqT K H a xs:=.inl (.inl h)
theorem Inv.list(I:Inv X pins σ H s)(h:SqL X.K H a xs):∃its:List Value,Vals xs its/\PlainL s.heap a its.toArray/\xs.length<=Au:=by
 rcases h with h|⟨o,its,n,hk,hc,hd,hs,hz,r⟩
 . obtain⟨z,its,n,r,e⟩:=h.ok I.j
   exact⟨its,r,⟨_,n,e,rfl,rfl,rfl⟩,z⟩
 . refine⟨its.toList,r,⟨o,n,I.kIn a o hk,hc,hd,by simpa using hs⟩,?_⟩
   have e:=r.length;simp only[CM]at e;omega
theorem Inv.tuple(I:Inv X pins σ H s)(h:SqT X.K H a xs):∃its:List Value,Vals xs its/\IsTup s.heap a its.toArray/\xs.length<=Au:=by
 rcases h with h|⟨o,its,n,hk,hc,hs,hz,r⟩
 . obtain⟨z,its,r,p⟩:=h.ok I.j
   exact⟨its,r,p.tup,z⟩
 . refine⟨its.toList,r,⟨o,I.kIn a o hk,hc,n,by simpa using hs⟩,?_⟩
   have e:=r.length;simp only[CM]at e;omega
theorem Inv.mP(I:Inv X pins σ H s)(h:SqL X.K H a xs)(h':SqL X.K H a ys):xs=ys:=by
 obtain⟨its,r,⟨o,n,e,_,_,d⟩,_⟩:=I.list h;obtain⟨its',r',⟨o',n',e',_,_,d'⟩,_⟩:=I.list h';rw[e]at e';cases e';rw[d]at d';injection d' with d1 _
 have:its=its':=by simpa using congrArg Array.toList d1
 subst this;exact r.inj r'
theorem Inv.oG(I:Inv X pins σ H s)(h:SqT X.K H a xs)(h':SqT X.K H a ys):xs=ys:=by
 obtain⟨its,r,⟨o,e,_,n,d⟩,_⟩:=I.tuple h;obtain⟨its',r',⟨o',e',_,n',d'⟩,_⟩:=I.tuple h';rw[e]at e';cases e';rw[d]at d';injection d' with d1 _
 have:its=its':=by simpa using congrArg Array.toList d1
 subst this;exact r.inj r'
end
noncomputable abbrev Cx.wF(X:Cx)(E:Value->Shared->Prop):Cx:={X with i:=E}
abbrev Cx.nox(X:Cx):Cx:=X.wF λ_ _=>False
theorem Cx.Ok.wF{X:Cx}(ok:X.Ok)E:(X.wF E).Ok:=
 ⟨ok.j,ok.a,ok.k,ok.t,ok.d,ok.r,ok.p,ok.s,ok.i,ok.g,ok.w,ok.G,ok.B,ok.q,ok.m,ok.l,ok.D,ok.u⟩
theorem Cx.Ok.yu{X:Cx}(ok:(X.wF E).Ok):X.Ok:=
 ⟨ok.j,ok.a,ok.k,ok.t,ok.d,ok.r,ok.p,ok.s,ok.i,ok.g,ok.w,ok.G,ok.B,ok.q,ok.m,ok.l,ok.D,ok.u⟩
section
variable {X:Cx}{pins:List (Addr × Obj)}{σ:St}{H:Hp}{s:Shared}{E:Value->Shared->Prop}
theorem Inv.wF(I:Inv X pins σ H s)E:Inv (X.wF E) pins σ H s:=⟨I.C.wF E,I.S,I.F,I.B,I.O,I.J,I.M,I.G,I.P,I.j,I.R⟩
theorem Inv.yu(I:Inv (X.wF E) pins σ H s):Inv X pins σ H s:=⟨I.C.yu,I.S,I.F,I.B,I.O,I.J,I.M,I.G,I.P,I.j,I.R⟩
theorem SP.yu(h:SP (X.wF E) pins D f s'):SP X pins D f s':=by
 cases f with
 |next=>obtain⟨σ',H',I,q⟩:=h;exact⟨σ',H',I.yu,q⟩
 |brk=>obtain⟨σ',H',I,q⟩:=h;exact⟨σ',H',I.yu,q⟩
 |cont=>obtain⟨σ',H',I,q⟩:=h;exact⟨σ',H',I.yu,q⟩
 |ret u=>obtain⟨v,σ',H',I,r,q⟩:=h;exact⟨v,σ',H',I.yu,r,q⟩
theorem PE.nox(h:PE X.nox e t):PE X e t:=λpins s σ H Q I hw=>
 AY (h pins s σ H Q (I.wF _) hw) (λ_ _ ⟨v,H',I',r,q⟩=>⟨v,H',I'.yu,r,q⟩) λ_ _ z=>AA z
theorem PT.nox(h:PT X.nox e t):PT X e t:=λpins s σ H Q I hw=>
 AY (h pins s σ H Q (I.wF _) hw) (λ_ _ ⟨H',I',q⟩=>⟨H',I'.yu,q⟩) λ_ _ z=>AA z
theorem PSs.nox{st}(h:PSs X.nox st t):PSs X st t:=λpins s σ H D I hw=>
 AY (h pins s σ H D (I.wF _) hw) (λ_ _ q=>q.yu) λ_ _ z=>AA z
end
section
variable {X:Cx}{st:Stmt}{rest:List Stmt}{t u:TS}{e:Expr}{te:TE}{pos:Pos}
def XS:TS:=λD σ H=>D.a σ H
def m9(t u:TS):TS:=λD σ H=>t {D with a:=u D} σ H
theorem rR:PSs X [] XS:=λ_ _ σ H _ I h=>Dr ⟨σ,H,I,h⟩
theorem zp(h1:PS X st t)(h2:PSs X rest u):PSs X (st::rest) (m9 t u):=by
 intro pins s σ H D I h;refine D2 (thn (h1 pins s σ H {D with a:=u D} I h) λf s1 q=>?_)
 cases f with
 |next=>
  obtain⟨σ',H',I',q⟩:=q;exact h2 pins s1 σ' H' D I' q
 |ret v=>exact q
 |brk=>exact q
 |cont=>exact q
theorem vN(h1:PS X st t):PSs X [st] t:=by
 intro pins s σ H D I h;refine D2 (thn (h1 pins s σ H D I h) λf s1 q=>?_);cases f with
 |next=>exact Dr q
 |ret v=>exact q
 |brk=>exact q
 |cont=>exact q
theorem Inv.quiet(I:Inv X pins σ H s):interactive X.a=false:=by simp[interactive,I.C.a]
def Sf(te:TE):TS:=λD σ H=>te σ H λ_ H1=>D.a σ H1
theorem rQ(he:PE X e te)(hs:Ec e none pos.line X.a=pure false:=by rfl):PS X (.Expr e pos) (Sf te):=by intro pins s σ H D I h;exact wpAny_Expr_any (thn (he pins s σ H _ I h) λv s1 ⟨x,H1,I1,r1,q1⟩=>⟨σ,H1,I1,q1⟩) I.quiet hs
def gx(te:TE):TS:=λD σ H=>te σ H D.b
theorem wV(he:PE X e te):PS X (.Return (some e) pos) (gx te):=by intro pins s σ H D I h;exact wpAny_Return_some (thn (he pins s σ H _ I h) λv s1 ⟨x,H1,I1,r1,q1⟩=>⟨x,σ,H1,I1,r1,q1⟩)
def Sg(c:TT)(t u:TS):TS:=λD σ H=>c σ H λb H1=>if b=true then t D σ H1 else u D σ H1
theorem pY(hc:PT X c tc)(ha:PSs X a t)(hb:PSs X b u):PS X (.If c a b pos) (Sg tc t u):=by
 intro pins s σ H D I h;refine wpAny_If (thn (hc pins s σ H _ I h) λd s1 ⟨H1,I1,q1⟩=>?_);cases d with
 |true=>exact ha pins s1 σ H1 D I1 q1
 |false=>exact hb pins s1 σ H1 D I1 q1
end
abbrev TG:=V->St->Hp->(St->Hp->Prop)->Prop
abbrev TGs:=List V->St->Hp->(St->Hp->Prop)->Prop
def PG(X:Cx)(target:Expr)(t:TG):Prop:=
 ∀(pins:List (Addr × Obj)) (s:Shared) (σ:St) (H:Hp) (v:V) (u:Value) (Q:St->Hp->Prop),Inv X pins σ H s->RelV v u->t v σ H Q ->
  wpAny (model X.f X.w) X.A (assign target X.a u) (λ_ s'=>∃σ' H',Inv X pins σ' H' s'/\Q σ' H') X.i s
def PGs(X:Cx)(ts:List Expr)(t:TGs):Prop:=
 ∀(pins:List (Addr × Obj)) (s:Shared) (σ:St) (H:Hp) (vs:List V) (us:List Value) (Q:St->Hp->Prop),Inv X pins σ H s->Vals vs us->t vs σ H Q ->
  wpAny (model X.f X.w) X.A (DX ((CA ts X.a).map (·.2)) us) (λ_ s'=>∃σ' H',Inv X pins σ' H' s'/\Q σ' H') X.i s
abbrev Xj:=V->V->V->Hp->(Hp->Prop)->Prop
def UN(X:Cx)(t:Xj):Prop:=
 ∀(pins:List (Addr × Obj)) (s:Shared) (σ:St) (H:Hp) (o i v:V) (ov iv u:Value) (Q:Hp->Prop),Inv X pins σ H s->RelV o ov->RelV i iv->RelV v u->t o i v H Q ->
  wpAny (model X.f X.w) X.A (setItem ov iv u) (λ_ s'=>∃H',Inv X pins σ H' s'/\Q H') X.i s
abbrev TIp:=V->V->Hp->VK->Prop
def PIp(X:Cx)(op:Operator)(t:TIp):Prop:=
 ∀(pins:List (Addr × Obj)) (s:Shared) (σ:St) (H:Hp) (x y:V) (v u:Value) (Q:VK),Inv X pins σ H s->RelV x v->RelV y u->t x y H Q ->
  wpAny (model X.f X.w) X.A (Dx op v u) (EP X pins σ Q) X.i s
section
variable {X:Cx}{pos:Pos}
def xJ(i:Nat):TG:=λv σ H Q=>Q (σ.set i (some v)) H
theorem Z1(hN:X.N.Nodup)(hi:X.N[i]?=some x)(hx:Loc X.a.scope x)(hf:X.n x=true\/X.a.scope.names.lookup x=some .local:=by first|exact .inl rfl|exact .inr rfl|assumption):PG X (.Name x pos) (xJ i):=by intro pins s σ H v u Q I r h;exact wpAny_assign_Name (xG I hN hi hx r (λs' I'=>⟨_,H,I',h⟩) hf)
def Ug:TGs:=λvs σ H Q=>vs=[]/\Q σ H
def Ys(t:TG)(u:TGs):TGs:=λvs σ H Q=>∃v r,vs=v::r/\t v σ H λσ' H'=>u r σ' H' Q
theorem Z2:PGs X [] Ug:=by intro pins s σ H vs us Q I r h;obtain⟨e,h⟩:=h;subst e;cases r;exact Fd ⟨σ,H,I,h⟩
theorem bD{e:Expr}{es:List Expr}{t:TG}{u:TGs}(h1:PG X e t)(h2:PGs X es u)
 (hs:(CA (e::es) X.a).map (·.2)=assign e X.a::(CA es X.a).map (·.2):=by rfl):PGs X (e::es) (Ys t u):=by
 intro pins s σ H vs us Q I r h;obtain⟨v,vr,e1,h⟩:=h;subst e1;cases r with
 |cons r rr=>
  rw[hs];refine Cj (thn (h1 pins s σ H _ _ _ I r h) λ_ s1 ⟨σ1,H1,I1,q1⟩=>?_);exact h2 pins s1 σ1 H1 _ _ Q I1 rr q1
def WG(K:Ag)(n:Nat)(t:TGs):TG:=λv σ H Q=>∃a xs,v=.c a/\SqT K H a xs/\xs.length=n/\t xs σ H Q
theorem v5(hc:X.j=true)(h:PGs X es t)
 (hn:(CA es X.a).length=n:=by rfl) (hst:(CA es X.a).findIdx? (·.1)=none:=by rfl):PG X (.Tuple es k pos) (WG X.K n t):=by
 intro pins s σ H v u Q I r hw;obtain⟨a,xs,e1,hq,hl,hw⟩:=hw;subst e1;cases r;obtain⟨its,rv,ht,hz⟩:=I.tuple hq;refine assign_Tuple_tuple (I.C.i hc) ht (by simp[hn,<-hl,rv.length]) hst λh' hx=>?_
 have I1:Inv X pins σ H {s with heap:=h'}:=I.kept (t':=s.toks) λb o e=>hx b o (Ax (Ae e)) e
 exact h pins _ σ H xs _ Q I1 (by simpa using rv) hw
def Uh(to ti:TE)(t:Xj):TG:=λv σ H Q=>to σ H λo H1=>ti σ H1 λi H2=>t o i v H2 λH3=>Q σ H3
theorem Ve(ho:PE X o to)(hi:PE X i ti)(hs:UN X t)
 (ha:∀v,assign (.Subscript o i pos) X.a v=(do
  let ov <-holding [v] (eval o X.a);let iv <-holding [v,ov] (eval i X.a)
  standAt pos
  holding [v,ov,iv] (setItem ov iv v)
  release [v,ov,iv] []):=by intro _;rfl):PG X (.Subscript o i pos) (Uh to ti t):=by
 intro pins s σ H v u Q I r h;rw[ha];refine dS (By (thn (ho pins s σ H _ I h) λov s1 ⟨x,H1,I1,r1,q1⟩=>?_));refine dS (By (thn (hi pins s1 σ H1 _ I1 q1) λiv s2 ⟨y,H2,I2,r2,q2⟩=>?_));refine dS (Bc (dS (By (thn (hs pins s2 σ H2 x y v ov iv u _ I2 r1 r2 r q2) λ_ s3 ⟨H3,I3,q3⟩=>?_))));exact wpAny_release ⟨σ,H3,I3,q3⟩
def uU(te:TE)(g:TG):TS:=λD σ H=>te σ H λx H1=>g x σ H1 D.a
theorem kK(he:PE X e te)(hg:PG X tg g)(hs:DY [tg] e pos.line X.a=pure false:=by rfl)(hw:BP [tg] e X.a=pure none:=by rfl)
 (h1:(CA [tg] X.a).map (·.2)=[assign tg X.a]:=by rfl):PS X (.Assign [tg] e pos) (uU te g):=by
 intro pins s σ H D I h;refine wpAny_Assign_stores (thn (he pins s σ H _ I h) λv s1 ⟨x,H1,I1,r1,q1⟩=>?_) hs hw;rw[h1];exact thn (hg pins s1 σ H1 x v _ I1 r1 q1) λ_ s2 q=>q
theorem wW(hN:X.N.Nodup)(hi:X.N[i]?=some x)(hx:Loc X.a.scope x)(he:PE X e te)(hs:Ec e (some (.Name x pos')) pos.line X.a=pure false:=by rfl)(hf:X.n x=true\/X.a.scope.names.lookup x=some .local:=by first|exact .inl rfl|exact .inr rfl|assumption) :
 PS X (.Assign [.Name x pos'] e pos) (uU te (xJ i)):=by
 intro pins s σ H D I h;refine wpAny_Assign_Name (thn (he pins s σ H _ I h) λv s1 ⟨y,H1,I1,r1,q1⟩=>?_) hs;exact xG I1 hN hi hx r1 (λs2 I2=>⟨_,H1,I2,q1⟩) hf
def Sk(i j:Nat)(ta:TA):TS:=λD σ H=>ta σ H λvs H1=>∃v w,vs=[v,w]/\D.a ((σ.set i (some v)).set j (some w)) H1
theorem Vk{kt k2 pt2}(hc:X.j=true)(hN:X.N.Nodup)(hi:X.N[i]?=some x)(hj:X.N[j]?=some y)(hij:i≠j)
 (hx:X.a.scope.names.lookup x=some .local) (hy:X.a.scope.names.lookup y=some .local) (ha:PA X [a,b] ta)
 (hw:BP [.Tuple [.Name x px,.Name y py] kt pt] (.Tuple [a,b] k2 pt2) X.a=pure (some [x,y]))
 (hs:DY [.Tuple [.Name x px,.Name y py] kt pt] (.Tuple [a,b] k2 pt2) pos.line X.a=pure false:=by rfl) :
 PS X (.Assign [.Tuple [.Name x px,.Name y py] kt pt] (.Tuple [a,b] k2 pt2) pos) (Sk i j ta):=by
 intro pins s σ H D I h;rw[exec_Assign_arm];refine dS (Bc ?_);rw[hs];refine dS (Ab ?_);rw[if_neg (by decide)]
 refine dS (Tuple_ (thn (ha _ pins s σ H _ I h) λus s1 ⟨vs,H1,I1,r1,q1⟩=>?_));obtain⟨v,w,e1,q1⟩:=q1;subst e1;obtain⟨u1,u2,rfl,rv,rw'⟩:∃u1 u2,us=[u1,u2]/\RelV v u1/\RelV w u2:=by
  cases r1 with
  |cons p q=>
   cases q with
   |cons p' q'=>
    cases q';exact⟨_,_,rfl,p,p'⟩
 refine A4 ?_ (by show 2<=Au;decide)
 have I2:Inv X pins σ H1 {s1 with heap:=s1.heap.push {cls:=.type "tuple",data:=.seq [u1,u2].toArray}}:=I1.kept (t':=s1.toks) λb o e=>nx _ e
 rw[hw];refine dS (Ab ?_);show wpAny (model X.f X.w) X.A (do rule "assign.swapped-stores";let items <-unpackItems (.ref s1.heap.objs.size) 2 none;DX [λv=>CV X.a y v,λv=>CV X.a x v] items.reverse;pure Gy) _ _ _
 refine dS (Dc (dS (unpackItems_tuple (items:=#[u1,u2]) (I.C.i hc) (IsTup.new s1.heap _) λh' hx'=>?_)));have I3:=I2.kept (h':=h') (t':=s1.toks) λb o e=>hx' b o (Ax (Ae e)) e;show wpAny _ _ (DX [λv=>CV X.a y v,λv=>CV X.a x v] [u2,u1] >>= λ_=>pure Gy) _ _ _;refine dS (Cj (DG (xG I3 hN hj (.inl hy) rw' (λs2 I4=>?_) (.inr hy))));refine Cj (DG (xG I4 hN hi (.inl hx) rv (λs3 I5=>Fd (Ab ?_)) (.inr hx)));rw[EZ _ _ (A9 hij)]at I5;exact⟨_,H1,I5,q1⟩
def RY(i:Nat)(te:TE)(ti:TIp):TS:=λD σ H=>∃x,σ[i]?=some (some x)/\te σ H λy H1=>ti x y H1 λz H2=>D.a (σ.set i (some z)) H2
theorem bI(hN:X.N.Nodup)(hi:X.N[i]?=some x)(hx:Loc X.a.scope x)(he:PE X e te)(ho:PIp X op ti)(hf:X.n x=true\/X.a.scope.names.lookup x=some .local:=by first|exact .inl rfl|exact .inr rfl|assumption) :
 PS X (.AugAssign (.Name x pos') op e pos) (RY i te ti):=by
 intro pins s σ H D I h;obtain⟨v,e1,h⟩:=h;obtain⟨m,hn,hl⟩:=I.O;have vis:Vis X.a.scope x:=by rcases hx with k|k;exact .inl k;exact .inr (.inl k)
 obtain⟨u,r,l⟩:=hl i x v hi e1 vis;refine wpAny_AugAssign_Name ?_;have go:wpAny (model X.f X.w) X.A (eval e X.a) (λw s₂=>wpAny (model X.f X.w) X.A (Dx op u w) (λr s₃=>wpAny (model X.f X.w) X.A (Gx X.a x r) (λ_=>SP X pins D .next) X.i s₃) X.i s₂) X.i s:=by refine thn (he pins s σ H _ I h) λw s1 ⟨y,H1,I1,r1,q1⟩=>?_;refine thn (ho pins s1 σ H1 v y u w _ I1 r r1 q1) λz s2 ⟨zv,H2,I2,r2,q2⟩=>?_;exact xG I2 hN hi hx r2 (λs3 I3=>⟨_,H2,I3,q2⟩) hf
 rcases l with⟨hk,hm⟩|⟨hk,c,hc,hcell⟩
 . exact wpAny_loadName_local I.C.a hk hn hm go
 . rcases hk with hk|hk
   . exact wpAny_loadName_cell I.C.a hk hc hcell go
   . rcases hx with k|k
     . have:X.a.scope.names.lookup x=some .free:=hk
       rw[k]at this;cases this
     . have:X.a.scope.names.lookup x=some .free:=hk
       rw[k]at this;cases this
end
section
variable {X:Cx}{pos:Pos}
def bq(c:TT)(tb:TS):TS:=λD σ H=>∃W:Nat->St->Hp->Prop,(∃m,W m σ H)/\∀m σ H,W m σ H ->
 c σ H λb H1=>if b=true then ∃N:St->Hp->Prop,(∀σ' H',N σ' H'->∃m',m'<m/\W m' σ' H')/\tb {D with a:=N,d:=N,c:=D.a} σ H1 else D.a σ H1
theorem bK(hp:EL (model X.f X.w) X.A X.a X.i)(hc:PT X c tc)(hb:PSs X body tb):PS X (.While c body [] pos) (bq tc tb):=by
 intro pins s σ H D I h;obtain⟨W,⟨m0,w0⟩,turn⟩:=h;refine wpAny_While (codeAny_whileLoop (λn s'=>∃σ' H',Inv X pins σ' H' s'/\W n σ' H') ?_ m0 ⟨σ,H,I,w0⟩);rintro n s1 ⟨σ1,H1,I1,w1⟩;refine Cq hp (thn (hc pins s1 σ1 H1 _ I1 (turn n σ1 H1 w1)) λb s2 ⟨H2,I2,q2⟩=>?_);cases b with
 |true=>
  obtain⟨N,hN,q2⟩:=q2;rw[if_pos rfl];refine Cq hp (thn (hb pins s2 σ1 H2 _ I2 q2) λf s3 q3=>?_);cases f with
  |next=>
   obtain⟨σ3,H3,I3,n3⟩:=q3;obtain⟨m',hm,w3⟩:=hN σ3 H3 n3;exact⟨m',hm,σ3,H3,I3,w3⟩
  |cont=>
   obtain⟨σ3,H3,I3,n3⟩:=q3;obtain⟨m',hm,w3⟩:=hN σ3 H3 n3;exact⟨m',hm,σ3,H3,I3,w3⟩
  |brk=>exact q3
  |ret v=>exact q3
 |false=>
  rw[if_neg Aj];exact Dr ⟨σ1,H2,I2,q2⟩
end
structure It where
 c:Nat->Hp->Prop
 b:Nat->Hp->V->Hp->Prop
 a:Nat->Hp->Prop
def wc(X:Cx)(pins:List (Addr × Obj))(H:Hp)(b:Addr):Prop:=
 H b=none/\b≠X.a.locals/\b ∉ X.fs/\(b∈X.m\/X.l.heap.objs.size<=b)/\(∀x c,X.a.cells.lookup x=some c->c≠b)/\∀p∈X.q++pins,p.1≠b
theorem Inv.au(I:Inv X pins σ H s)(hb:s.heap.objs.size<=b)(hn:H' b=none):wc X pins H' b:=by
 refine⟨hn,CI (Ar I.lt hb),I.RJ hb,.inr (AE I.sz hb),λx c e z=>?_,λp hp z=>?_⟩
 . obtain⟨v,q⟩:=I.J x c e
   exact absurd (Ar q.lt (by rw[z];exact hb)) (A1 _)
 . exact absurd (Ar (Ae (I.P p hp).1) (by rw[z];exact hb)) (A1 _)
structure Turn(P:Program)(w:World)(K:Ag)(tg:Expr)(J:It)(fp:List Addr)(it:Addr)(tn:Nat->Heap->Prop):Prop where
 g:it∈fp
 c:∀i h,tn i h->∀b∈fp,∃o,h.get? b=some o/\∀v,o.data≠.cell v
 a:∀i h h',tn i h->(∀b∈fp,∀o,h.get? b=some o->h'.get? b=some o)->tn i h'
 e:∀(X:Cx),X.f=P->X.w=w->X.K=K->X.j=true->∀(i:Nat) (pins:List (Addr × Obj)) (s:Shared) (σ:St) (H:Hp) (E:Value->Shared->Prop),Inv X pins σ H s->(∀b∈fp,wc X pins H b)->tn i s.heap->J.c i H ->
  wpAny (model P w) X.A (pyNext (.ref it)) (λr s1=>∃u,r=some u /\
   wpAny (model P w) X.A (Bt tg (.ref it) u) (λ_ s2=>∃x H',Inv X pins σ H' s2/\RelV x u/\J.b i H x H'/\tn (i+1) s2.heap/\∀b∈fp,H' b=none) E s1) E s
 d:∀(X:Cx),X.f=P->X.w=w->X.K=K->X.j=true->∀(i:Nat) (pins:List (Addr × Obj)) (s:Shared) (σ:St) (H:Hp) (E:Value->Shared->Prop),Inv X pins σ H s->(∀b∈fp,wc X pins H b)->tn i s.heap->J.a i H ->
  wpAny (model P w) X.A (pyNext (.ref it)) (λr s1=>r=none/\Inv X pins σ H s1) E s
 f:∀(A:Around) (i:Nat) (s:Shared) (Q:Value->Shared->Prop) (E:Value->Shared->Prop),tn i s.heap->Q (.ref it) s->wpAny (model P w) A (pyIter (.ref it)) Q E s
abbrev TI:=St->Hp->(It->Hp->Prop)->Prop
def PIE(X:Cx)(pins:List (Addr × Obj))(σ:St)(tg:Expr)(R:It->Hp->Prop)(itv:Value)(s2:Shared):Prop:=
 ∃(it:Addr) (fp:List Addr) (tn:Nat->Heap->Prop) (J:It) (H':Hp),itv=.ref it/\Inv X pins σ H' s2/\Turn X.f X.w X.K tg J fp it tn/\tn 0 s2.heap/\(∀b∈fp,wc X pins H' b)/\R J H'
def PI(X:Cx)(tg iter:Expr)(wi:TI):Prop:=
 ∀(pins:List (Addr × Obj)) (s:Shared) (σ:St) (H:Hp) (R:It->Hp->Prop),Inv X pins σ H s->wi σ H R ->
  wpAny (model X.f X.w) X.A (eval iter X.a) (λv s1=>wpAny (model X.f X.w) X.A (pyIter v) (PIE X pins σ tg R) X.i s1) X.i s
theorem ee(ho:s.heap.get? it=some o)(hc:o.cls=.type n)(hd:o.data=.fields vs)
 (hn:["enumerate","zip","dict_itemiterator","dict_reverseitemiterator","odict_iterator","itertools.zip_longest","itertools.pairwise"].contains n=false) (hQ:Q () s):wpAny M A (Bt tg (.ref it) u) Q E s:=by
 unfold Bt;cases tg<;>first
  |exact Ab hQ
  |(cases u<;>first
   |exact Ab hQ
   |(refine dS (wpAny_load ho ?_)
     rw[hc,hd];show wpAny M A (if (["enumerate","zip","dict_itemiterator","dict_reverseitemiterator","odict_iterator","itertools.zip_longest","itertools.pairwise"].contains n&&vs[0]? == some (rawInt _))=true then _ else _) Q E s
     rw[if_neg (by intro h;rw[hn,CD]at h;cases h)]
     exact Ab hQ))
noncomputable def Itl(K:Ag)(a:Addr):It:=
 ⟨λi H=>∃xs x,SqL K H a xs/\xs[i]?=some x,λi H x H'=>H'=H/\∀xs,SqL K H a xs->xs[i]?=some x,λi H=>∃xs,SqL K H a xs/\xs.length<=i⟩
noncomputable def Itt(K:Ag)(a:Addr):It:=
 ⟨λi H=>∃xs x,SqT K H a xs/\xs[i]?=some x,λi H x H'=>H'=H/\∀xs,SqT K H a xs->xs[i]?=some x,λi H=>∃xs,SqT K H a xs/\xs.length<=i⟩
noncomputable def Itr(lo:Int)(n:Nat):It:=⟨λi _=>i<n,λi H x H'=>H'=H/\x=.d (lo+i),λi _=>n<=i⟩
theorem g6{K}a it:Turn P w K tg (Itl K a) [it] it (λi h=>h.IsListIter it a i) where
 g:=by simp
 c:=λi h st b hb=>by
  have e:b=it:=by simpa using hb
  subst e;obtain⟨o,e,c,d⟩:=st;exact⟨o,e,λv z=>by rw[d]at z;cases z⟩
 a:=λi h h' st k=>st.at λo e=>k it (by simp) o e
 e:=by
  intro X hP hw hK hc i pins s σ H E I hf st hg;subst hP hw hK;obtain⟨xs,x,hq,hx⟩:=hg;obtain⟨its,rv,p,hz⟩:=I.list hq;obtain⟨u,hu,ru⟩:=rv.get hx;obtain⟨f0,f1,f2,f3,f4,f5⟩:=hf it (by simp)
  refine wpAny_pyNext_list_item st p.isList (x:=u) (by simpa using hu) λh' st' sb=>?_
  have I1:Inv X pins σ H {s with heap:=h'}:=I.turned (t':=s.toks) (λb o hb e=>(sb.2 b hb).trans e) f0 f1 f3 f4 f5
  obtain⟨o,e,c,d⟩:=id st';exact⟨u,rfl,ee (s:={s with heap:=h'}) e c d (by decide) ⟨x,H,I1,ru,⟨rfl,λys hy=>by rw[I.mP hy hq];exact hx⟩,st',λb hb=>(hf b hb).1⟩⟩
 d:=by
  intro X hP hw hK hc i pins s σ H E I hf st hg;subst hP hw hK;obtain⟨xs,hq,hx⟩:=hg;obtain⟨its,rv,p,hz⟩:=I.list hq;obtain⟨f0,f1,f2,f3,f4,f5⟩:=hf it (by simp)
  have hl:=rv.length;exact wpAny_pyNext_list_end (I.C.i hc) st p.isList (by simp;omega) λh' eb=>⟨rfl,I.turned (t':=s.toks) (λb o hb e=>eb b o hb e) f0 f1 f3 f4 f5⟩
 f:=λ_ _ _ _ _ st h=>wpAny_pyIter_listiter st h
theorem kr{K}a it:Turn P w K tg (Itt K a) [it] it (λi h=>h.IsTupleIter it a i) where
 g:=by simp
 c:=λi h st b hb=>by
  have e:b=it:=by simpa using hb
  subst e;obtain⟨o,e,c,d⟩:=st;exact⟨o,e,λv z=>by rw[d]at z;cases z⟩
 a:=λi h h' st k=>st.at λo e=>k it (by simp) o e
 e:=by
  intro X hP hw hK hc i pins s σ H E I hf st hg;subst hP hw hK;obtain⟨xs,x,hq,hx⟩:=hg;obtain⟨its,rv,p,hz⟩:=I.tuple hq;obtain⟨u,hu,ru⟩:=rv.get hx;obtain⟨f0,f1,f2,f3,f4,f5⟩:=hf it (by simp)
  refine wpAny_pyNext_tuple_item st (show s.heap.IsTuple a its.toArray from p) (x:=u) (by simpa using hu) λh' st' sb=>?_
  have I1:Inv X pins σ H {s with heap:=h'}:=I.turned (t':=s.toks) (λb o hb e=>(sb.2 b hb).trans e) f0 f1 f3 f4 f5
  obtain⟨o,e,c,d⟩:=id st';exact⟨u,rfl,ee (s:={s with heap:=h'}) e c d (by decide) ⟨x,H,I1,ru,⟨rfl,λys hy=>by rw[I.oG hy hq];exact hx⟩,st',λb hb=>(hf b hb).1⟩⟩
 d:=by
  intro X hP hw hK hc i pins s σ H E I hf st hg;subst hP hw hK;obtain⟨xs,hq,hx⟩:=hg;obtain⟨its,rv,p,hz⟩:=I.tuple hq;obtain⟨f0,f1,f2,f3,f4,f5⟩:=hf it (by simp)
  have hl:=rv.length;exact wpAny_pyNext_tuple_end (I.C.i hc) st (show s.heap.IsTuple a its.toArray from p) (by simp;omega) λh' eb=>⟨rfl,I.turned (t':=s.toks) (λb o hb e=>eb b o hb e) f0 f1 f3 f4 f5⟩
 f:=λ_ _ _ _ _ st h=>wpAny_pyIter_tupleiter st h
theorem kq{K}it lo n:Turn P w K tg (Itr lo n) [it] it (λi h=>IsRangeIter h it (lo+(i:Nat)*1) ((n:Int)-(i:Nat)) 1) where
 g:=by simp
 c:=λi h st b hb=>by
  have e:b=it:=by simpa using hb
  subst e;exact⟨_,st,λv z=>by have z':F2 _=Data.cell v:=z;cases z'⟩
 a:=λi h h' st k=>k it (by simp) _ st
 e:=by
  intro X hP hw hK hc i pins s σ H E I hf st hg;subst hP hw hK;obtain⟨f0,f1,f2,f3,f4,f5⟩:=hf it (by simp)
  have W:=Walks.range (prog:=X.f) (w:=X.w) (I.C.i hc) it lo 1 n;refine W.item i s _ _ hg st λv h' tk hv st' kk=>?_;obtain⟨t,rfl⟩:=hv;have I1:Inv X pins σ H {s with heap:=h',toks:=tk}:=I.turned (λb o hb e=>kk b o (by simpa using hb) e) f0 f1 f3 f4 f5
  refine⟨_,rfl,ee (s:={s with heap:=h',toks:=tk}) (n:="range_iterator") st' rfl rfl (by decide) ⟨.d (lo+i),H,I1,⟨t,?_⟩,⟨rfl,rfl⟩,st',λb hb=>(hf b hb).1⟩⟩
  rw[Int.mul_one]
 d:=by
  intro X hP hw hK hc i pins s σ H E I hf st hg;subst hP hw hK;obtain⟨f0,f1,f2,f3,f4,f5⟩:=hf it (by simp)
  exact wpAny_pyNext_range_end (I.C.i hc) st (by have:n<=i:=hg;omega) λh' eb=>⟨rfl,I.turned (t':=s.toks) (λb o hb e=>eb b o hb e) f0 f1 f3 f4 f5⟩
 f:=λ_ _ _ _ _ st h=>wpAny_pyIter_rangeiter st h
section
variable {X:Cx}{tg:Expr}
def Yu(K:Ag)(tl:TE):TI:=λσ H R=>tl σ H λx H1=>∃a,x=.c a/\(∃xs,SqL K H1 a xs)/\R (Itl K a) H1
def RE(K:Ag)(tl:TE):TI:=λσ H R=>tl σ H λx H1=>∃a,x=.c a/\(∃xs,SqT K H1 a xs)/\R (Itt K a) H1
theorem nN(hl:PE X l tl):PI X tg l (Yu X.K tl):=by
 intro pins s σ H R I h;refine thn (hl pins s σ H _ I h) λv s1 ⟨x,H1,I1,r1,q1⟩=>?_;obtain⟨a,e,⟨xs,hq⟩,q⟩:=q1;subst e;cases r1;obtain⟨its,rv,p,hz⟩:=I1.list hq;refine CZ p.isList ?_;refine⟨s1.heap.objs.size,[s1.heap.objs.size],_,_,H1,rfl,I1.kept (t':=s1.toks) λb o e=>nx _ e,g6 a _,⟨_,Aq _ rfl,rfl,rfl⟩,λb hb=>?_,q⟩;have e:b=s1.heap.objs.size:=by simpa using hb
 subst e;exact I1.au (xd _) (I1.j.fresh (xd _))
theorem bE(hl:PE X l tl):PI X tg l (RE X.K tl):=by
 intro pins s σ H R I h;refine thn (hl pins s σ H _ I h) λv s1 ⟨x,H1,I1,r1,q1⟩=>?_;obtain⟨a,e,⟨xs,hq⟩,q⟩:=q1;subst e;cases r1;obtain⟨its,rv,p,hz⟩:=I1.tuple hq;refine Ck (show s1.heap.IsTuple a its.toArray from p) ?_;refine⟨s1.heap.objs.size,[s1.heap.objs.size],_,_,H1,rfl,I1.kept (t':=s1.toks) λb o e=>nx _ e,kr a _,⟨_,Aq _ rfl,rfl,rfl⟩,λb hb=>?_,q⟩;have e:b=s1.heap.objs.size:=by simpa using hb
 subst e;exact I1.au (xd _) (I1.j.fresh (xd _))
theorem my{lo hi}(I:Inv X pins σ H s)(h1:-(2 ^ 62)<=lo)(h2:lo<2 ^ 62)(h3:-(2 ^ 62)<=hi)(h4:hi<2 ^ 62)
 (q:R (Itr lo (hi-lo).toNat) H):wpAny (model X.f X.w) X.A (pyIter (.ref s.heap.objs.size)) (PIE X pins σ tg R) E {s with heap:=s.heap.push {cls:=.type "range",data:=.fields #[.int lo t,.int hi u,.int 1 v]},toks:=tk}:=by
 refine wpAny_pyIter_range (IsRange.new ..) (small_one h1 h2 h3 h4) ?_;have I1:Inv X pins σ H {s with heap:=s.heap.push {cls:=.type "range",data:=.fields #[.int lo t,.int hi u,.int 1 v]},toks:=tk}:=I.kept λb o e=>nx _ e
 refine⟨(s.heap.push {cls:=.type "range",data:=.fields #[.int lo t,.int hi u,.int 1 v]}).objs.size,[(s.heap.push {cls:=.type "range",data:=.fields #[.int lo t,.int hi u,.int 1 v]}).objs.size],_,_,H,rfl,
  I1.kept (t':=tk) λb o e=>nx _ e,kq _ lo (hi-lo).toNat,?_,λb hb=>?_,q⟩
 . have e1:lo+((0:Nat):Int)*1=lo:=by simp
   have e2:(((hi-lo).toNat:Nat):Int)-((0:Nat):Int)=Cb lo hi 1:=by rw[rangeSize_one];split<;>omega
   show IsRangeIter _ _ (lo+((0:Nat):Int)*1) ((((hi-lo).toNat:Nat):Int)-((0:Nat):Int)) 1;rw[e1,e2];exact Aq _ rfl
 . have e:b=(s.heap.push {cls:=.type "range",data:=.fields #[.int lo t,.int hi u,.int 1 v]}).objs.size:=by simpa using hb
   subst e;exact I1.au (xd _) (I1.j.fresh (xd _))
def Uo(ta:TA):TI:=λσ H R=>ta σ H λvs H1=>∃j:Int,vs=[.d j]∧-(2 ^ 62)<=j/\j<2 ^ 62/\R (Itr 0 j.toNat) H1
def Up(ta:TA):TI:=λσ H R=>ta σ H λvs H1=>∃i j:Int,vs=[.d i,.d j]/\(-(2 ^ 62)<=i/\i<2 ^ 62∧-(2 ^ 62)<=j/\j<2 ^ 62)/\R (Itr i (j-i).toNat) H1
theorem gc(hg:Gl X "range")(hm:X.d "range"=none)(ha:PA X [a] ta)(hs:AD [a] X.a=[(false,eval a X.a)]:=by rfl):PI X tg (.Call (.Name "range" p) [a] [] pos) (Uo ta):=by
 intro pins s σ H R I h;refine Call_ (vt I hg hm boot_range (Cm (thn (ha pos pins s σ H _ I h) λus s1 ⟨vs,H1,I1,r1,q1⟩=>?_) hs rfl));obtain⟨j,e,q1,q2,q⟩:=q1;subst e;cases r1 with
 |cons r rr=>
  cases rr;obtain⟨t,rfl⟩:=r;exact call_range_1 (my I1 (by omega) (by omega) q1 q2 (by simpa using q))
theorem gf(hg:Gl X "range")(hm:X.d "range"=none)(ha:PA X [a,b] ta)(hs:AD [a,b] X.a=[(false,eval a X.a),(false,eval b X.a)]:=by rfl)(hs2:AD [b] X.a=[(false,eval b X.a)]:=by rfl) :
 PI X tg (.Call (.Name "range" p) [a,b] [] pos) (Up ta):=by
 intro pins s σ H R I h;refine Call_ (vt I hg hm boot_range (Cm (thn (ha pos pins s σ H _ I h) λus s1 ⟨vs,H1,I1,r1,q1⟩=>?_) (by rw[hs,hs2]) (by rw[hs2];rfl)))
 obtain⟨i,j,e,⟨q1,q2,q3,q4⟩,q⟩:=q1;subst e;cases r1 with
 |cons r rr=>
  cases rr with
  |cons r' rr=>
   cases rr;obtain⟨t,rfl⟩:=r;obtain⟨t',rfl⟩:=r';exact call_range_2 (my I1 q1 q2 q3 q4 q)
def Ra(wi:TI)(g:TG)(tb:TS):TS:=λD σ H=>wi σ H λJ H1=>∃W:Nat->Nat->St->Hp->Prop,(∃m,W 0 m σ H1)/\∀i m σ H,W i m σ H ->
 (J.a i H/\D.a σ H)\/(J.c i H/\∃N:St->Hp->Prop,(∀σ' H',N σ' H'->∃m',m'<m/\W (i+1) m' σ' H')/\∀x H',J.b i H x H'->g x σ H' λσ2 H2=>tb {D with a:=N,d:=N,c:=D.a} σ2 H2)
noncomputable def qb(fp:List Addr)(h:Heap):List (Addr × Obj):=fp.filterMap λb=>(h.get? b).map λo=>(b,o)
theorem vK(hb:b∈fp)(e:h.get? b=some o):(b,o)∈qb fp h:=Co.mpr ⟨b,hb,by rw[e];rfl⟩
theorem gK(hp:p∈qb fp h):p.1∈fp/\h.get? p.1=some p.2:=by
 obtain⟨b,hb,e⟩:=Co.mp hp;cases q:h.get? b with
 |none=>rw[q]at e;cases e
 |some o=>
  rw[q]at e;have e':(b,o)=p:=AQ e;subst e';exact⟨hb,q⟩
theorem Inv.pinned(I:Inv X pins σ H s)(hf:∀b∈fp,wc X pins H b)(ho:∀b∈fp,∃o,s.heap.get? b=some o/\∀v,o.data≠.cell v):Inv X (pins++qb fp s.heap) σ H s:=
 I.nO λp hp=>(AS.mp hp).elim (λz=>I.P p (A6 _ z)) λz=>by obtain⟨hb,e⟩:=gK z;obtain⟨f0,f1,f2,_⟩:=hf p.1 hb;obtain⟨o,e',d⟩:=ho p.1 hb;rw[e]at e';cases e';exact⟨e,f0,f1,f2,d⟩
theorem Inv.tq(I:Inv X (pins++pl) σ H s):Inv X pins σ H s:=I.nO λp hp=>I.P p (A6 _ (Bs _ hp))
theorem Vj(hp:EL (model X.f X.w) X.A X.a X.i)(hc:X.j=true)(hi:PI X tg iter wi)(hg:PG X tg g)(hb:PSs X body tb)
 (hs:∀x,AR iter X.a x=pure x:=by intro _;rfl):PS X (.For tg iter body [] pos) (Ra wi g tb):=by
 intro pins s σ H D I h;refine wpAny_For (thn (hi pins s σ H _ I h) λv s1 h1=>thn h1 λitv s2 h2=>?_) hs;obtain⟨it,fp,tn,J,H2,e,I2,T,st2,f2,W,⟨m0,w0⟩,turn⟩:=h2;subst e
 -- what stays true of the iterator's objects through the loop
 have stat:∀{H':Hp},(∀b∈fp,H' b=none)->∀b∈fp,wc X pins H' b:=λhn b hb=>⟨hn b hb,(f2 b hb).2⟩;refine codeAny_forLoop_any (λn s'=>∃i σ' H',Inv X pins σ' H' s'/\tn i s'.heap/\(∀b∈fp,H' b=none)/\W i n σ' H') ?_ m0 ⟨0,σ,H2,I2,st2,λb hb=>(f2 b hb).1,w0⟩;rintro n s3 ⟨i,σ3,H3,I3,st3,fr3,w3⟩;rcases turn i n σ3 H3 w3 with⟨stop,qn⟩|⟨go,N,hN,step⟩
 . refine Cq hp (thn (T.d X rfl rfl rfl hc i pins s3 σ3 H3 X.i I3 (stat fr3) st3 stop) λr s4 ⟨hr,I4⟩=>?_)
   subst hr;exact Dr ⟨σ3,H3,I4,qn⟩
 . refine Cq hp (thn (T.e X rfl rfl rfl hc i pins s3 σ3 H3 X.i I3 (stat fr3) st3 go) λr s4 ⟨u,hr,h4⟩=>?_)
   subst hr;refine Cq hp (thn h4 λ_ s5 ⟨x,H5,I5,r5,y5,st5,fr5⟩=>?_);have I5':=I5.pinned (stat fr5) (T.c _ _ st5);refine Cq hp (thn (hg _ s5 σ3 H5 x u _ I5' r5 (step x H5 y5)) λ_ s6 ⟨σ6,H6,I6,q6⟩=>?_);refine Cq hp (thn (hb _ s6 σ6 H6 _ I6 q6) λf s7 q7=>?_);have again:∀{σ7:St} {H7:Hp},Inv X (pins++qb fp s5.heap) σ7 H7 s7->N σ7 H7->∃m,m<n/\∃i σ' H',Inv X pins σ' H' s7/\tn i s7.heap/\(∀b∈fp,H' b=none)/\W i m σ' H':=λ{σ7 H7} I7 n7=>by obtain⟨m',hm,w7⟩:=hN σ7 H7 n7;refine⟨m',hm,i+1,σ7,H7,I7.tq,T.a _ _ _ st5 λb hb o e=>(I7.P (b,o) (A6 _ (A6 _ (vK hb e)))).1,λb hb=>?_,w7⟩;obtain⟨o,e,d⟩:=T.c _ _ st5 b hb;exact(I7.P (b,o) (A6 _ (A6 _ (vK hb e)))).2.1
   cases f with
   |next=>obtain⟨σ7,H7,I7,n7⟩:=q7;exact again I7 n7
   |cont=>obtain⟨σ7,H7,I7,n7⟩:=q7;exact again I7 n7
   |brk=>obtain⟨σ7,H7,I7,q7⟩:=q7;exact⟨σ7,H7,I7.tq,q7⟩
   |ret v=>obtain⟨x7,σ7,H7,I7,r7,q7⟩:=q7;exact⟨x7,σ7,H7,I7.tq,r7,q7⟩
end
abbrev R2:=V->V->Hp->VK->Prop
def OpR(X:Cx)(f:Value->Value->Sem Value)(r:R2):Prop:=
 ∀(pins:List (Addr × Obj)) (s:Shared) (σ:St) (H:Hp) (x y:V) (v u:Value) (Q:VK),Inv X pins σ H s->RelV x v->RelV y u->r x y H Q ->
  wpAny (model X.f X.w) X.A (f v u) (EP X pins σ Q) X.i s
def UnR(X:Cx)(f:Value->Sem Value)(r:V->Hp->VK->Prop):Prop:=
 ∀(pins:List (Addr × Obj)) (s:Shared) (σ:St) (H:Hp) (x:V) (v:Value) (Q:VK),Inv X pins σ H s->RelV x v->r x H Q ->
  wpAny (model X.f X.w) X.A (f v) (EP X pins σ Q) X.i s
def yB(X:Cx)(f:Value)(r:List V->Hp->VK->Prop):Prop:=
 ∀(pins:List (Addr × Obj)) (s:Shared) (σ:St) (H:Hp) (xs:List V) (us:List Value) (Q:VK),Inv X pins σ H s->Vals xs us->r xs H Q ->
  wpAny (model X.f X.w) X.A (call f us) (EP X pins σ Q) X.i s
def S6(X:Cx)(r:V->Hp->(Bool->Hp->Prop)->Prop):Prop:=
 ∀(pins:List (Addr × Obj)) (s:Shared) (σ:St) (H:Hp) (x:V) (v:Value) (Q:Bool->Hp->Prop),Inv X pins σ H s->RelV x v->r x H Q ->
  wpAny (model X.f X.w) X.A (truthy v) (TP X pins σ Q) X.i s
def tOp(r:R2)(ta tb:TE):TE:=λσ H Q=>ta σ H λx H1=>tb σ H1 λy H2=>r x y H2 Q
def tUn(r:V->Hp->VK->Prop)(ta:TE):TE:=λσ H Q=>ta σ H λx H1=>r x H1 Q
def rI(C:Int->Int->Prop)(g:Int->Int->V):R2:=λx y H Q=>∃i j,x=.d i/\y=.d j/\C i j/\Q (g i j) H
def rI0(g:Int->Int->V):R2:=λx y H Q=>∃i j,x=.d i/\y=.d j/\Q (g i j) H
def rU(g:Int->V):V->Hp->VK->Prop:=λx H Q=>∃i,x=.d i/\Q (g i) H
section
variable {X:Cx}{a b c:Expr}{ta tb tc:TE}{pos:Pos}
theorem Xp(ha:PE X a ta)(hb:PE X b tb){R:V->V->Hp->Prop}(I:Inv X pins σ H s)
 (h:ta σ H λx H1=>tb σ H1 λy H2=>R x y H2)  {f:Value->Value->Sem Value}
 (hf:∀v u s2 x y H2,Inv X pins σ H2 s2->RelV x v->RelV y u->R x y H2->wpAny (model X.f X.w) X.A (f v u) Q X.i s2) :
 wpAny (model X.f X.w) X.A (eval a X.a) (λv s₁=>wpAny (model X.f X.w) X.A (eval b X.a) (λu s₂=>wpAny (model X.f X.w) X.A (f v u) Q X.i s₂) X.i s₁) X.i s:=by
 refine thn (ha pins s σ H _ I h) λv s1 ⟨x,H1,I1,r1,q1⟩=>?_;refine thn (hb pins s1 σ H1 _ I1 q1) λu s2 ⟨y,H2,I2,r2,q2⟩=>?_;exact hf v u s2 x y H2 I2 r1 r2 q2
theorem mh(ho:OpR X (Bw op) r)(ha:PE X a ta)(hb:PE X b tb):PE X (.BinOp a op b pos) (tOp r ta tb):=by intro pins s σ H Q I h;exact wpAny_BinOp (Xp ha hb I h λv u s2 x y H2 I2 rx ry q=>ho pins s2 σ H2 x y v u Q I2 rx ry q)
theorem Tt(ho:UnR X (unaryOp op) r)(ha:PE X a ta):PE X (.UnaryOp op a pos) (tUn r ta):=by intro pins s σ H Q I h;exact UnaryOp_ (thn (ha pins s σ H _ I h) λv s1 ⟨x,H1,I1,r1,q1⟩=>ho pins s1 σ H1 x v Q I1 r1 q1)
theorem opI{f:Value->Value->Sem Value}{C:Int->Int->Prop}{g:Int->Int->Int}
 (rule:∀i j t u (s:Shared) (Q:Value->Shared->Prop) E,C i j->Q (.int (g i j) s.toks) {s with toks:=s.toks+1}->wpAny (model X.f X.w) X.A (f (.int i t) (.int j u)) Q E s) :
 OpR X f (rI C λi j=>.d (g i j)):=by
 intro pins s σ H x y v u Q I rx ry h;obtain⟨i,j,rfl,rfl,hc,q⟩:=h;obtain⟨t,rfl⟩:=rx;obtain⟨t',rfl⟩:=ry;exact rule i j t t' s _ _ hc ⟨.d (g i j),H,I.tok _,⟨_,rfl⟩,q⟩
theorem Zm{f:Value->Value->Sem Value}{g:Int->Int->Int}
 (rule:∀i j t u (s:Shared) (Q:Value->Shared->Prop) E,Q (.int (g i j) s.toks) {s with toks:=s.toks+1}->wpAny (model X.f X.w) X.A (f (.int i t) (.int j u)) Q E s) :
 OpR X f (rI0 λi j=>.d (g i j)):=by
 intro pins s σ H x y v u Q I rx ry h;obtain⟨i,j,rfl,rfl,q⟩:=h;obtain⟨t,rfl⟩:=rx;obtain⟨t',rfl⟩:=ry;exact rule i j t t' s _ _ ⟨.d (g i j),H,I.tok _,⟨_,rfl⟩,q⟩
theorem Zl{f:Value->Value->Sem Value}{g:Int->Int->Bool}
 (rule:∀i j t u s (Q:Value->Shared->Prop) E,Q (.bool (g i j)) s->wpAny (model X.f X.w) X.A (f (.int i t) (.int j u)) Q E s) :
 OpR X f (rI0 λi j=>.f (g i j)):=by
 intro pins s σ H x y v u Q I rx ry h;obtain⟨i,j,rfl,rfl,q⟩:=h;obtain⟨t,rfl⟩:=rx;obtain⟨t',rfl⟩:=ry;exact rule i j t t' s _ _ ⟨.f (g i j),H,I,rfl,q⟩
def Xd(i j:Int):Prop:=0<j/\j<1073741824
def Sx(i j:Int):Prop:=0<=j/\j<=1000000/\i.natAbs<2 ^ 64
def aN(i j:Int):Prop:=(-(2 ^ 64)<i/\i<2 ^ 64)\/(-(2 ^ 64)<j/\j<2 ^ 64)
theorem aN.ok(h:aN i j):IntMulOk i j:=by
 rcases h with⟨h1,h2⟩|⟨h1,h2⟩
 . exact .of_left (intBits_le_64 h1 h2)
 . exact .of_right (intBits_le_64 h1 h2)
theorem W9:OpR X (Bw .Add) (rI0 λi j=>.d (i+j)):=Zm λ_ _ _ _ _ _ _ q=>add_int q
theorem VF:OpR X (Bw .Sub) (rI0 λi j=>.d (i-j)):=Zm λ_ _ _ _ _ _ _ q=>sub_int q
theorem VC:OpR X (Bw .Mult) (rI aN λi j=>.d (i*j)):=opI λ_ _ _ _ _ _ _ hc q=>mul_int q hc.ok
theorem Zo:OpR X (Bw .FloorDiv) (rI Xd λi j=>.d (i/j)):=opI λi j _ _ _ _ _ hc q=>by have h1:(0:Int)<j:=hc.1;have h2:j<1073741824:=hc.2;exact floordiv_int (by omega) (by rw[Di i (by omega)];exact q) (.inl (DT (by omega)))
theorem VB:OpR X (Bw .Mod) (rI (λ_ j=>0<j) λi j=>.d (i%j)):=opI λi j _ _ _ _ _ hc q=>by have h1:(0:Int)<j:=hc;exact mod_int' (by omega) (by rw[Dj i (by omega)];exact q)
theorem VD:OpR X (Bw .Pow) (rI Sx λi j=>.d (i ^ j.toNat)):=opI λ_ _ _ _ _ _ _ hc q=>pow_int_small hc.1 hc.2.1 hc.2.2 q
theorem az:OpR X (Dx .Add) (rI0 λi j=>.d (i+j)):=Zm λ_ _ _ _ _ _ _ q=>iadd_int q
theorem ZC:OpR X (Dx .Sub) (rI0 λi j=>.d (i-j)):=Zm λ_ _ _ _ _ _ _ q=>isub_int q
theorem ZA:OpR X (Dx .Mult) (rI aN λi j=>.d (i*j)):=opI λ_ _ _ _ _ _ _ hc q=>imul_int q hc.ok
theorem et:OpR X (Dx .FloorDiv) (rI Xd λi j=>.d (i/j)):=opI λi j _ _ _ _ _ hc q=>by have h1:(0:Int)<j:=hc.1;have h2:j<1073741824:=hc.2;exact ifloordiv_int (by omega) (by rw[Di i (by omega)];exact q) (.inl (DT (by omega)))
theorem a0:OpR X (Dx .Mod) (rI (λ_ j=>0<j) λi j=>.d (i%j)):=opI λi j _ _ _ _ _ hc q=>by have h1:(0:Int)<j:=hc;exact imod_int (by omega) (by rw[Dj i (by omega)];exact q)
theorem unI{f:Value->Sem Value}{g:Int->Int}
 (rule:∀i t (s:Shared) (Q:Value->Shared->Prop) E,Q (.int (g i) s.toks) {s with toks:=s.toks+1}->wpAny (model X.f X.w) X.A (f (.int i t)) Q E s) :
 UnR X f (rU λi=>.d (g i)):=by
 intro pins s σ H x v Q I rx h;obtain⟨i,rfl,q⟩:=h;obtain⟨t,rfl⟩:=rx;exact rule i t s _ _ ⟨.d (g i),H,I.tok _,⟨_,rfl⟩,q⟩
theorem UH:UnR X (unaryOp .USub) (rU λi=>.d (-i)):=unI λ_ _ _ _ _ q=>neg_int q
end
noncomputable def SW:V->V->Bool
 |.g,.g=>true|.g,.d _=>true|.d _,.g=>true|.g,.f _=>true|.f _,.g=>true|.g,.e _=>true|.e _,.g=>true
 |.d _,.d _=>true|.f _,.f _=>true|.e _,.e _=>true|.h _,.h _=>true
 |.d _,.e _=>true|.e _,.d _=>true|.f _,.e _=>true|.e _,.f _=>true
 |_,_=>false
def rEq:R2:=λx y H Q=>SW x y=true/\Q (.f (decide (x=y))) H
def rNe:R2:=λx y H Q=>SW x y=true/\Q (.f (!decide (x=y))) H
theorem jP:decide (V.d i=V.d j)=(i == j):=by rw[CP];simp
theorem eD:decide (V.f i=V.f j)=(i == j):=by rw[CP];simp
theorem jQ:decide (V.e i=V.e j)=(i == j):=by rw[CP];simp
theorem jN:decide (V.h i=V.h j)=(i.toList == j.toList):=by rw[CP];cases i;cases j;simp
section
variable {X:Cx}{a b c:Expr}{ta tb tc:TE}{pos:Pos}
theorem zg(I:Inv X pins σ H s)(q:Q (.f k) H)(e:k=k'):EP X pins σ Q (.bool k') s:=by subst e;exact⟨.f k,H,I,rfl,q⟩
theorem Y0:OpR X (Ba .Eq) rEq:=by
 intro pins s σ H x y v u Q I rx ry h;obtain⟨hs,q⟩:=h;cases x with
 |g=>
  cases rx;cases y with
  |g=>cases ry;exact PySem.EqNone.eq_none_none (zg I q (by simp))
  |f j=>cases ry;exact PySem.EqNone.eq_none_bool (zg I q (by simp))
  |d j=>obtain⟨t',rfl⟩:=ry;exact PySem.EqNone.eq_none_int (zg I q (by simp))
  |e j=>obtain⟨t',rfl⟩:=ry;exact PySem.EqNone.eq_none_str (zg I q (by simp))
  |_=>exact absurd (show false=true from hs) Aj
 |f i=>
  cases rx;cases y with
  |g=>cases ry;exact PySem.EqNone.eq_bool_none (zg I q (by simp))
  |f j=>cases ry;exact eq_bool (zg I q eD)
  |e j=>obtain⟨t',rfl⟩:=ry;exact PySem.EqMixed.eq_bool_str (zg I q (by simp))
  |_=>exact absurd (show false=true from hs) Aj
 |d i=>
  obtain⟨t,rfl⟩:=rx;cases y with
  |g=>cases ry;exact PySem.EqNone.eq_int_none (zg I q (by simp))
  |d j=>obtain⟨t',rfl⟩:=ry;exact eq_int (zg I q jP)
  |e j=>obtain⟨t',rfl⟩:=ry;exact PySem.EqMixed.eq_int_str (zg I q (by simp))
  |_=>exact absurd (show false=true from hs) Aj
 |e i=>
  obtain⟨t,rfl⟩:=rx;cases y with
  |g=>cases ry;exact PySem.EqNone.eq_str_none (zg I q (by simp))
  |f j=>cases ry;exact PySem.EqMixed.eq_str_bool (zg I q (by simp))
  |d j=>obtain⟨t',rfl⟩:=ry;exact PySem.EqMixed.eq_str_int (zg I q (by simp))
  |e j=>obtain⟨t',rfl⟩:=ry;exact eq_str (zg I q jQ)
  |_=>exact absurd (show false=true from hs) Aj
 |h i=>
  obtain⟨t,rfl⟩:=rx;cases y with
  |h j=>obtain⟨t',rfl⟩:=ry;exact PySem.W.eq_bytes (zg I q jN)
  |_=>exact absurd (show false=true from hs) Aj
 |_=>cases y<;>exact absurd (show false=true from hs) Aj
theorem Y5:OpR X (Ba .NotEq) rNe:=by
 intro pins s σ H x y v u Q I rx ry h;obtain⟨hs,q⟩:=h;cases x with
 |g=>
  cases rx;cases y with
  |g=>cases ry;exact PySem.EqNone.ne_none_none (zg I q (by simp))
  |f j=>cases ry;exact PySem.EqNone.ne_none_bool (zg I q (by simp))
  |d j=>obtain⟨t',rfl⟩:=ry;exact PySem.EqNone.ne_none_int (zg I q (by simp))
  |e j=>obtain⟨t',rfl⟩:=ry;exact PySem.EqNone.ne_none_str (zg I q (by simp))
  |_=>exact absurd (show false=true from hs) Aj
 |f i=>
  cases rx;cases y with
  |g=>cases ry;exact PySem.EqNone.ne_bool_none (zg I q (by simp))
  |f j=>cases ry;exact ne_bool (zg I q (congrArg not eD))
  |e j=>obtain⟨t',rfl⟩:=ry;exact PySem.EqMixed.ne_bool_str (zg I q (by simp))
  |_=>exact absurd (show false=true from hs) Aj
 |d i=>
  obtain⟨t,rfl⟩:=rx;cases y with
  |g=>cases ry;exact PySem.EqNone.ne_int_none (zg I q (by simp))
  |d j=>obtain⟨t',rfl⟩:=ry;exact ne_int (zg I q (congrArg not jP))
  |e j=>obtain⟨t',rfl⟩:=ry;exact PySem.EqMixed.ne_int_str (zg I q (by simp))
  |_=>exact absurd (show false=true from hs) Aj
 |e i=>
  obtain⟨t,rfl⟩:=rx;cases y with
  |g=>cases ry;exact PySem.EqNone.ne_str_none (zg I q (by simp))
  |f j=>cases ry;exact PySem.EqMixed.ne_str_bool (zg I q (by simp))
  |d j=>obtain⟨t',rfl⟩:=ry;exact PySem.EqMixed.ne_str_int (zg I q (by simp))
  |e j=>obtain⟨t',rfl⟩:=ry;exact ne_str (zg I q (congrArg not jQ))
  |_=>exact absurd (show false=true from hs) Aj
 |h i=>
  obtain⟨t,rfl⟩:=rx;cases y with
  |h j=>obtain⟨t',rfl⟩:=ry;exact PySem.W.ne_bytes (zg I q (congrArg not jN))
  |_=>exact absurd (show false=true from hs) Aj
 |_=>cases y<;>exact absurd (show false=true from hs) Aj
theorem TR:OpR X (Ba .Lt) (rI0 λi j=>.f (decide (i<j))):=Zl λ_ _ _ _ _ _ _ q=>lt_int q
theorem TQ:OpR X (Ba .LtE) (rI0 λi j=>.f (decide (i<=j))):=Zl λ_ _ _ _ _ _ _ q=>le_int q
theorem TN:OpR X (Ba .Gt) (rI0 λi j=>.f (decide (j<i))):=Zl λ_ _ _ _ _ _ _ q=>gt_int q
theorem TM:OpR X (Ba .GtE) (rI0 λi j=>.f (decide (j<=i))):=Zl λ_ _ _ _ _ _ _ q=>ge_int q
theorem VA:OpR X (Ba .Is) (λx y H Q=>y=.g/\Q (.f (decide (x=.g))) H):=by
 intro pins s σ H x y v u Q I rx ry h;obtain⟨rfl,q⟩:=h;cases ry;refine is_none_gen (zg I q ?_);cases x<;>first
  |(cases rx;rfl)
  |(obtain⟨t,rfl⟩:=rx;rfl)
theorem Zp:OpR X (Ba .IsNot) (λx y H Q=>y=.g/\Q (.f (!decide (x=.g))) H):=by
 intro pins s σ H x y v u Q I rx ry h;obtain⟨rfl,q⟩:=h;cases ry;refine isnot_none_gen (zg I q ?_);cases x<;>first
  |(cases rx;rfl)
  |(obtain⟨t,rfl⟩:=rx;rfl)
theorem nM(ho:OpR X (Ba op) r)(ha:PE X a ta)(hb:PE X b tb)(hm:Dh op b=false):PE X (.Compare a [op] [b] pos) (tOp r ta tb):=by intro pins s σ H Q I h;exact wpAny_Compare1 (Xp ha hb I h λv u s2 x y H2 I2 rx ry q=>ho pins s2 σ H2 x y v u Q I2 rx ry q) hm
def iB(t:TE):TT:=λσ H Q=>t σ H λx H'=>∃k,x=.f k/\Q k H'
theorem rS(ho:OpR X (Ba op) r)(ha:PE X a ta)(hb:PE X b tb)(hm:Dh op b=false):PT X (.Compare a [op] [b] pos) (iB (tOp r ta tb)):=by
 intro pins s σ H Q I h;refine wpAny_isTrue_Compare1 (thn (ha pins s σ H _ I h) λv s1 ⟨x,H1,I1,r1,q1⟩=>thn (hb pins s1 σ H1 _ I1 q1) λu s2 ⟨y,H2,I2,r2,q2⟩=>
  thn (ho pins s2 σ H2 x y v u _ I2 r1 r2 q2) λc s3 ⟨z,H3,I3,r3,k,e,q3⟩=>?_) hm
 subst e;cases r3;exact Bq ⟨H3,I3,q3⟩
def bj(r r':R2)(ta tb tc:TE):TE:=λσ H Q=>ta σ H λx H1=>tb σ H1 λy H2=>r x y H2 λz H3=>∃k,z=.f k /\
 (if k=true then tc σ H3 λw' H4=>r' y w' H4 Q else Q (.f false) H3)
theorem cn(ho:OpR X (Ba op) r)(ho':OpR X (Ba op') r')(ha:PE X a ta)(hb:PE X b tb)(hc:PE X c tc)
 (hm:Gz [op,op'] [b,c]=false:=by with_unfolding_all rfl):PE X (.Compare a [op,op'] [b,c] pos) (bj r r' ta tb tc):=by
 intro pins s σ H Q I h;refine Compare_chain (thn (ha pins s σ H _ I h) λv s1 ⟨x,H1,I1,r1,q1⟩=>chain_link (thn (hb pins s1 σ H1 _ I1 q1) λu s2 ⟨y,H2,I2,r2,q2⟩=>
  thn (ho pins s2 σ H2 x y v u _ I2 r1 r2 q2) λd s3 ⟨z,H3,I3,r3,k,e,q3⟩=>?_)) hm
 subst e;cases r3;refine Bq ?_;cases k with
 |false=>exact ite_ff ⟨.f false,H3,I3,rfl,q3⟩
 |true=>exact ite_tt (chain_last (thn (hc pins s3 σ H3 _ I3 q3) λw' s4 ⟨z',H4,I4,r4,q4⟩=>ho' pins s4 σ H4 y z' u w' Q I4 r2 r4 q4))
theorem bL(ho:OpR X (Ba op) r)(ho':OpR X (Ba op') r')(ha:PE X a ta)(hb:PE X b tb)(hc:PE X c tc)
 (hm:Gz [op,op'] [b,c]=false:=by with_unfolding_all rfl):PT X (.Compare a [op,op'] [b,c] pos) (iB (bj r r' ta tb tc)):=by
 intro pins s σ H Q I h;refine isTrue_chain (thn (ha pins s σ H _ I h) λv s1 ⟨x,H1,I1,r1,q1⟩=>test_link (thn (hb pins s1 σ H1 _ I1 q1) λu s2 ⟨y,H2,I2,r2,q2⟩=>
  thn (ho pins s2 σ H2 x y v u _ I2 r1 r2 q2) λd s3 ⟨z,H3,I3,r3,k,e,q3⟩=>?_)) hm
 subst e;cases r3;refine Bq ?_;cases k with
 |false=>
  obtain⟨k',e',q'⟩:=q3;cases e';exact ite_ff ⟨H3,I3,q'⟩
 |true=>
  refine ite_tt (test_last (thn (hc pins s3 σ H3 _ I3 q3) λw' s4 ⟨z',H4,I4,r4,q4⟩=>thn (ho' pins s4 σ H4 y z' u w' _ I4 r2 r4 q4) λd' s5 ⟨z2,H5,I5,r5,k2,e2,q5⟩=>?_));subst e2;cases r5;exact Bq ⟨H5,I5,q5⟩
def aO(K:Ag)(x:V)(H:Hp)(k:Bool):Prop:=
 match x with
 |.g=>k=false
 |.f b=>k=b
 |.d i=>k=(i != 0)
 |.e y=>y.length<=Au/\k=((y.length:Int) != 0)
 |.h y=>y.size<=Au/\k=((y.size:Int) != 0)
 |.c p=>(∃xs,SqL K H p xs/\k=!xs.isEmpty)\/(∃xs,SqT K H p xs/\k=!xs.isEmpty)\/∃kvs,H p=some (.i kvs)/\k=!kvs.isEmpty
 |_=>False
theorem lX(r:KV kvs vs):(!vs.isEmpty)=!kvs.isEmpty:=by
 cases r<;>rfl
theorem qI(r:Vals xs its):(!its.toArray.isEmpty)=!xs.isEmpty:=by
 cases r<;>simp
theorem uj:(Au:Nat)<2 ^ 63:=by rw[AK];decide
theorem aA:S6 X (λx H Q=>∃k,aO X.K x H k/\Q k H):=by
 intro pins s σ H x v Q I rx h;obtain⟨k,e,q⟩:=h;have hl:=uj;have hs:Au=16777216:=AK;cases x with
 |g=>
  cases rx;have e':k=false:=e;subst e';exact truthy_none ⟨H,I,q⟩
 |f b=>
  cases rx;have e':k=b:=e;subst e';exact Bq ⟨H,I,q⟩
 |d i=>
  obtain⟨t,rfl⟩:=rx;have e':k=(i != 0):=e;subst e';exact PySem.P.truthy_int ⟨H,I,q⟩
 |e y=>
  obtain⟨t,rfl⟩:=rx;obtain⟨hy,e'⟩:y.length<=Au/\k=((y.length:Int) != 0):=e;subst e';exact PySem.P.truthy_str (by omega) ⟨H,I.tok _,q⟩
 |h y=>
  obtain⟨t,rfl⟩:=rx;obtain⟨hy,e'⟩:y.size<=Au/\k=((y.size:Int) != 0):=e;subst e';exact PySem.W.truthy_bytes (by omega) ⟨H,I.tok _,q⟩
 |c p=>
  cases rx;have e':(∃xs,SqL X.K H p xs/\k=!xs.isEmpty)\/(∃xs,SqT X.K H p xs/\k=!xs.isEmpty)\/∃kvs,H p=some (.i kvs)/\k=!kvs.isEmpty:=e;rcases e' with⟨xs,hx,e'⟩|⟨xs,hx,e'⟩|⟨kvs,hx,e'⟩
  . subst e'
    obtain⟨its,r,pl,hz⟩:=I.list hx;have hlen:=r.length;exact wpAny_truthy_list pl.isList (by simp only[Aa];omega) ⟨H,I.tok _,by rw[qI r];exact q⟩
  . subst e'
    obtain⟨its,r,pl,hz⟩:=I.tuple hx;have hlen:=r.length;exact truthy_tuple pl (by simp only[Aa];omega) ⟨H,I.tok _,by rw[qI r];exact q⟩
  . subst e'
    obtain⟨hz,hS,vs,r,m⟩:kvs.length<=Au/\(p == BZ)=false/\∃vs,KV kvs vs/\s.heap.DictOf (ou X.f X.w) p vs:=I.j p _ hx;have hlen:kvs.length=vs.length:=Gu r;exact wpAny_truthy_dict hS m (by omega) ⟨H,I.tok _,by rw[lX r];exact q⟩
 |_=>exact(show False from e).elim
theorem mw(ha:PE X a ta)(he:∀whole,isTrue a X.a whole=(do let v <-whole;standAt a.pos;holding [v] (truthy v))) :
 PT X a (λσ H Q=>ta σ H λx H'=>∃k,aO X.K x H' k/\Q k H'):=by
 intro pins s σ H Q I h;exact isTrue_plain (thn (ha pins s σ H _ I h) λv s1 ⟨x,H1,I1,r1,q1⟩=>aA pins s1 σ H1 x v Q I1 r1 q1) (he _)
theorem qX:OpR X (Bw .Add) (λx y H Q=>∃i j,x=.e i/\y=.e j/\i.length+j.length<=Au/\Q (.e (i++j)) H):=by intro pins s σ H x y v u Q I rx ry h;obtain⟨i,j,rfl,rfl,hz,q⟩:=h;obtain⟨t,rfl⟩:=rx;obtain⟨t',rfl⟩:=ry;exact add_str (λt' tk=>⟨.e (i++j),H,I.tok _,⟨_,rfl⟩,q⟩) hz
theorem vals1(r:Vals [x] us):∃u,us=[u]/\RelV x u:=by
 cases r with
 |cons r1 r2=>cases r2;exact⟨_,rfl,r1⟩
theorem vals2(r:Vals [x,y] us):∃u w',us=[u,w']/\RelV x u/\RelV y w':=by
 cases r with
 |cons r1 r2=>
  cases r2 with
  |cons r3 r4=>cases r4;exact⟨_,_,rfl,r1,r3⟩
theorem iO(hc:X.j=true):yB X (.builtin "max") (λxs H Q=>∃i j,xs=[.d i,.d j]/\Q (.d (if j > i then j else i)) H):=by
 intro pins s σ H xs us Q I r h;obtain⟨i,j,rfl,q⟩:=h;obtain⟨u,w',rfl,⟨t,rfl⟩,⟨t',rfl⟩⟩:=vals2 r;refine max_two_ints (I.C.i hc) λh' tk k=>⟨_,H,I.kept k,?_,q⟩;by_cases hj:j > i
 . rw[if_pos hj,if_pos hj];exact⟨_,rfl⟩
 . rw[if_neg hj,if_neg hj];exact⟨_,rfl⟩
theorem iR(hc:X.j=true):yB X (.builtin "min") (λxs H Q=>∃i j,xs=[.d i,.d j]/\Q (.d (if j<i then j else i)) H):=by
 intro pins s σ H xs us Q I r h;obtain⟨i,j,rfl,q⟩:=h;obtain⟨u,w',rfl,⟨t,rfl⟩,⟨t',rfl⟩⟩:=vals2 r;refine min_two_ints (I.C.i hc) λh' tk k=>⟨_,H,I.kept k,?_,q⟩;by_cases hj:j<i
 . rw[if_pos hj,if_pos hj];exact⟨_,rfl⟩
 . rw[if_neg hj,if_neg hj];exact⟨_,rfl⟩
theorem pJ:yB X (.type "int") (λxs H Q=>(∃i,xs=[.d i]/\Q (.d i) H)\/∃k,xs=[.f k]/\Q (.d (if k then 1 else 0)) H):=by
 intro pins s σ H xs us Q I r h;rcases h with⟨i,rfl,q⟩|⟨k,rfl,q⟩
 . obtain⟨u,rfl,t,rfl⟩:=vals1 r
   exact call_int_int ⟨.d i,H,I,⟨_,rfl⟩,q⟩
 . obtain⟨u,rfl,r1⟩:=vals1 r
   cases r1;exact call_int_bool ⟨.d (if k then 1 else 0),H,I.tok _,⟨_,rfl⟩,q⟩
theorem vf:yB X (.builtin "divmod") (λxs H Q=>∃i j,xs=[.d i,.d j]/\Xd i j/\∀p,H p=none->Q (.c p) (upd H p (.c [.d (i/j),.d (i%j)]))):=by
 intro pins s σ H xs us Q I r h;obtain⟨i,j,rfl,⟨h1,h2⟩,q⟩:=h;obtain⟨u,w',rfl,⟨t,rfl⟩,⟨t',rfl⟩⟩:=vals2 r;refine divmod_int (by omega) ?_ (.inl (DT (by omega)))
 rw[Di i (by omega),Dj i (by omega)]
 have hn:H s.heap.objs.size=none:=I.j.fresh (xd _);refine⟨.c s.heap.objs.size,_,?_,rfl,q _ hn⟩;refine I.laid (λb o e=>nx _ e) (xd _) ⟨by simp only[AI,B5];rw[AK];decide,[.int (i/j) s.toks,.int (i%j) (s.toks+1)],.cons ⟨_,rfl⟩ (.cons ⟨_,rfl⟩ .nil),?_⟩
 exact⟨_,Aq s.heap rfl,rfl,0,rfl,rfl⟩
end
structure Xh(h:Heap)(x dx C:Addr)(mA:Str->Option Value):Prop where
 a:h.get? x=some (FX C dx)
 ns:h.Ns1 dx mA
 ne:dx≠x
theorem gE{h:Heap}(n:h.Ns1 dx mA):∃od,h.get? dx=some od/\∀name,F6 name od=some (mA name):=by
 obtain⟨o,es,ep,ho,hd,hk,_,hm⟩:=n;refine⟨o,ho,λname=>?_⟩;have e:=hm name;unfold nsFind findBy at e;rw[<-Array.find?_toList]at e;unfold F6;rw[hd];dsimp only;split
 . rename_i y q
   rw[q]at e;exact congrArg some e
 . rename_i q
   rw[q]at e;have a:es.toList.any (·.refKey)=false:=by rw[List.any_eq_false];intro y hy;obtain⟨z,t,hkey⟩:=hk y (Array.mem_toList_iff.mp hy);simp[FT.refKey,hkey]
   have a':¬es.toList.any (·.refKey)=true:=by rw[a];exact Aj
   rw[if_neg a'];exact congrArg some e
theorem Xh.look(I:Xh h x dx C mA):∃od,PySem.W.InstAt h x (FX C dx) C (some od)/\∀name,F6 name od=some (mA name):=
 let ⟨od,ho,hl⟩:=gE I.ns
 ⟨od,⟨I.a,rfl,rfl,ho⟩,hl⟩
section
variable {P:Program}{w:World}{H H':Hp}{h h':Heap}{a C dx:Addr}{fs fs':List (Str × V)}
theorem ay(hok:HOk P w H h)(e:H a=some (.j C dx fs)):∃mA,Xh h a dx C mA/\(∀f,Xi (fs.lookup f) (mA f))/\PySem.Within mA (fs.map (·.1))/\fs.length<=1000/\H dx=some (.e a):=by obtain⟨d,z,ne,ob,mA,n,r,q⟩:=(show zt P w H h a (.j C dx fs) from hok a _ e);exact⟨mA,⟨ob,n,ne⟩,r,q,z,d⟩
end
structure Cls(K:Ag)(C:Addr):Prop where
 pg:PySem.W.plainGet K C Ed=true
 hd:PySem.W.hasDictIn K C=true
 po:PySem.W.plainOver K C=true
 sa:PySem.W.findIn K (.ref C) "__setattr__"=some (some (.builtin "object.__setattr__"))
theorem Cls.get{K}(c:Cls K C)f:PySem.W.plainGet K C f=true:=c.pg
section
variable {X:Cx}{pins:List (Addr × Obj)}{σ:St}{H:Hp}{s:Shared}{A:Around}{E:Value->Shared->Prop}{Q:Value->Shared->Prop}{c:Value}{b:Bool}
inductive uy(K:Ag)(H:Hp):V->Value->Prop where
 |d:uy K H .g (.type "NoneType")
 |bl (x:Bool):uy K H (.f x) (.type "bool")
 |c (i:Int):uy K H (.d i) (.type "int")
 |f (x:Str):uy K H (.e x) (.type "str")
 |h (x:UInt64):uy K H (.j x) (.type "float")
 |b {a:Addr} {xs:List V} (e:H a=some (.b xs)):uy K H (.c a) (.type "list")
 |j {a:Addr} {o:Obj} {xs:List V} (e:H a=some (.d o (.b xs))):uy K H (.c a) (.type "list")
 |g {a:Addr} {xs:List V} (e:H a=some (.c xs)):uy K H (.c a) (.type "tuple")
 |dK {a:Addr} {kvs:List (Key × V)} (e:H a=some (.i kvs)):uy K H (.c a) (.type "dict")
 |dT {a:Addr} {kvs:List (List Key × V)} (e:H a=some (.k kvs)):uy K H (.c a) (.type "dict")
 |k {a C dx:Addr} {fs:List (Str × V)} (e:H a=some (.j C dx fs)) (cl:Cls K C) (ha:PySem.W.findIn K (.ref C) "__class__"=some (some (.builtin "object.__class__")))
  (hn:PySem.W.specialIn K (.builtin "object.__class__") "__get__"=some (some (.builtin "getset_descriptor.__get__"))) (htk:PySem.W.takesIn K (.builtin "object.__class__")=some true)
  (hm:PySem.W.mroIn K C (.type "object")=some true):uy K H (.c a) (.ref C)
theorem iq(I:Inv X pins σ H s)(rx:RelV x u)(ty:uy X.K H x t)(e:F7 X.K t c=some b)(h:∀tk,Q (.bool b) {s with toks:=tk}) :
 wpAny (model X.f X.w) A (call (.builtin "isinstance") [u,c]) Q E s:=by
 cases ty with
 |d=>cases (show u=Cg from rx);exact BB PySem.W.kitx_none I.kIn AG e (λz=>nomatch z) h
 |bl y=>cases (show u=CO y from rx);exact BB PySem.W.kitx_bool I.kIn AG e (λz=>nomatch z) h
 |c i=>obtain⟨t,q⟩:=(show ∃t,u=FV i t from rx);cases q;exact BB PySem.W.kitx_int I.kIn AG e (λz=>nomatch z) h
 |f y=>obtain⟨t,q⟩:=(show ∃t,u=FW y t from rx);cases q;exact BB PySem.W.kitx_str I.kIn AG e (λz=>nomatch z) h
 |h y=>obtain⟨t,q⟩:=(show ∃t,u=Value.float y t from rx);cases q;exact BB PySem.W.kitx_float I.kIn AG e (λz=>nomatch z) h
 |@b a xs ea=>
  cases (show u=A0 a from rx);obtain⟨_,_,n,_,h1⟩:=(show zt X.f X.w H s.heap a (.b xs) from I.j a _ ea);exact BB PySem.W.kitx_list I.kIn ⟨_,h1,rfl⟩ e (λz=>nomatch z) h
 |@j a ob xs ea=>
  cases (show u=A0 a from rx);obtain⟨_,_,_,n,_,h1⟩:=(show zt X.f X.w H s.heap a (.d ob (.b xs)) from I.j a _ ea);exact BB PySem.W.kitx_list I.kIn ⟨_,h1,rfl⟩ e (λz=>nomatch z) h
 |@g a xs ea=>
  cases (show u=A0 a from rx);obtain⟨_,_,_,p⟩:=(show zt X.f X.w H s.heap a (.c xs) from I.j a _ ea);obtain⟨o,h1,h2,_⟩:=p;exact BB PySem.W.kitx_tuple I.kIn ⟨o,h1,h2⟩ e (λz=>nomatch z) h
 |@dK a kvs ea=>
  cases (show u=A0 a from rx);obtain⟨_,_,vs,_,p⟩:=(show zt X.f X.w H s.heap a (.i kvs) from I.j a _ ea);obtain⟨o,es,ep,h1,h2,_⟩:=p;exact BB PySem.W.kitx_dict I.kIn ⟨o,h1,h2.1⟩ e (λz=>nomatch z) h
 |@dT a kvs ea=>
  cases (show u=A0 a from rx);obtain⟨_,_,xs,_,o,es,ep,h1,h2,_⟩:=(show zt X.f X.w H s.heap a (.k kvs) from I.j a _ ea);exact BB PySem.W.kitx_dict I.kIn ⟨o,h1,h2.1⟩ e (λz=>nomatch z) h
 |@k a C dx fs ea cl ha hn htk hm=>
  cases (show u=A0 a from rx);obtain⟨mA,O,_⟩:=ay I.j ea;obtain⟨od,J,_⟩:=O.look;exact BB (PySem.W.kitx_own (cl.get _) cl.hd ha hn htk hm) I.kIn J e (λz=>nomatch z) h
end
structure xA(k:Nat)(A:Around):Prop where
 a:A.handled=none
 c:A.depth+3*k+5<CG
 b:A.units+16*k+200<cLine
 d:A.guards=some []
theorem xA.deeper(r:xA (k+1) A)env:xA k (A.deeper env):=
 ⟨r.a,by have:=r.c;show A.depth+1+3*k+5<_;omega,by have:=r.b;show A.units+3+16*k+200<_;omega,r.d⟩
theorem xA.depth(r:xA k A):A.depth<CG:=by have:=r.c;omega
def tZ:TA:=λ_ H Q=>Q [] H
def wB(ta:TE)(tr:TA):TA:=λσ H Q=>ta σ H λx H1=>tr σ H1 λxs H2=>Q (x::xs) H2
section
variable {X:Cx}{e:Expr}{es:List Expr}{te:TE}{t:TA}{pos:Pos}
theorem yT:PA X [] tZ:=λ_ _ _ _ H Q I h=>Calls.spliced_nil ⟨[],H,I,.nil,h⟩
theorem yo(ha:PE X e te)(hr:PA X es t)(hs:AD (e::es) X.a=(false,eval e X.a)::AD es X.a:=by rfl):PA X (e::es) (wB te t):=by intro pos pins s σ H Q I h;rw[hs];show wpAny _ _ (spliced ((false,eval e X.a)::backTo pos (AD es X.a))) _ _ s;refine Calls.spliced_cons (thn (ha pins s σ H _ I h) λu s1 ⟨x,H1,I1,r1,q1⟩=>?_);exact thn (hr pos pins s1 σ H1 _ I1 q1) λus s2 ⟨xs,H2,I2,r2,q2⟩=>⟨x::xs,H2,I2,.cons r1 r2,q2⟩
def Rc(t:TA):TE:=λσ H Q=>t σ H λxs H1=>xs.length<=Au/\∀p,H1 p=none->Q (.c p) (upd H1 p (.c xs))
def ke(t:TA):TE:=λσ H Q=>t σ H λxs H1=>xs.length<=Au/\∀p,H1 p=none->Q (.c p) (upd H1 p (.b xs))
theorem Vd{x1}(h:PA X es t):PE X (.Tuple es x1 pos) (Rc t):=by
 intro pins s σ H Q I hq;refine wpAny_Tuple_spliced (thn (h pos pins s σ H _ I hq) λus s1 ⟨xs,H1,I1,r,z,q⟩=>⟨by rw[<-r.length];exact z,?_⟩)
 have hf:H1 s1.heap.objs.size=none:=I1.j.fresh (xd _);refine⟨.c s1.heap.objs.size,upd H1 s1.heap.objs.size (.c xs),I1.laid (t':=s1.toks) (λb u e=>nx _ e) (xd _) ?_,rfl,q _ hf⟩;exact⟨z,us,r,⟨_,Aq _ rfl,rfl,_,rfl,rfl⟩⟩
theorem sN(h:PA X es t):PE X (.List es pos) (ke t):=by
 intro pins s σ H Q I hq;refine wpAny_List_spliced (thn (h pos pins s σ H _ I hq) λus s1 ⟨xs,H1,I1,r,z,q⟩=>⟨by rw[<-r.length];exact z,?_⟩)
 have hf:H1 s1.heap.objs.size=none:=I1.j.fresh (xd _);refine⟨.c s1.heap.objs.size,upd H1 s1.heap.objs.size (.b xs),I1.laid (t':=s1.toks) (λb u e=>nx _ e) (xd _) ?_,rfl,q _ hf⟩;exact⟨z,us,0,r,Aq _ rfl⟩
end
abbrev Sp:=List V->Hp->VK->XK->Prop
abbrev CXT:=List Env->Hp->Shared->XK->Value->Shared->Prop
structure lH(P:Program)(w:World)(K:Ag)(mg:Str->Option Value)(base:Heap)(A:Around)(outer:List Env)(s:Shared)(H:Hp):Prop where
 a:A.frames=some outer
 c:Mod K mg base
 e:∀b o,base.get? b=some o->s.heap.get? b=some o/\H b=none
 g:base.objs.size<=s.heap.objs.size
 i:s.heap.FunFrames base outer
 h:∀b∈frs outer,H b=none
 d:HOk P w H s.heap
 f:AllBare s.gens
def CE(outer:List Env)(P:Program)(w:World)(H:Hp)(s:Shared)(Q:VK)(u:Value)(s':Shared):Prop:=
 ∃v H',s'.os=s.os/\AllBare s'.gens/\Un (frs outer) [] H H' s.heap s'.heap/\HOk P w H' s'.heap/\RelV v u/\Q v H'
def CR(CX:CXT)(outer:List Env)(P:Program)(w:World)(H:Hp)(s:Shared)(Q:VK)(E:XK)(r:Result)(s':Shared):Prop:=
 match r with
 |.ok (.ret u)=>CE outer P w H s Q u s'
 |.ok _=>False
 |.error e=>CX outer H s E e s'
structure uw(P:Program)(w:World)(K:Ag)(mg:Str->Option Value)(base:Heap)(CX:CXT)(k:Nat)(f:Addr)(fd:BM)(ps:List Str)(sp:Sp):Prop where
 b:∀vs H Q E,sp vs H Q E->vs.length=ps.length
 a:∀(A:Around) (outer:List Env) (s:Shared) (H:Hp) (args:Args) (us:List Value) (vs:List V) (Q:VK) (E:XK),xA k A->lH P w K mg base A outer s H->BindsTo s fd args (ps.zip us)->Vals vs us->sp vs H Q E ->
  codeAny (model P w) A (.call (.ref f) args) (CR CX outer P w H s Q E) s
theorem uw.imp{K}(F:uw P w K mg base CX k f fd ps sp)
 (h:∀vs H Q E,sp' vs H Q E->sp vs H Q E):uw P w K mg base CX k f fd ps sp':=
 ⟨λvs H Q E q=>F.b vs H Q E (h _ _ _ _ q),λA outer s H args us vs Q E hr he hb hv hs=>F.a A outer s H args us vs Q E hr he hb hv (h _ _ _ _ hs)⟩
section
variable {X:Cx}{pins:List (Addr × Obj)}{σ:St}{H:Hp}{s s':Shared}
theorem Inv.vn(I:Inv X pins σ H s):lH X.f X.w X.K X.d X.h X.A X.g s H:=
 ⟨I.C.g,I.C.j,I.bs,AE I.C.q I.sz,I.stack,I.nW,I.j,I.F⟩
theorem Inv.after(I:Inv X pins σ H s)(h:CE X.g X.f X.w H s Q u s'):EP X pins σ Q u s':=by obtain⟨v,H',os,bare,un,hok,r,q⟩:=h;obtain⟨hh,g,d,t,os'⟩:=s';obtain rfl:os'=s.os:=os;exact⟨v,H',I.call (h':=hh) (g':=g) (d':=d) (t':=t) (ch:=[]) un hok bare (λb z=>absurd z (by simp)),r,q⟩
end
def j9(sp:Sp)(dvs:List V)(E:XK)(t:TA):TE:=λσ H Q=>t σ H λvs H1=>sp (vs++dvs) H1 Q E
def Binds(K:Ag)(fd:BM)(ps:List Str)(ds:List Value):Prop:=
 ∀(s:Shared) (us:List Value),K.In s.heap->(us++ds).length=ps.length->BindsTo s fd ⟨us,[]⟩ (ps.zip (us++ds))
theorem Binds.all{K}(h:∀us:List Value,us.length=ps.length->Gi fd ⟨us,[]⟩=pure (ps.zip us)):Binds K fd ps []:=λs us _ hl=>by rw[Bb]at hl ⊢;exact .of_eq (h us hl)
def Passes(CX:CXT)(X:Cx)(E:XK):Prop:=∀(pins:List (Addr × Obj)) (σ:St) (H:Hp) (s:Shared) (e:Value) (s':Shared),Inv X pins σ H s->CX X.g H s E e s'->X.i e s'
section
variable {X:Cx}{CX:CXT}{k:Nat}{f C:Addr}{fd:BM}{ps:List Str}{sp:Sp}{dvs:List V}{ds:List Value}{E:XK}{x m:Str}{p pos apos:Pos}{e o:Expr}{es:List Expr}{ta:TE}{t:TA}
theorem kQ(F:uw X.f X.w X.K X.d X.h CX k f fd ps sp)(hr:xA k X.A)(hb:Binds X.K fd ps ds)(hd:Vals dvs ds)(hx:Passes CX X E)
 (I:Inv X pins σ H s) (r:Vals vs us) (h:sp (vs++dvs) H Q E):wpAny (model X.f X.w) X.A (call (.ref f) us) (EP X pins σ Q) X.i s:=by
 have r2:Vals (vs++dvs) (us++ds):=r.append hd;have hl:(us++ds).length=ps.length:=by rw[<-r2.length];exact F.b _ _ _ _ h
 refine Ek (C6 (F.a X.A X.g s H ⟨us,[]⟩ (us++ds) (vs++dvs) Q E hr I.vn (hb s us I.kIn hl) r2 h) λr s' hq=>?_);cases r with
 |error e=>exact hx pins σ H s e s' I hq
 |ok fl=>
  cases fl with
  |ret u=>exact I.after hq
  |next=>exact AA hq
  |brk=>exact AA hq
  |cont=>exact AA hq
theorem nK(F:uw X.f X.w X.K X.d X.h CX k f fd ps sp)(hr:xA k X.A)(hg:Gl X x)(hm:X.d x=some (.ref f))(hk:B0 X.K (.ref f)=true)(hb:Binds X.K fd ps ds)(hd:Vals dvs ds)(hx:Passes CX X E)
 (ha:PA X (e::es) t) (hdb:(x == ("__debug__":Str))=false:=by decide) (he:AD (e::es) X.a=(false,eval e X.a)::AD es X.a:=by rfl) (hpl:(backTo pos (AD es X.a)).any (·.1)=false:=by rfl) :
 PE X (.Call (.Name x p) (e::es) [] pos) (j9 sp dvs E t):=by
 intro pins s σ H Q I h;refine Bu (xl I hg hm ?_ hdb);refine CQ (h₀:=X.h) I.C.j.a hk (thn (ha pos pins s σ H _ I h) λus s1 ⟨vs,H1,I1,r,q⟩=>⟨I1.kIn,?_⟩) he hpl;exact kQ F hr hb hd hx I1 r q
theorem mZ(F:uw X.f X.w X.K X.d X.h CX k f fd ps sp)(hr:xA k X.A)(hg:Gl X x)(hm:X.d x=some (.ref f))(hk:B0 X.K (.ref f)=true)(hb:Binds X.K fd ps ds)(hd:Vals dvs ds)(hx:Passes CX X E)
 (hdb:(x == ("__debug__":Str))=false:=by decide):PE X (.Call (.Name x p) [] [] pos) (j9 sp dvs E tZ):=by
 intro pins s σ H Q I h;refine Bu (xl I hg hm ?_ hdb);exact PySem.W.callWith_K0 I.kIn hk (kQ (us:=[]) F hr hb hd hx I .nil h)
end
def PK(X:Cx)(kws:List Keyword)(t:TA):Prop:=
 ∀(pos:Pos) (pins:List (Addr × Obj)) (s:Shared) (σ:St) (H:Hp) (Q:List V->Hp->Prop),Inv X pins σ H s->t σ H Q->wpAny (model X.f X.w) X.A (evalAll ((Fx pos (DU kws X.a)).map (·.2))) (AP X pins σ Q) X.i s
section
variable {X:Cx}{CX:CXT}{k:Nat}{f C:Addr}{fd:BM}{ps ks:List Str}{sp:Sp}{E:XK}{x m:Str}{p pos apos kpos:Pos}{e o:Expr}{es:List Expr}{kws:List Keyword}{te ta:TE}{t tk:TA}{nm:Option Str}
theorem Vf:PK X [] tZ:=λ_ _ _ _ H Q I h=>wpAny_evalAll_nil ⟨[],H,I,.nil,h⟩
theorem Z4(ha:PE X e te)(hr:PK X kws t):PK X (⟨nm,e,kpos⟩::kws) (wB te t):=by
 intro pos pins s σ H Q I h;show wpAny _ _ (evalAll ((do let v <-eval e X.a;standAt pos;pure v)::(Fx pos (DU kws X.a)).map (·.2))) _ _ s
 refine wpAny_evalAll_cons (dS (thn (ha pins s σ H _ I h) λu s1 ⟨x,H1,I1,r1,q1⟩=>dS (Bc (Ab ?_))));exact thn (hr pos pins s1 σ H1 _ I1 q1) λus s2 ⟨xs,H2,I2,r2,q2⟩=>⟨x::xs,H2,I2,.cons r1 r2,q2⟩
variable {g:List Value->List Value->List Value}{gV:List V->List V->List V}
end
structure wH(N P:List Str)(sc:Scope):Prop where
 a:sc.kind=.function
 co:sc.isCoroutine=false
 f:sc.isGenerator=false
 b:N.Nodup
 c:N.take P.length=P
 e:∀x∈P,sc.names.lookup x=some .local\/sc.names.lookup x=some .cell
 d:∀y∈sc.names,y.2≠.free
theorem pI{kindOf}:∀{binds} {m},(∀v,(x,v) ∉ binds)->bindL kindOf binds m x=m x
 |[],_,_=>rfl
 |(n,v)::r,m,h=>by
  unfold bindL;rw[pI λw hw=>h w (Ah _ hw)];split
  . have:x≠n:=by rintro rfl;exact h v As
    simp[this]
  . rfl
theorem pG{kindOf}:∀{binds} {m},(∀v,(x,v) ∉ binds)->bindC kindOf binds m x=m x
 |[],_,_=>rfl
 |(n,v)::r,m,h=>by
  unfold bindC;rw[pG λw hw=>h w (Ah _ hw)];split
  . rfl
  . have:x≠n:=by rintro rfl;exact h v As
    simp[this]
theorem pH{kindOf}:∀{P:List Str} {vs} {i:Nat} {m},P.Nodup->P[i]?=some x->vs[i]?=some v->kindOf x=some .local ->
 bindL kindOf (P.zip vs) m x=some v
 |[],_,_,_,_,h,_,_=>by simp at h
 |_::_,[],_,_,_,_,h,_=>by simp at h
 |p::P,w::vs,0,m,nd,h1,h2,hk=>by
  simp at h1 h2;subst h1;subst h2;show bindL kindOf ((p,w)::P.zip vs) m p=_;unfold bindL;rw[pI λv hv=>(BU.mp nd).1 (El hv).1,if_pos hk];simp
 |p::P,w::vs,i+1,m,nd,h1,h2,hk=>by show bindL kindOf ((p,w)::P.zip vs) m x=_;unfold bindL;exact pH (i:=i) (BU.mp nd).2 (by simpa using h1) (by simpa using h2) hk
theorem pF{kindOf}:∀{P:List Str} {vs} {i:Nat} {m},P.Nodup->P[i]?=some x->vs[i]?=some v->kindOf x≠some .local ->
 bindC kindOf (P.zip vs) m x=some v
 |[],_,_,_,_,h,_,_=>by simp at h
 |_::_,[],_,_,_,_,h,_=>by simp at h
 |p::P,w::vs,0,m,nd,h1,h2,hk=>by
  simp at h1 h2;subst h1;subst h2;show bindC kindOf ((p,w)::P.zip vs) m p=_;unfold bindC;rw[pG λv hv=>(BU.mp nd).1 (El hv).1,if_neg hk];simp
 |p::P,w::vs,i+1,m,nd,h1,h2,hk=>by show bindC kindOf ((p,w)::P.zip vs) m x=_;unfold bindC;exact pF (i:=i) (BU.mp nd).2 (by simpa using h1) (by simpa using h2) hk
noncomputable def start(N:List Str)(vs:List V):St:=vs.map some++Al (N.length-vs.length) none
noncomputable def xX(CX:CXT)(P:Program)(w:World)(K:Ag)(mg:Str->Option Value)(base:Heap)(N:List Str)(qual:Str)(scope:Scope)(f:Addr)(cd:Value)(A:Around)(outer:List Env)(s:Shared)(H:Hp)(E:XK):Cx where
 f:=P
 w:=w
 K:=K
 d:=mg
 h:=base
 A:=A.deeper (envOfC qual scope s.heap.objs.size f cd)
 N:=N
 l:=s
 r:=H
 a:=envOfC qual scope s.heap.objs.size f cd
 k:=outer
 g:=envOfC qual scope s.heap.objs.size f cd::outer
 m:=[]
 j:=true
 n:=λ_=>true
 q:=[]
 i:=λe s'=>wpAny (model P w) (A.deeper (envOfC qual scope s.heap.objs.size f cd)) (leaving (envOfC qual scope s.heap.objs.size f cd) e) (λ_ s''=>CX outer H s E e s'') (λe' s''=>CX outer H s E e' s'') s'
theorem nz{sc:Scope}(h:sc.names.lookup x=some .cell):∃c,(Cp n sc.names []).lookup x=some c:=by have q:=DV sc.names n [] (.inl h);exact B6.mp q
theorem pP{K}
 (S:wH N ps scope) (hd:A.handled=none) (e0:lH P w K mg base A outer s H) (hl:vs.length=ps.length) (r:Vals vs us)
 (x:InCallC s s.heap.objs.size (bindL (envOfC qual scope s.heap.objs.size f cd).kindOf (ps.zip us) λ_=>none) (Cp (s.heap.objs.size+1) scope.names []) (bindC (envOfC qual scope s.heap.objs.size f cd).kindOf (ps.zip us) λ_=>none) s1) :
 Inv (xX CX P w K mg base N qual scope f cd A outer s H E) [] (start N vs) H s1:=by
 have hpl:ps.length<=N.length:=by have:=congrArg F3 S.c;rw[BN]at this;omega
 obtain⟨h1,tk,rfl,hk⟩:=x.done;have noA:∀b:Addr,b ∉ (xX CX P w K mg base N qual scope f cd A outer s H E).m:=λb z=>absurd (show b∈([]:List Addr) from z) (by simp)
 refine⟨⟨e0.c,S.a,rfl,rfl,xd _,λy z c h1 h2=>?_,λy hy=>?_,λy c _ h=>?_,λ_=>hd,Em e0.a,.inr ⟨rfl,rfl⟩,λb z=>absurd z (noA b),e0.e,e0.g,λb _ _=>noA b,λb z=>absurd z (noA b),e0.i,e0.h⟩,
  rfl,e0.f,Un.kept hk,⟨_,x.toInCall.ns,λi y v h1 h2 h3=>?_⟩,λy c h=>⟨_,x.cell y c h⟩,e0.d.fresh (xd _),λy c h=>?_,λp hp=>absurd (show p∈([]:List (Addr × Obj)) from hp) (by simp),e0.d.kept hk,?_⟩
 . exact name_of_addr x.apart (AM h1) (AM h2)
 . have hy:scope.names.lookup y=some .cell\/scope.names.lookup y=some .free:=hy
   rcases hy with hy|hy
   . exact nz hy
   . exact absurd rfl (S.d _ (AM hy))
 . exact C4 (x.above y c (AM h))
 . have hi:i<vs.length:=by
    unfold start at h2;by_cases hi:i<vs.length
    . exact hi
    . rw[BF (by simpa using hi)]at h2
      rw[DN]at h2;split at h2<;>cases h2
   have ha:vs[i]?=some v:=by
    unfold start at h2;rw[AW (by simpa using hi),AX]at h2
    cases e:vs[i]? with
    |none=>rw[e]at h2;cases h2
    |some a=>rw[e]at h2;cases h2;rfl
   obtain⟨u,hu,rv⟩:=r.get ha;have hp:ps[i]?=some y:=by rw[<-S.c,Fy (by omega)];exact h1
   have ndP:ps.Nodup:=by rw[<-S.c];exact S.b.sublist (Fe _ _)
   refine⟨u,rv,?_⟩;rcases S.e y (AU hp) with k|k
   . exact .inl ⟨k,pH ndP hp hu k⟩
   . obtain⟨c,e⟩:=nz (n:=s.heap.objs.size+1) k
     refine .inr ⟨.inl k,c,e,?_⟩;have q:=x.cell y c e;rw[pF ndP hp hu (by show scope.names.lookup y≠_;rw[k];decide)]at q
     exact q
 . exact e0.d.fresh (C4 (x.above y c (AM h)))
 . unfold start
   show _=N.length;rw[Ap,Ai,Cr];omega
theorem Yq{K}{dV kV doc pm cdv ct oc}
    (lk:K.lookup f=some ⟨oc,od,.func (BE name qual params body scope dV kV doc pm an cdv ct),osl⟩) (hcd:BQ K cdv qual=true) (S:wH N ps scope)
 (len:∀vs H Q E,sp vs H Q E->vs.length=ps.length)
 (hbody:∀A outer s H vs Q E,xA k (A.deeper (envOfC qual scope s.heap.objs.size f cdv))->sp vs H Q E ->
  ∃t,PSs (xX CX P w K mg base N qual scope f cdv A outer s H E) body t/\t {a:=λ_ H'=>Q .g H',b:=Q} (start N vs) H) :
 uw P w K mg base CX (k+1) f (BE name qual params body scope dV kV doc pm an cdv ct) ps sp:=by
 refine⟨len,λA outer s H args us vs Q E hr e0 hb r hsp=>?_⟩;have hl:=len _ _ _ _ hsp;have KX:K.In s.heap:=e0.c.a.keeps λb o e=>(e0.e b o e).1;have lim:s.heap.NoLimit:=e0.c.b.keeps λb o e=>(e0.e b o e).1;have hkind:∀y∈ps.zip us,scope.names.lookup y.1=some .local\/(scope.names.lookup y.1=some .cell/\((Cp (s.heap.objs.size+1) scope.names []).lookup y.1).isSome=true):=λ⟨n,v⟩ hy=>by
  rcases S.e n (El hy).1 with q|q
  . exact .inl q
  . exact .inr ⟨q,DV _ _ _ (.inl q)⟩
 refine codeAny_call_function hr.depth (KX _ _ lk) rfl S.co S.f rfl (PySem.W.codeRec_of KX hcd) (hb _ _ _ _ ?_);refine E1 S.a hkind λenv he s1 x=>?_;subst he;refine⟨lim.keeps x.toInCall.keep,codeAny_func ?_⟩;obtain⟨t,ht,hq⟩:=hbody A outer s H vs Q E (hr.deeper _) hsp;have I:Inv (xX CX P w K mg base N qual scope f cdv A outer s H E) [] (start N vs) H s1:=pP S hr.a e0 hl r x;refine AY (ht [] s1 (start N vs) H _ I hq) (λfl s' hs=>?_) λe s' hs=>hs;have fin:∀{σ':St} {H':Hp} {v:V} {u:Value},Inv (xX CX P w K mg base N qual scope f cdv A outer s H E) [] σ' H' s'->RelV v u->Q v H'->CE outer P w H s Q u s':=
  λ{σ' H' v u} J rv q=>⟨v,H',J.S,J.F,J.B,J.j,rv,q⟩
 cases fl with
 |ret u=>
  obtain⟨v,σ',H',J,rv,q⟩:=hs;exact fin J rv q
 |next=>
  obtain⟨σ',H',J,q⟩:=hs;exact fin (v:=V.g) (u:=Cg) J rfl q
 |brk=>
  obtain⟨_,_,_,q⟩:=hs;exact AA q
 |cont=>
  obtain⟨_,_,_,q⟩:=hs;exact AA q
section
variable {X:Cx}{x:Str}{p pos:Pos}{e:Expr}{es:List Expr}{t:TA}{id T:String}{r:List V->Hp->VK->Prop}
def tCB(r:List V->Hp->VK->Prop)(t:TA):TE:=λσ H Q=>t σ H λvs H1=>r vs H1 Q
theorem tP(hc:yB X (.builtin id) r)(hg:Gl X x)(hm:X.d x=none)(hv:BV x=some (.builtin id))(ha:PA X (e::es) t)(hn:x≠"__name__":=by decide)(hdb:(x == ("__debug__":Str))=false:=by decide)
 (he:AD (e::es) X.a=(false,eval e X.a)::AD es X.a:=by rfl) (hpl:(backTo pos (AD es X.a)).any (·.1)=false:=by rfl):PE X (.Call (.Name x p) (e::es) [] pos) (tCB r t):=by
 intro pins s σ H Q I h;refine Bu (vt I hg hm hv ?_ hn hdb);exact PyProof.Rows.callWith_builtin1 (thn (ha pos pins s σ H _ I h) λus s1 ⟨vs,H1,I1,r1,q1⟩=>hc pins s1 σ H1 vs us Q I1 r1 q1) he hpl
theorem yy(hc:yB X (.type T) r)(hg:Gl X x)(hm:X.d x=none)(hv:BV x=some (.type T))(ha:PA X (e::es) t)(hn:x≠"__name__":=by decide)(hdb:(x == ("__debug__":Str))=false:=by decide)
 (he:AD (e::es) X.a=(false,eval e X.a)::AD es X.a:=by rfl) (hpl:(backTo pos (AD es X.a)).any (·.1)=false:=by rfl):PE X (.Call (.Name x p) (e::es) [] pos) (tCB r t):=by
 intro pins s σ H Q I h;refine Bu (vt I hg hm hv ?_ hn hdb);exact Cm (thn (ha pos pins s σ H _ I h) λus s1 ⟨vs,H1,I1,r1,q1⟩=>hc pins s1 σ H1 vs us Q I1 r1 q1) he hpl
end
end L2
namespace HT
open PySem PyProof.Rows
section
variable {prog:Program}{w:World}{A:Around}{E:Value->Shared->Prop}{s:Shared}
theorem aV(ht:IsTup s.heap t vs.toArray)(hb:IsTup s.heap b ws.toArray)(hv:vs≠[])
 (h1:ws=[]->Q (.ref t) s) (h2:ws≠[]->Q (.ref s.heap.objs.size) {s with heap:=s.heap.push {cls:=.type "tuple",data:=.seq (vs++ws).toArray}})
 (hsz:vs.length+ws.length<=Au):wpAny (model prog w) A (Bw .Add (.ref t) (.ref b)) Q E s:=by
 obtain⟨⟨cls,dd,data,sl⟩,ho,hc,n,hd⟩:=id ht;obtain⟨⟨cls2,dd2,data2,sl2⟩,ho2,hc2,n2,hd2⟩:=id hb;simp only at hc hd hc2 hd2;subst hc hd hc2 hd2;have e:vs.toArray++ws.toArray=(vs++ws).toArray:=by simp
 by_cases hw:ws=[]
 . exact concat_meets ⟨_,ho,rfl⟩ ⟨_,ho2,rfl⟩ D3 E2 BW BR (BO _ _)
    (tuple_addW1 t b vs.toArray ws.toArray n n2 dd dd2 sl sl2 (by simpa using hv) (by simp[hw])) ⟨ho,ho2,h1 hw⟩
 . refine concat_meets ⟨_,ho,rfl⟩ ⟨_,ho2,rfl⟩ D3 E2 BW BR (BO _ _)
    (tuple_addW2 t b vs.toArray ws.toArray n n2 dd dd2 sl sl2 (by simpa using hv) (by simpa using hw) (by rw[Aa,Aa];exact hsz)) ⟨ho,ho2,?_⟩
   rw[e];exact h2 hw
noncomputable def sIx(n d:Nat):Option Int->Nat
 |none=>d
 |some v=>if v<0 then (v+(n:Int)).toNat else min v.toNat n
theorem j4(n d k:Nat):sIx n d (some (k:Int))=min k n:=by
 show (if (k:Int)<0 then ((k:Int)+(n:Int)).toNat else min (k:Int).toNat n)=min k n
 rw[if_neg (by omega),BS]
theorem Vt n d(hd:d<=n)o:sIx n d o<=n:=by
 cases o with
 |none=>exact hd
 |some v=>
  show (if v<0 then (v+(n:Int)).toNat else min v.toNat n)<=n
  by_cases hv:v<0
  . rw[if_pos hv];omega
  . rw[if_neg hv];exact D4 _ _
theorem jK v(n d:Nat):(if v<0 then max (v+(n:Int)) 0 else min v (n:Int))=((sIx n d (some v):Nat):Int):=by
 show (if v<0 then max (v+(n:Int)) 0 else min v (n:Int))=(((if v<0 then (v+(n:Int)).toNat else min v.toNat n):Nat):Int)
 by_cases hv:v<0
 . simp only[if_pos hv];omega
 . simp only[if_neg hv];omega
theorem lJ lo hi(n:Nat):BJ lo hi 1 (n:Int)=(((sIx n 0 lo:Nat):Int),((sIx n n hi:Nat):Int)):=by
 have h1:¬((1:Int)<0):=by omega
 unfold BJ;simp only[h1,if_false];refine Prod.ext ?_ ?_
 . cases lo with
   |none=>rfl
   |some v=>exact jK v n 0
 . cases hi with
   |none=>rfl
   |some v=>exact jK v n n
theorem kJ(i j:Nat):B3 (i:Int) (j:Int) 1=j-i:=by
 unfold B3;have h1:(1:Int) > 0:=by omega
 simp only[h1,if_true,Int.ediv_one];split<;>omega
theorem wA(p:IsPart v o)(h:Q o s):wpAny (model prog w) A (Builtin.Slice.slicePartIndex v) Q E s:=by
 cases p with
 |none=>exact slicePart_none h
 |int i t=>exact slicePart_int h
theorem wz{lo hi}{n:Nat}(hs:s.heap.IsSliceOf sl vl vu .none)(pl:IsPart vl lo)(pu:IsPart vu hi)
 (h:Q (((sIx n 0 lo:Nat):Int),1,sIx n n hi-sIx n 0 lo) s):wpAny (model prog w) A (Cv (.ref sl) (pure (n:Int))) Q E s:=by
 obtain⟨os,hos,hcs,hds⟩:=id hs;unfold Cv Fs;refine dS (dS (Ci hos hds (x:=vl) rfl (dS (Ci hos hds (x:=vu) rfl (dS (Ci hos hds (x:=.none) rfl (Ab ?_)))))));refine dS (slicePart_none ?_);show wpAny _ _ (if ((1:Int) == 0)=true then _ else _) _ _ s
 rw[if_neg (by decide)]
 refine dS (wA pl (dS (wA pu (dS (Ab ?_)))));show wpAny _ _ (match BJ lo hi 1 (n:Int) with|(lo,hi)=>pure (lo,(1:Int),B3 lo hi 1)) _ _ s
 rw[lJ lo hi n];show wpAny _ _ (pure (((sIx n 0 lo:Nat):Int),(1:Int),B3 ((sIx n 0 lo:Nat):Int) ((sIx n n hi:Nat):Int) 1)) _ _ s;rw[kJ];exact Ab h
theorem bF(xs:Array Value)(i k:Nat):((Bj k).filterMap λ(m:Nat)=>xs[((i:Int)+(m:Int)*1).toNat]?).toArray=((xs.toList.drop i).take k).toArray:=by
 have e:(λ(m:Nat)=>xs[((i:Int)+(m:Int)*1).toNat]?)=λm=>xs[i+m]?:=by
  funext m;have:((i:Int)+(m:Int)*1).toNat=i+m:=by omega
  rw[this]
 rw[e];have:=pick_run xs i k;rw[B1]at this;have e2:((λx=>xs[x]?)∘λx=>i+x)=λm=>xs[i+m]?:=rfl;rw[e2]at this;rw[this]
theorem tH{lo hi}(ht:IsTup s.heap t items)(hs:s.heap.IsSliceOf sl vl vu .none)(pl:IsPart vl lo)(pu:IsPart vu hi)
 (hw:¬(sIx items.size 0 lo=0/\sIx items.size items.size hi=items.size))
 (h:Q (.ref s.heap.objs.size) {s with heap:=s.heap.push {cls:=.type "tuple",data:=.seq ((items.toList.drop (sIx items.size 0 lo)).take (sIx items.size items.size hi-sIx items.size 0 lo)).toArray}})
 (hsz:items.size<=Au):wpAny (model prog w) A (getItem (.ref t) (.ref sl)) Q E s:=by
 have htake:sizeOk (.seq ((items.toList.drop (sIx items.size 0 lo)).take (sIx items.size items.size hi-sIx items.size 0 lo)).toArray):=by show ((items.toList.drop (sIx items.size 0 lo)).take (sIx items.size items.size hi-sIx items.size 0 lo)).toArray.size<=Au;rw[Aa,BN,D5,CM];omega
 have hj:sIx items.size items.size hi<=items.size:=Vt _ _ (xd _) hi;obtain⟨os,hos,hcs,hds⟩:=id hs;have hTs:s.TypeIs (.ref sl) "slice":=⟨os,hos,hcs⟩;unfold getItem
 try with_reducible refine By ?_
 first|refine dS (Ab ?_)|skip
 refine dS (Ff ht.typeIs (by decide) ?_)
 refine dS (Cc (name:=BG "__getitem__") ht.typeIs AV
  (CJ AV ht.typeIs EC ?_ (EM _ _)))
 show wpAny _ _ (Dk (.ref t) >>= _) _ _ s;refine dS (DZ ht ?_);refine dS (En hTs ?_);rw[if_pos (by decide)]
 refine dS (wz hs pl pu ?_);have hno:¬((((sIx items.size 0 lo:Nat):Int) == 0&&(1:Int) == 1&&(sIx items.size items.size hi-sIx items.size 0 lo) == items.size)=true):=by intro q;rw[cf,cf]at q;have q1:((sIx items.size 0 lo:Nat):Int)=0:=B2 q.1.1;have q2:sIx items.size items.size hi-sIx items.size 0 lo=items.size:=B2 q.2;exact hw ⟨by omega,by omega⟩
 show wpAny _ _ (if (((sIx items.size 0 lo:Nat):Int) == 0&&(1:Int) == 1&&(sIx items.size items.size hi-sIx items.size 0 lo) == items.size)=true then _ else _) _ _ s
 rw[if_neg hno,bF]
 first
  |exact dS (m:=Bn _) (A4 (Ab ⟨_,rfl,Ab h⟩) htake)
  |exact dS (m:=Bn _) (A4 (dS (Ab (Ab ⟨_,rfl,Ab h⟩))) htake)
  |exact dS (dS (m:=Bn _) (A4 (Ab (Ab ⟨_,rfl,Ab h⟩)) htake))
  |exact dS (dS (m:=Bn _) (A4 (Ab ⟨_,rfl,Ab h⟩) htake))
end
end HT
namespace L2
open PySem PySem.Spec PyProof.Rows
abbrev TO:=St->Hp->(Option Int->Hp->Prop)->Prop
def PO(X:Cx)(e:Option Expr)(t:TO):Prop:=
 ∀(pins:List (Addr × Obj)) (s:Shared) (σ:St) (H:Hp) (Q:Option Int->Hp->Prop),Inv X pins σ H s->t σ H Q ->
  wpAny (model X.f X.w) X.A (evalPart e X.a) (λu s'=>∃o H',Inv X pins σ H' s'/\IsPart u o/\Q o H') X.i s
def YK:TO:=λ_ H Q=>Q none H
def Sl(t:TE):TO:=λσ H Q=>t σ H λx H1=>∃i,x=.d i/\Q (some i) H1
section
variable {X:Cx}{e:Expr}{te:TE}{lo hi:Option Expr}{tl th:TO}{pos p2:Pos}
theorem Z5:PO X none YK:=by intro pins s σ H Q I h;rw[evalPart_none];exact Ab ⟨none,H,I,.none,h⟩
theorem Z6(h:PE X e te):PO X (some e) (Sl te):=by intro pins s σ H Q I hw;rw[evalPart_some];refine thn (h pins s σ H _ I hw) λu s1 ⟨x,H1,I1,r1,q1⟩=>?_;obtain⟨i,rfl,q⟩:=q1;obtain⟨t,rfl⟩:=r1;exact⟨some i,H1,I1,.int i t,q⟩
def SlR(X:Cx)(r:V->Option Int->Option Int->Hp->VK->Prop):Prop:=
 ∀(pins:List (Addr × Obj)) (s:Shared) (σ:St) (H:Hp) (x:V) (v vl vu:Value) (lo hi:Option Int) (sl:Addr) (Q:VK),Inv X pins σ H s->RelV x v->s.heap.IsSliceOf sl vl vu .none->IsPart vl lo->IsPart vu hi->r x lo hi H Q ->
  ∃T id,Ft (.type T) "__getitem__"=pure (some (.builtin id))/\s.TypeIs v T/\wpAny (model X.f X.w) X.A (getItem v (.ref sl)) (EP X pins σ Q) X.i s
def tSl(r:V->Option Int->Option Int->Hp->VK->Prop)(te:TE)(tl th:TO):TE:=λσ H Q=>te σ H λx H1=>tl σ H1 λl H2=>th σ H2 λu H3=>r x l u H3 Q
theorem bC(hr:SlR X r)(he:PE X e te)(hl:PO X lo tl)(hu:PO X hi th):PE X (.Subscript e (.Slice lo hi none p2) pos) (tSl r te tl th):=by
 intro pins s σ H Q I h;refine Gj (thn (he pins s σ H _ I h) λv s1 ⟨x,H1,I1,r1,q1⟩=>?_);refine wpAny_Slice (thn (hl pins s1 σ H1 _ I1 q1) λvl s2 ⟨l,H2,I2,pl,q2⟩=>thn (hu pins s2 σ H2 _ I2 q2) λvu s3 ⟨u,H3,I3,pu,q3⟩=>?_);rw[evalPart_none];refine Ab ?_;have I4:Inv X pins σ H3 {s3 with heap:=s3.heap.push {cls:=.type "slice",data:=.fields #[vl,vu,.none]}}:=I3.kept (t':=s3.toks) λb ob q=>nx _ q
 obtain⟨T,id,hT,ht,hg⟩:=hr pins {s3 with heap:=s3.heap.push {cls:=.type "slice",data:=.fields #[vl,vu,.none]}} σ H3 x v vl vu l u s3.heap.objs.size Q I4 r1 (EN ..) pl pu q3
 show wpAny (model X.f X.w) X.A (E3 e (.Slice lo hi none p2) v (.ref s3.heap.objs.size)) (EP X pins σ Q) X.i {s3 with heap:=s3.heap.push {cls:=.type "slice",data:=.fields #[vl,vu,.none]}}
 exact tail_any (ops:=[.ref s3.heap.objs.size,v]) ht hT hg (by with_unfolding_all rfl)
def uQ(xs:List V)(lo hi:Option Int):List V:=(xs.drop (HT.sIx xs.length 0 lo)).take (HT.sIx xs.length xs.length hi-HT.sIx xs.length 0 lo)
theorem sY xs lo hi:(uQ xs lo hi).length<=xs.length:=by unfold uQ;rw[BN,D5];omega
def RV(K:Ag):V->Option Int->Option Int->Hp->VK->Prop:=λx lo hi H Q=>∃a xs,x=.c a/\SqT K H a xs /\
 ¬(HT.sIx xs.length 0 lo=0/\HT.sIx xs.length xs.length hi=xs.length)/\∀p,H p=none->Q (.c p) (upd H p (.c (uQ xs lo hi)))
theorem Vx:SlR X (RV X.K):=by
 intro pins s σ H x v vl vu lo hi sl Q I rx hs pl pu h;obtain⟨a,xs,rfl,hx,hw,q⟩:=h;cases rx;obtain⟨its,r,ht,hz⟩:=I.tuple hx;have hlen:its.toArray.size=xs.length:=by rw[Aa];exact r.length.symm
 refine⟨"tuple",_,AV.lookup,ht.typeIs,?_⟩;refine HT.tH ht hs pl pu (by rw[hlen];exact hw) ?_ (by rw[hlen];exact hz)
 rw[hlen];refine⟨.c s.heap.objs.size,_,I.laid (t':=s.toks) (o:=.c (uQ xs lo hi)) (λb ob q=>nx _ q) (xd _) ?_,rfl,q _ (I.j.fresh (xd _))⟩;exact⟨AE (sY xs lo hi) hz,_,(r.drop (HT.sIx xs.length 0 lo)).take (HT.sIx xs.length xs.length hi-HT.sIx xs.length 0 lo),ux.new _ _⟩
def T9(K:Ag):R2:=λx y H Q=>∃a b xs ys,x=.c a/\y=.c b/\SqT K H a xs/\SqT K H b ys/\xs≠[]/\xs.length+ys.length<=Au /\
 (ys=[]->Q (.c a) H)/\(ys≠[]->∀p,H p=none->Q (.c p) (upd H p (.c (xs++ys))))
theorem Vals.wJ(r:Vals xs us):us=[]↔xs=[]:=by
 cases r with
 |nil=>simp
 |cons _ _=>simp
theorem Zn:OpR X (Bw .Add) (T9 X.K):=by
 intro pins s σ H x y v u Q I rx ry h;obtain⟨a,b,xs,ys,rfl,rfl,ha,hb,hx,hz,q1,q2⟩:=h;cases rx;cases ry;obtain⟨its,r1,p1,_⟩:=I.tuple ha;obtain⟨its2,r2,p2,_⟩:=I.tuple hb;refine HT.aV p1 p2 (λz=>hx (r1.wJ.mp z)) (λz=>⟨.c a,H,I,rfl,q1 (r2.wJ.mp z)⟩) (λz=>?_) (by rw[<-r1.length,<-r2.length];exact hz)
 refine⟨.c s.heap.objs.size,_,I.laid (t':=s.toks) (o:=.c (xs++ys)) (λb ob q=>nx _ q) (xd _) ?_,rfl,q2 (λw=>z (r2.wJ.mpr w)) _ (I.j.fresh (xd _))⟩;exact⟨by rw[Ap];exact hz,_,r1.append r2,ux.new _ _⟩
end
noncomputable def ixN(n:Nat)(i:Int):Option Nat:=if 0<=i then (if i<n then some i.toNat else none) else if -(n:Int)<=i then some (i+n).toNat else none
def atI{α:Type}(xs:List α)(i:Int):Option α:=(ixN xs.length i).bind λj=>xs[j]?
theorem jh(h:ixN n i=some j):seqIndex? i n=some j/\j<n∧-(n:Int)<=i/\i<n:=by
 unfold ixN at h;by_cases h0:0<=i
 . rw[if_pos h0]at h
   by_cases h1:i<n
   . rw[if_pos h1]at h
     have e:i.toNat=j:=AQ h;exact⟨by rw[seqIndex_of h0 h1,e],by omega,by omega,h1⟩
   . rw[if_neg h1]at h;cases h
 . rw[if_neg h0]at h
   by_cases h1:-(n:Int)<=i
   . rw[if_pos h1]at h
     have e:(i+n).toNat=j:=AQ h;exact⟨by rw[seqIndex_neg (by omega) h1,e],by omega,h1,by omega⟩
   . rw[if_neg h1]at h;cases h
theorem oP(h:atI xs i=some v):∃j,seqIndex? i xs.length=some j/\xs[j]?=some v/\j<xs.length∧-(xs.length:Int)<=i/\i<xs.length:=by
 unfold atI at h;cases e:ixN xs.length i with
 |none=>rw[e]at h;cases h
 |some j=>
  rw[e]at h;obtain⟨h1,h2,h3,h4⟩:=jh e;exact⟨j,h1,h,h2,h3,h4⟩
theorem oQ{xs}{j:Nat}{v:α}(h:xs[j]?=some v):atI xs (j:Int)=some v:=by
 have hj:j<xs.length:=(Am.mp h).1;have e:ixN xs.length (j:Int)=some j:=by unfold ixN;rw[if_pos (by omega),if_pos (by omega)];simp
 unfold atI;rw[e];exact h
def jD(b:Expr):Prop:=∀o i,subscripted b false o i=operate [o,i] (getItem o i)
def IxR(X:Cx)(r:R2):Prop:=
 ∀(value slice:Expr) (pins:List (Addr × Obj)) (s:Shared) (σ:St) (H:Hp) (x y:V) (v u:Value) (Q:VK),Inv X pins σ H s->RelV x v->RelV y u->r x y H Q ->
  subscripted slice false v u=operate [v,u] (getItem v u)->wpAny (model X.f X.w) X.A (E3 value slice v u) (EP X pins σ Q) X.i s
def MtR(X:Cx)(id:String)(r:V->List V->Hp->VK->Prop):Prop:=
 ∀(pins:List (Addr × Obj)) (s:Shared) (σ:St) (H:Hp) (x:V) (xs:List V) (v:Value) (us:List Value) (Q:VK),Inv X pins σ H s->RelV x v->Vals xs us->r x xs H Q ->
  wpAny (model X.f X.w) X.A (call (.builtin id) (v::us)) (EP X pins σ Q) X.i s
section
variable {X:Cx}{a b:Expr}{ta tb:TE}{pos:Pos}
theorem IxR.or(h:IxR X r)(h':IxR X r'):IxR X (λx y H Q=>r x y H Q\/r' x y H Q):=by
 intro value slice pins s σ H x y v u Q I rx ry q hs;rcases q with q|q
 . exact h value slice pins s σ H x y v u Q I rx ry q hs
 . exact h' value slice pins s σ H x y v u Q I rx ry q hs
theorem XD(hr:IxR X r)(ha:PE X a ta)(hb:PE X b tb)(hs:jD b):PE X (.Subscript a b pos) (tOp r ta tb):=by intro pins s σ H Q I h;exact Gj (Xp ha hb I h λv u s2 x y H2 I2 rx ry q=>hr a b pins s2 σ H2 x y v u Q I2 rx ry q (hs _ _))
def Vo(K:Ag):R2:=λx y H Q=>∃p xs i v,x=.c p/\y=.d i/\SqL K H p xs/\atI xs i=some v/\Q v H
def SG(K:Ag):R2:=λx y H Q=>∃p xs i v,x=.c p/\y=.d i/\SqT K H p xs/\atI xs i=some v/\Q v H
def SE:R2:=λx y H Q=>∃z i c,x=.e z/\y=.d i/\z.length<=Au/\atI z.cps.toList i=some c/\Q (.e ⟨#[c]⟩) H
theorem jj:IxR X (Vo X.K):=by
 intro value slice pins s σ H x y v u Q I rx ry h hs;obtain⟨p,xs,i,z,rfl,rfl,hq,he,q⟩:=h;cases rx;obtain⟨t,rfl⟩:=ry;obtain⟨its,r,pl,hz⟩:=I.list hq;obtain⟨j,h1,h2,h3,h4,h5⟩:=oP he;obtain⟨w,ew,rw'⟩:=r.get h2;have hl:=r.length;have hn:=uj;have fin:EP X pins σ Q w s:=⟨z,H,I,rw',q⟩;by_cases h0:0<=i
 . have hj:i.toNat=j:=by rw[seqIndex_of h0 h5]at h1;exact AQ h1
   exact item_listR pl.isList h0 (by omega) (by rw[hj];simpa using ew) fin hs
 . have hj:(i+(its.toArray.size:Int)).toNat=j:=by
    rw[seqIndex_neg (by omega) h4]at h1
    rw[Aa,<-hl];exact AQ h1
   exact subscriptTail_builtinR (x:=w) pl.isList.typeIs Fg.lookup
    (wpAny_getItem_list_neg (Q:=λr s'=>r=w/\EP X pins σ Q r s') pl.isList (by omega) (by rw[Aa]<;>omega) (by omega) (by rw[hj];simpa using ew) ⟨rfl,fin⟩) hs
theorem WM:IxR X (SG X.K):=by
 intro value slice pins s σ H x y v u Q I rx ry h hs;obtain⟨p,xs,i,z,rfl,rfl,hq,he,q⟩:=h;cases rx;obtain⟨t,rfl⟩:=ry;obtain⟨its,r,pl,hz⟩:=I.tuple hq;obtain⟨j,h1,h2,h3,h4,h5⟩:=oP he;obtain⟨w,ew,rw'⟩:=r.get h2;have hl:=r.length;have hn:=uj;have fin:EP X pins σ Q w s:=⟨z,H,I,rw',q⟩;exact subscriptTail_builtinR (x:=w) pl.typeIs slot_tuple_getitem.lookup
  (getItem_tuple (j:=j) (Q:=λr s'=>r=w/\EP X pins σ Q r s') pl (by omega) (by omega) (by rw[Aa,<-hl];exact h1) (by simpa using ew) ⟨rfl,fin⟩) hs
theorem WL:IxR X SE:=by
 intro value slice pins s σ H x y v u Q I rx ry h hs;obtain⟨z,i,c,rfl,rfl,hz,he,q⟩:=h;obtain⟨t,rfl⟩:=rx;obtain⟨t',rfl⟩:=ry;obtain⟨j,h1,h2,h3,h4,h5⟩:=oP he;have hl:z.cps.toList.length=z.length:=by simp[Str.length]
 rw[hl]at h1 h4 h5;have hn:=uj;exact tail_any (typeIs_str s z t) slot_str_getitem.lookup (getItem_str (c:=c) (by
  have e1:decide (i < -(2 ^ 63:Int))=false:=decide_eq_false (by omega)
  have e2:decide (i ≥ 2 ^ 63)=false:=decide_eq_false (by omega)
  rw[e1,e2,Bool.or_false]) (by rw[h1];simpa using h2) ⟨.e ⟨#[c]⟩,H,I.tok _,⟨_,rfl⟩,q⟩) hs
def rIx(K:Ag):R2:=λx y H Q=>Vo K x y H Q\/SG K x y H Q\/SE x y H Q
theorem WK:IxR X (rIx X.K):=jj.or (WM.or WL)
theorem lu(its:List Value)n j u:Fu (·.setIfInBounds j u) {cls:=.type "list",data:=.seq its.toArray n}={cls:=.type "list",data:=.seq (its.set j u).toArray n}:=by simp[Fu]
theorem Inv.lst{pins:List (Addr × Obj)}{σ:St}{H:Hp}{s:Shared}{p:Addr}{xs:List V}(I:Inv X pins σ H s)(h:H p=some (.b xs)) :
 ∃(its:List Value) (n:Nat),Vals xs its/\s.heap.get? p=some {cls:=.type "list",data:=.seq its.toArray n}/\xs.length<=Au:=by
 obtain⟨z,its,n,r,e⟩:=I.j p _ h;exact⟨its,n,r,e,z⟩
theorem Inv.W4{its its':List Value}(I:Inv X pins σ H s)(h:H p=some (.b xs))
 (ho:s.heap.get? p=some {cls:=.type "list",data:=.seq its.toArray n}) (hf:f {cls:=.type "list",data:=.seq its.toArray n}={cls:=.type "list",data:=.seq its'.toArray n'}) (r:Vals ys its') (hz:ys.length<=Au) t :
 Inv X pins σ (upd H p (.b ys)) {s with heap:=s.heap.update p f,toks:=t}:=by
 have e:(s.heap.update p f).get? p=some {cls:=.type "list",data:=.seq its'.toArray n'}:=by rw[Ct f ho (by rw[hf]<;>rfl),hf]
 refine I.write (x:=p) (e:=p) (by rw[h];trivial) (.inl rfl) (λb u hb q=>(Bk _ _ (A9 hb)).trans q) ⟨_,e⟩ ?_
 exact⟨hz,its',n',r,e⟩
def XH:V->V->V->Hp->(Hp->Prop)->Prop:=λo i v H Q=>∃p xs k j,o=.c p/\i=.d k/\H p=some (.b xs)/\ixN xs.length k=some j/\Q (upd H p (.b (xs.set j v)))
theorem set_list:UN X XH:=by
 intro pins s σ H o i v ov iv u Q I ro ri rv h;obtain⟨p,xs,k,j,rfl,rfl,hp,hj,q⟩:=h;cases ro;obtain⟨t,rfl⟩:=ri;obtain⟨its,n,r,ho,hz⟩:=I.lst hp;obtain⟨h1,h2,h3,h4⟩:=jh hj;have hl:=r.length;have hn:=uj;have I':Inv X pins σ (upd H p (.b (xs.set j v))) {s with heap:=s.heap.update p (Fu (·.setIfInBounds j u))}:=
  I.W4 hp ho (lu its n j u) (r.set rv j) (by rw[AL];exact hz) s.toks
 by_cases h0:0<=k
 . have hk:k.toNat=j:=by rw[seqIndex_of h0 h4]at h1;exact AQ h1
   exact PySem.W.ki_setAt ho h0 (by omega) (by rw[Aa,<-hl];exact h4) (by rw[hk];exact⟨_,I',q⟩)
 . have hk:(k+(its.toArray.size:Int)).toNat=j:=by
    rw[seqIndex_neg (by omega) h3]at h1
    rw[Aa,<-hl];exact AQ h1
   exact PySem.W.ki_setBack ho (by omega) (by rw[Aa,<-hl];exact h3) (by omega) (by rw[hk];exact⟨_,I',q⟩)
theorem nU lo hi n:(Br lo hi none n).1=((HT.sIx n 0 lo:Nat):Int)/\(Br lo hi none n).2.1=((HT.sIx n n hi:Nat):Int)/\(Br lo hi none n).2.2=1:=by
 refine⟨?_,?_,rfl⟩
 . cases lo with
   |none=>simp[Br,HT.sIx]
   |some i=>
    simp only[Br,HT.sIx,FA,show (1:Int) > 0 by decide,if_true]
    by_cases h:i<0
    . simp only[h,if_true]<;>omega
    . simp only[h,if_false]<;>omega
 . cases hi with
   |none=>simp[Br,HT.sIx]
   |some i=>
    simp only[Br,HT.sIx,FA,show (1:Int) > 0 by decide,if_true]
    by_cases h:i<0
    . simp only[h,if_true]<;>omega
    . simp only[h,if_false]<;>omega
theorem q0(its:List Value)lo hi:GA its.toArray lo hi none=((its.drop (HT.sIx its.length 0 lo)).take (HT.sIx its.length its.length hi-HT.sIx its.length 0 lo)).toArray:=by obtain⟨h1,h2,h3⟩:=nU lo hi its.toArray.size;unfold GA;rw[h1,h2,h3];simp only[sliceRange_one,pick_run,Aa]<;>rfl
def RU(K:Ag):V->Option Int->Option Int->Hp->VK->Prop:=λx lo hi H Q=>∃a xs,x=.c a/\SqL K H a xs/\∀p,H p=none->Q (.c p) (upd H p (.b (uQ xs lo hi)))
theorem YD:SlR X (RU X.K):=by
 intro pins s σ H x v vl vu lo hi sl Q I rx hs pl pu h;obtain⟨a,xs,rfl,hx,q⟩:=h;cases rx;obtain⟨its,r,ht,hz⟩:=I.list hx;have hlen:=r.length;refine⟨"list",_,Fg.lookup,ht.isList.typeIs,?_⟩;refine FC ht.isList hs pl pu .none (by simp) ?_ (by rw[Aa]<;>omega)
 rw[q0,<-hlen];refine⟨.c s.heap.objs.size,_,I.laid (t':=s.toks) (o:=.b (uQ xs lo hi)) (λb ob q=>nx _ q) (xd _) ?_,rfl,q _ (I.j.fresh (xd _))⟩;exact⟨AE (sY xs lo hi) hz,_,0,(r.drop (HT.sIx xs.length 0 lo)).take (HT.sIx xs.length xs.length hi-HT.sIx xs.length 0 lo),Aq _ rfl⟩
noncomputable def wI:V->Bool
 |.g=>true
 |.f _=>true
 |.d _=>true
 |.e _=>true
 |_=>false
noncomputable def eqV:V->V->Bool
 |.g,.g=>true
 |.f a,.f b=>a == b
 |.f a,.d b=>(if a then 1 else 0) == b
 |.d a,.f b=>a == (if b then 1 else 0)
 |.d a,.d b=>a == b
 |.e a,.e b=>a == b
 |_,_=>false
theorem WB(ry:RelV y u)(rx:RelV x v)(fy:wI y=true)(fx:wI x=true):Bi A s u v (eqV y x):=by
 cases y with
 |g=>
  cases ry;cases x with
  |g=>cases rx;exact Bi.same _
  |f b=>cases rx;exact Bi.none_bool b
  |d b=>obtain⟨t,rfl⟩:=rx;exact Bi.none_int b t
  |e b=>obtain⟨t,rfl⟩:=rx;exact Bi.none_str b t
  |_=>exact absurd (show false=true from fx) Aj
 |f a=>
  cases ry;cases x with
  |g=>cases rx;exact Bi.bool_none a
  |f b=>cases rx;exact Bi.bool_bool a b
  |d b=>obtain⟨t,rfl⟩:=rx;exact Bi.bool_int a b t
  |e b=>obtain⟨t,rfl⟩:=rx;exact Bi.bool_str a b t
  |_=>exact absurd (show false=true from fx) Aj
 |d a=>
  obtain⟨t',rfl⟩:=ry;cases x with
  |g=>cases rx;exact Bi.int_none a t'
  |f b=>cases rx;exact Bi.int_bool a t' b
  |d b=>obtain⟨t,rfl⟩:=rx;exact Bi.int_int a t' b t
  |e b=>obtain⟨t,rfl⟩:=rx;exact Bi.int_str a t' b t
  |_=>exact absurd (show false=true from fx) Aj
 |e a=>
  obtain⟨t',rfl⟩:=ry;cases x with
  |g=>cases rx;exact Bi.str_none a t'
  |f b=>cases rx;exact Bi.str_bool a t' b
  |d b=>obtain⟨t,rfl⟩:=rx;exact Bi.str_int a t' b t
  |e b=>obtain⟨t,rfl⟩:=rx;exact Bi.str_str a t' b t
  |_=>exact absurd (show false=true from fx) Aj
 |_=>exact absurd (show false=true from fy) Aj
def eqU(x:V)(u:Value):Bool:=match u with
 |.none=>eqV .g x
 |.bool b=>eqV (.f b) x
 |.int i _=>eqV (.d i) x
 |.str z _=>eqV (.e z) x
 |_=>false
theorem lT(r:RelV y u)(f:wI y=true):eqU x u=eqV y x:=by
 cases y with
 |g=>cases r;rfl
 |f b=>cases r;rfl
 |d i=>obtain⟨t,rfl⟩:=r;rfl
 |e z=>obtain⟨t,rfl⟩:=r;rfl
 |_=>exact absurd (show false=true from f) Aj
theorem tK(rx:RelV x v)(fx:wI x=true):∀{xs} {us},Vals xs us->xs.all wI=true->∀u∈us,Bi A s u v (eqU x u)
 |_,_,.nil,_=>λu hu=>by cases hu
 |y::xs,u::us,.cons r t,f=>λu' hu=>by
  rw[Cw,cf]at f;rcases Ak.mp hu with rfl|hu
  . rw[lT r f.1];exact WB r rx f.1 fx
  . exact tK rx fx t f.2 u' hu
theorem oS:yB X (.builtin "len") (λxs H Q=>∃p ys,xs=[.c p]/\(SqL X.K H p ys\/SqT X.K H p ys)/\Q (.d ys.length) H):=by
 intro pins s σ H xs us Q I r h;obtain⟨p,ys,rfl,hq,q⟩:=h;obtain⟨u,rfl,rx⟩:=vals1 r;cases rx;have hn:=uj;rcases hq with hq|hq
 . obtain⟨its,r',pl,hz⟩:=I.list hq
   have hlen:=r'.length;exact Calls.call_len_list pl.isList (by simp only[Aa]<;>omega) ⟨.d ys.length,H,I.tok _,⟨s.toks+1,by rw[Aa,hlen]⟩,q⟩
 . obtain⟨its,r',pl,hz⟩:=I.tuple hq
   have hlen:=r'.length;exact len_tuple pl (by simp only[Aa]<;>omega) ⟨.d ys.length,H,I.tok _,⟨s.toks+1,by rw[Aa,hlen]⟩,q⟩
theorem oU:yB X (.builtin "len") (λxs H Q=>∃z,xs=[.e z]/\z.length<=Au/\Q (.d z.length) H):=by intro pins s σ H xs us Q I r h;obtain⟨z,rfl,hz,q⟩:=h;obtain⟨u,rfl,t,rfl⟩:=vals1 r;have hn:=uj;exact len_str (by omega) ⟨.d z.length,H,I.tok _,⟨_,rfl⟩,q⟩
theorem oV:yB X (.type "list") (λxs H Q=>∃p ys,xs=[.c p]/\(SqL X.K H p ys\/SqT X.K H p ys)/\∀l,H l=none->Q (.c l) (upd H l (.b ys))):=by
 intro pins s σ H xs us Q I r h;obtain⟨p,ys,rfl,hq,q⟩:=h;obtain⟨u,rfl,rx⟩:=vals1 r;cases rx;have fin:∀(its:List Value),Vals ys its->ys.length<=Au->∀(h':Heap) (c':Nat),(∀b o',s.heap.get? b=some o'->h'.get? b=some o') ->
  h'.get? s.heap.objs.size=some {cls:=.type "list",dict:=none,data:=.seq its.toArray c',slots:=#[]}->EP X pins σ Q (.ref s.heap.objs.size) {s with heap:=h'}:=λits r' hz h' c' kp e=>
  ⟨.c s.heap.objs.size,_,I.laid (t':=s.toks) kp (xd _) (show zt X.f X.w _ h' _ (.b ys) from ⟨hz,its,c',r',e⟩),rfl,q _ (I.j.fresh (xd _))⟩
 rcases hq with hq|hq
 . obtain⟨its,r',pl,hz⟩:=I.list hq
   have hlen:=r'.length;obtain⟨o,ho,hc,n,hd⟩:=pl.isList;exact call_list_seq p (.inl rfl) ho hc hd (λh' c' kp e=>fin its r' hz h' c' kp e) (by simp only[Aa]<;>omega)
 . obtain⟨its,r',pl,hz⟩:=I.tuple hq
   have hlen:=r'.length;obtain⟨o,ho,hc,n,hd⟩:=pl;exact call_list_seq p (.inr rfl) ho hc hd (λh' c' kp e=>fin its r' hz h' c' kp e) (by simp only[Aa]<;>omega)
theorem uW:yB X (.type "tuple") (λxs H Q=>∃p ys,xs=[.c p]/\((SqL X.K H p ys/\∀l,H l=none->Q (.c l) (upd H l (.c ys)))\/(SqT X.K H p ys/\Q (.c p) H))):=by
 intro pins s σ H xs us Q I r h;obtain⟨p,ys,rfl,h⟩:=h;obtain⟨u,rfl,rx⟩:=vals1 r;cases rx;rcases h with⟨hq,q⟩|⟨hq,q⟩
 . obtain⟨its,r',pl,hz⟩:=I.list hq
   have hlen:=r'.length;refine call_tuple_list pl.isList (λh' kp=>?_) (by simp only[Aa]<;>omega)
   have I1:Inv X pins σ H {s with heap:=h'}:=I.kept (t':=s.toks) kp
   have I2:Inv X pins σ (upd H h'.objs.size (.c ys)) {s with heap:=h'.push {cls:=.type "tuple",data:=.seq its.toArray}}:=
    I1.laid (t':=s.toks) (λb o e=>nx _ e) (xd _) (show zt X.f X.w _ _ _ (.c ys) from ⟨hz,its,r',ux.new _ _⟩)
   exact⟨.c h'.objs.size,_,I2,rfl,q _ (I1.j.fresh (xd _))⟩
 . obtain⟨its,r',pl,hz⟩:=I.tuple hq
   exact call_tuple_same pl ⟨.c p,H,I,rfl,q⟩
def tyV(K:Ag)(T:String)(x:V)(H:Hp):Prop:=match x with
 |.e _=>T="str"
 |.d _=>T="int"
 |.c p=>(T="list"/\∃xs,SqL K H p xs)\/(T="tuple"/\∃o,K.lookup p=some o/\o.cls=.type "tuple"/\o.dict=none) \/
  (T="dict"/\((∃kvs,H p=some (.i kvs))\/∃kvs,H p=some (.k kvs)))\/(T="set"/\∃S n,H p=some (.l S n))
 |_=>False
theorem UG(I:Inv X pins σ H s)(r:RelV x v)(ty:tyV X.K T x H) :
 s.TypeIs v T/\∀a,v=.ref a->∃ob,s.heap.get? a=some ob/\ob.dict=none:=by
 cases x with
 |e z=>
  obtain⟨t,rfl⟩:=r;cases (show T="str" from ty);exact⟨typeIs_str s z t,λ_ e=>nomatch e⟩
 |d i=>
  obtain⟨t,rfl⟩:=r;cases (show T="int" from ty);exact⟨CT s i t,λ_ e=>nomatch e⟩
 |c p=>
  cases r;rcases ty with⟨rfl,xs,hq⟩|⟨rfl,o,hk,hc,hd⟩|⟨rfl,hk⟩|⟨rfl,S,n,hk⟩
  . obtain⟨its,_,pl,_⟩:=I.list hq
    refine⟨pl.isList.typeIs,λa e=>?_⟩;cases e;obtain⟨o,n,e,c,hd,_⟩:=pl;exact⟨o,e,hd⟩
  . refine⟨⟨o,I.kIn p o hk,hc⟩,λa e=>?_⟩
    cases e;exact⟨o,I.kIn _ o hk,hd⟩
  . have z:∃o,s.heap.get? p=some o/\o.ExactDict:=by
     rcases hk with⟨kvs,hk⟩|⟨kvs,hk⟩
     . obtain⟨_,_,_,_,o,_,_,e,ex,_⟩:=I.j p _ hk
       exact⟨o,e,ex⟩
     . obtain⟨_,_,_,_,o,_,_,e,ex,_⟩:=I.j p _ hk
       exact⟨o,e,ex⟩
    obtain⟨o,e,ex⟩:=z;refine⟨⟨o,e,ex.1⟩,λa e2=>?_⟩;cases e2;exact⟨o,e,ex.2.1⟩
  . obtain⟨o,_,_,_,e,ex,_⟩:=I.j p _ hk
    refine⟨⟨o,e,ex.1⟩,λa e2=>?_⟩;cases e2;exact⟨o,e,ex.2.1⟩
 |_=>exact AA ty
def tBM(K:Ag)(T:String)(r:V->List V->Hp->VK->Prop)(to:TE)(t:TA):TE:=λσ H Q=>to σ H λx H1=>tyV K T x H1/\t σ H1 λxs H2=>r x xs H2 Q
variable {o e:Expr}{es:List Expr}{to:TE}{t:TA}{name:Str}{apos cpos:Pos}{T id:String}{r:V->List V->Hp->VK->Prop}
theorem cg(pa:PlainAttrs T)(slot:Slot T name id)(hty:typeOf (.builtin id)=pure (.type "method_descriptor"))(hm:MtR X id r)(ho:PE X o to)(ha:PA X (e::es) t)
 (hbase:CN o name X.a (eval o X.a)=eval o X.a:=by rfl)
 (hfew:((backTo cpos (AD (e::es) X.a)).all (λx=>!x.1)&&(Fx cpos (DU [] X.a)).all (λx=>x.1.isSome)
  && decide ((e::es).length+([]:List Keyword).length+(if ([]:List Keyword).isEmpty then 0 else 1)<30))=true:=by rfl)
 (hline:(apos.endLine == cpos.line)=true:=by rfl) (hs:AD (e::es) X.a=(false,eval e X.a)::AD es X.a:=by rfl) (hplain:(backTo cpos (AD es X.a)).any (·.1)=false:=by rfl) :
 PE X (.Call (.Attribute o name apos) (e::es) [] cpos) (tBM X.K T r to t):=by
 intro pins s σ H Q I h;refine wpAny_Call_method_late hbase hfew hline rfl (thn (ho pins s σ H _ I h) λv s1 ⟨x,H1,I1,r1,ty,q1⟩=>?_);obtain⟨h1,h2⟩:=UG I1 r1 ty;refine⟨T,id,pa,slot,hty,h1,h2,?_⟩;have hA:=ha cpos pins s1 σ H1 _ I1 q1;rw[hs]at hA ⊢;refine Calls.callWith_builtin (by show (false||(backTo cpos (AD es X.a)).any (·.1))=false;rw[hplain]<;>rfl) (Eo ?_)
 exact thn hA λus s2 ⟨vs,H2,I2,r2,q2⟩=>hm pins s2 σ H2 x vs v us Q I2 r1 r2 q2
/- xs.append(e),list.index on a module's tuple .. are MtR facts of 06m -/
end
def MtM(X:Cx)(id:String)(r:V->List V->Hp->VK->Prop):Prop:=
 ∀(pins:List (Addr × Obj)) (s:Shared) (σ:St) (H:Hp) (x:V) (xs:List V) (v:Value) (us:List Value) (Q:VK),Inv X pins σ H s->RelV x v->Vals xs us->r x xs H Q ->
  wpAny (model X.f X.w) X.A (call (.builtin id) (v::us)) (EP X pins σ Q) X.i s
theorem Vals.one:∀{x} {us},Vals [x] us->∃u,us=[u]/\RelV x u
 |_,_,.cons r .nil=>⟨_,rfl,r⟩
theorem Vals.rep(h:Vals xs us):∀k:Nat,Vals (Al k xs).flatten (Al k us).flatten
 |0=>.nil
 |k+1=>by rw[BI,BI,Ca,Ca];exact Vals.append h (Vals.rep h k)
theorem foldl_rep its:∀k (acc:List Value),
 DH (λx1 x2=>x1++x2) acc.toArray (Al k its.toArray)=(acc++(Al k its).flatten).toArray
 |0,acc=>by simp
 |k+1,acc=>by
  have e:acc.toArray++its.toArray=(acc++its).toArray:=by simp
  have e2:(acc++its)++(Al k its).flatten=acc++(Al (k+1) its).flatten:=by rw[BI,Ca,Bx]
  rw[<-e2,<-foldl_rep its k (acc++its),<-e,BI,List.foldl_cons]
section
variable {X:Cx}{pins:List (Addr × Obj)}{σ:St}{H:Hp}{s:Shared}{l b:Addr}{xs ys zs:List V}
theorem Inv.RH{its its':List Value}(I:Inv X pins σ H s)(hH:H l=some (.b xs))
 (e:s.heap.get? l=some {cls:=.type "list",data:=.seq its.toArray n}) (hf:f its.toArray=its'.toArray) (hv:Vals ys its') (hz:ys.length<=Au) :
 Inv X pins σ (upd H l (.b ys)) {s with heap:=s.heap.update l (Fu f),toks:=t'}:=by
 have q:=PySem.IsL.update e f;rw[hf]at q;refine I.write (x:=l) (e:=l) (by rw[hH];exact trivial) (.inl rfl) (λb' u hb hu=>(Bk s.heap (Fu f) (A9 hb)).trans hu) ⟨_,q⟩ ?_
 exact⟨hz,its',_,hv,q⟩
theorem Inv.U9(I:Inv X pins σ H s)(hv:Vals ys its)(hz:ys.length<=Au) :
 Inv X pins σ (upd H s.heap.objs.size (.b ys)) {s with heap:=s.heap.push {cls:=.type "list",data:=.seq its.toArray},toks:=t'}:=
 I.laid (λ_ _ q=>nx _ q) (xd _) ⟨hz,its,0,hv,Aq _ rfl⟩
theorem Inv.fresh(I:Inv X pins σ H s):H s.heap.objs.size=none:=I.j.fresh (xd _)
theorem Inv.Zc(I:Inv X pins σ H s)(hH:H l=some (.b xs)):xs.length<=Au/\∃its n,Vals xs its/\xs.length=its.length/\s.heap.get? l=some {cls:=.type "list",data:=.seq its.toArray n}:=by obtain⟨z,its,n,r,e⟩:=I.j l _ hH;exact⟨z,its,n,r,r.length,e⟩
theorem cA(h:n<=Au):Dy n=false:=by unfold Dy;exact decide_eq_false (by omega)
end
section
variable {X:Cx}
def jz:V->List V->Hp->VK->Prop:=λx vs H Q=>∃l xs y,x=.c l/\vs=[y]/\H l=some (.b xs)/\xs.length<Au/\Q .g (upd H l (.b (xs++[y])))
theorem pT:MtM X "list.append" jz:=by
 intro pins s σ H x vs v us Q I rx rv h;obtain⟨l,xs,y,rfl,rfl,hH,hz,q⟩:=h;cases rx;obtain⟨u,rfl,ru⟩:=rv.one;obtain⟨z,its,n,r,hl,e⟩:=I.Zc hH;refine BK F.slot_list_append ⟨_,e,rfl⟩ F.entry_list_append (F.args_list_append_2 _ _) (PySem.list_append l its.toArray n u (by rw[Aa];omega)) ⟨e,?_⟩
 refine⟨.g,_,I.RH (its':=its++[u]) hH e (by simp) (r.append (.cons ru .nil)) ?_,rfl,q⟩
 rw[Ap,BA];omega
def Z8:R2:=λx y H Q=>∃l b xs zs,x=.c l/\y=.c b/\H l=some (.b xs)/\H b=some (.b zs)/\xs.length+zs.length<=Au/\∀p,H p=none->Q (.c p) (upd H p (.b (xs++zs)))
theorem kD:OpR X (Bw .Add) Z8:=by
 intro pins s σ H x y v u Q I rx ry h;obtain⟨l,b,xs,zs,rfl,rfl,hH,hB,hz,q⟩:=h;cases rx;cases ry;obtain⟨z,its,n,r,hl,e⟩:=I.Zc hH;obtain⟨z2,its2,n2,r2,hl2,e2⟩:=I.Zc hB;refine PySem.P.add_list e e2 ?_ (by rw[Aa,Aa];omega)
 have ea:its.toArray++its2.toArray=(its++its2).toArray:=by simp
 rw[ea];exact⟨.c _,_,I.U9 (t':=s.toks) (r.append r2) (by rw[Ap];omega),rfl,q _ I.fresh⟩
def RR:R2:=λx y H Q=>∃l k xs,x=.c l/\y=.d k/\H l=some (.b xs)∧-(2 ^ 63)<=k/\k<2 ^ 63/\xs.length*k.toNat<=Au /\
 ∀p,H p=none->Q (.c p) (upd H p (.b (Al k.toNat xs).flatten))
theorem len_rep{α:Type}(xs:List α)k:(Al k xs).flatten.length=k*xs.length:=by
 induction k with
 |zero=>simp
 |succ k ih=>rw[BI,Ca,Ap,ih,Nat.succ_mul,Nat.add_comm]
theorem VE:OpR X (Bw .Mult) RR:=by
 intro pins s σ H x y v u Q I rx ry h;obtain⟨l,k,xs,rfl,rfl,hH,h1,h2,hz,q⟩:=h;cases rx;obtain⟨t,rfl⟩:=ry;obtain⟨z,its,n,r,hl,e⟩:=I.Zc hH;have hlen:its.toArray.size*k.toNat<=Au:=by rw[Aa,<-hl];exact hz
 have hcap:¬its.toArray.size*k.toNat > (2 ^ 63-1)/8:=by
  have:(Au:Nat)<=(2 ^ 63-1)/8:=by decide
  omega
 have hfit:¬(!Builtin.List.listFitsIndex k)=true:=by rw[fitsIndex_both h1 h2];exact Aj
 have hlong:¬Dy (its.toArray.size*k.toNat)=true:=by rw[cA hlen];exact Aj
 have hnew:DH (λx1 x2=>x1++x2) #[] (Al (if its.toArray.isEmpty=true then 0 else k.toNat) its.toArray)=(Al k.toNat its).flatten.toArray:=by
  have f0:∀m:Nat,DH (λx1 x2=>x1++x2) #[] (Al m its.toArray)=(Al m its).flatten.toArray:=λm=>by have:=foldl_rep its m [];rw[Ds]at this;exact this
  rw[f0];cases its with
  |nil=>simp
  |cons a r'=>rw[if_neg (by simp)]
 refine CB (T:="list") (U:="int") (by decide) ⟨_,e,rfl⟩ (λs'=>CT s' k t) noFill_list_mul Ep B7 repeat_list D6.lookup
  (BK B7 (CT s k t) D7 (DR _ _) (int___rmul___int_list k t l its.toArray n)
   ⟨e,rfl,⟨_,e,rfl⟩,BK F.slot_list_mul ⟨_,e,rfl⟩ F.entry_list_mul (F.args_list_mul_2 _ _) (AutoListH.list___mul___list_int_3 l its.toArray n k t hfit hcap hlong) ⟨e,?_⟩⟩)
 rw[hnew];exact⟨.c _,_,I.U9 (t':=s.toks) (r.rep k.toNat) (by rw[len_rep,Nat.mul_comm];exact hz),rfl,q _ I.fresh⟩
end
end L2
namespace Att
open PySem PySem.W PySem.Calls PyProof.Rows
theorem sr:∀ns vs,WellAll P h vs (ns.map WData.int)->IntsAre vs ns:=by
 intro ns;induction ns with
 |nil=>
  intro vs w;rw[List.map_nil]at w;cases w;exact .nil
 |cons n ns ih=>
  intro vs w;rw[A7]at w;cases w with
  |cons a b=>
   cases a;exact .cons _ _ (ih _ b)
theorem gm{l:OpenLaw}(hn:l.most=some n)
 (hpre:l.row.toRowW.claim.pre args=true) (hwl:WellAll P h vals args) :
 ∃a vs ns,vals=[A0 a]/\args=[WData.list (ns.map WData.int)]/\h.get? a=some {cls:=.type "list",data:=.seq vs.toArray}/\IntsAre vs ns/\ns.length<=n:=by
 have hsh:WShape.hasAll [] args [.list .int]=true:=(pre_splitW hpre).1;have hc:l.pre.holds [] {args:=args}=true:=(pre_splitW hpre).2;obtain⟨d,r,rfl,h1,h2⟩:=hasAllW_cons hsh;obtain rfl:=hasAllW_nil h2;obtain⟨xs,rfl,h3⟩:=hasW_list h1;obtain⟨ns,rfl⟩:=items_int h3;have hlen:ns.length<=n:=by
  unfold OpenLaw.pre at hc;have h4:(WTm.not (.lt (.lit (.int (n:Int))) (.len (.arg 0)))).holds [] {args:=[.list (ns.map .int)]}=true:=by have h4:=(holds_andW hc).1;rw[hn]at h4;exact h4
  have h5:=condW_of h4 (w_not (w_lt w_lit (w_len_list (w_arg rfl))));rw[Ai]at h5;refine Nat.le_of_not_lt λq=>?_;have q':(n:Int)<((ns.length:Nat):Int):=by omega
  first
   |(rw[decide_eq_true q']at h5;exact absurd h5 (by decide))
   |(simp at h5;omega)
 cases hwl with
 |cons w1 w2=>
  cases w2;cases w1 with
  |list ho hall=>exact⟨_,_,ns,rfl,rfl,ho,sr ns _ hall,hlen⟩
theorem gg(l:OpenLaw)args:l.row.toRowW.claim.post args (.bool true) args=true:=
 postW_of (r:=l.row.toRowW) (X:=(true == true))
  (show WShape.has [] (.bool true) .bool=true by first|rfl|decide|simp[WShape.has,WShape.arms,WShape.armsAll])
  (show (WTm.eq .res (.lit (.bool true))).value [] {args:=args,res:=some (.bool true),after:=args}=some (.bool (true == true)) from w_eq_bool (w_res rfl) w_lit) rfl
theorem nu{l:OpenLaw}
 (hn:l.most=some n) (hdf:d.params.defaults=[])
 (call:∀w s₀ s₁ mg mb fa o pm cd doc a vs ns,
  Ground q loose [] XP w s₀ mg mb s₁.heap->YP w s₁.heap ->
  s₁.heap.get? fa=some o->o.data=.func (docDef d.name d.params d.body d.scope pm cd doc)->s₁.heap.CodeRec cd d.name->mg d.name=some (.ref fa) ->
  s₁.heap.get? a=some {cls:=.type "list",data:=.seq vs.toArray}->IntsAre vs ns->ns.length<=n->s₁.gens=#[] ->
  codeAny (model l.prog w) callerA (.call (.ref fa) ⟨[.ref a],[]⟩) (λr s'=>r=.ok (.ret (.bool true))/\OldK s₁.heap s'.heap/\s'.os=s₁.os/\AllBare s'.gens) s₁) :
 WalkO q loose XP YP l.row.toRowW d [] (λf vs=>PySem.call f vs):=by
 intro w s₀ s₁ mg mb G Y fa o pm cd doc dV kV ho hd hcd hD hmg hg args vals as hpre hlay hrd hwl hlo;obtain rfl:dV=.none:=Dflts.none hD hdf;obtain rfl:kV=.none:=Dflts.noKw hD;obtain⟨a,vs,ns,rfl,rfl,hobj,hints,hlen⟩:=gm hn hpre hwl;refine enter_call (C6 (call w s₀ s₁ mg mb fa o pm cd doc a vs ns G Y ho (fd_plain hd) hcd hmg hobj hints hlen hg) λr s' hq=>?_);obtain⟨rfl,h2,h3,h4⟩:=hq;exact⟨.inl ⟨.bool true,.bool true,[],rfl,λ_=>rfl,.bool true,gg l _,λ_=>⟨Fh,λ_ hm=>(nomatch hm)⟩⟩,h2,h3,h4⟩
end Att
namespace L2
open PySem PySem.Spec PyProof.Rows
theorem oI:∀{vs} {ns},IntsAre vs ns->Vals (ns.map V.d) vs
 |_,_,.nil=>.nil
 |_,_,.cons n t h=>.cons ⟨t,rfl⟩ (oI h)
end L2
/- THE LAST THEOREM (shape;LID,My.* are yours):
   My.Adr: a structure of the addresses that your layer names (classes,functions);My.Txt K t: a structure (Prop) of the equations over K;
   My.txt_mk:{K} {implicit addresses ..} (e1:nsIn K AJ "law"=some (some (.ref f))) (e2:K.lookup f=some ⟨oc,od,.func (fnOf "law" "law" params body scope dV kV doc pm an cdv ct),sl⟩) (e3:codeIn K cdv "law"=true) ..:∃t,My.Txt K t
(the tactic k_is has no namespace: write k_is) -/
namespace L2
open PySem PySem.Spec PyProof.Rows
noncomputable def xU(s:Stmt):D9:=match s with
 |.FunctionDef _ a _ _ _ _ _ _ _ _=>a
 |_=>{posonlyargs:=[],args:=[],vararg:=none,kwonlyargs:=[],kw_defaults:=[],kwarg:=none,defaults:=[]}
noncomputable def yR(s:Stmt):List Stmt:=match s with
 |.FunctionDef _ _ b _ _ _ _ _ _ _=>b
 |_=>[]
noncomputable def zG(s:Stmt):Scope:=match s with
 |.FunctionDef _ _ _ _ _ _ sc _ _ _=>sc
 |_=>{kind:=.function,names:=[],isGenerator:=false,isCoroutine:=false}
abbrev CX0:CXT:=λ_ _ _ _ _ _=>False
abbrev E0:XK:=λ_ _ _=>False
theorem XB:Passes CX0 X E0:=λ_ _ _ _ _ _ _ h=>h.elim
structure Fun(K:Ag)(x qual:Str)(st:Stmt)(f:Addr)(fd:BM):Prop where
 a:∃(oc:Value) (od:Option Addr) (kV doc pm:Value) (an:Option Addr) (cdv ct:Value) (osl:Array (Option Value)),
  fd=BE x qual (xU st) (yR st) (zG st) .none kV doc pm an cdv ct/\K.lookup f=some ⟨oc,od,.func fd,osl⟩/\BQ K cdv qual=true
 b:B0 K (.ref f)=true
section
variable {P:Program}{w:World}{K:Ag}{mg:Str->Option Value}{base:Heap}
theorem Fun.binds{st}{ps:List Str}(F:Fun K x qual st f fd)
 (h:∀kV doc pm an cdv ct (us:List Value),us.length=ps.length->Gi (BE x qual (xU st) (yR st) (zG st) .none kV doc pm an cdv ct) ⟨us,[]⟩=pure (ps.zip us)):Binds K fd ps []:=by
 obtain⟨oc,od,kV,doc,pm,an,cdv,ct,osl,rfl,lk,hcd⟩:=F.a;exact .all (h kV doc pm an cdv ct)
theorem WE{st}{kV doc pm cdv ct}(l:K.lookup f=some ⟨oc,od,.func (BE x qual (xU st) (yR st) (zG st) .none kV doc pm an cdv ct),osl⟩)
 (c:BQ K cdv qual=true) (k:B0 K (.ref f)=true):Fun K x qual st f (BE x qual (xU st) (yR st) (zG st) .none kV doc pm an cdv ct):=⟨⟨oc,od,kV,doc,pm,an,cdv,ct,osl,rfl,l,c⟩,k⟩
end
theorem uR{A B:Prop}(h:B):if false=true then A else B:=by rw[if_neg Aj];exact h
theorem sG{A B:Prop}(h:A):if true=true then A else B:=by rw[if_pos rfl];exact h
def xf(H H':Hp):Prop:=∀b o,H b=some o->H' b=some o
theorem xf.refl H:xf H H:=λ_ _ h=>h
theorem xf.trans(a:xf H H1)(b:xf H1 H2):xf H H2:=λc o h=>b c o (a c o h)
end L2
end
section
namespace M
open PySem
noncomputable def el(a n:Nat)(f:a=n->Bool):Bool:=if h:a=n then f h else false
theorem zl(h:el a n f=true):∃hc,f hc=true:=by
 unfold el at h;by_cases hc:a=n
 . rw[dif_pos hc]at h;exact⟨hc,h⟩
 . rw[dif_neg hc]at h;cases h
def Yn(e:Expr)(k:BoolOp->List Expr->Pos->Bool):Bool:=el e.ctorIdx 0 λh=>Expr.BoolOp.elim (motive_1:=λ_=>Bool) e h k
theorem iX(h:Yn e k=true):∃o xs p,e=.BoolOp o xs p/\k o xs p=true:=by obtain⟨hc,h⟩:=zl h;obtain⟨o,xs,p,rfl⟩:∃o xs p,e=.BoolOp o xs p:=Expr.BoolOp.elim (motive_1:=λe=>∃o xs p,e=Expr.BoolOp o xs p) e hc λo xs p=>⟨o,xs,p,rfl⟩;exact⟨o,xs,p,rfl,h⟩
def Ua(e:Expr)(k:Expr->Operator->Expr->Pos->Bool):Bool:=el e.ctorIdx 2 λh=>Expr.BinOp.elim (motive_1:=λ_=>Bool) e h k
theorem n6(h:Ua e k=true):∃l o r p,e=.BinOp l o r p/\k l o r p=true:=by obtain⟨hc,h⟩:=zl h;obtain⟨l,o,r,p,rfl⟩:∃l o r p,e=.BinOp l o r p:=Expr.BinOp.elim (motive_1:=λe=>∃l o r p,e=Expr.BinOp l o r p) e hc λl o r p=>⟨l,o,r,p,rfl⟩;exact⟨l,o,r,p,rfl,h⟩
def eUn(e:Expr)(k:UnaryOp->Expr->Pos->Bool):Bool:=el e.ctorIdx 3 λh=>Expr.UnaryOp.elim (motive_1:=λ_=>Bool) e h k
theorem ao(h:eUn e k=true):∃o x p,e=.UnaryOp o x p/\k o x p=true:=by obtain⟨hc,h⟩:=zl h;obtain⟨o,x,p,rfl⟩:∃o x p,e=.UnaryOp o x p:=Expr.UnaryOp.elim (motive_1:=λe=>∃o x p,e=Expr.UnaryOp o x p) e hc λo x p=>⟨o,x,p,rfl⟩;exact⟨o,x,p,rfl,h⟩
def X9(e:Expr)(k:D9->Expr->Scope->Pos->Bool):Bool:=el e.ctorIdx 4 λh=>Expr.Lambda.elim (motive_1:=λ_=>Bool) e h k
theorem mC(h:X9 e k=true):∃a b c p,e=.Lambda a b c p/\k a b c p=true:=by obtain⟨hc,h⟩:=zl h;obtain⟨a,b,c,p,rfl⟩:∃a b c p,e=.Lambda a b c p:=Expr.Lambda.elim (motive_1:=λe=>∃a b c p,e=Expr.Lambda a b c p) e hc λa b c p=>⟨a,b,c,p,rfl⟩;exact⟨a,b,c,p,rfl,h⟩
def Ud(e:Expr)(k:Expr->Expr->Expr->Pos->Bool):Bool:=el e.ctorIdx 5 λh=>Expr.IfExp.elim (motive_1:=λ_=>Bool) e h k
theorem eN(h:Ud e k=true):∃t x y p,e=.IfExp t x y p/\k t x y p=true:=by obtain⟨hc,h⟩:=zl h;obtain⟨t,x,y,p,rfl⟩:∃t x y p,e=.IfExp t x y p:=Expr.IfExp.elim (motive_1:=λe=>∃t x y p,e=Expr.IfExp t x y p) e hc λt x y p=>⟨t,x,y,p,rfl⟩;exact⟨t,x,y,p,rfl,h⟩
def Ub(e:Expr)(k:List (Option Expr)->List Expr->Pos->Bool):Bool:=el e.ctorIdx 6 λh=>Expr.Dict.elim (motive_1:=λ_=>Bool) e h k
theorem eK(h:Ub e k=true):∃ks vs p,e=.Dict ks vs p/\k ks vs p=true:=by obtain⟨hc,h⟩:=zl h;obtain⟨ks,vs,p,rfl⟩:∃ks vs p,e=.Dict ks vs p:=Expr.Dict.elim (motive_1:=λe=>∃ks vs p,e=Expr.Dict ks vs p) e hc λks vs p=>⟨ks,vs,p,rfl⟩;exact⟨ks,vs,p,rfl,h⟩
def X7(e:Expr)(k:Expr->List E4->Scope->Pos->Bool):Bool:=el e.ctorIdx 8 λh=>EO (motive_1:=λ_=>Bool) e h k
theorem n9(h:X7 e k=true):∃x gs sc p,e=.ListComp x gs sc p/\k x gs sc p=true:=by obtain⟨hc,h⟩:=zl h;obtain⟨x,gs,sc,p,rfl⟩:∃x gs sc p,e=.ListComp x gs sc p:=EO (motive_1:=λe=>∃x gs sc p,e=Expr.ListComp x gs sc p) e hc λx gs sc p=>⟨x,gs,sc,p,rfl⟩;exact⟨x,gs,sc,p,rfl,h⟩
def X8(e:Expr)(k:Expr->List CmpOp->List Expr->Pos->Bool):Bool:=el e.ctorIdx 15 λh=>Fi (motive_1:=λ_=>Bool) e h k
theorem mB(h:X8 e k=true):∃l os rs p,e=.Compare l os rs p/\k l os rs p=true:=by obtain⟨hc,h⟩:=zl h;obtain⟨l,os,rs,p,rfl⟩:∃l os rs p,e=.Compare l os rs p:=Fi (motive_1:=λe=>∃l os rs p,e=Expr.Compare l os rs p) e hc λl os rs p=>⟨l,os,rs,p,rfl⟩;exact⟨l,os,rs,p,rfl,h⟩
def jU(e:Expr)(k:Expr->List Expr->List Keyword->Pos->Bool):Bool:=el e.ctorIdx 16 λh=>Expr.Call.elim (motive_1:=λ_=>Bool) e h k
theorem sE(h:jU e k=true):∃f xs ks p,e=.Call f xs ks p/\k f xs ks p=true:=by obtain⟨hc,h⟩:=zl h;obtain⟨f,xs,ks,p,rfl⟩:∃f xs ks p,e=.Call f xs ks p:=Expr.Call.elim (motive_1:=λe=>∃f xs ks p,e=Expr.Call f xs ks p) e hc λf xs ks p=>⟨f,xs,ks,p,rfl⟩;exact⟨f,xs,ks,p,rfl,h⟩
def Uc(e:Expr)(k:Expr->Int->Option Expr->Pos->Bool):Bool:=el e.ctorIdx 17 λh=>FD (motive_1:=λ_=>Bool) e h k
theorem eM(h:Uc e k=true):∃x c s p,e=.FormattedValue x c s p/\k x c s p=true:=by obtain⟨hc,h⟩:=zl h;obtain⟨x,c,s,p,rfl⟩:∃x c s p,e=.FormattedValue x c s p:=FD (motive_1:=λe=>∃x c s p,e=Expr.FormattedValue x c s p) e hc λx c s p=>⟨x,c,s,p,rfl⟩;exact⟨x,c,s,p,rfl,h⟩
def eJn(e:Expr)(k:List Expr->Pos->Bool):Bool:=el e.ctorIdx 18 λh=>F8.elim (motive_1:=λ_=>Bool) e h k
theorem ai(h:eJn e k=true):∃xs p,e=.JoinedStr xs p/\k xs p=true:=by obtain⟨hc,h⟩:=zl h;obtain⟨xs,p,rfl⟩:∃xs p,e=.JoinedStr xs p:=F8.elim (motive_1:=λe=>∃xs p,e=F8 xs p) e hc λxs p=>⟨xs,p,rfl⟩;exact⟨xs,p,rfl,h⟩
def af(e:Expr)(k:Const->Nat->Pos->Bool):Bool:=el e.ctorIdx 19 λh=>Gv.elim (motive_1:=λ_=>Bool) e h k
theorem rn(h:af e k=true):∃c n p,e=.Constant c n p/\k c n p=true:=by obtain⟨hc,h⟩:=zl h;obtain⟨c,n,p,rfl⟩:∃c n p,e=.Constant c n p:=Gv.elim (motive_1:=λe=>∃c n p,e=Gv c n p) e hc λc n p=>⟨c,n,p,rfl⟩;exact⟨c,n,p,rfl,h⟩
def UZ(e:Expr)(k:Expr->Str->Pos->Bool):Bool:=el e.ctorIdx 20 λh=>F9.elim (motive_1:=λ_=>Bool) e h k
theorem eJ(h:UZ e k=true):∃o x p,e=.Attribute o x p/\k o x p=true:=by obtain⟨hc,h⟩:=zl h;obtain⟨o,x,p,rfl⟩:∃o x p,e=.Attribute o x p:=F9.elim (motive_1:=λe=>∃o x p,e=F9 o x p) e hc λo x p=>⟨o,x,p,rfl⟩;exact⟨o,x,p,rfl,h⟩
def ak(e:Expr)(k:Expr->Expr->Pos->Bool):Bool:=el e.ctorIdx 21 λh=>Ga.elim (motive_1:=λ_=>Bool) e h k
theorem r0(h:ak e k=true):∃l r p,e=.Subscript l r p/\k l r p=true:=by obtain⟨hc,h⟩:=zl h;obtain⟨l,r,p,rfl⟩:∃l r p,e=.Subscript l r p:=Ga.elim (motive_1:=λe=>∃l r p,e=Ga l r p) e hc λl r p=>⟨l,r,p,rfl⟩;exact⟨l,r,p,rfl,h⟩
def eName(e:Expr)(k:Str->Pos->Bool):Bool:=el e.ctorIdx 23 λh=>Ee.elim (motive_1:=λ_=>Bool) e h k
theorem zq(h:eName e k=true):∃x p,e=.Name x p/\k x p=true:=by obtain⟨hc,h⟩:=zl h;obtain⟨x,p,rfl⟩:∃x p,e=.Name x p:=Ee.elim (motive_1:=λe=>∃x p,e=Ee x p) e hc λx p=>⟨x,p,rfl⟩;exact⟨x,p,rfl,h⟩
def WA(e:Expr)(k:List Expr->Pos->Bool):Bool:=el e.ctorIdx 24 λh=>Expr.List.elim (motive_1:=λ_=>Bool) e h k
theorem rq(h:WA e k=true):∃xs p,e=.List xs p/\k xs p=true:=by obtain⟨hc,h⟩:=zl h;obtain⟨xs,p,rfl⟩:∃xs p,e=.List xs p:=Expr.List.elim (motive_1:=λe=>∃xs p,e=Expr.List xs p) e hc λxs p=>⟨xs,p,rfl⟩;exact⟨xs,p,rfl,h⟩
def eP(e:Expr)(k:List Expr->Nat->Pos->Bool):Bool:=el e.ctorIdx 25 λh=>FY (motive_1:=λ_=>Bool) e h k
theorem vm(h:eP e k=true):∃xs n p,e=.Tuple xs n p/\k xs n p=true:=by obtain⟨hc,h⟩:=zl h;obtain⟨xs,n,p,rfl⟩:∃xs n p,e=.Tuple xs n p:=FY (motive_1:=λe=>∃xs n p,e=Expr.Tuple xs n p) e hc λxs n p=>⟨xs,n,p,rfl⟩;exact⟨xs,n,p,rfl,h⟩
def Ue(e:Expr)(k:Option Expr->Option Expr->Option Expr->Pos->Bool):Bool:=el e.ctorIdx 26 λh=>Expr.Slice.elim (motive_1:=λ_=>Bool) e h k
theorem eO(h:Ue e k=true):∃x y z p,e=.Slice x y z p/\k x y z p=true:=by obtain⟨hc,h⟩:=zl h;obtain⟨x,y,z,p,rfl⟩:∃x y z p,e=.Slice x y z p:=Expr.Slice.elim (motive_1:=λe=>∃x y z p,e=Expr.Slice x y z p) e hc λx y z p=>⟨x,y,z,p,rfl⟩;exact⟨x,y,z,p,rfl,h⟩
def YA(e:Stmt)(k:Option Expr->Pos->Bool):Bool:=el e.ctorIdx 3 λh=>Stmt.Return.elim (motive_2:=λ_=>Bool) e h k
theorem tY(h:YA e k=true):∃o p,e=.Return o p/\k o p=true:=by obtain⟨hc,h⟩:=zl h;obtain⟨o,p,rfl⟩:∃o p,e=.Return o p:=Stmt.Return.elim (motive_2:=λe=>∃o p,e=Stmt.Return o p) e hc λo p=>⟨o,p,rfl⟩;exact⟨o,p,rfl,h⟩
def gk(e:Stmt)(k:List Expr->Expr->Pos->Bool):Bool:=el e.ctorIdx 5 λh=>Stmt.Assign.elim (motive_2:=λ_=>Bool) e h k
theorem wu(h:gk e k=true):∃ts v p,e=.Assign ts v p/\k ts v p=true:=by obtain⟨hc,h⟩:=zl h;obtain⟨ts,v,p,rfl⟩:∃ts v p,e=.Assign ts v p:=Stmt.Assign.elim (motive_2:=λe=>∃ts v p,e=Stmt.Assign ts v p) e hc λts v p=>⟨ts,v,p,rfl⟩;exact⟨ts,v,p,rfl,h⟩
def SO(e:Stmt)(k:Expr->Operator->Expr->Pos->Bool):Bool:=el e.ctorIdx 7 λh=>Gb.elim (motive_2:=λ_=>Bool) e h k
theorem bT(h:SO e k=true):∃t o v p,e=.AugAssign t o v p/\k t o v p=true:=by obtain⟨hc,h⟩:=zl h;obtain⟨t,o,v,p,rfl⟩:∃t o v p,e=.AugAssign t o v p:=Gb.elim (motive_2:=λe=>∃t o v p,e=Gb t o v p) e hc λt o v p=>⟨t,o,v,p,rfl⟩;exact⟨t,o,v,p,rfl,h⟩
def SQ(e:Stmt)(k:Expr->Expr->List Stmt->List Stmt->Pos->Bool):Bool:=el e.ctorIdx 9 λh=>Stmt.For.elim (motive_2:=λ_=>Bool) e h k
theorem bU(h:SQ e k=true):∃t i b c p,e=.For t i b c p/\k t i b c p=true:=by obtain⟨hc,h⟩:=zl h;obtain⟨t,i,b,c,p,rfl⟩:∃t i b c p,e=.For t i b c p:=Stmt.For.elim (motive_2:=λe=>∃t i b c p,e=Stmt.For t i b c p) e hc λt i b c p=>⟨t,i,b,c,p,rfl⟩;exact⟨t,i,b,c,p,rfl,h⟩
def SR(e:Stmt)(k:Expr->List Stmt->List Stmt->Pos->Bool):Bool:=el e.ctorIdx 11 λh=>Stmt.While.elim (motive_2:=λ_=>Bool) e h k
theorem bV(h:SR e k=true):∃c b d p,e=.While c b d p/\k c b d p=true:=by obtain⟨hc,h⟩:=zl h;obtain⟨c,b,d,p,rfl⟩:∃c b d p,e=.While c b d p:=Stmt.While.elim (motive_2:=λe=>∃c b d p,e=Stmt.While c b d p) e hc λc b d p=>⟨c,b,d,p,rfl⟩;exact⟨c,b,d,p,rfl,h⟩
def sIf(e:Stmt)(k:Expr->List Stmt->List Stmt->Pos->Bool):Bool:=el e.ctorIdx 12 λh=>Stmt.If.elim (motive_2:=λ_=>Bool) e h k
theorem nS(h:sIf e k=true):∃c a b p,e=.If c a b p/\k c a b p=true:=by obtain⟨hc,h⟩:=zl h;obtain⟨c,a,b,p,rfl⟩:∃c a b p,e=.If c a b p:=Stmt.If.elim (motive_2:=λe=>∃c a b p,e=Stmt.If c a b p) e hc λc a b p=>⟨c,a,b,p,rfl⟩;exact⟨c,a,b,p,rfl,h⟩
def sRs(e:Stmt)(k:Option Expr->Option Expr->Pos->Bool):Bool:=el e.ctorIdx 16 λh=>Stmt.Raise.elim (motive_2:=λ_=>Bool) e h k
theorem YB(h:sRs e k=true):∃a b p,e=.Raise a b p/\k a b p=true:=by obtain⟨hc,h⟩:=zl h;obtain⟨a,b,p,rfl⟩:∃a b p,e=.Raise a b p:=Stmt.Raise.elim (motive_2:=λe=>∃a b p,e=Stmt.Raise a b p) e hc λa b p=>⟨a,b,p,rfl⟩;exact⟨a,b,p,rfl,h⟩
def Vs(e:Stmt)(k:Expr->Pos->Bool):Bool:=el e.ctorIdx 24 λh=>Stmt.Expr.elim (motive_2:=λ_=>Bool) e h k
theorem qh(h:Vs e k=true):∃x p,e=.Expr x p/\k x p=true:=by obtain⟨hc,h⟩:=zl h;obtain⟨x,p,rfl⟩:∃x p,e=.Expr x p:=Stmt.Expr.elim (motive_2:=λe=>∃x p,e=Stmt.Expr x p) e hc λx p=>⟨x,p,rfl⟩;exact⟨x,p,rfl,h⟩
noncomputable def l1{α:Type}(xs:List α)(k:α->Bool):Bool:=match xs with
 |[x]=>k x
 |_=>false
theorem z8(h:l1 xs k=true):∃x,xs=[x]/\k x=true:=by
 cases xs with
 |nil=>cases h
 |cons x xs=>cases xs with
  |nil=>exact⟨x,rfl,h⟩
  |cons _ _=>cases h
noncomputable def lc{α:Type}(xs:List α)(k:α->List α->Bool):Bool:=match xs with
 |x::xs=>k x xs
 |[]=>false
theorem z9(h:lc xs k=true):∃x ys,xs=x::ys/\k x ys=true:=by
 cases xs with
 |nil=>cases h
 |cons x ys=>exact⟨x,ys,rfl,h⟩
theorem dm{xs}{k:α->α->Bool}(h:(lc xs λx ys=>l1 ys (k x))=true):∃x y,xs=[x,y]/\k x y=true:=by obtain⟨x,ys,rfl,h⟩:=z9 h;obtain⟨y,rfl,h⟩:=z8 h;exact⟨x,y,rfl,h⟩
noncomputable def o1{α:Type}(x:Option α)(k:α->Bool):Bool:=match x with
 |some x=>k x
 |none=>false
theorem sM(h:o1 x k=true):∃y,x=some y/\k y=true:=by
 cases x with
 |none=>cases h
 |some x=>exact⟨x,rfl,h⟩
theorem zK(h:(a&&b)=true):a=true/\b=true:=by
 cases a with
 |false=>cases h
 |true=>exact⟨rfl,h⟩
def eOp(u:UnaryOp)(e:Expr)(k:Expr->Bool):Bool:=eUn e λo x _=>decide (o=u)&&k x
theorem rE(h:eOp u e k=true):∃x p,e=.UnaryOp u x p/\k x=true:=by obtain⟨o,x,p,rfl,h2⟩:=ao h;obtain⟨h1,h3⟩:=zK h2;cases of_decide_eq_true h1;exact⟨x,p,rfl,h3⟩
def eBl(u:BoolOp)(e:Expr)(k:Expr->List Expr->Bool):Bool:=Yn e λo xs _=>decide (o=u)&&lc xs k
theorem rC(h:eBl u e k=true):∃x xs p,e=.BoolOp u (x::xs) p/\k x xs=true:=by obtain⟨o,xs,p,rfl,h2⟩:=iX h;obtain⟨h1,h3⟩:=zK h2;cases of_decide_eq_true h1;obtain⟨x,ys,rfl,h4⟩:=z9 h3;exact⟨x,ys,p,rfl,h4⟩
def eC1(e:Expr)(k:Expr->CmpOp->Expr->Bool):Bool:=X8 e λl os rs _=>l1 os λo=>l1 rs λr=>k l o r
theorem rD(h:eC1 e k=true):∃l o r p,e=.Compare l [o] [r] p/\k l o r=true:=by obtain⟨l,os,rs,p,rfl,h⟩:=mB h;obtain⟨o,rfl,h⟩:=z8 h;obtain⟨r,rfl,h⟩:=z8 h;exact⟨l,o,r,p,rfl,h⟩
def eC2(e:Expr)(k:Expr->CmpOp->CmpOp->Expr->Expr->Bool):Bool:=X8 e λl os rs _=>lc os λo os=>l1 os λo'=>lc rs λr rs=>l1 rs λr'=>k l o o' r r'
theorem jT(h:eC2 e k=true):∃l o o' r r' p,e=.Compare l [o,o'] [r,r'] p/\k l o o' r r'=true:=by obtain⟨l,os,rs,p,rfl,h⟩:=mB h;obtain⟨o,os,rfl,h⟩:=z9 h;obtain⟨o',rfl,h⟩:=z8 h;obtain⟨r,rs,rfl,h⟩:=z9 h;obtain⟨r',rfl,h⟩:=z8 h;exact⟨l,o,o',r,r',p,rfl,h⟩
def eD0(e:Expr):Bool:=Ub e λks vs _=>ks.isEmpty&&vs.isEmpty
theorem jV(h:eD0 e=true):∃p,e=.Dict [] [] p:=by obtain⟨ks,vs,p,rfl,h⟩:=eK h;obtain⟨h1,h2⟩:=zK h;rw[AN.mp h1,AN.mp h2];exact⟨p,rfl⟩
def eCN(e:Expr)(k:Str->List Expr->Bool):Bool:=jU e λf xs ks _=>ks.isEmpty&&eName f λx _=>k x xs
theorem ye(h:eCN e k=true):∃x p xs pos,e=.Call (.Name x p) xs [] pos/\k x xs=true:=by obtain⟨f,xs,ks,pos,rfl,h⟩:=sE h;obtain⟨h1,h⟩:=zK h;obtain⟨x,p,rfl,h⟩:=zq h;rw[AN.mp h1];exact⟨x,p,xs,pos,rfl,h⟩
def eMt(e:Expr)(k:Expr->Str->Pos->Expr->Pos->Bool):Bool:=jU e λf xs ks cp=>ks.isEmpty&&UZ f λob x ap=>l1 xs λy=>k ob x ap y cp
theorem jX(h:eMt e k=true):∃ob x ap y cp,e=.Call (.Attribute ob x ap) [y] [] cp/\k ob x ap y cp=true:=by obtain⟨f,xs,ks,pos,rfl,h⟩:=sE h;obtain⟨h1,h⟩:=zK h;obtain⟨ob,x,ap,rfl,h⟩:=eJ h;obtain⟨y,rfl,h⟩:=z8 h;rw[AN.mp h1];exact⟨ob,x,ap,y,pos,rfl,h⟩
def eSS(e:Expr)(k:Expr->Option Expr->Option Expr->Option Expr->Bool):Bool:=ak e λl r _=>Ue r λx y z _=>k l x y z
theorem aj(h:eSS e k=true):∃l x y z p pos,e=.Subscript l (.Slice x y z p) pos/\k l x y z=true:=by obtain⟨l,r,pos,rfl,h⟩:=r0 h;obtain⟨x,y,z,p,rfl,h⟩:=eO h;exact⟨l,x,y,z,p,pos,rfl,h⟩
noncomputable def gC(g:E4)(k:Expr->Expr->List Expr->Bool):Bool:=decide (g.is_async=0)&&k g.target g.iter g.ifs
theorem lU(h:gC g k=true):∃t i f,g=⟨t,i,f,0⟩/\k t i f=true:=by obtain⟨t,i,f,a⟩:=g;obtain⟨h1,h⟩:=zK h;have h1:a=0:=of_decide_eq_true h1;subst h1;exact⟨t,i,f,rfl,h⟩
def eG1(e:Expr)(k:Expr->Expr->Expr->List Expr->Scope->Bool):Bool:=X7 e λx gs sc _=>l1 gs λg=>gC g λt i f=>k x t i f sc
theorem u9(h:eG1 e k=true):∃x t i f sc p,e=.ListComp x [⟨t,i,f,0⟩] sc p/\k x t i f sc=true:=by obtain⟨x,gs,sc,p,rfl,h2⟩:=n9 h;obtain⟨g,rfl,h3⟩:=z8 h2;obtain⟨t,i,f,rfl,h4⟩:=lU h3;exact⟨x,t,i,f,sc,p,rfl,h4⟩
def eG2(e:Expr)(k:Expr->Expr->Expr->List Expr->Expr->Expr->List Expr->Scope->Bool):Bool:=X7 e λx gs sc _=>lc gs λg gs=>l1 gs λg2=>gC g λt i f=>gC g2 λt2 i2 f2=>k x t i f t2 i2 f2 sc
theorem jW(h:eG2 e k=true):∃x t i f t2 i2 f2 sc p,e=.ListComp x [⟨t,i,f,0⟩,⟨t2,i2,f2,0⟩] sc p/\k x t i f t2 i2 f2 sc=true:=by obtain⟨x,gs,sc,p,rfl,h2⟩:=n9 h;obtain⟨g,gs,rfl,h3⟩:=z9 h2;obtain⟨g2,rfl,h4⟩:=z8 h3;obtain⟨t,i,f,rfl,h5⟩:=lU h4;obtain⟨t2,i2,f2,rfl,h6⟩:=lU h5;exact⟨x,t,i,f,t2,i2,f2,sc,p,rfl,h6⟩
end M
end
section
namespace L2
open PySem PySem.Spec PyProof.Rows
noncomputable def uP(cells:List (Str × Addr)):List (Str × CK)->List (Str × Addr)->List (Str × Addr)
 |[],acc=>acc
 |(n,k)::r,acc=>if k == .free then (match cells.lookup n with|some c=>uP cells r ((n,c)::acc)|none=>uP cells r acc) else uP cells r acc
theorem uh:∀names acc,(∀x∈names,x.2=.free->∃c,env.cells.lookup x.1=some c) ->
 (forIn names acc λx cs =>(if x.2 == .free then do let a <-cellOf env x.1;pure (B8 ((x.1,a)::cs)) else pure (B8 cs):Sem (ForInStep (List (Str × Addr)))))=pure (uP env.cells names acc)
 |[],acc,_=>rfl
 |(n,k)::r,acc,h=>by
  rw[Er];dsimp only;unfold uP;by_cases hk:(k == AB)=true
  . have hk':k=.free:=by simpa using hk
    obtain⟨c,hc⟩:=h (n,k) As hk';have hc':env.cells.lookup n=some c:=hc;have hcell:cellOf env n=pure c:=by unfold cellOf;rw[hc']
    rw[if_pos hk,if_pos hk,hcell,hc',Dz,Dz];exact uh r _ λx hx=>h x (Ah _ hx)
  . rw[if_neg hk,if_neg hk,Dz]
    exact uh r _ λx hx=>h x (Ah _ hx)
theorem wO(h:∀x∈scope.names,x.2=.free->∃c,env.cells.lookup x.1=some c):Gk scope env=pure (uP env.cells scope.names []):=by
 have e:=uh (env:=env) scope.names [] h;show (do let cs <-forIn scope.names [] _;pure cs)=_
 refine Eq.trans ?_ e;refine Eq.trans (bind_pure _) ?_;congr 1
theorem u6:∀names acc,(∀x c,acc.lookup x=some c->cells.lookup x=some c)->∀x c,(uP cells names acc).lookup x=some c->cells.lookup x=some c
 |[],acc,h,x,c,e=>h x c e
 |(n,k)::r,acc,h,x,c,e=>by
  unfold uP at e;by_cases hk:(k == AB)=true
  . rw[if_pos hk]at e
    cases hc:cells.lookup n with
    |none=>rw[hc]at e;exact u6 r acc h x c e
    |some d=>
     rw[hc]at e;refine u6 r _ (λy z q=>?_) x c e;rw[An]at q;cases hy:(y == n) with
     |true=>rw[hy]at q;have hy':y=n:=by simpa using hy
            cases q;rw[hy'];exact hc
     |false=>rw[hy]at q;exact h y z q
  . rw[if_neg hk]at e;exact u6 r acc h x c e
theorem wg:∀names acc x c,cells.lookup x=some c->(acc.lookup x=some c\/(x,AB)∈names)->(∀y d,acc.lookup y=some d->cells.lookup y=some d)->(uP cells names acc).lookup x=some c
 |[],acc,x,c,_,h,_=>by
  rcases h with h|h
  . exact h
  . cases h
 |(n,k)::r,acc,x,c,hc,h,ha=>by
  unfold uP;by_cases hk:(k == AB)=true
  . rw[if_pos hk]
    cases hn:cells.lookup n with
    |none=>
     refine wg r acc x c hc ?_ ha;rcases h with h|h
     . exact .inl h
     . rcases Ak.mp h with e|e
       . cases e;rw[hn]at hc;cases hc
       . exact .inr e
    |some d=>
     have ha':∀y z,((n,d)::acc).lookup y=some z->cells.lookup y=some z:=λy z q=>by
      rw[An]at q;cases hy:(y == n) with
      |true=>rw[hy]at q;have hy':y=n:=by simpa using hy
             cases q;rw[hy'];exact hn
      |false=>rw[hy]at q;exact ha y z q
     by_cases hx:x=n
     . subst hx
       refine wg r _ x c hc (.inl ?_) ha';rw[hn]at hc;cases hc;simp[An]
     . refine wg r _ x c hc ?_ ha'
       rcases h with h|h
       . refine .inl ?_
         have:(x == n)=false:=by simpa using hx
         rw[An,this];exact h
       . rcases Ak.mp h with e|e
         . cases e;exact absurd rfl hx
         . exact .inr e
  . rw[if_neg hk]
    refine wg r acc x c hc ?_ ha;rcases h with h|h
    . exact .inl h
    . rcases Ak.mp h with e|e
      . cases e;exact absurd (by decide) hk
      . exact .inr e
theorem uf:∀names n acc,Cp n names acc=Cp n names []++acc
 |[],_,_=>rfl
 |(x,k)::r,n,acc=>by
  unfold Cp;split
  . rw[uf r (n+1) ((x,n)::acc),uf r (n+1) [(x,n)],Bx];rfl
  . exact uf r n acc
theorem oZ:∀names n {x} {c},(x,c)∈Cp n names []->(x,Be)∈names/\n<=c
 |[],_,_,_,h=>by cases h
 |(y,k)::r,n,x,c,h=>by
  unfold Cp at h;split at h
  . rename_i hk
    rw[uf]at h;rcases AS.mp h with h|h
    . obtain⟨h1,h2⟩:=oZ r (n+1) h
      exact⟨Ah _ h1,by omega⟩
    . cases Aw.mp h
      have:k=.cell:=by simpa using hk
      rw[this];exact⟨As,xd _⟩
  . obtain⟨h1,h2⟩:=oZ r n h
    exact⟨Ah _ h1,h2⟩
theorem oY:∀names n {x},(x,Be)∈names->∃c,(x,c)∈Cp n names []
 |[],_,_,h=>by cases h
 |(y,k)::r,n,x,h=>by
  unfold Cp;rcases Ak.mp h with e|h
  . cases e
    rw[if_pos (by rfl),uf]
    exact⟨n,A6 _ As⟩
  . split
    . obtain⟨c,hc⟩:=oY r (n+1) h
      rw[uf];exact⟨c,Bs _ hc⟩
    . exact oY r n h
theorem d6{l:List (Str × Addr)}:(x,c)∈l->∃d,l.lookup x=some d:=by
 induction l with
 |nil=>intro h;cases h
 |cons p r ih=>
  intro h;rw[An];cases hx:x == p.1 with
  |true=>exact⟨_,rfl⟩
  |false=>
   rcases Ak.mp h with e|h
   . rw[<-e]at hx;simp at hx
   . exact ih h
theorem ll{l m:List (Str × Addr)}{x:Str}:(l++m).lookup x=match l.lookup x with|some c=>some c|none=>m.lookup x:=by
 induction l with
 |nil=>rfl
 |cons p r ih=>
  rw[FE,An,An];cases hx:x == p.1 with
  |true=>rfl
  |false=>exact ih
noncomputable def wR(sc:Scope)(C:Addr):List (Str × Addr):=Cp (C+1) sc.names []
theorem Zs(h:Heap)sc:∃h',CellsOk h' (h.objs.size+1) (wR sc h.objs.size):=by
 have ok:=cellsFrom_ok sc.names (h.push {cls:=.type "dict",data:=.dict #[]}) (h.objs.size+1) [] ⟨λ_ _ hm=>(nomatch hm),Fh⟩ (by rw[A5];exact xd _)
 rw[A5]at ok;exact⟨_,ok⟩
abbrev Cx.comp(X:Cx)(N:List Str)(sc:Scope)(C:Addr)(s:Shared)(H:Hp)(ex:List Addr):Cx:=
 {X with N:=N,l:=s,r:=H,a:=compEnvC sc (wR sc C++uP X.a.cells sc.names []) C X.a,k:=X.g,m:=ex,n:=λx=>sc.names.any λp=>decide (p=(x,Be)),q:=[],i:=λ_ _=>False}
structure zi(X:Cx)(N:List Str)(sc:Scope)(fr:List (Option Nat)):Prop where
 b:sc.kind=.function
 e:∀x,(x,Be)∈sc.names->(x,AB)∈sc.names->False
 a:∀x∈sc.names,x.2=.local->sc.names.lookup x.1=some .local
 d:∀x∈sc.names,x.2=.free->X.a.kindOf x.1=some .cell\/X.a.kindOf x.1=some .free
 g:fr.length=N.length
 f:∀(i j:Nat) (x:Str),N[i]?=some x->fr[i]?=some (some j)->X.N[j]?=some x/\(x,AB)∈sc.names
 h:∀x,sc.names.lookup x=some .local->(x,AB)∈sc.names->False
noncomputable def zd(fr:List (Option Nat))(σ:St):St:=fr.map λo=>match o with|some j=>(σ[j]?).join|none=>none
theorem nR(h:(relabel sc env).names.lookup x=some .cell\/(relabel sc env).names.lookup x=some .free):(x,AB)∈sc.names\/(x,Be)∈sc.names:=by
 have key:∀(names:List (Str × CK)),((names.map λ(n,k)=>if (k == AB&&env.scope.kind == .function&&env.kindOf n == some .cell) then (n,Be) else (n,k)).lookup x=some .cell \/
  (names.map λ(n,k)=>if (k == AB&&env.scope.kind == .function&&env.kindOf n == some .cell) then (n,Be) else (n,k)).lookup x=some .free)->(x,AB)∈names\/(x,Be)∈names:=by
  intro names;induction names with
  |nil=>intro h;simp at h
  |cons p r ih=>
   obtain⟨n,k⟩:=p;intro h;rw[A7]at h;dsimp only at h;by_cases hx:x=n
   . subst hx
     by_cases hf:k=.free
     . subst hf;exact .inl As
     . have hf':(k == AB)=false:=by simpa using hf
       rw[hf']at h;simp only[CD,AZ,if_false,An,beq_self_eq_true]at h;rcases h with h|h
       . cases h;exact .inr As
       . cases h;exact absurd rfl hf
   . have hx':(x == n)=false:=by simpa using hx
     have:=ih (by split at h<;>simpa only[An,hx'] using h)
     exact this.elim (λz=>.inl (Ah _ z)) λz=>.inr (Ah _ z)
 exact key sc.names h
theorem vO(h:sc.names.lookup x=some .cell):(relabel sc env).names.lookup x=some .cell:=by
 have key:∀(names:List (Str × CK)),names.lookup x=some .cell->(names.map λ(n,k)=>if (k == AB&&env.scope.kind == .function&&env.kindOf n == some .cell) then (n,Be) else (n,k)).lookup x=some .cell:=by
  intro names;induction names with
  |nil=>intro h;simp at h
  |cons p r ih=>
   obtain⟨n,k⟩:=p;intro h;rw[A7];dsimp only;cases hx:(x == n) with
   |true=>
    rw[An,hx]at h;cases h;have e:(Be == AB)=false:=rfl;rw[e];simp only[CD,AZ,if_false,An,hx]
   |false=>
    rw[An,hx]at h;have:=ih h;split<;>simpa only[An,hx] using this
 exact key sc.names h
theorem tW(hl:∀y∈sc.names,y.2=.local->sc.names.lookup y.1=some .local)(h:sc.names.lookup x=some .free) :
 (relabel sc env).names.lookup x=some .cell\/(relabel sc env).names.lookup x=some .free:=by
 have key:∀(names:List (Str × CK)),names.lookup x=some .free->((names.map λ(n,k)=>if (k == AB&&env.scope.kind == .function&&env.kindOf n == some .cell) then (n,Be) else (n,k)).lookup x=some .cell \/
  (names.map λ(n,k)=>if (k == AB&&env.scope.kind == .function&&env.kindOf n == some .cell) then (n,Be) else (n,k)).lookup x=some .free):=by
  intro names;induction names with
  |nil=>intro h;simp at h
  |cons p r ih=>
   obtain⟨n,k⟩:=p;intro h;rw[A7];dsimp only;cases hx:(x == n) with
   |true=>
    rw[An,hx]at h;cases h;split
    . left;simp only[An,hx]
    . right;simp only[An,hx]
   |false=>
    rw[An,hx]at h;have:=ih h;split<;>simpa only[An,hx] using this
 exact key sc.names h
section
variable {X:Cx}{pins:List (Addr × Obj)}{σ:St}{H:Hp}{s:Shared}{N:List Str}{sc:Scope}{fr:List (Option Nat)}{fp:List Addr}
theorem zi.cells(S:zi X N sc fr)(ok:X.Ok):∀x∈sc.names,x.2=.free->∃c,X.a.cells.lookup x.1=some c:=λx hx hk=>ok.p x.1 (S.d x hx hk)
theorem wd(h:(wR sc C++uP cells sc.names []).lookup x=some c):((wR sc C).lookup x=some c)\/((wR sc C).lookup x=none/\cells.lookup x=some c):=by
 rw[ll]at h;cases ho:(wR sc C).lookup x with
 |some d=>rw[ho]at h;exact .inl h
 |none=>rw[ho]at h;exact .inr ⟨rfl,u6 sc.names [] (λx c e=>by simp at e) x c h⟩
theorem qY(h:(wR sc C).lookup x=some c):@LE.le Nat _ (C+1) c:=(oZ sc.names (C+1) (mem_of_lookup h)).2
theorem cN(S:zi X N sc fr)(h:(x,AB)∈sc.names):(wR sc C).lookup x=none:=by
 cases ho:(wR sc C).lookup x with
 |none=>rfl
 |some d=>exact(S.e x (oZ sc.names (C+1) (mem_of_lookup ho)).1 h).elim
theorem aZ(I:Inv X pins σ H s)(S:zi X N sc fr)(hf:∀b∈fp,wc X pins H b)(hlt:∀b∈fp,b<s.heap.objs.size):(X.comp N sc s.heap.objs.size s H fp).Ok:=by
 obtain⟨h',hok⟩:=Zs s.heap sc;have old:∀x c,X.a.cells.lookup x=some c->@LT.lt Nat _ c s.heap.objs.size:=λx c e=>by obtain⟨v,z⟩:=I.J x c e;exact z.lt
 refine⟨I.C.j,S.b,I.C.k,I.C.t,xd _,λx y c e1 e2=>?_,λx h=>?_,λx c h e=>?_,I.C.i,I.C.g,.inl rfl,λb hb=>?_,λb o e=>I.bs b o e,?_,λb o e hb=>?_,λb hb z=>?_,I.stack,I.nW⟩
 . rcases wd e1 with e1|⟨_,e1⟩<;>rcases wd e2 with e2|⟨_,e2⟩
   . exact name_of_addr hok.apart (mem_of_lookup e1) (mem_of_lookup e2)
   . exact absurd (Ar (old _ _ e2) (AE (CW _) (qY e1))) (A1 _)
   . exact absurd (Ar (old _ _ e1) (AE (CW _) (qY e2))) (A1 _)
   . exact I.C.r x y c e1 e2
 . show ∃c,(wR sc s.heap.objs.size++uP X.a.cells sc.names []).lookup x=some c
   rw[ll];rcases nR h with m|m
   . obtain⟨c,hc⟩:=S.cells I.C (x,.free) m rfl
     rw[cN S m];exact⟨c,wg sc.names [] x c hc (.inr m) (λy d e=>by simp at e)⟩
   . obtain⟨c,hc⟩:=oY sc.names (s.heap.objs.size+1) m
     obtain⟨d,hd⟩:=d6 hc;have hd':(wR sc s.heap.objs.size).lookup x=some d:=hd;rw[hd'];exact⟨d,rfl⟩
 . have m:(x,Be)∈sc.names:=by obtain⟨p,hp,e'⟩:=Bo.mp h;rw[<-of_decide_eq_true e'];exact hp
   rcases wd e with e|⟨e,_⟩
   . exact AE (CW _) (qY e)
   . obtain⟨c',hc⟩:=oY sc.names (s.heap.objs.size+1) m
     obtain⟨d,hd⟩:=d6 hc;have hd':(wR sc s.heap.objs.size).lookup x=some d:=hd;rw[hd']at e;cases e
 . obtain⟨f0,f1,f2,f3,f4,f5⟩:=hf b hb
   refine⟨Ax (hlt b hb),λx c e=>?_⟩;rcases wd e with e|⟨_,e⟩
   . exact λz=>absurd (Ar (z▸hlt b hb) (AE (CW _) (qY e))) (A1 _)
   . exact f4 x c e
 . exact AE I.C.q I.sz
 . obtain⟨f0,f1,f2,f3,f4,f5⟩:=hf b hb
   rcases f3 with f3|f3
   . exact I.C.m b o e f3
   . exact absurd (Ar (Ae e) (AE I.C.q f3)) (A1 _)
 . obtain⟨f0,f1,f2,f3,f4,f5⟩:=hf b hb
   rcases Ak.mp (I.kX b z) with e|e
   . exact f1 e
   . exact f2 e
theorem lQ(I:Inv X pins σ H s)(S:zi X N sc fr)(hf:∀b∈fp,wc X pins H b)(hlt:∀b∈fp,b<s.heap.objs.size)
 (hns:h'.Ns s.heap.objs.size (λ_=>none)) (k:∀b o,s.heap.get? b=some o->h'.get? b=some o) (lV:∀x c,(wR sc s.heap.objs.size).lookup x=some c->h'.IsCell c none):Inv (X.comp N sc s.heap.objs.size s H fp) [] (zd fr σ) H {s with heap:=h',toks:=tk}:=by
 refine⟨aZ I S hf hlt,rfl,I.F,Un.kept k,⟨_,hns,λi x v e1 e2 e3=>?_⟩,λx c e=>?_,I.j.fresh (xd _),λx c e=>?_,λp hp=>(by simp at hp),I.j.kept k,?_⟩
 . have e2':(fr.map λo=>match o with|some j=>(σ[j]?).join|none=>none)[i]?=some (some v):=e2
   rw[AX]at e2';cases hfi:fr[i]? with
   |none=>rw[hfi]at e2';cases e2'
   |some o=>
    rw[hfi]at e2';cases o with
    |none=>cases e2'
    |some j=>
     obtain⟨n1,n2⟩:=S.f i j x e1 hfi;have e3':σ[j]?=some (some v):=by
      have q:(σ[j]?).join=some v:=AQ e2';cases hσ:σ[j]? with
      |none=>rw[hσ]at q;cases q
      |some w=>rw[hσ]at q;cases w with
       |none=>cases q
       |some w'=>have:w'=v:=AQ q
                 rw[this]
     have hk:=S.d (x,.free) n2 rfl;obtain⟨m,hn,hl⟩:=I.O;obtain⟨u,r,l⟩:=hl j x v n1 e3' (hk.elim (λz=>.inr (.inl z)) λz=>.inr (.inr z));refine⟨u,r,?_⟩;rcases l with⟨hk',_⟩|⟨_,c,hc,z⟩
     . rcases hk with hk|hk<;>(rw[hk]at hk';cases hk')
     . refine .inr ⟨?_,c,(by show (wR sc s.heap.objs.size++uP X.a.cells sc.names []).lookup x=some c;rw[ll,cN S n2];exact wg sc.names [] x c hc (.inr n2) (λy d e=>by simp at e)),?_⟩
       . rcases e3 with e3|e3|e3
         . -- a local of that name: cannot be,the name is free in the block
           exfalso;have hloc:sc.names.lookup x=some .local:=by
            have key:∀(names:List (Str × CK)),(names.map λ(n,k)=>if (k == AB&&X.a.scope.kind == .function&&X.a.kindOf n == some .cell) then (n,Be) else (n,k)).lookup x=some .local->names.lookup x=some .local:=by
             intro names;induction names with
             |nil=>intro h;simp at h
             |cons p r ih=>
              obtain⟨n,kk⟩:=p;intro h;rw[A7]at h;dsimp only at h;cases hx:(x == n) with
              |true=>
               split at h
               . simp only[An,hx]at h;cases h
               . simp only[An,hx]at h ⊢;exact h
              |false=>
               rw[An,hx];refine ih ?_;split at h<;>simpa only[An,hx] using h
            exact key sc.names e3
           exact S.h x hloc n2
         . exact .inl e3
         . exact .inr e3
       . obtain⟨o,ho,hd⟩:=z
         exact⟨o,k _ _ ho,hd⟩
 . rcases wd e with e|⟨_,e⟩
   . exact⟨none,lV x c e⟩
   . obtain⟨v,o,ho,hd⟩:=I.J x c e
     exact⟨v,o,k _ _ ho,hd⟩
 . rcases wd e with e|⟨_,e⟩
   . exact I.j.fresh (AE (CW _) (qY e))
   . exact I.G x c e
 . show (fr.map _).length=N.length
   rw[Ai];exact S.g
end
end L2
end
section
namespace L2
open PySem PySem.Spec PyProof.Rows
def nX:List TT->TT
 |[]=>λ_ H Q=>Q true H
 |t::ts=>λσ H Q=>t σ H λc H1=>if c=true then nX ts σ H1 Q else Q false H1
inductive PTs(X:Cx):List Expr->List TT->Prop
 |b:PTs X [] []
 |a {c:Expr} {cs:List Expr} {t:TT} {ts:List TT}:PT X c t->PTs X cs ts->PTs X (c::cs) (t::ts)
theorem sk{X:Cx}(h:Q false s):∀cs:List Expr,
 wpAny (model X.f X.w) X.A (forIn cs false λc r=>if r=true then do let ok <-isTrue c X.a (eval c X.a);pure (B8 ok) else pure (B8 r)) Q E s
 |[]=>Ab h
 |c::cs=>by rw[Er];exact dS (Ab (sk h cs))
theorem PTs.run:∀{cs} {ts},PTs X cs ts->∀{pins} {s} {σ} {H} {Q},Inv X pins σ H s->nX ts σ H Q ->
 wpAny (model X.f X.w) X.A (forIn cs true λc r=>if r=true then do let ok <-isTrue c X.a (eval c X.a);pure (B8 ok) else pure (B8 r)) (TP X pins σ Q) X.i s
 |_,_,.b,pins,s,σ,H,Q,I,h=>Ab ⟨H,I,h⟩
 |_,_,.a hc hs,pins,s,σ,H,Q,I,h=>by
  rw[Er];refine dS (dS (thn (hc pins s σ H _ I h) λc s1 ⟨H1,I1,q1⟩=>Ab ?_));cases c with
  |true=>exact hs.run I1 q1
  |false=>exact sk ⟨H1,I1,q1⟩ _
abbrev TB:=(St->Hp->Prop)->St->Hp->Prop
def PB(X:Cx)(B:Sem PUnit)(tb:TB):Prop:=
 ∀(pins:List (Addr × Obj)) (s:Shared) (σ:St) (H:Hp) (Nx:St->Hp->Prop),Inv X pins σ H s->tb Nx σ H->wpAny (model X.f X.w) X.A B (λ_ s'=>∃σ' H',Inv X pins σ' H' s'/\Nx σ' H') X.i s
def tTB(ts:List TT)(tb:TB):TS:=λD σ H=>nX ts σ H λc H1=>if c=true then tb D.a σ H1 else D.a σ H1
def pZ(J:It)(g:TG)(tb:TS)(D:Ends)(σ:St)(H:Hp):Prop:=∃W:Nat->Nat->St->Hp->Prop,(∃m,W 0 m σ H)/\∀i m σ H,W i m σ H ->
 (J.a i H/\D.a σ H)\/(J.c i H/\∃N:St->Hp->Prop,(∀σ' H',N σ' H'->∃m',m'<m/\W (i+1) m' σ' H')/\∀x H',J.b i H x H'->g x σ H' λσ2 H2=>tb {D with a:=N,d:=N,c:=D.a} σ2 H2)
theorem wk{X:Cx}{elt:Expr}{gens:List E4}{csc:Scope}{cpos:Pos}{d:Nat}{tg:Expr}{p:Pos}{ifs:List Expr}{B:Sem PUnit}{acc:Value}{it:Addr}{fp:List Addr}{tn:Nat->Heap->Prop}{J:It}{g:TG}{ts:List TT}{tb:TB}{D:Ends}
 {pins:List (Addr × Obj)} {σ:St} {H:Hp} {s:Shared} {R:Result->Shared->Prop}
 (heq:Dd (.ListComp elt gens csc cpos) d (.ref it) acc X.a=(do
  standAt p
  match <-pyNext (.ref it) with
  |none=>pure (.done .next)
  |some v=>
   Bt tg (.ref it) v
   assign tg X.a v
   let mut ok:=true
   for c in ifs do
    if ok then ok <-isTrue c X.a (eval c X.a)
   if ok then B
   again (.compLoop (.ListComp elt gens csc cpos) d (.ref it) acc X.a)))
 (hx:X.i=λ_ _=>False) (hc:X.j=true) (T:Turn X.f X.w X.K tg J fp it tn) (hg:PG X tg g) (ht:PTs X ifs ts) (hb:PB X B tb)
 (I:Inv X pins σ H s) (st:tn 0 s.heap) (f:∀b∈fp,wc X pins H b) (h:pZ J g (tTB ts tb) D σ H)
 (hR:∀σ' H' s',Inv X pins σ' H' s'->D.a σ' H'->(∀b∈fp,H' b=none)->R (.ok .next) s') :
 codeAny (model X.f X.w) X.A (.compLoop (.ListComp elt gens csc cpos) d (.ref it) acc X.a) R s:=by
 obtain⟨W,⟨m0,w0⟩,turn⟩:=h;have stat:∀{H':Hp},(∀b∈fp,H' b=none)->∀b∈fp,wc X pins H' b:=λhn b hb=>⟨hn b hb,(f b hb).2⟩;have no:∀{α:Type} {t:Sem α} {Q:α->Shared->Prop} {E':Value->Shared->Prop} {s:Shared},wpAny (model X.f X.w) X.A t Q X.i s->wpAny (model X.f X.w) X.A t Q E' s:=λh=>AY h (λ_ _ q=>q) λ_ _ z=>by rw[hx]at z;exact z.elim
 refine codeAny_loop rfl (λn s'=>∃i σ' H',Inv X pins σ' H' s'/\tn i s'.heap/\(∀b∈fp,H' b=none)/\W i n σ' H') (λn s3 hI=>?_) m0 ⟨0,σ,H,I,st,λb hb=>(f b hb).1,w0⟩;obtain⟨i,σ3,H3,I3,st3,fr3,w3⟩:=hI;show wpAny _ _ ((Dd (.ListComp elt gens csc cpos) d (.ref it) acc X.a).onRaise (λx=>do noteFrame x X.a;theTreesLotGoes x)) _ _ s3
 refine wpAny_noted ?_;rw[heq];refine dS (Bc (dS ?_));rcases turn i n σ3 H3 w3 with⟨stop,qn⟩|⟨go,N,hN,step⟩
 . refine no (thn (T.d X rfl rfl rfl hc i pins s3 σ3 H3 X.i I3 (stat fr3) st3 stop) λr s4 ⟨hr,I4⟩=>?_)
   subst hr;exact Ab (hR σ3 H3 s4 I4 qn fr3)
 . refine no (thn (T.e X rfl rfl rfl hc i pins s3 σ3 H3 X.i I3 (stat fr3) st3 go) λr s4 ⟨u,hr,h4⟩=>?_)
   subst hr;refine dS (no (thn h4 λ_ s5 ⟨x,H5,I5,r5,y5,st5,fr5⟩=>?_));have I5':=I5.pinned (stat fr5) (T.c _ _ st5);refine dS (no (thn (hg _ s5 σ3 H5 x u _ I5' r5 (step x H5 y5)) λ_ s6 ⟨σ6,H6,I6,q6⟩=>?_));refine dS (no (thn (ht.run I6 q6) λok s7 ⟨H7,I7,q7⟩=>?_));have again':∀{σ7:St} {H7:Hp} {s7:Shared},Inv X (pins++qb fp s5.heap) σ7 H7 s7->N σ7 H7->∃m,m<n/\∃i σ' H',Inv X pins σ' H' s7/\tn i s7.heap/\(∀b∈fp,H' b=none)/\W i m σ' H':=λ{σ7 H7 s7} I7 n7=>by obtain⟨m',hm,w7⟩:=hN σ7 H7 n7;refine⟨m',hm,i+1,σ7,H7,I7.tq,T.a _ _ _ st5 λb hb o e=>(I7.P (b,o) (A6 _ (A6 _ (vK hb e)))).1,λb hb=>?_,w7⟩;obtain⟨o,e,d⟩:=T.c _ _ st5 b hb;exact(I7.P (b,o) (A6 _ (A6 _ (vK hb e)))).2.1
   cases ok with
   |false=>exact Ab ⟨rfl,again' I7 q7⟩
   |true=>exact dS (no (thn (hb _ s7 σ6 H7 N I7 q7) λ_ s8 ⟨σ8,H8,I8,n8⟩=>Ab ⟨rfl,again' I8 n8⟩))
def vR(acc:Addr)(te:TE):TB:=λNx σ H=>te σ H λy H1=>∃ys,H1 acc=some (.b ys)/\ys.length<Au/\Nx σ (upd H1 acc (.b (ys++[y])))
theorem tN(he:PE X elt te):PB X (do let _ <-call (.builtin "list.append") [.ref acc,<-eval elt X.a]) (vR acc te):=by intro pins s σ H Nx I h;refine dS (thn (he pins s σ H _ I h) λu s1 ⟨y,H1,I1,r1,ys,hl,hz,q⟩=>?_);refine dS (thn (pT pins s1 σ H1 (.c acc) [y] (.ref acc) [u] (λ_ H'=>Nx σ H') I1 rfl (.cons r1 .nil) ⟨acc,ys,y,rfl,rfl,hl,hz,q⟩) λ_ s2 ⟨_,H2,I2,_,q2⟩=>?_);exact Ab ⟨σ,H2,I2,q2⟩
end L2
end
section
namespace L2
open PySem PySem.Spec PyProof.Rows
def wo(fr:List (Option Nat))(wi:TI)(g:TG)(ts:List TT)(tb:Addr->TB)(σ:St)(H:Hp)(Q:VK):Prop:=
 wi σ H λJ H1=>∀acc,H1 acc=none->pZ J g (tTB ts (tb acc)) ⟨λ_ H'=>Q (.c acc) H',λ_ _=>False,λ_ _=>False,λ_ _=>False⟩ (zd fr σ) (upd H1 acc (.b []))
section
variable {X:Cx}{pins:List (Addr × Obj)}{σ:St}{H:Hp}{s:Shared}{N:List Str}{csc:Scope}{fr:List (Option Nat)}{elt tg iter:Expr}{ifs:List Expr}{rest:List E4}{cpos:Pos}{wi:TI}{g:TG}{ts:List TT}{tb:Addr->TB}
theorem kz{outer:Env}{Q:Env->Shared->Prop}
 (hQ:∀h':Heap,h'.Ns s.heap.objs.size (λ_=>none)->(∀b o,s.heap.get? b=some o->h'.get? b=some o)->(∀x c,(wR scope s.heap.objs.size).lookup x=some c->h'.IsCell c none) ->
  Q {scope:=scope,locals:=s.heap.objs.size,globals:=globals,cells:=wR scope s.heap.objs.size++cl,qual:=qual,func:=none,code:=outer.code,frame:=outer.frame,builtins:=outer.builtins} {s with heap:=h'}) :
 wpAny M A (Gd scope globals cl [] qual none .none (some outer)) Q E s:=by
 simp only[Gd,Option.isSome_some,if_true];refine dS (wpAny_alloc ?_);refine dS (wpAny_layCells _ (λname kind cells=>by cases hkc:kind == Be<;>simp[hkc]) _ _ _ _ ?_)
 have ok:=cellsFrom_ok scope.names (s.heap.push {cls:=.type "dict",data:=.dict #[]}) (s.heap.objs.size+1) [] ⟨λ_ _ hm=>(nomatch hm),Fh⟩ (by rw[A5];exact xd _)
 rw[A5]at ok;rw[show ({s with heap:=s.heap.push {cls:=.type "dict",data:=.dict #[]}}:Shared).heap.objs.size=s.heap.objs.size+1 from A5 ..]
 rw[Ge];refine dS (Ab (Ab ?_));rw[uf];exact hQ _ ((Heap.Ns.new s.heap (.type "dict")).keeps (pushCells_keeps _ _)) (λb o e=>pushCells_keeps _ _ b o (nx _ e)) λx c hc=>(ok.empty x c (mem_of_lookup hc)).1
theorem sC{use:Option (Value->Sem Unit)}{QQ:Value->Shared->Prop}{Qv:VK}{B:Value->Env->Sem PUnit}{E:Value->Shared->Prop}(hE:E=X.i)(hc:X.j=true)(S:zi X N csc fr)(hi:PI X tg iter wi)
 (hturn:∀(it:Addr) (acc:Value) (env:Env),Dd (.ListComp elt (⟨tg,iter,ifs,0⟩::rest) csc cpos) 0 (.ref it) acc env=(do
  standAt iter.pos
  match <-pyNext (.ref it) with
  |none=>pure (.done .next)
  |some v=>
   Bt tg (.ref it) v
   assign tg env v
   let mut ok:=true
   for c in ifs do
    if ok then ok <-isTrue c env (eval c env)
   if ok then B acc env
   again (.compLoop (.ListComp elt (⟨tg,iter,ifs,0⟩::rest) csc cpos) 0 (.ref it) acc env)))
 (hg:∀C s0 H0 ex,PG (X.comp N csc C s0 H0 ex) tg g) (ht:∀C s0 H0 ex,PTs (X.comp N csc C s0 H0 ex) ifs ts)
 (hb:∀C s0 H0 ex acc,(∃pins',Inv X pins' σ H0 s0/\∀b∈ex,wc X pins' H0 b)->PB (X.comp N csc C s0 H0 ex) (B (.ref acc) (X.comp N csc C s0 H0 ex).a) (tb acc))
 (I:Inv X pins σ H s) (h:wo fr wi g ts tb σ H Qv)
 (hfin:∀acc C H' s',Inv X pins σ H' s'->Qv (.c acc) H'->(∃m,s'.heap.Ns C m)->H' C=none->C≠X.a.locals->X.l.heap.objs.size<=C->(∀x c,X.a.cells.lookup x=some c->c≠C)->(∀p∈X.q++pins,p.1≠C) ->
  compPost (model X.f X.w) X.A X.i use QQ (.ref acc) C (.ok .next) s') :
 wpAny (model X.f X.w) X.A (eval iter X.a) (λx s₁=>wpAny (model X.f X.w) X.A (pyIter x) (λit s₂=>wpAny (model X.f X.w) X.A (newList []) (λacc s₃=>
  wpAny (model X.f X.w) X.A (Gd csc X.a.globals (uP X.a.cells csc.names []) [] X.a.qual none .none (some X.a)) (λcenv s₄=>
   codeAny (model X.f X.w) X.A (.compStart (.ListComp elt (⟨tg,iter,ifs,0⟩::rest) csc cpos) 0 it acc {cenv with scope:=relabel csc X.a}) (compPost (model X.f X.w) X.A E use QQ acc cenv.locals) s₄) E s₃) E s₂) E s₁) E s:=by
 subst hE;refine thn (hi pins s σ H _ I h) λv s1 h1=>thn h1 λitv s2 h2=>?_;obtain⟨it,fp,tn,J,H2,e,I2,T,st2,f2,q2⟩:=h2;subst e;refine A4 ?_;have hfr:H2 s2.heap.objs.size=none:=I2.j.fresh (xd _);have q3:=q2 s2.heap.objs.size hfr;generalize hs3:({s2 with heap:=s2.heap.push {cls:=.type "list",dict:=none,data:=.seq ([]:List Value).toArray}}:Shared)=s3
 have k23:∀b u,s2.heap.get? b=some u->s3.heap.get? b=some u:=λb u e=>by rw[<-hs3];exact nx _ e
 have new3:s3.heap.get? s2.heap.objs.size=some {cls:=.type "list",dict:=none,data:=.seq ([]:List Value).toArray}:=by rw[<-hs3];exact Aq _ rfl
 have I3:Inv X pins σ (upd H2 s2.heap.objs.size (.b [])) s3:=by rw[<-hs3];exact I2.laid (t':=s2.toks) (λb u e=>nx _ e) (xd _) ⟨BX _,[],0,.nil,Aq _ rfl⟩
 have lt2:∀b∈fp,b<s2.heap.objs.size:=λb hb=>by obtain⟨o,e,_⟩:=T.c _ _ st2 b hb;exact Ae e
 have hsz:s3.heap.objs.size=s2.heap.objs.size+1:=by rw[<-hs3];exact A5 ..
 have f3:∀b∈fp,wc X pins (upd H2 s2.heap.objs.size (.b [])) b:=λb hb=>⟨by rw[zE (Ax (lt2 b hb))];exact(f2 b hb).1,(f2 b hb).2⟩
 have lt3:∀b∈fp,b<s3.heap.objs.size:=λb hb=>by rw[hsz];exact BH (lt2 b hb)
 refine kz λh4 hns4' k34 own4=>?_;have I4:=lQ (tk:=s3.toks) I3 S f3 lt3 hns4' k34 own4;have st4:tn 0 h4:=T.a _ _ _ st2 λb hb o e=>k34 b o (k23 b o e);have f4:∀b∈fp,wc (X.comp N csc s3.heap.objs.size s3 (upd H2 s2.heap.objs.size (.b [])) fp) [] (upd H2 s2.heap.objs.size (.b [])) b:=λb hb=>by have ok:=I4.C;obtain⟨g1,g2⟩:=ok.G b hb;exact⟨(f3 b hb).1,g1,ok.l b hb,.inl hb,g2,λp hp=>by simp at hp⟩
 have fin:∀σ' H' s',Inv (X.comp N csc s3.heap.objs.size s3 (upd H2 s2.heap.objs.size (.b [])) fp) [] σ' H' s'->Qv (.c s2.heap.objs.size) H'->(∀b∈fp,H' b=none) ->
  compPost (model X.f X.w) X.A X.i use QQ (.ref s2.heap.objs.size) s3.heap.objs.size (.ok .next) s':=λσ' H' s' I' q' _=>by
  have IX:Inv X pins σ H' s':=I3.UW I'.S I'.B I'.j I'.F λb hb=>by obtain⟨g0,g1,g2,g3,g4,g5⟩:=f3 b hb;exact⟨g3,g1,g4,g5⟩
  obtain⟨m,hn,_⟩:=I'.O;refine hfin _ _ H' s' IX q' ⟨m,hn⟩ I'.M (CI I3.lt) I3.sz (λx c e=>?_) λp hp=>?_
  . obtain⟨w',z⟩:=I3.J x c e
    exact Ax z.lt
  . exact Ax (Ae (I3.P p hp).1)
 have loop:codeAny (model X.f X.w) X.A (.compLoop (.ListComp elt (⟨tg,iter,ifs,0⟩::rest) csc cpos) 0 (.ref it) (.ref s2.heap.objs.size) (compEnvC csc (wR csc s3.heap.objs.size++uP X.a.cells csc.names []) s3.heap.objs.size X.a))
  (compPost (model X.f X.w) X.A X.i use QQ (.ref s2.heap.objs.size) s3.heap.objs.size) {s3 with heap:=h4}:=
  wk (X:=X.comp N csc s3.heap.objs.size s3 (upd H2 s2.heap.objs.size (.b [])) fp) (hturn it _ _) rfl hc T (hg _ _ _ _) (ht _ _ _ _) (hb _ _ _ _ _ ⟨pins,I3,f3⟩) I4 st4 f4 q3 fin
 exact codeAny_compStart_list loop (T.f X.A 0 _ _ _ st4 loop)
theorem me{B:Value->Env->Sem PUnit}(hc:X.j=true)(S:zi X N csc fr)(hi:PI X tg iter wi)
 (hturn:∀(it:Addr) (acc:Value) (env:Env),Dd (.ListComp elt (⟨tg,iter,ifs,0⟩::rest) csc cpos) 0 (.ref it) acc env=(do
  standAt iter.pos
  match <-pyNext (.ref it) with
  |none=>pure (.done .next)
  |some v=>
   Bt tg (.ref it) v
   assign tg env v
   let mut ok:=true
   for c in ifs do
    if ok then ok <-isTrue c env (eval c env)
   if ok then B acc env
   again (.compLoop (.ListComp elt (⟨tg,iter,ifs,0⟩::rest) csc cpos) 0 (.ref it) acc env)))
 (hg:∀C s0 H0 ex,PG (X.comp N csc C s0 H0 ex) tg g) (ht:∀C s0 H0 ex,PTs (X.comp N csc C s0 H0 ex) ifs ts)
 (hb:∀C s0 H0 ex acc,PB (X.comp N csc C s0 H0 ex) (B (.ref acc) (X.comp N csc C s0 H0 ex).a) (tb acc))
 (hs:∀x,AR iter X.a x=pure x:=by intro _;rfl) :
 PE X (.ListComp elt (⟨tg,iter,ifs,0⟩::rest) csc cpos) (wo fr wi g ts tb):=by
 intro pins s σ H Q I h;rw[eval_ListComp];refine DA (use:=none) rfl hs (wO (S.cells I.C)) S.b S.a ?_;refine sC (use:=none) rfl hc S hi hturn hg ht (λC s0 H0 ex acc _=>hb C s0 H0 ex acc) I h λacc C H' s' I' q' hn hC hL h0 hcl hpn=>?_;obtain⟨m,hn⟩:=hn;refine⟨m,hn,λh' sb=>⟨.c acc,H',?_,rfl,q'⟩⟩;exact I'.turned (t':=s'.toks) (λb o hb e=>(sb.2 b hb).trans e) hC (A9 (A9 hL)) (.inr h0) hcl hpn
theorem cu{B:Value->Env->Sem PUnit}{tp:St->Addr->TB}(hc:X.j=true)(S:zi X N csc fr)(hi:PI X tg iter wi)
 (hturn:∀(it:Addr) (acc:Value) (env:Env),Dd (.ListComp elt (⟨tg,iter,ifs,0⟩::rest) csc cpos) 0 (.ref it) acc env=(do
  standAt iter.pos
  match <-pyNext (.ref it) with
  |none=>pure (.done .next)
  |some v=>
   Bt tg (.ref it) v
   assign tg env v
   let mut ok:=true
   for c in ifs do
    if ok then ok <-isTrue c env (eval c env)
   if ok then B acc env
   again (.compLoop (.ListComp elt (⟨tg,iter,ifs,0⟩::rest) csc cpos) 0 (.ref it) acc env)))
 (hg:∀C s0 H0 ex,PG (X.comp N csc C s0 H0 ex) tg g) (ht:∀C s0 H0 ex,PTs (X.comp N csc C s0 H0 ex) ifs ts)
 (hb:∀σ C s0 H0 ex acc,(∃pins',Inv X pins' σ H0 s0/\∀b∈ex,wc X pins' H0 b)->PB (X.comp N csc C s0 H0 ex) (B (.ref acc) (X.comp N csc C s0 H0 ex).a) (tp σ acc))
 (hs:∀x,AR iter X.a x=pure x:=by intro _;rfl) :
 PE X (.ListComp elt (⟨tg,iter,ifs,0⟩::rest) csc cpos) (λσ=>wo fr wi g ts (tp σ) σ):=by
 intro pins s σ H Q I h;rw[eval_ListComp];refine DA (use:=none) rfl hs (wO (S.cells I.C)) S.b S.a ?_;refine sC (use:=none) rfl hc S hi hturn hg ht (hb σ) I h λacc C H' s' I' q' hn hC hL h0 hcl hpn=>?_;obtain⟨m,hn⟩:=hn;refine⟨m,hn,λh' sb=>⟨.c acc,H',?_,rfl,q'⟩⟩;exact I'.turned (t':=s'.toks) (λb o hb e=>(sb.2 b hb).trans e) hC (A9 (A9 hL)) (.inr h0) hcl hpn
theorem mq{B:Value->Env->Sem PUnit}{y:Str}{py spos:Pos}{i:Nat}(hc:X.j=true)(S:zi X N csc fr)(hi:PI X tg iter wi)
 (hturn:∀(it:Addr) (acc:Value) (env:Env),Dd (.ListComp elt (⟨tg,iter,ifs,0⟩::rest) csc cpos) 0 (.ref it) acc env=(do
  standAt iter.pos
  match <-pyNext (.ref it) with
  |none=>pure (.done .next)
  |some v=>
   Bt tg (.ref it) v
   assign tg env v
   let mut ok:=true
   for c in ifs do
    if ok then ok <-isTrue c env (eval c env)
   if ok then B acc env
   again (.compLoop (.ListComp elt (⟨tg,iter,ifs,0⟩::rest) csc cpos) 0 (.ref it) acc env)))
 (hg:∀C s0 H0 ex,PG (X.comp N csc C s0 H0 ex) tg g) (ht:∀C s0 H0 ex,PTs (X.comp N csc C s0 H0 ex) ifs ts)
 (hb:∀C s0 H0 ex acc,PB (X.comp N csc C s0 H0 ex) (B (.ref acc) (X.comp N csc C s0 H0 ex).a) (tb acc))
 (hN:X.N.Nodup) (hy:X.N[i]?=some y) (hx:Loc X.a.scope y)
 (hsw:Ec (.ListComp elt (⟨tg,iter,ifs,0⟩::rest) csc cpos) (some (.Name y py)) spos.line X.a=pure true:=by rfl)
 (hf:X.n y=true\/X.a.scope.names.lookup y=some .local:=by first|exact .inl rfl|exact .inr rfl|assumption)
 (hs:∀x,AR iter X.a x=pure x:=by intro _;rfl) :
 PS X (.Assign [.Name y py] (.ListComp elt (⟨tg,iter,ifs,0⟩::rest) csc cpos) spos) (uU (wo fr wi g ts tb) (xJ i)):=by
 intro pins s σ H D I h;rw[exec_Assign_Name_used _ _ _ _ hsw];refine dS (Bc (dS ?_));show wpAny _ X.A (do let _ <-comprehension (.ListComp elt (⟨tg,iter,ifs,0⟩::rest) csc cpos) csc X.a _ (newList []) false (eval iter X.a) (some (assign (.Name y py) X.a))) _ _ s
 refine dS (AY (DA (use:=some (assign (.Name y py) X.a)) (Q:=λ_ s'=>SP X pins D .next s') rfl hs (wO (S.cells I.C)) S.b S.a ?_) (λ_ s' hq=>Ab (Ab hq)) λ_ _ e=>e);refine sC (use:=some (assign (.Name y py) X.a)) rfl hc S hi hturn hg ht (λC s0 H0 ex acc _=>hb C s0 H0 ex acc) I h λacc C H' s' I' q' hn hC hL h0 hcl hpn=>?_;obtain⟨m,hn⟩:=hn;show wpAny _ X.A (assign (.Name y py) X.a (.ref acc)) _ _ _;refine wpAny_assign_Name (oB I' hN hy hx (show RelV (.c acc) (.ref acc) from rfl) (λs2 I2 ⟨a,sb,ha⟩=>?_) hf);have haC:C≠a:=by
  rcases ha with ha|ha
  . rw[ha];exact hL
  . exact A9 (hcl y a ha)
 refine⟨m,hn.sameBut sb haC,λh' sb'=>⟨_,H',?_,q'⟩⟩;exact I2.turned (t':=s2.toks) (λb o hb e=>(sb'.2 b hb).trans e) hC hL (.inr h0) hcl hpn
theorem aD(elt tg iter:Expr)(ifs:List Expr)(csc:Scope)(cpos:Pos)(it:Addr)(acc:Value)(env:Env) :
 Dd (.ListComp elt [⟨tg,iter,ifs,0⟩] csc cpos) 0 (.ref it) acc env=(do
  standAt iter.pos
  match <-pyNext (.ref it) with
  |none=>pure (.done .next)
  |some v=>
   Bt tg (.ref it) v
   assign tg env v
   let mut ok:=true
   for c in ifs do
    if ok then ok <-isTrue c env (eval c env)
   if ok then (do let _ <-call (.builtin "list.append") [acc,<-eval elt env])
   again (.compLoop (.ListComp elt [⟨tg,iter,ifs,0⟩] csc cpos) 0 (.ref it) acc env)):=by rfl
theorem XZ(elt tg iter:Expr)(ifs:List Expr)(tg2 iter2:Expr)(ifs2:List Expr)(csc:Scope)(cpos:Pos)(it:Addr)(acc:Value)(env:Env) :
 Dd (.ListComp elt [⟨tg,iter,ifs,0⟩,⟨tg2,iter2,ifs2,0⟩] csc cpos) 0 (.ref it) acc env=(do
  standAt iter.pos
  match <-pyNext (.ref it) with
  |none=>pure (.done .next)
  |some v=>
   Bt tg (.ref it) v
   assign tg env v
   let mut ok:=true
   for c in ifs do
    if ok then ok <-isTrue c env (eval c env)
   if ok then (do
    let x <-eval iter2 env
    standAt iter2.pos
    let x <-AR iter2 env x;let _ <-runOwn (.compStart (.ListComp elt [⟨tg,iter,ifs,0⟩,⟨tg2,iter2,ifs2,0⟩] csc cpos) 1 (<-holding [x] (pyIter x)) acc env) env)
   again (.compLoop (.ListComp elt [⟨tg,iter,ifs,0⟩,⟨tg2,iter2,ifs2,0⟩] csc cpos) 0 (.ref it) acc env)):=by
 have e:Dd (.ListComp elt [⟨tg,iter,ifs,0⟩,⟨tg2,iter2,ifs2,0⟩] csc cpos) 0 (.ref it) acc env=(do
  standAt iter.pos
  match <-pyNext (.ref it) with
  |none=>pure (.done .next)
  |some v=>
   Bt tg (.ref it) v
   assign tg env v
   let mut ok:=true
   for c in ifs do
    if ok then ok <-isTrue c env (eval c env)
   if ok then
    let x <-eval iter2 env
    standAt iter2.pos
    let x <-AR iter2 env x;let _ <-runOwn (.compStart (.ListComp elt [⟨tg,iter,ifs,0⟩,⟨tg2,iter2,ifs2,0⟩] csc cpos) 1 (<-holding [x] (pyIter x)) acc env) env
   again (.compLoop (.ListComp elt [⟨tg,iter,ifs,0⟩,⟨tg2,iter2,ifs2,0⟩] csc cpos) 0 (.ref it) acc env)):=by rfl
 rw[e];simp only[bind_assoc,Dz]
theorem UE(elt tg iter:Expr)(ifs:List Expr)(tg2 iter2:Expr)(ifs2:List Expr)(csc:Scope)(cpos:Pos)(it:Addr)(acc:Value)(env:Env) :
 Dd (.ListComp elt [⟨tg,iter,ifs,0⟩,⟨tg2,iter2,ifs2,0⟩] csc cpos) 1 (.ref it) acc env=(do
  standAt iter2.pos
  match <-pyNext (.ref it) with
  |none=>pure (.done .next)
  |some v=>
   Bt tg2 (.ref it) v
   assign tg2 env v
   let mut ok:=true
   for c in ifs2 do
    if ok then ok <-isTrue c env (eval c env)
   if ok then (do let _ <-call (.builtin "list.append") [acc,<-eval elt env])
   again (.compLoop (.ListComp elt [⟨tg,iter,ifs,0⟩,⟨tg2,iter2,ifs2,0⟩] csc cpos) 1 (.ref it) acc env)):=by rfl
end
end L2
end
section
namespace L2
open PySem PySem.Spec PyProof.Rows
theorem lP
 (h0:codeAny (model prog w) A (.compLoop (.ListComp elt [⟨tg,iter,ifs,0⟩,⟨tg2,iter2,ifs2,0⟩] csc cpos) 1 it acc env) R s)
 (h:wpAny (model prog w) A (pyIter it) (λit' s'=>codeAny (model prog w) A (.compLoop (.ListComp elt [⟨tg,iter,ifs,0⟩,⟨tg2,iter2,ifs2,0⟩] csc cpos) 1 it' acc env) R s')
  (notedBy (model prog w) A env λx s'=>R (.error x) s') s) :
 codeAny (model prog w) A (.compStart (.ListComp elt [⟨tg,iter,ifs,0⟩,⟨tg2,iter2,ifs2,0⟩] csc cpos) 1 it acc env) R s:=by
 refine codeAny_of_tree ?_;show wpAny _ _ ((compStart (.ListComp elt [⟨tg,iter,ifs,0⟩,⟨tg2,iter2,ifs2,0⟩] csc cpos) 1 it acc env).onRaise (λx=>do noteFrame x env;standAt theWindowsPlace)) _ _ s
 refine wpAny_notedAt ?_;unfold compStart;show wpAny _ _ (ask >>= _) _ _ s;refine dS (wpAny_askSetting (wpAny_ite ?_));split
 . first
    |exact dS (Ab (Ab (Ac rfl h0)))
    |exact Ab (Ac rfl h0)
 . first
    |exact dS (Dc (dS (Bc (dS (AY h (λit' s' h'=>Ab (Ac rfl h')) λ_ _ x=>x)))))
    |(refine dS (Dc ?_);show wpAny _ _ (standAt iter2.pos >>= _) _ _ s;exact dS (Bc (dS (AY h (λit' s' h'=>Ab (Ac rfl h')) λ_ _ x=>x))))
def qj(wi:TI)(g:TG)(ts:List TT)(tb:TB):TB:=λNx σ H=>wi σ H λJ H1=>pZ J g (tTB ts tb) ⟨Nx,λ_ _=>False,λ_ _=>False,λ_ _=>False⟩ σ H1
theorem mY
 (hx:X.i=λ_ _=>False) (hc:X.j=true) (hi:PI X tg2 iter2 wi) (hg:PG X tg2 g) (ht:PTs X ifs2 ts) (hb:PB X (do let _ <-call (.builtin "list.append") [.ref acc,<-eval elt X.a]) tb)
 (hs:∀x,AR iter2 X.a x=pure x:=by intro _;rfl) :
 PB X (do
       let x <-eval iter2 X.a
       standAt iter2.pos
       let x <-AR iter2 X.a x;let _ <-runOwn (.compStart (.ListComp elt [⟨tg,iter,ifs,0⟩,⟨tg2,iter2,ifs2,0⟩] csc cpos) 1 (<-holding [x] (pyIter x)) (.ref acc) X.a) X.a) (qj wi g ts tb):=by
 intro pins s σ H Nx I h;refine dS (thn (hi pins s σ H _ I h) λv s1 h1=>dS (Bc (dS (F4 (hs v) (dS (By (thn h1 λitv s2 h2=>?_)))))));obtain⟨it,fp,tn,J,H2,e,I2,T,st2,f2,q2⟩:=h2;subst e;refine dS (wpAny_runOwn ?_);have loop:codeAny (model X.f X.w) X.A (.compLoop (.ListComp elt [⟨tg,iter,ifs,0⟩,⟨tg2,iter2,ifs2,0⟩] csc cpos) 1 (.ref it) (.ref acc) X.a)
  (λr s'=>match r with|.ok f=>wpAny (model X.f X.w) X.A (pure PUnit.unit:Sem PUnit) (λ_ s'=>∃σ' H',Inv X pins σ' H' s'/\Nx σ' H') X.i s'|.error e=>Fv (model X.f X.w) X.A X.a X.i e s') s2:=
  wk (UE ..) hx hc T hg ht hb I2 st2 f2 q2 λσ' H' s' I' n' _=>Ab ⟨σ',H',I',n'⟩
 exact lP loop (T.f X.A 0 _ _ _ st2 loop)
section
variable {X:Cx}{N:List Str}{csc:Scope}{fr:List (Option Nat)}{elt tg iter tg2 iter2:Expr}{ifs ifs2:List Expr}{cpos:Pos}{wi wi2:TI}{g g2:TG}{ts ts2:List TT}{te:TE}
theorem rP(hc:X.j=true)(S:zi X N csc fr)(hi:PI X tg iter wi)(hg:∀C s0 H0 ex,PG (X.comp N csc C s0 H0 ex) tg g)(ht:∀C s0 H0 ex,PTs (X.comp N csc C s0 H0 ex) ifs ts)
 (he:∀C s0 H0 ex,PE (X.comp N csc C s0 H0 ex) elt te) (hs:∀x,AR iter X.a x=pure x:=by intro _;rfl) :
 PE X (.ListComp elt [⟨tg,iter,ifs,0⟩] csc cpos) (wo fr wi g ts λacc=>vR acc te):=
 me hc S hi (B:=λacc env=>(do let _ <-call (.builtin "list.append") [acc,<-eval elt env])) (aD elt tg iter ifs csc cpos) hg ht (λC s0 H0 ex acc=>tN (he C s0 H0 ex)) hs
theorem jw(hc:X.j=true)(S:zi X N csc fr)(hi:PI X tg iter wi)(hg:∀C s0 H0 ex,PG (X.comp N csc C s0 H0 ex) tg g)(ht:∀C s0 H0 ex,PTs (X.comp N csc C s0 H0 ex) ifs ts)
 (he:∀C s0 H0 ex,PE (X.comp N csc C s0 H0 ex) elt te) (hN:X.N.Nodup) (hy:X.N[i]?=some y) (hx:Loc X.a.scope y)
 (hsw:Ec (.ListComp elt [⟨tg,iter,ifs,0⟩] csc cpos) (some (.Name y py)) spos.line X.a=pure true:=by rfl)
 (hf:X.n y=true\/X.a.scope.names.lookup y=some .local:=by first|exact .inl rfl|exact .inr rfl|assumption)
 (hs:∀x,AR iter X.a x=pure x:=by intro _;rfl) :
 PS X (.Assign [.Name y py] (.ListComp elt [⟨tg,iter,ifs,0⟩] csc cpos) spos) (uU (wo fr wi g ts λacc=>vR acc te) (xJ i)):=
 mq hc S hi (B:=λacc env=>(do let _ <-call (.builtin "list.append") [acc,<-eval elt env])) (aD elt tg iter ifs csc cpos) hg ht (λC s0 H0 ex acc=>tN (he C s0 H0 ex)) hN hy hx hsw hf hs
theorem ma(hc:X.j=true)(S:zi X N csc fr)(hi:PI X tg iter wi)(hg:∀C s0 H0 ex,PG (X.comp N csc C s0 H0 ex) tg g)(ht:∀C s0 H0 ex,PTs (X.comp N csc C s0 H0 ex) ifs ts)
 (hi2:∀C s0 H0 ex,PI (X.comp N csc C s0 H0 ex) tg2 iter2 wi2) (hg2:∀C s0 H0 ex,PG (X.comp N csc C s0 H0 ex) tg2 g2) (ht2:∀C s0 H0 ex,PTs (X.comp N csc C s0 H0 ex) ifs2 ts2)
 (he:∀C s0 H0 ex,PE (X.comp N csc C s0 H0 ex) elt te) (hs:∀x,AR iter X.a x=pure x:=by intro _;rfl)
 (hs2:∀env x,AR iter2 env x=pure x:=by intro _ _;rfl) :
 PE X (.ListComp elt [⟨tg,iter,ifs,0⟩,⟨tg2,iter2,ifs2,0⟩] csc cpos) (wo fr wi g ts λacc=>qj wi2 g2 ts2 (vR acc te)):=
 me hc S hi (B:=λacc env=>(do
         let x <-eval iter2 env
         standAt iter2.pos
         let x <-AR iter2 env x;let _ <-runOwn (.compStart (.ListComp elt [⟨tg,iter,ifs,0⟩,⟨tg2,iter2,ifs2,0⟩] csc cpos) 1 (<-holding [x] (pyIter x)) acc env) env)) (XZ elt tg iter ifs tg2 iter2 ifs2 csc cpos) hg ht
  (λC s0 H0 ex acc=>mY rfl hc (hi2 C s0 H0 ex) (hg2 C s0 H0 ex) (ht2 C s0 H0 ex) (tN (he C s0 H0 ex)) (hs2 _)) hs
end
end L2
end
section
namespace L2
open PySem PySem.Spec PyProof.Rows
section
variable {X:Cx}
theorem rj:yB X (.builtin "isinstance") (λxs H Q=>∃x c t b,xs=[x,.k c]/\uy X.K H x (.type t)/\F7 X.K (.type t) (.type c)=some b/\Q (.f b) H):=by intro pins s σ H xs us Q I r h;obtain⟨x,c,t,b,rfl,ty,e,q⟩:=h;obtain⟨u,w',rfl,rx,rc⟩:=vals2 r;cases (show w'=Fp c from rc);exact iq I rx ty e λtk=>⟨.f b,H,I.tok _,rfl,q⟩
end
inductive Kd where
 |f|i|d|h|e|b|g
 deriving DecidableEq
noncomputable def Kd.nm:Kd->String
 |.f=>"NoneType"|.i=>"bool"|.d=>"int"|.h=>"str"|.e=>"list"|.b=>"tuple"|.g=>"dict"
noncomputable def Kd.sub(a c:Kd):Bool:=decide (a=c)||(decide (a=.i)&&decide (c=.d))
theorem W0 K(a c:Kd)(hc:c≠.f):F7 K (.type a.nm) (.type c.nm)=some (a.sub c):=by
 cases c with
 |f=>exact absurd rfl hc
 |i=>cases a<;>rfl
 |d=>cases a<;>rfl
 |h=>cases a<;>rfl
 |e=>cases a<;>rfl
 |b=>cases a<;>rfl
 |g=>cases a<;>rfl
section
variable {X:Cx}
theorem all_range:∀(bs:List Bool),((Bj bs.length).all λi=>bs.getD i false)=bs.all id:=by
 intro bs;induction bs with
 |nil=>rfl
 |cons b bs ih=>
  rw[AI,List.range_succ_eq_map,Cw,Cw,List.all_map];exact congrArg (b&&·) (Eq.trans (by congr 1) ih)
theorem Vals.bools:∀{bs:List Bool} {us},Vals (bs.map V.f) us->us=bs.map CO
 |[],us,r=>by cases r;rfl
 |b::bs,us,r=>by
  rw[A7]at r;cases r with
  |cons r1 r2=>
   cases (show _=CO b from r1);rw[Vals.bools r2,A7]
theorem rh(hc:X.j=true):yB X (.builtin "all") (λxs H Q=>∃(a:Addr) (bs:List Bool),xs=[.c a]/\SqL X.K H a (bs.map V.f)/\Q (.f (bs.all id)) H):=by
 intro pins s σ H xs us Q I r h;obtain⟨a,bs,rfl,ha,q⟩:=h;obtain⟨u,rfl,ru⟩:=vals1 r;cases ru;obtain⟨its,rv,pl,hz⟩:=I.list ha;have hits:=rv.bools;have alt:a<s.heap.objs.size:=by obtain⟨o,ho,_⟩:=pl.isList;exact Ae ho
 refine call_all_walk (CZ pl.isList ?_);refine⟨s.heap.objs.size,_,_,_,_,_,λi=>bs.getD i false,rfl,Gm (A:=X.A.in1) (I.C.i hc) s.heap.objs.size a (Ax alt) its.toArray,⟨⟨_,Aq _ rfl,rfl,rfl⟩,?_⟩,?_,λh' tk hk=>?_⟩
 . obtain⟨o,ho,hc',n,hd⟩:=pl.isList
   exact⟨o,nx _ ho,hc',n,hd⟩
 . intro i v s' Q' E' hv hq
   have hv':(bs.map CO)[i]?=some v:=by rw[<-hits];simpa using hv
   rw[AX]at hv';cases hb:bs[i]? with
   |none=>rw[hb]at hv';cases hv'
   |some b=>
    rw[hb]at hv';have:v=CO b:=(AQ hv').symm;subst this;have e:bs.getD i false=b:=by rw[AH,hb];rfl
    have hq':Q' (bs.getD i false) s':=hq;rw[e]at hq';exact Bq hq'
 . have e:(Bj its.toArray.size).all (λi=>bs.getD i false)=bs.all id:=by rw[Aa,hits,Ai];exact all_range bs
   rw[e];refine⟨.f (bs.all id),H,I.kept λb o ho=>hk b o ?_ (nx _ ho),rfl,q⟩;simpa using Ax (Ae ho)
end
end L2
end
section
namespace L2
open PySem PySem.Spec PyProof.Rows
theorem bX(h:H p=none)o:xf H (upd H p o):=λb u q=>by rw[zE (zQ q h)];exact q
def sW(H:Hp)(ys:List V)(Q:VK):Prop:=∀p H',xf H H'->H' p=some (.c ys)->Q (.c p) H'
theorem sW.new(g:sW H ys Q):∀p,H p=none->Q (.c p) (upd H p (.c ys)):=λp hp=>g p _ (bX hp _) zL
def RS:V->Option Int->Option Int->Hp->VK->Prop:=λx lo hi H Q=>∃a xs,x=.c a/\H a=some (.c xs)/\sW H (uQ xs lo hi) Q
def XG:R2:=λx y H Q=>∃a b xs ys,x=.c a/\y=.c b/\H a=some (.c xs)/\H b=some (.c ys)/\xs.length+ys.length<=Au/\sW H (xs++ys) Q
def SI:R2:=λx y H Q=>∃a k xs,x=.c a/\y=.d k/\H a=some (.c xs)/\2<=k/\k<=1000/\xs≠[]/\xs.length<=1000/\sW H (Al k.toNat xs).flatten Q
section
variable {X:Cx}
theorem iW{lo hi}(ht:IsTup s.heap t items)(hs:s.heap.IsSliceOf sl vl vu .none)(pl:IsPart vl lo)(pu:IsPart vu hi)
 (h0:HT.sIx items.size 0 lo=0) (h1:HT.sIx items.size items.size hi=items.size) (h:Q (.ref t) s):wpAny (model prog w) A (getItem (.ref t) (.ref sl)) Q E s:=by
 obtain⟨os,hos,hcs,hds⟩:=id hs;have hTs:s.TypeIs (.ref sl) "slice":=⟨os,hos,hcs⟩;unfold getItem
 try with_reducible refine By ?_
 first|refine dS (Ab ?_)|skip
 refine dS (Ff ht.typeIs (by decide) ?_)
 refine dS (Cc (name:=BG "__getitem__") ht.typeIs AV
  (CJ AV ht.typeIs EC ?_ (EM _ _)))
 show wpAny _ _ (Dk (.ref t) >>= _) _ _ s;refine dS (DZ ht ?_);refine dS (En hTs ?_);rw[if_pos (by decide)]
 refine dS (HT.wz hs pl pu ?_);have hyes:(((HT.sIx items.size 0 lo:Nat):Int) == 0&&(1:Int) == 1&&(HT.sIx items.size items.size hi-HT.sIx items.size 0 lo) == items.size)=true:=by rw[h0,h1];simp
 show wpAny _ _ (if (((HT.sIx items.size 0 lo:Nat):Int) == 0&&(1:Int) == 1&&(HT.sIx items.size items.size hi-HT.sIx items.size 0 lo) == items.size)=true then _ else _) _ _ s
 rw[if_pos hyes];unfold E5;refine dS (dS (En ht.typeIs (Ab ?_)));rw[if_pos (by decide)]
 exact dS (Dc (Ab ⟨_,rfl,Ab h⟩))
theorem YE:SlR X RS:=by
 intro pins s σ H x v vl vu lo hi sl Q I rx hs pl pu h;obtain⟨a,xs,rfl,hx,g⟩:=h;by_cases hw:HT.sIx xs.length 0 lo=0/\HT.sIx xs.length xs.length hi=xs.length
 . cases rx
   obtain⟨its,r,ht,hz⟩:=I.tuple (.inl (.inl hx));have hlen:its.toArray.size=xs.length:=by rw[Aa];exact r.length.symm
   refine⟨"tuple",_,AV.lookup,ht.typeIs,?_⟩;refine iW ht hs pl pu (by rw[hlen];exact hw.1) (by rw[hlen];exact hw.2) ⟨.c a,H,I,rfl,g a H (xf.refl H) ?_⟩
   rw[hx];unfold uQ;rw[hw.1,hw.2,DI,Nat.sub_zero,List.take_length]
 . exact Vx pins s σ H (.c a) v vl vu lo hi sl Q I rx hs pl pu ⟨a,xs,rfl,.inl (.inl hx),hw,g.new⟩
theorem cL:OpR X (Bw .Add) XG:=by
 intro pins s σ H x y v u Q I rx ry h;obtain⟨a,b,xs,ys,rfl,rfl,ha,hb,hz,g⟩:=h;by_cases hx:xs=[]
 . cases rx
   cases ry;subst hx;obtain⟨its,r1,p1,_⟩:=I.tuple (.inl (.inl ha));obtain⟨its2,r2,p2,_⟩:=I.tuple (.inl (.inl hb));cases r1;obtain⟨⟨cls,dd,data,sl⟩,ho,hc,n,hd⟩:=id p1;obtain⟨⟨cls2,dd2,data2,sl2⟩,ho2,hc2,n2,hd2⟩:=id p2;simp only at hc hd hc2 hd2;subst hc hd hc2 hd2;exact concat_meets ⟨_,ho,rfl⟩ ⟨_,ho2,rfl⟩ D3 E2 BW BR (BO _ _)
    (tuple_addW0 a b #[] its2.toArray n n2 dd dd2 sl sl2 rfl) ⟨ho,ho2,⟨.c b,H,I,rfl,g b H (xf.refl H) hb⟩⟩
 . refine Zn pins s σ H (.c a) (.c b) v u Q I rx ry ⟨a,b,xs,ys,rfl,rfl,.inl (.inl ha),.inl (.inl hb),hx,hz,λe=>?_,λ_=>g.new⟩
   subst e;rw[Bb]at g;exact g a H (xf.refl H) ha
theorem xR:fillsNumberSlot (.type "tuple") "mul"=pure false:=
 PySem.fillsNumberSlot_seq (id:="tuple.__mul__") (r:=some (.builtin "tuple.__rmul__")) De.lookup (by decide +kernel) F.slot_tuple_rmul.lookup (by decide +kernel)
theorem vP:seqRepeat? (.type "tuple")=pure (some (.builtin "tuple.__mul__")):=by
 unfold seqRepeat?;rw[PySem.seqSlot_of (T:="tuple") (name:="__mul__") (id:="tuple.__mul__") De.lookup (by decide +kernel),PySem.seqSlot_of (T:="tuple") (name:="__rmul__") (id:="tuple.__rmul__") F.slot_tuple_rmul.lookup (by decide +kernel)]
 rfl
theorem xw a t l items n dd sl :
 Meets (Builtin.«int.__rmul__» ⟨[.int a t,.ref l],[]⟩) (λ_ R s=>s.heap.get? l=some {cls:=.type "tuple",dict:=dd,data:=.seq items n,slots:=sl}/\R (.ok (.ret Value.notImplemented)) s):=
 .of_wp λprog w A R s h=>by obtain⟨hp,g,d,tk,os⟩:=s;obtain⟨hl,h⟩:=h;wp_walk;exact⟨_,rfl,h⟩
theorem km l items n x u dd sl(h1:2<=x)(h2:x<=1000)(h3:¬items.isEmpty=true)(h4:items.size<=1000) :
 Meets (Builtin.«tuple.__mul__» ⟨[.ref l,.int x u],[]⟩) (λ_ R s=>s.heap.get? l=some {cls:=.type "tuple",dict:=dd,data:=.seq items n,slots:=sl} /\
  R (.ok (.ret (A0 s.heap.objs.size))) {s with heap:=s.heap.push {cls:=Fp "tuple",data:=Data.seq (DH (λx1 x2=>x1++x2) #[] (Al x.toNat items))},toks:=s.toks}):=
 .of_wp λprog w A R s h=>by
  obtain⟨hp,g,d,tk,os⟩:=s;obtain⟨hl,h⟩:=h;have f1:=FF;have c1:¬((decide (x < -(2 ^ 63))||decide (x ≥ 2 ^ 63))=true):=by simp;omega
  have c2:¬((items.isEmpty||x == 1)=true):=by simp at h3 ⊢;exact⟨h3,by omega⟩
  have c3:¬((decide (x<=0)||items.isEmpty)=true):=by simp at h3 ⊢;exact⟨by omega,h3⟩
  have hprod:(items.size:Int)*x<=1000*1000:=Int.mul_le_mul (by omega) h2 (by omega) (by omega)
  have c4:¬((items.size:Int)*x > (2 ^ 63-1)/8):=by omega
  have hL:Au=16777216:=AK;have c5:¬(Dl ((items.size:Int)*x)=true):=by unfold Dl;rw[hL];simp only[decide_eq_true_eq];omega
  have hn:(DH (λx1 x2=>x1++x2) #[] (Al x.toNat items)).size=x.toNat*items.size:=by have e:=foldl_rep items.toList x.toNat [];simp only[Array.toArray_toList,Ds]at e;rw[e,Aa,len_rep,CM]
  have htake:sizeOk (.seq (DH (λx1 x2=>x1++x2) #[] (Al x.toNat items))):=by
   show (DH (λx1 x2=>x1++x2) #[] (Al x.toNat items)).size<=Au;rw[hn,hL];have:x.toNat*items.size<=1000*1000:=Nat.mul_le_mul (by omega) h4
   omega
  wp_walk using BL hl
  rw[if_neg c1];refine dS (DZ (items:=items) ⟨_,hl,rfl,n,rfl⟩ ?_);rw[if_neg c2];show wpAny _ _ (if (decide (x<=0)||items.isEmpty)=true then _ else _) _ _ _
  rw[if_neg c3];show wpAny _ _ (if (items.size:Int)*x > (2 ^ 63-1)/8 then _ else _) _ _ _
  rw[if_neg c4];show wpAny _ _ (if Dl ((items.size:Int)*x)=true then _ else _) _ _ _
  rw[if_neg c5];exact dS (m:=Bn _) (A4 (Ab ⟨_,rfl,h⟩) htake)
theorem Zr:OpR X (Bw .Mult) SI:=by
 intro pins s σ H x y v u Q I rx ry h;obtain⟨a,k,xs,rfl,rfl,ha,h1,h2,h3,h4,g⟩:=h;cases rx;obtain⟨t,rfl⟩:=ry;obtain⟨its,r,p1,_⟩:=I.tuple (.inl (.inl ha));obtain⟨⟨cls,dd,data,sl⟩,ho,hc,n,hd⟩:=id p1;simp only at hc hd;subst hc hd;have hl:=r.length;have hne:¬its.toArray.isEmpty=true:=by simp;intro e;exact h3 (r.wJ.mp e)
 refine CB (T:="tuple") (U:="int") (by decide) ⟨_,ho,rfl⟩ (λs'=>CT s' k t) xR Ep B7 vP D6.lookup
  (BK B7 (CT s k t) D7 (DR _ _) (xw k t a its.toArray n dd sl)
   ⟨ho,rfl,⟨_,ho,rfl⟩,BK De ⟨_,ho,rfl⟩ Fj (ES _ _) (km a its.toArray n k t dd sl h1 h2 hne (by rw[Aa,<-hl];exact h4)) ⟨ho,?_⟩⟩)
 have e:=foldl_rep its k.toNat [];rw[Ds]at e;have hz:(Al k.toNat xs).flatten.length<=Au:=by
  rw[len_rep,AK];have:k.toNat*xs.length<=1000*1000:=Nat.mul_le_mul (by omega) h4
  omega
 refine⟨.c s.heap.objs.size,_,I.laid (t':=s.toks) (o:=.c (Al k.toNat xs).flatten) (λb ob q=>nx _ q) (xd _) ⟨hz,(Al k.toNat its).flatten,r.rep k.toNat,?_⟩,rfl,g.new _ (I.j.fresh (xd _))⟩;rw[show (#[]:Array Value)=([]:List Value).toArray from rfl,e];exact ux.new _ _
end
end L2
end
section
namespace L2
open PySem PySem.Spec PyProof.Rows
section
variable {X:Cx}{pos:Pos}
def XU(i j k:Nat)(ta:TA):TS:=λD σ H=>ta σ H λvs H1=>∃v w z,vs=[v,w,z]/\D.a (((σ.set i (some v)).set j (some w)).set k (some z)) H1
theorem vals3(r:Vals [x,y,z] us):∃u1 u2 u3,us=[u1,u2,u3]/\RelV x u1/\RelV y u2/\RelV z u3:=by
 cases r with
 |cons r1 r2=>
  cases r2 with
  |cons r3 r4=>
   cases r4 with
   |cons r5 r6=>cases r6;exact⟨_,_,_,rfl,r1,r3,r5⟩
theorem Z7{kt k2 pt2}(hc:X.j=true)(hN:X.N.Nodup)(hi:X.N[i]?=some x)(hj:X.N[j]?=some y)(hk:X.N[k]?=some z)(hij:i≠j)(hik:i≠k)(hjk:j≠k)
 (hx:X.a.scope.names.lookup x=some .local) (hy:X.a.scope.names.lookup y=some .local) (hz:X.a.scope.names.lookup z=some .local) (ha:PA X [a,b,c] ta)
 (hw:BP [.Tuple [.Name x px,.Name y py,.Name z pz] kt pt] (.Tuple [a,b,c] k2 pt2) X.a=pure (some [x,y,z]))
 (hs:DY [.Tuple [.Name x px,.Name y py,.Name z pz] kt pt] (.Tuple [a,b,c] k2 pt2) pos.line X.a=pure false:=by rfl) :
 PS X (.Assign [.Tuple [.Name x px,.Name y py,.Name z pz] kt pt] (.Tuple [a,b,c] k2 pt2) pos) (XU i j k ta):=by
 intro pins s σ H D I h;rw[exec_Assign_arm];refine dS (Bc ?_);rw[hs];refine dS (Ab ?_);rw[if_neg (by decide)]
 refine dS (Tuple_ (thn (ha _ pins s σ H _ I h) λus s1 ⟨vs,H1,I1,r1,q1⟩=>?_));obtain⟨v,w,zz,e1,q1⟩:=q1;subst e1;obtain⟨u1,u2,u3,rfl,rv,rw',rz⟩:=vals3 r1;refine A4 ?_ (by show 3<=Au;decide)
 have I2:Inv X pins σ H1 {s1 with heap:=s1.heap.push {cls:=.type "tuple",data:=.seq [u1,u2,u3].toArray}}:=I1.kept (t':=s1.toks) λb o e=>nx _ e
 rw[hw];refine dS (Ab ?_);show wpAny (model X.f X.w) X.A (do rule "assign.swapped-stores";let items <-unpackItems (.ref s1.heap.objs.size) 3 none;DX [λv=>CV X.a z v,λv=>CV X.a y v,λv=>CV X.a x v] items.reverse;pure Gy) _ _ _
 refine dS (Dc (dS (unpackItems_tuple (items:=#[u1,u2,u3]) (I.C.i hc) (IsTup.new s1.heap _) λh' hx'=>?_)));have I3:=I2.kept (h':=h') (t':=s1.toks) λb o e=>hx' b o (Ax (Ae e)) e;show wpAny _ _ (DX [λv=>CV X.a z v,λv=>CV X.a y v,λv=>CV X.a x v] [u3,u2,u1] >>= λ_=>pure Gy) _ _ _;refine dS (Cj (DG (xG I3 hN hk (.inl hz) rz (λs2 I4=>?_) (.inr hz))));refine Cj (DG (xG I4 hN hj (.inl hy) rw' (λs3 I5=>?_) (.inr hy)));refine Cj (DG (xG I5 hN hi (.inl hx) rv (λs4 I6=>Fd (Ab ?_)) (.inr hx)));refine⟨_,H1,?_,q1⟩;have e:((σ.set k (some zz)).set j (some w)).set i (some v)=((σ.set i (some v)).set j (some w)).set k (some zz):=by rw[EZ _ _ (A9 hij),EZ _ _ (A9 hik),EZ _ _ (A9 hjk)]
 rw[<-e];exact I6
theorem Zy(hb:∀pins σ H s,Inv X pins σ H s->BZ<s.heap.objs.size):PE X (.Dict [] [] pos) (λ_ H Q=>∀p,H p=none->Q (.c p) (upd H p (.i []))):=λpins s σ H Q I h=>
 FG ⟨.c s.heap.objs.size,_,I.laid (a:=s.heap.objs.size) (o:=.i []) (t':=s.toks) (λ_ _ q=>nx _ q) (xd _)
  ⟨BX _,beq_eq_false_iff_ne.mpr (A9 (Ax (hb pins σ H s I))),[],.nil,Heap.DictOf.new s.heap⟩,rfl,h _ (I.j.fresh (xd _))⟩
end
mutual
inductive DD(H:Hp)(p:Addr):V->PyData->Prop
 |non:DD H p .g .none
 |bl (b:Bool):DD H p (.f b) (.bool b)
 |int (i:Int):DD H p (.d i) (.int i)
 |str (x:Str):DD H p (.e x) (.str x)
 |lst {a:Addr} {xs:List V} {ds:List PyData}:H a=some (.b xs)->a≠p->DDs H p xs ds->DD H p (.c a) (.list ds)
 |tup {a:Addr} {xs:List V} {ds:List PyData}:H a=some (.c xs)->a≠p->DDs H p xs ds->DD H p (.c a) (.tuple ds)
 |dct {a:Addr}:H a=some (.i [])->a≠p->DD H p (.c a) (.dict [])
inductive DDs(H:Hp)(p:Addr):List V->List PyData->Prop
 |b:DDs H p [] []
 |a {x:V} {xs:List V} {d:PyData} {ds:List PyData}:DD H p x d->DDs H p xs ds->DDs H p (x::xs) (d::ds)
end
theorem DDs.length:∀{vs} {ds},DDs H p vs ds->vs.length=ds.length
 |_,_,.b=>rfl
 |_,_,.a _ rs=>by rw[AI,AI,rs.length]
theorem DDs.append:∀{vs ws} {ds es},DDs H p vs ds->DDs H p ws es->DDs H p (vs++ws) (ds++es)
 |_,_,_,_,.b,r=>r
 |_,_,_,_,.a r rs,q=>.a r (rs.append q)
mutual
noncomputable def xB:PyData->Bool
 |.none|.bool _|.int _|.str _=>false
 |.list _=>true
 |.tuple xs=>xQ xs
 |.dict _=>false
noncomputable def xQ:List PyData->Bool
 |[]=>false
 |x::xs=>xB x||xQ xs
end
structure Yh(d:PyData):Prop where
 sh:d.showable=true
 a:d.hasDict=true->xB d=false
 dp:d.depth<=50
 ln:d.shown.length<=Au
end L2
end
section
namespace L2
open PySem PySem.Spec PyProof.Rows
structure vS(k w:Nat)(d:PyData):Prop where
 c:d.showable=true
 b:d.leavesShort 40=true
 a:d.depth<=k
 f:d.weight<=w
theorem vS.mono(h:vS k w d)(h1:k<=k')(h2:w<=w'):vS k' w' d:=⟨h.c,h.b,AE h.a h1,AE h.f h2⟩
theorem mL(h1:-(10 ^ 30)<i)(h2:i<10 ^ 30):vS 0 100 (.int i):=by
 have hn:i.natAbs<10 ^ 30:=by omega
 have h100:i.natAbs<2 ^ 100:=Nat.lt_trans hn (by decide)
 have hlog:i.natAbs≠0->i.natAbs.log2<100:=λz=>(Nat.log2_lt z).mpr h100;refine⟨?_,?_,BX _,?_⟩
 . show decide (i.natAbs.log2<1920)=true
   by_cases z:i.natAbs=0
   . rw[z];decide
   . exact decide_eq_true (Nat.lt_trans (hlog z) (by decide))
 . show decide ((PyData.shown (.int i)).length<=40)=true
   refine decide_eq_true ?_;show (BG (Gn i)).length<=40;by_cases z:0<=i
   . exact AE (toString_length_le z (k:=30) (by decide) h2) (by decide)
   . have e:=len_text_negI (n:=i) (by omega)
     have e2:=toString_length_le (v:=0-i) (k:=30) (by omega) (by decide) (by omega)
     omega
 . show (if i == 0 then 0 else i.natAbs.log2+1)<=100
   split
   . exact BX _
   . rename_i z
     have z':i≠0:=by simpa using z
     exact hlog (by omega)
theorem hX:vS 0 0 .none:=⟨rfl,rfl,xd _,xd _⟩
theorem hJ b:vS 0 0 (.bool b):=⟨rfl,rfl,xd _,xd _⟩
theorem vD:∀{ds},(∀d∈ds,d.showable=true)->PyData.showableAll ds=true
 |[],_=>rfl
 |d::ds,h=>by rw[PyData.showableAll,h d As,vD λx hx=>h x (Ah _ hx)];rfl
theorem t7:∀{ds},(∀d∈ds,d.leavesShort 40=true)->PyData.leavesShortAll 40 ds=true
 |[],_=>rfl
 |d::ds,h=>by rw[PyData.leavesShortAll,h d As,t7 λx hx=>h x (Ah _ hx)];rfl
theorem tx:∀{ds},(∀d∈ds,d.depth<=k)->PyData.depthAll ds<=k
 |[],_=>BX _
 |d::ds,h=>by rw[PyData.depthAll];exact Nat.max_le.mpr ⟨h d As,tx λx hx=>h x (Ah _ hx)⟩
theorem ud:∀{ds},(∀d∈ds,d.weight<=w)->FH ds<=ds.length*(w+1)
 |[],_=>by simp[FH]
 |d::ds,h=>by rw[FH,AI,Nat.succ_mul];have h1:=h d As;have h2:=ud λx hx=>h x (Ah _ hx);omega
theorem lg(h:∀d∈ds,vS k w d)(hn:ds.length<=n):vS (k+1) (n*(w+1)) (.tuple ds):=by refine⟨vD λd hd=>(h d hd).c,t7 λd hd=>(h d hd).b,Nat.succ_le_succ (tx λd hd=>(h d hd).a),?_⟩;exact AE (ud λd hd=>(h d hd).f) (Nat.mul_le_mul_right _ hn)
theorem hU(h:∀d∈ds,vS k w d)(hn:ds.length<=n):vS (k+1) (n*(w+1)) (.list ds):=by refine⟨vD λd hd=>(h d hd).c,t7 λd hd=>(h d hd).b,Nat.succ_le_succ (tx λd hd=>(h d hd).a),?_⟩;exact AE (ud λd hd=>(h d hd).f) (Nat.mul_le_mul_right _ hn)
theorem d0(h1:∀c∈x.cps.toList,c<16 ^ 8)(h2:x.cps.size<=100):vS 0 100 (.str x):=by refine⟨rfl,?_,BX _,h2⟩;show (x.cps.toList.all λc=>decide (c<16 ^ 8))=true;rw[AF];exact λc hc=>decide_eq_true (h1 c hc)
theorem vS.SX(h:vS k w d)(hk:k<=50)(hw:w<=300000)(mix:d.hasDict=true->xB d=false):Yh d:=by
 refine⟨h.c,mix,AE h.a hk,?_⟩;have e:=PyData.shown_le 40 (by decide) d h.b
 have e2:=h.f;rw[AK];have:(40+2)*d.weight<=42*300000:=Nat.mul_le_mul_left _ (AE e2 hw);omega
theorem sJ:∀{ds},(∀d∈ds,d.hasDict=false)->PyData.hasDictAll ds=false
 |[],_=>rfl
 |d::ds,h=>by rw[PyData.hasDictAll,h d As,sJ λx hx=>h x (Ah _ hx)];rfl
end L2
end
section
namespace L2
open PySem PySem.Spec PyProof.Rows
section
variable {X:Cx}{pos:Pos}
theorem Ts(hg:Gl X x)(hm:X.d x=none)(hv:BV x=some (.type n))(hn:x≠"__name__":=by decide)(hd:(x == ("__debug__":Str))=false:=by decide):PE X (.Name x pos) (tC (.k n)):=
 Zx hg hm hv (show RelV (.k n) (.type n) from rfl) hn hd
theorem Tz(ha:PT X a tA)(hb:PW X (.BoolOp .Or (b::rest) pos) tB'):PT X (.BoolOp .Or (a::b::rest) pos) (tOr tA tB'):=(T6 ha hb).pt
noncomputable def noStar:Expr->Bool
 |.Starred ..=>false
 |_=>true
theorem ze(h:noStar e=true):AD (e::es) env=(false,eval e env)::AD es env:=by
 cases e<;>first|rfl|cases h
theorem pac(ha:PE X e te)(hr:PA X es t)(hs:noStar e=true:=by rfl):PA X (e::es) (wB te t):=yo ha hr (ze hs)
noncomputable def vh(sc0:Scope)(N0 N:List Str)(csc:Scope)(fr:List (Option Nat)):Bool:=
 decide (csc.kind=.function)&&csc.names.all (λx=>decide (x.2≠.cell)||csc.names.all λy=>decide (y≠(x.1,AB)))&&csc.names.all (λx=>decide (x.2≠.local)||decide (csc.names.lookup x.1=some .local)) &&
 csc.names.all (λx=>decide (x.2≠.free)||(decide (sc0.names.lookup x.1=some .cell)||decide (sc0.names.lookup x.1=some .free)))&&decide (fr.length=N.length) &&
 (Bj N.length).all (λi=>match fr[i]?,N[i]? with|some (some j),some x=>decide (N0[j]?=some x)&&csc.names.any (λy=>decide (y.1=x)&&decide (y.2=.free))|_,_=>true) &&
 csc.names.all (λx=>decide (x.2≠.free)||decide (csc.names.lookup x.1≠some .local))&&(decide (("!":Str) ∉ N)||(decide (("!":Str)∈N0)&&sc0.names.any (λy=>decide (sc0.names.lookup y.1=some .cell))))
end
end L2
end
section
namespace L2
open PySem PySem.Spec PyProof.Rows
noncomputable def yC{α:Type}(xs:List α)(lo st:Int)(n:Nat):List α:=(Bj n).filterMap λ(k:Nat)=>xs[(lo+(k:Int)*st).toNat]?
theorem Vals.pick(r:Vals xs us):∀(is:List Nat),Vals (is.filterMap λi=>xs[i]?) (is.filterMap λi=>us[i]?)
 |[]=>.nil
 |i::is=>by
  rw[A3,A3];cases hx:xs[i]? with
  |none=>rw[r.none_of hx];exact Vals.pick r is
  |some x=>
   obtain⟨u,hu,ru⟩:=r.get hx;rw[hu];exact .cons ru (Vals.pick r is)
theorem Vals.yC{xs:List V}{us:List Value}(r:Vals xs us)(lo st:Int)(n:Nat):Vals (yC xs lo st n) (L2.yC us lo st n):=by have h:=r.pick ((Bj n).map λ(k:Nat)=>(lo+(k:Int)*st).toNat);rw[B1,B1]at h;exact h
theorem mj(xs:List α)lo st n:(yC xs lo st n).length<=n:=by have:=FI (λ(k:Nat)=>xs[(lo+(k:Int)*st).toNat]?) (Bj n);rw[C0]at this;exact this
noncomputable def yl(n:Nat)(lo hi:Option Int)(st:Int):Int × Nat:=((BJ lo hi st (n:Int)).1,B3 (BJ lo hi st (n:Int)).1 (BJ lo hi st (n:Int)).2 st)
section
variable {prog:Program}{w:World}{A:Around}{E:Value->Shared->Prop}{s:Shared}
theorem qz{lo hi}{st}{n:Nat}(hs:s.heap.IsSliceOf sl vl vu vc)(pl:IsPart vl lo)(pu:IsPart vu hi)(pc:IsPart vc (some st))(h0:st≠0)
 (h:Q ((yl n lo hi st).1,st,(yl n lo hi st).2) s):wpAny (model prog w) A (Cv (.ref sl) (pure (n:Int))) Q E s:=by
 obtain⟨os,hos,hcs,hds⟩:=id hs;unfold Cv Fs;refine dS (dS (Ci hos hds (x:=vl) rfl (dS (Ci hos hds (x:=vu) rfl (dS (Ci hos hds (x:=vc) rfl (Ab ?_)))))));refine dS (HT.wA pc ?_);show wpAny _ _ (if (st == 0)=true then _ else _) _ _ s
 rw[if_neg (by simpa using h0)]
 exact dS (HT.wA pl (dS (HT.wA pu (dS (Ab (Ab h))))))
theorem aC{lo hi}{st}(ht:IsTup s.heap t items)(hs:s.heap.IsSliceOf sl vl vu vc)(pl:IsPart vl lo)(pu:IsPart vu hi)(pc:IsPart vc (some st))(h0:st≠0)
 (hq1:(yl items.size lo hi st).1=0->st=1->(yl items.size lo hi st).2=items.size->Q (.ref t) s)
 (hq2:Q (.ref s.heap.objs.size) {s with heap:=s.heap.push {cls:=.type "tuple",data:=.seq (yC items.toList (yl items.size lo hi st).1 st (yl items.size lo hi st).2).toArray}})
 (hsz:(yl items.size lo hi st).2<=Au):wpAny (model prog w) A (getItem (.ref t) (.ref sl)) Q E s:=by
 obtain⟨os,hos,hcs,hds⟩:=id hs;have hTs:s.TypeIs (.ref sl) "slice":=⟨os,hos,hcs⟩;have htake:sizeOk (.seq (yC items.toList (yl items.size lo hi st).1 st (yl items.size lo hi st).2).toArray):=by show (yC items.toList (yl items.size lo hi st).1 st (yl items.size lo hi st).2).toArray.size<=Au;rw[Aa];exact AE (mj _ _ _ _) hsz
 have epick:((Bj (yl items.size lo hi st).2).filterMap λ(k:Nat)=>items[((yl items.size lo hi st).1+(k:Int)*st).toNat]?).toArray=(yC items.toList (yl items.size lo hi st).1 st (yl items.size lo hi st).2).toArray:=by unfold yC;simp only[Array.getElem?_toList]
 unfold getItem
 try with_reducible refine By ?_
 first|refine dS (Ab ?_)|skip
 refine dS (Ff ht.typeIs (by decide) ?_)
 refine dS (Cc (name:=BG "__getitem__") ht.typeIs AV
  (CJ AV ht.typeIs EC ?_ (EM _ _)))
 show wpAny _ _ (Dk (.ref t) >>= _) _ _ s;refine dS (DZ ht ?_);refine dS (En hTs ?_);rw[if_pos (by decide)]
 refine dS (qz (n:=items.size) hs pl pu pc h0 ?_);by_cases hw:((yl items.size lo hi st).1 == 0&&st == 1&&(yl items.size lo hi st).2 == items.size)=true
 . show wpAny _ _ (if ((yl items.size lo hi st).1 == 0&&st == 1&&(yl items.size lo hi st).2 == items.size)=true then _ else _) _ _ s
   rw[if_pos hw];simp only[cf,beq_iff_eq]at hw;unfold E5;refine dS (dS (En ht.typeIs (Ab ?_)));rw[if_pos (by decide)]
   exact dS (Dc (Ab ⟨_,rfl,Ab (hq1 hw.1.1 hw.1.2 hw.2)⟩))
 . show wpAny _ _ (if ((yl items.size lo hi st).1 == 0&&st == 1&&(yl items.size lo hi st).2 == items.size)=true then _ else _) _ _ s
   rw[if_neg hw,epick]
   first
    |exact dS (m:=Bn _) (A4 (Ab ⟨_,rfl,Ab hq2⟩) htake)
    |exact dS (dS (m:=Bn _) (A4 (Ab ⟨_,rfl,Ab hq2⟩) htake))
end
theorem ml{α:Type}:∀xs:List α,(Bj xs.length).filterMap (λk=>xs[k]?)=xs
 |[]=>rfl
 |x::xs=>by
  rw[AI,List.range_succ_eq_map,A3,B1];show x::_=_;refine congrArg (x::·) (Eq.trans ?_ (ml xs))
  congr 1
theorem kI(xs:List α):yC xs 0 1 xs.length=xs:=by
 unfold yC;have e:(λ(k:Nat)=>xs[(0+(k:Int)*1).toNat]?)=λk=>xs[k]?:=by funext k;rw[show (0+(k:Int)*1).toNat=k by omega]
 rw[e];exact ml xs
def RT:V->Option Int->Option Int->Option Int->Hp->VK->Prop:=λx lo hi st H Q=>∃a xs c,x=.c a/\H a=some (.c xs)/\st=some c/\c≠0/\(yl xs.length lo hi c).2<=Au/\sW H (yC xs (yl xs.length lo hi c).1 c (yl xs.length lo hi c).2) Q
def So(r:V->Option Int->Option Int->Option Int->Hp->VK->Prop)(te:TE)(tl th tc:TO):TE:=λσ H Q=>te σ H λx H1=>tl σ H1 λl H2=>th σ H2 λu H3=>tc σ H3 λc H4=>r x l u c H4 Q
theorem gZ{lo hi}{st}(he:PE X e te)(hl:PO X lo tl)(hu:PO X hi th)(hc:PO X (some st) tc):PE X (.Subscript e (.Slice lo hi (some st) p2) pos) (So RT te tl th tc):=by
 intro pins s σ H Q I h;refine Gj (thn (he pins s σ H _ I h) λv s1 ⟨x,H1,I1,r1,q1⟩=>?_);refine wpAny_Slice (thn (hl pins s1 σ H1 _ I1 q1) λvl s2 ⟨l,H2,I2,pl,q2⟩=>thn (hu pins s2 σ H2 _ I2 q2) λvu s3 ⟨u,H3,I3,pu,q3⟩=>thn (hc pins s3 σ H3 _ I3 q3) λvc s4 ⟨c,H4,I4,pc,q4⟩=>?_);obtain⟨a,xs,cc,rfl,hx,ec,h0,hsz,g⟩:=q4;subst ec;cases r1;have I5:Inv X pins σ H4 {s4 with heap:=s4.heap.push {cls:=.type "slice",data:=.fields #[vl,vu,vc]}}:=I4.kept (t':=s4.toks) λb ob q=>nx _ q
 obtain⟨its,r,ht,hz⟩:=I5.tuple (.inl (.inl hx));have hlen:its.toArray.size=xs.length:=by rw[Aa];exact r.length.symm
 show wpAny (model X.f X.w) X.A (E3 e (.Slice lo hi (some st) p2) (.ref a) (.ref s4.heap.objs.size)) (EP X pins σ Q) X.i {s4 with heap:=s4.heap.push {cls:=.type "slice",data:=.fields #[vl,vu,vc]}}
 refine tail_any (ops:=[.ref a,.ref s4.heap.objs.size]) ht.typeIs AV.lookup (aC ht (EN ..) pl pu pc h0 (λz1 z2 z3=>?_) ?_ (by rw[hlen];exact hsz)) (by with_unfolding_all rfl)
 . refine⟨.c a,H4,I5,rfl,g a H4 (xf.refl H4) ?_⟩
   rw[hlen]at z1 z3;rw[hx,z1,z3,z2,kI]
 . rw[hlen]
   refine⟨.c _,_,I5.laid (t':=s4.toks) (o:=.c (yC xs (yl xs.length l u cc).1 cc (yl xs.length l u cc).2)) (λb ob q=>nx _ q) (xd _) ?_,rfl,g.new _ (I5.j.fresh (xd _))⟩;refine⟨AE (mj _ _ _ _) hsz,_,r.yC _ _ _,?_⟩;exact ux.new _ _
end L2
end
section
namespace L2
open PySem PyProof.Rows
theorem gF a d:argsOk "max" ⟨[a],[(BG "default",d)]⟩:=by unfold argsOk;kernel_rfl
section
variable {prog:Program}{w:World}{A:Around}{R:Result->Shared->Prop}{I S:Addr}{fp wr:List Addr}{n:Nat}{P:Nat->Value->Prop}{St:Nat->Heap->Prop}{bt:Nat->Nat->Bool}{kw:List (Str × Value)}
theorem rK:(Gn "max"++Gn ".loop":String)="max.loop":=by decide
theorem Zd(W:Walks prog w A.in1 I fp wr n P St)(hcmp:CmpOf prog w A.in1 .Gt P bt)(hSf:S ∉ fp):∀k j s vb c,n-(j+1)=k->j+1<=n->St (j+1) s.heap->P (argBest bt j) vb ->
 s.heap.get? S=some (seqObj "list" #[vb,vb] c) ->
 (∀v h' tk,P (argBest bt (n-1)) v->(∀b o,b ∉ wr->b≠S->s.heap.get? b=some o->h'.get? b=some o)->R (.ok (.ret v)) {s with heap:=h',toks:=tk}) ->
 codeAny (model prog w) A (.builtin "max.loop" ⟨[.ref I,.none,.ref S],kw⟩) R s:=by
 have hSw:S ∉ wr:=λh=>hSf (W.sub _ h);intro k;induction k with
 |zero=>
  intro j s vb c hk hj hst hPb hS hR;have hin:j+1=n:=by omega
  refine Dt CY ?_;rw[Df Bl _];refine(show wpAny _ A.in1 (Ef (.ref S) >>= _) _ _ s from dS (C7 hS rfl ?_));refine(show wpAny _ A.in1 (Gp (pyNext (.ref I)) _ >>= _) _ _ s from dS (DJ (W.done s _ _ (hin▸hst) λh' tk hk'=>?_)));refine(show wpAny _ A.in1 (updateSeq S (λ_=>#[]) >>= _) _ _ _ from dS (FZ (hk' S _ hSw hS) rfl (dS (EK (Ab ?_)))));exact hR vb _ tk (by rw[<-hin];exact hPb) λb o hbw hbS e=>(Bk _ _ (A9 hbS)).trans (hk' b o hbw e)
 |succ k ih=>
  intro j s vb c hk hj hst hPb hS hR;have hlt:j+1<n:=by omega
  refine Dt CY ?_;rw[Df Bl _];refine(show wpAny _ A.in1 (Ef (.ref S) >>= _) _ _ s from dS (C7 hS rfl ?_));refine(show wpAny _ A.in1 (Gp (pyNext (.ref I)) _ >>= _) _ _ s from dS (DJ (W.item (j+1) s _ _ hlt hst λv h' tk hP hst' hk'=>?_)));have hS':=hk' S _ hSw hS;refine(show wpAny _ A.in1 (Gp (holding [v,v] (richCompare .Gt v vb >>= _)) _ >>= _) _ _ _ from dS (DJ (By (dS (hcmp (j+1) (argBest bt j) v vb _ _ _ hP hPb ?_)))));refine dS (By (Bq (dS (EK (Ab ?_)))));cases hb:bt (j+1) (argBest bt j) with
  |true=>
   refine(show wpAny _ A.in1 (updateSeq S (λ_=>#[v,v]) >>= _) _ _ _ from dS (FZ hS' rfl (dS (EK ?_))));rw[rK];refine Ab ⟨D0 Bl _,ih (j+1) _ v _ (by omega) hlt (W.frame _ _ _ hst' λb hbf o e=>?_) (by unfold argBest;rw[hb];exact hP) (Ct _ hS' rfl) λv' h'' tk'' hP' hk''=>?_⟩
   . exact(Bk _ _ (λh:S=b=>hSf (by rw[h];exact hbf))).trans e
   . exact hR v' h'' tk'' hP' λb o hbw hbS e=>hk'' b o hbw hbS ((Bk _ _ (A9 hbS)).trans (hk' b o hbw e))
  |false=>
   refine(show wpAny _ A.in1 (letGo [v,v] >>= _) _ _ _ from dS (EK ?_));rw[rK];exact Ab ⟨D0 Bl _,ih (j+1) _ vb c (by omega) hlt hst' (by unfold argBest;rw[hb];exact hPb) hS' λv' h'' tk'' hP' hk''=>hR v' h'' tk'' hP' λb o hbw hbS e=>hk'' b o hbw hbS (hk' b o hbw e)⟩
theorem lx(W:Walks prog w A.in1 I fp wr n P St)(hcmp:CmpOf prog w A.in1 .Gt P bt)(hSf:S ∉ fp)(hn:0<n)(hst:St 0 s.heap)(hS:s.heap.get? S=some (seqObj "list" #[] c))
 (hR:∀v h' tk,P (argBest bt (n-1)) v->(∀b o,b ∉ wr->b≠S->s.heap.get? b=some o->h'.get? b=some o)->R (.ok (.ret v)) {s with heap:=h',toks:=tk}) :
 codeAny (model prog w) A (.builtin "max.loop" ⟨[.ref I,.none,.ref S],kw⟩) R s:=by
 have hSw:S ∉ wr:=λh=>hSf (W.sub _ h);refine Dt CY ?_;rw[Df Bl _];refine(show wpAny _ A.in1 (Ef (.ref S) >>= _) _ _ s from dS (C7 hS rfl ?_));refine(show wpAny _ A.in1 (Gp (pyNext (.ref I)) _ >>= _) _ _ s from dS (DJ (W.item 0 s _ _ hn hst λv h' tk hP hst' hk'=>?_)));have hS':=hk' S _ hSw hS;refine(show wpAny _ A.in1 (updateSeq S (λ_=>#[v,v]) >>= _) _ _ _ from dS (FZ hS' rfl ?_));rw[rK];refine Ab ⟨D0 Bl _,Zd W hcmp hSf _ 0 _ v _ rfl hn (W.frame _ _ _ hst' λb hbf o e=>?_) hP (Ct _ hS' rfl) λv' h'' tk'' hP' hk''=>?_⟩
 . exact(Bk _ _ (λh:S=b=>hSf (by rw[h];exact hbf))).trans e
 . exact hR v' h'' tk'' hP' λb o hbw hbS e=>hk'' b o hbw hbS ((Bk _ _ (A9 hbS)).trans (hk' b o hbw e))
theorem gG(W:Walks prog w A.in1 I fp wr 0 P St)(hSf:S ∉ fp){s:Shared}{c:Nat}{d:Value}(hst:St 0 s.heap)(hS:s.heap.get? S=some (seqObj "list" #[] c))
 (hR:∀h' tk,(∀b o,b ∉ wr->s.heap.get? b=some o->h'.get? b=some o)->R (.ok (.ret d)) {s with heap:=h',toks:=tk}) :
 codeAny (model prog w) A (.builtin "max.loop" ⟨[.ref I,.none,.ref S],[(BG "default",d)]⟩) R s:=by
 refine Dt CY ?_;rw[Df Bl _];refine(show wpAny _ A.in1 (Ef (.ref S) >>= _) _ _ s from dS (C7 hS rfl ?_));refine(show wpAny _ A.in1 (Gp (pyNext (.ref I)) _ >>= _) _ _ s from dS (DJ (W.done s _ _ hst λh' tk hk'=>?_)));exact dS (Dc (Ab (hR h' tk hk')))
end
section
variable {X:Cx}
noncomputable def x8(d:Int):List Int->Int
 |[]=>d
 |n::ns=>ns.foldl (λa b=>if b > a then b else a) n
theorem r8:∀(ns:List Int) a,a<=ns.foldl (λa b=>if b > a then b else a) a/\(∀x∈ns,x<=ns.foldl (λa b=>if b > a then b else a) a)/\(ns.foldl (λa b=>if b > a then b else a) a=a\/ns.foldl (λa b=>if b > a then b else a) a∈ns)
 |[],a=>⟨Int.le_refl _,λ_ h=>(nomatch h),.inl rfl⟩
 |n::ns,a=>by
  obtain⟨h1,h2,h3⟩:=r8 ns (if n > a then n else a)
  show a<=ns.foldl _ (if n > a then n else a)/\_
  have hc:a<=(if n > a then n else a)/\n<=(if n > a then n else a):=by split<;>omega
  refine⟨Es hc.1 h1,λx hx=>?_,?_⟩
  . rcases Ak.mp hx with e|hx
    . rw[e];exact Es hc.2 h1
    . exact h2 x hx
  . rcases h3 with h3|h3
    . show ns.foldl _ (if n > a then n else a)=a\/ns.foldl _ (if n > a then n else a)∈n::ns
      rw[h3];split
      . exact .inr (As ..)
      . exact .inl rfl
    . exact .inr (Ah _ h3)
theorem ly(h:ns≠[]):x8 d ns∈ns/\∀x∈ns,x<=x8 d ns:=by
 cases ns with
 |nil=>exact absurd rfl h
 |cons n ns=>
  obtain⟨h1,h2,h3⟩:=r8 ns n;refine⟨?_,λx hx=>?_⟩
  . rcases h3 with h3|h3
    . show ns.foldl _ n∈_;rw[h3];exact As ..
    . exact Ah _ h3
  . rcases Ak.mp hx with e|hx
    . rw[e];exact h1
    . exact h2 x hx
theorem qN(h1:M∈ns)(h2:∀x∈ns,x<=M):x8 d ns=M:=by
 have hne:ns≠[]:=λe=>by rw[e]at h1;exact nomatch h1
 obtain⟨a,b⟩:=ly (d:=d) hne;exact F0 (h2 _ a) (b _ h1)
theorem Vals.ints:∀{ns:List Int} {us},Vals (ns.map V.d) us->∀{i:Nat} {v},us[i]?=some v->∃t,v=.int (ns.getD i 0) t
 |[],_,.nil,_,_,h=>by cases h
 |n::ns,_,.cons r rs,0,v,h=>by
  obtain⟨t,e⟩:=r;have:v=.int n t:=(AQ h).symm.trans e;exact⟨t,this⟩
 |n::ns,_,.cons r rs,i+1,v,h=>by have:=Vals.ints rs (i:=i) (v:=v) h;exact this
def SH(K:Ag):List V->List V->Hp->VK->Prop:=λxs zs H Q=>∃(a:Addr) (ns:List Int) (d:Int),xs=[.c a]/\zs=[.d d]/\SqL K H a (ns.map V.d)/\Q (.d (x8 d ns)) H
theorem Z0(hc:X.j=true){x:Str}(hx:x="max")(hg:Gl X x)(hm:X.d x=none)(hv:BV x=some (.builtin "max"))(ha:PA X (e::es) t)(hkw:PK X kws tk)
 (hks:∀pos:Pos,(Fx pos (DU kws X.a)).filterMap (·.1)=[BG "default"]:=by intro _;rfl)
 (he:backTo pos (AD (e::es) X.a)=(false,eval e X.a)::backTo pos (AD es X.a):=by rfl) (hp:(backTo pos (AD (e::es) X.a)).any (·.1)=false:=by rfl)
 (hall:(Fx pos (DU kws X.a)).all (·.1.isSome)=true:=by rfl) (hnk:(Fx pos (DU kws X.a)).any (·.1.isNone)=false:=by rfl) :
 PE X (.Call (.Name x p) (e::es) kws pos) (λσ H Q=>t σ H λxs H1=>tk σ H1 λzs H2=>SH X.K xs zs H2 Q):=by
 intro pins s σ H Q I h;subst hx;refine Bu (vt I hg hm hv ?_ (by decide) (by decide))
 refine callWith_kw (thn (ha pos pins s σ H _ I h) λus s1 ⟨vs,H1,I1,r1,q1⟩=>?_) he hp hall hnk;refine thn (hkw pos pins s1 σ H1 _ I1 q1) λws s2 ⟨zs,H2,I2,rz,q2⟩=>?_;rw[hks];obtain⟨a,ns,d,rfl,rfl,hS,q⟩:=q2;obtain⟨u,rfl,ru⟩:=vals1 r1;obtain⟨dv,rfl,⟨dt,rfl⟩⟩:=vals1 rz;cases ru;obtain⟨its,rv,pl,hz⟩:=I2.list hS;have hlen:=rv.length;have alt:a<s2.heap.objs.size:=by obtain⟨o,ho,_⟩:=pl.isList;exact Ae ho
 show wpAny _ _ (call (.builtin "max") [.ref a] [(BG "default",.int d dt)]) _ _ s2;refine kmk_tree PySem.F.kind_max PySem.F.plain_max PySem.F.entry_max (gF _ _) ?_;refine(show wpAny _ X.A.in1 (ET "max" ["key","default"] 0 ⟨[],[(BG "default",.int d dt)]⟩ >>= _) _ _ s2 from
  dS (F4 (show ET "max" ["key","default"] 0 ⟨[],[(BG "default",.int d dt)]⟩=pure [none,some (.int d dt)] from rfl) (dS (Ab ?_))))
 refine dS (CZ pl.isList ?_);refine dS (A4 ?_);have W:=Gm (prog:=X.f) (w:=X.w) (A:=X.A.in1) (I2.C.i hc) s2.heap.objs.size a (Ax alt) its.toArray;rw[rK];have hst:∀ob:Obj,((s2.heap.push {cls:=.type "list_iterator",data:=.fields #[.ref a,.int 0 0]}).push ob).IsListIter s2.heap.objs.size a 0/\((s2.heap.push {cls:=.type "list_iterator",data:=.fields #[.ref a,.int 0 0]}).push ob).IsList a its.toArray:=λob=>by refine⟨⟨_,nx _ (Aq _ rfl),rfl,rfl⟩,?_⟩;obtain⟨o,ho,hc',n,hd⟩:=pl.isList;exact⟨o,nx _ (nx _ ho),hc',n,hd⟩
 have hSf:(s2.heap.push {cls:=.type "list_iterator",data:=.fields #[.ref a,.int 0 0]}).objs.size ∉ [s2.heap.objs.size,a]:=by
  rw[A5];intro hm;simp only[Ak,Bg,or_false]at hm;rcases hm with e|e
  . exact absurd e (CI (Ce _))
  . exact absurd e (CI (BH alt))
 have old:∀{b:Addr} {o:Obj},s2.heap.get? b=some o->b ∉ [s2.heap.objs.size]/\b≠(s2.heap.push {cls:=.type "list_iterator",data:=.fields #[.ref a,.int 0 0]}).objs.size:=λ{b o} e=>by
  have:=Ae e;rw[A5];refine⟨λhm=>?_,?_⟩
  . rw[Aw.mp hm]at this;exact A1 _ this
  . exact Ax (BH this)
 cases hn:ns with
 |nil=>
  subst hn;have e0:its=[]:=List.eq_nil_of_length_eq_zero (by rw[<-hlen];rfl)
  subst e0;refine Ab ⟨D0 Bl _,gG W hSf (hst _) (Aq _ rfl) λh' tk hk=>?_⟩;exact⟨.d d,H2,I2.kept λb o ho=>hk b o (old ho).1 (nx _ (nx _ ho)),⟨_,rfl⟩,q⟩
 |cons n0 ns0=>
  have hpos:0<its.toArray.size:=by rw[Aa,<-hlen,hn];exact Nat.succ_pos _
  have hat:∀(i:Nat) (v:Value),its.toArray[i]?=some v->∃t,v=.int (ns.getD i 0) t:=λi v hv=>rv.ints (by simpa using hv)
  refine Ab ⟨D0 Bl _,lx W (Gw (λi=>ns.getD i 0) hat) hSf hpos (hst _) (Aq _ rfl) λv h' tk hP hk=>?_⟩;obtain⟨t,rfl⟩:=hat _ _ hP;obtain⟨b1,b2⟩:=argBest_gt (λi=>ns.getD i 0) (its.toArray.size-1);have hl:its.toArray.size=ns.length:=by rw[Aa,<-hlen,Ai]
  have e:ns.getD (argBest (λi j=>decide (ns.getD i 0 > ns.getD j 0)) (its.toArray.size-1)) 0=x8 d ns:=by
   symm;refine qN ?_ λx hx=>?_
   . have:argBest (λi j=>decide (ns.getD i 0 > ns.getD j 0)) (its.toArray.size-1)<ns.length:=by omega
     rw[AH,Ad this];exact Cf this
   . obtain⟨i,hi,rfl⟩:=Bp hx
     have:=b2 i (by omega)
     simpa [AH,Ad hi] using this
  refine⟨.d (x8 d ns),H2,I2.kept λb o ho=>hk b o (old ho).1 (old ho).2 (nx _ (nx _ ho)),⟨t,by rw[<-e]⟩,q⟩
end
end L2
end
section
namespace L2
open PySem PyProof PyProof.Rows
section
variable {X:Cx}
theorem kl l items n u dd sl :
 Meets (Builtin.«tuple.__mul__» ⟨[.ref l,.int 1 u],[]⟩) (λ_ R s=>s.heap.get? l=some {cls:=.type "tuple",dict:=dd,data:=.seq items n,slots:=sl}/\R (.ok (.ret (A0 l))) s):=
 .of_wp λprog w A R s h=>by
  obtain⟨hp,g,d,tk,os⟩:=s;obtain⟨hl,h⟩:=h;have f1:=FF;have c1:¬((decide ((1:Int) < -(2 ^ 63))||decide ((1:Int) ≥ 2 ^ 63))=true):=by decide
  have c2:((items.isEmpty||((1:Int) == 1))=true):=by simp
  wp_walk using BL hl
  exact⟨_,rfl,h⟩
theorem kj l items n x u dd sl(h1:x<=0)(h2:-1000<=x)(h3:¬items.isEmpty=true) :
 Meets (Builtin.«tuple.__mul__» ⟨[.ref l,.int x u],[]⟩) (λ_ R s=>s.heap.get? l=some {cls:=.type "tuple",dict:=dd,data:=.seq items n,slots:=sl} /\
  R (.ok (.ret (A0 s.heap.objs.size))) {s with heap:=s.heap.push {cls:=Fp "tuple",data:=Data.seq #[]},toks:=s.toks}):=
 .of_wp λprog w A R s h=>by
  obtain⟨hp,g,d,tk,os⟩:=s;obtain⟨hl,h⟩:=h;have f1:=FF;have c1:¬((decide (x < -(2 ^ 63))||decide (x ≥ 2 ^ 63))=true):=by simp;omega
  have c2:¬((items.isEmpty||x == 1)=true):=by simp at h3 ⊢;exact⟨h3,by omega⟩
  have c3:((decide (x<=0)||items.isEmpty)=true):=by simp;exact .inl h1
  wp_walk using BL hl
  rw[if_neg c1];refine dS (DZ (items:=items) ⟨_,hl,rfl,n,rfl⟩ ?_);rw[if_neg c2];show wpAny _ _ (if (decide (x<=0)||items.isEmpty)=true then _ else _) _ _ _
  rw[if_pos c3];exact dS (m:=Bn _) (A4 (Ab ⟨_,rfl,h⟩))
def SJ:R2:=λx y H Q=>∃a k xs,x=.c a/\y=.d k/\H a=some (.c xs)∧-1000<=k/\k<=1000/\xs≠[]/\xs.length<=1000/\sW H (Al k.toNat xs).flatten Q
theorem Zq:OpR X (Bw .Mult) SJ:=by
 intro pins s σ H x y v u Q I rx ry h;obtain⟨a,k,xs,rfl,rfl,ha,h1,h2,h3,h4,g⟩:=h;by_cases hk2:2<=k
 . exact Zr pins s σ H _ _ v u Q I rx ry ⟨a,k,xs,rfl,rfl,ha,hk2,h2,h3,h4,g⟩
 cases rx;obtain⟨t,rfl⟩:=ry;obtain⟨its,r,p1,_⟩:=I.tuple (.inl (.inl ha));obtain⟨⟨cls,dd,data,sl⟩,ho,hc,n,hd⟩:=id p1;simp only at hc hd;subst hc hd;by_cases hk1:k=1
 . subst hk1
   refine CB (T:="tuple") (U:="int") (by decide) ⟨_,ho,rfl⟩ (λs'=>CT s' 1 t) xR Ep B7 vP D6.lookup
    (BK B7 (CT s 1 t) D7 (DR _ _) (xw 1 t a its.toArray n dd sl)
     ⟨ho,rfl,⟨_,ho,rfl⟩,BK De ⟨_,ho,rfl⟩ Fj (ES _ _) (kl a its.toArray n t dd sl) ⟨ho,?_⟩⟩)
   refine⟨.c a,H,I,rfl,g a H (xf.refl H) ?_⟩;rw[ha];simp
 . have hne:¬its.toArray.isEmpty=true:=by simp;intro e;exact h3 (r.wJ.mp e)
   have e0:k.toNat=0:=by omega
   refine CB (T:="tuple") (U:="int") (by decide) ⟨_,ho,rfl⟩ (λs'=>CT s' k t) xR Ep B7 vP D6.lookup
    (BK B7 (CT s k t) D7 (DR _ _) (xw k t a its.toArray n dd sl)
     ⟨ho,rfl,⟨_,ho,rfl⟩,BK De ⟨_,ho,rfl⟩ Fj (ES _ _) (kj a its.toArray n k t dd sl (by omega) h1 hne) ⟨ho,?_⟩⟩)
   rw[e0]at g;refine⟨.c s.heap.objs.size,_,I.laid (t':=s.toks) (o:=.c []) (λb ob q=>nx _ q) (xd _) ⟨BX _,[],.nil,ux.new _ _⟩,rfl,g.new _ (I.j.fresh (xd _))⟩
noncomputable def kO(a b c:Int):List Int:=(Bj (Cb a b c).toNat).map λ(i:Nat)=>a+(i:Int)*c
end
end L2
end
section
namespace L2
open PySem PyProof PyProof.Rows
section
variable {X:Cx}
theorem sD:∀{xs} {us},Vals xs us->xs.all wI=true->us.countP (eqU x)=xs.countP λy=>eqV y x
 |_,_,.nil,_=>rfl
 |y::ys,u::us,.cons r rs,h=>by rw[Cw,cf]at h;rw[D8,D8,sD rs h.2,lT r h.1]
def qd(K:Ag)(tup:Bool):V->List V->Hp->VK->Prop:=λx vs H Q=>∃t xs y,x=.c t/\vs=[y]/\(if tup=true then SqT K H t xs else SqL K H t xs)/\wI y=true/\xs.all wI=true/\Q (.d (xs.countP λz=>eqV z y:Nat)) H
theorem gI:MtR X "tuple.count" (qd X.K true):=by
 intro pins s σ H x xs v us Q I rx rs h;obtain⟨t,ys,y,rfl,rfl,ht,fy,fs,q⟩:=h;cases rx;obtain⟨u,rfl,ru⟩:=vals1 rs;obtain⟨its,r,p1,_⟩:=I.tuple ht;obtain⟨⟨cls,dd,data,sl⟩,ho,hc,n,hd⟩:=id p1;simp only at hc hd;subst hc hd;refine BK F.slot_tuple_count ⟨_,ho,rfl⟩ F.entry_tuple_count (F.args_tuple_count_2 _ _) (SeqAt.tuple_countAt t its.toArray n dd sl u (eqU y)) ⟨ho,λw hw=>tK ru fy r fs w (by simpa using hw),?_⟩
 rw[show its.toArray.toList=its from rfl,sD r fs];exact⟨.d _,H,I.tok _,⟨s.toks,rfl⟩,q⟩
theorem gH:MtR X "list.count" (qd X.K false):=by
 intro pins s σ H x xs v us Q I rx rs h;obtain⟨t,ys,y,rfl,rfl,ht,fy,fs,q⟩:=h;cases rx;obtain⟨u,rfl,ru⟩:=vals1 rs;obtain⟨its,r,p1,_⟩:=I.list ht;obtain⟨⟨cls,dd,data,sl⟩,ho,hc,n,hd⟩:=id p1.isList;simp only at hc hd;subst hc hd;refine BK F.slot_list_count ⟨_,ho,rfl⟩ F.entry_list_count (F.args_list_count_2 _ _) (SeqAt.list_countAt t its.toArray n dd sl u (eqU y)) ⟨ho,λw hw=>tK ru fy r fs w (by simpa using hw),?_⟩
 rw[show its.toArray.toList=its from rfl,sD r fs];exact⟨.d _,H,I.tok _,⟨s.toks,rfl⟩,q⟩
noncomputable def vx(d:Int):List Int->Int
 |[]=>d
 |n::ns=>ns.foldl (λa b=>if b<a then b else a) n
theorem r9:∀(ns:List Int) a,ns.foldl (λa b=>if b<a then b else a) a<=a/\(∀x∈ns,ns.foldl (λa b=>if b<a then b else a) a<=x)/\(ns.foldl (λa b=>if b<a then b else a) a=a\/ns.foldl (λa b=>if b<a then b else a) a∈ns)
 |[],a=>⟨Int.le_refl _,λ_ h=>(nomatch h),.inl rfl⟩
 |n::ns,a=>by
  obtain⟨h1,h2,h3⟩:=r9 ns (if n<a then n else a)
  show ns.foldl _ (if n<a then n else a)<=a/\_
  have hc:(if n<a then n else a)<=a/\(if n<a then n else a)<=n:=by split<;>omega
  refine⟨Es h1 hc.1,λx hx=>?_,?_⟩
  . rcases Ak.mp hx with e|hx
    . rw[e];exact Es h1 hc.2
    . exact h2 x hx
  . rcases h3 with h3|h3
    . show ns.foldl _ (if n<a then n else a)=a\/ns.foldl _ (if n<a then n else a)∈n::ns
      rw[h3];split
      . exact .inr (As ..)
      . exact .inl rfl
    . exact .inr (Ah _ h3)
theorem lz(h:ns≠[]):vx d ns∈ns/\∀x∈ns,vx d ns<=x:=by
 cases ns with
 |nil=>exact absurd rfl h
 |cons n ns=>
  obtain⟨h1,h2,h3⟩:=r9 ns n;refine⟨?_,λx hx=>?_⟩
  . rcases h3 with h3|h3
    . show ns.foldl _ n∈_;rw[h3];exact As ..
    . exact Ah _ h3
  . rcases Ak.mp hx with e|hx
    . rw[e];exact h1
    . exact h2 x hx
theorem mQ(h1:M∈ns)(h2:∀x∈ns,M<=x):vx d ns=M:=by
 have hne:ns≠[]:=λe=>by rw[e]at h1;exact nomatch h1
 obtain⟨a,b⟩:=lz (d:=d) hne;exact F0 (b _ h1) (h2 _ a)
def XF(K:Ag)(g:List Int->Int):List V->Hp->VK->Prop:=λxs H Q=>∃(a:Addr) (ns:List Int),xs=[.c a]/\SqL K H a (ns.map V.d)/\ns≠[]/\Q (.d (g ns)) H
theorem iP(hc:X.j=true):yB X (.builtin "max") (XF X.K (x8 0)):=by
 intro pins s σ H xs us Q I r h;obtain⟨a,ns,rfl,ha,hne,q⟩:=h;obtain⟨u,rfl,ru⟩:=vals1 r;cases ru;obtain⟨its,rv,pl,hz⟩:=I.list ha;have hlen:=rv.length;have alt:a<s.heap.objs.size:=by obtain⟨o,ho,_⟩:=pl.isList;exact Ae ho
 have hl:its.toArray.size=ns.length:=by rw[Aa,<-hlen,Ai]
 have hpos:0<ns.length:=Dn.mpr hne;have hat:∀(i:Nat) (v:Value),its.toArray[i]?=some v->∃t,v=.int (ns.getD i 0) t:=λi v hv=>rv.ints (by simpa using hv)
 refine call_max_walk (CZ pl.isList ?_);refine⟨s.heap.objs.size,_,_,_,_,_,_,rfl,Gm (A:=X.A.in1) (I.C.i hc) s.heap.objs.size a (Ax alt) its.toArray,⟨⟨_,Aq _ rfl,rfl,rfl⟩,?_⟩,λb hb=>?_,by omega,Gw (λi=>ns.getD i 0) hat,λv h' tk hP hk=>?_⟩
 . obtain⟨o,ho,hc',n,hd⟩:=pl.isList
   exact⟨o,nx _ ho,hc',n,hd⟩
 . rw[A5]
   simp only[Ak,Bg,or_false]at hb;rcases hb with e|e
   . rw[e];exact Ce _
   . rw[e];exact BH alt
 . obtain⟨t,rfl⟩:=hat _ _ hP
   obtain⟨b1,b2⟩:=argBest_gt (λi=>ns.getD i 0) (its.toArray.size-1);have e:x8 0 ns=ns.getD (argBest (λi j=>decide (ns.getD i 0 > ns.getD j 0)) (its.toArray.size-1)) 0:=by
    refine qN ?_ λx hx=>?_
    . have:argBest (λi j=>decide (ns.getD i 0 > ns.getD j 0)) (its.toArray.size-1)<ns.length:=by omega
      rw[AH,Ad this];exact Cf this
    . obtain⟨i,hi,rfl⟩:=Bp hx
      have:=b2 i (by omega)
      simpa [AH,Ad hi] using this
   refine⟨.d (x8 0 ns),H,I.kept λb o ho=>hk b o ?_ (nx _ ho),⟨t,by rw[e]⟩,q⟩
   simpa using Ax (Ae ho)
theorem iS(hc:X.j=true):yB X (.builtin "min") (XF X.K (vx 0)):=by
 intro pins s σ H xs us Q I r h;obtain⟨a,ns,rfl,ha,hne,q⟩:=h;obtain⟨u,rfl,ru⟩:=vals1 r;cases ru;obtain⟨its,rv,pl,hz⟩:=I.list ha;have hlen:=rv.length;have alt:a<s.heap.objs.size:=by obtain⟨o,ho,_⟩:=pl.isList;exact Ae ho
 have hl:its.toArray.size=ns.length:=by rw[Aa,<-hlen,Ai]
 have hpos:0<ns.length:=Dn.mpr hne;have hat:∀(i:Nat) (v:Value),its.toArray[i]?=some v->∃t,v=.int (ns.getD i 0) t:=λi v hv=>rv.ints (by simpa using hv)
 refine call_min_walk (CZ pl.isList ?_);refine⟨s.heap.objs.size,_,_,_,_,_,_,rfl,Gm (A:=X.A.in1) (I.C.i hc) s.heap.objs.size a (Ax alt) its.toArray,⟨⟨_,Aq _ rfl,rfl,rfl⟩,?_⟩,λb hb=>?_,by omega,CmpOf.ints_lt (λi=>ns.getD i 0) hat,λv h' tk hP hk=>?_⟩
 . obtain⟨o,ho,hc',n,hd⟩:=pl.isList
   exact⟨o,nx _ ho,hc',n,hd⟩
 . rw[A5]
   simp only[Ak,Bg,or_false]at hb;rcases hb with e|e
   . rw[e];exact Ce _
   . rw[e];exact BH alt
 . obtain⟨t,rfl⟩:=hat _ _ hP
   obtain⟨b1,b2⟩:=argBest_lt (λi=>ns.getD i 0) (its.toArray.size-1);have e:vx 0 ns=ns.getD (argBest (λi j=>decide (ns.getD i 0<ns.getD j 0)) (its.toArray.size-1)) 0:=by
    refine mQ ?_ λx hx=>?_
    . have:argBest (λi j=>decide (ns.getD i 0<ns.getD j 0)) (its.toArray.size-1)<ns.length:=by omega
      rw[AH,Ad this];exact Cf this
    . obtain⟨i,hi,rfl⟩:=Bp hx
      have:=b2 i (by omega)
      simpa [AH,Ad hi] using this
   refine⟨.d (vx 0 ns),H,I.kept λb o ho=>hk b o ?_ (nx _ ho),⟨t,by rw[e]⟩,q⟩
   simpa using Ax (Ae ho)
theorem gW{o e:Expr}{to te:TE}{apos cpos:Pos}{es:List Expr}(ho:PE X o to)(he:PE X e te)(hbase:CN o "append" X.a (eval o X.a)=eval o X.a:=by rfl)(hst:noStar e=true:=by rfl)(hline:(apos.endLine == cpos.line)=true:=by rfl) :
 PE X (.Call (.Attribute o "append" apos) [e] [] cpos) (tBM X.K "list" jz to (wB te tZ)):=by
 have hs1:AD [e] X.a=(false,eval e X.a)::AD [] X.a:=ze hst;refine cg DO PySem.F.slot_list_append PySem.F.type_list_append pT ho (pac he yT hst) hbase ?_ hline hs1 rfl;rw[hs1];rfl
theorem pW(ho:PE X o to)(he:PE X e te)(hbase:CN o "count" X.a (eval o X.a)=eval o X.a:=by rfl)(hst:noStar e=true:=by rfl)(hline:(apos.endLine == cpos.line)=true:=by rfl) :
 PE X (.Call (.Attribute o "count" apos) [e] [] cpos) (tBM X.K "list" (qd X.K false) to (wB te tZ)):=by
 have hs1:AD [e] X.a=(false,eval e X.a)::AD [] X.a:=ze hst;refine cg DO PySem.F.slot_list_count PySem.F.type_list_count gH ho (pac he yT hst) hbase ?_ hline hs1 rfl;rw[hs1];rfl
def RZ(r:V->List V->Hp->VK->Prop)(to:TE)(t:TA):TE:=λσ H Q=>to σ H λx H1=>(∃a xs,x=.c a/\H1 a=some (.c xs))/\t σ H1 λxs H2=>r x xs H2 Q
theorem gX(ho:PE X o to)(he:PE X e te)(hbase:CN o "count" X.a (eval o X.a)=eval o X.a:=by rfl)(hst:noStar e=true:=by rfl)(hline:(apos.endLine == cpos.line)=true:=by rfl) :
 PE X (.Call (.Attribute o "count" apos) [e] [] cpos) (RZ (qd X.K true) to (wB te tZ)):=by
 have hs1:AD [e] X.a=(false,eval e X.a)::AD [] X.a:=ze hst;intro pins s σ H Q I h;refine wpAny_Call_method_late hbase (by rw[hs1];rfl) hline rfl (thn (ho pins s σ H _ I h) λv s1 ⟨x,H1,I1,r1,ty,q1⟩=>?_)
 obtain⟨a,xs,rfl,hx⟩:=ty;cases r1;obtain⟨z,its,rv,ob,e1,c1,n,d1,nd⟩:=(show zt X.f X.w H1 s1.heap a (.c xs) from I1.j a _ hx);refine⟨"tuple",_,PySem.F.plainAttrs_tuple,PySem.F.slot_tuple_count,PySem.F.type_tuple_count,⟨ob,e1,c1⟩,λb hb=>?_,?_⟩
 . cases hb;exact⟨ob,e1,nd⟩
 have hA:=(pac he yT hst:PA X [e] _) cpos pins s1 σ H1 _ I1 q1;rw[hs1]at hA ⊢;refine Calls.callWith_builtin rfl (Eo ?_);exact thn hA λus s2 ⟨vs,H2,I2,r2,q2⟩=>gI pins s2 σ H2 (.c a) vs _ us Q I2 rfl r2 q2
end
end L2
namespace L2
open PySem
end L2
end
section
namespace L2
open PySem PySem.W PySem.Calls PyProof PyProof.Rows
noncomputable def Yl(z:Int × Int):Int:=z.1*1000+z.2
end L2
end
section
namespace L2
open PySem PySem.W PySem.Calls PyProof PyProof.Rows
section
variable {P:Program}{w:World}{H:Hp}{h:Heap}{a:Addr}{o:HO}
theorem zt.got(x:zt P w H h a o):∃u,h.get? a=some u:=by
 cases o with
 |b xs=>obtain⟨_,_,_,_,e⟩:=x;exact⟨_,e⟩
 |c xs=>obtain⟨_,_,_,_,e,_⟩:=x;exact⟨_,e⟩
 |i kvs=>obtain⟨_,_,_,_,o,_,_,e,_⟩:=x;exact⟨_,e⟩
 |k kvs=>obtain⟨_,_,_,_,o,_,_,e,_⟩:=x;exact⟨_,e⟩
 |l S n=>obtain⟨o,_,_,_,e,_⟩:=x;exact⟨_,e⟩
 |j C dx fs=>obtain⟨_,_,_,e,_⟩:=x;exact⟨_,e⟩
 |e y=>exact x
 |r fs=>obtain⟨_,⟨_,_,_,e,_⟩,_⟩:=x;exact⟨_,e⟩
 |q lo hi=>obtain⟨_,_,_,e⟩:=x;exact⟨_,e⟩
 |d ob u=>obtain⟨e,_⟩:=x;exact⟨_,e⟩
 |g ps=>exact⟨_,x⟩
 |p f y=>exact⟨_,x⟩
 |m φ=>exact x.2.1
end
end L2
end
section
namespace L2
open PySem PySem.W PySem.Calls PyProof PyProof.Rows
section
variable {X:Cx}{pins:List (Addr × Obj)}{σ:St}{H:Hp}{s:Shared}
theorem Inv.Xn(I:Inv X pins σ H s)(hz:ys.length<=Au)(r:Vals ys its)(hD:s.heap.get? D=none)(keep:∀b o,b≠X.a.locals->s.heap.get? b=some o->h'.get? b=some o)
 (ns:∀m,s.heap.Ns X.a.locals m->h'.Ns X.a.locals m) (e:h'.get? D=some {cls:=.type "list",data:=.seq its.toArray c}):H D=none/\Inv X pins σ (upd H D (.b ys)) {s with heap:=h'}:=by
 have hn:H D=none:=by
  cases q:H D with
  |none=>rfl
  |some o=>
   obtain⟨u,hu⟩:=zt.got (I.j D o q);rw[hD]at hu;cases hu
 have ne:∀b o,H b=some o->b≠D:=λb o q z=>by rw[z,hn]at q;cases q
 have neo:∀b o,s.heap.get? b=some o->b≠D:=λb o q z=>by rw[z,hD]at q;cases q
 refine⟨hn,I.step (g':=s.gens) (d':=s.drawn) (t':=s.toks) (ch:=[]) (λ_ z=>nomatch z) (λb o hL _ _ q _=>keep b o hL q) (λb o hL _ _ q _=>⟨o.slots,keep b o hL q⟩) (λb o _ q n=>?_) (λb o _ q=>?_) (λb xs q=>?_) (λb o u q=>?_) (λb ps q=>?_) ns (λb o q=>?_) I.F⟩
 . rw[zE (neo b o q)];exact n
 . by_cases hb:b=X.a.locals
   . subst hb
     obtain⟨m,hm,_⟩:=I.O;obtain⟨o',_,_,ho',_⟩:=ns m hm;exact⟨o',ho'⟩
   . exact⟨o,keep b o hb q⟩
 . rw[zE (ne b _ q)];exact q
 . rw[zE (ne b _ q)];exact q
 . exact⟨#[],by rw[zE (ne b _ q),q];simp⟩
 . by_cases hb:b=D
   . subst hb
     rw[zL]at q;cases q;exact⟨hz,its,c,r,e⟩
   . rw[zE hb]at q
     refine(I.j b o q).rB (λx u hx hu=>keep x u ?_ hu) (λx hx=>by rw[zE (ne x _ hx)];exact hx) (λx xs hx=>by rw[zE (ne x _ hx)];exact hx)
     rcases hx with rfl|hx
     . intro z;rw[z,I.M]at q;cases q
     . intro z;rw[z,I.M]at hx;cases hx
end
end L2
end
section
namespace L2
open PySem PySem.W PySem.Calls PyProof PyProof.Rows
noncomputable def U7:List Int->List Int->Bool
 |x::xs,y::ys=>if x=y then U7 xs ys else decide (x<y)
 |_,_=>false
end L2
end
section
namespace L2
open PySem PySem.W PySem.Calls PyProof PyProof.Rows
noncomputable def U6:List Int->List Int->Bool
 |x::xs,y::ys=>if x=y then U6 xs ys else decide (x<y)
 |[],_::_=>true
 |_,[]=>false
def Ur(z:List Int):List (List Int)->List (List Int)
 |[]=>[z]
 |y::ys=>if U6 y z then y::Ur z ys else z::y::ys
def XN:List (List Int)->List (List Int)
 |[]=>[]
 |z::zs=>Ur z (XN zs)
end L2
end
section
namespace L2
open PySem PyProof.Rows
section
variable {X:Cx}{N:List Str}{csc:Scope}{fr:List (Option Nat)}{elt tg iter tg2 iter2:Expr}{ifs ifs2:List Expr}{cpos:Pos}{wi wi2:TI}{g g2:TG}{ts ts2:List TT}{te:TE}
theorem bJ(hc:X.j=true)(S:zi X N csc fr)(hi:PI X tg iter wi)(hg:∀C s0 H0 ex,PG (X.comp N csc C s0 H0 ex) tg g)(ht:∀C s0 H0 ex,PTs (X.comp N csc C s0 H0 ex) ifs ts)
 (hi2:∀C s0 H0 ex,PI (X.comp N csc C s0 H0 ex) tg2 iter2 wi2) (hg2:∀C s0 H0 ex,PG (X.comp N csc C s0 H0 ex) tg2 g2) (ht2:∀C s0 H0 ex,PTs (X.comp N csc C s0 H0 ex) ifs2 ts2)
 (he:∀C s0 H0 ex,PE (X.comp N csc C s0 H0 ex) elt te) (hN:X.N.Nodup) (hy:X.N[i]?=some y) (hx:Loc X.a.scope y)
 (hsw:Ec (.ListComp elt [⟨tg,iter,ifs,0⟩,⟨tg2,iter2,ifs2,0⟩] csc cpos) (some (.Name y py)) spos.line X.a=pure true:=by rfl)
 (hf:X.n y=true\/X.a.scope.names.lookup y=some .local:=by first|exact .inl rfl|exact .inr rfl|assumption)
 (hs:∀x,AR iter X.a x=pure x:=by intro _;rfl)
 (hs2:∀env x,AR iter2 env x=pure x:=by intro _ _;rfl) :
 PS X (.Assign [.Name y py] (.ListComp elt [⟨tg,iter,ifs,0⟩,⟨tg2,iter2,ifs2,0⟩] csc cpos) spos) (uU (wo fr wi g ts λacc=>qj wi2 g2 ts2 (vR acc te)) (xJ i)):=
 mq hc S hi (B:=λacc env=>(do
         let x <-eval iter2 env
         standAt iter2.pos
         let x <-AR iter2 env x;let _ <-runOwn (.compStart (.ListComp elt [⟨tg,iter,ifs,0⟩,⟨tg2,iter2,ifs2,0⟩] csc cpos) 1 (<-holding [x] (pyIter x)) acc env) env)) (XZ elt tg iter ifs tg2 iter2 ifs2 csc cpos) hg ht
  (λC s0 H0 ex acc=>mY rfl hc (hi2 C s0 H0 ex) (hg2 C s0 H0 ex) (ht2 C s0 H0 ex) (tN (he C s0 H0 ex)) (hs2 _)) hN hy hx hsw hf hs
end
end L2
end
section
namespace L2
open PySem PySem.Calls PyProof PyProof.Rows
open AutoSeq1 (wpAny_loadPart')
section
variable {prog:Program}{w:World}{A:Around}{E:Value->Shared->Prop}{s:Shared}
theorem sy(hit:s.heap.IsTupleIter it t i)(ht:s.heap.IsTuple t items)(hx:items[i]?=some x)
 (hQ:∀h',h'.IsTupleIter it t (i+1)->Dv it s.heap h'->Q x {s with heap:=h'}):wpAny (model prog w) A (CC (.ref it)) Q E s:=by
 obtain⟨o,ho,hc,hd⟩:=id hit;obtain⟨ol,hol,_,nl,hdl⟩:=ht;unfold CC;refine dS (Cc (name:=BG "__next__") hit.typeIs Cy
  (CJ Cy hit.typeIs EU ?_ (EH _)))
 show wpAny _ _ (field (.ref it) 0 >>= _) _ _ s;refine dS (Ci ho hd (x:=.ref t) rfl ?_);show wpAny _ _ (if (A0 t == Cg)=true then _ else _) _ _ s
 rw[if_neg (show ¬((A0 t == Cg)=true) from Aj)];show wpAny _ _ (field (.ref it) 1 >>= _) _ _ s;refine dS (Ci ho hd (x:=.int i 0) rfl ?_);show wpAny _ _ (Ef (.ref t) >>= _) _ _ s;refine dS (C7 hol hdl ?_);simp only[BS,hx];refine dS (Gf ho hd (by simp) (Ab ⟨x,rfl,Ab (hQ _ ?_ (Dv.update ..))⟩))
 exact⟨_,Ct _ ho (Obj.isFreed_of_fields (Obj.data_mapFields hd _)),(Obj.cls_mapFields ..).trans hc,by
  rw[Obj.data_mapFields hd];simp[rawInt]⟩
theorem qQ(hh:A.handled=none)(hit:s.heap.IsTupleIter it t i)(ht:s.heap.IsTuple t items)(hx:items[i]?=none)
 (hE:∀h' e,Heap.ExtBut it s.heap h'->(∃o,h'.get? e=some o/\o.cls=.type "StopIteration")->E (.ref e) {s with heap:=h'}):wpAny (model prog w) A (CC (.ref it)) Q E s:=by
 obtain⟨o,ho,hc,hd⟩:=id hit;obtain⟨ol,hol,_,nl,hdl⟩:=ht;unfold CC;refine dS (Cc (name:=BG "__next__") hit.typeIs Cy
  (CJ Cy hit.typeIs EU ?_ (EH _)))
 show wpAny _ _ (field (.ref it) 0 >>= _) _ _ s;refine dS (Ci ho hd (x:=.ref t) rfl ?_);show wpAny _ _ (if (A0 t == Cg)=true then _ else _) _ _ s
 rw[if_neg (show ¬((A0 t == Cg)=true) from Aj)];show wpAny _ _ (field (.ref it) 1 >>= _) _ _ s;refine dS (Ci ho hd (x:=.int i 0) rfl ?_);show wpAny _ _ (Ef (.ref t) >>= _) _ _ s;refine dS (C7 hol hdl ?_);simp only[BS,hx]
 first
  |refine dS (Dc (dS (Gf ho hd (by simp) ?_)))
  |refine dS (Gf ho hd (by simp) ?_)
 first
  |show wpAny _ _ (newExc (.type "StopIteration") [] >>= _) _ _ _
  |(refine dS (EK ?_);show wpAny _ _ (newExc (.type "StopIteration") [] >>= _) _ _ _)
 refine dS ?_;simp only[newExc,newTuple];refine dS (A4 ?_ (by size_fits))
 refine dS (m:=firstArgMember _ _) (F4 (a:=Cg) (by first|rfl|(simp only[firstArgMember];rfl)) ?_)
 refine A4 ?_ (by size_fits)
 simp only[raiseNew];refine dS (wpAny_handled ?_)
 first|rw[show A.in1.handled=none from hh]|rw[hh]
 refine dS (Ab (wpAny_throw ?_));exact hE _ _ (((Dv.update ..).extBut.push _).push _) ⟨_,Aq _ rfl,rfl⟩
end
theorem pM(hh:A.handled=none)it t(hne:t≠it)items :
 Draws prog w A it [it,t] items.size (λi v=>items[i]?=some v) (λi h=>h.IsTupleIter it t i/\h.IsTuple t items) where
 live:=λ_ _ st=>let ⟨o,ho,_⟩:=st.1;⟨o,ho⟩
 frame:=λ_ _ _ st hk=>⟨st.1.at λo e=>hk it (by simp) o e,let ⟨o,ho,r⟩:=st.2;⟨o,hk t (by simp) o ho,r⟩⟩
 item:=λi s Q E hi st hQ=>by
  refine sy st.1 st.2 (x:=items[i]) (by simp[hi]) λh' hit' hs'=>?_
  exact hQ _ h' s.toks (by simp[hi]) ⟨hit',let ⟨o,ho,r⟩:=st.2;⟨o,hs'.extBut t o hne ho,r⟩⟩ hs'
 done:=λs Q E st hE=>qQ hh st.1 st.2 (by simp) hE
theorem qO l items n dct sl :
 Meets (Builtin.«enumerate.__new__» ⟨[.type "enumerate",.ref l],[]⟩) (λ_ R s=>s.heap.get? l=some {cls:=.type "tuple",dict:=dct,data:=.seq items n,slots:=sl} /\
  R (.ok (.ret (.ref (s.heap.push {cls:=.type "tuple_iterator",data:=.fields #[.ref l,.int 0 0]}).objs.size)))
    {s with heap:=(s.heap.push {cls:=.type "tuple_iterator",data:=.fields #[.ref l,.int 0 0]}).push {cls:=.type "enumerate",data:=.fields #[.none,.bool false,.ref s.heap.objs.size,rawInt 0,.none,.none]}}):=
 .of_wp λprog w A R s h=>by
  obtain⟨hp,g,d,tk,os⟩:=s;obtain⟨hl,h⟩:=h;have hsub:=sub_enumerate;have hL:Heap.IsTuple (Shared.heap ⟨hp,g,d,tk,os⟩) l items:=⟨_,hl,rfl,n,rfl⟩
  wp_walk using BL hl
  refine wpAny_stack_any λst=>Ab ?_;split
  . rename_i c _ _ _ _ _
    cases (c == Fp "enumerate")
    . wp_walk using BL hl,Ck hL
      exact⟨_,rfl,h⟩
    . wp_walk using BL hl,Ck hL
      exact⟨_,rfl,h⟩
  . wp_walk using BL hl,Ck hL
    exact⟨_,rfl,h⟩
section
variable {prog:Program}{w:World}{A:Around}{E:Value->Shared->Prop}{s:Shared}
theorem qv(hL:s.heap.IsTuple l items)
 (h:∀h',IsEnum h' (s.heap.objs.size+1) s.heap.objs.size 0 .none->h'.IsTupleIter s.heap.objs.size l 0->h'.objs.size=s.heap.objs.size+2 ->
  (∀b o,s.heap.get? b=some o->h'.get? b=some o)->Q (.ref (s.heap.objs.size+1)) {s with heap:=h'}) :
 wpAny (model prog w) A (call (.type "enumerate") [.ref l]) Q E s:=by
 obtain⟨⟨c,dct,dt,sl⟩,hl,hc,n,hd⟩:=hL;replace hc:c=.type "tuple":=hc;replace hd:dt=.seq items n:=hd;subst hc hd;refine callType_new F.called_enumerate (by decide) (F.typeCall_enumerate_1 _) (F.newCall_enumerate_1 _) (λobj=>F.args_object_init_2 obj _) F.entry_enumerate_new
  (qO l items n dct sl) ⟨hl,?_⟩
 have hz:(s.heap.push {cls:=.type "tuple_iterator",data:=.fields #[.ref l,.int 0 0]}).objs.size=s.heap.objs.size+1:=A5 ..;show _/\_;rw[hz];have he:IsEnum ((s.heap.push {cls:=.type "tuple_iterator",data:=.fields #[.ref l,.int 0 0]}).push
  {cls:=.type "enumerate",data:=.fields #[.none,.bool false,.ref s.heap.objs.size,rawInt 0,.none,.none]}) (s.heap.objs.size+1) s.heap.objs.size 0 .none:=by
  have:=Aq (s.heap.push {cls:=.type "tuple_iterator",data:=.fields #[.ref l,.int 0 0]})
   (o:={cls:=.type "enumerate",data:=.fields #[.none,.bool false,.ref s.heap.objs.size,rawInt 0,.none,.none]}) rfl
  rw[hz]at this;exact this
 refine⟨⟨_,he,rfl⟩,h _ he ⟨_,nx _ (Aq _ rfl),rfl,rfl⟩ (by rw[A5,hz]) λb o x=>nx _ (nx _ x)⟩
end
end L2
end
section
namespace L2
open PySem PySem.Calls PyProof PyProof.Rows
noncomputable def Ite(K:Ag)(a:Addr):It:=
 ⟨λi H=>∃xs x,SqT K H a xs/\xs[i]?=some x,λi H x H'=>∃t y,H t=none/\x=.c t/\(∀xs,SqT K H a xs->xs[i]?=some y)/\H'=upd H t (.c [.d (i:Nat),y]),λi H=>∃xs,SqT K H a xs/\xs.length=i⟩
theorem Inv.iG(I:Inv X pins σ H s)(fe:wc X pins H e)(fi:wc X pins H it)
 (k:∀b o,b≠e->b≠it->s.heap.get? b=some o->h'.get? b=some o) (hT:s.heap.objs.size<=T) (hz:ys.length<=Au) (r:Vals ys its) (ho:h'.get? T=some {cls:=.type "tuple",data:=.seq its.toArray n}) :
 Inv X pins σ (upd H T (.c ys)) {s with heap:=h',toks:=t'}:=by
 obtain⟨e0,e1,e2,e3,e4,e5⟩:=fe;obtain⟨i0,i1,i2,i3,i4,i5⟩:=fi;have hn:H T=none:=I.j.fresh hT;have neT:∀b u,H b=some u->b≠T:=λb u q z=>by rw[z,hn]at q;cases q
 have nee:∀b u,H b=some u->b≠e:=λb u q z=>by rw[z,e0]at q;cases q
 have nei:∀b u,H b=some u->b≠it:=λb u q z=>by rw[z,i0]at q;cases q
 have neoT:∀b o,s.heap.get? b=some o->b≠T:=λb o q z=>absurd (Ar (Ae q) hT) (by rw[z];exact A1 _)
 refine I.step (g':=s.gens) (d':=s.drawn) (ch:=[e,it]) (λb hb=>?_) (λb o _ _ hc q _=>k b o (λz=>hc (by simp[z])) (λz=>hc (by simp[z])) q) (λb o _ _ hc q _=>⟨o.slots,k b o (λz=>hc (by simp[z])) (λz=>hc (by simp[z])) q⟩)
  (λb o _ q m=>by rw[zE (neoT b o q)];exact m) (λb o hc q=>⟨o,k b o (λz=>hc (by simp[z])) (λz=>hc (by simp[z])) q⟩) (λb xs q=>by rw[zE (neT b _ q)];exact q) (λb o u q=>by rw[zE (neT b _ q)];exact q)
  (λb ps q=>⟨#[],by rw[zE (neT b _ q),q];simp⟩) (λm hm=>?_) (λb u q=>?_) I.F
 . rcases Ak.mp hb with z|hb
   . subst z;exact⟨e3,e1,e4,e5⟩
   . have z:=Aw.mp hb
     subst z;exact⟨i3,i1,i4,i5⟩
 . obtain⟨o,es,ep,ho,r⟩:=hm
   exact⟨o,es,ep,k _ o (A9 e1) (A9 i1) ho,r⟩
 . by_cases hb:b=T
   . subst hb
     rw[zL]at q;cases q;exact⟨hz,its,r,_,ho,rfl,n,rfl,rfl⟩
   . rw[zE hb]at q
     refine(I.j b u q).rB (λc v hc w=>k c v ?_ ?_ w) (λc hc=>by rw[zE (neT c _ hc)];exact hc) λc xs hc=>by rw[zE (neT c _ hc)];exact hc
     . rcases hc with z|z
       . rw[z];exact nee b u q
       . exact nee c _ z
     . rcases hc with z|z
       . rw[z];exact nei b u q
       . exact nei c _ z
theorem Inv.iF(I:Inv X pins σ H s)(fi:wc X pins H it)(k:∀b o,b≠it->s.heap.get? b=some o->h'.get? b=some o):Inv X pins σ H {s with heap:=h',toks:=t'}:=by obtain⟨i0,i1,i2,i3,i4,i5⟩:=fi;exact I.turned k i0 i1 i3 i4 i5
theorem gz{K}a e it(hei:e≠it):Turn P w K (.Tuple elts x1 pos) (Ite K a) [e,it] e (λi h=>(∃old,IsEnum h e it (i:Nat) old)/\h.IsTupleIter it a i) where
 g:=by simp
 c:=λi h st b hb=>by
  rcases Ak.mp hb with z|hb
  . subst z
    obtain⟨old,he⟩:=st.1;exact⟨_,he,λv z=>by cases (show F2 _=Data.cell v from z)⟩
  . have z:=Aw.mp hb
    subst z;obtain⟨o,q,c,d⟩:=st.2;exact⟨o,q,λv z=>by rw[d]at z;cases z⟩
 a:=λi h h' st k=>⟨let ⟨old,he⟩:=st.1;⟨old,k e (by simp) _ he⟩,st.2.at λo q=>k it (by simp) o q⟩
 e:=by
  intro X hP hw hK hc i pins s σ H E I hf st hg;subst hP hw hK;obtain⟨xs,x,hq,hx⟩:=hg;obtain⟨⟨old,he⟩,hit⟩:=st;obtain⟨its,rv,p,hz⟩:=I.tuple hq;obtain⟨u,hu,ru⟩:=rv.get hx;have hlen:=rv.length;have hi:i<xs.length:=(Am.mp hx).1;have hai:a≠it:=λz=>by obtain⟨o1,q1,c1,_⟩:=id p;obtain⟨o2,q2,c2,_⟩:=id hit;rw[z,q2]at q1;cases q1;rw[c2]at c1;exact absurd (C8 c1) (by decide)
  have hae:a≠e:=λz=>by obtain⟨o1,q1,c1,_⟩:=id p;have he':s.heap.get? e=_:=he;rw[z,he']at q1;cases q1;exact absurd (C8 c1) (by decide)
  have D:=pM (prog:=X.f) (w:=X.w) (A:=X.A.in1) (I.C.i hc) it a hai its.toArray;refine FP D he ⟨hit,p⟩ (by rw[Aa];omega) hei (λm=>?_) λv h1 tk hP ho hs1 hT hsz hk=>?_
  . rcases Ak.mp m with z|m
    . exact hei z
    . exact hae (Aw.mp m).symm
  . have hP:its.toArray[i]?=some v:=hP
    have ev:v=u:=by rw[Eg,hu]at hP;exact(AQ hP).symm
    subst ev;refine⟨_,rfl,E6 (s:={s with heap:=h1,toks:=tk+1}) ho λh2 he2 sb=>?_⟩
    have sz:s.heap.objs.size≠e:=CI (Ae he);refine⟨.c s.heap.objs.size,_,Inv.iG (s:=s) (h':=h2) (t':=tk+1) (T:=s.heap.objs.size) (ys:=[.d (i:Nat),x]) (its:=[.int (i:Nat) tk,v]) (n:=0) I (hf e (by simp)) (hf it (by simp)) (λb o h1' h2' q=>(sb.2 b h1').trans (hk b o h1' h2' q)) (xd _) (by rw[AK];show 2<=_;decide) (.cons ⟨tk,rfl⟩ (.cons ru .nil)) ((sb.2 _ sz).trans hT),rfl,
     ⟨s.heap.objs.size,x,I.j.fresh (xd _),rfl,λys hy=>by rw[I.oG hy hq];exact hx,rfl⟩,⟨⟨v,by simpa using he2⟩,hs1.1.at λo q=>(sb.2 it (A9 hei)).trans q⟩,λb hb=>?_⟩
    rw[zE (λz=>?_)]
    . exact(hf b hb).1
    . have hlt:b<s.heap.objs.size:=by
       rcases Ak.mp hb with y|hb
       . rw[y];exact Ae he
       . rw[Aw.mp hb];obtain⟨o,q,_⟩:=hit;exact Ae q
      exact absurd z (Ax hlt)
 d:=by
  intro X hP hw hK hc i pins s σ H E I hf st hg;subst hP hw hK;obtain⟨xs,hq,hx⟩:=hg;obtain⟨⟨old,he⟩,hit⟩:=st;obtain⟨its,rv,p,hz⟩:=I.tuple hq;have hlen:=rv.length;have hai:a≠it:=λz=>by obtain⟨o1,q1,c1,_⟩:=id p;obtain⟨o2,q2,c2,_⟩:=id hit;rw[z,q2]at q1;cases q1;rw[c2]at c1;exact absurd (C8 c1) (by decide)
  have D:=pM (prog:=X.f) (w:=X.w) (A:=X.A.in1) (I.C.i hc) it a hai its.toArray;have en:its.toArray.size=i:=by rw[Aa];omega
  exact wpAny_pyNext_enum_endD D he ⟨by rw[en];exact hit,p⟩ λh' eb=>⟨rfl,I.iF (t':=s.toks) (hf it (by simp)) λb o hb q=>eb b o hb q⟩
 f:=λ_ _ _ _ _ st h=>let ⟨old,he⟩:=st.1;DS he h
noncomputable def Xe(K:Ag)(a:Addr):It:=
 ⟨λi H=>∃xs x,SqL K H a xs/\xs[i]?=some x,λi H x H'=>∃t y,H t=none/\x=.c t/\(∀xs,SqL K H a xs->xs[i]?=some y)/\H'=upd H t (.c [.d (i:Nat),y]),λi H=>∃xs,SqL K H a xs/\xs.length=i⟩
theorem kn{K}a e it(hei:e≠it):Turn P w K (.Tuple elts x1 pos) (Xe K a) [e,it] e (λi h=>(∃old,IsEnum h e it (i:Nat) old)/\h.IsListIter it a i) where
 g:=by simp
 c:=λi h st b hb=>by
  rcases Ak.mp hb with z|hb
  . subst z
    obtain⟨old,he⟩:=st.1;exact⟨_,he,λv z=>by cases (show F2 _=Data.cell v from z)⟩
  . have z:=Aw.mp hb
    subst z;obtain⟨o,q,c,d⟩:=st.2;exact⟨o,q,λv z=>by rw[d]at z;cases z⟩
 a:=λi h h' st k=>⟨let ⟨old,he⟩:=st.1;⟨old,k e (by simp) _ he⟩,st.2.at λo q=>k it (by simp) o q⟩
 e:=by
  intro X hP hw hK hc i pins s σ H E I hf st hg;subst hP hw hK;obtain⟨xs,x,hq,hx⟩:=hg;obtain⟨⟨old,he⟩,hit⟩:=st;obtain⟨its,rv,p0,hz⟩:=I.list hq;have p:=p0.isList;obtain⟨u,hu,ru⟩:=rv.get hx;have hlen:=rv.length;have hi:i<xs.length:=(Am.mp hx).1;have hai:a≠it:=λz=>by obtain⟨o1,q1,c1,_⟩:=id p;obtain⟨o2,q2,c2,_⟩:=id hit;rw[z,q2]at q1;cases q1;rw[c2]at c1;exact absurd (C8 c1) (by decide)
  have hae:a≠e:=λz=>by obtain⟨o1,q1,c1,_⟩:=id p;have he':s.heap.get? e=_:=he;rw[z,he']at q1;cases q1;exact absurd (C8 c1) (by decide)
  have D:=Draws.list (prog:=X.f) (w:=X.w) (A:=X.A.in1) (I.C.i hc) it a hai its.toArray;refine FP D he ⟨hit,p⟩ (by rw[Aa];omega) hei (λm=>?_) λv h1 tk hP ho hs1 hT hsz hk=>?_
  . rcases Ak.mp m with z|m
    . exact hei z
    . exact hae (Aw.mp m).symm
  . have hP:its.toArray[i]?=some v:=hP
    have ev:v=u:=by rw[Eg,hu]at hP;exact(AQ hP).symm
    subst ev;refine⟨_,rfl,E6 (s:={s with heap:=h1,toks:=tk+1}) ho λh2 he2 sb=>?_⟩
    have sz:s.heap.objs.size≠e:=CI (Ae he);refine⟨.c s.heap.objs.size,_,Inv.iG (s:=s) (h':=h2) (t':=tk+1) (T:=s.heap.objs.size) (ys:=[.d (i:Nat),x]) (its:=[.int (i:Nat) tk,v]) (n:=0) I (hf e (by simp)) (hf it (by simp)) (λb o h1' h2' q=>(sb.2 b h1').trans (hk b o h1' h2' q)) (xd _) (by rw[AK];show 2<=_;decide) (.cons ⟨tk,rfl⟩ (.cons ru .nil)) ((sb.2 _ sz).trans hT),rfl,
     ⟨s.heap.objs.size,x,I.j.fresh (xd _),rfl,λys hy=>by rw[I.mP hy hq];exact hx,rfl⟩,⟨⟨v,by simpa using he2⟩,hs1.1.at λo q=>(sb.2 it (A9 hei)).trans q⟩,λb hb=>?_⟩
    rw[zE (λz=>?_)]
    . exact(hf b hb).1
    . have hlt:b<s.heap.objs.size:=by
       rcases Ak.mp hb with y|hb
       . rw[y];exact Ae he
       . rw[Aw.mp hb];obtain⟨o,q,_⟩:=hit;exact Ae q
      exact absurd z (Ax hlt)
 d:=by
  intro X hP hw hK hc i pins s σ H E I hf st hg;subst hP hw hK;obtain⟨xs,hq,hx⟩:=hg;obtain⟨⟨old,he⟩,hit⟩:=st;obtain⟨its,rv,p0,hz⟩:=I.list hq;have p:=p0.isList;have hlen:=rv.length;have hai:a≠it:=λz=>by obtain⟨o1,q1,c1,_⟩:=id p;obtain⟨o2,q2,c2,_⟩:=id hit;rw[z,q2]at q1;cases q1;rw[c2]at c1;exact absurd (C8 c1) (by decide)
  have D:=Draws.list (prog:=X.f) (w:=X.w) (A:=X.A.in1) (I.C.i hc) it a hai its.toArray;have en:its.toArray.size=i:=by rw[Aa];omega
  exact wpAny_pyNext_enum_endD D he ⟨by rw[en];exact hit,p⟩ λh' eb=>⟨rfl,I.iF (t':=s.toks) (hf it (by simp)) λb o hb q=>eb b o hb q⟩
 f:=λ_ _ _ _ _ st h=>let ⟨old,he⟩:=st.1;DS he h
def Um(K:Ag)(ta:TA):TI:=λσ H R=>ta σ H λvs H1=>∃a,vs=[.c a]/\(((∃xs,SqT K H1 a xs)/\R (Ite K a) H1)\/((∃xs,SqL K H1 a xs)/\R (Xe K a) H1))
theorem Z3(hg:Gl X "enumerate")(hm:X.d "enumerate"=none)(ha:PA X [a] ta)(hs:AD [a] X.a=[(false,eval a X.a)]:=by rfl):PI X (.Tuple elts x1 tpos) (.Call (.Name "enumerate" p) [a] [] pos) (Um X.K ta):=by
 intro pins s σ H R I h;refine Call_ (vt I hg hm boot_enumerate (Cm (thn (ha pos pins s σ H _ I h) λus s1 ⟨vs,H1,I1,r1,q1⟩=>?_) hs rfl));obtain⟨c,e,q⟩:=q1;subst e;cases r1 with
 |cons r rr=>
  cases rr;cases r;have fp:∀b∈[s1.heap.objs.size+1,s1.heap.objs.size],wc X pins H1 b:=λb hb=>by
   have hb':s1.heap.objs.size<=b:=by
    rcases Ak.mp hb with z|hb
    . rw[z];exact CW _
    . rw[Aw.mp hb];exact xd _
   exact I1.au hb' (I1.j.fresh hb')
  rcases q with⟨⟨xs,hq⟩,q⟩|⟨⟨xs,hq⟩,q⟩
  . obtain⟨its,rv,pt,hz⟩:=I1.tuple hq
    refine qv (show s1.heap.IsTuple c its.toArray from pt) λh' he hit hsz hk=>DS he ?_;exact⟨s1.heap.objs.size+1,[s1.heap.objs.size+1,s1.heap.objs.size],_,_,H1,rfl,I1.kept (t':=s1.toks) hk,gz c _ _ (Nat.succ_ne_self _),⟨⟨_,he⟩,hit⟩,fp,q⟩
  . obtain⟨its,rv,pt,hz⟩:=I1.list hq
    refine call_enumerate_list pt.isList λh' he hit hsz hk=>DS he ?_;exact⟨s1.heap.objs.size+1,[s1.heap.objs.size+1,s1.heap.objs.size],_,_,H1,rfl,I1.kept (t':=s1.toks) hk,kn c _ _ (Nat.succ_ne_self _),⟨⟨_,he⟩,hit⟩,fp,q⟩
end L2
end
section
namespace L2
open PySem PyProof.Rows
noncomputable def intsOf:List Expr->Option (List Int)
 |[]=>some []
 |.Constant (.int i) _ _::es=>(intsOf es).map λr=>i::r
 |.UnaryOp .USub (.Constant (.int i) _ _) _::es=>(intsOf es).map λr=>-i::r
 |_=>none
end L2
end
section
namespace L2
open PySem PyProof.Rows
section
variable {X:Cx}{a b:Expr}{rest:List Expr}{ta tb:TE}{pos:Pos}
def Rb(K:Ag)(ta tb:TE):TE:=λσ H Q=>ta σ H λx H1=>∃c,aO K x H1 c/\if c=true then Q x H1 else tb σ H1 Q
theorem Vb(ha:PE X a ta)(hb:PE X (.BoolOp .Or (b::rest) pos) tb):PE X (.BoolOp .Or (a::b::rest) pos) (Rb X.K ta tb):=by
 intro pins s σ H Q I h;refine BoolOp_or (thn (ha pins s σ H _ I h) λv s1 ⟨x,H1,I1,r1,c,ht,q1⟩=>?_);refine thn (aA pins s1 σ H1 x v (λk H2=>if k=true then Q x H2 else tb σ H2 Q) I1 r1 ⟨c,ht,q1⟩) λk s2 ⟨H2,I2,q2⟩=>?_
 cases k with
 |false=>exact hb pins s2 σ H2 Q I2 q2
 |true=>exact⟨x,H2,I2,r1,q2⟩
end
noncomputable def vk(n:Nat)(lo hi:Option Int)(c:Int):Int × Nat:=((Br lo hi (some c) n).1,(if c > 0 then (if (Br lo hi (some c) n).1<(Br lo hi (some c) n).2.1 then ((Br lo hi (some c) n).2.1-(Br lo hi (some c) n).1+c-1)/c else 0) else (if (Br lo hi (some c) n).1 > (Br lo hi (some c) n).2.1 then ((Br lo hi (some c) n).1-(Br lo hi (some c) n).2.1-c-1)/(-c) else 0):Int).toNat)
theorem v9 its lo hi c:GA its.toArray lo hi (some c)=(yC its (vk its.length lo hi c).1 c (vk its.length lo hi c).2).toArray:=by unfold GA sliceRange yC vk;rw[B1];refine congrArg List.toArray ?_;have e:(Br lo hi (some c) its.toArray.size).2.2=c:=rfl;rw[e];simp only[Aa];refine congrArg (λf=>List.filterMap f _) ?_;funext k;show its.toArray[_]?=_;rw[Eg,Int.mul_comm]
def SK(K:Ag):V->Option Int->Option Int->Option Int->Hp->VK->Prop:=λx lo hi st H Q=>∃a xs c,x=.c a/\SqL K H a xs/\st=some c/\c≠0/\∀p,H p=none->Q (.c p) (upd H p (.b (yC xs (vk xs.length lo hi c).1 c (vk xs.length lo hi c).2)))
theorem kG{lo hi}{st}(he:PE X e te)(hl:PO X lo tl)(hu:PO X hi th)(hc:PO X (some st) tc):PE X (.Subscript e (.Slice lo hi (some st) p2) pos) (So (SK X.K) te tl th tc):=by
 intro pins s σ H Q I h;refine Gj (thn (he pins s σ H _ I h) λv s1 ⟨x,H1,I1,r1,q1⟩=>?_);refine wpAny_Slice (thn (hl pins s1 σ H1 _ I1 q1) λvl s2 ⟨l,H2,I2,pl,q2⟩=>thn (hu pins s2 σ H2 _ I2 q2) λvu s3 ⟨u,H3,I3,pu,q3⟩=>thn (hc pins s3 σ H3 _ I3 q3) λvc s4 ⟨c,H4,I4,pc,q4⟩=>?_);obtain⟨a,xs,cc,rfl,hx,ec,h0,g⟩:=q4;subst ec;cases r1;have I5:Inv X pins σ H4 {s4 with heap:=s4.heap.push {cls:=.type "slice",data:=.fields #[vl,vu,vc]}}:=I4.kept (t':=s4.toks) λb ob q=>nx _ q
 obtain⟨its,r,ht,hz⟩:=I5.list hx;have hlen:=r.length;show wpAny (model X.f X.w) X.A (E3 e (.Slice lo hi (some st) p2) (.ref a) (.ref s4.heap.objs.size)) (EP X pins σ Q) X.i {s4 with heap:=s4.heap.push {cls:=.type "slice",data:=.fields #[vl,vu,vc]}}
 refine tail_any (ops:=[.ref a,.ref s4.heap.objs.size]) ht.isList.typeIs Fg.lookup (FC ht.isList (EN ..) pl pu pc (λz=>h0 (AQ z)) ?_ (by rw[Aa]<;>omega)) (by with_unfolding_all rfl)
 rw[v9,<-hlen];refine⟨.c _,_,I5.laid (t':=s4.toks) (o:=.b (yC xs (vk xs.length l u cc).1 cc (vk xs.length l u cc).2)) (λb ob q=>nx _ q) (xd _) ?_,rfl,g _ (I5.j.fresh (xd _))⟩;have rp:=r.yC (vk xs.length l u cc).1 cc (vk xs.length l u cc).2;have bound:(yC xs (vk xs.length l u cc).1 cc (vk xs.length l u cc).2).length<=xs.length:=by have:=slicePick_size_le its.toArray l u (some cc);rw[v9,Aa,Aa,<-hlen,<-rp.length]at this;exact this
 exact⟨AE bound hz,_,0,rp,Aq _ rfl⟩
end L2
end
section
namespace L2
open PySem PyProof PyProof.Rows
section
variable {X:Cx}
noncomputable def U2(z:Str)(ys:List Str):Str:=Txt.join z ys
end
end L2
end
section
namespace L2
open PySem PySem.Spec PyProof PyProof.Rows
theorem mS:Ft (.type "tuple") (dunderI "add")=(pure none:Sem (Option Value)):=rfl
section
variable {X:Cx}
theorem ip:OpR X (Dx .Add) XG:=by
 intro pins s σ H x y v u Q I rx ry h;obtain⟨a,b,xs,ys,rfl,rfl,ha,hb,hz,g⟩:=h;cases rx;cases ry;obtain⟨its,r1,p1,_⟩:=I.tuple (.inl (.inl ha));obtain⟨its2,r2,p2,_⟩:=I.tuple (.inl (.inl hb));obtain⟨⟨cls,dd,data,sl⟩,ho,hc,n,hd⟩:=id p1;obtain⟨⟨cls2,dd2,data2,sl2⟩,ho2,hc2,n2,hd2⟩:=id p2;simp only at hc hd hc2 hd2;subst hc hd hc2 hd2;have e:its.toArray++its2.toArray=(its++its2).toArray:=by simp
 have tA:s.TypeIs (.ref a) "tuple":=⟨_,ho,rfl⟩;have tB:s.TypeIs (.ref b) "tuple":=⟨_,ho2,rfl⟩;refine inplaceOp_concat tA tB mS D3 E2 ?_;by_cases hx:xs=[]
 . subst hx
   cases r1;exact BK BW tA BR (BO _ _) (tuple_addW0 a b #[] its2.toArray n n2 dd dd2 sl sl2 rfl) ⟨ho,ho2,⟨.c b,H,I,rfl,g b H (xf.refl H) hb⟩⟩
 . have hv:its≠[]:=λz=>hx (r1.wJ.mp z)
   by_cases hy:ys=[]
   . have hw:its2=[]:=r2.wJ.mpr hy
     subst hy;rw[Bb]at g;exact BK BW tA BR (BO _ _) (tuple_addW1 a b its.toArray its2.toArray n n2 dd dd2 sl sl2 (by simpa using hv) (by simp[hw])) ⟨ho,ho2,⟨.c a,H,I,rfl,g a H (xf.refl H) ha⟩⟩
   . have hw:its2≠[]:=λz=>hy (r2.wJ.mp z)
     refine BK BW tA BR (BO _ _) (tuple_addW2 a b its.toArray its2.toArray n n2 dd dd2 sl sl2 (by simpa using hv) (by simpa using hw) (by rw[Aa,Aa,<-r1.length,<-r2.length];exact hz)) ⟨ho,ho2,?_⟩
     rw[e];refine⟨.c s.heap.objs.size,_,I.laid (t':=s.toks) (o:=.c (xs++ys)) (λb ob q=>nx _ q) (xd _) ?_,rfl,g.new _ (I.j.fresh (xd _))⟩;exact⟨by rw[Ap];exact hz,_,r1.append r2,ux.new _ _⟩
noncomputable def Sb(ns:List Int):Bool:=decide (ns.length<=1000)&&ns.all λn=>decide (-1000000<=n)&&decide (n<=1000000)
end
end L2
end
section
namespace L2
open PySem PySem.W PySem.Calls PyProof PyProof.Rows
open AutoSeq1 (wpAny_loadPart')
open SeqAt
theorem eT:∀{xs} {us},Vals xs us->xs.all wI=true->us.map (eqU x)=xs.map λy=>eqV y x
 |_,_,.nil,_=>rfl
 |y::ys,u::us,.cons r rs,h=>by rw[Cw,cf]at h;rw[A7,A7,eT rs h.2,lT r h.1]
section
variable {prog:Program}{w:World}{A:Around}{E:Value->Shared->Prop}{s:Shared}
theorem nV(hT:T="list"\/T="tuple")(ho:s.heap.get? l=some o)(hc:o.cls=.type T)(hd:o.data=.seq vs.toArray n)(hI:IntsAre vs ns)(h64:vs.length<64)
 (h:∀D h' out ns' c,s.heap.get? D=none->(∀b o,s.heap.get? b=some o->h'.get? b=some o)->h'.get? D=some (seqObj "list" out c)->IntsAre out.toList ns'->ns'.Perm ns->ns'.Pairwise (·<=·)->Q (.ref D) {s with heap:=h'}) :
 wpAny (model prog w) A (call (.builtin "sorted") [.ref l]) Q E s:=by
 refine Calls.call_function_entry kind_sorted plain_sorted entry_sorted (args_sorted1 _) ?_;unfold Builtin.«sorted»;refine dS (m:=checkCount "sorted" 1 1 _) (Ab ?_);refine dS (wpAny_collect_seq l hT ho hc hd (λh1 kp=>?_) (by rw[Aa,AK];omega))
 refine dS (wpAny_newList ?_ (by rw[AK];simp;omega))
 have hoL:(h1.push (seqObj "list" vs.toArray 0)).get? h1.objs.size=some (seqObj "list" vs.toArray 0):=Aq _ rfl;show wpAny _ _ _ _ _ {s with heap:=h1.push (seqObj "list" vs.toArray 0)}
 refine dS (By (CJ slot_list_sort ⟨_,hoL,rfl⟩ entry_list_sort (list_sort_tree hoL hI h64 λout ns' a1 a2 a3=>⟨_,rfl,?_⟩) (args_list_sort _)));obtain⟨c,ec⟩:=sortedHeap_at (out:=out) hoL;refine Ab ⟨_,rfl,h h1.objs.size _ out ns' c ?_ (λb o e=>?_) ec a1 a2 a3⟩
 . cases e:s.heap.get? h1.objs.size with
   |none=>rfl
   |some o'=>exact absurd (Ae (kp _ _ e)) (A1 _)
 . have hb:=Ae (kp b o e)
   rw[sortedHeap_old (Ax hb) (by rw[size_push'];exact BH hb),Heap.get?_push_ne _ _ _ (Ax hb)]
   exact kp b o e
end
theorem mG:∀{ns} {us},Vals (ns.map V.d) us->IntsAre us ns
 |[],_,.nil=>.nil
 |n::ns,_,.cons ⟨t,e⟩ r=>by subst e;exact .cons _ _ (mG r)
theorem nq:∀{ns} {us},IntsAre us ns->Vals (ns.map V.d) us
 |_,_,.nil=>.nil
 |_,_,.cons _ _ r=>.cons ⟨_,rfl⟩ (nq r)
theorem lM:yB X (.builtin "sorted") (λxs H Q=>∃p ns,xs=[.c p]/\(SqL X.K H p (ns.map V.d)\/SqT X.K H p (ns.map V.d))/\ns.length<64 /\
 ∀l (ns':List Int),H l=none->ns'.Perm ns->ns'.Pairwise (·<=·)->Q (.c l) (upd H l (.b (ns'.map V.d)))):=by
 intro pins s σ H xs us Q I r h;obtain⟨p,ns,rfl,hq,h64,q⟩:=h;obtain⟨u,rfl,rx⟩:=vals1 r;cases rx;have go:∀{its:List Value} {T:String} {o:Obj} {n:Nat},Vals (ns.map V.d) its->(T="list"\/T="tuple")->s.heap.get? p=some o->o.cls=.type T->o.data=.seq its.toArray n ->
  wpAny (model X.f X.w) X.A (call (.builtin "sorted") [.ref p]) (λv s'=>∃x H',Inv X pins σ H' s'/\RelV x v/\Q x H') X.i s:=λ{its T o n} rv hT ho hc hd=>by
  have hl:=rv.length;rw[Ai]at hl;refine nV hT ho hc hd (mG rv) (by omega) λD h' out ns' c hD keep e hi hp ho=>?_
  have hln:=hp.length_eq;obtain⟨hn',I'⟩:=I.Xn (h':=h') (ys:=ns'.map V.d) (its:=out.toList) (c:=c) (by rw[Ai,AK];omega) (nq hi) hD (λb o _ e=>keep b o e) (λm ⟨o,es,ep,ho,r⟩=>⟨o,es,ep,keep _ o ho,r⟩) (by rw[e])
  exact⟨V.c _,_,I',rfl,q _ _ hn' hp ho⟩
 rcases hq with hq|hq
 . obtain⟨its,rv,pl,hz⟩:=I.list hq
   obtain⟨o,ho,hc,n,hd⟩:=id pl.isList;exact go rv (.inl rfl) ho hc hd
 . obtain⟨its,rv,p1,_⟩:=I.tuple hq
   obtain⟨o,ho,hc,n,hd⟩:=id p1;exact go rv (.inr rfl) ho hc hd
section
variable {X:Cx}
def bM(K:Ag)(g:List Int->Int):List V->Hp->VK->Prop:=λxs H Q=>∃(a:Addr) (ns:List Int),xs=[.c a]/\SqT K H a (ns.map V.d)/\ns≠[]/\Q (.d (g ns)) H
theorem iQ(hc:X.j=true):yB X (.builtin "max") (bM X.K (x8 0)):=by
 intro pins s σ H xs us Q I r h;obtain⟨a,ns,rfl,ha,hne,q⟩:=h;obtain⟨u,rfl,ru⟩:=vals1 r;cases ru;obtain⟨its,rv,pl,hz⟩:=I.tuple ha;have hlen:=rv.length;have alt:a<s.heap.objs.size:=by obtain⟨o,ho,_⟩:=id pl;exact Ae ho
 have hl:its.toArray.size=ns.length:=by rw[Aa,<-hlen,Ai]
 have hpos:0<ns.length:=Dn.mpr hne;have hat:∀(i:Nat) (v:Value),its.toArray[i]?=some v->∃t,v=.int (ns.getD i 0) t:=λi v hv=>rv.ints (by simpa using hv)
 refine call_max_walk (Ck pl ?_);refine⟨s.heap.objs.size,_,_,_,_,_,_,rfl,Walks.tuple (A:=X.A.in1) (I.C.i hc) s.heap.objs.size a (Ax alt) its.toArray,⟨⟨_,Aq _ rfl,rfl,rfl⟩,?_⟩,λb hb=>?_,by omega,Gw (λi=>ns.getD i 0) hat,λv h' tk hP hk=>?_⟩
 . obtain⟨o,ho,hc',n,hd⟩:=id pl
   exact⟨o,nx _ ho,hc',n,hd⟩
 . rw[A5]
   simp only[Ak,Bg,or_false]at hb;rcases hb with e|e
   . rw[e];exact Ce _
   . rw[e];exact BH alt
 . obtain⟨t,rfl⟩:=hat _ _ hP
   obtain⟨b1,b2⟩:=argBest_gt (λi=>ns.getD i 0) (its.toArray.size-1);have e:x8 0 ns=ns.getD (argBest (λi j=>decide (ns.getD i 0 > ns.getD j 0)) (its.toArray.size-1)) 0:=by
    refine qN ?_ λx hx=>?_
    . have:argBest (λi j=>decide (ns.getD i 0 > ns.getD j 0)) (its.toArray.size-1)<ns.length:=by omega
      rw[AH,Ad this];exact Cf this
    . obtain⟨i,hi,rfl⟩:=Bp hx
      have:=b2 i (by omega)
      simpa [AH,Ad hi] using this
   refine⟨.d (x8 0 ns),H,I.kept λb o ho=>hk b o ?_ (nx _ ho),⟨t,by rw[e]⟩,q⟩
   simpa using Ax (Ae ho)
theorem lL(hc:X.j=true):yB X (.builtin "min") (bM X.K (vx 0)):=by
 intro pins s σ H xs us Q I r h;obtain⟨a,ns,rfl,ha,hne,q⟩:=h;obtain⟨u,rfl,ru⟩:=vals1 r;cases ru;obtain⟨its,rv,pl,hz⟩:=I.tuple ha;have hlen:=rv.length;have alt:a<s.heap.objs.size:=by obtain⟨o,ho,_⟩:=id pl;exact Ae ho
 have hl:its.toArray.size=ns.length:=by rw[Aa,<-hlen,Ai]
 have hpos:0<ns.length:=Dn.mpr hne;have hat:∀(i:Nat) (v:Value),its.toArray[i]?=some v->∃t,v=.int (ns.getD i 0) t:=λi v hv=>rv.ints (by simpa using hv)
 refine call_min_walk (Ck pl ?_);refine⟨s.heap.objs.size,_,_,_,_,_,_,rfl,Walks.tuple (A:=X.A.in1) (I.C.i hc) s.heap.objs.size a (Ax alt) its.toArray,⟨⟨_,Aq _ rfl,rfl,rfl⟩,?_⟩,λb hb=>?_,by omega,CmpOf.ints_lt (λi=>ns.getD i 0) hat,λv h' tk hP hk=>?_⟩
 . obtain⟨o,ho,hc',n,hd⟩:=id pl
   exact⟨o,nx _ ho,hc',n,hd⟩
 . rw[A5]
   simp only[Ak,Bg,or_false]at hb;rcases hb with e|e
   . rw[e];exact Ce _
   . rw[e];exact BH alt
 . obtain⟨t,rfl⟩:=hat _ _ hP
   obtain⟨b1,b2⟩:=argBest_lt (λi=>ns.getD i 0) (its.toArray.size-1);have e:vx 0 ns=ns.getD (argBest (λi j=>decide (ns.getD i 0<ns.getD j 0)) (its.toArray.size-1)) 0:=by
    refine mQ ?_ λx hx=>?_
    . have:argBest (λi j=>decide (ns.getD i 0<ns.getD j 0)) (its.toArray.size-1)<ns.length:=by omega
      rw[AH,Ad this];exact Cf this
    . obtain⟨i,hi,rfl⟩:=Bp hx
      have:=b2 i (by omega)
      simpa [AH,Ad hi] using this
   refine⟨.d (vx 0 ns),H,I.kept λb o ho=>hk b o ?_ (nx _ ho),⟨t,by rw[e]⟩,q⟩
   simpa using Ax (Ae ho)
end
end L2
end
section
namespace L2
open PySem PySem.W PySem.Calls PyProof PyProof.Rows
open AutoSeq1 (wpAny_loadPart')
open SeqAt
noncomputable def U8:List Int->List Int->Bool
 |[],[]=>false
 |[],_::_=>true
 |_::_,[]=>false
 |x::xs,y::ys=>if x=y then U8 xs ys else decide (x<y)
end L2
namespace L2
open PySem PySem.W PySem.Calls PyProof PyProof.Rows
def TJ:List (List Int)->List Int
 |[]=>[]
 |z::t=>t.foldl (λm y=>if U8 y m then y else m) z
end L2
end
section
namespace L2
open PySem PySem.W PySem.Calls PyProof PyProof.Rows
noncomputable def dN(ns:List Int):Nat:=(firstMet (λi=>ns.getD i 0) ns.length).length
end L2
end
section
namespace PySem
open Sem (wp)
structure xq(B newId initId:String)(bm:List Value):Prop extends ExcCallFacts B newId initId where
 b:splitId newId=some (B,"__new__")
 d:builtinKind newId=some .builtinFn
 e:Manifest.signature? newId=some ⟨.any,B,B,.cls,[⟨"args",.varPos,false⟩,⟨"kwargs",.varKw,false⟩]⟩
 a:bm.contains (.type B)=true
 c:bm.contains (.type "BaseException")=true
 f:bm.contains (.type "AttributeError")=false
 g:bm.contains (.type "NameError")=false
 h:Manifest.canonical newId=Manifest.canonical "BaseException.__new__"
theorem ExcBaseFacts.two(F:ExcBaseFacts B newId initId bm)D:xq B newId initId (.ref D::bm):=
 ⟨F.toExcCallFacts,F.newSplit,F.newKind,F.newRow,by rw[BD,F.hasB,Et],by rw[BD,F.hasBase,Et],by rw[BD,F.noAttr];rfl,by rw[BD,F.noName];rfl,F.canon⟩
section
variable {M:Model}{A:Around}{E:Value->Shared->Prop}{h:Heap}{g:Array GenState}{d:Drawn}{t:Nat}{os:OsState}
variable {nm q:Str}{C N:Addr}{bs bm:List Value}{hdct:Bool}{sn:List Str}{sub:List Value}{ab:Bool}{col:Option Bool}{dd:Option Addr}{k0 k1 k2 k3 k5:Option Value}{B newId initId:String}
theorem vW
 (hC:h.get? C=some (BY nm q C N bs bm hdct sn sub ab col dd k0 k1 k2 k3 k5 newId)) (hn:h.Ns N mN) (hni:mN name=none)
 (hD:h.get? D=some (BY nm1 q1 D N1 bs1 bm1 hd1 sn1 sub1 ab1 col1 dd1 j0 j1 j2 j3 j5 new1)) (hn1:h.Ns N1 mN1) (hni1:mN1 name=none) (hbm:bm=.ref D::bm1) (hb1:mroOf (.type B)=pure bm1) (hB:Ft (.type B) name=pure y)
 (hq:Q y ⟨h,g,d,t,os⟩):wpAny M A (Ft (.ref C) name) Q E ⟨h,g,d,t,os⟩:=by
 have hrest:lookupAlong bm1 name=pure y:=by rw[typeLookup_eq,hb1]at hB;exact hB
 rw[typeLookup_eq];refine dS (wpAny_mroOf_exc hC ?_);rw[lookupAlong_cons];refine dS (wpAny_classOwn_exc hC hn ?_);rw[hni,hbm];show wpAny M A (lookupAlong (.ref D::bm1) name) Q E _;rw[lookupAlong_cons];refine dS (wpAny_classOwn_exc hD hn1 ?_);rw[hni1,hrest];exact Ab hq
theorem uB(F:xq B newId initId bm)(hC:h.get? C=some (BY nm q C N bs bm hdct sn sub ab col dd k0 k1 k2 k3 k5 newId))
 (hq:Q () ⟨h,g,d,t,os⟩):wpAny M A (CL newId ⟨.ref C::rest,[]⟩) Q E ⟨h,g,d,t,os⟩:=by
 have hcont:(A0 C::bm).contains (.type B)=true:=by rw[BD,F.a,Et]
 have hstar:=F.noStar;simp only[CL,F.d,F.b,F.e]
 repeat (first|refine Bh hC ?_|(refine Dp hC ?_;rw[hcont])|refine wpAny_staticBase_exc hC ?_|refine wpAny_madeBy_exc hC ?_|simp only[bne_self_eq_false,AZ,if_false]|wp_step)
 exact hq
end
section
variable {prog:Program}{w:World}{A:Around}{R:Result->Shared->Prop}{h:Heap}{g:Array GenState}{d:Drawn}{t:Nat}{os:OsState}
variable {nm q:Str}{C N:Addr}{bs bm:List Value}{hdct:Bool}{sn:List Str}{sub:List Value}{ab:Bool}{col:Option Bool}{dd:Option Addr}{k0 k1 k2 k3 k5:Option Value}{B newId initId:String}
theorem vj(F:xq B newId initId bm)(hC:h.get? C=some (BY nm q C N bs bm hdct sn sub ab col dd k0 k1 k2 k3 k5 newId))
 (hq:R (.ok (.ret (.ref (h.objs.size+1)))) ⟨(h.push {cls:=.type "tuple",data:=.seq rest.toArray}).push
  {cls:=.ref C,data:=.fields #[.ref h.objs.size,.none,.none,.none,.bool false,.none]},g,d,t,os⟩) (hrest:rest.length<=Au:=by size_fits) :
 codeAny (model prog w) A (.builtin newId ⟨.ref C::rest,[]⟩) R ⟨h,g,d,t,os⟩:=by
 have hends:=F.ends;have hcB:(A0 C::bm).contains (.type B)=true:=by rw[BD,F.a,Et]
 have hcA:(A0 C::bm).contains (.type "AttributeError")=false:=by rw[BD,F.f];rfl
 have hcN:(A0 C::bm).contains (.type "NameError")=false:=by rw[BD,F.g];rfl
 refine codeAny_builtinAt F.entry ?_;unfold Builtin.«BaseException.__new__»;refine wpAt_bind ?_;show wpAt _ _ _ (stack >>= _) _ _ _;refine wpAt_bind (wpAt_stack λp below=>wpAt_of_wpAny ?_)
 wp_walk
 refine wpAt_of_wpAny ?_;rw[F.owner]
 repeat (first|with_reducible refine wpAny_madeHere_exc F.h hC ?_|with_reducible refine Bh hC ?_|(with_reducible refine Dp hC ?_;first|rw[hcB]|rw[hcA]|rw[hcN])|wp_step)
 show R _ _;rw[A5];exact hq
end
section
variable {prog:Program}{w:World}{A:Around}{E:Value->Shared->Prop}{h:Heap}{g:Array GenState}{d:Drawn}{t:Nat}{os:OsState}
variable {nm q:Str}{C N:Addr}{bs bm:List Value}{hdct:Bool}{sn:List Str}{sub:List Value}{ab:Bool}{col:Option Bool}{dd:Option Addr}{k0 k1 k2 k3 k5:Option Value}{B newId initId:String}
theorem vV(F:xq B newId initId bm)
 (hC:h.get? C=some (BY nm q C N bs bm hdct sn sub ab col dd k0 k1 k2 k3 k5 newId)) (he:h.get? e=some oe) (hcls:oe.cls=.ref C) (hq:Q () ⟨h,g,d,t,os⟩) :
 wpAny M A (CL initId ⟨.ref e::rest,[]⟩) Q E ⟨h,g,d,t,os⟩:=by
 have hcB:(A0 C::bm).contains (.type B)=true:=by rw[BD,F.a,Et]
 have hshort:=F.noStar;simp only[CL,F.initKind,F.initSplit,F.initRow]
 repeat (first|(with_reducible refine Bh he ?_;rw[hcls])|with_reducible refine Bh hC ?_|(with_reducible refine Dp hC ?_;rw[hcB])|wp_step)
 refine wpAny_onRaise ?_;rw[show ∀(a b:String) (n:Nat),Bind.check ⟨.positional,"*",B,.self,[⟨"args",.varPos,false⟩]⟩ a b n (Gq (λx=>x.fst) ({pos:=A0 e::rest}:Args).kw)=pure () from
  λa b n=>check_star_args _ _ _ _ _ _]
 exact Ab hq
theorem wa(F:xq B newId initId bm)
 (hC:h.get? C=some (BY nm q C N bs bm hdct sn sub ab col dd k0 k1 k2 k3 k5 newId)) (hn:h.Ns N mN) (hni:mN "__init__"=none) (hD:h.get? D=some (BY nm1 q1 D N1 bs1 bm1 hd1 sn1 sub1 ab1 col1 dd1 j0 j1 j2 j3 j5 new1)) (hn1:h.Ns N1 mN1) (hni1:mN1 "__init__"=none) (hbm:bm=.ref D::bm1) (hb1:mroOf (.type B)=pure bm1) 
 (hq:∀h' e,DK h h' e (.ref C) rest->Q (.done (.ret (.ref e))) ⟨h',g,d,t,os⟩) (hrest:rest.length<=Au:=by size_fits) :
 wpAny (model prog w) A (Builtin.«type.__call__» ⟨.ref C::rest,[]⟩) Q E ⟨h,g,d,t,os⟩:=by
 repeat (first|with_reducible refine Bh hC ?_|with_reducible refine wpAny_madeBy_exc hC ?_|wp_step)
 refine codeAny_call_builtin_code (EV _ F.quiet) (uB F hC ?_);refine vj F hC ?_ hrest;show wpAny _ _ _ _ _ _;have hC₁:=nx {cls:=.ref C,data:=.fields #[.ref h.objs.size,.none,.none,.none,.bool false,.none]}
  (nx {cls:=.type "tuple",data:=.seq rest.toArray} hC)
 have hn₁:((h.push {cls:=.type "tuple",data:=.seq rest.toArray}).push {cls:=.ref C,data:=.fields #[.ref h.objs.size,.none,.none,.none,.bool false,.none]}).Ns N mN:=
  let ⟨o,es,ep,e,r⟩:=hn;⟨o,es,ep,nx _ (nx _ e),r⟩
 have hget:((h.push {cls:=.type "tuple",data:=.seq rest.toArray}).push
  {cls:=.ref C,data:=.fields #[.ref h.objs.size,.none,.none,.none,.bool false,.none]}).get? (h.objs.size+1)=some
  {cls:=.ref C,data:=.fields #[.ref h.objs.size,.none,.none,.none,.bool false,.none]}:=by heap_get
 have hcC:(A0 C::bm).contains (.ref C)=true:=by simp
 unfold isInstance
 repeat (first|with_reducible refine Bh hget ?_|(with_reducible refine Dp hC₁ ?_;rw[hcC])|wp_step)
 show wpAny _ _ (Ft (.ref C) _) _ _ _;have hD₁:=nx {cls:=.ref C,data:=.fields #[.ref h.objs.size,.none,.none,.none,.bool false,.none]}
  (nx {cls:=.type "tuple",data:=.seq rest.toArray} hD)
 have hn1₁:((h.push {cls:=.type "tuple",data:=.seq rest.toArray}).push {cls:=.ref C,data:=.fields #[.ref h.objs.size,.none,.none,.none,.bool false,.none]}).Ns N1 mN1:=
  let ⟨o,es,ep,e,r⟩:=hn1;⟨o,es,ep,nx _ (nx _ e),r⟩
 refine vW hC₁ hn₁ hni hD₁ hn1₁ hni1 hbm hb1 F.init.lookup ?_;refine By (dS (F4 (F.init.bind _) ?_));refine dS (Ek (Eu F.init.plain F.initEntry (vV F hC₁ hget rfl ?_)))
 wp_walk
 refine hq _ _ ⟨λb o hb=>?_,Ej (CW _),h.objs.size+2,?_,Ej (by omega),?_⟩
 . rw[Bk _ _ (CI (BH (Ae hb)))]
   exact nx _ (nx _ (nx _ hb))
 . rw[Ct _ (nx _ hget) rfl]
   simp only[A5];rfl
 . rw[Bk _ _ (show h.objs.size+1≠h.objs.size+2 by omega)]
   exact Heap.get?_push_at (by simp only[A5]) rfl
theorem uV(F:xq B newId initId bm)
 (hC:h.get? C=some (BY nm q C N bs bm hdct sn sub ab col dd k0 k1 k2 k3 k5 newId)) (hn:h.Ns N mN) (hni:mN "__init__"=none) (hD:h.get? D=some (BY nm1 q1 D N1 bs1 bm1 hd1 sn1 sub1 ab1 col1 dd1 j0 j1 j2 j3 j5 new1)) (hn1:h.Ns N1 mN1) (hni1:mN1 "__init__"=none) (hbm:bm=.ref D::bm1) (hb1:mroOf (.type B)=pure bm1) 
 (hq:∀h' e,DK h h' e (.ref C) rest->Q (.ref e) ⟨h',g,d,t,os⟩) (hrest:rest.length<=Au:=by size_fits) :
 wpAny (model prog w) A (call (.ref C) rest) Q E ⟨h,g,d,t,os⟩:=by
 have f1:=tc_lookup;have f2:=tc_bind (.ref C);have hT:(⟨h,g,d,t,os⟩:Shared).TypeIs (.ref C) "type":=⟨_,hC,rfl⟩;refine Ek (codeAny_of_tree ?_);show wpAny _ _ (callAny (.ref C) _) _ _ _
 repeat (any_goals (first|assumption|with_reducible refine Bh hC ?_|wp_step))
 refine⟨rfl,?_⟩;refine codeAny_call_builtin_at (EV _ (by decide +kernel)) entry_typeCall (wpAny_check_type_call_sub hC (wa (hrest:=hrest) F hC hn hni hD hn1 hni1 hbm hb1 λh' e hm=>?_))
 exact hq h' e hm
end
section
variable {prog:Program}{w:World}{A:Around}{E:Value->Shared->Prop}{s:Shared}{env:Env}
variable {nm q:Str}{C N:Addr}{bs bm:List Value}{hdct:Bool}{sn:List Str}{sub:List Value}{ab:Bool}{col:Option Bool}{dd:Option Addr}{k0 k1 k2 k3 k5:Option Value}{B newId initId:String}
theorem vU(F:xq B newId initId bm)
 (hh:A.handled=none) (hplain:(backTo cpos (AD args env)).any (·.1)=false) (hni:mN "__init__"=none) (hni1:mN1 "__init__"=none) (hbm:bm=.ref D::bm1) (hb1:mroOf (.type B)=pure bm1)
 (h:wpAny (model prog w) A (eval (.Name x np) env) (λf s₁=>f=.ref C/\wpAny (model prog w) A (evalArgs (.ref C) true (backTo cpos (AD args env)) [])
  (λa s₂=>a.kw=[]/\a.pos.length<=Au/\s₂.heap.get? C=some (BY nm q C N bs bm hdct sn sub ab col dd k0 k1 k2 k3 k5 newId)/\s₂.heap.Ns N mN/\s₂.heap.get? D=some (BY nm1 q1 D N1 bs1 bm1 hd1 sn1 sub1 ab1 col1 dd1 j0 j1 j2 j3 j5 new1)/\s₂.heap.Ns N1 mN1 /\
   ∀h' e,DK s₂.heap h' e (.ref C) a.pos->E (.ref e) {s₂ with heap:=h'}) E s₁) E s) :
 wpAny (model prog w) A (exec (.Raise (some (.Call (.Name x np) args [] cpos)) none pos) env) Q E s:=by
 rw[arm_exec_Raise]
 first
  |refine dS (Bc (DB (C:=C) (nm:=nm) (q:=q) (N:=N) (bs:=bs) (bm:=bm) (hdct:=hdct) (sn:=sn) (sub:=sub) (ab:=ab) (col:=col) (dd:=dd) (k0:=k0) (k1:=k1) (k2:=k2) (k3:=k3) (k5:=k5) (newId:=newId) F.c hh (dS (AY (Fm (AY h (λf s₁ h₁=>?_) λ_ _ x=>x)) (λv s₃ h₃=>dS (Bc (Ab h₃))) λ_ _ x=>x))))
  |(simp only[evalOpt,Option.map];refine dS (Bc (DB (C:=C) (nm:=nm) (q:=q) (N:=N) (bs:=bs) (bm:=bm) (hdct:=hdct) (sn:=sn) (sub:=sub) (ab:=ab) (col:=col) (dd:=dd) (k0:=k0) (k1:=k1) (k2:=k2) (k3:=k3) (k5:=k5) (newId:=newId) F.hasBase hh (dS (AY (Fm (AY h (λf s₁ h₁=>?_) λ_ _ x=>x)) (λv s₃ h₃=>dS (Bc (Ab h₃))) λ_ _ x=>x)))))
  |(refine dS (Bc (DB (C:=C) (nm:=nm) (q:=q) (N:=N) (bs:=bs) (bm:=bm) (hdct:=hdct) (sn:=sn) (sub:=sub) (ab:=ab) (col:=col) (dd:=dd) (k0:=k0) (k1:=k1) (k2:=k2) (k3:=k3) (k5:=k5) (newId:=newId) F.hasBase hh ?_));refine dS (AY (Fm (AY h (λf s₁ h₁=>?_) λ_ _ x=>x)) (λv s₃ h₃=>dS (Bc (Ab h₃))) λ_ _ x=>x))
 obtain⟨rfl,h₁⟩:=h₁;unfold callWith;refine dS (By (AY h₁ (λa s₂ h₂=>dS (Bc ?_)) λ_ _ x=>x));obtain⟨apos,akw⟩:=a;obtain⟨hkw,hlen,hC,hn,hD,hn1,h₂⟩:=h₂;obtain rfl:akw=[]:=hkw;obtain⟨hp,g,d,tk,os⟩:=s₂;simp only[hplain];refine dS (wpAny_keeperOf_exc hC ?_);refine dS (uV (hrest:=hlen) F hC hn hni hD hn1 hni1 hbm hb1 λh' e hm=>dS (By (wpAny_point (Ab ?_))));obtain⟨t,ht,_,_⟩:=hm.there;exact⟨e,t,rfl,hm.keeps _ _ hC,ht,h₂ h' e hm⟩
end
end PySem
end
section
namespace L2
open PySem PySem.W PySem.Spec PyProof PyProof.Rows
structure uv(P:Program)(w:World)(outer:List Env)(H:Hp)(s:Shared)(H':Hp)(a:Addr)(cls:Value)(s':Shared):Prop where
 j:s'.os=s.os
 d:AllBare s'.gens
 i:∀b∈frs outer,H' b=none
 h:∃(t:Addr) (g B:Heap),Un (frs outer) [] H H' s.heap g/\HOk P w H' g/\(∀b o,g.get? b=some o->b ∉ frs outer->(b<s.heap.objs.size\/H' b≠none)->B.get? b=some o) /\
  (∀b o,g.get? b=some o->b∈frs outer->∃sl,s'.heap.get? b=some {o with slots:=sl})/\Heap.FlyingW B outer a cls (.ref t) s'.heap
def CXE(P:Program)(w:World):CXT:=λouter H s E e s'=>∃(a:Addr) (cls:Value) (H':Hp),e=.ref a/\uv P w outer H s H' a cls s'/\E cls none H'
theorem uv.un(f:uv P w outer H s H' a cls s'):Un (frs outer) [] H H' s.heap s'.heap/\HOk P w H' s'.heap:=by
 obtain⟨t,g,B,u,hk,cov,fr,k,_⟩:=f.h;have go:∀b o,s.heap.get? b=some o->b ∉ frs outer->∀o',g.get? b=some o'->s'.heap.get? b=some o':=λb o e n o' e'=>k b o' (cov b o' e' n (.inl (Ae e)));refine⟨⟨λb o e n hb hx=>go b o e hb o (u.f b o e n hb hx),λb o e n hb hx=>?_,u.d,λb o e hx=>?_,u.l,u.g,u.j⟩,λb o e=>(hk b o e).rB (λc v hc e'=>?_) (λ_ q=>q) λ_ _ q=>q⟩
 . obtain⟨sl,e1⟩:=u.i b o e n hb hx
   obtain⟨sl',e2⟩:=fr b _ e1 hb;exact⟨sl',e2⟩
 . obtain⟨o',e1⟩:=u.c b o e hx
   by_cases hb:b∈frs outer
   . obtain⟨sl,e2⟩:=fr b o' e1 hb
     exact⟨_,e2⟩
   . exact⟨o',go b o e hb o' e1⟩
 . have hc':H' c≠none:=by
    rcases hc with rfl|hc
    . rw[e];exact nofun
    . rw[hc];exact nofun
   exact k c v (cov c v e' (λhm=>hc' (f.i c hm)) (.inr hc'))
section
variable {P:Program}{w:World}{K:Ag}{mg:Str->Option Value}{base:Heap}{N:List Str}{qual:Str}{scope:Scope}{f:Addr}{cd:Value}{A:Around}{outer:List Env}{s₀:Shared}{H₀:Hp}{E:XK}
theorem gU:Passes (CXE P w) (xX (CXE P w) P w K mg base N qual scope f cd A outer s₀ H₀ E) E:=by
 rintro pins σ H s e s' I ⟨a,cls,H',rfl,fl,hE⟩;obtain⟨t,g,B,u,hk,cov,fr,fly⟩:=fl.h;show wpAny _ _ _ _ _ _;have I1:Inv (xX (CXE P w) P w K mg base N qual scope f cd A outer s₀ H₀ E) pins σ H' {s with heap:=g}:=I.call (g':=s.gens) (t':=s.toks) (d':=s.drawn) (ch:=[]) u hk I.F λb z=>absurd z (by simp)
 have hL:∀b,(b<s₀.heap.objs.size\/H' b≠none)->b≠s₀.heap.objs.size:=λb hb z=>by
  subst z;rcases hb with hb|hb
  . exact A1 _ hb
  . exact hb I1.M
 have hmem:∀b,b∈frs outer->b∈frs (envOfC qual scope s₀.heap.objs.size f cd::outer):=λb hb=>Ah _ hb;refine wpAny_leaves_onW (base:=B) (env:=envOfC qual scope s₀.heap.objs.size f cd) (outer:=outer) (L:=s₀.heap.objs.size) I.C.g rfl fly λh' x1 x2=>?_;refine⟨a,cls,H',rfl,⟨fl.j.trans I.S,fl.d,λb hb=>fl.i b (hmem b hb),t,g,B,I1.B,hk,λb o e n hb=>?_,λb o e hb=>?_,x1⟩,hE⟩
 . refine cov b o e (λhm=>?_) ?_
   . rcases Ak.mp (show b∈s₀.heap.objs.size::frs outer from hm) with z|z
     . exact hL b hb z
     . exact n z
   . rcases hb with hb|hb
     . exact .inl (Ar hb I.sz)
     . exact .inr hb
 . obtain⟨sl,e1⟩:=fr b o e (hmem b hb)
   obtain⟨_,o',e2,hd⟩:=fly.2.2.1.mem (hmem b hb);rw[e1]at e2;cases e2;obtain⟨sl',e3⟩:=x2 b _ e1 hd;exact⟨sl',e3⟩
theorem mx(I:Inv (xX (CXE P w) P w K mg base N qual scope f cd A outer s₀ H₀ E) pins σ H s)(m:DK s.heap h1 a (.ref C) us)(hE:E (.ref C) none H) :
 (xX (CXE P w) P w K mg base N qual scope f cd A outer s₀ H₀ E).i (.ref a) {s with heap:=h1}:=by
 have hmem:∀b,b∈frs outer->b∈frs (envOfC qual scope s₀.heap.objs.size f cd::outer):=λb hb=>Ah _ hb;have hin:∀env∈(envOfC qual scope s₀.heap.objs.size f cd::outer),∀b,env.frame=some b->b∈frs (envOfC qual scope s₀.heap.objs.size f cd::outer):=λenv he b hb=>Co.mpr ⟨env,he,hb⟩;have hst:s.heap.FunFrames base (envOfC qual scope s₀.heap.objs.size f cd::outer):=I.stack;show wpAny _ _ _ _ _ _;refine wpAny_leaves_madeW (base:=hideAll s.heap (frs (envOfC qual scope s₀.heap.objs.size f cd::outer))) (h:=s.heap) (env:=envOfC qual scope s₀.heap.objs.size f cd) (outer:=outer) (L:=s₀.heap.objs.size) I.C.g rfl (λb o q=>of_hideAll _ q) (funFrames_hide hst hin) m λh' t x1 x2 x3 x4=>?_;refine⟨a,_,H,rfl,⟨I.S,I.F,λb hb=>I.nW b (hmem b hb),t,s.heap,_,I.B,I.j,λb o e n hb=>hideAll_get _ e λhm=>?_,λb o e hb=>?_,x1⟩,hE⟩
 . rcases Ak.mp (show b∈s₀.heap.objs.size::frs outer from hm) with z|z
   . subst z
     rcases hb with hb|hb
     . exact A1 _ hb
     . exact hb I.M
   . exact n z
 . obtain⟨_,o',e2,hd⟩:=hst.mem (hmem b hb)
   rw[e]at e2;cases e2;obtain⟨sl,e3⟩:=x4 b o (m.keeps b o e) hd;exact⟨sl,e3⟩
end
end L2
end
section
namespace L2
open PySem PySem.W PySem.Spec PyProof PyProof.Rows
noncomputable def veM:List Value:=[.type "ValueError",.type "Exception",.type "BaseException",.type "object"]
def ClsAt(h:Heap)(C:Addr)(bm:List Value):Prop:=∃(nm q:Str) (N:Addr) (bs:List Value) (hdct:Bool) (sn:List Str) (sub:List Value) (ab:Bool) (col:Option Bool) (dd:Option Addr) (k0 k1 k2 k3 k5:Option Value) (mN:Str->Option Value),
 h.get? C=some (BY nm q C N bs bm hdct sn sub ab col dd k0 k1 k2 k3 k5 "ValueError.__new__")/\h.Ns N mN/\mN "__init__"=none
def XR(X:Cx)(C:Addr)(H:Hp):Prop:=∀(pins:List (Addr × Obj)) (σ:St) (s:Shared),Inv X pins σ H s->∀(h1:Heap) (a:Addr) (us:List Value),DK s.heap h1 a (.ref C) us->X.i (.ref a) {s with heap:=h1}
def V3(X:Cx)(C:Addr)(t:TA):TS:=λ_ σ H=>t σ H λvs H1=>vs.length<=Au/\XR X C H1
section
variable {X:Cx}
theorem mr(hc:X.A.handled=none)(hg:Gl X x)(hm:X.d x=some (.ref C))(cC:ClsAt X.h C (.ref D::veM))(cD:ClsAt X.h D veM)(ha:PA X (e::es) t)
 (hdb:(x == ("__debug__":Str))=false) (he:AD (e::es) X.a=(false,eval e X.a)::AD es X.a) (hpl:(backTo cpos (AD es X.a)).any (·.1)=false):PS X (.Raise (some (.Call (.Name x np) (e::es) [] cpos)) none pos) (V3 X C t):=by
 intro pins s σ H D' I h;obtain⟨nm,q,N,bs,hdct,sn,sub,ab,col,dd,k0,k1,k2,k3,k5,mN,hC,hN,hz⟩:=cC;obtain⟨nm1,q1,N1,bs1,hd1,sn1,sub1,ab1,col1,dd1,j0,j1,j2,j3,j5,mN1,hD,hN1,hz1⟩:=cD;refine vU (C:=C) (D:=D) (nm:=nm) (q:=q) (N:=N) (bs:=bs) (hdct:=hdct) (sn:=sn) (sub:=sub) (ab:=ab) (col:=col) (dd:=dd) (k0:=k0) (k1:=k1) (k2:=k2) (k3:=k3) (k5:=k5) (mN:=mN)
  (nm1:=nm1) (q1:=q1) (N1:=N1) (bs1:=bs1) (hd1:=hd1) (sn1:=sn1) (sub1:=sub1) (ab1:=ab1) (col1:=col1) (dd1:=dd1) (j0:=j0) (j1:=j1) (j2:=j2) (j3:=j3) (j5:=j5) (mN1:=mN1) (new1:="ValueError.__new__") (E7.two D) hc ?_ hz hz1 rfl E7.mroIs (xl I hg hm ⟨rfl,?_⟩ hdb)
 . rw[he];exact hpl
 . rw[he]
   refine Eo ?_;have q:=ha cpos pins s σ H _ I h;rw[he]at q;refine AY q (λus s1 hq=>?_) λ_ _ z=>z;obtain⟨vs,H1,I1,r,hl,hx⟩:=hq;exact⟨rfl,by rw[<-r.length];exact hl,I1.bk _ _ hC,hN.keeps I1.bk,I1.bk _ _ hD,hN1.keeps I1.bk,λh' e' m=>hx pins σ s1 I1 h' e' _ m⟩
end
theorem Ye{K}
 (hE:E (.ref C) none H):XR (xX (CXE P w) P w K mg base N qual scope f cd A outer s₀ H₀ E) C H:=λ_ _ _ I _ _ _ m=>mx I m hE
end L2
end
section
namespace L2
open PySem PySem.W PySem.Spec PyProof PyProof.Rows
def tFs(ta tb:TE):TE:=λσ H Q=>ta σ H λx H1=>∃i:Int,x=.d i/\i.natAbs<2 ^ 64/\tb σ H1 λy H2=>∃j:Int,y=.d j/\j.natAbs<2 ^ 64/\∀z,Q (.e z) H2
theorem sR{i:Int}(h:i.natAbs<2 ^ 64):i.natAbs.log2<64:=by
 by_cases z:i.natAbs=0
 . rw[z];decide
 . exact(Nat.log2_lt z).mpr h
theorem pv{i:Int}(h:i.natAbs<2 ^ 64):(BG (Gn i)).length<=65:=by rw[PySem.ofString_length];exact int_text_length_le (by decide) (sR h)
section
variable {X:Cx}
theorem Tp(ha:PE X a ta)(hb:PE X b tb)(h1:c1.length<=1000)(h2:c2.length<=1000)(h3:c3.length<=1000) :
 PE X (.JoinedStr [.Constant (.str c1) k1 p1,.FormattedValue a (-1) none p2,.Constant (.str c2) k2 p3,.FormattedValue b (-1) none p4,.Constant (.str c3) k3 p5] pos) (tFs ta tb):=by
 intro pins s σ H Q I h;refine JoinedStr_many (DL (Dw ⟨?_,DL (FormattedValue_plain ?_)⟩))
 . rw[A2,AK,show Ed.length=0 from rfl];omega
 refine thn (ha pins _ σ H _ (I.tok _) h) λu s1 ⟨x,H1,I1,r1,i,e1,hi,q1⟩=>?_;subst e1;obtain⟨t1,rfl⟩:=r1;have l1:=pv hi;refine formatField_int_small (Ar (sR hi) (by decide)) ⟨?_,DL (Dw ⟨?_,DL (FormattedValue_plain ?_)⟩)⟩
 . rw[A2,A2,AK,show Ed.length=0 from rfl];omega
 . rw[A2,A2,A2,AK,show Ed.length=0 from rfl];omega
 refine thn (hb pins _ σ H1 _ (I1.tok _) q1) λu2 s2 ⟨y,H2,I2,r2,j,e2,hj,q2⟩=>?_;subst e2;obtain⟨t2,rfl⟩:=r2;have l2:=pv hj;refine formatField_int_small (Ar (sR hj) (by decide)) ⟨?_,DL (Dw ⟨?_,joinParts_nil ⟨.e _,H2,I2.tok _,⟨_,rfl⟩,q2 _⟩ ?_⟩)⟩
 . rw[A2,A2,A2,A2,AK,show Ed.length=0 from rfl];omega
 . rw[A2,A2,A2,A2,A2,AK,show Ed.length=0 from rfl];omega
 . rw[A2,A2,A2,A2,A2,AK,show Ed.length=0 from rfl];omega
end
end L2
end
section
namespace L2
open PySem PySem.W PySem.Spec PyProof PyProof.Rows
def Bm(base:Heap)(mg:Str->Option Value):Prop:=∃(bm:Addr) (ob:Obj),mg "__builtins__"=some (.ref bm)/\bm≠Fq/\base.get? bm=some ob/\ob.cls=.type "module"/\ob.dict=some Fq/\ob.data=.plain
def Xf(H:Hp)(P:Addr)(ps:Array Value)(pos:Pos)(q:Str)(c:Addr)(H':Hp):Prop:=H'=H \/
 ∃(o:Obj) (vs:Array Value) (t:Tok),DC pos ps.toList=none/\H c=none/\o.data=.fields vs/\vs[1]?=some (.str q t)/\H'=upd (upd H P (.g (ps++#[rawInt pos.line,rawInt pos.col,.ref c]))) c (.d o (.e 0))
section
variable {X:Cx}{pins:List (Addr × Obj)}{σ:St}{H:Hp}{s:Shared}{M:Model}{A:Around}{E:Value->Shared->Prop}
theorem mK(I:Inv X pins σ H s)(ef:defaultsOf a X.a=([],[]))(hcl:Gk lsc X.a=pure clos)
 (hcode:X.a.code=.ref c) (C:CodeHd s.heap c P) (hP:H P=some (.g ps)) (ht:DE ps.toList) (B:Bm X.h X.d)
 (hit:∀cv,DC pos ps.toList=some cv->∃c' o vs t,cv=.ref c'/\H c'=some (.d o (.e 0))/\o.data=.fields vs/\vs[1]?=some (.str (X.a.qual++("<lambda>":Str)) t))
 (h:∀lf c' ctv H' h' tk,Inv X pins σ H' {s with heap:=h',toks:=tk}->Xf H P ps pos (X.a.qual++("<lambda>":Str)) c' H'->(H' lf=none/\s.heap.objs.size<=lf/\lf ∉ frs X.g/\∃o vs t,H' c'=some (.d o (.e 0))/\o.data=.fields vs/\vs[1]?=some (.str (X.a.qual++("<lambda>":Str)) t)) ->
  h'.get? lf=some (kla_obj "<lambda>" (X.a.qual++("<lambda>":Str)) a body lsc clos ((X.d "__name__").getD .none) c' ctv)->h'.CodeRec (.ref c') (X.a.qual++("<lambda>":Str))->Q (.ref lf) {s with heap:=h',toks:=tk}) :
 wpAny M A (eval (.Lambda a body lsc pos) X.a) Q E s:=by
 obtain⟨bm,ob,b1,b2,b3,b4,b5,b6⟩:=B;have hPo:s.heap.get? P=some (tabObj ps):=I.j P _ hP;have hg:s.heap.Ns AJ X.d:=I.mod.c.keeps I.bk;have hbH:H bm=none:=(I.bs _ _ b3).2;have hbP:bm≠P:=λz=>by rw[z,hP]at hbH;cases hbH
 obtain⟨og,eg,pg,g1,g2,_⟩:=I.mod.c;have hgH:H AJ=none:=(I.bs _ _ g1).2;have hgP:AJ≠P:=λz=>by rw[z,hP]at hgH;cases hgH
 have hbG:bm≠AJ:=λz=>by rw[z,g1]at b3;cases b3;rw[g2]at b6;cases b6
 have hb:s.heap.BuiltinsAt X.d P:=⟨bm,ob,b1,b2,hbG,hbP,I.bk _ _ b3,b4,b5,b6⟩;have nst:∀lf,s.heap.objs.size<=lf->lf ∉ frs X.g:=λlf hl hm=>by obtain⟨_,o,e,_⟩:=I.stack.mem hm;exact absurd (Ar (Ae e) hl) (A1 _)
 refine kla_eval ef ?_;cases hf:DC pos ps.toList with
 |some cv=>
  obtain⟨c',o,vs,t,rfl,q1,q2,q3⟩:=hit cv hf;refine kla_makeFunctionHit (mg:=X.d) hcl I.C.k hg hcode C hPo ht hf hb λctv h' tk hk hsz=>?_;have hk2:∀b u,s.heap.get? b=some u->(h'.push {cls:=.type "function",data:=.func (kla_fn "<lambda>" (X.a.qual++("<lambda>":Str)) a body lsc clos ((X.d "__name__").getD .none) (.ref c') ctv)}).get? b=some u:=λb u e=>nx _ (hk b u e);have hcr:s.heap.CodeRec (.ref c') (X.a.qual++("<lambda>":Str)):=⟨c',o,vs,t,rfl,(I.j c' _ q1).1,q2,q3⟩;refine h _ c' ctv H _ tk (I.kept hk2) (.inl rfl) ⟨I.j.fresh hsz,hsz,nst _ hsz,o,vs,t,q1,q2,q3⟩ (Aq _ rfl) ?_;obtain⟨c2,o2,vs2,t2,e1,e2,e3⟩:=hcr;exact⟨c2,o2,vs2,t2,e1,hk2 _ _ e2,e3⟩
 |none=>
  refine kla_makeFunction (mg:=X.d) hcl I.C.k hg hcode C hPo ht hf hgP hb λc' ctv h' tk hx hge hlt lW htb=>?_;obtain⟨c2,oc,vs,t,e1,e2,e3,e4⟩:=lW;cases e1;have hcn:H c'=none:=I.j.fresh hge;have hcP:c'≠P:=λz=>by rw[z,hP]at hcn;cases hcn
  have hk2:∀b u,b≠P->s.heap.get? b=some u->(h'.push (kla_obj "<lambda>" (X.a.qual++("<lambda>":Str)) a body lsc clos ((X.d "__name__").getD .none) c' ctv)).get? b=some u:=λb u n e=>nx _ (hx b u n e);have nP:∀b,H b=none->b≠P:=λb n z=>by rw[z,hP]at n;cases n
  have nc:∀b o,s.heap.get? b=some o->b≠c':=λb o e z=>absurd (Ar (Ae e) hge) (by rw[z];exact A1 _)
  refine h _ c' ctv (upd (upd H P (.g (ps++#[rawInt pos.line,rawInt pos.col,.ref c']))) c' (.d oc (.e 0))) _ tk (I.un (t':=tk) ⟨λb o e n _ _=>hk2 b o (nP b n) e,λb o e n _ _=>⟨o.slots,hk2 b o (nP b n) e⟩,λb o e n _=>?_,λb o e _=>?_,λb xs e=>?_,λb o u e=>?_,λb qs e=>?_⟩ λb u e=>?_)
   (.inr ⟨oc,vs,t,hf,hcn,e3,e4,rfl⟩) ⟨by rw[zE (CI hlt),zE (nP _ (I.j.fresh (AE hge (C4 hlt))))];exact I.j.fresh (AE hge (C4 hlt)),AE hge (C4 hlt),nst _ (AE hge (C4 hlt)),oc,vs,t,zL,e3,e4⟩ (Aq _ rfl) ⟨c',oc,vs,t,rfl,nx _ e2,e3,e4⟩
  . rw[zE (nc b o e),zE (nP b n)];exact n
  . by_cases z:b=P
    . rw[z];exact⟨_,nx _ htb⟩
    . exact⟨o,hk2 b o z e⟩
  . have z1:b≠c':=λz=>by rw[z,hcn]at e;cases e
    have z2:b≠P:=λz=>by rw[z,hP]at e;cases e
    rw[zE z1,zE z2];exact e
  . have z1:b≠c':=λz=>by rw[z,hcn]at e;cases e
    have z2:b≠P:=λz=>by rw[z,hP]at e;cases e
    rw[zE z1,zE z2];exact e
  . have z1:b≠c':=λz=>by rw[z,hcn]at e;cases e
    rw[zE z1];by_cases z:b=P
    . subst z
      rw[hP]at e;cases e;exact⟨_,zL⟩
    . rw[zE z];exact⟨#[],by rw[e];simp⟩
  . by_cases z1:b=c'
    . subst z1
      rw[zL]at e;cases e;exact⟨nx _ e2,oc,nx _ e2⟩
    . rw[zE z1]at e
      by_cases z:b=P
      . subst z
        rw[zL]at e;cases e;exact nx _ htb
      . rw[zE z]at e
        have own:∀d y,H d=some (.e y)->d≠c'/\d≠P:=λd y r=>⟨λz=>(by rw[z,hcn]at r;cases r),λz=>(by rw[z,hP]at r;cases r)⟩
        refine(I.j b u e).rB (λd v hd q=>hk2 d v ?_ q) (λd r=>by rw[zE (own d b r).1,zE (own d b r).2];exact r) λd xs r=>?_
        . rcases hd with rfl|hd
          . exact z
          . exact(own d b hd).2
        . have y1:d≠c':=λz=>by rw[z,hcn]at r;cases r
          have y2:d≠P:=λz=>by rw[z,hP]at r;cases r
          rw[zE y1,zE y2];exact r
end
end L2
end
section
namespace L2
open PySem PySem.W PySem.Spec PyProof PyProof.Rows
section
variable {P:Program}{w:World}{K:Ag}{mg:Str->Option Value}{base:Heap}{CX:CXT}{A:Around}{outer:List Env}{s:Shared}{H:Hp}{E:XK}{R:Result->Shared->Prop}
noncomputable abbrev Cx.loud(X:Cx)(A:Around):Cx:={X with A:=A,j:=false}
theorem Inv.loud(I:Inv X pins σ H s)(hf:A'.frames=some X.g):Inv (X.loud A') pins σ H s:=
 ⟨⟨I.C.j,I.C.a,I.C.k,I.C.t,I.C.d,I.C.r,I.C.p,I.C.s,λz=>absurd z Aj,hf,I.C.w,I.C.G,I.C.B,I.C.q,I.C.m,I.C.l,I.C.D,I.C.u⟩,I.S,I.F,I.B,I.O,I.J,I.M,I.G,I.P,I.j,I.R⟩
theorem Inv.calm(I:Inv (X.loud A') pins σ H s)(ok:X.Ok):Inv X pins σ H s:=
 ⟨ok,I.S,I.F,I.B,I.O,I.J,I.M,I.G,I.P,I.j,I.R⟩
abbrev fD(P:Program)(w:World)(A:Around)(env:Env)(R:Result->Shared->Prop)(body:List Stmt)(s1:Shared):Prop:=
 wpAny (model P w) (A.deeper env) (execs body env) (λfl s'=>R (.ok (.ret (match fl with|.ret v=>v|_=>.none))) s')
  (λe s'=>wpAny (model P w) (A.deeper env) (leaving env e) (λ_ s''=>R (.error e) s'') (λe' s''=>R (.error e') s'') s') s1
theorem mE{dV kV doc pm cdv ct oc}
 (lk:K.lookup f=some ⟨oc,od,.func (BE name qual params body scope dV kV doc pm an cdv ct),osl⟩) (hcd:BQ K cdv qual=true) (S:wH N ps scope) (hdp:A.depth<CG)
 (e0:lH P w K mg base A outer s H) (hb:BindsTo s (BE name qual params body scope dV kV doc pm an cdv ct) args (ps.zip us)) (hl:vs.length=ps.length) (r:Vals vs us)
 (h:∀s1:Shared,Inv (xX CX P w K mg base N qual scope f cdv {A with handled:=none} outer s H E) [] (start N vs) H s1->(∀b o,s.heap.get? b=some o->s1.heap.get? b=some o)->fD P w A (envOfC qual scope s.heap.objs.size f cdv) R body s1) :
 codeAny (model P w) A (.call (.ref f) args) R s:=by
 have KX:K.In s.heap:=e0.c.a.keeps λb o e=>(e0.e b o e).1;have lim:s.heap.NoLimit:=e0.c.b.keeps λb o e=>(e0.e b o e).1;have hkind:∀y∈ps.zip us,scope.names.lookup y.1=some .local\/(scope.names.lookup y.1=some .cell/\((Cp (s.heap.objs.size+1) scope.names []).lookup y.1).isSome=true):=λ⟨n,v⟩ hy=>by
  rcases S.e n (El hy).1 with q|q
  . exact .inl q
  . exact .inr ⟨q,DV _ _ _ (.inl q)⟩
 refine codeAny_call_function hdp (KX _ _ lk) rfl S.co S.f rfl (PySem.W.codeRec_of KX hcd) (hb _ _ _ _ ?_);refine E1 S.a hkind λenv he s1 x=>?_;subst he;refine⟨lim.keeps x.toInCall.keep,codeAny_func ?_⟩;exact h s1 (pP (A:={A with handled:=none}) S rfl ⟨e0.a,e0.c,e0.e,e0.g,e0.i,e0.h,e0.d,e0.f⟩ hl r x) x.toInCall.keep
theorem nt(h:A.handled=none):{A with handled:=none}=A:=by
 cases A;simp only at h;subst h;rfl
noncomputable def noArgs:D9:=⟨[],[],none,[],[],none,[]⟩
noncomputable def rm(CX:CXT)(P:Program)(w:World)(K:Ag)(mg:Str->Option Value)(base:Heap)(N:List Str)(qual:Str)(scope:Scope)(f:Addr)(cd:Value)(cl:List (Str × Addr))(A:Around)(outer:List Env)(s:Shared)(H:Hp)(E:XK):Cx where
 f:=P
 w:=w
 K:=K
 d:=mg
 h:=base
 A:=A.deeper (envX qual scope s.heap.objs.size f cd cl)
 N:=N
 l:=s
 r:=H
 a:=envX qual scope s.heap.objs.size f cd cl
 k:=outer
 g:=envX qual scope s.heap.objs.size f cd cl::outer
 m:=[]
 j:=true
 n:=λ_=>false
 q:=[]
 i:=λe s'=>wpAny (model P w) (A.deeper (envX qual scope s.heap.objs.size f cd cl)) (leaving (envX qual scope s.heap.objs.size f cd cl) e) (λ_ s''=>CX outer H s E e s'') (λe' s''=>CX outer H s E e' s'') s'
theorem Zb(hdp:A.depth<CG)(hh:A.handled=none)(e0:lH P w K mg base A outer s H)
 (ho:s.heap.get? lf=some (kla_obj nm qual noArgs body lsc cl pm c ctv)) (hcr:s.heap.CodeRec (.ref c) qual) (hk:lsc.kind=.function) (hco:lsc.isCoroutine=false) (hgen:lsc.isGenerator=false)
 (hnm:∀x∈lsc.names,x.2≠.cell/\x.2≠.local) (hinj:∀x y b,cl.lookup x=some b->cl.lookup y=some b->x=y) (hhas:∀x,lsc.names.lookup x=some .free->∃b,cl.lookup x=some b)
 (hcel:∀x b,cl.lookup x=some b->(∃v,s.heap.IsCell b v)/\H b=none)
 (hval:∀(i:Nat) x v,N[i]?=some x->σ[i]?=some (some v)->lsc.names.lookup x=some .free->∃u b,RelV v u/\cl.lookup x=some b/\s.heap.IsCell b (some u)) (hlen:σ.length=N.length)
 (h:∀s1:Shared,Inv (rm CX P w K mg base N qual lsc lf (.ref c) cl A outer s H E) [] σ H s1->wpAny (model P w) (A.deeper (envX qual lsc s.heap.objs.size lf (.ref c) cl)) (eval body (envX qual lsc s.heap.objs.size lf (.ref c) cl)) (λv s'=>R (.ok (.ret v)) s')
  (λe s'=>wpAny (model P w) (A.deeper (envX qual lsc s.heap.objs.size lf (.ref c) cl)) (leaving (envX qual lsc s.heap.objs.size lf (.ref c) cl) e) (λ_ s''=>R (.error e) s'') (λe' s''=>R (.error e') s'') s') s1) :
 codeAny (model P w) A (.call (.ref lf) ⟨[],[]⟩) R s:=by
 have lim:s.heap.NoLimit:=e0.c.b.keeps λb o e=>(e0.e b o e).1;refine kla_callFunE hdp ho rfl hco hgen rfl hcr ?_;have hb:Gi (kla_fn nm qual noArgs body lsc cl pm (.ref c) ctv) ⟨[],[]⟩=pure []:=rfl;rw[hb];refine Ab (wpAny_newFunctionEnv (λx hx=>(hnm x hx).1) (λx hx=>absurd hx (by simp)) (λh₁ hns hsb=>⟨lim.fresh _ hsb,?_⟩) hk)
 show codeAny _ _ (.expr body (envX qual lsc s.heap.objs.size lf (.ref c) cl)) _ _;have hk₁:∀b o,s.heap.get? b=some o->h₁.get? b=some o:=λb o e=>hsb.extBut b o (Ax (Ae e)) (nx _ e);have noA:∀b:Addr,b ∉ (rm CX P w K mg base N qual lsc lf (.ref c) cl A outer s H E).m:=λb z=>absurd (show b∈([]:List Addr) from z) (by simp)
 have cellK:∀b v,s.heap.IsCell b v->h₁.IsCell b v:=λb v ⟨o,e,d⟩=>⟨o,hk₁ b o e,d⟩;refine kla_codeExpr (h _ ⟨⟨e0.c,hk,rfl,rfl,xd _,hinj,λy hy=>?_,λy b z _=>absurd z Aj,λ_=>hh,Em e0.a,.inr ⟨rfl,rfl⟩,λb z=>absurd z (noA b),e0.e,e0.g,λb _ _=>noA b,λb z=>absurd z (noA b),e0.i,e0.h⟩,
  rfl,e0.f,Un.kept hk₁,⟨_,hns,λi y v h1 h2 h3=>?_⟩,λy b e=>?_,e0.d.fresh (xd _),λy b e=>(hcel y b e).2,λp hp=>absurd (show p∈([]:List (Addr × Obj)) from hp) (by simp),e0.d.kept hk₁,hlen⟩)
 . have hy:lsc.names.lookup y=some .cell\/lsc.names.lookup y=some .free:=hy
   rcases hy with hy|hy
   . exact absurd rfl (hnm _ (AM hy)).1
   . exact hhas y hy
 . have h3:lsc.names.lookup y=some .local\/lsc.names.lookup y=some .cell\/lsc.names.lookup y=some .free:=h3
   rcases h3 with z|z|z
   . exact absurd rfl (hnm _ (AM z)).2
   . exact absurd rfl (hnm _ (AM z)).1
   . obtain⟨u,b,q1,q2,q3⟩:=hval i y v h1 h2 z
     exact⟨u,q1,.inr ⟨.inr z,b,q2,cellK _ _ q3⟩⟩
 . obtain⟨v,q⟩:=(hcel y b e).1
   exact⟨v,cellK b v q⟩
end
end L2
end
section
namespace L2
open PySem PySem.W PySem.Spec PyProof PyProof.Rows
section
variable {P:Program}{w:World}{K:Ag}{mg:Str->Option Value}{base:Heap}{A:Around}{outer:List Env}{s₀:Shared}{H₀:Hp}{E:XK}
theorem qa:Passes (CXE P w) (rm (CXE P w) P w K mg base N qual scope f cd cl A outer s₀ H₀ E) E:=by
 rintro pins σ H s e s' I ⟨a,cls,H',rfl,fl,hE⟩;obtain⟨t,g,B,u,hk,cov,fr,fly⟩:=fl.h;show wpAny _ _ _ _ _ _;have I1:Inv (rm (CXE P w) P w K mg base N qual scope f cd cl A outer s₀ H₀ E) pins σ H' {s with heap:=g}:=I.call (g':=s.gens) (t':=s.toks) (d':=s.drawn) (ch:=[]) u hk I.F λb z=>absurd z (by simp)
 have hL:∀b,(b<s₀.heap.objs.size\/H' b≠none)->b≠s₀.heap.objs.size:=λb hb z=>by
  subst z;rcases hb with hb|hb
  . exact A1 _ hb
  . exact hb I1.M
 have hmem:∀b,b∈frs outer->b∈frs (envX qual scope s₀.heap.objs.size f cd cl::outer):=λb hb=>Ah _ hb;refine wpAny_leaves_onW (base:=B) (env:=envX qual scope s₀.heap.objs.size f cd cl) (outer:=outer) (L:=s₀.heap.objs.size) I.C.g rfl fly λh' x1 x2=>?_;refine⟨a,cls,H',rfl,⟨fl.j.trans I.S,fl.d,λb hb=>fl.i b (hmem b hb),t,g,B,I1.B,hk,λb o e n hb=>?_,λb o e hb=>?_,x1⟩,hE⟩
 . refine cov b o e (λhm=>?_) ?_
   . rcases Ak.mp (show b∈s₀.heap.objs.size::frs outer from hm) with z|z
     . exact hL b hb z
     . exact n z
   . rcases hb with hb|hb
     . exact .inl (Ar hb I.sz)
     . exact .inr hb
 . obtain⟨sl,e1⟩:=fr b o e (hmem b hb)
   obtain⟨_,o',e2,hd⟩:=fly.2.2.1.mem (hmem b hb);rw[e1]at e2;cases e2;obtain⟨sl',e3⟩:=x2 b _ e1 hd;exact⟨sl',e3⟩
end
section
variable {X:Cx}{pins:List (Addr × Obj)}{σ:St}{H H':Hp}{s s':Shared}{a:Addr}{cls:Value}
theorem Inv.Yp(I:Inv X pins σ H s)(f:uv X.f X.w X.g H s H' a cls s'):Inv X pins σ H' s':=by obtain⟨u,hk⟩:=f.un;obtain⟨hh,g,d,t,os⟩:=s';obtain rfl:os=s.os:=f.j;exact I.call (h':=hh) (g':=g) (d':=d) (t':=t) (ch:=[]) u hk f.d λb z=>absurd z (by simp)
theorem uv.obj(f:uv X.f X.w X.g H s H' a cls s')(I:Inv X pins σ H s):∃oe,s'.heap.get? a=some oe/\oe.cls=cls/\H' a=none/\s.heap.get? a=none/\(∃vs,oe.data=.fields vs):=by
 obtain⟨t,g,B,u,hk,cov,fr,fly⟩:=f.h;obtain⟨f1,f2,f3,oe,vs,_,_,_,he,hc,hd,_⟩:=id fly;have nfr:a ∉ frs X.g:=λhm=>by obtain⟨_,o',e2,hd'⟩:=f3.mem hm;rw[he]at e2;cases e2;exact hd' vs hd
 refine⟨oe,he,hc.1,?_,?_,vs,hd⟩
 . cases q:H' a with
   |none=>rfl
   |some o=>
    have ht:=(hk a o q);have:∃ob,g.get? a=some ob:=by
     have hlt:=ht.lt;cases qg:g.get? a with
     |some ob=>exact⟨ob,rfl⟩
     |none=>
      exfalso;cases o with
      |b xs=>obtain⟨_,_,_,_,e⟩:=ht;rw[qg]at e;cases e
      |c xs=>obtain⟨_,_,_,ob,e,_⟩:=ht;rw[qg]at e;cases e
      |i kvs=>obtain⟨_,_,_,_,ob,_,_,e,_⟩:=ht;rw[qg]at e;cases e
      |k kvs=>obtain⟨_,_,_,_,ob,_,_,e,_⟩:=ht;rw[qg]at e;cases e
      |l S n=>obtain⟨ob,_,_,_,e,_⟩:=ht;rw[qg]at e;cases e
      |j C dx fs=>obtain⟨_,_,_,e,_⟩:=ht;rw[qg]at e;cases e
      |e y=>obtain⟨_,e⟩:=ht;rw[qg]at e;cases e
      |r fs=>obtain⟨_,⟨_,_,_,e,_⟩,_⟩:=ht;rw[qg]at e;cases e
      |q lo hi=>obtain⟨_,_,_,e⟩:=ht;rw[qg]at e;cases e
      |d ob u=>obtain⟨e,_⟩:=ht;rw[qg]at e;cases e
      |g ps=>have e:g.get? a=some _:=ht;rw[qg]at e;cases e
      |p f y=>have e:g.get? a=some _:=ht;rw[qg]at e;cases e
      |m φ=>obtain⟨_,⟨_,e⟩,_⟩:=ht;rw[qg]at e;cases e
    obtain⟨ob,e⟩:=this;rw[cov a ob e nfr (.inr (by rw[q];exact nofun))]at f2
    cases f2
 . cases q:s.heap.get? a with
   |none=>rfl
   |some o=>
    obtain⟨o',e⟩:=u.c a o q (by simp)
    rw[cov a o' e nfr (.inl (Ae q))]at f2;cases f2
theorem Inv.adopt(I:Inv X [] σ H s)(hn:H a=none)(he:s.heap.get? a=some oe)(hd:oe.data=.fields vs)(h0:X.l.heap.get? a=none)(hpn:X.q=[]):Inv X [] σ (upd H a (.d oe (.e 0))) s:=by
 have ne:∀b,H b≠none->b≠a:=λb n z=>n (by rw[z];exact hn)
 have nL:X.a.locals≠a:=λz=>by obtain⟨m,⟨o,es,ep,e,d,_⟩,_⟩:=I.O;rw[z,he]at e;cases e;rw[hd]at d;cases d
 have nC:∀x c,X.a.cells.lookup x=some c->c≠a:=λx c e z=>by obtain⟨v,o,e2,d⟩:=I.J x c e;rw[z,he]at e2;cases e2;rw[hd]at d;cases d
 have ob:∀b u,H b=some u->upd H a (.d oe (.e 0)) b=some u:=λb u e=>by rw[zE (ne b (by rw[e];exact nofun))];exact e
 refine⟨I.C,I.S,I.F,⟨I.B.f,I.B.i,λb o e n hx=>?_,I.B.c,λb xs e=>ob _ _ (I.B.l b xs e),λb o u e=>ob _ _ (I.B.g b o u e),λb ps e=>?_⟩,I.O,I.J,?_,λx c e=>?_,λp hp=>?_,λb u e=>?_,I.R⟩
 . rw[zE (λz=>by rw[z,h0]at e;cases e)];exact I.B.d b o e n hx
 . obtain⟨more,q⟩:=I.B.j b ps e
   exact⟨more,ob _ _ q⟩
 . rw[zE nL];exact I.M
 . rw[zE (nC x c e)];exact I.G x c e
 . rw[hpn]at hp;cases hp
 . by_cases z:b=a
   . subst z
     rw[zL]at e;cases e;exact⟨he,oe,he⟩
   . rw[zE z]at e
     exact(I.j b u e).rB (λ_ _ _ q=>q) (λc q=>ob _ _ q) λc xs q=>ob _ _ q
theorem Inv.gone(I:Inv X [] σ H s)(hn:h'.Ns X.a.locals m')(hs:Dv X.a.locals s.heap h')(hpn:X.q=[]):Inv X [] (Al X.N.length none) H {s with heap:=h',toks:=tk}:=by
 have neL:∀b o,X.l.heap.get? b=some o->b≠X.a.locals:=λb o e=>Ax (Ar (Ae e) I.C.d);refine⟨I.C,I.S,I.F,⟨λb o e n hb hx=>?_,λb o e n hb hx=>?_,I.B.d,λb o e hx=>?_,I.B.l,I.B.g,I.B.j⟩,⟨m',hn,λi x v e1 e2 e3=>?_⟩,λy c e=>?_,I.M,I.G,λp hp=>?_,λb u e=>?_,by simp⟩
 . exact(hs.2 b (neL b o e)).trans (I.B.f b o e n hb hx)
 . obtain⟨sl,e1⟩:=I.B.i b o e n hb hx
   exact⟨sl,(hs.2 b (neL b o e)).trans e1⟩
 . obtain⟨o',e1⟩:=I.B.c b o e hx
   exact⟨o',(hs.2 b (neL b o e)).trans e1⟩
 . rw[DN]at e2
   split at e2<;>cases e2
 . obtain⟨v,z⟩:=I.J y c e
   exact⟨v,z.sameBut hs (I.cne y c e)⟩
 . rw[hpn]at hp;cases hp
 . refine(I.j b u e).rB (λc v hc q=>(hs.2 c ?_).trans q) (λ_ q=>q) λ_ _ q=>q
   rintro rfl;have z:=I.M;rcases hc with rfl|hc
   . rw[z]at e;cases e
   . rw[z]at hc;cases hc
end
end L2
end
section
namespace L2
open PySem PySem.W PySem.Spec PyProof PyProof.Rows
section
variable {prog:Program}{w:World}{A:Around}{E:Value->Shared->Prop}{s:Shared}{env:Env}
theorem ij
 (h:wpAny (model prog w) (A.mark (some (.ref e))) (eval t env) (λc s₁=>Looks (model prog w) s₁.heap (excMatches (.ref e) c) true /\
  wpAny (model prog w) (A.mark (some (.ref e))) (setFlight (.ref e) none) (λ_ s₂=>
   wpAny (model prog w) (A.mark (some (.ref e))) (Gx env n (.ref e)) (λ_ s₃=>
    wpAny (model prog w) (A.mark (some (.ref e))) (execs (b₀::suite) env)
     (λf s₄=>wpAny (model prog w) A (do CV env n .none;unbindBehindTheSuite env n pos) (λ_ s₅=>Q f s₅) E s₄)
     (AsSuiteRaised (model prog w) (A.mark (some (.ref e))) env n pos (notedBy (model prog w) (A.mark (some (.ref e))) env (Fv (model prog w) A env E))) s₃) (notedBy (model prog w) (A.mark (some (.ref e))) env (Fv (model prog w) A env E)) s₂) (notedBy (model prog w) (A.mark (some (.ref e))) env (Fv (model prog w) A env E)) s₁) (notedBy (model prog w) (A.mark (some (.ref e))) env (Fv (model prog w) A env E)) s) :
 wpAny (model prog w) A (handleBy (.ref e) env (.ExceptHandler (some t) (some n) (b₀::suite) pos::rest)) Q E s:=by
 refine wpAny_handleBy_cons (codeAny_handlers_test (AY h (λc s₁ h₁=>?_) λ_ _ y=>y)) (by intro q;cases q)
 obtain⟨L,hk⟩:=h₁;exact L.here (codeAny_handlers_suite_as hk)
end
def qu(Kc K:Ag):Prop:=∀a o,Kc.lookup a=some o->K.lookup a=some o
theorem qu.inn{Kc K}(s:qu Kc K)(x:K.In h):Kc.In h:=λa o e=>x a o (s a o e)
def XC(X:Cx)(EE:Value->Hp->Prop)(e:Value)(s':Shared):Prop:=∃(a:Addr) (cls:Value) (σ2:St) (H2:Hp) (s2:Shared) (H':Hp),e=.ref a/\Inv X [] σ2 H2 s2/\uv X.f X.w X.g H2 s2 H' a cls s'/\EE cls H'
theorem qL(e:h.get? a=some o)(hc:o.cls=cls):Looks M h (typeOf (.ref a)) cls:=hc▸(Looks.ld e).andThen .now
theorem qB{g B h h':Heap}(fr:∀b o,g.get? b=some o->b∈frs l->∃sl,h.get? b=some {o with slots:=sl})(ff:h.FunFrames B l)(sm:h.UpToSlots h'):∀b o,g.get? b=some o->b∈frs l->∃sl,h'.get? b=some {o with slots:=sl}:=λb o e hb=>by obtain⟨sl,e1⟩:=fr b o e hb;obtain⟨_,o',e2,hd⟩:=ff.mem hb;rw[e1]at e2;cases e2;obtain⟨sl',e3⟩:=sm b _ e1 hd;exact⟨sl',e3⟩
section
variable {X:Cx}{σ:St}{H:Hp}{s:Shared}{D:Ends}{EE:Value->Hp->Prop}
theorem aB(I:Inv X [] σ H s)(hpn:X.q=[])(hxn:X.m=[])(hN:X.N.Nodup)(hl:X.a.scope.names.lookup n=some .local)(hi:X.N[ie]?=some n)
 (hst:X.g=X.a::X.k) (hfr:X.a.frame=some X.a.locals) (hg:Gl X hx) (hdb:(hx == ("__debug__":Str))=false) (hm:X.d hx=some (.ref hue)) (hb:PSs (X.wF (XC X EE)) body tb) (hq:tb D σ H)
 (hex:∀cls H',EE cls H'->(∃Kc,qu Kc X.K/\exmOne Kc cls (.ref hue)=some true)/\∀a oe (σ2:St),H' a=none->oe.cls=cls->σ2.length=X.N.length->ts {a:=λ_ _=>False,b:=D.b} (σ2.set ie (some (.c a))) (upd H' a (.d oe (.e 0))))
 (hs:∀a:Addr,PSs (X.loud (X.A.mark (some (.ref a)))).nox (b₀::suite) ts) :
 wpAny (model X.f X.w) X.A (exec (.Try body [.ExceptHandler (some (.Name hx np)) (some n) (b₀::suite) hpos] [] [] pos) X.a) (SP X [] D) X.i s:=by
 refine wpAny_Try_except (AY (hb [] s σ H D (I.wF _) hq) (λf s1 hsp=>?_) λe s1 hx'=>?_)
 . have q:=hsp.yu
   cases f with
   |next=>
    obtain⟨σ1,H1,I1,q1⟩:=q;exact rR [] s1 σ1 H1 D I1 q1
   |brk=>exact q
   |cont=>exact q
   |ret u=>exact q
 . obtain⟨a,cls,σ2,H2,s2,H',rfl,I2,f,hE⟩:=hx'
   obtain⟨hx1,hx2⟩:=hex cls H' hE;obtain⟨t,g,B,u,hk,cov,fr,fly⟩:=f.h;have fl0:=fly;rw[hst]at fly;have hA:X.A.frames=some (X.a::X.k):=by rw[<-hst];exact I.C.g
   refine wpAny_looks_onW hA hfr fly λh4 held4 sm4=>?_;refine wpAny_landsW held4 λh5 fly5 sm5=>?_;have fly5':Heap.FlyingW B X.g a cls (.ref t) h5:=by rw[hst];exact fly5
   have f5:uv X.f X.w X.g H2 s2 H' a cls {s1 with heap:=h5}:=⟨f.j,f.d,f.i,t,g,B,u,hk,cov,qB fr fl0.2.2.1 (sm4.trans sm5),fly5'⟩
   have I5:=(I2.Yp f5).loud (A':=X.A.mark (some (.ref a))) (by rw[hst];exact hA)
   refine ij (xl (X:=X.loud (X.A.mark (some (.ref a)))) I5 hg hm ⟨?_,?_⟩ hdb)
   . obtain⟨oe,e1,e2,_⟩:=f5.obj I2
     obtain⟨Kc,sub,hx1⟩:=hx1;exact exm_one (sub.inn I5.kIn) (qL e1 e2) hx1
   . refine lands_againW fly5' λh6 fly6 sm6=>?_
     have f6:uv X.f X.w X.g H2 s2 H' a cls {s1 with heap:=h6}:=⟨f.j,f.d,f.i,t,g,B,u,hk,cov,qB (qB fr fl0.2.2.1 (sm4.trans sm5)) fly5'.2.2.1 sm6,fly6⟩
     obtain⟨oe,e1,e2,e3,e4,vs,e5⟩:=f6.obj I2;have I6:=I2.Yp f6;have h0:X.l.heap.get? a=none:=by
      cases q:X.l.heap.get? a with
      |none=>rfl
      |some o=>
       have hne:a ∉ X.m:=by rw[hxn];exact nofun
       obtain⟨o',q'⟩:=I2.B.c a o q hne;rw[e4]at q';cases q'
     have I7:=(I6.adopt e3 e1 e5 h0 hpn).loud (A':=X.A.mark (some (.ref a))) (by rw[hst];exact hA)
     refine xG (X:=X.loud (X.A.mark (some (.ref a)))) (v:=.c a) I7 hN hi (.inl hl) rfl (λs8 I8=>?_) (.inr hl);refine AY ((hs a) [] s8 _ _ {a:=λ_ _=>False,b:=D.b} (I8.wF _) (hx2 a oe σ2 e3 e2 I2.R)) (λfl s9 hsp=>?_) λ_ _ z=>AA z;have q:=hsp.yu;cases fl with
     |next=>obtain⟨_,_,_,z⟩:=q;exact AA z
     |brk=>obtain⟨_,_,_,z⟩:=q;exact AA z
     |cont=>obtain⟨_,_,_,z⟩:=q;exact AA z
     |ret u=>
      obtain⟨v,σ',H3,I9,rv,q9⟩:=q;have I10:Inv X [] σ' H3 s9:=I9.calm I.C;obtain⟨m,hn,_⟩:=I10.O;exact wpAny_nameGoes hl hn (by rw[I.C.a];rfl) λh' m' hn' hs'=>⟨v,_,H3,I10.gone hn' hs' hpn,rv,q9⟩
end
end L2
end
section
namespace L2
open PySem PySem.W PySem.Spec PyProof PyProof.Rows
open Sem (wp)
structure rW(K:Ag)(C:Addr):Prop where
 ga:findIn K (.ref C) "__getattribute__"=some (some (.builtin "BaseException.__getattribute__"))
 gt:findIn K (.ref C) "__getattr__"=some none
 cl:findIn K (.ref C) "__class__"=some (some (.builtin "object.__class__"))
 be:subIn K (.ref C) (.type "BaseException")=some true
 ob:subIn K (.ref C) (.type "object")=some true
 it:(clsIn K C).isSome=true
section
variable {prog:Program}{w:World}{A:Around}{E:Value->Shared->Prop}{h:Heap}{g:Array GenState}{d:Drawn}{t:Nat}{os:OsState}{a C:Addr}{o:Obj}{K:Ag}
theorem k9(F:rW K C)(X:K.In h)(hx:h.get? a=some o)(hc:o.cls=.ref C)(hq:R (.ok (.ret (.ref C))) ⟨h,g,d,t,os⟩) :
 codeAny (model prog w) A (.call (.builtin "getset_descriptor.__get__") ⟨[.builtin "object.__class__",.ref a,.ref C],[]⟩) R ⟨h,g,d,t,os⟩:=by
 have hT5:(⟨h,g,d,t,os⟩:Shared).TypeIs (.builtin "object.__class__") "getset_descriptor":=C9;have L1:Looks (model prog w) h (isSubtype (.ref C) (.type (".".intercalate ("object.__class__".cutAt '.').dropLast))) true:=by rw[PySem.F.owner_object_class];exact looks_subIn X F.ob
 refine Eu ED.plain PySem.F.entry_gs_get (ED.check _ _ _ _ _ _ _ _ hT5 (PySem.F.args_gs_get _ _ _) ?_)
 repeat (any_goals (first|assumption|(with_reducible refine Bh hx ?_;rw[hc])|with_reducible refine L1.at ?_|wp_step))
 refine⟨EV _ (by decide +kernel),Dt PySem.F.entry_object_class ?_⟩
 repeat (any_goals (first|assumption|(with_reducible refine Bh hx ?_;rw[hc])|wp_step))
theorem nh(F:rW K C)(X:K.In h)(hx:h.get? a=some o)(hc:o.cls=.ref C)(hq:Q (.done (.ret (.ref C))) ⟨h,g,d,t,os⟩) :
 wpAny (model prog w) A (Builtin.«object.__getattribute__» ⟨[.ref a,.str "__class__" tk],[]⟩) Q E ⟨h,g,d,t,os⟩:=by
 have hT5:(⟨h,g,d,t,os⟩:Shared).TypeIs (.builtin "object.__class__") "getset_descriptor":=C9;have f5:=C9;have f6:=ED.lookup;have f7:=PySem.F.slot_gs_set.lookup;have L1:=looks_findIn (M:=model prog w) X F.cl
 repeat (any_goals (first|assumption|(with_reducible refine Bh hx ?_;rw[hc])|with_reducible refine L1.at ?_|wp_step))
 refine k9 F X hx hc ?_
 repeat (any_goals (first|assumption|wp_step))
theorem nZ(F:rW K C)(X:K.In h)(hx:h.get? a=some o)(hc:o.cls=.ref C)(hq:Q () ⟨h,g,d,t,os⟩):wpAny M A (CL "BaseException.__getattribute__" ⟨[.ref a,nameV],[]⟩) Q E ⟨h,g,d,t,os⟩:=by
 have hk:builtinKind "BaseException.__getattribute__"=some .slot:=by decide +kernel
 have hsplit:splitId "BaseException.__getattribute__"=some ("BaseException","__getattribute__"):=by decide +kernel
 have L1:=looks_subIn (M:=M) X F.be;have ha:=PySem.F.args_bexc_ga (.ref a) nameV;simp only[CL,hk,hsplit];refine dS ?_
 . unfold isInstance
   repeat (first|(with_reducible refine Bh hx ?_;rw[hc])|with_reducible refine L1.at ?_|wp_step)
   exact hq
theorem lE(F:rW K C)(X:K.In h)(hx:h.get? a=some o)(hc:o.cls=.ref C)(hq:R (.ok (.ret (.ref C))) ⟨h,g,d,t,os⟩) :
 codeAny (model prog w) A (.call (.builtin "BaseException.__getattribute__") ⟨[.ref a,.str "__class__" tk],[]⟩) R ⟨h,g,d,t,os⟩:=
 Eu E8.ga.plain PySem.F.entry_bexc_ga (nZ F X hx hc (nh F X hx hc hq))
theorem fB{fill expr}(F:rW K C)(X:K.In h)(hx:h.get? a=some o)(hc:o.cls=.ref C)(hq:Q (.ref C) ⟨h,g,d,t,os⟩) :
 wpAny (model prog w) A (getAttrBy (.ref a) (.str "__class__" tk) fill expr) Q E ⟨h,g,d,t,os⟩:=by
 have f3:=E8.ga.bind (.ref a);have hx0:(expr&&onTheHeap (D1 "BaseException.__getattribute__"))=false:=by cases expr<;>rfl
 have hx2:(D1 "BaseException.__getattribute__" == D1 "object.__getattribute__")=false:=by decide +kernel
 have hx1:(onTheHeap (A0 C)&&D1 "BaseException.__getattribute__" == D1 "object.__getattribute__")=false:=by rw[hx2];rfl
 have L1:=looks_findIn (M:=model prog w) X F.ga;have L2:=looks_findIn (M:=model prog w) X F.gt
 repeat (any_goals (first|assumption|(with_reducible refine Bh hx ?_;rw[hc])|with_reducible refine L1.at ?_|with_reducible refine L2.at ?_|wp_step))
 refine lE F X hx hc ?_
 repeat (any_goals (first|assumption|wp_step))
theorem lD(F:rW K C)(X:K.In h)(hx:h.get? a=some o)(hc:o.cls=.ref C)(hq:Q (some (.ref C)) ⟨h,g,d,t+1,os⟩):wpAny (model prog w) A (getAttr? (.ref a) "__class__") Q E ⟨h,g,d,t,os⟩:=by
 unfold getAttr? getAttrBy?
 repeat (any_goals (first|assumption|with_reducible apply fB F X hx hc|wp_step))
theorem dk(F:rW K C)(hc:o.cls=.ref C):KitX K (.ref a) (.ref C) (λh=>h.get? a=some o) where
 ty:=λM h _ e=>qL e hc
 it:=λM h X _=>by
  have z:=F.it;unfold clsIn at z;split at z
  . rename_i c' d' cd' sl' ho
    intro A' Q' E' s' k q;unfold isType loadHead;exact dS (wpAny_loadPart (k _ _ (X _ _ ho)) (Ab q))
  . cases z
 ne:=λh tp dd its n sl X htp=>by
  have z:=F.it;refine Bool.eq_false_iff.mpr λq=>?_;have e:C=tp:=A0.inj (beq_iff_eq.mp q);subst e;unfold clsIn at z;split at z
  . rename_i c' d' cd' sl' ho
    have z:=(X _ _ ho).symm.trans htp;cases z
  . cases z
 ca:=λ{prog w A E Q s} X e k=>by obtain⟨h,g,d,t,os⟩:=s;exact lD F X e hc k
end
end L2
end
section
namespace L2
open PySem PySem.W PySem.Spec PySem.Calls PyProof PyProof.Rows
open SeqAt
def nQ(K:Ag):V->List V->Hp->VK->Prop:=λx vs H Q=>∃t xs y j,x=.c t/\vs=[y]/\SqL K H t xs/\wI y=true/\xs.all wI=true/\xs.findIdx? (λz=>eqV z y)=some j/\Q (.d (j:Nat)) H
def SD(K:Ag):List V->Hp->VK->Prop:=λxs H Q=>∃(a:Addr) (oe:Obj) (C:Addr) (dv:V) (du:Value) (b:Bool) (Kc:Ag),xs=[.c a,dv]/\H a=some (.d oe (.e 0))/\oe.cls=.ref C/\qu Kc K/\rW Kc C/\(∀u,RelV dv u->u=du)/\kitOne Kc (.ref C) du=some b/\Q (.f b) H
section
variable {X:Cx}
theorem gJ:MtR X "list.index" (nQ X.K):=by
 intro pins s σ H x xs v us Q I rx rs h;obtain⟨t,ys,y,j,rfl,rfl,ht,fy,fs,hx,q⟩:=h;cases rx;obtain⟨u,rfl,ru⟩:=vals1 rs;obtain⟨its,r,p1,hz⟩:=I.list ht;obtain⟨⟨cls,dd,data,sl⟩,ho,hc,n,hd⟩:=id p1.isList;simp only at hc hd;subst hc hd;have hm:=eT (x:=y) r fs;have at_:∀(i:Nat) (h1:i<its.length) (h2:i<ys.length),eqU y its[i]=eqV ys[i] y:=λi h1 h2=>by
  have:=congrArg (·[i]?) hm
  simp only[AX,Ad h1,Ad h2,Dq,DQ]at this;exact this
 have hl:=r.length;obtain⟨hj,hit,hno⟩:=DW.mp hx;have hsz:its.length<=Au:=by first|exact hz|(rw[<-hl];exact hz)|simpa using hz
 rw[AK]at hsz;refine BK F.slot_list_index ⟨_,ho,rfl⟩ F.entry_list_index (F.args_list_index_2 _ _) (list_indexAt t its.toArray n dd sl u (eqU y) j (by rw[Aa];omega) (by omega) ?_ λm hm hmj=>?_) ⟨ho,λw hw=>tK ru fy r fs w (by simpa using hw),?_⟩
 . rw[List.getElem_toArray,at_ j (by omega) hj];exact hit
 . rw[Aa]at hm
   rw[List.getElem_toArray,at_ m hm (by omega)]
   have:=hno m hmj;simpa using this
 . exact⟨.d _,H,I.tok _,⟨s.toks,rfl⟩,q⟩
theorem gY(ho:PE X o to)(he:PE X e te)(hbase:CN o "index" X.a (eval o X.a)=eval o X.a:=by rfl)(hst:noStar e=true:=by rfl)(hline:(apos.endLine == cpos.line)=true:=by rfl) :
 PE X (.Call (.Attribute o "index" apos) [e] [] cpos) (tBM X.K "list" (nQ X.K) to (wB te tZ)):=by
 have hs1:AD [e] X.a=(false,eval e X.a)::AD [] X.a:=ze hst;refine cg DO PySem.F.slot_list_index PySem.F.type_list_index gJ ho (pac he yT hst) hbase ?_ hline hs1 rfl;rw[hs1];rfl
theorem nv:yB X (.builtin "isinstance") (SD X.K):=by
 intro pins s σ H vs us Q I r h;obtain⟨a,oe,C,dv,du,b,Kc,rfl,ha,hc,sub,F,hd,hk,q⟩:=h;cases r with
 |cons r1 r2=>
  cases r2 with
  |cons r2 r3=>
   cases r3;cases r1;rw[hd _ r2];exact kia_one (dk F hc) (sub.inn I.kIn) (I.j a _ ha).1 hk (λz=>nomatch z) λtk=>⟨.f b,H,I.tok tk,rfl,q⟩
theorem Vc(hg:Gl X c)(hm:X.d c=some (.ref D))(hdb:(c == ("__debug__":Str))=false):PE X (.Name c p) (tC (.c D)):=λpins s σ H Q I h=>xl I hg hm ⟨.c D,H,I,rfl,h⟩ hdb
theorem VW(hg:Gl X c)(hm:X.d c=none)(hv:BV c=some (.type n))(hn:c≠"__name__")(hdb:(c == ("__debug__":Str))=false):PE X (.Name c p) (tC (.k n)):=λpins s σ H Q I h=>vt I hg hm hv ⟨.k n,H,I,rfl,h⟩ hn hdb
end
end L2
end
section
namespace L2
open PySem PySem.W PySem.Spec PySem.Calls PyProof PyProof.Rows
def vi(sc:Scope):List Str->List Expr->Bool
 |[],es=>es.isEmpty
 |c::cs,es=>M.lc es λe es=>(M.eCN e λf xs=>M.lc xs λa ys=>M.l1 ys λb=>M.eName a λy _=>M.eName b λx _=>decide (f="isinstance")&&decide (y="_law_e")&&decide (x=c)&&decide (sc.names.lookup c=some .globalImplicit)&&!(c == ("__debug__":Str)))&&vi sc cs es
def t9:List Str->List Expr->Bool
 |[],es=>es.isEmpty
 |w::ws,es=>M.lc es λe es=>(M.af e λc _ _=>decide (c=.str w))&&t9 ws es
noncomputable def adr(mg:Str->Option Value)(c:Str):Addr:=match mg c with|some (.ref D)=>D|_=>0
theorem fL(h:mg c=some (.ref D)):adr mg c=D:=by unfold adr;rw[h]
def bp(K:Ag)(dv:V):TE:=tCB (SD K) (wB (vT 0) (wB (tC dv) tZ))
def ka(K:Ag)(mg:Str->Option Value):List Str->TA
 |[]=>tZ
 |c::cs=>wB (bp K (.c (adr mg c))) (ka K mg cs)
def lA:List Str->TA
 |[]=>tZ
 |w::ws=>wB (tC (.e w)) (lA ws)
structure KB(X:Cx)(sc:Scope):Prop where
 d:X.a.scope=sc
 l:X.N.Nodup
 n0:X.N[0]?=some ("_law_e":Str)
 j:X.N[1]?=some ("_law_marks":Str)
 n2:X.N[2]?=some ("_law_words":Str)
 l0:sc.names.lookup ("_law_e":Str)=some .local
 g:sc.names.lookup ("_law_marks":Str)=some .local
 i:sc.names.lookup ("_law_words":Str)=some .local
 gi:sc.names.lookup ("isinstance":Str)=some .globalImplicit
 gv:sc.names.lookup ("ValueError":Str)=some .globalImplicit
 mi:X.d "isinstance"=none
 mv:X.d "ValueError"=none
structure KS(K Kc:Ag)(C a:Addr)(oe:Obj)(H0:Hp)(σ:St)(H:Hp):Prop where
 c:σ[0]?=some (some (.c a))
 d:H a=some (.d oe (.e 0))
 e:oe.cls=.ref C
 F:rW Kc C
 b:qu Kc K
 f:xf H0 H
section
variable {X:Cx}{sc:Scope}
theorem KB.gl(B:KB X sc)(h:sc.names.lookup x=some .globalImplicit):Gl X x:=by show X.a.scope.names.lookup x=_;rw[B.d];exact h
theorem KB.vis(B:KB X sc)(h:sc.names.lookup x=some .local):Vis X.a.scope x:=by rw[B.d];exact .inl h
theorem KB.To(B:KB X sc):PE X (.Name "_law_e" p) (vT 0):=wU B.n0 (B.vis B.l0) (by decide) (by decide)
theorem KB.VY(B:KB X sc):PE X (.Name "_law_marks" p) (vT 1):=wU B.j (B.vis B.g) (by decide) (by decide)
theorem KB.RP(B:KB X sc):PE X (.Name "_law_words" p) (vT 2):=wU B.n2 (B.vis B.i) (by decide) (by decide)
theorem KB.Tq(B:KB X sc)(hg:sc.names.lookup c=some .globalImplicit)(hdb:(c == ("__debug__":Str))=false)(hm:X.d c=some (.ref D)):PE X (.Call (.Name "isinstance" p1) [.Name "_law_e" p2,.Name c p3] [] p4) (bp X.K (.c D)):=
 tP nv (B.gl B.gi) B.mi boot_isinstance (yo B.To (yo (Vc (B.gl hg) hm hdb) yT))
theorem KB.VX(B:KB X sc):PE X (.Call (.Name "isinstance" p1) [.Name "_law_e" p2,.Name "ValueError" p3] [] p4) (bp X.K (.k "ValueError")):=
 tP nv (B.gl B.gi) B.mi boot_isinstance (yo B.To (yo (VW (B.gl B.gv) B.mv (by first|rfl|decide +kernel) (by decide) (by decide)) yT))
theorem KB.isl(B:KB X sc):∀{cs} {es},vi sc cs es=true->(∀c∈cs,∃D,X.d c=some (.ref D))->PA X es (ka X.K X.d cs)
 |[],es,h,_=>by cases AN.mp h;exact yT
 |c::cs,es,h,hm=>by replace h:=M.z9 h;obtain⟨e,es,rfl,h⟩:=h;obtain⟨h0,h6⟩:=M.zK h;replace h0:=M.ye h0;obtain⟨f,p1,xs,p4,rfl,h0⟩:=h0;replace h0:=M.dm h0;obtain⟨a,b,rfl,h0⟩:=h0;replace h0:=M.zq h0;obtain⟨y,p2,rfl,h0⟩:=h0;replace h0:=M.zq h0;obtain⟨x,p3,rfl,h0⟩:=h0;clear h;simp only[cf,decide_eq_true_eq,Ay]at h0;obtain⟨⟨⟨⟨rfl,rfl⟩,rfl⟩,h4⟩,h5⟩:=h0;obtain⟨D,hD⟩:=hm _ (As ..);refine yo ?_ (KB.isl B h6 λc' hc'=>hm c' (Ah _ hc'));rw[fL hD];exact B.Tq h4 h5 hD
theorem V0:∀{ws} {es},t9 ws es=true->PA X es (lA ws)
 |[],es,h=>by cases AN.mp h;exact yT
 |w::ws,es,h=>by replace h:=M.z9 h;obtain⟨e,es,rfl,h⟩:=h;obtain⟨h0,h6⟩:=M.zK h;obtain⟨c,k,p,rfl,h1⟩:=M.rn h0;obtain rfl:=of_decide_eq_true h1;exact yo sO (V0 h6)
end
section
variable {K Kc:Ag}{mg:Str->Option Value}{C a:Addr}{oe:Obj}{H0 H:Hp}{σ:St}
theorem eu(S:KS K Kc C a oe H0 σ H)(hd:∀u,RelV dv u->u=du)(hk:kitOne Kc (.ref C) du=some b)(q:Q (.f b) H):bp K dv σ H Q:=
 ⟨_,S.c,a,oe,C,dv,du,b,Kc,rfl,S.d,S.e,S.b,S.F,hd,hk,q⟩
theorem oj(S:KS K Kc C a oe H0 σ H)(b:Str->Bool):∀{cs} {Q},(∀c∈cs,kitOne Kc (.ref C) (.ref (adr mg c))=some (b c))->Q (cs.map λc=>.f (b c)) H->ka K mg cs σ H Q
 |[],_,_,q=>q
 |c::cs,Q,hk,q=>eu S (λu z=>z) (hk c (As ..)) (oj S b (λc' hc'=>hk c' (Ah _ hc')) q)
theorem qi:∀{ws} {Q},Q (ws.map V.e) H->lA ws σ H Q
 |[],_,q=>q
 |w::ws,Q,q=>qi (ws:=ws) q
theorem xa(h:H p=none):xf H (upd H p o):=λb u e=>by rw[zE (zQ e h)];exact e
theorem KS.new(S:KS K Kc C a oe H0 σ H)(h:H p=none):KS K Kc C a oe H0 σ (upd H p o):=⟨S.c,xa h _ _ S.d,S.e,S.F,S.b,S.f.trans (xa h)⟩
theorem KS.put(S:KS K Kc C a oe H0 σ H):KS K Kc C a oe H0 (σ.set (i+1) (some v)) H:=⟨by rw[AO (by omega)];exact S.c,S.d,S.e,S.F,S.b,S.f⟩
theorem Ze{b:Str->Bool}(S:KS K Kc C a oe H0 σ H)(hl:3<=σ.length)(hz:cs.length<=1000)(hk:∀c∈cs,kitOne Kc (.ref C) (.ref (adr mg c))=some (b c))
 (q:∀p σ' H',KS K Kc C a oe H0 σ' H'->σ'.length=σ.length->σ'[1]?=some (some (.c p))->H' p=some (.b (cs.map λc=>.f (b c)))->D.a σ' H'):uU (ke (ka K mg cs)) (xJ 1) D σ H:=
 oj S b hk ⟨by rw[Ai,AK];omega,λp hp=>q p _ _ (S.new hp).put (by simp) (by rw[Av (by omega)]) zL⟩
theorem ow{b:Str->Bool}(S:KS K Kc C a oe H0 σ H)(hl:3<=σ.length)(h1:σ[1]?=some (some (.c p0)))(h2:H p0=some (.b (ds.map λc=>.f (b c))))(hz:ds.length+cs.length<=1000)(hk:∀c∈cs,kitOne Kc (.ref C) (.ref (adr mg c))=some (b c))
 (q:∀p σ' H',KS K Kc C a oe H0 σ' H'->σ'.length=σ.length->σ'[1]?=some (some (.c p))->H' p=some (.b ((ds++cs).map λc=>.f (b c)))->D.a σ' H'):uU (tOp Z8 (vT 1) (ke (ka K mg cs))) (xJ 1) D σ H:=by
 refine⟨_,h1,oj S b hk ⟨by rw[Ai,AK];omega,λp1 hp1=>⟨p0,p1,_,_,rfl,rfl,by rw[zE (zQ h2 hp1)];exact h2,zL,by rw[Ai,Ai,AK];omega,λp hp=>?_⟩⟩⟩
 refine q p _ _ ((S.new hp1).new hp).put (by simp) (by rw[Av (by omega)]) ?_
 rw[zL,Ew]
end
end L2
end
section
namespace L2
open PySem PySem.W PySem.Spec PySem.Calls PyProof PyProof.Rows
noncomputable def ans(pre:Option Str)(w:Str):Str:=match pre with|none=>w|some x=>x++w
def T8:R2:=λx y H Q=>∃i j,x=.e i/\y=.e j/\i.length+j.length<=Au/\Q (.e (i++j)) H
def iA(K:Ag)(ws2:List Str):TE:=tOp (Vo K) (tOp Z8 (vT 2) (ke (lA ws2))) (tBM K "list" (nQ K) (vT 1) (wB (tC (.f true)) tZ))
def kf(K:Ag)(pre:Option Str)(ws2:List Str):TE:=match pre with
 |none=>iA K ws2
 |some x=>tOp T8 (tC (.e x)) (iA K ws2)
def tMk(K:Ag)(mg:Str->Option Value)(cs:List Str):TS:=uU (tOp Z8 (vT 1) (ke (ka K mg cs))) (xJ 1)
def XQ(K:Ag)(mg:Str->Option Value)(cs1 cs2 cs3 cs4 ws1 ws2:List Str)(pre:Option Str)(odd:Str):TS:=
 m9 (uU (ke (ka K mg cs1)) (xJ 1)) (m9 (tMk K mg cs2) (m9 (tMk K mg cs3) (m9 (tMk K mg cs4)
  (m9 (Sg (tOr (Sh (tB (bp K (.k "ValueError")))) (iB (tOp rNe (tBM K "list" (qd K false) (vT 1) (wB (tC (.f true)) tZ)) (tC (.d 1))))) (gx (tC (.e odd))) XS)
   (m9 (uU (ke (lA ws1)) (xJ 2)) (gx (kf K pre ws2)))))))
section
variable {X:Cx}{sc:Scope}
theorem KB.pick(B:KB X sc){l2}(w2:t9 ws2 l2=true)(hline:(ap.endLine == cp.line)=true) :
 PE X (.Subscript (.BinOp (.Name "_law_words" p1) .Add (.List l2 p2) p3) (.Call (.Attribute (.Name "_law_marks" p4) "index" ap) [.Constant (.bool true) k p5] [] cp) p6) (iA X.K ws2):=
 XD jj (mh kD B.RP (sN (V0 w2))) (gY B.VY cb (hline:=hline)) (λ_ _=>rfl)
theorem KB.mks(B:KB X sc){es}(h:vi sc cs es=true)(hm:∀c∈cs,∃D,X.d c=some (.ref D)) :
 PS X (.Assign [.Name "_law_marks" p1] (.BinOp (.Name "_law_marks" p2) .Add (.List es p3) p4) p5) (tMk X.K X.d cs):=
 wW B.l B.j (by rw[B.d];exact .inl B.g) (mh kD B.VY (sN (B.isl h hm))) (hf:=.inr (by rw[B.d];exact B.g))
theorem di(B:KB X sc)
 (h1:vi sc cs1 e1=true) (h2:vi sc cs2 e2=true) (h3:vi sc cs3 e3=true) (h4:vi sc cs4 e4=true) (hm:∀c∈cs1++cs2++cs3++cs4,∃D,X.d c=some (.ref D)) (w1:t9 ws1 l1=true) (hline:(ap.endLine == cp.line)=true) (hr:PE X r (kf X.K pre ws2)) :
 PSs X [.Assign [.Name "_law_marks" a1] (.List e1 a2) a3,.Assign [.Name "_law_marks" b1] (.BinOp (.Name "_law_marks" b2) .Add (.List e2 b3) b4) b5,.Assign [.Name "_law_marks" c1] (.BinOp (.Name "_law_marks" c2) .Add (.List e3 c3) c4) c5,
  .Assign [.Name "_law_marks" d1] (.BinOp (.Name "_law_marks" d2) .Add (.List e4 d3) d4) d5,
  .If (.BoolOp .Or [.UnaryOp .Not (.Call (.Name "isinstance" f1) [.Name "_law_e" f2,.Name "ValueError" f3] [] f4) f5,.Compare (.Call (.Attribute (.Name "_law_marks" f6) "count" ap) [.Constant (.bool true) k1 f7] [] cp) [.NotEq] [.Constant (.int 1) k2 f8] f9] fa) [.Return (some (.Constant (.str odd) k3 fb)) fc] [] fd,
  .Assign [.Name "_law_words" g1] (.List l1 g2) g3,.Return (some r) r1] (XQ X.K X.d cs1 cs2 cs3 cs4 ws1 ws2 pre odd):=by
 have m1:∀c∈cs1,∃D,X.d c=some (.ref D):=λc h=>hm c (by simp[h])
 have m2:∀c∈cs2,∃D,X.d c=some (.ref D):=λc h=>hm c (by simp[h])
 have m3:∀c∈cs3,∃D,X.d c=some (.ref D):=λc h=>hm c (by simp[h])
 have m4:∀c∈cs4,∃D,X.d c=some (.ref D):=λc h=>hm c (by simp[h])
 refine zp (wW B.l B.j (by rw[B.d];exact .inl B.g) (sN (B.isl h1 m1)) (hf:=.inr (by rw[B.d];exact B.g))) (zp (B.mks h2 m2) (zp (B.mks h3 m3) (zp (B.mks h4 m4) (zp ?_ (zp
  (wW B.l B.n2 (by rw[B.d];exact .inl B.i) (sN (V0 w1)) (hf:=.inr (by rw[B.d];exact B.i))) (vN (wV hr)))))))
 exact pY (Tz (kL (Vl B.VX)) (Vm (rS Y5 (pW B.VY cb (hline:=hline)) cz (qT _ (by decide) (by decide))))) (vN (wV sO)) rR
end
section
variable {K Kc:Ag}{mg:Str->Option Value}{C a:Addr}{oe:Obj}{H0 H:Hp}{σ:St}
theorem jH{cs:List Str}{b:Str->Bool}:(cs.map λc=>V.f (b c)).all wI=true:=by rw[List.all_map,AF];intro _ _;rfl
theorem cJ{cs:List Str}(nd:cs.Nodup)(hm:c0∈cs):((cs.map λc=>V.f (decide (c=c0))).countP λz=>eqV z (.f true))=1:=by
 rw[List.countP_map];have e:((λz=>eqV z (.f true))∘λc=>V.f (decide (c=c0)))=λc:Str=>c == c0:=by
  funext c;by_cases z:c=c0
  . subst z;simp[eqV]
  . simp[eqV,z]
 rw[e];have h1:cs.count c0<=1:=List.nodup_iff_count.mp nd c0;have h2:0<cs.count c0:=List.count_pos_iff.mpr hm;show cs.count c0=1;omega
theorem ZF{cs:List Str}(nd:cs.Nodup)(hi:cs[i]?=some c0):(cs.map λc=>V.f (decide (c=c0))).findIdx? (λz=>eqV z (.f true))=some i:=by
 obtain⟨h1,h2⟩:=Am.mp hi;rw[DW];refine⟨by rw[Ai];exact h1,by rw[List.getElem_map,h2];simp[eqV],λj hj=>?_⟩
 rw[List.getElem_map];have:cs[j]≠c0:=λz=>by rw[<-h2]at z;exact absurd ((List.getElem_inj nd).mp z) (by omega)
 simp[eqV,this]
theorem dj{i:Nat}(S:KS K Kc C a oe H0 σ H)(hl:3<=σ.length)(nd:(cs1++cs2++cs3++cs4).Nodup)(hz:(cs1++cs2++cs3++cs4).length<=100)(hz2:(ws1++ws2).length<=100)
 (hi:(cs1++cs2++cs3++cs4)[i]?=some c0) (hw:(ws1++ws2)[i]?=some w) (hwl:w.length<=100) (hpl:∀x,pre=some x->x.length<=100) (hk:∀c∈cs1++cs2++cs3++cs4,kitOne Kc (.ref C) (.ref (adr mg c))=some (decide (c=c0))) (hv:kitOne Kc (.ref C) (.type "ValueError")=some true)
 (q:∀H',xf H0 H'->D.b (.e (ans pre w)) H'):XQ K mg cs1 cs2 cs3 cs4 ws1 ws2 pre odd D σ H:=by
 simp only[Ap]at hz hz2;have k1:∀c∈cs1,kitOne Kc (.ref C) (.ref (adr mg c))=some (decide (c=c0)):=λc h=>hk c (by simp[h])
 have k2:∀c∈cs2,kitOne Kc (.ref C) (.ref (adr mg c))=some (decide (c=c0)):=λc h=>hk c (by simp[h])
 have k3:∀c∈cs3,kitOne Kc (.ref C) (.ref (adr mg c))=some (decide (c=c0)):=λc h=>hk c (by simp[h])
 have k4:∀c∈cs4,kitOne Kc (.ref C) (.ref (adr mg c))=some (decide (c=c0)):=λc h=>hk c (by simp[h])
 refine Ze (b:=λc=>decide (c=c0)) S hl (by omega) k1 λp1 σ1 H1 S1 n1 e1 q1=>?_
 refine ow (b:=λc=>decide (c=c0)) (ds:=cs1) S1 (by omega) e1 q1 (by omega) k2 λp2 σ2 H2 S2 n2 e2 q2=>?_
 refine ow (b:=λc=>decide (c=c0)) (ds:=cs1++cs2) S2 (by omega) e2 q2 (by rw[Ap];omega) k3 λp3 σ3 H3 S3 n3 e3 q3=>?_
 refine ow (b:=λc=>decide (c=c0)) (ds:=cs1++cs2++cs3) S3 (by omega) e3 q3 (by rw[Ap,Ap];omega) k4 λp4 σ4 H4 S4 n4 e4 q4=>?_
 have hmem:c0∈cs1++cs2++cs3++cs4:=AU hi;refine eu S4 (λu z=>z) hv ⟨true,rfl,?_⟩;refine uR ?_;refine⟨_,e4,?_,p4,_,.f true,rfl,rfl,.inl (.inl q4),rfl,jH,rfl,_,rfl,?_⟩
 . exact .inl ⟨rfl,_,.inl (.inl q4)⟩
 rw[cJ nd hmem];refine uR ?_;refine qi ⟨by rw[Ai,AK];omega,λp5 hp5=>?_⟩
 have S5:KS K Kc C a oe H0 (σ4.set 2 (some (.c p5))) (upd H4 p5 (.b (ws1.map V.e))):=(S4.new hp5).put;have e5:(σ4.set 2 (some (V.c p5)))[1]?=some (some (.c p4)):=by rw[AO (by omega)];exact e4
 have q5:upd H4 p5 (.b (ws1.map V.e)) p4=some (.b ((cs1++cs2++cs3++cs4).map λc=>V.f (decide (c=c0)))):=by rw[zE (zQ q4 hp5)];exact q4
 have pick:∀Q:VK,(∀H',xf H0 H'->Q (.e w) H')->iA K ws2 (σ4.set 2 (some (.c p5))) (upd H4 p5 (.b (ws1.map V.e))) Q:=λQ hQ=>by
  refine⟨_,by rw[Av (by omega)],qi ⟨by rw[Ai,AK];omega,λp6 hp6=>⟨p5,p6,_,_,rfl,rfl,by rw[zE (zQ zL hp6)];exact zL,zL,by rw[Ai,Ai,AK];omega,λp7 hp7=>?_⟩⟩⟩
  have q6:=xa (o:=.b (ws1.map V.e++ws2.map V.e)) hp7 _ _ (xa (o:=.b (ws2.map V.e)) hp6 _ _ q5);refine⟨_,e5,.inl ⟨rfl,_,.inl (.inl q6)⟩,p4,_,.f true,i,rfl,rfl,.inl (.inl q6),rfl,jH,ZF nd hi,p7,_,i,.e w,rfl,rfl,.inl (.inl zL),?_,hQ _ ((S5.f.trans (xa hp6)).trans (xa hp7))⟩;obtain⟨h1,h2⟩:=Am.mp hw;rw[Ap]at h1;unfold atI ixN;rw[<-Ew,if_pos (by omega),Ai,Ap,if_pos (by omega)]
  show (Gq V.e (ws1++ws2))[(i:Int).toNat]?=_;rw[BS,AX,hw];rfl
 cases pre with
 |none=>exact pick _ q
 |some x=>
  refine pick _ λH' sm=>⟨x,w,rfl,rfl,?_,q H' sm⟩;have:=hpl x rfl;rw[AK];omega
end
end L2
end
section
namespace L2
open PySem PySem.W PySem.Spec PySem.Calls PyProof PyProof.Rows
noncomputable def kN:List Str:=["_law_e","_law_marks","_law_words"]
def fE(sc:Scope)(cs ws:List Str)(pre:Option Str)(body:List Stmt):Prop:=
 ∃(cs1 cs2 cs3 cs4 ws1 ws2:List Str) (odd:Str) (e1 e2 e3 e4 l1 l2:List Expr) (r s:Expr) (a1 a2 a3 b1 b2 b3 b4 b5 c1 c2 c3 c4 c5 d1 d2 d3 d4 d5 f1 f2 f3 f4 f5 f6 f7 f8 f9 fa fb fc fd g1 g2 g3 ap cp r1 q1 q2 q3 q4 q5 q6 ap2 cp2 t1 t2:Pos) (k1 k2 k3 k4 k5:Nat),
  body=[.Assign [.Name "_law_marks" a1] (.List e1 a2) a3,.Assign [.Name "_law_marks" b1] (.BinOp (.Name "_law_marks" b2) .Add (.List e2 b3) b4) b5,.Assign [.Name "_law_marks" c1] (.BinOp (.Name "_law_marks" c2) .Add (.List e3 c3) c4) c5,
   .Assign [.Name "_law_marks" d1] (.BinOp (.Name "_law_marks" d2) .Add (.List e4 d3) d4) d5,
   .If (.BoolOp .Or [.UnaryOp .Not (.Call (.Name "isinstance" f1) [.Name "_law_e" f2,.Name "ValueError" f3] [] f4) f5,.Compare (.Call (.Attribute (.Name "_law_marks" f6) "count" ap) [.Constant (.bool true) k1 f7] [] cp) [.NotEq] [.Constant (.int 1) k2 f8] f9] fa) [.Return (some (.Constant (.str odd) k3 fb)) fc] [] fd,
   .Assign [.Name "_law_words" g1] (.List l1 g2) g3,.Return (some r) r1] /\
  s=.Subscript (.BinOp (.Name "_law_words" q1) .Add (.List l2 q2) q3) (.Call (.Attribute (.Name "_law_marks" q4) "index" ap2) [.Constant (.bool true) k4 q5] [] cp2) q6 /\
  (match pre with|none=>r=s|some x=>r=.BinOp (.Constant (.str x) k5 t1) .Add s t2) /\
  (vi sc cs1 e1&&vi sc cs2 e2&&vi sc cs3 e3&&vi sc cs4 e4&&t9 ws1 l1&&t9 ws2 l2&&(ap.endLine == cp.line)&&(ap2.endLine == cp2.line))=true/\cs=cs1++cs2++cs3++cs4/\ws=ws1++ws2
structure oM(K:Ag)(mg:Str->Option Value)(x:Str)(cs ws:List Str)(pre:Option Str):Prop where
 ex:∃(st:Stmt) (f:Addr) (fd:BM),mg x=some (.ref f)/\Fun K x x st f fd/\wH kN ["_law_e"] (zG st)/\Binds K fd ["_law_e"] []/\fE (zG st) cs ws pre (yR st) /\
  ((zG st).names.lookup ("_law_e":Str)=some .local/\(zG st).names.lookup ("_law_marks":Str)=some .local/\(zG st).names.lookup ("_law_words":Str)=some .local/\(zG st).names.lookup ("isinstance":Str)=some .globalImplicit/\(zG st).names.lookup ("ValueError":Str)=some .globalImplicit)
 b:∀c∈cs,∃D,mg c=some (.ref D)
 mi:mg "isinstance"=none
 mv:mg "ValueError"=none
 nd:cs.Nodup
 hz:cs.length<=100
 a:ws.length<=100
 hw:∀w∈ws,w.length<=100
 hp:∀x,pre=some x->x.length<=100
structure Xg(Kc:Ag)(mg:Str->Option Value)(cs:List Str)(C:Addr)(c0:Str):Prop where
 F:rW Kc C
 a:∀c∈cs,kitOne Kc (.ref C) (.ref (adr mg c))=some (decide (c=c0))
 ve:kitOne Kc (.ref C) (.type "ValueError")=some true
def Named(K:Ag)(mg:Str->Option Value)(cs:List Str)(C:Addr)(c0:Str):Prop:=∃Kc,qu Kc K/\Xg Kc mg cs C c0
def tKC(K:Ag)(mg:Str->Option Value)(cs ws:List Str)(pre:Option Str)(ie:Nat):TE:=λσ H Q=>∃(a:Addr) (oe:Obj) (C:Addr) (c0:Str) (i:Nat) (w:Str),σ[ie]?=some (some (.c a))/\H a=some (.d oe (.e 0))/\oe.cls=.ref C/\Named K mg cs C c0 /\
 cs[i]?=some c0/\ws[i]?=some w/\∀H',xf H H'->Q (.e (ans pre w)) H'
section
variable {X:Cx}
theorem i8(F:oM X.K X.d x cs ws pre)(hdp:X.A.depth<CG)(hg:Gl X x)(hdb:(x == ("__debug__":Str))=false)(hN:X.N[ie]?=some e)(hv:Vis X.a.scope e)(hd1:(e == ("__debug__":Str))=false)(hd2:(e == ("__classdict__":Str))=false) :
 PE X (.Call (.Name x p) [.Name e p2] [] pos) (tKC X.K X.d cs ws pre ie):=by
 intro pins s σ H Q I ⟨a,oe,C,c0,i,w,h0,ha,hc,nm,hi,hw,q⟩;obtain⟨st,f,fd,hm,Fn,S,hb,sh,hl0,hl1,hl2,hgi,hgv⟩:=F.ex;refine Bu (xl I hg hm ?_ hdb);have hpa:PA X [.Name e p2] (wB (vT ie) tZ):=yo (wU hN hv hd1 hd2) yT;refine CQ (h₀:=X.h) I.C.j.a Fn.b (thn (hpa pos pins s σ H (λvs H1=>vs=[V.c a]/\H1=H) I ⟨_,h0,rfl,rfl⟩) λus s1 ⟨vs,H1,I1,r,hvs,hH⟩=>⟨I1.kIn,?_⟩);subst hvs hH;obtain⟨oc,od,kV,doc,pm,an,cdv,ct,osl,rfl,lk,hcd⟩:=Fn.a;have hl:us.length=1:=by rw[<-r.length];rfl
 have hbt:=hb s1 us I1.kIn (by rw[Bb];exact hl)
 rw[Bb]at hbt;refine Ek (C6 (mE (CX:=CX0) (E:=E0) (R:=CR CX0 X.g X.f X.w H1 s1 Q E0) (N:=kN) lk hcd S hdp I1.vn hbt rfl r λs2 I2 _=>?_) λr s' hq=>?_)
 . have I3:=I2.loud (A':=X.A.deeper (envOfC x (zG st) s1.heap.objs.size f cdv)) (Em I1.vn.a)
   have B:KB ((xX CX0 X.f X.w X.K X.d X.h kN x (zG st) f cdv {X.A with handled:=none} X.g s1 H1 E0).loud (X.A.deeper (envOfC x (zG st) s1.heap.objs.size f cdv))).nox (zG st):=
    ⟨rfl,S.b,rfl,rfl,rfl,hl0,hl1,hl2,hgi,hgv,F.mi,F.mv⟩
   obtain⟨cs1,cs2,cs3,cs4,ws1,ws2,odd,e1,e2,e3,e4,l1,l2,rr,ss,a1,a2,a3,b1,b2,b3,b4,b5,c1,c2,c3,c4,c5,d1,d2,d3,d4,d5,f1,f2,f3,f4,f5,f6,f7,f8,f9,fa,fb,fc,fd,g1,g2,g3,ap,cp,r1,q1,q2,q3,q4,q5,q6,ap2,cp2,t1,t2,k1,k2,k3,k4,k5,hbody,hs,hr,hck,hcs,hws⟩:=sh;simp only[cf]at hck;obtain⟨⟨⟨⟨⟨⟨⟨y1,y2⟩,y3⟩,y4⟩,y5⟩,y6⟩,y7⟩,y8⟩:=hck;subst hcs hws hs;have hpe:PE ((xX CX0 X.f X.w X.K X.d X.h kN x (zG st) f cdv {X.A with handled:=none} X.g s1 H1 E0).loud (X.A.deeper (envOfC x (zG st) s1.heap.objs.size f cdv))).nox rr (kf X.K pre ws2):=by
    cases pre with
    |none=>subst hr;exact B.pick y6 y8
    |some x=>subst hr;exact mh qX sO (B.pick y6 y8)
   have t:=di B (a1:=a1) (a2:=a2) (a3:=a3) (b1:=b1) (b2:=b2) (b3:=b3) (b4:=b4) (b5:=b5) (c1:=c1) (c2:=c2) (c3:=c3) (c4:=c4) (c5:=c5) (d1:=d1) (d2:=d2) (d3:=d3) (d4:=d4) (d5:=d5) (f1:=f1) (f2:=f2) (f3:=f3) (f4:=f4) (f5:=f5) (f6:=f6) (f7:=f7) (f8:=f8) (f9:=f9) (fa:=fa) (fb:=fb) (fc:=fc) (fd:=fd) (g1:=g1) (g2:=g2) (g3:=g3) (ap:=ap) (cp:=cp) (r1:=r1) (k1:=k1) (k2:=k2) (k3:=k3) (odd:=odd) (pre:=pre) (ws2:=ws2) y1 y2 y3 y4 F.b y5 y7 hpe;unfold fD;rw[hbody];obtain⟨Kc,sub,nm⟩:=nm;have KS0:KS X.K Kc C a oe H1 (start kN [.c a]) H1:=⟨rfl,ha,hc,nm.F,sub,xf.refl _⟩;refine AY (t [] s2 (start kN [.c a]) H1 {a:=λ_ _=>False,b:=Q} (I3.wF _) (dj KS0 (show 3<=3 from xd _) F.nd F.hz F.a hi hw (F.hw _ (AU hw)) F.hp nm.a nm.ve λH' sm=>q H' sm)) (λfl s' hs=>?_) λ_ _ z=>AA z;cases fl with
   |ret u=>
    obtain⟨v,σ',H',J,rv,q'⟩:=hs;exact⟨v,H',J.S,J.F,J.B,J.j,rv,q'⟩
   |next=>obtain⟨_,_,_,z⟩:=hs;exact AA z
   |brk=>obtain⟨_,_,_,z⟩:=hs;exact AA z
   |cont=>obtain⟨_,_,_,z⟩:=hs;exact AA z
 . cases r with
   |error e=>exact AA hq
   |ok fl=>
    cases fl with
    |ret u=>exact I1.after hq
    |next=>exact AA hq
    |brk=>exact AA hq
    |cont=>exact AA hq
end
end L2
end
section
namespace L2
open PySem PySem.W PySem.Spec PySem.Calls PyProof PyProof.Rows
structure pE(outer:List Env)(h:Heap)(H:Hp)(lf c:Addr)(qual:Str)(body:Expr)(lsc:Scope)(cl:List (Str × Addr))(pm ctv:Value)(N:List Str)(σ:St):Prop where
 ob:h.get? lf=some (kla_obj "<lambda>" qual noArgs body lsc cl pm c ctv)
 nl:H lf=none\/H lf=some (.d (kla_obj "<lambda>" qual noArgs body lsc cl pm c ctv) (.e 0))
 fl:lf ∉ frs outer
 cd:∃(o:Obj) (vs:Array Value) (t:Tok),H c=some (.d o (.e 0))/\o.data=.fields vs/\vs[1]?=some (.str qual t)
 e:∀x y b,cl.lookup x=some b->cl.lookup y=some b->x=y
 d:∀x,lsc.names.lookup x=some .free->∃b,cl.lookup x=some b
 a:∀x b,cl.lookup x=some b->(∃v,h.IsCell b v)/\H b=none
 g:∀(i:Nat) (x:Str) (v:V),N[i]?=some x->σ[i]?=some (some v)->lsc.names.lookup x=some .free->∃u b,RelV v u/\cl.lookup x=some b/\h.IsCell b (some u)
 f:σ.length=N.length
 kd:lsc.kind=.function
 co:lsc.isCoroutine=false
 gn:lsc.isGenerator=false
 nm:∀x∈lsc.names,x.2≠.cell/\x.2≠.local
section
variable {X:Cx}{EE:Value->Hp->Prop}
theorem dw{ic:Nat}(L:pE X.k X.l.heap X.r lf c qual body lsc cl pm ctv N σ)(hxn:X.m=[])(hdp:X.A.depth<CG)(hh:X.A.handled=none)
 (hN:X.N[ic]?=some ("_law_call":Str)) (hv:Vis X.a.scope "_law_call")
 (hbody:∀s' H',PE (rm (CXE X.f X.w) X.f X.w X.K X.d X.h N qual lsc lf (.ref c) cl X.A X.g s' H' (λcls _ H'=>EE cls H')) body tb) :
 PE (X.wF (XC X EE)) (.Call (.Name "_law_call" p) [] [] pos) (λσ1 H1 Q=>σ1[ic]?=some (some (.c lf))/\tb σ H1 Q):=by
 intro pins s1 σ1 H1 Q I ⟨h0,hq⟩;have hpe:PE (X.wF (XC X EE)) (.Name "_law_call" p) (vT ic):=wU hN hv (by decide) (by decide)
 refine Bu (thn (hpe pins s1 σ1 H1 (λv H2=>v=V.c lf/\H2=H1) I ⟨_,h0,rfl,rfl⟩) λu s2 ⟨v,H2,I2,r,hv2,hH2⟩=>?_);subst hv2 hH2;cases r;have un:Un (frs X.k) [] X.r H2 X.l.heap s2.heap:=by have:=I2.B;rw[show (X.wF (XC X EE)).m=[] from hxn]at this;exact this
 have ob2:s2.heap.get? lf=some (kla_obj "<lambda>" qual noArgs body lsc cl pm c ctv):=by
  rcases L.nl with z|z
  . exact un.f _ _ L.ob z L.fl (by simp)
  . exact(I2.j lf _ (un.g lf _ _ z)).1
 have cr2:s2.heap.CodeRec (.ref c) qual:=by obtain⟨o,vs,t,q1,q2,q3⟩:=L.cd;exact⟨c,o,vs,t,rfl,(I2.j c _ (un.g c o _ q1)).1,q2,q3⟩
 have cell2:∀b v,X.l.heap.IsCell b v->X.r b=none->s2.heap.IsCell b v:=λb v ⟨o,e,d⟩ n=>by
  by_cases f:b∈frs X.k
  . obtain⟨sl,e1⟩:=un.i b o e n f (by simp)
    exact⟨_,e1,d⟩
  . exact⟨o,un.f b o e n f (by simp),d⟩
 refine callWith_of (P:=λh=>h.get? lf=some (kla_obj "<lambda>" qual noArgs body lsc cl pm c ctv)) rfl (λh e=>⟨.frame,.inl rfl,(Looks.ld (part:=none) e).andThen .now⟩) (evalArgs_nil3 ⟨ob2,?_⟩);refine Ek (C6 (Zb (CX:=CXE X.f X.w) (E:=λcls _ H'=>EE cls H') (R:=CR (CXE X.f X.w) X.g X.f X.w H2 s2 Q (λcls _ H'=>EE cls H')) (N:=N) (σ:=σ) hdp hh I2.vn ob2 cr2 L.kd L.co L.gn L.nm L.e L.d (λx b e=>?_) (λi x v e1 e2 e3=>?_) L.f λs3 I3=>?_) λr s' hq=>?_)
 . obtain⟨⟨v,z⟩,n⟩:=L.a x b e
   obtain⟨o,eo,_⟩:=id z;exact⟨⟨v,cell2 b v z n⟩,un.d b o eo n (by simp)⟩
 . obtain⟨u,b,q1,q2,q3⟩:=L.g i x v e1 e2 e3
   obtain⟨_,n⟩:=L.a x b q2;exact⟨u,b,q1,q2,cell2 b _ q3 n⟩
 . refine AY (hbody s2 H2 [] s3 σ H2 Q I3 hq) (λu s' ⟨v,H',J,rv,q⟩=>?_) λe s' z=>z
   exact⟨v,H',J.S,J.F,J.B,J.j,rv,q⟩
 . cases r with
   |error e=>
    obtain⟨a,cls,H',rfl,fl,hE⟩:=hq;exact⟨a,cls,σ1,H2,s2,H',rfl,I2.yu.nO λp hp=>absurd hp (by simp),fl,hE⟩
   |ok fl=>
    cases fl with
    |ret u=>exact I2.after hq
    |next=>exact AA hq
    |brk=>exact AA hq
    |cont=>exact AA hq
end
end L2
end
section
namespace L2
open PySem PySem.W PySem.Spec PySem.Calls PyProof PyProof.Rows
noncomputable def yD(m:Bool):Str:=if m then "_law_got" else "_law_said"
noncomputable def xZ(m:Bool):List Str:=if m then ["_law_call","_law_e"] else ["_law_call","_law_e","_law_word"]
def fG(m:Bool)(kx:Str)(body:List Stmt):Prop:=∃(te:Expr) (p1 p2 p3 p4 p5 p6 p7 p8 p9 pa pb q1 q2 q3 q4 q5 q6 q7 q8:Pos) (k1 k2:Nat),body=if m then
 [.Try [.Return (some (.Call (.Name "_law_call" p1) [] [] p2)) p3] [.ExceptHandler (some (.Name "HueError" p4)) (some "_law_e") [.Return (some (.Call (.Name kx p6) [.Name "_law_e" p7] [] p8)) p9] pa] [] [] pb]
 else [.Try [.Expr (.Call (.Name "_law_call" p1) [] [] p2) p3] [.ExceptHandler (some (.Name "HueError" p4)) (some "_law_e") [.Assign [.Name "_law_word" p5] (.Call (.Name kx p6) [.Name "_law_e" p7] [] p8) p9,
  .Return (some (.IfExp (.Compare (.Name "_law_word" q1) [.Eq] [.Constant (.str "great") k1 q2] q3) te (.Name "_law_word" q4) q5)) q6] pa] [] [] pb,.Return (some (.Constant (.str "told") k2 q7)) q8]
structure fF(K:Ag)(mg:Str->Option Value)(m:Bool)(kx:Str)(f:Addr):Prop where
 a:∃(st:Stmt) (fd:BM),mg (yD m)=some (.ref f)/\Fun K (yD m) (yD m) st f fd/\wH (xZ m) ["_law_call"] (zG st)/\Binds K fd ["_law_call"] []/\fG m kx (yR st) /\
  (zG st).names.lookup ("_law_call":Str)=some .local/\(zG st).names.lookup ("_law_e":Str)=some .local/\(m=false->(zG st).names.lookup ("_law_word":Str)=some .local)/\(zG st).names.lookup ("HueError":Str)=some .globalImplicit/\(zG st).names.lookup kx=some .globalImplicit
 kd:(kx == ("__debug__":Str))=false
section
variable {X:Cx}{D:Ends}{s:Shared}{E:Value->Shared->Prop}
theorem iY{st}(h:wpAny (model X.f X.w) X.A (exec st X.a) (SP X [] D) E s):wpAny (model X.f X.w) X.A (execs [st] X.a) (SP X [] D) E s:=by
 refine D2 (thn h λf s1 q=>?_);cases f with
 |next=>exact Dr q
 |brk=>exact q
 |cont=>exact q
 |ret u=>exact q
theorem iZ{st st2}(h:wpAny (model X.f X.w) X.A (exec st X.a) (SP X [] {D with a:=t D}) X.i s)(h2:PS X st2 t):wpAny (model X.f X.w) X.A (execs [st,st2] X.a) (SP X [] D) X.i s:=by
 refine D2 (thn h λf s1 q=>?_);cases f with
 |next=>obtain⟨σ',H',I,q⟩:=q;exact vN h2 [] s1 σ' H' D I q
 |brk=>exact q
 |cont=>exact q
 |ret u=>exact q
end
section
variable {P:Program}{w:World}{K:Ag}{mg:Str->Option Value}{base:Heap}{A:Around}{outer:List Env}{s:Shared}{H:Hp}{Q:VK}
theorem bW{EE:Value->Hp->Prop}
 (e0:lH P w K mg base A outer s H) (hh:A.handled=none) (hdp:A.depth+1<CG) (S:fF K mg m kx f) (KF:oM K mg kx cs ws pre) (hu:mg "HueError"=some (.ref hue)) (L:pE outer s.heap H lf c qual body lsc cl pm ctv N σ)
 (hbody:∀env s' H',PE (rm (CXE P w) P w K mg base N qual lsc lf (.ref c) cl (A.deeper env) (env::outer) s' H' (λcls _ H'=>EE cls H')) body tb)
 (hq:tb σ H λv H1=>Q (if m then v else .e "told") H1)
 (hE:∀cls H',EE cls H'->∃(C:Addr) (c0:Str) (i:Nat) (x:Str),cls=.ref C/\(∃Kc,qu Kc K/\exmOne Kc (.ref C) (.ref hue)=some true)/\Named K mg cs C c0/\cs[i]?=some c0/\ws[i]?=some x/\(m=false->ans pre x≠"great")/\∀H'',xf H' H''->Q (.e (ans pre x)) H'') :
 codeAny (model P w) A (.call (.ref f) ⟨[.ref lf],[]⟩) (CR CX0 outer P w H s Q E0) s:=by
 obtain⟨st,fd,hm,Fn,Sc,hb,sh,l0,l1,l2,g0,g1⟩:=S.a;obtain⟨oc,od,kV,doc,pm',an,cdv,ct,osl,rfl,lk,hcd⟩:=Fn.a;have KX:K.In s.heap:=e0.c.a.keeps λb o e=>(e0.e b o e).1;have hbt:=hb s [.ref lf] KX rfl;refine mE (CX:=CX0) (E:=E0) (R:=CR CX0 outer P w H s Q E0) (N:=xZ m) (vs:=[.c lf]) lk hcd Sc (by omega) e0 hbt rfl (.cons rfl .nil) λs1 I1 _=>?_
 rw[nt hh]at I1;obtain⟨te,p1,p2,p3,p4,p5,p6,p7,p8,p9,pa,pb,q1,q2,q3,q4,q5,q6,q7,q8,k1,k2,hbd⟩:=sh;have hLam:pE (xX CX0 P w K mg base (xZ m) (yD m) (zG st) f cdv A outer s H E0).k (xX CX0 P w K mg base (xZ m) (yD m) (zG st) f cdv A outer s H E0).l.heap (xX CX0 P w K mg base (xZ m) (yD m) (zG st) f cdv A outer s H E0).r lf c qual body lsc cl pm ctv N σ:=L;have hA:(xX CX0 P w K mg base (xZ m) (yD m) (zG st) f cdv A outer s H E0).A.depth=A.depth+1:=rfl;have hlam:∀{p pos:Pos},PE ((xX CX0 P w K mg base (xZ m) (yD m) (zG st) f cdv A outer s H E0).wF (XC (xX CX0 P w K mg base (xZ m) (yD m) (zG st) f cdv A outer s H E0) EE)) (.Call (.Name "_law_call" p) [] [] pos) (λσ1 H1 Q=>σ1[0]?=some (some (.c lf))/\tb σ H1 Q):=λ{p pos}=>
  dw hLam rfl (by rw[hA];exact hdp) hh (by cases m<;>rfl) (.inl l0) λs' H'=>hbody _ s' H'
 have n1:(xZ m)[1]?=some ("_law_e":Str):=by cases m<;>rfl
 have fin:∀(fl:Flow) (s':Shared),SP (xX CX0 P w K mg base (xZ m) (yD m) (zG st) f cdv A outer s H E0) [] {a:=λ_ _=>False,b:=Q} fl s'->CR CX0 outer P w H s Q E0 (.ok (.ret (match fl with|.ret v=>v|_=>.none))) s':=λfl s' hs=>by
  cases fl with
  |ret u=>
   obtain⟨v,σ',H',J,rv,q'⟩:=hs;exact⟨v,H',J.S,J.F,J.B,J.j,rv,q'⟩
  |next=>obtain⟨_,_,_,z⟩:=hs;exact AA z
  |brk=>obtain⟨_,_,_,z⟩:=hs;exact AA z
  |cont=>obtain⟨_,_,_,z⟩:=hs;exact AA z
 have kc:∀(a:Addr) {p p2 pos:Pos},PE ((xX CX0 P w K mg base (xZ m) (yD m) (zG st) f cdv A outer s H E0).loud ((xX CX0 P w K mg base (xZ m) (yD m) (zG st) f cdv A outer s H E0).A.mark (some (.ref a)))).nox (.Call (.Name kx p) [.Name "_law_e" p2] [] pos) (tKC K mg cs ws pre 1):=λa {p p2 pos}=>
  i8 KF (by show A.depth+1<_;exact hdp) g1 S.kd n1 (.inl l1) (by decide) (by decide)
 unfold fD;rw[hbd];cases m with
 |true=>
  rw[if_pos rfl];refine AY (iY (X:=xX CX0 P w K mg base (xZ true) (yD true) (zG st) f cdv A outer s H E0) (D:={a:=λ_ _=>False,b:=Q}) (aB (EE:=EE) (ts:=gx (tKC K mg cs ws pre 1)) (ie:=1) I1 rfl rfl Sc.b l1 n1 rfl rfl g0 (by decide) hu (vN (wV hlam)) ⟨rfl,hq⟩ (λcls H' hc=>?_) λa=>vN (wV (kc a)))) fin λe s' z=>z
  obtain⟨C,c0,i,x,rfl,hx,nm,hi,hw,_,qq⟩:=hE cls H' hc;refine⟨hx,λa oe σ2 hn hcl hl=>⟨a,oe,C,c0,i,x,?_,zL,hcl,nm,hi,hw,λH'' sm=>qq H'' ((xa hn).trans sm)⟩⟩;rw[Av (by rw[hl];exact(by decide:1<2))]
 |false=>
  rw[if_neg Aj];have n2:(xZ false)[2]?=some ("_law_word":Str):=rfl;refine AY (iZ (X:=xX CX0 P w K mg base (xZ false) (yD false) (zG st) f cdv A outer s H E0) (D:={a:=λ_ _=>False,b:=Q}) (t:=gx (tC (.e "told"))) (aB (EE:=EE) (ts:=m9 (uU (tKC K mg cs ws pre 1) (xJ 2)) (gx (tIf (iB (tOp rEq (vT 2) (tC (.e "great")))) (λ_ _ _=>False) (vT 2)))) (ie:=1) I1 rfl rfl Sc.b l1 n1 rfl rfl g0 (by decide) hu (vN (rQ hlam)) ⟨rfl,hq⟩ (λcls H' hc=>?_) λa=>?_) (wV sO)) fin λe s' z=>z
  . obtain⟨C,c0,i,x,rfl,hx,nm,hi,hw,ng,qq⟩:=hE cls H' hc
    refine⟨hx,λa oe σ2 hn hcl hl=>⟨a,oe,C,c0,i,x,?_,zL,hcl,nm,hi,hw,λH'' sm=>?_⟩⟩
    . rw[Av (by rw[hl];exact(by decide:1<3))]
    . have e2:((σ2.set 1 (some (V.c a))).set 2 (some (V.e (ans pre x))))[2]?=some (some (.e (ans pre x))):=by rw[Av (by rw[AL,hl];exact(by decide:2<3))]
      refine⟨_,e2,rfl,_,rfl,?_⟩;have hne:¬(V.e (ans pre x)=V.e "great"):=λz=>ng rfl (V.e.inj z);rw[decide_eq_false hne];exact uR ⟨_,e2,qq H'' ((xa hn).trans sm)⟩
  . have vw:Vis (zG st) "_law_word":=.inl (l2 rfl)
    have pw:∀{X':Cx} {p:Pos},X'.N=xZ false->X'.a.scope=zG st->PE X' (.Name "_law_word" p) (vT 2):=λ{X' p} h1 h2=>wU (by rw[h1];exact n2) (by rw[h2];exact vw) (by decide) (by decide)
    exact zp (wW Sc.b n2 (.inl (l2 rfl)) (kc a) (hf:=.inr (l2 rfl))) (vN (wV (mf (rS Y0 (pw rfl rfl) sO (qT _ (by decide) (by decide))) (λ_ _ _ _ _ _ z=>AA z) (pw rfl rfl))))
end
end L2
end
section
namespace M
open PySem
inductive Val where
 |h|e (b:Bool)|c (i:Int)|g (x:Str)
 |f (vs:List Val)|j (vs:List Val)|o
 |p (ns:List Int)|r (ns:List Int)
 |m (i:Nat)|t (x:Str)|u (n:String)|q (i:Nat)
 /-- the k-th lambda of a list of lambdas,at the address a -/
 |s (a k:Nat)
 deriving Inhabited
inductive Cel where
 |c (vs:List Val)
 |e (kvs:List (Str × Val))
 |f (kvs:List (List Int × Val))
 /-- the table of the codes that lie within the def x -/
 |d (x:Str)
 deriving Inhabited
abbrev Sto:=List Cel
abbrev Env:=List (Option Val)
inductive Out(α:Type) where
 |e (a:α) (s:Sto)
 |g (c:Str) (args:List Val) (s:Sto)
 |d
noncomputable def Out.bind{α β:Type}(o:Out α)(f:α->Sto->Out β):Out β:=
 match o with
 |.e a s=>f a s
 |.g c as s=>.g c as s
 |.d=>.d
@[simp] theorem zN a s(f:α->Sto->Out β):(Out.e a s).bind f=f a s:=rfl
@[simp] theorem vE(f:α->Sto->Out β):(Out.d:Out α).bind f=.d:=rfl
@[simp] theorem rd c as s(f:α->Sto->Out β):(Out.g c as s:Out α).bind f=.g c as s:=rfl
mutual
noncomputable def Val.isD:Val->Bool
 |.h|.e _|.c _=>true
 |.g x=>PyData.strOk x
 |.f vs=>mH vs
 |.j vs=>mH vs
 |.o|.p _|.r _|.m _|.t _|.u _|.q _|.s _ _=>false
noncomputable def mH:List Val->Bool
 |[]=>true
 |v::vs=>v.isD&&mH vs
end
mutual
noncomputable def Val.isR:Val->Bool
 |.h|.e _|.c _|.g _|.o=>true
 |.f vs=>su vs
 |.j vs=>su vs
 |.p _|.r _|.m _|.t _|.u _|.q _|.s _ _=>false
noncomputable def su:List Val->Bool
 |[]=>true
 |v::vs=>v.isR&&su vs
end
mutual
noncomputable def Val.d:Val->PyData
 |.h=>.none
 |.e b=>.bool b
 |.c i=>.int i
 |.g x=>.str x
 |.f vs=>.tuple (ds vs)
 |.j vs=>.list (ds vs)
 |.o=>.dict []
 |.p _|.r _|.m _|.t _|.u _|.q _|.s _ _=>.none
noncomputable def ds:List Val->List PyData
 |[]=>[]
 |v::vs=>v.d::ds vs
end
mutual
noncomputable def Val.noRef:Val->Bool
 |.m _|.q _=>false
 |.f vs=>zo vs
 |.j vs=>zo vs
 |.h|.e _|.c _|.g _|.o|.p _|.r _|.t _|.u _|.s _ _=>true
noncomputable def zo:List Val->Bool
 |[]=>true
 |v::vs=>v.noRef&&zo vs
end
def Cel.noRef:Cel->Bool
 |.c vs=>zo vs
 |.e kvs=>zo (kvs.map (·.2))
 |.f kvs=>zo (kvs.map (·.2))
 |.d _=>true
mutual
noncomputable def Val.beq:Val->Val->Bool
 |.h,.h=>true
 |.e a,.e b=>a == b
 |.c a,.c b=>a == b
 |.g a,.g b=>a == b
 |.f a,.f b=>t8 a b
 |.j a,.j b=>t8 a b
 |.o,.o=>true
 |.p a,.p b=>a == b
 |.r a,.r b=>a == b
 |.m a,.m b=>a == b
 |.t a,.t b=>a == b
 |.u a,.u b=>a == b
 |.q a,.q b=>a == b
 |.s a k,.s b l=>a == b&&k == l
 |_,_=>false
noncomputable def t8:List Val->List Val->Bool
 |[],[]=>true
 |a::as,b::bs=>a.beq b&&t8 as bs
 |_,_=>false
end
def Cel.beq:Cel->Cel->Bool
 |.c a,.c b=>t8 a b
 |.e a,.e b=>decide (a.map (·.1)=b.map (·.1))&&t8 (a.map (·.2)) (b.map (·.2))
 |.f a,.f b=>decide (a.map (·.1)=b.map (·.1))&&t8 (a.map (·.2)) (b.map (·.2))
 |.d a,.d b=>decide (a=b)
 |_,_=>false
def x9:Sto->Sto->Bool
 |[],_=>true
 |o::r,o'::r'=>(o'.noRef||o'.beq o)&&x9 r r'
 |_::_,[]=>false
mutual
noncomputable def vH(n0:Nat)(s:Sto):Nat->Val->Option Val
 |_,.q i=>if i<n0 then some (.q i) else dr
 |_,.m i=>if i<n0 then some (.m i) else match s[i]? with
  |some (.c vs)=>if zo vs then some (.j vs) else dr
  |_=>dr
 |k+1,.f vs=>(tF n0 s k vs).map .f
 |_,v=>if v.noRef then some v else dr
noncomputable def tF(n0:Nat)(s:Sto):Nat->List Val->Option (List Val)
 |_,[]=>some []
 |0,_::_=>dr
 |k+1,v::vs=>match (if v.noRef then some v else vH n0 s k v),tF n0 s k vs with
  |some v',some vs'=>some (v'::vs')
  |_,_=>dr
end
def freeze(n0:Nat)(s:Sto)(v:Val):Option Val:=if v.noRef then some v else vH n0 s 20 v
inductive Bop|a|g|b|e|c|d|h|i|f
 deriving DecidableEq
inductive Cop|a|c|k|b|h|i|j|d|m|g|l|e|f
 deriving DecidableEq
inductive Bf|a|p|q|c|j|g|h|k|l|s|o|i|d|r|b|n|e|m
 deriving DecidableEq
inductive Mf|a|b|c|f|d|e
 deriving DecidableEq
inductive Tgt
 |a (i:Nat)
 |b (is:List Nat)
mutual
inductive Ex
 |g (v:Val)|e (i:Nat)|z (x:Str)|K (x:Str) (n:String)
 |j (m:Bool) (op:Bop) (a b:Ex)|B (a:Ex)|G (a:Ex)
 |q (op:Cop) (a b:Ex)|s (op op':Cop) (a b c:Ex)
 |y (a:Ex) (es:Exs)|I (a:Ex) (es:Exs)|F (c:Cn) (a b:Ex)
 |r (es:Exs)|A (m:Bool) (es:Exs)|C
 |h (f:Str) (ver:Nat) (es:Exs)|k (f:Bf) (m:Bool) (es:Exs)|D (a d:Ex)
 |L (f:Mf) (m:Bool) (o:Ex) (es:Exs)
 |u (a b:Ex)|H (m:Bool) (a:Ex) (lo hi st:OEx)
 |p (m:Bool) (N:List Str) (fr:List (Option Nat)) (elt:Ex) (t:Tgt) (it:Itb) (ifs:Cns)
 |w (m:Bool) (N:List Str) (fr:List (Option Nat)) (elt:Ex) (t:Tgt) (it:Itb) (ifs:Cns) (t2:Tgt) (it2:Itb) (ifs2:Cns)
 |l (m:Bool) (a b c:Ex)
 |E (t:Bool)|J (a b:Ex)
inductive Exs
 |c|a (e:Ex) (es:Exs)
inductive OEx
 |b|a (e:Ex)
inductive Cn
 |a (e:Ex)|b (c:Cn)|d (c:Cn) (cs:Cns)|f (c:Cn) (cs:Cns)
inductive Cns
 |a|b (c:Cn) (cs:Cns)
inductive Itb
 |d (e:Ex)|c (a:Ex)|f (a b:Ex)|g (e:Ex)|h (a b:Ex)
end
mutual
inductive Sm
 |f (e:Ex)|d (e:Ex)|s|g (i:Nat) (e:Ex)|n (is:List Nat) (e:Ex)|p (is:List Nat) (es:Exs)
 |u (i:Nat) (op:Bop) (e:Ex)|l (o i e:Ex)
 |h (c:Cn) (a b:Sms)|k (t:Tgt) (it:Itb) (b:Sms)|m (c:Cn) (b:Sms)
 |r|w|q|j (e:Ex)|v (o i e:Ex)
inductive Sms
 |f|e (s:Sm) (ss:Sms)
 /-- x=[lambda: ..];x.append(lambda: ..) ..;mid;then a row with [_law_said(c) for c in x];k: 0 it is returned,1 it is returned whether it is d,2 if it is not d (or o): b -/
 |g (i:Nat) (L:Exs) (mid:Sms) (k:Nat) (d:Ex) (o:Cns) (b cs:Sms)
end
structure Fn where
 N:List Str
 b:List Str
 c:Bool
 a:Sms
abbrev Calls:=Str->Nat->List Val->Sto->Out Val
noncomputable def zY:Nat:=16777216
noncomputable def newList(m:Bool)(vs:List Val)(s:Sto):Out Val:=if m then .e (.m s.length) (s++[.c vs]) else .e (.j vs) s
noncomputable def xj(s:Sto):Val->Option (List Val)
 |.f vs=>some vs
 |.j vs=>some vs
 |.p ns=>some (ns.map .c)
 |.r ns=>some (ns.map .c)
 |.m i=>match s[i]? with
  |some (.c vs)=>some vs
  |_=>dr
 |_=>dr
noncomputable def yO(s:Sto):Val->Option (List Val)
 |.j vs=>some vs
 |.m i=>match s[i]? with
  |some (.c vs)=>some vs
  |_=>dr
 |_=>dr
def truth(s:Sto):Val->Option Bool
 |.h=>some false
 |.e b=>some b
 |.c i=>some (i != 0)
 |.g x=>if x.length<=zY then some ((x.length:Int) != 0) else dr
 |.f vs=>some !vs.isEmpty
 |.j vs=>some !vs.isEmpty
 |.o=>some false
 |.m i=>match s[i]? with
  |some (.c vs)=>some !vs.isEmpty
  |_=>dr
 |_=>dr
def Out.truth(o:Out Val):Out Bool:=o.bind λv s=>match M.truth s v with
 |some b=>.e b s
 |dr=>.d
noncomputable def yh(s:Sto):Val->Val
 |.m i=>match s[i]? with
  |some (.c vs)=>.j vs
  |_=>.m i
 |v=>v
def zu(s:Sto):Val->Val
 |.f vs=>.f (vs.map (yh s))
 |v=>yh s v
def uk(d:PyData):Bool:=d.showable&&d.leavesShort 40&&decide (d.depth<=50)&&decide (d.weight<=300000)&&(!d.hasDict||!L2.xB d)
noncomputable def flat:Val->Bool
 |.h|.e _|.c _|.g _=>true
 |_=>false
noncomputable def eqF:Val->Val->Bool
 |.h,.h=>true
 |.e a,.e b=>a == b
 |.e a,.c b=>(if a then 1 else 0) == b
 |.c a,.e b=>a == (if b then 1 else 0)
 |.c a,.c b=>a == b
 |.g a,.g b=>a == b
 |_,_=>false
def lS(a b:Val):Option Bool:=if a.isD&&b.isD&&decide (b.d.depth<=60) then some (Ey a.d b.d) else dr
noncomputable def intsOf:List Val->Option (List Int)
 |[]=>some []
 |.c i::vs=>(intsOf vs).map (i::·)
 |_=>dr
noncomputable def Val.isN:Val->Bool
 |.h=>true
 |_=>false
def inD(x:Val)(vs:List Val):Bool:=x.isD&&mH vs&&decide (x.d.depth<=60)
noncomputable def ae{κ:Type} [DecidableEq κ]:List (κ × Val)->κ->Option Val
 |[],_=>dr
 |p::r,k=>if p.1=k then some p.2 else ae r k
def UY{κ:Type} [DecidableEq κ] (kvs:List (κ × Val))(k:κ)(v:Val):List (κ × Val):=
 if (ae kvs k).isSome then kvs.map (λp=>if p.1=k then (p.1,v) else p) else kvs++[(k,v)]
noncomputable def Ym(s:Sto):Val->Option (Nat × Cel)
 |.q i=>(s[i]?).map λc=>(i,c)
 |_=>dr
def Xs:Cel->Val->Option (Option Val)
 |.e kvs,.g k=>some (ae kvs k)
 |.f kvs,.f vs=>(intsOf vs).map λk=>ae kvs k
 |_,_=>dr
def Xu:Cel->Val->Val->Option Cel
 |.e kvs,.g k,v=>if kvs.length<zY then some (.e (UY kvs k v)) else dr
 |.f kvs,.f vs,v=>(intsOf vs).bind λk=>if kvs.length<zY then some (.f (UY kvs k v)) else dr
 |_,_,_=>dr
def getD(d y:Val)(s:Sto):Option (Option Val):=(Ym s d).bind λc=>Xs c.2 y
def ixD(d y:Val)(s:Sto):Out Val:=match getD d y s with
 |some (some v)=>.e v s
 |_=>.d
def putD(d y v:Val)(s:Sto):Option Sto:=(Ym s d).bind λc=>(Xu c.2 y v).map λc'=>s.set c.1 c'
noncomputable def strsOf:List Val->Option (List Str)
 |[]=>some []
 |.g x::vs=>(strsOf vs).map (x::·)
 |_=>dr
def zS(op:Cop)(x y:Val)(s:Sto):Out Val:=
 match op with
 |.a=>match x,y with
  |.g a,.g b=>.e (.e (decide (a=b))) s
  |.f a,.p ns=>match lS (zu s (.f a)) (.f (ns.map .c)) with|some b=>.e (.e b) s|dr=>.d
  |_,_=>match lS (zu s x) (zu s y) with|some b=>.e (.e b) s|dr=>.d
 |.c=>match x,y with
  |.g a,.g b=>.e (.e !(decide (a=b))) s
  |_,_=>match lS (zu s x) (zu s y) with|some b=>.e (.e !b) s|dr=>.d
 |.j=>match y with|.h=>.e (.e x.isN) s|.e b=>(match x with|.e a=>.e (.e (decide (a=b))) s|_=>.d)|_=>.d
 |.d=>match y with|.h=>.e (.e !x.isN) s|.e b=>(match x with|.e a=>.e (.e !(decide (a=b))) s|_=>.d)|_=>.d
 |.m=>match xj s y with
  |some vs=>if flat x&&vs.all flat then .e (.e (vs.any λz=>eqF z x)) s else if inD x vs then .e (.e (vs.any λz=>Ey z.d x.d)) s else .d
  |dr=>.d
 |.g=>match xj s y with
  |some vs=>if flat x&&vs.all flat then .e (.e !(vs.any λz=>eqF z x)) s else if inD x vs then .e (.e !(vs.any λz=>Ey z.d x.d)) s else .d
  |dr=>.d
 |.l=>match getD y x s with|some o=>.e (.e o.isSome) s|dr=>.d
 |.e=>match getD y x s with|some o=>.e (.e !o.isSome) s|dr=>.d
 |.f=>match x with
  |.o=>(match xj s y with
   |some vs=>(match M.intsOf vs with|some _=>.e (.e true) s|dr=>.d)
   |dr=>.d)
  |_=>(match xj s y with
   |some vs=>if flat x&&vs.all flat then .e (.e !(vs.any λz=>eqF z x)) s else if inD x vs then .e (.e !(vs.any λz=>Ey z.d x.d)) s else .d
   |dr=>.d)
 |.k=>match x,y with|.c i,.c j=>.e (.e (decide (i<j))) s|_,_=>.d
 |.b=>match x,y with|.c i,.c j=>.e (.e (decide (i<=j))) s|_,_=>.d
 |.h=>match x,y with|.c i,.c j=>.e (.e (decide (j<i))) s|_,_=>.d
 |.i=>match x,y with|.c i,.c j=>.e (.e (decide (j<=i))) s|_,_=>.d
def binOp(m:Bool)(op:Bop)(x y:Val)(s:Sto):Out Val:=
 match op with
 |.a=>match x,y with
  |.c i,.c j=>.e (.c (i+j)) s
  |.g a,.g b=>if a.length+b.length<=zY then .e (.g (a++b)) s else .d
  |.f a,.f b=>if a.length+b.length<=zY then .e (.f (a++b)) s else .d
  |_,_=>match yO s x,yO s y with
   |some a,some b=>if a.length+b.length<=zY then newList m (a++b) s else .d
   |_,_=>.d
 |.g=>match x,y with|.c i,.c j=>.e (.c (i-j)) s|_,_=>.d
 |.b=>match x,y with
  |.c i,.c j=>if (-(2 ^ 64)<i/\i<2 ^ 64)\/(-(2 ^ 64)<j/\j<2 ^ 64) then .e (.c (i*j)) s else .d
  |.f a,.c k=>if -1000<=k/\k<=1000/\a≠[]/\a.length<=1000 then .e (.f (Al k.toNat a).flatten) s else .d
  |_,.c k=>match yO s x with
   |some a=>if -1000<=k/\k<=1000/\a.length*k.toNat<=zY then newList m (Al k.toNat a).flatten s else .d
   |dr=>.d
  |_,_=>.d
 |.e=>match x,y with|.c i,.c j=>if 0<j/\j<1073741824 then .e (.c (i/j)) s else .d|_,_=>.d
 |.c=>match x,y with|.c i,.c j=>if 0<j then .e (.c (i%j)) s else .d|_,_=>.d
 |.d=>match x,y with|.c i,.c j=>if 0<=j/\j<=1000000/\i.natAbs<2 ^ 64 then .e (.c (i ^ j.toNat)) s else .d|_,_=>.d
 |.h=>match x,y with|.c i,.c j=>if 0<=j/\j<=1000000/\i.natAbs<2 ^ 64 then .e (.c (i*2 ^ j.toNat)) s else .d|_,_=>.d
 |.i=>match x,y with|.c i,.c j=>if 0<=j then .e (.c (i/2 ^ j.toNat)) s else .d|_,_=>.d
 |.f=>match x,y with|.c i,.c j=>.e (.c (Builtin.bitAnd i j)) s|_,_=>.d
noncomputable def kindOf:Val->Option L2.Kd
 |.h=>some .f
 |.e _=>some .i
 |.c _=>some .d
 |.g _=>some .h
 |.f _=>some .b
 |.j _=>some .e
 |.o=>some .g
 |.m _=>some .e
 |_=>dr
noncomputable def vq:String->Option L2.Kd
 |"bool"=>some .i
 |"int"=>some .d
 |"str"=>some .h
 |"list"=>some .e
 |"tuple"=>some .b
 |"dict"=>some .g
 |_=>dr
noncomputable def boolsOf:List Val->Option (List Bool)
 |[]=>some []
 |.e b::vs=>(boolsOf vs).map (b::·)
 |_=>dr
noncomputable def pairsOf:List Val->Option (List (Int × Int))
 |[]=>some []
 |.f [.c a,.c b]::vs=>(pairsOf vs).map ((a,b)::·)
 |_=>dr
noncomputable def prV(z:Int × Int):Val:=.f [.c z.1,.c z.2]
def Uq(z:Int × Int):List (Int × Int)->List (Int × Int)
 |[]=>[z]
 |y::ys=>if L2.Yl z<=L2.Yl y then z::y::ys else y::Uq z ys
def XM:List (Int × Int)->List (Int × Int)
 |[]=>[]
 |z::zs=>Uq z (XM zs)
def nY:List Val->Option (List (List Int))
 |[]=>some []
 |.f a::vs=>match intsOf a,nY vs with
  |some z,some zs=>some (z::zs)
  |_,_=>dr
 |_=>dr
noncomputable def tpV(z:List Int):Val:=.f (z.map .c)
noncomputable def tpS(x:Str)(z:List Int):Val:=.f (.g x::z.map .c)
def XY(x:Str):List Val->Option (List (List Int))
 |[]=>some []
 |.f (.g y::a)::vs=>if y=x then (match intsOf a,XY x vs with
  |some z,some zs=>some (z::zs)
  |_,_=>dr) else dr
 |_=>dr
noncomputable def Yt:List Val->Str
 |.f (.g x::_)::_=>x
 |_=>""
def bc(m:Bool)(vs:List Val)(s:Sto):Out Val:=match nY vs with
 |some zs=>if zs.Nodup/\(zs.length<2\/∀z∈zs,z≠[]) then newList m ((L2.XN zs).map tpV) s else .d
 |dr=>.d
def SN(zs:List (List Int)):Bool:=decide (zs.length<2)||match zs with
 |[]=>true
 |z::_=>decide (0<z.length)&&zs.all (λy=>decide (y.length=z.length))&&(Bj (zs.length-1)).all λi=>!L2.U7 (zs.getD (i+1) []) (zs.getD i [])
def Vp(m:Bool)(vs:List Val)(s:Sto):Out Val:=match nY vs with
 |some zs=>if SN zs then newList m vs s else .d
 |dr=>.d
noncomputable def insI(z:Int):List Int->List Int
 |[]=>[z]
 |y::ys=>if z<=y then z::y::ys else y::insI z ys
def sortI:List Int->List Int
 |[]=>[]
 |z::zs=>insI z (sortI zs)
def blt(f:Bf)(m:Bool)(xs:List Val)(s:Sto):Out Val:=
 match f with
 |.a=>match xs with
  |[.g x]=>if x.length<=zY then .e (.c x.length) s else .d
  |[x]=>match xj s x with|some vs=>.e (.c vs.length) s|dr=>.d
  |_=>.d
 |.p=>match xs with
  |[x]=>match yO s x with|some vs=>(match boolsOf vs with|some bs=>.e (.e (bs.all id)) s|dr=>.d)|dr=>.d
  |_=>.d
 |.q=>match xs with
  |[x]=>match yO s x with|some vs=>(match boolsOf vs with|some bs=>.e (.e (bs.any id)) s|dr=>.d)|dr=>.d
  |_=>.d
 |.c=>match xs with
  |[.f vs]=>.e (.f vs) s
  |[x]=>match yO s x with|some vs=>.e (.f vs) s|dr=>.d
  |_=>.d
 |.j=>match xs with
  |[x]=>match xj s x with|some vs=>newList m vs s|dr=>.d
  |_=>.d
 |.h=>match xs with
  |[x]=>if (zu s x).isR&&uk (zu s x).d then .e (.g (zu s x).d.shown) s else .d
  |_=>.d
 |.k=>match xs with
  |[.c i,.c j]=>.e (.c (if j > i then j else i)) s
  |[.f vs]=>(match M.intsOf vs with|some ns=>if ns≠[] then .e (.c (L2.x8 0 ns)) s else .d|dr=>.d)
  |[x]=>match yO s x with|some vs=>(match M.intsOf vs with|some ns=>if ns≠[] then .e (.c (L2.x8 0 ns)) s else .d|dr=>.d)|dr=>.d
  |_=>.d
 |.l=>match xs with
  |[.c i,.c j]=>.e (.c (if j<i then j else i)) s
  |[.f vs]=>(match M.intsOf vs with|some ns=>if ns≠[] then .e (.c (L2.vx 0 ns)) s else .d|dr=>.d)
  |[x]=>match yO s x with|some vs=>(match M.intsOf vs with|some ns=>if ns≠[] then .e (.c (L2.vx 0 ns)) s else .d|dr=>.d)|dr=>.d
  |_=>.d
 |.o=>match xs with
  |[.c i]=>.e (.c i) s
  |[.e b]=>.e (.c (if b then 1 else 0)) s
  |_=>.d
 |.i=>match xs with
  |[x,.u n]=>match kindOf x,vq n with|some a,some c=>.e (.e (a.sub c)) s|_,_=>.d
  |_=>.d
 |.d=>match xs with
  |[.c i,.c j]=>if 0<j/\j<1073741824 then .e (.f [.c (i/j),.c (i%j)]) s else .d
  |_=>.d
 |.r=>match xs with
  |[.c i]=>if i.natAbs.log2<1920 then .e (.g (Gn i)) s else .d
  |_=>.d
 |.s=>match xs with
  |[x]=>match yO s x with|some vs=>(match M.intsOf vs with|some ns=>if L2.Sb ns then .e (.c ns.sum) s else .d|dr=>.d)|dr=>.d
  |_=>.d
 |.g=>match xs with
  |[x]=>match yO s x with
   |some vs=>(match pairsOf vs with
    |some zs=>if zs.Nodup/\∀z∈zs,0<=z.2/\z.2<1000 then newList m ((XM zs).map prV) s else bc m vs s
    |dr=>bc m vs s)
   |dr=>.d
  |_=>.d
 |.n=>match xs with
  |[x]=>match yO s x with|some vs=>(match nY vs with|some zs=>if zs≠[] then .e (tpV (L2.TJ zs)) s else .d|dr=>.d)|dr=>.d
  |_=>.d
 |.m=>match xs with
  |[x]=>match yO s x with|some vs=>(match XY (Yt vs) vs with|some zs=>if zs≠[] then .e (tpS (Yt vs) (L2.TJ zs)) s else .d|dr=>.d)|dr=>.d
  |_=>.d
 |.e=>match xs with
  |[x]=>match yO s x with|some vs=>Vp m vs s|dr=>.d
  |_=>.d
 |.b=>match xs with
  |[x]=>match xj s x with|some vs=>(match M.intsOf vs with|some ns=>if ns.length<64 then newList m ((sortI ns).map .c) s else .d|dr=>.d)|dr=>.d
  |_=>.d
def mxD(x y:Val)(s:Sto):Out Val:=match y with
 |.c k=>(match yO s x with|some vs=>(match M.intsOf vs with|some ns=>.e (.c (L2.x8 k ns)) s|dr=>.d)|dr=>.d)
 |_=>.d
noncomputable def upd(s:Sto)(i:Nat)(vs:List Val):Sto:=s.set i (.c vs)
def xm(f:Mf)(o:Val)(xs:List Val)(s:Sto):Out Val:=
 match f with
 |.a=>match o,xs with
  |.f vs,[y]=>if flat y&&vs.all flat then .e (.c (vs.countP λz=>eqF z y:Nat)) s else .d
  |_,[y]=>match yO s o with|some vs=>if flat y&&vs.all flat then .e (.c (vs.countP λz=>eqF z y:Nat)) s else .d|dr=>.d
  |_,_=>.d
 |.b=>match o,xs with
  |.m i,[y]=>match s[i]? with|some (.c vs)=>if vs.length<zY then .e .h (upd s i (vs++[y])) else .d|_=>.d
  |_,_=>.d
 |.c=>match o,xs with
  |.m i,[y]=>match s[i]?,yO s y with|some (.c vs),some ws=>if vs.length+ws.length<=zY then .e .h (upd s i (vs++ws)) else .d|_,_=>.d
  |_,_=>.d
 |.f=>match o,xs with
  |.m i,[.c k]=>(match s[i]? with
   |some (.c vs)=>if -(2 ^ 63)<=k/\k<2 ^ 63 then (match seqIndex? k vs.length with
    |some j=>(match vs[j]? with|some y=>.e y (upd s i (vs.eraseIdx j))|dr=>.d)
    |dr=>.d) else .d
   |_=>.d)
  |_,_=>.d
 |.d=>match o,xs with
  |.f vs,[y]=>if flat y&&vs.all flat then (match vs.findIdx? λz=>eqF z y with|some j=>.e (.c (j:Nat)) s|dr=>.d) else .d
  |_,_=>.d
 |.e=>match o,xs with
  |.g z,[y]=>(match yO s y with
   |some vs=>(match strsOf vs with|some ys=>if (ys.map (·.length)).sum+ys.length*z.length<=16777216 then .e (.g (L2.U2 z ys)) s else .d|dr=>.d)
   |dr=>.d)
  |_,_=>.d
def vp(a b:Val)(s:Sto):Out Val:=
 match b with
 |.c i=>match xj s a with|some vs=>(match L2.atI vs i with|some v=>.e v s|dr=>.d)|dr=>.d
 |_=>.d
def eC{α:Type}(xs:List α)(lo hi:Option Int):List α:=(xs.drop (HT.sIx xs.length 0 lo)).take (HT.sIx xs.length xs.length hi-HT.sIx xs.length 0 lo)
def rA(m:Bool)(a:Val)(lo hi st:Option Int)(s:Sto):Out Val:=
 match a,st with
 |.f vs,dr=>.e (.f (eC vs lo hi)) s
 |.f vs,some c=>if c≠0/\(L2.yl vs.length lo hi c).2<=zY then .e (.f (L2.yC vs (L2.yl vs.length lo hi c).1 c (L2.yl vs.length lo hi c).2)) s else .d
 |_,dr=>match yO s a with|some vs=>newList m (eC vs lo hi) s|dr=>.d
 |_,some c=>match yO s a with|some vs=>if c≠0 then newList m (L2.yC vs (L2.vk vs.length lo hi c).1 c (L2.vk vs.length lo hi c).2) s else .d|dr=>.d
def TC(m:Bool)(x y z:Val)(s:Sto):Out Val:=match x,y,z with
 |.c i,.c j,.c k=>if -(2 ^ 30)<=i/\i<=2 ^ 30∧-(2 ^ 30)<=j/\j<=2 ^ 30/\0<k/\k<=2 ^ 29/\Cb i j k<=1000 then newList m ((L2.kO i j k).map .c) s else .d
 |.h,y,.g _=>(match xj s y with|some vs=>(match M.intsOf vs with|some ns=>if ns.length<=1000 then .e (.c (L2.dN ns:Nat)) s else .d|dr=>.d)|dr=>.d)
 |.c i,.c j,.e _=>if -(2 ^ 30)<=i/\i<=2 ^ 30∧-(2 ^ 30)<=j/\j<=2 ^ 30/\Cb i j 1<=1000 then newList m ((L2.kO i j 1).map .c) s else .d
 |.c i,.c j,.h=>if -(2 ^ 30)<=i/\i<=2 ^ 30∧-(2 ^ 30)<=j/\j<=2 ^ 30/\Cb i j 1<=1000 then .e (.f ((L2.kO i j 1).map .c)) s else .d
 |_,_,_=>.d
noncomputable def yU(t:Tgt)(v:Val)(env:Env):Option Env:=
 match t with
 |.a i=>some (env.set i (some v))
 |.b is=>match v with
  |.f vs=>if vs.length=is.length then some ((is.zip vs).foldl (λe p=>e.set p.1 (some p.2)) env) else dr
  |_=>dr
structure Src where
 a:List Val
 b:Option Nat
def Src.ok(r:Src)(s:Sto):Bool:=match r.b with
 |dr=>true
 |some i=>match s[i]? with
  |some (.c vs)=>t8 vs r.a
  |_=>false
noncomputable def Sw:List Val->List Val->List Val
 |v::vs,w::ws=>.f [v,w]::Sw vs ws
 |_,_=>[]
noncomputable def xh(n:Nat):List Val->List Val
 |[]=>[]
 |v::vs=>.f [.c n,v]::xh (n+1) vs
noncomputable def srcOf(s:Sto):Val->Option Src
 |.f vs=>some ⟨vs,dr⟩
 |.j vs=>some ⟨vs,dr⟩
 |.p ns=>some ⟨ns.map .c,dr⟩
 |.m i=>match s[i]? with
  |some (.c vs)=>some ⟨vs,some i⟩
  |_=>dr
 |_=>dr
noncomputable def xn(lo:Int)(n:Nat):List Val:=(Bj n).map λ(k:Nat)=>Val.c (lo+k)
def yV(r:Src)(t:Tgt)(body:Env->Sto->List Val->Out (List Val × Env)):List Val->Env->Sto->List Val->Out (List Val × Env)
 |[],env,s,acc=>if r.ok s then .e (acc,env) s else .d
 |x::xs,env,s,acc=>if r.ok s then match yU t x env with
    |dr=>.d
    |some env'=>(body env' s acc).bind λp s'=>yV r t body xs p.2 s' p.1
  else .d
noncomputable def zd(fr:List (Option Nat))(env:Env):Env:=fr.map λo=>match o with|some j=>(env[j]?).join|dr=>dr
inductive Fl
 |a (env:Env)|c (env:Env)|d (env:Env)|b (v:Val)
def yx(r:Src)(t:Tgt)(body:Env->Sto->Out Fl):List Val->Env->Sto->Out Fl
 |[],env,s=>if r.ok s then .e (.a env) s else .d
 |x::xs,env,s=>if r.ok s then match yU t x env with
    |dr=>.d
    |some env'=>(body env' s).bind λfl s'=>match fl with
     |.a e=>yx r t body xs e s'
     |.d e=>yx r t body xs e s'
     |.c e=>.e (.a e) s'
     |.b v=>.e (.b v) s'
  else .d
def tJ(c:Env->Sto->Out Bool)(body:Env->Sto->Out Fl):Nat->Env->Sto->Out Fl
 |0,_,_=>.d
 |n+1,env,s=>(c env s).bind λb s1=>if b then (body env s1).bind λfl s2=>match fl with
    |.a e=>tJ c body n e s2
    |.d e=>tJ c body n e s2
    |.c e=>.e (.a e) s2
    |.b v=>.e (.b v) s2
  else .e (.a env) s1
noncomputable def Yi:Nat:=100000
noncomputable def wC:Sto->List Str
 |.d x::r=>x::wC r
 |_=>[]
section
variable (Φ:Calls)(G:Str->Option Val)
mutual
noncomputable def evE(env:Env):Ex->Sto->Out Val
 |.g v,s=>.e v s
 |.e i,s=>match env[i]? with|some (some v)=>.e v s|_=>.d
 |.z x,s=>match G x with|some v=>.e v s|dr=>.d
 |.K _ n,s=>.e (.u n) s
 |.j m op a b,s=>(evE env a s).bind λx s1=>(evE env b s1).bind λy s2=>binOp m op x y s2
 |.B a,s=>(evE env a s).bind λx s1=>match x with|.c i=>.e (.c (-i)) s1|_=>.d
 |.G a,s=>(evE env a s).bind λx s1=>match x with|.e b=>.e (.e !b) s1|_=>.d
 |.q op a b,s=>(evE env a s).bind λx s1=>(evE env b s1).bind λy s2=>zS op x y s2
 |.s op op' a b c,s=>(evE env a s).bind λx s1=>(evE env b s1).bind λy s2=>(zS op x y s2).bind λr s3=>match r with
  |.e true=>(evE env c s3).bind λz s4=>zS op' y z s4
  |.e false=>.e (.e false) s3
  |_=>.d
 |.y a es,s=>match es with
  |.c=>evE env a s
  |.a _ _=>(evE env a s).bind λx s1=>match x with
   |.e true=>sZ env es s1
   |.e false=>.e (.e false) s1
   |_=>.d
 |.I a es,s=>match es with
  |.c=>evE env a s
  |.a _ _=>(evE env a s).bind λx s1=>match truth s1 x with
   |some false=>mD env es s1
   |some true=>.e x s1
   |dr=>.d
 |.F c a b,s=>(evT env c s).bind λt s1=>if t then evE env a s1 else evE env b s1
 |.r es,s=>(zV env es s).bind λvs s1=>if vs.length<=zY then .e (.f vs) s1 else .d
 |.A m es,s=>(zV env es s).bind λvs s1=>if vs.length<=zY then newList m vs s1 else .d
 |.C,s=>.e .o s
 |.h f ver es,s=>(zV env es s).bind λvs s1=>Φ f ver vs s1
 |.k f m es,s=>(zV env es s).bind λvs s1=>blt f m vs s1
 |.D a d,s=>(evE env a s).bind λx s1=>(evE env d s1).bind λy s2=>mxD x y s2
 |.L f _ o es,s=>(evE env o s).bind λx s1=>(zV env es s1).bind λvs s2=>xm f x vs s2
 |.u a b,s=>(evE env a s).bind λx s1=>(evE env b s1).bind λy s2=>vp x y s2
 |.H m a lo hi st,s=>(evE env a s).bind λx s1=>(evO env lo s1).bind λl s2=>(evO env hi s2).bind λh s3=>(evO env st s3).bind λc s4=>rA m x l h c s4
 |.p m _ fr elt t it ifs,s=>(yS env it s).bind λr s1=>
  (yV r t (λe s' acc=>(xk e ifs s').bind λb s2=>if b then (evE e elt s2).bind λv s3=>.e (acc++[v],e) s3 else .e (acc,e) s2) r.a (zd fr env) s1 []).bind λp s2=>newList m p.1 s2
 |.w m _ fr elt t it ifs t2 it2 ifs2,s=>(yS env it s).bind λr s1=>
  (yV r t (λe s' acc=>(xk e ifs s').bind λb s2=>if b then (yS e it2 s2).bind λr2 s3=>
      yV r2 t2 (λe' s4 acc'=>(xk e' ifs2 s4).bind λb' s5=>if b' then (evE e' elt s5).bind λv s6=>.e (acc'++[v],e') s6 else .e (acc',e') s5) r2.a e s3 acc
   else .e (acc,e) s2) r.a (zd fr env) s1 []).bind λp s2=>if p.1.length<=zY then newList m p.1 s2 else .d
 |.E t,s=>.e (.q s.length) (s++[if t then .f [] else .e []])
 |.J a b,s=>(evE env a s).bind λx s1=>(evE env b s1).bind λy s2=>ixD x y s2
 |.l m a b c,s=>(evE env a s).bind λx s1=>(evE env b s1).bind λy s2=>(evE env c s2).bind λz s3=>TC m x y z s3
noncomputable def sZ(env:Env):Exs->Sto->Out Val
 |.c,_=>.d
 |.a a es,s=>match es with
  |.c=>evE env a s
  |.a _ _=>(evE env a s).bind λx s1=>match x with
   |.e true=>sZ env es s1
   |.e false=>.e (.e false) s1
   |_=>.d
noncomputable def mD(env:Env):Exs->Sto->Out Val
 |.c,_=>.d
 |.a a es,s=>match es with
  |.c=>evE env a s
  |.a _ _=>(evE env a s).bind λx s1=>match truth s1 x with
   |some false=>mD env es s1
   |some true=>.e x s1
   |dr=>.d
noncomputable def zV(env:Env):Exs->Sto->Out (List Val)
 |.c,s=>.e [] s
 |.a e es,s=>(evE env e s).bind λv s1=>(zV env es s1).bind λvs s2=>.e (v::vs) s2
noncomputable def evO(env:Env):OEx->Sto->Out (Option Int)
 |.b,s=>.e dr s
 |.a e,s=>(evE env e s).bind λv s1=>match v with|.c i=>.e (some i) s1|_=>.d
/-- a test -/
noncomputable def evT(env:Env):Cn->Sto->Out Bool
 |.a e,s=>(evE env e s).truth
 |.b a,s=>(evT env a s).bind λb s1=>.e (!b) s1
 |.d a es,s=>(evT env a s).bind λb s1=>if b then xk env es s1 else .e false s1
 |.f a es,s=>(evT env a s).bind λb s1=>if b then .e true s1 else vG env es s1
noncomputable def xk(env:Env):Cns->Sto->Out Bool
 |.a,s=>.e true s
 |.b a es,s=>(evT env a s).bind λb s1=>if b then xk env es s1 else .e false s1
noncomputable def vG(env:Env):Cns->Sto->Out Bool
 |.a,s=>.e false s
 |.b a es,s=>(evT env a s).bind λb s1=>if b then .e true s1 else vG env es s1
noncomputable def yS(env:Env):Itb->Sto->Out Src
 |.d e,s=>(evE env e s).bind λv s1=>match srcOf s1 v with|some r=>.e r s1|dr=>.d
 |.c a,s=>(evE env a s).bind λx s1=>match x with
  |.c j=>if -(2 ^ 62)<=j/\j<=zY then .e ⟨xn 0 j.toNat,dr⟩ s1 else .d
  |_=>.d
 |.f a b,s=>(evE env a s).bind λx s1=>(evE env b s1).bind λy s2=>match x,y with
  |.c i,.c j=>if -(2 ^ 62)<=i/\i<2 ^ 62∧-(2 ^ 62)<=j/\j<2 ^ 62/\j-i<=zY then .e ⟨xn i (j-i).toNat,dr⟩ s2 else .d
  |_,_=>.d
 |.g e,s=>(evE env e s).bind λv s1=>match v with
  |.f vs=>.e ⟨xh 0 vs,dr⟩ s1
  |.j vs=>.e ⟨xh 0 vs,dr⟩ s1
  |_=>.d
 |.h a b,s=>(evE env a s).bind λx s1=>(evE env b s1).bind λy s2=>match x,y with
  |.f vs,.f ws=>if ws.length<=vs.length then .e ⟨Sw vs ws,dr⟩ s2 else .d
  |_,_=>.d
end
mutual
noncomputable def exS(env:Env):Sm->Sto->Out Fl
 |.f e,s=>(evE Φ G env e s).bind λ_ s1=>.e (.a env) s1
 |.d e,s=>(evE Φ G env e s).bind λv s1=>.e (.b v) s1
 |.s,s=>.e (.b .h) s
 |.g i e,s=>(evE Φ G env e s).bind λv s1=>.e (.a (env.set i (some v))) s1
 |.n is e,s=>(evE Φ G env e s).bind λv s1=>match yU (.b is) v env with|some env'=>.e (.a env') s1|dr=>.d
 |.p is es,s=>(zV Φ G env es s).bind λvs s1=>if vs.length=is.length then .e (.a ((is.zip vs).foldl (λe p=>e.set p.1 (some p.2)) env)) s1 else .d
 |.u i op e,s=>match env[i]? with
  |some (some (.c x))=>(evE Φ G env e s).bind λv s1=>match v with
   |.c y=>(binOp false op (.c x) (.c y) s1).bind λz s2=>.e (.a (env.set i (some z))) s2
   |_=>.d
  |some (some (.f x))=>if op=.a then (evE Φ G env e s).bind λv s1=>match v with
   |.f y=>(binOp false .a (.f x) (.f y) s1).bind λz s2=>.e (.a (env.set i (some z))) s2
   |_=>.d
   else .d
  |_=>.d
 |.l o i e,s=>(evE Φ G env e s).bind λv s1=>(evE Φ G env o s1).bind λx s2=>(evE Φ G env i s2).bind λy s3=>match x,y with
  |.m r,.c k=>(match s3[r]? with
   |some (.c vs)=>(match L2.ixN vs.length k with|some j=>.e (.a env) (upd s3 r (vs.set j v))|dr=>.d)
   |_=>.d)
  |_,_=>.d
 |.h c a b,s=>(evT Φ G env c s).bind λt s1=>if t then zW env a s1 else zW env b s1
 |.k t it b,s=>(yS Φ G env it s).bind λr s1=>yx r t (λe s'=>zW e b s') r.a env s1
 |.m c b,s=>tJ (λe s'=>evT Φ G e c s') (λe s'=>zW e b s') Yi env s
 |.r,s=>.e (.a env) s
 |.w,s=>.e (.c env) s
 |.q,s=>.e (.d env) s
 |.j _,_=>.d
 |.v o i e,s=>(evE Φ G env e s).bind λv s1=>(evE Φ G env o s1).bind λx s2=>(evE Φ G env i s2).bind λy s3=>match putD x y v s3 with|some s4=>.e (.a env) s4|dr=>.d
noncomputable def zW(env:Env):Sms->Sto->Out Fl
 |.f,s=>.e (.a env) s
 |.e c cs,s=>(exS env c s).bind λfl s1=>match fl with
  |.a e=>zW e cs s1
  |fl=>.e fl s1
 |.g i L mid k d o b cs,s=>(zW (env.set i dr) mid s).bind λfl s0=>match fl with
  |.a e0=>if wC s=wC s0 then (zV Φ G e0 L s0).bind λvs s1=>if k=0 then .e (.b (.j vs)) s1 else
   if k=1 then (evE Φ G e0 d s1).bind λy s2=>(zS .a (.j vs) y s2).bind λr s3=>.e (.b r) s3
   else ((evE Φ G e0 d s1).bind λy s2=>((zS .c (.j vs) y s2).truth).bind λr s3=>if r then .e true s3 else vG Φ G e0 o s3).bind λr s3=>
    (if r then zW e0 b s3 else .e (.a e0) s3).bind λfl s4=>match fl with
   |.a e=>zW e cs s4
   |fl=>.e fl s4
   else .d
  |_=>.d
end
end
abbrev sq:=Option (Str × List Val × Sto)
abbrev yp:=Str->Nat->List Val->Sto->sq
noncomputable def pS:List Val->Bool
 |[.g _]=>true
 |[.c i,.c j]=>decide (i.natAbs<2 ^ 64)&&decide (j.natAbs<2 ^ 64)
 |_=>false
section
variable (W:Str->Bool)(Φ:Calls)(Ψ:yp)(G:Str->Option Val)
mutual
noncomputable def xE(env:Env):Ex->Sto->sq
 |.h f v es,s=>match zV Φ G env es s with
  |.e vs s1=>Ψ f v vs s1
  |_=>dr
 |.q _ a _,s=>xE env a s
 |.j _ _ a _,s=>xE env a s
 |.k _ _ es,s=>xL env es s
 |.p _ _ _ _ _ it _,s=>xI env it s
 |_,_=>dr
/-- one argument that raises -/
noncomputable def xL(env:Env):Exs->Sto->sq
 |.a a es,s=>match es with
  |.c=>xE env a s
  |.a _ _=>dr
 |.c,_=>dr
/-- what is walked raises -/
noncomputable def xI(env:Env):Itb->Sto->sq
 |.d a,s=>xE env a s
 |_,_=>dr
end
def xT(env:Env):Cn->Sto->sq
 |.a e,s=>match e with
  |.h f v es=>xE Φ Ψ G env (.h f v es) s
  |_=>dr
 |.b c,s=>xT env c s
 |_,_=>dr
mutual
noncomputable def xS(env:Env):Sm->Sto->sq
 |.f e,s=>xE Φ Ψ G env e s
 |.d e,s=>xE Φ Ψ G env e s
 |.g _ e,s=>xE Φ Ψ G env e s
 |.h c a b,s=>match evT Φ G env c s with
  |.e t s1=>if t then xSs env a s1 else xSs env b s1
  |_=>xT Φ Ψ G env c s
 |.j e,s=>match e with
  |.h c _ es=>(match zV Φ G env es s with
   |.e vs s1=>if pS vs&&W c then some (c,vs,s1) else dr
   |_=>dr)
  |_=>dr
 |_,_=>dr
noncomputable def xSs(env:Env):Sms->Sto->sq
 |.f,_=>dr
 |.e c cs,s=>match exS Φ G env c s with
  |.e fl s1=>(match fl with
   |.a e=>xSs e cs s1
   |_=>dr)
  |_=>xS env c s
 |.g _ _ _ _ _ _ _ _,_=>dr
end
end
noncomputable def za(N:List Str)(vs:List Val):Env:=vs.map some++Al (N.length-vs.length) dr
def leave(F:Fn)(s0:Sto)(v:Val)(s:Sto):Out Val:=
 if F.c then .e v s
 else if x9 s0 s then (match freeze s0.length s v with|some v'=>.e v' (s.take s0.length)|dr=>.d) else .d
structure Tbl where
 d:Str->Nat->Option Fn
 b:Str->Option Val
 /-- the defs whose tables the store holds,from its start -/
 e:List Str:=[]
 /-- the classes of exceptions,and what the law's def says of each -/
 f:List (Str × Str):=[]
 /-- which of the law's two defs that try a call is there -/
 c:Bool->Bool:=λ_=>false
noncomputable def zh:List Str->Sto->Bool
 |[],_=>true
 |x::r,.d y::s=>decide (x=y)&&zh r s
 |_::_,_=>false
noncomputable def uY(T:Tbl)(m:Bool)(o:Out Val)(x:sq):Out Val:=match o with
 |.e v s=>.e (if m then v else .g "told") s
 |_=>match x with
  |some (c,_,s)=>(match T.f.lookup c with
   |some w=>.e (.g w) s
   |dr=>.d)
  |dr=>.d
def run(T:Tbl)(Φ:Calls)(F:Fn)(vs:List Val)(s:Sto):Out Val:=
 if vs.length=F.b.length then (zW Φ T.b (za F.N vs) F.a s).bind λfl s1=>match fl with
  |.a _=>leave F s .h s1
  |.b v=>leave F s v s1
  |_=>.d
 else .d
noncomputable def pN:List Val->Option Str
 |.t g::_=>some g
 |_=>dr
mutual
noncomputable def zB(T:Tbl):Nat->Calls
 |0=>λ_ _ _ _=>.d
 |n+1=>λf ver vs s=>match T.d f ver with|some F=>run T (zB T n) F vs s|dr=>if ((decide (ver=100)&&T.c false)||(decide (ver=101)&&T.c true))&&zh T.e s then uY T (decide (ver=101)) (zB T n f 0 vs s) (zZ T n f 0 vs s) else (match pN vs with|some g=>if decide (ver=200) then (match T.d g 0 with|some F=>run T (zB T n) F vs.tail s|dr=>.d) else if ((decide (ver=300)&&T.c false)||(decide (ver=301)&&T.c true))&&zh T.e s then uY T (decide (ver=301)) (zB T n g 0 vs.tail s) (zZ T n g 0 vs.tail s) else .d|dr=>.d)
noncomputable def zZ(T:Tbl):Nat->yp
 |0=>λ_ _ _ _=>dr
 |n+1=>λf ver vs s=>match T.d f ver with
  |some F=>if vs.length=F.b.length then xSs (λc=>(T.f.lookup c).isSome) (zB T n) (zZ T n) T.b (za F.N vs) F.a s else dr
  |dr=>dr
end
end M
end
section
namespace M
open PySem
abbrev KF:=Ag
structure Own where
 o:List Addr
 h:List Addr
def Own.no(ρ:Own)(a:Addr):Prop:=a ∉ ρ.o/\a ∉ ρ.h
def KT(K:KF)(a:Addr)(xs:List L2.V):Prop:=∃(o:Obj) (its:Array Value) (n:Nat),K.lookup a=some o/\o.cls=.type "tuple"/\o.data=.seq its n/\its.size<=Au/\L2.Vals xs its.toList
def SC(K:KF)(ρ:Own)(H:L2.Hp)(a:Addr)(xs:List L2.V):Prop:=(ρ.no a/\L2.Rd H a (.b xs)) \/
 ∃(o:Obj) (its:Array Value) (n:Nat),K.lookup a=some o/\o.cls=.type "list"/\o.dict=none/\o.data=.seq its n/\its.size<=Au/\L2.Vals xs its.toList
noncomputable def hk:Option L2.HO->Nat
 |some (.b _)=>1
 |some (.i _)=>2
 |some (.k _)=>3
 |some (.g _)=>4
 |_=>0
mutual
inductive RD(K:KF)(mg:Str->Option Value)(ρ:Own)(H:L2.Hp):Val->L2.V->Prop
 |A:RD K mg ρ H .h .g
 |j (b:Bool):RD K mg ρ H (.e b) (.f b)
 |l (i:Int):RD K mg ρ H (.c i) (.d i)
 |D (x:Str):RD K mg ρ H (.g x) (.e x)
 |m {a:Addr} {vs:List Val} {xs:List L2.V}:ρ.no a->H a=some (.c xs)->RDs K mg ρ H vs xs->RD K mg ρ H (.f vs) (.c a)
 |E {a:Addr} {vs:List Val} {xs:List L2.V}:ρ.no a->H a=some (.b xs)->RDs K mg ρ H vs xs->RD K mg ρ H (.j vs) (.c a)
 |B {a:Addr}:ρ.no a->H a=some (.i [])->RD K mg ρ H .o (.c a)
 |p {a:Addr} {ns:List Int}:KT K a (ns.map L2.V.d)->RD K mg ρ H (.p ns) (.c a)
 |G {a:Addr} {ns:List Int}:SC K ρ H a (ns.map L2.V.d)->RD K mg ρ H (.r ns) (.c a)
 |C {a:Addr} {i:Nat}:ρ.o[i]?=some a->hk (H a)=1->RD K mg ρ H (.m i) (.c a)
 |s {a:Addr} {i:Nat}:ρ.o[i]?=some a->1<hk (H a)->RD K mg ρ H (.q i) (.c a)
 |I {x:Str} {f:Addr}:mg x=some (.ref f)->RD K mg ρ H (.t x) (.c f)
 |J (n:String):RD K mg ρ H (.u n) (.k n)
 |F (a k:Nat):RD K mg ρ H (.s a k) (.c a)
inductive RDs(K:KF)(mg:Str->Option Value)(ρ:Own)(H:L2.Hp):List Val->List L2.V->Prop
 |d:RDs K mg ρ H [] []
 |a {v:Val} {x:L2.V} {vs:List Val} {xs:List L2.V}:RD K mg ρ H v x->RDs K mg ρ H vs xs->RDs K mg ρ H (v::vs) (x::xs)
end
noncomputable def dq(x:Str):Str:=(x++(".<locals>.":Str))++("<lambda>":Str)
def UP(K:KF)(mg:Str->Option Value)(ρ:Own)(H:L2.Hp)(P:Addr)(x:Str):Prop:=∃ps,H P=some (.g ps)/\DE ps.toList /\
 (∀(pos:Pos) (cv:Value),DC pos ps.toList=some cv->∃(c:Addr) (o:Obj) (vs:Array Value) (t:Tok),cv=.ref c/\ρ.no c/\H c=some (.d o (.e 0))/\o.data=.fields vs/\vs[1]?=some (.str (dq x) t)) /\
 ∃(fa c:Addr) (o:Obj) (fd:BM),mg x=some (.ref fa)/\K.lookup fa=some o/\o.data=.func fd/\fd.code=.ref c/\∀h:Heap,K.In h->PySem.W.CodeHd h c P
def CR(K:KF)(mg:Str->Option Value)(ρ:Own)(H:L2.Hp)(a:Addr):Cel->Prop
 |.c vs=>∃xs,H a=some (.b xs)/\RDs K mg ρ H vs xs
 |.e kvs=>∃kxs,H a=some (.i kxs)/\kxs.map (·.1)=kvs.map (λp=>Eb p.1)/\RDs K mg ρ H (kvs.map (·.2)) (kxs.map (·.2))
 |.f kvs=>∃kxs,H a=some (.k kxs)/\kxs.map (·.1)=kvs.map (λp=>p.1.map Ea)/\RDs K mg ρ H (kvs.map (·.2)) (kxs.map (·.2))
 |.d x=>UP K mg ρ H a x
structure HR(K:KF)(mg:Str->Option Value)(ρ:Own)(s:Sto)(H:L2.Hp):Prop where
 f:ρ.o.length=s.length
 v:ρ.o.Nodup
 m:∀(i:Nat) (c:Cel),s[i]?=some c->∃a:Addr,ρ.o[i]?=some a/\CR K mg ρ H a c
 d:∀a∈ρ.h,(∃xs,H a=some (.b xs))/\a ∉ ρ.o
structure Ext(ρ:Own)(H:L2.Hp)(ρ':Own)(H':L2.Hp):Prop where
 d:∃new:List Addr,ρ'.o=ρ.o++new/\∀a∈new,H a=none
 f:ρ'.h=ρ.h
 c:∀(a:Addr) (o:L2.HO),H a=some o->a ∉ ρ.o->H' a=some o
 g:∀a∈ρ.o,hk (H' a)=hk (H a)
structure ER(K:KF)(mg:Str->Option Value)(ρ:Own)(H:L2.Hp)(env:Env)(σ:L2.St):Prop where
 b:env.length=σ.length
 a:∀(i:Nat) (v:Val),env[i]?=some (some v)->∃x:L2.V,σ[i]?=some (some x)/\RD K mg ρ H v x
section
variable {K:KF}{mg:Str->Option Value}{ρ ρ' ρ'':Own}{H H' H'':L2.Hp}{s s':Sto}
theorem HR.obj(h:HR K mg ρ s H)(i:Nat)vs(e:s[i]?=some (Cel.c vs)):∃(a:Addr) (xs:List L2.V),ρ.o[i]?=some a/\H a=some (.b xs)/\RDs K mg ρ H vs xs:=by obtain⟨a,e1,xs,e2,r⟩:=h.m i _ e;exact⟨a,xs,e1,e2,r⟩
theorem CR.there(h:CR K mg ρ H a c):∃o,H a=some o:=by
 cases c with
 |c vs=>obtain⟨xs,e,_⟩:=h;exact⟨_,e⟩
 |e kvs=>obtain⟨xs,e,_⟩:=h;exact⟨_,e⟩
 |f kvs=>obtain⟨xs,e,_⟩:=h;exact⟨_,e⟩
 |d x=>obtain⟨ps,e,_⟩:=h;exact⟨_,e⟩
theorem CR.hk{a:Addr}{c:Cel}(h:CR K mg ρ H a c):0<hk (H a):=by
 cases c with
 |c vs=>obtain⟨xs,e,_⟩:=h;rw[e];exact Ce 0
 |e kvs=>obtain⟨xs,e,_⟩:=h;rw[e];exact Eh rfl
 |f kvs=>obtain⟨xs,e,_⟩:=h;rw[e];exact Eh rfl
 |d x=>obtain⟨ps,e,_⟩:=h;rw[e];exact Eh rfl
theorem HR.trk(h:HR K mg ρ s H)(ha:a∈ρ.o):∃o,H a=some o:=by
 obtain⟨i,hi,e⟩:=Bp ha;have hs:i<s.length:=by rw[<-h.f];exact hi
 obtain⟨b,e1,e2⟩:=h.m i _ (Ad hs);rw[Ad hi,e]at e1;cases e1;exact e2.there
theorem ek(h:hk (H a)=1):∃xs,H a=some (.b xs):=by
 cases e:H a with
 |none=>rw[e]at h;cases h
 |some o=>
  rw[e]at h;cases o with
  |b xs=>exact⟨xs,rfl⟩
  |_=>cases h
theorem HR.new(h:HR K mg ρ s H)(hp:H p=none):ρ.no p:=by
 refine⟨λhm=>?_,λhm=>?_⟩
 . obtain⟨xs,e⟩:=h.trk hm
   rw[hp]at e;cases e
 . obtain⟨⟨xs,e⟩,_⟩:=h.d p hm
   rw[hp]at e;cases e
theorem Ext.refl:Ext ρ H ρ H:=⟨⟨[],by simp,λa ha=>by cases ha⟩,rfl,λa o e _=>e,λ_ _=>rfl⟩
theorem Ext.TL(x:Ext ρ H ρ' H')(e:H a=some o)(n:ρ.no a):ρ'.no a:=by
 obtain⟨new,e1,hn⟩:=x.d;refine⟨?_,by rw[x.f];exact n.2⟩
 rw[e1];intro hm;rcases AS.mp hm with hm|hm
 . exact n.1 hm
 . rw[hn a hm]at e;cases e
theorem Ext.get(x:Ext ρ H ρ' H'){i:Nat}(e:ρ.o[i]?=some a):ρ'.o[i]?=some a:=by obtain⟨new,e1,hn⟩:=x.d;have hi:i<ρ.o.length:=(Am.mp e).1;rw[e1,AW hi];exact e
theorem Ext.trans(x:Ext ρ H ρ' H')(h:HR K mg ρ' s H')(y:Ext ρ' H' ρ'' H''):Ext ρ H ρ'' H'':=by
 obtain⟨new,e1,hn⟩:=x.d;obtain⟨new2,e2,hn2⟩:=y.d;refine⟨⟨new++new2,by rw[e2,e1,Bx],λa ha=>?_⟩,y.f.trans x.f,λa o e n=>y.c a o (x.c a o e n) ?_,λa ha=>(y.g a (by rw[e1];exact Bs _ ha)).trans (x.g a ha)⟩
 . rcases AS.mp ha with ha|ha
   . exact hn a ha
   . cases q:H a with
     |none=>rfl
     |some o=>
      by_cases hm:a∈ρ.o
      . obtain⟨xs,e⟩:=h.trk (a:=a) (by rw[e1];exact Bs _ hm)
        rw[hn2 a ha]at e;cases e
      . have:=x.c a o q hm
        rw[hn2 a ha]at this;cases this
 . rw[e1]
   intro hm;rcases AS.mp hm with hm|hm
   . exact n hm
   . rw[hn a hm]at e;cases e
theorem SC.sql(h:SC K ρ H a xs):L2.SqL K H a xs:=by
 rcases h with⟨_,h⟩|h
 . exact .inl h
 . exact .inr h
theorem KT.sqt(h:KT K a xs):L2.SqT K H a xs:=.inr h
structure Mv(ρ:Own)(H:L2.Hp)(ρ':Own)(H':L2.Hp):Prop where
 b:∀(a:Addr) (o:L2.HO),H a=some o->ρ.no a->H' a=some o/\ρ'.no a
 c:∀(i:Nat) (a:Addr),ρ.o[i]?=some a->ρ'.o[i]?=some a
 d:∀a∈ρ.o,hk (H' a)=hk (H a)
theorem Ext.mv(x:Ext ρ H ρ' H'):Mv ρ H ρ' H':=⟨λa o e n=>⟨x.c a o e n.1,x.TL e n⟩,λi a e=>x.get e,x.g⟩
theorem SC.mv(x:Mv ρ H ρ' H')(h:SC K ρ H a xs):SC K ρ' H' a xs:=by
 rcases h with⟨n,h|⟨o,h⟩⟩|h
 . exact .inl ⟨(x.b _ _ h n).2,.inl (x.b _ _ h n).1⟩
 . exact .inl ⟨(x.b _ _ h n).2,.inr ⟨o,(x.b _ _ h n).1⟩⟩
 . exact .inr h
end
mutual
theorem RD.mv{K:KF}{mg:Str->Option Value}{ρ ρ':Own}{H H':L2.Hp}(x:Mv ρ H ρ' H'){v:Val}{u:L2.V}(q:RD K mg ρ H v u):RD K mg ρ' H' v u:=by
 cases q with
 |A=>exact .A
 |j b=>exact .j b
 |l i=>exact .l i
 |D t=>exact .D t
 |m n e r=>exact .m (x.b _ _ e n).2 (x.b _ _ e n).1 (RDs.mv x r)
 |E n e r=>exact .E (x.b _ _ e n).2 (x.b _ _ e n).1 (RDs.mv x r)
 |B n e=>exact .B (x.b _ _ e n).2 (x.b _ _ e n).1
 |p h=>exact .p h
 |G h=>exact .G (h.mv x)
 |C e k=>exact .C (x.c _ _ e) ((x.d _ (AU e)).trans k)
 |s e k=>exact .s (x.c _ _ e) (by rw[x.d _ (AU e)];exact k)
 |F a k=>exact .F a k
 |I e=>exact .I e
 |J n=>exact .J n
theorem RDs.mv{K:KF}{mg:Str->Option Value}{ρ ρ':Own}{H H':L2.Hp}(x:Mv ρ H ρ' H'){vs:List Val}{us:List L2.V}(q:RDs K mg ρ H vs us):RDs K mg ρ' H' vs us:=by
 cases q with
 |d=>exact .d
 |a r rs=>exact .a (RD.mv x r) (RDs.mv x rs)
end
theorem CR.mv(x:Mv ρ H ρ' H')(e:H' a=H a)(h:CR K mg ρ H a c):CR K mg ρ' H' a c:=by
 cases c with
 |c vs=>obtain⟨xs,e1,r⟩:=h;exact⟨xs,e.trans e1,RDs.mv x r⟩
 |e kvs=>obtain⟨xs,e1,k,r⟩:=h;exact⟨xs,e.trans e1,k,RDs.mv x r⟩
 |f kvs=>obtain⟨xs,e1,k,r⟩:=h;exact⟨xs,e.trans e1,k,RDs.mv x r⟩
 |d y=>
  obtain⟨ps,e1,k,r,g⟩:=h;refine⟨ps,e.trans e1,k,λpos cv hc=>?_,g⟩;obtain⟨c,o,vs,t,q1,q2,q3,q4⟩:=r pos cv hc;exact⟨c,o,vs,t,q1,(x.b _ _ q3 q2).2,(x.b _ _ q3 q2).1,q4⟩
theorem RD.mono(r:RD K mg ρ H v u)(x:Ext ρ H ρ' H'):RD K mg ρ' H' v u:=RD.mv x.mv r
theorem RDs.mono(r:RDs K mg ρ H v u)(x:Ext ρ H ρ' H'):RDs K mg ρ' H' v u:=RDs.mv x.mv r
end M
end
section
namespace M
open PySem
section
variable {K:KF}{mg:Str->Option Value}{ρ ρ' ρ'':Own}{H H' H'':L2.Hp}{s s':Sto}
theorem RDs.length(q:RDs K mg ρ H vs xs):vs.length=xs.length:=by
 cases q with
 |d=>rfl
 |a _ r=>rw[AI,AI,r.length]
theorem RDs.get{i:Nat}(q:RDs K mg ρ H vs xs)(e:vs[i]?=some v):∃x,xs[i]?=some x/\RD K mg ρ H v x:=by
 cases q with
 |d=>cases e
 |a r rs=>
  cases i with
  |zero=>cases e;exact⟨_,rfl,r⟩
  |succ i=>exact RDs.get (i:=i) rs e
theorem RDs.append(p:RDs K mg ρ H vs xs)(q:RDs K mg ρ H ws ys):RDs K mg ρ H (vs++ws) (xs++ys):=by
 cases p with
 |d=>exact q
 |a r rs=>exact .a r (rs.append q)
theorem RDs.take n(q:RDs K mg ρ H vs xs):RDs K mg ρ H (vs.take n) (xs.take n):=by
 cases n with
 |zero=>exact .d
 |succ n=>cases q with
  |d=>exact .d
  |a r rs=>exact .a r (rs.take n)
theorem RDs.drop n(q:RDs K mg ρ H vs xs):RDs K mg ρ H (vs.drop n) (xs.drop n):=by
 cases n with
 |zero=>exact q
 |succ n=>cases q with
  |d=>exact .d
  |a _ rs=>exact rs.drop n
theorem RDs.set(r:RD K mg ρ H v x)i(q:RDs K mg ρ H vs xs):RDs K mg ρ H (vs.set i v) (xs.set i x):=by
 cases q with
 |d=>exact .d
 |a q t=>cases i with
  |zero=>exact .a r t
  |succ i=>exact .a q (RDs.set r i t)
theorem RDs.rep(r:RDs K mg ρ H vs xs):∀k:Nat,RDs K mg ρ H (Al k vs).flatten (Al k xs).flatten
 |0=>.d
 |k+1=>by rw[BI,BI,Ca,Ca];exact r.append (RDs.rep r k)
theorem RDs.pick(r:RDs K mg ρ H vs xs):∀(is:List Nat),RDs K mg ρ H (is.filterMap λi=>vs[i]?) (is.filterMap λi=>xs[i]?)
 |[]=>.d
 |i::is=>by
  rw[A3,A3];cases hx:vs[i]? with
  |none=>
   have:xs[i]?=none:=by have h2:vs.length<=i:=Cz.mp hx;exact Cz.mpr (by rw[<-r.length];exact h2)
   rw[this];exact RDs.pick r is
  |some v=>
   obtain⟨u,hu,ru⟩:=r.get hx;rw[hu];exact .a ru (RDs.pick r is)
theorem RDs.yC(r:RDs K mg ρ H vs xs)lo st n:RDs K mg ρ H (L2.yC vs lo st n) (L2.yC xs lo st n):=by have h:=r.pick ((Bj n).map λ(k:Nat)=>(lo+(k:Int)*st).toNat);rw[B1,B1]at h;exact h
theorem RDs.ints:∀(ns:List Int),RDs K mg ρ H (ns.map .c) (ns.map .d)
 |[]=>.d
 |n::ns=>.a (.l n) (RDs.ints ns)
theorem RDs.cut(r:RDs K mg ρ H vs xs)lo hi:RDs K mg ρ H (eC vs lo hi) (L2.uQ xs lo hi):=by unfold eC L2.uQ;rw[r.length];exact(r.drop _).take _
theorem d8{α:Type}:∀{l:List α} {i j:Nat} {x},l.Nodup->l[i]?=some x->l[j]?=some x->i=j
 |[],_,_,_,_,e,_=>by simp at e
 |a::l,0,0,_,_,_,_=>rfl
 |a::l,0,j+1,x,nd,e1,e2=>by
  simp at e1 e2;subst e1;exact absurd (AU e2) (BU.mp nd).1
 |a::l,i+1,0,x,nd,e1,e2=>by
  simp at e1 e2;subst e2;exact absurd (AU e1) (BU.mp nd).1
 |a::l,i+1,j+1,x,nd,e1,e2=>by simp at e1 e2;rw[d8 (BU.mp nd).2 e1 e2]
theorem Ext.new(h:HR K mg ρ s H)(hp:H p=none)o:Ext ρ H ρ (L2.upd H p o):=
 ⟨⟨[],by simp,λa ha=>by cases ha⟩,rfl,λa u e _=>by rw[L2.zE (L2.zQ e hp)];exact e,λa ha=>by rw[L2.zE λz=>(h.new hp).1 (by rw[<-z];exact ha)]⟩
theorem HR.more(h:HR K mg ρ s H)(hp:H p=none)o:HR K mg ρ s (L2.upd H p o):=by
 refine⟨h.f,h.v,λi c e=>?_,λa ha=>?_⟩
 . obtain⟨a,e1,r⟩:=h.m i c e
   obtain⟨u,e2⟩:=r.there;exact⟨a,e1,r.mv (Ext.new h hp o).mv (L2.zE (L2.zQ e2 hp))⟩
 . obtain⟨⟨xs,e⟩,n⟩:=h.d a ha
   exact⟨⟨xs,by rw[L2.zE (L2.zQ e hp)];exact e⟩,n⟩
noncomputable def Own.more(ρ:Own)(p:Addr):Own:=⟨ρ.o++[p],ρ.h⟩
theorem Ext.own(h:HR K mg ρ s H)(hp:H p=none)o:Ext ρ H (ρ.more p) (L2.upd H p o):=
 ⟨⟨[p],rfl,λa ha=>by rw[Aw.mp ha];exact hp⟩,rfl,λa u e _=>by rw[L2.zE (L2.zQ e hp)];exact e,λa ha=>by rw[L2.zE λz=>(h.new hp).1 (by rw[<-z];exact ha)]⟩
theorem rN(h:HR K mg ρ s H)p:(ρ.more p).o[s.length]?=some p:=by show (ρ.o++[p])[s.length]?=some p;rw[<-h.f,BF (xd _)];simp
theorem HR.wR(h:HR K mg ρ s H)(hp:H p=none)(r:CR K mg (ρ.more p) (L2.upd H p o) p c):HR K mg (ρ.more p) (s++[c]) (L2.upd H p o):=by
 have X:=Ext.own h hp o;refine⟨by show (ρ.o++[p]).length=_;rw[Ap,Ap,h.f];rfl,?_,λi ws q=>?_,λa ha=>?_⟩
 . show (ρ.o++[p]).Nodup
   rw[Fo];exact⟨h.v,by simp,λa ha b hb=>by rw[Aw.mp hb];intro z;subst z;exact(h.new hp).1 ha⟩
 . by_cases hi:i<s.length
   . rw[AW hi]at q
     obtain⟨a,e1,t⟩:=h.m i ws q;obtain⟨u,e2⟩:=t.there;exact⟨a,X.get e1,t.mv X.mv (L2.zE (L2.zQ e2 hp))⟩
   . have hi':i=s.length:=by have:=(Am.mp q).1;rw[Ap]at this;simp at this;omega
     subst hi';rw[BF (xd _)]at q;simp at q;subst q;exact⟨p,rN h p,r⟩
 . obtain⟨⟨ys,q⟩,n⟩:=h.d a ha
   refine⟨⟨ys,by rw[L2.zE (L2.zQ q hp)];exact q⟩,λhm=>?_⟩
   rcases AS.mp hm with hm|hm
   . exact n hm
   . rw[Aw.mp hm,hp]at q;cases q
theorem HR.own(h:HR K mg ρ s H)(hp:H p=none)(r:RDs K mg ρ H vs xs):HR K mg (ρ.more p) (s++[.c vs]) (L2.upd H p (.b xs)):=h.wR hp ⟨xs,L2.zL,r.mono (Ext.own h hp _)⟩
theorem Ext.sU(h:HR K mg ρ s H){i:Nat}(e:ρ.o[i]?=some a)(k:hk (some o)=hk (H a)):Ext ρ H ρ (L2.upd H a o):=
 ⟨⟨[],by simp,λa ha=>by cases ha⟩,rfl,λb u q n=>by rw[L2.zE (λz=>n (by rw[z];exact AU e))];exact q,λb hb=>by
   by_cases z:b=a
   . subst z;rw[L2.zL];exact k
   . rw[L2.zE z]⟩
theorem Ext.write(h:HR K mg ρ s H){i:Nat}(e:ρ.o[i]?=some a)(k:H a=some (.b ys))xs:Ext ρ H ρ (L2.upd H a (.b xs)):=Ext.sU h e (by rw[k];rfl)
theorem HR.sU(h:HR K mg ρ s H)(e:ρ.o[i]?=some a)(k:hk (some o)=hk (H a))(r:CR K mg ρ (L2.upd H a o) a c):HR K mg ρ (s.set i c) (L2.upd H a o):=by
 have X:=Ext.sU h e k;refine⟨by rw[AL];exact h.f,h.v,λj ws q=>?_,λb hb=>?_⟩
 . skip
   by_cases hij:i=j
   . subst hij
     have hi:i<s.length:=by rw[<-h.f];exact(Am.mp e).1
     rw[Av hi]at q;cases q;exact⟨a,e,r⟩
   . rw[AO hij]at q
     obtain⟨b,e1,t⟩:=h.m j ws q;refine⟨b,e1,t.mv X.mv ?_⟩;have hb:b≠a:=by intro z;subst z;exact hij (d8 h.v e e1)
     rw[L2.zE hb]
 . obtain⟨⟨ys,q⟩,n⟩:=h.d b hb
   exact⟨⟨ys,by rw[L2.zE (λz=>n (by rw[z];exact AU e))];exact q⟩,n⟩
theorem HR.write(h:HR K mg ρ s H)(e:ρ.o[i]?=some a)(k:H a=some (.b ys))(r:RDs K mg ρ H vs xs):HR K mg ρ (upd s i vs) (L2.upd H a (.b xs)):=
 h.sU e (by rw[k];rfl) ⟨xs,L2.zL,r.mono (Ext.write h e k xs)⟩
theorem ER.mono(x:Ext ρ H ρ' H')(h:ER K mg ρ H env σ):ER K mg ρ' H' env σ:=⟨h.b,λi v e=>by obtain⟨u,h1,h2⟩:=h.a i v e;exact⟨u,h1,h2.mono x⟩⟩
theorem ER.set(h:ER K mg ρ H env σ)i(r:RD K mg ρ H v x):ER K mg ρ H (env.set i (some v)) (σ.set i (some x)):=by
 refine⟨by rw[AL,AL,h.b],λj w e=>?_⟩
 by_cases hij:i=j
 . subst hij
   by_cases hi:i<env.length
   . rw[Av hi]at e
     cases e;exact⟨x,by rw[Av (by rw[<-h.b];exact hi)],r⟩
   . rw[Cu (by rw[AL];omega)]at e
     cases e
 . rw[AO hij]at e
   rw[AO hij];exact h.a j w e
end
section
variable (K:KF)(mg:Str->Option Value)
def yL{α β:Type}(R:Own->L2.Hp->α->β->Prop)(ρ:Own)(H:L2.Hp)(o:Out α)(Q:β->L2.Hp->Prop):Prop:=
 match o with
 |.e v s'=>∀ρ' x H',Ext ρ H ρ' H'->HR K mg ρ' s' H'->R ρ' H' v x->Q x H'
 |_=>False
def tV(env:Env)(s:Sto)(o:Out Val):L2.TE:=λσ H Q=>∃ρ,HR K mg ρ s H/\ER K mg ρ H env σ/\yL K mg (RD K mg) ρ H o Q
def tVs(env:Env)(s:Sto)(o:Out (List Val)):L2.TA:=λσ H Q=>∃ρ,HR K mg ρ s H/\ER K mg ρ H env σ/\yL K mg (RDs K mg) ρ H o Q
def tT(env:Env)(s:Sto)(o:Out Bool):L2.TT:=λσ H Q=>∃ρ,HR K mg ρ s H/\ER K mg ρ H env σ/\yL K mg (λ_ _ a b=>a=b) ρ H o Q
def tO(env:Env)(s:Sto)(o:Out (Option Int)):L2.TO:=λσ H Q=>∃ρ,HR K mg ρ s H/\ER K mg ρ H env σ/\yL K mg (λ_ _ a b=>a=b) ρ H o Q
end
section
variable {X:L2.Cx}{e:Expr}
theorem zU(h:L2.PE X e t)(i:∀σ H Q,t' σ H Q->t σ H Q):L2.PE X e t':=λpins s σ H Q I q=>h pins s σ H Q I (i σ H Q q)
theorem v7(h:L2.PT X e t)(i:∀σ H Q,t' σ H Q->t σ H Q):L2.PT X e t':=λpins s σ H Q I q=>h pins s σ H Q I (i σ H Q q)
theorem cZ{t t':L2.TA}(h:L2.PA X es t)(i:∀σ H Q,t' σ H Q->t σ H Q):L2.PA X es t':=λpos pins s σ H Q I q=>h pos pins s σ H Q I (i σ H Q q)
theorem yF{t t':L2.TS}(h:L2.PS X st t)(i:∀D σ H,t' D σ H->t D σ H):L2.PS X st t':=λpins s σ H D I q=>h pins s σ H D I (i D σ H q)
theorem xV{t t':L2.TS}(h:L2.PSs X st t)(i:∀D σ H,t' D σ H->t D σ H):L2.PSs X st t':=λpins s σ H D I q=>h pins s σ H D I (i D σ H q)
theorem yP(h:∀σ H Q,¬t σ H Q):L2.PE X e t:=λpins s σ H Q I q=>(h σ H Q q).elim
theorem jx(h:∀σ H Q,¬t σ H Q):L2.PT X e t:=λpins s σ H Q I q=>(h σ H Q q).elim
theorem T5(h:∀σ H Q,¬t σ H Q):L2.PW X e t:=λwh pins s σ H Q I q=>(h σ H Q q).elim
theorem Tn{t:L2.TA}(h:∀σ H Q,¬t σ H Q):L2.PA X es t:=λpos pins s σ H Q I q=>(h σ H Q q).elim
end
section
variable {K:KF}{mg:Str->Option Value}{env:Env}{s:Sto}
theorem Sq(h:∀v s',o≠.e v s'):¬tV K mg env s o σ H Q:=by
 rintro ⟨ρ,_,_,w⟩;cases o with
 |e v s'=>exact h v s' rfl
 |_=>exact w
theorem V5(h:∀v s',o≠.e v s'):¬tVs K mg env s o σ H Q:=by
 rintro ⟨ρ,_,_,w⟩;cases o with
 |e v s'=>exact h v s' rfl
 |_=>exact w
theorem XW(h:∀v s',o≠.e v s'):¬tT K mg env s o σ H Q:=by
 rintro ⟨ρ,_,_,w⟩;cases o with
 |e v s'=>exact h v s' rfl
 |_=>exact w
end
end M
end
section
namespace M
open PySem
theorem yf:zY=Au:=by rw[AK];rfl
section
variable {K:KF}{mg:Str->Option Value}{ρ ρ':Own}{H H':L2.Hp}{s s':Sto}
theorem xy(hr:HR K mg ρ s H)(r:RD K mg ρ H v x)(e:yO s v=some vs):∃a xs,x=.c a/\H a=some (.b xs)/\RDs K mg ρ H vs xs:=by
 cases r with
 |E n h q=>cases e;exact⟨_,_,rfl,h,q⟩
 |@C a i h _=>
  simp only[yO]at e;split at e
  . rename_i ws hw
    cases e;obtain⟨b,xs,e1,e2,q⟩:=hr.obj i _ hw;rw[h]at e1;cases e1;exact⟨_,_,rfl,e2,q⟩
  . cases e
 |_=>cases e
theorem nT(hr:HR K mg ρ s H)(r:RD K mg ρ H v x)(e:xj s v=some vs):∃a xs,x=.c a/\(L2.SqL K H a xs\/L2.SqT K H a xs)/\RDs K mg ρ H vs xs:=by
 cases r with
 |E n h q=>cases e;exact⟨_,_,rfl,.inl (.of h),q⟩
 |m n h q=>cases e;exact⟨_,_,rfl,.inr (.of h),q⟩
 |p h=>cases e;exact⟨_,_,rfl,.inr h.sqt,RDs.ints _⟩
 |G h=>cases e;exact⟨_,_,rfl,.inl h.sql,RDs.ints _⟩
 |@C a i h _=>
  simp only[xj]at e;split at e
  . rename_i ws hw
    cases e;obtain⟨b,xs,e1,e2,q⟩:=hr.obj i _ hw;rw[h]at e1;cases e1;exact⟨_,_,rfl,.inl (.of e2),q⟩
  . cases e
 |_=>cases e
mutual
theorem RD.reads{P:Program}{w:World}{h:Heap}(ok:L2.HOk P w H h){v:Val}{x:L2.V}{u:Value}(q:RD K mg ρ H v x)(hv:v.isR=true)(r:L2.RelV x u):∃as,Reads h u v.d as/\(L2.xB v.d=false->BZ ∉ as):=by
 cases q with
 |A=>cases (show u=Cg from r);exact⟨[],.none,λ_=>by simp⟩
 |j b=>cases (show u=CO b from r);exact⟨[],.bool b,λ_=>by simp⟩
 |l i=>obtain⟨t,q⟩:=(show ∃t,u=FV i t from r);cases q;exact⟨[],.int i t,λ_=>by simp⟩
 |D x=>obtain⟨t,q⟩:=(show ∃t,u=FW x t from r);cases q;exact⟨[],.str x t,λ_=>by simp⟩
 |@E a vs xs n ha rs=>
  cases (show u=A0 a from r);obtain⟨z,its,n,rv,e⟩:=(show L2.zt P w H h a (.b xs) from ok a _ ha);obtain⟨as,q,_⟩:=RDs.reads ok rs (by simpa only[Val.isR] using hv) rv
  exact⟨a::as,.list e rfl rfl (by simpa using q),λz=>by simp[Val.d,L2.xB]at z⟩
 |@m a vs xs n ha rs=>
  cases (show u=A0 a from r);obtain⟨z,its,rv,o,e,c,n,dd⟩:=(show L2.zt P w H h a (.c xs) from ok a _ ha);obtain⟨as,q,q2⟩:=RDs.reads ok rs (by simpa only[Val.isR] using hv) rv
  exact⟨as,.tuple e c dd.1 (by simpa using q),λz=>q2 (by simpa [Val.d,L2.xB] using z)⟩
 |@B a n ha=>
  cases (show u=A0 a from r);obtain⟨z,y,vs,rv,o,es,ep,e,c,dd,k⟩:=(show L2.zt P w H h a (.i []) from ok a _ ha);cases rv;have hes:es=#[]:=by
   have h2:=k.2.1;cases hl:es.toList with
   |nil=>simpa using hl
   |cons a r=>rw[hl]at h2;cases h2
  subst hes;refine⟨[a]++[],Reads.dict (as:=[]) (bs:=[]) e c.1 dd .nil .nil,λ_=>?_⟩;have:a≠BZ:=by simpa using y
  simpa using A9 this
 |p _=>cases hv
 |G _=>cases hv
 |C _ _=>cases hv
 |s _ _=>cases hv
 |F _ _=>cases hv
 |I _=>cases hv
 |J _=>cases hv
theorem RDs.reads{P:Program}{w:World}{h:Heap}(ok:L2.HOk P w H h){vs:List Val}{xs:List L2.V}{us:List Value}(p:RDs K mg ρ H vs xs)(hv:su vs=true)(q:L2.Vals xs us):∃as,ReadsAll h us (ds vs) as/\(L2.xQ (ds vs)=false->BZ ∉ as):=by
 cases p with
 |d=>cases q;exact⟨[],.nil,λ_=>by simp⟩
 |a r rs=>
  cases q with
  |cons q1 q2=>
   rw[su,cf]at hv;obtain⟨as,h1,h2⟩:=RD.reads ok r hv.1 q1;obtain⟨bs,h3,h4⟩:=RDs.reads ok rs hv.2 q2;refine⟨as++bs,.cons h1 h3,λz=>?_⟩;rw[ds,L2.xQ,Dg]at z;intro hm;rcases AS.mp hm with hm|hm
   . exact h2 z.1 hm
   . exact h4 z.2 hm
end
theorem u7(ok:L2.HOk P w H h)(hr:HR K mg ρ s H)(hv:(yh s v).isR=true)(r:RD K mg ρ H v x)(ru:L2.RelV x u) :
 ∃as,Reads h u (yh s v).d as/\(L2.xB (yh s v).d=false->BZ ∉ as):=by
 cases v with
 |m i=>
  cases r with
  |@C a _ e0=>
  simp only[yh]at hv ⊢;split at hv
  . rename_i ws hw
    obtain⟨b,xs,e1,e2,q⟩:=hr.obj i _ hw;rw[e0]at e1;cases e1;cases (show u=A0 a from ru);obtain⟨z,its,n,rv,e⟩:=(show L2.zt P w H h a (.b xs) from ok a _ e2);obtain⟨as,q,_⟩:=RDs.reads ok q (by simpa only[Val.isR] using hv) rv
    exact⟨a::as,.list e rfl rfl (by simpa using q),λz=>by simp[Val.d,L2.xB]at z⟩
  . cases hv
 |_=>exact RD.reads ok r hv ru
theorem RDs.bN(ok:L2.HOk P w H h)(hr:HR K mg ρ s H):∀{vs} {xs} {us},RDs K mg ρ H vs xs->su (vs.map (yh s))=true->L2.Vals xs us->∃as,ReadsAll h us (ds (vs.map (yh s))) as/\(L2.xQ (ds (vs.map (yh s)))=false->BZ ∉ as)
 |_,_,_,.d,_,r=>by cases r;exact⟨[],.nil,λ_=>by simp⟩
 |_,_,_,.a r rs,hv,q=>by
  cases q with
  |cons q1 q2=>
   rw[A7,su,cf]at hv;obtain⟨as,h1,h2⟩:=u7 ok hr hv.1 r q1;obtain⟨bs,h3,h4⟩:=RDs.bN ok hr rs hv.2 q2;rw[A7];refine⟨as++bs,.cons h1 h3,λz=>?_⟩;rw[ds,L2.xQ,Dg]at z;intro hm;rcases AS.mp hm with hm|hm
   . exact h2 z.1 hm
   . exact h4 z.2 hm
theorem eG{v:Val}(h:∀vs,v≠.f vs):zu s v=yh s v:=by
 cases v<;>first|rfl|exact absurd rfl (h _)
theorem yw(ok:L2.HOk P w H h)(hr:HR K mg ρ s H)(hv:(zu s v).isR=true)(r:RD K mg ρ H v x)(ru:L2.RelV x u) :
 ∃as,Reads h u (zu s v).d as/\(L2.xB (zu s v).d=false->BZ ∉ as):=by
 cases v with
 |f vs=>
  cases r with
  |@m a _ xs n ha rs=>
   cases (show u=A0 a from ru);obtain⟨z,its,rv,o,e,c,n,dd⟩:=(show L2.zt P w H h a (.c xs) from ok a _ ha);obtain⟨as,q,q2⟩:=RDs.bN ok hr rs (by simpa only[zu,Val.isR] using hv) rv
   exact⟨as,.tuple e c dd.1 (by simpa using q),λz=>q2 (by simpa [zu,Val.d,L2.xB] using z)⟩
 |_=>exact(show _ from by rw[eG (λ_ h=>by cases h)]at hv ⊢;exact u7 ok hr hv r ru)
mutual
theorem yq:∀{v:Val},v.isD=true->v.isR=true
 |.h,_=>rfl
 |.e _,_=>rfl
 |.c _,_=>rfl
 |.g _,_=>rfl
 |.f vs,h=>by rw[Val.isR];exact vI (by simpa only[Val.isD] using h)
 |.j vs,h=>by rw[Val.isR];exact vI (by simpa only[Val.isD] using h)
 |.o,h=>by cases h
 |.p _,h=>by cases h
 |.r _,h=>by cases h
 |.m _,h=>by cases h
 |.t _,h=>by cases h
 |.u _,h=>by cases h
theorem vI:∀{vs:List Val},mH vs=true->su vs=true
 |[],_=>rfl
 |v::vs,h=>by rw[mH,cf]at h;rw[su,yq h.1,vI h.2];rfl
end
mutual
theorem yI:∀{v:Val},v.isD=true->v.d.canLay0=true
 |.h,_=>rfl
 |.e _,_=>rfl
 |.c _,_=>rfl
 |.g _,h=>by simpa only[Val.isD,Val.d,Gg] using h
 |.f vs,h=>by rw[Val.d,Gg];exact xg (by simpa only[Val.isD] using h)
 |.j vs,h=>by rw[Val.d,Gg];exact xg (by simpa only[Val.isD] using h)
 |.o,h=>by cases h
 |.p _,h=>by cases h
 |.r _,h=>by cases h
 |.m _,h=>by cases h
 |.t _,h=>by cases h
 |.u _,h=>by cases h
theorem xg:∀{vs:List Val},mH vs=true->PyData.canLayAll0 (ds vs)=true
 |[],_=>rfl
 |v::vs,h=>by rw[mH,cf]at h;rw[ds,PyData.canLayAll0,yI h.1,xg h.2];rfl
end
theorem vL(hr:HR K mg ρ s H)(r:RDs K mg ρ H vs xs)(w:yL K mg (RD K mg) ρ H (newList m vs s) Q):∀p,H p=none->Q (.c p) (L2.upd H p (.b xs)):=λp hp=>by
 cases m with
 |true=>exact w _ _ _ (Ext.own hr hp _) (hr.own hp r) (.C (rN hr p) (by rw[L2.zL];rfl))
 |false=>exact w _ _ _ (Ext.new hr hp _) (hr.more hp _) (.E (hr.new hp) L2.zL (r.mono (Ext.new hr hp _)))
theorem ox(hr:HR K mg ρ s H)(r:RDs K mg ρ H vs xs)(w:yL K mg (RD K mg) ρ H (.e (.f vs) s) Q):∀p,H p=none->Q (.c p) (L2.upd H p (.c xs)):=λp hp=>
 w _ _ _ (Ext.new hr hp _) (hr.more hp _) (.m (hr.new hp) L2.zL (r.mono (Ext.new hr hp _)))
theorem Ext.same(hr:HR K mg ρ s H)(e:L2.xf H H'):Ext ρ H ρ H':=⟨⟨[],by simp,λa ha=>by cases ha⟩,rfl,λa o h _=>e a o h,λa ha=>by obtain⟨o,q⟩:=hr.trk ha;rw[q,e a o q]⟩
theorem HR.same(hr:HR K mg ρ s H)(e:L2.xf H H'):HR K mg ρ s H':=⟨hr.f,hr.v,λi c q=>by
 obtain⟨a,e1,r⟩:=hr.m i c q;obtain⟨o,e2⟩:=r.there;exact⟨a,e1,r.mv (Ext.same hr e).mv ((e a _ e2).trans e2.symm)⟩,λa ha=>by
 obtain⟨⟨ys,q⟩,n⟩:=hr.d a ha;exact⟨⟨ys,e a _ q⟩,n⟩⟩
theorem vo(hr:HR K mg ρ s H)(r:RDs K mg ρ H vs xs)(w:yL K mg (RD K mg) ρ H (.e (.f vs) s) Q):L2.sW H xs Q:=λp H' e h=>by
 have hr':=hr.same e;refine w _ _ _ (Ext.same hr e) hr' (.m ⟨λhm=>?_,λhm=>?_⟩ h (r.mono (Ext.same hr e)))
 . obtain⟨i,hi,q⟩:=Bp hm
   have hs:i<s.length:=by rw[<-hr'.f];exact hi
   obtain⟨b,e1,e2⟩:=hr'.m i _ (Ad hs);rw[Ad hi,q]at e1;cases e1;have:=e2.hk;rw[h]at this;exact absurd this (A1 0)
 . obtain⟨⟨ys,q⟩,_⟩:=hr'.d _ hm
   rw[h]at q;cases q
end
section
variable (K:KF)(mg:Str->Option Value)
def rM2(g:Val->Val->Sto->Out Val):L2.R2:=λx y H Q=>∃ρ s v w,HR K mg ρ s H/\RD K mg ρ H v x/\RD K mg ρ H w y/\yL K mg (RD K mg) ρ H (g v w s) Q
def rMc(g:List Val->Sto->Out Val):List L2.V->L2.Hp->L2.VK->Prop:=λxs H Q=>∃ρ s vs,HR K mg ρ s H/\RDs K mg ρ H vs xs/\yL K mg (RD K mg) ρ H (g vs s) Q
end
section
variable {X:L2.Cx}{k:Nat}
theorem zM(hr:HR K mg ρ s H)(r:RD K mg ρ H v x)(w:yL K mg (RD K mg) ρ H (.e v s) Q):Q x H:=w _ _ _ Ext.refl hr r
theorem l8 m:L2.OpR X (Bw .Add) (rM2 X.K X.d (binOp m .a)):=by
 intro pins s σ H x y v u Q I rx ry h;obtain⟨ρ,t,a,b,hr,ra,rb,w⟩:=h;simp only[binOp]at w;split at w
 . cases ra;cases rb
   exact L2.W9 pins s σ H _ _ v u Q I rx ry ⟨_,_,rfl,rfl,zM hr (.l _) w⟩
 . split at w
   . rename_i hz
     cases ra;cases rb;exact L2.qX pins s σ H _ _ v u Q I rx ry ⟨_,_,rfl,rfl,by rw[<-yf];exact hz,zM hr (.D _) w⟩
   . exact w.elim
 . split at w
   . rename_i hz
     cases ra with
     |m n1 h1 q1=>
      cases rb with
      |m n2 h2 q2=>
       refine L2.cL pins s σ H _ _ v u Q I rx ry ⟨_,_,_,_,rfl,rfl,h1,h2,?_,vo hr (q1.append q2) w⟩;rw[<-q1.length,<-q2.length,<-yf];exact hz
   . exact w.elim
 . split at w
   . rename_i ea eb
     split at w
     . rename_i hz
       obtain⟨p1,xs,rfl,h1,q1⟩:=xy hr ra ea;obtain⟨p2,ys,rfl,h2,q2⟩:=xy hr rb eb;refine L2.kD pins s σ H _ _ v u Q I rx ry ⟨_,_,_,_,rfl,rfl,h1,h2,?_,vL hr (q1.append q2) w⟩;rw[<-q1.length,<-q2.length,<-yf];exact hz
     . exact w.elim
   . exact w.elim
theorem kC m:L2.OpR X (Bw .Sub) (rM2 X.K X.d (binOp m .g)):=by
 intro pins s σ H x y v u Q I rx ry h;obtain⟨ρ,t,a,b,hr,ra,rb,w⟩:=h;simp only[binOp]at w;split at w
 . cases ra;cases rb
   exact L2.VF pins s σ H _ _ v u Q I rx ry ⟨_,_,rfl,rfl,zM hr (.l _) w⟩
 . exact w.elim
theorem kA m:L2.OpR X (Bw .Mult) (rM2 X.K X.d (binOp m .b)):=by
 intro pins s σ H x y v u Q I rx ry h;obtain⟨ρ,t,a,b,hr,ra,rb,w⟩:=h;simp only[binOp]at w;split at w
 . split at w
   . rename_i hz
     cases ra;cases rb;exact L2.VC pins s σ H _ _ v u Q I rx ry ⟨_,_,rfl,rfl,hz,zM hr (.l _) w⟩
   . exact w.elim
 . split at w
   . rename_i hz
     obtain⟨z1,z2,z3,z4⟩:=hz;cases ra with
     |m n1 h1 q1=>
      cases rb;refine L2.Zq pins s σ H _ _ v u Q I rx ry ⟨_,_,_,rfl,rfl,h1,z1,z2,?_,?_,vo hr (q1.rep _) w⟩
      . intro e;subst e;cases q1;exact z3 rfl
      . rw[<-q1.length];exact z4
   . exact w.elim
 . split at w
   . rename_i ea
     split at w
     . rename_i hz
       obtain⟨z1,z2,z3⟩:=hz;obtain⟨p1,xs,rfl,h1,q1⟩:=xy hr ra ea;cases rb;refine L2.VE pins s σ H _ _ v u Q I rx ry ⟨_,_,_,rfl,rfl,h1,by omega,by omega,?_,vL hr (q1.rep _) w⟩
       rw[<-q1.length,<-yf];exact z3
     . exact w.elim
   . exact w.elim
 . exact w.elim
theorem mW m:L2.OpR X (Bw .FloorDiv) (rM2 X.K X.d (binOp m .e)):=by
 intro pins s σ H x y v u Q I rx ry h;obtain⟨ρ,t,a,b,hr,ra,rb,w⟩:=h;simp only[binOp]at w;split at w
 . split at w
   . rename_i hz
     cases ra;cases rb;exact L2.Zo pins s σ H _ _ v u Q I rx ry ⟨_,_,rfl,rfl,hz,zM hr (.l _) w⟩
   . exact w.elim
 . exact w.elim
theorem l9 m:L2.OpR X (Bw .Mod) (rM2 X.K X.d (binOp m .c)):=by
 intro pins s σ H x y v u Q I rx ry h;obtain⟨ρ,t,a,b,hr,ra,rb,w⟩:=h;simp only[binOp]at w;split at w
 . split at w
   . rename_i hz
     cases ra;cases rb;exact L2.VB pins s σ H _ _ v u Q I rx ry ⟨_,_,rfl,rfl,hz,zM hr (.l _) w⟩
   . exact w.elim
 . exact w.elim
theorem kB m:L2.OpR X (Bw .Pow) (rM2 X.K X.d (binOp m .d)):=by
 intro pins s σ H x y v u Q I rx ry h;obtain⟨ρ,t,a,b,hr,ra,rb,w⟩:=h;simp only[binOp]at w;split at w
 . split at w
   . rename_i hz
     cases ra;cases rb;exact L2.VD pins s σ H _ _ v u Q I rx ry ⟨_,_,rfl,rfl,hz,zM hr (.l _) w⟩
   . exact w.elim
 . exact w.elim
end
end M
end
section
namespace L2
open PySem PyProof PyProof.Rows
section
variable {κ:Type} [DecidableEq κ]
theorem KV.length{kvs:List (κ × V)}{vs:List (κ × Value)}(r:KV kvs vs):kvs.length=vs.length:=Gu r
end
section
variable {X:Cx}{pins:List (Addr × Obj)}{σ:St}{H:Hp}{s:Shared}{a:Addr}{y v:V}{u r:Value}{o:Option V}{A:Around}{E:Value->Shared->Prop}
theorem Inv.big(I:Inv X pins σ H s):BZ<s.heap.objs.size:=by have h:AJ<s.heap.objs.size:=(I.mod.c.keeps I.bk).lt;exact Nat.lt_trans (by decide) h
end
theorem eH(h:Heap)(hb:BZ<h.objs.size):zt P w H (h.push {cls:=.type "dict",data:=.dict #[]}) h.objs.size (.i []):=
 ⟨BX _,beq_eq_false_iff_ne.mpr (A9 (Ax hb)),[],.nil,Heap.DictOf.new h⟩
theorem eI(h:Heap)(hb:BZ<h.objs.size):zt P w H (h.push {cls:=.type "dict",data:=.dict #[]}) h.objs.size (.k []):=
 ⟨BX _,beq_eq_false_iff_ne.mpr (A9 (Ax hb)),[],.nil,_,#[],0,Aq _ rfl,⟨rfl,rfl,rfl⟩,rfl,rfl,List.nodup_nil⟩
def V1:TE:=λ_ H Q=>∀p,H p=none->Q (.c p) (upd H p (.i []))
def V2:TE:=λ_ H Q=>∀p,H p=none->Q (.c p) (upd H p (.k []))
section
variable {X:Cx}{pos:Pos}
theorem cw:PE X (.Dict [] [] pos) V1:=λpins s σ H Q I h=>
 FG ⟨.c s.heap.objs.size,_,I.laid (a:=s.heap.objs.size) (o:=.i []) (t':=s.toks) (λ_ _ q=>nx _ q) (xd _) (eH s.heap I.big),rfl,h _ (I.j.fresh (xd _))⟩
theorem cy:PE X (.Dict [] [] pos) V2:=λpins s σ H Q I h=>
 FG ⟨.c s.heap.objs.size,_,I.laid (a:=s.heap.objs.size) (o:=.k []) (t':=s.toks) (λ_ _ q=>nx _ q) (xd _) (eI s.heap I.big),rfl,h _ (I.j.fresh (xd _))⟩
end
end L2
end
section
namespace M
open PySem
section
variable {K:KF}{mg:Str->Option Value}{ρ:Own}{H:L2.Hp}{s:Sto}
def RO(K:KF)(mg:Str->Option Value)(ρ:Own)(H:L2.Hp):Option Val->Option L2.V->Prop
 |none,none=>True
 |some v,some x=>RD K mg ρ H v x
 |_,_=>False
theorem RO.isSome(h:RO K mg ρ H o o'):o'.isSome=o.isSome:=by
 cases o with
 |none=>cases o' with|none=>rfl|some _=>exact h.elim
 |some v=>cases o' with|none=>exact h.elim|some _=>rfl
end
end M
end
section
namespace M
open PySem
section
variable {K:KF}{mg:Str->Option Value}{ρ ρ':Own}{H H':L2.Hp}{s s':Sto}
theorem RD.flat{v:Val}{x:L2.V}(r:RD K mg ρ H v x)(h:flat v=true):L2.wI x=true:=by
 cases r<;>first|rfl|cases h
theorem RD.eqF(r:RD K mg ρ H v x)(q:RD K mg ρ H w y)(h:M.flat v=true)(h':M.flat w=true):L2.eqV x y=M.eqF v w:=by
 cases r<;>first|(cases h;done)|(cases q<;>first|rfl|(cases h';done))
theorem RDs.flat:∀{vs:List Val} {xs:List L2.V},RDs K mg ρ H vs xs->vs.all flat=true->xs.all L2.wI=true
 |_,_,.d,_=>rfl
 |_,_,.a r rs,h=>by rw[Cw,cf]at h;rw[Cw,r.flat h.1,rs.flat h.2];rfl
theorem RDs.countP(q:RD K mg ρ H w y)(hw:M.flat w=true):∀{vs} {xs},RDs K mg ρ H vs xs->vs.all M.flat=true->(xs.countP λz=>L2.eqV z y)=vs.countP λz=>M.eqF z w
 |_,_,.d,_=>rfl
 |_,_,.a r rs,h=>by rw[Cw,cf]at h;rw[D8,D8,r.eqF q h.1 hw,RDs.countP q hw rs h.2]
theorem RDs.bools:∀{vs} {xs} {bs},RDs K mg ρ H vs xs->boolsOf vs=some bs->xs=bs.map L2.V.f
 |_,_,_,.d,h=>by cases h;rfl
 |_,_,_,.a r rs,h=>by
  cases r with
  |j b=>
   simp only[boolsOf,A8]at h;obtain⟨bs',h1,h2⟩:=h;subst h2;rw[rs.bools h1];rfl
  |_=>cases h
theorem RDs.qH:∀{vs} {xs} {ns},RDs K mg ρ H vs xs->intsOf vs=some ns->xs=ns.map L2.V.d
 |_,_,_,.d,h=>by cases h;rfl
 |_,_,_,.a r rs,h=>by
  cases r with
  |l b=>
   simp only[intsOf,A8]at h;obtain⟨bs',h1,h2⟩:=h;subst h2;rw[rs.qH h1];rfl
  |_=>cases h
theorem aR(r:RDs K mg ρ H vs xs)(h:L2.atI vs i=some v):∃x,L2.atI xs i=some x/\RD K mg ρ H v x:=by unfold L2.atI at h ⊢;rw[<-r.length];obtain⟨j,h1,h2⟩:=DM.mp h;obtain⟨x,h3,h4⟩:=r.get h2;exact⟨x,by rw[h1];exact h3,h4⟩
theorem b9(hr:HR K mg ρ s H)(r:RD K mg ρ H v x)(h:truth s v=some b):L2.aO K x H b:=by
 have hz:∀{vs:List Val} {xs:List L2.V},RDs K mg ρ H vs xs->vs.isEmpty=xs.isEmpty:=λr=>by cases r<;>rfl
 cases r with
 |A=>cases h;rfl
 |j b=>cases h;rfl
 |l i=>cases h;rfl
 |D x=>
  simp only[truth]at h;split at h
  . cases h
    rename_i q;exact⟨by rw[<-yf];exact q,rfl⟩
  . cases h
 |m n e q=>cases h;exact .inr (.inl ⟨_,.of e,by rw[hz q]⟩)
 |E n e q=>cases h;exact .inl ⟨_,.of e,by rw[hz q]⟩
 |B n e=>cases h;exact .inr (.inr ⟨_,e,rfl⟩)
 |p _=>cases h
 |G _=>cases h
 |@C a i e _=>
  simp only[truth]at h;split at h
  . rename_i ws hw
    cases h;obtain⟨c,xs,e1,e2,q⟩:=hr.obj i _ hw;rw[e]at e1;cases e1;exact .inl ⟨_,.of e2,by rw[hz q]⟩
  . cases h
 |I _=>cases h
 |J _=>cases h
 |s _ _=>cases h
 |F _ _=>cases h
theorem Sv(hr:HR K mg ρ s H)(r:RD K mg ρ H v x)(h:kindOf v=some a):(L2.uy K H x (.type a.nm)):=by
 cases r with
 |A=>cases h;exact .d
 |j b=>cases h;exact .bl b
 |l i=>cases h;exact .c i
 |D x=>cases h;exact .f x
 |m n e q=>cases h;exact .g e
 |E n e q=>cases h;exact .b e
 |B n e=>cases h;exact .dK e
 |C e k=>
  cases h;obtain⟨xs,q⟩:=ek k;exact .b q
 |_=>cases h
theorem U5(h:vq n=some c):n=c.nm/\c≠.f:=by unfold vq at h;split at h<;>first|(cases h;exact⟨rfl,by decide⟩)|cases h
end
section
variable {X:L2.Cx}{k:Nat}
theorem TF(h:uk d=true):L2.Yh d:=by
 unfold uk at h;simp only[cf,decide_eq_true_eq,Ao,Ay]at h;obtain⟨⟨⟨⟨h1,h2⟩,h3⟩,h4⟩,h5⟩:=h;have L:L2.vS d.depth d.weight d:=⟨h1,h2,xd _,xd _⟩;refine L.SX h3 h4 λz=>?_;rcases h5 with h5|h5
 . rw[h5]at z;cases z
 . exact h5
theorem gN(hr0:L2.xA k X.A):L2.OpR X (Ba .Eq) (rM2 X.K X.d (zS .a)):=by
 intro pins s σ H x y v u Q I rx ry h;obtain⟨ρ,t,a,b,hr,ra,rb,w⟩:=h;simp only[zS,lS]at w;split at w
 . rename_i p q
   cases ra;cases rb;have e:decide (L2.V.e p=L2.V.e q)=decide (p=q):=by rw[CP];simp
   refine L2.Y0 pins s σ H _ _ v u Q I rx ry ⟨rfl,?_⟩;rw[e];exact zM hr (.j _) w
 . rename_i a ns
   cases rb with
   |p g=>
    by_cases hc:((zu t (.f a)).isD&&(Val.f (ns.map .c)).isD&&decide ((Val.f (ns.map .c)).d.depth<=60))=true
    . rw[if_pos hc]at w
      simp only[cf,decide_eq_true_eq]at hc;obtain⟨as,r1,_⟩:=yw I.j hr (yq hc.1.1) ra rx;obtain⟨its,rv,p1,_⟩:=I.tuple g.sqt;obtain⟨o,ho,hcl,n,hd⟩:=id p1;obtain⟨bs,q,_⟩:=RDs.reads I.j (RDs.ints (K:=X.K) (mg:=X.d) (ρ:=ρ) (H:=H) ns) (yq hc.1.2) rv;have r2:Reads s.heap u (Val.f (ns.map .c)).d bs:=by cases ry;exact .tuple ho hcl hd (by simpa using q)
      have hu:=hr0.b;have hm:=D4 (zu t (.f a)).d.depth (Val.f (ns.map .c)).d.depth;exact SeqAt.compareEq_reads r1 r2 (yI hc.1.1) (yI hc.1.2) (by omega) ⟨.f _,H,I,rfl,zM hr (.j _) w⟩
    . rw[if_neg hc]at w;exact w.elim
 . by_cases hc:((zu t a).isD&&(zu t b).isD&&decide ((zu t b).d.depth<=60))=true
   . rw[if_pos hc]at w
     simp only[cf,decide_eq_true_eq]at hc;obtain⟨as,r1,_⟩:=yw I.j hr (yq hc.1.1) ra rx;obtain⟨bs,r2,_⟩:=yw I.j hr (yq hc.1.2) rb ry;have hu:=hr0.b;have hm:=D4 (zu t a).d.depth (zu t b).d.depth;exact SeqAt.compareEq_reads r1 r2 (yI hc.1.1) (yI hc.1.2) (by omega) ⟨.f _,H,I,rfl,zM hr (.j _) w⟩
   . rw[if_neg hc]at w;exact w.elim
theorem gT(hr0:L2.xA k X.A):L2.OpR X (Ba .NotEq) (rM2 X.K X.d (zS .c)):=by
 intro pins s σ H x y v u Q I rx ry h;obtain⟨ρ,t,a,b,hr,ra,rb,w⟩:=h;simp only[zS,lS]at w;split at w
 . rename_i p q
   cases ra;cases rb;have e:decide (L2.V.e p=L2.V.e q)=decide (p=q):=by rw[CP];simp
   refine L2.Y5 pins s σ H _ _ v u Q I rx ry ⟨rfl,?_⟩;rw[e];exact zM hr (.j _) w
 . by_cases hc:((zu t a).isD&&(zu t b).isD&&decide ((zu t b).d.depth<=60))=true
   . rw[if_pos hc]at w
     simp only[cf,decide_eq_true_eq]at hc;obtain⟨as,r1,_⟩:=yw I.j hr (yq hc.1.1) ra rx;obtain⟨bs,r2,_⟩:=yw I.j hr (yq hc.1.2) rb ry;have hu:=hr0.b;have hm:=D4 (zu t a).d.depth (zu t b).d.depth;exact SeqAt.compareNe_reads r1 r2 (yI hc.1.1) (yI hc.1.2) (by omega) ⟨.f _,H,I,rfl,zM hr (.j _) w⟩
   . rw[if_neg hc]at w;exact w.elim
theorem RD.isNone(r:RD K mg ρ H v x):decide (x=.g)=v.isN:=by
 cases r<;>first|rfl|exact decide_eq_false (λz=>nomatch z)
theorem gQ:L2.OpR X (Ba .Is) (rM2 X.K X.d (zS .j)):=by
 intro pins s σ H x y v u Q I rx ry h;obtain⟨ρ,t,a,b,hr,ra,rb,w⟩:=h;cases rb with
 |A=>
  refine L2.VA pins s σ H _ _ v u Q I rx ry ⟨rfl,?_⟩;rw[ra.isNone];exact zM hr (.j _) w
 |j c=>
  cases ra with
  |j d=>cases rx;cases ry;cases c<;>cases d<;>exact Ab ⟨.f _,H,I,rfl,zM hr (.j _) w⟩
  |_=>exact w.elim
 |_=>exact w.elim
theorem nE:L2.OpR X (Ba .IsNot) (rM2 X.K X.d (zS .d)):=by
 intro pins s σ H x y v u Q I rx ry h;obtain⟨ρ,t,a,b,hr,ra,rb,w⟩:=h;cases rb with
 |A=>
  refine L2.Zp pins s σ H _ _ v u Q I rx ry ⟨rfl,?_⟩;rw[ra.isNone];exact zM hr (.j _) w
 |j c=>
  cases ra with
  |j d=>cases rx;cases ry;cases c<;>cases d<;>exact Ab ⟨.f _,H,I,rfl,zM hr (.j _) w⟩
  |_=>exact w.elim
 |_=>exact w.elim
theorem gS:L2.OpR X (Ba .Lt) (rM2 X.K X.d (zS .k)):=by
 intro pins s σ H x y v u Q I rx ry h;obtain⟨ρ,t,a,b,hr,ra,rb,w⟩:=h;simp only[zS]at w;split at w
 . cases ra;cases rb
   exact L2.TR pins s σ H _ _ v u Q I rx ry ⟨_,_,rfl,rfl,zM hr (.j _) w⟩
 . exact w.elim
theorem gR:L2.OpR X (Ba .LtE) (rM2 X.K X.d (zS .b)):=by
 intro pins s σ H x y v u Q I rx ry h;obtain⟨ρ,t,a,b,hr,ra,rb,w⟩:=h;simp only[zS]at w;split at w
 . cases ra;cases rb
   exact L2.TQ pins s σ H _ _ v u Q I rx ry ⟨_,_,rfl,rfl,zM hr (.j _) w⟩
 . exact w.elim
theorem gP:L2.OpR X (Ba .Gt) (rM2 X.K X.d (zS .h)):=by
 intro pins s σ H x y v u Q I rx ry h;obtain⟨ρ,t,a,b,hr,ra,rb,w⟩:=h;simp only[zS]at w;split at w
 . cases ra;cases rb
   exact L2.TN pins s σ H _ _ v u Q I rx ry ⟨_,_,rfl,rfl,zM hr (.j _) w⟩
 . exact w.elim
theorem gO:L2.OpR X (Ba .GtE) (rM2 X.K X.d (zS .i)):=by
 intro pins s σ H x y v u Q I rx ry h;obtain⟨ρ,t,a,b,hr,ra,rb,w⟩:=h;simp only[zS]at w;split at w
 . cases ra;cases rb
   exact L2.TM pins s σ H _ _ v u Q I rx ry ⟨_,_,rfl,rfl,zM hr (.j _) w⟩
 . exact w.elim
noncomputable def Cop.op:Cop->CmpOp
 |.a=>.Eq|.c=>.NotEq|.k=>.Lt|.b=>.LtE|.h=>.Gt|.i=>.GtE|.j=>.Is|.d=>.IsNot|.m=>.In|.g=>.NotIn|.l=>.In|.e=>.NotIn|.f=>.NotIn
noncomputable def okC:Cop->Bool
 |.m|.g|.l|.e|.f=>false
 |_=>true
theorem vM(hr0:L2.xA k X.A):∀op:Cop,okC op=true->L2.OpR X (Ba op.op) (rM2 X.K X.d (zS op))
 |.a,_=>gN hr0
 |.c,_=>gT hr0
 |.k,_=>gS
 |.b,_=>gR
 |.h,_=>gP
 |.i,_=>gO
 |.j,_=>gQ
 |.d,_=>nE
 |.m,h=>by cases h
 |.g,h=>by cases h
 |.l,h=>by cases h
 |.e,h=>by cases h
 |.f,h=>by cases h
noncomputable def Bop.op:Bop->Operator
 |.a=>.Add|.g=>.Sub|.b=>.Mult|.e=>.FloorDiv|.c=>.Mod|.d=>.Pow|.h=>.LShift|.i=>.RShift|.f=>.BitAnd
noncomputable def okB:Bop->Bool
 |.h|.i|.f=>false
 |_=>true
theorem cK m:∀op:Bop,okB op=true->L2.OpR X (Bw op.op) (rM2 X.K X.d (binOp m op))
 |.a,_=>l8 m
 |.g,_=>kC m
 |.b,_=>kA m
 |.e,_=>mW m
 |.c,_=>l9 m
 |.d,_=>kB m
 |.h,h=>by cases h
 |.i,h=>by cases h
 |.f,h=>by cases h
theorem Us:L2.IxR X (rM2 X.K X.d vp):=by
 intro value slice pins s σ H x y v u Q I rx ry h hs;obtain⟨ρ,t,a,b,hr,ra,rb,w⟩:=h;simp only[vp]at w;split at w
 . split at w
   . rename_i vs e
     split at w
     . rename_i z hz
       obtain⟨p,xs,rfl,hq,q⟩:=nT hr ra e;cases rb;obtain⟨xz,h1,h2⟩:=aR q hz;refine L2.WK value slice pins s σ H _ _ v u Q I rx ry ?_ hs;rcases hq with hq|hq
       . exact .inl ⟨p,xs,_,xz,rfl,rfl,hq,h1,zM hr h2 w⟩
       . exact .inr (.inl ⟨p,xs,_,xz,rfl,rfl,hq,h1,zM hr h2 w⟩)
     . exact w.elim
   . exact w.elim
 . exact w.elim
end
end M
end
section
namespace M
open PySem
noncomputable def Bf.nm:Bf->Str
 |.a=>"len"|.p=>"all"|.q=>"any"|.c=>"tuple"|.j=>"list"|.g=>"sorted"|.h=>"repr"|.k=>"max"|.l=>"min"|.s=>"sum"|.o=>"int"|.i=>"isinstance"|.d=>"divmod"|.r=>"str"|.b=>"sorted"|.n=>"min"|.e=>"sorted"|.m=>"min"
noncomputable def Bf.val:Bf->Value
 |.a=>.builtin "len"|.p=>.builtin "all"|.q=>.builtin "any"|.c=>.type "tuple"|.j=>.type "list"|.g=>.builtin "sorted"|.h=>.builtin "repr"|.k=>.builtin "max"|.l=>.builtin "min"|.s=>.builtin "sum"|.o=>.type "int"
 |.i=>.builtin "isinstance"|.d=>.builtin "divmod"|.r=>.type "str"|.b=>.builtin "sorted"|.n=>.builtin "min"|.e=>.builtin "sorted"|.m=>.builtin "min"
theorem Bf.boot:∀f:Bf,BV f.nm=some f.val
 |.a=>boot_len|.p=>PyProof.Rows.boot_all|.q=>PyProof.Rows.boot_any|.c=>FQ|.j=>PyProof.Rows.boot_list|.g=>DF|.h=>PyProof.Rows.boot_repr|.k=>PyProof.Rows.boot_max|.l=>Ei
 |.s=>PyProof.Rows.boot_sum|.o=>PyProof.Rows.boot_int|.i=>PyProof.Rows.boot_isinstance|.d=>PyProof.Rows.boot_divmod|.r=>PyProof.Rows.boot_str|.b=>DF|.n=>Ei|.e=>DF|.m=>Ei
section
variable {X:L2.Cx}{k:Nat}{m:Bool}
theorem uo(r:RDs K mg ρ H [v] xs):∃x,xs=[x]/\RD K mg ρ H v x:=by
 cases r with
 |a r1 r2=>cases r2;exact⟨_,rfl,r1⟩
theorem gh(r:RDs K mg ρ H [v,w] xs):∃x y,xs=[x,y]/\RD K mg ρ H v x/\RD K mg ρ H w y:=by
 cases r with
 |a r1 r2=>
  obtain⟨y,rfl,r3⟩:=uo r2;exact⟨_,_,rfl,r1,r3⟩
theorem fg:L2.yB X (.builtin "len") (rMc X.K X.d (blt .a m)):=by
 intro pins s σ H xs us Q I r h;obtain⟨ρ,t,vs,hr,rv,w⟩:=h;simp only[blt]at w;split at w
 . split at w
   . rename_i hz
     obtain⟨x,rfl,rx⟩:=uo rv;cases rx;exact L2.oU pins s σ H _ us Q I r ⟨_,rfl,by rw[<-yf];exact hz,zM hr (.l _) w⟩
   . exact w.elim
 . split at w
   . rename_i e
     obtain⟨x,rfl,rx⟩:=uo rv;obtain⟨p,ys,rfl,hq,q⟩:=nT hr rx e;refine L2.oS pins s σ H _ us Q I r ⟨p,ys,rfl,hq,?_⟩;rw[<-q.length];exact zM hr (.l _) w
   . exact w.elim
 . exact w.elim
theorem rh(hc:X.j=true):L2.yB X (.builtin "all") (rMc X.K X.d (blt .p m)):=by
 intro pins s σ H xs us Q I r h;obtain⟨ρ,t,vs,hr,rv,w⟩:=h;simp only[blt]at w;split at w
 . split at w
   . rename_i e
     split at w
     . rename_i bs eb
       obtain⟨x,rfl,rx⟩:=uo rv;obtain⟨p,ys,rfl,hq,q⟩:=xy hr rx e;rw[q.bools eb]at hq;exact L2.rh hc pins s σ H _ us Q I r ⟨p,bs,rfl,.of hq,zM hr (.j _) w⟩
     . exact w.elim
   . exact w.elim
 . exact w.elim
theorem lN:L2.yB X (.type "tuple") (rMc X.K X.d (blt .c m)):=by
 intro pins s σ H xs us Q I r h;obtain⟨ρ,t,vs,hr,rv,w⟩:=h;simp only[blt]at w;split at w
 . obtain⟨x,rfl,rx⟩:=uo rv
   cases rx with
   |m n e q=>exact L2.uW pins s σ H _ us Q I r ⟨_,_,rfl,.inr ⟨.of e,zM hr (.m n e q) w⟩⟩
 . split at w
   . rename_i e
     obtain⟨x,rfl,rx⟩:=uo rv;obtain⟨p,ys,rfl,hq,q⟩:=xy hr rx e;exact L2.uW pins s σ H _ us Q I r ⟨p,ys,rfl,.inl ⟨.of hq,ox hr q w⟩⟩
   . exact w.elim
 . exact w.elim
theorem iN:L2.yB X (.type "list") (rMc X.K X.d (blt .j m)):=by
 intro pins s σ H xs us Q I r h;obtain⟨ρ,t,vs,hr,rv,w⟩:=h;simp only[blt]at w;split at w
 . split at w
   . rename_i e
     obtain⟨x,rfl,rx⟩:=uo rv;obtain⟨p,ys,rfl,hq,q⟩:=nT hr rx e;exact L2.oV pins s σ H _ us Q I r ⟨p,ys,rfl,hq,vL hr q w⟩
   . exact w.elim
 . exact w.elim
theorem fk(hr0:L2.xA k X.A):L2.yB X (.builtin "repr") (rMc X.K X.d (blt .h m)):=by
 intro pins s σ H xs us Q I r h;obtain⟨ρ,t,vs,hr,rv,w⟩:=h;simp only[blt]at w;split at w
 . rename_i v
   split at w
   . rename_i hc
     rw[cf]at hc;obtain⟨x,rfl,rx⟩:=uo rv;obtain⟨u,rfl,ru⟩:=L2.vals1 r;have S:=TF hc.2;have q:Q (.e (zu t v).d.shown) H:=zM hr (.D _) w;have fin:∀(tk':Tok) (tk:Nat),L2.EP X pins σ Q (.str (zu t v).d.shown tk') {s with toks:=tk}:=λ_ tk=>⟨.e _,H,I.tok _,⟨_,rfl⟩,q⟩
     obtain⟨as,R,hs⟩:=yw I.j hr hc.1 rx ru;have fr:∀a,u=.ref a->wpAny (model X.f X.w) X.A (call (.builtin "repr") [u]) (L2.EP X pins σ Q) X.i s:=λa e=>by subst e;refine repr_of_reads' R S.sh (λz=>hs (S.a z)) hr0.d ?_ (λ_ _ e=>e) (λh' u tk hk=>⟨.e _,H,I.kept hk,⟨_,rfl⟩,q⟩) S.ln;have:=S.dp;have:=hr0.b;omega
     cases rx with
     |A=>cases (show u=Cg from ru);exact PySem.P.repr_of_none (fin _ _)
     |j b=>cases (show u=CO b from ru);exact PySem.P.repr_of_bool (fin _ _)
     |l i=>obtain⟨t',z⟩:=(show ∃t,u=FV i t from ru);cases z;exact PySem.P.repr_of_int (by simpa [zu,yh,Val.d,PyData.showable] using S.sh) (fin _ _)
     |D x=>obtain⟨t',z⟩:=(show ∃t,u=FW x t from ru);cases z;exact PySem.P.repr_of_str (fin _ _) S.ln
     |m _ _ _=>exact fr _ ru
     |E _ _ _=>exact fr _ ru
     |B _ _=>exact fr _ ru
     |C _ _=>exact fr _ ru
     |p _=>exact fr _ ru
     |G _=>exact fr _ ru
     |I _=>exact fr _ ru
     |J _=>exact absurd hc.1 (by simp[zu,yh,Val.isR])
     |s _ _=>exact fr _ ru
     |F _ _=>exact fr _ ru
   . exact w.elim
 . exact w.elim
theorem fh(hc:X.j=true):L2.yB X (.builtin "max") (rMc X.K X.d (blt .k m)):=by
 intro pins s σ H xs us Q I r h;obtain⟨ρ,t,vs,hr,rv,w⟩:=h;simp only[blt]at w;split at w
 . obtain⟨x,y,rfl,rx,ry⟩:=gh rv
   cases rx;cases ry;exact L2.iO hc pins s σ H _ us Q I r ⟨_,_,rfl,zM hr (.l _) w⟩
 . split at w
   . rename_i ns en
     split at w
     . rename_i hn
       obtain⟨x,rfl,rx⟩:=uo rv;cases rx with
       |m n e q=>
        rw[q.qH en]at e;exact L2.iQ hc pins s σ H _ us Q I r ⟨_,ns,rfl,.of e,hn,zM hr (.l _) w⟩
     . exact w.elim
   . exact w.elim
 . split at w
   . rename_i e
     split at w
     . rename_i ns en
       split at w
       . rename_i hn
         obtain⟨x,rfl,rx⟩:=uo rv;obtain⟨p,ys,rfl,hq,q⟩:=xy hr rx e;rw[q.qH en]at hq;exact L2.iP hc pins s σ H _ us Q I r ⟨p,ns,rfl,.of hq,hn,zM hr (.l _) w⟩
       . exact w.elim
     . exact w.elim
   . exact w.elim
 . exact w.elim
theorem fj(hc:X.j=true):L2.yB X (.builtin "min") (rMc X.K X.d (blt .l m)):=by
 intro pins s σ H xs us Q I r h;obtain⟨ρ,t,vs,hr,rv,w⟩:=h;simp only[blt]at w;split at w
 . obtain⟨x,y,rfl,rx,ry⟩:=gh rv
   cases rx;cases ry;exact L2.iR hc pins s σ H _ us Q I r ⟨_,_,rfl,zM hr (.l _) w⟩
 . split at w
   . rename_i ns en
     split at w
     . rename_i hn
       obtain⟨x,rfl,rx⟩:=uo rv;cases rx with
       |m n e q=>
        rw[q.qH en]at e;exact L2.lL hc pins s σ H _ us Q I r ⟨_,ns,rfl,.of e,hn,zM hr (.l _) w⟩
     . exact w.elim
   . exact w.elim
 . split at w
   . rename_i e
     split at w
     . rename_i ns en
       split at w
       . rename_i hn
         obtain⟨x,rfl,rx⟩:=uo rv;obtain⟨p,ys,rfl,hq,q⟩:=xy hr rx e;rw[q.qH en]at hq;exact L2.iS hc pins s σ H _ us Q I r ⟨p,ns,rfl,.of hq,hn,zM hr (.l _) w⟩
       . exact w.elim
     . exact w.elim
   . exact w.elim
 . exact w.elim
theorem fZ:L2.yB X (.type "int") (rMc X.K X.d (blt .o m)):=by
 intro pins s σ H xs us Q I r h;obtain⟨ρ,t,vs,hr,rv,w⟩:=h;simp only[blt]at w;split at w
 . obtain⟨x,rfl,rx⟩:=uo rv
   cases rx;exact L2.pJ pins s σ H _ us Q I r (.inl ⟨_,rfl,zM hr (.l _) w⟩)
 . obtain⟨x,rfl,rx⟩:=uo rv
   cases rx;exact L2.pJ pins s σ H _ us Q I r (.inr ⟨_,rfl,zM hr (.l _) w⟩)
 . exact w.elim
theorem rj:L2.yB X (.builtin "isinstance") (rMc X.K X.d (blt .i m)):=by
 intro pins s σ H xs us Q I r h;obtain⟨ρ,t,vs,hr,rv,w⟩:=h;simp only[blt]at w;split at w
 . split at w
   . rename_i ea ec
     obtain⟨x,y,rfl,rx,ry⟩:=gh rv;cases ry;obtain⟨e1,e2⟩:=U5 ec;subst e1;exact L2.rj pins s σ H _ us Q I r ⟨_,_,_,_,rfl,Sv hr rx ea,L2.W0 X.K _ _ e2,zM hr (.j _) w⟩
   . exact w.elim
 . exact w.elim
theorem vf:L2.yB X (.builtin "divmod") (rMc X.K X.d (blt .d m)):=by
 intro pins s σ H xs us Q I r h;obtain⟨ρ,t,vs,hr,rv,w⟩:=h;simp only[blt]at w;split at w
 . split at w
   . rename_i hz
     obtain⟨x,y,rfl,rx,ry⟩:=gh rv;cases rx;cases ry;exact L2.vf pins s σ H _ us Q I r ⟨_,_,rfl,hz,ox hr (.a (.l _) (.a (.l _) .d)) w⟩
   . exact w.elim
 . exact w.elim
theorem insI_perm z:∀l:List Int,(insI z l).Perm (z::l)
 |[]=>.refl _
 |y::ys=>by
  unfold insI;split
  . exact .refl _
  . exact((insI_perm z ys).cons y).trans (.swap z y ys)
theorem sortI_perm:∀l:List Int,(sortI l).Perm l
 |[]=>.refl _
 |z::zs=>(insI_perm z _).trans ((sortI_perm zs).cons z)
theorem jg z:∀{l},l.Pairwise (·<=·)->(insI z l).Pairwise (·<=·)
 |[],_=>List.pairwise_singleton _ _
 |y::ys,h=>by
  rw[List.pairwise_cons]at h;unfold insI;split
  . rename_i hz
    exact .cons (λx hx=>by rcases Ak.mp hx with rfl|hx;exact hz;exact Es hz (h.1 x hx)) (.cons h.1 h.2)
  . rename_i hz
    exact .cons (λx hx=>by rcases Ak.mp ((insI_perm z ys).mem_iff.mp hx) with rfl|hx;omega;exact h.1 x hx) (jg z h.2)
theorem m5:∀l:List Int,(sortI l).Pairwise (·<=·)
 |[]=>.nil
 |z::zs=>jg z (m5 zs)
theorem oW:L2.yB X (.builtin "sorted") (rMc X.K X.d (blt .b m)):=by
 intro pins s σ H xs us Q I r h;obtain⟨ρ,t,vs,hr,rv,w⟩:=h;simp only[blt]at w;split at w
 . split at w
   . rename_i e
     split at w
     . rename_i ns ei
       split at w
       . rename_i hz
         obtain⟨x,rfl,rx⟩:=uo rv;obtain⟨p,ys,rfl,hq,q⟩:=nT hr rx e;obtain rfl:=RDs.qH q ei;refine L2.lM pins s σ H _ us Q I r ⟨p,ns,rfl,hq,hz,λl ns' hl hp ho=>?_⟩;obtain rfl:ns'=sortI ns:=List.Perm.eq_of_pairwise (λa b _ _ h1 h2=>F0 h1 h2) ho (m5 ns) (hp.trans (sortI_perm ns).symm);exact vL hr (RDs.ints _) w l hl
       . exact w.elim
     . exact w.elim
   . exact w.elim
 . exact w.elim
noncomputable def okF:Bf->Bool
 |.q|.g|.s|.r|.n|.e|.m=>false
 |_=>true
theorem aU(hc:X.j=true)(hr0:L2.xA k X.A):∀f m,okF f=true->L2.yB X f.val (rMc X.K X.d (blt f m))
 |.a,_,_=>fg
 |.p,_,_=>rh hc
 |.q,_,h=>by cases h
 |.c,_,_=>lN
 |.j,_,_=>iN
 |.g,_,h=>by cases h
 |.h,_,_=>fk hr0
 |.k,_,_=>fh hc
 |.l,_,_=>fj hc
 |.s,_,h=>by cases h
 |.o,_,_=>fZ
 |.i,_,_=>rj
 |.d,_,_=>vf
 |.r,_,h=>by cases h
 |.b,_,_=>oW
 |.e,_,h=>by cases h
 |.n,_,h=>by cases h
 |.m,_,h=>by cases h
end
end M
end
section
namespace M
open PySem
noncomputable def Out.isOk{α:Type}:Out α->Bool
 |.e _ _=>true
 |.g _ _ _|.d=>false
theorem zD{o:Out α}(h:o.isOk=false)v s:o≠.e v s:=λe=>by subst e;cases h
noncomputable def plain:Expr->Bool
 |.Starred ..|.Set ..|.Slice ..|.SetComp ..=>false
 |_=>true
theorem zT(h:plain e=true):L2.noStar e=true:=by cases e<;>first|rfl|cases h
theorem yr(h:plain e=true):Dh op e=false:=by cases e<;>first|rfl|cases h
theorem bG(h:plain e=true):L2.jD e:=by intro o i;cases e<;>first|rfl|cases h
theorem zk(h:plain e=true)x:AR e env x=pure x:=by cases e<;>first|rfl|cases h
noncomputable def rL:Expr->Bool
 |.Call (.Name _ _) [] [] _=>false
 |_=>true
theorem uF(h:rL o=true):CN o name env (eval o env)=eval o env:=by
 unfold CN;split
 . cases h
 . rfl
noncomputable def plainT:Expr->Bool
 |.UnaryOp .Not _ _|.BoolOp ..|.IfExp ..|.Compare ..=>false
 |_=>true
theorem pX(h:plainT e=true)whole:isTrue e env whole=(do let v <-whole;standAt e.pos;holding [v] (truthy v)):=by
 cases e with
 |UnaryOp op a p=>cases op<;>first|rfl|cases h
 |_=>first|rfl|cases h
def zc:List Expr->Bool
 |[]=>true
 |e::es=>plain e&&zc es
theorem yt:∀{es} {pos} {env},zc es=true->(backTo pos (AD es env)).any (·.1)=false
 |[],_,_,_=>rfl
 |e::es,pos,env,h=>by
  rw[zc,cf]at h;rw[L2.ze (zT h.1)];show (false||(backTo pos (AD es env)).any (·.1))=false
  rw[yt h.2];rfl
section
variable {K:KF}{mg:Str->Option Value}{env:Env}{s s1:Sto}{ρ ρ':Own}{H H':L2.Hp}
theorem yL.mono(w:yL K mg R ρ H o Q)(x:Ext ρ H ρ' H')(h:HR K mg ρ' s1 H'):yL K mg R ρ' H' o Q:=by
 cases o with
 |e v s'=>exact λρ2 y H2 x2 h2 r2=>w ρ2 y H2 (x.trans h x2) h2 r2
 |_=>exact w
end
section
variable {X:L2.Cx}{env:Env}{s:Sto}{E a b c:Expr}
theorem zJ{o:Out Val}(h:∀v s',o≠.e v s'):L2.PE X E (tV X.K X.d env s o):=yP λ_ _ _=>Sq h
theorem un1{g:Val->Sto->Out Val}(h:L2.PE X a (tV X.K X.d env s o))(rule:∀ta,L2.PE X a ta->L2.PE X E (L2.tUn r ta))
 (op:∀ρ H s1 v x Q,HR X.K X.d ρ s1 H->RD X.K X.d ρ H v x->yL X.K X.d (RD X.K X.d) ρ H (g v s1) Q->r x H Q):L2.PE X E (tV X.K X.d env s (o.bind g)):=by
 cases o with
 |e v s1=>exact zU (rule _ h) λσ H Q ⟨ρ,hr,er,w⟩=>⟨ρ,hr,er,λρ1 x H1 x1 hr1 r1=>op ρ1 H1 s1 v x Q hr1 r1 (w.mono x1 hr1)⟩
 |g _ _ _=>exact zJ (zD rfl)
 |d=>exact zJ (zD rfl)
theorem Xo{f2:Sto->Out Val}(h1:L2.PE X a (tV X.K X.d env s o))(h2:∀s1,L2.PE X b (tV X.K X.d env s1 (f2 s1)))
 (rule:∀ta tb,L2.PE X a ta->L2.PE X b tb->L2.PE X E (L2.tOp (rM2 X.K X.d g) ta tb)):L2.PE X E (tV X.K X.d env s (o.bind λx s1=>(f2 s1).bind λy s2=>g x y s2)):=by
 cases o with
 |e v s1=>
  show L2.PE X E (tV X.K X.d env s ((f2 s1).bind λy s2=>g v y s2));have h2':=h2 s1;cases hb:f2 s1 with
  |e w s2=>
   rw[hb]at h2';exact zU (rule _ _ h1 h2') λσ H Q ⟨ρ,hr,er,wt⟩=>⟨ρ,hr,er,λρ1 x H1 x1 hr1 r1=>⟨ρ1,hr1,er.mono x1,λρ2 y H2 x2 hr2 r2=>⟨ρ2,s2,v,w,hr2,r1.mono x2,r2,wt.mono (x1.trans hr1 x2) hr2⟩⟩⟩
  |g _ _ _=>exact zJ (zD rfl)
  |d=>exact zJ (zD rfl)
 |g _ _ _=>exact zJ (zD rfl)
 |d=>exact zJ (zD rfl)
theorem dO{op op':Cop}{o:Out Val}{f2 f3:Sto->Out Val}{k:Nat}{pos:Pos}(k1:okC op=true)(k2:okC op'=true)(hr0:L2.xA k X.A)(h1:L2.PE X a (tV X.K X.d env s o))(h2:∀s1,L2.PE X b (tV X.K X.d env s1 (f2 s1)))(h3:∀s1,L2.PE X c (tV X.K X.d env s1 (f3 s1)))(hm:plain c=true) :
 L2.PE X (.Compare a [op.op,op'.op] [b,c] pos) (tV X.K X.d env s (o.bind λx s1=>(f2 s1).bind λy s2=>(zS op x y s2).bind λr s3=>match r with
  |.e true=>(f3 s3).bind λz s4=>zS op' y z s4
  |.e false=>.e (.e false) s3
  |_=>.d)):=by
 cases o with
 |e v s1=>
  have h2':=h2 s1;show L2.PE X _ (tV X.K X.d env s ((f2 s1).bind _));cases hb:f2 s1 with
  |e w s2=>
   rw[hb]at h2';show L2.PE X _ (tV X.K X.d env s ((zS op v w s2).bind _));cases hc:zS op v w s2 with
   |e r s3=>
    cases r with
    |e t=>
     have h3':=h3 s3;have rule:=L2.cn (pos:=pos) (vM hr0 op k1) (vM hr0 op' k2) h1 h2' h3' (show Gz [op.op,op'.op] [b,c]=false from yr hm);refine zU rule λσ H Q ⟨ρ,hr,er,wt⟩=>⟨ρ,hr,er,λρ1 x H1 x1 hr1 r1=>⟨ρ1,hr1,er.mono x1,λρ2 y H2 x2 hr2 r2=>⟨ρ2,s2,v,w,hr2,r1.mono x2,r2,?_⟩⟩⟩;rw[hc];intro ρ3 z H3 x3 hr3 r3;cases r3;refine⟨t,rfl,?_⟩;have xx:=(x1.trans hr1 x2).trans hr2 x3;have wt':=wt.mono xx hr3;cases t with
     |true=>
      rw[if_pos rfl];refine⟨ρ3,hr3,er.mono xx,?_⟩;have wt2:yL X.K X.d (RD X.K X.d) ρ3 H3 ((f3 s3).bind λz s4=>zS op' w z s4) Q:=wt';cases hz:f3 s3 with
      |e u s4=>
       rw[hz]at wt2;exact λρ4 q H4 x4 hr4 r4=>⟨ρ4,s4,w,u,hr4,(r2.mono x3).mono x4,r4,wt2.mono x4 hr4⟩
      |g _ _ _=>rw[hz]at wt2;exact wt2
      |d=>rw[hz]at wt2;exact wt2
     |false=>
      rw[if_neg Aj];exact zM hr3 (.j false) wt'
    |_=>exact zJ (zD rfl)
   |g _ _ _=>exact zJ (zD rfl)
   |d=>exact zJ (zD rfl)
  |g _ _ _=>exact zJ (zD rfl)
  |d=>exact zJ (zD rfl)
 |g _ _ _=>exact zJ (zD rfl)
 |d=>exact zJ (zD rfl)
theorem Wi{o:Out Val}{pos:Pos}(h:L2.PE X a (tV X.K X.d env s o)):L2.PE X (.UnaryOp .USub a pos) (tV X.K X.d env s (o.bind λx s1=>match x with|.c i=>.e (.c (-i)) s1|_=>.d)):=by
 refine un1 h (λta q=>L2.Tt L2.UH q) λρ H s1 v x Q hr r w=>?_;cases r with
 |l i=>exact⟨i,rfl,zM hr (.l _) w⟩
 |_=>exact w.elim
theorem Wj{o:Out Val}{pos:Pos}(h:L2.PE X a (tV X.K X.d env s o)):L2.PE X (.UnaryOp .Not a pos) (tV X.K X.d env s (o.bind λx s1=>match x with|.e b=>.e (.e !b) s1|_=>.d)):=by
 refine un1 (r:=λx H Q=>∃c,x=.f c/\Q (.f (!c)) H) h (λta q=>L2.Va q) λρ H s1 v x Q hr r w=>?_;cases r with
 |j i=>exact⟨i,rfl,zM hr (.j _) w⟩
 |_=>exact w.elim
theorem dJ{rest:List Expr}{o:Out Val}{f2:Sto->Out Val}{pos:Pos}(h1:L2.PE X a (tV X.K X.d env s o))(h2:∀s1,L2.PE X (.BoolOp .And (b::rest) pos) (tV X.K X.d env s1 (f2 s1))) :
 L2.PE X (.BoolOp .And (a::b::rest) pos) (tV X.K X.d env s (o.bind λx s1=>match x with|.e true=>f2 s1|.e false=>.e (.e false) s1|_=>.d)):=by
 cases o with
 |e v s1=>
  refine zU (L2.VV h1 (h2 s1)) λσ H Q ⟨ρ,hr,er,wt⟩=>⟨ρ,hr,er,λρ1 x H1 x1 hr1 r1=>?_⟩;have wt':=wt.mono x1 hr1;cases r1 with
  |j t=>
   refine⟨t,rfl,?_⟩;cases t with
   |true=>exact L2.sG (⟨ρ1,hr1,er.mono x1,wt'⟩)
   |false=>exact L2.uR (zM hr1 (.j _) wt')
  |_=>exact wt'.elim
 |g _ _ _=>exact zJ (zD rfl)
 |d=>exact zJ (zD rfl)
theorem Uy{rest:List Expr}{o:Out Val}{f2:Sto->Out Val}{pos:Pos}(h1:L2.PE X a (tV X.K X.d env s o))(h2:∀s1,L2.PE X (.BoolOp .Or (b::rest) pos) (tV X.K X.d env s1 (f2 s1))) :
 L2.PE X (.BoolOp .Or (a::b::rest) pos) (tV X.K X.d env s (o.bind λx s1=>match truth s1 x with|some false=>f2 s1|some true=>.e x s1|dr=>.d)):=by
 cases o with
 |e v s1=>
  refine zU (L2.Vb h1 (h2 s1)) λσ H Q ⟨ρ,hr,er,wt⟩=>⟨ρ,hr,er,λρ1 x H1 x1 hr1 r1=>?_⟩;have wt':yL X.K X.d (RD X.K X.d) ρ1 H1 (match truth s1 v with|some false=>f2 s1|some true=>.e v s1|dr=>.d) Q:=wt.mono x1 hr1
  cases ht:truth s1 v with
  |none=>rw[ht]at wt';exact wt'.elim
  |some t=>
   rw[ht]at wt';refine⟨t,b9 hr1 r1 ht,?_⟩;cases t with
   |true=>exact L2.sG (zM hr1 r1 wt')
   |false=>exact L2.uR (⟨ρ1,hr1,er.mono x1,wt'⟩)
 |g _ _ _=>exact zJ (zD rfl)
 |d=>exact zJ (zD rfl)
theorem Wh{f2 f3:Sto->Out Val}(h1:L2.PT X c (tT X.K X.d env s o))(h2:∀s1,L2.PE X a (tV X.K X.d env s1 (f2 s1)))(h3:∀s1,L2.PE X b (tV X.K X.d env s1 (f3 s1))) :
 L2.PE X (.IfExp c a b pos) (tV X.K X.d env s (o.bind λt s1=>if t then f2 s1 else f3 s1)):=by
 cases o with
 |e v s1=>
  refine zU (L2.mf h1 (h2 s1) (h3 s1)) λσ H Q ⟨ρ,hr,er,wt⟩=>⟨ρ,hr,er,λρ1 x H1 x1 hr1 r1=>?_⟩;have wt':=wt.mono x1 hr1;cases r1;cases v with
  |true=>exact L2.sG (⟨ρ1,hr1,er.mono x1,wt'⟩)
  |false=>exact L2.uR (⟨ρ1,hr1,er.mono x1,wt'⟩)
 |g _ _ _=>exact zJ (zD rfl)
 |d=>exact zJ (zD rfl)
theorem tM{o:Out (List Val)}(h:∀v s',o≠.e v s'):L2.PA X es (tVs X.K X.d env s o):=Tn λ_ _ _=>V5 h
theorem jk:L2.PA X [] (tVs X.K X.d env s (.e [] s)):=cZ L2.yT λσ H Q ⟨ρ,hr,er,wt⟩=>wt ρ [] H Ext.refl hr .d
theorem mJ{f2:Sto->Out (List Val)}(hp:plain a=true)(h1:L2.PE X a (tV X.K X.d env s o))(h2:∀s1,L2.PA X es (tVs X.K X.d env s1 (f2 s1))) :
 L2.PA X (a::es) (tVs X.K X.d env s (o.bind λv s1=>(f2 s1).bind λvs s2=>.e (v::vs) s2)):=by
 cases o with
 |e v s1=>
  have h2':=h2 s1;show L2.PA X _ (tVs X.K X.d env s ((f2 s1).bind _));cases hb:f2 s1 with
  |e ws s2=>
   rw[hb]at h2';exact cZ (L2.pac h1 h2' (zT hp)) λσ H Q ⟨ρ,hr,er,wt⟩=>⟨ρ,hr,er,λρ1 x H1 x1 hr1 r1=>⟨ρ1,hr1,er.mono x1,λρ2 y H2 x2 hr2 r2=>wt ρ2 _ H2 (x1.trans hr1 x2) hr2 (.a (r1.mono x2) r2)⟩⟩
  |g _ _ _=>exact tM (zD rfl)
  |d=>exact tM (zD rfl)
 |g _ _ _=>exact tM (zD rfl)
 |d=>exact tM (zD rfl)
theorem lY(h:L2.PA X es (tVs X.K X.d env s o)):L2.PE X (.Tuple es k pos) (tV X.K X.d env s (o.bind λvs s1=>if vs.length<=zY then .e (.f vs) s1 else .d)):=by
 cases o with
 |e vs s1=>
  refine zU (L2.Vd h) λσ H Q ⟨ρ,hr,er,wt⟩=>⟨ρ,hr,er,λρ1 xs H1 x1 hr1 r1=>?_⟩;have wt':yL X.K X.d (RD X.K X.d) ρ1 H1 (if vs.length<=zY then .e (.f vs) s1 else .d) Q:=wt.mono x1 hr1
  by_cases hz:vs.length<=zY
  . rw[if_pos hz]at wt'
    exact⟨by rw[<-r1.length,<-yf];exact hz,ox hr1 r1 wt'⟩
  . rw[if_neg hz]at wt';exact wt'.elim
 |g _ _ _=>exact zJ (zD rfl)
 |d=>exact zJ (zD rfl)
theorem dQ(h:L2.PA X es (tVs X.K X.d env s o)):L2.PE X (.List es pos) (tV X.K X.d env s (o.bind λvs s1=>if vs.length<=zY then newList m vs s1 else .d)):=by
 cases o with
 |e vs s1=>
  refine zU (L2.sN h) λσ H Q ⟨ρ,hr,er,wt⟩=>⟨ρ,hr,er,λρ1 xs H1 x1 hr1 r1=>?_⟩;have wt':yL X.K X.d (RD X.K X.d) ρ1 H1 (if vs.length<=zY then newList m vs s1 else .d) Q:=wt.mono x1 hr1
  by_cases hz:vs.length<=zY
  . rw[if_pos hz]at wt'
    exact⟨by rw[<-r1.length,<-yf];exact hz,vL hr1 r1 wt'⟩
  . rw[if_neg hz]at wt';exact wt'.elim
 |g _ _ _=>exact zJ (zD rfl)
 |d=>exact zJ (zD rfl)
theorem Ux(h:L2.PA X es (tVs X.K X.d env s o))(rule:∀t,L2.PA X es t->L2.PE X E (L2.tCB (rMc X.K X.d g) t)):L2.PE X E (tV X.K X.d env s (o.bind g)):=by
 cases o with
 |e vs s1=>exact zU (rule _ h) λσ H Q ⟨ρ,hr,er,wt⟩=>⟨ρ,hr,er,λρ1 xs H1 x1 hr1 r1=>⟨ρ1,s1,vs,hr1,r1,wt.mono x1 hr1⟩⟩
 |g _ _ _=>exact zJ (zD rfl)
 |d=>exact zJ (zD rfl)
theorem Wg(k1:okF f=true)(hc:X.j=true)(hr0:L2.xA k X.A)(hg:L2.Gl X f.nm)(hm:X.d f.nm=none)(hp:zc (a::es)=true)(h:L2.PA X (a::es) (tVs X.K X.d env s o)) :
 L2.PE X (.Call (.Name f.nm p) (a::es) [] pos) (tV X.K X.d env s (o.bind (blt f m))):=by
 rw[zc,cf]at hp;refine Ux h λt ht=>?_;have hb:=aU hc hr0 f m k1;have bo:=f.boot;have st:=L2.ze (es:=es) (env:=X.a) (zT hp.1);have hn:=yt (pos:=pos) (env:=X.a) hp.2;cases f with
 |c=>exact L2.yy hb hg hm bo ht (by decide) (by decide) st hn
 |j=>exact L2.yy hb hg hm bo ht (by decide) (by decide) st hn
 |o=>exact L2.yy hb hg hm bo ht (by decide) (by decide) st hn
 |r=>exact L2.yy hb hg hm bo ht (by decide) (by decide) st hn
 |_=>exact L2.tP hb hg hm bo ht (by decide) (by decide) st hn
theorem yA{o:Out Bool}(h:∀v s',o≠.e v s'):L2.PT X E (tT X.K X.d env s o):=jx λ_ _ _=>XW h
theorem Ws(hp:plainT a=true)(h:L2.PE X a (tV X.K X.d env s o)):L2.PT X a (tT X.K X.d env s o.truth):=by
 cases o with
 |e v s1=>
  refine v7 (L2.mw h (pX hp)) λσ H Q ⟨ρ,hr,er,wt⟩=>⟨ρ,hr,er,λρ1 x H1 x1 hr1 r1=>?_⟩;have wt':=wt.mono x1 hr1;simp only[Out.truth,zN]at wt';cases ht:truth s1 v with
  |none=>rw[ht]at wt';exact wt'.elim
  |some b=>rw[ht]at wt';exact⟨b,b9 hr1 r1 ht,wt' _ _ _ Ext.refl hr1 rfl⟩
 |g _ _ _=>exact yA (zD rfl)
 |d=>exact yA (zD rfl)
theorem Wr(h:L2.PT X a (tT X.K X.d env s o)):L2.PT X (.UnaryOp .Not a pos) (tT X.K X.d env s (o.bind λb s1=>.e (!b) s1)):=by
 cases o with
 |e v s1=>exact v7 (L2.kL h) λσ H Q ⟨ρ,hr,er,wt⟩=>⟨ρ,hr,er,λρ1 x H1 x1 hr1 r1=>by cases r1;exact wt _ _ _ x1 hr1 rfl⟩
 |g _ _ _=>exact yA (zD rfl)
 |d=>exact yA (zD rfl)
theorem tS{o:Out Bool}(h:∀v s',o≠.e v s'):L2.PW X E (tT X.K X.d env s o):=T5 λ_ _ _=>XW h
theorem la:L2.PW X (.BoolOp .And [] pos) (tT X.K X.d env s (.e true s)):=λwh pins sh σ H Q I ⟨ρ,hr,er,wt⟩=>PyProof.Rows.isTrue_and_nil ⟨H,I,wt _ _ _ Ext.refl hr rfl⟩
theorem i7:L2.PW X (.BoolOp .Or [] pos) (tT X.K X.d env s (.e false s)):=λwh pins sh σ H Q I ⟨ρ,hr,er,wt⟩=>PyProof.Rows.isTrue_or_nil ⟨H,I,wt _ _ _ Ext.refl hr rfl⟩
theorem de{f2:Sto->Out Bool}(h1:L2.PT X a (tT X.K X.d env s o))(h2:∀s1,L2.PW X (.BoolOp .And rest pos) (tT X.K X.d env s1 (f2 s1))) :
 L2.PW X (.BoolOp .And (a::rest) pos) (tT X.K X.d env s (o.bind λb s1=>if b then f2 s1 else .e false s1)):=by
 cases o with
 |e v s1=>
  intro wh pins sh σ H Q I h;obtain⟨ρ,hr,er,wt⟩:=h;refine PyProof.Rows.isTrue_and (L2.thn (h1 pins sh σ H (λc H1=>if c=true then tT X.K X.d env s1 (f2 s1) σ H1 Q else Q false H1) I ⟨ρ,hr,er,λρ1 x H1 x1 hr1 r1=>?_⟩) λc s' ⟨H1,I1,q1⟩=>?_)
  . have wt':=wt.mono x1 hr1
    cases r1;cases v with
    |true=>exact L2.sG (⟨ρ1,hr1,er.mono x1,wt'⟩)
    |false=>exact L2.uR (wt' _ _ _ Ext.refl hr1 rfl)
  . cases c with
    |true=>exact h2 s1 wh pins s' σ H1 Q I1 q1
    |false=>exact⟨H1,I1,q1⟩
 |g _ _ _=>exact tS (zD rfl)
 |d=>exact tS (zD rfl)
theorem Yy{f2:Sto->Out Bool}(h1:L2.PT X a (tT X.K X.d env s o))(h2:∀s1,L2.PW X (.BoolOp .Or rest pos) (tT X.K X.d env s1 (f2 s1))) :
 L2.PW X (.BoolOp .Or (a::rest) pos) (tT X.K X.d env s (o.bind λb s1=>if b then .e true s1 else f2 s1)):=by
 cases o with
 |e v s1=>
  intro wh pins sh σ H Q I h;obtain⟨ρ,hr,er,wt⟩:=h;refine PyProof.Rows.isTrue_or (L2.thn (h1 pins sh σ H (λc H1=>if c=true then Q true H1 else tT X.K X.d env s1 (f2 s1) σ H1 Q) I ⟨ρ,hr,er,λρ1 x H1 x1 hr1 r1=>?_⟩) λc s' ⟨H1,I1,q1⟩=>?_)
  . have wt':=wt.mono x1 hr1
    cases r1;cases v with
    |true=>exact L2.sG (wt' _ _ _ Ext.refl hr1 rfl)
    |false=>exact L2.uR (⟨ρ1,hr1,er.mono x1,wt'⟩)
  . cases c with
    |true=>exact⟨H1,I1,q1⟩
    |false=>exact h2 s1 wh pins s' σ H1 Q I1 q1
 |g _ _ _=>exact tS (zD rfl)
 |d=>exact tS (zD rfl)
end
end M
end
section
namespace M
open PySem
section
variable {X:L2.Cx}{env:Env}{s:Sto}{E a b c:Expr}
theorem bH{t t':L2.TO}(h:L2.PO X e t)(i:∀σ H Q,t' σ H Q->t σ H Q):L2.PO X e t':=λpins s σ H Q I q=>h pins s σ H Q I (i σ H Q q)
theorem Sj{o:Out (Option Int)}(h:∀v s',o≠.e v s'):¬tO X.K X.d env s o σ H Q:=by
 rintro ⟨ρ,_,_,w⟩;cases o with
 |e v s'=>exact h v s' rfl
 |_=>exact w
theorem mn{o:Out (Option Int)}(h:∀v s',o≠.e v s'):L2.PO X e (tO X.K X.d env s o):=λpins sh σ H Q I q=>(Sj h q).elim
theorem U1:L2.PO X none (tO X.K X.d env s (.e none s)):=bH L2.Z5 λσ H Q ⟨ρ,hr,er,wt⟩=>wt _ _ _ Ext.refl hr rfl
theorem Wl{o:Out Val}(h:L2.PE X a (tV X.K X.d env s o)):L2.PO X (some a) (tO X.K X.d env s (o.bind λv s1=>match v with|.c i=>.e (some i) s1|_=>.d)):=by
 cases o with
 |e v s1=>
  refine bH (L2.Z6 h) λσ H Q ⟨ρ,hr,er,wt⟩=>⟨ρ,hr,er,λρ1 x H1 x1 hr1 r1=>?_⟩;have wt':=wt.mono x1 hr1;cases r1 with
  |l i=>exact⟨i,rfl,wt' _ _ _ Ext.refl hr1 rfl⟩
  |_=>exact wt'.elim
 |g _ _ _=>exact mn (zD rfl)
 |d=>exact mn (zD rfl)
def rMs(K:KF)(mg:Str->Option Value)(m:Bool):L2.V->Option Int->Option Int->L2.Hp->L2.VK->Prop:=λx lo hi H Q=>∃ρ s v,HR K mg ρ s H/\RD K mg ρ H v x/\yL K mg (RD K mg) ρ H (rA m v lo hi none s) Q
theorem SY m:L2.SlR X (rMs X.K X.d m):=by
 intro pins s σ H x v vl vu lo hi sl Q I rx hs pl pu h;obtain⟨ρ,t,w,hr,rw',wt⟩:=h;simp only[rA]at wt;split at wt
 . cases rw' with
   |m n e q=>exact L2.YE pins s σ H _ v vl vu lo hi sl Q I rx hs pl pu ⟨_,_,rfl,e,vo hr (q.cut lo hi) wt⟩
 . rename_i heq
   cases heq
 . split at wt
   . rename_i e
     obtain⟨p,xs,rfl,hq,q⟩:=xy hr rw' e;exact L2.YD pins s σ H _ v vl vu lo hi sl Q I rx hs pl pu ⟨_,_,rfl,.of hq,vL hr (q.cut lo hi) wt⟩
   . exact wt.elim
 . rename_i heq
   cases heq
theorem Uz{f2 f3 f4:Sto->Out (Option Int)}(h1:L2.PE X a (tV X.K X.d env s o))(h2:∀s1,L2.PO X lo (tO X.K X.d env s1 (f2 s1)))(h3:∀s1,L2.PO X hi (tO X.K X.d env s1 (f3 s1)))
 (h4:∀s1,L2.PO X st (tO X.K X.d env s1 (f4 s1))) (hst:(st=none/\∀s1,f4 s1=.e none s1)\/∃e,st=some e/\∀s1 s2,f4 s1≠.e none s2) :
 L2.PE X (.Subscript a (.Slice lo hi st p2) pos) (tV X.K X.d env s (o.bind λx s1=>(f2 s1).bind λl s2=>(f3 s2).bind λh s3=>(f4 s3).bind λc s4=>rA m x l h c s4)):=by
 cases o with
 |e v s1=>
  have h2':=h2 s1;show L2.PE X _ (tV X.K X.d env s ((f2 s1).bind _));cases hl:f2 s1 with
  |e l s2=>
   rw[hl]at h2';have h3':=h3 s2;show L2.PE X _ (tV X.K X.d env s ((f3 s2).bind _));cases hh:f3 s2 with
   |e h s3=>
    rw[hh]at h3';have h4':=h4 s3;show L2.PE X _ (tV X.K X.d env s ((f4 s3).bind _));rcases hst with⟨rfl,e4⟩|⟨e,rfl,e4⟩
    . rw[e4 s3]
      refine zU (L2.bC (SY m) h1 h2' h3') λσ H Q ⟨ρ,hr,er,wt⟩=>⟨ρ,hr,er,λρ1 x H1 x1 hr1 r1=>⟨ρ1,hr1,er.mono x1,λρ2 y H2 x2 hr2 r2=>?_⟩⟩;cases r2;refine⟨ρ2,hr2,(er.mono x1).mono x2,λρ3 z H3 x3 hr3 r3=>?_⟩;cases r3;exact⟨ρ3,s3,v,hr3,(r1.mono x2).mono x3,wt.mono ((x1.trans hr1 x2).trans hr2 x3) hr3⟩
    . cases hc:f4 s3 with
      |e cc s4=>
       rw[hc]at h4';cases cc with
       |none=>exact absurd hc (e4 s3 s4)
       |some ci=>
        by_cases hv:∃vs,v=.f vs
        case neg=>
         refine zU (L2.kG h1 h2' h3' h4') λσ H Q ⟨ρ,hr,er,wt⟩=>⟨ρ,hr,er,λρ1 x H1 x1 hr1 r1=>⟨ρ1,hr1,er.mono x1,λρ2 y H2 x2 hr2 r2=>?_⟩⟩;cases r2;refine⟨ρ2,hr2,(er.mono x1).mono x2,λρ3 z H3 x3 hr3 r3=>?_⟩;cases r3;refine⟨ρ3,hr3,((er.mono x1).mono x2).mono x3,λρ4 z4 H4 x4 hr4 r4=>?_⟩;cases r4;have wt':yL X.K X.d (RD X.K X.d) ρ4 H4 (rA m v l h (some ci) s4) Q:=wt.mono (((x1.trans hr1 x2).trans hr2 x3).trans hr3 x4) hr4;have em:rA m v l h (some ci) s4=(match yO s4 v with|some vs=>if ci≠0 then newList m (L2.yC vs (L2.vk vs.length l h ci).1 ci (L2.vk vs.length l h ci).2) s4 else .d|dr=>.d):=by
          cases v with
          |f vs=>exact absurd ⟨vs,rfl⟩ hv
          |_=>rfl
         rw[em]at wt';cases hl:yO s4 v with
         |none=>rw[hl]at wt';exact wt'.elim
         |some vs=>
          rw[hl]at wt';dsimp only at wt';obtain⟨p,xs,rfl,hq,q⟩:=xy hr4 (((r1.mono x2).mono x3).mono x4) hl;by_cases c0:ci≠0
          . have wt2:yL X.K X.d (RD X.K X.d) ρ4 H4 (newList m (L2.yC vs (L2.vk vs.length l h ci).1 ci (L2.vk vs.length l h ci).2) s4) Q:=by rwa [if_pos c0]at wt'
            refine⟨p,xs,ci,rfl,.of hq,rfl,c0,?_⟩;rw[<-q.length];exact vL hr4 (q.yC _ _ _) wt2
          . rw[if_neg c0]at wt';exact wt'.elim
        refine zU (L2.gZ h1 h2' h3' h4') λσ H Q ⟨ρ,hr,er,wt⟩=>⟨ρ,hr,er,λρ1 x H1 x1 hr1 r1=>⟨ρ1,hr1,er.mono x1,λρ2 y H2 x2 hr2 r2=>?_⟩⟩;cases r2;refine⟨ρ2,hr2,(er.mono x1).mono x2,λρ3 z H3 x3 hr3 r3=>?_⟩;cases r3;refine⟨ρ3,hr3,((er.mono x1).mono x2).mono x3,λρ4 z4 H4 x4 hr4 r4=>?_⟩;cases r4;have xx:=((x1.trans hr1 x2).trans hr2 x3).trans hr3 x4;have wt':yL X.K X.d (RD X.K X.d) ρ4 H4 (rA m v l h (some ci) s4) Q:=wt.mono xx hr4;have r:=((r1.mono x2).mono x3).mono x4;cases r with
        |m n e q=>
         change yL X.K X.d (RD X.K X.d) ρ4 H4 (if ci≠0/\(L2.yl (F3 _) l h ci).2<=zY then .e (.f (L2.yC _ (L2.yl (F3 _) l h ci).1 ci (L2.yl (F3 _) l h ci).2)) s4 else .d) Q at wt'
         split at wt'
         . rename_i hz
           have hlen:=q.length;refine⟨_,_,ci,rfl,e,rfl,hz.1,by rw[<-hlen,<-yf];exact hz.2,?_⟩
           rw[<-hlen];exact vo hr4 (q.yC _ _ _) wt'
         . exact wt'.elim
        |_=>obtain⟨_,e⟩:=hv;cases e
      |g _ _ _=>exact zJ (zD rfl)
      |d=>exact zJ (zD rfl)
   |g _ _ _=>exact zJ (zD rfl)
   |d=>exact zJ (zD rfl)
  |g _ _ _=>exact zJ (zD rfl)
  |d=>exact zJ (zD rfl)
 |g _ _ _=>exact zJ (zD rfl)
 |d=>exact zJ (zD rfl)
noncomputable def Mf.nm:Mf->Str
 |.a=>"count"|.b=>"append"|.c=>"extend"|.f=>"pop"|.d=>"index"|.e=>"join"
noncomputable def okM:Mf->Bool
 |.b|.c|.f|.d|.e=>false
 |_=>true
theorem dR{f2:Sto->Out Val}(hm:okM f=true)(hs:rL a=true)(hp:plain b=true)(hline:(apos.endLine == cpos.line)=true)(h1:L2.PE X a (tV X.K X.d env s o))(h2:∀s1,L2.PE X b (tV X.K X.d env s1 (f2 s1))) :
 L2.PE X (.Call (.Attribute a f.nm apos) [b] [] cpos) (tV X.K X.d env s (o.bind λx s1=>((f2 s1).bind λv s2=>(Out.e [v] s2:Out (List Val))).bind λvs s2=>xm f x vs s2)):=by
 cases o with
 |e v s1=>
  have h2':=h2 s1;show L2.PE X _ (tV X.K X.d env s (((f2 s1).bind λv s2=>(Out.e [v] s2:Out (List Val))).bind λvs s2=>xm f v vs s2));cases hb:f2 s1 with
  |e w s2=>
   rw[hb]at h2';show L2.PE X _ (tV X.K X.d env s (xm f v [w] s2));cases f with
   |a=>
    by_cases hv:∃vs,v=.f vs
    . obtain⟨vs,rfl⟩:=hv
      refine zU (L2.gX h1 h2' (uF hs) (zT hp) hline) λσ H Q ⟨ρ,hr,er,wt⟩=>⟨ρ,hr,er,λρ1 x H1 x1 hr1 r1=>?_⟩;cases r1 with
      |m n e q=>
       refine⟨⟨_,_,rfl,e⟩,ρ1,hr1,er.mono x1,λρ2 y H2 x2 hr2 r2=>?_⟩;have wt':yL X.K X.d (RD X.K X.d) ρ2 H2 (xm .a (.f vs) [w] s2) Q:=wt.mono (x1.trans hr1 x2) hr2;simp only[xm]at wt';split at wt'
       . rename_i hf
         rw[cf]at hf;have q2:=q.mono x2;refine⟨_,_,y,rfl,rfl,L2.SqT.of (x2.c _ _ e n.1),r2.flat hf.1,q2.flat hf.2,?_⟩;rw[RDs.countP r2 hf.1 q2 hf.2];exact zM hr2 (.l _) wt'
       . exact wt'.elim
    . refine zU (L2.pW h1 h2' (uF hs) (zT hp) hline) λσ H Q ⟨ρ,hr,er,wt⟩=>⟨ρ,hr,er,λρ1 x H1 x1 hr1 r1=>?_⟩
      have wt':yL X.K X.d (RD X.K X.d) ρ1 H1 (xm .a v [w] s2) Q:=wt.mono x1 hr1;have em:xm .a v [w] s2=(match yO s2 v with|some vs=>if M.flat w&&vs.all M.flat then .e (.c (vs.countP λz=>eqF z w:Nat)) s2 else .d|dr=>.d):=by
       cases v with
       |f vs=>exact absurd ⟨vs,rfl⟩ hv
       |_=>rfl
      rw[em]at wt';cases hl:yO s2 v with
      |none=>rw[hl]at wt';exact wt'.elim
      |some vs=>
       rw[hl]at wt'
       -- the receiver is a list already ahead of the argument
       have ty:L2.tyV X.K "list" x H1:=by
        cases r1 with
        |E n e q=>exact .inl ⟨rfl,_,.of e⟩
        |C e k=>
         obtain⟨xs,q⟩:=ek k;exact .inl ⟨rfl,_,.of q⟩
        |_=>cases hl
       refine⟨ty,ρ1,hr1,er.mono x1,λρ2 y H2 x2 hr2 r2=>?_⟩;obtain⟨p,xs,rfl,hq,q⟩:=xy hr2 (r1.mono x2) hl;have wt2:=wt'.mono x2 hr2;simp only at wt2;split at wt2
       . rename_i hf
         rw[cf]at hf;refine⟨_,_,y,rfl,rfl,L2.SqL.of hq,r2.flat hf.1,q.flat hf.2,?_⟩;rw[RDs.countP r2 hf.1 q hf.2];exact zM hr2 (.l _) wt2
       . exact wt2.elim
   |b=>cases hm
   |c=>cases hm
   |f=>cases hm
   |d=>cases hm
   |e=>cases hm
  |g _ _ _=>exact zJ (zD rfl)
  |d=>exact zJ (zD rfl)
 |g _ _ _=>exact zJ (zD rfl)
 |d=>exact zJ (zD rfl)
end
def spN(T:Tbl)(K:KF)(mg:Str->Option Value)(n:Nat)(f:Str)(ver:Nat):L2.Sp:=λvs H Q _=>∃ρ s args,HR K mg ρ s H/\RDs K mg ρ H args vs/\yL K mg (RD K mg) ρ H (zB T n f ver args s) Q
structure Callee(T:Tbl)(n:Nat)(X:L2.Cx)(f:Str)(ver:Nat)(F:Fn):Prop where
 a:∃fa fd,X.d f=some (.ref fa)/\B0 X.K (.ref fa)=true/\L2.Binds X.K fd F.b []/\L2.uw X.f X.w X.K X.d X.h L2.CX0 n fa fd F.b (spN T X.K X.d n f ver)
section
variable {X:L2.Cx}{env:Env}{s:Sto}{T:Tbl}{n ver:Nat}{f:Str}{F:Fn}
theorem dM(C:Callee T n X f ver F)(hr0:L2.xA n X.A)(hg:L2.Gl X f)(hd:(f == ("__debug__":Str))=false):L2.PE X (.Call (.Name f p) [] [] pos) (tV X.K X.d env s (zB T n f ver [] s)):=by obtain⟨fa,fd,hm,hk,hb,hf⟩:=C.a;exact zU (L2.mZ hf hr0 hg hm hk hb .nil L2.XB hd) λσ H Q ⟨ρ,hr,er,wt⟩=>⟨ρ,s,[],hr,.d,wt⟩
theorem ZQ(C:Callee T n X f ver F)(hr0:L2.xA n X.A)(hg:L2.Gl X f)(hd:(f == ("__debug__":Str))=false)(hp:zc es=true)(hne:es≠[])(h:L2.PA X es (tVs X.K X.d env s o)) :
 L2.PE X (.Call (.Name f p) es [] pos) (tV X.K X.d env s (o.bind (zB T n f ver))):=by
 obtain⟨fa,fd,hm,hk,hb,hf⟩:=C.a;cases o with
 |e vs s1=>
  cases es with
  |nil=>exact absurd rfl hne
  |cons e es=>
   rw[zc,cf]at hp;refine zU (L2.nK hf hr0 hg hm hk hb .nil L2.XB h hd (L2.ze (zT hp.1)) (yt hp.2)) λσ H Q ⟨ρ,hr,er,wt⟩=>⟨ρ,hr,er,λρ1 xs H1 x1 hr1 r1=>?_⟩;show spN T X.K X.d n f ver (xs++[]) H1 Q L2.E0;rw[Bb];exact⟨ρ1,s1,vs,hr1,r1,wt.mono x1 hr1⟩
 |g _ _ _=>exact zJ (zD rfl)
 |d=>exact zJ (zD rfl)
end
end M
end
section
namespace M
open PySem
theorem xP:∀{c} {p},(c=true->p)->cond c p True
 |true,_,h=>h rfl
 |false,_,_=>AG
theorem rl(h:cond c p True)(e:c=true):p:=by subst e;exact h
mutual
theorem US:∀(a b:Val),cond (a.beq b) (a=b) True
 |.h,b=>by cases b<;>first|exact(rfl:Val.h=Val.h)|exact AG
 |.e x,b=>by cases b with|e y=>exact xP λh=>congrArg Val.e (B2 (show (x == y)=true from h))|_=>exact AG
 |.c x,b=>by cases b with|c y=>exact xP λh=>congrArg Val.c (B2 (show (x == y)=true from h))|_=>exact AG
 |.g x,b=>by cases b with|g y=>exact xP λh=>congrArg Val.g (B2 (show (x == y)=true from h))|_=>exact AG
 |.f x,b=>by cases b with|f y=>exact xP λh=>congrArg Val.f (rl (oR x y) h)|_=>exact AG
 |.j x,b=>by cases b with|j y=>exact xP λh=>congrArg Val.j (rl (oR x y) h)|_=>exact AG
 |.o,b=>by cases b<;>first|exact(rfl:Val.o=Val.o)|exact AG
 |.p x,b=>by cases b with|p y=>exact xP λh=>congrArg Val.p (B2 (show (x == y)=true from h))|_=>exact AG
 |.r x,b=>by cases b with|r y=>exact xP λh=>congrArg Val.r (B2 (show (x == y)=true from h))|_=>exact AG
 |.m x,b=>by cases b with|m y=>exact xP λh=>congrArg Val.m (B2 (show (x == y)=true from h))|_=>exact AG
 |.t x,b=>by cases b with|t y=>exact xP λh=>congrArg Val.t (B2 (show (x == y)=true from h))|_=>exact AG
 |.u x,b=>by cases b with|u y=>exact xP λh=>congrArg Val.u (B2 (show (x == y)=true from h))|_=>exact AG
 |.q x,b=>by cases b with|q y=>exact xP λh=>congrArg Val.q (B2 (show (x == y)=true from h))|_=>exact AG
 |.s x k,b=>by cases b with|s y l=>exact xP λh=>(by rw[show Val.beq (.s x k) (.s y l)=(x == y&&k == l) from rfl,cf]at h;rw[B2 h.1,B2 h.2])|_=>exact AG
theorem oR:∀(a b:List Val),cond (t8 a b) (a=b) True
 |[],[]=>(rfl:([]:List Val)=[])
 |[],_::_=>AG
 |_::_,[]=>AG
 |x::xs,y::ys=>xP λh=>by have h:(x.beq y&&t8 xs ys)=true:=h;rw[cf]at h;rw[rl (US x y) h.1,rl (oR xs ys) h.2]
end
theorem uz(h:t8 a b=true):a=b:=rl (oR a b) h
mutual
theorem beq_refl:∀a:Val,a.beq a=true
 |.h=>rfl
 |.e x=>(beq_self_eq_true x:(x == x)=true)
 |.c x=>(beq_self_eq_true x:(x == x)=true)
 |.g x=>(beq_self_eq_true x:(x == x)=true)
 |.f x=>uG x
 |.j x=>uG x
 |.o=>rfl
 |.p x=>(beq_self_eq_true x:(x == x)=true)
 |.r x=>(beq_self_eq_true x:(x == x)=true)
 |.m x=>(beq_self_eq_true x:(x == x)=true)
 |.t x=>(beq_self_eq_true x:(x == x)=true)
 |.u x=>(beq_self_eq_true x:(x == x)=true)
 |.q x=>(beq_self_eq_true x:(x == x)=true)
 |.s x k=>(by rw[show Val.beq (.s x k) (.s x k)=(x == x&&k == k) from rfl,beq_self_eq_true,beq_self_eq_true];rfl)
theorem uG:∀a:List Val,t8 a a=true
 |[]=>rfl
 |x::xs=>by rw[t8,beq_refl x,uG xs];rfl
end
section
variable {K:KF}{mg:Str->Option Value}
theorem Mv.refl:Mv ρ H ρ H:=⟨λa o e n=>⟨e,n⟩,λi a e=>e,λ_ _=>rfl⟩
theorem Mv.trans(x:Mv ρ H ρ1 H1)(y:Mv ρ1 H1 ρ2 H2):Mv ρ H ρ2 H2:=
 ⟨λa o e n=>y.b a o (x.b a o e n).1 (x.b a o e n).2,λi a e=>y.c i a (x.c i a e),λa ha=>by obtain⟨i,hi⟩:=List.getElem?_of_mem ha;exact(y.d a (AU (x.c i a hi))).trans (x.d a ha)⟩
structure Walk(K:KF)(mg:Str->Option Value)(ρ:Own)(H:L2.Hp)(r:Src)(J:L2.It):Prop where
 b:r.a.length<=zY
 c:∀(ρ2:Own) (H2:L2.Hp) (s2:Sto) (i:Nat) (v:Val),Mv ρ H ρ2 H2->HR K mg ρ2 s2 H2->r.ok s2=true->r.a[i]?=some v->J.c i H2/\∀x H3,J.b i H2 x H3->(H3=H2\/∃p o,H2 p=none/\H3=L2.upd H2 p o)/\RD K mg ρ2 H3 v x
 a:∀(ρ2:Own) (H2:L2.Hp) (s2:Sto) (i:Nat),Mv ρ H ρ2 H2->HR K mg ρ2 s2 H2->r.ok s2=true->i=r.a.length->J.a i H2
theorem Walk.mv(w:Walk K mg ρ H r J)(x:Mv ρ H ρ1 H1):Walk K mg ρ1 H1 r J:=
 ⟨w.b,λρ2 H2 s2 i v y=>w.c ρ2 H2 s2 i v (x.trans y),λρ2 H2 s2 i y=>w.a ρ2 H2 s2 i (x.trans y)⟩
def fI(H:L2.Hp):Prop:=∀a xs,(H a=some (.c xs)\/H a=some (.b xs))->xs.length<=Au
theorem tR(h:L2.PI X tg it wi):L2.PI X tg it (λσ H R=>wi σ H λJ H1=>fI H1->R J H1):=λpins s σ H R I q=>
 L2.thn (h pins s σ H _ I q) λv s1 h1=>L2.thn h1 λitv s2 ⟨i,fp,tn,J,H',e,I',T,t0,f,r⟩=>⟨i,fp,tn,J,H',e,I',T,t0,f,r λa xs hx=>by
  rcases hx with hx|hx
  . obtain⟨z,_⟩:=(show L2.zt X.f X.w H' s2.heap a (.c xs) from I'.j a _ hx);exact z
  . obtain⟨z,_⟩:=(show L2.zt X.f X.w H' s2.heap a (.b xs) from I'.j a _ hx);exact z⟩
theorem aH(hz:vs.length<=zY)(n:ρ.no a)(e:H a=some (.c xs))(q:RDs K mg ρ H vs xs):Walk K mg ρ H ⟨vs,none⟩ (L2.Itt K a) where
 b:=hz
 c:=λρ2 H2 s2 i v x hr _ hv=>by have e2:=(x.b a _ e n).1;have q2:=RDs.mv x q;obtain⟨y,h1,h2⟩:=q2.get hv;refine⟨⟨xs,y,.of e2,h1⟩,λz H3 ⟨e3,h3⟩=>⟨.inl e3,?_⟩⟩;subst e3;have:=h3 xs (.of e2);rw[h1]at this;cases this;exact h2
 a:=λρ2 H2 s2 i x hr _ hi=>⟨xs,.of (x.b a _ e n).1,by rw[<-q.length];exact Ez hi.symm⟩
theorem aF(hz:vs.length<=zY)(n:ρ.no a)(e:H a=some (.b xs))(q:RDs K mg ρ H vs xs):Walk K mg ρ H ⟨vs,none⟩ (L2.Itl K a) where
 b:=hz
 c:=λρ2 H2 s2 i v x hr _ hv=>by have e2:=(x.b a _ e n).1;have q2:=RDs.mv x q;obtain⟨y,h1,h2⟩:=q2.get hv;refine⟨⟨xs,y,.of e2,h1⟩,λz H3 ⟨e3,h3⟩=>⟨.inl e3,?_⟩⟩;subst e3;have:=h3 xs (.of e2);rw[h1]at this;cases this;exact h2
 a:=λρ2 H2 s2 i x hr _ hi=>⟨xs,.of (x.b a _ e n).1,by rw[<-q.length];exact Ez hi.symm⟩
theorem g8{ns:List Int}(k:KT K a (ns.map L2.V.d)):Walk K mg ρ H ⟨ns.map .c,none⟩ (L2.Itt K a) where
 b:=by obtain⟨o,its,n,_,_,_,h4,h5⟩:=k;have:=h5.length;simp only[Ai,CM]at this;show (ns.map Val.c).length<=_;rw[Ai,yf,this];exact h4
 c:=λρ2 H2 s2 i v x hr _ hv=>by obtain⟨y,h1,h2⟩:=(RDs.ints (K:=K) (mg:=mg) (ρ:=ρ2) (H:=H2) ns).get hv;refine⟨⟨_,y,k.sqt,h1⟩,λz H3 ⟨e3,h3⟩=>⟨.inl e3,?_⟩⟩;subst e3;have:=h3 _ k.sqt;rw[h1]at this;cases this;exact h2
 a:=λρ2 H2 s2 i x hr _ hi=>⟨_,k.sqt,by rw[Ai];rw[hi];simp⟩
theorem aG(hz:vs.length<=zY)(e:ρ.o[i0]?=some a):Walk K mg ρ H ⟨vs,some i0⟩ (L2.Itl K a) where
 b:=hz
 c:=λρ2 H2 s2 i v x hr ho hv=>by
  simp only[Src.ok]at ho;split at ho
  . rename_i ws hw
    cases uz ho;obtain⟨b,xs,e1,e2,q⟩:=hr.obj i0 _ hw;rw[x.c _ _ e]at e1;cases e1;obtain⟨y,h1,h2⟩:=q.get hv;refine⟨⟨xs,y,.of e2,h1⟩,λz H3 ⟨e3,h3⟩=>⟨.inl e3,?_⟩⟩;subst e3;have:=h3 xs (.of e2);rw[h1]at this;cases this;exact h2
  . cases ho
 a:=λρ2 H2 s2 i x hr ho hi=>by
  simp only[Src.ok]at ho;split at ho
  . rename_i ws hw
    cases uz ho;obtain⟨b,xs,e1,e2,q⟩:=hr.obj i0 _ hw;rw[x.c _ _ e]at e1;cases e1;exact⟨xs,.of e2,by rw[<-q.length];exact Ez hi.symm⟩
  . cases ho
theorem bO:(xn lo n)[i]?=if i<n then some (.c (lo+i)) else none:=by
 unfold xn;rw[AX];by_cases h:i<n
 . rw[if_pos h,List.getElem?_range h];rfl
 . rw[if_neg h,Cu (by rw[C0];omega)];rfl
theorem qe:(xn lo n).length=n:=by unfold xn;rw[Ai,C0]
theorem lC(hz:n<=zY):Walk K mg ρ H ⟨xn lo n,none⟩ (L2.Itr lo n) where
 b:=by show (xn lo n).length<=_;rw[qe];exact hz
 c:=λρ2 H2 s2 i v x hr _ hv=>by
  have hv':(xn lo n)[i]?=some v:=hv;rw[bO]at hv';split at hv'
  . rename_i hi
    cases hv';refine⟨hi,λz H3 ⟨e3,h3⟩=>⟨.inl e3,?_⟩⟩;subst h3;exact .l _
  . cases hv'
 a:=λρ2 H2 s2 i x hr _ hi=>by have:i=(xn lo n).length:=hi;rw[qe]at this;exact Ez this.symm
theorem sF:∀{vs} {n i:Nat},(xh n vs)[i]?=(vs[i]?).map λv=>.f [.c ((n+i:Nat):Int),v]
 |[],_,_=>rfl
 |v::vs,n,0=>rfl
 |v::vs,n,i+1=>by show (xh (n+1) vs)[i]?=(vs[i]?).map _;rw[sF];rw[show n+1+i=n+(i+1) by omega]
theorem wm:∀{vs} {n},(xh n vs).length=vs.length
 |[],_=>rfl
 |v::vs,n=>by show (xh (n+1) vs).length+1=_;rw[wm];rfl
theorem g9(hz:vs.length<=zY)(n:ρ.no a)(e:H a=some (.c xs))(q:RDs K mg ρ H vs xs):Walk K mg ρ H ⟨xh 0 vs,none⟩ (L2.Ite K a) where
 b:=by show (xh 0 vs).length<=_;rw[wm];exact hz
 c:=λρ2 H2 s2 i v x hr _ hv=>by have e2:=(x.b a _ e n).1;have q2:=RDs.mv x q;have hv':(xh 0 vs)[i]?=some v:=hv;rw[sF,A8]at hv';obtain⟨w,h0,rfl⟩:=hv';obtain⟨y,h1,h2⟩:=q2.get h0;refine⟨⟨xs,y,.of e2,h1⟩,λz H3 ⟨t,y',ht,e3,h3,e4⟩=>⟨.inr ⟨t,_,ht,e4⟩,?_⟩⟩;subst e3 e4;have:=h3 xs (.of e2);rw[h1]at this;cases this;have X:=Ext.new hr ht (.c [.d ((i:Nat):Int),y]);refine .m (hr.new ht) L2.zL (.a ?_ (.a (h2.mono X) .d));rw[FJ];exact .l _
 a:=λρ2 H2 s2 i x hr _ hi=>⟨xs,.of (x.b a _ e n).1,by rw[<-q.length,hi];exact wm.symm⟩
theorem ku(hz:vs.length<=zY)(n:ρ.no a)(e:H a=some (.b xs))(q:RDs K mg ρ H vs xs):Walk K mg ρ H ⟨xh 0 vs,none⟩ (L2.Xe K a) where
 b:=by show (xh 0 vs).length<=_;rw[wm];exact hz
 c:=λρ2 H2 s2 i v x hr _ hv=>by have e2:=(x.b a _ e n).1;have q2:=RDs.mv x q;have hv':(xh 0 vs)[i]?=some v:=hv;rw[sF,A8]at hv';obtain⟨w,h0,rfl⟩:=hv';obtain⟨y,h1,h2⟩:=q2.get h0;refine⟨⟨xs,y,.of e2,h1⟩,λz H3 ⟨t,y',ht,e3,h3,e4⟩=>⟨.inr ⟨t,_,ht,e4⟩,?_⟩⟩;subst e3 e4;have:=h3 xs (.of e2);rw[h1]at this;cases this;have X:=Ext.new hr ht (.c [.d ((i:Nat):Int),y]);refine .m (hr.new ht) L2.zL (.a ?_ (.a (h2.mono X) .d));rw[FJ];exact .l _
 a:=λρ2 H2 s2 i x hr _ hi=>⟨xs,.of (x.b a _ e n).1,by rw[<-q.length,hi];exact wm.symm⟩
def tI(env:Env)(s:Sto)(o:Out Src):L2.TI:=λσ H R=>∃ρ,HR K mg ρ s H/\ER K mg ρ H env σ/\(match o with
 |.e r s'=>∀ρ' H' J,Ext ρ H ρ' H'->HR K mg ρ' s' H'->Walk K mg ρ' H' r J->R J H'
 |_=>False)
end
section
variable {X:L2.Cx}{env:Env}{s:Sto}{a b tg:Expr}
theorem um{t t':L2.TI}(h:L2.PI X tg it t)(i:∀σ H R,t' σ H R->t σ H R):L2.PI X tg it t':=λpins s σ H R I q=>h pins s σ H R I (i σ H R q)
theorem yN{o:Out Src}(h:∀v s',o≠.e v s'):L2.PI X tg it (tI (K:=X.K) (mg:=X.d) env s o):=λpins sh σ H R I q=>by
 obtain⟨ρ,_,_,w⟩:=q;cases o with
 |e v s'=>exact(h v s' rfl).elim
 |g _ _ _=>exact w.elim
 |d=>exact w.elim
theorem fI.of(z:fI H){a}(q:RDs K mg ρ H vs xs)(h:H a=some (.c xs)\/H a=some (.b xs)):vs.length<=zY:=by rw[q.length,yf];exact z a xs h
theorem Wk{o:Out Val}(h:L2.PE X a (tV X.K X.d env s o)):L2.PI X tg a (tI (K:=X.K) (mg:=X.d) env s (o.bind λv s1=>match srcOf s1 v with|some r=>.e r s1|dr=>.d)):=by
 cases o with
 |e v s1=>
  show L2.PI X tg a (tI (K:=X.K) (mg:=X.d) env s (match srcOf s1 v with|some r=>.e r s1|dr=>.d))
  cases v with
  |f vs=>
   refine um (tR (L2.bE h)) λσ H R ⟨ρ,hr,er,w⟩=>⟨ρ,hr,er,λρ1 x H1 x1 hr1 r1=>?_⟩;cases r1 with
   |m n e q=>exact⟨_,rfl,⟨_,.of e⟩,λz=>w ρ1 H1 _ x1 hr1 (aH (z.of q (.inl e)) n e q)⟩
  |j vs=>
   refine um (tR (L2.nN h)) λσ H R ⟨ρ,hr,er,w⟩=>⟨ρ,hr,er,λρ1 x H1 x1 hr1 r1=>?_⟩;cases r1 with
   |E n e q=>exact⟨_,rfl,⟨_,.of e⟩,λz=>w ρ1 H1 _ x1 hr1 (aF (z.of q (.inr e)) n e q)⟩
  |p ns=>
   refine um (L2.bE h) λσ H R ⟨ρ,hr,er,w⟩=>⟨ρ,hr,er,λρ1 x H1 x1 hr1 r1=>?_⟩;cases r1 with
   |p k=>exact⟨_,rfl,⟨_,k.sqt⟩,w ρ1 H1 _ x1 hr1 (g8 k)⟩
  |m i=>
   simp only[srcOf];cases hs:s1[i]? with
   |none=>exact yN (zD rfl)
   |some cl=>
    cases cl with
    |c vs=>
     refine um (tR (L2.nN h)) λσ H R ⟨ρ,hr,er,w⟩=>⟨ρ,hr,er,λρ1 x H1 x1 hr1 r1=>?_⟩;cases r1 with
     |C e=>
      obtain⟨b',xs,e1,e2,q⟩:=hr1.obj i _ hs;rw[e]at e1;cases e1;exact⟨_,rfl,⟨_,.of e2⟩,λz=>w ρ1 H1 _ x1 hr1 (aG (z.of q (.inr e2)) e)⟩
    |_=>exact yN (zD rfl)
  |_=>exact yN (zD rfl)
 |g _ _ _=>exact yN (zD rfl)
 |d=>exact yN (zD rfl)
theorem iz{o:Out Val}{p pos:Pos}(hp:plain a=true)(hg:L2.Gl X "range")(hm:X.d "range"=none)(h:L2.PE X a (tV X.K X.d env s o)) :
 L2.PI X tg (.Call (.Name "range" p) [a] [] pos) (tI (K:=X.K) (mg:=X.d) env s (o.bind λx s1=>match x with
  |.c j=>if -(2 ^ 62)<=j/\j<=zY then .e ⟨xn 0 j.toNat,dr⟩ s1 else .d
  |_=>.d)):=by
 cases o with
 |e v s1=>
  have st:AD [a] X.a=[(false,eval a X.a)]:=L2.ze (zT hp);refine um (L2.gc hg hm (L2.pac h L2.yT (zT hp)) st) λσ H R ⟨ρ,hr,er,w⟩=>⟨ρ,hr,er,λρ1 x H1 x1 hr1 r1=>?_⟩;cases r1 with
  |l j=>
   simp only[zN]at w;by_cases hz:-(2 ^ 62)<=j/\j<=zY
   . rw[if_pos hz]at w
     have hl:(zY:Int)<2 ^ 62:=by decide
     exact⟨j,rfl,hz.1,by omega,w ρ1 H1 _ x1 hr1 (lC (by omega))⟩
   . rw[if_neg hz]at w;exact w.elim
  |_=>exact w.elim
 |g _ _ _=>exact yN (zD rfl)
 |d=>exact yN (zD rfl)
theorem i6{o:Out Val}{f2:Sto->Out Val}{p pos:Pos}(hp:plain a=true)(hp2:plain b=true)(hg:L2.Gl X "range")(hm:X.d "range"=none)(h:L2.PE X a (tV X.K X.d env s o))(h2:∀s1,L2.PE X b (tV X.K X.d env s1 (f2 s1))) :
 L2.PI X tg (.Call (.Name "range" p) [a,b] [] pos) (tI (K:=X.K) (mg:=X.d) env s (o.bind λx s1=>(f2 s1).bind λy s2=>match x,y with
  |.c i,.c j=>if -(2 ^ 62)<=i/\i<2 ^ 62∧-(2 ^ 62)<=j/\j<2 ^ 62/\j-i<=zY then .e ⟨xn i (j-i).toNat,dr⟩ s2 else .d
  |_,_=>.d)):=by
 cases o with
 |e v s1=>
  have h2':=h2 s1;simp only[zN];cases hb:f2 s1 with
  |e w s2=>
   rw[hb]at h2';have st2:AD [b] X.a=[(false,eval b X.a)]:=L2.ze (zT hp2);have st:AD [a,b] X.a=[(false,eval a X.a),(false,eval b X.a)]:=by rw[L2.ze (zT hp),st2]
   refine um (L2.gf hg hm (L2.pac h (L2.pac h2' L2.yT (zT hp2)) (zT hp)) st st2) λσ H R ⟨ρ,hr,er,wt⟩=>⟨ρ,hr,er,λρ1 x H1 x1 hr1 r1=>⟨ρ1,hr1,er.mono x1,λρ2 y H2 x2 hr2 r2=>?_⟩⟩;simp only[zN]at wt;cases r1 with
   |l i=>
    cases r2 with
    |l j=>
     simp only at wt;by_cases hz:-(2 ^ 62)<=i/\i<2 ^ 62∧-(2 ^ 62)<=j/\j<2 ^ 62/\j-i<=zY
     . rw[if_pos hz]at wt
       exact⟨i,j,rfl,⟨hz.1,hz.2.1,hz.2.2.1,hz.2.2.2.1⟩,wt ρ2 H2 _ (x1.trans hr1 x2) hr2 (lC (by omega))⟩
     . rw[if_neg hz]at wt;exact wt.elim
    |_=>exact wt.elim
   |_=>exact wt.elim
  |g _ _ _=>exact yN (zD rfl)
  |d=>exact yN (zD rfl)
 |g _ _ _=>exact yN (zD rfl)
 |d=>exact yN (zD rfl)
theorem ZU{es:List Expr}{k:Nat}{o:Out Val}{p pos tp:Pos}(hp:plain a=true)(hg:L2.Gl X "enumerate")(hm:X.d "enumerate"=none)(h:L2.PE X a (tV X.K X.d env s o)) :
 L2.PI X (.Tuple es k tp) (.Call (.Name "enumerate" p) [a] [] pos) (tI (K:=X.K) (mg:=X.d) env s (o.bind λv s1=>match v with
  |.f vs=>.e ⟨xh 0 vs,dr⟩ s1
  |.j vs=>.e ⟨xh 0 vs,dr⟩ s1
  |_=>.d)):=by
 cases o with
 |e v s1=>
  have st:AD [a] X.a=[(false,eval a X.a)]:=L2.ze (zT hp);refine um (tR (L2.Z3 hg hm (L2.pac h L2.yT (zT hp)) st)) λσ H R ⟨ρ,hr,er,w⟩=>⟨ρ,hr,er,λρ1 x H1 x1 hr1 r1=>?_⟩;cases r1 with
  |m n e q=>exact⟨_,rfl,.inl ⟨⟨_,.of e⟩,λz=>w ρ1 H1 _ x1 hr1 (g9 (z.of q (.inl e)) n e q)⟩⟩
  |E n e q=>exact⟨_,rfl,.inr ⟨⟨_,.of e⟩,λz=>w ρ1 H1 _ x1 hr1 (ku (z.of q (.inr e)) n e q)⟩⟩
  |_=>exact w.elim
 |g _ _ _=>exact yN (zD rfl)
 |d=>exact yN (zD rfl)
end
end M
end
section
namespace M
open PySem
def tw(K:KF)(mg:Str->Option Value)(t:Tgt)(g:L2.TG):Prop:=∀(ρ:Own) (s:Sto) (H:L2.Hp) (v:Val) (x:L2.V) (env env':Env) (σ:L2.St) (Q:L2.St->L2.Hp->Prop),HR K mg ρ s H->RD K mg ρ H v x->ER K mg ρ H env σ->yU t v env=some env' ->
 (∀σ',ER K mg ρ H env' σ'->Q σ' H)->g x σ H Q
theorem tj:tw K mg (.a i) (L2.xJ i):=λρ s H v x env env' σ Q hr r er e q=>by
 cases e;exact q _ (er.set i r)
def qE:List Nat->L2.TGs
 |[]=>L2.Ug
 |i::is=>L2.Ys (L2.xJ i) (qE is)
theorem pU:∀{is} {vs} {xs} {env} {σ},RDs K mg ρ H vs xs->ER K mg ρ H env σ->vs.length=is.length ->
 (∀σ',ER K mg ρ H ((is.zip vs).foldl (λe p=>e.set p.1 (some p.2)) env) σ'->Q σ' H)->qE is xs σ H Q
 |[],[],_,env,σ,.d,er,_,q=>⟨rfl,q σ er⟩
 |[],_::_,_,_,_,_,_,h,_=>by cases h
 |_::_,[],_,_,_,_,_,h,_=>by cases h
 |i::is,v::vs,x::xs,env,σ,.a r rs,er,h,q=>⟨x,xs,rfl,pU rs (er.set i r) (by simpa using h) q⟩
theorem wD:tw K mg (.b is) (L2.WG K is.length (qE is)):=λρ s H v x env env' σ Q hr r er e q=>by
 simp only[yU]at e;split at e
 . split at e
   . rename_i hl
     cases e;cases r with
     |m n e q2=>exact⟨_,_,rfl,.of e,by rw[<-q2.length];exact hl,pU q2 er hl q⟩
   . cases e
 . cases e
noncomputable def z7(sc:Scope)(N:List Str):List Nat->List Expr->Bool
 |[],[]=>true
 |i::is,.Name x _::es=>decide (N[i]?=some x)&&(decide (sc.names.lookup x=some .local)||decide (sc.names.lookup x=some .cell))&&z7 sc N is es
 |_,_=>false
def ckT(sc:Scope)(N:List Str):Tgt->Expr->Bool
 |.a i,.Name x _=>decide (N[i]?=some x)&&(decide (sc.names.lookup x=some .local)||decide (sc.names.lookup x=some .cell))
 |.b is,.Tuple es _ _=>z7 sc N is es&&decide (es≠[])
 |_,_=>false
section
variable {X:L2.Cx}
structure Scp(sc:Scope)(N:List Str)(X:L2.Cx):Prop where
 a:X.N=N
 d:N.Nodup
 e:∀x,sc.names.lookup x=some .local\/sc.names.lookup x=some .cell\/sc.names.lookup x=some .free->L2.Vis X.a.scope x
 c:∀x,sc.names.lookup x=some .local\/sc.names.lookup x=some .cell->L2.Loc X.a.scope x/\(X.n x=true\/X.a.scope.names.lookup x=some .local)
 b:∀x,sc.names.lookup x=some .globalImplicit->L2.Gl X x
 f:∀x,sc.names.lookup x=some .cell\/sc.names.lookup x=some .free->X.a.kindOf x=some .cell\/X.a.kindOf x=some .free
theorem si(S:Scp sc N X)(h1:N[i]?=some x)(h2:sc.names.lookup x=some .local\/sc.names.lookup x=some .cell):L2.PG X (.Name x p) (L2.xJ i):=by obtain⟨a,b⟩:=S.c x h2;exact L2.Z1 (by rw[S.a];exact S.d) (by rw[S.a];exact h1) a b
theorem yg(S:Scp sc N X):∀{is} {es},z7 sc N is es=true->L2.PGs X es (qE is)/\(CA es X.a).length=is.length/\(CA es X.a).findIdx? (·.1)=none
 |[],[],_=>⟨L2.Z2,rfl,rfl⟩
 |[],_::_,h=>by cases h
 |_::_,[],h=>by cases h
 |i::is,e::es,h=>by
  cases e with
  |Name x p=>
   simp only[z7,cf,Ao,decide_eq_true_eq]at h;obtain⟨a,b,c⟩:=yg S h.2;refine⟨L2.bD (si S h.1.1 h.1.2) a,?_,?_⟩
   . show (CA es X.a).length+1=is.length+1
     rw[b]
   . show List.findIdx? (·.1) ((false,assign (.Name x p) X.a)::CA es X.a)=none
     rw[List.findIdx?_cons];simp only[AZ,if_false];rw[c];rfl
  |_=>cases h
theorem Tv(S:Scp sc N X)(hc:X.j=true)(h:ckT sc N t e=true):∃g,L2.PG X e g/\tw X.K X.d t g:=by
 cases t with
 |a i=>
  cases e with
  |Name x p=>
   simp only[ckT,cf,Ao,decide_eq_true_eq]at h;exact⟨_,si S h.1 h.2,tj⟩
  |_=>cases h
 |b is=>
  cases e with
  |Tuple es k p=>
   simp only[ckT,cf,decide_eq_true_eq]at h;obtain⟨a,b,c⟩:=yg S h.1;exact⟨_,L2.v5 hc a b c,wD⟩
  |_=>cases h
end
structure Lp(acc:Addr)(ρ:Own)(H:L2.Hp)(ρ':Own)(H':L2.Hp):Prop where
 f:∃new:List Addr,ρ'.o=ρ.o++new/\∀a∈new,H a=none
 d:ρ'.h=acc::ρ.h
 c:∀(a:Addr) (o:L2.HO),H a=some o->a ∉ ρ.o->H' a=some o
 g:∀a∈ρ.o,hk (H' a)=hk (H a)
section
variable {K:KF}{mg:Str->Option Value}{ρ ρ1 ρ2:Own}{H H1 H2:L2.Hp}{s s1:Sto}{acc:Addr}
noncomputable def Own.hide(ρ:Own)(acc:Addr):Own:=⟨ρ.o,acc::ρ.h⟩
theorem rG(hr:HR K mg ρ s H)(hn:H acc=none)o:Mv ρ H (ρ.hide acc) (L2.upd H acc o):=
 ⟨λa u e n=>⟨by rw[L2.zE (L2.zQ e hn)];exact e,n.1,λhm=>by
  rcases Ak.mp hm with z|z
  . exact L2.zQ e hn z
  . exact n.2 z⟩,λi a e=>e,λa ha=>by rw[L2.zE λz=>(hr.new hn).1 (by rw[<-z];exact ha)]⟩
theorem HR.hide(hr:HR K mg ρ s H)(hn:H acc=none):HR K mg (ρ.hide acc) s (L2.upd H acc (.b xs)):=by
 refine⟨hr.f,hr.v,λi c e=>?_,λa ha=>?_⟩
 . obtain⟨a,e1,q⟩:=hr.m i c e
   obtain⟨o,e2⟩:=q.there;exact⟨a,e1,q.mv (rG hr hn _) (L2.zE (L2.zQ e2 hn))⟩
 . rcases Ak.mp ha with z|z
   . subst z;exact⟨⟨xs,L2.zL⟩,(hr.new hn).1⟩
   . obtain⟨⟨ys,e⟩,n⟩:=hr.d a z
     exact⟨⟨ys,by rw[L2.zE (L2.zQ e hn)];exact e⟩,n⟩
theorem Lp.start(hr:HR K mg ρ s H)(hn:H acc=none)o:Lp acc ρ H (ρ.hide acc) (L2.upd H acc o):=
 ⟨⟨[],by simp[Own.hide],λa ha=>by cases ha⟩,rfl,λa u e _=>by rw[L2.zE (L2.zQ e hn)];exact e,(rG hr hn o).d⟩
theorem Lp.step(l:Lp acc ρ H ρ1 H1)(hr:HR K mg ρ1 s1 H1)(x:Ext ρ1 H1 ρ2 H2):Lp acc ρ H ρ2 H2:=by
 obtain⟨new,e1,hn⟩:=l.f;obtain⟨new2,e2,hn2⟩:=x.d;refine⟨⟨new++new2,by rw[e2,e1,Bx],λa ha=>?_⟩,x.f.trans l.d,λa o e n=>x.c a o (l.c a o e n) ?_,λa ha=>(x.g a (by rw[e1];exact Bs _ ha)).trans (l.g a ha)⟩
 . rcases AS.mp ha with ha|ha
   . exact hn a ha
   . cases q:H a with
     |none=>rfl
     |some o=>
      by_cases hm:a∈ρ.o
      . obtain⟨xs,e⟩:=hr.trk (a:=a) (by rw[e1];exact Bs _ hm)
        rw[hn2 a ha]at e;cases e
      . have:=l.c a o q hm
        rw[hn2 a ha]at this;cases this
 . rw[e1]
   intro hm;rcases AS.mp hm with hm|hm
   . exact n hm
   . rw[hn a hm]at e;cases e
theorem Lp.emit(l:Lp acc ρ H ρ1 H1)(hr:HR K mg ρ1 s1 H1)(hn:H acc=none)o:Lp acc ρ H ρ1 (L2.upd H1 acc o):=
 ⟨l.f,l.d,λa u e n=>by rw[L2.zE (L2.zQ e hn)];exact l.c a u e n,λa ha=>by
  obtain⟨new,e1,_⟩:=l.f;rw[L2.zE λz=>(hr.d acc (by rw[l.d];exact As)).2 (by rw[<-z,e1];exact Bs _ ha)]
  exact l.g a ha⟩
theorem Lp.mv(l:Lp acc ρ H ρ1 H1)(hn:H acc=none):Mv ρ H ρ1 H1:=by
 obtain⟨new,e1,hnew⟩:=l.f;refine⟨λa u e n=>⟨l.c a u e n.1,?_,?_⟩,λi a e=>?_,l.g⟩
 . rw[e1]
   intro hm;rcases AS.mp hm with hm|hm
   . exact n.1 hm
   . rw[hnew a hm]at e;cases e
 . rw[l.d]
   intro hm;rcases Ak.mp hm with z|z
   . exact L2.zQ e hn z
   . exact n.2 z
 . have hi:i<ρ.o.length:=(Am.mp e).1
   rw[e1,AW hi];exact e
theorem Lp.here(l:Lp acc ρ H ρ1 H1):acc∈ρ1.h:=by rw[l.d];exact As
theorem rF(hr:HR K mg ρ1 s1 H1)(ha:acc∈ρ1.h)o:Mv ρ1 H1 ρ1 (L2.upd H1 acc o):=
 ⟨λa u e n=>⟨by rw[L2.zE (λz=>n.2 (by rw[z];exact ha))];exact e,n⟩,λi a e=>e,λa h=>by rw[L2.zE λz=>(hr.d acc ha).2 (by rw[<-z];exact h)]⟩
theorem HR.emit(hr:HR K mg ρ1 s1 H1)(ha:acc∈ρ1.h):HR K mg ρ1 s1 (L2.upd H1 acc (.b xs)):=by
 have hno:=(hr.d acc ha).2;refine⟨hr.f,hr.v,λi c e=>?_,λa hm=>?_⟩
 . obtain⟨a,e1,q⟩:=hr.m i c e
   exact⟨a,e1,q.mv (rF hr ha _) (L2.zE (λz=>hno (by rw[<-z];exact AU e1)))⟩
 . obtain⟨⟨ys,e⟩,n⟩:=hr.d a hm
   by_cases z:a=acc
   . subst z;exact⟨⟨xs,L2.zL⟩,n⟩
   . exact⟨⟨ys,by rw[L2.zE z];exact e⟩,n⟩
theorem Lp.done(l:Lp acc ρ H ρ1 H1)(h0:HR K mg ρ s H)(hn:H acc=none)(hr:HR K mg ρ1 s1 H1)(e:H1 acc=some (.b ys))(q:RDs K mg ρ1 H1 vs ys)(w:yL K mg (RD K mg) ρ H (newList m vs s1) Q):Q (.c acc) H1:=by
 have ha:=l.here;have hacc:=(hr.d acc ha).2;have hnh:=(h0.new hn).2;cases m with
 |false=>
  have mv:Mv ρ1 H1 ⟨ρ1.o,ρ.h⟩ H1:=⟨λa u e n=>⟨e,n.1,λz=>n.2 (by rw[l.d];exact Ah _ z)⟩,λi a e=>e,λ_ _=>rfl⟩
  refine w ⟨ρ1.o,ρ.h⟩ _ H1 ⟨l.f,rfl,l.c,l.g⟩ ⟨hr.f,hr.v,λi ws e=>?_,λa hm=>?_⟩ (.E ⟨hacc,hnh⟩ e (RDs.mv mv q))
  . obtain⟨a,e1,t⟩:=hr.m i ws e
    exact⟨a,e1,t.mv mv rfl⟩
  . exact hr.d a (by rw[l.d];exact Ah _ hm)
 |true=>
  have mv:Mv ρ1 H1 ⟨ρ1.o++[acc],ρ.h⟩ H1:=by
   refine⟨λa u e n=>⟨e,λhm=>?_,λz=>n.2 (by rw[l.d];exact Ah _ z)⟩,λi a e=>?_,λ_ _=>rfl⟩
   . rcases AS.mp hm with hm|hm
     . exact n.1 hm
     . rw[Aw.mp hm]at n;exact n.2 ha
   . show (ρ1.o++[acc])[i]?=_
     rw[AW (Am.mp e).1];exact e
  have rf:(ρ1.o++[acc])[s1.length]?=some acc:=by rw[<-hr.f,BF (xd _)];simp
  refine w ⟨ρ1.o++[acc],ρ.h⟩ _ H1 ⟨?_,rfl,l.c,l.g⟩ ⟨?_,?_,λi ws q'=>?_,λa hm=>?_⟩ (.C rf (by rw[e];rfl))
  . obtain⟨new,e1,hnew⟩:=l.f
    refine⟨new++[acc],by show ρ1.o++[acc]=_;rw[e1,Bx],λa hm=>?_⟩
    rcases AS.mp hm with hm|hm
    . exact hnew a hm
    . rw[Aw.mp hm];exact hn
  . show (ρ1.o++[acc]).length=(s1++[Cel.c vs]).length
    rw[Ap,Ap,hr.f];rfl
  . show (ρ1.o++[acc]).Nodup
    rw[Fo];exact⟨hr.v,by simp,λa ha' b hb=>by rw[Aw.mp hb];intro z;subst z;exact hacc ha'⟩
  . by_cases hi:i<s1.length
    . rw[AW hi]at q'
      obtain⟨a,e1,t⟩:=hr.m i ws q';exact⟨a,mv.c i a e1,t.mv mv rfl⟩
    . have hi':i=s1.length:=by have:=(Am.mp q').1;rw[Ap]at this;simp at this;omega
      subst hi';rw[BF (xd _)]at q';simp at q';subst q';exact⟨acc,rf,ys,e,RDs.mv mv q⟩
  . obtain⟨x,n⟩:=hr.d a (by rw[l.d];exact Ah _ hm)
    refine⟨x,λz=>?_⟩;rcases AS.mp z with z|z
    . exact n z
    . rw[Aw.mp z]at hm;exact hnh hm
end
end M
end
section
namespace M
open PySem
section
variable {K:KF}{mg:Str->Option Value}
theorem qA{J:L2.It}{g:L2.TG}{tb:L2.TS}{D:L2.Ends}(Pv:Nat->L2.St->L2.Hp->Prop)(h0:Pv 0 σ H)(hd:∀σ H,Pv n σ H->J.a n H/\D.a σ H)
 (hs:∀i σ H,i<n->Pv i σ H->J.c i H/\∀x H',J.b i H x H'->g x σ H' λσ2 H2=>tb {D with a:=Pv (i+1),d:=Pv (i+1),c:=D.a} σ2 H2):L2.pZ J g tb D σ H:=by
 refine⟨λi m σ H=>m=n-i/\i<=n/\Pv i σ H,⟨n,by simp,BX _,h0⟩,?_⟩
 rintro i m σ H ⟨rfl,hi,p⟩;by_cases hlt:i<n
 . obtain⟨a,b⟩:=hs i σ H hlt p
   exact .inr ⟨a,Pv (i+1),λσ' H' p'=>⟨n-(i+1),by omega,rfl,hlt,p'⟩,b⟩
 . have e:i=n:=by omega
   subst e;exact .inl (hd σ H p)
structure CS(K:KF)(mg:Str->Option Value)(acc:Addr)(ρ0:Own)(H0:L2.Hp)(a:List Val)(s:Sto)(env:Env)(ρ:Own)(σ:L2.St)(H:L2.Hp):Prop where
 d:Lp acc ρ0 H0 ρ H
 b:HR K mg ρ s H
 c:ER K mg ρ H env σ
 e:∃ys,H acc=some (.b ys)/\RDs K mg ρ H a ys
def Grows(body:Env->Sto->List Val->Out (List Val × Env)):Prop:=∀e s a p s',body e s a=.e p s'->a.length<=p.1.length
theorem vv(hb:Grows body):∀{xs} {env} {s} {a} {p} {s'},yV r t body xs env s a=.e p s'->a.length<=p.1.length
 |[],env,s,a,p,s',h=>by
  rw[yV]at h;split at h
  . cases h;exact xd _
  . cases h
 |x::xs,env,s,a,p,s',h=>by
  rw[yV]at h;split at h
  . split at h
    . cases h
    . rename_i env' he
      cases hc:body env' s a with
      |e q s1=>
       rw[hc]at h;exact AE (hb _ _ _ _ _ hc) (vv hb h)
      |g _ _ _=>rw[hc]at h;cases h
      |d=>rw[hc]at h;cases h
  . cases h
def BodyOk(K:KF)(mg:Str->Option Value)(acc:Addr)(ρ0:Own)(H0:L2.Hp)(body:Env->Sto->List Val->Out (List Val × Env))(tb:L2.TS):Prop:=
 ∀(ρ:Own) (s:Sto) (H:L2.Hp) (env:Env) (σ:L2.St) (a:List Val) (p:List Val × Env) (s':Sto) (D:L2.Ends),CS K mg acc ρ0 H0 a s env ρ σ H->body env s a=.e p s'->p.1.length<=zY ->
  (∀ρ' H' σ',CS K mg acc ρ0 H0 p.1 s' p.2 ρ' σ' H'->Mv ρ H ρ' H'->D.a σ' H')->tb D σ H
theorem wk
   (W:Walk K mg ρ H r J) (TG:tw K mg t g) (hg:Grows body) (hb:BodyOk K mg acc ρ0 H0 body tb)
 (C:CS K mg acc ρ0 H0 a s env ρ σ H) (h:yV r t body r.a env s a=.e p sf) (hz:p.1.length<=zY) (fin:∀ρ' H' σ',CS K mg acc ρ0 H0 p.1 sf p.2 ρ' σ' H'->Mv ρ H ρ' H'->D.a σ' H'):L2.pZ J g tb D σ H:=by
 refine qA (n:=r.a.length) (λi σ2 H2=>∃ρ2 s2 env2 a2,CS K mg acc ρ0 H0 a2 s2 env2 ρ2 σ2 H2/\Mv ρ H ρ2 H2/\yV r t body (r.a.drop i) env2 s2 a2=.e p sf) ⟨ρ,s,env,a,C,Mv.refl,by rw[DI];exact h⟩ ?_ ?_
 . rintro σ2 H2 ⟨ρ2,s2,env2,a2,C2,mv,h2⟩
   rw[FK,yV]at h2;split at h2
   . rename_i ho
     cases h2;exact⟨W.a ρ2 H2 _ _ mv C2.b ho rfl,fin ρ2 H2 σ2 C2 mv⟩
   . cases h2
 . rintro i σ2 H2 hi ⟨ρ2,s2,env2,a2,C2,mv,h2⟩
   rw[Du hi,yV]at h2;split at h2
   . rename_i ho
     obtain⟨hgo,hy⟩:=W.c ρ2 H2 s2 i (r.a[i]) mv C2.b ho (Ad hi);refine⟨hgo,λx H3 y=>?_⟩;obtain⟨hH,rx⟩:=hy x H3 y;split at h2
     . cases h2
     . rename_i env' he
       -- the item is there: perhaps a new thing
       have C3:CS K mg acc ρ0 H0 a2 s2 env2 ρ2 σ2 H3/\Mv ρ2 H2 ρ2 H3:=by
        rcases hH with e|⟨q,o,hq,e⟩
        . subst e;exact⟨C2,Mv.refl⟩
        . subst e
          have X:=Ext.new C2.b hq o;refine⟨⟨C2.d.step C2.b X,C2.b.more hq o,C2.c.mono X,?_⟩,X.mv⟩;obtain⟨ys,e1,e2⟩:=C2.e;exact⟨ys,by rw[L2.zE (L2.zQ e1 hq)];exact e1,e2.mono X⟩
       refine TG ρ2 s2 H3 _ x env2 env' σ2 _ C3.1.b rx C3.1.c he λσ4 er4=>?_;cases hc:body env' s2 a2 with
       |e q s5=>
        rw[hc]at h2;have hlen:q.1.length<=zY:=AE (vv hg h2) hz;exact hb ρ2 s2 H3 env' σ4 a2 q s5 _ ⟨C3.1.d,C3.1.b,er4,C3.1.e⟩ hc hlen λρ5 H5 σ5 C5 mv5=>⟨ρ5,s5,q.2,q.1,C5,(mv.trans C3.2).trans mv5,h2⟩
       |g _ _ _=>rw[hc]at h2;cases h2
       |d=>rw[hc]at h2;cases h2
   . cases h2
end
section
variable (K:KF)(mg:Str->Option Value)(Φ:Calls)(G:Str->Option Val)
def uE(e:Ex):L2.TE:=λσ H Q=>∃env s,tV K mg env s (evE Φ G env e s) σ H Q
def uT(e:Cn):L2.TT:=λσ H Q=>∃env s,tT K mg env s (evT Φ G env e s) σ H Q
def uI(it:Itb):L2.TI:=λσ H R=>∃env s,tI (K:=K) (mg:=mg) env s (yS Φ G env it s) σ H R
noncomputable def uTs:Cns->List L2.TT
 |.a=>[]
 |.b e es=>uT K mg Φ G e::uTs es
end
section
variable {K:KF}{mg:Str->Option Value}{Φ:Calls}{G:Str->Option Val}
theorem gb(h:∀env s,L2.PE X E (tV X.K X.d env s (evE Φ G env e s))):L2.PE X E (uE X.K X.d Φ G e):=λpins s σ H Q I ⟨env,t,q⟩=>h env t pins s σ H Q I q
theorem T3(h:∀env s,L2.PT X E (tT X.K X.d env s (evT Φ G env e s))):L2.PT X E (uT X.K X.d Φ G e):=λpins s σ H Q I ⟨env,t,q⟩=>h env t pins s σ H Q I q
theorem kH(h:∀env s,L2.PI X tg E (tI (K:=X.K) (mg:=X.d) env s (yS Φ G env it s))):L2.PI X tg E (uI X.K X.d Φ G it):=λpins s σ H Q I ⟨env,t,q⟩=>h env t pins s σ H Q I q
theorem qk:∀{es} {ρ} {s} {H},HR K mg ρ s H->ER K mg ρ H env σ->xk Φ G env es s=.e b s2 ->
 (∀ρ' H',Ext ρ H ρ' H'->HR K mg ρ' s2 H'->Q b H')->L2.nX (uTs K mg Φ G es) σ H Q
 |.a,ρ,s,H,hr,er,h,q=>by
  rw[xk]at h;cases h;exact q ρ H Ext.refl hr
 |.b e es,ρ,s,H,hr,er,h,q=>by
  rw[xk]at h;refine⟨env,s,ρ,hr,er,?_⟩;cases hc:evT Φ G env e s with
  |e c s1=>
   rw[hc]at h;intro ρ1 c' H1 x1 hr1 e1;cases e1;cases c with
   |true=>exact L2.sG (qk hr1 (er.mono x1) h λρ' H' x' hr'=>q ρ' H' (x1.trans hr1 x') hr')
   |false=>
    simp only[zN]at h;cases h;exact L2.uR (q ρ1 H1 x1 hr1)
  |g _ _ _=>rw[hc]at h;cases h
  |d=>rw[hc]at h;cases h
def ua(Φ:Calls)(G:Str->Option Val)(elt:Ex)(ifs:Cns):Env->Sto->List Val->Out (List Val × Env):=λe s' acc=>(xk Φ G e ifs s').bind λb s2=>if b then (evE Φ G e elt s2).bind λv s3=>.e (acc++[v],e) s3 else .e (acc,e) s2
theorem wM:Grows (ua Φ G elt ifs):=by
 intro e s a p s' h;unfold ua at h;cases hc:xk Φ G e ifs s with
 |e b s1=>
  rw[hc]at h;cases b with
  |true=>
   simp only[zN,if_true]at h;cases hv:evE Φ G e elt s1 with
   |e v s2=>rw[hv]at h;cases h;simp
   |g _ _ _=>rw[hv]at h;cases h
   |d=>rw[hv]at h;cases h
  |false=>simp only[zN]at h;cases h;exact xd _
 |g _ _ _=>rw[hc]at h;cases h
 |d=>rw[hc]at h;cases h
theorem qo(hn:H0 acc=none):BodyOk K mg acc ρ0 H0 (ua Φ G elt ifs) (L2.tTB (uTs K mg Φ G ifs) (L2.vR acc (uE K mg Φ G elt))):=by
 intro ρ s H env σ a p s' D C h hz q;unfold ua at h;cases hc:xk Φ G env ifs s with
 |e b s1=>
  rw[hc]at h;refine qk (ρ:=ρ) (s:=s) C.b C.c hc λρ1 H1 x1 hr1=>?_;have hacc1:∃ys,H1 acc=some (.b ys)/\RDs K mg ρ1 H1 a ys:=by obtain⟨ys,e1,e2⟩:=C.e;exact⟨ys,x1.c _ _ e1 (C.b.d acc C.d.here).2,e2.mono x1⟩
  cases b with
  |true=>
   simp only[zN,if_true]at h;refine L2.sG ⟨env,s1,ρ1,hr1,C.c.mono x1,?_⟩;cases hv:evE Φ G env elt s1 with
   |e v s2=>
    rw[hv]at h;cases h;intro ρ2 y H2 x2 hr2 r2;have xx:=x1.trans hr1 x2;have lp2:=C.d.step C.b xx;obtain⟨ys,e1,e2⟩:=hacc1;have e3:H2 acc=some (.b ys):=x2.c _ _ e1 (hr1.d acc (C.d.step C.b x1).here).2;have e4:=e2.mono x2;have hl:ys.length<Au:=by have h1:(a++[v]).length<=zY:=hz;rw[Ap,e2.length,yf]at h1;simp at h1;omega
    have mv2:=rF (H1:=H2) hr2 lp2.here (.b (ys++[y]));refine⟨ys,e3,hl,q ρ2 _ σ ⟨lp2.emit hr2 hn _,hr2.emit lp2.here,⟨C.c.b,λi v' e'=>?_⟩,⟨_,L2.zL,RDs.mv mv2 (e4.append (.a r2 .d))⟩⟩ (xx.mv.trans mv2)⟩;obtain⟨u,h1,h2⟩:=(C.c.mono xx).a i v' e';exact⟨u,h1,RD.mv mv2 h2⟩
   |g _ _ _=>rw[hv]at h;cases h
   |d=>rw[hv]at h;cases h
  |false=>
   simp only[zN]at h;cases h;exact L2.uR (q ρ1 H1 σ ⟨C.d.step C.b x1,hr1,C.c.mono x1,hacc1⟩ x1.mv)
 |g _ _ _=>rw[hc]at h;cases h
 |d=>rw[hc]at h;cases h
def sS(Φ:Calls)(G:Str->Option Val)(elt:Ex)(ifs:Cns)(t2:Tgt)(it2:Itb)(ifs2:Cns):Env->Sto->List Val->Out (List Val × Env):=λe s' acc=>(xk Φ G e ifs s').bind λb s2=>if b then (yS Φ G e it2 s2).bind λr2 s3=>
 yV r2 t2 (ua Φ G elt ifs2) r2.a e s3 acc
 else .e (acc,e) s2
theorem tm:Grows (sS Φ G elt ifs t2 it2 ifs2):=by
 intro e s a p s' h;unfold sS at h;cases hc:xk Φ G e ifs s with
 |e b s1=>
  rw[hc]at h;cases b with
  |true=>
   simp only[zN,if_true]at h;cases hv:yS Φ G e it2 s1 with
   |e v s2=>rw[hv]at h;exact vv wM h
   |g _ _ _=>rw[hv]at h;cases h
   |d=>rw[hv]at h;cases h
  |false=>simp only[zN]at h;cases h;exact xd _
 |g _ _ _=>rw[hc]at h;cases h
 |d=>rw[hc]at h;cases h
theorem oH(hn:H0 acc=none)(TG:tw K mg t2 g2) :
 BodyOk K mg acc ρ0 H0 (sS Φ G elt ifs t2 it2 ifs2) (L2.tTB (uTs K mg Φ G ifs) (L2.qj (uI K mg Φ G it2) g2 (uTs K mg Φ G ifs2) (L2.vR acc (uE K mg Φ G elt)))):=by
 intro ρ s H env σ a p s' D C h hz q;unfold sS at h;cases hc:xk Φ G env ifs s with
 |e b s1=>
  rw[hc]at h;refine qk (ρ:=ρ) (s:=s) C.b C.c hc λρ1 H1 x1 hr1=>?_;have hacc1:∃ys,H1 acc=some (.b ys)/\RDs K mg ρ1 H1 a ys:=by obtain⟨ys,e1,e2⟩:=C.e;exact⟨ys,x1.c _ _ e1 (C.b.d acc C.d.here).2,e2.mono x1⟩
  have lp1:=C.d.step C.b x1;cases b with
  |true=>
   simp only[zN,if_true]at h;refine L2.sG ⟨env,s1,ρ1,hr1,C.c.mono x1,?_⟩;cases hv:yS Φ G env it2 s1 with
   |e r2 s2=>
    rw[hv]at h;intro ρ2 H2 J x2 hr2 W;have xx:=x1.trans hr1 x2;obtain⟨ys,e1,e2⟩:=hacc1;have e3:H2 acc=some (.b ys):=x2.c _ _ e1 (hr1.d acc lp1.here).2;exact wk W TG wM (qo hn) ⟨lp1.step hr1 x2,hr2,C.c.mono xx,⟨ys,e3,e2.mono x2⟩⟩ h hz λρ3 H3 σ3 C3 mv3=>q ρ3 H3 σ3 C3 (xx.mv.trans mv3)
   |g _ _ _=>rw[hv]at h;cases h
   |d=>rw[hv]at h;cases h
  |false=>
   simp only[zN]at h;cases h;exact L2.uR (q ρ1 H1 σ ⟨lp1,hr1,C.c.mono x1,hacc1⟩ x1.mv)
 |g _ _ _=>rw[hc]at h;cases h
 |d=>rw[hc]at h;cases h
theorem gq(er:ER K mg ρ H env σ)fr:ER K mg ρ H (zd fr env) (L2.zd fr σ):=by
 refine⟨by unfold zd L2.zd;rw[Ai,Ai],λi v e=>?_⟩
 unfold zd at e;unfold L2.zd;rw[AX]at e ⊢;cases hf:fr[i]? with
 |none=>rw[hf]at e;cases e
 |some o=>
  rw[hf]at e;cases o with
  |none=>cases e
  |some j=>
   have e':(env[j]?).join=some v:=AQ e;have e2:env[j]?=some (some v):=by
    cases h1:env[j]? with
    |none=>rw[h1]at e';cases e'
    |some w=>rw[h1]at e';have:w=some v:=e';rw[this]
   obtain⟨x,h1,h2⟩:=er.a j v e2;refine⟨x,?_,h2⟩;show some ((σ[j]?).join)=_;rw[h1];rfl
theorem uH(TG:tw K mg t g)(hg:Grows body)
 (hb:∀acc ρ0 H0,H0 acc=none->BodyOk K mg acc ρ0 H0 body (L2.tTB ts (tb acc)))    
 (h:tV K mg env s ((yS Φ G env it s).bind λr s1=>(yV r t body r.a (zd fr env) s1 []).bind λp s2=>if chk=true->p.1.length<=zY then newList m p.1 s2 else .d) σ H Q)
 (hlen:chk=false->∀r s1 p s2,yV r t body r.a (zd fr env) s1 []=.e p s2->p.1.length<=r.a.length):L2.wo fr (uI K mg Φ G it) g ts tb σ H Q:=by
 obtain⟨ρ,hr,er,w⟩:=h;refine⟨env,s,ρ,hr,er,?_⟩;cases hi:yS Φ G env it s with
 |e r s1=>
  rw[hi]at w;simp only[zN]at w;intro ρ1 H1 J x1 hr1 W acc hacc;cases hl:yV r t body r.a (zd fr env) s1 [] with
  |e p s2=>
   rw[hl]at w;simp only[zN]at w;have hz:p.1.length<=zY/\yL K mg (RD K mg) ρ H (newList m p.1 s2) Q:=by
    by_cases hc:chk=true->p.1.length<=zY
    . rw[if_pos hc]at w
      refine⟨?_,w⟩;cases chk with
      |true=>exact hc rfl
      |false=>exact AE (hlen rfl r s1 p s2 hl) W.b
    . rw[if_neg hc]at w;exact w.elim
   have mv:=rG (ρ:=ρ1) hr1 hacc (.b []);have ers:=gq (er.mono x1) fr;refine wk (ρ0:=ρ1) (H0:=H1) (W.mv mv) TG hg (hb acc ρ1 H1 hacc) ⟨Lp.start hr1 hacc _,hr1.hide hacc,⟨ers.b,λi v e=>?_⟩,⟨[],L2.zL,.d⟩⟩ hl hz.1 λρ3 H3 σ3 C3 _=>?_
   . obtain⟨x,h1,h2⟩:=ers.a i v e
     exact⟨x,h1,RD.mv mv h2⟩
   . obtain⟨ys,e1,e2⟩:=C3.e
     exact C3.d.done hr1 hacc C3.b e1 e2 (hz.2.mono x1 hr1)
  |g _ _ _=>rw[hl]at w;exact w.elim
  |d=>rw[hl]at w;exact w.elim
 |g _ _ _=>rw[hi]at w;exact w.elim
 |d=>rw[hi]at w;exact w.elim
theorem sT:∀{xs} {env} {s} {a} {p} {s'},yV r t (ua Φ G elt ifs) xs env s a=.e p s'->p.1.length<=a.length+xs.length
 |[],env,s,a,p,s',h=>by
  rw[yV]at h;split at h
  . cases h;exact xd _
  . cases h
 |x::xs,env,s,a,p,s',h=>by
  rw[yV]at h;split at h
  . split at h
    . cases h
    . rename_i env' he
      cases hc:ua Φ G elt ifs env' s a with
      |e q s1=>
       rw[hc]at h;have h1:=sT h;have h2:q.1.length<=a.length+1:=by
        unfold ua at hc;cases h3:xk Φ G env' ifs s with
        |e b s2=>
         rw[h3]at hc;cases b with
         |true=>
          simp only[zN,if_true]at hc;cases h4:evE Φ G env' elt s2 with
          |e v s3=>rw[h4]at hc;cases hc;simp
          |g _ _ _=>rw[h4]at hc;cases hc
          |d=>rw[h4]at hc;cases hc
         |false=>simp only[zN]at hc;cases hc;exact CW _
        |g _ _ _=>rw[h3]at hc;cases hc
        |d=>rw[h3]at hc;cases hc
       rw[AI];omega
      |g _ _ _=>rw[hc]at h;cases h
      |d=>rw[hc]at h;cases h
  . cases h
end
end M
end
section
namespace M
open PySem PySem.W
def qt(K:KF)(mg:Str->Option Value)(ρ:Own)(H:L2.Hp)(x:sq)(E:L2.XK):Prop:=match x with
 |some (c,_,s')=>∀ρ' H',Ext ρ H ρ' H'->HR K mg ρ' s' H'->∀C,mg c=some (.ref C)->E (.ref C) none H'
 |dr=>False
def spX(T:Tbl)(K:KF)(mg:Str->Option Value)(n:Nat)(f:Str)(ver:Nat):L2.Sp:=λvs H Q E=>∃ρ s args,HR K mg ρ s H/\RDs K mg ρ H args vs/\(yL K mg (RD K mg) ρ H (zB T n f ver args s) Q\/qt K mg ρ H (zZ T n f ver args s) E)
structure Sc(T:Tbl)(K:KF)(mg:Str->Option Value):Prop where
 a:∃(kx:Str) (cs ws:List Str) (pre:Option Str) (hue:Addr),mg "HueError"=some (.ref hue)/\L2.oM K mg kx cs ws pre/\(∀b,T.c b=true->∃f,L2.fF K mg b kx f) /\
  (∀c w,T.f.lookup c=some w->∃(C:Addr) (i:Nat) (x:Str),mg c=some (.ref C)/\(∃Kc,L2.qu Kc K/\exmOne Kc (.ref C) (.ref hue)=some true)/\L2.Named K mg cs C c/\cs[i]?=some c/\ws[i]?=some x/\w=L2.ans pre x/\w≠"great") /\
  ∀c w,T.f.lookup c=some w->∀base,K.In base->∃C,mg c=some (.ref C)/\L2.ClsAt base C (.ref hue::L2.veM)/\L2.ClsAt base hue L2.veM
 bm:∀base,K.In base->L2.Bm base mg
structure Lv(T:Tbl)(P:Program)(w:World)(K:KF)(mg:Str->Option Value)(base:Heap)(n:Nat):Prop where
 a:∀f v F,T.d f v=some F->∃fa fd,mg f=some (.ref fa)/\B0 K (.ref fa)=true/\L2.Binds K fd F.b []/\L2.uw P w K mg base L2.CX0 n fa fd F.b (spN T K mg n f v)/\L2.uw P w K mg base (L2.CXE P w) n fa fd F.b (spX T K mg n f v)
structure Sd(T:Tbl)(P:Program)(w:World)(K:KF)(mg:Str->Option Value)(base:Heap)(m:Nat):Prop where
 a:Sc T K mg
 b:∀j,j<=m->Lv T P w K mg base j
def Cod(T:Tbl)(X:L2.Cx):Prop:=∃g∈T.e,∃(fa c:Addr) (o:Obj) (fd:BM),X.d g=some (.ref fa)/\X.K.lookup fa=some o/\o.data=.func fd/\fd.code=.ref c/\X.a.code=.ref c/\X.a.qual=g++(".<locals>.":Str)
theorem qF:∀{l} {s} {g},zh l s=true->g∈l->∃j:Nat,s[j]?=some (.d g)
 |[],_,_,_,h=>by cases h
 |x::r,[],_,h,_=>by cases h
 |x::r,c::s,g,h,hm=>by
  cases c with
  |d y=>
   rw[zh,cf,decide_eq_true_eq]at h;rcases Ak.mp hm with z|z
   . subst z;rw[h.1];exact⟨0,rfl⟩
   . obtain⟨j,e⟩:=qF h.2 z
     exact⟨j+1,e⟩
  |_=>cases h
section
variable {K:KF}{mg:Str->Option Value}{ρ:Own}{H H':L2.Hp}{s:Sto}
theorem HR.SU(h:HR K mg ρ s H)(sm:L2.xf H H'):HR K mg ρ s H'/\Ext ρ H ρ H':=by
 have X:Ext ρ H ρ H':=⟨⟨[],by simp,λa ha=>by cases ha⟩,rfl,λa o e _=>sm a o e,λa ha=>by obtain⟨o,e⟩:=h.trk ha;rw[e,sm a o e]⟩
 refine⟨⟨h.f,h.v,λi c e=>?_,λa ha=>?_⟩,X⟩
 . obtain⟨a,e1,r⟩:=h.m i c e
   obtain⟨o,e2⟩:=r.there;exact⟨a,e1,r.mv X.mv (by rw[e2,sm a o e2])⟩
 . obtain⟨⟨xs,e⟩,n⟩:=h.d a ha
   exact⟨⟨xs,sm _ _ e⟩,n⟩
theorem oF(h:DE l):l=[]\/∃i j t u c r,l=.int i t::.int j u::c::r/\DE r:=by
 unfold DE at h;split at h
 . exact .inl rfl
 . exact .inr ⟨_,_,_,_,_,_,rfl,h⟩
 . exact h.elim
theorem oE:∀n {l},l.length<=n->DE l->DE (l++[.int i t,.int j u,c])
 |n,l,hl,h=>by
  rcases oF h with rfl|⟨i',j',t',u',c',r,rfl,h'⟩
  . exact AG
  . cases n with
    |zero=>cases hl
    |succ n=>exact oE n (l:=r) (by simp only[AI]at hl;omega) h'
theorem rZ:∀n {l},l.length<=n->DE l->DC pos (l++[.int i t,.int j u,c])=some cv->DC pos l=some cv\/cv=c
 |n,l,hl,h,e=>by
  rcases oF h with rfl|⟨i',j',t',u',c',r,rfl,h'⟩
  . have e':(if i == pos.line&&j == pos.col then some c else none)=some cv:=e
    split at e'
    . cases e';exact .inr rfl
    . cases e'
  . have e':(if i' == pos.line&&j' == pos.col then some c' else DC pos (r++[.int i t,.int j u,c]))=some cv:=e
    show (if i' == pos.line&&j' == pos.col then some c' else DC pos r)=some cv\/_
    cases n with
    |zero=>cases hl
    |succ n=>
     split at e'
     . rename_i z;rw[if_pos z];exact .inl e'
     . rename_i z;rw[if_neg z];exact rZ n (l:=r) (by simp only[AI]at hl;omega) h' e'
theorem HR.lam{j:Nat}(h:HR K mg ρ s H)(hs:s[j]?=some (.d g))(hj:ρ.o[j]?=some P)(tr:UP K mg ρ H P g)(hP:H P=some (.g ps))(l:L2.Xf H P ps pos (dq g) c H'):HR K mg ρ s H'/\Ext ρ H ρ H':=by
 rcases l with rfl|⟨o,vs,t,hf,hc,hd,hv,rfl⟩
 . exact⟨h,Ext.refl⟩
 . obtain⟨ps',e1,tok,among,fn⟩:=tr
   rw[hP]at e1;cases e1;have hcP:c≠P:=λz=>by rw[z,hP]at hc;cases hc
   have comm:L2.upd (L2.upd H P (.g (ps++#[rawInt pos.line,rawInt pos.col,.ref c]))) c (.d o (.e 0))=L2.upd (L2.upd H c (.d o (.e 0))) P (.g (ps++#[rawInt pos.line,rawInt pos.col,.ref c])):=by
    funext b;unfold L2.upd;by_cases z1:b=c
    . subst z1;rw[if_pos rfl,if_neg hcP,if_pos rfl]
    . rw[if_neg z1]
      by_cases z2:b=P
      . rw[if_pos z2,if_pos z2]
      . rw[if_neg z2,if_neg z2,if_neg z1]
   rw[comm];have h1:=h.more hc (.d o (.e 0));have X1:=Ext.new h hc (.d o (.e 0));have hP1:L2.upd H c (.d o (.e 0)) P=some (.g ps):=by rw[L2.zE (A9 hcP)];exact hP
   have kk:hk (some (.g (ps++#[rawInt pos.line,rawInt pos.col,.ref c])))=hk (L2.upd H c (.d o (.e 0)) P):=by rw[hP1];rfl
   have X2:=Ext.sU h1 hj kk;have hnoc:ρ.no c:=h.new hc;have kc:∀b u,ρ.no b->H b=some u->L2.upd (L2.upd H c (.d o (.e 0))) P (.g (ps++#[rawInt pos.line,rawInt pos.col,.ref c])) b=some u:=λb u nb e=>X2.c b u (X1.c b u e nb.1) nb.1;refine⟨?_,X1.trans h1 X2⟩;have hr:=h1.sU (c:=.d g) hj kk ⟨_,L2.zL,?_,λpos' cv hcv=>?_,fn⟩
   . rw[show s.set j (.d g)=s from ?_]at hr
     . exact hr
     . refine List.ext_getElem? λi=>?_
       by_cases z:j=i
       . subst z;rw[Av (Am.mp hs).1,hs]
       . rw[AO z]
   . rw[Array.toList_append];exact oE _ (xd _) tok
   . rw[Array.toList_append]at hcv
     rcases rZ _ (xd _) tok hcv with z|z
     . obtain⟨b,ob,vb,tb,q1,q2,q3,q4⟩:=among pos' cv z
       exact⟨b,ob,vb,tb,q1,q2,kc b _ q2 q3,q4⟩
     . exact⟨c,o,vs,t,z,hnoc,X2.c c _ L2.zL hnoc.1,hd,hv⟩
end
noncomputable def xW(cells:List (Str × Addr)):List (Str × CK)->List (Str × Addr)->List (Str × Addr)
 |[],acc=>acc
 |(x,k)::r,acc=>xW cells r (if k == .free then (x,(cells.lookup x).getD 0)::acc else acc)
theorem jM(h:∀x∈lsc.names,x.2=.free->∃c,env.cells.lookup x.1=some c):Gk lsc env=pure (xW env.cells lsc.names []):=by
 have key:∀(names:List (Str × CK)) (acc:List (Str × Addr)),(∀x∈names,x.2=.free->∃c,env.cells.lookup x.1=some c) ->
  (forIn names acc λ(x:Str × CK) (cs:List (Str × Addr))=>(do if x.2 == .free then pure (B8 ((x.1,<-cellOf env x.1)::cs)) else pure (B8 cs):Sem (ForInStep (List (Str × Addr)))))=pure (xW env.cells names acc):=by
  intro names;induction names with
  |nil=>intro acc _;rfl
  |cons p r ih=>
   obtain⟨x,k⟩:=p;intro acc hh;rw[Er];by_cases hk:k=.free
   . subst hk
     obtain⟨c,hc⟩:=hh (x,.free) (As ..) rfl;have e:cellOf env x=pure c:=by unfold cellOf;rw[hc]
     have e2:xW env.cells ((x,.free)::r) acc=xW env.cells r ((x,c)::acc):=by show xW env.cells r ((x,(env.cells.lookup x).getD 0)::acc)=_;rw[hc];rfl
     rw[e2];simp only[show ((AB == AB)=true) from rfl,if_true,e,Dz];exact ih _ λy hy=>hh y (Ah _ hy)
   . have hb:(k == AB)=false:=by simpa using hk
     have e2:xW env.cells ((x,k)::r) acc=xW env.cells r acc:=by
      show xW env.cells r (if k == .free then _ else acc)=_
      rw[hb];rfl
     rw[e2];simp only[hb,AZ,if_false,Dz];exact ih _ λy hy=>hh y (Ah _ hy)
 unfold Gk;have:=key lsc.names [] h;simpa using this
theorem sA:∀{names} {acc} {x} {b},(x,b)∈xW cells names acc->(x,b)∈acc\/((x,AB)∈names/\b=(cells.lookup x).getD 0)
 |[],_,_,_,h=>.inl h
 |(y,k)::r,acc,x,b,h=>by
  rcases sA (names:=r) h with z|z
  . by_cases hk:k=.free
    . subst hk
      rcases Ak.mp z with z|z
      . cases z;exact .inr ⟨As ..,rfl⟩
      . exact .inl z
    . have hb:(k == AB)=false:=by simpa using hk
      rw[hb]at z;exact .inl z
  . exact .inr ⟨Ah _ z.1,z.2⟩
theorem pK:∀{names} {acc} {x} {b},(x,b)∈acc->(x,b)∈xW cells names acc
 |[],_,_,_,h=>h
 |(y,k)::r,acc,x,b,h=>pK (names:=r) (by
  split
  . exact Ah _ h
  . exact h)
theorem wj:∀{names} {acc} {x},(x,AB)∈names->(x,(cells.lookup x).getD 0)∈xW cells names acc
 |(y,k)::r,acc,x,h=>by
  rcases Ak.mp h with z|z
  . cases z;exact pK (names:=r) (As ..)
  . exact wj (names:=r) z
theorem lookup_mem{α:Type}{l:List (Str × α)}{b}(h:(x,b)∈l):∃c,l.lookup x=some c:=by
 cases e:l.lookup x with
 |some c=>exact⟨c,rfl⟩
 |none=>
  rw[FR]at e;have:=e _ h;simp at this
end M
end
section
namespace L2
open PySem PySem.Spec PyProof.Rows
def UL(tabs:List Addr)(H:Hp):Prop:=∀b,H b=none\/(∃o xs,H b=some (.d o (.b xs)))\/(b∈tabs/\H b=some (.g #[]))
theorem hG{K}{tabs:List Addr}
 (KX:K.In s₁.heap) (hns:s₁.heap.Ns AJ mg) (hb:s₁.heap.Ns Fq mb) (hbb:∀x:Str,x≠"__name__"->mb x=BV x) (hlim:s₁.heap.NoLimit) (hg:s₁.gens=#[])
 (ha:s₁.heap.get? a=some {cls:=.type "list",data:=.seq vs.toArray}) (hi:IntsAre vs ns) (hl:ns.length<=Au) (hr:xA k callerA)
 (ht:∀b∈tabs,s₁.heap.get? b=some (EI #[])/\K.lookup b=none/\F5 s₁.heap b)
 (F:∀base:Heap,K.In base->base.Ns AJ mg->uw P w K mg base CX k fa fd [x] sp) (hbind:∀s u,BindsTo s fd ⟨[u],[]⟩ [(x,u)])
 (hsp:∀H:Hp,(∀b∈tabs,H b=some (.g #[]))->SqL K H a (ns.map V.d)->sp [.c a] H (λv _=>v=.f true) λ_ _ _=>False)
 (hCX:∀H e s',CX [] H s₁ (λ_ _ _=>False) e s'->False) :
 codeAny (model P w) callerA (.call (.ref fa) ⟨[.ref a],[]⟩) (λr s'=>r=.ok (.ret (.bool true))/\OldK s₁.heap s'.heap/\s'.os=s₁.os/\AllBare s'.gens) s₁:=by
 have rv:=oI hi;have lenV:=hi.length;have nat:a ∉ tabs:=λz=>by have:=(ht a z).1;rw[ha]at this;cases this
 have core:∀H:Hp,UL tabs H->(∀b∈tabs,H b=some (.g #[]))->SqL K H a (ns.map V.d)->HOk P w H s₁.heap->(∀b,H b≠none->b=a\/b∈tabs)->(H a≠none->K.lookup a=none) ->
  codeAny (model P w) callerA (.call (.ref fa) ⟨[.ref a],[]⟩) (λr s'=>r=.ok (.ret (.bool true))/\OldK s₁.heap s'.heap/\s'.os=s₁.os/\AllBare s'.gens) s₁:=by
  intro H hO hT hS hok hA hK;have uF:∀{b:Addr} {o:Obj},s₁.heap.get? b=some o->H b=none->(oh s₁.heap H).get? b=some o:=λe n=>eh e n;have noA:∀{b:Addr} {o:Obj} {es:Array FT} {ep:Nat},s₁.heap.get? b=some o->o.data=.dict es ep->H b=none:=λ{b o es ep} e d=>by
   cases q:H b with
   |none=>rfl
   |some u=>
    rcases hA b (by rw[q];simp) with e'|e'
    . subst e'
      rw[ha]at e;cases e;have d':Data.seq vs.toArray _=Data.dict es ep:=d;cases d'
    . rw[(ht b e').1]at e;cases e
      have d':F2 #[]=Data.dict es ep:=d;cases d'
  have nsK:∀{b:Addr} {m:Str->Option Value},s₁.heap.Ns b m->(oh s₁.heap H).Ns b m:=λ{b m} ⟨o,es,ep,e,d,r⟩=>⟨o,es,ep,uF e (noA e d),d,r⟩;have hKb:K.In (oh s₁.heap H):=λb o e=>uF (KX b o e) (by
   cases q:H b with
   |none=>rfl
   |some u=>
    rcases hA b (by rw[q];simp) with e'|e'
    . subst e'
      rw[hK (by rw[q];simp)]at e;cases e
    . rw[(ht b e').2.1]at e;cases e)
  have hM:Mod K mg (oh s₁.heap H):=⟨hKb,nsK hns,⟨mb,nsK hb,hbb⟩,let ⟨mc,h1,h2⟩:=hlim;⟨mc,nsK h1,h2⟩⟩;have e0:lH P w K mg (oh s₁.heap H) callerA [] s₁ H:=⟨rfl,hM,λb o e=>Zi e,Ez (il _ _),trivial,λb hb=>absurd (show b∈([]:List Addr) from hb) (by simp),hok,.of_eq hg⟩
  refine C6 ((F _ hKb (nsK hns)).a callerA [] s₁ H ⟨[.ref a],[]⟩ [.ref a] [.c a] _ _ hr e0 (hbind s₁ (.ref a)) (.cons rfl .nil) (hsp H hT hS)) λr s' h=>?_;cases r with
  |error e=>exact(hCX H e s' h).elim
  |ok fl=>
   cases fl with
   |next=>exact AA h
   |brk=>exact AA h
   |cont=>exact AA h
   |ret u=>
    obtain⟨v,H',os,bare,un,hok',r',q⟩:=h;have q':v=.f true:=q;subst q';obtain rfl:u=CO true:=r';have all:∀b o,s₁.heap.get? b=some o->asItWas s₁.heap s'.heap b o:=λb o e=>by
     cases q:H b with
     |none=>exact .inl (un.f b o e q (by intro z;exact absurd (show b∈([]:List Addr) from z) (by simp)) (by simp))
     |some u=>
      rcases hO b with z|⟨ob,xs,z⟩|⟨z1,z⟩
      . rw[q]at z;cases z
      . have z2:=un.g b ob _ z
        obtain⟨e1,_⟩:=hok b _ z;obtain⟨e2,_⟩:=hok' b _ z2;rw[e]at e1;cases e1;exact .inl e2
      . obtain⟨more,z2⟩:=un.j b _ z
        have e2:s'.heap.get? b=some (EI (#[]++more)):=hok' b _ z2;obtain⟨t1,_,t3⟩:=ht b z1;rw[e]at t1;cases t1;exact .inr (.inl ⟨t3,rfl,#[],more,rfl,e2⟩)
    exact⟨rfl,⟨all,λb o e=>by
     rcases all b o e with z|⟨_,_,_,_,_,z⟩|⟨_,_,⟨o',_,_,z,_⟩,_⟩
     . exact⟨_,z⟩
     . exact⟨_,z⟩
     . exact⟨_,z⟩⟩,os,bare⟩
 cases hk:K.lookup a with
 |some o=>
  have e:=KX a o hk;rw[ha]at e;cases e;refine core (λb=>if b∈tabs then some (.g #[]) else none) (λb=>?_) (λb hb=>if_pos hb) (.inr ⟨_,vs.toArray,_,hk,rfl,rfl,rfl,by rw[Aa,lenV];exact hl,by simpa using rv⟩) (λb u z=>?_) (λb z=>?_) λz=>?_
  . by_cases hb:b∈tabs
    . exact .inr (.inr ⟨hb,if_pos hb⟩)
    . exact .inl (if_neg hb)
  . by_cases hb:b∈tabs
    . have z':=(if_pos hb).symm.trans z
      cases z';exact(ht b hb).1
    . have z':=(if_neg hb).symm.trans z
      cases z'
  . by_cases hb:b∈tabs
    . exact .inr hb
    . exact absurd (if_neg hb) z
  . exact absurd (if_neg nat) z
 |none=>
  refine core (λb=>if b=a then some (.d {cls:=.type "list",data:=.seq vs.toArray} (.b (ns.map V.d))) else if b∈tabs then some (.g #[]) else none) (λb=>?_) (λb hb=>(if_neg (λz=>nat (by rw[<-z];exact hb))).trans (if_pos hb)) (.inl (.inr ⟨{cls:=.type "list",data:=.seq vs.toArray},if_pos rfl⟩)) (λb u z=>?_) (λb z=>?_) λ_=>hk
  . by_cases hb:b=a
    . exact .inr (.inl ⟨_,_,if_pos hb⟩)
    . by_cases hb2:b∈tabs
      . exact .inr (.inr ⟨hb2,(if_neg hb).trans (if_pos hb2)⟩)
      . exact .inl ((if_neg hb).trans (if_neg hb2))
  . by_cases hb:b=a
    . have z':=(if_pos hb).symm.trans z
      cases z';subst hb;exact⟨ha,by rw[Ai];exact hl,vs,_,rv,ha⟩
    . by_cases hb2:b∈tabs
      . have z':=((if_neg hb).trans (if_pos hb2)).symm.trans z
        cases z';exact(ht b hb2).1
      . have z':=((if_neg hb).trans (if_neg hb2)).symm.trans z
        cases z'
  . by_cases hb:b=a
    . exact .inl hb
    . by_cases hb2:b∈tabs
      . exact .inr hb2
      . exact absurd ((if_neg hb).trans (if_neg hb2)) z
end L2
end
section
namespace M
open PySem
noncomputable def se(sc:Scope)(x:Str):Bool:=decide (sc.names.lookup x=some .local)||decide (sc.names.lookup x=some .cell)||decide (sc.names.lookup x=some .free)
noncomputable def xC(sc:Scope)(x:Str):Bool:=decide (sc.names.lookup x=some .globalImplicit)
noncomputable def xu:List Str:=["len","all","any","tuple","list","sorted","repr","max","min","sum","int","isinstance","divmod","str","bool","dict","set","range","enumerate","zip"]
noncomputable def Su(y:Str)(n:String):Bool:=(decide (y="int")&&decide (n="int"))||(decide (y="bool")&&decide (n="bool"))||(decide (y="str")&&decide (n="str"))||(decide (y="list")&&decide (n="list"))||(decide (y="tuple")&&decide (n="tuple"))||(decide (y="dict")&&decide (n="dict"))
noncomputable def vC:Val->Option Const
 |.h=>some .none
 |.e b=>some (.bool b)
 |.c i=>some (.int i)
 |.g x=>some (.str x)
 |_=>none
def UX(v:Val)(e:Expr):Bool:=af e λc _ _=>decide (vC v=some c)
def eSd(e:Expr)(k:Str->D9->Str->List Expr->Scope->Bool):Bool:=eCN e λx xs=>l1 xs λl=>X9 l λa b lsc _=>eCN b λy ys=>k x a y ys lsc
theorem jY(h:eSd e k=true):∃x a y ys lsc p1 p2 p3 p4 p5,e=.Call (.Name x p1) [.Lambda a (.Call (.Name y p2) ys [] p3) lsc p4] [] p5/\k x a y ys lsc=true:=by obtain⟨x,p1,xs,p5,rfl,h1⟩:=ye h;obtain⟨l,rfl,h2⟩:=z8 h1;obtain⟨a,b,lsc,p4,rfl,h3⟩:=mC h2;obtain⟨y,p2,ys,p3,rfl,h4⟩:=ye h3;exact⟨x,a,y,ys,lsc,p1,p2,p3,p4,p5,rfl,h4⟩
noncomputable def vg(a:D9):Bool:=a.posonlyargs.isEmpty&&a.args.isEmpty&&a.vararg.isNone&&a.kwonlyargs.isEmpty&&a.kw_defaults.isEmpty&&a.kwarg.isNone&&a.defaults.isEmpty
noncomputable def we(sc lsc:Scope):Bool:=decide (lsc.kind=.function)&&!lsc.isCoroutine&&!lsc.isGenerator&&lsc.names.all (λy=>decide (y.2=.globalImplicit)||(decide (y.2=.free)&&(decide (sc.names.lookup y.1=some .cell)||decide (sc.names.lookup y.1=some .free))))&&sc.names.any (λy=>decide (sc.names.lookup y.1=some .cell))
noncomputable def okV:Bool:=true
noncomputable def YX:Exs->Bool
 |.a (.e _) _=>true
 |_=>false
theorem YY(h:YX es=true):∃i es',es=.a (.e i) es':=by
 unfold YX at h;split at h
 . exact⟨_,_,rfl⟩
 . cases h
mutual
noncomputable def sim:Ex->Bool
 |.g _|.e _|.z _=>true
 |.j m _ a b=>!m&&sim a&&sim b
 |.B a=>sim a
 |.r es=>wy es
 |.A m es=>!m&&wy es
 |.u a b=>sim a&&sim b
 |_=>false
noncomputable def wy:Exs->Bool
 |.c=>true
 |.a e es=>sim e&&wy es
end
def ckA(sc:Scope)(f:Str)(q:List Expr->Bool)(e:Expr):Bool:=eCN e λx xs=>decide (x=f)&&xC sc x&&!(x == ("__debug__":Str))&&q xs&&zc xs
def ckB(sc:Scope)(N:List Str)(f:Str)(ver:Nat)(es:Exs)(q:Scope->List Expr->Bool)(e:Expr):Bool:=eSd e λx a y ys lsc=>decide (x=L2.yD (decide (ver=101)))&&xC sc x&&vg a&&we sc lsc&&decide (y=f)&&xC lsc y&&!(y == ("__debug__":Str))&&wy es&&q lsc ys&&zc ys&&!ys.isEmpty&&decide (("!":Str)∈N)
def ckV(sc:Scope)(N:List Str)(ver:Nat)(es:Exs)(q:Scope->List Expr->Bool)(e:Expr):Bool:=(okV&&YX es)&&eSd e λx a y ys lsc=>decide (x=L2.yD (decide (ver=301)))&&xC sc x&&vg a&&we sc lsc&&wy es&&q lsc (.Name y default::ys)&&zc ys&&!ys.isEmpty&&decide (("!":Str)∈N)&&decide (ver≠200)
mutual
noncomputable def ck(sc:Scope)(N:List Str):Ex->Expr->Bool
 |.g v,e=>UX v e
 |.e i,e=>(eName e λx _=>decide (N[i]?=some x)&&se sc x&&!(x == ("__debug__":Str))&&!(x == ("__classdict__":Str)))
 |.z y,e=>(eName e λx _=>decide (x=y)&&xC sc x&&!(x == ("__debug__":Str)))
 |.K y n,e=>(eName e λx _=>decide (x=y)&&xC sc x&&Su y n)
 |.j _ op a b,e=>(Ua e λl o r _=>(okB op&&decide (o=op.op))&&ck sc N a l&&ck sc N b r)
 |.B a,e=>(eOp .USub e λx=>ck sc N a x)
 |.G a,e=>(eOp .Not e λx=>ck sc N a x)
 |.q op a b,e=>(eC1 e λl o r=>(okC op&&decide (o=op.op))&&ck sc N a l&&ck sc N b r&&plain r)
 |.s op op' a b c,e=>(eC2 e λl o o' r r'=>(okC op&&decide (o=op.op))&&(okC op'&&decide (o'=op'.op))&&ck sc N a l&&ck sc N b r&&ck sc N c r'&&plain r')
 |.y a es,e=>(eBl .And e λx xs=>ck sc N a x&&ckL sc N es xs)
 |.I _ _,_=>false
 |.F c a b,e=>(Ud e λt x y _=>ckC sc N c t&&ck sc N a x&&ck sc N b y)
 |.r es,e=>(eP e λxs _ _=>ckL sc N es xs&&zc xs)
 |.A _ es,e=>(WA e λxs _=>ckL sc N es xs&&zc xs)
 |.C,e=>(eD0 e)
 |.E _,e=>(eD0 e)
 |.J _ _,_=>false
 |.h f ver es,e=>if ver<100 then ckA sc f (λxs=>ckL sc N es xs) e else if ver<200 then ckB sc N f ver es (λl ys=>ckL l N es ys) e else ckV sc N ver es (λl ys=>ckL l N es ys) e
 |.k f _ es,e=>(eCN e λx xs=>lc xs λy ys=>(okF f&&decide (x=f.nm))&&xC sc x&&ckL sc N es (y::ys)&&zc (y::ys))
 |.D a d,e=>(jU e λf xs ks _=>eName f λx _=>l1 xs λy=>l1 ks λq=>decide (x="max")&&xC sc x&&decide (q.arg=some ("default":Str))&&ck sc N a y&&ck sc N d q.value&&plain y&&plain q.value)
 |.L f _ o es,e=>(eMt e λob x ap y cp=>decide (x=f.nm)&&ck sc N o ob&&ckL sc N es [y]&&plain y&&rL ob&&(ap.endLine == cp.line)&&okM f)
 |.u a b,e=>(ak e λl r _=>ck sc N a l&&ck sc N b r&&plain r)
 |.H _ a lo hi st,e=>(eSS e λl x y z=>ck sc N a l&&ckO sc N lo x&&ckO sc N hi y&&ckO sc N st z)
 |.p _ N' fr elt t it ifs,e=>(eG1 e λx tg iter fs csc=>L2.vh sc N N' csc fr&&decide N'.Nodup&&ckT csc N' t tg&&ckI sc N it iter tg&&qw csc N' ifs fs&&ck csc N' elt x&&plain iter)
 |.w _ N' fr elt t it ifs t2 it2 ifs2,e=>(eG2 e λx tg iter fs tg2 iter2 fs2 csc=>L2.vh sc N N' csc fr&&decide N'.Nodup&&ckT csc N' t tg&&ckI sc N it iter tg&&qw csc N' ifs fs&&ckT csc N' t2 tg2&&ckI csc N' it2 iter2 tg2&&qw csc N' ifs2 fs2&&ck csc N' elt x&&plain iter&&plain iter2)
 |.l _ _ _ _,_=>false
noncomputable def ckL(sc:Scope)(N:List Str):Exs->List Expr->Bool
 |.c,es=>es.isEmpty
 |.a a as,es=>(lc es λe es=>ck sc N a e&&ckL sc N as es)
noncomputable def ckO(sc:Scope)(N:List Str):OEx->Option Expr->Bool
 |.b,e=>e.isNone
 |.a a,e=>(o1 e λe=>ck sc N a e)
noncomputable def ckC(sc:Scope)(N:List Str):Cn->Expr->Bool
 |.a a,e=>ck sc N a e&&(plainT e||decide (e.ctorIdx=15))
 |.b c,e=>(eOp .Not e λx=>ckC sc N c x)
 |.d c cs,e=>(eBl .And e λx xs=>ckC sc N c x&&qw sc N cs xs)
 |.f c cs,e=>(eBl .Or e λx xs=>ckC sc N c x&&qw sc N cs xs)
noncomputable def qw(sc:Scope)(N:List Str):Cns->List Expr->Bool
 |.a,es=>es.isEmpty
 |.b a as,es=>(lc es λe es=>ckC sc N a e&&qw sc N as es)
noncomputable def ckI(sc:Scope)(N:List Str):Itb->Expr->Expr->Bool
 |.d a,e,_=>ck sc N a e
 |.c a,e,_=>(eCN e λx xs=>l1 xs λy=>decide (x="range")&&xC sc x&&ck sc N a y&&plain y)
 |.f a b,e,_=>(eCN e λx xs=>lc xs λy ys=>l1 ys λz=>decide (x="range")&&xC sc x&&ck sc N a y&&ck sc N b z&&plain y&&plain z)
 |.g a,e,tg=>(decide (tg.ctorIdx=25)&&eCN e λx xs=>l1 xs λy=>decide (x="enumerate")&&xC sc x&&ck sc N a y&&plain y)
 |.h _ _,_,_=>false
end
structure Ok(T:Tbl)(n:Nat)(sc:Scope)(N:List Str)(X:L2.Cx):Prop where
 c:X.j=true
 d:L2.xA n X.A
 a:Scp sc N X
 p:∀f v F,T.d f v=some F->Callee T n X f v F
 k:∀x v,T.b x=some v->∃u xv,X.d x=some u/\L2.RelV xv u/\∀ρ H,RD X.K X.d ρ H v xv
 g:∀x∈xu,X.d x=none
 xe:X.i=λ_ _=>False
 i:∀f v,100<=v->T.d f v=none
 l:∀m,n=m+1->(∃b,T.c b=true)->Sd T X.f X.w X.K X.d X.h m
 j:(∃b,T.c b=true)->(∃x,sc.names.lookup x=some .cell)->("!":Str)∈N->Cod T X
theorem pL(S:Scp sc N X)(h:L2.vh sc N N' csc fr=true):L2.zi X N' csc fr:=by
 unfold L2.vh at h;simp only[cf,AF,Ao,decide_eq_true_eq,C1]at h;obtain⟨⟨⟨⟨⟨⟨⟨a1,a2⟩,a3⟩,a4⟩,a5⟩,a6⟩,a7⟩,a8⟩:=h;refine⟨a1,λx h1 h2=>(a2 _ h1).elim (λz=>z rfl) λz=>z _ h2 rfl,λx hx hk=>?_,λx hx hk=>?_,a5,λi j x e1 e2=>?_,λx e1 e2=>?_⟩
 . rcases a3 x hx with z|z
   . exact absurd hk z
   . exact z
 . rcases a4 x hx with z|z
   . exact absurd hk z
   . exact S.f x.1 z
 . have hi:i<N'.length:=(Am.mp e1).1
   have q:=a6 i hi;rw[e1,e2]at q;simp only[cf,decide_eq_true_eq,Bo]at q;obtain⟨q1,y,q2,q3,q4⟩:=q;refine⟨by rw[S.a];exact q1,?_⟩
   have:y=(x,AB):=Prod.ext q3 q4;rw[<-this];exact q2
 . rcases a7 (x,.free) e2 with z|z
   . exact z rfl
   . exact z e1
theorem wZ(h:sc.names.lookup x=some .local):(relabel sc env).names.lookup x=some .local:=lookup_relabel_local h
theorem kP(h:sc.names.lookup x=some .globalImplicit):(relabel sc env).names.lookup x=some .globalImplicit:=by
 have key:∀(names:List (Str × CK)),names.lookup x=some .globalImplicit->(names.map λ(n,k)=>if (k == AB&&env.scope.kind == .function&&env.kindOf n == some .cell) then (n,Be) else (n,k)).lookup x=some .globalImplicit:=by
  intro names;induction names with
  |nil=>intro h;simp at h
  |cons p r ih=>
   obtain⟨n,k⟩:=p;intro h;rw[A7];dsimp only;cases hx:(x == n) with
   |true=>
    rw[An,hx]at h;cases h;have e:(DP == AB)=false:=rfl;rw[e];simp only[CD,AZ,if_false,An,hx]
   |false=>
    rw[An,hx]at h;have:=ih h;split<;>simpa only[An,hx] using this
 exact key sc.names h
theorem Scp.comp(S:Scp sc N X)(hc:L2.zi X N' csc fr)(nd:N'.Nodup)C s0 H0 ex:Scp csc N' (X.comp N' csc C s0 H0 ex):=by
 refine⟨rfl,nd,λx h=>?_,λx h=>?_,λx h=>?_,λx h=>?_⟩
 . rcases h with h|h|h
   . exact .inl (wZ h)
   . exact .inr (.inl (L2.vO h))
   . exact(L2.tW hc.a h).elim (λz=>.inr (.inl z)) λz=>.inr (.inr z)
 . rcases h with h|h
   . exact⟨.inl (wZ h),.inr (wZ h)⟩
   . exact⟨.inr (L2.vO h),.inl (Bo.mpr ⟨_,AM h,decide_eq_true rfl⟩)⟩
 . exact kP h
 . rcases h with h|h
   . exact .inl (L2.vO h)
   . exact L2.tW hc.a h
theorem Callee.comp(c:Callee T n X f v F)N' csc C s0 H0 ex:Callee T n (X.comp N' csc C s0 H0 ex) f v F:=⟨c.a⟩
theorem Ok.comp(o:Ok T n sc N X)(hc:L2.zi X N' csc fr)(nd:N'.Nodup)(hck:L2.vh sc N N' csc fr=true)C s0 H0 ex:Ok T n csc N' (X.comp N' csc C s0 H0 ex):=
 ⟨o.c,o.d,o.a.comp hc nd C s0 H0 ex,λf v F h=>(o.p f v F h).comp N' csc C s0 H0 ex,o.k,o.g,rfl,o.i,o.l,λhmd _ h=>by
  unfold L2.vh at hck;simp only[cf,Bo,Ao,decide_eq_true_eq]at hck;rcases hck.2 with z|⟨z1,y,_,z2⟩
  . exact absurd h z
  . exact o.j hmd ⟨y.1,z2⟩ z1⟩
end M
end
section
namespace M
open PySem
section
variable {T:Tbl}{n:Nat}
def JE(T:Tbl)(n:Nat)(a:Ex):Prop:=∀(sc:Scope) (N:List Str) (X:L2.Cx) (e:Expr),Ok T n sc N X->ck sc N a e=true->∀env s,L2.PE X e (tV X.K X.d env s (evE (zB T n) T.b env a s))
def JL(T:Tbl)(n:Nat)(a:Exs):Prop:=∀(sc:Scope) (N:List Str) (X:L2.Cx) (es:List Expr),Ok T n sc N X->ckL sc N a es=true ->
 (zc es=true->∀env s,L2.PA X es (tVs X.K X.d env s (zV (zB T n) T.b env a s))) /\
 (∀e es' pos,es=e::es'->∀env s,L2.PE X (.BoolOp .And es pos) (tV X.K X.d env s (sZ (zB T n) T.b env a s))) /\
 (∀e es' pos,es=e::es'->∀env s,L2.PE X (.BoolOp .Or es pos) (tV X.K X.d env s (mD (zB T n) T.b env a s))) /\
 (∀y,es=[y]->plain y=true->∃b,a=.a b .c/\∀env s,L2.PE X y (tV X.K X.d env s (evE (zB T n) T.b env b s)))
def JO(T:Tbl)(n:Nat)(a:OEx):Prop:=∀(sc:Scope) (N:List Str) (X:L2.Cx) (e:Option Expr),Ok T n sc N X->ckO sc N a e=true->(∀env s,L2.PO X e (tO X.K X.d env s (evO (zB T n) T.b env a s))) /\
 ((e=none/\∀env s1,evO (zB T n) T.b env a s1=.e none s1)\/∃e',e=some e'/\∀env s1 s2,evO (zB T n) T.b env a s1≠.e none s2)
def JC(T:Tbl)(n:Nat)(a:Cn):Prop:=∀(sc:Scope) (N:List Str) (X:L2.Cx) (e:Expr),Ok T n sc N X->ckC sc N a e=true->∀env s,L2.PT X e (tT X.K X.d env s (evT (zB T n) T.b env a s))
def JCs(T:Tbl)(n:Nat)(a:Cns):Prop:=∀(sc:Scope) (N:List Str) (X:L2.Cx) (es:List Expr),Ok T n sc N X->qw sc N a es=true ->
 (∀pos env s,L2.PW X (.BoolOp .And es pos) (tT X.K X.d env s (xk (zB T n) T.b env a s)))/\(∀pos env s,L2.PW X (.BoolOp .Or es pos) (tT X.K X.d env s (vG (zB T n) T.b env a s)))/\L2.PTs X es (uTs X.K X.d (zB T n) T.b a)
def JI(T:Tbl)(n:Nat)(a:Itb):Prop:=∀(sc:Scope) (N:List Str) (X:L2.Cx) (e tg:Expr),Ok T n sc N X->ckI sc N a e tg=true->∀env s,L2.PI X tg e (tI (K:=X.K) (mg:=X.d) env s (yS (zB T n) T.b env a s))
theorem dP:JE T n (.g v):=by
 intro sc N X e o h env s;show L2.PE X e (tV X.K X.d env s (.e v s));replace h:=rn h;obtain⟨c,k,p,rfl,h⟩:=h;have h:=of_decide_eq_true h;cases v with
 |h=>cases h;exact zU L2.VZ λσ H Q ⟨ρ,hr,er,w⟩=>zM hr .A w
 |e b=>cases h;exact zU L2.cb λσ H Q ⟨ρ,hr,er,w⟩=>zM hr (.j _) w
 |c i=>cases h;exact zU L2.cz λσ H Q ⟨ρ,hr,er,w⟩=>zM hr (.l _) w
 |g x=>cases h;exact zU L2.sO λσ H Q ⟨ρ,hr,er,w⟩=>zM hr (.D _) w
 |_=>cases h
theorem dW:JE T n (.e i):=by
 intro sc N X e o h env s;replace h:=zq h;obtain⟨x,p,rfl,h⟩:=h;simp only[cf,decide_eq_true_eq,se,Ao,Ay]at h;obtain⟨⟨⟨h1,h2⟩,h3⟩,h4⟩:=h;have hv:L2.Vis X.a.scope x:=o.a.e x (by rcases h2 with (z|z)|z;exact .inl z;exact .inr (.inl z);exact .inr (.inr z))
 show L2.PE X _ (tV X.K X.d env s (match env[i]? with|some (some v)=>.e v s|_=>.d))
 refine zU (L2.wU (i:=i) (by rw[o.a.a];exact h1) hv h3 h4) λσ H Q ⟨ρ,hr,er,w⟩=>?_
 split at w
 . rename_i v e
   obtain⟨x',h5,h6⟩:=er.a i v e;exact⟨x',h5,zM hr h6 w⟩
 . exact w.elim
theorem Yx:JE T n (.z y):=by
 intro sc N X e o h env s;replace h:=zq h;obtain⟨x,p,rfl,h⟩:=h;simp only[cf,decide_eq_true_eq,xC,Ay]at h;obtain⟨⟨h1,h2⟩,h3⟩:=h;subst h1;show L2.PE X _ (tV X.K X.d env s (match T.b x with|some v=>.e v s|dr=>.d))
 cases hv:T.b x with
 |none=>exact zJ (zD rfl)
 |some v=>
  obtain⟨u,xv,e1,e2,e3⟩:=o.k x v hv;exact zU (L2.Zz (o.a.b x h2) e1 e2 h3) λσ H Q ⟨ρ,hr,er,w⟩=>zM hr (e3 ρ H) w
theorem U0:JE T n (.K y m):=by
 intro sc N X e o h env s;replace h:=zq h;obtain⟨x,p,rfl,h⟩:=h;simp only[cf,decide_eq_true_eq,xC]at h;obtain⟨⟨h1,h2⟩,h3⟩:=h;subst h1;show L2.PE X _ (tV X.K X.d env s (.e (.u m) s));have key:x∈xu/\BV x=some (.type m)/\x≠"__name__"/\(x == ("__debug__":Str))=false:=by
  unfold Su at h3;simp only[Ao,cf,decide_eq_true_eq]at h3;rcases h3 with ((((⟨rfl,rfl⟩|⟨rfl,rfl⟩)|⟨rfl,rfl⟩)|⟨rfl,rfl⟩)|⟨rfl,rfl⟩)|⟨rfl,rfl⟩
  . exact⟨by decide,PyProof.Rows.boot_int,by decide,by decide⟩
  . exact⟨by decide,PyProof.Rows.boot_bool,by decide,by decide⟩
  . exact⟨by decide,PyProof.Rows.boot_str,by decide,by decide⟩
  . exact⟨by decide,PyProof.Rows.boot_list,by decide,by decide⟩
  . exact⟨by decide,FQ,by decide,by decide⟩
  . exact⟨by decide,PyProof.Rows.boot_dict,by decide,by decide⟩
 exact zU (L2.Ts (o.a.b x h2) (o.g x key.1) key.2.1 key.2.2.1 key.2.2.2) λσ H Q ⟨ρ,hr,er,w⟩=>zM hr (.J _) w
theorem ZS:JE T n (.E t):=by
 intro sc N X e o h env s;obtain⟨p,rfl⟩:=jV h;show L2.PE X _ (tV X.K X.d env s (.e (.q s.length) (s++[if t then .f [] else .e []])))
 cases t with
 |true=>exact zU L2.cy λσ H Q ⟨ρ,hr,er,w⟩ p hp=>w _ _ _ (Ext.own hr hp _) (hr.wR hp ⟨[],L2.zL,rfl,.d⟩) (.s (rN hr p) (by rw[L2.zL];decide))
 |false=>exact zU L2.cw λσ H Q ⟨ρ,hr,er,w⟩ p hp=>w _ _ _ (Ext.own hr hp _) (hr.wR hp ⟨[],L2.zL,rfl,.d⟩) (.s (rN hr p) (by rw[L2.zL];decide))
theorem ZR:JE T n .C:=by intro sc N X e o h env s;obtain⟨p,rfl⟩:=jV h;show L2.PE X _ (tV X.K X.d env s (.e .o s));exact zU (L2.Zy λpins σ H s I=>I.big) λσ H Q ⟨ρ,hr,er,w⟩ p hp=>w _ _ _ (Ext.new hr hp _) (hr.more hp _) (.B (hr.new hp) L2.zL)
theorem rk(h:zS op x y s=.e v s'):∃b,v=.e b:=by unfold zS at h;split at h<;>(split at h<;>first|(cases h;exact⟨_,rfl⟩)|cases h|(split at h<;>first|(cases h;exact⟨_,rfl⟩)|cases h|(split at h<;>first|(cases h;exact⟨_,rfl⟩)|cases h|(split at h<;>first|(cases h;exact⟨_,rfl⟩)|cases h))))
theorem ur{o:Out Val}(hb:∀v s',o=.e v s'->∃b,v=.e b)(w:yL K mg (λ_ _ a b=>a=b) ρ H o.truth Q):yL K mg (RD K mg) ρ H o λx H'=>∃k,x=.f k/\Q k H':=by
 cases o with
 |e v s1=>
  obtain⟨b,rfl⟩:=hb v s1 rfl;intro ρ1 x H1 x1 hr1 r1;cases r1;exact⟨b,rfl,w _ _ _ x1 hr1 rfl⟩
 |g _ _ _=>exact w
 |d=>exact w
theorem Wq{f2:Sto->Out Val}(k1:okC op=true)(hr0:L2.xA k X.A)(h1:L2.PE X a (tV X.K X.d env s o))(h2:∀s1,L2.PE X b (tV X.K X.d env s1 (f2 s1)))(hm:plain b=true) :
 L2.PT X (.Compare a [op.op] [b] pos) (tT X.K X.d env s (o.bind λx s1=>(f2 s1).bind λy s2=>zS op x y s2).truth):=by
 cases o with
 |e v s1=>
  have h2':=h2 s1;show L2.PT X _ (tT X.K X.d env s ((f2 s1).bind λy s2=>zS op v y s2).truth);cases hb:f2 s1 with
  |e w s2=>
   rw[hb]at h2';exact v7 (L2.rS (vM hr0 op k1) h1 h2' (yr hm)) λσ H Q ⟨ρ,hr,er,wt⟩=>⟨ρ,hr,er,λρ1 x H1 x1 hr1 r1=>⟨ρ1,hr1,er.mono x1,λρ2 y H2 x2 hr2 r2=>⟨ρ2,s2,v,w,hr2,r1.mono x2,r2,ur (λ_ _ h=>rk h) (wt.mono (x1.trans hr1 x2) hr2)⟩⟩⟩
  |g _ _ _=>exact yA (zD rfl)
  |d=>exact yA (zD rfl)
 |g _ _ _=>exact yA (zD rfl)
 |d=>exact yA (zD rfl)
theorem da{X:L2.Cx}{env:Env}{s:Sto}{a b c:Expr}{op op':Cop}{o:Out Val}{f2 f3:Sto->Out Val}{k:Nat}{pos:Pos}(k1:okC op=true)(k2:okC op'=true)(hr0:L2.xA k X.A)(h1:L2.PE X a (tV X.K X.d env s o))(h2:∀s1,L2.PE X b (tV X.K X.d env s1 (f2 s1)))(h3:∀s1,L2.PE X c (tV X.K X.d env s1 (f3 s1)))(hm:plain c=true) :
 L2.PT X (.Compare a [op.op,op'.op] [b,c] pos) (tT X.K X.d env s (o.bind λx s1=>(f2 s1).bind λy s2=>(zS op x y s2).bind λr s3=>match r with
  |.e true=>(f3 s3).bind λz s4=>zS op' y z s4
  |.e false=>.e (.e false) s3
  |_=>.d).truth):=by
 cases o with
 |e v s1=>
  have h2':=h2 s1;show L2.PT X _ (tT X.K X.d env s ((f2 s1).bind _).truth);cases hb:f2 s1 with
  |e w s2=>
   rw[hb]at h2';show L2.PT X _ (tT X.K X.d env s ((zS op v w s2).bind _).truth);cases hc:zS op v w s2 with
   |e r s3=>
    cases r with
    |e t=>
     have h3':=h3 s3;have rule:=L2.bL (pos:=pos) (vM hr0 op k1) (vM hr0 op' k2) h1 h2' h3' (show Gz [op.op,op'.op] [b,c]=false from yr hm);refine v7 rule λσ H Q ⟨ρ,hr,er,wt⟩=>⟨ρ,hr,er,λρ1 x H1 x1 hr1 r1=>⟨ρ1,hr1,er.mono x1,λρ2 y H2 x2 hr2 r2=>⟨ρ2,s2,v,w,hr2,r1.mono x2,r2,?_⟩⟩⟩;rw[hc];intro ρ3 z H3 x3 hr3 r3;cases r3;refine⟨t,rfl,?_⟩;have xx:=(x1.trans hr1 x2).trans hr2 x3;have wt':=wt.mono xx hr3;cases t with
     |true=>
      rw[if_pos rfl];refine⟨ρ3,hr3,er.mono xx,?_⟩;have wt2:yL X.K X.d (λ_ _ a b=>a=b) ρ3 H3 ((f3 s3).bind λz s4=>zS op' w z s4).truth Q:=wt';cases hz:f3 s3 with
      |e u s4=>
       rw[hz]at wt2;exact λρ4 q H4 x4 hr4 r4=>⟨ρ4,s4,w,u,hr4,(r2.mono x3).mono x4,r4,ur (λ_ _ h=>rk h) (wt2.mono x4 hr4)⟩
      |g _ _ _=>rw[hz]at wt2;exact wt2
      |d=>rw[hz]at wt2;exact wt2
     |false=>
      rw[if_neg Aj];exact⟨false,rfl,wt' _ _ _ Ext.refl hr3 rfl⟩
    |_=>exact yA (zD rfl)
   |g _ _ _=>exact yA (zD rfl)
   |d=>exact yA (zD rfl)
  |g _ _ _=>exact yA (zD rfl)
  |d=>exact yA (zD rfl)
 |g _ _ _=>exact yA (zD rfl)
 |d=>exact yA (zD rfl)
theorem Wf(ja:JE T n a)(jb:JE T n b):JC T n (.a (.q op a b)):=by intro sc N X e o h env s;replace h:=rD (zK h).1;obtain⟨_,_,_,_,rfl,h1⟩:=h;simp only[cf,decide_eq_true_eq]at h1;obtain⟨⟨⟨⟨k1,rfl⟩,h3⟩,h4⟩,h5⟩:=h1;exact Wq k1 o.d (ja _ _ _ _ o h3 env s) (λs1=>jb _ _ _ _ o h4 env s1) h5
theorem dI(ja:JE T n a)(jb:JE T n b)(jc:JE T n c):JC T n (.a (.s op op' a b c)):=by intro sc N X e o h env s;replace h:=jT (zK h).1;obtain⟨_,_,_,_,_,_,rfl,h1⟩:=h;simp only[cf,decide_eq_true_eq]at h1;obtain⟨⟨⟨⟨⟨⟨k1,rfl⟩,k2,rfl⟩,h3⟩,h4⟩,h5⟩,h6⟩:=h1;exact da k1 k2 o.d (ja _ _ _ _ o h3 env s) (λs1=>jb _ _ _ _ o h4 env s1) (λs1=>jc _ _ _ _ o h5 env s1) h6
noncomputable def Yv:Ex->Bool
 |.q ..|.s ..=>true
 |_=>false
theorem fo{os}(h:ck sc N a (.Compare l os rs p)=true):Yv a=true:=by
 cases a with
 |q _ _ _=>rfl
 |s _ _ _ _ _=>rfl
 |h f v es=>
  replace h:(if v<100 then ckA sc f (λxs=>ckL sc N es xs) (.Compare l os rs p) else if v<200 then ckB sc N f v es (λl ys=>ckL l N es ys) (.Compare l os rs p) else ckV sc N v es (λl ys=>ckL l N es ys) (.Compare l os rs p))=true:=h
  split at h
  . cases h
  . split at h
    . cases h
    . exact absurd (show false=true from (zK h).2) Aj
 |_=>cases h
theorem fu{e:Expr}(h:e.ctorIdx=15):∃l os rs p,e=.Compare l os rs p:=Fi (motive_1:=λe=>∃l os rs p,e=Expr.Compare l os rs p) e h λl os rs p=>⟨l,os,rs,p,rfl⟩
theorem zy(ja:JE T n a)(hn:Yv a=false):JC T n (.a a):=by
 intro sc N X e o h env s;obtain⟨h1,h2⟩:=zK h;have je:=ja sc N X e o h1 env s;rcases (Ao _ _).mp h2 with h2|h2
 . exact Ws h2 je
 . obtain⟨l,os,rs,p,rfl⟩:=fu (of_decide_eq_true h2)
   rw[fo h1]at hn;cases hn
end
end M
end
section
namespace M
open PySem
section
variable {T:Tbl}{n:Nat}
theorem dA(ja:JE T n a)(jb:JE T n b):JE T n (.j m op a b):=by intro sc N X e o h env s;replace h:=n6 h;obtain⟨l,o1,r,p,rfl,h⟩:=h;simp only[cf,decide_eq_true_eq]at h;obtain⟨⟨⟨k1,rfl⟩,h1⟩,h2⟩:=h;exact Xo (ja _ _ _ _ o h1 env s) (λs1=>jb _ _ _ _ o h2 env s1) λta tb pa pb=>L2.mh (cK m op k1) pa pb
theorem dD(ja:JE T n a):JE T n (.B a):=by intro sc N X e o h env s;replace h:=rE h;obtain⟨x,p,rfl,h⟩:=h;exact Wi (ja _ _ _ _ o h env s)
theorem WW(jl:JL T n es):JE T n (.r es):=by intro sc N X e o h env s;replace h:=vm h;obtain⟨xs,k,p,rfl,h⟩:=h;simp only[cf]at h;exact lY ((jl _ _ _ _ o h.1).1 h.2 env s)
theorem WU(jl:JL T n es):JE T n (.A m es):=by intro sc N X e o h env s;replace h:=rq h;obtain⟨xs,p,rfl,h⟩:=h;simp only[cf]at h;exact dQ ((jl _ _ _ _ o h.1).1 h.2 env s)
theorem Yw(ja:JE T n a)(jb:JE T n b):JE T n (.u a b):=by intro sc N X e o h env s;replace h:=r0 h;obtain⟨l,r,p,rfl,h⟩:=h;simp only[cf]at h;exact Xo (ja _ _ _ _ o h.1.1 env s) (λs1=>jb _ _ _ _ o h.1.2 env s1) λta tb pa pb=>L2.XD Us pa pb (bG h.2)
end
section
variable {Φ Φ':Calls}{G:Str->Option Val}{env:Env}
mutual
theorem sP:∀(a:Ex) (s:Sto),sim a=true->evE Φ G env a s=evE Φ' G env a s
 |.g _,_,_=>rfl
 |.e _,_,_=>rfl
 |.z _,_,_=>rfl
 |.j m op a b,s,h=>by
  simp only[sim,cf]at h;show (evE Φ G env a s).bind _=(evE Φ' G env a s).bind _;rw[sP a s h.1.2];exact congrArg _ (funext λx=>funext λs1=>by rw[sP b s1 h.2])
 |.B a,s,h=>by
  simp only[sim]at h;show (evE Φ G env a s).bind _=(evE Φ' G env a s).bind _;rw[sP a s h]
 |.r es,s,h=>by
  simp only[sim]at h;show (zV Φ G env es s).bind _=(zV Φ' G env es s).bind _;rw[uM es s h]
 |.A m es,s,h=>by
  simp only[sim,cf]at h;show (zV Φ G env es s).bind _=(zV Φ' G env es s).bind _;rw[uM es s h.2]
 |.u a b,s,h=>by
  simp only[sim,cf]at h;show (evE Φ G env a s).bind _=(evE Φ' G env a s).bind _;rw[sP a s h.1];exact congrArg _ (funext λx=>funext λs1=>by rw[sP b s1 h.2])
 |.K _ _,_,h=>by cases h
 |.G _,_,h=>by cases h
 |.q _ _ _,_,h=>by cases h
 |.s _ _ _ _ _,_,h=>by cases h
 |.y _ _,_,h=>by cases h
 |.I _ _,_,h=>by cases h
 |.F _ _ _,_,h=>by cases h
 |.C,_,h=>by cases h
 |.h _ _ _,_,h=>by cases h
 |.k _ _ _,_,h=>by cases h
 |.D _ _,_,h=>by cases h
 |.L _ _ _ _,_,h=>by cases h
 |.H _ _ _ _ _,_,h=>by cases h
 |.p _ _ _ _ _ _ _,_,h=>by cases h
 |.w _ _ _ _ _ _ _ _ _ _,_,h=>by cases h
 |.l _ _ _ _,_,h=>by cases h
 |.E _,_,h=>by cases h
 |.J _ _,_,h=>by cases h
theorem uM:∀(es:Exs) (s:Sto),wy es=true->zV Φ G env es s=zV Φ' G env es s
 |.c,_,_=>rfl
 |.a e es,s,h=>by simp only[wy,cf]at h;show (evE Φ G env e s).bind _=(evE Φ' G env e s).bind _;rw[sP e s h.1];exact congrArg _ (funext λx=>funext λs1=>by rw[uM es s1 h.2])
end
theorem qP(h:newList false vs s=.e v s'):s'=s:=by simp only[newList,AZ,if_false]at h;cases h;rfl
theorem fV(h:binOp false op x y s=.e v s'):s'=s:=by unfold binOp at h;split at h<;>(repeat' split at h)<;>first|exact qP h|(cases h;rfl)|cases h
theorem ZE(h:vp x y s=.e v s'):s'=s:=by
 unfold vp at h;split at h
 . split at h
   . split at h
     . cases h;rfl
     . cases h
   . cases h
 . cases h
theorem zb{o:Out α}{f}{b:β}(h:o.bind f=.e b s):∃a s1,o=.e a s1/\f a s1=.e b s:=by
 cases o with
 |e a s1=>exact⟨a,s1,rfl,h⟩
 |g _ _ _=>cases h
 |d=>cases h
mutual
theorem sQ:∀(a:Ex) (s s':Sto) (v:Val),sim a=true->evE Φ G env a s=.e v s'->s'=s
 |.g _,_,_,_,_,h=>by cases h;rfl
 |.e i,s,s',v,_,h=>by
  have key:∀o:Option (Option Val),(match o with|some (some v)=>Out.e v s|_=>.d)=.e v s'->s'=s:=λo h=>by
   cases o with
   |none=>cases h
   |some o=>cases o with
    |none=>cases h
    |some w=>cases h;rfl
  exact key _ h
 |.z x,s,s',v,_,h=>by
  have key:∀o:Option Val,(match o with|some v=>Out.e v s|dr=>.d)=.e v s'->s'=s:=λo h=>by
   cases o with
   |none=>cases h
   |some w=>cases h;rfl
  exact key _ h
 |.j m op a b,s,s',v,z,h=>by
  simp only[sim,cf,Ay]at z;obtain⟨⟨rfl,z1⟩,z2⟩:=z;obtain⟨x,s1,e1,h⟩:=zb h;obtain⟨y,s2,e2,h⟩:=zb h;rw[fV h,sQ b _ _ _ z2 e2,sQ a _ _ _ z1 e1]
 |.B a,s,s',v,z,h=>by
  simp only[sim]at z;obtain⟨x,s1,e1,h⟩:=zb h;rw[<-sQ a _ _ _ z e1];split at h
  . cases h;rfl
  . cases h
 |.r es,s,s',v,z,h=>by
  simp only[sim]at z;obtain⟨x,s1,e1,h⟩:=zb h;rw[<-uN es _ _ _ z e1];split at h
  . cases h;rfl
  . cases h
 |.A m es,s,s',v,z,h=>by
  simp only[sim,cf,Ay]at z;obtain⟨rfl,z⟩:=z;obtain⟨x,s1,e1,h⟩:=zb h;rw[<-uN es _ _ _ z e1];split at h
  . exact qP h
  . cases h
 |.u a b,s,s',v,z,h=>by
  simp only[sim,cf]at z;obtain⟨x,s1,e1,h⟩:=zb h;obtain⟨y,s2,e2,h⟩:=zb h;rw[ZE h,sQ b _ _ _ z.2 e2,sQ a _ _ _ z.1 e1]
 |.K _ _,_,_,_,h,_=>by cases h
 |.G _,_,_,_,h,_=>by cases h
 |.q _ _ _,_,_,_,h,_=>by cases h
 |.s _ _ _ _ _,_,_,_,h,_=>by cases h
 |.y _ _,_,_,_,h,_=>by cases h
 |.I _ _,_,_,_,h,_=>by cases h
 |.F _ _ _,_,_,_,h,_=>by cases h
 |.C,_,_,_,h,_=>by cases h
 |.h _ _ _,_,_,_,h,_=>by cases h
 |.k _ _ _,_,_,_,h,_=>by cases h
 |.D _ _,_,_,_,h,_=>by cases h
 |.L _ _ _ _,_,_,_,h,_=>by cases h
 |.H _ _ _ _ _,_,_,_,h,_=>by cases h
 |.p _ _ _ _ _ _ _,_,_,_,h,_=>by cases h
 |.w _ _ _ _ _ _ _ _ _ _,_,_,_,h,_=>by cases h
 |.l _ _ _ _,_,_,_,h,_=>by cases h
 |.E _,_,_,_,h,_=>by cases h
 |.J _ _,_,_,_,h,_=>by cases h
theorem uN:∀(es:Exs) (s s':Sto) (vs:List Val),wy es=true->zV Φ G env es s=.e vs s'->s'=s
 |.c,_,_,_,_,h=>by cases h;rfl
 |.a e es,s,s',vs,z,h=>by simp only[wy,cf]at z;obtain⟨x,s1,e1,h⟩:=zb h;obtain⟨y,s2,e2,h⟩:=zb h;cases h;rw[uN es _ _ _ z.2 e2,sQ e _ _ _ z.1 e1]
end
end
section
variable {T:Tbl}{n:Nat}
mutual
theorem sH:∀(a:Ex),sim a=true->JE T n a
 |.g _,_=>dP
 |.e _,_=>dW
 |.z _,_=>Yx
 |.j m op a b,h=>by
  simp only[sim,cf]at h;exact dA (sH a h.1.2) (sH b h.2)
 |.B a,h=>dD (sH a (by simpa only[sim] using h))
 |.r es,h=>by
  simp only[sim]at h;intro sc N X e o hc env s;replace hc:=vm hc;obtain⟨xs,k,p,rfl,hc⟩:=hc;simp only[cf]at hc;exact lY (nI es h _ _ _ _ o hc.1 hc.2 env s)
 |.A m es,h=>by
  simp only[sim,cf]at h;intro sc N X e o hc env s;replace hc:=rq hc;obtain⟨xs,p,rfl,hc⟩:=hc;simp only[cf]at hc;exact dQ (nI es h.2 _ _ _ _ o hc.1 hc.2 env s)
 |.u a b,h=>by
  simp only[sim,cf]at h;exact Yw (sH a h.1) (sH b h.2)
 |.K _ _,h=>by cases h
 |.G _,h=>by cases h
 |.q _ _ _,h=>by cases h
 |.s _ _ _ _ _,h=>by cases h
 |.y _ _,h=>by cases h
 |.I _ _,h=>by cases h
 |.F _ _ _,h=>by cases h
 |.C,h=>by cases h
 |.h _ _ _,h=>by cases h
 |.k _ _ _,h=>by cases h
 |.D _ _,h=>by cases h
 |.L _ _ _ _,h=>by cases h
 |.H _ _ _ _ _,h=>by cases h
 |.p _ _ _ _ _ _ _,h=>by cases h
 |.w _ _ _ _ _ _ _ _ _ _,h=>by cases h
 |.l _ _ _ _,h=>by cases h
 |.E _,h=>by cases h
 |.J _ _,h=>by cases h
theorem nI:∀(es:Exs),wy es=true->∀(sc:Scope) (N:List Str) (X:L2.Cx) (xs:List Expr),Ok T n sc N X->ckL sc N es xs=true->zc xs=true->∀env s,L2.PA X xs (tVs X.K X.d env s (zV (zB T n) T.b env es s))
 |.c,_=>λsc N X xs o h hp env s=>by
  cases AN.mp h;exact jk
 |.a e es,hs=>λsc N X xs o h hp env s=>by simp only[wy,cf]at hs;replace h:=z9 h;obtain⟨y,ys,rfl,h⟩:=h;rw[zc,cf]at hp;exact mJ hp.1 (sH e hs.1 _ _ _ _ o (zK h).1 env s) λs1=>nI es hs.2 _ _ _ _ o (zK h).2 hp.2 env s1
end
end
end M
end
section
namespace M
open PySem PySem.W PyProof.Rows
theorem kE(h:L2.PA X.nox es t):L2.PA X es t:=λpos pins s σ H Q I hw=>
 AY (h pos pins s σ H Q (I.wF _) hw) (λ_ _ ⟨vs,H',I',r,q⟩=>⟨vs,H',I'.yu,r,q⟩) λ_ _ z=>AA z
theorem pV(h:vg a=true):a=L2.noArgs:=by obtain⟨po,ar,va,ko,kd,kw,df⟩:=a;simp only[vg,cf,AN,B4]at h;obtain⟨⟨⟨⟨⟨⟨rfl,rfl⟩,rfl⟩,rfl⟩,rfl⟩,rfl⟩,rfl⟩:=h;rfl
theorem bQ(r:L2.xA (m+1) A)e1 e2:L2.xA m ((A.deeper e1).deeper e2):=
 ⟨r.a,by have:=r.c;show A.depth+1+1+3*m+5<_;omega,by have:=r.b;show A.units+3+3+16*m+200<_;omega,r.d⟩
theorem Tr(h:∀v s',o=.e v s'->L2.PE X E (tV X.K X.d env s o)):L2.PE X E (tV X.K X.d env s o):=by
 cases o with
 |e v s'=>exact h v s' rfl
 |g _ _ _=>exact zJ (zD rfl)
 |d=>exact zJ (zD rfl)
theorem mI(h:se sc x=true):L2.Vis sc x:=by
 simp only[se,Ao,decide_eq_true_eq]at h;rcases h with (h|h)|h
 . exact .inl h
 . exact .inr (.inl h)
 . exact .inr (.inr h)
theorem cj{ds}{i:Nat}(F:L2.uw X.f X.w X.K X.d X.h CX k f fd ps sp)(hr:L2.xA k X.A)(hN:X.N[i]?=some x)(hv:L2.Vis X.a.scope x)(hk:B0 X.K (.ref f)=true)(hb:L2.Binds X.K fd ps ds)(hd:L2.Vals dvs ds)(hx:L2.Passes CX X E)
 (ha:L2.PA X (e::es) t) (hdb:(x == ("__debug__":Str))=false) (hcd:(x == ("__classdict__":Str))=false) (he:AD (e::es) X.a=(false,eval e X.a)::AD es X.a) (hpl:(backTo pos (AD es X.a)).any (·.1)=false) :
 L2.PE X (.Call (.Name x p) (e::es) [] pos) (λσ H Q=>σ[i]?=some (some (.c f))/\L2.j9 sp dvs E t σ H Q):=by
 intro pins s σ H Q I ⟨h0,h⟩;refine Bu (L2.thn (L2.wU hN hv hdb hcd pins s σ H (λv H2=>v=L2.V.c f/\H2=H) I ⟨_,h0,rfl,rfl⟩) λu s2 ⟨v,H2,I2,r,hv2,hH2⟩=>?_);subst hv2 hH2;cases r;refine CQ (h₀:=X.h) I2.C.j.a hk (L2.thn (ha pos pins s2 σ H2 _ I2 h) λus s1 ⟨vs,H1,I1,r,q⟩=>⟨I1.kIn,?_⟩) he hpl;exact L2.kQ F hr hb hd hx I1 r q
section
variable {T:Tbl}{n:Nat}{sc lsc:Scope}{N:List Str}{X:L2.Cx}
def Cal(lsc:Scope)(N:List Str)(env:Env)(y f:Str):Prop:=(y=f/\lsc.names.lookup y=some .globalImplicit/\(y == ("__debug__":Str))=false) \/
 ∃i:Nat,N[i]?=some y/\se lsc y=true/\(y == ("__debug__":Str))=false/\(y == ("__classdict__":Str))=false/\env[i]?=some (some (.t f))
theorem pj
 (o:Ok T (m+1) sc0 N0 X) (nd:N.Nodup) (nmk:∀x∈lsc.names,x.2=.globalImplicit\/x.2=.free) (h8:wy es=true) (h9:ckL lsc N es ys=true) (h10:zc ys=true) (h11:ys.isEmpty=false) (hcal:Cal lsc N env y f) (ho:zV (zB T m) T.b env es s=.e vs s) (hmd:T.c md=true)
 (I:L2.Inv X pins σq H s0) (L:L2.pE X.g s0.heap H lf c2 qual (.Call (.Name y p2) ys [] p3) lsc cl pm ctv N σ) (hr:HR X.K X.d ρ s H) (er:ER X.K X.d ρ H env σ) (wt:yL X.K X.d (RD X.K X.d) ρ H (uY T md (zB T m f 0 vs s) (zZ T m f 0 vs s)) Q) (hf:X.d (L2.yD md)=some (.ref fS)) :
 wpAny (model X.f X.w) X.A (call (.ref fS) [.ref lf]) (L2.EP X pins σq Q) X.i s0:=by
 have sd:=o.l m rfl ⟨md,hmd⟩;obtain⟨kx,cs,ws,pre,hue,hhue,KF,SF,CF,RF⟩:=sd.a.a;obtain⟨fS',SF'⟩:=SF md hmd;obtain rfl:fS'=fS:=by obtain⟨_,_,z,_⟩:=id SF'.a;rw[hf]at z;cases z;rfl
 cases hfn:T.d f 0 with
 |none=>
  exfalso;have h1:zB T m f 0 vs s=.d:=by
   cases m with
   |zero=>rfl
   |succ m=>simp only[zB,hfn];cases pN vs<;>rfl
  have h2:zZ T m f 0 vs s=dr:=by
   cases m with
   |zero=>rfl
   |succ m=>simp only[zZ,hfn]
  rw[h1,h2]at wt;exact wt
 |some F=>
  obtain⟨fa2,fd2,e1,e2,e3,e4,e5⟩:=(sd.b m (xd _)).a f 0 F hfn;refine Ek (C6 (L2.bW (EE:=λcls H2=>∃(cc:Str) (as:List Val) (s':Sto) (ρ2:Own) (C:Addr),((∀v s1,zB T m f 0 vs s≠.e v s1)/\zZ T m f 0 vs s=some (cc,as,s'))/\Ext ρ H ρ2 H2/\HR X.K X.d ρ2 s' H2/\X.d cc=some (.ref C)/\cls=.ref C)
   (Q:=Q) (tb:=λσ1 H1 Q1=>(∀i:Nat,env[i]?=some (some (.t f))->σ1[i]?=some (some (.c fa2)))/\L2.j9 (spX T X.K X.d m f 0) [] (λcls _ H2=>∃(cc:Str) (as:List Val) (s':Sto) (ρ2:Own) (C:Addr),((∀v s1,zB T m f 0 vs s≠.e v s1)/\zZ T m f 0 vs s=some (cc,as,s'))/\Ext ρ H ρ2 H2/\HR X.K X.d ρ2 s' H2/\X.d cc=some (.ref C)/\cls=.ref C) (tVs X.K X.d env s (zV (zB T m) T.b env es s)) σ1 H1 Q1)
   I.vn o.d.a (by have:=o.d.c;omega) SF' KF hhue L (λvn s' H2=>?_) ?_ λcls H2 hEE=>?_) λr s' hres=>?_)
  . cases ys with
    |nil=>cases h11
    |cons y1 ys=>
     have hp2:=h10;rw[zc,cf]at hp2;have okL:Ok T m lsc N (L2.rm (L2.CXE X.f X.w) X.f X.w X.K X.d X.h N qual lsc lf (.ref c2) cl (X.A.deeper vn) (vn::X.g) s' H2 (λcls _ H2=>∃(cc:Str) (as:List Val) (s':Sto) (ρ2:Own) (C:Addr),((∀v s1,zB T m f 0 vs s≠.e v s1)/\zZ T m f 0 vs s=some (cc,as,s'))/\Ext ρ H ρ2 H2/\HR X.K X.d ρ2 s' H2/\X.d cc=some (.ref C)/\cls=.ref C)).nox:=by
      refine⟨rfl,bQ o.d _ _,⟨rfl,nd,λx hx=>hx,λx hx=>?_,λx hx=>hx,λx hx=>hx⟩,λf' v' F' hf'=>?_,o.k,o.g,rfl,o.i,λm' hm' hmd'=>⟨sd.a,λj hj=>sd.b j (by omega)⟩,λ_ ⟨x,hx⟩ _=>?_⟩
      . exfalso
        rcases hx with hx|hx
        . rcases nmk _ (AM hx) with z|z<;>cases z
        . rcases nmk _ (AM hx) with z|z<;>cases z
      . obtain⟨fa3,fd3,y1,y2,y3,y4,y5⟩:=(sd.b m (xd _)).a f' v' F' hf'
        exact⟨⟨fa3,fd3,y1,y2,y3,y4⟩⟩
      . exfalso
        rcases nmk _ (AM hx) with z|z<;>cases z
     have hpa:=kE (nI es h8 lsc N _ _ okL h9 h10 env s);rcases hcal with⟨rfl,h6,h7⟩|⟨i,c1,c2,c3,c4,c5⟩
     . exact zU (L2.nK e5 (bQ o.d _ _) h6 e1 e2 e3 .nil L2.qa hpa h7 (L2.ze (zT hp2.1)) (yt hp2.2)) λσ H Q h=>h.2
     . exact zU (cj e5 (bQ o.d _ _) c1 (mI c2) e2 e3 .nil L2.qa hpa c3 c4 (L2.ze (zT hp2.1)) (yt hp2.2)) λσ H Q h=>⟨h.1 i c5,h.2⟩
  . refine Ac (λi he=>?_) ⟨ρ,hr,er,?_⟩
    . obtain⟨x,hx,r⟩:=er.a i _ he
      cases r with
      |I e=>rw[e1]at e;cases e;exact hx
    rw[ho];intro ρ1 xs H1 x1 hr1 r1;refine⟨ρ1,s,vs,hr1,by rw[Bb];exact r1,?_⟩
    cases hres:zB T m f 0 vs s with
    |e v s'=>
     rw[hres]at wt;refine .inl λρ2 x H2 x2 hr2 r2=>?_;have X2:=x1.trans hr1 x2;cases md with
     |true=>exact wt ρ2 x H2 X2 hr2 r2
     |false=>exact wt ρ2 _ H2 X2 hr2 (.D _)
    |g _ _ _=>
     rw[hres]at wt;cases hx:zZ T m f 0 vs s with
     |none=>rw[hx]at wt;exact wt.elim
     |some r=>
      obtain⟨cc,as,s'⟩:=r;exact .inr λρ2 H2 x2 hr2 C hC=>⟨cc,as,s',ρ2,C,⟨zD rfl,rfl⟩,x1.trans hr1 x2,hr2,hC,rfl⟩
    |d=>
     rw[hres]at wt;cases hx:zZ T m f 0 vs s with
     |none=>rw[hx]at wt;exact wt.elim
     |some r=>
      obtain⟨cc,as,s'⟩:=r;exact .inr λρ2 H2 x2 hr2 C hC=>⟨cc,as,s',ρ2,C,⟨zD rfl,rfl⟩,x1.trans hr1 x2,hr2,hC,rfl⟩
  . obtain⟨cc,as,s',ρ2,C,⟨hno,hexc⟩,x2,hr2,hC,rfl⟩:=hEE
    have wt:yL X.K X.d (RD X.K X.d) ρ H (match T.f.lookup cc with|some w=>.e (.g w) s'|dr=>.d) Q:=by
     rw[hexc]at wt;cases hn:zB T m f 0 vs s with
     |e v s1=>exact absurd hn (hno v s1)
     |g _ _ _=>rw[hn]at wt;exact wt
     |d=>rw[hn]at wt;exact wt
    cases hw:T.f.lookup cc with
    |none=>rw[hw]at wt;exact wt.elim
    |some w=>
     rw[hw]at wt;obtain⟨C',i,x,c1,c2,c3,c4,c5,c6,c7⟩:=CF cc w hw;rw[hC]at c1;cases c1;refine⟨C,cc,i,x,rfl,c2,c3,c4,c5,λ_=>by rw[<-c6];exact c7,λH3 sm=>?_⟩
     obtain⟨hr3,x3⟩:=hr2.SU sm;have:=wt ρ2 (.e w) H3 (x2.trans hr2 x3) hr3 (.D w);rw[<-c6];exact this
  . cases r with
    |error e=>exact AA hres
    |ok fl=>
     cases fl with
     |ret u=>exact I.after hres
     |next=>exact AA hres
     |brk=>exact AA hres
     |cont=>exact AA hres
theorem pk(o:Ok T (m+1) sc N X)(h2:sc.names.lookup (L2.yD md)=some .globalImplicit)(h3:vg a=true)(h4:we sc lsc=true)
 (h8:wy es=true) (h9:ckL lsc N es ys=true) (h10:zc ys=true) (h11:ys.isEmpty=false) (h12:("!":Str)∈N) env s (hcal:Cal lsc N env y f) (ho:zV (zB T m) T.b env es s=.e vs s) (htb:zh T.e s=true) (hmd:T.c md=true) :
 L2.PE X (.Call (.Name (L2.yD md) p1) [.Lambda a (.Call (.Name y p2) ys [] p3) lsc p4] [] p5) (tV X.K X.d env s (uY T md (zB T m f 0 vs s) (zZ T m f 0 vs s))):=by
 obtain rfl:=pV h3;intro pins s0 σ H Q I ⟨ρ,hr,er,wt⟩;have sd:=o.l m rfl ⟨md,hmd⟩;obtain⟨kx,cs,ws,pre,hue,hhue,KF,SF,CF,RF⟩:=sd.a.a;obtain⟨fS,SF'⟩:=SF md hmd;obtain⟨stS,fdS,hmS,FnS,_⟩:=id SF'.a;simp only[we,cf,decide_eq_true_eq,Ay,AF,Bo,Ao]at h4;obtain⟨⟨⟨⟨k1,k2⟩,k3⟩,k4⟩,⟨x0,hx0,hx0f⟩⟩:=h4;have fcell:∀x∈lsc.names,x.2=.free->sc.names.lookup x.1=some .cell\/sc.names.lookup x.1=some .free:=λx hx hf=>by
  rcases k4 x hx with z|z
  . rw[hf]at z;cases z
  . exact z.2
 obtain⟨g,hg,fa,c,ob,fd,q1,q2,q3,q4,q5,q6⟩:=o.j ⟨md,hmd⟩ ⟨x0.1,hx0f⟩ h12;obtain⟨j,hj⟩:=qF htb hg;obtain⟨P,hPo,tr⟩:=hr.m j _ hj;obtain⟨ps,hP,tok,among,fa',c',o',fd',w1,w2,w3,w4,w5⟩:=id tr;rw[q1]at w1;cases w1;rw[q2]at w2;cases w2;rw[q3]at w3;cases w3;rw[q4]at w4;cases w4;have hq:X.a.qual++("<lambda>":Str)=dq g:=by rw[q6];rfl
 have cellOf':∀x,(x,AB)∈lsc.names->∃b,X.a.cells.lookup x=some b:=λx hx=>I.C.p x (o.a.f x (fcell _ hx rfl));have clk:∀x b,(xW X.a.cells lsc.names []).lookup x=some b->(x,AB)∈lsc.names/\X.a.cells.lookup x=some b:=λx b e=>by
  rcases sA (AM e) with z|⟨z1,z2⟩
  . cases z
  . obtain⟨b',hb'⟩:=cellOf' x z1
    rw[hb']at z2;exact⟨z1,by rw[hb',z2];rfl⟩
 have hdbg:(L2.yD md == ("__debug__":Str))=false:=by cases md<;>decide
 refine Bu (L2.xl I (o.a.b _ h2) hmS ?_ hdbg);refine CQ (h₀:=X.h) I.C.j.a FnS.b ?_;show wpAny _ _ (spliced ((false,eval (.Lambda L2.noArgs (.Call (.Name y p2) ys [] p3) lsc p4) X.a)::backTo p5 (AD [] X.a))) _ _ s0;refine Calls.spliced_cons (L2.mK (P:=P) (ps:=ps) (c:=c) I rfl (jM λx hx hf=>cellOf' x.1 (by rw[<-hf];exact hx)) q5 (w5 _ I.kIn) hP tok (sd.a.bm _ I.C.j.a) (λcv hcv=>?_) λlf c2 ctv H' h' tk I' lamh ⟨nl,_,nf,cdr⟩ obj cr=>Calls.spliced_nil ⟨I'.kIn,?_⟩)
 . obtain⟨b,ob',vb,tb,z1,_,z3,z4,z5⟩:=among _ cv hcv
   exact⟨b,ob',vb,tb,z1,z3,z4,by rw[hq];exact z5⟩
 rw[hq]at lamh;obtain⟨hr',X0⟩:=hr.lam hj hPo tr hP lamh;have L:L2.pE X.g h' H' lf c2 (X.a.qual++("<lambda>":Str)) (.Call (.Name y p2) ys [] p3) lsc (xW X.a.cells lsc.names []) ((X.d "__name__").getD .none) ctv N σ:=by
  refine⟨obj,.inl nl,nf,cdr,λx y b z1 z2=>I.C.r x y b (clk x b z1).2 (clk y b z2).2,λx hx=>lookup_mem (wj (AM hx)),λx b e=>?_,λi x v z1 z2 z3=>?_,by rw[<-o.a.a];exact I'.R,k1,k2,k3,λx hx=>?_⟩
  . obtain⟨y1,y2⟩:=clk x b e
    exact⟨I'.J x b y2,I'.G x b y2⟩
  . have hm3:=AM z3
    have hcl:=fcell _ hm3 rfl;obtain⟨mm,hn,hl⟩:=I'.O;obtain⟨u,ru,lk⟩:=hl i x v (by rw[o.a.a];exact z1) z2 (o.a.e x (.inr hcl))
    rcases lk with⟨y,_⟩|⟨_,b,y2,y3⟩
    . rcases o.a.f x hcl with y'|y'
      . rw[y]at y';cases y'
      . rw[y]at y';cases y'
    . obtain⟨b',hb'⟩:=lookup_mem (wj (cells:=X.a.cells) (acc:=[]) hm3)
      have:=(clk x b' hb').2;rw[y2]at this;cases this;exact⟨u,b,ru,hb',y3⟩
  . rcases k4 x hx with z|z
    . rw[z];exact⟨nofun,nofun⟩
    . rw[z.1];exact⟨nofun,nofun⟩
 exact pj o o.a.d (λx hx=>(k4 x hx).imp id And.left) h8 h9 h10 h11 hcal ho hmd I' L hr' (er.mono X0) (wt.mono X0 hr') hmS
theorem ZT(o:Ok T n sc N X)(hver:¬ver<100)(hver2:ver<200)(h2:sc.names.lookup (L2.yD (decide (ver=101)))=some .globalImplicit)(h3:vg a=true)(h4:we sc lsc=true)(h6:lsc.names.lookup f=some .globalImplicit)
 (h7:(f == ("__debug__":Str))=false) (h8:wy es=true) (h9:ckL lsc N es ys=true) (h10:zc ys=true) (h11:ys.isEmpty=false) (h12:("!":Str)∈N) env s :
 L2.PE X (.Call (.Name (L2.yD (decide (ver=101))) p1) [.Lambda a (.Call (.Name f p2) ys [] p3) lsc p4] [] p5) (tV X.K X.d env s (evE (zB T n) T.b env (.h f ver es) s)):=by
 show L2.PE X _ (tV X.K X.d env s ((zV (zB T n) T.b env es s).bind λvs s1=>zB T n f ver vs s1));cases n with
 |zero=>
  refine zJ λv s' e=>?_;obtain⟨_,_,_,z⟩:=zb e;cases z
 |succ m=>
  rw[uM (Φ':=zB T m) es s h8];cases ho:zV (zB T m) T.b env es s with
  |g _ _ _=>exact zJ (zD rfl)
  |d=>exact zJ (zD rfl)
  |e vs s1=>
   obtain rfl:s=s1:=(uN es _ _ _ h8 ho).symm;rw[zN];have hcall:zB T (m+1) f ver vs s=if ((decide (ver=100)&&T.c false)||(decide (ver=101)&&T.c true))&&zh T.e s then uY T (decide (ver=101)) (zB T m f 0 vs s) (zZ T m f 0 vs s) else .d:=by
    simp only[zB,o.i f ver (by omega)]
    rw[decide_eq_false (show ¬ver=200 by omega),decide_eq_false (show ¬ver=300 by omega),decide_eq_false (show ¬ver=301 by omega)]
    congr 1;cases pN vs<;>rfl
   rw[hcall];by_cases hcond:(((decide (ver=100)&&T.c false)||(decide (ver=101)&&T.c true))&&zh T.e s)=true
   case neg=>rw[if_neg hcond];exact zJ (zD rfl)
   rw[if_pos hcond];rw[cf]at hcond;obtain⟨hmd0,htb⟩:=hcond;have hmd:T.c (decide (ver=101))=true:=by
    simp only[Ao,cf,decide_eq_true_eq]at hmd0;rcases hmd0 with⟨z1,z2⟩|⟨z1,z2⟩
    . rw[decide_eq_false (by omega)];exact z2
    . rw[decide_eq_true z1];exact z2
   exact pk o h2 h3 h4 h8 h9 h10 h11 h12 env s (.inl ⟨rfl,h6,h7⟩) ho htb hmd
theorem dU(o:Ok T n sc N X)(hver:¬ver<200)(hv2:ver≠200)(hvf:YX es=true)(h2:sc.names.lookup (L2.yD (decide (ver=301)))=some .globalImplicit)(h3:vg a=true)(h4:we sc lsc=true)
 (h8:wy es=true) (h9:ckL lsc N es (.Name y default::ys)=true) (h10:zc ys=true) (h11:ys.isEmpty=false) (h12:("!":Str)∈N) env s :
 L2.PE X (.Call (.Name (L2.yD (decide (ver=301))) p1) [.Lambda a (.Call (.Name y p2) ys [] p3) lsc p4] [] p5) (tV X.K X.d env s (evE (zB T n) T.b env (.h f ver es) s)):=by
 show L2.PE X _ (tV X.K X.d env s ((zV (zB T n) T.b env es s).bind λvs s1=>zB T n f ver vs s1));obtain⟨i,es',rfl⟩:=YY hvf;have h9:((decide (N[i]?=some y)&&se lsc y&&!(y == ("__debug__":Str))&&!(y == ("__classdict__":Str)))&&ckL lsc N es' ys)=true:=h9;simp only[cf,decide_eq_true_eq,Ay]at h9;obtain⟨⟨⟨⟨c1,c2⟩,c3⟩,c4⟩,c5⟩:=h9;have h8:wy es'=true:=by rw[wy,cf]at h8;exact h8.2
 cases n with
 |zero=>
  refine zJ λv s' e=>?_;obtain⟨_,_,_,z⟩:=zb e;cases z
 |succ m=>
  refine Tr λv s' e=>?_;obtain⟨vs,s1,hvs,hc⟩:=zb e;obtain⟨v0,s0,hv0,hr0⟩:=zb (show ((evE (zB T (m+1)) T.b env (.e i) s).bind λv s1=>(zV (zB T (m+1)) T.b env es' s1).bind λvs s2=>.e (v::vs) s2)=.e vs s1 from hvs);obtain⟨us,s2,hus,hr1⟩:=zb hr0;cases hr1;have hv0':(match env[i]? with|some (some v)=>Out.e v s|_=>.d)=.e v0 s0:=hv0
  split at hv0'
  case h_2=>cases hv0'
  rename_i v0' he;cases hv0';rw[uM (Φ':=zB T m) es' s h8]at hus;obtain rfl:s1=s:=uN es' _ _ _ h8 hus;simp only[zB,o.i f ver (by omega)]at hc
  rw[decide_eq_false (show ¬ver=100 by omega),decide_eq_false (show ¬ver=101 by omega),decide_eq_false hv2]at hc
  cases v0 with
  |t g=>
   have hc:(if ((decide (ver=300)&&T.c false)||(decide (ver=301)&&T.c true))&&zh T.e s1 then uY T (decide (ver=301)) (zB T m g 0 us s1) (zZ T m g 0 us s1) else .d)=.e v s':=hc
   by_cases hcond:(((decide (ver=300)&&T.c false)||(decide (ver=301)&&T.c true))&&zh T.e s1)=true
   case neg=>rw[if_neg hcond]at hc;cases hc
   rw[if_pos hcond]at hc;rw[cf]at hcond;obtain⟨hmd0,htb⟩:=hcond;have hmd:T.c (decide (ver=301))=true:=by
    simp only[Ao,cf,decide_eq_true_eq]at hmd0;rcases hmd0 with⟨z1,z2⟩|⟨z1,z2⟩
    . rw[decide_eq_false (by omega)];exact z2
    . rw[decide_eq_true z1];exact z2
   have:=pk (p1:=p1) (p2:=p2) (p3:=p3) (p4:=p4) (p5:=p5) o h2 h3 h4 h8 c5 h10 h11 h12 env s1 (.inr ⟨i,c1,c2,c3,c4,he⟩) hus htb hmd;rw[hc]at this;rw[e];exact this
  |_=>cases hc
end
end M
end
section
namespace L2
open PySem PySem.W PySem.Spec PyProof PyProof.Rows
theorem Inv.Xl(I:Inv X pins σ H s)(hn:H a=none)(he:s.heap.get? a=some oe)(h0:X.l.heap.objs.size<=a)(hp:∀p∈X.q++pins,p.1≠a)(nL:X.a.locals≠a)(nC:∀x c,X.a.cells.lookup x=some c->c≠a):Inv X pins σ (upd H a (.d oe (.e 0))) s:=by
 have ne:∀b,H b≠none->b≠a:=λb n z=>n (by rw[z];exact hn)
 have ob:∀b u,H b=some u->upd H a (.d oe (.e 0)) b=some u:=λb u e=>by rw[zE (ne b (by rw[e];exact nofun))];exact e
 refine⟨I.C,I.S,I.F,⟨I.B.f,I.B.i,λb o e n hx=>?_,I.B.c,λb xs e=>ob _ _ (I.B.l b xs e),λb o u e=>ob _ _ (I.B.g b o u e),λb ps e=>?_⟩,I.O,I.J,?_,λx c e=>?_,λp hp'=>?_,λb u e=>?_,I.R⟩
 . rw[zE (λz=>by rw[z]at e;exact absurd (Ar (Ae e) h0) (A1 _))];exact I.B.d b o e n hx
 . obtain⟨more,q⟩:=I.B.j b ps e
   exact⟨more,ob _ _ q⟩
 . rw[zE nL];exact I.M
 . rw[zE (nC x c e)];exact I.G x c e
 . obtain⟨z1,z2,z3⟩:=I.P p hp'
   exact⟨z1,by rw[zE (hp p hp')];exact z2,z3⟩
 . by_cases z:b=a
   . subst z
     rw[zL]at e;cases e;exact⟨he,oe,he⟩
   . rw[zE z]at e
     exact(I.j b u e).rB (λ_ _ _ q=>q) (λc q=>ob _ _ q) λc xs q=>ob _ _ q
end L2
namespace M
open PySem PySem.W PyProof.Rows
def rV(X:L2.Cx)(H:L2.Hp)(lf:Addr)(body:Expr)(lsc:Scope):Prop:=∃(c:Addr) (ctv:Value),H lf=some (.d (kla_obj "<lambda>" (X.a.qual++("<lambda>":Str)) L2.noArgs body lsc (xW X.a.cells lsc.names []) ((X.d "__name__").getD .none) c ctv) (.e 0))/\lf ∉ L2.frs X.g /\
 ∃(o:Obj) (vs:Array Value) (t:Tok),H c=some (.d o (.e 0))/\o.data=.fields vs/\vs[1]?=some (.str (X.a.qual++("<lambda>":Str)) t)
def Frz(H H':L2.Hp):Prop:=∀a o u,H a=some (.d o u)->H' a=some (.d o u)
theorem rV.keep(l:rV X H lf body lsc)(k:Frz H H'):rV X H' lf body lsc:=by obtain⟨c,ctv,h1,h2,o,vs,t,h3,h4⟩:=l;exact⟨c,ctv,k _ _ _ h1,h2,o,vs,t,k _ _ _ h3,h4⟩
section
variable {K:KF}{mg:Str->Option Value}{ρ ρ':Own}{H H':L2.Hp}{s:Sto}
theorem HR.TK(hr:HR K mg ρ s H)(e:H a=some (.d o u)):a ∉ ρ.o:=λhm=>by
 obtain⟨i,hi,e1⟩:=Bp hm;have hs:i<s.length:=by rw[<-hr.f];exact hi
 obtain⟨b,e2,r⟩:=hr.m i _ (Ad hs);rw[Ad hi,e1]at e2;cases e2;have:=r.hk;rw[e]at this;cases this
theorem HR.frz(hr:HR K mg ρ s H)(x:Ext ρ H ρ' H'):Frz H H':=λa o u e=>x.c a _ e (hr.TK e)
theorem ER.put(er:ER K mg ρ H env σ):ER K mg ρ H (env.set i dr) (σ.set i v):=by
 refine⟨by rw[AL,AL];exact er.b,λj w e=>?_⟩
 by_cases z:i=j
 . subst z
   rw[List.getElem?_set]at e;split at e
   . split at e<;>cases e
   . rename_i h;exact absurd rfl h
 . rw[AO z]at e ⊢
   exact er.a j w e
end
section
variable {T:Tbl}{n:Nat}{sc lsc:Scope}{N:List Str}{X:L2.Cx}
theorem bA(o:Ok T (m+1) sc N X)(hmd:T.c false=true)(h4:we sc lsc=true)(h12:("!":Str)∈N) :
 L2.PE X (.Lambda L2.noArgs body lsc p4) (λσ H Q=>∃ρ s,HR X.K X.d ρ s H/\zh T.e s=true/\∀lf H',Ext ρ H ρ H'->HR X.K X.d ρ s H'->rV X H' lf body lsc->Q (.c lf) H'):=by
 intro pins s0 σ H Q I ⟨ρ,s,hr,htb,wt⟩;have sd:=o.l m rfl ⟨_,hmd⟩;simp only[we,cf,decide_eq_true_eq,Ay,AF,Bo,Ao]at h4;obtain⟨⟨⟨⟨k1,k2⟩,k3⟩,k4⟩,⟨x0,hx0,hx0f⟩⟩:=h4;have fcell:∀x∈lsc.names,x.2=.free->sc.names.lookup x.1=some .cell\/sc.names.lookup x.1=some .free:=λx hx hf=>by
  rcases k4 x hx with z|z
  . rw[hf]at z;cases z
  . exact z.2
 obtain⟨g,hg,fa,c,ob,fd,q1,q2,q3,q4,q5,q6⟩:=o.j ⟨_,hmd⟩ ⟨x0.1,hx0f⟩ h12;obtain⟨j,hj⟩:=qF htb hg;obtain⟨P,hPo,tr⟩:=hr.m j _ hj;obtain⟨ps,hP,tok,among,fa',c',o',fd',w1,w2,w3,w4,w5⟩:=id tr;rw[q1]at w1;cases w1;rw[q2]at w2;cases w2;rw[q3]at w3;cases w3;rw[q4]at w4;cases w4;have hq:X.a.qual++("<lambda>":Str)=dq g:=by rw[q6];rfl
 have cellOf':∀x,(x,AB)∈lsc.names->∃b,X.a.cells.lookup x=some b:=λx hx=>I.C.p x (o.a.f x (fcell _ hx rfl));refine L2.mK (P:=P) (ps:=ps) (c:=c) I rfl (jM λx hx hf=>cellOf' x.1 (by rw[<-hf];exact hx)) q5 (w5 _ I.kIn) hP tok (sd.a.bm _ I.C.j.a) (λcv hcv=>?_) λlf c2 ctv H' h' tk I' lamh ⟨nl,hsz,nf,cdr⟩ obj cr=>?_
 . obtain⟨b,ob',vb,tb,z1,_,z3,z4,z5⟩:=among _ cv hcv
   exact⟨b,ob',vb,tb,z1,z3,z4,by rw[hq];exact z5⟩
 have lamh':L2.Xf H P ps p4 (dq g) c2 H':=by rw[<-hq];exact lamh
 obtain⟨hr',X0⟩:=hr.lam hj hPo tr hP lamh';have hlt:∀b (u:Obj),s0.heap.get? b=some u->b≠lf:=λb u e z=>by rw[z]at e;exact absurd (Ar (Ae e) hsz) (A1 _)
 obtain⟨oc,vs,t,z1,z2,z3⟩:=cdr;refine⟨.c lf,_,I'.Xl nl obj (AE I.sz hsz) (λp hp=>hlt _ _ (I.P p hp).1) (λz=>?_) (λx b e z=>?_),rfl,wt lf _ (X0.trans hr' (Ext.new hr' nl _)) (hr'.more nl _) ⟨c2,ctv,L2.zL,nf,oc,vs,t,?_,z2,z3⟩⟩
 . obtain⟨mm,⟨oo,_,_,e,_⟩,_⟩:=I.O
   exact hlt _ _ e z
 . obtain⟨v,oo,e2,_⟩:=I.J x b e
   exact hlt _ _ e2 z
 . rw[L2.zE (L2.zQ z1 nl)];exact z1
theorem rV.at(o:Ok T n sc N X)(l:rV X H lf body lsc)(h4:we sc lsc=true)(I0:L2.Inv X pins0 σ H0 s0)(f0:∀b∈ex,L2.wc X pins0 H0 b)
 (I:L2.Inv (X.comp N' csc C s0 H0 ex) pins σ' H s1):∃c ctv,L2.pE X.g s1.heap H lf c (X.a.qual++("<lambda>":Str)) body lsc (xW X.a.cells lsc.names []) ((X.d "__name__").getD .none) ctv N σ:=by
 obtain⟨c,ctv,h1,h2,h3⟩:=l;simp only[we,cf,decide_eq_true_eq,Ay,AF,Bo,Ao]at h4;obtain⟨⟨⟨⟨k1,k2⟩,k3⟩,k4⟩,_⟩:=h4;have fcell:∀x∈lsc.names,x.2=.free->sc.names.lookup x.1=some .cell\/sc.names.lookup x.1=some .free:=λx hx hf=>by
  rcases k4 x hx with z|z
  . rw[hf]at z;cases z
  . exact z.2
 have cellOf':∀x,(x,AB)∈lsc.names->∃b,X.a.cells.lookup x=some b:=λx hx=>I0.C.p x (o.a.f x (fcell _ hx rfl));have clk:∀x b,(xW X.a.cells lsc.names []).lookup x=some b->(x,AB)∈lsc.names/\X.a.cells.lookup x=some b:=λx b e=>by
  rcases sA (AM e) with z|⟨z1,z2⟩
  . cases z
  . obtain⟨b',hb'⟩:=cellOf' x z1
    rw[hb']at z2;exact⟨z1,by rw[hb',z2];rfl⟩
 have un:L2.Un (L2.frs X.g) ex H0 H s0.heap s1.heap:=I.B;have nex:∀x b,X.a.cells.lookup x=some b->b ∉ ex:=λx b e hb=>(f0 b hb).2.2.2.2.1 x b e rfl;have cell2:∀x b v,X.a.cells.lookup x=some b->s0.heap.IsCell b v->s1.heap.IsCell b v:=λx b v hx ⟨ob,e,d⟩=>by
  have n:=I0.G x b hx;by_cases f:b∈L2.frs X.g
  . obtain⟨sl,e1⟩:=un.i b ob e n f (nex x b hx)
    exact⟨_,e1,d⟩
  . exact⟨ob,un.f b ob e n f (nex x b hx),d⟩
 refine⟨c,ctv,(I.j lf _ h1).1,.inr h1,h2,h3,λx y b z1 z2=>I0.C.r x y b (clk x b z1).2 (clk y b z2).2,λx hx=>lookup_mem (wj (AM hx)),λx b e=>?_,λi x v z1 z2 z3=>?_,by rw[<-o.a.a];exact I0.R,k1,k2,k3,λx hx=>?_⟩
 . obtain⟨y1,y2⟩:=clk x b e
   obtain⟨v,z⟩:=I0.J x b y2;obtain⟨ob,eo,_⟩:=id z;exact⟨⟨v,cell2 x b v y2 z⟩,un.d b ob eo (I0.G x b y2) (nex x b y2)⟩
 . have hm3:=AM z3
   have hcl:=fcell _ hm3 rfl;obtain⟨mm,hn,hl⟩:=I0.O;obtain⟨u,ru,lk⟩:=hl i x v (by rw[o.a.a];exact z1) z2 (o.a.e x (.inr hcl))
   rcases lk with⟨y,_⟩|⟨_,b,y2,y3⟩
   . rcases o.a.f x hcl with y'|y'
     . rw[y]at y';cases y'
     . rw[y]at y';cases y'
   . obtain⟨b',hb'⟩:=lookup_mem (wj (cells:=X.a.cells) (acc:=[]) hm3)
     have:=(clk x b' hb').2;rw[y2]at this;cases this;exact⟨u,b,ru,hb',cell2 x b _ y2 y3⟩
 . rcases k4 x hx with z|z
   . rw[z];exact⟨nofun,nofun⟩
   . rw[z.1];exact⟨nofun,nofun⟩
end
end M
end
section
namespace M
open PySem
section
variable {T:Tbl}{n:Nat}
theorem WV(ja:JE T n a):JE T n (.G a):=by intro sc N X e o h env s;replace h:=rE h;obtain⟨x,p,rfl,h⟩:=h;exact Wj (ja _ _ _ _ o h env s)
theorem WS(ja:JE T n a)(jb:JE T n b):JE T n (.q op a b):=by intro sc N X e o h env s;replace h:=rD h;obtain⟨l,o1,r,p,rfl,h⟩:=h;simp only[cf,decide_eq_true_eq]at h;obtain⟨⟨⟨⟨k1,rfl⟩,h1⟩,h2⟩,h3⟩:=h;exact Xo (ja _ _ _ _ o h1 env s) (λs1=>jb _ _ _ _ o h2 env s1) λta tb pa pb=>L2.nM (vM o.d op k1) pa pb (yr h3)
theorem dB(ja:JE T n a)(jb:JE T n b)(jc:JE T n c):JE T n (.s op op' a b c):=by intro sc N X e o h env s;replace h:=jT h;obtain⟨l,o1,o2,r,r2,p,rfl,h⟩:=h;simp only[cf,decide_eq_true_eq]at h;obtain⟨⟨⟨⟨⟨⟨k1,rfl⟩,k2,rfl⟩,h3⟩,h4⟩,h5⟩,h6⟩:=h;exact dO k1 k2 o.d (ja _ _ _ _ o h3 env s) (λs1=>jb _ _ _ _ o h4 env s1) (λs1=>jc _ _ _ _ o h5 env s1) h6
theorem WQ(ja:JE T n a)(jl:JL T n es):JE T n (.y a es):=by
 intro sc N X e o h env s;replace h:=rC h;obtain⟨x,xs,pos,rfl,h⟩:=h;simp only[cf]at h;obtain⟨h1,h2⟩:=h;cases es with
 |c=>
  cases AN.mp h2;exact L2.kF (ja _ _ _ _ o h1 env s)
 |a b es'=>
  cases xs with
  |nil=>cases h2
  |cons y ys=>exact dJ (ja _ _ _ _ o h1 env s) λs1=>(jl _ _ _ _ o h2).2.1 y ys pos rfl env s1
theorem WT(jc:JC T n c)(ja:JE T n a)(jb:JE T n b):JE T n (.F c a b):=by intro sc N X e o h env s;replace h:=eN h;obtain⟨t,x,y,p,rfl,h⟩:=h;simp only[cf]at h;exact Wh (jc _ _ _ _ o h.1.1 env s) (λs1=>ja _ _ _ _ o h.1.2 env s1) (λs1=>jb _ _ _ _ o h.2 env s1)
theorem lK(hv:ver<100)(h:T.d f ver=none)vs s:zB T n f ver vs s=.d:=by
 cases n with
 |zero=>rfl
 |succ n=>
  have h1:decide (ver=100)=false:=decide_eq_false (by omega)
  have h2:decide (ver=101)=false:=decide_eq_false (by omega)
  have h3:decide (ver=200)=false:=decide_eq_false (by omega)
  have h4:decide (ver=300)=false:=decide_eq_false (by omega)
  have h5:decide (ver=301)=false:=decide_eq_false (by omega)
  simp only[zB,h,h1,h2,h3,h4,h5,CD,Bool.or_self,AZ,if_false];cases pN vs<;>rfl
theorem ZH(jl:JL T n es):JE T n (.h f ver es):=by
 intro sc N X e o h env s;replace h:(if ver<100 then ckA sc f (λxs=>ckL sc N es xs) e else if ver<200 then ckB sc N f ver es (λl ys=>ckL l N es ys) e else ckV sc N ver es (λl ys=>ckL l N es ys) e)=true:=h
 split at h
 . rename_i hver
   replace h:=ye h;obtain⟨x,p,xs,pos,rfl,h⟩:=h;simp only[cf,decide_eq_true_eq,xC,Ay]at h;obtain⟨⟨⟨⟨rfl,h2⟩,h3⟩,h4⟩,h5⟩:=h;show L2.PE X _ (tV X.K X.d env s ((zV (zB T n) T.b env es s).bind λvs s1=>zB T n x ver vs s1));cases hf:T.d x ver with
   |none=>
    refine zJ λv s' e=>?_;cases hv:zV (zB T n) T.b env es s with
    |e vs s1=>rw[hv]at e;simp only[zN,lK hver hf]at e;cases e
    |g _ _ _=>rw[hv]at e;cases e
    |d=>rw[hv]at e;cases e
   |some F=>
    have C:=o.p x ver F hf;cases xs with
    |nil=>
     cases es with
     |c=>exact dM C o.d (o.a.b x h2) h3
     |a _ _=>cases h4
    |cons y ys=>exact ZQ C o.d (o.a.b x h2) h3 h5 (by simp) ((jl _ _ _ _ o h4).1 h5 env s)
 . rename_i hver
   split at h
   . rename_i hver2
     replace h:=jY h;obtain⟨x,a,y,ys,lsc,p1,p2,p3,p4,p5,rfl,h⟩:=h;simp only[cf,decide_eq_true_eq,xC,Ay]at h;obtain⟨⟨⟨⟨⟨⟨⟨⟨⟨⟨⟨rfl,h2⟩,h3⟩,h4⟩,rfl⟩,h6⟩,h7⟩,h8⟩,h9⟩,h10⟩,h11⟩,h12⟩:=h;exact ZT o hver hver2 h2 h3 h4 h6 h7 h8 h9 h10 h11 h12 env s
   . rename_i hver2
     obtain⟨h0,hh⟩:=zK h;replace h:=jY hh;obtain⟨x,a,y,ys,lsc,p1,p2,p3,p4,p5,rfl,h⟩:=h;simp only[cf,decide_eq_true_eq,xC,Ay]at h;obtain⟨⟨⟨⟨⟨⟨⟨⟨⟨rfl,h2⟩,h3⟩,h4⟩,h8⟩,h9⟩,h10⟩,h11⟩,h12⟩,h13⟩:=h;exact dU o hver2 h13 (zK h0).2 h2 h3 h4 h8 h9 h10 h11 h12 env s
theorem fR(f:Bf):f.nm∈xu:=by cases f<;>decide
theorem WR(jl:JL T n es):JE T n (.k f m es):=by intro sc N X e o h env s;replace h:=ye h;obtain⟨x,p,xs,pos,rfl,h⟩:=h;replace h:=z9 h;obtain⟨y,ys,rfl,h⟩:=h;simp only[cf,decide_eq_true_eq,xC]at h;obtain⟨⟨⟨⟨k1,rfl⟩,h2⟩,h3⟩,h4⟩:=h;exact Wg k1 o.c o.d (o.a.b _ h2) (o.g _ (fR f)) h4 ((jl _ _ _ _ o h3).1 h4 env s)
theorem ZJ(ja:JE T n a)(jd:JE T n d):JE T n (.D a d):=by
 intro sc N X e o h env s;replace h:=sE h;obtain⟨f1,xs,ks,pos,rfl,h⟩:=h;replace h:=zq h;obtain⟨x,p,rfl,h⟩:=h;replace h:=z8 h;obtain⟨y,rfl,h⟩:=h;replace h:=z8 h;obtain⟨⟨k,z,kp⟩,rfl,h⟩:=h;simp only[cf,decide_eq_true_eq,xC]at h;obtain⟨⟨⟨⟨⟨⟨rfl,h1⟩,rfl⟩,h2⟩,h3⟩,h4⟩,h5⟩:=h;have je:=ja _ _ _ _ o h2 env s;show L2.PE X _ (tV X.K X.d env s ((evE (zB T n) T.b env a s).bind λx s1=>(evE (zB T n) T.b env d s1).bind λy s2=>mxD x y s2));cases ho:evE (zB T n) T.b env a s with
 |e v s1=>
  rw[ho]at je;have je2:=jd _ _ _ _ o h3 env s1;show L2.PE X _ (tV X.K X.d env s ((evE (zB T n) T.b env d s1).bind λy s2=>mxD v y s2));cases ho2:evE (zB T n) T.b env d s1 with
  |e v2 s2=>
   rw[ho2]at je2;have hs1:AD [y] X.a=(false,eval y X.a)::AD [] X.a:=L2.ze (zT h4);refine zU (L2.Z0 o.c rfl (o.a.b _ h1) (o.g _ (by decide)) PyProof.Rows.boot_max (L2.pac je L2.yT (zT h4)) (L2.Z4 je2 L2.Vf) (he:=by rw[hs1];rfl) (hp:=by rw[hs1];rfl)) λσ H Q ⟨ρ,hr,er,w⟩=>⟨ρ,hr,er,λρ1 x H1 x1 hr1 r1=>⟨ρ1,hr1,er.mono x1,λρ2 y H2 x2 hr2 r2=>?_⟩⟩
   have w':yL X.K X.d (RD X.K X.d) ρ2 H2 (mxD v v2 s2) Q:=w.mono (x1.trans hr1 x2) hr2;cases r2 with
   |l k=>
    simp only[mxD]at w';split at w'
    . rename_i vs hl
      split at w'
      . rename_i ns hi
        obtain⟨p,ys,rfl,hq,q⟩:=xy hr2 (r1.mono x2) hl;rw[q.qH hi]at hq;exact⟨p,ns,k,rfl,rfl,.of hq,zM hr2 (.l _) w'⟩
      . exact w'.elim
    . exact w'.elim
   |_=>exact w'.elim
  |g _ _ _=>exact zJ (zD rfl)
  |d=>exact zJ (zD rfl)
 |g _ _ _=>exact zJ (zD rfl)
 |d=>exact zJ (zD rfl)
theorem ZK(ja:JE T n a)(jl:JL T n es):JE T n (.L f m a es):=by intro sc N X e o h env s;replace h:=jX h;obtain⟨ob,x,ap,y,cp,rfl,h⟩:=h;simp only[cf,decide_eq_true_eq]at h;obtain⟨⟨⟨⟨⟨⟨rfl,h1⟩,h2⟩,h3⟩,h4⟩,h5⟩,hm⟩:=h;obtain⟨b,rfl,jb⟩:=(jl _ _ _ _ o h2).2.2.2 y rfl h3;exact dR hm h4 h3 h5 (ja _ _ _ _ o h1 env s) λs1=>jb env s1
theorem Uu(ja:JE T n a)(j1:JO T n lo)(j2:JO T n hi)(j3:JO T n st):JE T n (.H m a lo hi st):=by
 intro sc N X e o h env s;replace h:=aj h;obtain⟨l1,x1,y1,z1,p1,p2,rfl,h⟩:=h;simp only[cf]at h;obtain⟨⟨⟨h1,h2⟩,h3⟩,h4⟩:=h;obtain⟨p3,q3⟩:=j3 _ _ _ _ o h4;refine Uz (ja _ _ _ _ o h1 env s) (λs1=>(j1 _ _ _ _ o h2).1 env s1) (λs1=>(j2 _ _ _ _ o h3).1 env s1) (λs1=>p3 env s1) ?_;rcases q3 with⟨e1,e2⟩|⟨e',e1,e2⟩
 . exact .inl ⟨e1,λs1=>e2 env s1⟩
 . exact .inr ⟨e',e1,λs1 s2=>e2 env s1 s2⟩
theorem ZI(je:JE T n elt)(ji:JI T n it)(jc:JCs T n ifs):JE T n (.p m N' fr elt t it ifs):=by
 intro sc N X e o h env s;replace h:=u9 h;obtain⟨x,tg,iter,fs,csc,cpos,rfl,h⟩:=h;simp only[cf,decide_eq_true_eq]at h;obtain⟨⟨⟨⟨⟨⟨h1,h2⟩,h3⟩,h4⟩,h5⟩,h6⟩,h7⟩:=h;have S:=pL o.a h1;have oc:=o.comp S h2 h1;obtain⟨g,pg,tg'⟩:∃g,(∀C s0 H0 ex,L2.PG (X.comp N' csc C s0 H0 ex) tg g)/\tw X.K X.d t g:=by
  cases t with
  |a i=>
   cases tg with
   |Name y p=>
    simp only[ckT,cf,Ao,decide_eq_true_eq]at h3;exact⟨_,λC s0 H0 ex=>si (oc C s0 H0 ex).a h3.1 h3.2,tj⟩
   |_=>cases h3
  |b is=>
   cases tg with
   |Tuple es k p=>
    simp only[ckT,cf,decide_eq_true_eq]at h3;refine⟨_,λC s0 H0 ex=>?_,wD (is:=is)⟩;obtain⟨a,b,c⟩:=yg (oc C s0 H0 ex).a h3.1;exact L2.v5 (X:=X.comp N' csc C s0 H0 ex) o.c a b c
   |_=>cases h3
 have rule:L2.PE X (.ListComp x [⟨tg,iter,fs,0⟩] csc cpos) (L2.wo fr (uI X.K X.d (zB T n) T.b it) g (uTs X.K X.d (zB T n) T.b ifs) λacc=>L2.vR acc (uE X.K X.d (zB T n) T.b elt)):=
  L2.rP o.c S (kH λenv s=>ji _ _ _ _ _ o h4 env s) pg (λC s0 H0 ex=>(jc _ _ _ _ (oc C s0 H0 ex) h5).2.2) (λC s0 H0 ex=>gb (X:=X.comp N' csc C s0 H0 ex) λenv s=>je _ _ _ _ (oc C s0 H0 ex) h6 env s) (zk h7)
 refine zU rule λσ H Q hq=>uH (env:=env) (s:=s) (chk:=false) (m:=m) (body:=ua (zB T n) T.b elt ifs) tg' wM (λacc ρ0 H0 hn=>qo hn) ?_ λ_ r s1 p s2 hl=>?_
 . simp only[AZ,false_implies,if_true];exact hq
 . have:=sT hl
   simpa using this
theorem dC(je:JE T n elt)(ji:JI T n it)(jc:JCs T n ifs)(ji2:JI T n it2)(jc2:JCs T n ifs2):JE T n (.w m N' fr elt t it ifs t2 it2 ifs2):=by
 intro sc N X e o h env s;replace h:=jW h;obtain⟨x,tg,iter,fs,tg2,iter2,fs2,csc,cpos,rfl,h⟩:=h;simp only[cf,decide_eq_true_eq]at h;obtain⟨⟨⟨⟨⟨⟨⟨⟨⟨⟨h1,h2⟩,h3⟩,h4⟩,h5⟩,h6⟩,h7⟩,h8⟩,h9⟩,h10⟩,h11⟩:=h;have S:=pL o.a h1;have oc:=o.comp S h2 h1;have tgt:∀(t:Tgt) (tg:Expr),ckT csc N' t tg=true->∃g,(∀C s0 H0 ex,L2.PG (X.comp N' csc C s0 H0 ex) tg g)/\tw X.K X.d t g:=by
  intro t tg h3;cases t with
  |a i=>
   cases tg with
   |Name y p=>
    simp only[ckT,cf,Ao,decide_eq_true_eq]at h3;exact⟨_,λC s0 H0 ex=>si (oc C s0 H0 ex).a h3.1 h3.2,tj⟩
   |_=>cases h3
  |b is=>
   cases tg with
   |Tuple es k p=>
    simp only[ckT,cf,decide_eq_true_eq]at h3;refine⟨_,λC s0 H0 ex=>?_,wD (is:=is)⟩;obtain⟨a,b,c⟩:=yg (oc C s0 H0 ex).a h3.1;exact L2.v5 (X:=X.comp N' csc C s0 H0 ex) o.c a b c
   |_=>cases h3
 obtain⟨g,pg,tg'⟩:=tgt t tg h3;obtain⟨g2,pg2,tg2'⟩:=tgt t2 tg2 h6;have rule:=L2.ma (cpos:=cpos) (elt:=x) (ifs:=fs) (ifs2:=fs2) (ts:=uTs X.K X.d (zB T n) T.b ifs) (ts2:=uTs X.K X.d (zB T n) T.b ifs2) (wi2:=uI X.K X.d (zB T n) T.b it2) (te:=uE X.K X.d (zB T n) T.b elt) o.c S (kH (tg:=tg) λenv s=>ji _ _ _ _ _ o h4 env s) pg (λC s0 H0 ex=>(jc _ _ _ _ (oc C s0 H0 ex) h5).2.2)
  (λC s0 H0 ex=>kH (X:=X.comp N' csc C s0 H0 ex) (tg:=tg2) λenv s=>ji2 _ _ _ _ _ (oc C s0 H0 ex) h7 env s) pg2 (λC s0 H0 ex=>(jc2 _ _ _ _ (oc C s0 H0 ex) h8).2.2)
  (λC s0 H0 ex=>gb (X:=X.comp N' csc C s0 H0 ex) λenv s=>je _ _ _ _ (oc C s0 H0 ex) h9 env s) (zk h10) (λenv=>zk h11)
 refine zU rule λσ H Q hq=>uH (env:=env) (s:=s) (chk:=true) (m:=m) (body:=sS (zB T n) T.b elt ifs t2 it2 ifs2) tg' tm (λacc ρ0 H0 hn=>oH hn tg2') ?_ λz=>by cases z
 simp only[true_implies];exact hq
theorem WY:JL T n .c:=by intro sc N X es o h;cases AN.mp h;exact⟨λ_ env s=>jk,⟨λe es' pos z=>(nomatch z),⟨λe es' pos z=>(nomatch z),λy z=>(nomatch z)⟩⟩⟩
theorem ZM(ja:JE T n a)(jl:JL T n as):JL T n (.a a as):=by
 intro sc N X es o h;replace h:=z9 h;obtain⟨e,es,rfl,h⟩:=h;simp only[cf]at h;obtain⟨h1,h2⟩:=h;obtain⟨l1,l2,l3,l4⟩:=jl _ _ _ _ o h2;refine⟨λhp env s=>?_,λe' es' pos z env s=>?_,λe' es' pos z env s=>?_,λy z hp=>?_⟩
 . rw[zc,cf]at hp
   exact mJ hp.1 (ja _ _ _ _ o h1 env s) λs1=>l1 hp.2 env s1
 . cases as with
   |c=>
    cases AN.mp h2;exact L2.kF (ja _ _ _ _ o h1 env s)
   |a b as'=>
    cases es with
    |nil=>cases h2
    |cons y ys=>exact dJ (ja _ _ _ _ o h1 env s) λs1=>l2 y ys pos rfl env s1
 . cases as with
   |c=>
    cases AN.mp h2;exact L2.kF (ja _ _ _ _ o h1 env s)
   |a b as'=>
    cases es with
    |nil=>cases h2
    |cons y ys=>exact Uy (ja _ _ _ _ o h1 env s) λs1=>l3 y ys pos rfl env s1
 . cases z
   cases as with
   |c=>exact⟨a,rfl,λenv s=>ja _ _ _ _ o h1 env s⟩
   |a _ _=>cases h2
theorem Uv:JO T n .b:=by intro sc N X e o h;cases B4.mp h;exact⟨λenv s=>U1,.inl ⟨rfl,λenv s1=>rfl⟩⟩
theorem WZ(ja:JE T n a):JO T n (.a a):=by
 intro sc N X e o h;replace h:=sM h;obtain⟨e1,rfl,h⟩:=h;refine⟨λenv s=>Wl (ja _ _ _ _ o h env s),.inr ⟨_,rfl,λenv s1 s2 z=>?_⟩⟩;have z':((evE (zB T n) T.b env a s1).bind λv s1=>match v with|.c i=>.e (some i) s1|_=>.d)=.e none s2:=z
 cases hv:evE (zB T n) T.b env a s1 with
 |e v s3=>rw[hv]at z';cases v<;>cases z'
 |g _ _ _=>rw[hv]at z';cases z'
 |d=>rw[hv]at z';cases z'
theorem WO(jc:JC T n c):JC T n (.b c):=by intro sc N X e o h env s;replace h:=rE h;obtain⟨x1,p1,rfl,h⟩:=h;exact Wr (jc _ _ _ _ o h env s)
theorem WN(jc:JC T n c)(jcs:JCs T n cs):JC T n (.d c cs):=by intro sc N X e o h env s;replace h:=rC h;obtain⟨x1,xs1,p1,rfl,h⟩:=h;simp only[cf]at h;exact(de (jc _ _ _ _ o h.1 env s) λs1=>(jcs _ _ _ _ o h.2).1 _ env s1).pt
theorem Ut(jc:JC T n c)(jcs:JCs T n cs):JC T n (.f c cs):=by intro sc N X e o h env s;replace h:=rC h;obtain⟨x1,xs1,p1,rfl,h⟩:=h;simp only[cf]at h;exact(Yy (jc _ _ _ _ o h.1 env s) λs1=>(jcs _ _ _ _ o h.2).2.1 _ env s1).pt
theorem ZG:JCs T n .a:=by intro sc N X es o h;cases AN.mp h;exact⟨λpos env s=>la,λpos env s=>i7,.b⟩
theorem ez(jc:JC T n c)(jcs:JCs T n cs):JCs T n (.b c cs):=by intro sc N X es o h;replace h:=z9 h;obtain⟨e1,es1,rfl,h⟩:=h;simp only[cf]at h;obtain⟨a,b,d⟩:=jcs _ _ _ _ o h.2;exact⟨λpos env s=>de (jc _ _ _ _ o h.1 env s) λs1=>a pos env s1,λpos env s=>Yy (jc _ _ _ _ o h.1 env s) λs1=>b pos env s1,.a (T3 λenv s=>jc _ _ _ _ o h.1 env s) d⟩
theorem UD{e:Expr}(h:e.ctorIdx=25):∃xs k p,e=.Tuple xs k p:=FY (motive_1:=λe=>∃xs k p,e=Expr.Tuple xs k p) e h λxs k p=>⟨xs,k,p,rfl⟩
theorem WX(ja:JE T n a):JI T n (.d a):=λsc N X e tg o h env s=>Wk (ja _ _ _ _ o h env s)
theorem ir(ja:JE T n a):JI T n (.c a):=by intro sc N X e tg o h env s;replace h:=ye h;obtain⟨x1,p1,xs1,p2,rfl,h⟩:=h;replace h:=z8 h;obtain⟨y1,rfl,h⟩:=h;simp only[cf,decide_eq_true_eq,xC]at h;obtain⟨⟨⟨rfl,h1⟩,h2⟩,h3⟩:=h;exact iz h3 (o.a.b _ h1) (o.g _ (by decide)) (ja _ _ _ _ o h2 env s)
theorem iu(ja:JE T n a)(jb:JE T n b):JI T n (.f a b):=by intro sc N X e tg o h env s;replace h:=ye h;obtain⟨x1,p1,xs1,p2,rfl,h⟩:=h;replace h:=dm h;obtain⟨y1,y2,rfl,h⟩:=h;simp only[cf,decide_eq_true_eq,xC]at h;obtain⟨⟨⟨⟨⟨rfl,h1⟩,h2⟩,h3⟩,h4⟩,h5⟩:=h;exact i6 h4 h5 (o.a.b _ h1) (o.g _ (by decide)) (ja _ _ _ _ o h2 env s) λs1=>jb _ _ _ _ o h3 env s1
theorem ZL(ja:JE T n a):JI T n (.g a):=by intro sc N X e tg o h env s;obtain⟨h0,hh⟩:=zK h;obtain⟨ts,k,tp,rfl⟩:=UD (of_decide_eq_true h0);clear h;have h:=hh;replace h:=ye h;obtain⟨x1,p1,xs1,p2,rfl,h⟩:=h;replace h:=z8 h;obtain⟨y1,rfl,h⟩:=h;simp only[cf,decide_eq_true_eq,xC]at h;obtain⟨⟨⟨rfl,h1⟩,h2⟩,h3⟩:=h;exact ZU h3 (o.a.b _ h1) (o.g _ (by decide)) (ja _ _ _ _ o h2 env s)
end
section
variable (T:Tbl)(n:Nat)
mutual
theorem jE:∀a:Ex,JE T n a
 |.g _=>dP
 |.e _=>dW
 |.z _=>Yx
 |.K _ _=>U0
 |.j _ _ a b=>dA (jE a) (jE b)
 |.B a=>dD (jE a)
 |.G a=>WV (jE a)
 |.q _ a b=>WS (jE a) (jE b)
 |.s _ _ a b c=>dB (jE a) (jE b) (jE c)
 |.y a es=>WQ (jE a) (jL es)
 |.I _ _=>λsc N X e o h=>by cases h
 |.F c a b=>WT (jC c) (jE a) (jE b)
 |.r es=>WW (jL es)
 |.A _ es=>WU (jL es)
 |.C=>ZR
 |.E _=>ZS
 |.J _ _=>λsc N X e o h=>by cases h
 |.h _ _ es=>ZH (jL es)
 |.k _ _ es=>WR (jL es)
 |.D a d=>ZJ (jE a) (jE d)
 |.L _ _ a es=>ZK (jE a) (jL es)
 |.u a b=>Yw (jE a) (jE b)
 |.H _ a lo hi st=>Uu (jE a) (jO lo) (jO hi) (jO st)
 |.p _ _ _ elt _ it ifs=>ZI (jE elt) (jI it) (jCs ifs)
 |.w _ _ _ elt _ it ifs _ it2 ifs2=>dC (jE elt) (jI it) (jCs ifs) (jI it2) (jCs ifs2)
 |.l _ _ _ _=>λsc N X e o h=>by cases h
theorem jL:∀a:Exs,JL T n a
 |.c=>WY
 |.a a as=>ZM (jE a) (jL as)
theorem jO:∀a:OEx,JO T n a
 |.b=>Uv
 |.a a=>WZ (jE a)
theorem jC:∀a:Cn,JC T n a
 |.a (.q _ a b)=>Wf (jE a) (jE b)
 |.a (.s _ _ a b c)=>dI (jE a) (jE b) (jE c)
 |.a (.g v)=>zy (jE (.g v)) rfl
 |.a (.e v)=>zy (jE (.e v)) rfl
 |.a (.z v)=>zy (jE (.z v)) rfl
 |.a (.K v w)=>zy (jE (.K v w)) rfl
 |.a (.j m o a b)=>zy (jE (.j m o a b)) rfl
 |.a (.B a)=>zy (jE (.B a)) rfl
 |.a (.G a)=>zy (jE (.G a)) rfl
 |.a (.y a b)=>zy (jE (.y a b)) rfl
 |.a (.I a b)=>zy (jE (.I a b)) rfl
 |.a (.F a b c)=>zy (jE (.F a b c)) rfl
 |.a (.r a)=>zy (jE (.r a)) rfl
 |.a (.A m a)=>zy (jE (.A m a)) rfl
 |.a .C=>zy (jE .C) rfl
 |.a (.E t)=>zy (jE (.E t)) rfl
 |.a (.J a b)=>zy (jE (.J a b)) rfl
 |.a (.h a b c)=>zy (jE (.h a b c)) rfl
 |.a (.k a b c)=>zy (jE (.k a b c)) rfl
 |.a (.D a b)=>zy (jE (.D a b)) rfl
 |.a (.L a b c d)=>zy (jE (.L a b c d)) rfl
 |.a (.u a b)=>zy (jE (.u a b)) rfl
 |.a (.H a b c d e)=>zy (jE (.H a b c d e)) rfl
 |.a (.p a b c d e f g)=>zy (jE (.p a b c d e f g)) rfl
 |.a (.w a b c d e f g h i j)=>zy (jE (.w a b c d e f g h i j)) rfl
 |.a (.l a b c d)=>zy (jE (.l a b c d)) rfl
 |.b c=>WO (jC c)
 |.d c cs=>WN (jC c) (jCs cs)
 |.f c cs=>Ut (jC c) (jCs cs)
theorem jCs:∀a:Cns,JCs T n a
 |.a=>ZG
 |.b c cs=>ez (jC c) (jCs cs)
theorem jI:∀a:Itb,JI T n a
 |.d a=>WX (jE a)
 |.c a=>ir (jE a)
 |.f a b=>iu (jE a) (jE b)
 |.g a=>ZL (jE a)
 |.h _ _=>λsc N X e tg o h=>by cases h
end
end
end M
end
section
namespace M
open PySem
section
variable (K:KF)(mg:Str->Option Value)
def vd(ρ:Own)(H:L2.Hp)(o:Out Fl)(D:L2.Ends):Prop:=
 match o with
 |.e (.a e) s'=>∀ρ' H' σ',Ext ρ H ρ' H'->HR K mg ρ' s' H'->ER K mg ρ' H' e σ'->D.a σ' H'
 |.e (.c e) s'=>∀ρ' H' σ',Ext ρ H ρ' H'->HR K mg ρ' s' H'->ER K mg ρ' H' e σ'->D.c σ' H'
 |.e (.d e) s'=>∀ρ' H' σ',Ext ρ H ρ' H'->HR K mg ρ' s' H'->ER K mg ρ' H' e σ'->D.d σ' H'
 |.e (.b v) s'=>∀ρ' H' x,Ext ρ H ρ' H'->HR K mg ρ' s' H'->RD K mg ρ' H' v x->D.b x H'
 |_=>False
def tSt(env:Env)(s:Sto)(o:Out Fl):L2.TS:=λD σ H=>∃ρ,HR K mg ρ s H/\ER K mg ρ H env σ/\vd K mg ρ H o D
end
section
variable {K:KF}{mg:Str->Option Value}{ρ ρ':Own}{H H':L2.Hp}
theorem vd.mono(w:vd K mg ρ H o D)(x:Ext ρ H ρ' H')(h:HR K mg ρ' s1 H'):vd K mg ρ' H' o D:=by
 cases o with
 |e fl s'=>
  cases fl with
  |a e=>exact λρ2 H2 σ2 x2 h2 r2=>w ρ2 H2 σ2 (x.trans h x2) h2 r2
  |c e=>exact λρ2 H2 σ2 x2 h2 r2=>w ρ2 H2 σ2 (x.trans h x2) h2 r2
  |d e=>exact λρ2 H2 σ2 x2 h2 r2=>w ρ2 H2 σ2 (x.trans h x2) h2 r2
  |b v=>exact λρ2 H2 y x2 h2 r2=>w ρ2 H2 y (x.trans h x2) h2 r2
 |g _ _ _=>exact w
 |d=>exact w
end
noncomputable def uJ:Expr->Bool
 |.ListComp ..|.SetComp ..|.DictComp ..=>false
 |_=>true
theorem uA(h:uJ e=true):Ec e t l env=pure false:=by cases e<;>first|rfl|cases h
theorem uO:DY [.Tuple ts k p] e l env=pure false:=by cases e<;>rfl
theorem gw:DY [.Subscript o i p] e l env=pure false:=by cases e<;>rfl
noncomputable def notTuple:Expr->Bool
 |.Tuple ..=>false
 |_=>true
theorem kZ(h:notTuple e=true):BP [.Tuple ts k p] e env=pure none:=by
 cases e<;>first|(cases h;done)|rfl
theorem m7:BP [.Subscript o i p] e env=pure none:=by cases e<;>rfl
noncomputable def XO(sc:Scope)(ts vs:List Expr):Bool:=
 match ts with
 |[.Name x px,.Name y py]=>decide (sc.names.lookup x=some .local)&&decide (sc.names.lookup y=some .local)&&(px.line == py.line)&&decide (x≠y)&&!(vs.all (E9 8))&&!(vs.all (EJ 8))
 |[.Name x px,.Name y py,.Name z pz]=>decide (sc.names.lookup x=some .local)&&decide (sc.names.lookup y=some .local)&&decide (sc.names.lookup z=some .local)&&(px.line == py.line)&&(px.line == pz.line)&&decide (x≠y)&&decide (x≠z)&&decide (y≠z)&&!(vs.all (E9 8))&&!(vs.all (EJ 8))
 |_=>false
noncomputable def Xa(sc:Scope)(ts:List Expr):Bool:=ts.any (λ|.Name x _=>decide (sc.names.lookup x≠some .local)|_=>false)||decide (3<ts.length)
theorem qS{vs:List Expr}(h:zc vs=true):(vs.any λ|.Starred ..=>true|_=>false)=false:=by
 induction vs with
 |nil=>rfl
 |cons v vs ih=>
  rw[zc,cf]at h;rw[List.any_cons,ih h.2];cases v<;>first|rfl|(have z:=h.1;cases z)
theorem m8(hb:env.blockKind=.function)(hx:env.kindOf x=some .local)(hy:env.kindOf y=some .local)(hl:(px.line == py.line)=true)(hne:x≠y)(hp:zc [a,b]=true)
 (hf:[a,b].all (E9 8)=false) (hc:[a,b].all (EJ 8)=false):BP [.Tuple [.Name x px,.Name y py] kt pt] (.Tuple [a,b] k2 pt2) env=pure (some [x,y]):=by
 have hs:=qS hp;have hl':(py.line == px.line)=true:=by rw[beq_iff_eq]at hl ⊢;exact hl.symm
 unfold BP;have e1:([x,y].eraseDups.length != [x,y].length)=false:=by
  have:(y == x)=false:=by simpa using A9 hne
  simp[List.eraseDups_cons,this]
 simp only[AI,B5,hb,hf,hs,hc,hx,hy,hl',List.head?_cons,Dq,Option.getD_some,A3,List.filterMap_nil,beq_self_eq_true,Fb,if_true];have hpos:(Ee x px).pos.line=px.line:=rfl;refine(if_neg (by decide)).trans ((if_neg (λz=>Aj (hs.symm.trans z))).trans ?_)
 simp only[hpos,beq_self_eq_true,hl',Fb,if_true,e1,AI,B5,bne_self_eq_false,Bool.or_self,AZ,if_false];exact if_neg (λz=>Aj (e1.symm.trans (by rw[Bool.false_or]at z;exact z)))
theorem pA(hb:env.blockKind=.function)(hx:env.kindOf x=some .local)(hy:env.kindOf y=some .local)(hz:env.kindOf z=some .local)(hl:(px.line == py.line)=true)(hl2:(px.line == pz.line)=true)
 (hne:x≠y) (hne2:x≠z) (hne3:y≠z) (hp:zc [a,b,c]=true) (hf:[a,b,c].all (E9 8)=false) (hc:[a,b,c].all (EJ 8)=false):BP [.Tuple [.Name x px,.Name y py,.Name z pz] kt pt] (.Tuple [a,b,c] k2 pt2) env=pure (some [x,y,z]):=by
 have hs:=qS hp;have hl':(py.line == px.line)=true:=by rw[beq_iff_eq]at hl ⊢;exact hl.symm
 have hl2':(pz.line == px.line)=true:=by rw[beq_iff_eq]at hl2 ⊢;exact hl2.symm
 unfold BP;have e1:([x,y,z].eraseDups.length != [x,y,z].length)=false:=by
  have h1:(y == x)=false:=by simpa using A9 hne
  have h2:(z == x)=false:=by simpa using A9 hne2
  have h3:(z == y)=false:=by simpa using A9 hne3
  simp[List.eraseDups_cons,h1,h2,h3]
 simp only[AI,B5,hb,hf,hs,hc,hx,hy,hz,hl',hl2',List.head?_cons,Dq,Option.getD_some,A3,List.filterMap_nil,beq_self_eq_true,Fb,if_true];have hpos:(Ee x px).pos.line=px.line:=rfl;refine(if_neg (by decide)).trans ((if_neg (λz=>Aj (hs.symm.trans z))).trans ?_)
 simp only[hpos,beq_self_eq_true,hl',hl2',Fb,if_true,e1,AI,B5,bne_self_eq_false,Bool.or_self,AZ,if_false];exact if_neg (λz=>Aj (e1.symm.trans (by rw[Bool.false_or]at z;exact z)))
theorem tD{α β:Type}{f:α->Option β}:∀{l:List α},(∃a∈l,f a=none)->(l.filterMap f).length<l.length
 |[],⟨a,h,_⟩=>by cases h
 |b::l,⟨a,h,e⟩=>by
  rw[A3];have hle:=FI f l;rcases Ak.mp h with z|z
  . subst z;rw[e];simp only[AI];omega
  . have:=tD ⟨a,z,e⟩
    cases f b with
    |none=>simp only[AI];omega
    |some _=>simp only[AI];omega
theorem g7(h:(∃x p,Ee x p∈ts/\env.kindOf x≠some .local)\/3<ts.length):BP [.Tuple ts kt pt] (.Tuple vs k2 pt2) env=pure none:=by
 unfold BP;simp only[];split
 . rfl
 . rename_i h1
   split
   . rfl
   . rw[if_pos]
     rcases h with⟨x,p,hm,hk⟩|h
     . rw[Ao]
       left;rw[bne_iff_ne];refine Ax (tD ⟨_,hm,?_⟩);have:(env.kindOf x == some .local)=false:=by simpa using hk
       simp only[this,CD,AZ,if_false]
     . exfalso
       apply h1;have:(ts.length == 2||ts.length == 3)=false:=by rw[Dg];constructor<;>(rw[beq_eq_false_iff_ne];omega)
       rw[this];rfl
theorem kY(h:plain i=true)v:assign (.Subscript o i p) env v=(do
 let ov <-holding [v] (eval o env);let iv <-holding [v,ov] (eval i env)
 standAt p
 holding [v,ov,iv] (setItem ov iv v)
 release [v,ov,iv] []):=by
 cases i<;>first|rfl|cases h
section
variable {X:L2.Cx}{env:Env}{s:Sto}
theorem xY{t:L2.TS}(h:∀D σ H,¬t D σ H):L2.PS X st t:=λpins s σ H D I q=>(h D σ H q).elim
theorem V4(h:∀v s',o≠.e v s'):¬tSt X.K X.d env s o D σ H:=by
 rintro ⟨ρ,_,_,w⟩;cases o with
 |e v s'=>exact h v s' rfl
 |g _ _ _=>exact w
 |d=>exact w
theorem zP(h:∀v s',o≠.e v s'):L2.PS X st (tSt X.K X.d env s o):=xY λ_ _ _=>V4 h
theorem ZV(hn:uJ e=true)(h:L2.PE X e (tV X.K X.d env s o)):L2.PS X (.Expr e pos) (tSt X.K X.d env s (o.bind λ_ s1=>.e (.a env) s1)):=by
 cases o with
 |e v s1=>exact yF (L2.rQ h (uA hn)) λD σ H ⟨ρ,hr,er,w⟩=>⟨ρ,hr,er,λρ1 x H1 x1 hr1 r1=>w ρ1 H1 σ x1 hr1 (er.mono x1)⟩
 |g _ _ _=>exact zP (zD rfl)
 |d=>exact zP (zD rfl)
theorem Wo(h:L2.PE X e (tV X.K X.d env s o)):L2.PS X (.Return (some e) pos) (tSt X.K X.d env s (o.bind λv s1=>.e (.b v) s1)):=by
 cases o with
 |e v s1=>exact yF (L2.wV h) λD σ H ⟨ρ,hr,er,w⟩=>⟨ρ,hr,er,λρ1 x H1 x1 hr1 r1=>w ρ1 H1 x x1 hr1 r1⟩
 |g _ _ _=>exact zP (zD rfl)
 |d=>exact zP (zD rfl)
theorem lZ(rule:L2.PS X st (L2.uU te (L2.xJ i)))(h:∀σ H Q,tV X.K X.d env s o σ H Q->te σ H Q):L2.PS X st (tSt X.K X.d env s (o.bind λv s1=>.e (.a (env.set i (some v))) s1)):=by
 cases o with
 |e v s1=>exact yF rule λD σ H ⟨ρ,hr,er,w⟩=>h _ _ _ ⟨ρ,hr,er,λρ1 x H1 x1 hr1 r1=>w ρ1 H1 _ x1 hr1 ((er.mono x1).set i r1)⟩
 |g _ _ _=>exact zP (zD rfl)
 |d=>exact zP (zD rfl)
theorem jm{t:Tgt}{g:L2.TG}{o:Out Val}{st:Stmt}{te:L2.TE}(TG:tw X.K X.d t g)(rule:L2.PS X st (L2.uU te g))(h:∀σ H Q,tV X.K X.d env s o σ H Q->te σ H Q) :
 L2.PS X st (tSt X.K X.d env s (o.bind λv s1=>match yU t v env with|some env'=>.e (.a env') s1|dr=>.d)):=by
 cases o with
 |e v s1=>
  show L2.PS X st (tSt X.K X.d env s (match yU t v env with|some env'=>.e (.a env') s1|dr=>.d))
  cases hb:yU t v env with
  |none=>exact zP (zD rfl)
  |some env'=>exact yF rule λD σ H ⟨ρ,hr,er,w⟩=>h _ _ _ ⟨ρ,hr,er,λρ1 x H1 x1 hr1 r1=>TG ρ1 s1 H1 v x env env' σ _ hr1 r1 (er.mono x1) hb λσ' er'=>w ρ1 H1 σ' x1 hr1 er'⟩
 |g _ _ _=>exact zP (zD rfl)
 |d=>exact zP (zD rfl)
theorem WH op m:(∃r,L2.PIp X op.op r/\∀i j H Q v s s',binOp m op (.c i) (.c j) s=.e v s'->(∃k:Int,v=.c k/\s'=s/\(Q (.d k) H->r (.d i) (.d j) H Q)))\/(op=.d\/op=.h\/op=.i\/op=.f):=by
 cases op with
 |a=>exact .inl ⟨_,L2.az,λi j H Q v s s' h=>by cases h;exact⟨_,rfl,rfl,λq=>⟨i,j,rfl,rfl,q⟩⟩⟩
 |g=>exact .inl ⟨_,L2.ZC,λi j H Q v s s' h=>by cases h;exact⟨_,rfl,rfl,λq=>⟨i,j,rfl,rfl,q⟩⟩⟩
 |b=>exact .inl ⟨_,L2.ZA,λi j H Q v s s' h=>by
  simp only[binOp]at h;split at h
  . rename_i hz;cases h;exact⟨_,rfl,rfl,λq=>⟨i,j,rfl,rfl,hz,q⟩⟩
  . cases h⟩
 |e=>exact .inl ⟨_,L2.et,λi j H Q v s s' h=>by
  simp only[binOp]at h;split at h
  . rename_i hz;cases h;exact⟨_,rfl,rfl,λq=>⟨i,j,rfl,rfl,hz,q⟩⟩
  . cases h⟩
 |c=>exact .inl ⟨_,L2.a0,λi j H Q v s s' h=>by
  simp only[binOp]at h;split at h
  . rename_i hz;cases h;exact⟨_,rfl,rfl,λq=>⟨i,j,rfl,rfl,hz,q⟩⟩
  . cases h⟩
 |d=>exact .inr (.inl rfl)
 |h=>exact .inr (.inr (.inl rfl))
 |i=>exact .inr (.inr (.inr (.inl rfl)))
 |f=>exact .inr (.inr (.inr (.inr rfl)))
theorem aS{i:Nat}{op:Bop}{f:Sto->Out Val}{r:Fl}{s':Sto}(h:(match env[i]? with
 |some (some (.c x))=>(f s).bind λv s1=>match v with
  |.c y=>(binOp false op (.c x) (.c y) s1).bind λz s2=>.e (Fl.a (env.set i (some z))) s2
  |_=>.d
 |some (some (.f x))=>if op=Bop.a then (f s).bind λv s1=>match v with
  |.f y=>(binOp false .a (.f x) (.f y) s1).bind λz s2=>.e (Fl.a (env.set i (some z))) s2
  |_=>.d
  else .d
 |_=>.d:Out Fl)=.e r s'):(∃a b s1 z,env[i]?=some (some (.c a))/\f s=.e (.c b) s1/\binOp false op (.c a) (.c b) s1=.e z s'/\r=Fl.a (env.set i (some z))) \/
  (op=Bop.a/\∃a b,env[i]?=some (some (.f a))/\f s=.e (.f b) s'/\a.length+b.length<=zY/\r=Fl.a (env.set i (some (.f (a++b))))):=by
 generalize he:env[i]?=o at h;cases o with
 |none=>cases h
 |some ov=>
  cases ov with
  |none=>cases h
  |some v0=>
   cases v0 with
   |c a=>
    refine .inl ⟨a,?_⟩;generalize hv:f s=o at h;cases o with
    |e v s1=>
     cases v with
     |c b=>
      simp only[zN]at h;generalize hb:binOp false op (.c a) (.c b) s1=o at h;cases o with
      |e z s2=>cases h;exact⟨b,s1,z,rfl,rfl,hb,rfl⟩
      |g _ _ _=>cases h
      |d=>cases h
     |_=>cases h
    |g _ _ _=>cases h
    |d=>cases h
   |f a=>
    by_cases ho:op=.a
    . refine .inr ⟨ho,a,?_⟩
      simp only[if_pos ho]at h;generalize hv:f s=o at h;cases o with
      |e v s1=>
       cases v with
       |f b=>
        simp only[zN,binOp]at h;by_cases hz:a.length+b.length<=zY
        . rw[if_pos hz]at h;cases h;exact⟨b,rfl,rfl,hz,rfl⟩
        . rw[if_neg hz]at h;cases h
       |_=>cases h
      |g _ _ _=>cases h
      |d=>cases h
    . simp only[if_neg ho]at h;cases h
   |_=>cases h
theorem Tw(h:∀r s',o=.e r s'->L2.PS X st (tSt X.K X.d env s (.e r s'))):L2.PS X st (tSt X.K X.d env s o):=by
 cases o with
 |e r s'=>exact h r s' rfl
 |g _ _ _=>exact zP (zD rfl)
 |d=>exact zP (zD rfl)
theorem Wm{i:Nat}{x:Str}{e:Expr}{op:Bop}{f:Sto->Out Val}{pos pos':Pos}(hop:¬(op=.d\/op=.h\/op=.i\/op=.f))(hN:X.N.Nodup)(hi:X.N[i]?=some x)(hx:L2.Loc X.a.scope x)(hf:X.n x=true\/X.a.scope.names.lookup x=some .local)(h:∀s,L2.PE X e (tV X.K X.d env s (f s))) :
 L2.PS X (.AugAssign (.Name x pos') op.op e pos) (tSt X.K X.d env s (match env[i]? with
 |some (some (.c x))=>(f s).bind λv s1=>match v with
  |.c y=>(binOp false op (.c x) (.c y) s1).bind λz s2=>.e (.a (env.set i (some z))) s2
  |_=>.d
 |some (some (.f x))=>if op=.a then (f s).bind λv s1=>match v with
  |.f y=>(binOp false .a (.f x) (.f y) s1).bind λz s2=>.e (.a (env.set i (some z))) s2
  |_=>.d
  else .d
 |_=>.d)):=by
 refine Tw λr s' hO=>?_;have h':=h s;rcases aS hO with⟨a,b,s1,z,he,hv,hb,rfl⟩|⟨rfl,a,b,he,hv,hz,rfl⟩
 . rw[hv]at h'
   rcases WH (X:=X) op false with⟨r,hr0,hq⟩|z
   . obtain⟨k,rfl,rfl,q⟩:=hq a b (λ_=>none) (λ_ _=>True) z s1 s' hb
     refine yF (L2.bI hN hi hx h' hr0 hf) λD σ H ⟨ρ,hr,er,w⟩=>?_;obtain⟨xv,e1,e2⟩:=er.a i _ he;cases e2;refine⟨_,e1,ρ,hr,er,λρ1 y H1 x1 hr1 r1=>?_⟩;cases r1;obtain⟨k',e3,_,q'⟩:=hq a b H1 (λz H2=>D.a (σ.set i (some z)) H2) _ _ _ hb;cases e3;exact q' (w ρ1 H1 _ x1 hr1 ((er.mono x1).set i (.l _)))
   . exact absurd z hop
 . rw[hv]at h'
   refine yF (L2.bI hN hi hx h' L2.ip hf) λD σ H ⟨ρ,hr,er,w⟩=>?_;obtain⟨xv,e1,e2⟩:=er.a i _ he;refine⟨_,e1,ρ,hr,er,λρ1 y H1 x1 hr1 r1=>?_⟩;have e3:=e2.mono x1;cases e3 with
   |m n1 h1 q1=>
    cases r1 with
    |m n2 h2 q2=>
     refine⟨_,_,_,_,rfl,rfl,h1,h2,?_,vo hr1 (q1.append q2) λρ2 z H2 x2 hr2 rz=>w ρ2 H2 _ (x1.trans hr1 x2) hr2 ((er.mono (x1.trans hr1 x2)).set i rz)⟩;rw[<-q1.length,<-q2.length,<-yf];exact hz
theorem dX{a i e:Expr}{o:Out Val}{f2 f3:Sto->Out Val}{p pos:Pos}(hi0:plain i=true)(h1:L2.PE X e (tV X.K X.d env s o))(h2:∀s1,L2.PE X a (tV X.K X.d env s1 (f2 s1)))(h3:∀s1,L2.PE X i (tV X.K X.d env s1 (f3 s1))) :
 L2.PS X (.Assign [.Subscript a i p] e pos) (tSt X.K X.d env s (o.bind λv s1=>(f2 s1).bind λx s2=>(f3 s2).bind λy s3=>match x,y with
  |.m r,.c k=>(match s3[r]? with
   |some (.c vs)=>(match L2.ixN vs.length k with|some j=>.e (.a env) (upd s3 r (vs.set j v))|dr=>.d)
   |_=>.d)
  |_,_=>.d)):=by
 cases o with
 |e v s1=>
  have h2':=h2 s1;simp only[zN];cases hb:f2 s1 with
  |e x s2=>
   rw[hb]at h2';have h3':=h3 s2;simp only[zN];cases hc:f3 s2 with
   |e y s3=>
    rw[hc]at h3';simp only[zN];have rule:L2.PS X (.Assign [.Subscript a i p] e pos) (L2.uU _ (L2.Uh _ _ L2.XH)):=L2.kK h1 (L2.Ve h2' h3' L2.set_list (kY hi0)) gw m7;cases x with
    |m r=>
     cases y with
     |c k=>
      simp only[];cases hs:s3[r]? with
      |none=>exact zP (zD rfl)
      |some cl=>
       cases cl with
       |e _=>exact zP (zD rfl)
       |f _=>exact zP (zD rfl)
       |d _=>exact zP (zD rfl)
       |c vs=>
        simp only[];cases hj:L2.ixN vs.length k with
        |none=>exact zP (zD rfl)
        |some j=>
         refine yF rule λD σ H ⟨ρ,hr,er,w⟩=>⟨ρ,hr,er,λρ1 xv H1 x1 hr1 r1=>⟨ρ1,hr1,er.mono x1,λρ2 xo H2 x2 hr2 r2=>⟨ρ2,hr2,(er.mono x1).mono x2,λρ3 xi H3 x3 hr3 r3=>?_⟩⟩⟩;cases r3;have r2':=r2.mono x3;cases r2' with
         |C e0 _=>
          obtain⟨b',xs,e1,e2,q⟩:=hr3.obj r _ hs;rw[e0]at e1;cases e1;have xx:=(x1.trans hr1 x2).trans hr2 x3;refine⟨_,xs,k,j,rfl,rfl,e2,by rw[<-q.length];exact hj,?_⟩
          exact w ρ3 _ σ (xx.trans hr3 (Ext.write hr3 e0 e2 _)) (hr3.write e0 e2 (RDs.set ((r1.mono x2).mono x3) j q)) ((er.mono xx).mono (Ext.write hr3 e0 e2 _))
     |_=>exact zP (zD rfl)
    |_=>exact zP (zD rfl)
   |g _ _ _=>exact zP (zD rfl)
   |d=>exact zP (zD rfl)
  |g _ _ _=>exact zP (zD rfl)
  |d=>exact zP (zD rfl)
 |g _ _ _=>exact zP (zD rfl)
 |d=>exact zP (zD rfl)
end
end M
end
section
namespace M
open PySem
section
variable {X:L2.Cx}{env:Env}{s:Sto}
theorem ZW(rule:L2.PS X st (L2.Sk i j ta))(h:∀σ H Q,tVs X.K X.d env s o σ H Q->ta σ H Q) :
 L2.PS X st (tSt X.K X.d env s (o.bind λvs s1=>if vs.length=[i,j].length then .e (.a (([i,j].zip vs).foldl (λe p=>e.set p.1 (some p.2)) env)) s1 else .d)):=by
 cases o with
 |e vs s1=>
  show L2.PS X st (tSt X.K X.d env s (if vs.length=[i,j].length then .e (.a (([i,j].zip vs).foldl (λe p=>e.set p.1 (some p.2)) env)) s1 else .d))
  match vs with
  |[v,w]=>
   refine yF rule λD σ H ⟨ρ,hr,er,wt⟩=>h _ _ _ ⟨ρ,hr,er,λρ1 xs H1 x1 hr1 r1=>?_⟩;obtain⟨x,y,rfl,rx,ry⟩:=gh r1;exact⟨x,y,rfl,wt ρ1 H1 _ x1 hr1 (((er.mono x1).set i rx).set j ry)⟩
  |[]=>exact zP (zD rfl)
  |[_]=>exact zP (zD rfl)
  |_::_::_::r=>exact zP (λ_ _ e=>by simp at e)
 |g _ _ _=>exact zP (zD rfl)
 |d=>exact zP (zD rfl)
theorem RW(r:RDs K mg ρ H [v,w,z] xs):∃x y t,xs=[x,y,t]/\RD K mg ρ H v x/\RD K mg ρ H w y/\RD K mg ρ H z t:=by
 cases r with
 |a r1 r2=>
  obtain⟨y,t,rfl,r3,r4⟩:=gh r2;exact⟨_,_,_,rfl,r1,r3,r4⟩
theorem ZX(rule:L2.PS X st (L2.XU i j k ta))(h:∀σ H Q,tVs X.K X.d env s o σ H Q->ta σ H Q) :
 L2.PS X st (tSt X.K X.d env s (o.bind λvs s1=>if vs.length=[i,j,k].length then .e (.a (([i,j,k].zip vs).foldl (λe p=>e.set p.1 (some p.2)) env)) s1 else .d)):=by
 cases o with
 |e vs s1=>
  show L2.PS X st (tSt X.K X.d env s (if vs.length=[i,j,k].length then .e (.a (([i,j,k].zip vs).foldl (λe p=>e.set p.1 (some p.2)) env)) s1 else .d))
  match vs with
  |[v,w,z]=>
   refine yF rule λD σ H ⟨ρ,hr,er,wt⟩=>h _ _ _ ⟨ρ,hr,er,λρ1 xs H1 x1 hr1 r1=>?_⟩;obtain⟨x,y,t,rfl,rx,ry,rt⟩:=RW r1;exact⟨x,y,t,rfl,wt ρ1 H1 _ x1 hr1 ((((er.mono x1).set i rx).set j ry).set k rt)⟩
  |[]=>exact zP (zD rfl)
  |[_]=>exact zP (zD rfl)
  |[_,_]=>exact zP (zD rfl)
  |_::_::_::_::r=>exact zP (λ_ _ e=>by simp at e)
 |g _ _ _=>exact zP (zD rfl)
 |d=>exact zP (zD rfl)
def uSs(K:KF)(mg:Str->Option Value)(Φ:Calls)(G:Str->Option Val)(b:Sms):L2.TS:=λD σ H=>∃env s,tSt K mg env s (zW Φ G env b s) D σ H
theorem U3{f2 f3:Sto->Out Fl}(hc:L2.PT X c (tT X.K X.d env s o))(ha:L2.PSs X a ta)(hb:L2.PSs X b tb)(ia:∀s1 D σ H,tSt X.K X.d env s1 (f2 s1) D σ H->ta D σ H)(ib:∀s1 D σ H,tSt X.K X.d env s1 (f3 s1) D σ H->tb D σ H) :
 L2.PS X (.If c a b pos) (tSt X.K X.d env s (o.bind λt s1=>if t then f2 s1 else f3 s1)):=by
 cases o with
 |e v s1=>
  refine yF (L2.pY hc ha hb) λD σ H ⟨ρ,hr,er,wt⟩=>⟨ρ,hr,er,λρ1 x H1 x1 hr1 r1=>?_⟩;have wt':=wt.mono x1 hr1;cases r1;cases v with
  |true=>exact L2.sG (ia s1 D σ H1 ⟨ρ1,hr1,er.mono x1,wt'⟩)
  |false=>exact L2.uR (ib s1 D σ H1 ⟨ρ1,hr1,er.mono x1,wt'⟩)
 |g _ _ _=>exact zP (zD rfl)
 |d=>exact zP (zD rfl)
theorem eW{body:Env->Sto->Out Fl}{tb:L2.TS}(W:Walk K mg ρ H r J)(TG:tw K mg t g)(hb:∀env s D σ H,tSt K mg env s (body env s) D σ H->tb D σ H)
 (hr:HR K mg ρ s H) (er:ER K mg ρ H env σ) (w:vd K mg ρ H (yx r t body r.a env s) D):L2.pZ J g tb D σ H:=by
 refine qA (n:=r.a.length) (λi σ2 H2=>∃ρ2 s2 env2,HR K mg ρ2 s2 H2/\ER K mg ρ2 H2 env2 σ2/\Ext ρ H ρ2 H2/\yx r t body (r.a.drop i) env2 s2=yx r t body r.a env s) ⟨ρ,s,env,hr,er,Ext.refl,by rw[DI]⟩ ?_ ?_
 . rintro σ2 H2 ⟨ρ2,s2,env2,hr2,er2,x2,h2⟩
   rw[FK,yx]at h2;split at h2
   . rename_i ho
     rw[<-h2]at w;exact⟨W.a ρ2 H2 s2 _ x2.mv hr2 ho rfl,w ρ2 H2 σ2 x2 hr2 er2⟩
   . rw[<-h2]at w;exact w.elim
 . rintro i σ2 H2 hi ⟨ρ2,s2,env2,hr2,er2,x2,h2⟩
   rw[Du hi,yx]at h2;split at h2
   . rename_i ho
     obtain⟨hgo,hy⟩:=W.c ρ2 H2 s2 i (r.a[i]) x2.mv hr2 ho (Ad hi);refine⟨hgo,λx H3 y=>?_⟩;obtain⟨hH,rx⟩:=hy x H3 y;split at h2
     . rw[<-h2]at w;exact w.elim
     . rename_i env' he
       have C3:HR K mg ρ2 s2 H3/\Ext ρ2 H2 ρ2 H3:=by
        rcases hH with e|⟨q,o,hq,e⟩
        . subst e;exact⟨hr2,Ext.refl⟩
        . subst e;exact⟨hr2.more hq o,Ext.new hr2 hq o⟩
       have x3:=x2.trans hr2 C3.2;refine TG ρ2 s2 H3 _ x env2 env' σ2 _ C3.1 rx (er2.mono C3.2) he λσ4 er4=>hb env' s2 _ σ4 H3 ⟨ρ2,C3.1,er4,?_⟩;cases hc:body env' s2 with
       |e fl s5=>
        rw[hc]at h2;simp only[zN]at h2;cases fl with
        |a e=>exact λρ5 H5 σ5 x5 hr5 er5=>⟨ρ5,s5,e,hr5,er5,x3.trans C3.1 x5,h2⟩
        |d e=>exact λρ5 H5 σ5 x5 hr5 er5=>⟨ρ5,s5,e,hr5,er5,x3.trans C3.1 x5,h2⟩
        |c e=>
         simp only[]at h2;rw[<-h2]at w;exact λρ5 H5 σ5 x5 hr5 er5=>w ρ5 H5 σ5 (x3.trans C3.1 x5) hr5 er5
        |b v=>
         simp only[]at h2;rw[<-h2]at w;exact λρ5 H5 y5 x5 hr5 r5=>w ρ5 H5 y5 (x3.trans C3.1 x5) hr5 r5
       |g _ _ _=>rw[hc]at h2;simp only[rd]at h2;rw[<-h2]at w;exact w.elim
       |d=>rw[hc]at h2;simp only[vE]at h2;rw[<-h2]at w;exact w.elim
   . rw[<-h2]at w;exact w.elim
theorem Wn(hx:X.i=λ_ _=>False)(hc:X.j=true)(hp:plain iter=true)(hi:∀env s,L2.PI X tg iter (tI (K:=X.K) (mg:=X.d) env s (yS Φ G env it s)))(hg:L2.PG X tg g)(TG:tw X.K X.d t g)
 (hb:L2.PSs X body (uSs X.K X.d Φ G b)):L2.PS X (.For tg iter body [] pos) (tSt X.K X.d env s ((yS Φ G env it s).bind λr s1=>yx r t (λe s'=>zW Φ G e b s') r.a env s1)):=by
 have hpass:EL (model X.f X.w) X.A X.a X.i:=by rw[hx];exact EL.never
 refine yF (L2.Vj hpass hc (kH hi) hg hb (zk hp)) λD σ H ⟨ρ,hr,er,w⟩=>⟨env,s,ρ,hr,er,?_⟩;cases hv:yS Φ G env it s with
 |e r s1=>
  rw[hv]at w;exact λρ1 H1 J x1 hr1 W=>eW W TG (λenv s D σ H h=>⟨env,s,h⟩) hr1 (er.mono x1) (w.mono x1 hr1)
 |g _ _ _=>rw[hv]at w;exact w.elim
 |d=>rw[hv]at w;exact w.elim
theorem ky{c:Env->Sto->Out Bool}{body:Env->Sto->Out Fl}{tc:L2.TT}{tb:L2.TS}(hc:∀env s σ H Q,tT K mg env s (c env s) σ H Q->tc σ H Q)(hb:∀env s D σ H,tSt K mg env s (body env s) D σ H->tb D σ H)
 (hr:HR K mg ρ s H) (er:ER K mg ρ H env σ) (w:vd K mg ρ H (tJ c body n env s) D):L2.bq tc tb D σ H:=by
 refine⟨λm σ2 H2=>∃ρ2 s2 env2,HR K mg ρ2 s2 H2/\ER K mg ρ2 H2 env2 σ2/\Ext ρ H ρ2 H2/\tJ c body m env2 s2=tJ c body n env s,⟨n,ρ,s,env,hr,er,Ext.refl,rfl⟩,?_⟩;rintro m σ2 H2 ⟨ρ2,s2,env2,hr2,er2,x2,h2⟩;cases m with
 |zero=>rw[tJ]at h2;rw[<-h2]at w;exact w.elim
 |succ m=>
  rw[tJ]at h2;refine hc env2 s2 σ2 H2 _ ⟨ρ2,hr2,er2,?_⟩;cases hv:c env2 s2 with
  |e t s3=>
   rw[hv]at h2;simp only[zN]at h2;intro ρ3 t' H3 x3 hr3 e3;cases e3;have x3':=x2.trans hr2 x3;cases t with
   |true=>
    refine L2.sG ⟨_,λσ' H' p=>⟨m,Ce m,p⟩,hb env2 s3 _ σ2 H3 ⟨ρ3,hr3,er2.mono x3,?_⟩⟩;simp only[if_true]at h2;cases hbd:body env2 s3 with
    |e fl s5=>
     rw[hbd]at h2;simp only[zN]at h2;cases fl with
     |a e=>exact λρ5 H5 σ5 x5 hr5 er5=>⟨ρ5,s5,e,hr5,er5,x3'.trans hr3 x5,h2⟩
     |d e=>exact λρ5 H5 σ5 x5 hr5 er5=>⟨ρ5,s5,e,hr5,er5,x3'.trans hr3 x5,h2⟩
     |c e=>
      simp only[]at h2;rw[<-h2]at w;exact λρ5 H5 σ5 x5 hr5 er5=>w ρ5 H5 σ5 (x3'.trans hr3 x5) hr5 er5
     |b v=>
      simp only[]at h2;rw[<-h2]at w;exact λρ5 H5 y5 x5 hr5 r5=>w ρ5 H5 y5 (x3'.trans hr3 x5) hr5 r5
    |g _ _ _=>rw[hbd]at h2;simp only[rd]at h2;rw[<-h2]at w;exact w.elim
    |d=>rw[hbd]at h2;simp only[vE]at h2;rw[<-h2]at w;exact w.elim
   |false=>
    simp only[AZ,if_false]at h2;rw[<-h2]at w;exact L2.uR (w ρ3 H3 σ2 x3' hr3 (er2.mono x3))
  |g _ _ _=>rw[hv]at h2;simp only[rd]at h2;rw[<-h2]at w;exact w.elim
  |d=>rw[hv]at h2;simp only[vE]at h2;rw[<-h2]at w;exact w.elim
theorem dY(hx:X.i=λ_ _=>False)(hc:∀env s,L2.PT X ce (tT X.K X.d env s (evT Φ G env c s)))(hb:L2.PSs X body (uSs X.K X.d Φ G b)) :
 L2.PS X (.While ce body [] pos) (tSt X.K X.d env s (tJ (λe s'=>evT Φ G e c s') (λe s'=>zW Φ G e b s') Yi env s)):=by
 have hpass:EL (model X.f X.w) X.A X.a X.i:=by rw[hx];exact EL.never
 exact yF (L2.bK hpass (T3 hc) hb) λD σ H ⟨ρ,hr,er,w⟩=>ky (λenv s σ H Q h=>⟨env,s,h⟩) (λenv s D σ H h=>⟨env,s,h⟩) hr er w
theorem ZY:L2.PSs X [] (tSt X.K X.d env s (.e (.a env) s)):=xV L2.rR λD σ H ⟨ρ,hr,er,w⟩=>w ρ H σ Ext.refl hr er
theorem dZ{st:Stmt}{rest:List Stmt}{o:Out Fl}{f:Env->Sto->Out Fl}{tr:L2.TS}(h1:L2.PS X st (tSt X.K X.d env s o))(h2:L2.PSs X rest tr)(i2:∀env s D σ H,tSt X.K X.d env s (f env s) D σ H->tr D σ H) :
 L2.PSs X (st::rest) (tSt X.K X.d env s (o.bind λfl s1=>match fl with|.a e=>f e s1|fl=>.e fl s1)):=by
 refine xV (L2.zp h1 h2) λD σ H ⟨ρ,hr,er,w⟩=>⟨ρ,hr,er,?_⟩;cases o with
 |e fl s1=>
  simp only[zN]at w;cases fl with
  |a e=>exact λρ1 H1 σ1 x1 hr1 er1=>i2 e s1 D σ1 H1 ⟨ρ1,hr1,er1,w.mono x1 hr1⟩
  |c e=>exact w
  |d e=>exact w
  |b v=>exact w
 |g _ _ _=>exact w.elim
 |d=>exact w.elim
end
end M
end
section
namespace M
open PySem PySem.W PyProof.Rows
def lO(sc:Scope)(N:List Str)(e:Ex)(l:Expr):Bool:=match e with
 |.h f ver es=>decide (ver=100)&&X9 l λa b lsc _=>eCN b λy ys=>vg a&&we sc lsc&&decide (y=f)&&xC lsc y&&!(y == ("__debug__":Str))&&wy es&&ckL lsc N es ys&&zc ys&&!ys.isEmpty&&decide (("!":Str)∈N)
 |_=>false
theorem ot(h:lO sc N e l=true):∃f es ys lsc p2 p3 p4,e=.h f 100 es/\l=.Lambda L2.noArgs (.Call (.Name f p2) ys [] p3) lsc p4/\we sc lsc=true/\lsc.names.lookup f=some .globalImplicit/\(f == ("__debug__":Str))=false /\
 wy es=true/\ckL lsc N es ys=true/\zc ys=true/\ys.isEmpty=false/\("!":Str)∈N:=by
 cases e with
 |h f ver es=>
  obtain⟨g0,g1⟩:=zK (show (decide (ver=100)&&_)=true from h);obtain⟨a,b,lsc,p4,rfl,g2⟩:=mC g1;obtain⟨y,p2,ys,p3,rfl,g3⟩:=ye g2;obtain rfl:=of_decide_eq_true g0;simp only[cf,decide_eq_true_eq,Ay,xC]at g3;obtain⟨⟨⟨⟨⟨⟨⟨⟨⟨h1,h2⟩,rfl⟩,h4⟩,h5⟩,h6⟩,h7⟩,h8⟩,h9⟩,h10⟩:=g3;rw[pV h1];exact⟨y,es,ys,lsc,p2,p3,p4,rfl,rfl,h2,h4,h5,h6,h7,h8,h9,h10⟩
 |_=>cases h
def fm(sc:Scope)(N:List Str)(i:Nat):Exs->List Stmt->(List Stmt->Bool)->Bool
 |.c,ss,k=>k ss
 |.a e es,ss,k=>lc ss λt ts=>(Vs t λy _=>eMt y λob nm ap z cp=>ck sc N (.e i) ob&&rL ob&&decide (nm="append")&&(ap.endLine == cp.line)&&lO sc N e z)&&fm sc N i es ts k
def Xv(sc:Scope)(N:List Str)(i:Nat)(e:Expr):Bool:=eG1 e λx tg iter fs csc=>eName tg λc _=>L2.vh sc N [c] csc [none]&&(decide (csc.names.lookup c=some .local)||decide (csc.names.lookup c=some .cell))&&ck sc N (.e i) iter&&fs.isEmpty&&eCN x λy ys=>decide (y=L2.yD false)&&xC csc y&&l1 ys λz=>eName z λc' _=>decide (c'=c)&&!(c == ("__debug__":Str))&&!(c == ("__classdict__":Str))&&plain iter
noncomputable def Exs.app:Exs->Exs->Exs
 |.c,b=>b
 |.a e es,b=>.a e (es.app b)
noncomputable def Exs.len:Exs->Nat
 |.c=>0
 |.a _ es=>es.len+1
theorem jG:∀a:Exs,a.app .c=a
 |.c=>rfl
 |.a e es=>by rw[Exs.app,jG es]
theorem nk e b:∀a:Exs,a.app (.a e b)=(a.app (.a e .c)).app b
 |.c=>rfl
 |.a f es=>by rw[Exs.app,nk e b es];rfl
section
variable {T:Tbl}{n:Nat}{sc:Scope}{N:List Str}{X:L2.Cx}
def iI(X:L2.Cx)(H:L2.Hp)(lf:Addr)(l:Expr):Prop:=∃a body lsc p,l=.Lambda a body lsc p/\rV X H lf body lsc
def vZ(sc:Scope)(N:List Str)(X:L2.Cx)(H:L2.Hp):Exs->List Addr->Prop
 |.c,[]=>True
 |.a e es,lf::r=>(∃l,lO sc N e l=true/\iI X H lf l)/\vZ sc N X H es r
 |_,_=>False
theorem iI.keep(h:iI X H lf l)(k:Frz H H'):iI X H' lf l:=by obtain⟨a,b,c,p,e,q⟩:=h;exact⟨a,b,c,p,e,q.keep k⟩
theorem vZ.keep(k:Frz H H'):∀{L} {r},vZ sc N X H L r->vZ sc N X H' L r
 |.c,[],_=>AG
 |.c,_::_,h=>h.elim
 |.a _ _,[],h=>h.elim
 |.a e es,lf::r,h=>by obtain⟨⟨l,h1,h2⟩,h3⟩:=h;exact⟨⟨l,h1,h2.keep k⟩,vZ.keep k h3⟩
theorem vZ.snoc(h1:lO sc N e l=true)(h2:iI X H lf l):∀{L} {r},vZ sc N X H L r->vZ sc N X H (L.app (.a e .c)) (r++[lf])
 |.c,[],_=>⟨⟨l,h1,h2⟩,AG⟩
 |.c,_::_,h=>h.elim
 |.a _ _,[],h=>h.elim
 |.a e es,lf::r,h=>⟨h.1,vZ.snoc h1 h2 h.2⟩
theorem vZ.len:∀{L} {r},vZ sc N X H L r->r.length=L.len
 |.c,[],_=>rfl
 |.c,_::_,h=>h.elim
 |.a _ _,[],h=>h.elim
 |.a e es,lf::r,h=>by rw[AI,vZ.len h.2];rfl
theorem j8(no:∀f v,100<=v->T.d f v=none)(h8:wy es=true)(h:evE (zB T n) T.b env (.h f 100 es) s=.e v s') :
 ∃m vs,n=m+1/\zV (zB T m) T.b env es s=.e vs s/\zh T.e s=true/\T.c false=true/\uY T false (zB T m f 0 vs s) (zZ T m f 0 vs s)=.e v s':=by
 obtain⟨vs,s1,e1,h⟩:=zb (show ((zV (zB T n) T.b env es s).bind λvs s1=>zB T n f 100 vs s1)=.e v s' from h);cases n with
 |zero=>cases h
 |succ m=>
  rw[uM (Φ':=zB T m) es s h8]at e1;obtain rfl:s=s1:=(uN es _ _ _ h8 e1).symm;have hcall:∀ver,ver=100->zB T (m+1) f ver vs s=if (T.c false)&&zh T.e s then uY T false (zB T m f 0 vs s) (zZ T m f 0 vs s) else .d:=λver hv=>by
   simp only[zB,no f ver (by omega)]
   rw[decide_eq_true hv,decide_eq_false (show ¬ver=101 by omega),decide_eq_false (show ¬ver=200 by omega),decide_eq_false (show ¬ver=300 by omega),decide_eq_false (show ¬ver=301 by omega)]
   simp only[Bool.true_and,CD,Bool.or_false];congr 1;cases pN vs<;>rfl
  rw[hcall 100 rfl]at h;split at h
  . rename_i hc
    rw[cf]at hc;exact⟨m,vs,rfl,e1,hc.2,hc.1,h⟩
  . cases h
def teS(T:Tbl)(n:Nat)(sc:Scope)(N:List Str)(X:L2.Cx)(env:Env)(σ:L2.St):L2.TE:=λσ' H' Q=>∃(lf:Addr) (e:Ex) (l:Expr) (s:Sto) (ρ:Own) (v:Val) (s2:Sto),σ'[0]?=some (some (.c lf))/\lO sc N e l=true/\iI X H' lf l/\HR X.K X.d ρ s H'/\ER X.K X.d ρ H' env σ /\
 evE (zB T n) T.b env e s=.e v s2/\yL X.K X.d (RD X.K X.d) ρ H' (.e v s2) Q
theorem bB(o:Ok T n sc N X)(oc:Ok T n csc [cx] (X.comp [cx] csc C s0 H0 ex))(h2:csc.names.lookup (L2.yD false)=some .globalImplicit)
 (hv:csc.names.lookup cx=some .local\/csc.names.lookup cx=some .cell) (hd1:(cx == ("__debug__":Str))=false) (hd2:(cx == ("__classdict__":Str))=false) (I0:L2.Inv X pins0 σ H0 s0) (f0:∀b∈ex,L2.wc X pins0 H0 b) :
 L2.PE (X.comp [cx] csc C s0 H0 ex) (.Call (.Name (L2.yD false) p1) [.Name cx p2] [] p5) (teS T n sc N X env σ):=by
 intro pins s1 σ1 H1 Q I ⟨lf,e,l,s,ρ,v,s2,h0,hck,⟨a,body,lsc,p,hl,hin⟩,hr,er,hev,wt⟩;obtain⟨f,es,ys,lsc',p2',p3,p4,rfl,hl2,h4,h6,h7,h8,h9,h10,h11,h12⟩:=ot hck;rw[hl2]at hl;cases hl;obtain⟨m,vs,rfl,ho,htb,hmd,hsd⟩:=j8 o.i h8 hev;have sd:=o.l m rfl ⟨_,hmd⟩;obtain⟨kx,cs,ws,pre,hue,hhue,KF,SF,CF,RF⟩:=sd.a.a;obtain⟨fS,SF'⟩:=SF false hmd;obtain⟨stS,fdS,hmS,FnS,_⟩:=id SF'.a;refine Bu (L2.xl I (oc.a.b _ h2) hmS ?_ (by decide))
 have hpa:L2.PA (X.comp [cx] csc C s0 H0 ex) [.Name cx p2] (L2.wB (L2.vT 0) L2.tZ):=L2.yo (L2.wU rfl (oc.a.e cx (hv.imp id .inl)) hd1 hd2) L2.yT;refine CQ (h₀:=X.h) I.C.j.a FnS.b (L2.thn (hpa p5 pins s1 σ1 H1 (λvs H1'=>vs=[L2.V.c lf]/\H1'=H1) I ⟨_,h0,rfl,rfl⟩) λus s1' ⟨vs',H1',I1,r,hvs,hH⟩=>⟨I1.kIn,?_⟩);subst hvs hH;obtain⟨c,ctv,L⟩:=hin.at o h4 I0 f0 I1;have hus:us=[.ref lf]:=by
  cases r with
  |cons r1 r2=>cases r2;cases r1;rfl
 rw[hus];simp only[we,cf,decide_eq_true_eq,Ay,AF,Bo,Ao]at h4;exact pj oc o.a.d (λx hx=>(h4.1.2 x hx).imp id And.left) h8 h9 h10 h11 (.inl ⟨rfl,h6,h7⟩) ho hmd I1 L hr er (by rw[hsd];exact wt) hmS
theorem iV(hr:HR X.K X.d ρ s H)(er:ER X.K X.d ρ H env σ)(np:p ∉ ρ.o)(hp:σ[i]?=some (some (.c p)))(hl:H p=some (.b (lfs.map L2.V.c)))(hz:lfs.length<=zY)
 (ls:vZ sc N X H L lfs) (hev:zV (zB T n) T.b env L s=.e vs s1) (wt:yL X.K X.d (RD X.K X.d) ρ H (.e (.j vs) s1) Q):L2.wo [none] (L2.Yu X.K (L2.vT i)) (L2.xJ 0) [] (λacc=>L2.vR acc (teS T n sc N X env σ)) σ H Q:=by
 refine⟨_,hp,p,rfl,⟨_,L2.SqL.of hl⟩,λacc hacc=>?_⟩;refine qA (n:=lfs.length) (λj σ' H'=>∃ρ' s' Lr lr done vr,Lp acc ρ H ρ' H'/\HR X.K X.d ρ' s' H'/\(∃ys,H' acc=some (.b ys)/\RDs X.K X.d ρ' H' done ys)/\lfs.drop j=lr/\vZ sc N X H' Lr lr/\σ'.length=1/\done.length=j/\zV (zB T n) T.b env Lr s'=.e vr s1/\done++vr=vs)
  ⟨ρ.hide acc,s,L,lfs,[],vs,Lp.start hr hacc _,hr.hide hacc,⟨[],L2.zL,.d⟩,DI,ls.keep λa o u e=>by rw[L2.zE (L2.zQ e hacc)];exact e,rfl,rfl,hev,rfl⟩ ?_ ?_
 . rintro σ' H' ⟨ρ',s',Lr,lr,done,vr,lp,hr',⟨ys,e1,e2⟩,hd,hls,hσ,hdl,he,hv⟩
   have hp':=lp.c p _ hl np;refine⟨⟨_,L2.SqL.of hp',by rw[Ai];exact xd _⟩,?_⟩
   rw[FK]at hd;subst hd;cases Lr with
   |a _ _=>exact hls.elim
   |c=>
    cases he;rw[Bb]at hv;subst hv;exact lp.done hr hacc hr' e1 e2 (m:=false) wt
 . rintro j σ' H' hj ⟨ρ',s',Lr,lr,done,vr,lp,hr',⟨ys,e1,e2⟩,hd,hls,hσ,hdl,he,hv⟩
   have hp':=lp.c p _ hl np;rw[Du hj]at hd;subst hd;cases Lr with
   |c=>exact hls.elim
   |a e es=>
    obtain⟨⟨l,hck,hin⟩,hls⟩:=hls;obtain⟨v,s2,ev,he⟩:=zb he;obtain⟨vr',s3,er',he⟩:=zb he;cases he;have hx:(lfs.map L2.V.c)[j]?=some (.c lfs[j]):=by rw[AX,Ad hj];rfl
    refine⟨⟨_,_,L2.SqL.of hp',hx⟩,?_⟩;rintro x H'' ⟨rfl,hy⟩;have:=hy _ (L2.SqL.of hp');rw[hx]at this;cases this;have ers:ER X.K X.d ρ' H'' env σ:=⟨er.b,λk w e'=>by obtain⟨u,z1,z2⟩:=er.a k w e';exact⟨u,z1,RD.mv (lp.mv hacc) z2⟩⟩
    show teS T n sc N X env σ _ _ _;refine⟨lfs[j],e,l,s',ρ',v,s2,by rw[Av (by omega)],hck,hin,hr',ers,ev,λρ2 y H2 x2 hr2 r2=>?_⟩
    have lp2:=lp.step hr' x2;have e3:H2 acc=some (.b ys):=x2.c _ _ e1 (hr'.d acc lp.here).2;have e4:=e2.mono x2;have mv2:=rF (H1:=H2) hr2 lp2.here (.b (ys++[y]));refine⟨ys,e3,by rw[<-e2.length,hdl,AK];have:zY=16777216:=rfl;omega,ρ2,s2,es,_,done++[v],vr',lp2.emit hr2 hacc _,hr2.emit lp2.here,⟨_,L2.zL,RDs.mv mv2 (e4.append (.a r2 .d))⟩,rfl,?_,by rw[AL];exact hσ,by rw[Ap,hdl];rfl,er',by rw[Bx];exact hv⟩
    refine(hls.keep (hr'.frz x2)).keep λa o u e'=>?_;rw[L2.zE (λz=>by rw[z,e3]at e';cases e')];exact e'
theorem YZ(h:ck sc N (.e i) e=true):∃x p,e=.Name x p/\N[i]?=some x/\se sc x=true/\(x == ("__debug__":Str))=false/\(x == ("__classdict__":Str))=false:=by obtain⟨x,p,rfl,g⟩:=zq (show (eName e λx _=>decide (N[i]?=some x)&&se sc x&&!(x == ("__debug__":Str))&&!(x == ("__classdict__":Str)))=true from h);simp only[cf,decide_eq_true_eq,Ay]at g;exact⟨x,p,rfl,g.1.1.1,g.1.1.2,g.1.2,g.2⟩
theorem XE(o:Ok T n sc N X)(h:ck sc N (.e i) e=true):L2.PE X e (L2.vT i):=by obtain⟨x,p,rfl,h1,h2,h3,h4⟩:=YZ h;exact L2.wU (by rw[o.a.a];exact h1) (o.a.e x (mI h2)) h3 h4
def tCm(sc:Scope)(N:List Str)(X:L2.Cx)(i:Nat)(L:Exs)(env:Env)(s:Sto)(W:Own->L2.Hp->Prop)(σ:L2.St)(H:L2.Hp):Prop:=∃ρ p lfs,HR X.K X.d ρ s H/\ER X.K X.d ρ H env σ/\p ∉ ρ.o/\σ[i]?=some (some (.c p))/\H p=some (.b (lfs.map L2.V.c))/\vZ sc N X H L lfs/\W ρ H
theorem cq(o:Ok T n sc N X)(h:Xv sc N i e=true)(hev:zV (zB T n) T.b env L s=.e vs s1)(hz:L.len<=1000) :
 L2.PE X e (λσ H Q=>tCm sc N X i L env s (λρ H=>yL X.K X.d (RD X.K X.d) ρ H (.e (.j vs) s1) Q) σ H):=by
 obtain⟨x,tg,iter,fs,csc,cpos,rfl,a1⟩:=u9 h;obtain⟨c,pc,rfl,a2⟩:=zq a1;obtain⟨a3,a4⟩:=zK a2;obtain⟨y,p1,ys,p5,rfl,a5⟩:=ye a4;obtain⟨a6,a7⟩:=zK a5;obtain⟨z,rfl,a8⟩:=z8 a7;obtain⟨c',p2,rfl,a9⟩:=zq a8;simp only[cf,decide_eq_true_eq,Ao,xC,Ay]at a3 a6 a9;obtain⟨⟨⟨h1,h2⟩,h3⟩,h4⟩:=a3;obtain⟨rfl,h6⟩:=a6;obtain⟨⟨⟨rfl,g1⟩,g2⟩,g3⟩:=a9;cases AN.mp h4;have S:=pL o.a h1;have oc:=o.comp S (by simp) h1
 refine zU (L2.cu (tp:=λσ acc=>L2.vR acc (teS T n sc N X env σ)) o.c S (L2.nN (XE o h3)) (L2.aD _ _ _ _ _ _) (λC s0 H0 ex=>si (i:=0) (oc C s0 H0 ex).a rfl h2) (λC s0 H0 ex=>.b) (λσ C s0 H0 ex acc ⟨pins',I0,f0⟩=>L2.tN (bB o (oc C s0 H0 ex) h6 h2 g1 g2 I0 f0)) (zk g3)) ?_;rintro σ H Q ⟨ρ,p,lfs,hr,er,np,hp,hl,hls,w⟩;exact iV hr er np hp hl (by rw[hls.len];have:zY=16777216:=rfl;omega) hls hev w
def Af(sc:Scope)(N:List Str)(X:L2.Cx)(i:Nat)(L:Exs)(env:Env)(s:Sto)(O:Out Fl)(Lr:Exs):L2.TS:=λD σ H=>∃ρ0 H0 ρ p lfs L1,HR X.K X.d ρ0 s H0/\H0 p=none/\Lp p ρ0 H0 ρ H/\HR X.K X.d ρ s H/\ER X.K X.d ρ H env σ/\σ[i]?=some (some (.c p))/\H p=some (.b (lfs.map L2.V.c)) /\
 vZ sc N X H L1 lfs/\L1.app Lr=L/\vd X.K X.d ρ0 H0 O D
theorem jF b:∀a:Exs,(a.app b).len=a.len+b.len
 |.c=>(FJ _).symm
 |.a e es=>by rw[Exs.app,Exs.len,jF b es,Exs.len];omega
theorem jZ(h:H p=some (.b xs)):Frz H (L2.upd H p (.b ys)):=λa o u e=>by rw[L2.zE (λz=>by rw[z,h]at e;cases e)];exact e
theorem fM(o:Ok T (m+1) sc N X)(htb:zh T.e s=true)(hmd:T.c false=true)(hz:L.len<=1000){k:List Stmt->Bool}(hk:∀ss,k ss=true->L2.PSs X ss (Af sc N X i L env s O .c)) :
 ∀Lr ss,fm sc N i Lr ss k=true->L2.PSs X ss (Af sc N X i L env s O Lr)
 |.c,ss,h=>hk ss h
 |.a e es,ss,h=>by
  obtain⟨t,ts,rfl,a1⟩:=z9 h;obtain⟨a2,h2⟩:=zK a1;obtain⟨y,pos,rfl,a3⟩:=qh a2;obtain⟨ob,nm,ap,z,cp,rfl,a4⟩:=jX a3;obtain⟨a5,hlm⟩:=zK a4;simp only[cf,decide_eq_true_eq]at a5;obtain⟨⟨⟨g1,g2⟩,rfl⟩,g3⟩:=a5;obtain⟨f,fs,ys,lsc,p2,p3,p4,he,rfl,h4,h6,h7,h8,h9,h10,h11,h12⟩:=ot hlm;refine xV (L2.zp (L2.rQ (L2.gW (es:=[]) (XE o g1) (bA o hmd h4 h12) (uF g2) rfl g3)) (fM o htb hmd hz hk es ts h2)) ?_;rintro D σ H ⟨ρ0,H0,ρ,p,lfs,L1,hr0,hn0,lp,hr,er,hp,hl,hls,happ,w⟩;refine⟨_,hp,.inl ⟨rfl,_,.of hl⟩,ρ,s,hr,htb,λlf H' x hr' hin=>?_⟩;have lp':=lp.step hr x;have hl':H' p=some (.b (lfs.map L2.V.c)):=x.c _ _ hl (hr.d p lp.here).2;have mv:=rF (H1:=H') hr' lp'.here (.b (lfs.map L2.V.c++[.c lf]));have hln:lfs.length=L1.len:=hls.len;have hlt:L1.len<1000:=by have:=jF (.a e es) L1;rw[happ]at this;have:(Exs.a e es).len=es.len+1:=rfl;omega
  refine⟨p,lfs.map L2.V.c,.c lf,rfl,rfl,hl',by rw[Ai,AK];omega,ρ0,H0,ρ,p,lfs++[lf],L1.app (.a e .c),hr0,hn0,lp'.emit hr' hn0 _,hr'.emit lp'.here,⟨er.b,λj v e'=>?_⟩,hp,by rw[Ew];exact L2.zL,?_,by rw[<-nk];exact happ,w⟩
  . obtain⟨u,z1,z2⟩:=(er.mono x).a j v e'
    exact⟨u,z1,RD.mv mv z2⟩
  . exact vZ.snoc hlm ⟨_,_,_,_,rfl,hin.keep (jZ hl')⟩ ((hls.keep (hr.frz x)).keep (jZ hl'))
theorem aQ(h:Af sc N X i L env s O .c D σ H):tCm sc N X i L env s (λρ H=>vd X.K X.d ρ H O D) σ H:=by
 obtain⟨ρ0,H0,ρ,p,lfs,L1,hr0,hn0,lp,hr,er,hp,hl,hls,happ,w⟩:=h;rw[jG]at happ;subst happ;have mv:Mv ρ H ⟨ρ.o,ρ0.h⟩ H:=⟨λa u e n=>⟨e,n.1,λz=>n.2 (by rw[lp.d];exact Ah _ z)⟩,λi a e=>e,λ_ _=>rfl⟩
 have hr1:HR X.K X.d ⟨ρ.o,ρ0.h⟩ s H:=⟨hr.f,hr.v,λi ws e=>by obtain⟨a,e1,t⟩:=hr.m i ws e;exact⟨a,e1,t.mv mv rfl⟩,λa hm=>hr.d a (by rw[lp.d];exact Ah _ hm)⟩
 exact⟨⟨ρ.o,ρ0.h⟩,p,lfs,hr1,⟨er.b,λj v e=>by obtain⟨u,z1,z2⟩:=er.a j v e;exact⟨u,z1,RD.mv mv z2⟩⟩,(hr.d p lp.here).2,hp,hl,hls,w.mono ⟨lp.f,rfl,lp.c,lp.g⟩ hr1⟩
theorem W8(o:Ok T (m+1) sc N X)(htb:zh T.e s=true)(hmd:T.c false=true)(hlm:lO sc N e l=true)(hi:N[i]?=some x)(hx:sc.names.lookup x=some .local\/sc.names.lookup x=some .cell)
 (hrest:L2.PSs X rest (Af sc N X i (.a e es) (env.set i dr) s O es)):L2.PSs X (.Assign [.Name x px] (.List [l] lp) pos::rest) (tSt X.K X.d env s O):=by
 obtain⟨f,fs,ys,lsc,p2,p3,p4,he,rfl,h4,h6,h7,h8,h9,h10,h11,h12⟩:=ot hlm;obtain⟨l1,l2⟩:=o.a.c x hx;have hN:X.N.Nodup:=by rw[o.a.a];exact o.a.d
 have hi':X.N[i]?=some x:=by rw[o.a.a];exact hi
 intro pins s0 σ H D I ⟨ρ,hr,er,w⟩;have hiσ:i<σ.length:=by rw[I.R];exact(Am.mp hi').1
 refine L2.zp (L2.wW hN hi' l1 (L2.sN (L2.yo (bA o hmd h4 h12) L2.yT rfl)) (uA rfl) l2) hrest pins s0 σ H D I ⟨ρ,s,hr,htb,λlf H' x' hr' hin=>⟨by rw[AK];simp,λp hp=>?_⟩⟩
 refine⟨ρ,H',ρ.hide p,p,[lf],.a e .c,hr',hp,Lp.start hr' hp _,hr'.hide hp,?_,?_,L2.zL,⟨⟨_,hlm,_,_,_,_,rfl,hin.keep λa o' u e'=>by rw[L2.zE (L2.zQ e' hp)];exact e'⟩,AG⟩,rfl,w.mono x' hr'⟩
 . refine ER.put ⟨er.b,λj v e'=>?_⟩
   obtain⟨u,z1,z2⟩:=(er.mono x').a j v e';exact⟨u,z1,RD.mv (rG hr' hp _) z2⟩
 . show (σ.set i (some (L2.V.c p)))[i]?=_
   rw[Av hiσ]
mutual
noncomputable def okE(i:Nat):Ex->Bool
 |.g _|.z _=>true
 |.e j=>decide (j≠i)
 |.r es=>Zj i es
 |.A _ es=>Zj i es
 |.j _ _ a b=>okE i a&&okE i b
 |.q _ a b=>okE i a&&okE i b
 |.p _ _ fr _ _ it _=>okI i it&&decide ((some i) ∉ fr)
 |_=>false
noncomputable def Zj(i:Nat):Exs->Bool
 |.c=>true
 |.a e es=>okE i e&&Zj i es
noncomputable def okI(i:Nat):Itb->Bool
 |.d e=>okE i e
 |_=>false
end
structure Agr(i:Nat)(w:Nat × Option Val × Option Val)(e e':Env):Prop where
 c:e.length=w.1
 d:e'.length=w.1
 b:∀j,j≠i->e[j]?=e'[j]?
 a1:i<w.1->e[i]?=some w.2.1
 a2:i<w.1->e'[i]?=some w.2.2
section
variable {Φ:Calls}{G:Str->Option Val}{i:Nat}{w:Nat × Option Val × Option Val}{e e':Env}
theorem kW(a:Agr i w e e')(h:(some i) ∉ fr):zd fr e=zd fr e':=by
 unfold zd;refine EF λo ho=>?_;cases o with
 |none=>rfl
 |some j=>show (e[j]?).join=(e'[j]?).join;rw[a.b j λz=>h (by rw[<-z];exact ho)]
mutual
theorem vz(a:Agr i w e e'):∀(x:Ex) (s:Sto),okE i x=true->evE Φ G e x s=evE Φ G e' x s
 |.g _,_,_=>rfl
 |.z _,_,_=>rfl
 |.e j,s,h=>by
  have:=a.b j (of_decide_eq_true h);show (match e[j]? with|some (some v)=>Out.e v s|_=>.d)=(match e'[j]? with|some (some v)=>Out.e v s|_=>.d)
  rw[this]
 |.r es,s,h=>by
  show (zV Φ G e es s).bind _=(zV Φ G e' es s).bind _;rw[nB a es s h]
 |.A m es,s,h=>by
  show (zV Φ G e es s).bind _=(zV Φ G e' es s).bind _;rw[nB a es s h]
 |.j m op x y,s,h=>by
  obtain⟨h1,h2⟩:=zK h;show (evE Φ G e x s).bind _=(evE Φ G e' x s).bind _;rw[vz a x s h1];exact congrArg _ (funext λu=>funext λs1=>by rw[vz a y s1 h2])
 |.q op x y,s,h=>by
  obtain⟨h1,h2⟩:=zK h;show (evE Φ G e x s).bind _=(evE Φ G e' x s).bind _;rw[vz a x s h1];exact congrArg _ (funext λu=>funext λs1=>by rw[vz a y s1 h2])
 |.p m N fr elt t it ifs,s,h=>by
  obtain⟨h1,h2⟩:=zK h;show (yS Φ G e it s).bind _=(yS Φ G e' it s).bind _;rw[cG a it s h1,kW a (of_decide_eq_true h2)]
 |.B _,_,h=>by cases h
 |.u _ _,_,h=>by cases h
 |.K _ _,_,h=>by cases h
 |.G _,_,h=>by cases h
 |.s _ _ _ _ _,_,h=>by cases h
 |.y _ _,_,h=>by cases h
 |.I _ _,_,h=>by cases h
 |.F _ _ _,_,h=>by cases h
 |.C,_,h=>by cases h
 |.h _ _ _,_,h=>by cases h
 |.k _ _ _,_,h=>by cases h
 |.D _ _,_,h=>by cases h
 |.L _ _ _ _,_,h=>by cases h
 |.H _ _ _ _ _,_,h=>by cases h
 |.w _ _ _ _ _ _ _ _ _ _,_,h=>by cases h
 |.l _ _ _ _,_,h=>by cases h
 |.E _,_,h=>by cases h
 |.J _ _,_,h=>by cases h
theorem nB(a:Agr i w e e'):∀(xs:Exs) (s:Sto),Zj i xs=true->zV Φ G e xs s=zV Φ G e' xs s
 |.c,_,_=>rfl
 |.a x xs,s,h=>by obtain⟨h1,h2⟩:=zK h;show (evE Φ G e x s).bind _=(evE Φ G e' x s).bind _;rw[vz a x s h1];exact congrArg _ (funext λu=>funext λs1=>by rw[nB a xs s1 h2])
theorem cG(a:Agr i w e e'):∀(x:Itb) (s:Sto),okI i x=true->yS Φ G e x s=yS Φ G e' x s
 |.d x,s,h=>by
  show (evE Φ G e x s).bind _=(evE Φ G e' x s).bind _;rw[vz a x s h]
 |.c _,_,h=>by cases h
 |.f _ _,_,h=>by cases h
 |.g _,_,h=>by cases h
 |.h _ _,_,h=>by cases h
end
theorem Agr.set(a:Agr i w e e')(h:j≠i)v:Agr i w (e.set j v) (e'.set j v):=by
 refine⟨by rw[AL];exact a.c,by rw[AL];exact a.d,λk hk=>?_,λhl=>by rw[AO h];exact a.a1 hl,λhl=>by rw[AO h];exact a.a2 hl⟩
 by_cases z:j=k
 . subst z
   by_cases hj:j<e.length
   . rw[Av hj,Av (by rw[a.d,<-a.c];exact hj)]
   . rw[Cu (by rw[AL];omega),Cu (by rw[AL,a.d,<-a.c];omega)]
 . rw[AO z,AO z];exact a.b k hk
def S8(i:Nat)(w:Nat × Option Val × Option Val):Fl->Fl->Prop
 |.a e,.a e'=>Agr i w e e'
 |.c e,.c e'=>Agr i w e e'
 |.d e,.d e'=>Agr i w e e'
 |.b v,.b v'=>v=v'
 |_,_=>False
def nj(i:Nat)(w:Nat × Option Val × Option Val)(o o':Out Fl):Prop:=match o with
 |.e fl s=>∃fl',o'=.e fl' s/\S8 i w fl fl'
 |_=>True
mutual
noncomputable def okS(i:Nat):Sm->Bool
 |.d e=>okE i e
 |.h (.a c) a .f=>okE i c&&Zk i a
 |.k (.a j) it b=>decide (j≠i)&&okI i it&&Zk i b
 |_=>false
noncomputable def Zk(i:Nat):Sms->Bool
 |.f=>true
 |.e c cs=>okS i c&&Zk i cs
 |.g ..=>false
end
theorem rX(hj:j≠i){body:Env->Sto->Out Fl}(hb:∀e e' s,Agr i w e e'->nj i w (body e s) (body e' s)):∀xs e e' s,Agr i w e e'->nj i w (yx r (.a j) body xs e s) (yx r (.a j) body xs e' s)
 |[],e,e',s,a=>by
  rw[yx,yx];by_cases h:r.ok s
  . rw[if_pos h,if_pos h];exact⟨.a e',rfl,a⟩
  . rw[if_neg h,if_neg h];exact AG
 |x::xs,e,e',s,a=>by
  rw[yx,yx];by_cases h:r.ok s
  . rw[if_pos h,if_pos h]
    have hbt:∀e:Env,yU (.a j) x e=some (e.set j (some x)):=λ_=>rfl;rw[hbt,hbt];have q:=hb _ _ s (a.set hj (some x));simp only[];cases ho:body (e.set j (some x)) s with
    |e fl s1=>
     rw[ho]at q;obtain⟨fl',h2,a2⟩:=q;rw[h2];cases fl with
     |a e1=>cases fl' with
      |a e2=>exact rX hj hb xs e1 e2 s1 a2
      |_=>exact a2.elim
     |d e1=>cases fl' with
      |d e2=>exact rX hj hb xs e1 e2 s1 a2
      |_=>exact a2.elim
     |c e1=>cases fl' with
      |c e2=>exact⟨.a e2,rfl,a2⟩
      |_=>exact a2.elim
     |b v=>cases fl' with
      |b v'=>exact⟨.b v',rfl,a2⟩
      |_=>exact a2.elim
    |g _ _ _=>exact AG
    |d=>exact AG
  . rw[if_neg h,if_neg h];exact AG
mutual
theorem cH:∀(c:Sm) (e e':Env) (s:Sto),okS i c=true->Agr i w e e'->nj i w (exS Φ G e c s) (exS Φ G e' c s)
 |.d x,e,e',s,h,a=>by
  show nj i w ((evE Φ G e x s).bind λv s1=>.e (.b v) s1) ((evE Φ G e' x s).bind λv s1=>.e (.b v) s1);rw[vz a x s h];cases evE Φ G e' x s with
  |e v s1=>exact⟨.b v,rfl,rfl⟩
  |g _ _ _=>exact AG
  |d=>exact AG
 |.h (.a x) b .f,e,e',s,h,a=>by
  obtain⟨h1,h2⟩:=zK h;show nj i w (((evE Φ G e x s).truth).bind λt s1=>if t then zW Φ G e b s1 else .e (.a e) s1) (((evE Φ G e' x s).truth).bind λt s1=>if t then zW Φ G e' b s1 else .e (.a e') s1)
  rw[vz a x s h1];cases (evE Φ G e' x s).truth with
  |e t s1=>
   cases t with
   |true=>exact nD b e e' s1 h2 a
   |false=>exact⟨.a e',rfl,a⟩
  |g _ _ _=>exact AG
  |d=>exact AG
 |.k (.a j) it b,e,e',s,h,a=>by
  obtain⟨h1,h2⟩:=zK h;obtain⟨h0,h1⟩:=zK h1;show nj i w ((yS Φ G e it s).bind λr s1=>yx r (.a j) (λe s'=>zW Φ G e b s') r.a e s1) ((yS Φ G e' it s).bind λr s1=>yx r (.a j) (λe s'=>zW Φ G e b s') r.a e' s1);rw[cG a it s h1];cases yS Φ G e' it s with
  |e r s1=>exact rX (of_decide_eq_true h0) (λe e' s a=>nD b e e' s h2 a) r.a e e' s1 a
  |g _ _ _=>exact AG
  |d=>exact AG
 |.h (.a _) _ (.e _ _),_,_,_,h,_=>by cases h
 |.h (.a _) _ (.g _ _ _ _ _ _ _ _),_,_,_,h,_=>by cases h
 |.h (.b _) _ _,_,_,_,h,_=>by cases h
 |.h (.d _ _) _ _,_,_,_,h,_=>by cases h
 |.h (.f _ _) _ _,_,_,_,h,_=>by cases h
 |.k (.b _) _ _,_,_,_,h,_=>by cases h
 |.f _,_,_,_,h,_=>by cases h
 |.s,_,_,_,h,_=>by cases h
 |.g _ _,_,_,_,h,_=>by cases h
 |.n _ _,_,_,_,h,_=>by cases h
 |.p _ _,_,_,_,h,_=>by cases h
 |.u _ _ _,_,_,_,h,_=>by cases h
 |.l _ _ _,_,_,_,h,_=>by cases h
 |.m _ _,_,_,_,h,_=>by cases h
 |.r,_,_,_,h,_=>by cases h
 |.w,_,_,_,h,_=>by cases h
 |.q,_,_,_,h,_=>by cases h
 |.j _,_,_,_,h,_=>by cases h
 |.v _ _ _,_,_,_,h,_=>by cases h
theorem nD:∀(c:Sms) (e e':Env) (s:Sto),Zk i c=true->Agr i w e e'->nj i w (zW Φ G e c s) (zW Φ G e' c s)
 |.f,e,e',s,_,a=>⟨.a e',rfl,a⟩
 |.g _ _ _ _ _ _ _ _,_,_,_,h,_=>by cases h
 |.e c cs,e,e',s,h,a=>by
  obtain⟨h1,h2⟩:=zK h;have q:=cH c e e' s h1 a;show nj i w ((exS Φ G e c s).bind λfl s1=>match fl with|.a e=>zW Φ G e cs s1|fl=>.e fl s1) ((exS Φ G e' c s).bind λfl s1=>match fl with|.a e=>zW Φ G e cs s1|fl=>.e fl s1)
  cases ho:exS Φ G e c s with
  |e fl s1=>
   rw[ho]at q;obtain⟨fl',h3,a2⟩:=q;rw[h3];cases fl with
   |a e1=>cases fl' with
    |a e2=>exact nD cs e1 e2 s1 h2 a2
    |_=>exact a2.elim
   |d e1=>cases fl' with
    |d e2=>exact⟨.d e2,rfl,a2⟩
    |_=>exact a2.elim
   |c e1=>cases fl' with
    |c e2=>exact⟨.c e2,rfl,a2⟩
    |_=>exact a2.elim
   |b v=>cases fl' with
    |b v'=>exact⟨.b v',rfl,a2⟩
    |_=>exact a2.elim
  |g _ _ _=>exact AG
  |d=>exact AG
end
theorem pO:∀{l} {s s'},wC s=wC s'->zh l s'=true->zh l s=true
 |[],_,_,_,_=>rfl
 |x::l,s,[],h,h'=>by cases h'
 |x::l,s,c'::s',h,h'=>by
  cases c' with
  |d y=>
   cases s with
   |nil=>cases h
   |cons c s=>
    cases c with
    |d z=>
     have h:z::wC s=y::wC s':=h;injection h with h1 h2
     obtain⟨g1,g2⟩:=zK (show (decide (x=y)&&zh l s')=true from h');show (decide (x=z)&&zh l s)=true;rw[h1,g1,pO h2 g2];rfl
    |_=>cases h
  |_=>cases h'
end
end
end M
end
section
namespace M
open PySem
def cS(c:Const)(k:Str->Bool):Bool:=el c.ctorIdx 5 λh=>Const.str.elim (motive:=λ_=>Bool) c h k
theorem Xr(h:cS c k=true):∃x,c=.str x/\k x=true:=by obtain⟨hc,h⟩:=zl h;obtain⟨x,rfl⟩:∃x,c=.str x:=Const.str.elim (motive:=λc=>∃x,c=Const.str x) c hc λx=>⟨x,rfl⟩;exact⟨x,rfl,h⟩
def eS(e:Expr):Bool:=af e λc _ _=>cS c λx=>decide (x.length<=1000)
theorem lR(h:eS e=true):∃x k p,e=.Constant (.str x) k p/\x.length<=1000:=by obtain⟨c,k,p,rfl,h1⟩:=rn h;obtain⟨x,rfl,h2⟩:=Xr h1;exact⟨x,k,p,rfl,of_decide_eq_true h2⟩
def eF(e:Expr)(k:Expr->Bool):Bool:=Uc e λu c s _=>decide (c=-1)&&s.isNone&&k u
theorem eL(h:eF e k=true):∃u p,e=.FormattedValue u (-1) none p/\k u=true:=by obtain⟨u,c,s,p,rfl,h1⟩:=eM h;obtain⟨h2,h3⟩:=zK h1;rw[of_decide_eq_true (zK h2).1,B4.mp (zK h2).2];exact⟨u,p,rfl,h3⟩
def eFs(e:Expr)(k:Expr->Expr->Bool):Bool:=eJn e λxs _=>lc xs λc1 xs=>lc xs λf1 xs=>lc xs λc2 xs=>lc xs λf2 xs=>l1 xs λc3=>(eS c1&&(eS c2&&eS c3))&&eF f1 λu=>eF f2 λv=>k u v
theorem ah(h:eFs e k=true):∃u v c1 c2 c3 k1 k2 k3 p1 p2 p3 p4 p5 pos,e=.JoinedStr [.Constant (.str c1) k1 p1,.FormattedValue u (-1) none p2,.Constant (.str c2) k2 p3,.FormattedValue v (-1) none p4,.Constant (.str c3) k3 p5] pos/\c1.length<=1000/\c2.length<=1000/\c3.length<=1000/\k u v=true:=by obtain⟨xs,pos,rfl,h1⟩:=ai h;obtain⟨a1,xs,rfl,h2⟩:=z9 h1;obtain⟨a2,xs,rfl,h3⟩:=z9 h2;obtain⟨a3,xs,rfl,h4⟩:=z9 h3;obtain⟨a4,xs,rfl,h5⟩:=z9 h4;obtain⟨a5,rfl,h6⟩:=z8 h5;obtain⟨h7,h8⟩:=zK h6;obtain⟨c1,k1,p1,rfl,z1⟩:=lR (zK h7).1;obtain⟨c2,k2,p3,rfl,z2⟩:=lR (zK (zK h7).2).1;obtain⟨c3,k3,p5,rfl,z3⟩:=lR (zK (zK h7).2).2;obtain⟨u,p2,rfl,h9⟩:=eL h8;obtain⟨v,p4,rfl,h10⟩:=eL h9;exact⟨u,v,c1,c2,c3,k1,k2,k3,p1,p2,p3,p4,p5,pos,rfl,z1,z2,z3,h10⟩
def RB(sc:Scope)(N:List Str)(es:Exs)(a:Expr):Bool:=eFs a λu v=>ckL sc N es [u,v]
def aX(sc:Scope)(N:List Str)(i:Nat)(d:Ex)(op:CmpOp)(e:Expr):Bool:=eC1 e λl o r=>Xv sc N i l&&decide (o=op)&&ck sc N d r&&plain r&&okC .a&&okC .c
noncomputable def WI:Cns->Bool
 |.a=>true
 |_=>false
def Xw(sc:Scope)(N:List Str)(i:Nat)(d:Ex)(o:Cns)(t:Expr):Bool:=if WI o then aX sc N i d .NotEq t else eBl .Or t λa as=>aX sc N i d .NotEq a&&qw sc N o as
def Xx(sc:Scope)(N:List Str)(i:Nat)(L:Exs)(ss:List Stmt)(k:List Stmt->Bool):Bool:=match L with
 |.c=>false
 |.a e es=>lc ss λt1 ts=>(gk t1 λtg v _=>l1 tg λq=>eName q λx _=>decide (N[i]?=some x)&&(decide (sc.names.lookup x=some .local)||decide (sc.names.lookup x=some .cell))&&WA v λls _=>l1 ls λl=>lO sc N e l)&&fm sc N i es ts k
def jJ(sc:Scope)(N:List Str)(i k:Nat)(d:Ex)(o:Cns)(kb:List Stmt->Bool)(fin:Stmt):Bool:=if k=0 then YA fin λq _=>o1 q λx=>Xv sc N i x else if k=1 then YA fin λq _=>o1 q λx=>aX sc N i d .Eq x
 else sIf fin λt x y _=>y.isEmpty&&kb x&&Xw sc N i d o t
mutual
noncomputable def ckS(sc:Scope)(N:List Str):Sm->Stmt->Bool
 |.f e,st=>(Vs st λx _=>ck sc N e x&&uJ x)
 |.d e,st=>(YA st λq _=>o1 q λx=>ck sc N e x)
 |.s,_=>false
 |.g i e,st=>(gk st λts v _=>l1 ts λt=>eName t λx _=>decide (N[i]?=some x)&&(decide (sc.names.lookup x=some .local)||decide (sc.names.lookup x=some .cell))&&ck sc N e v)
 |.n is e,st=>(gk st λt0 v _=>l1 t0 λt=>eP t λts _ _=>z7 sc N is ts&&ck sc N e v&&notTuple v)
 |.p is es,st=>(gk st λt0 v _=>l1 t0 λt=>eP t λts _ _=>eP v λvs _ _=>z7 sc N is ts&&ckL sc N es vs&&zc vs&&decide (is.length<=8)&&decide is.Nodup&&decide (ts.length=vs.length)&&(XO sc ts vs||Xa sc ts))
 |.u i op e,st=>(SO st λt o v _=>eName t λx _=>decide (N[i]?=some x)&&(decide (sc.names.lookup x=some .local)||decide (sc.names.lookup x=some .cell))&&decide (o=op.op)&&ck sc N e v&&!(decide (op=.d)||decide (op=.h)||decide (op=.i)||decide (op=.f)))
 |.v _ _ _,_=>false
 |.l o i e,st=>(gk st λts v _=>l1 ts λt=>ak t λa b _=>ck sc N o a&&ck sc N i b&&ck sc N e v&&plain b)
 |.h c a b,st=>(sIf st λt x y _=>ckC sc N c t&&ug sc N a x&&ug sc N b y)
 |.k t it b,st=>(SQ st λtg iter body els _=>els.isEmpty&&(ckT sc N t tg&&ckI sc N it iter tg&&ug sc N b body&&plain iter))
 |.m c b,st=>(SR st λt body els _=>els.isEmpty&&(ckC sc N c t&&ug sc N b body))
 |.r,_=>false
 |.w,_=>false
 |.q,_=>false
 |.j e,st=>(match e with
  |.h c _ es=>(sRs st λq b _=>b.isNone&&o1 q λq=>eCN q λx xs=>l1 xs λa=>decide (x=c)&&xC sc x&&!(x == ("__debug__":Str))&&((ckL sc N es [a]&&plain a)||RB sc N es a))
  |.g _=>true
  |_=>false)
noncomputable def ug(sc:Scope)(N:List Str):Sms->List Stmt->Bool
 |.f,ss=>ss.isEmpty
 |.e c cs,ss=>(lc ss λt ts=>ckS sc N c t&&ug sc N cs ts)
 |.g i L .f k d o b cs,ss=>decide (L.len<=1000)&&Xx sc N i L ss λss=>lc ss λfin rest=>jJ sc N i k d o (λx=>ug sc N b x) fin&&ug sc N cs rest
 |.g i L (.e c .f) k d o b cs,ss=>decide (L.len<=1000)&&Xx sc N i L ss λss=>lc ss λt ts=>(ckS sc N c t&&okS i c)&&lc ts λfin rest=>jJ sc N i k d o (λx=>ug sc N b x) fin&&ug sc N cs rest
 |.g ..,_=>false
end
structure OkF(T:Tbl)(n:Nat)(sc:Scope)(N:List Str)(X:L2.Cx):Prop where
 a:Ok T n sc N X
 b:X.a.scope=sc
 bk:X.a.blockKind=.function
section
variable {T:Tbl}{n:Nat}
def JS(T:Tbl)(n:Nat)(a:Sm):Prop:=∀(sc:Scope) (N:List Str) (X:L2.Cx) (st:Stmt),OkF T n sc N X->ckS sc N a st=true->∀env s,L2.PS X st (tSt X.K X.d env s (exS (zB T n) T.b env a s))
def JSs(T:Tbl)(n:Nat)(a:Sms):Prop:=∀(sc:Scope) (N:List Str) (X:L2.Cx) (st:List Stmt),OkF T n sc N X->ug sc N a st=true->∀env s,L2.PSs X st (tSt X.K X.d env s (zW (zB T n) T.b env a s))
theorem qc(h:∀env s,L2.PSs X st (tSt X.K X.d env s (zW Φ G env b s))):L2.PSs X st (uSs X.K X.d Φ G b):=λpins s σ H D I ⟨env,t,q⟩=>h env t pins s σ H D I q
theorem ZO:JS T n (.f e):=by intro sc N X st o h env s;replace h:=qh h;obtain⟨x1,p1,rfl,h⟩:=h;simp only[cf]at h;exact ZV h.2 (jE T n e _ _ _ _ o.a h.1 env s)
theorem We:JS T n (.d e):=by intro sc N X st o h env s;replace h:=tY h;obtain⟨q1,p1,rfl,h⟩:=h;replace h:=sM h;obtain⟨x1,rfl,h⟩:=h;exact Wo (jE T n e _ _ _ _ o.a h env s)
theorem uq:∃b,Ec (.ListComp elt gens csc cpos) (some (.Name y py)) l env=pure b:=⟨_,rfl⟩
noncomputable def ZD:Ex->Bool
 |.p ..|.w ..=>true
 |_=>false
theorem mR(h:ck sc N a e=true)(ha:ZD a=false):uJ e=true:=by
 have no:∀{e:Expr},ck sc N a e=true->e.ctorIdx=8\/e.ctorIdx=9\/e.ctorIdx=10->False:=λ{e} h hc=>by
  have key:(∃x g c p,e=.ListComp x g c p)\/(∃x g c p,e=.SetComp x g c p)\/∃k x g c p,e=.DictComp k x g c p:=by
   rcases hc with hc|hc|hc
   . exact .inl (EO (motive_1:=λe=>∃x g c p,e=Expr.ListComp x g c p) e hc λx g c p=>⟨x,g,c,p,rfl⟩)
   . exact .inr (.inl (Expr.SetComp.elim (motive_1:=λe=>∃x g c p,e=Expr.SetComp x g c p) e hc λx g c p=>⟨x,g,c,p,rfl⟩))
   . exact .inr (.inr (Expr.DictComp.elim (motive_1:=λe=>∃k x g c p,e=Expr.DictComp k x g c p) e hc λk x g c p=>⟨k,x,g,c,p,rfl⟩))
  rcases key with⟨x,g,c,p,rfl⟩|⟨x,g,c,p,rfl⟩|⟨k,x,g,c,p,rfl⟩ <;>
  . cases a with
    |p _ _ _ _ _ _ _=>cases ha
    |w _ _ _ _ _ _ _ _ _ _=>cases ha
    |h f v es=>
     have h:(if v<100 then _ else if v<200 then _ else _)=true:=h
     split at h
     . cases h
     . split at h
       . cases h
       . exact absurd (show false=true from (zK h).2) Aj
    |_=>cases h
 cases e with
 |ListComp _ _ _ _=>exact(no h (.inl rfl)).elim
 |SetComp _ _ _ _=>exact(no h (.inr (.inl rfl))).elim
 |DictComp _ _ _ _ _=>exact(no h (.inr (.inr rfl))).elim
 |_=>rfl
theorem Wa:JS T n (.g i e):=by
 intro sc N X st o h env s;replace h:=wu h;obtain⟨ts1,v,pos,rfl,h⟩:=h;replace h:=z8 h;obtain⟨t1,rfl,h⟩:=h;replace h:=zq h;obtain⟨x,px,rfl,h⟩:=h;simp only[cf,decide_eq_true_eq,Ao]at h;obtain⟨⟨h1,h2⟩,h3⟩:=h;obtain⟨l1,l2⟩:=o.a.a.c x h2;have hN:X.N.Nodup:=by rw[o.a.a.a];exact o.a.a.d
 have hi:X.N[i]?=some x:=by rw[o.a.a.a];exact h1
 by_cases hn:uJ v=true
 . exact lZ (L2.wW hN hi l1 (jE T n e _ _ _ _ o.a h3 env s) (uA hn) l2) λσ H Q q=>q
 . -- a comprehension
   cases e with
   |p m N' fr elt t it ifs=>
    replace h3:=u9 h3;obtain⟨x',tg,iter,fs,csc,cpos,rfl,h3⟩:=h3;simp only[cf,decide_eq_true_eq]at h3;obtain⟨⟨⟨⟨⟨⟨c1,c2⟩,c3⟩,c4⟩,c5⟩,c6⟩,c7⟩:=h3;have S:=pL o.a.a c1;have oc:=o.a.comp S c2 c1;obtain⟨g,pg,tg'⟩:∃g,(∀C s0 H0 ex,L2.PG (X.comp N' csc C s0 H0 ex) tg g)/\tw X.K X.d t g:=by
     cases t with
     |a i=>
      cases tg with
      |Name y p=>
       simp only[ckT,cf,Ao,decide_eq_true_eq]at c3;exact⟨_,λC s0 H0 ex=>si (oc C s0 H0 ex).a c3.1 c3.2,tj⟩
      |_=>cases c3
     |b is=>
      cases tg with
      |Tuple es k p=>
       simp only[ckT,cf,decide_eq_true_eq]at c3;refine⟨_,λC s0 H0 ex=>?_,wD (is:=is)⟩;obtain⟨a,b,c⟩:=yg (oc C s0 H0 ex).a c3.1;exact L2.v5 (X:=X.comp N' csc C s0 H0 ex) o.a.c a b c
      |_=>cases c3
    have hpi:L2.PI X tg iter (uI X.K X.d (zB T n) T.b it):=kH λenv s=>jI T n it _ _ _ _ _ o.a c4 env s;have hts:∀C s0 H0 ex,L2.PTs (X.comp N' csc C s0 H0 ex) fs (uTs X.K X.d (zB T n) T.b ifs):=λC s0 H0 ex=>(jCs T n ifs _ _ _ _ (oc C s0 H0 ex) c5).2.2;have hel:∀C s0 H0 ex,L2.PE (X.comp N' csc C s0 H0 ex) x' (uE X.K X.d (zB T n) T.b elt):=λC s0 H0 ex=>gb (X:=X.comp N' csc C s0 H0 ex) λenv s=>jE T n elt _ _ _ _ (oc C s0 H0 ex) c6 env s;have rule:L2.PS X (.Assign [.Name x px] (.ListComp x' [⟨tg,iter,fs,0⟩] csc cpos) pos) (L2.uU (L2.wo fr (uI X.K X.d (zB T n) T.b it) g (uTs X.K X.d (zB T n) T.b ifs) λacc=>L2.vR acc (uE X.K X.d (zB T n) T.b elt)) (L2.xJ i)):=by
     obtain⟨b,hb⟩:=uq (elt:=x') (gens:=[⟨tg,iter,fs,0⟩]) (csc:=csc) (cpos:=cpos) (y:=x) (py:=px) (l:=pos.line) (env:=X.a);cases b with
     |true=>exact L2.jw o.a.c S hpi pg hts hel hN hi l1 hb l2 (zk c7)
     |false=>exact L2.wW hN hi l1 (L2.rP o.a.c S hpi pg hts hel (zk c7)) hb l2
    refine lZ (o:=evE (zB T n) T.b env (.p m N' fr elt t it ifs) s) rule λσ H Q hq=>uH (env:=env) (s:=s) (chk:=false) (m:=m) (body:=ua (zB T n) T.b elt ifs) tg' wM (λacc ρ0 H0 hn=>qo hn) ?_ λ_ r s1 p s2 hl=>?_
    . simp only[AZ,false_implies,if_true];exact hq
    . have:=sT hl
      simpa using this
   |w m N' fr elt t it ifs t2 it2 ifs2=>
    replace h3:=jW h3;obtain⟨x',tg,iter,fs,tg2,iter2,fs2,csc,cpos,rfl,h3⟩:=h3;simp only[cf,decide_eq_true_eq]at h3;obtain⟨⟨⟨⟨⟨⟨⟨⟨⟨⟨c1,c2⟩,c3⟩,c4⟩,c5⟩,c6⟩,c7⟩,c8⟩,c9⟩,c10⟩,c11⟩:=h3;have S:=pL o.a.a c1;have oc:=o.a.comp S c2 c1;have tgt:∀(t:Tgt) (tg:Expr),ckT csc N' t tg=true->∃g,(∀C s0 H0 ex,L2.PG (X.comp N' csc C s0 H0 ex) tg g)/\tw X.K X.d t g:=by
     intro t tg c3;cases t with
     |a i=>
      cases tg with
      |Name y p=>
       simp only[ckT,cf,Ao,decide_eq_true_eq]at c3;exact⟨_,λC s0 H0 ex=>si (oc C s0 H0 ex).a c3.1 c3.2,tj⟩
      |_=>cases c3
     |b is=>
      cases tg with
      |Tuple es k p=>
       simp only[ckT,cf,decide_eq_true_eq]at c3;refine⟨_,λC s0 H0 ex=>?_,wD (is:=is)⟩;obtain⟨a,b,c⟩:=yg (oc C s0 H0 ex).a c3.1;exact L2.v5 (X:=X.comp N' csc C s0 H0 ex) o.a.c a b c
      |_=>cases c3
    obtain⟨g,pg,tg'⟩:=tgt t tg c3;obtain⟨g2,pg2,tg2'⟩:=tgt t2 tg2 c6;have hpi:L2.PI X tg iter (uI X.K X.d (zB T n) T.b it):=kH λenv s=>jI T n it _ _ _ _ _ o.a c4 env s;have hts:∀C s0 H0 ex,L2.PTs (X.comp N' csc C s0 H0 ex) fs (uTs X.K X.d (zB T n) T.b ifs):=λC s0 H0 ex=>(jCs T n ifs _ _ _ _ (oc C s0 H0 ex) c5).2.2;have hpi2:∀C s0 H0 ex,L2.PI (X.comp N' csc C s0 H0 ex) tg2 iter2 (uI X.K X.d (zB T n) T.b it2):=λC s0 H0 ex=>kH (X:=X.comp N' csc C s0 H0 ex) λenv s=>jI T n it2 _ _ _ _ _ (oc C s0 H0 ex) c7 env s;have hts2:∀C s0 H0 ex,L2.PTs (X.comp N' csc C s0 H0 ex) fs2 (uTs X.K X.d (zB T n) T.b ifs2):=λC s0 H0 ex=>(jCs T n ifs2 _ _ _ _ (oc C s0 H0 ex) c8).2.2;have hel:∀C s0 H0 ex,L2.PE (X.comp N' csc C s0 H0 ex) x' (uE X.K X.d (zB T n) T.b elt):=λC s0 H0 ex=>gb (X:=X.comp N' csc C s0 H0 ex) λenv s=>jE T n elt _ _ _ _ (oc C s0 H0 ex) c9 env s;have rule:L2.PS X (.Assign [.Name x px] (.ListComp x' [⟨tg,iter,fs,0⟩,⟨tg2,iter2,fs2,0⟩] csc cpos) pos) (L2.uU (L2.wo fr (uI X.K X.d (zB T n) T.b it) g (uTs X.K X.d (zB T n) T.b ifs) λacc=>L2.qj (uI X.K X.d (zB T n) T.b it2) g2 (uTs X.K X.d (zB T n) T.b ifs2) (L2.vR acc (uE X.K X.d (zB T n) T.b elt))) (L2.xJ i)):=by
     obtain⟨b,hb⟩:=uq (elt:=x') (gens:=[⟨tg,iter,fs,0⟩,⟨tg2,iter2,fs2,0⟩]) (csc:=csc) (cpos:=cpos) (y:=x) (py:=px) (l:=pos.line) (env:=X.a);cases b with
     |true=>exact L2.bJ o.a.c S hpi pg hts hpi2 pg2 hts2 hel hN hi l1 hb l2 (zk c10) (λenv=>zk c11)
     |false=>exact L2.wW hN hi l1 (L2.ma o.a.c S hpi pg hts hpi2 pg2 hts2 hel (zk c10) (λenv=>zk c11)) hb l2
    refine lZ (o:=evE (zB T n) T.b env (.w m N' fr elt t it ifs t2 it2 ifs2) s) rule λσ H Q hq=>uH (env:=env) (s:=s) (chk:=true) (m:=m) (body:=sS (zB T n) T.b elt ifs t2 it2 ifs2) tg' tm (λacc ρ0 H0 hn=>oH hn tg2') ?_ λz=>by cases z
    simp only[true_implies];exact hq
   |_=>exact absurd (mR h3 rfl) hn
theorem ZN:JS T n (.n is e):=by intro sc N X st o h env s;replace h:=wu h;obtain⟨ts1,v,pos,rfl,h⟩:=h;replace h:=z8 h;obtain⟨t1,rfl,h⟩:=h;replace h:=vm h;obtain⟨ts,k,p,rfl,h⟩:=h;simp only[cf]at h;obtain⟨⟨h1,h2⟩,h3⟩:=h;obtain⟨a,b,c⟩:=yg o.a.a h1;exact jm (t:=.b is) wD (L2.kK (jE T n e _ _ _ _ o.a h2 env s) (L2.v5 o.a.c a b c) uO (kZ h3)) λσ H Q q=>q
theorem Wd:JS T n (.p is es):=by
 intro sc N X st o h env s;replace h:=wu h;obtain⟨ts1,v,pos,rfl,h⟩:=h;replace h:=z8 h;obtain⟨t1,rfl,h⟩:=h;replace h:=vm h;obtain⟨ts,k,p,rfl,h⟩:=h;replace h:=vm h;obtain⟨vs,k2,p2,rfl,h⟩:=h;simp only[cf,decide_eq_true_eq,Ao]at h;obtain⟨⟨⟨⟨⟨⟨h1,h2⟩,h3⟩,h4⟩,h5⟩,h6⟩,h7⟩:=h;have hes:=(jL T n es _ _ _ _ o.a h2).1 h3 env s;have hN:X.N.Nodup:=by rw[o.a.a.a];exact o.a.a.d
 have kind:∀x,X.a.kindOf x=sc.names.lookup x:=λx=>by show X.a.scope.names.lookup x=_;rw[o.b]
 rcases h7 with h7|h7
 . unfold XO at h7
   split at h7
   . rename_i x px y py
     simp only[cf,decide_eq_true_eq,Ay]at h7;obtain⟨⟨⟨⟨⟨q1,q2⟩,q3⟩,q4⟩,q5⟩,q6⟩:=h7
     match is,h1,h5 with
     |[i,j],h1,h5=>
      simp only[z7,cf,decide_eq_true_eq,Ao]at h1;obtain⟨⟨i1,i2⟩,⟨j1,j2⟩,_⟩:=h1
      match vs,h6 with
      |[a,b],_=>
       have hij:i≠j:=by rw[BU]at h5;exact λz=>h5.1 (by rw[z];exact Aw.mpr rfl)
       exact ZW (L2.Vk o.a.c hN (by rw[o.a.a.a];exact i1) (by rw[o.a.a.a];exact j1) hij (by rw[o.b];exact q1) (by rw[o.b];exact q2) hes
        (m8 o.bk (by rw[kind];exact q1) (by rw[kind];exact q2) q3 q4 h3 q5 q6) uO) λσ H Q q=>q
     |[],h1,_=>exact absurd h1 (by simp[z7])
     |[_],h1,_=>exact absurd h1 (by simp[z7])
     |_::_::_::_,h1,_=>exact absurd h1 (by simp[z7])
   . rename_i x px y py z pz
     simp only[cf,decide_eq_true_eq,Ay]at h7;obtain⟨⟨⟨⟨⟨⟨⟨⟨⟨q1,q2⟩,q3⟩,q4⟩,q5⟩,q6⟩,q7⟩,q8⟩,q9⟩,q10⟩:=h7
     match is,h1,h5 with
     |[i,j,l],h1,h5=>
      simp only[z7,cf,decide_eq_true_eq,Ao]at h1;obtain⟨⟨i1,i2⟩,⟨j1,j2⟩,⟨l1,l2⟩,_⟩:=h1
      match vs,h6 with
      |[a,b,c],_=>
       simp only[BU,Ak,Bg,or_false,not_or]at h5;exact ZX (L2.Z7 o.a.c hN (by rw[o.a.a.a];exact i1) (by rw[o.a.a.a];exact j1) (by rw[o.a.a.a];exact l1) h5.1.1 h5.1.2 h5.2.1 (by rw[o.b];exact q1) (by rw[o.b];exact q2) (by rw[o.b];exact q3) hes
        (pA o.bk (by rw[kind];exact q1) (by rw[kind];exact q2) (by rw[kind];exact q3) q4 q5 q6 q7 q8 h3 q9 q10) uO) λσ H Q q=>q
     |[],h1,_=>exact absurd h1 (by simp[z7])
     |[_],h1,_=>exact absurd h1 (by simp[z7])
     |[_,_],h1,_=>exact absurd h1 (by simp[z7])
     |_::_::_::_::_,h1,_=>exact absurd h1 (by simp[z7])
   . cases h7
 . have hun:(∃x p,Ee x p∈ts/\X.a.kindOf x≠some .local)\/3<ts.length:=by
    unfold Xa at h7;simp only[Ao,decide_eq_true_eq,Bo]at h7;rcases h7 with⟨e,hm,he⟩|h7
    . cases e with
      |Name x px=>
       simp only[decide_eq_true_eq]at he;exact .inl ⟨x,px,hm,by rw[kind];exact he⟩
      |_=>cases he
    . exact .inr h7
   obtain⟨a,b,c⟩:=yg o.a.a h1;have rule:=jm (t:=.b is) (env:=env) (s:=s) wD (L2.kK (pos:=pos) (lY (k:=k2) (pos:=p2) hes) (L2.v5 (k:=k) (pos:=p) o.a.c a b c) uO (g7 hun)) λσ H Q q=>q;have e:((zV (zB T n) T.b env es s).bind λvs s1=>if vs.length=is.length then (.e:Fl->Sto->Out Fl) (.a ((is.zip vs).foldl (λe p=>e.set p.1 (some p.2)) env)) s1 else .d)=(((zV (zB T n) T.b env es s).bind λvs s1=>if vs.length<=zY then (.e:Val->Sto->Out Val) (.f vs) s1 else .d).bind λv s1=>match yU (.b is) v env with|some env'=>(.e:Fl->Sto->Out Fl) (.a env') s1|dr=>.d):=by
    cases zV (zB T n) T.b env es s with
    |e ws s1=>
     simp only[zN];by_cases hl:ws.length=is.length
     . have hz:ws.length<=zY:=by rw[hl];exact AE h4 (by decide)
       simp only[if_pos hl,if_pos hz,zN,yU]
     . rw[if_neg hl]
       by_cases hz:ws.length<=zY
       . simp only[if_neg hl,if_pos hz,zN,yU]
       . simp only[if_neg hz,vE]
    |g _ _ _=>rfl
    |d=>rfl
   show L2.PS X _ (tSt X.K X.d env s ((zV (zB T n) T.b env es s).bind λvs s1=>if vs.length=is.length then .e (.a ((is.zip vs).foldl (λe p=>e.set p.1 (some p.2)) env)) s1 else .d))
   rw[e];exact rule
theorem Wb:JS T n (.u i op e):=by intro sc N X st o h env s;replace h:=bT h;obtain⟨t1,o',v,pos,rfl,h⟩:=h;replace h:=zq h;obtain⟨x,px,rfl,h⟩:=h;simp only[cf,decide_eq_true_eq,Ao,Ay,Dg,decide_eq_false_iff_not]at h;obtain⟨⟨⟨⟨h1,h2⟩,rfl⟩,h3⟩,h4⟩:=h;obtain⟨l1,l2⟩:=o.a.a.c x h2;exact Wm (f:=evE (zB T n) T.b env e) (by rintro (z|z|z|z);exact h4.1.1.1 z;exact h4.1.1.2 z;exact h4.1.2 z;exact h4.2 z) (by rw[o.a.a.a];exact o.a.a.d) (by rw[o.a.a.a];exact h1) l1 l2 λs=>jE T n e _ _ _ _ o.a h3 env s
theorem dF:JS T n (.l a i e):=by intro sc N X st o h env s;replace h:=wu h;obtain⟨ts1,v,pos,rfl,h⟩:=h;replace h:=z8 h;obtain⟨t1,rfl,h⟩:=h;replace h:=r0 h;obtain⟨a1,b1,p1,rfl,h⟩:=h;simp only[cf]at h;exact dX h.2 (jE T n e _ _ _ _ o.a h.1.2 env s) (λs1=>jE T n a _ _ _ _ o.a h.1.1.1 env s1) λs1=>jE T n i _ _ _ _ o.a h.1.1.2 env s1
theorem Uw(ja:JSs T n a)(jb:JSs T n b):JS T n (.h c a b):=by intro sc N X st o h env s;replace h:=nS h;obtain⟨t1,x1,y1,p1,rfl,h⟩:=h;simp only[cf]at h;exact U3 (jC T n c _ _ _ _ o.a h.1.1 env s) (qc λenv s=>ja _ _ _ _ o h.1.2 env s) (qc λenv s=>jb _ _ _ _ o h.2 env s) (λs1 D σ H q=>⟨env,s1,q⟩) λs1 D σ H q=>⟨env,s1,q⟩
theorem Wc(jb:JSs T n b):JS T n (.k t it b):=by intro sc N X st o h env s;replace h:=bU h;obtain⟨tg1,i1,b1,e1,p1,rfl,h⟩:=h;obtain⟨h0,hh⟩:=zK h;cases AN.mp h0;clear h;have h:=hh;simp only[cf]at h;obtain⟨g,pg,tg⟩:=Tv o.a.a o.a.c h.1.1.1;exact Wn o.a.xe o.a.c h.2 (λenv s=>jI T n it _ _ _ _ _ o.a h.1.1.2 env s) pg tg (qc λenv s=>jb _ _ _ _ o h.1.2 env s)
theorem dG(jb:JSs T n b):JS T n (.m c b):=by intro sc N X st o h env s;replace h:=bV h;obtain⟨t1,b1,e1,p1,rfl,h⟩:=h;obtain⟨h0,hh⟩:=zK h;cases AN.mp h0;clear h;have h:=hh;simp only[cf]at h;exact dY o.a.xe (λenv s=>jC T n c _ _ _ _ o.a h.1 env s) (qc λenv s=>jb _ _ _ _ o h.2 env s)
theorem dE:JS T n (.j e):=λsc N X st o h env s=>zP (zD rfl)
theorem ZP:JSs T n .f:=by intro sc N X st o h env s;cases AN.mp h;exact ZY
theorem dH(jc:JS T n c)(jcs:JSs T n cs):JSs T n (.e c cs):=by intro sc N X st o h env s;replace h:=z9 h;obtain⟨t1,ts1,rfl,h⟩:=h;simp only[cf]at h;exact dZ (f:=λe s=>zW (zB T n) T.b e cs s) (jc _ _ _ _ o h.1 env s) (qc λenv s=>jcs _ _ _ _ o h.2 env s) λenv s D σ H q=>⟨env,s,q⟩
section
variable {sc:Scope}{N:List Str}{X:L2.Cx}{i:Nat}{L:Exs}{env:Env}{s s1:Sto}{vs:List Val}{d:Ex}
theorem cm(o:Ok T n sc N X)(hop:op=.a\/op=.c)(h:aX sc N i d op.op x=true)(hev:zV (zB T n) T.b env L s=.e vs s1)(hz:L.len<=1000)(hd:evE (zB T n) T.b env d s1=.e w s2) :
 L2.PE X x (λσ H Q=>tCm sc N X i L env s (λρ H=>yL X.K X.d (RD X.K X.d) ρ H (zS op (.j vs) w s2) Q) σ H) /\
 L2.PT X x (λσ H Q=>tCm sc N X i L env s (λρ H=>yL X.K X.d (λ_ _ a b=>a=b) ρ H ((zS op (.j vs) w s2).truth) Q) σ H):=by
 obtain⟨l,o1,r,p,rfl,a1⟩:=rD h;simp only[cf,decide_eq_true_eq]at a1;obtain⟨⟨⟨⟨⟨h1,rfl⟩,h2⟩,h3⟩,h4⟩,h5⟩:=a1;have hok:okC op=true:=by rcases hop with rfl|rfl;exact h4;exact h5
 have pd:=jE T n d _ _ _ _ o h2 env s1;rw[hd]at pd;constructor
 . refine zU (L2.nM (vM (X:=X) o.d op hok) (cq o h1 hev hz) pd (yr h3)) ?_
   rintro σ H Q ⟨ρ,p,lfs,hr,er,np,hp,hl,hls,wt⟩;exact⟨ρ,p,lfs,hr,er,np,hp,hl,hls,λρ1 x H1 x1 hr1 r1=>⟨ρ1,hr1,er.mono x1,λρ2 y H2 x2 hr2 r2=>⟨ρ2,s2,.j vs,w,hr2,r1.mono x2,r2,wt.mono (x1.trans hr1 x2) hr2⟩⟩⟩
 . refine v7 (L2.rS (vM (X:=X) o.d op hok) (cq o h1 hev hz) pd (yr h3)) ?_
   rintro σ H Q ⟨ρ,p,lfs,hr,er,np,hp,hl,hls,wt⟩;exact⟨ρ,p,lfs,hr,er,np,hp,hl,hls,λρ1 x H1 x1 hr1 r1=>⟨ρ1,hr1,er.mono x1,λρ2 y H2 x2 hr2 r2=>⟨ρ2,s2,.j vs,w,hr2,r1.mono x2,r2,ur (λ_ _ h=>rk h) (wt.mono (x1.trans hr1 x2) hr2)⟩⟩⟩
theorem Tx(o:Ok T n sc N X)(h:Xw sc N i d oo t=true)(hev:zV (zB T n) T.b env L s=.e vs s1)(hz:L.len<=1000)
 (ht:((evE (zB T n) T.b env d s1).bind λy s2=>((zS .c (.j vs) y s2).truth).bind λr s3=>if r then .e true s3 else vG (zB T n) T.b env oo s3)=.e r s3) :
 L2.PT X t (λσ H Q=>tCm sc N X i L env s (λρ H=>∀ρ' H',Ext ρ H ρ' H'->HR X.K X.d ρ' s3 H'->Q r H') σ H):=by
 obtain⟨w,s2,hd,ht⟩:=zb ht;obtain⟨c,s4,hc,ht⟩:=zb ht;unfold Xw at h;split at h
 . have hn:oo=.a:=by cases oo with|a=>rfl|b _ _=>rename_i z;cases z
   subst hn;refine v7 (cm (op:=.c) o (.inr rfl) h hev hz hd).2 ?_;rintro σ H Q ⟨ρ,p,lfs,hr,er,np,hp,hl,hls,wt⟩;refine⟨ρ,p,lfs,hr,er,np,hp,hl,hls,?_⟩;rw[hc];intro ρ1 x H1 x1 hr1 r1;cases r1;cases c with
   |true=>cases ht;exact wt ρ1 H1 x1 hr1
   |false=>cases ht;exact wt ρ1 H1 x1 hr1
 . obtain⟨a,as,p,rfl,h⟩:=rC h
   obtain⟨h1,h2⟩:=zK h;have p1:=(cm (op:=.c) o (.inr rfl) h1 hev hz hd).2;rw[hc]at p1;have p2:=(jCs T n oo _ _ _ _ o h2).2.1 p env s4;refine L2.PW.pt λwh pins sh σ H Q I h=>?_;obtain⟨ρ,p,lfs,hr,er,np,hp,hl,hls,wt⟩:=h;refine PyProof.Rows.isTrue_or (L2.thn (p1 pins sh σ H (λb H1=>if b=true then Q true H1 else tT X.K X.d env s4 (vG (zB T n) T.b env oo s4) σ H1 Q) I ⟨ρ,p,lfs,hr,er,np,hp,hl,hls,λρ1 x H1 x1 hr1 r1=>?_⟩) λb s' ⟨H1,I1,q1⟩=>?_)
   . cases r1
     cases c with
     |true=>cases ht;exact L2.sG (wt ρ1 H1 x1 hr1)
     |false=>
      refine L2.uR ⟨ρ1,hr1,er.mono x1,?_⟩;rw[show vG (zB T n) T.b env oo s4=.e r s3 from ht];intro ρ2 x H2 x2 hr2 r2;cases r2;exact wt ρ2 H2 (x1.trans hr1 x2) hr2
   . cases b with
     |true=>exact⟨H1,I1,q1⟩
     |false=>exact p2 wh pins s' σ H1 Q I1 q1
end
def oa(T:Tbl)(n:Nat)(e0:Env)(L:Exs)(k:Nat)(d:Ex)(oo:Cns)(b cs:Sms)(s0:Sto):Out Fl:=(zV (zB T n) T.b e0 L s0).bind λvs s1=>if k=0 then .e (.b (.j vs)) s1 else
 if k=1 then (evE (zB T n) T.b e0 d s1).bind λy s2=>(zS .a (.j vs) y s2).bind λr s3=>.e (.b r) s3
 else ((evE (zB T n) T.b e0 d s1).bind λy s2=>((zS .c (.j vs) y s2).truth).bind λr s3=>if r then .e true s3 else vG (zB T n) T.b e0 oo s3).bind λr s3=>
  (if r then zW (zB T n) T.b e0 b s3 else .e (.a e0) s3).bind λfl s4=>match fl with
 |.a e=>zW (zB T n) T.b e cs s4
 |fl=>.e fl s4
theorem eV(jb:JSs T n b)(jcs:JSs T n cs)(o:OkF T n sc N X)(hz:L.len<=1000)(hss:(lc ss λfin rest=>jJ sc N i k d oo (λx=>ug sc N b x) fin&&ug sc N cs rest)=true) :
 L2.PSs X ss (λD σ H=>tCm sc N X i L e0 s0 (λρ H=>vd X.K X.d ρ H (oa T n e0 L k d oo b cs s0) D) σ H):=by
 generalize hO:oa T n e0 L k d oo b cs s0=O;unfold oa at hO;cases hev:zV (zB T n) T.b e0 L s0 with
 |g _ _ _=>rw[hev]at hO;subst hO;exact λpins s0 σ H D I ⟨_,_,_,_,_,_,_,_,_,z⟩=>z.elim
 |d=>rw[hev]at hO;subst hO;exact λpins s0 σ H D I ⟨_,_,_,_,_,_,_,_,_,z⟩=>z.elim
 |e vs s1=>
  rw[hev,zN]at hO;obtain⟨fin,rest,rfl,b1⟩:=z9 hss;obtain⟨b2,b3⟩:=zK b1;unfold jJ at b2;by_cases k0:k=0
  . rw[if_pos k0]at b2 hO
    subst hO;obtain⟨q,pq,rfl,b4⟩:=tY b2;obtain⟨y,rfl,b5⟩:=sM b4;refine xV (L2.zp (L2.wV (cq o.a b5 hev hz)) (u:=λ_ _ _=>False) λ_ _ _ _ _ _ z=>z.elim) λD σ H hq=>?_;obtain⟨ρ,p,lfs,hr,er,np,hp,hl,hls,w⟩:=hq;exact⟨ρ,p,lfs,hr,er,np,hp,hl,hls,λρ1 x H1 x1 hr1 r1=>w ρ1 H1 x x1 hr1 r1⟩
  . rw[if_neg k0]at b2 hO
    by_cases k1:k=1
    . rw[if_pos k1]at b2 hO
      obtain⟨q,pq,rfl,b4⟩:=tY b2;obtain⟨y,rfl,b5⟩:=sM b4;cases hd:evE (zB T n) T.b e0 d s1 with
      |g _ _ _=>rw[hd]at hO;subst hO;exact λpins s0 σ H D I ⟨_,_,_,_,_,_,_,_,_,z⟩=>z.elim
      |d=>rw[hd]at hO;subst hO;exact λpins s0 σ H D I ⟨_,_,_,_,_,_,_,_,_,z⟩=>z.elim
      |e w0 s2=>
       rw[hd,zN]at hO;refine xV (L2.zp (L2.wV (cm (op:=.a) o.a (.inl rfl) b5 hev hz hd).1) (u:=λ_ _ _=>False) λ_ _ _ _ _ _ z=>z.elim) λD σ H hq=>?_;obtain⟨ρ,p,lfs,hr,er,np,hp,hl,hls,w⟩:=hq;refine⟨ρ,p,lfs,hr,er,np,hp,hl,hls,?_⟩;cases hc:zS .a (.j vs) w0 s2 with
       |g _ _ _=>rw[hc]at hO;subst hO;exact w.elim
       |d=>rw[hc]at hO;subst hO;exact w.elim
       |e r s3=>
        rw[hc]at hO;subst hO;exact λρ1 x H1 x1 hr1 r1=>w ρ1 H1 x x1 hr1 r1
    . rw[if_neg k1]at b2 hO
      obtain⟨t,xb,yb,pq,rfl,b4⟩:=nS b2;obtain⟨b5,b6⟩:=zK b4;obtain⟨b7,b8⟩:=zK b5;cases AN.mp b7;generalize hT:((evE (zB T n) T.b e0 d s1).bind λy s2=>((zS .c (.j vs) y s2).truth).bind λr s3=>if r then .e true s3 else vG (zB T n) T.b e0 oo s3)=OT at hO
      cases OT with
      |g _ _ _=>subst hO;exact λpins s0 σ H D I ⟨_,_,_,_,_,_,_,_,_,z⟩=>z.elim
      |d=>subst hO;exact λpins s0 σ H D I ⟨_,_,_,_,_,_,_,_,_,z⟩=>z.elim
      |e r s3=>
       rw[zN]at hO;have pt:=Tx o.a b6 hev hz hT;refine xV (L2.zp (L2.pY pt (qc λenv s=>jb _ _ _ _ o b8 env s) L2.rR) (qc λenv s=>jcs _ _ _ _ o b3 env s)) λD σ H hq=>?_;obtain⟨ρ,p,lfs,hr,er,np,hp,hl,hls,w⟩:=hq;refine⟨ρ,p,lfs,hr,er,np,hp,hl,hls,λρ1 H1 x1 hr1=>?_⟩;have w1:=w.mono x1 hr1;cases r with
       |false=>
        refine L2.uR ?_;rw[<-hO]at w1;exact⟨_,s3,ρ1,hr1,er.mono x1,w1⟩
       |true=>
        refine L2.sG ⟨_,s3,ρ1,hr1,er.mono x1,?_⟩;rw[<-hO]at w1;rw[if_pos rfl]at w1;cases hb:zW (zB T n) T.b e0 b s3 with
        |g _ _ _=>rw[hb]at w1;exact w1
        |d=>rw[hb]at w1;exact w1
        |e fl s4=>
         rw[hb,zN]at w1;cases fl with
         |a e'=>exact λρ2 H2 σ2 x2 hr2 er2=>⟨e',s4,ρ2,hr2,er2,w1.mono x2 hr2⟩
         |c e'=>exact w1
         |d e'=>exact w1
         |b v'=>exact w1
theorem pQ(o:OkF T n sc N X)(hz:L.len<=1000)(h:Xx sc N i L st kk=true)(hev:zV (zB T n) T.b e0 L s0=.e vs s1)(htb:wC s=wC s0)
 (hk:∀ss,kk ss=true->L2.PSs X ss (λD σ H=>tCm sc N X i L (env.set i dr) s (λρ H=>vd X.K X.d ρ H O D) σ H)):L2.PSs X st (tSt X.K X.d env s O):=by
 cases L with
 |c=>cases h
 |a e es=>
  obtain⟨t1,ts,rfl,a1⟩:=z9 (show (lc st _)=true from h);obtain⟨a2,a3⟩:=zK a1;obtain⟨tg,v,pos,rfl,a4⟩:=wu a2;obtain⟨q,rfl,a5⟩:=z8 a4;obtain⟨x,px,rfl,a6⟩:=zq a5;obtain⟨a7,a8⟩:=zK a6;obtain⟨ls,lp,rfl,a9⟩:=rq a8;obtain⟨l,rfl,hlm⟩:=z8 a9;simp only[cf,decide_eq_true_eq,Ao]at a7;obtain⟨f,fs,ys,lsc,p2,p3,p4,he,_,h4,h6,h7,h8,_⟩:=ot hlm;obtain⟨v0,sx,ev0,_⟩:=zb hev;rw[he]at ev0;obtain⟨m,us,rfl,_,ht,hmd,_⟩:=j8 o.a.i h8 ev0;have ht:=pO htb ht;exact W8 o.a ht hmd hlm a7.1 a7.2 (fM o.a ht hmd hz (λss hss=>xV (hk ss hss) λD σ H hq=>aQ hq) es ts a3)
theorem iw(jb:JSs T n b)(jcs:JSs T n cs):JSs T n (.g i L .f k d oo b cs):=by
 intro sc N X st o h env s;obtain⟨hz,h⟩:=zK h;have hz:=of_decide_eq_true hz;rw[show zW (zB T n) T.b env (.g i L .f k d oo b cs) s=oa T n (env.set i dr) L k d oo b cs s from if_pos rfl];cases hev:zV (zB T n) T.b (env.set i dr) L s with
 |g _ _ _=>rw[show oa T n (env.set i dr) L k d oo b cs s=_ from congrArg (λx=>Out.bind x _) hev];exact λpins s0 σ H D I ⟨_,_,_,z⟩=>z.elim
 |d=>rw[show oa T n (env.set i dr) L k d oo b cs s=_ from congrArg (λx=>Out.bind x _) hev];exact λpins s0 σ H D I ⟨_,_,_,z⟩=>z.elim
 |e vs s1=>exact pQ o hz h hev rfl λss hss=>eV jb jcs o hz hss
theorem iy(jc:JS T n c)(jb:JSs T n b)(jcs:JSs T n cs):JSs T n (.g i L (.e c .f) k d oo b cs):=by
 intro sc N X st o h env s;obtain⟨hz,h⟩:=zK h;have hz:=of_decide_eq_true hz;generalize hO:zW (zB T n) T.b env (.g i L (.e c .f) k d oo b cs) s=O;have no:∀O:Out Fl,O=.d->L2.PSs X st (tSt X.K X.d env s O):=λO hO=>by subst hO;exact λpins s0 σ H D I ⟨_,_,_,z⟩=>z.elim
 have hO':((zW (zB T n) T.b (env.set i dr) (.e c .f) s).bind λfl s0=>match fl with
  |.a e0=>if wC s=wC s0 then oa T n e0 L k d oo b cs s0 else .d
  |_=>.d)=O:=hO
 have hm:zW (zB T n) T.b (env.set i dr) (.e c .f) s=((exS (zB T n) T.b (env.set i dr) c s).bind λfl s1=>match fl with|.a e=>.e (.a e) s1|fl=>.e fl s1):=rfl
 rw[hm]at hO';cases hc:exS (zB T n) T.b (env.set i dr) c s with
 |g _ _ _=>rw[hc]at hO';subst hO';exact λpins s0 σ H D I ⟨_,_,_,z⟩=>z.elim
 |d=>rw[hc]at hO';exact no O hO'.symm
 |e fl s0=>
  rw[hc,zN]at hO';cases fl with
  |c e=>exact no O hO'.symm
  |d e=>exact no O hO'.symm
  |b v=>exact no O hO'.symm
  |a e0=>
   rw[zN]at hO';simp only[]at hO';by_cases htb:wC s=wC s0
   case neg=>rw[if_neg htb]at hO';exact no O hO'.symm
   rw[if_pos htb]at hO';cases hev:zV (zB T n) T.b e0 L s0 with
   |g _ _ _=>rw[show oa T n e0 L k d oo b cs s0=_ from congrArg (λx=>Out.bind x _) hev]at hO';subst hO';exact λpins s0 σ H D I ⟨_,_,_,z⟩=>z.elim
   |d=>rw[show oa T n e0 L k d oo b cs s0=_ from congrArg (λx=>Out.bind x _) hev]at hO';exact no O hO'.symm
   |e vs s1=>
    refine pQ o hz h hev htb λss hss=>?_;obtain⟨t,ts,rfl,b1⟩:=z9 hss;obtain⟨b2,b3⟩:=zK b1;obtain⟨b4,b5⟩:=zK b2;intro pins sh σ H D I ⟨ρ,p,lfs,hr,er,np,hp,hl,hls,w⟩
    -- the rows between are run with the list's address in the name
    have hi:∀hi:i<env.length,((env.set i dr).set i (some (.s p 0)))[i]?=some (some (.s p 0)):=λhi=>by rw[Av (by rw[AL];exact hi)]
    have ag:Agr i (env.length,dr,some (.s p 0)) (env.set i dr) ((env.set i dr).set i (some (.s p 0))):=⟨AL ..,by rw[AL,AL],λj hj=>(AO (λz=>hj z.symm)).symm,λhl=>Av hl,hi⟩
    have q:=cH (Φ:=zB T n) (G:=T.b) c _ _ s b5 ag;rw[hc]at q;obtain⟨fl',hc',a2⟩:=q;cases fl' with
    |c _=>exact a2.elim
    |d _=>exact a2.elim
    |b _=>exact a2.elim
    |a e1=>
     have pc:=jc _ _ _ _ o b4 ((env.set i dr).set i (some (.s p 0))) s;rw[hc']at pc;have er1:ER X.K X.d ρ H ((env.set i dr).set i (some (.s p 0))) σ:=by
      refine⟨by rw[AL];exact er.b,λj v e=>?_⟩
      by_cases z:i=j
      . subst z
        by_cases hl:i<env.length
        . rw[hi hl]at e;cases e
          exact⟨_,hp,.F _ _⟩
        . rw[Cu (by rw[AL,AL];omega)]at e;cases e
      . rw[AO z]at e;exact er.a j v e
     refine L2.zp pc (eV (e0:=e0) (s0:=s0) jb jcs o hz b3) pins sh σ H D I ⟨ρ,hr,er1,λρ1 H1 σ1 x1 hr1 er2=>?_⟩;have np1:p ∉ ρ1.o:=by
      obtain⟨new,e1,hn⟩:=x1.d;rw[e1];intro hm;rcases AS.mp hm with z|z
      . exact np z
      . rw[hn p z]at hl;cases hl
     have hiσ:i<env.length:=by have:=(Am.mp hp).1;rw[<-er.b,AL]at this;exact this
     obtain⟨y,hy,ry⟩:=er2.a i _ (a2.a2 hiσ);cases ry;refine⟨ρ1,p,lfs,hr1,⟨by rw[a2.c,<-a2.d];exact er2.b,λj v e=>?_⟩,np1,hy,x1.c _ _ hl np,hls.keep (hr.frz x1),?_⟩
     . by_cases z:j=i
       . subst z
         rw[a2.a1 hiσ]at e;cases e
       . rw[a2.b j z]at e;exact er2.a j v e
     . rw[hO'];exact w.mono x1 hr1
end
section
variable (T:Tbl)(n:Nat)
mutual
theorem jS:∀a:Sm,JS T n a
 |.f _=>ZO
 |.d _=>We
 |.s=>λsc N X e o h=>by cases h
 |.g _ _=>Wa
 |.n _ _=>ZN
 |.p _ _=>Wd
 |.u _ _ _=>Wb
 |.l _ _ _=>dF
 |.v _ _ _=>λsc N X e o h=>by cases h
 |.h _ a b=>Uw (jSs a) (jSs b)
 |.k _ _ b=>Wc (jSs b)
 |.m _ b=>dG (jSs b)
 |.r=>λsc N X e o h=>by cases h
 |.w=>λsc N X e o h=>by cases h
 |.q=>λsc N X e o h=>by cases h
 |.j _=>dE
theorem jSs:∀a:Sms,JSs T n a
 |.f=>ZP
 |.e c cs=>dH (jS c) (jSs cs)
 |.g _ _ .f _ _ _ b cs=>iw (jSs b) (jSs cs)
 |.g _ _ (.e c .f) _ _ _ b cs=>iy (jS c) (jSs b) (jSs cs)
 |.g _ _ (.e _ (.e _ _)) _ _ _ _ _=>λsc N X st o h=>by cases h
 |.g _ _ (.e _ (.g ..)) _ _ _ _ _=>λsc N X st o h=>by cases h
 |.g _ _ (.g ..) _ _ _ _ _=>λsc N X st o h=>by cases h
end
end
end M
end
section
namespace M
open PySem
structure OkX(T:Tbl)(n:Nat)(sc:Scope)(N:List Str)(X:L2.Cx)(E:L2.XK):Prop where
 a:OkF T n sc N X.nox
 ps:L2.Passes (L2.CXE X.f X.w) X E
 xr:∀C H,E (.ref C) none H->L2.XR X C H
 lv:Lv T X.f X.w X.K X.d X.h n
 b:∀c,(T.f.lookup c).isSome=true->∃C D,X.d c=some (.ref C)/\L2.ClsAt X.h C (.ref D::L2.veM)/\L2.ClsAt X.h D L2.veM
section
variable (K:KF)(mg:Str->Option Value)(E:L2.XK)
def tX(env:Env)(s:Sto)(x:sq):L2.TS:=λ_ σ H=>∃ρ,HR K mg ρ s H/\ER K mg ρ H env σ/\qt K mg ρ H x E
def tXe(env:Env)(s:Sto)(x:sq):L2.TE:=λσ H _=>∃ρ,HR K mg ρ s H/\ER K mg ρ H env σ/\qt K mg ρ H x E
end
theorem qt.mono(h:qt K mg ρ H x E)(e:Ext ρ H ρ' H')(hr:HR K mg ρ' s H'):qt K mg ρ' H' x E:=by
 cases x with
 |none=>exact h
 |some r=>
  obtain⟨c,as,s'⟩:=r;exact λρ2 H2 x2 hr2 C hC=>h ρ2 H2 (e.trans hr x2) hr2 C hC
noncomputable abbrev wx(T:Tbl):Str->Bool:=λc=>(T.f.lookup c).isSome
section
variable {T:Tbl}{n:Nat}{sc:Scope}{N:List Str}{X:L2.Cx}{E:L2.XK}
theorem zf:¬tXe X.K X.d E env s dr σ H Q:=λ⟨_,_,_,z⟩=>z
theorem ym:¬tX X.K X.d E env s dr D σ H:=λ⟨_,_,_,z⟩=>z
theorem rg(h:T.d f v=dr)vs s:zZ T n f v vs s=dr:=by
 cases n with
 |zero=>rfl
 |succ n=>simp only[zZ,h]
theorem eB(o:OkX T n sc N X E)(h:(L2.vh sc N N' csc fr&&decide N'.Nodup&&ckT csc N' t tg&&ckI sc N it iter tg&&qw csc N' ifs fs&&ck csc N' elt x&&plain iter)=true) :
 ∃(S:L2.zi X N' csc fr) (oc:∀C s0 H0 ex,Ok T n csc N' (X.comp N' csc C s0 H0 ex)) (g:L2.TG),(∀C s0 H0 ex,L2.PG (X.comp N' csc C s0 H0 ex) tg g)/\ckI sc N it iter tg=true/\qw csc N' ifs fs=true/\ck csc N' elt x=true/\plain iter=true:=by
 simp only[cf,decide_eq_true_eq]at h;obtain⟨⟨⟨⟨⟨⟨h1,h2⟩,h3⟩,h4⟩,h5⟩,h6⟩,h7⟩:=h;have S:=pL o.a.a.a h1;have oc:=o.a.a.comp S h2 h1;refine⟨⟨S.b,S.e,S.a,S.d,S.g,S.f,S.h⟩,oc,?_⟩;cases t with
 |a i=>
  cases tg with
  |Name y p=>
   simp only[ckT,cf,Ao,decide_eq_true_eq]at h3;exact⟨_,λC s0 H0 ex=>si (oc C s0 H0 ex).a h3.1 h3.2,h4,h5,h6,h7⟩
  |_=>cases h3
 |b is=>
  cases tg with
  |Tuple es k p=>
   simp only[ckT,cf,decide_eq_true_eq]at h3;refine⟨L2.WG X.K is.length (qE is),λC s0 H0 ex=>?_,h4,h5,h6,h7⟩;obtain⟨a,b,c⟩:=yg (oc C s0 H0 ex).a h3.1;exact L2.v5 (X:=X.comp N' csc C s0 H0 ex) o.a.a.c a b c
  |_=>cases h3
mutual
theorem jxE(o:OkX T n sc N X E):∀(a:Ex) (e:Expr),ck sc N a e=true->∀env s,L2.PE X e (tXe X.K X.d E env s (xE (zB T n) (zZ T n) T.b env a s))
 |.h f v es,e,h=>λenv s=>by
  replace h:(if v<100 then ckA sc f (λxs=>ckL sc N es xs) e else if v<200 then ckB sc N f v es (λl ys=>ckL l N es ys) e else ckV sc N v es (λl ys=>ckL l N es ys) e)=true:=h
  split at h
  . replace h:=ye h
    obtain⟨x,p,xs,pos,rfl,h⟩:=h;simp only[cf,decide_eq_true_eq,xC,Ay]at h;obtain⟨⟨⟨⟨rfl,h2⟩,h3⟩,h4⟩,h5⟩:=h;simp only[xE];cases hv:zV (zB T n) T.b env es s with
    |g _ _ _=>exact yP λ_ _ _=>zf
    |d=>exact yP λ_ _ _=>zf
    |e vs s1=>
     simp only[];cases hf:T.d x v with
     |none=>rw[rg hf];exact yP λ_ _ _=>zf
     |some F=>
      obtain⟨fa,fd,e1,e2,e3,e4,e5⟩:=o.lv.a x v F hf;have hp:=(jL T n es _ _ _ _ o.a.a h4).1 h5 env s;rw[hv]at hp;have hp:=kE hp;cases xs with
      |nil=>
       cases es with
       |a _ _=>cases h4
       |c=>
        cases hv;exact zU (L2.mZ e5 o.a.a.d (o.a.a.a.b x h2) e1 e2 e3 .nil o.ps h3) λσ H Q ⟨ρ,hr,er,w⟩=>⟨ρ,_,[],hr,.d,.inr w⟩
      |cons y ys=>
       rw[zc,cf]at h5;refine zU (L2.nK e5 o.a.a.d (o.a.a.a.b x h2) e1 e2 e3 .nil o.ps hp h3 (L2.ze (zT h5.1)) (yt h5.2)) λσ H Q ⟨ρ,hr,er,w⟩=>⟨ρ,hr,er,λρ1 zs H1 x1 hr1 r1=>?_⟩;show spX T X.K X.d n x v (zs++[]) H1 Q E;rw[Bb];exact⟨ρ1,s1,vs,hr1,r1,.inr (w.mono x1 hr1)⟩
  . rename_i hver
    have hx:xE (zB T n) (zZ T n) T.b env (.h f v es) s=dr:=by
     simp only[xE];cases zV (zB T n) T.b env es s with
     |e vs s1=>exact rg (o.a.a.i f v (by omega)) _ _
     |_=>rfl
    rw[hx];exact yP λ_ _ _=>zf
 |.q op a b,e,h=>λenv s=>by
  replace h:=rD h;obtain⟨l1,o1,r1,p1,rfl,h⟩:=h;simp only[cf,decide_eq_true_eq]at h;obtain⟨⟨⟨⟨k1,rfl⟩,h1⟩,h2⟩,h3⟩:=h;simp only[xE];exact zU (L2.nM (vM (X:=X) o.a.a.d op k1) (jxE o a _ h1 env s) (L2.PE.nox (jE T n b _ _ _ _ o.a.a h2 env s)) (yr h3)) λσ H Q z=>z
 |.g _,_,_=>λ_ _=>yP λ_ _ _=>zf
 |.e _,_,_=>λ_ _=>yP λ_ _ _=>zf
 |.z _,_,_=>λ_ _=>yP λ_ _ _=>zf
 |.K _ _,_,_=>λ_ _=>yP λ_ _ _=>zf
 |.j m op a b,e,h=>λenv s=>by
  replace h:=n6 h;obtain⟨l1,o1,r1,p1,rfl,h⟩:=h;simp only[cf,decide_eq_true_eq]at h;obtain⟨⟨⟨k1,rfl⟩,h1⟩,h2⟩:=h;simp only[xE];exact zU (L2.mh (cK (X:=X) m op k1) (jxE o a _ h1 env s) (L2.PE.nox (jE T n b _ _ _ _ o.a.a h2 env s))) λσ H Q z=>z
 |.B _,_,_=>λ_ _=>yP λ_ _ _=>zf
 |.G _,_,_=>λ_ _=>yP λ_ _ _=>zf
 |.s _ _ _ _ _,_,_=>λ_ _=>yP λ_ _ _=>zf
 |.y _ _,_,_=>λ_ _=>yP λ_ _ _=>zf
 |.I _ _,_,_=>λ_ _=>yP λ_ _ _=>zf
 |.F _ _ _,_,_=>λ_ _=>yP λ_ _ _=>zf
 |.r _,_,_=>λ_ _=>yP λ_ _ _=>zf
 |.A _ _,_,_=>λ_ _=>yP λ_ _ _=>zf
 |.C,_,_=>λ_ _=>yP λ_ _ _=>zf
 |.k f m es,e,h=>λenv s=>by
  replace h:=ye h;obtain⟨x,p,xs,pos,rfl,h⟩:=h;replace h:=z9 h;obtain⟨y,ys,rfl,h⟩:=h;simp only[cf,decide_eq_true_eq,xC]at h;obtain⟨⟨⟨⟨k1,rfl⟩,h2⟩,h3⟩,h4⟩:=h;simp only[xE];have hpa:=jxL o es (y::ys) h3 h4 env s;rw[zc,cf]at h4;have bo:=f.boot;have hg:=o.a.a.a.b _ h2;have hm:=o.a.a.g _ (fR f);have st:=L2.ze (es:=ys) (env:=X.a) (zT h4.1);have hn:=yt (pos:=pos) (env:=X.a) h4.2;cases f with
  |c=>exact zU (L2.yy (r:=λ_ _ _=>False) (λ_ _ _ _ _ _ _ _ _ z=>AA z) hg hm bo hpa (by decide) (by decide) st hn) λσ H Q z=>z
  |j=>exact zU (L2.yy (r:=λ_ _ _=>False) (λ_ _ _ _ _ _ _ _ _ z=>AA z) hg hm bo hpa (by decide) (by decide) st hn) λσ H Q z=>z
  |o=>exact zU (L2.yy (r:=λ_ _ _=>False) (λ_ _ _ _ _ _ _ _ _ z=>AA z) hg hm bo hpa (by decide) (by decide) st hn) λσ H Q z=>z
  |r=>exact zU (L2.yy (r:=λ_ _ _=>False) (λ_ _ _ _ _ _ _ _ _ z=>AA z) hg hm bo hpa (by decide) (by decide) st hn) λσ H Q z=>z
  |_=>exact zU (L2.tP (r:=λ_ _ _=>False) (λ_ _ _ _ _ _ _ _ _ z=>AA z) hg hm bo hpa (by decide) (by decide) st hn) λσ H Q z=>z
 |.D _ _,_,_=>λ_ _=>yP λ_ _ _=>zf
 |.L _ _ _ _,_,_=>λ_ _=>yP λ_ _ _=>zf
 |.u _ _,_,_=>λ_ _=>yP λ_ _ _=>zf
 |.H _ _ _ _ _,_,_=>λ_ _=>yP λ_ _ _=>zf
 |.p m N' fr elt t it ifs,e,h=>λenv s=>by
  replace h:=u9 h;obtain⟨x,tg,iter,fs,csc,cpos,rfl,h⟩:=h;obtain⟨S,oc,g,pg,h4,h5,h6,h7⟩:=eB o h;simp only[xE];have hel:∀C s0 H0 ex,L2.PE (X.comp N' csc C s0 H0 ex) x (uE X.K X.d (zB T n) T.b elt):=λC s0 H0 ex=>gb (X:=X.comp N' csc C s0 H0 ex) λenv s=>jE T n elt _ _ _ _ (oc C s0 H0 ex) h6 env s;have hts:∀C s0 H0 ex,L2.PTs (X.comp N' csc C s0 H0 ex) fs (uTs X.K X.d (zB T n) T.b ifs):=λC s0 H0 ex=>(jCs T n ifs _ _ _ _ (oc C s0 H0 ex) h5).2.2;exact zU (L2.rP o.a.a.c S (jxI o it tg iter h4 env s) pg hts hel (zk h7)) λσ H Q z=>z
 |.w _ _ _ _ _ _ _ _ _ _,_,_=>λ_ _=>yP λ_ _ _=>zf
 |.l _ _ _ _,_,_=>λ_ _=>yP λ_ _ _=>zf
 |.E _,_,_=>λ_ _=>yP λ_ _ _=>zf
 |.J _ _,_,_=>λ_ _=>yP λ_ _ _=>zf
theorem jxL(o:OkX T n sc N X E):∀(as:Exs) (es:List Expr),ckL sc N as es=true->zc es=true->∀env s,L2.PA X es (λσ H _=>tXe X.K X.d E env s (xL (zB T n) (zZ T n) T.b env as s) σ H λ_ _=>False)
 |.c,_,_=>λ_ _ _=>λ_ _ _ _ _ _ _ z=>(zf z).elim
 |.a a as,es,h=>λhp env s=>by
  replace h:=z9 h;obtain⟨e,es,rfl,h⟩:=h;obtain⟨h1,h2⟩:=zK h;cases as with
  |a _ _=>exact λ_ _ _ _ _ _ _ z=>(zf z).elim
  |c=>
   cases AN.mp h2;simp only[xL];exact λpos pins s0 σ H Q I z=>L2.yo (jxE o a e h1 env s) L2.yT (L2.ze (zT (by rw[zc,cf]at hp;exact hp.1))) pos pins s0 σ H Q I z
theorem jxI(o:OkX T n sc N X E):∀(it:Itb) (tg e:Expr),ckI sc N it e tg=true->∀env s,L2.PI X tg e (λσ H _=>tXe X.K X.d E env s (xI (zB T n) (zZ T n) T.b env it s) σ H λ_ _=>False)
 |.d a,tg,e,h=>λenv s pins s0 σ H R I z=>by
  simp only[xI]at z;exact AY (jxE o a e h env s pins s0 σ H (λ_ _=>False) I z) (λv s1 ⟨_,_,_,_,q⟩=>q.elim) λ_ _ q=>q
 |.c _,_,_,_=>λ_ _ _ _ _ _ _ _ z=>(zf z).elim
 |.f _ _,_,_,_=>λ_ _ _ _ _ _ _ _ z=>(zf z).elim
 |.g _,_,_,_=>λ_ _ _ _ _ _ _ _ z=>(zf z).elim
 |.h _ _,_,_,_=>λ_ _ _ _ _ _ _ _ z=>(zf z).elim
end
theorem jxT(o:OkX T n sc N X E):∀c e,ckC sc N c e=true->∀env s,L2.PT X e (λσ H _=>tXe X.K X.d E env s (xT (zB T n) (zZ T n) T.b env c s) σ H λ_ _=>False)
 |.a a,e,h=>λenv s=>by
  obtain⟨h1,h2⟩:=zK h;cases a with
  |h f v es=>
   simp only[xT];rcases (Ao _ _).mp h2 with h2|h2
   . exact v7 (L2.mw (jxE o (.h f v es) e h1 env s) (pX h2)) λσ H Q z=>z
   . exfalso
     obtain⟨l,os,rs,p,rfl⟩:=fu (of_decide_eq_true h2);cases fo h1
  |_=>exact jx λ_ _ _=>zf
 |.b c,e,h=>λenv s=>by
  replace h:=rE h;obtain⟨x,p,rfl,h⟩:=h;simp only[xT];exact v7 (L2.kL (jxT o c _ h env s)) λσ H Q z=>z
 |.d _ _,_,_=>λ_ _=>jx λ_ _ _=>zf
 |.f _ _,_,_=>λ_ _=>jx λ_ _ _=>zf
theorem js(h:pS vs=true):(∃x,vs=[.g x])\/∃i j:Int,vs=[.c i,.c j]/\i.natAbs<2 ^ 64/\j.natAbs<2 ^ 64:=by
 unfold pS at h;split at h
 . exact .inl ⟨_,rfl⟩
 . rw[cf,decide_eq_true_eq,decide_eq_true_eq]at h
   exact .inr ⟨_,_,rfl,h⟩
 . cases h
theorem dg(o:OkX T n sc N X E)(h:ckS sc N (.j e) st=true)env s:L2.PS X st (tX X.K X.d E env s (xS (wx T) (zB T n) (zZ T n) T.b env (.j e) s)):=by
 cases e with
 |h c v es=>
  replace h:=YB h;obtain⟨q,b,pos,rfl,h⟩:=h;obtain⟨h0,hh⟩:=zK h;cases B4.mp h0;replace h:=sM hh;obtain⟨q,rfl,h⟩:=h;replace h:=ye h;obtain⟨x,np,xs,cpos,rfl,h⟩:=h;replace h:=z8 h;obtain⟨a,rfl,h⟩:=h;simp only[cf,decide_eq_true_eq,xC,Ay,Ao]at h;obtain⟨⟨⟨rfl,h2⟩,h3⟩,h4⟩:=h;simp only[xS];cases hv:zV (zB T n) T.b env es s with
  |g _ _ _=>exact xY λ_ _ _=>ym
  |d=>exact xY λ_ _ _=>ym
  |e vs s1=>
   simp only[];by_cases hm:(pS vs&&(T.f.lookup x).isSome)=true
   case neg=>rw[if_neg hm];exact xY λ_ _ _=>ym
   rw[if_pos hm];rw[cf]at hm;obtain⟨C,D,m1,m2,m3⟩:=o.b x hm.2;rcases h4 with⟨h4,h5⟩|h4
   . have hp:=(jL T n es _ _ _ _ o.a.a h4).1 (by rw[zc,zc,Bool.and_true];exact h5) env s
     rw[hv]at hp;refine yF (L2.mr o.a.a.d.a (o.a.a.a.b x h2) m1 m2 m3 (kE hp) h3 (L2.ze (zT h5)) rfl) λD' σ H ⟨ρ,hr,er,w⟩=>⟨ρ,hr,er,λρ1 xs H1 x1 hr1 r1=>⟨?_,o.xr C H1 (w ρ1 H1 x1 hr1 C m1)⟩⟩;rw[<-r1.length,AK];rcases js hm.1 with⟨x,rfl⟩|⟨i,j,rfl,_⟩
     . simp
     . simp
   . replace h4:=ah h4
     obtain⟨u,v',c1,c2,c3,k1,k2,k3,p1,p2,p3,p4,p5,pos',rfl,z1,z2,z3,h4⟩:=h4;obtain⟨e1,e2,rfl,h41,h42⟩:∃e1 e2,es=.a e1 (.a e2 .c)/\ck sc N e1 u=true/\ck sc N e2 v'=true:=by
      cases es with
      |c=>cases h4
      |a e1 es=>
       obtain⟨q1,q2⟩:=zK h4;cases es with
       |c=>cases q2
       |a e2 es=>
        obtain⟨q3,q4⟩:=zK q2;cases es with
        |c=>exact⟨e1,e2,rfl,q1,q3⟩
        |a _ _=>cases q4
     obtain⟨v1,s2,q1,hv⟩:=zb hv;obtain⟨vs',s3,q2,hv⟩:=zb hv;obtain⟨v2,s4,q3,q2⟩:=zb q2;cases q2;cases hv;have pe:=L2.Tp (c1:=c1) (c2:=c2) (c3:=c3) (k1:=k1) (k2:=k2) (k3:=k3) (p1:=p1) (p2:=p2) (p3:=p3) (p4:=p4) (p5:=p5) (pos:=pos') (L2.PE.nox (jE T n e1 _ _ _ _ o.a.a h41 env s)) (L2.PE.nox (jE T n e2 _ _ _ _ o.a.a h42 env s2)) z1 z2 z3;rcases js hm.1 with⟨x,z⟩|⟨i,j,z,hi,hj⟩
     . cases z
     . cases z
       rw[q1,q3]at pe;refine yF (L2.mr o.a.a.d.a (o.a.a.a.b x h2) m1 m2 m3 (L2.yo pe L2.yT) h3 rfl rfl) λD' σ H ⟨ρ,hr,er,w⟩=>⟨ρ,hr,er,λρ1 y1 H1 x1 hr1 r1=>?_⟩;cases r1;refine⟨i,rfl,hi,ρ1,hr1,er.mono x1,λρ2 y2 H2 x2 hr2 r2=>?_⟩;cases r2;exact⟨j,rfl,hj,λz=>⟨by rw[AK];simp,o.xr C H2 (w ρ2 H2 (x1.trans hr1 x2) hr2 C m1)⟩⟩
 |_=>exact xY λ_ _ _=>ym
theorem Wt(o:OkX T n sc N X E)(h:ckS sc N (.g i e) st=true)env s:L2.PS X st (tX X.K X.d E env s (xE (zB T n) (zZ T n) T.b env e s)):=by
 replace h:=wu h;obtain⟨ts1,v,pos,rfl,h⟩:=h;replace h:=z8 h;obtain⟨t1,rfl,h⟩:=h;replace h:=zq h;obtain⟨x,px,rfl,h⟩:=h;simp only[cf,decide_eq_true_eq,Ao]at h;obtain⟨⟨h1,h2⟩,h3⟩:=h;obtain⟨l1,l2⟩:=o.a.a.a.c x h2;have hN:X.N.Nodup:=by have:=o.a.a.a.a;rw[show X.N=N from this];exact o.a.a.a.d
 have hi:X.N[i]?=some x:=by have:=o.a.a.a.a;rw[show X.N=N from this];exact h1
 by_cases hn:uJ v=true
 . exact yF (L2.wW hN hi l1 (jxE o e _ h3 env s) (uA hn) l2) λD σ H z=>z
 . cases e with
   |h _ _ _=>exact absurd (mR h3 rfl) hn
   |q _ _ _=>exact absurd (mR h3 rfl) hn
   |j _ _ _ _=>exact absurd (mR h3 rfl) hn
   |k _ _ _=>exact absurd (mR h3 rfl) hn
   |p m N' fr elt t it ifs=>
    replace h3:=u9 h3;obtain⟨x',tg,iter,fs,csc,cpos,rfl,h3⟩:=h3;obtain⟨S,oc,g,pg,c4,c5,c6,c7⟩:=eB o h3;have hts:∀C s0 H0 ex,L2.PTs (X.comp N' csc C s0 H0 ex) fs (uTs X.K X.d (zB T n) T.b ifs):=λC s0 H0 ex=>(jCs T n ifs _ _ _ _ (oc C s0 H0 ex) c5).2.2;have hel:∀C s0 H0 ex,L2.PE (X.comp N' csc C s0 H0 ex) x' (uE X.K X.d (zB T n) T.b elt):=λC s0 H0 ex=>gb (X:=X.comp N' csc C s0 H0 ex) λenv s=>jE T n elt _ _ _ _ (oc C s0 H0 ex) c6 env s;obtain⟨b,hb⟩:=uq (elt:=x') (gens:=[⟨tg,iter,fs,0⟩]) (csc:=csc) (cpos:=cpos) (y:=x) (py:=px) (l:=pos.line) (env:=X.a);simp only[xE];cases b with
    |true=>exact yF (L2.jw o.a.a.c S (jxI o it tg iter c4 env s) pg hts hel hN hi l1 hb l2 (zk c7)) λD σ H z=>z
    |false=>exact yF (L2.wW hN hi l1 (L2.rP o.a.a.c S (jxI o it tg iter c4 env s) pg hts hel (zk c7)) hb l2) λD σ H z=>z
   |_=>exact xY λ_ _ _=>ym
def uX(T:Tbl)(n:Nat)(X:L2.Cx)(E:L2.XK)(b:Sms):L2.TS:=λD σ H=>∃env s,tX X.K X.d E env s (xSs (wx T) (zB T n) (zZ T n) T.b env b s) D σ H
mutual
theorem jxS(o:OkX T n sc N X E):∀(a:Sm) (st:Stmt),ckS sc N a st=true->∀env s,L2.PS X st (tX X.K X.d E env s (xS (wx T) (zB T n) (zZ T n) T.b env a s))
 |.f e,st,h=>λenv s=>by
  replace h:=qh h;obtain⟨x1,p1,rfl,h⟩:=h;simp only[cf]at h;simp only[xS];exact yF (L2.rQ (jxE o e _ h.1 env s) (uA h.2)) λD σ H z=>z
 |.d e,st,h=>λenv s=>by
  replace h:=tY h;obtain⟨q1,p1,rfl,h⟩:=h;replace h:=sM h;obtain⟨x1,rfl,h⟩:=h;simp only[xS];exact yF (L2.wV (jxE o e _ h env s)) λD σ H z=>z
 |.g i e,st,h=>λenv s=>by simp only[xS];exact Wt o h env s
 |.j e,st,h=>λenv s=>dg o h env s
 |.h c a b,st,h=>λenv s=>by
  replace h:=nS h;obtain⟨t1,x1,y1,p1,rfl,h⟩:=h;simp only[cf]at h;have pc:=L2.PT.nox (jC T n c _ _ _ _ o.a.a h.1.1 env s);have pn:∀{ss:List Stmt},L2.PSs X ss (λ_ _ _=>False):=λpins s0 σ H D I q=>q.elim;simp only[xS];cases hc:evT (zB T n) T.b env c s with
  |g _ _ _=>exact yF (L2.pY (jxT o c _ h.1.1 env s) pn pn) λD σ H z=>z
  |d=>exact yF (L2.pY (jxT o c _ h.1.1 env s) pn pn) λD σ H z=>z
  |e t s1=>
   rw[hc]at pc;have pa:L2.PSs X _ (uX T n X E a):=λpins s0 σ H D I ⟨env',s',q⟩=>ZZ o a _ h.1.2 env' s' pins s0 σ H D I q;have pb:L2.PSs X _ (uX T n X E b):=λpins s0 σ H D I ⟨env',s',q⟩=>ZZ o b _ h.2 env' s' pins s0 σ H D I q;refine yF (L2.pY pc pa pb) λD σ H ⟨ρ,hr,er,w⟩=>⟨ρ,hr,er,λρ1 t' H1 x1 hr1 ht=>?_⟩;cases ht;simp only[]at w;cases t with
   |true=>exact L2.sG ⟨env,s1,ρ1,hr1,er.mono x1,qt.mono w x1 hr1⟩
   |false=>exact L2.uR ⟨env,s1,ρ1,hr1,er.mono x1,qt.mono w x1 hr1⟩
 |.s,_,_=>λ_ _=>xY λ_ _ _=>ym
 |.n _ _,_,_=>λ_ _=>xY λ_ _ _=>ym
 |.p _ _,_,_=>λ_ _=>xY λ_ _ _=>ym
 |.u _ _ _,_,_=>λ_ _=>xY λ_ _ _=>ym
 |.l _ _ _,_,_=>λ_ _=>xY λ_ _ _=>ym
 |.k _ _ _,_,_=>λ_ _=>xY λ_ _ _=>ym
 |.m _ _,_,_=>λ_ _=>xY λ_ _ _=>ym
 |.r,_,_=>λ_ _=>xY λ_ _ _=>ym
 |.w,_,_=>λ_ _=>xY λ_ _ _=>ym
 |.q,_,_=>λ_ _=>xY λ_ _ _=>ym
 |.v _ _ _,_,_=>λ_ _=>xY λ_ _ _=>ym
theorem ZZ(o:OkX T n sc N X E):∀(b:Sms) (st:List Stmt),ug sc N b st=true->∀env s,L2.PSs X st (tX X.K X.d E env s (xSs (wx T) (zB T n) (zZ T n) T.b env b s))
 |.f,_,_=>λ_ _=>λpins s0 σ H D I q=>(ym q).elim
 |.e c cs,st,h=>λenv s=>by
  replace h:=z9 h;obtain⟨t0,ts,rfl,h⟩:=h;rw[cf]at h;simp only[xSs];have no:L2.PSs X ts (λ_ _ _=>False):=λpins s0 σ H D I q=>q.elim;cases hc:exS (zB T n) T.b env c s with
  |g _ _ _=>exact xV (L2.zp (jxS o c _ h.1 env s) no) λD σ H z=>z
  |d=>exact xV (L2.zp (jxS o c _ h.1 env s) no) λD σ H z=>z
  |e fl s1=>
   simp only[];cases fl with
   |a e=>
    have p1:=jS T n c _ _ _ _ o.a h.1 env s;rw[hc]at p1;have p1':L2.PS X t0 (tSt X.K X.d env s (.e (.a e) s1)):=λpins s0 σ H D I q=>AY (p1 pins s0 σ H D (I.wF _) q) (λ_ _ z=>z.yu) λ_ _ z=>AA z;have p2:L2.PSs X ts (uX T n X E cs):=λpins s0 σ H D I ⟨env',s',q⟩=>ZZ o cs _ h.2 env' s' pins s0 σ H D I q;refine xV (L2.zp p1' p2) λD σ H ⟨ρ,hr,er,w⟩=>⟨ρ,hr,er,λρ1 H1 σ1 x1 hr1 er1=>?_⟩;exact⟨e,s1,ρ1,hr1,er1,qt.mono w x1 hr1⟩
   |b _=>exact λpins s0 σ H D I q=>(ym q).elim
   |c _=>exact λpins s0 σ H D I q=>(ym q).elim
   |d _=>exact λpins s0 σ H D I q=>(ym q).elim
 |.g _ _ _ _ _ _ _ _,_,_=>λ_ _=>λpins s0 σ H D I q=>(ym q).elim
end
end
end M
end
section
namespace M
open PySem
mutual
noncomputable def pf(n:Nat):Val->Bool
 |.m i|.q i=>decide (i<n)
 |.f vs=>wY n vs
 |.j vs=>wY n vs
 |.h|.e _|.c _|.g _|.o|.p _|.r _|.t _|.u _|.s _ _=>true
noncomputable def wY(n:Nat):List Val->Bool
 |[]=>true
 |v::vs=>pf n v&&wY n vs
end
mutual
theorem tU{n:Nat}{v:Val}(h:v.noRef=true):pf n v=true:=by
 cases v with
 |m _=>cases h
 |q _=>cases h
 |f vs=>exact wq (vs:=vs) h
 |j vs=>exact wq (vs:=vs) h
 |_=>rfl
theorem wq{n:Nat}{vs:List Val}(h:zo vs=true):wY n vs=true:=by
 cases vs with
 |nil=>rfl
 |cons v vs=>
  rw[zo,cf]at h;rw[wY,tU h.1,wq h.2];rfl
end
section
variable {K:KF}{mg:Str->Option Value}
mutual
theorem RD.refs{ρ:Own}{H:L2.Hp}{v:Val}{x:L2.V}(q:RD K mg ρ H v x):pf ρ.o.length v=true:=by
 cases q with
 |m _ _ r=>exact RDs.refs r
 |E _ _ r=>exact RDs.refs r
 |C e _=>exact decide_eq_true (Am.mp e).1
 |s e _=>exact decide_eq_true (Am.mp e).1
 |_=>rfl
theorem RDs.refs{ρ:Own}{H:L2.Hp}{v:List Val}{x:List L2.V}(q:RDs K mg ρ H v x):wY ρ.o.length v=true:=by
 cases q with
 |d=>rfl
 |a r rs=>rw[wY,RD.refs r,RDs.refs rs];rfl
end
structure Cut(ρ ρ':Own):Prop where
 b:∃new,ρ'.o=ρ.o++new
 d:ρ'.h=ρ.h
theorem Cut.no(c:Cut ρ ρ')(n:ρ'.no a):ρ.no a:=by obtain⟨new,e⟩:=c.b;exact⟨λh=>n.1 (by rw[e];exact Bs _ h),by rw[<-c.d];exact n.2⟩
mutual
theorem RD.uS{ρ ρ':Own}{H:L2.Hp}(c:Cut ρ ρ'){v:Val}{x:L2.V}(q:RD K mg ρ' H v x)(h:pf ρ.o.length v=true):RD K mg ρ H v x:=by
 have at':∀{i:Nat} {a:Addr},ρ'.o[i]?=some a->decide (i<ρ.o.length)=true->ρ.o[i]?=some a:=λ{i a} e h=>by obtain⟨new,e'⟩:=c.b;rw[e',AW (of_decide_eq_true h)]at e;exact e
 cases q with
 |A=>exact .A
 |j b=>exact .j b
 |l i=>exact .l i
 |D t=>exact .D t
 |m n e r=>exact .m (c.no n) e (RDs.uS c r h)
 |E n e r=>exact .E (c.no n) e (RDs.uS c r h)
 |B n e=>exact .B (c.no n) e
 |p g=>exact .p g
 |G g=>
  refine .G ?_;rcases g with⟨n,g⟩|g
  . exact .inl ⟨c.no n,g⟩
  . exact .inr g
 |C e k=>exact .C (at' e h) k
 |s e k=>exact .s (at' e h) k
 |I e=>exact .I e
 |J n=>exact .J n
 |F a k=>exact .F a k
theorem RDs.uS{ρ ρ':Own}{H:L2.Hp}(c:Cut ρ ρ'){v:List Val}{x:List L2.V}(q:RDs K mg ρ' H v x)(h:wY ρ.o.length v=true):RDs K mg ρ H v x:=by
 cases q with
 |d=>exact .d
 |a r rs=>
  rw[wY,cf]at h;exact .a (RD.uS c r h.1) (RDs.uS c rs h.2)
end
noncomputable def oX:Cel->List Val
 |.c vs=>vs
 |.e kvs=>kvs.map (·.2)
 |.f kvs=>kvs.map (·.2)
 |.d _=>[]
theorem CR.vals(h:CR K mg ρ H a c):∃xs,RDs K mg ρ H (oX c) xs:=by
 cases c with
 |c vs=>obtain⟨xs,_,r⟩:=h;exact⟨_,r⟩
 |e kvs=>obtain⟨xs,_,_,r⟩:=h;exact⟨_,r⟩
 |f kvs=>obtain⟨xs,_,_,r⟩:=h;exact⟨_,r⟩
 |d x=>exact⟨[],.d⟩
theorem iT(h:c.noRef=true):zo (oX c)=true:=by cases c<;>first|exact h|rfl
theorem CR.uS(c:Cut ρ ρ')(h:CR K mg ρ' H a o)(hb:wY ρ.o.length (oX o)=true):CR K mg ρ H a o:=by
 cases o with
 |c vs=>obtain⟨xs,e,r⟩:=h;exact⟨xs,e,RDs.uS c r hb⟩
 |e kvs=>obtain⟨xs,e,k,r⟩:=h;exact⟨xs,e,k,RDs.uS c r hb⟩
 |f kvs=>obtain⟨xs,e,k,r⟩:=h;exact⟨xs,e,k,RDs.uS c r hb⟩
 |d y=>
  obtain⟨ps,e1,k,r,g⟩:=h;refine⟨ps,e1,k,λpos cv hc=>?_,g⟩;obtain⟨a,o,vs,t,q1,q2,q3,q4⟩:=r pos cv hc;exact⟨a,o,vs,t,q1,c.no q2,q3,q4⟩
theorem nJ{α β:Type}:∀{a b:List (α × β)},a.map (·.1)=b.map (·.1)->a.map (·.2)=b.map (·.2)->a=b
 |[],[],_,_=>rfl
 |[],_::_,h,_=>by cases h
 |_::_,[],h,_=>by cases h
 |x::xs,y::ys,h1,h2=>by
  rw[A7,A7]at h1 h2;injection h1 with a1 a2
  injection h2 with b1 b2
  rw[nJ a2 b2,Prod.ext a1 b1]
theorem mV:∀{s s'} {i} {o'},x9 s s'=true->i<s.length->s'[i]?=some o'->o'.noRef=true\/s[i]?=some o'
 |[],_,_,_,_,h,_=>by cases h
 |o::r,[],_,_,h,_,_=>by cases h
 |o::r,o'::r',0,q,h,_,e=>by
  rw[x9,cf,Ao]at h;simp only[List.getElem?_cons_zero,DQ]at e;subst e;rcases h.1 with z|z
  . exact .inl z
  . right
    cases o' with
    |c a=>cases o with
     |c b=>simp only[Cel.beq]at z;rw[uz z];rfl
     |_=>cases z
    |e a=>cases o with
     |e b=>simp only[Cel.beq,cf,decide_eq_true_eq]at z;rw[nJ z.1 (uz z.2)];rfl
     |_=>cases z
    |f a=>cases o with
     |f b=>simp only[Cel.beq,cf,decide_eq_true_eq]at z;rw[nJ z.1 (uz z.2)];rfl
     |_=>cases z
    |d a=>cases o with
     |d b=>simp only[Cel.beq,decide_eq_true_eq]at z;rw[z];rfl
     |_=>cases z
 |o::r,o'::r',i+1,q,h,hi,e=>by
  rw[x9,cf]at h;have:=mV (i:=i) h.2 (by simpa using hi) (by simpa using e)
  simpa using this
noncomputable def Vg:Val->Bool
 |.m _|.q _|.f _=>false
 |.h|.e _|.c _|.g _|.o|.p _|.r _|.t _|.u _|.j _|.s _ _=>true
theorem aw{n:Nat}{s:Sto}{k i:Nat}:vH n s k (.m i)=if i<n then some (Val.m i) else match s[i]? with
 |some (.c vs)=>if zo vs then some (.j vs) else dr
 |_=>dr:=by cases k<;>rfl
theorem eY:vH n s k (.q i)=if i<n then some (Val.q i) else dr:=by cases k<;>rfl
theorem eZ(h:Vg v=true):vH n s k v=if v.noRef then some v else dr:=by
 cases v with
 |m _=>cases h
 |q _=>cases h
 |f _=>cases h
 |_=>cases k<;>rfl
theorem av:tF n s k []=some []:=by cases k<;>rfl
mutual
theorem qD{ρ ρ':Own}{H:L2.Hp}{s:Sto}(c:Cut ρ ρ')(hr:HR K mg ρ' s H){k:Nat}{v v':Val}{x:L2.V}(r:RD K mg ρ' H v x)(h:vH ρ.o.length s k v=some v'):RD K mg ρ H v' x:=by
 have sv:∀{w:Val},RD K mg ρ' H w x->(if w.noRef then some w else dr)=some v'->RD K mg ρ H v' x:=λ{w} r h=>by
  split at h
  . rename_i hn;cases h;exact RD.uS c r (tU hn)
  . cases h
 cases v with
 |m i=>
  rw[aw]at h;cases r with
  |C e hkd=>
   by_cases hi:i<ρ.o.length
   . rw[if_pos hi]at h
     cases h;exact RD.uS c (.C e hkd) (by rw[pf];exact decide_eq_true hi)
   . rw[if_neg hi]at h
     split at h
     . rename_i vs hs
       split at h
       . rename_i hn
         cases h;obtain⟨a,xs,e1,e2,q⟩:=hr.obj i vs hs;rw[e]at e1;cases e1;obtain⟨new,e'⟩:=c.b;have hm:=AU e;refine .E ⟨λhm'=>?_,λhh=>?_⟩ e2 (RDs.uS c q (wq hn))
         . obtain⟨j,hj,ej⟩:=Bp hm'
           have ej':ρ'.o[j]?=ρ'.o[i]?:=by rw[e,e',AW hj,Ad hj,ej]
           have:=d8 hr.v e (ej'.trans e);exact hi (this▸hj)
         . exact(hr.d _ (by rw[c.d];exact hh)).2 hm
       . cases h
     . cases h
 |q i=>
  rw[eY]at h;split at h
  . rename_i hi
    cases h;exact RD.uS c r (by rw[pf];exact decide_eq_true hi)
  . cases h
 |f vs=>
  cases k with
  |zero=>exact sv r h
  |succ k=>
   rw[vH,A8]at h;obtain⟨ws,h1,rfl⟩:=h;cases r with
   |m n e q=>exact .m (c.no n) e (qC c hr q h1)
 |_=>exact sv r ((eZ rfl).symm.trans h)
theorem qC{ρ ρ':Own}{H:L2.Hp}{s:Sto}(c:Cut ρ ρ')(hr:HR K mg ρ' s H){k:Nat}{v v':List Val}{x:List L2.V}(r:RDs K mg ρ' H v x)(h:tF ρ.o.length s k v=some v'):RDs K mg ρ H v' x:=by
 cases r with
 |d=>rw[av]at h;cases h;exact .d
 |@a v _ vs _ r1 r2=>
  cases k with
  |zero=>cases h
  |succ k=>
   rw[tF]at h;split at h
   . rename_i a b ha hb
     cases h;refine .a ?_ (qC c hr r2 hb);by_cases hn:v.noRef=true
     . rw[if_pos hn]at ha;cases ha;exact RD.uS c r1 (tU hn)
     . rw[if_neg hn]at ha;exact qD c hr r1 ha
   . cases h
end
theorem mO(h0:HR K mg ρ s H)(w:yL K mg (RD K mg) ρ H (leave F s v s1) Q)(X:Ext ρ H ρ' H')(hr:HR K mg ρ' s1 H')(r:RD K mg ρ' H' v x):Q x H':=by
 unfold leave at w;by_cases hk:F.c=true
 . rw[if_pos hk]at w;exact w ρ' x H' X hr r
 . rw[if_neg hk]at w
   by_cases ho:x9 s s1=true
   . rw[if_pos ho]at w
     have c:Cut ρ ρ':=⟨by obtain⟨new,e,_⟩:=X.d;exact⟨new,e⟩,X.f⟩
     cases hf:freeze s.length s1 v with
     |none=>rw[hf]at w;exact w.elim
     |some v'=>
      rw[hf]at w;have hlen:s.length<=s1.length:=by obtain⟨new,e,_⟩:=X.d;rw[<-h0.f,<-hr.f,e,Ap];omega
      refine w ρ x H' ⟨⟨[],by simp,λa ha=>by cases ha⟩,rfl,X.c,X.g⟩ ⟨?_,h0.v,λi vs e=>?_,λa ha=>?_⟩ ?_
      . rw[BN,h0.f];omega
      . have hi:i<s.length:=by have:=(Am.mp e).1;rw[BN]at this;omega
        rw[Fy hi]at e;obtain⟨a,e1,q⟩:=hr.m i vs e;have e3:ρ.o[i]?=some a:=by
         obtain⟨new,e',_⟩:=X.d;rw[e',AW (by rw[h0.f];exact hi)]at e1
         exact e1
        refine⟨a,e3,q.uS c ?_⟩;rcases mV ho hi e with z|z
        . exact wq (iT z)
        . obtain⟨b,_,q'⟩:=h0.m i vs z
          obtain⟨xs,q2⟩:=q'.vals;exact RDs.refs q2
      . obtain⟨z,n⟩:=hr.d a (by rw[X.f];exact ha)
        exact⟨z,(h0.d a ha).2⟩
      . unfold freeze at hf
        by_cases hn:v.noRef=true
        . rw[if_pos hn]at hf;cases hf;exact RD.uS c r (tU hn)
        . rw[if_neg hn,<-h0.f]at hf
          exact qD c hr r hf
   . rw[if_neg ho]at w;exact w.elim
theorem m6(r:RDs K mg ρ H args vs):ER K mg ρ H (za N args) (L2.start N vs):=by
 refine⟨by unfold za L2.start;rw[Ap,Ap,Ai,Ai,Cr,Cr,r.length],λi v e=>?_⟩
 unfold za at e;unfold L2.start;by_cases hi:i<args.length
 . rw[AW (by simpa using hi),AX]at e
   rw[AW (by rw[Ai,<-r.length];exact hi),AX]
   cases ha:args[i]? with
   |none=>rw[ha]at e;cases e
   |some a=>
    rw[ha]at e;have:a=v:=AQ (AQ e);subst this;obtain⟨x,h1,h2⟩:=r.get ha;exact⟨x,by rw[h1];rfl,h2⟩
 . rw[BF (by simpa using hi),DN]at e
   split at e<;>cases e
end
noncomputable def argNames(a:D9):Option (List Str):=
 if a.posonlyargs.isEmpty&&a.vararg.isNone&&a.kwonlyargs.isEmpty&&a.kw_defaults.isEmpty&&a.kwarg.isNone&&a.defaults.isEmpty then some (a.args.map (·.arg)) else none
def iU(st:Stmt)(F:Fn):Bool:=
 match st with
 |.FunctionDef _ args body _ _ _ sc _ _ _=>decide (argNames args=some F.b)&&decide (sc.kind=.function)&&!sc.isCoroutine&&!sc.isGenerator&&decide F.N.Nodup&&decide (F.N.take F.b.length=F.b) &&
  F.b.all (λx=>decide (sc.names.lookup x=some .local)||decide (sc.names.lookup x=some .cell))&&sc.names.all (λy=>decide (y.2≠.free))&&ug sc F.N F.a body
 |_=>false
theorem lq:∀{ps:List Str} {us:List Value},ps.Nodup->us.length=ps.length->ps.filterMap (λn=>((ps.zip us).lookup n).map (n,·))=ps.zip us:=by
 have key:∀(ps qs:List Str) (us ws:List Value),(qs++ps).Nodup->us.length=ps.length->ws.length=qs.length->ps.filterMap (λn=>(((qs++ps).zip (ws++us)).lookup n).map (n,·))=ps.zip us:=by
  intro ps;induction ps with
  |nil=>intro qs us ws _ _ _;rfl
  |cons p ps ih=>
   intro qs us ws nd h1 h2;cases us with
   |nil=>cases h1
   |cons u us=>
    have hl:((qs++p::ps).zip (ws++u::us)).lookup p=some u:=by
     rw[List.zip_append h2.symm];have:∀(qs:List Str) (ws:List Value),p ∉ qs->((qs.zip ws)++(p::ps).zip (u::us)).lookup p=some u:=by
      intro qs;induction qs with
      |nil=>intro ws _;simp
      |cons q qs ih2=>
       intro ws hn;cases ws with
       |nil=>simp
       |cons w ws=>
        have hpq:(p == q)=false:=by
         have:p≠q:=λz=>hn (by rw[z];exact As)
         simpa using this
        rw[List.zip_cons_cons,FE,An,hpq];exact ih2 ws λz=>hn (Ah _ z)
     refine this qs ws λz=>?_;rw[Fo]at nd;exact nd.2.2 p z p As rfl
    rw[A3,hl];have:=ih (qs++[p]) us (ws++[u]) (by simpa using nd) (by simpa using h1) (by simp[h2])
    rw[Bx,Bx]at this;exact congrArg ((p,u)::·) this
 intro ps us nd h;simpa using key ps [] us [] (by simpa using nd) h rfl
theorem lookup_some:∀{ps:List Str} {us:List Value},us.length=ps.length->∀n∈ps,((ps.zip us).lookup n).isNone=false
 |[],_,_,n,h=>by cases h
 |p::ps,[],h,_,_=>by cases h
 |p::ps,u::us,h,n,hn=>by
  rw[List.zip_cons_cons,An];cases hb:(n == p) with
  |true=>rfl
  |false=>
   have:n≠p:=by simpa using hb
   rcases Ak.mp hn with z|z
   . exact absurd z this
   . exact lookup_some (by simpa using h) n z
theorem u0(h:argNames a=some ps)(nd:ps.Nodup)us(hl:us.length=ps.length) :
 Gi (BE x qual a body sc .none kV doc pm an cdv ct) ⟨us,[]⟩=pure (ps.zip us):=by
 unfold argNames at h;split at h
 . rename_i hc
   simp only[cf,AN,B4]at hc;obtain⟨⟨⟨⟨⟨h1,h2⟩,h3⟩,h4⟩,h5⟩,h6⟩:=hc;cases h;obtain⟨po,ar,va,ko,kd,kw,df⟩:=a;simp only at h1 h2 h3 h4 h5 h6 hl nd ⊢;subst h1 h2 h3 h4 h5 h6;have hm:((ar.map (·.arg)).take ((ar.map (·.arg)).length-0)).filter (λn=>(((ar.map (·.arg)).zip us).lookup n).isNone)=[]:=by rw[List.filter_eq_nil_iff];intro n hn;rw[lookup_some hl n (EA hn)];decide
   unfold Gi;have hd:Ef Cg=pure none:=rfl;have hg:¬(us.length > (ar.map (·.arg)).length/\True):=by rintro ⟨z,_⟩;omega
   simp only[BE,List.map_nil,Ds,Bb,Ge,Dz,hd,FA,List.toList_toArray,B5,List.drop_nil,Nat.sub_zero,Option.isNone_none,Bool.and_true];rw[if_neg (by rw[Ai]at hl;simp;omega)]
   have hm':(List.filter (λn=>(List.lookup n ((Gq (λx=>x.arg) ar).zip us)).isNone) (List.take (Gq (λx=>x.arg) ar).length (Gq (λx=>x.arg) ar)))=[]:=hm;rw[hm',if_neg (by decide),List.zip_nil_right,Ge,Dz,if_neg (by decide),lq nd hl]
 . cases h
def sV(K:KF)(x:Str)(st:Stmt):Prop:=∃f fd,Bz K AJ x=some (some (.ref f))/\L2.Fun K x x st f fd
theorem X5(a:Bz K AJ x=some (some (.ref f)))
 (l:K.lookup f=some ⟨oc,od,.func (BE x x (L2.xU st) (L2.yR st) (L2.zG st) .none kV doc pm an cdv ct),osl⟩) (c:BQ K cdv x=true) (k:B0 K (.ref f)=true):sV K x st:=
 ⟨f,_,a,L2.WE l c k⟩
section
variable {P:Program}{w:World}{K:KF}{mg:Str->Option Value}{base:Heap}{T:Tbl}
structure Top(T:Tbl)(K:KF)(mg:Str->Option Value):Prop where
 a:∀f v F,T.d f v=some F->∃st fa fd,mg f=some (.ref fa)/\L2.Fun K f f st fa fd/\iU st F=true/\((∃b,T.c b=true)->("!":Str)∈F.N->f∈T.e)
 d:∀x v,T.b x=some v->∃u xv,mg x=some u/\L2.RelV xv u/\∀ρ H,RD K mg ρ H v xv
 c:∀x∈xu,mg x=none
 no:∀f v,100<=v->T.d f v=none
 sc:(T.f≠[]\/∃b,T.c b=true)->Sc T K mg
theorem vF(h:iU st F=true):argNames (L2.xU st)=some F.b/\L2.wH F.N F.b (L2.zG st)/\ug (L2.zG st) F.N F.a (L2.yR st)=true:=by
 unfold iU at h;split at h
 . simp only[cf,decide_eq_true_eq,Ay,AF,Ao]at h
   obtain⟨⟨⟨⟨⟨⟨⟨⟨h1,h2⟩,h3⟩,h4⟩,h5⟩,h6⟩,h7⟩,h8⟩,h9⟩:=h;exact⟨h1,⟨h2,h3,h4,h5,h6,h7,h8⟩,h9⟩
 . cases h
theorem cI(top:Top T K mg)(IH:∀j,j<=n->Lv T P w K mg base j){F:Fn}(p2:L2.wH F.N F.b (L2.zG st))
 (hm:mg f=some (.ref fa)) (hk:K.lookup fa=some ⟨oc,od,.func (BE f f (L2.xU st) (L2.yR st) (L2.zG st) .none kV doc pm an cdv ct),osl⟩) (hcd:BQ K cdv f=true) (htb:(∃b,T.c b=true)->("!":Str)∈F.N->f∈T.e)
       (hr:L2.xA n (A.deeper (PyProof.Rows.envOfC f (L2.zG st) s.heap.objs.size fa cdv))):OkF T n (L2.zG st) F.N (L2.xX CX P w K mg base F.N f (L2.zG st) fa cdv A outer s H E).nox:=by
 refine⟨⟨rfl,hr,⟨rfl,p2.b,λx hx=>hx,λx hx=>⟨hx,.inl rfl⟩,λx hx=>hx,λx hx=>hx⟩,λg v' G hg=>?_,top.d,top.c,rfl,top.no,λm hm hmd=>⟨top.sc (.inr hmd),λj hj=>IH j (by omega)⟩,λhmd _ hx=>?_⟩,rfl,?_⟩
 . obtain⟨ga,gd,q1,q2,q3,q4,q5⟩:=(IH n (xd _)).a g v' G hg
   exact⟨ga,gd,q1,q2,q3,q4⟩
 . have:∃c,cdv=.ref c:=by
    unfold BQ at hcd;split at hcd
    . exact⟨_,rfl⟩
    . cases hcd
   obtain⟨c,rfl⟩:=this;exact⟨f,htb hmd hx,fa,c,_,_,hm,hk,rfl,rfl,rfl,rfl⟩
 . show (if (L2.zG st).kind.isAnnotationScope then ScopeKind.function else (L2.zG st).kind)=.function
   rw[p2.a];rfl
theorem Yr(top:Top T K mg)(IH:∀j,j<=n->Lv T P w K mg base j)(h:T.d f v=some F)(hm:mg f=some (.ref fa))(e2:L2.Fun K f f st fa fd)(e3:iU st F=true)
 (htb:(∃b,T.c b=true)->("!":Str)∈F.N->f∈T.e):L2.uw P w K mg base L2.CX0 (n+1) fa fd F.b (spN T K mg (n+1) f v):=by
 obtain⟨p1,p2,p3⟩:=vF e3;have hcall:∀(vs:List Val) (s:Sto),zB T (n+1) f v vs s=run T (zB T n) F vs s:=λvs s=>by simp only[zB,h]
 obtain⟨oc,od,kV,doc,pm,an,cdv,ct,osl,rfl,lk,hcd⟩:=e2.a;refine L2.Yq lk hcd p2 (λvs H Q E q=>?_) λA outer s H vs Q E hr q=>?_
 . obtain⟨ρ,t,as,_,r,z⟩:=q
   rw[hcall]at z;unfold run at z;split at z
   . rename_i hl;rw[<-r.length];exact hl
   . exact z.elim
 . obtain⟨ρ,t,as,h0,r,z⟩:=q
   rw[hcall]at z;unfold run at z;have hl:as.length=F.b.length:=by
    by_cases hl:as.length=F.b.length
    . exact hl
    . rw[if_neg hl]at z;exact z.elim
   rw[if_pos hl]at z;have okf:=cI (CX:=L2.CX0) (P:=P) (w:=w) (base:=base) (outer:=outer) (s:=s) (H:=H) (E:=E) top IH p2 hm lk hcd htb hr;refine⟨_,(jSs T n F.a (L2.zG st) F.N _ (L2.yR st) okf p3 (za F.N as) t).nox,ρ,h0,m6 r,?_⟩;show vd K mg ρ H (zW (zB T n) T.b (za F.N as) F.a t) _;cases hx:zW (zB T n) T.b (za F.N as) F.a t with
   |e fl s1=>
    rw[hx]at z;cases fl with
    |a e=>exact λρ1 H1 σ1 x1 hr1 er1=>mO h0 z x1 hr1 .A
    |b v'=>exact λρ1 H1 x x1 hr1 r1=>mO h0 z x1 hr1 r1
    |c e=>exact z.elim
    |d e=>exact z.elim
   |g _ _ _=>rw[hx]at z;exact z.elim
   |d=>rw[hx]at z;exact z.elim
theorem RC(top:Top T K mg)(hB:K.In base)(IH:∀j,j<=n->Lv T P w K mg base j)(h:T.d f v=some F)(hm:mg f=some (.ref fa))(e2:L2.Fun K f f st fa fd)(e3:iU st F=true)
 (htb:(∃b,T.c b=true)->("!":Str)∈F.N->f∈T.e):L2.uw P w K mg base (L2.CXE P w) (n+1) fa fd F.b (λvs H Q E=>∃ρ s args,HR K mg ρ s H/\RDs K mg ρ H args vs/\qt K mg ρ H (zZ T (n+1) f v args s) E):=by
 obtain⟨p1,p2,p3⟩:=vF e3;have hcall:∀(vs:List Val) (s:Sto),zZ T (n+1) f v vs s=if vs.length=F.b.length then xSs (wx T) (zB T n) (zZ T n) T.b (za F.N vs) F.a s else dr:=λvs s=>by simp only[zZ,h]
 obtain⟨oc,od,kV,doc,pm,an,cdv,ct,osl,rfl,lk,hcd⟩:=e2.a;refine L2.Yq lk hcd p2 (λvs H Q E q=>?_) λA outer s H vs Q E hr q=>?_
 . obtain⟨ρ,t,as,_,r,z⟩:=q
   rw[hcall]at z;split at z
   . rename_i hl;rw[<-r.length];exact hl
   . exact z.elim
 . obtain⟨ρ,t,as,h0,r,z⟩:=q
   rw[hcall]at z;have hl:as.length=F.b.length:=by
    by_cases hl:as.length=F.b.length
    . exact hl
    . rw[if_neg hl]at z;exact z.elim
   rw[if_pos hl]at z;have okf:=cI (CX:=L2.CXE P w) (P:=P) (w:=w) (base:=base) (outer:=outer) (s:=s) (H:=H) (E:=E) top IH p2 hm lk hcd htb hr;have okx:OkX T n (L2.zG st) F.N (L2.xX (L2.CXE P w) P w K mg base F.N f (L2.zG st) fa cdv A outer s H E) E:=by
    refine⟨okf,L2.gU,λC H hE=>L2.Ye hE,IH n (xd _),λc hc=>?_⟩;have hne:T.f≠[]:=λz=>by rw[z]at hc;cases hc
    obtain⟨_,_,_,_,hue,_,_,_,_,RF⟩:=(top.sc (.inl hne)).a;obtain⟨w',hw⟩:=B6.mp hc;obtain⟨C,q1,q2,q3⟩:=RF c w' hw base hB;exact⟨C,hue,q1,q2,q3⟩
   exact⟨_,ZZ okx F.a (L2.yR st) p3 (za F.N as) t,ρ,h0,m6 r,z⟩
theorem W5(top:Top T K mg)(hB:K.In base):∀n j,j<=n->Lv T P w K mg base j:=by
 have step:∀n,(∀j,j<n->Lv T P w K mg base j)->Lv T P w K mg base n:=λn IH=>⟨λf v F hf=>by
  obtain⟨st,fa,fd,q1,q2,q3,q4⟩:=top.a f v F hf;obtain⟨r1,r2,r3⟩:=vF q3;have nd:F.b.Nodup:=by rw[<-r2.c];exact r2.b.sublist (Fe _ _)
  have hb:L2.Binds K fd F.b []:=q2.binds λkV doc pm an cdv ct us hl=>u0 r1 nd us hl;cases n with
  |zero=>
   refine⟨fa,fd,q1,q2.b,hb,⟨λvs H Q E q=>?_,λA outer s H args us vs Q E _ _ _ _ q=>?_⟩,⟨λvs H Q E q=>?_,λA outer s H args us vs Q E _ _ _ _ q=>?_⟩⟩
   . obtain⟨ρ,t,as,_,_,z⟩:=q;exact z.elim
   . obtain⟨ρ,t,as,_,_,z⟩:=q;exact z.elim
   . obtain⟨ρ,t,as,_,_,z|z⟩:=q<;>exact z.elim
   . obtain⟨ρ,t,as,_,_,z|z⟩:=q<;>exact z.elim
  |succ n=>
   have IH':∀j,j<=n->Lv T P w K mg base j:=λj hj=>IH j (by omega)
   have a:=Yr (P:=P) (w:=w) (base:=base) top IH' hf q1 q2 q3 q4;have b:=RC (P:=P) (w:=w) (base:=base) top hB IH' hf q1 q2 q3 q4;refine⟨fa,fd,q1,q2.b,hb,a,⟨λvs H Q E q=>?_,λA outer s H args us vs Q E h1 h2 h3 h4 q=>?_⟩⟩
   . obtain⟨ρ,t,as,x1,x2,z|z⟩:=q
     . exact a.b vs H Q E ⟨ρ,t,as,x1,x2,z⟩
     . exact b.b vs H Q E ⟨ρ,t,as,x1,x2,z⟩
   . obtain⟨ρ,t,as,x1,x2,z|z⟩:=q
     . refine C6 (a.a A outer s H args us vs Q E h1 h2 h3 h4 ⟨ρ,t,as,x1,x2,z⟩) λr s' hq=>?_
       cases r with
       |error e=>exact AA hq
       |ok fl=>cases fl<;>exact hq
     . exact b.a A outer s H args us vs Q E h1 h2 h3 h4 ⟨ρ,t,as,x1,x2,z⟩⟩
 intro n;induction n with
 |zero=>intro j hj;exact step j λi hi=>absurd hi (by omega)
 |succ n ih=>
  intro j hj;by_cases h:j<=n
  . exact ih j h
  . have:j=n+1:=by omega
    subst this;exact step _ λi hi=>ih i (by omega)
end
end M
end
section
namespace M
open PySem Hd
def iH(K:KF)(x:Str):Val->Prop
 |.c i=>∃t,Bz K AJ x=some (some (.int i t))
 |.g y=>∃t,Bz K AJ x=some (some (.str y t))
 |.p ns=>∃a,Bz K AJ x=some (some (.ref a))/\KT K a (ns.map L2.V.d)
 |_=>False
noncomputable def glO(fnL:List ((Str × Nat) × Fn))(glL:List (Str × Val))(x:Str):Option Val:=match glL.lookup x with
 |some v=>some v
 |dr=>match fnL.lookup (x,0) with
  |some _=>some (.t x)
  |dr=>dr
def kh(fnL:List ((Str × Nat) × Fn))(glL:List (Str × Val))(tb:List Str)(xc:List (Str × Str))(md:Bool->Bool):Tbl:=⟨λf v=>fnL.lookup (f,v),glO fnL glL,tb,xc,md⟩
def oC(fnL:List ((Str × Nat) × Fn))(D:List (Str × Stmt)):Bool:=fnL.all λp=>decide (p.1.2<100)&&match D.lookup p.1.1 with|some st=>iU st p.2|none=>false
theorem xD{α β:Type} [BEq α] [LawfulBEq α]:∀{l:List (α × β)} {a:α} {b:β},l.lookup a=some b->(a,b)∈l
 |[],_,_,h=>by cases h
 |(c,d)::l,a,b,h=>by
  rw[An]at h;cases hb:(a == c) with
  |true=>rw[hb]at h;cases h;rw[B2 hb];exact As
  |false=>rw[hb]at h;exact Ah _ (xD h)
theorem V9(X:K.In h)(G:h.Ns AJ mg)(hd:∀p∈D,sV K p.1 p.2)(hg:∀p∈glL,iH K p.1 p.2)(hb:∀x∈xu,Bz K AJ x=some none)
 (hc:oC fnL D=true)    (htb:(∃b,md b=true)->fnL.all (λp=>!decide (("!":Str)∈p.2.N)||decide (p.1.1∈tb))=true) (sc:(xc≠[]\/∃b,md b=true)->Sc (kh fnL glL tb xc md) K mg):Top (kh fnL glL tb xc md) K mg:=by
 refine⟨λf v F e=>?_,λx v e=>?_,λx hx=>PySem.W.mg_none_of X G (hb x hx),λf v hv=>?_,sc⟩
 . have hm:((f,v),F)∈fnL:=xD e
   unfold oC at hc;rw[AF]at hc;have h1:=hc _ hm;rw[cf]at h1;have h1:=h1.2;split at h1
   . rename_i st hs
     obtain⟨fa,fd,a,F'⟩:=hd _ (xD hs);refine⟨st,fa,fd,Dm X G a,F',h1,λhmd hN=>?_⟩;have:=AF.mp (htb hmd) _ hm;simp only[Ao,Ay,decide_eq_false_iff_not,decide_eq_true_eq]at this;exact this.resolve_left λz=>z hN
   . cases h1
 case refine_3=>
  show fnL.lookup (f,v)=none;cases e:fnL.lookup (f,v) with
  |none=>rfl
  |some F=>
   have hm:((f,v),F)∈fnL:=xD e;unfold oC at hc;rw[AF]at hc;have h1:=hc _ hm;rw[cf,decide_eq_true_eq]at h1;have h2:v<100:=h1.1;omega
 . have e:glO fnL glL x=some v:=e
   unfold glO at e;split at e
   case h_2=>
    split at e
    . rename_i F hF
      cases e;unfold oC at hc;rw[AF]at hc;have h1:=hc _ (xD hF);rw[cf]at h1;have h1:=h1.2;split at h1
      . rename_i st hs
        obtain⟨fa,fd,a,F'⟩:=hd _ (xD hs);exact⟨_,.c fa,Dm X G a,rfl,λρ H=>.I (Dm X G a)⟩
      . cases h1
    . cases e
   rename_i v' e';cases e;have hm:(x,v)∈glL:=xD e';have h1:=hg _ hm;cases v with
   |c i=>
    obtain⟨t,a⟩:=h1;exact⟨_,.d i,Dm X G a,⟨t,rfl⟩,λρ H=>.l i⟩
   |g y=>
    obtain⟨t,a⟩:=h1;exact⟨_,.e y,Dm X G a,⟨t,rfl⟩,λρ H=>.D y⟩
   |p ns=>
    obtain⟨a,h2,h3⟩:=h1;exact⟨_,.c a,Dm X G h2,rfl,λρ H=>.p h3⟩
   |_=>exact h1.elim
theorem int_mk(a:Bz K AJ x=some (some (.int i t))):iH K x (.c i):=⟨t,a⟩
theorem str_mk(a:Bz K AJ x=some (some (.str y t))):iH K x (.g y):=⟨t,a⟩
theorem qG:∀{us} {ns},mF us=some ns->L2.Vals (ns.map L2.V.d) us
 |[],_,h=>by cases h;exact .nil
 |u::us,ns,h=>by
  cases u with
  |int i t=>
   simp only[mF,A8]at h;obtain⟨ms,h1,rfl⟩:=h;exact .cons ⟨t,rfl⟩ (qG h1)
  |_=>cases h
theorem aa(h:Bz K AJ x=some (some (.ref a)))
 (l:K.lookup a=some ⟨.type "tuple",od,.seq us.toArray n,sl⟩) (hz:us.length<=1000) (hi:mF us=some ns):iH K x (.p ns):=
 ⟨a,h,_,us.toArray,n,l,rfl,rfl,by rw[Aa,AK];omega,by simpa using qG hi⟩
structure UO(T:Tbl)(K:KF)(mg:Str->Option Value)(h:Heap)(tabs:List Addr):Prop where
 nd:tabs.Nodup
 b:tabs.length=T.e.length
 a:∀(i:Nat) (g:Str),T.e[i]?=some g->∃P,tabs[i]?=some P/\h.get? P=some (EI #[])/\K.lookup P=none/\F5 h P /\
  ∃(fa c:Addr) (o:Obj) (fd:BM),mg g=some (.ref fa)/\K.lookup fa=some o/\o.data=.func fd/\fd.code=.ref c/\∀h':Heap,K.In h'->PySem.W.CodeHd h' c P
def Sa(K:KF)(tabs:List Addr):L2.Sp:=λvs H Q _=>∃(a:Addr) (ns:List Int),vs=[.c a]/\(∀b∈tabs,H b=some (.g #[]))/\L2.SqL K H a (ns.map L2.V.d)/\ns.length<=63/\∀H',Q (.f true) H'
theorem walk{l:PySem.W.OpenLaw}(hn:l.most=some 63)(hdf:d.params.defaults=[])(hr:L2.xA n callerA)
 (hY:∀w h,YP w h->K.In h) (hF:T.d d.name 0=some F) (hx:F.b=[x])
 (TOP:∀w s₀ mg mb h,PySem.W.Ground q loose [] XP w s₀ mg mb h->K.In h->Top T K mg/\∃tabs,UO T K mg h tabs)
 (HL:∀ns:List Int,ns.length<=63->∃s',zB T n d.name 0 [.r ns] (T.e.map .d)=.e (.e true) s') :
 PySem.W.WalkO q loose XP YP l.row.toRowW d [] (λf vs=>PySem.call f vs):=by
 refine Att.nu hn hdf λw s₀ s₁ mg mb fa o pm cd doc a vs ns G Y ho hd hcd hmg hobj hints hlen hg=>?_;have KX:=hY w _ Y;obtain⟨top,tabs,TE⟩:=TOP w s₀ mg mb _ G KX;obtain⟨st,fa',fd',e1,e2,e3,e4⟩:=top.a _ _ _ hF;obtain⟨p1,p2,p3⟩:=vF e3;have nd:F.b.Nodup:=by rw[<-p2.c];exact p2.b.sublist (Fe _ _)
 rw[e1]at hmg;cases hmg;cases n with
 |zero=>
  obtain⟨s',hs⟩:=HL [] (by decide)
  cases hs
 |succ n=>
  have htab:∀b∈tabs,s₁.heap.get? b=some (EI #[])/\K.lookup b=none/\F5 s₁.heap b:=λb hb=>by
   obtain⟨i,hi,e⟩:=Bp hb;obtain⟨P,q1,q2,q3,q4,_⟩:=TE.a i _ (Ad (by rw[<-TE.b];exact hi))
   rw[Ad hi,e]at q1;cases q1;exact⟨q2,q3,q4⟩
  refine L2.hG (CX:=L2.CX0) (k:=n+1) (fd:=fd') (x:=x) (sp:=Sa K tabs) (tabs:=tabs) KX G.T.g G.T.b G.T.builtins G.T.nolimit hg hobj hints (AE hlen (by decide)) hr htab (λbase kb nb=>?_) (λs u=>?_) (λH hT hS=>⟨a,ns,rfl,hT,hS,hlen,λ_=>rfl⟩) λ_ _ _ z=>z
  . have f4:=Yr (P:=l.prog) (w:=w) (base:=base) top (λj hj=>W5 top kb n j hj) hF e1 e2 e3 e4
    rw[hx]at f4;refine f4.imp λvs H Q E ⟨a,ns,e,hT,hS,hl,hq⟩=>?_;subst e;obtain⟨s',hs⟩:=HL ns hl;refine⟨⟨tabs,[]⟩,T.e.map .d,[.r ns],⟨by rw[Ai];exact TE.b,TE.nd,λi c z=>?_,λa z=>by cases z⟩,.a (.G ?_) .d,?_⟩
    . rw[AX]at z
      cases hg:T.e[i]? with
      |none=>rw[hg]at z;cases z
      |some g=>
       rw[hg]at z;cases z;obtain⟨P,q1,q2,q3,q4,fn⟩:=TE.a i g hg;exact⟨P,q1,#[],hT P (AU q1),AG,λpos cv hc=>(nomatch hc),fn⟩
    . rcases hS with hS|hS
      . refine .inl ⟨⟨λhm=>?_,by simp⟩,hS⟩
        have:=hT a hm;rcases hS with z|⟨o,z⟩<;>(rw[this]at z;cases z)
      . exact .inr hS
    . rw[hs]
      intro ρ' x' H' _ _ r;cases r;exact hq H'
  . obtain⟨oc,od,kV,doc,pm,an,cdv,ct,osl,e,_⟩:=e2.a
    subst e;refine .of_eq ?_;have:=u0 (x:=d.name) (qual:=d.name) (body:=L2.yR st) (sc:=L2.zG st) (kV:=kV) (doc:=doc) (pm:=pm) (cdv:=cdv) (ct:=ct) (an:=an) p1 nd [u] (by rw[hx];rfl)
    rw[hx]at this;exact this
end M
end
section
namespace F
open PySem M
noncomputable def z6:Fn:=⟨["_law_script","_law_k"],["_law_script","_law_k"],false,(.e (.h (.a (.q .k (.e 1) (.k .a false (.a (.e 0) .c)))) (.e (.d (.u (.e 0) (.e 1))) .f) .f) (.e (.d (.g (.c 0))) .f))⟩
noncomputable def yX:Fn:=⟨["_law_pen_here","_law_many","_law_left","_law_found","_law_mixed"],["_law_pen_here","_law_many"],false,(.e (.h (.a (.q .h (.u (.e 0) (.g (.c 0))) (.g (.c 0)))) (.e (.n [2,3] (.k .d false (.a (.u (.e 0) (.g (.c 0))) (.a (.e 1) .c)))) (.e (.l (.e 0) (.g (.c 0)) (.e 2)) (.e (.d (.e 3)) .f))) .f) (.e (.l (.e 0) (.g (.c 1)) (.j false .c (.j false .a (.j false .b (.u (.e 0) (.g (.c 1))) (.g (.c 48271))) (.g (.c 30269))) (.g (.c 2147483629)))) (.e (.g 4 (.j false .c (.j false .a (.j false .a (.j false .b (.u (.e 0) (.g (.c 1))) (.u (.e 0) (.g (.c 1)))) (.j false .b (.g (.c 40692)) (.u (.e 0) (.g (.c 1))))) (.g (.c 7))) (.g (.c 2147483587)))) (.e (.d (.j false .c (.j false .e (.e 4) (.g (.c 64))) (.e 1))) .f))))⟩
noncomputable def yG:Fn:=⟨["_law_cell","_law_left"],["_law_cell"],true,(.e (.g 1 (.k .k false (.a (.e 0) (.a (.j false .g (.g (.c 0)) (.e 0)) .c)))) (.e (.d (.A true (.a (.j false .b (.e 1) (.k .o false (.a (.q .i (.e 1) (.j false .d (.g (.c 10)) (.g (.c 18)))) .c))) (.a (.j false .c (.e 1) (.g (.c 2147483629))) .c)))) .f))⟩
noncomputable def yv:Fn:=⟨["thing"],["thing"],false,(.e (.d (.y (.k .i false (.a (.e 0) (.a (.K "tuple" "tuple") .c))) (.a (.s .b .b (.g (.c 1)) (.k .a false (.a (.e 0) .c)) (.k .a false (.a (.z "HUES") .c))) (.a (.h "are_wholes" 0 (.a (.e 0) (.a (.z "LEAST_SIZE") (.a (.z "MOST_SIZE") .c)))) .c)))) .f)⟩
noncomputable def ya:Fn:=⟨["things","least","most"],["things","least","most"],false,(.e (.d (.k .p false (.a (.p false ["thing","least","most"] [none,some 1,some 2] (.h "is_whole" 0 (.a (.e 0) (.a (.e 1) (.a (.e 2) .c)))) (.a 0) (.d (.e 0)) .a) .c))) .f)⟩
noncomputable def vA:Fn:=⟨["hues","first","step","size"],["hues","first","step","size"],false,(.e (.d (.q .a (.L .a false (.H false (.e 0) (.a (.e 1)) (.a (.j false .a (.e 1) (.j false .b (.e 2) (.e 3)))) (.a (.e 2))) (.a (.u (.e 0) (.e 1)) .c)) (.e 3))) .f)⟩
noncomputable def xN:Fn:=⟨["thing","least","most"],["thing","least","most"],false,(.e (.d (.y (.k .i false (.a (.e 0) (.a (.K "int" "int") .c))) (.a (.G (.k .i false (.a (.e 0) (.a (.K "bool" "bool") .c)))) (.a (.s .b .b (.e 1) (.e 0) (.e 2)) .c)))) .f)⟩
noncomputable def vX:Fn:=⟨["length","first","size"],["length","first","size"],false,(.e (.d (.j false .e (.j false .g (.j false .g (.e 0) (.g (.c 1))) (.e 1)) (.j false .g (.e 2) (.g (.c 1))))) .f)⟩
noncomputable def wN:Fn:=⟨["thing"],["thing"],false,(.e (.f (.h "need_whole" 0 (.a (.e 0) (.a (.g (.c 0)) (.a (.z "MOST_PLACES") .c))))) .f)⟩
noncomputable def yY:Fn:=⟨["thing"],["thing"],false,(.e (.f (.h "need_whole" 0 (.a (.e 0) (.a (.z "LEAST_SIZE") (.a (.z "MOST_SIZE") .c))))) .f)⟩
noncomputable def yc:Fn:=⟨["thing"],["thing"],false,(.e (.h (.b (.a (.h "are_sizes" 0 (.a (.e 0) .c)))) (.e (.j (.h "NoSizes" 0 (.a (.g (.g "one to four sizes are due")) .c))) .f) .f) .f)⟩
noncomputable def yQ:Fn:=⟨["thing","least","most"],["thing","least","most"],false,(.e (.h (.b (.a (.h "is_whole" 0 (.a (.e 0) (.a (.e 1) (.a (.e 2) .c)))))) (.e (.j (.h "NoNumber" 0 (.a (.e 1) (.a (.e 2) .c)))) .f) .f) .f)⟩
end F
end
section
namespace M
open PySem L2
def Sz(zs:List Int):Prop:=1<=zs.length/\zs.length<=4/\∀x∈zs,2<=x/\x<=8
end M
end
section
namespace M
open PySem
def Out.post{α:Type}(o:Out α)(P:α->Sto->Prop):Prop:=∃a s,o=.e a s/\P a s
theorem zC{α:Type}{a:α}{s:Sto}{P:α->Sto->Prop}:(Out.e a s).post P↔P a s:=
 ⟨λ⟨_,_,e,h⟩=>(by cases e;exact h),λh=>⟨a,s,rfl,h⟩⟩
theorem zI{o:Out α}{f}{P:β->Sto->Prop}:(o.bind f).post P↔o.post λa s=>(f a s).post P:=by
 cases o with
 |e a s=>exact(zC (P:=λa s=>(f a s).post P)).symm
 |g c as s=>exact⟨λ⟨_,_,e,_⟩=>(by cases e),λ⟨_,_,e,_⟩=>(by cases e)⟩
 |d=>exact⟨λ⟨_,_,e,_⟩=>(by cases e),λ⟨_,_,e,_⟩=>(by cases e)⟩
theorem zR{o:Out α}{P Q}(h:o.post P)(i:∀a s,P a s->Q a s):o.post Q:=by obtain⟨a,s,e,h⟩:=h;exact⟨a,s,e,i a s h⟩
theorem zm{o:Out α}{P Q}(h:∀a s,P a s↔Q a s):o.post P↔o.post Q:=⟨λk=>zR k λa s=>(h a s).mp,λk=>zR k λa s=>(h a s).mpr⟩
theorem zX{α:Type}{P:α->Sto->Prop}:(Out.d:Out α).post P↔False:=⟨λ⟨_,_,e,_⟩=>(by cases e),AA⟩
theorem xF{α:Type}{c:Prop} [Decidable c] {a b:Out α}{P:α->Sto->Prop}:(if c then a else b).post P↔if c then a.post P else b.post P:=by split<;>exact CH
theorem post_eq{o:Out α}{a}:o=.e a s↔o.post λx t=>x=a/\t=s:=⟨λh=>⟨a,s,h,rfl,rfl⟩,λ⟨_,_,h,e1,e2⟩=>(by rw[h,e1,e2])⟩
section
variable {Φ:Calls}{G:Str->Option Val}{env:Env}{s:Sto}
theorem Y7{v:Val}{P:Val->Sto->Prop}:(evE Φ G env (.g v) s).post P↔P v s:=zC
theorem XA{i:Nat}{P:Val->Sto->Prop}:(evE Φ G env (.e i) s).post P↔∃v,env[i]?=some (some v)/\P v s:=by
 show (match env[i]? with|some (some v)=>Out.e v s|_=>.d).post P↔_
 split
 . rename_i v e
   refine zC.trans ⟨λh=>⟨_,e,h⟩,λ⟨u,h1,h2⟩=>?_⟩;rw[e]at h1;cases h1;exact h2
 . rename_i hn
   exact⟨λ⟨_,_,e,_⟩=>(by cases e),λ⟨u,h1,h2⟩=>absurd h1 (hn u)⟩
theorem Ta{x:Str}{P:Val->Sto->Prop}:(evE Φ G env (.z x) s).post P↔∃v,G x=some v/\P v s:=by
 show (match G x with|some v=>Out.e v s|dr=>.d).post P↔_
 split
 . rename_i v e
   refine zC.trans ⟨λh=>⟨_,e,h⟩,λ⟨u,h1,h2⟩=>?_⟩;rw[e]at h1;cases h1;exact h2
 . rename_i e
   exact⟨λ⟨_,_,e,_⟩=>(by cases e),λ⟨u,h1,h2⟩=>(by rw[e]at h1;cases h1)⟩
theorem RN{x:Str}{n:String}{P:Val->Sto->Prop}:(evE Φ G env (.K x n) s).post P↔P (.u n) s:=zC
theorem Y6{m:Bool}{op:Bop}{a b:Ex}{P:Val->Sto->Prop}:(evE Φ G env (.j m op a b) s).post P↔(evE Φ G env a s).post λx s1=>(evE Φ G env b s1).post λy s2=>(binOp m op x y s2).post P:=by show (Out.bind _ _).post P↔_;simp only[zI]
theorem Td{a:Ex}{P:Val->Sto->Prop}:(evE Φ G env (.B a) s).post P↔(evE Φ G env a s).post λx s1=>∃i,x=.c i/\P (.c (-i)) s1:=by show (Out.bind _ _).post P↔_;simp only[zI];exact zm λx s1=>by cases x<;>simp[zC,zX]
theorem Te{a:Ex}{P:Val->Sto->Prop}:(evE Φ G env (.G a) s).post P↔(evE Φ G env a s).post λx s1=>∃b,x=.e b/\P (.e !b) s1:=by show (Out.bind _ _).post P↔_;simp only[zI];exact zm λx s1=>by cases x<;>simp[zC,zX]
theorem TY{op:Cop}{a b:Ex}{P:Val->Sto->Prop}:(evE Φ G env (.q op a b) s).post P↔(evE Φ G env a s).post λx s1=>(evE Φ G env b s1).post λy s2=>(zS op x y s2).post P:=by show (Out.bind _ _).post P↔_;simp only[zI]
theorem Zt{op op':Cop}{a b c:Ex}{P:Val->Sto->Prop}:(evE Φ G env (.s op op' a b c) s).post P↔(evE Φ G env a s).post λx s1=>(evE Φ G env b s1).post λy s2=>(zS op x y s2).post λr s3=>∃t,r=.e t/\if t=true then (evE Φ G env c s3).post λz s4=>(zS op' y z s4).post P else P (.e false) s3:=by
 show (Out.bind _ _).post P↔_;simp only[zI];refine zm λx s1=>zm λy s2=>zm λr s3=>?_;cases r with
 |e t=>cases t<;>simp[zC,zX,zI]
 |_=>simp[zX]
theorem TU{a b:Ex}{es:Exs}{P:Val->Sto->Prop}:(evE Φ G env (.y a (.a b es)) s).post P↔(evE Φ G env a s).post λx s1=>∃t,x=.e t/\if t=true then (sZ Φ G env (.a b es) s1).post P else P (.e false) s1:=by
 show (Out.bind _ _).post P↔_;simp only[zI];refine zm λx s1=>?_;cases x with
 |e t=>cases t<;>simp[zC,zX]
 |_=>simp[zX]
theorem VG{a:Ex}{P:Val->Sto->Prop}:(sZ Φ G env (.a a .c) s).post P↔(evE Φ G env a s).post P:=CH
theorem VH{a b:Ex}{es:Exs}{P:Val->Sto->Prop}:(sZ Φ G env (.a a (.a b es)) s).post P↔(evE Φ G env a s).post λx s1=>∃t,x=.e t/\if t=true then (sZ Φ G env (.a b es) s1).post P else P (.e false) s1:=by
 show ((evE Φ G env a s).bind λx s1=>match x with
  |.e true=>sZ Φ G env (.a b es) s1
  |.e false=>.e (.e false) s1
  |_=>.d).post P↔_
 simp only[zI];refine zm λx s1=>?_;cases x with
 |e t=>cases t<;>simp[zC,zX]
 |_=>simp[zX]
theorem RL{a b:Ex}{es:Exs}{P:Val->Sto->Prop}:(evE Φ G env (.I a (.a b es)) s).post P↔(evE Φ G env a s).post λx s1=>∃t,truth s1 x=some t/\if t=true then P x s1 else (mD Φ G env (.a b es) s1).post P:=by
 show (Out.bind _ _).post P↔_;simp only[zI];refine zm λx s1=>?_;cases truth s1 x with
 |some t=>cases t<;>simp[zC,zX]
 |none=>simp[zX]
theorem Tf{a:Ex}{P:Val->Sto->Prop}:(mD Φ G env (.a a .c) s).post P↔(evE Φ G env a s).post P:=CH
theorem Tg{a b:Ex}{es:Exs}{P:Val->Sto->Prop}:(mD Φ G env (.a a (.a b es)) s).post P↔(evE Φ G env a s).post λx s1=>∃t,truth s1 x=some t/\if t=true then P x s1 else (mD Φ G env (.a b es) s1).post P:=by
 show ((evE Φ G env a s).bind λx s1=>match truth s1 x with
  |some false=>mD Φ G env (.a b es) s1
  |some true=>.e x s1
  |dr=>.d).post P↔_
 simp only[zI];refine zm λx s1=>?_;cases truth s1 x with
 |some t=>cases t<;>simp[zC,zX]
 |none=>simp[zX]
theorem Tb{c:Cn}{a b:Ex}{P:Val->Sto->Prop}:(evE Φ G env (.F c a b) s).post P↔(evT Φ G env c s).post λt s1=>if t=true then (evE Φ G env a s1).post P else (evE Φ G env b s1).post P:=by show (Out.bind _ _).post P↔_;simp only[zI,xF]
theorem Tj{es:Exs}{P:Val->Sto->Prop}:(evE Φ G env (.r es) s).post P↔(zV Φ G env es s).post λvs s1=>(if vs.length<=zY then Out.e (Val.f vs) s1 else .d).post P:=by show (Out.bind _ _).post P↔_;simp only[zI]
theorem Tc{m:Bool}{es:Exs}{P:Val->Sto->Prop}:(evE Φ G env (.A m es) s).post P↔(zV Φ G env es s).post λvs s1=>(if vs.length<=zY then newList m vs s1 else .d).post P:=by show (Out.bind _ _).post P↔_;simp only[zI]
theorem VI{f:Str}{v:Nat}{es:Exs}{P:Val->Sto->Prop}:(evE Φ G env (.h f v es) s).post P↔(zV Φ G env es s).post λvs s1=>(Φ f v vs s1).post P:=by show (Out.bind _ _).post P↔_;simp only[zI]
theorem TV{f:Bf}{m:Bool}{es:Exs}{P:Val->Sto->Prop}:(evE Φ G env (.k f m es) s).post P↔(zV Φ G env es s).post λvs s1=>(blt f m vs s1).post P:=by show (Out.bind _ _).post P↔_;simp only[zI]
theorem VO{f:Mf}{m:Bool}{o:Ex}{es:Exs}{P:Val->Sto->Prop}:(evE Φ G env (.L f m o es) s).post P↔(evE Φ G env o s).post λx s1=>(zV Φ G env es s1).post λvs s2=>(xm f x vs s2).post P:=by show (Out.bind _ _).post P↔_;simp only[zI]
theorem cT{m:Bool}{a b c:Ex}{P:Val->Sto->Prop}:(evE Φ G env (.l m a b c) s).post P↔(evE Φ G env a s).post λx s1=>(evE Φ G env b s1).post λy s2=>(evE Φ G env c s2).post λz s3=>(TC m x y z s3).post P:=by show (Out.bind _ _).post P↔_;simp only[zI]
theorem RK{a b:Ex}{P:Val->Sto->Prop}:(evE Φ G env (.u a b) s).post P↔(evE Φ G env a s).post λx s1=>(evE Φ G env b s1).post λy s2=>(vp x y s2).post P:=by show (Out.bind _ _).post P↔_;simp only[zI]
theorem RM{m:Bool}{a:Ex}{lo hi st:OEx}{P:Val->Sto->Prop}:(evE Φ G env (.H m a lo hi st) s).post P↔(evE Φ G env a s).post λx s1=>(evO Φ G env lo s1).post λl s2=>(evO Φ G env hi s2).post λh s3=>(evO Φ G env st s3).post λc s4=>(rA m x l h c s4).post P:=by show (Out.bind _ _).post P↔_;simp only[zI]
theorem VP{P:Option Int->Sto->Prop}:(evO Φ G env .b s).post P↔P none s:=zC
theorem VQ{e:Ex}{P:Option Int->Sto->Prop}:(evO Φ G env (.a e) s).post P↔(evE Φ G env e s).post λv s1=>∃i,v=.c i/\P (some i) s1:=by show (Out.bind _ _).post P↔_;simp only[zI];exact zm λx s1=>by cases x<;>simp[zC,zX]
theorem cU{P:List Val->Sto->Prop}:(zV Φ G env .c s).post P↔P [] s:=zC
theorem qZ{e:Ex}{es:Exs}{P:List Val->Sto->Prop}:(zV Φ G env (.a e es) s).post P↔(evE Φ G env e s).post λv s1=>(zV Φ G env es s1).post λvs s2=>P (v::vs) s2:=by show (Out.bind _ _).post P↔_;simp only[zI,zC]
theorem Y9{e:Ex}{P:Bool->Sto->Prop}:(evT Φ G env (.a e) s).post P↔(evE Φ G env e s).post λv s1=>∃b,truth s1 v=some b/\P b s1:=by
 show (Out.bind (evE Φ G env e s) _).post P↔_;simp only[zI];refine⟨λh=>zR h λv s1 h=>?_,λh=>zR h λv s1 h=>?_⟩
 . split at h
   . rename_i b e;exact⟨b,e,zC.mp h⟩
   . obtain⟨_,_,e,_⟩:=h;cases e
 . obtain⟨b,e,h⟩:=h
   rw[e];exact zC.mpr h
theorem VU{c:Cn}{P:Bool->Sto->Prop}:(evT Φ G env (.b c) s).post P↔(evT Φ G env c s).post λb s1=>P (!b) s1:=by show (Out.bind _ _).post P↔_;simp only[zI,zC]
theorem VT{c:Cn}{cs:Cns}{P:Bool->Sto->Prop}:(evT Φ G env (.d c cs) s).post P↔(evT Φ G env c s).post λb s1=>if b=true then (xk Φ G env cs s1).post P else P false s1:=by show (Out.bind _ _).post P↔_;simp only[zI,xF,zC]
theorem Ti{c:Cn}{cs:Cns}{P:Bool->Sto->Prop}:(evT Φ G env (.f c cs) s).post P↔(evT Φ G env c s).post λb s1=>if b=true then P true s1 else (vG Φ G env cs s1).post P:=by show (Out.bind _ _).post P↔_;simp only[zI,xF,zC]
theorem tL{P:Bool->Sto->Prop}:(xk Φ G env .a s).post P↔P true s:=zC
theorem Zw{P:Bool->Sto->Prop}:(vG Φ G env .a s).post P↔P false s:=zC
theorem cY{c:Cn}{cs:Cns}{P:Bool->Sto->Prop}:(xk Φ G env (.b c cs) s).post P↔(evT Φ G env c s).post λb s1=>if b=true then (xk Φ G env cs s1).post P else P false s1:=by show (Out.bind _ _).post P↔_;simp only[zI,xF,zC]
theorem cX{c:Cn}{cs:Cns}{P:Bool->Sto->Prop}:(vG Φ G env (.b c cs) s).post P↔(evT Φ G env c s).post λb s1=>if b=true then P true s1 else (vG Φ G env cs s1).post P:=by show (Out.bind _ _).post P↔_;simp only[zI,xF,zC]
theorem cR{e:Ex}{P:Src->Sto->Prop}:(yS Φ G env (.d e) s).post P↔(evE Φ G env e s).post λv s1=>∃r,srcOf s1 v=some r/\P r s1:=by
 show (Out.bind _ _).post P↔_;simp only[zI];refine⟨λh=>zR h λv s1 h=>?_,λh=>zR h λv s1 h=>?_⟩
 . split at h
   . rename_i b e;exact⟨b,e,zC.mp h⟩
   . obtain⟨_,_,e,_⟩:=h;cases e
 . obtain⟨b,e,h⟩:=h
   rw[e];exact zC.mpr h
theorem mX{a:Ex}{P:Src->Sto->Prop}:(yS Φ G env (.c a) s).post P↔(evE Φ G env a s).post λx s1=>∃j,x=.c j/\(-(2 ^ 62)<=j/\j<=zY)/\P ⟨xn 0 j.toNat,dr⟩ s1:=by
 show (Out.bind _ _).post P↔_;simp only[zI];refine⟨λh=>zR h λv s1 h=>?_,λh=>zR h λv s1 h=>?_⟩
 . split at h
   . rw[xF]at h
     split at h
     . rename_i j z;exact⟨_,rfl,z,zC.mp h⟩
     . obtain⟨_,_,e,_⟩:=h;cases e
   . obtain⟨_,_,e,_⟩:=h;cases e
 . obtain⟨j,rfl,z,h⟩:=h
   simp only[if_pos z];exact zC.mpr h
theorem cW{a b:Ex}{P:Src->Sto->Prop}:(yS Φ G env (.f a b) s).post P↔(evE Φ G env a s).post λx s1=>(evE Φ G env b s1).post λy s2=>∃i j,x=.c i/\y=.c j/\(-(2 ^ 62)<=i/\i<2 ^ 62∧-(2 ^ 62)<=j/\j<2 ^ 62/\j-i<=zY)/\P ⟨xn i (j-i).toNat,dr⟩ s2:=by
 show (Out.bind _ _).post P↔_;simp only[zI];refine⟨λh=>zR h λv s1 h=>zR h λw s2 h=>?_,λh=>zR h λv s1 h=>zR h λw s2 h=>?_⟩
 . split at h
   . rw[xF]at h
     split at h
     . rename_i z;exact⟨_,_,rfl,rfl,z,zC.mp h⟩
     . obtain⟨_,_,e,_⟩:=h;cases e
   . obtain⟨_,_,e,_⟩:=h;cases e
 . obtain⟨i,j,rfl,rfl,z,h⟩:=h
   simp only[if_pos z];exact zC.mpr h
theorem VL{a:Ex}{P:Src->Sto->Prop}:(yS Φ G env (.g a) s).post P↔(evE Φ G env a s).post λx s1=>∃vs,(x=.f vs\/x=.j vs)/\P ⟨xh 0 vs,dr⟩ s1:=by
 show (Out.bind _ _).post P↔_;simp only[zI];refine⟨λh=>zR h λv s1 h=>?_,λh=>zR h λv s1 h=>?_⟩
 . split at h
   . exact⟨_,.inl rfl,zC.mp h⟩
   . exact⟨_,.inr rfl,zC.mp h⟩
   . obtain⟨_,_,e,_⟩:=h;cases e
 . obtain⟨j,rfl|rfl,h⟩:=h<;>exact zC.mpr h
theorem VM{e:Ex}{P:Fl->Sto->Prop}:(exS Φ G env (.f e) s).post P↔(evE Φ G env e s).post λ_ s1=>P (.a env) s1:=by show (Out.bind _ _).post P↔_;simp only[zI,zC]
theorem Y8{e:Ex}{P:Fl->Sto->Prop}:(exS Φ G env (.d e) s).post P↔(evE Φ G env e s).post λv s1=>P (.b v) s1:=by show (Out.bind _ _).post P↔_;simp only[zI,zC]
theorem VS{P:Fl->Sto->Prop}:(exS Φ G env .s s).post P↔P (.b .h) s:=zC
theorem cO{i:Nat}{e:Ex}{P:Fl->Sto->Prop}:(exS Φ G env (.g i e) s).post P↔(evE Φ G env e s).post λv s1=>P (.a (env.set i (some v))) s1:=by show (Out.bind _ _).post P↔_;simp only[zI,zC]
theorem cP{is:List Nat}{e:Ex}{P:Fl->Sto->Prop}:(exS Φ G env (.n is e) s).post P↔(evE Φ G env e s).post λv s1=>∃env',yU (.b is) v env=some env'/\P (.a env') s1:=by
 show (Out.bind _ _).post P↔_;simp only[zI];refine⟨λh=>zR h λv s1 h=>?_,λh=>zR h λv s1 h=>?_⟩
 . split at h
   . rename_i b e;exact⟨b,e,zC.mp h⟩
   . obtain⟨_,_,e,_⟩:=h;cases e
 . obtain⟨b,e,h⟩:=h
   rw[e];exact zC.mpr h
theorem cV{is:List Nat}{es:Exs}{P:Fl->Sto->Prop}:(exS Φ G env (.p is es) s).post P↔(zV Φ G env es s).post λvs s1=>(if vs.length=is.length then Out.e (Fl.a ((is.zip vs).foldl (λe p=>e.set p.1 (some p.2)) env)) s1 else .d).post P:=by show (Out.bind _ _).post P↔_;simp only[zI]
theorem Zv{o i e:Ex}{P:Fl->Sto->Prop}:(exS Φ G env (.l o i e) s).post P↔(evE Φ G env e s).post λv s1=>(evE Φ G env o s1).post λx s2=>(evE Φ G env i s2).post λy s3=>∃r k vs j,x=.m r/\y=.c k/\s3[r]?=some (.c vs)/\L2.ixN vs.length k=some j/\P (.a env) (upd s3 r (vs.set j v)):=by
 show (Out.bind _ _).post P↔_;simp only[zI];refine zm λv s1=>zm λx s2=>zm λy s3=>⟨λh=>?_,λ⟨r,k,vs,j,h1,h2,h3,h4,h5⟩=>?_⟩
 . split at h
   . split at h
     . rename_i e3
       split at h
       . rename_i e4;exact⟨_,_,_,_,rfl,rfl,e3,e4,zC.mp h⟩
       . exact(zX.mp h).elim
     . exact(zX.mp h).elim
   . exact(zX.mp h).elim
 . subst h1;subst h2
   simp only[h3,h4];exact zC.mpr h5
theorem VN{c:Cn}{a b:Sms}{P:Fl->Sto->Prop}:(exS Φ G env (.h c a b) s).post P↔(evT Φ G env c s).post λt s1=>if t=true then (zW Φ G env a s1).post P else (zW Φ G env b s1).post P:=by show (Out.bind _ _).post P↔_;simp only[zI,xF]
theorem VR{P:Fl->Sto->Prop}:(exS Φ G env .r s).post P↔P (.a env) s:=zC
theorem TX{P:Fl->Sto->Prop}:(exS Φ G env .w s).post P↔P (.c env) s:=zC
theorem VJ{P:Fl->Sto->Prop}:(exS Φ G env .q s).post P↔P (.d env) s:=zC
theorem nH{P:Fl->Sto->Prop}:(zW Φ G env .f s).post P↔P (.a env) s:=zC
def qm(Φ:Calls)(G:Str->Option Val)(cs:Sms)(P:Fl->Sto->Prop):Fl->Sto->Prop
 |.a e,s1=>(zW Φ G e cs s1).post P
 |fl,s1=>P fl s1
theorem yW{c:Sm}{cs:Sms}{P:Fl->Sto->Prop}:(zW Φ G env (.e c cs) s).post P↔(exS Φ G env c s).post (qm Φ G cs P):=by
 show (Out.bind _ _).post P↔_;simp only[zI];have:∀fl s1,(match fl with|.a e=>zW Φ G e cs s1|fl=>Out.e fl s1:Out Fl).post P↔qm Φ G cs P fl s1:=λfl s1=>by
  cases fl with
  |a e=>exact CH
  |_=>exact zC
 exact⟨λh=>zR h λfl s1 h=>(this fl s1).mp h,λh=>zR h λfl s1 h=>(this fl s1).mpr h⟩
theorem YT{cs:Sms}{P:Fl->Sto->Prop}{e:Env}:qm Φ G cs P (.a e) s↔(zW Φ G e cs s).post P:=CH
theorem YU{cs:Sms}{P:Fl->Sto->Prop}{v:Val}:qm Φ G cs P (.b v) s↔P (.b v) s:=CH
theorem YR{cs:Sms}{P:Fl->Sto->Prop}{v:Env}:qm Φ G cs P (.c v) s↔P (.c v) s:=CH
theorem YS{cs:Sms}{P:Fl->Sto->Prop}{v:Env}:qm Φ G cs P (.d v) s↔P (.d v) s:=CH
theorem qM{I:Env->Prop}(hr:r.ok s=true):∀xs,(∀x∈xs,∀e acc,I e->∃e1 e2,yU t x e=some e1/\body e1 s acc=.e (acc++g x,e2) s/\I e2)->∀e acc,I e->∃e',I e'/\yV r t body xs e s acc=.e (acc++xs.flatMap g,e') s
 |[],_,e,acc,h0=>⟨e,h0,by simp[yV,hr]⟩
 |x::xs,h,e,acc,h0=>by obtain⟨e1,e2,h1,h2,h3⟩:=h x (.head _) e acc h0;obtain⟨e',h4,h5⟩:=qM hr xs (λy hy=>h y (.tail _ hy)) e2 (acc++g x) h3;refine⟨e',h4,?_⟩;simp only[yV,hr,if_true,h1,h2,zN,h5,List.flatMap_cons,Bx]
theorem cQ(I:Env->Prop)g
 (h:(yS Φ G env it s).post λr s1=>r.ok s1=true/\I (zd fr env)/\(∀x∈r.a,∀e,I e->∃e1,yU t x e=some e1/\I e1/\(xk Φ G e1 ifs s1).post λb s2=>s2=s1/\if b=true then (evE Φ G e1 elt s1).post (λv s2=>s2=s1/\g x=[v]) else g x=[])/\(newList m (r.a.flatMap g) s1).post P) :
 (evE Φ G env (.p m N fr elt t it ifs) s).post P:=by
 obtain⟨r,s1,ei,h1,h2,h3,h4⟩:=h;obtain⟨e',_,h5⟩:=qM (I:=I) (g:=g) (body:=λe s' acc=>(xk Φ G e ifs s').bind λb s2=>if b then (evE Φ G e elt s2).bind λv s3=>.e (acc++[v],e) s3 else .e (acc,e) s2) h1 r.a (λx hx e acc he=>by
  obtain⟨e1,k1,k2,b,s2,k3,rfl,k4⟩:=h3 x hx e he;refine⟨e1,e1,k1,?_,k2⟩;rw[k3,zN];cases b with
  |true=>
   rw[if_pos rfl]at k4 ⊢;obtain⟨v,s3,kw,rfl,kv⟩:=k4;rw[kw,zN,kv]
  |false=>
   rw[if_neg Aj]at k4 ⊢;rw[k4,Bb]) (zd fr env) [] h2
 show (Out.bind (yS Φ G env it s) _).post P;rw[ei,zN];rw[h5,zN];exact h4
theorem pR(Q:List Val->Env->Sto->List Val->Prop):∀xs,(∀e s acc,Q [] e s acc->r.ok s=true)->(∀x rest e s acc,Q (x::rest) e s acc->r.ok s=true/\∃e1,yU t x e=some e1/\(body e1 s acc).post λp s2=>Q rest p.2 s2 p.1)->∀e s acc,Q xs e s acc->(yV r t body xs e s acc).post λp s2=>Q [] p.2 s2 p.1
 |[],h0,_,e,s,acc,q=>by
  simp only[yV,h0 e s acc q,if_true];exact zC.mpr q
 |x::xs,h0,h,e,s,acc,q=>by obtain⟨h1,e1,h2,h3⟩:=h x xs e s acc q;simp only[yV,h1,if_true,h2,zI];exact zR h3 λp s2 q=>pR Q xs h0 h p.2 s2 p.1 q
theorem Zu(Q:List Val->Env->Sto->List Val->Prop)
 (h:(yS Φ G env it s).post λr s1=>Q r.a (zd fr env) s1 []/\(∀rest e s acc,Q rest e s acc->r.ok s=true)/\(∀x rest e s acc,Q (x::rest) e s acc->∃e1,yU t x e=some e1/\(xk Φ G e1 ifs s).post λb s2=>if b=true then (evE Φ G e1 elt s2).post (λv s3=>Q rest e1 s3 (acc++[v])) else Q rest e1 s2 acc)/\∀e s acc,Q [] e s acc->(newList m acc s).post P) :
 (evE Φ G env (.p m N fr elt t it ifs) s).post P:=by
 obtain⟨r,s1,ei,h1,h2,h3,h4⟩:=h;show (Out.bind (yS Φ G env it s) _).post P;rw[ei,zN,zI];refine zR (pR Q r.a (λe s acc q=>h2 _ e s acc q) (λx rest e s acc q=>⟨h2 _ e s acc q,?_⟩) _ _ _ h1) λp s2 q=>h4 _ _ _ q;obtain⟨e1,k1,k2⟩:=h3 x rest e s acc q;refine⟨e1,k1,?_⟩;simp only[zI];refine zR k2 λb s2 k=>?_;cases b with
 |true=>
  rw[if_pos rfl]at k ⊢;simp only[zI,zC];exact k
 |false=>
  rw[if_neg Aj]at k ⊢;exact zC.mpr k
theorem sI(Q:List Val->Env->Sto->Prop)(R:Fl->Sto->Prop){r:Src}{t:Tgt}{body:Env->Sto->Out Fl}(h0:∀e s,Q [] e s->R (.a e) s):∀(xs:List Val),(∀rest e s,Q rest e s->r.ok s=true)->(∀x rest e s,Q (x::rest) e s->∃e1,yU t x e=some e1/\(body e1 s).post λfl s2=>match fl with|.a e=>Q rest e s2|.d e=>Q rest e s2|.c e=>R (.a e) s2|.b v=>R (.b v) s2)->∀e s,Q xs e s->(yx r t body xs e s).post R
 |[],hk,_,e,s,q=>by
  simp only[yx,hk _ _ _ q,if_true];exact zC.mpr (h0 _ _ q)
 |x::xs,hk,h,e,s,q=>by
  obtain⟨e1,h2,h3⟩:=h x xs e s q;simp only[yx,hk _ _ _ q,if_true,h2,zI];refine zR h3 λfl s2 q=>?_;cases fl with
  |a e=>exact sI Q R h0 xs hk h e s2 q
  |d e=>exact sI Q R h0 xs hk h e s2 q
  |c e=>exact zC.mpr q
  |b v=>exact zC.mpr q
def oA(Q:Env->Sto->Prop)(R:Fl->Sto->Prop):Fl->Sto->Prop
 |.a e,s=>Q e s
 |.d e,s=>Q e s
 |.c e,s=>R (.a e) s
 |.b v,s=>R (.b v) s
theorem YI{Q:Env->Sto->Prop}{R:Fl->Sto->Prop}{e:Env}:oA Q R (.a e) s↔Q e s:=CH
theorem YH{Q:Env->Sto->Prop}{R:Fl->Sto->Prop}{e:Env}:oA Q R (.d e) s↔Q e s:=CH
theorem YG{Q:Env->Sto->Prop}{R:Fl->Sto->Prop}{e:Env}:oA Q R (.c e) s↔R (.a e) s:=CH
theorem YJ{Q:Env->Sto->Prop}{R:Fl->Sto->Prop}{v:Val}:oA Q R (.b v) s↔R (.b v) s:=CH
theorem TZ(Q:List Val->Env->Sto->Prop)
 (h:(yS Φ G env it s).post λr s1=>Q r.a env s1/\(∀rest e s,Q rest e s->r.ok s=true)/\(∀x rest e s,Q (x::rest) e s->∃e1,yU t x e=some e1/\(zW Φ G e1 b s).post (oA (Q rest) R))/\∀e s,Q [] e s->R (.a e) s) :
 (exS Φ G env (.k t it b) s).post R:=by
 obtain⟨r,s1,ei,h1,h2,h3,h4⟩:=h;show (Out.bind (yS Φ G env it s) _).post R;rw[ei,zN];refine sI Q R h4 r.a h2 (λx rest e s q=>?_) _ _ h1;obtain⟨e1,k1,k2⟩:=h3 x rest e s q;refine⟨e1,k1,zR k2 λfl s2 k=>?_⟩;cases fl<;>exact k
theorem nG(Q:List Val->Env->Sto->Prop)xs(hi:yS Φ G env it s=.e ⟨xs,dr⟩ s1)(h0:Q xs env s1)
 (h1:∀x rest e s,Q (x::rest) e s->∃e1,yU t x e=some e1/\(zW Φ G e1 b s).post (oA (Q rest) R)) (h2:∀e s,Q [] e s->R (.a e) s) :
 (exS Φ G env (.k t it b) s).post R:=TZ Q ⟨_,_,hi,h0,λ_ _ _ _=>rfl,h1,h2⟩
theorem nF(I:Env->Prop)g xs(hi:yS Φ G env it s=.e ⟨xs,dr⟩ s1)(h0:I (zd fr env))
 (h1:∀x∈xs,∀e,I e->∃e1,yU t x e=some e1/\I e1/\(xk Φ G e1 ifs s1).post λb s2=>s2=s1/\if b=true then (evE Φ G e1 elt s1).post (λv s2=>s2=s1/\g x=[v]) else g x=[]) (h2:(newList m (xs.flatMap g) s1).post P) :
 (evE Φ G env (.p m N fr elt t it ifs) s).post P:=cQ I g ⟨_,_,hi,rfl,h0,h1,h2⟩
end
theorem YV{s:Sto}:truth s .h=some false:=rfl
theorem xH{s:Sto}{b:Bool}:truth s (.e b)=some b:=rfl
theorem UA{s:Sto}{i:Int}:truth s (.c i)=some (i != 0):=rfl
theorem UC{s:Sto}{vs:List Val}:truth s (.f vs)=some !vs.isEmpty:=rfl
theorem UB{s:Sto}{vs:List Val}:truth s (.j vs)=some !vs.isEmpty:=rfl
theorem Vz{s:Sto}{vs:List Val}:srcOf s (.f vs)=some ⟨vs,dr⟩:=rfl
theorem Vy{s:Sto}{vs:List Val}:srcOf s (.j vs)=some ⟨vs,dr⟩:=rfl
theorem YF{s:Sto}{ns:List Int}:srcOf s (.p ns)=some ⟨ns.map .c,dr⟩:=rfl
theorem bb{s:Sto}{xs:List Val}:Src.ok ⟨xs,dr⟩ s=true:=rfl
theorem UU{i:Nat}{v:Val}{env:Env}:yU (.a i) v env=some (env.set i (some v)):=rfl
theorem Xq{is:List Nat}{vs:List Val}{env:Env}:yU (.b is) (.f vs) env=if vs.length=is.length then some ((is.zip vs).foldl (λe p=>e.set p.1 (some p.2)) env) else dr:=rfl
theorem fX vs:t8 vs vs=true:=uG vs
theorem ny(c:Cel):c.beq c=true:=by cases c<;>simp[Cel.beq,fX]
theorem uL:∀s t,x9 s (s++t)=true
 |[],_=>rfl
 |c::r,t=>by simp[x9,ny c,uL r t]
theorem l7 s:x9 s s=true:=by have:=uL s [];rwa [Bb]at this
theorem qW:∀s t i c,c.noRef=true->x9 s (s.set i c++t)=true
 |[],_,_,_,_=>by simp[x9]
 |_::r,t,0,c,h=>by simp[x9,h,uL r t]
 |o::r,t,i+1,c,h=>by simp[x9,ny o,qW r t i c h]
theorem gL s t i vs(h:zo vs=true):x9 s (s.set i (.c vs)++t)=true:=qW s t i _ h
theorem jt:Val.h.noRef=true:=by rw[Val.noRef]
theorem uK{b:Bool}:(Val.e b).noRef=true:=by rw[Val.noRef]
theorem oy{b:Int}:(Val.c b).noRef=true:=by rw[Val.noRef]
theorem cB{b:Str}:(Val.g b).noRef=true:=by rw[Val.noRef]
theorem cE{vs:List Val}:(Val.f vs).noRef=zo vs:=by rw[Val.noRef]
theorem l6{vs:List Val}:(Val.j vs).noRef=zo vs:=by rw[Val.noRef]
theorem oz:zo []=true:=by rw[zo]
theorem qU{v:Val}{vs:List Val}:zo (v::vs)=(v.noRef&&zo vs):=by rw[zo]
theorem vy:∀ns:List Int,zo (ns.map .c)=true
 |[]=>rfl
 |_::ns=>by simp[zo,Val.noRef,vy ns]
theorem qR:∀zs:List (Int × Int),zo (zs.map prV)=true
 |[]=>rfl
 |_::zs=>by simp[zo,Val.noRef,prV,qR zs]
def yE(k:Bool)(s0:Sto)(v:Val)(s:Sto):Out Val:=
 if k then .e v s
 else if x9 s0 s then (match freeze s0.length s v with|some v'=>.e v' (s.take s0.length)|dr=>.d) else .d
theorem mM{s0 s:Sto}{v:Val}:yE true s0 v s=.e v s:=rfl
theorem vJ{k:Bool}{s:Sto}{v:Val}(h:v.noRef=true):yE k s v s=.e v s:=by
 unfold yE;cases k
 . simp[l7,freeze,h]
 . rfl
theorem lh(h:v.noRef=true):yE false s v (s++t)=.e v s:=by unfold yE;simp[uL,freeze,h]
theorem lj(h:v.noRef=true)(hv:zo vs=true):yE false s v (s.set i (.c vs)++t)=.e v (s.set i (.c vs)):=by
 unfold yE;have e:s.length=(s.set i (.c vs)).length:=by rw[AL]
 simp only[gL s t i vs hv,freeze,h,if_true,AZ,if_false,e,List.take_left']
def fin(k:Bool)(s:Sto)(P:Val->Sto->Prop):Fl->Sto->Prop
 |.a _,s1=>(yE k s .h s1).post P
 |.b v,s1=>(yE k s v s1).post P
 |_,_=>False
theorem WC{k:Bool}{s s1:Sto}{P:Val->Sto->Prop}{e:Env}:fin k s P (.a e) s1↔(yE k s .h s1).post P:=CH
theorem WD{k:Bool}{s s1:Sto}{P:Val->Sto->Prop}{v:Val}:fin k s P (.b v) s1↔(yE k s v s1).post P:=CH
theorem sg{T:Tbl}{Φ:Calls}{N ps:List Str}{k:Bool}{b:Sms}{vs:List Val}{s:Sto}{P:Val->Sto->Prop}:(run T Φ ⟨N,ps,k,b⟩ vs s).post P↔vs.length=ps.length/\(zW Φ T.b (za N vs) b s).post (fin k s P):=by
 unfold run;by_cases hl:vs.length=ps.length
 . rw[if_pos hl,zI]
   refine⟨λh=>⟨hl,zR h λfl s1 h=>?_⟩,λh=>zR h.2 λfl s1 h=>?_⟩
   . cases fl<;>first|exact h|exact(zX.mp h).elim
   . cases fl<;>first|exact h|exact h.elim
 . rw[if_neg hl]
   exact⟨λh=>(zX.mp h).elim,λh=>absurd h.1 hl⟩
theorem yM(h:T.d f v=some F)vs s:zB T (n+1) f v vs s=run T (zB T n) F vs s:=by simp only[zB,h]
theorem fY(h:T.d f v=some F)(hl:vs.length=F.b.length)s:zZ T (n+1) f v vs s=xSs (λc=>(T.f.lookup c).isSome) (zB T n) (zZ T n) T.b (za F.N vs) F.a s:=by simp only[zZ,h];rw[if_pos hl]
def At(T:Tbl)(k:Nat)(C:Calls->Prop):Prop:=∀n,k<=n->C (zB T n)
def EVl:=Ac @Y7 <| Ac @XA <| Ac @Ta <| Ac @RN <| Ac @Y6 <| Ac @Td <| Ac @Te <| Ac @TY <| Ac @Zt <| Ac @TU <| Ac @VG <| Ac @VH <| Ac @RL <| Ac @Tf <| Ac @Tg <| Ac @Tb <| Ac @Tj <| Ac @Tc <| Ac @VI <| Ac @TV <| Ac @VO <| Ac @cT <| Ac @RK <| Ac @RM <| Ac @VP <| Ac @VQ <| Ac @cU <| Ac @qZ <| Ac @Y9 <| Ac @VU <| Ac @VT <| Ac @Ti <| Ac @tL <| Ac @Zw <| Ac @cY <| Ac @cX <| Ac @cR <| Ac @mX <| Ac @cW <| Ac @VL <| Ac @VM <| Ac @Y8 <| Ac @VS <| Ac @cO <| Ac @cP <| Ac @cV <| Ac @Zv <| Ac @VN <| Ac @VR <| Ac @TX <| Ac @VJ <| Ac @nH <| Ac @yW <| Ac @YT <| Ac @YU <| Ac @YR <| Ac @YS <| Ac @YI <| Ac @YH <| Ac @YG <| Ac @YJ <| Ac @zC <| Ac @xF <| Ac @zX <| Ac @YV <| Ac @xH <| Ac @UA <| Ac @UC <| Ac @UB <| Ac @Vz <| Ac @Vy <| Ac @YF <| Ac @bb <| Ac @UU <| Ac @Xq <| Ac @sg <| Ac @WC <| Ac @WD <| Ac @mM <| Ac @vJ <| Ac @jt <| Ac @uK <| Ac @oy <| Ac @cB <| Ac @cE <| Ac @l6 <| Ac @oz <| Ac @qU <| Ac @vy <| @qR
end M
end
section
namespace M
open PySem
theorem bnd{o:Out α}{a}{f}{r:Out β}(h:o=.e a s)(k:f a s=r):o.bind f=r:=by rw[h];exact k
section
variable {Φ:Calls}{G:Str->Option Val}{env:Env}{s s1 s2 s3 s4:Sto}
theorem zO:evE Φ G env (.g v) s=.e v s:=rfl
theorem zF(h:env[i]?=some (some v)):evE Φ G env (.e i) s=.e v s:=post_eq.mpr (XA.mpr ⟨v,h,rfl,rfl⟩)
theorem qr:evE Φ G env (.K x n) s=.e (.u n) s:=rfl
theorem uu(h:G x=some v):evE Φ G env (.z x) s=.e v s:=post_eq.mpr (Ta.mpr ⟨v,h,rfl,rfl⟩)
theorem k6(h1:evE Φ G env a s=.e (.e false) s1):evE Φ G env (.y a (.a b es)) s=.e (.e false) s1:=bnd h1 rfl
theorem k7(h1:evE Φ G env a s=.e (.e true) s1)(h2:evE Φ G env b s1=.e (.e false) s2):evE Φ G env (.y a (.a b (.a c es))) s=.e (.e false) s2:=bnd h1 (show (evE Φ G env b s1).bind _=_ from bnd h2 rfl)
theorem k8(h1:evE Φ G env a s=.e (.e true) s1)(h2:evE Φ G env b s1=.e (.e true) s2)(h3:evE Φ G env c s2=r):evE Φ G env (.y a (.a b (.a c .c))) s=r:=bnd h1 (show (evE Φ G env b s1).bind _=_ from bnd h2 h3)
theorem aK(h:evE Φ G env a s=.e (.c i) s1):evE Φ G env (.B a) s=.e (.c (-i)) s1:=bnd h rfl
theorem yK(h1:evE Φ G env a s=.e x s1)(h2:evE Φ G env b s1=.e y s2)(h3:binOp m op x y s2=r):evE Φ G env (.j m op a b) s=r:=bnd h1 (bnd h2 h3)
theorem ub(h1:evE Φ G env a s=.e x s1)(h2:evE Φ G env b s1=.e y s2)(h3:zS op x y s2=r):evE Φ G env (.q op a b) s=r:=bnd h1 (bnd h2 h3)
theorem tu(h1:evE Φ G env a s=.e x s1)(h2:evE Φ G env b s1=.e y s2)(h3:vp x y s2=r):evE Φ G env (.u a b) s=r:=bnd h1 (bnd h2 h3)
theorem qx:evO Φ G env .b s=.e none s:=rfl
theorem mU(h:evE Φ G env e s=.e (.c i) s1):evO Φ G env (.a e) s=.e (some i) s1:=bnd h rfl
theorem aL(h0:evE Φ G env a s=.e x s1)(h1:evO Φ G env lo s1=.e l s2)(h2:evO Φ G env hi s2=.e h s3)(h3:evO Φ G env st s3=.e c s4)(h4:rA m x l h c s4=r):evE Φ G env (.H m a lo hi st) s=r:=bnd h0 (bnd h1 (bnd h2 (bnd h3 h4)))
theorem zH:zV Φ G env .c s=.e [] s:=rfl
theorem zA(h1:evE Φ G env e s=.e v s1)(h2:zV Φ G env es s1=.e vs s2):zV Φ G env (.a e es) s=.e (v::vs) s2:=bnd h1 (bnd h2 rfl)
theorem ju{P:List Val->Sto->Prop}(h:evE Φ G env e s=.e v s1)(k:(zV Φ G env es s1).post λvs s2=>P (v::vs) s2):(zV Φ G env (.a e es) s).post P:=qZ.mpr (by rw[h];exact zC.mpr k)
theorem w6(h:zV Φ G env es s=.e vs s1)(hl:vs.length<=zY):evE Φ G env (.r es) s=.e (.f vs) s1:=bnd h (if_pos hl)
theorem qp(h:zV Φ G env es s=.e vs s1)(hl:vs.length<=zY):evE Φ G env (.A false es) s=.e (.j vs) s1:=bnd h (if_pos hl)
theorem yn(h:zV Φ G env es s=.e vs s1)(k:blt f m vs s1=r):evE Φ G env (.k f m es) s=r:=bnd h k
theorem x_call(h:zV Φ G env es s=.e vs s1)(k:Φ f v vs s1=r):evE Φ G env (.h f v es) s=r:=bnd h k
theorem rO(h:zV Φ G env es s=.e vs s1)(k:(Φ f v vs s1).post P):(evE Φ G env (.h f v es) s).post P:=by rw[x_call h rfl];exact k
theorem sj(h:evE Φ G env e s=.e v s1)(k:(zW Φ G (env.set i (some v)) cs s1).post P):(zW Φ G env (.e (.g i e) cs) s).post P:=yW.mpr (cO.mpr (by rw[h];exact zC.mpr k))
theorem Vu(h:(evE Φ G env e s).post λv s1=>(zW Φ G (env.set i (some v)) cs s1).post P):(zW Φ G env (.e (.g i e) cs) s).post P:=yW.mpr (cO.mpr h)
theorem Vv(h:evE Φ G env e s=.e v s1)(hb:yU (.b is) v env=some env')(k:(zW Φ G env' cs s1).post P):(zW Φ G env (.e (.n is e) cs) s).post P:=yW.mpr (cP.mpr (by rw[h];exact zC.mpr ⟨env',hb,k⟩))
theorem wK(h:evE Φ G env e s=.e v s1)(k:P (.b v) s1):(zW Φ G env (.e (.d e) cs) s).post P:=yW.mpr (Y8.mpr (by rw[h];exact zC.mpr k))
theorem qJ(h:evE Φ G env e s=.e v s1)(k:srcOf s1 v=some ⟨xs,none⟩):yS Φ G env (.d e) s=.e ⟨xs,none⟩ s1:=post_eq.mpr (cR.mpr (by rw[h];exact zC.mpr ⟨_,k,rfl,rfl⟩))
theorem uZ(h:evE Φ G env e s=.e v s1)(k:truth s1 v=some b):evT Φ G env (.a e) s=.e b s1:=post_eq.mpr (Y9.mpr (by rw[h];exact zC.mpr ⟨_,k,rfl,rfl⟩))
theorem XX(h:evT Φ G env c s=.e b s1):evT Φ G env (.b c) s=.e (!b) s1:=bnd h rfl
theorem Sr(h:evT Φ G env c s=.e false s1)(k:vG Φ G env cs s1=.e b s2):evT Φ G env (.f c cs) s=.e b s2:=bnd h k
theorem bz:vG Φ G env .a s=.e false s:=rfl
theorem iE(h:evT Φ G env c s=.e false s1)(k:vG Φ G env cs s1=.e b s2):vG Φ G env (.b c cs) s=.e b s2:=bnd h k
theorem Ss(h:evT Φ G env c s=.e true s1):evT Φ G env (.f c cs) s=.e true s1:=bnd h rfl
theorem bx(h:evT Φ G env c s=.e true s1):vG Φ G env (.b c cs) s=.e true s1:=bnd h rfl
theorem j6(h:evT Φ G env c s=.e false s1)(k:(zW Φ G env cs s1).post P):(zW Φ G env (.e (.h c a .f) cs) s).post P:=yW.mpr (VN.mpr (by rw[h];refine zC.mpr ?_;rw[if_neg Aj];exact nH.mpr k))
theorem XI(h:evT Φ G env c s=.e true s1)(k:(zW Φ G env a s1).post (qm Φ G cs P)):(zW Φ G env (.e (.h c a b) cs) s).post P:=yW.mpr (VN.mpr (by rw[h];refine zC.mpr ?_;rw[if_pos rfl];exact k))
theorem XJ{J:Env->Sto->Prop}(h:evT Φ G env c s=.e b s1)(k1:b=true->(zW Φ G env a s1).post λfl s2=>∃e,fl=.a e/\J e s2)(k0:b=false->J env s1)(k:∀e s2,J e s2->(zW Φ G e cs s2).post P):(zW Φ G env (.e (.h c a .f) cs) s).post P:=by
 cases b with
 |true=>exact XI h (zR (k1 rfl) λfl s2 ⟨e,he,j⟩=>by subst he;exact k e s2 j)
 |false=>exact j6 h (k env s1 (k0 rfl))
theorem Xb(h:evE Φ G env a s=.e (.e b) s1):evE Φ G env (.G a) s=.e (.e !b) s1:=bnd h rfl
theorem aJ(h:evT Φ G env c s=.e true s1)(k:evE Φ G env a s1=r):evE Φ G env (.F c a b) s=r:=bnd h k
theorem UI(h:evT Φ G env c s=.e false s1)(k:evE Φ G env b s1=r):evE Φ G env (.F c a b) s=r:=bnd h k
theorem ph(k:P (.a env) s):(zW Φ G env .f s).post P:=nH.mpr k
theorem jv{is:List Nat}{vs:List Val}{P:Fl->Sto->Prop}(hl:vs.length=is.length)(k:P (.a ((is.zip vs).foldl (λe p=>e.set p.1 (some p.2)) env)) s):(if vs.length=is.length then Out.e (Fl.a ((is.zip vs).foldl (λe p=>e.set p.1 (some p.2)) env)) s else .d).post P:=by rw[if_pos hl];exact zC.mpr k
theorem ey{k:Nat}(h:evE Φ G env e s=.e (.c (k:Int)) s1)(hk:k<=zY):yS Φ G env (.c e) s=.e ⟨xn 0 k,none⟩ s1:=by rw[post_eq];refine mX.mpr ?_;rw[h];exact zC.mpr ⟨_,rfl,⟨by omega,by omega⟩,by rw[BS],rfl⟩
theorem j7(he:evE Φ G env e s=.e v s1)(ho:evE Φ G env o s1=.e (.m r) s1)(hi:evE Φ G env i s1=.e (.c k) s1)(hs:s1[r]?=some (.c vs))(hj:L2.ixN vs.length k=some j)
 (q:(zW Φ G env cs (s1.set r (.c (vs.set j v)))).post P):(zW Φ G env (.e (.l o i e) cs) s).post P:=by
 have e0:exS Φ G env (.l o i e) s=.e (.a env) (s1.set r (.c (vs.set j v))):=by show ((evE Φ G env e s).bind _)=_;rw[he,zN,ho,zN,hi,zN];simp only[hs,hj];rfl
 refine yW.mpr ?_;rw[e0];exact zC.mpr q
theorem aI(h1:evE Φ G env a s=.e (.c i) s)(h2:evE Φ G env b s=.e (.c j) s)(h3:evE Φ G env c s=.e (.c k) s):evE Φ G env (.s .b .b a b c) s=.e (.e (decide (i<=j)&&decide (j<=k))) s:=by
 refine bnd h1 (bnd h2 (bnd (show zS .b (.c i) (.c j) s=.e (.e (decide (i<=j))) s from rfl) ?_));cases decide (i<=j) with
 |true=>
  show (evE Φ G env c s).bind (λz s4=>zS .b (.c j) z s4)=_;exact bnd h3 (by rw[show zS .b (.c j) (.c k) s=.e (.e (decide (j<=k))) s from rfl,Bool.true_and])
 |false=>rfl
end
theorem eQ(h:v.noRef=true):(yE false s v s).post λx t=>x=v/\t=s:=by rw[vJ h];exact zC.mpr ⟨rfl,rfl⟩
end M
end
section
namespace M
open PySem
noncomputable def zj(l m:Int):Val->Bool
 |.c i=>decide (l<=i)&&decide (i<=m)
 |_=>false
theorem fA(h1:l<=i)(h2:i<=m):zj l m (.c i)=true:=by simp[zj,h1,h2]
def lG(Φ:Calls):Prop:=∀(v:Val) (l m:Int) (s:Sto),kindOf v≠none->Φ "is_whole" 0 [v,.c l,.c m] s=.e (.e (zj l m v)) s
def oK(Φ:Calls):Prop:=∀(vs:List Val) (l m:Int) (s:Sto),(∀v∈vs,kindOf v≠none)->Φ "are_wholes" 0 [.f vs,.c l,.c m] s=.e (.e (vs.all (zj l m))) s
theorem jq:blt .a m [.f vs] s=.e (.c vs.length) s:=rfl
theorem W2:blt .a m [.p ns] s=.e (.c ns.length) s:=by simp[blt,xj]
theorem dn:blt .a m [.r ns] s=.e (.c ns.length) s:=by simp[blt,xj]
theorem le_int:zS .b (.c a) (.c b) s=.e (.e (decide (a<=b))) s:=rfl
theorem lt_int:zS .k (.c a) (.c b) s=.e (.e (decide (a<b))) s:=rfl
theorem ge_int:zS .i (.c a) (.c b) s=.e (.e (decide (b<=a))) s:=rfl
theorem gt_int:zS .h (.c a) (.c b) s=.e (.e (decide (b<a))) s:=rfl
theorem sX{α:Type}f:∀xs:List α,boolsOf (xs.map λx=>Val.e (f x))=some (xs.map f)
 |[]=>rfl
 |x::xs=>by simp[boolsOf,sX f xs]
theorem Yo{α β:Type}(f:α->β)(xs:List α):xs.flatMap (λx=>[f x])=xs.map f:=by
 induction xs with
 |nil=>rfl
 |cons x xs ih=>simp[ih]
theorem iM:binOp m .a (.c i) (.c j) s=.e (.c (i+j)) s:=by simp only[binOp]
theorem RA:binOp m .g (.c i) (.c j) s=.e (.c (i-j)) s:=by simp only[binOp]
theorem UT(h:-1000000<=i/\i<=1000000):binOp m .b (.c i) (.c j) s=.e (.c (i*j)) s:=by simp only[binOp];rw[if_pos (.inl (by omega))]
theorem fW(h:-1000000<=j/\j<=1000000):binOp m .b (.c i) (.c j) s=.e (.c (i*j)) s:=by simp only[binOp];rw[if_pos (.inr (by omega))]
section
variable {T:Tbl}{Φ:Calls}{s:Sto}
theorem oi(h:kindOf v=some a)(h':vq n=some c):blt .i m [v,.u n] s=.e (.e (a.sub c)) s:=by simp only[blt];rw[h,h']
theorem Wv(h:kindOf v=some a):(∃i,v=.c i)\/(∃b,v=.e b)\/(a.sub .d=false/\∀l m,zj l m v=false):=by
 cases v with
 |c i=>exact .inl ⟨i,rfl⟩
 |e b=>exact .inr (.inl ⟨b,rfl⟩)
 |_=>cases h<;>exact .inr (.inr ⟨rfl,λ_ _=>rfl⟩)
theorem oq(h:kindOf v≠none):∃a,kindOf v=some a:=Option.ne_none_iff_exists'.mp h
theorem dh(h:kindOf v=some a):(∃vs,v=.f vs)\/a.sub .b=false:=by
 cases v with
 |f vs=>exact .inl ⟨vs,rfl⟩
 |_=>cases h<;>exact .inr rfl
theorem gj(hk:kindOf v≠none):run T Φ F.xN [v,.c l,.c m] s=.e (.e (zj l m v)) s:=by
 obtain⟨a,ha⟩:=oq hk;have e1:=oi (m:=false) (s:=s) ha (show vq "int"=some .d from rfl);have e2:=oi (m:=false) (s:=s) ha (show vq "bool"=some .i from rfl);have end':∀{b:Bool},b=zj l m v->(yE false s (.e b) s).post λx t=>x=.e (zj l m v)/\t=s:=λ{b} e=>by rw[vJ uK,e];exact zC.mpr ⟨rfl,rfl⟩
 rw[post_eq,F.xN,sg];refine⟨rfl,?_⟩;show (zW Φ T.b [some v,some (.c l),some (.c m)] _ s).post _;rcases Wv ha with⟨i,rfl⟩|⟨b,rfl⟩|⟨h1,h2⟩
 . cases ha
   have hc:evE Φ T.b [some (.c i),some (.c l),some (.c m)] (.s .b .b (.e 1) (.e 0) (.e 2)) s=.e (.e (zj l m (.c i))) s:=by
    refine bnd (zF rfl) (bnd (zF rfl) (bnd le_int ?_));show (match Val.e (decide (l<=i)) with
     |.e true=>(evE Φ T.b [some (.c i),some (.c l),some (.c m)] (.e 2) s).bind λz s4=>zS .b (.c i) z s4
     |.e false=>.e (.e false) s
     |_=>.d)=Out.e (.e (decide (l<=i)&&decide (i<=m))) s
    cases decide (l<=i) with
    |true=>exact bnd (zF rfl) le_int
    |false=>rfl
   exact wK (k8 (yn (zA (zF rfl) (zA qr zH)) e1) (Xb (yn (zA (zF rfl) (zA qr zH)) e2)) hc) (end' rfl)
 . cases ha
   exact wK (k7 (yn (zA (zF rfl) (zA qr zH)) e1) (Xb (yn (zA (zF rfl) (zA qr zH)) e2))) (end' rfl)
 . rw[h1]at e1
   exact wK (k6 (yn (zA (zF rfl) (zA qr zH)) e1)) (end' (h2 _ _).symm)
theorem kU(c:lG Φ)(hk:∀v∈vs,kindOf v≠none):run T Φ F.ya [.f vs,.c l,.c m] s=.e (.e (vs.all (zj l m))) s:=by
 rw[post_eq];simp[F.ya,EVl,za,zd];refine cQ (λe=>∃o,e=[o,some (.c l),some (.c m)]) (λx=>[.e (zj l m x)]) ?_;simp[EVl,za,zd];refine⟨?_,?_⟩
 . intro x hx
   simp[EVl,za,zd,c x l m s (hk x hx)]
 . simp[newList,EVl,za,zd,blt,Yo,yO,sX]
end
end M
end
section
namespace M
open PySem
theorem jr(h:x∈xn lo n):∃k:Nat,k<n/\x=.c (lo+k):=by unfold xn at h;obtain⟨k,h1,rfl⟩:=B9.mp h;exact⟨k,C1.mp h1,rfl⟩
theorem aq a b:Ey (.int a) (.int b)=decide (a=b):=by by_cases h:a=b<;>simp[Ey,h]
theorem eq_int:zS .a (.c a) (.c b) s=.e (.e (decide (a=b))) s:=by simp[zS,zu,yh,lS,Val.isD,Val.d,PyData.depth,aq]
end M
end
section
namespace M
open PySem
theorem i9{ns:List Int}:∀v∈ns.map Val.c,kindOf v≠none:=λv hv=>by obtain⟨i,_,rfl⟩:=B9.mp hv;simp[kindOf]
theorem rY{ns:List Int}(h:∀x∈ns,l<=x/\x<=m):(ns.map Val.c).all (zj l m)=true:=by rw[AF];intro v hv;obtain⟨i,hi,rfl⟩:=B9.mp hv;exact fA (h i hi).1 (h i hi).2
noncomputable abbrev tpI(ns:List Int):Val:=.f (ns.map .c)
section
variable {T:Tbl}{Φ:Calls}{s:Sto}
def pB(Φ:Calls):Prop:=∀(zs:List Int) (s:Sto),Sz zs->Φ "are_sizes" 0 [tpI zs] s=.e (.e true) s
def lF(Φ:Calls):Prop:=∀(zs:List Int) (s:Sto),Sz zs->Φ "need_sizes" 0 [tpI zs] s=.e .h s
theorem qy(c:pB Φ)(h:Sz zs):run T Φ F.yc [tpI zs] s=.e .h s:=by rw[post_eq];simp[F.yc,EVl,za,zd,c zs s h]
theorem aP(h:a.length+b.length<=zY):binOp m .a (.f a) (.f b) s=.e (.f (a++b)) s:=by simp only[binOp];rw[if_pos h]
end
end M
end
section
namespace M
open PySem
noncomputable def tQ(a b:Int):Cel:=.c [.c a,.c b]
def vQ(s:Sto)(p:Nat):Prop:=∃a b,s[p]?=some (tQ a b)/\0<=b/\b<2147483629
def yk(s:Sto)(p:Nat)(s':Sto):Prop:=∃a b,s'=s.set p (tQ a b)/\0<=b/\b<2147483629
theorem vQ.lt(h:vQ s p):p<s.length:=by obtain⟨a,b,h,_⟩:=h;exact(Am.mp h).1
theorem yk.at_(h:yk s p s')(hp:p<s.length):vQ s' p:=by obtain⟨a,b,rfl,h1⟩:=h;exact⟨a,b,Av hp,h1⟩
theorem yk.trans(h:yk s p s1)(k:yk s1 p s2):yk s p s2:=by obtain⟨a,b,rfl,h1⟩:=h;obtain⟨c,d,rfl,h2⟩:=k;exact⟨c,d,by rw[List.set_set],h2⟩
theorem vQ.refl(h:vQ s p):yk s p s:=by obtain⟨a,b,h,h1⟩:=h;obtain⟨hp,e⟩:=Am.mp h;refine⟨a,b,?_,h1⟩;rw[<-e,List.set_getElem_self]
theorem yk.len(h:yk s p s'):s'.length=s.length:=by obtain⟨a,b,rfl,_⟩:=h;exact AL ..
theorem gA(h:yk s p s')(hv:v.noRef=true):yE false s v (s'++t)=.e v s':=by obtain⟨a,b,rfl,_⟩:=h;exact lj hv rfl
theorem ui(h:yk s p s')(hv:v.noRef=true):yE false s v s'=.e v s':=by
 have:=gA (t:=[]) h hv
 rwa [Bb]at this
theorem bmod(h:0<j):binOp m .c (.c i) (.c j) s=.e (.c (i%j)) s:=by simp only[binOp];rw[if_pos h]
theorem bdiv(h:0<j/\j<1073741824):binOp m .e (.c i) (.c j) s=.e (.c (i/j)) s:=by simp only[binOp];rw[if_pos h]
theorem om{k:Nat}(h:vs[k]?=some v):vp (.j vs) (.c k) s=.e v s:=by simp[vp,xj,L2.oQ h]
theorem WJ{i k:Nat}(hs:s[i]?=some (.c vs))(h:vs[k]?=some v):vp (.m i) (.c k) s=.e v s:=by simp[vp,xj,hs,L2.oQ h]
section
variable {T:Tbl}{Φ:Calls}{s:Sto}
def Yg(Φ:Calls):Prop:=∀(ns:List Int) (k:Nat) (s:Sto),∃c,Φ "_law_cell_at" 0 [.r ns,.c k] s=.e (.c c) s
def UK(Φ:Calls):Prop:=∀(c:Int) (s:Sto),∃a b,Φ "_law_pen" 1 [.c c] s=.e (.m s.length) (s++[tQ a b])/\0<=b/\b<2147483629
def fC(Φ:Calls):Prop:=∀(p:Nat) (m:Int) (s:Sto),vQ s p->0<m->m<1000000->(Φ "_law_draw" 0 [.m p,.c m] s).post λv s'=>∃r:Nat,v=.c r/\(r:Int)<m/\yk s p s'
theorem bR ns(k:Nat):∃c,run T Φ F.z6 [.r ns,.c k] s=.e (.c c) s:=by
 by_cases h:k<ns.length
 . refine⟨ns[k],?_⟩
   rw[post_eq];have h':(k:Int)<ns.length:=by omega
   have e:(ns.map Val.c)[k]?=some (.c ns[k]):=by rw[AX,Ad h];rfl
   have c1:vp (.r ns) (.c k) s=.e (.c ns[k]) s:=by simp[vp,xj,L2.oQ e]
   simp[F.z6,EVl,za,zd,dn,lt_int,h',h,c1]
 . refine⟨0,?_⟩
   rw[post_eq];have h':¬(k:Int)<ns.length:=by omega
   simp[F.z6,EVl,za,zd,dn,lt_int,h',h]
theorem Z9 c:∃a b,run T Φ F.yG [.c c] s=.e (.m s.length) (s++[tQ a b])/\0<=b/\b<2147483629:=by
 have key:(run T Φ F.yG [.c c] s).post λv s'=>∃a b,v=.m s.length/\s'=s++[tQ a b]/\0<=b/\b<2147483629:=by
  have c1:∀(i:Int) (b:Bool),binOp false .b (.c i) (.c (if b then 1 else 0)) s=.e (.c (i*(if b then 1 else 0))) s:=λi b=>fW (by cases b<;>simp)
  have c2:∀i:Int,binOp false .c (.c i) (.c 2147483629) s=.e (.c (i%2147483629)) s:=λi=>by simp[binOp]
  have c3:binOp false .d (.c 10) (.c 18) s=.e (.c (10 ^ 18)) s:=by simp[binOp]
  simp[F.yG,EVl,za,zd,RA,blt];simp[EVl,za,zd,c1,c2,c3,ge_int,blt,zY,newList,tQ];rw[fW (by split<;>omega)]
  simp only[zC];rw[bmod (by omega)]
  simp only[zC];exact⟨trivial,_,_,⟨trivial,rfl,rfl⟩,F1 _ (by omega),EW _ (by omega)⟩
 obtain⟨v,s',h,a,b,rfl,rfl,h1⟩:=key;exact⟨a,b,h,h1⟩
theorem bS(hp:vQ s p)(h0:0<m)(h1:m<1000000):(run T Φ F.yX [.m p,.c m] s).post λv s'=>∃r:Nat,v=.c r/\(r:Int)<m/\yk s p s':=by
 have hpl:=hp.lt;obtain⟨a,b,hs,hb,hb1⟩:=hp;have ix:∀{s:Sto} {a b:Int} {k:Nat} {v:Val},s[p]?=some (tQ a b)->[Val.c a,.c b][k]?=some v->vp (.m p) (.c k) s=.e v s:=λh h'=>WJ h h';have fin':∀{x:Int} {s':Sto},yk s p s'->(yE false s (.c (x%m)) s').post λv s'=>∃r:Nat,v=.c r/\(r:Int)<m/\yk s p s':=λ{x s'} t=>by
  rw[ui t oy];have h3:=F1 x (show m≠0 by omega)
  have h4:=EW x h0;exact zC.mpr ⟨(x%m).toNat,by congr 1;omega,by omega,t⟩
 rw[F.yX,sg];refine⟨rfl,?_⟩;show (zW Φ T.b [some (.m p),some (.c m),none,none,none] _ s).post _;have tc:evT Φ T.b [some (.m p),some (.c m),none,none,none] (.a (.q .h (.u (.e 0) (.g (.c 0))) (.g (.c 0)))) s=.e (decide (0<a)) s:=uZ (ub (tu (zF rfl) zO (ix (k:=0) hs rfl)) zO gt_int) xH;cases hd:decide (0<a) with
 |true=>
  rw[hd]at tc;refine XI tc (Vv (env':=[some (.m p),some (.c m),some (.c (a/m)),some (.c (a%m)),none]) (yn (zA (tu (zF rfl) zO (ix (k:=0) hs rfl)) (zA (zF rfl) zH)) (show blt .d false [.c a,.c m] s=.e (.f [.c (a/m),.c (a%m)]) s by simp only[blt];rw[if_pos ⟨h0,by omega⟩])) rfl ?_)
  exact j7 (j:=0) (zF rfl) (zF rfl) zO hs rfl (wK (zF rfl) (fin' ⟨a/m,b,rfl,hb,hb1⟩))
 |false=>
  rw[hd]at tc;refine j6 tc ?_;refine j7 (j:=1) (yK (yK (yK (tu (zF rfl) zO (ix (k:=1) hs rfl)) zO (fW (by omega))) zO iM) zO (bmod (by omega))) (zF rfl) zO hs rfl ?_
  generalize hx:(b*48271+30269)%2147483629=x;have x0:0<=x:=by rw[<-hx];exact F1 _ (by omega)
  have x1:x<2147483629:=by rw[<-hx];exact EW _ (by omega)
  have hs':(s.set p (tQ a x))[p]?=some (tQ a x):=Av hpl;show (zW Φ T.b [some (.m p),some (.c m),none,none,none] _ (s.set p (tQ a x))).post _;refine sj (yK (yK (yK (yK (tu (zF rfl) zO (ix (k:=1) hs' rfl)) (tu (zF rfl) zO (ix (k:=1) hs' rfl)) (show binOp false .b (.c x) (.c x) _=_ by simp only[binOp];rw[if_pos (.inl (by omega))])) (yK zO (tu (zF rfl) zO (ix (k:=1) hs' rfl)) (UT (by omega))) iM) zO iM) zO (bmod (by omega))) ?_
  exact wK (yK (yK (zF rfl) zO (bdiv ⟨by omega,by omega⟩)) (zF rfl) (bmod h0)) (fin' ⟨a,x,rfl,x0,x1⟩)
end
end M
end
section
namespace M
open PySem
noncomputable def Ri(bad:Int->Bool):Val->List Val
 |.c x=>if bad x then [.c x] else []
 |_=>[]
theorem UJ(h:env[i]?=some (some (tpI ns))):evE Φ G env (.k .a m (.a (.e i) .c)) s=.e (.c (ns.length:Nat)) s:=yn (zA (zF h) zH) (by rw[jq,Ai])
section
variable {Φ:Calls}{G:Str->Option Val}{env:Env}{s:Sto}
noncomputable def Vq(f:Nat->Int):Val->List Val
 |.c k=>[.c (f k.toNat)]
 |_=>[]
theorem bP:(xn 0 n).flatMap (Vq f)=((Bj n).map f).map .c:=by
 unfold xn;rw[List.flatMap_map,List.map_map];have:(λ(k:Nat)=>Vq f (.c (0+(k:Int))))=λk=>[(Val.c∘f) k]:=by funext k;show [Val.c (f (0+(k:Int)).toNat)]=_;rw[Int.zero_add,BS];rfl
 rw[this,Yo]
theorem Xc(hi:yS Φ G env it s=.e ⟨xn 0 n,none⟩ s)(h0:zd fr env=none::e0)(h:∀k (o:Option Val),k<n->evE Φ G (some (.c k)::e0) elt s=.e (.c (f k)) s)(hl:n<=zY):evE Φ G env (.p false N fr elt (.a 0) it .a) s=.e (.j (((Bj n).map f).map .c)) s:=by
 rw[post_eq];refine nF (λe=>∃o,e=o::e0) (Vq f) (xn 0 n) (s1:=s) hi ⟨none,h0⟩ ?_ ?_
 . rintro x hx e ⟨o,rfl⟩
   obtain⟨k,hk,rfl⟩:=jr hx;refine⟨_,rfl,⟨_,rfl⟩,tL.mpr ⟨rfl,?_⟩⟩;rw[if_pos rfl,Int.zero_add];show (evE Φ G (some (.c (k:Int))::e0) elt s).post _;rw[h k none hk];refine zC.mpr ⟨rfl,?_⟩;show [Val.c (f (k:Int).toNat)]=_;rw[BS]
 . rw[bP]
   exact zC.mpr ⟨rfl,rfl⟩
end
end M
end
section
namespace M
open PySem
theorem gM(L:L2.vS k w d)(hk:k<=50)(hw:w<=300000)(hd:d.hasDict=false):uk d=true:=by
 have:=L.a;have:=L.f;unfold uk;rw[L.c,L.b,hd,decide_eq_true (show d.depth<=50 by omega),decide_eq_true (show d.weight<=300000 by omega)]
 rfl
theorem max2:blt .k m [.c i,.c j] s=.e (.c (if j > i then j else i)) s:=rfl
theorem min2:blt .l m [.c i,.c j] s=.e (.c (if j<i then j else i)) s:=rfl
theorem eU{K:Nat}(h0:env[0]?=some (some (.r ns)))(hK:K<=100) :
 yS Φ G env (.c (.k .k false (.a (.g (.c 1)) (.a (.k .l false (.a (.k .a false (.a (.e 0) .c)) (.a (.g (.c K)) .c))) .c)))) s=.e ⟨xn 0 (max 1 (min ns.length K)),none⟩ s:=by
 rw[post_eq];simp only[EVl,za,zd];refine⟨_,h0,?_⟩;rw[dn];simp only[zC];rw[min2];simp only[zC];rw[max2];simp only[zC];have e:(if (if (K:Int)<(ns.length:Int) then (K:Int) else (ns.length:Int)) > 1 then (if (K:Int)<(ns.length:Int) then (K:Int) else (ns.length:Int)) else 1)=((max 1 (min ns.length K):Nat):Int):=by split<;>split<;>omega
 rw[e];refine⟨_,rfl,⟨by omega,by unfold zY;omega⟩,?_⟩
 simp
end M
end
section
namespace F
open PySem M
noncomputable def y0:Fn:=⟨["sizes","hues","place","hue"],["sizes","hues"],false,(.e (.k (.b [2,3]) (.g (.e 1)) (.e (.h (.a (.q .i (.e 3) (.k .a false (.a (.e 0) .c)))) (.e (.d (.e 2)) .f) .f) .f)) (.e (.d (.g .h)) .f))⟩
noncomputable def y9:Fn:=⟨["sizes","hues","first","hue","step"],["sizes","hues"],false,(.e (.k (.b [2,3]) (.g (.e 1)) (.e (.h (.a (.q .i (.e 3) (.g (.c 0)))) (.e (.k (.a 4) (.f (.g (.c 1)) (.j false .a (.h "most_step" 0 (.a (.k .a false (.a (.e 1) .c)) (.a (.e 2) (.a (.u (.e 0) (.e 3)) .c)))) (.g (.c 1)))) (.e (.h (.a (.h "is_one_hue" 0 (.a (.e 1) (.a (.e 2) (.a (.e 4) (.a (.u (.e 0) (.e 3)) .c)))))) (.e (.d (.r (.a (.e 2) (.a (.e 4) .c)))) .f) .f) .f)) .f) .f) .f)) (.e (.d (.g .h)) .f))⟩
noncomputable def yj:Fn:=⟨["sizes","strip","place","row"],["sizes","strip"],false,(.e (.f (.h "need_sizes" 0 (.a (.e 0) .c))) (.e (.f (.h "need_strip" 0 (.a (.e 1) .c))) (.e (.g 2 (.h "first_hue_wrong" 0 (.a (.e 0) (.a (.e 1) .c)))) (.e (.h (.a (.q .d (.e 2) (.g .h))) (.e (.d (.r (.a (.g (.g "hue")) (.a (.e 2) .c)))) .f) .f) (.e (.g 3 (.h "first_row_wrong" 0 (.a (.e 0) (.a (.e 1) .c)))) (.e (.d (.F (.a (.q .j (.e 3) (.g .h))) (.g .h) (.r (.a (.g (.g "row")) (.a (.u (.e 3) (.g (.c 0))) (.a (.u (.e 3) (.g (.c 1))) .c)))))) .f))))))⟩
noncomputable def rT:Fn:=⟨["sizes","strip"],["sizes","strip"],false,(.e (.d (.q .j (.h "first_wrong" 0 (.a (.e 0) (.a (.e 1) .c))) (.g .h))) .f)⟩
noncomputable def xM:Fn:=⟨["thing"],["thing"],false,(.e (.d (.y (.k .i false (.a (.e 0) (.a (.K "tuple" "tuple") .c))) (.a (.q .b (.k .a false (.a (.e 0) .c)) (.z "MOST_PLACES")) (.a (.h "are_wholes" 0 (.a (.e 0) (.a (.u (.z "HUES") (.g (.c 0))) (.a (.u (.z "HUES") (.B (.g (.c 1)))) .c)))) .c)))) .f)⟩
noncomputable def zw:Fn:=⟨["thing"],["thing"],false,(.e (.h (.b (.a (.h "is_strip" 0 (.a (.e 0) .c)))) (.e (.j (.h "NoStrip" 0 (.a (.g (.g "a strip is due")) .c))) .f) .f) .f)⟩
end F
end
section
namespace M
open PySem
structure Gl4(T:Tbl):Prop where
 mp:T.b "MOST_PLACES"=some (.c 40)
 ls:T.b "LEAST_SIZE"=some (.c 2)
 ms:T.b "MOST_SIZE"=some (.c 8)
 hu:T.b "HUES"=some (.p [0,1,2,3])
end M
end
section
namespace M
open PySem
structure Th(k w:Nat)(v:Val):Prop where
 f:v.noRef=true
 b:kindOf v≠none
 r:v.isR=true
 c:L2.vS k w v.d
 e:v.d.hasDict=false
 a:∀s,yh s v=v
theorem Th.mono(h:Th k w v)(h1:k<=k')(h2:w<=w'):Th k' w' v:=⟨h.f,h.b,h.r,h.c.mono h1 h2,h.e,h.a⟩
theorem ql(h1:-(10 ^ 30)<i)(h2:i<10 ^ 30):Th 0 100 (.c i):=⟨oy,nofun,by rw[Val.isR],by rw[Val.d];exact L2.mL h1 h2,by rw[Val.d];rfl,λ_=>rfl⟩
theorem iC b:Th 0 100 (.e b):=⟨uK,nofun,by rw[Val.isR],by rw[Val.d];exact(L2.hJ b).mono (xd _) (BX _),by rw[Val.d];rfl,λ_=>rfl⟩
theorem iD:Th 0 100 .h:=⟨jt,nofun,by rw[Val.isR],by rw[Val.d];exact L2.hX.mono (xd _) (BX _),by rw[Val.d];rfl,λ_=>rfl⟩
theorem bu(h1:∀c∈x.cps.toList,c<16 ^ 8)(h2:x.cps.size<=100):Th 0 100 (.g x):=⟨cB,nofun,by rw[Val.isR],by rw[Val.d];exact L2.d0 h1 h2,by rw[Val.d];rfl,λ_=>rfl⟩
theorem ths:∀{vs},(∀v∈vs,Th k w v)->zo vs=true/\su vs=true/\(ds vs).length=vs.length/\∀d∈ds vs,L2.vS k w d/\d.hasDict=false
 |[],_=>⟨oz,by rw[su],by rw[ds];rfl,λd h=>by rw[ds]at h;cases h⟩
 |v::vs,h=>by
  obtain⟨a,b,c,e⟩:=ths λx hx=>h x (.tail _ hx);have t:=h v (.head _);refine⟨by rw[qU,t.f,a];rfl,by rw[su,t.r,b];rfl,by rw[ds,AI,AI,c],λd hd=>?_⟩
  rw[ds]at hd;rcases Ak.mp hd with rfl|hd
  . exact⟨t.c,t.e⟩
  . exact e d hd
theorem ki(h:∀v∈vs,Th k w v)(hn:vs.length<=n):Th (k+1) (n*(w+1)) (.f vs):=by
 obtain⟨a,b,c,e⟩:=ths h;refine⟨by rw[cE];exact a,nofun,by rw[Val.isR];exact b,by rw[Val.d];exact L2.lg (λd hd=>(e d hd).1) (by rw[c];exact hn),?_,λ_=>rfl⟩
 rw[Val.d,PyData.hasDict];exact L2.sJ λd hd=>(e d hd).2
theorem br(h:∀v∈vs,Th k w v)(hn:vs.length<=n):Th (k+1) (n*(w+1)) (.j vs):=by
 obtain⟨a,b,c,e⟩:=ths h;refine⟨by rw[l6];exact a,nofun,by rw[Val.isR];exact b,by rw[Val.d];exact L2.hU (λd hd=>(e d hd).1) (by rw[c];exact hn),?_,λ_=>rfl⟩
 rw[Val.d,PyData.hasDict];exact L2.sJ λd hd=>(e d hd).2
structure Thing(v:Val):Prop where
 a:Th 2 200000 v
 el:∀vs,v=.f vs->∀w∈vs,Th 1 1000 w
theorem lB(h:Th 1 1000 v)(hn:∀vs,v≠.f vs):Thing v:=⟨h.mono (by decide) (by decide),λvs e=>absurd e (hn vs)⟩
theorem oD(h:∀v∈vs,Th 1 1000 v)(hn:vs.length<=190):Thing (.f vs):=⟨(ki h hn).mono (by decide) (by decide),λws e=>by cases e;exact h⟩
theorem gy(h:∀v∈vs,Th 1 1000 v)(hn:vs.length<=190):Thing (.j vs):=⟨(br h hn).mono (by decide) (by decide),λws e=>by cases e⟩
theorem Thing.kinds(h:Thing v):∀vs,v=.f vs->∀w∈vs,kindOf w≠none:=λvs e w hw=>(h.el vs e w hw).b
theorem Thing.shown(h:Thing v)m s:blt .h m [v] s=.e (.g v.d.shown) s:=by
 have e:zu s v=v:=by
  cases v with
  |f vs=>
   show Val.f (vs.map (yh s))=_;rw[EF (g:=id) λw hw=>(h.el vs rfl w hw).a s,List.map_id]
  |_=>exact h.a.a s
 simp only[blt];rw[e,h.a.r,gM h.a.c (by decide) (by decide) h.a.e]
 rfl
theorem gp(h1:-1000<=i)(h2:i<=1000):Th 1 1000 (.c i):=(ql (by omega) (by omega)).mono (by decide) (by decide)
theorem YQ{ns:List Int}(h:∀x∈ns,-1000<=x/\x<=1000):∀v∈ns.map Val.c,Th 1 1000 v:=λv hv=>by obtain⟨i,hi,rfl⟩:=B9.mp hv;exact gp (h i hi).1 (h i hi).2
end M
end
section
namespace M
open PySem
theorem Zf{k:Nat}(h:k<=1000)(h1:vs≠[])(h2:vs.length<=1000):binOp m .b (.f vs) (.c k) s=.e (.f (Al k vs).flatten) s:=by simp only[binOp];rw[if_pos ⟨by omega,by omega,h1,h2⟩,BS]
end M
end
section
namespace M
open PySem
noncomputable def Rj(zs:List Int):Val->List Val
 |.f [.c i,.c h]=>if (zs.length:Int)<=h then [.c i] else []
 |_=>[]
section
variable {T:Tbl}{Φ:Calls}{s:Sto}
def xO(ns:List Int):Prop:=ns.length<=40/\∀x∈ns,0<=x/\x<=3
def ni(Φ:Calls):Prop:=∀(ns:List Int) (s:Sto),xO ns->Φ "need_strip" 0 [tpI ns] s=.e .h s
def pC(Φ:Calls):Prop:=∀(ns:List Int) (s:Sto),xO ns->Φ "is_strip" 0 [tpI ns] s=.e (.e true) s
theorem qf(c:pC Φ)(hn:xO ns):run T Φ F.zw [tpI ns] s=.e .h s:=by rw[post_eq];simp[F.zw,EVl,za,zd,c ns s hn]
def v8:Val->Bool
 |.f vs=>(decide (1<=vs.length)&&decide (vs.length<=4))&&vs.all (zj 2 8)
 |_=>false
def jB(Φ:Calls):Prop:=∀(v:Val) (s:Sto),kindOf v≠none->(∀vs,v=.f vs->∀w∈vs,kindOf w≠none)->Φ "are_sizes" 0 [v] s=.e (.e (v8 v)) s
theorem ba{v:Val}(h:∀vs,v≠.f vs):v8 v=false:=by
 cases v with
 |f vs=>exact absurd rfl (h vs)
 |_=>rfl
theorem kS(g:Gl4 T)(c:oK Φ)(hk:kindOf v≠none)(hks:∀vs,v=.f vs->∀w∈vs,kindOf w≠none):run T Φ F.yv [v] s=.e (.e (v8 v)) s:=by
 obtain⟨a,ha⟩:=oq hk;have i1:=oi (m:=false) (s:=s) ha (show vq "tuple"=some .b from rfl);have end':∀{b:Bool},b=v8 v->(yE false s (.e b) s).post λx t=>x=.e (v8 v)/\t=s:=λ{b} e=>by rw[e];exact eQ uK
 rw[post_eq,F.yv,sg];refine⟨rfl,?_⟩;show (zW Φ T.b [some v] _ s).post _;rcases dh ha with⟨vs,rfl⟩|hn
 . have e1:a=.b:=by cases ha;rfl
   subst e1;have e2:(decide ((1:Int)<=(vs.length:Nat))&&decide (((vs.length:Nat):Int)<=4))=(decide (1<=vs.length)&&decide (vs.length<=4)):=by
    congr 1
    . exact decide_eq_decide.mpr (by omega)
    . exact decide_eq_decide.mpr (by omega)
   have hc:=aI (Φ:=Φ) (G:=T.b) (env:=[some (.f vs)]) (s:=s) (a:=.g (.c 1)) (b:=.k .a false (.a (.e 0) .c)) (c:=.k .a false (.a (.z "HUES") .c)) zO (yn (zA (zF rfl) zH) jq) (yn (zA (uu g.hu) zH) W2);rw[show ((([0,1,2,3]:List Int).length:Nat):Int)=4 from rfl,e2]at hc;have e3:v8 (.f vs)=((decide (1<=vs.length)&&decide (vs.length<=4))&&vs.all (zj 2 8)):=rfl;cases hb:(decide (1<=vs.length)&&decide (vs.length<=4)) with
   |true=>
    rw[hb]at hc e3;exact wK (k8 (yn (zA (zF rfl) (zA qr zH)) i1) hc (x_call (zA (zF rfl) (zA (uu g.ls) (zA (uu g.ms) zH))) (c vs 2 8 s (hks vs rfl)))) (end' (by rw[e3];rfl))
   |false=>
    rw[hb]at hc e3;exact wK (k7 (yn (zA (zF rfl) (zA qr zH)) i1) hc) (end' e3.symm)
 . rw[hn]at i1
   exact wK (k6 (yn (zA (zF rfl) (zA qr zH)) i1)) (end' (ba λvs e=>by rw[e]at ha;cases ha;cases hn).symm)
end
end M
end
section
namespace M
open PySem
def yJ:Val->Bool
 |.f vs=>decide (vs.length<=40)&&vs.all (zj 0 3)
 |_=>false
theorem bf(h:∀vs,v≠.f vs):yJ v=false:=by
 cases v with
 |f vs=>exact absurd rfl (h vs)
 |_=>rfl
theorem bg(h:xO t):yJ (tpI t)=true:=by show (decide ((t.map Val.c).length<=40)&&(t.map Val.c).all (zj 0 3))=true;rw[Ai,decide_eq_true h.1,rY h.2];rfl
end M
end
section
namespace M
open PySem
section
variable {T:Tbl}{Φ:Calls}{G:Str->Option Val}{env:Env}{s:Sto}
theorem dz(h1:0<=i)(h2:i<=3):L2.vS 0 4 (.int i):=by
 have:=L2.mL (i:=i) (by omega) (by omega)
 refine⟨this.c,this.b,this.a,?_⟩;have:i=0\/i=1\/i=2\/i=3:=by omega
 rcases this with rfl|rfl|rfl|rfl<;>decide
theorem V8(h1:0<=i)(h2:i<=3):Th 0 4 (.c i):=⟨oy,nofun,by rw[Val.isR],by rw[Val.d];exact dz h1 h2,by rw[Val.d];rfl,λ_=>rfl⟩
theorem bw(h:xO t):Th 1 200 (tpI t):=ki (n:=40) (k:=0) (w:=4) (λv hv=>by obtain⟨i,hi,rfl⟩:=B9.mp hv;exact V8 (h.2 i hi).1 (h.2 i hi).2) (by rw[Ai];exact h.1)
end
end M
end
section
namespace F75
open PySem M
noncomputable def yX:Fn:=⟨["_law_pen_here","_law_bound","_law_found","_law_stir"],["_law_pen_here","_law_bound"],false,(.e (.h (.d (.a (.q .a (.u (.e 0) (.g (.c 1))) (.g (.c 1)))) (.b (.a (.q .h (.u (.e 0) (.g (.c 0))) (.g (.c 0)))) .a)) (.e (.g 2 (.j false .c (.u (.e 0) (.g (.c 0))) (.e 1))) (.e (.l (.e 0) (.g (.c 0)) (.j false .e (.u (.e 0) (.g (.c 0))) (.e 1))) (.e (.d (.e 2)) .f))) .f) (.e (.l (.e 0) (.g (.c 2)) (.j false .a (.u (.e 0) (.g (.c 2))) (.g (.c 1)))) (.e (.g 3 (.j false .c (.j false .b (.j false .a (.u (.e 0) (.g (.c 3))) (.g (.c 17))) (.j false .a (.g (.c 69621)) (.j false .b (.g (.c 2)) (.u (.e 0) (.g (.c 2)))))) (.g (.c 2147483647)))) (.e (.g 3 (.j false .c (.j false .a (.j false .a (.j false .b (.e 3) (.e 3)) (.j false .b (.g (.c 40503)) (.u (.e 0) (.g (.c 2))))) (.g (.c 5))) (.g (.c 2147483629)))) (.e (.d (.j false .c (.j false .e (.j false .c (.j false .b (.e 3) (.g (.c 48271))) (.g (.c 2147483647))) (.g (.c 32))) (.e 1))) .f)))))⟩
noncomputable def yG:Fn:=⟨["_law_cell"],["_law_cell"],true,(.e (.d (.A true (.a (.e 0) (.a (.k .o false (.a (.q .i (.e 0) (.j false .d (.g (.c 10)) (.g (.c 18)))) .c)) (.a (.g (.c 0)) (.a (.j false .c (.e 0) (.g (.c 1000000007))) .c)))))) .f)⟩
noncomputable def tv:Fn:=⟨["length","size"],["length","size"],false,(.e (.f (.h "need_length" 0 (.a (.e 0) .c))) (.e (.f (.h "need_size" 0 (.a (.e 1) .c))) (.e (.d (.w false ["first","step","length","size"] [none,none,some 0,some 1] (.r (.a (.e 0) (.a (.e 1) .c))) (.a 0) (.c (.e 0)) .a (.a 1) (.f (.g (.c 1)) (.j false .a (.h "most_step" 0 (.a (.e 2) (.a (.e 0) (.a (.e 3) .c)))) (.g (.c 1)))) .a)) .f)))⟩
end F75
end
section
namespace M
open PySem
noncomputable def Tu(a b c d:Int):Cel:=.c [.c a,.c b,.c c,.c d]
def Sy(s:Sto)(p:Nat):Prop:=∃a b c d,s[p]?=some (Tu a b c d)/\0<=d/\d<1000000007
def UM(s:Sto)(p:Nat)(s':Sto):Prop:=∃a b c d,s'=s.set p (Tu a b c d)/\0<=d/\d<1000000007
theorem UM.at_(h:UM s p s')(hp:p<s.length):Sy s' p:=by obtain⟨a,b,c,d,rfl,h1⟩:=h;exact⟨a,b,c,d,Av hp,h1⟩
end M
end
section
namespace F14
open PySem M
noncomputable def w9:Fn:=⟨["strip"],["strip"],false,(.e (.f (.h "need_strip" 0 (.a (.e 0) .c))) (.e (.d (.H false (.e 0) .b .b (.a (.B (.g (.c 1)))))) .f))⟩
noncomputable def wG:Fn:=⟨["strip","hues"],["strip","hues"],false,(.e (.f (.h "need_strip" 0 (.a (.e 0) .c))) (.e (.h (.b (.a (.h "is_order" 0 (.a (.e 1) .c)))) (.e (.j (.h "NoHue" 0 (.a (.g (.g "the hues 0 to 3, each once, are due")) .c))) .f) .f) (.e (.d (.k .c false (.a (.p false ["hue","hues"] [none,some 1] (.u (.e 1) (.e 0)) (.a 0) (.d (.e 0)) .a) .c))) .f)))⟩
noncomputable def uc:Fn:=⟨["thing"],["thing"],false,(.e (.d (.y (.k .i false (.a (.e 0) (.a (.K "tuple" "tuple") .c))) (.a (.h "are_wholes" 0 (.a (.e 0) (.a (.u (.z "HUES") (.g (.c 0))) (.a (.u (.z "HUES") (.B (.g (.c 1)))) .c)))) (.a (.q .a (.k .c false (.a (.k .b false (.a (.e 0) .c)) .c)) (.z "HUES")) .c)))) .f)⟩
noncomputable def vB:Fn:=⟨["thing"],["thing"],false,(.e (.f (.h "need_whole" 0 (.a (.e 0) (.a (.g (.c 0)) (.a (.z "MOST_PLACES") .c))))) .f)⟩
noncomputable def vY:Fn:=⟨["thing"],["thing"],false,(.e (.f (.h "need_whole" 0 (.a (.e 0) (.a (.g (.c 1)) (.a (.z "MOST_PLACES") .c))))) .f)⟩
noncomputable def uD:Fn:=⟨["strip","first","step"],["strip","first","step"],false,(.e (.f (.h "need_strip" 0 (.a (.e 0) .c))) (.e (.f (.h "need_first" 0 (.a (.e 1) .c))) (.e (.f (.h "need_step" 0 (.a (.e 2) .c))) (.e (.d (.H false (.e 0) (.a (.e 1)) .b (.a (.e 2)))) .f))))⟩
end F14
end
section
namespace M
open PySem
theorem W6 ns:(tpI ns).noRef=true:=vy ns
end M
end
section
namespace F08
open PySem M
noncomputable def yZ:Fn:=⟨["_law_pen_here","_law_limit","_law_hues","_law_way","_law_length","_law_odd","_law_found"],["_law_pen_here","_law_limit","_law_hues"],false,(.e (.p [3,4,5] (.a (.h "_law_draw" 0 (.a (.e 0) (.a (.g (.c 4)) .c))) (.a (.h "_law_draw" 0 (.a (.e 0) (.a (.j false .a (.e 1) (.g (.c 1))) .c))) (.a (.j false .a (.g (.c 2)) (.h "_law_draw" 0 (.a (.e 0) (.a (.g (.c 5)) .c)))) .c)))) (.e (.g 6 (.p false ["_law_place","_law_pen_here","_law_hues"] [none,some 0,some 2] (.h "_law_draw" 0 (.a (.e 1) (.a (.e 2) .c))) (.a 0) (.c (.e 4)) .a)) (.e (.h (.a (.q .a (.e 3) (.g (.c 1)))) (.e (.g 6 (.p false ["_law_place","_law_found","_law_length","_law_odd"] [none,some 6,some 4,some 5] (.u (.e 1) (.j false .c (.j false .c (.e 0) (.e 3)) (.e 2))) (.a 0) (.c (.e 4)) .a)) .f) .f) (.e (.h (.a (.q .a (.e 3) (.g (.c 2)))) (.e (.g 6 (.p false ["_law_place","_law_found","_law_odd"] [none,some 6,some 5] (.F (.f (.a (.q .h (.u (.e 1) (.e 0)) (.g (.c 0)))) (.b (.a (.q .a (.j false .c (.e 0) (.e 2)) (.g (.c 0)))) .a)) (.u (.e 1) (.g (.c 0))) (.u (.e 1) (.e 0))) (.a 0) (.c (.e 4)) .a)) .f) .f) (.e (.d (.k .c false (.a (.e 6) .c))) .f)))))⟩
noncomputable def w8:Fn:=⟨["strip","first","step","many","place"],["strip","first","step"],false,(.e (.g 3 (.g (.c 0))) (.e (.g 4 (.e 1)) (.e (.m (.d (.a (.q .k (.e 4) (.k .a false (.a (.e 0) .c)))) (.b (.a (.q .a (.u (.e 0) (.e 4)) (.u (.e 0) (.e 1)))) .a)) (.e (.u 3 .a (.g (.c 1))) (.e (.u 4 .a (.e 2)) .f))) (.e (.d (.e 3)) .f))))⟩
noncomputable def yi:Fn:=⟨["strip","size","rows"],["strip","size"],false,(.e (.g 2 (.h "whole_rows" 0 (.a (.e 0) (.a (.e 1) .c)))) (.e (.d (.F (.a (.e 2)) (.u (.e 2) (.g (.c 0))) (.g .h))) .f))⟩
noncomputable def wb:Fn:=⟨["one","other","many"],["one","other"],false,(.e (.f (.h "need_strip" 0 (.a (.e 0) .c))) (.e (.f (.h "need_strip" 0 (.a (.e 1) .c))) (.e (.g 2 (.j false .a (.k .a false (.a (.e 0) .c)) (.k .a false (.a (.e 1) .c)))) (.e (.h (.a (.q .h (.e 2) (.z "MOST_PLACES"))) (.e (.j (.g .h)) .f) .f) (.e (.d (.j false .a (.e 0) (.e 1))) .f)))))⟩
noncomputable def uC:Fn:=⟨["strip","length"],["strip"],false,(.e (.f (.h "need_strip" 0 (.a (.e 0) .c))) (.e (.g 1 (.k .a false (.a (.e 0) .c))) (.e (.d (.D (.w false ["first","step","length","strip"] [none,none,some 1,some 0] (.h "alike_from" 0 (.a (.e 3) (.a (.e 0) (.a (.e 1) .c)))) (.a 0) (.c (.e 1)) .a (.a 1) (.f (.g (.c 1)) (.j false .a (.e 2) (.g (.c 1)))) .a) (.g (.c 0)))) .f)))⟩
noncomputable def xt:Fn:=⟨["strip","size","found"],["strip","size"],false,(.e (.g 2 (.p false ["first","step","strip"] [none,none,some 0] (.u (.e 2) (.e 0)) (.b [0,1]) (.d (.h "whole_rows" 0 (.a (.e 0) (.a (.e 1) .c)))) .a)) (.e (.d (.k .c false (.a (.p false ["hue","found"] [none,some 2] (.L .a false (.e 1) (.a (.e 0) .c)) (.a 0) (.d (.z "HUES")) .a) .c))) .f))⟩
noncomputable def yd:Fn:=⟨["strip","size"],["strip","size"],false,(.e (.f (.h "need_strip" 0 (.a (.e 0) .c))) (.e (.f (.h "need_size" 0 (.a (.e 1) .c))) (.e (.d (.p false ["first","step","strip","size"] [none,none,some 0,some 1] (.r (.a (.e 0) (.a (.e 1) .c))) (.b [0,1]) (.d (.h "rows_in" 0 (.a (.k .a false (.a (.e 0) .c)) (.a (.e 1) .c)))) (.b (.a (.h "is_one_hue" 0 (.a (.e 2) (.a (.e 0) (.a (.e 1) (.a (.e 3) .c)))))) .a))) .f)))⟩
end F08
end
section
namespace M
open PySem
section
variable {T:Tbl}{Φ:Calls}{s:Sto}
def jA(Φ:Calls):Prop:=∀(p lim h:Nat) (s:Sto),vQ s p->lim<=40->1<=h->h<=4->(Φ "_law_strip" 0 [.m p,.c lim,.c h] s).post λv s'=>∃ns,v=tpI ns/\xO ns/\ns.length<=lim/\yk s p s'
theorem kR(cD:fC Φ){p lim h:Nat}(hp:vQ s p)(hl:lim<=40)(h1:1<=h)(h4:h<=4):(run T Φ F08.yZ [.m p,.c lim,.c h] s).post λv s'=>∃ns,v=tpI ns/\xO ns/\ns.length<=lim/\yk s p s':=by
 have hpl:=hp.lt;rw[F08.yZ,sg];refine⟨rfl,?_⟩;show (zW Φ T.b [some (.m p),some (.c lim),some (.c h),none,none,none,none] _ s).post _;refine yW.mpr (cV.mpr (qZ.mpr (rO (zA (zF rfl) (zA zO zH)) (zR (cD p 4 s hp (by omega) (by omega)) ?_))))
 rintro v s1 ⟨way,rfl,_,t1⟩;refine qZ.mpr (rO (zA (zF rfl) (zA (yK (zF rfl) zO iM) zH)) (zR (cD p _ s1 (t1.at_ hpl) (by omega) (by omega)) ?_))
 rintro v s2 ⟨n,rfl,hn,t2'⟩;have t2:=t1.trans t2';refine qZ.mpr (Y6.mpr (Y7.mpr (rO (zA (zF rfl) (zA zO zH)) (zR (cD p 5 s2 (t2.at_ hpl) (by omega) (by omega)) ?_))))
 rintro v s3 ⟨od,rfl,hod,t3'⟩;have t3:=t2.trans t3';rw[iM,show (2:Int)+(od:Int)=((od+2:Nat):Int) by omega]
 refine zC.mpr (cU.mpr (jv rfl ?_));show (zW Φ T.b [some (.m p),some (.c lim),some (.c h),some (.c way),some (.c n),some (.c (od+2:Nat)),none] _ s3).post _;have hnl:n<=lim:=by omega
 have hnL:n<=zY:=by unfold zY;omega
 refine Vu (Zu (λrest e s' acc=>(∃o,e=[o,some (.m p),some (.c h)])/\yk s3 p s'/\∃fs:List Int,acc=fs.map .c/\(∀x∈fs,0<=x/\x<=3)/\fs.length+rest.length=n) ?_);refine⟨⟨xn 0 n,none⟩,_,ey (zF rfl) hnL,⟨⟨none,rfl⟩,(t3.at_ hpl).refl,[],rfl,λ_ hx=>(nomatch hx),by rw[qe,B5,FJ]⟩,λ_ _ _ _ _=>rfl,?_,?_⟩
 . rintro x rest e s' acc ⟨⟨o,rfl⟩,t,fs,rfl,hfs,hfl⟩
   refine⟨_,rfl,tL.mpr ?_⟩;rw[if_pos rfl];show (evE Φ T.b [some x,some (.m p),some (.c h)] _ s').post _;refine rO (zA (zF rfl) (zA (zF rfl) zH)) (zR (cD p h s' (t.at_ (by rw[t3.len];exact hpl)) (by omega) (by omega)) ?_)
   rintro v s4 ⟨r,rfl,hr,t4⟩;refine⟨⟨_,rfl⟩,t.trans t4,fs++[(r:Int)],by rw[Ew];rfl,λx hx=>?_,by rw[Ap,BA];rw[AI]at hfl;omega⟩
   rcases AS.mp hx with hx|hx
   . exact hfs x hx
   . rw[Aw.mp hx];omega
 . rintro e s4 acc ⟨⟨o,rfl⟩,t,fs,rfl,hfs,hfl⟩
   rw[B5,Nat.add_zero]at hfl;refine zC.mpr ?_;show (zW Φ T.b [some (.m p),some (.c lim),some (.c h),some (.c way),some (.c n),some (.c (od+2:Nat)),some (.j (fs.map .c))] _ s4).post _;have T4:=t3.trans t;have memD:∀(gs:List Int) (k:Nat),gs.length=n->k<n->(∀x∈gs,0<=x/\x<=3)->0<=gs.getD k 0/\gs.getD k 0<=3:=λgs k h1 h2 h3=>by
    rw[AH,Ad (by omega)]
    exact h3 _ (Cf _)
   refine XJ (J:=λe s'=>s'=s4/\∃gs:List Int,e=[some (.m p),some (.c lim),some (.c h),some (.c way),some (.c n),some (.c (od+2:Nat)),some (.j (gs.map .c))]/\gs.length=n/\∀x∈gs,0<=x/\x<=3) (uZ (ub (zF rfl) zO eq_int) xH) (λ_=>?_) (λ_=>⟨rfl,fs,rfl,hfl,hfs⟩) ?_
   . refine sj (Xc (n:=n) (f:=λk=>fs.getD (k%(od+2)%n) 0) (ey (zF rfl) hnL) rfl (λk o hk=>?_) hnL) (ph ⟨_,rfl,rfl,(Bj n).map λk=>fs.getD (k%(od+2)%n) 0,rfl,by rw[Ai,C0],λx hx=>?_⟩)
     . have hm1:binOp false .c (.c (k:Int)) (.c ((od+2:Nat):Int)) s4=.e (.c ((k%(od+2):Nat):Int)) s4:=by rw[bmod (by omega),<-FL]
       have hm2:binOp false .c (.c ((k%(od+2):Nat):Int)) (.c (n:Int)) s4=.e (.c ((k%(od+2)%n:Nat):Int)) s4:=by rw[bmod (by omega),<-FL]
       have hlt:k%(od+2)%n<fs.length:=by rw[hfl];exact Nat.mod_lt _ (by omega)
       refine tu (zF rfl) (yK (yK (zF rfl) (zF rfl) hm1) (zF rfl) hm2) (om ?_);rw[AX,Ad hlt,AH,Ad hlt];rfl
     . obtain⟨k,hk,rfl⟩:=B9.mp hx
       exact memD fs _ hfl (Nat.mod_lt _ (by have:=C1.mp hk;omega)) hfs
   . rintro e s5 ⟨rfl,gs,rfl,hgl,hgs⟩
     refine XJ (J:=λe s'=>s'=s5/\∃gs:List Int,e=[some (.m p),some (.c lim),some (.c h),some (.c way),some (.c n),some (.c (od+2:Nat)),some (.j (gs.map .c))]/\gs.length=n/\∀x∈gs,0<=x/\x<=3) (uZ (ub (zF rfl) zO eq_int) xH) (λ_=>?_) (λ_=>⟨rfl,gs,rfl,hgl,hgs⟩) ?_
     . refine sj (Xc (n:=n) (f:=λk=>if (decide (0<gs.getD k 0)||decide (((k%(od+2):Nat):Int)=0))=true then gs.getD 0 0 else gs.getD k 0) (ey (zF rfl) hnL) rfl (λk o hk=>?_) hnL) (ph ⟨_,rfl,rfl,(Bj n).map λk=>if (decide (0<gs.getD k 0)||decide (((k%(od+2):Nat):Int)=0))=true then gs.getD 0 0 else gs.getD k 0,rfl,by rw[Ai,C0],λx hx=>?_⟩)
       . have hkl:k<gs.length:=by omega
         have h0l:0<gs.length:=by omega
         have hm1:binOp false .c (.c (k:Int)) (.c ((od+2:Nat):Int)) s5=.e (.c ((k%(od+2):Nat):Int)) s5:=by rw[bmod (by omega),<-FL]
         have ik:vp (.j (gs.map .c)) (.c (k:Int)) s5=.e (.c (gs.getD k 0)) s5:=om (by rw[AX,Ad hkl,AH,Ad hkl];rfl)
         have i0:vp (.j (gs.map .c)) (.c ((0:Nat):Int)) s5=.e (.c (gs.getD 0 0)) s5:=om (by rw[AX,Ad h0l,AH,Ad h0l];rfl)
         have hgt:zS .h (.c (gs.getD k 0)) (.c 0) s5=.e (.e (decide (0<gs.getD k 0))) s5:=rfl;have g1:=uZ (Φ:=Φ) (G:=T.b) (env:=[some (.c (k:Int)),some (.j (gs.map .c)),some (.c ((od+2:Nat):Int))]) (s:=s5) (ub (a:=.u (.e 1) (.e 0)) (b:=.g (.c 0)) (tu (zF rfl) (zF rfl) ik) zO hgt) xH;have g2:=uZ (Φ:=Φ) (G:=T.b) (env:=[some (.c (k:Int)),some (.j (gs.map .c)),some (.c ((od+2:Nat):Int))]) (s:=s5) (ub (a:=.j false .c (.e 0) (.e 2)) (b:=.g (.c 0)) (yK (zF rfl) (zF rfl) hm1) zO eq_int) xH;cases hb1:decide (0<gs.getD k 0) with
         |true=>
          rw[hb1]at g1;exact aJ (Ss g1) (tu (zF rfl) zO i0)
         |false=>
          rw[hb1]at g1;cases hb2:decide (((k%(od+2):Nat):Int)=0) with
          |true=>
           rw[hb2]at g2;exact aJ (Sr g1 (bx g2)) (tu (zF rfl) zO i0)
          |false=>
           rw[hb2]at g2;exact UI (Sr g1 (iE g2 bz)) (tu (zF rfl) (zF rfl) ik)
       . obtain⟨k,hk,rfl⟩:=B9.mp hx
         have hk':=C1.mp hk;split
         . exact memD gs 0 hgl (by omega) hgs
         . exact memD gs k hgl hk' hgs
     . rintro e s6 ⟨rfl,gs,rfl,hgl,hgs⟩
       refine wK (yn (zA (zF rfl) zH) (show blt .c false [.j (gs.map .c)] s6=.e (tpI gs) s6 from rfl)) ?_;show (yE false s (tpI gs) s6).post _;rw[ui T4 (W6 gs)];exact zC.mpr ⟨gs,rfl,⟨by omega,hgs⟩,by omega,T4⟩
end
end M
end
section
namespace M
open PySem
section
variable {W:Str->Bool}{Φ:Calls}{Ψ:yp}{G:Str->Option Val}{env:Env}{s s1:Sto}
theorem Wu(h:exS Φ G env c s=.e (.a e) s1):zW Φ G env (.e c cs) s=zW Φ G e cs s1:=bnd h rfl
theorem wQ(h:exS Φ G env c s=.d):zW Φ G env (.e c cs) s=.d:=by show (exS Φ G env c s).bind _=_;rw[h];rfl
theorem U4(h:evT Φ G env c s=.e true s1)(k:zW Φ G env a s1=.d):exS Φ G env (.h c a b) s=.d:=bnd h k
theorem rH:exS Φ G env (.j e) s=.d:=rfl
theorem lb(h:evE Φ G env e s=.d):exS Φ G env (.f e) s=.d:=by show (evE Φ G env e s).bind _=_;rw[h];rfl
theorem Za(h:evE Φ G env e s=.e v s1):exS Φ G env (.f e) s=.e (.a env) s1:=bnd h rfl
theorem Vn(h:exS Φ G env c s=.e (.a e) s1):xSs W Φ Ψ G env (.e c cs) s=xSs W Φ Ψ G e cs s1:=by simp only[xSs,h]
theorem wX(h:exS Φ G env c s=.d):xSs W Φ Ψ G env (.e c cs) s=xS W Φ Ψ G env c s:=by simp only[xSs,h]
theorem T7(h:evT Φ G env c s=.e true s1):xS W Φ Ψ G env (.h c a b) s=xSs W Φ Ψ G env a s1:=by simp only[xS,h,if_true]
theorem kM(h:zV Φ G env es s=.e vs s1):xS W Φ Ψ G env (.f (.h f v es)) s=Ψ f v vs s1:=by simp only[xS,xE,h]
theorem jy(h:zV Φ G env es s=.e vs s1)(k:(pS vs&&W c)=true):xS W Φ Ψ G env (.j (.h c v es)) s=some (c,vs,s1):=by simp only[xS,h];rw[if_pos k]
theorem yz(hl:vs.length=F.b.length)(h:zW Φ T.b (za F.N vs) F.a s=.d):run T Φ F vs s=.d:=by unfold run;rw[if_pos hl,h];rfl
end
def Rz(Φ:Calls)(Ψ:yp)(f:Str)(vs:List Val)(s:Sto)(c:Str):Prop:=Φ f 0 vs s=.d/\∃as,Ψ f 0 vs s=some (c,as,s)
theorem wL(h:Rz (zB T n) (zZ T n) f vs s c)(h1:T.d f 100=none)(h2:T.c false=true)(h3:zh T.e s=true)(h4:T.f.lookup c=some w):zB T (n+1) f 100 vs s=.e (.g w) s:=by obtain⟨a,as,b⟩:=h;simp only[zB,h1,a,b,h2,h3,h4,uY];rfl
section
variable {T:Tbl}{Φ:Calls}{Ψ:yp}{s:Sto}
def Yj(Φ:Calls)(Ψ:yp):Prop:=∀(v:Val) (l m:Int) (s:Sto),kindOf v≠none->zj l m v=false->l.natAbs<2 ^ 64->m.natAbs<2 ^ 64->Rz Φ Ψ "need_whole" [v,.c l,.c m] s "NoNumber"
def UQ(Φ:Calls)(Ψ:yp):Prop:=∀(v:Val) (s:Sto),kindOf v≠none->zj 2 8 v=false->Rz Φ Ψ "need_size" [v] s "NoNumber"
theorem fP(c:lG Φ)(hW:(T.f.lookup ("NoNumber":Str)).isSome=true)(hk:kindOf v≠none)(hw:zj l m v=false)(hl:l.natAbs<2 ^ 64)(hm:m.natAbs<2 ^ 64) :
 run T Φ F.yQ [v,.c l,.c m] s=.d/\xSs (λc=>(T.f.lookup c).isSome) Φ Ψ T.b (za F.yQ.N [v,.c l,.c m]) F.yQ.a s=some (("NoNumber":Str),[Val.c l,Val.c m],s):=by
 have ht:evT Φ T.b [some v,some (.c l),some (.c m)] (.b (.a (.h "is_whole" 0 (.a (.e 0) (.a (.e 1) (.a (.e 2) .c)))))) s=.e true s:=by have hc:=c v l m s hk;rw[hw]at hc;exact XX (b:=false) (uZ (x_call (zA (zF rfl) (zA (zF rfl) (zA (zF rfl) zH))) hc) xH)
 have hs:=U4 (b:=.f) ht (wQ (cs:=.f) (rH (e:=.h "NoNumber" 0 (.a (.e 1) (.a (.e 2) .c)))));refine⟨yz rfl (wQ hs),(wX hs).trans ((T7 ht).trans ((wX rH).trans (jy (zA (zF rfl) (zA (zF rfl) zH)) ?_)))⟩;rw[hW];simp[pS,hl,hm]
theorem fQ(g1:T.b "LEAST_SIZE"=some (.c 2))(g2:T.b "MOST_SIZE"=some (.c 8))(c:Yj Φ Ψ)(hk:kindOf v≠none)(hw:zj 2 8 v=false) :
 run T Φ F.yY [v] s=.d/\∃as,xSs (λc=>(T.f.lookup c).isSome) Φ Ψ T.b (za F.yY.N [v]) F.yY.a s=some (("NoNumber":Str),as,s):=by
 obtain⟨a,as,b⟩:=c v 2 8 s hk hw (by decide) (by decide)
 have he:zV Φ T.b [some v] (.a (.e 0) (.a (.z "LEAST_SIZE") (.a (.z "MOST_SIZE") .c))) s=.e [v,.c 2,.c 8] s:=zA (zF rfl) (zA (uu g1) (zA (uu g2) zH));have hs:=lb (x_call he a);exact⟨yz rfl (wQ hs),as,(wX hs).trans ((kM he).trans b)⟩
end
end M
end
section
namespace M
open PySem
theorem xp:∀{tb} {s},zh tb s=true↔∃r,s=tb.map Cel.d++r
 |[],s=>⟨λ_=>⟨s,rfl⟩,λ_=>rfl⟩
 |x::tb,s=>by
  constructor
  . intro h
    cases s with
    |nil=>cases h
    |cons c r=>
     cases c with
     |d y=>
      have h':(decide (x=y)&&zh tb r)=true:=h;rw[cf,decide_eq_true_eq]at h';obtain⟨r',e⟩:=xp.mp h'.2;exact⟨r',by rw[h'.1,e];rfl⟩
     |_=>cases h
  . rintro ⟨r,rfl⟩
    show (decide (x=x)&&zh tb (tb.map Cel.d++r))=true;rw[decide_eq_true rfl,xp.mpr ⟨r,rfl⟩];rfl
theorem YL(h:zh tb s=true):zh tb (s++t)=true:=by obtain⟨r,rfl⟩:=xp.mp h;exact xp.mpr ⟨r++t,Bx ..⟩
theorem YO(h:zh tb s=true)(hp:tb.length<=p):zh tb (s.set p c)=true:=by obtain⟨r,rfl⟩:=xp.mp h;refine xp.mpr ⟨r.set (p-tb.length) c,?_⟩;rw[List.set_append_right _ _ (by rw[Ai];exact hp),Ai]
theorem YM(h:zh tb s=true):tb.length<=s.length:=by obtain⟨r,rfl⟩:=xp.mp h;rw[Ap,Ai];omega
theorem gB(hs:zh tb s=true)(h:v.noRef=true):yE false (tb.map Cel.d) v s=.e v (tb.map Cel.d):=by obtain⟨r,rfl⟩:=xp.mp hs;exact lh h
def RzF(T:Tbl)(Φ:Calls)(Ψ:yp)(F:Fn)(vs:List Val)(s:Sto)(c:Str):Prop:=run T Φ F vs s=.d/\∃as,xSs (λc=>(T.f.lookup c).isSome) Φ Ψ T.b (za F.N vs) F.a s=some (c,as,s)
theorem RzF.up(h:RzF T (zB T n) (zZ T n) F vs s c)(hf:T.d f 0=some F)(hl:vs.length=F.b.length):Rz (zB T (n+1)) (zZ T (n+1)) f vs s c:=by obtain⟨a,as,b⟩:=h;exact⟨by rw[yM hf];exact a,as,by rw[fY hf hl];exact b⟩
section
variable {T:Tbl}{Φ:Calls}{Ψ:yp}{s:Sto}
theorem iJ(hb:F.a=.e (.f (.h f 0 es)) cs)(hl:vs.length=F.b.length)(he:zV Φ T.b (za F.N vs) es s=.e ws s)(h:Rz Φ Ψ f ws s c):RzF T Φ Ψ F vs s c:=by obtain⟨a,as,b⟩:=h;have hs:=lb (x_call he a);refine⟨yz hl (by rw[hb];exact wQ hs),as,by rw[hb];exact(wX hs).trans ((kM he).trans b)⟩
theorem ue(hb:F.a=.e (.f (.h f 0 es)) (.e (.f (.h g 0 es2)) cs))(hl:vs.length=F.b.length)(he:zV Φ T.b (za F.N vs) es s=.e ws s)(h1:Φ f 0 ws s=.e v s)(he2:zV Φ T.b (za F.N vs) es2 s=.e ys s)(h:Rz Φ Ψ g ys s c):RzF T Φ Ψ F vs s c:=by obtain⟨a,as,b⟩:=h;have hs:=lb (x_call he2 a);have hn:=Za (x_call he h1);refine⟨yz hl (by rw[hb];exact(Wu hn).trans (wQ hs)),as,by rw[hb];exact(Vn hn).trans ((wX hs).trans ((kM he2).trans b))⟩
end
end M
end
section
namespace M
open PySem
structure Kds(v:Val):Prop where
 kd:kindOf v≠none
 el:∀vs,v=.f vs->∀w∈vs,kindOf w≠none
section
variable {T:Tbl}{Φ:Calls}{Ψ:yp}{s:Sto}
def oJ(Φ:Calls):Prop:=∀(v:Val) (s:Sto),Kds v->Φ "is_strip" 0 [v] s=.e (.e (yJ v)) s
theorem kT(g1:T.b "MOST_PLACES"=some (.c 40))(g2:T.b "HUES"=some (.p [0,1,2,3]))(c:oK Φ)(hv:Kds v):run T Φ F.xM [v] s=.e (.e (yJ v)) s:=by
 obtain⟨a,ha⟩:=oq hv.kd;have i1:=oi (m:=false) (s:=s) ha (show vq "tuple"=some .b from rfl);have end':∀{b:Bool},b=yJ v->(yE false s (.e b) s).post λx t=>x=.e (yJ v)/\t=s:=λ{b} e=>by rw[vJ uK,e];exact zC.mpr ⟨rfl,rfl⟩
 rw[post_eq,F.xM,sg];refine⟨rfl,?_⟩;show (zW Φ T.b [some v] _ s).post _;rcases dh ha with⟨vs,rfl⟩|hn
 . have e1:a=.b:=by cases ha;rfl
   subst e1;by_cases h4:vs.length<=40
   . exact wK (k8 (yn (zA (zF rfl) (zA qr zH)) i1) (ub (yn (zA (zF rfl) zH) jq) (uu g1) (by rw[le_int,decide_eq_true (by omega)])) (x_call (zA (zF rfl) (zA (tu (uu g2) zO rfl) (zA (tu (uu g2) (aK zO) rfl) zH))) (c vs 0 3 s (hv.el vs rfl)))) (end' (by show _=(decide (vs.length<=40)&&vs.all (zj 0 3));rw[decide_eq_true h4];rfl))
   . exact wK (k7 (yn (zA (zF rfl) (zA qr zH)) i1) (ub (yn (zA (zF rfl) zH) jq) (uu g1) (by rw[le_int,decide_eq_false (by omega)]))) (end' (by show _=(decide (vs.length<=40)&&vs.all (zj 0 3));rw[decide_eq_false h4];rfl))
 . rw[hn]at i1
   exact wK (k6 (yn (zA (zF rfl) (zA qr zH)) i1)) (end' (bf λvs e=>by rw[e]at ha;cases ha;cases hn).symm)
theorem qK ns:Kds (tpI ns):=⟨nofun,λvs e=>by cases e;exact i9⟩
theorem gr(c:oJ Φ):pC Φ:=λns s h=>by rw[c _ s (qK ns),bg h]
end
end M
end
section
namespace M
open PySem
section
variable {T:Tbl}{Φ:Calls}{Ψ:yp}{G:Str->Option Val}{s:Sto}
theorem fN(c:jB Φ):pB Φ:=λzs s h=>by rw[c _ s (qK zs).kd (qK zs).el];show Out.e (Val.e (decide (1<=(zs.map Val.c).length)&&decide ((zs.map Val.c).length<=4)&&(zs.map Val.c).all (zj 2 8))) s=_;rw[Ai,decide_eq_true h.1,decide_eq_true h.2.1,rY h.2.2];rfl
end
end M
end
section
namespace M
open PySem
section
variable {W:Str->Bool}{Φ:Calls}{Ψ:yp}{G:Str->Option Val}{env:Env}{s s1:Sto}{T:Tbl}
theorem Xm{F:Fn}{f c x:Str}{vs ws:List Val}{es:Exs}{b cs:Sms}(hb:F.a=.e (.h (.b (.a (.h f 0 es))) (.e (.j (.h c 0 (.a (.g (.g x)) .c))) .f) .f) cs)(hl:vs.length=F.b.length)(he:zV Φ T.b (za F.N vs) es s=.e ws s)(h:Φ f 0 ws s=.e (.e false) s)
 (hW:(T.f.lookup c).isSome=true):RzF T Φ Ψ F vs s c:=by
 have ht:=XX (uZ (x_call he h) xH);have hs:=U4 (b:=.f) ht (wQ (cs:=.f) (rH (e:=.h c 0 (.a (.g (.g x)) .c))));exact⟨yz hl (by rw[hb];exact wQ hs),_,by rw[hb];exact(wX hs).trans ((T7 ht).trans ((wX rH).trans (jy (zA zO zH) (by rw[hW];rfl))))⟩
end
end M
end
section
namespace M
open PySem
section
variable {T:Tbl}{Φ:Calls}{Ψ:yp}{s:Sto}
def Xk(Φ:Calls)(Ψ:yp):Prop:=∀(v:Val) (s:Sto),Kds v->yJ v=false->Rz Φ Ψ "need_strip" [v] s "NoStrip"
theorem iL(c:oJ Φ)(hW:(T.f.lookup ("NoStrip":Str)).isSome=true)(hv:Kds v)(hr:yJ v=false):RzF T Φ Ψ F.zw [v] s "NoStrip":=
 Xm (b:=.f) (F:=F.zw) rfl rfl (zA (zF rfl) zH) (by rw[c v s hv,hr]) hW
theorem iK(h:Rz Φ Ψ "first_wrong" [v,w] s c):RzF T Φ Ψ F.rT [v,w] s c:=by
 obtain⟨a,as,b⟩:=h;have he:zV Φ T.b [some v,some w] (.a (.e 0) (.a (.e 1) .c)) s=.e [v,w] s:=zA (zF rfl) (zA (zF rfl) zH);have h1:evE Φ T.b [some v,some w] (.h "first_wrong" 0 (.a (.e 0) (.a (.e 1) .c))) s=.d:=x_call he a;have hs:exS Φ T.b [some v,some w] (.d (.q .j (.h "first_wrong" 0 (.a (.e 0) (.a (.e 1) .c))) (.g .h))) s=.d:=by show ((evE Φ T.b [some v,some w] (.h "first_wrong" 0 (.a (.e 0) (.a (.e 1) .c))) s).bind _).bind _=_;rw[h1];rfl
 refine⟨yz rfl (wQ hs),as,(wX hs).trans ?_⟩;simp only[xS,xE,he];exact b
end
theorem mz(h:Rz (zB T n) (zZ T n) f vs s c)(h1:T.d "" 300=none)(h2:T.c false=true)(h3:zh T.e s=true)(h4:T.f.lookup c=some w):zB T (n+1) "" 300 (.t f::vs) s=.e (.g w) s:=by obtain⟨a,as,b⟩:=h;simp only[zB,h1,pN,List.tail_cons,a,b,h2,h3,h4,uY];rfl
end M
end
section
namespace F07
open PySem M
noncomputable def z0:Fn:=⟨["_law_pen_here","_law_strip_here","_law_at","_law_to","_law_odd","_law_found"],["_law_pen_here","_law_strip_here"],false,(.e (.p [2,3] (.a (.h "_law_draw" 0 (.a (.e 0) (.a (.j false .a (.k .a false (.a (.e 1) .c)) (.g (.c 1))) .c))) (.a (.h "_law_draw" 0 (.a (.e 0) (.a (.g (.c 9)) .c))) .c))) (.e (.g 4 (.u (.A false (.a (.g (.c 4)) (.a (.B (.g (.c 1))) (.a (.g (.e true)) (.a (.g (.e false)) (.a (.g .h) (.a (.g (.g "1")) (.a (.r (.a (.g (.c 1)) .c)) (.a (.A false (.a (.g (.c 1)) .c)) (.a (.j false .d (.g (.c 10)) (.g (.c 29))) .c)))))))))) (.e 3))) (.e (.g 5 (.A false (.a (.j false .a (.j false .a (.H false (.e 1) .b (.a (.e 2)) .b) (.r (.a (.e 4) .c))) (.H false (.e 1) (.a (.e 2)) .b .b)) (.a (.k .j false (.a (.e 1) .c)) (.a (.H false (.j false .a (.e 1) (.j false .b (.r (.a (.g (.c 1)) .c)) (.g (.c 41)))) .b (.a (.g (.c 41))) .b) (.a (.r (.a (.e 1) (.a (.g (.c 0)) .c))) (.a (.g .h) (.a (.g (.g "")) (.a .C .c))))))))) (.e (.d (.j false .a (.e 5) (.A false (.a (.j false .a (.r (.a (.e 4) .c)) (.H false (.e 1) .b (.a (.g (.c 39))) .b)) (.a (.j false .a (.H false (.e 1) .b (.a (.g (.c 39))) .b) (.r (.a (.e 4) .c))) .c))))) .f))))⟩
end F07
end
section
namespace M
open PySem
section
variable {Φ:Calls}{G:Str->Option Val}{env:Env}{s:Sto}
theorem YC(h:(zW Φ G (env.set i none) mid s).post λfl s0=>s0=s/\∃e0 vs y,fl=.a e0/\zV Φ G e0 L s=.e vs s/\evE Φ G e0 d s=.e y s/\zS .c (.j vs) y s=.e (.e false) s/\vG Φ G e0 o s=.e false s/\(zW Φ G e0 cs s).post P) :
 (zW Φ G env (.g i L mid 2 d o b cs) s).post P:=by
 obtain⟨fl,s0,hm,e,e0,vs,y,rfl,h1,h2,h3,h4,h5⟩:=h;subst e;have e:zW Φ G env (.g i L mid 2 d o b cs) s0=zW Φ G e0 cs s0:=by
  refine bnd hm ?_;show (if wC s0=wC s0 then _ else _)=_
  rw[if_pos rfl];refine bnd h1 (bnd (a:=false) (s:=s0) (bnd h2 (bnd (a:=false) (s:=s0) ?_ h4)) ?_)
  . rw[h3];rfl
  . rfl
 rw[e];exact h5
end
section
variable {T:Tbl}{Φ:Calls}{Ψ:yp}{s:Sto}
theorem aT(hb:F.a=.e (.g i (.h f 0 es)) cs)(hl:vs.length=F.b.length)(he:zV Φ T.b (za F.N vs) es s=.e ws s)(h:Rz Φ Ψ f ws s c):RzF T Φ Ψ F vs s c:=by
 obtain⟨a,as,b⟩:=h;have hs:exS Φ T.b (za F.N vs) (.g i (.h f 0 es)) s=.d:=by show (evE Φ T.b (za F.N vs) (.h f 0 es) s).bind _=_;rw[x_call he a];rfl
 refine⟨yz hl (by rw[hb];exact wQ hs),as,by rw[hb];refine(wX hs).trans ?_;simp only[xS,xE,he];exact b⟩
theorem fO(hb:F.a=.e (.g i (.p m N fr elt t (.d (.h f 0 es)) ifs)) cs)(hl:vs.length=F.b.length)(he:zV Φ T.b (za F.N vs) es s=.e ws s)(h:Rz Φ Ψ f ws s c):RzF T Φ Ψ F vs s c:=by
 obtain⟨a,as,b⟩:=h;have hs:exS Φ T.b (za F.N vs) (.g i (.p m N fr elt t (.d (.h f 0 es)) ifs)) s=.d:=by show (((evE Φ T.b (za F.N vs) (.h f 0 es) s).bind _).bind _).bind _=_;rw[x_call he a];rfl
 refine⟨yz hl (by rw[hb];exact wQ hs),as,by rw[hb];refine(wX hs).trans ?_;simp only[xS,xE,xI,he];exact b⟩
end
structure Nst(v:Val):Prop where
 kds:Kds v
 no:yJ v=false
 sh:∃x,∀s,blt .h false [v] s=.e (.g x) s
 nr:v.noRef=true
theorem qV(h:Thing v)(hb:yJ v=false):Nst v:=⟨⟨h.a.b,h.kinds⟩,hb,⟨_,h.shown false⟩,h.a.f⟩
theorem gu(hu:u∈vs)(hw:zj 0 3 u=false):yJ (.f vs)=false:=by
 cases e:yJ (.f vs) with
 |false=>rfl
 |true=>
  have e:(decide (vs.length<=40)&&vs.all (zj 0 3))=true:=e;rw[cf]at e;have h:=e.2;rw[AF]at h;rw[h u hu]at hw;cases hw
theorem rM(h:∀v∈vs,Th 1 1000 v)(hn:vs.length<=190)(hu:u∈vs)(hw:zj 0 3 u=false):Nst (.f vs):=qV (oD h hn) (gu hu hw)
theorem Zg:Nst .o:=⟨⟨nofun,nofun⟩,rfl,⟨_,λs=>by
 have h:(Val.o.isR&&uk Val.o.d)=true:=by rw[Val.isR,Val.d];decide +kernel
 show (if (Val.o.isR&&uk Val.o.d)=true then Out.e (Val.g Val.o.d.shown) s else Out.d)=_
 exact if_pos h⟩,by rw[Val.noRef]⟩
noncomputable def fT:Int:=100000000000000000000000000000
theorem fU:binOp m .d (.c 10) (.c 29) s=.e (.c fT) s:=by
 simp only[binOp];rw[if_pos (by decide)]
 congr 2
def nA:List Val:=[.c 4,.c (-1),.e true,.e false,.h,.g "1",.f [.c 1],.j [.c 1],.c fT]
theorem W7:∀u∈nA,Th 1 1000 u/\zj 0 3 u=false:=λu hu=>by
 have i:∀{i:Int},-(10 ^ 30)<i->i<10 ^ 30->Th 1 1000 (.c i):=λh1 h2=>(ql h1 h2).mono (by decide) (by decide)
 have one:∀v∈[Val.c 1],Th 0 100 v:=λv hv=>by rw[Aw.mp hv];exact ql (by decide) (by decide)
 simp only[nA,Ak,Bg,or_false]at hu;rcases hu with rfl|rfl|rfl|rfl|rfl|rfl|rfl|rfl|rfl
 . exact⟨i (by decide) (by decide),rfl⟩
 . exact⟨i (by decide) (by decide),rfl⟩
 . exact⟨(iC _).mono (by decide) (by decide),rfl⟩
 . exact⟨(iC _).mono (by decide) (by decide),rfl⟩
 . exact⟨iD.mono (by decide) (by decide),rfl⟩
 . exact⟨(bu (λc hc=>of_decide_eq_true (AF.mp (show (("1":Str).cps.toList.all λc=>decide (c<16 ^ 8))=true by decide +kernel) c hc)) (by decide +kernel)).mono (by decide) (by decide),rfl⟩
 . exact⟨(ki (n:=1) one (by decide)).mono (by decide) (by decide),rfl⟩
 . exact⟨(br (n:=1) one (by decide)).mono (by decide) (by decide),rfl⟩
 . exact⟨i (by decide) (by decide),by decide +kernel⟩
end M
end
section
namespace M
open PySem Hd
def ed(h:Heap)(a:Addr):Option Obj:=(h.get? a).bind λo=>if xK o then none else some o
theorem ax(e:h.get? a=some o)(n:xK o=false):ed h a=some o:=by unfold ed;rw[e];show (if xK o=true then none else some o)=some o;rw[n];rfl
theorem jf(e:ed h a=some o):h.get? a=some o/\xK o=false:=by
 unfold ed at e;obtain⟨o',e1,e2⟩:=DM.mp e;split at e2
 . cases e2
 . rename_i z
   cases e2;exact⟨e1,by simpa using z⟩
def zr(h:Heap):KF:=(Bj h.objs.size).filterMap λa=>(ed h a).map λo=>(a,o)
theorem rJ{g:Addr->Option Obj}:∀{l:List Addr},a∈l->(l.filterMap λb=>(g b).map λo=>(b,o)).lookup a=g a
 |b::r,hm=>by
  rw[A3];by_cases e:a=b
  . subst e
    cases hg:g a with
    |none=>
     show (r.filterMap _).lookup a=none;by_cases m:a∈r
     . rw[rJ m,hg]
     . exact FR.mpr λp hp=>by
        obtain⟨c,hc,e⟩:=Co.mp hp;obtain⟨o,_,rfl⟩:=A8.mp e;have z:a≠c:=λz=>m (by rw[z];exact hc)
        simpa using z
    |some o=>show (List.lookup a ((a,o)::_))=_;rw[An,beq_self_eq_true]
  . have m:a∈r:=(Ak.mp hm).resolve_left e
    cases hg:g b with
    |none=>exact rJ m
    |some o=>
     show (List.lookup a ((b,o)::_))=_;rw[An,beq_false_of_ne e];exact rJ m
theorem zx o(e:h.get? a=some o)(n:xK o=false):(zr h).lookup a=some o:=by rw[<-ax e n];exact rJ (C1.mpr (Ae e))
theorem tE:(zr h).In h:=λa o e=>by obtain⟨c,_,e⟩:=Co.mp (xD e);obtain⟨o',e1,e2⟩:=A8.mp e;cases e2;exact(jf e1).1
theorem ig(e:(zr h).lookup a=some o):xK o=false:=by obtain⟨c,_,e⟩:=Co.mp (xD e);obtain⟨o',e1,e2⟩:=A8.mp e;cases e2;exact(jf e1).2
theorem sL(e:nsH h x=some v):Bz (zr h) AJ x=some v:=by
 unfold nsH at e;split at e
 . rename_i o ho
   have hn:xK o=false:=by
    unfold Bz at e;rw[An,beq_self_eq_true]at e;dsimp only at e;split at e
    . rename_i hd;cases hd;unfold xK;simp
    . cases e
   unfold Bz at e ⊢;rw[zx o ho hn];rw[An,beq_self_eq_true]at e;exact e
 . cases e
theorem eA(e:fz h cd x=true):BQ (zr h) cd x=true:=by
 unfold fz at e;split at e
 . split at e
   . rename_i c o ho
     rw[cf,Ay]at e;obtain⟨hn,e⟩:=e;unfold BQ at e ⊢;dsimp only at e ⊢;rw[An,beq_self_eq_true]at e;rw[zx o ho hn];exact e
   . cases e
 . cases e
theorem args_eq st:args st=L2.xU st/\body st=L2.yR st/\scope st=L2.zG st:=by cases st<;>exact⟨rfl,rfl,rfl⟩
theorem X6(e:Zh h p.1=YW p):sV (zr h) p.1 p.2:=by
 obtain⟨a1,a2,a3⟩:=args_eq p.2;unfold YW at e;rw[a1,a2,a3]at e;unfold Zh at e;split at e
 . rename_i f hf
   split at e
   . rename_i oc od fd osl ho
     split at e
     . rename_i hc
       have e':=AQ e;obtain⟨n,q,ps,b,sc,g,cl,df,kw,dc,pm,an,cd,ct,bl⟩:=fd;injection e' with e1 e2 e3 e4 e5 e6 e7 e8 _ _ _ _ _ _ e9
       subst e1 e2 e3 e4 e5 e6 e7 e8 e9;exact X5 (sL hf) (zx _ ho (by unfold xK;simp)) (eA hc) (by unfold B0;dsimp only;rw[zx _ ho (by unfold xK;simp)])
     . cases e
   . cases e
 . cases e
noncomputable def gv:G->Val
 |.a i=>.c i
 |.c x=>.g x
 |.b ns=>.p ns
theorem Ui(e:glB h x v=true):iH (zr h) x (gv v):=by
 cases v with
 |a i=>
  unfold glB at e;dsimp only at e;split at e
  . rename_i hn;have:=of_decide_eq_true e;subst this;exact int_mk (sL hn)
  . cases e
 |c y=>
  unfold glB at e;dsimp only at e;split at e
  . rename_i hn;have:=of_decide_eq_true e;subst this;exact str_mk (sL hn)
  . cases e
 |b ns=>
  unfold glB at e;dsimp only at e;split at e
  . rename_i hn
    split at e
    . rename_i n od us k sl ho
      obtain⟨e1,e3⟩:=EB.mp e;obtain⟨e1,e2⟩:=EB.mp e1;have:=of_decide_eq_true e1;subst this;exact aa (us:=us.toList) (sL hn) (zx _ ho rfl) (of_decide_eq_true e2) (of_decide_eq_true e3)
    . cases e
  . cases e
theorem Yk(e:blB h x=true):Bz (zr h) AJ x=some none:=by
 unfold blB at e;split at e
 . rename_i hn;exact sL hn
 . cases e
theorem jR:∀{D:List (Str × Stmt)},(D.map λp=>Zh h p.1)=D.map YW->∀p∈D,sV (zr h) p.1 p.2
 |p::D,e,q,hq=>by
  rw[A7,A7]at e;obtain⟨e1,e2⟩:=List.cons.inj e;rcases Ak.mp hq with rfl|hq
  . exact X6 e1
  . exact jR e2 q hq
end M
end
section
namespace M
open PySem Hd PySem.W
noncomputable def scB(N ps:List Str)(sc:Scope):Bool:=decide (sc.kind=.function)&&!sc.isCoroutine&&!sc.isGenerator&&decide N.Nodup&&decide (N.take ps.length=ps)&&ps.all (λx=>decide (sc.names.lookup x=some .local)||decide (sc.names.lookup x=some .cell))&&sc.names.all (λy=>decide (y.2≠.free))
theorem bZ(h:scB N ps sc=true):L2.wH N ps sc:=by unfold scB at h;simp only[cf,decide_eq_true_eq,Ay,AF,Ao]at h;obtain⟨⟨⟨⟨⟨⟨h1,h2⟩,h3⟩,h4⟩,h5⟩,h6⟩,h7⟩:=h;exact⟨h1,h2,h3,h4,h5,h6,h7⟩
noncomputable def lkB(sc:Scope)(l:List (Str × CK)):Bool:=l.all λp=>decide (sc.names.lookup p.1=some p.2)
structure lI(st:Stmt)(cs ws:List Str)(pre:Option Str):Prop where
 b:argNames (L2.xU st)=some [("_law_e":Str)]
 c:scB L2.kN ["_law_e"] (L2.zG st)=true
 sh:L2.fE (L2.zG st) cs ws pre (L2.yR st)
 a:lkB (L2.zG st) [("_law_e",.local),("_law_marks",.local),("_law_words",.local),("isinstance",.globalImplicit),("ValueError",.globalImplicit)]=true
structure oN(m:Bool)(kx:Str)(st:Stmt):Prop where
 b:argNames (L2.xU st)=some [("_law_call":Str)]
 c:scB (L2.xZ m) ["_law_call"] (L2.zG st)=true
 sh:L2.fG m kx (L2.yR st)
 a:lkB (L2.zG st) ((("_law_call":Str),NameKind.local)::(("_law_e":Str),NameKind.local)::(("HueError":Str),DP)::(kx,DP)::if m then [] else [(("_law_word":Str),NameKind.local)])=true
noncomputable def wsB(cs ws:List Str)(pre:Option Str):Bool:=decide cs.Nodup&&decide (cs.length<=100)&&decide (ws.length<=100)&&ws.all (λw=>decide (w.length<=100))&&(match pre with|none=>true|some x=>decide (x.length<=100))
def xcB(rz cs ws:List Str)(pre:Option Str)(xc:List (Str × Str)):Bool:=xc.all λp=>decide (p.1∈rz)&&(Bj cs.length).any λi=>decide (cs[i]?=some p.1)&&(match ws[i]? with|some x=>decide (p.2=L2.ans pre x)|none=>false)&&decide (p.2≠"great")
def cM(q:Program)(c:Str):Bool:=(PyProof.Rows.ownsOf q).any λo=>decide (o.name=c)&&(o.bm == Hd.veM)&&(o.newId == "ValueError.__new__")
section
variable {h0 h:Heap}{mg:Str->Option Value}
theorem fJ(e:adH h0 x=some a):nsIn (zr h0) AJ x=some (some (.ref a)):=by
 unfold adH at e;split at e
 . rename_i hn;cases e;exact sL hn
 . cases e
theorem ft(hm:p∈Xz h0 x):h0.get? p.1=some p.2/\xK p.2=false:=by
 unfold Xz at hm;split at hm
 . split at hm
   . rename_i a o ho
     split at hm
     . rename_i cd hcd
       rcases Ak.mp hm with z|z
       . subst z
         refine⟨ho,?_⟩;unfold xK;rw[hcd];simp
       . split at z
         . rename_i n hn
           split at z
           . cases z
           . rename_i hz
             rw[Aw]at z;subst z;exact⟨hn,by simpa using hz⟩
         . cases z
     . cases hm
   . cases hm
 . cases hm
theorem jn:∀{xs},p∈kcH h0 xs->h0.get? p.1=some p.2/\xK p.2=false
 |[],hm=>by cases hm
 |x::xs,hm=>by
  rcases AS.mp hm with z|z
  . exact ft z
  . exact jn z
theorem jo:L2.qu (kcH h0 xs) (zr h0):=λa o e=>by obtain⟨e1,e2⟩:=jn (xD e);exact zx o e1 e2
theorem Yd(h:aM K C=true):L2.rW K C:=by unfold aM at h;simp only[cf,beq_iff_eq]at h;obtain⟨⟨⟨⟨⟨h1,h2⟩,h3⟩,h4⟩,h5⟩,h6⟩:=h;exact⟨h1,h2,h3,h4,h5,h6⟩
theorem n5(T:FN q loose mean mg mb h)(KX:(zr h0).In h)(KB:(zr h0).In base)(ho:cM q c=true)(hm:mg c=some (.ref C))(hb:d7 h0 C bm=true):L2.ClsAt base C bm:=by
 unfold cM at ho;rw[Bo]at ho;obtain⟨o,hmem,ho⟩:=ho;simp only[cf,decide_eq_true_eq,beq_iff_eq]at ho;obtain⟨⟨o1,o2⟩,o3⟩:=ho;obtain⟨C',O,_⟩:=T.own o hmem;have hb':=O.bound;rw[o1,hm]at hb';cases hb';obtain⟨bm',N,nm,qq,bs,hdct,sn,sub,ab,col,dd,k0,k1,k2,k3,k5,mN,hC,hN,hq,_⟩:=O.obj;rw[o3]at hC;unfold d7 at hb;split at hb
 . rename_i ob hob
   split at hb
   . rename_i cd hcd
     rw[cf,beq_iff_eq]at hb;obtain⟨hb1,hb2⟩:=hb;have hk:=zx ob hob (by unfold xK;rw[hcd];simp)
     have e1:=KX _ _ hk;rw[hC]at e1;cases e1;cases hcd;obtain⟨_,rfl⟩:=List.cons.inj hb1;split at hb2
     . rename_i n hn
       have hkN:=zx n hn (by simpa using hb2)
       obtain⟨on,es,ep,f1,f2,f3⟩:=hN;rw[KX _ _ hkN]at f1;cases f1;exact⟨nm,qq,N,bs,hdct,sn,sub,ab,col,dd,k0,k1,k2,k3,k5,mN,KB _ _ hk,⟨n,es,ep,KB _ _ hkN,f2,f3⟩,hq _ (.head _)⟩
     . cases hb2
   . cases hb
 . cases hb
theorem SV(sst:Bool->Stmt)(TT:FN q loose mean mg mb h)(KX:(zr h0).In h)(ob:o9 X h0=true)
 (hD:sV (zr h0) kx kst) (hS:∀b,T.c b=true->sV (zr h0) (L2.yD b) (sst b)/\oN b kx (sst b)) (hK:lI kst X.a ws pre) (hb:∀x∈xu,nsIn (zr h0) AJ x=some none) (hkd:(kx == ("__debug__":Str))=false)
 (hws:wsB X.a ws pre=true) (hxc:xcB X.c X.a ws pre T.f=true) (lV:((("HueError":Str))::X.c).all (λc=>cM q c)=true):Sc T (zr h0) mg:=by
 unfold o9 at ob;split at ob
 . cases ob
 . rename_i hue hhue
   simp only[cf,AF,decide_eq_true_eq]at ob;obtain⟨⟨⟨⟨⟨x1,x2⟩,x3⟩,x4⟩,x5⟩,x6⟩:=ob;have mghue:=mg_of KX TT.g (fJ hhue);have adm:∀c a,adH h0 c=some a->mg c=some (.ref a):=λc a e=>mg_of KX TT.g (fJ e);simp only[wsB,cf,decide_eq_true_eq,AF]at hws;obtain⟨⟨⟨⟨w1,w2⟩,w3⟩,w4⟩,w5⟩:=hws;have lkk:∀{sc:Scope} {l:List (Str × CK)} {x:Str} {k:CK},lkB sc l=true->(x,k)∈l->sc.names.lookup x=some k:=λ{sc l x k} hh hm=>of_decide_eq_true (AF.mp hh _ hm);have KFn:L2.oM (zr h0) mg kx X.a ws pre:=by
    obtain⟨f,fd,a1,a2⟩:=hD;refine⟨⟨kst,f,fd,mg_of KX TT.g a1,a2,bZ hK.c,a2.binds λkV doc pm an cdv ct us hl=>u0 hK.b (by decide) us hl,hK.sh,lkk hK.a (by simp),lkk hK.a (by simp),lkk hK.a (by simp),lkk hK.a (by simp),lkk hK.a (by simp)⟩,λc hc=>?_,mg_none_of KX TT.g (hb _ (by decide)),mg_none_of KX TT.g (Yk x2),w1,w2,w3,λw hw=>w4 w hw,λx hx=>?_⟩
    . obtain⟨a,e⟩:=B6.mp (x1 c hc)
      exact⟨a,adm c a e⟩
    . subst hx;exact of_decide_eq_true w5
   have raised:∀c∈X.c,∃C,mg c=some (.ref C)/\(∃Kc,L2.qu Kc (zr h0)/\exmOne Kc (.ref C) (.ref hue)=some true)/\L2.Named (zr h0) mg X.a C c/\d7 h0 C (.ref hue::Hd.veM)=true:=λc hc=>by
    have z:=x3 c hc;split at z
    . cases z
    . rename_i C hC
      simp only[cf,AF,beq_iff_eq]at z;obtain⟨⟨⟨⟨z1,z2⟩,z3⟩,z4⟩,z5⟩:=z;refine⟨C,adm c C hC,⟨_,jo,z2⟩,⟨_,jo,Yd z1,λd hd=>?_,z4⟩,z5⟩;obtain⟨a,e⟩:=B6.mp (x1 d hd);have:=z3 d hd;rw[e]at this;rw[L2.fL (adm d a e)];exact this
   have xcf:∀c w,T.f.lookup c=some w->c∈X.c/\∃(i:Nat) (x:Str),X.a[i]?=some c/\ws[i]?=some x/\w=L2.ans pre x/\w≠"great":=λc w e=>by
    have z:=AF.mp hxc _ (xD e);simp only[cf,decide_eq_true_eq,Bo]at z;obtain⟨z1,i,_,⟨z2,z3⟩,z4⟩:=z;split at z3
    . rename_i x hx
      exact⟨z1,i,x,z2,hx,of_decide_eq_true z3,z4⟩
    . cases z3
   have hw:=AF.mp lV;refine⟨⟨kx,X.a,ws,pre,hue,mghue,KFn,λb hbm=>?_,λc w e=>?_,λc w e base KB=>?_⟩,λbase KB=>?_⟩
   . obtain⟨⟨f,fd,a1,a2⟩,SS⟩:=hS b hbm
     refine⟨f,⟨⟨sst b,fd,mg_of KX TT.g a1,a2,bZ SS.c,a2.binds λkV doc pm an cdv ct us hl=>u0 SS.b (by decide) us hl,SS.sh,lkk SS.a (by simp),lkk SS.a (by simp),λhbf=>lkk SS.a (by subst hbf;simp),lkk SS.a (by simp),lkk SS.a (by simp)⟩,hkd⟩⟩
   . obtain⟨y1,i,x,y2,y3,y4,y5⟩:=xcf c w e
     obtain⟨C,r1,r2,r3,_⟩:=raised c y1;exact⟨C,i,x,r1,r2,r3,y2,y3,y4,y5⟩
   . obtain⟨y1,_⟩:=xcf c w e
     obtain⟨C,r1,_,_,r4⟩:=raised c y1;exact⟨C,r1,n5 TT KX KB (hw c (Ah _ y1)) r1 r4,n5 TT KX KB (hw _ (As ..)) mghue x4⟩
   . obtain⟨bm,obj,b1,b2,b3,b4,b5,b6⟩:=TT.bmain
     unfold bmB at x5;split at x5
     . rename_i b hbb
       have:=adm _ _ hbb;rw[b1]at this;cases this;split at x5
       . rename_i o hob
         have hk:=zx o hob (by simpa using x5)
         have e1:=KX _ _ hk;rw[b3]at e1;cases e1;exact⟨bm,obj,b1,b2,KB _ _ hk,b4,b5,b6⟩
       . cases x5
     . cases x5
theorem tab_of{D:List (Str × Stmt)}(TT:FN q loose mean mg mb h)(KX:(zr h0).In h)(ob:o9 X h0=true)(htb:T.e=X.b)
 (hd:∀p∈D,sV (zr h0) p.1 p.2) (lW:X.b.all (λg=>(EG q).any (λd=>decide (d.name=g))&&(D.lookup g).isSome)=true):∃tabs,UO T (zr h0) mg h tabs:=by
 have nd:(X.b.map (kg h0)).Nodup:=by
  unfold o9 at ob;split at ob
  . cases ob
  . simp only[cf,decide_eq_true_eq]at ob
    exact ob.2
 have one:∀g∈X.b,∃P,kg h0 g=some P/\h.get? P=some (tabObj #[])/\(zr h0).lookup P=none/\F5 h P/\∃(fa c:Addr) (o:Obj) (fd:BM),mg g=some (.ref fa)/\(zr h0).lookup fa=some o/\o.data=.func fd/\fd.code=.ref c/\∀h':Heap,(zr h0).In h'->CodeHd h' c P:=λg hg=>by
  have z:=AF.mp lW g hg;rw[cf,Bo]at z;obtain⟨⟨d,d1,d2⟩,z2⟩:=z;have d2:=of_decide_eq_true d2;obtain⟨st,hst⟩:=B6.mp z2;obtain⟨fa,fd,a1,a2⟩:=hd _ (xD hst);obtain⟨oc,od,kV,doc,pm,an,cdv,ct,osl,rfl,lk,hcd⟩:=a2.a;have hmg:=mg_of KX TT.g a1;obtain⟨a',o',fd',c,P,t1,t2,t3,t4,t5,t6⟩:=TT.tab d d1;rw[d2,hmg]at t1;cases t1;rw[KX _ _ lk]at t2;cases t2;cases t3;have hcdv:cdv=.ref c:=t4;subst hcdv;have hkc:∃occ,(zr h0).lookup c=some occ:=by
   unfold codeIn at hcd;dsimp only at hcd;split at hcd
   . rename_i hh;exact⟨_,hh⟩
   . cases hcd
  obtain⟨occ,hkc⟩:=hkc;obtain⟨⟨oT,vsT,u1,u2,u3,u4⟩,u5⟩:=id t6;rw[KX _ _ hkc]at u1;cases u1;refine⟨P,?_,u5,?_,t6.isCodeTable,fa,c,_,_,hmg,lk,rfl,rfl,λh' K'=>?_⟩
  . have g1:adH h0 g=some fa:=by
     unfold adH;have a1':nsIn (zr h0) AJ g=some (some (.ref fa)):=a1;unfold nsH;unfold nsIn at a1';split at a1'
     . rename_i c1 d1 es n1 s1 hmn
       have:=tE _ _ hmn;rw[this];dsimp only;unfold nsIn;rw[An,beq_self_eq_true];dsimp only;rw[a1']
     . cases a1'
    unfold kg;rw[g1];dsimp only;rw[tE _ _ lk];dsimp only;rw[tE _ _ hkc];dsimp only;rw[u3];dsimp only;rw[u4]
  . cases e:(zr h0).lookup P with
    |none=>rfl
    |some o=>
     have n1:=ig e;have e2:=KX _ _ e;rw[u5]at e2;cases e2;cases n1
  . obtain⟨o2,vs2,file,tf,flags,tg,inF,text,tt,v1,v2,v3⟩:=CodeHd.of t5 t6
    rw[KX _ _ hkc]at v1;cases v1;exact⟨_,vs2,file,tf,flags,tg,inF,text,tt,K' _ _ hkc,v2,v3⟩
 have hmap:X.b.map (kg h0)=(X.b.map λg=>(kg h0 g).getD 0).map some:=by rw[List.map_map];refine EF λg hg=>?_;obtain⟨P,e,_⟩:=one g hg;simp[e]
 refine⟨X.b.map λg=>(kg h0 g).getD 0,?_,by rw[htb,Ai],λi g hi=>?_⟩
 . rw[hmap]at nd
   exact(List.pairwise_map.mp nd).imp λhne z=>hne (by rw[z])
 . rw[htb]at hi
   obtain⟨P,e,r⟩:=one g (AU hi);refine⟨P,?_,r⟩;rw[AX,hi];simp[e]
end
def fH(D:List (Str × Stmt))(glL:List (Str × Val))(X:XT)(K:KF)(h:Heap):Prop:=K.In h/\(∀p∈D,sV K p.1 p.2)/\(∀p∈glL,iH K p.1 p.2)/\(∀x∈xu,nsIn K AJ x=some none)/\∃h0,K=zr h0/\o9 X h0=true
theorem bY(e:(cF D gl s,o9 X s.heap)=(aE D,true)):∃K,fH D (gl.map λp=>(p.1,gv p.2)) X K s.heap:=by obtain⟨e0,eX⟩:=Prod.mk.inj e;obtain⟨e1,e2⟩:=Prod.mk.inj e0;obtain⟨e2,e3⟩:=EB.mp e2;exact⟨zr s.heap,tE,jR e1,λp hp=>(by obtain⟨p',h1,rfl⟩:=B9.mp hp;exact Ui (AF.mp e2 p' h1)),λx hx=>Yk (AF.mp e3 x hx),s.heap,rfl,eX⟩
theorem Xy{l:PySem.W.OpenLaw}(sst:Bool->Stmt)
 (Vw:l.wellSaid=true) (left:PySem.W.LeftO l.row.prog q [] (λs=>EX l.row.records s) (λz=>(cF D gl z,o9 X z.heap)) (λ_=>(aE D,true)) N) (hgl:glL=gl.map λp=>(p.1,gv p.2))
 (ef:PySem.W.defOf q l.row.name=some (d,[])) (hp:l.row.prog.theDef l.row.name=some (d.params,d.body,d.scope)) (hk:PySem.W.kwWritten? d.params.kwonlyargs d.params.kw_defaults=some [])
 (hwr:(!l.row.writes||l.row.records.isEmpty)=true) (ok:(PySem.W.chainsOk q&&PySem.W.opensWell l.row.prog&&(PySem.W.frees l.row.toRowW&&l.row.within.isEmpty))=true) (hb:l.row.prog.bare) (hw:l.row.toRowW.promised)
 (hn:l.most=some 63) (hdf:d.params.defaults=[]) (hr:L2.xA n callerA) (hF:(kh fnL glL tb xc md).d d.name 0=some F) (hx:F.b=[x]) (hc:oC fnL D=true)
 (htb:tb=X.b) (htb2:fnL.all (λp=>!decide (("!":Str)∈p.2.N)||decide (p.1.1∈tb))=true) (hkx:D.lookup kx=some kst) (hK:lI kst X.a ws pre) (hS:∀b,md b=true->D.lookup (L2.yD b)=some (sst b)/\oN b kx (sst b)) (hkd:(kx == ("__debug__":Str))=false)
 (hws:wsB X.a ws pre=true) (hxc:xcB X.c X.a ws pre xc=true) (lV:((("HueError":Str))::X.c).all (λc=>cM q c)=true) (lW:X.b.all (λg=>(EG q).any (λd=>decide (d.name=g))&&(D.lookup g).isSome)=true)
 (HL:∀ns:List Int,ns.length<=63->∃s',zB (kh fnL glL tb xc md) n d.name 0 [.r ns] (tb.map .d)=.e (.e true) s'):l.Holds:=by
 refine PySem.W.holds_law Vw λsaid'=>PySem.W.holds_open (q:=q) (loose:=[]) (Xt:=λs=>EX l.row.records s) (XP:=λ_ _=>True) (YP:=λ_ h=>∃K,fH D glL X K h) left (λw s e=>hgl▸bY e)
  (λw h h' ⟨K,a,b⟩ k=>⟨K,a.keeps k,b⟩) (λ_ _=>trivial) (λ_ _ _ _ _=>trivial) ef hp hk (λs e=>PySem.W.recFacts_of e) hwr said' ok hb hw ?_
 intro w s₀ s₁ mg mb G ⟨K,Y⟩;obtain⟨Y1,Y2,Y3,Y4,h0,rfl,ob⟩:=id Y;refine walk (l:=l) (q:=q) (loose:=[]) (XP:=λ_ _=>True) (YP:=λ_ h=>fH D glL X (zr h0) h) (d:=d) (K:=zr h0) (T:=kh fnL glL tb xc md) hn hdf hr (λ_ _ y=>y.1) hF hx (λw s₀ mg mb h G KX=>⟨?_,?_⟩) HL w s₀ s₁ mg mb G Y
 . exact V9 KX G.T.g Y2 Y3 Y4 hc (λ_=>htb2) λ_=>SV sst G.T KX ob (Y2 _ (xD hkx)) (λb hbm=>⟨Y2 _ (xD (hS b hbm).1),(hS b hbm).2⟩) hK Y4 hkd hws hxc lV
 . exact tab_of G.T KX ob htb Y2 lW
end M
end
section
namespace P07
open PySem M
noncomputable def z6:Fn:=F.z6
noncomputable def yX:Fn:=F.yX
noncomputable def z0:Fn:=F07.z0
noncomputable def yG:Fn:=F.yG
noncomputable def yZ:Fn:=F08.yZ
noncomputable def w8:Fn:=F08.w8
noncomputable def yv:Fn:=F.yv
noncomputable def ya:Fn:=F.ya
noncomputable def w9:Fn:=F14.w9
noncomputable def wG:Fn:=F14.wG
noncomputable def y0:Fn:=F.y0
noncomputable def y9:Fn:=F.y9
noncomputable def yi:Fn:=F08.yi
noncomputable def yj:Fn:=F.yj
noncomputable def rT:Fn:=F.rT
noncomputable def vA:Fn:=F.vA
noncomputable def uc:Fn:=F14.uc
noncomputable def xM:Fn:=F.xM
noncomputable def xN:Fn:=F.xN
noncomputable def wb:Fn:=F08.wb
noncomputable def pD:Fn:=⟨["_law_script","_law_k","_law_pen_here","_law_strip_here","_law_bad","_law_as_it_was","_law_calls","_law_call","_law_none","!"],["_law_script"],false,(.e (.k (.a 1) (.c (.k .k false (.a (.g (.c 1)) (.a (.k .l false (.a (.k .a false (.a (.e 0) .c)) (.a (.g (.c 4)) .c))) .c)))) (.e (.g 2 (.h "_law_pen" 1 (.a (.h "_law_cell_at" 0 (.a (.e 0) (.a (.e 1) .c))) .c))) (.e (.g 3 (.h "_law_strip" 0 (.a (.e 2) (.a (.g (.c 40)) (.a (.g (.c 4)) .c))))) (.e (.k (.a 4) (.d (.h "_law_no_strips" 0 (.a (.e 2) (.a (.e 3) .c)))) (.e (.g 5 (.k .h false (.a (.e 4) .c))) (.g 6 (.a (.h "backward" 100 (.a (.e 4) .c)) (.a (.h "longest" 100 (.a (.e 4) .c)) (.a (.h "fits" 100 (.a (.r (.a (.g (.c 3)) (.a (.g (.c 3)) .c))) (.a (.e 4) .c))) (.a (.h "first_wrong" 100 (.a (.r (.a (.g (.c 2)) (.a (.g (.c 2)) (.a (.g (.c 3)) .c)))) (.a (.e 4) .c))) (.a (.h "exchanged" 100 (.a (.e 4) (.a (.g .h) .c))) (.a (.h "thinned" 100 (.a (.e 4) (.a (.B (.g (.c 1))) (.a (.g (.c 0)) .c)))) (.a (.h "joined" 100 (.a (.e 4) (.a (.g .h) .c))) (.a (.h "joined" 100 (.a (.e 3) (.a (.e 4) .c))) (.a (.h "joined" 100 (.a (.j false .b (.r (.a (.g (.c 0)) .c)) (.g (.c 40))) (.a (.e 4) .c))) .c))))))))) (.e (.k (.a 7) (.d (.r (.a (.z "whole_rows") (.a (.z "first_whole") (.a (.z "whole_by") .c))))) (.e (.h (.a (.q .c (.p false ["_law_size","_law_call","_law_bad","!"] [none,some 7,some 4,none] (.h "" 300 (.a (.e 1) (.a (.e 2) (.a (.e 0) .c)))) (.a 0) (.d (.r (.a (.g (.c 2)) (.a (.g (.c 9)) (.a (.g .h) .c))))) .a) (.j false .b (.A false (.a (.g (.g "strip")) .c)) (.g (.c 3))))) (.e (.d (.g (.e false))) .f) .f) .f)) .f) 2 (.j false .b (.A false (.a (.g (.g "strip")) .c)) (.g (.c 9))) (.b (.a (.q .c (.k .h false (.a (.e 4) .c)) (.e 5))) .a) (.e (.d (.g (.e false))) .f) .f))) (.e (.k (.a 8) (.d (.r (.a (.g (.c 1)) (.a (.g (.c 9)) (.a (.g (.e true)) (.a (.g .h) (.a (.g (.g "2")) (.a (.j false .d (.g (.c 10)) (.g (.c 29))) .c)))))))) (.e (.h (.a (.q .c (.p false ["_law_call","_law_strip_here","_law_none","!"] [none,some 3,some 8,none] (.h "" 300 (.a (.e 0) (.a (.e 1) (.a (.e 2) .c)))) (.a 0) (.d (.r (.a (.z "whole_rows") (.a (.z "first_whole") (.a (.z "whole_by") .c))))) .a) (.j false .b (.A false (.a (.g (.g "number")) .c)) (.g (.c 3))))) (.e (.d (.g (.e false))) .f) .f) .f)) .f))))) (.e (.d (.g (.e true))) .f))⟩
noncomputable def uC:Fn:=F08.uC
noncomputable def vX:Fn:=F.vX
noncomputable def vB:Fn:=F14.vB
noncomputable def wN:Fn:=F.wN
noncomputable def yY:Fn:=F.yY
noncomputable def yc:Fn:=F.yc
noncomputable def vY:Fn:=F14.vY
noncomputable def zw:Fn:=F.zw
noncomputable def yQ:Fn:=F.yQ
noncomputable def tv:Fn:=F75.tv
noncomputable def uD:Fn:=F14.uD
noncomputable def xt:Fn:=F08.xt
noncomputable def yd:Fn:=F08.yd
def fnL:List ((Str × Nat) × Fn):=((("_law_cell_at":Str),(0:Nat)),z6)::((("_law_draw":Str),(0:Nat)),yX)::((("_law_no_strips":Str),(0:Nat)),z0)::((("_law_pen":Str),(1:Nat)),yG)::((("_law_strip":Str),(0:Nat)),yZ)::((("alike_from":Str),(0:Nat)),w8)::((("are_sizes":Str),(0:Nat)),yv)::((("are_wholes":Str),(0:Nat)),ya)::((("backward":Str),(0:Nat)),w9)::((("exchanged":Str),(0:Nat)),wG)::((("first_hue_wrong":Str),(0:Nat)),y0)::((("first_row_wrong":Str),(0:Nat)),y9)::((("first_whole":Str),(0:Nat)),yi)::((("first_wrong":Str),(0:Nat)),yj)::((("fits":Str),(0:Nat)),rT)::((("is_one_hue":Str),(0:Nat)),vA)::((("is_order":Str),(0:Nat)),uc)::((("is_strip":Str),(0:Nat)),xM)::((("is_whole":Str),(0:Nat)),xN)::((("joined":Str),(0:Nat)),wb)::((("law":Str),(0:Nat)),pD)::((("longest":Str),(0:Nat)),uC)::((("most_step":Str),(0:Nat)),vX)::((("need_first":Str),(0:Nat)),vB)::((("need_length":Str),(0:Nat)),wN)::((("need_size":Str),(0:Nat)),yY)::((("need_sizes":Str),(0:Nat)),yc)::((("need_step":Str),(0:Nat)),vY)::((("need_strip":Str),(0:Nat)),zw)::((("need_whole":Str),(0:Nat)),yQ)::((("rows_in":Str),(0:Nat)),tv)::((("thinned":Str),(0:Nat)),uD)::((("whole_by":Str),(0:Nat)),xt)::((("whole_rows":Str),(0:Nat)),yd)::[]
noncomputable def glL:List (Str × Val):=[("MOST_PLACES",.c 40),("LEAST_SIZE",.c 2),("MOST_SIZE",.c 8),("HUES",.p [0,1,2,3])]
noncomputable def tb:List Str:=["law"]
noncomputable def xc:List (Str × Str):=[("NoStrip","strip"),("NoSizes","sizes"),("NoNumber","number"),("NoHue","hue")]
noncomputable def md:Bool->Bool:=λb=>!b
def T:Tbl:=kh fnL glL tb xc md
set_option maxHeartbeats 0 in
theorem V6:oC fnL D=true:=by decide +kernel
end P07
end
section
namespace P07
open PySem M
theorem d9:zS .c (.g x) (.g x) s=.e (.e false) s:=by simp[zS]
section
variable {Φ:Calls}{s:Sto}
theorem Yb{gs:List Str}{env e0}(hi:zV Φ T.b env es s=.e (gs.map .t) s)(hl:gs.length<=100)(h0:zd fr env=none::e0)(hf:∀o,zV Φ T.b (o::e0) fs s=.e vs s)(h:∀g∈gs,Φ "" 300 (.t g::vs) s=.e (.g x) s) :
 evE Φ T.b env (.p false N fr (.h "" 300 (.a (.e 0) fs)) (.a 0) (.d (.r es)) .a) s=.e (.j (Al gs.length (.g x))) s:=by
 rw[post_eq];refine nF (λe=>∃o,e=o::e0) (λ_=>[.g x]) (gs.map .t) (s1:=s) (qJ (w6 hi (by rw[Ai];unfold zY;omega)) rfl) ⟨none,h0⟩ ?_ ?_
 . rintro v hv e ⟨o,rfl⟩
   obtain⟨g,hg,rfl⟩:=B9.mp hv;refine⟨some (.t g)::e0,rfl,⟨_,rfl⟩,tL.mpr ⟨rfl,?_⟩⟩;rw[if_pos rfl,x_call (zA (zF rfl) (hf _)) (h g hg)];exact zC.mpr ⟨rfl,rfl⟩
 . have e:(gs.map Val.t).flatMap (λ_=>[Val.g x])=Al gs.length (.g x):=by
    clear hi hl h;induction gs with
    |nil=>rfl
    |cons g gs ih=>rw[A7,List.flatMap_cons,ih];rfl
   rw[e];exact zC.mpr ⟨rfl,rfl⟩
theorem Yc(hi:zV Φ T.b env es s=.e [a,b,d] s)(h0:zd fr env=[none,some (.t g),some v,none])(h:∀w,Φ "" 300 [.t g,v,w] s=.e (.g x) s) :
 evE Φ T.b env (.p false N fr (.h "" 300 (.a (.e 1) (.a (.e 2) (.a (.e 0) .c)))) (.a 0) (.d (.r es)) .a) s=.e (.j [.g x,.g x,.g x]) s:=by
 rw[post_eq];refine nF (λe=>∃o,e=[o,some (.t g),some v,none]) (λ_=>[.g x]) [a,b,d] (s1:=s) (qJ (w6 hi (show 3<=zY by decide)) rfl) ⟨none,h0⟩ ?_ (zC.mpr ⟨rfl,rfl⟩)
 rintro w hw e ⟨o,rfl⟩;refine⟨[some w,some (.t g),some v,none],rfl,⟨_,rfl⟩,tL.mpr ⟨rfl,?_⟩⟩;rw[if_pos rfl,x_call (zA (zF rfl) (zA (zF rfl) (zA (zF rfl) zH))) (h w)];exact zC.mpr ⟨rfl,rfl⟩
theorem fK(h:a.length+b.length<=1000):binOp false .a (.f a) (.f b) s=.e (.f (a++b)) s:=aP (by unfold zY;omega)
theorem SM{k:Nat}(hk:k<=100):binOp false .b (tpI [h]) (.c k) s=.e (tpI (Al k h)) s:=by
 have e:∀n:Nat,(Al n [Val.c h]).flatten=(Al n h).map Val.c:=λn=>by
  induction n with
  |zero=>rfl
  |succ n ih=>rw[BI,Ca,ih];rfl
 show binOp false .b (.f [.c h]) (.c k) s=.e (.f ((Al k h).map .c)) s;rw[<-e];exact Zf (by omega) (by simp) (by simp)
theorem uQ{a:Nat}:rA false (.f t) none (some (a:Int)) none s=.e (.f (t.take a)) s/\(a<=t.length->rA false (.f t) (some (a:Int)) none none s=.e (.f (t.drop a)) s):=by
 simp only[rA];unfold eC;rw[HT.j4,HT.j4];refine⟨?_,λh=>?_⟩
 . rw[show HT.sIx t.length 0 none=0 from rfl,DI,Nat.sub_zero,<-List.take_eq_take_min]
 . rw[show HT.sIx t.length t.length none=t.length from rfl,Nat.min_eq_left h,List.take_of_length_le (by rw[D5];exact xd _)]
def CNo(Φ:Calls):Prop:=∀(p:Nat) (ns:List Int) (s:Sto),vQ s p->xO ns->(Φ "_law_no_strips" 0 [.m p,tpI ns] s).post λv s'=>∃L:List Val,v=.j L/\(∀x∈L,Nst x)/\yk s p s'
theorem Vr(cD:fC Φ)(hp:vQ s p)(hn:xO ns):(run T Φ F07.z0 [.m p,tpI ns] s).post λv s'=>∃L:List Val,v=.j L/\(∀x∈L,Nst x)/\yk s p s':=by
 have L1:1<=zY:=by decide
 have L2':2<=zY:=by decide
 have L7:7<=zY:=by decide
 have L9:9<=zY:=by decide
 have hl:=hn.1;rw[F07.z0,sg];refine⟨rfl,?_⟩;show (zW Φ T.b [some (.m p),some (tpI ns),none,none,none,none] _ s).post _;obtain⟨_,s1,hd1,a,rfl,ha,t1⟩:=cD p ((ns.length:Int)+1) s hp (by omega) (by omega)
 obtain⟨_,s2,hd2,k,rfl,hk,t2⟩:=cD p 9 s1 (t1.at_ hp.lt) (by omega) (by omega)
 refine yW.mpr (cV.mpr (ju (x_call (zA (zF rfl) (zA (yK (UJ rfl) zO iM) zH)) hd1) (ju (x_call (zA (zF rfl) (zA zO zH)) hd2) (cU.mpr (jv rfl ?_)))));have tt:=t1.trans t2;generalize s2=s' at *;have hk':k<nA.length:=by show k<9;omega
 have hu:nA[k]∈nA:=Cf hk';have hix:vp (.j nA) (.c k) s'=.e nA[k] s':=om (Ad hk');generalize nA[k]=u at hu hix;obtain⟨hu1,hu2⟩:=W7 u hu;have ha':a<=(ns.map Val.c).length:=by rw[Ai];omega
 have one:∀x∈[Val.c 1],Th 0 100 x:=λv hv=>by rw[Aw.mp hv];exact ql (by decide) (by decide)
 have hth:∀v∈ns.map Val.c,Th 1 1000 v:=YQ λx hx=>by have:=hn.2 x hx;omega
 show (zW Φ T.b [some (.m p),some (tpI ns),some (.c a),some (.c k),none,none] _ s').post _;refine sj (tu (qp (vs:=nA) (zA zO (zA (aK zO) (zA zO (zA zO (zA zO (zA zO (zA (w6 (zA zO zH) L1) (zA (qp (zA zO zH) L1) (zA (yK zO zO fU) zH))))))))) L9) (zF rfl) hix) ?_;generalize hV:ns.map Val.c=V at *;have hVl:V.length=ns.length:=by rw[<-hV,Ai]
 have htp:tpI ns=.f V:=by rw[<-hV]
 have tk:(V.take a).length<=40:=by rw[BN];omega
 have td:(V.drop a).length<=40:=by rw[D5];omega
 have t39:(V.take 39).length<=39:=by rw[BN];omega
 have h41:(V++Al 41 (Val.c 1)).length=ns.length+41:=by rw[Ap,Cr,hVl]
 have h1s:binOp false .b (.f [.c 1]) (.c 41) s'=.e (.f (Al 41 (.c 1))) s':=by
  have:=SM (h:=1) (k:=41) (s:=s') (by decide)
  rw[show tpI (Al 41 1)=.f (Al 41 (.c 1)) from rfl]at this;exact this
 rw[htp];show (zW Φ T.b [some (.m p),some (.f V),some (.c a),some (.c k),some u,none] _ s').post _;refine sj (v:=.j [.f (V.take a++[u]++V.drop a),.j V,.f ((V++Al 41 (Val.c 1)).take 41),.f [.f V,.c 0],.h,.g "",.o]) (qp (zA (yK (yK (aL (zF rfl) qx (mU (zF rfl)) qx uQ.1) (w6 (zA (zF rfl) zH) L1) (fK (by simp only[BA];omega))) (aL (zF rfl) (mU (zF rfl)) qx qx (uQ.2 ha')) (fK (by rw[Ap,BA];omega)))
  (zA (yn (zA (zF rfl) zH) rfl) (zA (aL (yK (zF rfl) (yK (w6 (zA zO zH) L1) zO h1s) (fK (by rw[Cr];omega))) qx (mU zO) qx (uQ (a:=41)).1) (zA (w6 (zA (zF rfl) (zA zO zH)) L2') (zA zO (zA zO (zA rfl zH))))))) L7) ?_
 refine wK (v:=.j ([.f (V.take a++[u]++V.drop a),.j V,.f ((V++Al 41 (Val.c 1)).take 41),.f [.f V,.c 0],.h,.g "",.o]++[.f ([u]++V.take 39),.f (V.take 39++[u])])) (s1:=s') (yK (zF rfl) (qp (zA (yK (w6 (zA (zF rfl) zH) L1) (aL (zF rfl) qx (mU zO) qx (uQ (a:=39)).1) (fK (by simp only[BA];omega))) (zA (yK (aL (zF rfl) qx (mU zO) qx (uQ (a:=39)).1) (w6 (zA (zF rfl) zH) L1) (fK (by simp only[BA];omega))) zH)) L2') rfl) ?_
 have good:∀x∈[.f (V.take a++[u]++V.drop a),.j V,.f ((V++Al 41 (Val.c 1)).take 41),.f [.f V,.c 0],.h,.g "",.o]++[.f ([u]++V.take 39),.f (V.take 39++[u])],Nst x:=λx hx=>by
  have mt:∀{n:Nat},∀v∈V.take n,Th 1 1000 v:=λv hv=>hth v (EA hv);have md:∀{n:Nat},∀v∈V.drop n,Th 1 1000 v:=λv hv=>hth v (List.mem_of_mem_drop hv);have mu:∀v∈[u],Th 1 1000 v:=λv hv=>by rw[Aw.mp hv];exact hu1
  have ap:∀{A B:List Val},(∀v∈A,Th 1 1000 v)->(∀v∈B,Th 1 1000 v)->∀v∈A++B,Th 1 1000 v:=λh1 h2 v hv=>(AS.mp hv).elim (h1 v) (h2 v);simp only[FE,Ds,Ak,Bg,or_false]at hx;rcases hx with rfl|rfl|rfl|rfl|rfl|rfl|rfl|rfl|rfl
  . exact rM (u:=u) (ap (ap mt mu) md) (by simp only[Ap,BA];omega) (by simp) hu2
  . exact qV (gy hth (by omega)) rfl
  . refine qV (oD (λv hv=>ap hth (λv hv=>by rw[FO hv];exact(one _ (Aw.mpr rfl)).mono (by decide) (by decide)) v (EA hv)) (by rw[BN];omega)) ?_
    show (decide (((V++Al 41 (Val.c 1)).take 41).length<=40)&&_)=false;rw[decide_eq_false (by rw[BN,h41];omega)];rfl
  . refine rM (u:=.f V) (λv hv=>?_) (by simp) (by simp) rfl
    rcases Ak.mp hv with rfl|hv
    . have:=bw hn
      rw[htp]at this;exact this.mono (by decide) (by decide)
    . rw[Aw.mp hv];exact(ql (by decide) (by decide)).mono (by decide) (by decide)
  . exact qV (lB (iD.mono (by decide) (by decide)) nofun) rfl
  . exact qV (lB ((bu (by decide) (by decide)).mono (by decide) (by decide)) nofun) rfl
  . exact Zg
  . exact rM (u:=u) (vs:=u::V.take 39) (ap (A:=[u]) mu mt) (by rw[AI];omega) (by simp) hu2
  . exact rM (u:=u) (ap mt mu) (by rw[Ap,BA];omega) (by simp) hu2
 generalize ([.f (V.take a++[u]++V.drop a),.j V,.f ((V++Al 41 (Val.c 1)).take 41),.f [.f V,.c 0],.h,.g "",.o]++[.f ([u]++V.take 39),.f (V.take 39++[u])]:List Val)=W at good;have nrW:∀{W:List Val},(∀x∈W,Nst x)->zo W=true:=λ{W} h=>by
  induction W with
  |nil=>rw[oz]
  |cons v vs ih=>rw[qU,(h v (.head _)).nr,ih λx hx=>h x (.tail _ hx)];rfl
 show (yE false s (.j W) s').post _;rw[ui tt (by rw[l6];exact nrW good)]
 exact zC.mpr ⟨W,rfl,good,tt⟩
def three:List Str:=["whole_rows","first_whole","whole_by"]
structure Cs(Φ:Calls):Prop where
 b:Yg Φ
 d:UK Φ
 a:jA Φ
 c:CNo Φ
 b1:∀f∈([("backward":Str),"longest"]:List Str),∀(v:Val) (s:Sto),zh tb s=true->Kds v->yJ v=false->Φ f 100 [v] s=.e (.g "strip") s
 b2:∀f∈([("fits":Str),"first_wrong"]:List Str),∀(zs:List Int) (v:Val) (s:Sto),zh tb s=true->Sz zs->Kds v->yJ v=false->Φ f 100 [tpI zs,v] s=.e (.g "strip") s
 b3:∀f∈([("exchanged":Str),"joined"]:List Str),∀(v w:Val) (s:Sto),zh tb s=true->Kds v->yJ v=false->Φ f 100 [v,w] s=.e (.g "strip") s
 b4:∀(v w u:Val) (s:Sto),zh tb s=true->Kds v->yJ v=false->Φ "thinned" 100 [v,w,u] s=.e (.g "strip") s
 b5:∀(ns:List Int) (v:Val) (s:Sto),zh tb s=true->xO ns->Kds v->yJ v=false->Φ "joined" 100 [tpI ns,v] s=.e (.g "strip") s
 m3:∀g∈three,∀(v w:Val) (s:Sto),zh tb s=true->Kds v->yJ v=false->Φ "" 300 [.t g,v,w] s=.e (.g "strip") s
 n3:∀g∈three,∀(ns:List Int) (w:Val) (s:Sto),zh tb s=true->xO ns->kindOf w≠none->zj 2 8 w=false->Φ "" 300 [.t g,tpI ns,w] s=.e (.g "number") s
theorem YN(h:zh tb s=true)(hp:tb.length<=p)(t:yk s p s'):zh tb s'=true:=by obtain⟨a,b,rfl,_⟩:=t;exact YO h hp
theorem l5(h:lS (.j vs) (.j ws)=some true):zS .c (.j vs) (.j ws) s=.e (.e false) s:=by simp only[zS,zu,yh,h];rfl
abbrev en(ns:List Int)(o1 o2 o3 o4 o5 o6 o7 o8:Option Val):M.Env:=[some (.r ns),o1,o2,o3,o4,o5,o6,o7,o8,none]
theorem dy(c:Cs Φ)ns:(run T Φ pD [.r ns] (tb.map .d)).post λv _=>v=.e true:=by
 have L1:1<=zY:=by decide
 have L2':2<=zY:=by decide
 have L3:3<=zY:=by decide
 rw[pD,sg];refine⟨rfl,?_⟩;show (zW Φ T.b (en ns none none none none none none none none) _ (tb.map .d)).post _;refine yW.mpr (nG (λrest e s'=>(∃o1 o2 o3 o4 o5 o6 o7 o8,e=en ns o1 o2 o3 o4 o5 o6 o7 o8)/\zh tb s'=true/\∀x∈rest,∃k:Nat,x=.c k) (xn 0 (max 1 (min ns.length 4))) (s1:=tb.map .d) (eU (K:=4) rfl (by omega)) ⟨⟨_,_,_,_,_,_,_,_,rfl⟩,xp.mpr ⟨[],by rw[Bb]⟩,λx hx=>?_⟩ ?_ ?_)
 . obtain⟨k,_,rfl⟩:=jr hx
   exact⟨k,by congr 1;omega⟩
 . rintro x rest e s' ⟨⟨o1,o2,o3,o4,o5,o6,o7,o8,rfl⟩,hZ,hr⟩
   obtain⟨k,rfl⟩:=hr x (.head _);refine⟨_,rfl,?_⟩;obtain⟨cv,hcell⟩:=c.b ns k s';obtain⟨pa,pb,hpen,hb⟩:=c.d cv s';refine sj (x_call (zA (x_call (zA (zF rfl) (zA (zF rfl) zH)) hcell) zH) hpen) ?_;have hP:vQ (s'++[tQ pa pb]) s'.length:=⟨pa,pb,by simp,hb⟩
   have hZ1:zh tb (s'++[tQ pa pb])=true:=YL hZ;have hpl:tb.length<=s'.length:=YM hZ;show (zW Φ T.b (en ns (some (.c k)) (some (.m s'.length)) o3 o4 o5 o6 o7 o8) _ (s'++[tQ pa pb])).post _;generalize s'++[tQ pa pb]=s1 at hP hZ1;generalize s'.length=p at hP hpl;obtain⟨_,s2,hd2,t,rfl,ht,_,t2⟩:=c.a p 40 4 s1 hP (by decide) (by decide) (by decide)
   refine sj (x_call (zA (zF rfl) (zA zO (zA zO zH))) hd2) ?_;have hP2:=t2.at_ hP.lt;obtain⟨_,s3,hd3,L,rfl,hL,t3⟩:=c.c p t s2 hP2 ht;have hZ3:=YN hZ1 hpl (t2.trans t3);show (zW Φ T.b (en ns (some (.c k)) (some (.m p)) (some (tpI t)) o4 o5 o6 o7 o8) _ s2).post _;have three_in:∀x∈three.map Val.t,∃g∈three,x=.t g:=λx hx=>by obtain⟨g,hg,rfl⟩:=B9.mp hx;exact⟨g,hg,rfl⟩
   refine yW.mpr (nG (λrest e s'=>s'=s3/\(∃o4 o5 o6 o7 o8,e=en ns (some (.c k)) (some (.m p)) (some (tpI t)) o4 o5 o6 o7 o8)/\∀x∈rest,Nst x) L (s1:=s3) (qJ (x_call (zA (zF rfl) (zA (zF rfl) zH)) hd3) rfl) ⟨rfl,⟨_,_,_,_,_,rfl⟩,hL⟩ ?_ ?_)
   . rintro v rest2 e s5 ⟨rfl,⟨o4,o5,o6,o7,o8,rfl⟩,hr2⟩
     obtain⟨hk,hn,⟨r,hrep⟩,_⟩:=hr2 v (.head _);refine⟨_,rfl,sj (yn (zA (zF rfl) zH) (hrep s5)) (YC ?_)⟩;show (zW Φ T.b (en ns (some (.c k)) (some (.m p)) (some (tpI t)) (some v) (some (.g r)) none o7 o8) _ s5).post _;refine yW.mpr (nG (λrest e s'=>s'=s5/\(∃o7,e=en ns (some (.c k)) (some (.m p)) (some (tpI t)) (some v) (some (.g r)) none o7 o8)/\∀x∈rest,∃g∈three,x=.t g) (three.map .t) (s1:=s5) (qJ (w6 (zA (uu rfl) (zA (uu rfl) (zA (uu rfl) zH))) L3) rfl) ⟨rfl,⟨_,rfl⟩,three_in⟩ ?_ ?_)
     . rintro x rest3 e s6 ⟨rfl,⟨o7,rfl⟩,hr3⟩
       obtain⟨g,hg,rfl⟩:=hr3 x (.head _);refine⟨_,rfl,?_⟩;exact j6 (uZ (ub (Yc (g:=g) (v:=v) (zA zO (zA zO (zA zO zH))) rfl λw=>c.m3 g hg v w s6 hZ3 hk hn) (yK (qp (zA zO zH) L1) zO rfl) (l5 (by decide +kernel))) xH) (ph ⟨rfl,⟨_,rfl⟩,λx hx=>hr3 x (.tail _ hx)⟩)
     . rintro e s6 ⟨rfl,⟨o7,rfl⟩,_⟩
       refine nH.mpr ⟨rfl,_,Al 9 (.g "strip"),_,rfl,?_,yK (qp (zA zO zH) L1) zO rfl,l5 (by decide +kernel),iE (uZ (ub (yn (zA (zF rfl) zH) (hrep _)) (zF rfl) d9) xH) bz,ph ⟨rfl,⟨_,_,_,_,_,rfl⟩,λx hx=>hr2 x (.tail _ hx)⟩⟩
       have z33:Sz [3,3]:=⟨by decide,by decide,by decide⟩
       have z223:Sz [2,2,3]:=⟨by decide,by decide,by decide⟩
       have n40:xO (Al 40 0):=⟨by decide,λx hx=>by rw[FO hx];decide⟩
       exact zA (x_call (zA (zF rfl) zH) (c.b1 _ (by simp) v s6 hZ3 hk hn)) (zA (x_call (zA (zF rfl) zH) (c.b1 _ (by simp) v s6 hZ3 hk hn))
        (zA (x_call (zA (w6 (zA zO (zA zO zH)) L2') (zA (zF rfl) zH)) (c.b2 _ (by simp) [3,3] v s6 hZ3 z33 hk hn)) (zA (x_call (zA (w6 (zA zO (zA zO (zA zO zH))) L3) (zA (zF rfl) zH)) (c.b2 _ (by simp) [2,2,3] v s6 hZ3 z223 hk hn))
        (zA (x_call (zA (zF rfl) (zA zO zH)) (c.b3 _ (by simp) v _ s6 hZ3 hk hn)) (zA (x_call (zA (zF rfl) (zA (aK zO) (zA zO zH))) (c.b4 v _ _ s6 hZ3 hk hn))
        (zA (x_call (zA (zF rfl) (zA zO zH)) (c.b3 _ (by simp) v _ s6 hZ3 hk hn)) (zA (x_call (zA (zF rfl) (zA (zF rfl) zH)) (c.b5 t v s6 hZ3 ht hk hn))
        (zA (x_call (zA (yK (w6 (zA zO zH) L1) zO (SM (k:=40) (by decide))) (zA (zF rfl) zH)) (c.b5 _ v s6 hZ3 n40 hk hn)) zH))))))))
   . rintro e s5 ⟨rfl,⟨o4,o5,o6,o7,o8,rfl⟩,_⟩
     refine yW.mpr (nG (λrest e s'=>s'=s5/\(∃o8,e=en ns (some (.c k)) (some (.m p)) (some (tpI t)) o4 o5 o6 o7 o8)/\∀x∈rest,kindOf x≠none/\zj 2 8 x=false) [.c 1,.c 9,.e true,.h,.g "2",.c fT] (s1:=s5) (qJ (w6 (zA zO (zA zO (zA zO (zA zO (zA zO (zA (yK zO zO fU) zH)))))) (show 6<=zY by decide)) rfl) ⟨rfl,⟨_,rfl⟩,λx hx=>?_⟩ ?_ ?_)
     . simp only[Ak,Bg,or_false]at hx
       rcases hx with rfl|rfl|rfl|rfl|rfl|rfl
       . exact⟨nofun,rfl⟩
       . exact⟨nofun,rfl⟩
       . exact⟨nofun,rfl⟩
       . exact⟨nofun,rfl⟩
       . exact⟨nofun,rfl⟩
       . exact⟨nofun,by decide +kernel⟩
     . rintro x rest2 e s6 ⟨rfl,⟨o8,rfl⟩,hr2⟩
       obtain⟨h1,h2⟩:=hr2 x (.head _);refine⟨_,rfl,?_⟩;exact j6 (uZ (ub (Yb (gs:=three) (vs:=[tpI t,x]) (e0:=[some (tpI t),some x,none]) (zA (uu rfl) (zA (uu rfl) (zA (uu rfl) zH))) (by decide) rfl (λo=>zA (zF rfl) (zA (zF rfl) zH)) λg hg=>c.n3 g hg t x s6 hZ3 ht h1 h2) (yK (qp (zA zO zH) L1) zO rfl) (l5 (by decide +kernel))) xH) (ph ⟨rfl,⟨_,rfl⟩,λx hx=>hr2 x (.tail _ hx)⟩)
     . rintro e s6 ⟨rfl,⟨o8,rfl⟩,_⟩
       exact ph ⟨⟨_,_,_,_,_,_,_,_,rfl⟩,hZ3,λx hx=>hr x (.tail _ hx)⟩
 . rintro e s' ⟨⟨o1,o2,o3,o4,o5,o6,o7,o8,rfl⟩,hZ,_⟩
   refine wK zO ?_;show (yE false (tb.map .d) (.e true) s').post _;rw[gB hZ uK];exact zC.mpr rfl
end
theorem cs:At T 7 Cs:=λn hn=>by
 obtain⟨n,rfl⟩:∃m,n=m+7:=⟨n-7,by omega⟩
 have g4:Gl4 T:=⟨rfl,rfl,rfl,rfl⟩;have whole:∀m,lG (zB T (m+1)):=λm v l k s h=>by rw[yM (F:=F.xN) rfl];exact gj h
 have wholes:∀m,oK (zB T (m+2)):=λm vs l k s h=>by rw[yM (F:=F.ya) rfl];exact kU (whole m) h
 have stripW:∀m,oJ (zB T (m+3)):=λm v s h=>by rw[yM (F:=F.xM) rfl];exact kT rfl rfl (wholes m) h
 have v8:∀m,jB (zB T (m+3)):=λm v s h h'=>by rw[yM (F:=F.yv) rfl];exact kS g4 (wholes m) h h'
 have needSizes:∀m,lF (zB T (m+4)):=λm zs s h=>by rw[yM (F:=F.yc) rfl];exact qy (fN (v8 m)) h
 have needStrip:∀m,ni (zB T (m+4)):=λm ns s h=>by rw[yM (F:=F.zw) rfl];exact qf (gr (stripW m)) h
 have xStrip:∀m,Xk (zB T (m+4)) (zZ T (m+4)):=λm v s h1 h2=>RzF.up (F:=F.zw) (iL (stripW m) rfl h1 h2) rfl rfl;have xNeed:∀m,Yj (zB T (m+2)) (zZ T (m+2)):=λm v l k s h1 h2 h3 h4=>RzF.up (F:=F.yQ) (let ⟨a,b⟩:=fP (T:=T) (Ψ:=zZ T (m+1)) (s:=s) (whole m) rfl h1 h2 h3 h4;⟨a,_,b⟩) rfl rfl;have xSize:∀m,UQ (zB T (m+3)) (zZ T (m+3)):=λm v s h1 h2=>RzF.up (F:=F.yY) (fQ rfl rfl (xNeed m) h1 h2) rfl rfl;have fw:∀m (zs:List Int) (v:Val) (s:Sto),Sz zs->Kds v->yJ v=false->Rz (zB T (m+5)) (zZ T (m+5)) "first_wrong" [tpI zs,v] s "NoStrip":=λm zs v s hz h1 h2=>RzF.up (n:=m+4) (F:=F.yj) (ue (F:=F.yj) rfl rfl (zA (zF rfl) zH) (needSizes m _ s hz) (zA (zF rfl) zH) (xStrip m _ s h1 h2)) rfl rfl;have first1:∀m {F:Fn} {f:Str} {cs:Sms} {v:Val} {s:Sto},F.a=.e (.f (.h "need_strip" 0 (.a (.e 0) .c))) cs->T.d f 0=some F->∀vs:List Val,(v::vs).length=F.b.length->zh tb s=true->Kds v->yJ v=false->Rz (zB T (m+5)) (zZ T (m+5)) f (v::vs) s "NoStrip":=λm {F f cs v s} hb hf vs hl hs h1 h2=>RzF.up (n:=m+4) (F:=F) (iJ hb hl (zA (zF rfl) zH) (xStrip m v s h1 h2)) hf hl;have wr1:∀m (v w:Val) (s:Sto),zh tb s=true->Kds v->yJ v=false->Rz (zB T (m+5)) (zZ T (m+5)) "whole_rows" [v,w] s "NoStrip":=λm v w s hs h1 h2=>first1 m (F:=F08.yd) rfl rfl [w] rfl hs h1 h2;have wr2:∀m (ns:List Int) (w:Val) (s:Sto),xO ns->kindOf w≠none->zj 2 8 w=false->Rz (zB T (m+5)) (zZ T (m+5)) "whole_rows" [tpI ns,w] s "NoNumber":=λm ns w s h h1 h2=>RzF.up (n:=m+4) (F:=F08.yd) (ue (F:=F08.yd) rfl rfl (zA (zF rfl) zH) (needStrip m ns s h) (zA (zF rfl) zH) (xSize (m+1) w s h1 h2)) rfl rfl;have up3:∀m (v w:Val) (c:Str) (s:Sto),(∀m,Rz (zB T (m+5)) (zZ T (m+5)) "whole_rows" [v,w] s c)->∀g∈three,Rz (zB T (m+6)) (zZ T (m+6)) g [v,w] s c:=λm v w c s h g hg=>by
  simp only[three,Ak,Bg,or_false]at hg;rcases hg with rfl|rfl|rfl
  . exact h (m+1)
  . exact RzF.up (n:=m+5) (F:=F08.yi) (aT (F:=F08.yi) rfl rfl (zA (zF rfl) (zA (zF rfl) zH)) (h m)) rfl rfl
  . exact RzF.up (n:=m+5) (F:=F08.xt) (fO (F:=F08.xt) rfl rfl (zA (zF rfl) (zA (zF rfl) zH)) (h m)) rfl rfl
 have cell:∀m,Yg (zB T (m+1)):=λm ns k s=>by obtain⟨c,h⟩:=bR (T:=T) (Φ:=zB T m) (s:=s) ns k;exact⟨c,by rw[yM (F:=F.z6) rfl];exact h⟩
 have pen:∀m,UK (zB T (m+1)):=λm c s=>by obtain⟨a,b,h,h2⟩:=Z9 (T:=T) (Φ:=zB T m) (s:=s) c;exact⟨a,b,by rw[yM (F:=F.yG) rfl];exact h,h2⟩
 have draw:∀m,fC (zB T (m+1)):=λm p k s h1 h2 h3=>by rw[yM (F:=F.yX) rfl];exact bS h1 h2 h3
 have strip:∀m,jA (zB T (m+2)):=λm p lim h s h1 h2 h3 h4=>by rw[yM (F:=F08.yZ) rfl];exact kR (draw m) h1 h2 h3 h4
 have nos:∀m,CNo (zB T (m+2)):=λm p ns s h1 h2=>by rw[yM (F:=F07.z0) rfl];exact Vr (draw m) h1 h2
 refine⟨cell (n+6),pen (n+6),strip (n+5),nos (n+5),λf hf v s hs h1 h2=>?_,λf hf zs v s hs hz h1 h2=>?_,λf hf v w s hs h1 h2=>?_,λv w u s hs h1 h2=>wL (first1 (n+1) (F:=F14.uD) rfl rfl [w,u] rfl hs h1 h2) rfl rfl hs rfl,λns v s hs h h1 h2=>?_,λg hg v w s hs h1 h2=>mz (up3 n v w _ s (λm=>wr1 m v w s hs h1 h2) g hg) rfl rfl hs rfl,λg hg ns w s hs h h1 h2=>mz (up3 n _ w _ s (λm=>wr2 m ns w s h h1 h2) g hg) rfl rfl hs rfl⟩
 . simp only[Ak,Bg,or_false]at hf
   rcases hf with rfl|rfl
   . exact wL (first1 (n+1) (F:=F14.w9) rfl rfl [] rfl hs h1 h2) rfl rfl hs rfl
   . exact wL (first1 (n+1) (F:=F08.uC) rfl rfl [] rfl hs h1 h2) rfl rfl hs rfl
 . simp only[Ak,Bg,or_false]at hf
   rcases hf with rfl|rfl
   . exact wL (RzF.up (n:=n+5) (F:=F.rT) (iK (fw n zs v s hz h1 h2)) rfl rfl) rfl rfl hs rfl
   . exact wL (fw (n+1) zs v s hz h1 h2) rfl rfl hs rfl
 . simp only[Ak,Bg,or_false]at hf
   rcases hf with rfl|rfl
   . exact wL (first1 (n+1) (F:=F14.wG) rfl rfl [w] rfl hs h1 h2) rfl rfl hs rfl
   . exact wL (first1 (n+1) (F:=F08.wb) rfl rfl [w] rfl hs h1 h2) rfl rfl hs rfl
 . exact wL (RzF.up (n:=n+5) (F:=F08.wb) (ue (F:=F08.wb) rfl rfl (zA (zF rfl) zH) (needStrip (n+1) ns s h) (zA (zF rfl) zH) (xStrip (n+1) v s h1 h2)) rfl rfl) rfl rfl hs rfl
theorem W3 ns:∃s',zB T 8 "law" 0 [.r ns] (tb.map .d)=.e (.e true) s':=by
 obtain⟨v,s',h,rfl⟩:=dy (cs 7 (by omega)) ns
 exact⟨s',by rw[yM (F:=pD) rfl];exact h⟩
end P07
end
section
open PySem PySem.W PyProof.Rows
theorem P07.hx:P07.pD.b=[("_law_script":Str)]:=by kernel_rfl
theorem P07.hF:(M.kh P07.fnL P07.glL P07.tb P07.xc P07.md).d P07.dd.name 0=some P07.pD:=by kernel_rfl
theorem P07.hgl:P07.glL=P07.gl.map λp=>(p.1,M.gv p.2):=by kernel_rfl
def P07.ws1:List Str:=["strip","sizes","number","place","hue","draft","paper","fit","lot"]
def P07.ws2:List Str:=["ring","round","stand","text","deed","line","great"]
theorem P07.kst:M.lI (P07.top 60) P07.X.a (P07.ws1++P07.ws2) none:=by
 refine⟨by kernel_rfl,by decide +kernel,?_,by decide +kernel⟩
 exact⟨P07.X.a.take 4,(P07.X.a.drop 4).take 4,(P07.X.a.drop 8).take 4,P07.X.a.drop 12,P07.ws1,P07.ws2,_,_,_,_,_,_,_,_,_,_,_,_,_,_,_,_,_,_,_,_,_,_,_,_,_,_,_,_,_,_,_,_,_,_,_,_,_,_,_,_,_,_,_,_,_,_,_,_,_,_,_,_,_,_,default,default,_,_,_,_,0,rfl,rfl,rfl,by decide +kernel,rfl,rfl⟩
theorem P07.RX:M.oN false "_law_class" (P07.top 61):=⟨by kernel_rfl,by decide +kernel,⟨_,_,_,_,_,_,_,_,_,_,_,_,_,_,_,_,_,_,_,_,_,_,rfl⟩,by decide +kernel⟩
theorem P07.hS:∀b,P07.md b=true->P07.D.lookup (L2.yD b)=some ((λb=>match b with|true=>P07.top 0|false=>P07.top 61) b)/\M.oN b "_law_class" ((λb=>match b with|true=>P07.top 0|false=>P07.top 61) b)
 |false,_=>⟨rfl,P07.RX⟩|true,h=>by cases h
theorem P07.lV:((("HueError":Str))::P07.X.c).all (λc=>M.cM P07.q c)=true:=by decide +kernel
theorem P07.lW:P07.X.b.all (λg=>(EG P07.q).any (λd=>decide (d.name=g))&&(P07.D.lookup g).isSome)=true:=by decide +kernel
theorem PySem.Challenge.cw_evenhues_k07_strips_refused_holds : PySem.Challenge.rw_evenhues_k07_strips_refused.Holds := by
 exact M.Xy (n:=8) _ P07.Vw P07.left P07.hgl P07.ef P07.hp P07.hk P07.hwr P07.ok P07.bare P07.hw (by kernel_rfl) P07.hdf ⟨rfl,by decide,by decide,rfl⟩ P07.hF P07.hx P07.V6 rfl (by decide +kernel) rfl P07.kst P07.hS rfl (by decide +kernel) (by decide +kernel) P07.lV P07.lW (λns _=>P07.W3 ns)
end
end
