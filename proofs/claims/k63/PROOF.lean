import PyProof.Rows.All
import Wide.All
import OpenK.AllK
import Wide.FinOn
import Lean
import PyProof.EqAt
import PyProof.EqKinds
import PyProof.TupleCall
import KE.KTryMore
import PyProof.P3Eq
import PyProof.NeData
import PyProof.P3In
import PyProof.Rows.EnumRows
import PyProof.ZipIter
import PyProof.Rows.SetFrom
import PyProof.ExcClass
import PyProof.StationsW
import PyProof.ExcInit
import PyProof.InstStore
import PyProof.InstStoreFacts
import OpenK.KRaise
import PyProof.ExcBaseAll.ValueError
import KE.KLam
import PyProof.AssignAttr
import PyProof.LayNew
import PyProof.ExcArgsOwn
import PyProof.IsiH_list
import PySem.Challenge.RW_evenhues_k63_rings_turned
set_option genSizeOf false
set_option genSizeOfSpec false
set_option bootstrap.genMatcherCode false
set_option Elab.async false
set_option linter.all false
set_option maxRecDepth 100000
set_option maxHeartbeats 4000000
set_option autoImplicit true
set_option relaxedAutoImplicit true
noncomputable section
open And renaming intro->Ab
open Array renaming getElem?_eq_some_iff->BH,length_toList->C1
open Bool renaming and_eq_true->cf,false_ne_true->Ad,or_eq_true->Ax,not_eq_true'->AM,false_eq_true->AX,false_and->CP,or_true->CV,eq_iff_iff->C7,or_eq_false_iff->EC,and_eq_true_iff->EG,and_self->Fc,false_or->GH,and_true->GI
open False renaming elim->Al
open ForInStep renaming yield->Cf
open Iff renaming rfl->CT
open Int renaming toNat_natCast->BI,natCast_emod->CY,natCast_mul->Dd,emod_lt_of_pos->E2,le_trans->FR,emod_nonneg->F8
open LawfulBEq renaming eq_of_beq->B6
open LawfulMonad renaming pure_bind->El
open List renaming getElem?_eq_getElem->Aa,length_map->Ae,mem_cons_of_mem->Af,size_toArray->Ai,lookup_cons->Ak,mem_cons->An,replicate->Ao,mem_cons_self->Ap,getD_eq_getElem?_getD->Aq,length_append->Au,getElem?_eq_some_iff->Aw,getElem?_set_self->AI,length_cons->AL,all_eq_true->AN,getElem?_append_left->AS,mem_of_getElem?->AU,isEmpty_iff->AV,mem_singleton->AW,range->AY,map_cons->A1,getElem?_map->A2,mem_append->A3,filterMap_cons->A6,mem_append_right->A7,append_nil->A9,contains_cons->Bb,getElem?_append_right->Be,not_mem_nil->Bj,length_range->Bl,mem_append_left->Bp,getElem?_set_ne->Bq,getElem_of_mem->Bv,nodup_cons->BC,any_eq_true->BF,append_assoc->BJ,replicate_succ->BK,length_nil->BM,getElem?_eq_none->BO,length_drop->BP,length_take->B1,getElem_mem->B2,filterMap_map->B5,flatten_cons->Ci,length_pos_iff->Cj,mem_range->Ck,lookup->Co,mem_filterMap->Cr,mem_map->Cw,length_set->Cz,getElem?_eq_none_iff->CH,getElem_map->CW,getElem?_range->DA,getElem?_take_of_lt->DF,getElem_range->DP,foldl->DR,getElem?_replicate->DT,findIdx?_eq_some_iff_getElem->D5,all_cons->D9,length_replicate->Ej,of_mem_zip->Er,nil_append->Ew,forIn_cons->EA,map_append->EB,map_map->EF,drop_zero->EK,set_comm->E5,take_sublist->Fg,nodup_append->Fq,ext_getElem?->Fs,drop_eq_getElem_cons->FA,map_nil->FI,length_filterMap_le->FQ,map->FV,lookup_eq_none_iff->F0,length->F9,range'->Ge,forIn_nil->Gn
open List.Pairwise renaming nil->Fj
open Nat renaming le_refl->Ah,lt_of_lt_of_le->Ar,le_trans->Ay,ne_of_lt->AG,lt_irrefl->Bc,gcd->B7,zero_le->B9,lt_succ_of_lt->CD,mod_lt->CM,le_succ->CO,lt_succ_self->CU,le_of_lt->Dg,ne_of_gt->Dh,add_mod->Dy,min_le_right->Eb,mod_eq_of_lt->Ee,lt_of_sub_eq_succ->En,mul_comm->Ez,le_of_eq->ED,mul_le_mul->EL,gcd_pos_of_pos_left->F1,mod_mod->Gb,mul_mod->Gd
open Ne renaming symm->A5
open Option renaming none->dS,map_eq_some_iff->Bt,isNone_iff_eq_none->BN,isSome_iff_exists->Cc,map_some->DB,bind_eq_some_iff->DS,bind_some->FD,getD_none->FG,getD_some->FX
open Option.some renaming inj->AR,injEq->DZ
open Prod.mk renaming inj->Gf,injEq->GA
open PyProof.Rows renaming slot_tuple_getitem->A0,joinParts_cons->Cm,assignInOrder_cons->Cq,Top->CZ,formatField_int_small->Dl,callWith_type1->Dm,FormattedValue_plain->Ds,boot_sorted->DO,tupleItemsOf_->D8,boot_min->Eo,entry_tuple_getitem->EH,recsOf->EJ,args_tuple_getitem->EV,subscriptTail->E7,assignInOrder_nil->Fe,boot_tuple->FZ,Subscript_->Gu
open PySem renaming wpAny_bind->xd,wpAny_pure->Ag,sizeLine->Am,Spec->As,starEach->Av,wpAny_loadPart_at->AB,wpAny_mono->AD,mem_of_lookup->AE,strLen_append->AH,mainGlobals->AJ,sizeLine_eq->AK,excClassObj->AQ,wpAny_standAt->A4,wpAny_newObj_type->Ba,sliceBounds->Bk,FuncData->Bn,compareOp->Br,binaryOp->Bu,wpAny_truthy_bool->Bw,wpAny_holding->Bx,treeTable->BD,wpAny_Call_Name_kw->BE,wpAny_field->BQ,wpAny_isSubtype_exc->BV,sysModules->BW,swappedStores->BX,attributeBase->BY,checkBuiltinCall->B3,recursionLimit->B4,bootBuiltins->Ca,letOwnedTupleGo->Cb,codeAny_call_builtin->Cg,call_meets->Cp,codeAny_mono->Ct,cellsFrom->Cu,wpAny_passesOwn->Cy,foldedSetIterable->CC,wpAny_Call_ofName->CG,assignEach->CJ,wpAny_call->CK,wpAny_binaryOp_repeat_ref->CL,typeIs_int->C9,bindName->Df,wpAny_setField->Dj,NameKind->Dq,behindInMarks->Du,wpAny_execs_nil->DC,wpAny_loadPart'->DE,wpAny_typeOf->DH,GenState->DJ,wpAny_raiseStmt_made_sub->DK,codeAmong->DL,TriplesOk->DM,wpAny_bindName->DQ,wpAny_callSpecial?_slot->DV,wpAny_pyIter_list->D1,assignInOrder->D6,swapsWithSole->D7,wpAny_execs_cons->Ea,Arguments->Ef,swapsWith->Ei,setFlight->Em,Within->Ep,typeLookup->Eu,constantsAlone->EN,keywordEach->EO,PassesOwn->ES,wpAny_pyIter_tuple->ET,noteFrame->EY,wpAny_classOwn_exc->E1,wpAny_newFunctionEnv_cells->E6,Comprehension->E8,foldedForSure->Fb,wpAny_sequenceKey->Fh,slot_list_getitem->Fi,builtinsNs->Fu,codeAny_call_builtin_code->Fx,wpAny_check_type_call_sub->Fy,noFill_tuple_add->FE,wpAny_call_entry->FF,wpAny_getItem_list_slice->FH,compTurn->FK,wpAny_comprehension_free->FL,wpAny_Dict_empty->FO,lookupAlong_cons->FT,wpAny_madeBy_exc->FU,codeAny_call_builtin_at->FY,DictEntry->F2,importedModules->F3,wpAny_mroOf_exc->F7,isCodeTable->Ga,newFunctionEnv->Gm,wpAny_rule->Gr,bindArgs->Gs,backToKw->Gv,closureFor->Gw,isInstance->Gx,cameBackBy->Gy,seq_tuple_add->GC,typeLookup_eq->GG,lastMarks->GK,slicePick->GL,onTheHeap->GN
open PySem.Around renaming frames_deeper->Es
open PySem.AutoSeq1 renaming idx_int->FN
open PySem.Builtin.List renaming listTooLong->DI
open PySem.Builtin.Range renaming rangeSize->BU
open PySem.Builtin.Slice renaming sliceAdjust->BL,slicePlaces->B8,sliceApplied->CA,sliceFields->Fv
open PySem.Builtin.Tuple renaming tupleExact->Bi,tupleItemsOf->Dv,tupleTooMany->Dw,tupleIsExact->E9
open PySem.Calls renaming Constant_str->C6,evalArgs_plain->Dp,spliced_cons->EU,Name_function_global->E4,spliced_nil->Ff
open PySem.Code renaming quiet_builtin->Dc
open PySem.EntryCells renaming newEntry->Dz
open PySem.Expr renaming Name->Ek,JoinedStr->Gi,Attribute->Gj,Subscript->Gk,Constant->GD
open PySem.Expr.Compare renaming elim->Fm
open PySem.Expr.FormattedValue renaming elim->FJ
open PySem.Expr.ListComp renaming elim->EX
open PySem.F renaming excBase_ValueError->BZ,slot_int_rmul->Ce,excAttr_ValueError->CB,typeOf_object_class->Dn,slot_tuple_mul->Dr,args_tuple_add_2->DG,entry_tuple_add->DU,plainAttrs_list->DW,args_int_rmul_2->D2,slot_tuple_add->D4,slot_int_index->Ec,entry_int_rmul->Ed,fills_int_mul->Ey,slot_gs_get->EI,args_tuple_mul_2->EZ,entry_tuple_mul->Fo,store_ValueError->FW
open PySem.Flow renaming next->GJ
open PySem.Heap renaming get?_push_of_some->lp,lt_size->Aj,get?_push_size->Az,get?_update_other->AO,size_push->Bo,get?_update_self->BA,get?_none_of_le->CI,MadeExcOf->CQ,get?_push_at->Fp
open PySem.Heap.IsSliceOf renaming new->EW
open PySem.NameKind renaming free->AA,cell->Bg,globalImplicit->DY
open PySem.Obj renaming mapFields->BG,data_mapFields->Cv,isFreed_of_fields->Dk,mapSeq->Fw
open PySem.Paired renaming length->GB
open PySem.PyData renaming eqv->Dt,int->FC,weightAll->FP,canLay0->Gp
open PySem.SeqAt renaming EqAt->Bh
open PySem.Str renaming empty->CN,ofString->Et
open PySem.Value renaming ref->AF,none->A8,builtin->B0,bool->C4,type->Ft,int->F4,str->F5
open PySem.W renaming Frag->Ac,behindTheImports->Bs,nsIn->By,fnOf->Bz,kia_one->BB,codeIn->BR,keepIn->BS,callWith_K->C8,topFrame->De,findIn->Di,mg_of->Dx,looks_findIn->DN,cellsFrom_some->D3,tabObj->EM,recOk->E3,methodObj->Fd,instObj->F6,lookIn->Gg,kitOne->Gh,piecesOf->Gq,fencedOpening->Gz
open Sum renaming inl->Eg,inr->Eh
open True renaming intro->AZ
section
namespace Hd
open PySem
inductive G where
 |b (i:Int)|c (x:Str)|a (ns:List Int)
noncomputable def args(s:Stmt):Ef:=match s with
 |.FunctionDef _ a _ _ _ _ _ _ _ _=>a
 |_=>{posonlyargs:=[],args:=[],vararg:=none,kwonlyargs:=[],kw_defaults:=[],kwarg:=none,defaults:=[]}
noncomputable def body(s:Stmt):List Stmt:=match s with
 |.FunctionDef _ _ b _ _ _ _ _ _ _=>b
 |_=>[]
noncomputable def scope(s:Stmt):Scope:=match s with
 |.FunctionDef _ _ _ _ _ _ sc _ _ _=>sc
 |_=>{kind:=.function,names:=[],isGenerator:=false,isCoroutine:=false}
noncomputable def posOf(s:Stmt):Pos:=match s with
 |.FunctionDef _ _ _ _ _ _ _ _ _ p=>p
 |_=>⟨0,0,0,0⟩
def X9(x:Str)(st:Stmt):DefRec:=⟨x,args st,body st,scope st,posOf st⟩
noncomputable def RA:List Str:=["len","all","any","tuple","list","sorted","repr","max","min","sum","int","isinstance","divmod","str","bool","dict","set","range","enumerate","zip"]
noncomputable def mB:List Value->Option (List Int)
 |[]=>some []
 |.int i _::r=>(mB r).map (i::·)
 |_=>none
noncomputable def nsH(h:Heap)(x:Str):Option (Option Value):=match h.get? AJ with
 |some o=>By [(AJ,o)] AJ x
 |none=>none
noncomputable def Yx(fd:Bn):Bn:={fd with kwdefaults:=.none,doc:=.none,pyModule:=.none,annotations:=none,code:=.none,closureTuple:=.none}
noncomputable def yM(o:Obj):Bool:=(match o.cls with|.none=>true|_=>false)&&(match o.data with|.fields _=>true|_=>false)
def jj(h:Heap)(cd:Value)(x:Str):Bool:=match cd with
 |.ref c=>(match h.get? c with
  |some o=>!yM o&&BR [(c,o)] (.ref c) x
  |none=>false)
 |_=>false
def Zz(h:Heap)(x:Str):Option Bn:=match nsH h x with
 |some (some (.ref f))=>(match h.get? f with
  |some ⟨_,_,.func fd,_⟩=>if jj h fd.code x then some (Yx fd) else none
  |_=>none)
 |_=>none
def Yq(p:Str × Stmt):Option Bn:=some (Bz p.1 p.1 (args p.2) (body p.2) (scope p.2) .none .none .none .none none .none .none)
def glB(h:Heap)(x:Str):G->Bool
 |.b i=>(match nsH h x with|some (some (.int j _))=>decide (i=j)|_=>false)
 |.c y=>(match nsH h x with|some (some (.str z _))=>decide (y=z)|_=>false)
 |.a ns=>(match nsH h x with
  |some (some (.ref a))=>(match h.get? a with
   |some ⟨.type n,_,.seq us _,_⟩=>decide (n="tuple")&&decide (us.toList.length<=1000)&&decide (mB us.toList=some ns)
   |_=>false)
  |_=>false)
def blB(h:Heap)(x:Str):Bool:=match nsH h x with|some none=>true|_=>false
def cP(D:List (Str × Stmt))(gl:List (Str × G))(s:Shared):List (Option Bn) × Bool:=(D.map λp=>Zz s.heap p.1,gl.all (λp=>glB s.heap p.1 p.2)&&RA.all λx=>blB s.heap x)
def aP(D:List (Str × Stmt)):List (Option Bn) × Bool:=(D.map Yq,true)
end Hd
end
section
namespace Hd
open PySem PySem.W
noncomputable def hsh(w:World)(x:Str):Int:=reduceHash (w.params.strHash x.cps)
def ent(w:World)(x:Str)(t:Tok)(v:Value):F2:=⟨hsh w x,.str x t,v⟩
def av(w:World)(n:Nat)(t:Tok)(b:Addr)(md:Value)(x:Str)(l:Int):List Obj:=
 [{cls:=.type "tuple",data:=.seq #[.ref b]},
  {cls:=.type "builtin_function_or_method",data:=.fields #[.builtin "type.__prepare__",.type "type"]},
  {cls:=.type "dict",data:=.dict #[ent w "__module__" (t+7) md,ent w "__qualname__" (t+9) (.str x (t+8)),ent w "__firstlineno__" (t+11) (.int l (t+10)),ent w "__static_attributes__" (t+12) (.ref (n+7))] 4},
  {cls:=.type "tuple",data:=.seq #[]},
  {cls:=.none,data:=.fields #[]},
  {cls:=.type "code",data:=.fields #[.str x (t+2),.str x (t+3),.str "/claim/cut.py" (t+4),.int l 0,.int 0 0,.int 0 0,.int 0 0,.int 0 0,.ref (n+3),.bool false,.int 181 0,.ref (n+4),.none,.none,.none,.none,.int (t+5) 0,.int l 0,.str "/claim/cut.py" (t+6)]},
  {cls:=.type "frame",data:=.plain,slots:=#[some (.ref (n+5)),some (.ref 3),some (.ref (n+2)),none,some md,none,some (.ref 0)]},
  {cls:=.type "tuple",data:=.seq #[]},
  {cls:=.type "dict",data:=.dict #[ent w "__module__" (t+7) md,ent w "__firstlineno__" (t+11) (.int l (t+10)),ent w "__static_attributes__" (t+12) (.ref (n+7)),ent w "__doc__" (t+13) .none] 2},
  {cls:=.type "type",data:=.cls {name:=x,bases:=[.ref b],mro:=[.ref (n+9),.ref b,.type "ValueError",.type "Exception",.type "BaseException",.type "object"],ns:=n+8,qualname:=x},slots:=#[some (.ref n),none,some (.str x t),some (.str x (t+8)),some (.builtin "ValueError.__new__"),some (.bool true)]},
  {cls:=.type "super",data:=.fields #[.ref (n+9),.ref (n+9),.ref (n+9)]},
  {cls:=.type "builtin_function_or_method",data:=.fields #[.builtin "object.__init_subclass__",.ref (n+9)]}]
def eA(w:World)(b:Addr)(md:Value):Nat->Nat->List (Str × Int)->List Obj
 |_,_,[]=>[]
 |n,t,c::cs=>av w n t b md c.1 c.2++eA w b md (n+12) (t+16) cs
def ed(w:World):Nat->Nat->List (Str × Int)->List F2
 |_,_,[]=>[]
 |n,t,c::cs=>ent w c.1 (t+15) (.ref (n+9))::ed w (n+12) (t+16) cs
noncomputable def eE:Nat->List (Str × Int)->List Value
 |_,[]=>[]
 |n,c::cs=>.int c.2 0::.int 0 0::.ref (n+5)::eE (n+12) cs
noncomputable def bz:Nat->List (Str × Int)->List Value
 |_,[]=>[]
 |n,_::cs=>.ref (n+9)::bz (n+12) cs
noncomputable def Rf(es':List F2):Obj->Obj
 |⟨c,d,.dict es n,s⟩=>⟨c,d,.dict ⟨es.toList++es'⟩ (n+es'.length),s⟩
 |o=>o
noncomputable def Ri(vs':List Value):Obj->Obj
 |⟨c,d,.fields vs,s⟩=>⟨c,d,.fields ⟨vs.toList++vs'⟩,s⟩
 |o=>o
noncomputable def Rh(vs':List Value):Obj->Obj
 |⟨c,d,.cls k,s⟩=>⟨c,d,.cls {k with subclasses:=k.subclasses++vs'},s⟩
 |o=>o
noncomputable def atL(f:Obj->Obj):Nat->List Obj->List Obj
 |_,[]=>[]
 |0,o::os=>f o::os
 |n+1,o::os=>o::atL f n os
noncomputable def eM(st:Stmt):Stmt:=match st with
 |.ClassDef _ _ _ b _ _ _ _ _ _ _=>b.getD 0 st
 |_=>st
def V6(w:World)(n:Nat)(t:Tok)(b:Addr)(md:Value)(st:Stmt)(l:Int):List Obj:=
 let x:Str:="TooGreat";let f:Bn:={name:="__init__",qualname:="TooGreat.__init__",params:=args (eM st),body:=.stmts (body (eM st)),scope:=scope (eM st),globals:=0,closure:=[],defaults:=.none,kwdefaults:=.none}
 [{cls:=.type "tuple",data:=.seq #[.ref b]},
  {cls:=.type "builtin_function_or_method",data:=.fields #[.builtin "type.__prepare__",.type "type"]},
  {cls:=.type "dict",data:=.dict #[ent w "__module__" (t+7) md,ent w "__qualname__" (t+9) (.str x (t+8)),ent w "__firstlineno__" (t+11) (.int l (t+10)),ent w "__init__" (t+20) (.ref (n+13)),ent w "__static_attributes__" (t+23) (.ref (n+14))] 5},
  {cls:=.type "tuple",data:=.seq #[]},
  {cls:=.none,data:=.fields #[.int (l+2) 0,.int 4 0,.ref (n+12)]},
  {cls:=.type "code",data:=.fields #[.str x (t+2),.str x (t+3),.str "/claim/cut.py" (t+4),.int l 0,.int 0 0,.int 0 0,.int 0 0,.int 0 0,.ref (n+3),.bool false,.int 181 0,.ref (n+4),.none,.none,.none,.none,.int (t+5) 0,.int l 0,.str "/claim/cut.py" (t+6)]},
  {cls:=.type "frame",data:=.plain,slots:=#[some (.ref (n+5)),some (.ref 3),some (.ref (n+2)),none,some md,none,some (.ref 0)]},
  {cls:=.type "tuple",data:=.seq #[]},
  {cls:=.none,data:=.fields #[]},
  {cls:=.type "tuple",data:=.seq #[.str "self" (t+15),.str "many" (t+16),.str "most" (t+17)]},
  {cls:=.type "tuple",data:=.seq #[]},
  {cls:=.none,data:=.func f},
  {cls:=.type "code",data:=.fields #[.str "__init__" (t+12),.str "TooGreat.__init__" (t+13),.str "/claim/cut.py" (t+14),.int (l+2) 0,.int 3 0,.int 0 0,.int 0 0,.int 3 0,.ref (n+7),.bool true,.int 181 0,.ref (n+8),.none,.ref (n+9),.ref (n+10),.ref (n+11),.int (t+18) 0,.int (l+2) 0,.str "/claim/cut.py" (t+19)]},
  {cls:=.type "function",data:=.func {f with globals:=3,pyModule:=md,code:=.ref (n+12)}},
  {cls:=.type "tuple",data:=.seq #[.str "many" (t+21),.str "most" (t+22)]},
  {cls:=.type "dict",data:=.dict #[ent w "__module__" (t+7) md,ent w "__firstlineno__" (t+11) (.int l (t+10)),ent w "__init__" (t+20) (.ref (n+13)),ent w "__static_attributes__" (t+23) (.ref (n+14)),ent w "__doc__" (t+24) .none] 2},
  {cls:=.type "type",data:=.cls {name:=x,bases:=[.ref b],mro:=[.ref (n+16),.ref b,.type "ValueError",.type "Exception",.type "BaseException",.type "object"],ns:=n+15,qualname:=x},slots:=#[some (.ref n),none,some (.str x t),some (.str x (t+8)),some (.builtin "ValueError.__new__"),some (.bool true)]},
  {cls:=.type "super",data:=.fields #[.ref (n+16),.ref (n+16),.ref (n+16)]},
  {cls:=.type "builtin_function_or_method",data:=.fields #[.builtin "object.__init_subclass__",.ref (n+16)]}]
def tgF(w:World)(n t:Nat)(b:Addr)(md:Value)(cs:List (Str × Int))(st:Stmt)(l:Int)(s:Shared):Shared:=
 let m:=n+12*cs.length;let u:=t+16*cs.length
 {s with toks:=u+27,heap:={s.heap with objs:=⟨atL (Rf (ed w n t cs++[ent w "TooGreat" (u+26) (.ref (m+16))])) 3 (atL (Ri (eE n cs++[.int l 0,.int 0 0,.ref (m+5)])) 12 (atL (Rh (bz n cs++[.ref (m+16)])) b s.heap.objs.toList))++(eA w b md n t cs++V6 w m u b md st l)⟩}}
noncomputable def wN(p:Program):Env:={scope:=p.main.scope,locals:=mainNs,globals:=mainNs,cells:=[],code:=.ref 13,frame:=some 14}
noncomputable def oO:Option Value:=some (.ref 6)
noncomputable def S0(p:Program)(w:World):Shared:=(Gz BD p w 100000).getD (start (opening p)).1
def SA(p:Program)(w:World):Shared:=((topGo BD p w 11 oO 12 (S0 p w) (topStub p)).map Prod.fst).getD (S0 p w)
noncomputable def Bd(p:Program)(k:Nat):List Stmt:=(Bs p).take 2++(((Bs p).drop 2).take k++(Bs p).drop (2+k))
def Cd(p:Program)(k:Nat):Code:=.body (Bd p k) (wN p)
def S1(p:Program)(k:Nat)(w:World):Shared:=((segRun BD p w 11 oO 1 1000 (SA p w) (Gq ((Bs p).take 2) (wN p) (Cd p k) default [De default])).map λr=>r.2.1).getD (SA p w)
noncomputable def Vi(l:Nat):Pos:=⟨l,0,l+1,8⟩
noncomputable def Vj(l:Nat):Pos:=⟨l,0,l+5,24⟩
def S3(p:Program)(cs:List (Str × Int))(l:Nat)(w:World):Shared:=tgF w 28 207 24 (.str "evenhues.errors" 187) cs ((Bs p).getD (2+cs.length) (.Pass ⟨0,0,0,0⟩)) l (S1 p (cs.length+1) w)
noncomputable def aq(p:Program)(h:Heap)(z:Shared):Bool:=staticsOk (F3 p.main.body) h z.heap&&namesBound p z.heap&&gensDone z&&laidKept h z.heap
def chk(p:Program)(h:Heap)(z:Shared):Option Shared:=match aq p h z with
 |true=>some z
 |false=>none
theorem gJ{Yf}{Ya:World->α}{T0 TA T1 T2:World->Shared}
 (hc:cd=.body (l1++(l2++l3)) env)
 (h0:∀w,Gz BD p w N=some (T0 w))
 (h1:∀w,((T0 w).heap.isNs AJ&&(T0 w).gens.size == 0,(T0 w).heap.objs.size,(T0 w).heap.nsMap AJ "__annotations__")=(true,m,ann))
 (hA:∀w,topGo BD p w m ann k0 (T0 w) (topStub p)=some (TA w,⟨denote BD (.body (l1++(l2++l3)) env),cd,b0,[De qq]⟩))
 (hB:∀w,segRun BD p w m ann 1 1 (TA w) (blockOf (l1++(l2++l3)) env cd b0 [De qq])=some (.next,TA w,cd,b0))
 (hC:∀w,segRun BD p w m ann 1 n1 (TA w) (Gq l1 env cd b0 [De qq])=some (.next,T1 w,cd,b1))
 (hD:∀w,segRun BD p w m ann 1 n2 (T1 w) (Gq l2 env cd b1 [De qq])=some (.next,T2 w,cd,b2))
 (hE:∀w,((topRun BD p w m ann n3 (T2 w) (restOf l3 env cd b2 [De qq])).bind (chk p (T0 w).heap)).map (λz=>(openSeen q loose (F3 p.main.body) Xt true z,Yf z))=some (openGood q loose,Ya w))
 (le:Nat.ble (k0+(1+(n1+(n2+n3)))) N=true):LeftO p q loose Xt Yf Ya N:=λw=>by
 have hs:=h1 w;simp only[GA]at hs;obtain⟨r,k1,k2⟩:=Bt.mp (hE w);obtain⟨r',k3,k4⟩:=DS.mp k1;have go:=topRun_mono (N-(k0+(1+(n1+(n2+n3))))) _ _ _ _ (go_top (hA w) (piece_block (hB w) (piece_app (hC w) (piece_app (hD w) k3))));rw[Nat.add_sub_cancel' (Nat.le_of_ble_eq_true le)]at go;have tf:topFrom BD p w N (T0 w)=some r:=by unfold topFrom;rw[hs.1,hs.2.1,hs.2.2];dsimp only;rw[go];unfold chk aq at k4;exact k4
 unfold openEnds;rw[h0 w,FD,tf];exact congrArg some k2
theorem Uk{α β γ δ ε ζ η κ:Type}{o:Option Shared}{f:Shared->α × β × γ × δ × ε × ζ × η}{g:Shared->κ}{a}{b}{c}{d}{e}{i}{j}{u}(h0:o.map (λz=>(f z).1)=some a)(h1:o.map (λz=>((f z).2.1,(f z).2.2.1))=some (b,c))(h2:o.map (λz=>(f z).2.2.2.1)=some d)(h5:o.map (λz=>((f z).2.2.2.2.1,(f z).2.2.2.2.2.1))=some (e,i))(h3:o.map (λz=>(f z).2.2.2.2.2.2)=some j)(h4:o.map (λz=>(g z,aq p h z))=some (u,true)):(o.bind (chk p h)).map (λz=>(f z,g z))=some ((a,b,c,d,e,i,j),u):=by
 cases o with
 |none=>cases h4
 |some z=>
  simp only[DB,DZ,GA]at h0 h1 h2 h3 h4 h5;have e1:chk p h z=some z:=by unfold chk;rw[h4.2]
  rw[FD,e1,<-h0,<-h1.1,<-h1.2,<-h2,<-h5.1,<-h5.2,<-h3,<-h4.1];rfl
end Hd
end
section
namespace Hd
open PySem PySem.W
structure XT where
 a:List Str
 c:List Str
 b:List Str
def adH(h:Heap)(x:Str):Option Addr:=match nsH h x with
 |some (some (.ref a))=>some a
 |_=>none
def X6(h:Heap)(x:Str):List (Addr × Obj):=match adH h x with
 |some a=>(match h.get? a with
  |some o=>(match o.data with
   |.cls cd=>(a,o)::(match h.get? cd.ns with
    |some n=>if yM n then [] else [(cd.ns,n)]
    |none=>[])
   |_=>[])
  |none=>[])
 |none=>[]
def kcH(h:Heap):List Str->Frag
 |[]=>[]
 |x::xs=>X6 h x++kcH h xs
noncomputable def veM:List Value:=[.type "ValueError",.type "Exception",.type "BaseException",.type "object"]
noncomputable def iU(K:Frag)(C:Addr):Bool:=(findIn K (.ref C) "__getattribute__" == some (some (.builtin "BaseException.__getattribute__")))&&(findIn K (.ref C) "__getattr__" == some none)&&(findIn K (.ref C) "__class__" == some (some (.builtin "object.__class__"))) &&
 (subIn K (.ref C) (.type "BaseException") == some true)&&(subIn K (.ref C) (.type "object") == some true)&&(clsIn K C).isSome
def cK(h:Heap)(C:Addr)(bm:List Value):Bool:=match h.get? C with
 |some o=>(match o.data with
  |.cls cd=>(cd.mro == .ref C::bm)&&(match h.get? cd.ns with
   |some n=>!yM n
   |none=>false)
  |_=>false)
 |none=>false
def bmB(h:Heap):Bool:=match adH h "__builtins__" with
 |some b=>(match h.get? b with
  |some o=>!yM o
  |none=>false)
 |none=>false
def jF(h:Heap)(x:Str):Option Addr:=match adH h x with
 |some f=>(match h.get? f with
  |some o=>(match o.data with
   |.func fd=>(match fd.code with
    |.ref c=>(match h.get? c with
     |some oc=>(match oc.data with
      |.fields vs=>(match (vs[11]?:Option Value) with
       |some (.ref P)=>some P
       |_=>none)
      |_=>none)
     |none=>none)
    |_=>none)
   |_=>none)
  |none=>none)
 |none=>none
def nD(X:XT)(h:Heap):Bool:=match adH h "HueError" with
 |none=>false
 |some hue=>X.a.all (λc=>(adH h c).isSome)&&blB h "ValueError"&&X.c.all (λc=>match adH h c with
  |none=>false
  |some C=>iU (kcH h ("HueError"::X.a)) C&&(exmOne (kcH h ("HueError"::X.a)) (.ref C) (.ref hue) == some true)&&X.a.all (λd=>kitOne (kcH h ("HueError"::X.a)) (.ref C) (.ref ((adH h d).getD 0)) == some (decide (d=c))) &&
   (kitOne (kcH h ("HueError"::X.a)) (.ref C) (.type "ValueError") == some true)&&cK h C (.ref hue::veM)) &&
  cK h hue veM&&bmB h&&decide ((X.b.map (jF h)).Nodup)
noncomputable def slB(sl:Array (Option Value)):Bool:=match sl.toList with
 |[_,_,_,_,some (.builtin m),_]=>decide (m="ValueError.__new__")
 |_=>false
def eB(h:Heap)(C hue:Addr):Bool:=match h.get? C with
 |some ⟨.type n,_,.cls cd,sl⟩=>decide (n="type")&&(cd.mro == .ref C::.ref hue::veM)&&cd.hasDict&&!cd.hasDel&&slB sl&&h.isNs cd.ns
 |_=>false
noncomputable def jx(h:Heap)(C:Addr):Option Addr:=match h.get? C with
 |some ⟨_,_,.cls cd,_⟩=>(match h.nsMap cd.ns "__init__" with
  |some (.ref f)=>some f
  |_=>none)
 |_=>none
def dH(h:Heap)(C:Addr):Option Bn:=match jx h C with
 |some f=>(match h.get? f with
  |some ⟨.type n,_,.func fd,_⟩=>if decide (n="function")&&jj h fd.code "TooGreat.__init__" then some (Yx fd) else none
  |_=>none)
 |none=>none
noncomputable def WK(K:Frag)(C D:Addr):Bool:=(findIn K (.ref C) "__setattr__" == some (some (.builtin "object.__setattr__")))&&(findIn K (.ref C) "many" == some none)&&(findIn K (.ref C) "most" == some none) &&
 (specialIn K (.ref D) "__getattribute__" == some (some (.builtin "type.__getattribute__")))&&readsIn K D (.type "type")&&(match findCls K (.ref D) (.type "type") "__init__" with
  |some (.val (.builtin m))=>decide (m="ValueError.__init__")
  |_=>false)
def kcG(h:Heap)(xs:List Str):Frag:=(match h.get? cStatics with
 |some o=>if yM o then [] else [(cStatics,o)]
 |none=>[])++kcH h xs
def Z0(X:XT)(h:Heap):Bool × Option Bn:=match adH h "TooGreat" with
 |some C=>(match adH h "HueError" with
  |some D=>(eB h C D&&WK (kcG h ("HueError"::X.a)) C D&&(exmOne (kcG h ("HueError"::X.a)) (.ref C) (.ref C) == some true)&&iU (kcG h ("HueError"::X.a)) C,dH h C)
  |none=>(false,none))
 |none=>(false,none)
noncomputable def l6(s:Stmt):Stmt:=match s with
 |.ClassDef _ _ _ (st::_) _ _ _ _ _ _ _=>st
 |_=>.Pass ⟨0,0,0,0⟩
def aO(st:Stmt):Bool × Option Bn:=(true,some (Bz "__init__" "TooGreat.__init__" (args st) (body st) (scope st) .none .none .none .none none .none .none))
theorem Ul{α β δ:Type}{o:Option Shared}{f:Shared->α}{g:Shared->β}{r}{a}{b}{d:δ}(h1:(o.bind (chk p h)).map (λz=>(f z,g z))=some (a,b))(h2:o.map q=some true)(h3:o.map r=some d):(o.bind (chk p h)).map (λz=>(f z,(g z,(q z,r z))))=some (a,(b,(true,d))):=by
 cases o with
 |none=>cases h2
 |some z=>
  rw[FD]at h1 ⊢;unfold chk at h1 ⊢;split
  . rename_i e
    rw[e]at h1;simp only[DB,DZ,GA]at h1 h2 h3 ⊢;exact⟨h1.1,h1.2,h2,h3⟩
  . rename_i e;rw[e]at h1;cases h1
end Hd
end
section
set_option maxHeartbeats 0
open PySem PySem.W PyProof.Rows
namespace P63
noncomputable def top(i:Nat):Stmt:=PySem.Challenge.pw_evenhues_k63_rings_turned.main.body.getD i (.Pass ⟨0,0,0,0⟩)
def D:List (Str × Stmt):=(("is_whole":Str),top 20)::(("are_wholes":Str),top 21)::(("need_whole":Str),top 22)::(("is_strip":Str),top 25)::(("need_ring":Str),top 28)::(("need_ring_place":Str),top 29)::(("turned":Str),top 30)::(("greatest_divisor":Str),top 31)::(("strided":Str),top 32)::(("laid":Str),top 33)::(("_law_cell_at":Str),top 35)::(("_law_pen":Str),top 36)::(("_law_draw":Str),top 37)::(("_law_kind":Str),top 38)::(("_law_got":Str),top 39)::(("_law_great":Str),top 40)::(("_law_common":Str),top 41)::(("law":Str),top 42)::[]
noncomputable def gl:List (Str × Hd.G):=[("MOST_PLACES",.b 40),("HUES",.a [0,1,2,3]),("MOST_LAID",.b 40)]
def q:Program:={PySem.Challenge.pw_evenhues_k63_rings_turned with main:={PySem.Challenge.pw_evenhues_k63_rings_turned.main with body:=[1,2,3,4,5,6,7,8,9,10,11,12,13,14,15,16,17,19,20,21,22,24,25,27,28,29,30,31,32,33,35,36,37,38,39,40,41,42].map top}}
def dd:DefRec:=Hd.X9 "law" (top 42)
noncomputable def X:Hd.XT:=⟨["NoStrip","NoSizes","NoNumber","NoPlace","NoHue","NoDraft","NoPaper","NoFit","TooGreat","NoLot","NoRing","NoRound","NoStand","NoText","NoDeed","NoLine"],["NoNumber","NoPlace","TooGreat","NoRing"],["law"]⟩
noncomputable abbrev pr:Program:=PySem.Challenge.rw_evenhues_k63_rings_turned.row.prog
noncomputable def X7:List (Str × Int):=[("NoStrip",4),("NoSizes",6),("NoNumber",8),("NoPlace",10),("NoHue",12),("NoDraft",14),("NoPaper",16),("NoFit",18),("NoLot",20),("NoRing",22),("NoRound",24),("NoStand",26),("NoText",28),("NoDeed",30),("NoLine",32)]
def Fz(w:World):Option Shared:=topRun BD pr w 11 Hd.oO 50000 (Hd.S3 pr X7 34 w) (restOf ((Bs pr).drop 18) (Hd.wN pr) (Hd.Cd pr 16) (Hd.Vj 34) [De default])
def Sn(z:Shared):=openSeen q [] (F3 pr.main.body) (λs=>E3 PySem.Challenge.rw_evenhues_k63_rings_turned.row.records s) true z
theorem e0:∀w,(Fz w).map (λz=>(Sn z).1)=some (expectedOf q):=by
 intro w
 kernel_rfl
theorem e1:∀w,(Fz w).map (λz=>((Sn z).2.1,(Sn z).2.2.1))=some (bltViewBooted,true):=by
 intro w
 kernel_rfl
theorem e2:∀w,(Fz w).map (λz=>(Sn z).2.2.2.1)=some true:=by
 intro w
 kernel_rfl
theorem e6:∀w,(Fz w).map (λz=>((Sn z).2.2.2.2.1,(Sn z).2.2.2.2.2.1))=some (pinGoodD (drecsOf q),plainGoodE q (looseW q [])):=by
 intro w
 kernel_rfl
theorem e3:∀w,(Fz w).map (λz=>(Sn z).2.2.2.2.2.2)=some (plainGoodD q [],wideGood q,clsGoodW q []):=by
 intro w
 kernel_rfl
theorem e4:∀w,(Fz w).map (λz=>(Hd.cP D gl z,Hd.aq pr (Hd.S0 pr w).heap z))=some (Hd.aP D,true):=by
 intro w
 kernel_rfl
theorem e5:∀w,(Fz w).map (λz=>Hd.nD X z.heap)=some true:=by
 intro w
 kernel_rfl
theorem e7:∀w,(Fz w).map (λz=>Hd.Z0 X z.heap)=some (Hd.aO (Hd.l6 (top 17))):=by
 intro w
 kernel_rfl
theorem h0:∀w,Gz BD pr w 100000=some (Hd.S0 pr w):=by
 intro w
 kernel_rfl
theorem h1:∀w,((Hd.S0 pr w).heap.isNs AJ&&(Hd.S0 pr w).gens.size == 0,(Hd.S0 pr w).heap.objs.size,(Hd.S0 pr w).heap.nsMap AJ "__annotations__")=(true,11,Hd.oO):=by
 intro w
 kernel_rfl
theorem hA:∀w,topGo BD pr w 11 Hd.oO 12 (Hd.S0 pr w) (topStub pr)=some (Hd.SA pr w,⟨denote BD (.body (Hd.Bd pr 16) (Hd.wN pr)),Hd.Cd pr 16,default,[De default]⟩):=by
 intro w
 kernel_rfl
theorem hB:∀w,segRun BD pr w 11 Hd.oO 1 1 (Hd.SA pr w) (blockOf (Hd.Bd pr 16) (Hd.wN pr) (Hd.Cd pr 16) default [De default])=some (.next,Hd.SA pr w,Hd.Cd pr 16,default):=by
 intro w
 kernel_rfl
theorem hC:∀w,segRun BD pr w 11 Hd.oO 1 1000 (Hd.SA pr w) (Gq ((Bs pr).take 2) (Hd.wN pr) (Hd.Cd pr 16) default [De default])=some (.next,Hd.S1 pr 16 w,Hd.Cd pr 16,Hd.Vi 2):=by
 intro w
 kernel_rfl
theorem hD:∀w,segRun BD pr w 11 Hd.oO 1 20000 (Hd.S1 pr 16 w) (Gq (((Bs pr).drop 2).take 16) (Hd.wN pr) (Hd.Cd pr 16) (Hd.Vi 2) [De default])=some (.next,Hd.S3 pr X7 34 w,Hd.Cd pr 16,(Hd.Vj 34)):=by
 intro w
 kernel_rfl
theorem hE:∀w,((Fz w).bind (Hd.chk pr (Hd.S0 pr w).heap)).map (λz=>(Sn z,Hd.cP D gl z))=some (openGood q [],Hd.aP D):=λw=>Hd.Uk (e0 w) (e1 w) (e2 w) (e6 w) (e3 w) (e4 w)
theorem left:PySem.W.LeftO pr q [] (λs=>E3 PySem.Challenge.rw_evenhues_k63_rings_turned.row.records s) (λz=>(Hd.cP D gl z,(Hd.nD X z.heap,Hd.Z0 X z.heap))) (λ_=>(Hd.aP D,(true,Hd.aO (Hd.l6 (top 17))))) 100000:=
 Hd.gJ (p:=pr) (T0:=Hd.S0 pr) (TA:=Hd.SA pr) (T1:=Hd.S1 pr 16) (T2:=Hd.S3 pr X7 34) (N:=100000) (m:=11) (k0:=12) (n1:=1000) (n2:=20000) (n3:=50000) (ann:=Hd.oO) (env:=Hd.wN pr) (l1:=(Bs pr).take 2) (l2:=((Bs pr).drop 2).take 16) (l3:=(Bs pr).drop 18) (cd:=Hd.Cd pr 16) (b0:=default) (b1:=Hd.Vi 2) (b2:=(Hd.Vj 34)) (qq:=default) rfl h0 h1 hA hB hC hD (λw=>Hd.Ul (hE w) (e5 w) (e7 w)) (by decide +kernel)
theorem Vu:PySem.Challenge.rw_evenhues_k63_rings_turned.wellSaid=true:=by kernel_rfl
theorem dE:PySem.W.defOf q PySem.Challenge.rw_evenhues_k63_rings_turned.row.name=some (dd,[]):=by kernel_rfl
theorem hp:PySem.Challenge.rw_evenhues_k63_rings_turned.row.prog.theDef PySem.Challenge.rw_evenhues_k63_rings_turned.row.name=some (dd.params,dd.body,dd.scope):=by kernel_rfl
theorem hk:PySem.W.kwWritten? dd.params.kwonlyargs dd.params.kw_defaults=some []:=by kernel_rfl
theorem hwr:(!PySem.Challenge.rw_evenhues_k63_rings_turned.row.writes||PySem.Challenge.rw_evenhues_k63_rings_turned.row.records.isEmpty)=true:=by kernel_rfl
theorem ok:(PySem.W.chainsOk q&&PySem.W.opensWell PySem.Challenge.rw_evenhues_k63_rings_turned.row.prog&&(PySem.W.frees PySem.Challenge.rw_evenhues_k63_rings_turned.row.toRowW&&PySem.Challenge.rw_evenhues_k63_rings_turned.row.within.isEmpty))=true:=by kernel_rfl
theorem hdf:dd.params.defaults=[]:=by kernel_rfl
theorem bare:PySem.Challenge.rw_evenhues_k63_rings_turned.row.prog.bare:=⟨rfl,rfl,rfl,rfl,rfl,by decide +kernel⟩
theorem hw:PySem.Challenge.rw_evenhues_k63_rings_turned.row.toRowW.promised:=by w_witness2
end P63
end
section
namespace L2
open PySem PySem.Spec PyProof.Rows
abbrev Key:=Sum Int Str
noncomputable def XH:Key->Value->Bool
 |.inl k,v=>Value.isInt k v
 |.inr x,v=>Value.isStrOf x v
noncomputable def RH(w:World):Key->Int
 |.inl k=>hashInt k
 |.inr x=>hashStr w x
theorem yD:∀{k} {v},XH k v=true->(∃i t,k=Eg i/\v=F4 i t)\/(∃x t,k=Eh x/\v=F5 x t)
 |.inl i,v,h=>by
  obtain⟨t,e⟩:=Value.isInt_shape (k:=i) (v:=v) h;exact .inl ⟨i,t,rfl,e⟩
 |.inr x,v,h=>by obtain⟨t,e⟩:=Value.isStrOf_shape (x:=x) (v:=v) h;exact .inr ⟨x,t,rfl,e⟩
theorem Wx a b:decide ((Eg a:Key)=Eg b)=(a == b):=by
 by_cases e:a=b
 . subst e;simp
 . have h:¬(Eg a:Key)=Eg b:=λq=>e (Eg.inj q)
   rw[decide_eq_false h];exact(beq_eq_false_iff_ne.mpr e).symm
theorem W0 a b:decide ((Eh a:Key)=Eh b)=decide (a=b):=by
 by_cases e:a=b
 . subst e;simp
 . have h:¬(Eh a:Key)=Eh b:=λq=>e (Eh.inj q)
   rw[decide_eq_false h,decide_eq_false e]
theorem Wy a b:decide ((Eg a:Key)=Eh b)=false:=decide_eq_false (λq=>nomatch q)
theorem Wz a b:decide ((Eh a:Key)=Eg b)=false:=decide_eq_false (λq=>nomatch q)
def ox(prog:Program)(w:World):PySem.KeyKind prog w Key where
 is:=XH
 hash:=RH w
 inj:=λv a b ha hb=>by
  rcases yD ha with⟨i,t,rfl,rfl⟩|⟨x,t,rfl,rfl⟩
  . rcases yD hb with⟨j,u,rfl,e⟩|⟨y,u,rfl,e⟩
    . injection e with e1 _;rw[e1]
    . exact nomatch e
  . rcases yD hb with⟨j,u,rfl,e⟩|⟨y,u,rfl,e⟩
    . exact nomatch e
    . injection e with e1 _;rw[e1]
 byValue:=λk v h=>by
  rcases yD h with⟨i,t,rfl,rfl⟩|⟨x,t,rfl,rfl⟩<;>rfl
 pyHash:=λhv h=>by
  rcases yD hv with⟨i,t,rfl,rfl⟩|⟨x,t,rfl,rfl⟩
  . exact wpAny_pyHash_int h
  . exact wpAny_pyHash_str h
 eqBool:=λhu hv h=>by
  rcases yD hu with⟨i,t,rfl,rfl⟩|⟨x,t,rfl,rfl⟩
  . rcases yD hv with⟨j,u,rfl,rfl⟩|⟨y,u,rfl,rfl⟩
    . rw[Wx]at h;exact wpAny_eqBool_int h
    . rw[Wy]at h;exact Bh.int_str i t y u _ _ _ _ h
  . rcases yD hv with⟨j,u,rfl,rfl⟩|⟨y,u,rfl,rfl⟩
    . rw[Wz]at h;exact Bh.str_int x t j u _ _ _ _ h
    . rw[W0]at h;exact wpAny_eqBool_str h
 «strs»:=λk x t v h=>by
  rcases yD h with⟨i,u,rfl,e⟩|⟨y,u,rfl,e⟩
  . exact nomatch e
  . injection e with e1 _
    subst e1;cases v<;>rfl
inductive V where
 |g|f (b:Bool)|d (i:Int)|e (x:Str)|h (b:Array UInt8)|j (b:UInt64)|c (a:Addr)|k (n:String)
 deriving DecidableEq
def RelV:V->Value->Prop
 |.g,u=>u=A8
 |.f b,u=>u=C4 b
 |.d i,u=>∃t,u=F4 i t
 |.e x,u=>∃t,u=F5 x t
 |.h b,u=>∃t,u=Value.bytes b t
 |.j b,u=>∃t,u=Value.float b t
 |.c a,u=>u=AF a
 |.k n,u=>u=Ft n
abbrev Vals:List V->List Value->Prop:=Paired RelV
theorem Vals.length(r:Vals xs us):xs.length=us.length:=GB r
theorem Vals.get:∀{xs} {us} {i:Nat} {x},Vals xs us->xs[i]?=some x->∃u,us[i]?=some u/\RelV x u
 |_,_,_,_,.nil,e=>by simp at e
 |_,_,0,_,.cons r _,e=>by simp at e;subst e;exact⟨_,rfl,r⟩
 |_,_,i+1,x,.cons _ t,e=>by
  obtain⟨u,h1,h2⟩:=Vals.get (i:=i) (x:=x) t (by simpa using e)
  exact⟨u,by simpa using h1,h2⟩
theorem Vals.set(r:RelV x u):∀{xs} {us} i,Vals xs us->Vals (xs.set i x) (us.set i u)
 |_,_,_,.nil=>.nil
 |_,_,0,.cons _ t=>.cons r t
 |_,_,i+1,.cons q t=>.cons q (Vals.set r i t)
theorem Vals.append:∀{xs ys} {us ws},Vals xs us->Vals ys ws->Vals (xs++ys) (us++ws)
 |_,_,_,_,.nil,s=>s
 |_,_,_,_,.cons r t,s=>.cons r (Vals.append t s)
theorem Vals.take:∀{xs} {us} n,Vals xs us->Vals (xs.take n) (us.take n)
 |_,_,0,_=>.nil
 |_,_,_+1,.nil=>.nil
 |_,_,n+1,.cons r t=>.cons r (Vals.take n t)
theorem Vals.drop:∀{xs} {us} n,Vals xs us->Vals (xs.drop n) (us.drop n)
 |_,_,0,r=>r
 |_,_,_+1,.nil=>.nil
 |_,_,n+1,.cons _ t=>Vals.drop n t
theorem Vals.none_of:∀{xs} {us} {i:Nat},Vals xs us->xs[i]?=none->us[i]?=none:=λ{xs us i} r e=>by have h1:=r.length;have h2:xs.length<=i:=CH.mp e;exact CH.mpr (by omega)
def nh:Option V->Option Value->Prop
 |some v,some u=>RelV v u
 |none,none=>True
 |_,_=>False
def KV{κ:Type}:List (κ × V)->List (κ × Value)->Prop:=Paired λ(p:κ × V) (q:κ × Value)=>p.1=q.1/\RelV p.2 q.2
noncomputable def kV:Key->V
 |.inl i=>.d i
 |.inr x=>.e x
inductive HO where
 /-- a list -/
 |b (xs:List V)
 /-- a tuple (never changes) -/
 |c (xs:List V)
 /-- a dict whose keys are ints and texts;one whose keys are tuples of ints and texts (the empty one is both) -/
 |i (kvs:List (Key × V))|l (kvs:List (List Key × V))
 /-- a set of ints: its members,its size -/
 |p (S:Int->Bool) (n:Nat)
 /-- an instance of the class at C,its dict at dx,its attributes -/
 |m (C dx:Addr) (fs:List (Str × V))
 /-- the dict of the instance at x -/
 |d (x:Addr)
 /-- the dict of an exception -/
 |j (fs:List (Str × V))
 /-- a bound method,f of x -/
 |q (f x:Addr)
 /-- a range object lo,lo+1,.. below hi -/
 |r (lo hi:Int)
 /-- a thing that is known to the object (the script;a dict while a loop walks it): read,never written while it is so -/
 |e (o:Obj) (u:HO)
 /-- a code object's table -/
 |g (ps:Array Value)
 /-- any other thing,by what is true of its one object (a def of one's own: SetO a S n:=HO.ext λh=>..) -/
 |k (φ:Heap->Prop)
abbrev Hp:=Addr->Option HO
def tY(h:Heap)(a:Addr)(items:Array Value):Prop:=∃o,h.get? a=some o/\o.cls=.type "tuple"/\∃n,o.data=.seq items n/\o.dict=none
theorem tY.tup{h:Heap}{a:Addr}{items:Array Value}(x:tY h a items):IsTup h a items:=let ⟨o,e,c,n,d,_⟩:=x;⟨o,e,c,n,d⟩
theorem tY.lt(x:tY h a items):a<h.objs.size:=let ⟨_,e,_⟩:=x;Aj e
theorem tY.new(h:Heap)items:tY (h.push {cls:=.type "tuple",data:=.seq items}) h.objs.size items:=⟨_,Az _ rfl,rfl,_,rfl,rfl⟩
noncomputable def upd(H:Hp)(a:Addr)(o:HO):Hp:=λb=>if b=a then some o else H b
theorem zL:upd H a o a=some o:=by unfold upd;rw[if_pos rfl]
theorem zJ(h:b≠a):upd H a o b=H b:=by unfold upd;rw[if_neg h]
theorem zP{H:Hp}(h:H a=some o)(h':H b=none):a≠b:=by intro e;subst e;rw[h]at h';cases h'
section
variable (P:Program)(w:World)
def z6(H:Hp)(h:Heap)(a:Addr):HO->Prop
 |.b xs=>xs.length<=Am/\∃(its:List Value) (n:Nat),Vals xs its/\h.get? a=some {cls:=.type "list",data:=.seq its.toArray n}
 |.c xs=>xs.length<=Am/\∃its:List Value,Vals xs its/\tY h a its.toArray
 |.i kvs=>kvs.length<=Am/\(a == BW)=false/\∃vs,KV kvs vs/\h.DictOf (ox P w) a vs
 |.l kvs=>kvs.length<=Am/\(a == BW)=false/\∃xs:List (List Key × Addr × Value),
  Paired (λ(p:List Key × V) (q:List Key × Addr × Value)=>p.1=q.1/\H q.2.1=some (.c (p.1.map kV))/\RelV p.2 q.2.2) kvs xs /\
  ∃o es ep,h.get? a=some o/\o.ExactDict/\o.data=.dict es ep/\es.toList=xs.map (entryOfKey (tupleKind (ox P w)))/\(xs.map (·.1)).Nodup
 |.p S n=>h.SetOf (intKind P w) a S n
 |.m C dx fs=>H dx=some (.d a)/\fs.length<=1000/\dx≠a/\h.get? a=some (F6 C dx) /\
  ∃mA,h.Ns1 dx mA/\(∀f,nh (fs.lookup f) (mA f))/\Ep mA (fs.map (·.1))
 |.d _=>∃o,h.get? a=some o
 |.j fs=>∃mA,h.Ns1 a mA/\∀f,nh (fs.lookup f) (mA f)
 |.r lo hi=>∃t u v,h.get? a=some {cls:=.type "range",data:=.fields #[.int lo t,.int hi u,.int 1 v]}
 |.e o u=>h.get? a=some o/\z6 H h a u
 |.g ps=>h.get? a=some {cls:=.none,data:=.fields ps}
 |.q f x=>h.get? a=some (Fd (.ref f) (.ref x))
 |.k φ=>φ h/\(∃o,h.get? a=some o)/\∀h1 h2:Heap,φ h1->(∀o,h1.get? a=some o->h2.get? a=some o)->φ h2
def HOk(H:Hp)(h:Heap):Prop:=∀a o,H a=some o->z6 P w H h a o
end
section
variable {P:Program}{w:World}{H H':Hp}{h h':Heap}{a:Addr}{o:HO}
theorem z6.lt(x:z6 P w H h a o):a<h.objs.size:=by
 cases o with
 |b xs=>obtain⟨_,_,_,_,e⟩:=x;exact Aj e
 |c xs=>obtain⟨_,_,_,p⟩:=x;exact p.lt
 |i kvs=>obtain⟨_,_,_,_,o,_,_,e,_⟩:=x;exact Aj e
 |l kvs=>obtain⟨_,_,_,_,o,_,_,e,_⟩:=x;exact Aj e
 |p S n=>obtain⟨o,_,_,_,e,_⟩:=x;exact Aj e
 |m C dx fs=>obtain⟨_,_,_,e,_⟩:=x;exact Aj e
 |d y=>obtain⟨_,e⟩:=x;exact Aj e
 |j fs=>obtain⟨_,⟨_,_,_,e,_⟩,_⟩:=x;exact Aj e
 |r lo hi=>obtain⟨_,_,_,e⟩:=x;exact Aj e
 |e ob u=>obtain⟨e,_⟩:=x;exact Aj e
 |g ps=>exact Aj (show h.get? a=some _ from x)
 |q f y=>exact Aj (show h.get? a=some _ from x)
 |k φ=>obtain⟨_,⟨_,e⟩,_⟩:=x;exact Aj e
theorem Paired.TJ:∀{l₁} {l₂},Paired F l₁ l₂->(∀a b,F a b->G a b)->Paired G l₁ l₂
 |_,_,.nil,_=>.nil
 |_,_,.cons r t,f=>.cons (f _ _ r) (Paired.TJ t f)
theorem z6.qy(x:z6 P w H h a o)(k:∀b u,(b=a\/H b=some (.d a))->h.get? b=some u->h'.get? b=some u)
 (ho:∀b,H b=some (.d a)->H' b=some (.d a)) (ht:∀b xs,H b=some (.c xs)->H' b=some (.c xs)):z6 P w H' h' a o:=by
 induction o with
 |b xs=>obtain⟨z,its,n,r,e⟩:=x;exact⟨z,its,n,r,k _ _ (.inl rfl) e⟩
 |c xs=>obtain⟨z,its,r,ob,e,c⟩:=x;exact⟨z,its,r,ob,k _ _ (.inl rfl) e,c⟩
 |i kvs=>obtain⟨z,y,vs,r,ob,es,ep,e,c⟩:=x;exact⟨z,y,vs,r,ob,es,ep,k _ _ (.inl rfl) e,c⟩
 |l kvs=>
  obtain⟨z,y,xs,r,ob,es,ep,e,c⟩:=x;exact⟨z,y,xs,Paired.TJ r λp q z=>⟨z.1,ht _ _ z.2.1,z.2.2⟩,ob,es,ep,k _ _ (.inl rfl) e,c⟩
 |p S n=>obtain⟨ob,es,ep,t,e,c⟩:=x;exact⟨ob,es,ep,t,k _ _ (.inl rfl) e,c⟩
 |m C dx fs=>
  obtain⟨d,z,ne,e,mA,⟨od,es,ep,e2,c⟩,r⟩:=x;exact⟨ho _ d,z,ne,k _ _ (.inl rfl) e,mA,⟨od,es,ep,k _ _ (.inr d) e2,c⟩,r⟩
 |d y=>obtain⟨ob,e⟩:=x;exact⟨ob,k _ _ (.inl rfl) e⟩
 |j fs=>obtain⟨mA,⟨od,es,ep,e,c⟩,r⟩:=x;exact⟨mA,⟨od,es,ep,k _ _ (.inl rfl) e,c⟩,r⟩
 |r lo hi=>obtain⟨t,u,v,e⟩:=x;exact⟨t,u,v,k _ _ (.inl rfl) e⟩
 |e ob u ih=>obtain⟨e,q⟩:=x;exact⟨k _ _ (.inl rfl) e,ih q⟩
 |g ps=>
  have e:h.get? a=some {cls:=.none,data:=.fields ps}:=x;show h'.get? a=some {cls:=.none,data:=.fields ps};exact k a _ (.inl rfl) e
 |q f y=>
  have e:h.get? a=some (Fd (.ref f) (.ref y)):=x;show h'.get? a=some (Fd (.ref f) (.ref y));exact k a _ (.inl rfl) e
 |k φ=>obtain⟨p,⟨o,e⟩,st⟩:=x;exact⟨st _ _ p λo q=>k _ _ (.inl rfl) q,⟨o,k _ _ (.inl rfl) e⟩,st⟩
theorem HOk.lt(x:HOk P w H h)(e:H a=some o):a<h.objs.size:=(x a o e).lt
theorem HOk.fresh(x:HOk P w H h)(e:h.objs.size<=a):H a=none:=by
 cases q:H a with
 |none=>rfl
 |some u=>exact absurd (Ar (x.lt q) e) (Bc _)
theorem HOk.kept(x:HOk P w H h)(k:∀b u,h.get? b=some u->h'.get? b=some u):HOk P w H h':=λa o e=>
 (x a o e).qy (λb u _ q=>k b u q) (λ_ q=>q) λ_ _ q=>q
theorem HOk.laid(x:HOk P w H h)(k:∀b u,h.get? b=some u->h'.get? b=some u)(hp:h.objs.size<=a)(new:z6 P w (upd H a o) h' a o):HOk P w (upd H a o) h':=λb u e=>by
 have hn:=x.fresh hp;by_cases hb:b=a
 . subst hb;rw[zL]at e;cases e;exact new
 . rw[zJ hb]at e
   exact(x b u e).qy (λc v _ q=>k c v q) (λc q=>by rw[zJ (zP q hn)];exact q) λc xs q=>by rw[zJ (zP q hn)];exact q
end
def Rd(H:Hp)(a:Addr)(u:HO):Prop:=H a=some u\/∃o,H a=some (.e o u)
theorem Rd.ok(r:Rd H a u)(x:HOk P w H h):z6 P w H h a u:=by
 rcases r with r|⟨o,r⟩
 . exact x a u r
 . obtain⟨_,q⟩:=x a _ r
   exact q
def Mut:Option HO->Prop
 |some (.b _)=>True
 |some (.i _)=>True
 |some (.l _)=>True
 |some (.p _ _)=>True
 |some (.m _ _ _)=>True
 |some (.k _)=>True
 |_=>False
section
variable {P:Program}{w:World}{H:Hp}{h h':Heap}{x e:Addr}{o':HO}
theorem HOk.write(ok:HOk P w H h)(mu:Mut (H x))(he:e=x\/H e=some (.d x))(k:∀b u,b≠e->h.get? b=some u->h'.get? b=some u)(heo:∃u,h'.get? e=some u)
 (new:z6 P w (upd H x o') h' x o'):HOk P w (upd H x o') h':=λb u q=>by
 have nown:∀c y,H c=some (.d y)->c≠x:=λc y r z=>by subst z;rw[r]at mu;exact mu
 have ntup:∀c xs,H c=some (.c xs)->c≠x:=λc xs r z=>by subst z;rw[r]at mu;exact mu
 by_cases hb:b=x
 . subst hb;rw[zL]at q;cases q;exact new
 . rw[zJ hb]at q
   by_cases hbe:b=e
   . have q':H b=some (.d x):=by
      rcases he with z|z
      . exact absurd (hbe.trans z) hb
      . rw[hbe];exact z
     rw[q]at q';cases q';obtain⟨v,hv⟩:=heo;exact⟨v,by rw[hbe];exact hv⟩
   . refine(ok b u q).qy (λc v hc r=>k c v ?_ r) (λc r=>by rw[zJ (nown c b r)];exact r) λc xs r=>by rw[zJ (ntup c xs r)];exact r
     rcases hc with rfl|hc
     . exact hbe
     . rintro rfl
       rcases he with z|z
       . exact nown c b hc z
       . rw[hc]at z;cases z;exact hb rfl
end
structure Un(fs ex:List Addr)(H H':Hp)(h h':Heap):Prop where
 f:∀b o,h.get? b=some o->H b=none->b ∉ fs->b ∉ ex->h'.get? b=some o
 i:∀b o,h.get? b=some o->H b=none->b∈fs->b ∉ ex->∃sl,h'.get? b=some {o with slots:=sl}
 d:∀b o,h.get? b=some o->H b=none->b ∉ ex->H' b=none
 c:∀b o,h.get? b=some o->b ∉ ex->∃o',h'.get? b=some o'
 l:∀b xs,H b=some (.c xs)->H' b=some (.c xs)
 g:∀b o u,H b=some (.e o u)->H' b=some (.e o u)
 j:∀b ps,H b=some (.g ps)->∃more,H' b=some (.g (ps++more))
section
variable {fs fs' ex ex':List Addr}{H H1 H2:Hp}{h h1 h2 h':Heap}{a x e:Addr}{o:HO}
theorem Un.any(u:Un fs ex H H1 h h1)(q:h.get? b=some ob)(n:H b=none)(hx:b ∉ ex):∃sl,h1.get? b=some {ob with slots:=sl}:=by
 by_cases hb:b∈fs
 . exact u.i b ob q n hb hx
 . exact⟨ob.slots,u.f b ob q n hb hx⟩
theorem Un.kept(k:∀b u,h.get? b=some u->h'.get? b=some u):Un fs ex H H h h':=
 ⟨λb ob q _ _ _=>k b ob q,λb ob q _ _ _=>⟨ob.slots,k b ob q⟩,λ_ _ _ n _=>n,λb ob q _=>⟨ob,k b ob q⟩,λ_ _ q=>q,λ_ _ _ q=>q,λ_ ps q=>⟨#[],by rw[q];simp⟩⟩
theorem Un.refl:Un fs ex H H h h:=Un.kept λ_ _ q=>q
theorem Un.laid(k:∀b u,h.get? b=some u->h'.get? b=some u)(hp:h.objs.size<=a)(hn:H a=none):Un fs ex H (upd H a o) h h' where
 f:=λb u q _ _ _=>k b u q
 i:=λb u q _ _ _=>⟨u.slots,k b u q⟩
 d:=λb u q n _=>by rw[zJ (AG (Ar (Aj q) hp))];exact n
 c:=λb u q _=>⟨u,k b u q⟩
 l:=λb xs q=>by rw[zJ (zP q hn)];exact q
 g:=λb u xs q=>by rw[zJ (zP q hn)];exact q
 j:=λb ps q=>⟨#[],by rw[zJ (zP q hn),q];simp⟩
theorem Un.write(mu:Mut (H x))(he:e=x\/H e=some (.d x))(k:∀b u,b≠e->h.get? b=some u->h'.get? b=some u)(heo:∃u,h'.get? e=some u):Un fs ex H (upd H x o) h h':=by
 have hx:∀b,H b=none->b≠x:=λb n z=>by subst z;rw[n]at mu;exact mu
 have hb:∀b,H b=none->b≠e:=λb n z=>by
  subst z;rcases he with r|r
  . exact hx b n r
  . rw[n]at r;cases r
 have hm:∀b u,H b=some u->¬Mut (some u)->b≠x:=λb u q nm z=>by subst z;rw[q]at mu;exact nm mu
 refine⟨λb u q n _ _=>k b u (hb b n) q,λb u q n _ _=>⟨u.slots,k b u (hb b n) q⟩,λb u q n _=>by rw[zJ (hx b n)];exact n,λb u q _=>?_,
  λb xs q=>by rw[zJ (hm b _ q λz=>z)];exact q,λb u xs q=>by rw[zJ (hm b _ q λz=>z)];exact q,λb ps q=>⟨#[],by rw[zJ (hm b _ q λz=>z),q];simp⟩⟩
 by_cases hbe:b=e
 . subst hbe;exact heo
 . exact⟨u,k b u hbe q⟩
end
noncomputable def trk(h:Heap)(H:Hp):List Addr:=(AY h.objs.size).filter λa=>(H a).isSome
def oj(h:Heap)(H:Hp):Heap:=PySem.W.hideAll h (trk h H)
theorem hG h H:(oj h H).objs.size=h.objs.size:=PySem.W.hideAll_size _ _
theorem dF(e:h.get? b=some o)(n:H b=none):(oj h H).get? b=some o:=
 PySem.W.hideAll_get _ e λhm=>by have q:(H b).isSome=true:=(List.mem_filter.mp hm).2;rw[n]at q;simp at q
theorem Z1(e:(oj h H).get? b=some o):h.get? b=some o/\H b=none:=by
 have e':h.get? b=some o:=PySem.W.of_hideAll (trk h H) e;refine⟨e',?_⟩;cases q:H b with
 |none=>rfl
 |some x=>
  have hm:b∈trk h H:=List.mem_filter.mpr ⟨Ck.mpr (Aj e'),by simp[q]⟩
  have z:(oj h H).get? b=none:=PySem.W.hideAll_none (trk h H) hm;rw[z]at e;cases e
structure Mod(K:Ac)(mg:Str->Option Value)(base:Heap):Prop where
 a:K.In base
 c:base.Ns AJ mg
 d:∃mb,base.Ns Fu mb/\∀x:Str,x≠"__name__"->mb x=Ca x
 b:base.NoLimit
structure Cx where
 f:Program
 w:World
 K:Ac
 d:Str->Option Value
 g:Heap
 A:Around
 N:List Str
 l:Shared
 r:Hp
 a:Env
 k:List Env
 h:List Env
 m:List Addr
 q:Str->Bool
 j:Bool
 n:List (Addr × Obj)
 i:Value->Shared->Prop
noncomputable def frs(l:List Env):List Addr:=l.filterMap (·.frame)
abbrev Cx.fs(X:Cx):List Addr:=frs X.k
def Vis(sc:Scope)(x:Str):Prop:=sc.names.lookup x=some .local\/sc.names.lookup x=some .cell\/sc.names.lookup x=some .free
def Loc(sc:Scope)(x:Str):Prop:=sc.names.lookup x=some .local\/sc.names.lookup x=some .cell
def Look(env:Env)(h:Heap)(m:Str->Option Value)(x:Str)(u:Value):Prop:=
 (env.kindOf x=some .local/\m x=some u)\/((env.kindOf x=some .cell\/env.kindOf x=some .free)/\∃c,env.cells.lookup x=some c/\h.IsCell c (some u))
structure Cx.Ok(X:Cx):Prop where
 i:Mod X.K X.d X.g
 a:X.a.scope.kind=.function
 j:X.a.globals=AJ
 t:X.a.builtins=Fu
 d:X.l.heap.objs.size<=X.a.locals
 r:∀x y c,X.a.cells.lookup x=some c->X.a.cells.lookup y=some c->x=y
 q:∀x,(X.a.kindOf x=some .cell\/X.a.kindOf x=some .free)->∃c,X.a.cells.lookup x=some c
 s:∀x c,X.q x=true->X.a.cells.lookup x=some c->X.l.heap.objs.size<=c
 k:X.j=true->X.A.handled=none
 g:X.A.frames=some X.h
 w:X.h=X.k\/(X.h=X.a::X.k/\X.a.frame=some X.a.locals)
 G:∀b∈X.m,b≠X.a.locals/\∀x c,X.a.cells.lookup x=some c->c≠b
 B:∀b o,X.g.get? b=some o->X.l.heap.get? b=some o/\X.r b=none
 p:X.g.objs.size<=X.l.heap.objs.size
 m:∀b o,X.g.get? b=some o->b ∉ X.m
 l:∀b∈X.m,b ∉ X.fs
 D:X.l.heap.FunFrames X.g X.k
 u:∀b∈X.fs,X.r b=none
structure Inv(X:Cx)(pins:List (Addr × Obj))(σ:List (Option V))(H:Hp)(s:Shared):Prop where
 C:X.Ok
 P:s.os=X.l.os
 D:AllBare s.gens
 j:Un X.fs X.m X.r H X.l.heap s.heap
 M:∃m,s.heap.Ns X.a.locals m/\∀(i:Nat) (x:Str) (v:V),X.N[i]?=some x->σ[i]?=some (some v)->Vis X.a.scope x->∃u,RelV v u/\Look X.a s.heap m x u
 G:∀x c,X.a.cells.lookup x=some c->∃v,s.heap.IsCell c v
 J:H X.a.locals=none
 F:∀x c,X.a.cells.lookup x=some c->H c=none
 O:∀p∈X.n++pins,s.heap.get? p.1=some p.2/\H p.1=none/\p.1≠X.a.locals/\p.1 ∉ X.fs/\∀v,p.2.data≠.cell v
 B:HOk X.f X.w H s.heap
 R:σ.length=X.N.length
section
variable {X:Cx}{pins:List (Addr × Obj)}{σ:List (Option V)}{H H':Hp}{s:Shared}{h':Heap}
theorem Cx.Ok.RJ(ok:X.Ok)(e:X.g.get? b=some o):b ∉ X.fs:=λhb=>by have:=(ok.D.mem hb).1;rw[e]at this;cases this
theorem Inv.bs(I:Inv X pins σ H s):∀b o,X.g.get? b=some o->s.heap.get? b=some o/\H b=none:=λb o e=>
 ⟨I.j.f b o (I.C.B b o e).1 (I.C.B b o e).2 (I.C.RJ e) (I.C.m b o e),I.j.d b o (I.C.B b o e).1 (I.C.B b o e).2 (I.C.m b o e)⟩
theorem Inv.bk(I:Inv X pins σ H s):∀b o,X.g.get? b=some o->s.heap.get? b=some o:=λb o e=>(I.bs b o e).1
theorem Inv.mod(I:Inv X pins σ H s):Mod X.K X.d X.g:=I.C.i
theorem Inv.kIn(I:Inv X pins σ H s):X.K.In s.heap:=I.C.i.a.keeps I.bk
theorem Inv.lt(I:Inv X pins σ H s):X.a.locals<s.heap.objs.size:=let ⟨_,hn,_⟩:=I.M;hn.lt
theorem Inv.sz(I:Inv X pins σ H s):X.l.heap.objs.size<=s.heap.objs.size:=Ay I.C.d (Dg I.lt)
theorem Inv.RK(I:Inv X pins σ H s)(h:s.heap.objs.size<=a):a ∉ X.fs:=λhb=>by obtain⟨_,o,ho,_⟩:=I.C.D.mem hb;exact absurd (Ar (Aj ho) (Ay I.sz h)) (Bc _)
theorem Inv.cne(I:Inv X pins σ H s):∀x c,X.a.cells.lookup x=some c->c≠X.a.locals:=λx c e z=>by obtain⟨v,o,ho,hd⟩:=I.G x c e;obtain⟨m,⟨o',es,ep,ho',hd',_⟩,_⟩:=I.M;rw[z,ho']at ho;cases ho;rw[hd']at hd;cases hd
theorem Inv.uM(I:Inv X pins σ H s):s.heap.FunFrames X.g X.k:=by
 have all:∀(l:List Env),(∀b∈frs l,b∈X.fs)->X.l.heap.FunFrames X.g l->s.heap.FunFrames X.g l:=by
  intro l;induction l with
  |nil=>intro _ _;trivial
  |cons env r ih=>
   intro hs hl;obtain⟨hk,⟨L,o,hf,hn,ho,hd⟩,hr⟩:=hl;have hL:L∈X.fs:=hs L (by unfold frs;rw[A6,hf];exact Ap)
   obtain⟨sl,e⟩:=I.j.i L o ho (I.C.u L hL) hL λz=>I.C.l L z hL;exact⟨hk,⟨L,_,hf,hn,e,hd⟩,ih (λb hb=>hs b (by unfold frs;rw[A6,hf];exact Af _ hb)) hr⟩
 exact all X.k (λ_ hb=>hb) I.C.D
theorem Inv.stack(I:Inv X pins σ H s):s.heap.FunFrames X.g X.h:=by
 rcases I.C.w with e|⟨e,hf⟩
 . rw[e];exact I.uM
 . rw[e]
   obtain⟨m,hn,_⟩:=I.M;refine .cons (by rw[I.C.a];decide) hf hn ?_ I.uM
   exact CI (Ay I.C.p I.C.d)
theorem Inv.k6(I:Inv X pins σ H s):∀b∈frs X.h,b∈X.a.locals::X.fs:=λb hb=>by
 rcases I.C.w with e|⟨e,hf⟩
 . rw[e]at hb;exact Af _ hb
 . rw[e]at hb
   unfold frs at hb;rw[A6,hf]at hb;exact hb
theorem Inv.nR(I:Inv X pins σ H s):∀b∈frs X.h,H b=none:=λb hb=>by
 rcases An.mp (I.k6 b hb) with e|hb
 . rw[e];exact I.J
 . obtain⟨_,o,ho,_⟩:=I.C.D.mem hb
   exact I.j.d b o ho (I.C.u b hb) λz=>I.C.l b z hb
theorem Inv.step{ch:List Addr}(I:Inv X pins σ H s)
 (hch:∀b∈ch,(b∈X.m\/X.l.heap.objs.size<=b)/\b≠X.a.locals/\(∀x c,X.a.cells.lookup x=some c->c≠b)/\∀p∈X.n++pins,p.1≠b)
 (keep:∀b o,b≠X.a.locals->b ∉ X.fs->b ∉ ch->s.heap.get? b=some o->H b=none->h'.get? b=some o)
 (slot:∀b o,b≠X.a.locals->b∈X.fs->b ∉ ch->s.heap.get? b=some o->H b=none->∃sl,h'.get? b=some {o with slots:=sl}) (free:∀b o,b ∉ ch->s.heap.get? b=some o->H b=none->H' b=none)
 (there:∀b o,b ∉ ch->s.heap.get? b=some o->∃o',h'.get? b=some o')
 (tups:∀b xs,H b=some (.c xs)->H' b=some (.c xs)) (frzs:∀b o u,H b=some (.e o u)->H' b=some (.e o u)) (tbls:∀b ps,H b=some (.g ps)->∃more,H' b=some (.g (ps++more)))
 (ns:∀m,s.heap.Ns X.a.locals m->h'.Ns X.a.locals m) (hok:HOk X.f X.w H' h') (hg:AllBare g') :
 Inv X pins σ H' {s with heap:=h',gens:=g',drawn:=d',toks:=t'}:=by
 have neL:∀b o,X.l.heap.get? b=some o->b≠X.a.locals:=λb o e=>AG (Ar (Aj e) I.C.d);have neC:∀b o,X.l.heap.get? b=some o->b ∉ X.m->b ∉ ch:=λb o e hx hb=>by
  rcases (hch b hb).1 with z|z
  . exact hx z
  . exact absurd (Ar (Aj e) z) (Bc _)
 have cellK:∀x c,X.a.cells.lookup x=some c->∀v,s.heap.IsCell c v->h'.IsCell c v:=λx c e v ⟨o,ho,hd⟩=>by
  have nch:c ∉ ch:=λz=>(hch c z).2.2.1 x c e rfl;by_cases hc:c∈X.fs
  . obtain⟨sl,q⟩:=slot c o (I.cne x c e) hc nch ho (I.F x c e)
    exact⟨_,q,hd⟩
  . exact⟨o,keep c o (I.cne x c e) hc nch ho (I.F x c e),hd⟩
 refine⟨I.C,I.P,hg,⟨λb o e n hb hx=>?_,λb o e n hb hx=>?_,λb o e n hx=>?_,λb o e hx=>?_,λb xs e=>tups b xs (I.j.l b xs e),λb o xs e=>frzs b o xs (I.j.g b o xs e),λb ps e=>?_⟩,?_,λx c e=>?_,?_,λx c e=>?_,λp hp=>?_,hok,I.R⟩
 . exact keep b o (neL b o e) hb (neC b o e hx) (I.j.f b o e n hb hx) (I.j.d b o e n hx)
 . obtain⟨sl,e1⟩:=I.j.i b o e n hb hx
   obtain⟨sl',e2⟩:=slot b _ (neL b o e) hb (neC b o e hx) e1 (I.j.d b o e n hx);exact⟨sl',e2⟩
 . obtain⟨o',e1⟩:=I.j.c b o e hx
   exact free b o' (neC b o e hx) e1 (I.j.d b o e n hx)
 . obtain⟨o',e1⟩:=I.j.c b o e hx
   exact there b o' (neC b o e hx) e1
 . obtain⟨m1,e1⟩:=I.j.j b ps e
   obtain⟨m2,e2⟩:=tbls b _ e1;exact⟨m1++m2,by rw[e2,Array.append_assoc]⟩
 . obtain⟨m,hn,hl⟩:=I.M
   refine⟨m,ns m hn,λi x v e1 e2 e3=>?_⟩;obtain⟨u,r,l⟩:=hl i x v e1 e2 e3;refine⟨u,r,?_⟩;rcases l with l|⟨k,c,e,z⟩
   . exact .inl l
   . exact .inr ⟨k,c,e,cellK x c e _ z⟩
 . obtain⟨v,z⟩:=I.G x c e
   exact⟨v,cellK x c e v z⟩
 . obtain⟨m,⟨o,_,_,ho,_⟩,_⟩:=I.M
   exact free _ o (λz=>(hch _ z).2.1 rfl) ho I.J
 . obtain⟨v,o,ho,hd⟩:=I.G x c e
   exact free c o (λz=>(hch c z).2.2.1 x c e rfl) ho (I.F x c e)
 . obtain⟨e,n,ne,nf,d⟩:=I.O p hp
   have nch:p.1 ∉ ch:=λz=>(hch p.1 z).2.2.2 p hp rfl;exact⟨keep p.1 p.2 ne nf nch e n,free p.1 p.2 nch e n,ne,nf,d⟩
theorem Inv.un(I:Inv X pins σ H s)(u:Un X.fs [] H H' s.heap h')(hok:HOk X.f X.w H' h'):Inv X pins σ H' {s with heap:=h',toks:=t'}:=by
 obtain⟨m,⟨o,es,ep,ho,r⟩,_⟩:=id I.M;obtain⟨sl,hL⟩:=u.any ho I.J (by simp)
 exact I.step (g':=s.gens) (d':=s.drawn) (ch:=[]) (λ_ z=>nomatch z) (λb o _ hb _ e n=>u.f b o e n hb (by simp)) (λb o _ hb _ e n=>u.i b o e n hb (by simp)) (λb o _ e n=>u.d b o e n (by simp)) (λb o _ e=>u.c b o e (by simp)) u.l u.g u.j (λm' hm=>by obtain⟨o',es',ep',ho',r'⟩:=hm;rw[ho]at ho';cases ho';exact⟨_,es',ep',hL,r'⟩) hok I.D
theorem Inv.call(I:Inv X pins σ H s)(u:Un (frs X.h) ch H H' s.heap h')(hok:HOk X.f X.w H' h')(hg:AllBare g')
 (hch:∀b∈ch,(b∈X.m\/X.l.heap.objs.size<=b)/\b≠X.a.locals/\(∀x c,X.a.cells.lookup x=some c->c≠b)/\∀p∈X.n++pins,p.1≠b) :
 Inv X pins σ H' {s with heap:=h',gens:=g',drawn:=d',toks:=t'}:=by
 obtain⟨m,⟨o,es,ep,ho,r⟩,_⟩:=id I.M;obtain⟨sl,hL⟩:=u.any ho I.J λz=>(hch _ z).2.1 rfl;exact I.step (ch:=ch) hch (λb o hL hb hc e n=>u.f b o e n (λz=>(An.mp (I.k6 b z)).elim hL hb) hc) (λb o _ _ hc e n=>u.any e n hc) (λb o hc e n=>u.d b o e n hc) (λb o hc e=>u.c b o e hc) u.l u.g u.j (λm' hm=>by obtain⟨o',es',ep',ho',r'⟩:=hm;rw[ho]at ho';cases ho';exact⟨_,es',ep',hL,r'⟩) hok hg
theorem Inv.turned(I:Inv X pins σ H s)(k:∀b o,b≠it->s.heap.get? b=some o->h'.get? b=some o)(hn:H it=none)(hL:it≠X.a.locals)
 (h1:it∈X.m\/X.l.heap.objs.size<=it) (h2:∀x c,X.a.cells.lookup x=some c->c≠it) (h3:∀p∈X.n++pins,p.1≠it):Inv X pins σ H {s with heap:=h',toks:=t'}:=by
 have nit:∀b u,H b=some u->b≠it:=λb u e z=>by rw[z,hn]at e;cases e
 refine I.step (g':=s.gens) (d':=s.drawn) (ch:=[it]) (λb hb=>?_) (λb o _ _ hc e _=>k b o (λz=>hc (by simp[z])) e) (λb o _ _ hc e _=>⟨o.slots,k b o (λz=>hc (by simp[z])) e⟩) (λ_ _ _ _ n=>n)
  (λb o hc e=>⟨o,k b o (λz=>hc (by simp[z])) e⟩) (λ_ _ e=>e) (λ_ _ _ e=>e) (λb ps e=>⟨#[],by rw[e];simp⟩) (λm hm=>?_) (λb u e=>?_) I.D
 . have e:b=it:=by simpa using hb
   subst e;exact⟨h1,hL,h2,h3⟩
 . obtain⟨o,es,ep,ho,r⟩:=hm
   exact⟨o,es,ep,k _ o (A5 hL) ho,r⟩
 . refine(I.B b u e).qy (λc v hc q=>k c v ?_ q) (λ_ q=>q) λ_ _ q=>q
   rcases hc with z|z
   . rw[z];exact nit b u e
   . exact nit c _ z
theorem Inv.tok(I:Inv X pins σ H s)t:Inv X pins σ H {s with toks:=t}:=I.un (h':=s.heap) (t':=t) Un.refl I.B
theorem Inv.kept(I:Inv X pins σ H s)(k:∀b u,s.heap.get? b=some u->h'.get? b=some u):Inv X pins σ H {s with heap:=h',toks:=t'}:=I.un (Un.kept k) (I.B.kept k)
theorem Inv.laid(I:Inv X pins σ H s)(k:∀b u,s.heap.get? b=some u->h'.get? b=some u)(hp:s.heap.objs.size<=a)(new:z6 X.f X.w (upd H a o) h' a o) :
 Inv X pins σ (upd H a o) {s with heap:=h',toks:=t'}:=I.un (Un.laid k hp (I.B.fresh hp)) (I.B.laid k hp new)
theorem Inv.write(I:Inv X pins σ H s)(mu:Mut (H x))(he:e=x\/H e=some (.d x))(k:∀b u,b≠e->s.heap.get? b=some u->h'.get? b=some u)(heo:∃u,h'.get? e=some u)
 (new:z6 X.f X.w (upd H x o) h' x o):Inv X pins σ (upd H x o) {s with heap:=h',toks:=t'}:=I.un (Un.write mu he k heo) (I.B.write mu he k heo new)
theorem Inv.nH{pins':List (Addr × Obj)}(I:Inv X pins σ H s)(h:∀p∈pins',s.heap.get? p.1=some p.2/\H p.1=none/\p.1≠X.a.locals/\p.1 ∉ X.fs/\∀v,p.2.data≠.cell v):Inv X pins' σ H s:=
 ⟨I.C,I.P,I.D,I.j,I.M,I.G,I.J,I.F,λp hp=>(A3.mp hp).elim (λz=>I.O p (Bp _ z)) (h p),I.B,I.R⟩
theorem mR{N:List Str}(hN:N.Nodup){i j:Nat}(a:N[i]?=some x)(b:N[j]?=some x):i=j:=by obtain⟨h1,e1⟩:=Aw.mp a;obtain⟨h2,e2⟩:=Aw.mp b;exact(List.getElem_inj hN).mp (e1.trans e2.symm)
theorem pj{Q:Unit->Shared->Prop}(I:Inv X pins σ H s)(hN:X.N.Nodup)(hi:X.N[i]?=some x)(hx:Loc X.a.scope x)(r:RelV v u)
 (h:∀s',Inv X pins (σ.set i (some v)) H s'->(∃a,Heap.SameBut a s.heap s'.heap/\(a=X.a.locals\/X.a.cells.lookup x=some a))->Q () s') (hf:X.q x=true\/X.a.scope.names.lookup x=some .local:=by first|exact .inl rfl|exact .inr rfl|assumption):wpAny M A (storeName X.a x u) Q E s:=by
 obtain⟨m,hn,hl⟩:=id I.M;have hcls:(X.a.scope.kind == .class||(X.a.scope.kind == .module&&X.a.locals != X.a.globals))=false:=by rw[I.C.a];rfl
 have hiσ:i<σ.length:=by rw[I.R];exact(Aw.mp hi).1
 have cne:=I.cne;have tracked:∀{a:Addr} {h':Heap},(∃o,s.heap.get? a=some o/\H a=none)->Heap.SameBut a s.heap h'->HOk X.f X.w H h':=λ{a h'} ha hs b ob e=>by
  obtain⟨_,_,hfree⟩:=ha;refine(I.B b ob e).qy (λc w' hc q=>(hs.2 c ?_).trans q) (λ_ q=>q) λ_ _ q=>q;rintro rfl;rcases hc with rfl|hc
  . rw[hfree]at e;cases e
  . rw[hfree]at hc;cases hc
 rcases hx with hk|hk
 . refine wpAny_storeName_local hk hn (λh' hn' hs=>?_) hcls
   obtain⟨oL,_,_,hoL,_⟩:=id hn;refine h _ ⟨I.C,I.P,I.D,⟨λb o e n hb hx=>?_,λb o e n hb hx=>?_,I.j.d,λb o e hx=>?_,I.j.l,I.j.g,I.j.j⟩,⟨_,hn',λj y v' e1 e2 e3=>?_⟩,λy c e=>?_,I.J,I.F,λp hp=>?_,tracked ⟨oL,hoL,I.J⟩ hs,by simpa using I.R⟩ ⟨_,hs,.inl rfl⟩
   . exact(hs.2 b (AG (Ar (Aj e) I.C.d))).trans (I.j.f b o e n hb hx)
   . obtain⟨sl,e1⟩:=I.j.i b o e n hb hx
     exact⟨sl,(hs.2 b (AG (Ar (Aj e) I.C.d))).trans e1⟩
   . obtain⟨o',e1⟩:=I.j.c b o e hx
     exact⟨o',(hs.2 b (AG (Ar (Aj e) I.C.d))).trans e1⟩
   . by_cases hj:j=i
     . subst hj
       rw[hi]at e1;cases e1;rw[AI hiσ]at e2;cases e2;exact⟨u,r,.inl ⟨hk,by simp⟩⟩
     . rw[Bq (A5 hj)]at e2
       obtain⟨u',r',q⟩:=hl j y v' e1 e2 e3;refine⟨u',r',?_⟩;rcases q with⟨k,e⟩|⟨k,c,e,z⟩
       . refine .inl ⟨k,?_⟩
         have:y≠x:=λe=>hj (mR hN e1 (e▸hi));simp[this,e]
       . exact .inr ⟨k,c,e,z.sameBut hs (cne y c e)⟩
   . obtain⟨w',z⟩:=I.G y c e
     exact⟨w',z.sameBut hs (cne y c e)⟩
   . obtain⟨e,n,ne,nf,d⟩:=I.O p hp
     exact⟨(hs.2 p.1 ne).trans e,n,ne,nf,d⟩
 . have hfn:X.q x=true:=by
    rcases hf with z|z
    . exact z
    . rw[z]at hk;cases hk
   obtain⟨c,hc⟩:=I.C.q x (.inl hk);obtain⟨w',z⟩:=I.G x c hc;refine wpAny_storeName_cell I.C.a hk hc z (λh' hc' hs=>?_);obtain⟨oc,hoc,hocd⟩:=id z;refine h {s with heap:=h'} ⟨I.C,I.P,I.D,⟨λb o e n hb hx=>?_,λb o e n hb hx=>?_,I.j.d,λb o e hx=>?_,I.j.l,I.j.g,I.j.j⟩,⟨m,hn.sameBut hs (A5 (cne x c hc)),λj y v' e1 e2 e3=>?_⟩,λy c' e=>?_,I.J,I.F,λp hp=>?_,tracked ⟨oc,hoc,I.F x c hc⟩ hs,by simpa using I.R⟩ ⟨c,hs,.inr hc⟩
   . exact(hs.2 b (AG (Ar (Aj e) (I.C.s x c hfn hc)))).trans (I.j.f b o e n hb hx)
   . obtain⟨sl,e1⟩:=I.j.i b o e n hb hx
     exact⟨sl,(hs.2 b (AG (Ar (Aj e) (I.C.s x c hfn hc)))).trans e1⟩
   . obtain⟨o',e1⟩:=I.j.c b o e hx
     exact⟨o',(hs.2 b (AG (Ar (Aj e) (I.C.s x c hfn hc)))).trans e1⟩
   . by_cases hj:j=i
     . subst hj
       rw[hi]at e1;cases e1;rw[AI hiσ]at e2;cases e2;exact⟨u,r,.inr ⟨.inl hk,c,hc,hc'⟩⟩
     . rw[Bq (A5 hj)]at e2
       obtain⟨u',r',q⟩:=hl j y v' e1 e2 e3;refine⟨u',r',?_⟩;rcases q with q|⟨k,c',e,z'⟩
       . exact .inl q
       . refine .inr ⟨k,c',e,z'.sameBut hs ?_⟩
         rintro rfl;exact hj (mR hN e1 (I.C.r _ _ _ e hc▸hi))
   . by_cases hcc:c'=c
     . subst hcc;exact⟨_,hc'⟩
     . obtain⟨w2,z2⟩:=I.G y c' e
       exact⟨w2,z2.sameBut hs hcc⟩
   . obtain⟨e,n,ne,nf,d⟩:=I.O p hp
     refine⟨(hs.2 p.1 ?_).trans e,n,ne,nf,d⟩;intro q;rw[q,hoc]at e;have q':oc=p.2:=AR e;exact d w' (by rw[<-q'];exact hocd)
theorem xl{Q:Unit->Shared->Prop}(I:Inv X pins σ H s)(hN:X.N.Nodup)(hi:X.N[i]?=some x)(hx:Loc X.a.scope x)(r:RelV v u)
 (h:∀s',Inv X pins (σ.set i (some v)) H s'->Q () s') (hf:X.q x=true\/X.a.scope.names.lookup x=some .local:=by first|exact .inl rfl|exact .inr rfl|assumption):wpAny M A (storeName X.a x u) Q E s:=
 pj I hN hi hx r (λs' I' _=>h s' I') hf
theorem Inv.UU(I:Inv X pins σ H s)(ho:s'.os=s.os)(u:Un (frs X.h) ch H H' s.heap s'.heap)(hok:HOk X.f X.w H' s'.heap)(hg:AllBare s'.gens)
 (hch:∀b∈ch,(b∈X.m\/X.l.heap.objs.size<=b)/\b≠X.a.locals/\(∀x c,X.a.cells.lookup x=some c->c≠b)/\∀p∈X.n++pins,p.1≠b):Inv X pins σ H' s':=by
 obtain⟨h',g',d',t',o'⟩:=s';have e:o'=s.os:=ho;subst e;exact I.call (g':=g') (t':=t') (d':=d') u hok hg hch
end
abbrev XK:=Value->Option Addr->Hp->Prop
abbrev St:=List (Option V)
abbrev VK:=V->Hp->Prop
abbrev TE:=St->Hp->VK->Prop
abbrev TT:=St->Hp->(Bool->Hp->Prop)->Prop
abbrev TA:=St->Hp->(List V->Hp->Prop)->Prop
structure Ends where
 a:St->Hp->Prop
 b:VK
 c:St->Hp->Prop:=λ_ _=>False
 d:St->Hp->Prop:=λ_ _=>False
abbrev TS:=Ends->St->Hp->Prop
def EP(X:Cx)(pins:List (Addr × Obj))(σ:St)(Q:VK)(u:Value)(s':Shared):Prop:=∃v H',Inv X pins σ H' s'/\RelV v u/\Q v H'
def TP(X:Cx)(pins:List (Addr × Obj))(σ:St)(Q:Bool->Hp->Prop)(b:Bool)(s':Shared):Prop:=∃H',Inv X pins σ H' s'/\Q b H'
def AP(X:Cx)(pins:List (Addr × Obj))(σ:St)(Q:List V->Hp->Prop)(us:List Value)(s':Shared):Prop:=∃vs H',Inv X pins σ H' s'/\Vals vs us/\Q vs H'
def SP(X:Cx)(pins:List (Addr × Obj))(D:Ends)(f:Flow)(s':Shared):Prop:=
 match f with
 |.next=>∃σ' H',Inv X pins σ' H' s'/\D.a σ' H'
 |.brk=>∃σ' H',Inv X pins σ' H' s'/\D.c σ' H'
 |.cont=>∃σ' H',Inv X pins σ' H' s'/\D.d σ' H'
 |.ret u=>∃v σ' H',Inv X pins σ' H' s'/\RelV v u/\D.b v H'
def PE(X:Cx)(e:Expr)(t:TE):Prop:=
 ∀(pins:List (Addr × Obj)) (s:Shared) (σ:St) (H:Hp) (Q:VK),Inv X pins σ H s->t σ H Q->wpAny (model X.f X.w) X.A (eval e X.a) (EP X pins σ Q) X.i s
def PT(X:Cx)(e:Expr)(t:TT):Prop:=
 ∀(pins:List (Addr × Obj)) (s:Shared) (σ:St) (H:Hp) (Q:Bool->Hp->Prop),Inv X pins σ H s->t σ H Q->wpAny (model X.f X.w) X.A (isTrue e X.a (eval e X.a)) (TP X pins σ Q) X.i s
def PW(X:Cx)(e:Expr)(t:TT):Prop:=
 ∀(whole:Sem Value) (pins:List (Addr × Obj)) (s:Shared) (σ:St) (H:Hp) (Q:Bool->Hp->Prop),Inv X pins σ H s->t σ H Q->wpAny (model X.f X.w) X.A (isTrue e X.a whole) (TP X pins σ Q) X.i s
theorem PW.pt(h:PW X e t):PT X e t:=h _
def PA(X:Cx)(es:List Expr)(t:TA):Prop:=
 ∀(pos:Pos) (pins:List (Addr × Obj)) (s:Shared) (σ:St) (H:Hp) (Q:List V->Hp->Prop),Inv X pins σ H s->t σ H Q->wpAny (model X.f X.w) X.A (spliced (backTo pos (Av es X.a))) (AP X pins σ Q) X.i s
def PS(X:Cx)(st:Stmt)(t:TS):Prop:=
 ∀(pins:List (Addr × Obj)) (s:Shared) (σ:St) (H:Hp) (D:Ends),Inv X pins σ H s->t D σ H->wpAny (model X.f X.w) X.A (exec st X.a) (SP X pins D) X.i s
def PSs(X:Cx)(st:List Stmt)(t:TS):Prop:=
 ∀(pins:List (Addr × Obj)) (s:Shared) (σ:St) (H:Hp) (D:Ends),Inv X pins σ H s->t D σ H->wpAny (model X.f X.w) X.A (execs st X.a) (SP X pins D) X.i s
theorem thn(h:wpAny M A t Q E s)(hQ:∀a s,Q a s->Q' a s):wpAny M A t Q' E s:=AD h hQ λ_ _ x=>x
section
variable {X:Cx}
theorem bin(ha:PE X a ta)(hb:PE X b tb){R:V->V->Hp->Prop}(I:Inv X pins σ H s)(h:ta σ H λx H1=>tb σ H1 λy H2=>R x y H2)
  {Q} {f:Value->Value->Sem α}
 (hf:∀v u s2 x y H2,Inv X pins σ H2 s2->RelV x v->RelV y u->R x y H2->wpAny (model X.f X.w) X.A (f v u) Q X.i s2) :
 wpAny (model X.f X.w) X.A (eval a X.a) (λv s₁=>wpAny (model X.f X.w) X.A (eval b X.a) (λu s₂=>wpAny (model X.f X.w) X.A (f v u) Q X.i s₂) X.i s₁) X.i s:=by
 refine thn (ha pins s σ H _ I h) λv s1 ⟨x,H1,I1,r1,q1⟩=>?_;refine thn (hb pins s1 σ H1 _ I1 q1) λu s2 ⟨y,H2,I2,r2,q2⟩=>?_;exact hf v u s2 x y H2 I2 r1 r2 q2
def xm(i:Nat):TE:=λσ H Q=>∃v,σ[i]?=some (some v)/\Q v H
def tC(v:V):TE:=λ_ H Q=>Q v H
theorem xt(hN:X.N[i]?=some x)(hv:Vis X.a.scope x)(hd:(x == ("__debug__":Str))=false:=by decide)(hcd:(x == ("__classdict__":Str))=false:=by decide):PE X (.Name x pos) (xm i):=by
 intro pins s σ H Q I h;obtain⟨v,e,h⟩:=h;obtain⟨m,hn,hl⟩:=I.M;obtain⟨u,r,l⟩:=hl i x v hN e hv;have fin:EP X pins σ Q u s:=⟨v,H,I,r,h⟩;rcases l with⟨hk,hm⟩|⟨hk,c,hc,hcell⟩
 . exact wpAny_Name (wpAny_loadName_local I.C.a hk hn hm fin) hd
 . rcases hk with hk|hk
   . exact wpAny_Name (wpAny_loadName_cell I.C.a hk hc hcell fin) hd
   . exact wpAny_Name (wpAny_loadName_free I.C.a hk hc hcell fin hcd) hd
theorem bC{i j pos}:PE X (.Constant (.int i) j pos) (tC (.d i)):=λ_ _ _ H _ I h=>wpAny_Constant_int ⟨.d i,H,I.tok _,⟨_,rfl⟩,h⟩
theorem cw{b j pos}:PE X (.Constant (.bool b) j pos) (tC (.f b)):=λ_ _ _ H _ I h=>Constant_bool ⟨.f b,H,I,rfl,h⟩
theorem bD{j pos}:PE X (.Constant .none j pos) (tC .g):=λ_ _ _ H _ I h=>Constant_none ⟨.g,H,I,rfl,h⟩
theorem sN{x j pos}:PE X (.Constant (.str x) j pos) (tC (.e x)):=λ_ _ _ H _ I h=>C6 ⟨.e x,H,I.tok _,⟨_,rfl⟩,h⟩
def Gl(X:Cx)(x:Str):Prop:=X.a.kindOf x=some .globalImplicit
theorem xG(I:Inv X pins σ H s)(hg:Gl X x)(hm:X.d x=some u)(h:Q u s)
 (hd:(x == ("__debug__":Str))=false:=by decide):wpAny (model X.f X.w) X.A (eval (.Name x pos) X.a) Q E s:=
 E4 I.C.a hg (Calls.loadGlobal_global (by rw[I.C.j];exact I.mod.c.keeps I.bk) hm h) hd
theorem sJ(I:Inv X pins σ H s)(hg:Gl X x)(hm:X.d x=none)(hv:Ca x=some u)(h:Q u s)
 (hn:x≠"__name__":=by decide) (hd:(x == ("__debug__":Str))=false:=by decide):wpAny (model X.f X.w) X.A (eval (.Name x pos) X.a) Q E s:=by
 obtain⟨mb,h1,h2⟩:=I.mod.d;exact E4 I.C.a hg (Calls.loadGlobal_builtin (by rw[I.C.j];exact I.mod.c.keeps I.bk) hm (by rw[I.C.t];exact h1.keeps I.bk) ((h2 x hn).trans hv) h) hd
theorem YJ(hg:Gl X x)(hm:X.d x=some u)(r:RelV v u)(hd:(x == ("__debug__":Str))=false:=by decide):PE X (.Name x pos) (tC v):=
 λ_ _ _ H _ I h=>xG I hg hm ⟨v,H,I,r,h⟩ hd
theorem YH(hg:Gl X x)(hm:X.d x=none)(hv:Ca x=some u)(r:RelV v u)(hn:x≠"__name__":=by decide)(hd:(x == ("__debug__":Str))=false:=by decide):PE X (.Name x pos) (tC v):=
 λ_ _ _ H _ I h=>sJ I hg hm hv ⟨v,H,I,r,h⟩ hn hd
variable {a b:Expr}{ta tb:TE}{pos:Pos}
def PC(X:Cx)(op:CmpOp)(a b:Expr)(t:TE):Prop:=
 ∀(pins:List (Addr × Obj)) (s:Shared) (σ:St) (H:Hp) (Q:VK),Inv X pins σ H s->t σ H Q ->
  wpAny (model X.f X.w) X.A (eval a X.a) (λv s₁=>wpAny (model X.f X.w) X.A (eval b X.a) (λu s₂=>wpAny (model X.f X.w) X.A (Br op v u) (EP X pins σ Q) X.i s₂) X.i s₁) X.i s
theorem qR b(h:op≠.In)(h2:op≠.NotIn):Du op b=false:=by
 have e1:(op == CmpOp.In)=false:=by cases op<;>first|rfl|exact absurd rfl h
 have e2:(op == CmpOp.NotIn)=false:=by cases op<;>first|rfl|exact absurd rfl h2
 cases b<;>simp[Du,e1,e2]
def tB(t:TE):TT:=λσ H Q=>t σ H λx H1=>∃c,x=.f c/\Q c H1
theorem RR(h:PC X op a b t)(h1:Du op b=false:=by first|exact qR _ (by decide) (by decide)|rfl):PT X (.Compare a [op] [b] pos) (tB t):=by intro pins s σ H Q I hw;refine wpAny_isTrue_Compare1 (thn (h pins s σ H _ I hw) λv s1 h1=>thn h1 λu s2 h2=>thn h2 λc s3 ⟨x,H1,I1,r1,q1⟩=>?_) h1;obtain⟨d,rfl,q⟩:=q1;cases r1;exact Bw ⟨H1,I1,q⟩
theorem Vm(h:PE X e t)(he:∀whole,isTrue e X.a whole=(do let v <-whole;standAt e.pos;holding [v] (truthy v)):=by intro _;rfl):PT X e (tB t):=by intro pins s σ H Q I hw;refine isTrue_plain (thn (h pins s σ H _ I hw) λv s1 ⟨x,H1,I1,r1,q1⟩=>?_) (he _);obtain⟨d,rfl,q⟩:=q1;cases r1;exact Bw ⟨H1,I1,q⟩
variable {tA tB':TT}{rest:List Expr}
def tOr(t u:TT):TT:=λσ H Q=>t σ H λc H1=>if c=true then Q true H1 else u σ H1 Q
def Sh(t:TT):TT:=λσ H Q=>t σ H λc H1=>Q (!c) H1
theorem Vn(ha:PT X a tA):PW X (.BoolOp .Or [a] pos) tA:=by
 intro wh pins s σ H Q I h;refine isTrue_or (thn (ha pins s σ H Q I h) λc s1 e=>?_);cases c with
 |false=>exact isTrue_or_nil e
 |true=>exact e
theorem T4(ha:PT X a tA)(hb:PW X (.BoolOp .Or (b::rest) pos) tB'):PW X (.BoolOp .Or (a::b::rest) pos) (tOr tA tB'):=by
 intro wh pins s σ H Q I h;refine isTrue_or (thn (ha pins s σ H _ I h) λc s1 ⟨H1,I1,q1⟩=>?_);cases c with
 |true=>exact⟨H1,I1,q1⟩
 |false=>exact hb wh pins s1 σ H1 Q I1 q1
theorem ki(ha:PT X a tA):PT X (.UnaryOp .Not a pos) (Sh tA):=by intro pins s σ H Q I h;exact isTrue_not (ha pins s σ H (λc H1=>Q (!c) H1) I h)
def Sf(ta tb:TE):TE:=λσ H Q=>ta σ H λx H1=>∃c,x=.f c/\if c=true then tb σ H1 Q else Q (.f false) H1
def Si(ta:TE):TE:=λσ H Q=>ta σ H λx H1=>∃c,x=.f c/\Q (.f (!c)) H1
theorem ka{op}(h:PE X a t):PE X (.BoolOp op [a] pos) t:=λpins s σ H Q I hw=>BoolOp_one (h pins s σ H Q I hw)
theorem VX(ha:PE X a ta)(hb:PE X (.BoolOp .And (b::rest) pos) tb):PE X (.BoolOp .And (a::b::rest) pos) (Sf ta tb):=by
 intro pins s σ H Q I h;refine BoolOp_and (thn (ha pins s σ H _ I h) λv s1 ⟨x,H1,I1,r1,q1⟩=>?_);obtain⟨c,rfl,q1⟩:=q1;cases r1;refine Bw ?_;cases c with
 |true=>exact hb pins s1 σ H1 Q I1 q1
 |false=>exact⟨.f false,H1,I1,rfl,q1⟩
theorem Vc(ha:PE X a ta):PE X (.UnaryOp .Not a pos) (Si ta):=by intro pins s σ H Q I h;refine UnaryOp_ (thn (ha pins s σ H _ I h) λv s1 ⟨x,H1,I1,r1,q1⟩=>?_);obtain⟨c,rfl,q1⟩:=q1;cases r1;exact not_of (Bw ⟨.f (!c),H1,I1,rfl,q1⟩)
def tIf(t:TT)(ta tb:TE):TE:=λσ H Q=>t σ H λc H1=>if c=true then ta σ H1 Q else tb σ H1 Q
theorem bA(hc:PT X c tA)(ha:PE X a ta)(hb:PE X b tb):PE X (.IfExp c a b pos) (tIf tA ta tb):=by
 intro pins s σ H Q I h;refine wpAny_IfExp (thn (hc pins s σ H _ I h) λd s1 ⟨H1,I1,q1⟩=>?_);cases d with
 |true=>exact ha pins s1 σ H1 Q I1 q1
 |false=>exact hb pins s1 σ H1 Q I1 q1
end
def SqL(K:Ac)(H:Hp)(a:Addr)(xs:List V):Prop:=
 Rd H a (.b xs) \/
  ∃(o:Obj) (its:Array Value) (n:Nat),K.lookup a=some o/\o.cls=.type "list"/\o.dict=none/\o.data=.seq its n/\its.size<=Am/\Vals xs its.toList
def SqT(K:Ac)(H:Hp)(a:Addr)(xs:List V):Prop:=
 Rd H a (.c xs) \/
  ∃(o:Obj) (its:Array Value) (n:Nat),K.lookup a=some o/\o.cls=.type "tuple"/\o.data=.seq its n/\its.size<=Am/\Vals xs its.toList
noncomputable def S8:Value->Option V
 |.none=>some .g
 |.bool b=>some (.f b)
 |.int i _=>some (.d i)
 |.str x _=>some (.e x)
 |.bytes b _=>some (.h b)
 |.float b _=>some (.j b)
 |.ref a=>some (.c a)
 |.type n=>some (.k n)
 |_=>none
theorem RelV.abs(r:RelV x u):S8 u=some x:=by
 cases x with
 |g=>cases r;rfl
 |f _=>cases r;rfl
 |d _=>obtain⟨t,rfl⟩:=r;rfl
 |e _=>obtain⟨t,rfl⟩:=r;rfl
 |h _=>obtain⟨t,rfl⟩:=r;rfl
 |j _=>obtain⟨t,rfl⟩:=r;rfl
 |c _=>cases r;rfl
 |k _=>cases r;rfl
theorem RelV.inj(r:RelV x u)(q:RelV y u):x=y:=AR (r.abs.symm.trans q.abs)
theorem Vals.inj:∀{xs ys} {us},Vals xs us->Vals ys us->xs=ys
 |_,_,_,.nil,.nil=>rfl
 |_,_,_,.cons r t,.cons r' t'=>by rw[r.inj r',Vals.inj t t']
section
variable {X:Cx}{pins:List (Addr × Obj)}{σ:St}{H:Hp}{s:Shared}{a:Addr}{xs ys:List V}
theorem SqL.of{K}(h:H a=some (.b xs)):SqL K H a xs:=.inl (.inl h)
theorem SqT.of{K}(h:H a=some (.c xs)):SqT K H a xs:=.inl (.inl h)
theorem Inv.list(I:Inv X pins σ H s)(h:SqL X.K H a xs):∃its:List Value,Vals xs its/\PlainL s.heap a its.toArray/\xs.length<=Am:=by
 rcases h with h|⟨o,its,n,hk,hc,hd,hs,hz,r⟩
 . obtain⟨z,its,n,r,e⟩:=h.ok I.B
   exact⟨its,r,⟨_,n,e,rfl,rfl,rfl⟩,z⟩
 . refine⟨its.toList,r,⟨o,n,I.kIn a o hk,hc,hd,by simpa using hs⟩,?_⟩
   have e:=r.length;simp only[C1]at e;omega
theorem Inv.tuple(I:Inv X pins σ H s)(h:SqT X.K H a xs):∃its:List Value,Vals xs its/\IsTup s.heap a its.toArray/\xs.length<=Am:=by
 rcases h with h|⟨o,its,n,hk,hc,hs,hz,r⟩
 . obtain⟨z,its,r,p⟩:=h.ok I.B
   exact⟨its,r,p.tup,z⟩
 . refine⟨its.toList,r,⟨o,I.kIn a o hk,hc,n,by simpa using hs⟩,?_⟩
   have e:=r.length;simp only[C1]at e;omega
theorem Inv.cH(I:Inv X pins σ H s)(h:SqL X.K H a xs)(h':SqL X.K H a ys):xs=ys:=by
 obtain⟨its,r,⟨o,n,e,_,_,d⟩,_⟩:=I.list h;obtain⟨its',r',⟨o',n',e',_,_,d'⟩,_⟩:=I.list h';rw[e]at e';cases e';rw[d]at d';injection d' with d1 _
 have:its=its':=by simpa using congrArg Array.toList d1
 subst this;exact r.inj r'
theorem Inv.fF(I:Inv X pins σ H s)(h:SqT X.K H a xs)(h':SqT X.K H a ys):xs=ys:=by
 obtain⟨its,r,⟨o,e,_,n,d⟩,_⟩:=I.tuple h;obtain⟨its',r',⟨o',e',_,n',d'⟩,_⟩:=I.tuple h';rw[e]at e';cases e';rw[d]at d';injection d' with d1 _
 have:its=its':=by simpa using congrArg Array.toList d1
 subst this;exact r.inj r'
end
noncomputable abbrev Cx.wM(X:Cx)(E:Value->Shared->Prop):Cx:={X with i:=E}
abbrev Cx.nox(X:Cx):Cx:=X.wM λ_ _=>False
theorem Cx.Ok.wM{X:Cx}(ok:X.Ok)E:(X.wM E).Ok:=
 ⟨ok.i,ok.a,ok.j,ok.t,ok.d,ok.r,ok.q,ok.s,ok.k,ok.g,ok.w,ok.G,ok.B,ok.p,ok.m,ok.l,ok.D,ok.u⟩
theorem Cx.Ok.yv{X:Cx}(ok:(X.wM E).Ok):X.Ok:=
 ⟨ok.i,ok.a,ok.j,ok.t,ok.d,ok.r,ok.q,ok.s,ok.k,ok.g,ok.w,ok.G,ok.B,ok.p,ok.m,ok.l,ok.D,ok.u⟩
section
variable {X:Cx}{pins:List (Addr × Obj)}{σ:St}{H:Hp}{s:Shared}{E:Value->Shared->Prop}
theorem Inv.wM(I:Inv X pins σ H s)E:Inv (X.wM E) pins σ H s:=⟨I.C.wM E,I.P,I.D,I.j,I.M,I.G,I.J,I.F,I.O,I.B,I.R⟩
theorem Inv.yv(I:Inv (X.wM E) pins σ H s):Inv X pins σ H s:=⟨I.C.yv,I.P,I.D,I.j,I.M,I.G,I.J,I.F,I.O,I.B,I.R⟩
theorem SP.yv(h:SP (X.wM E) pins D f s'):SP X pins D f s':=by
 cases f with
 |next=>obtain⟨σ',H',I,q⟩:=h;exact⟨σ',H',I.yv,q⟩
 |brk=>obtain⟨σ',H',I,q⟩:=h;exact⟨σ',H',I.yv,q⟩
 |cont=>obtain⟨σ',H',I,q⟩:=h;exact⟨σ',H',I.yv,q⟩
 |ret u=>obtain⟨v,σ',H',I,r,q⟩:=h;exact⟨v,σ',H',I.yv,r,q⟩
theorem PE.nox(h:PE X.nox e t):PE X e t:=λpins s σ H Q I hw=>
 AD (h pins s σ H Q (I.wM _) hw) (λ_ _ ⟨v,H',I',r,q⟩=>⟨v,H',I'.yv,r,q⟩) λ_ _ z=>Al z
theorem PT.nox(h:PT X.nox e t):PT X e t:=λpins s σ H Q I hw=>
 AD (h pins s σ H Q (I.wM _) hw) (λ_ _ ⟨H',I',q⟩=>⟨H',I'.yv,q⟩) λ_ _ z=>Al z
theorem PSs.nox{st}(h:PSs X.nox st t):PSs X st t:=λpins s σ H D I hw=>
 AD (h pins s σ H D (I.wM _) hw) (λ_ _ q=>q.yv) λ_ _ z=>Al z
end
section
variable {X:Cx}{st:Stmt}{rest:List Stmt}{t u:TS}{e:Expr}{te:TE}{pos:Pos}
def Xh:TS:=λD σ H=>D.a σ H
def q0(t u:TS):TS:=λD σ H=>t {D with a:=u D} σ H
theorem nI:PSs X [] Xh:=λ_ _ σ H _ I h=>DC ⟨σ,H,I,h⟩
theorem yJ(h1:PS X st t)(h2:PSs X rest u):PSs X (st::rest) (q0 t u):=by
 intro pins s σ H D I h;refine Ea (thn (h1 pins s σ H {D with a:=u D} I h) λf s1 q=>?_)
 cases f with
 |next=>
  obtain⟨σ',H',I',q⟩:=q;exact h2 pins s1 σ' H' D I' q
 |ret v=>exact q
 |brk=>exact q
 |cont=>exact q
theorem xf(h1:PS X st t):PSs X [st] t:=by
 intro pins s σ H D I h;refine Ea (thn (h1 pins s σ H D I h) λf s1 q=>?_);cases f with
 |next=>exact DC q
 |ret v=>exact q
 |brk=>exact q
 |cont=>exact q
theorem Inv.quiet(I:Inv X pins σ H s):interactive X.a=false:=by simp[interactive,I.C.a]
def Xf(te:TE):TS:=λD σ H=>te σ H λ_ H1=>D.a σ H1
theorem uw(he:PE X e te)(hs:Ei e none pos.line X.a=pure false:=by rfl):PS X (.Expr e pos) (Xf te):=by intro pins s σ H D I h;exact wpAny_Expr_any (thn (he pins s σ H _ I h) λv s1 ⟨x,H1,I1,r1,q1⟩=>⟨σ,H1,I1,q1⟩) I.quiet hs
def lD(te:TE):TS:=λD σ H=>te σ H D.b
theorem wV(he:PE X e te):PS X (.Return (some e) pos) (lD te):=by intro pins s σ H D I h;exact wpAny_Return_some (thn (he pins s σ H _ I h) λv s1 ⟨x,H1,I1,r1,q1⟩=>⟨x,σ,H1,I1,r1,q1⟩)
def Sg(c:TT)(t u:TS):TS:=λD σ H=>c σ H λb H1=>if b=true then t D σ H1 else u D σ H1
theorem mh(hc:PT X c tc)(ha:PSs X a t)(hb:PSs X b u):PS X (.If c a b pos) (Sg tc t u):=by
 intro pins s σ H D I h;refine wpAny_If (thn (hc pins s σ H _ I h) λd s1 ⟨H1,I1,q1⟩=>?_);cases d with
 |true=>exact ha pins s1 σ H1 D I1 q1
 |false=>exact hb pins s1 σ H1 D I1 q1
end
abbrev TG:=V->St->Hp->(St->Hp->Prop)->Prop
abbrev TGs:=List V->St->Hp->(St->Hp->Prop)->Prop
def PG(X:Cx)(target:Expr)(t:TG):Prop:=
 ∀(pins:List (Addr × Obj)) (s:Shared) (σ:St) (H:Hp) (v:V) (u:Value) (Q:St->Hp->Prop),Inv X pins σ H s->RelV v u->t v σ H Q ->
  wpAny (model X.f X.w) X.A (assign target X.a u) (λ_ s'=>∃σ' H',Inv X pins σ' H' s'/\Q σ' H') X.i s
def PGs(X:Cx)(ts:List Expr)(t:TGs):Prop:=
 ∀(pins:List (Addr × Obj)) (s:Shared) (σ:St) (H:Hp) (vs:List V) (us:List Value) (Q:St->Hp->Prop),Inv X pins σ H s->Vals vs us->t vs σ H Q ->
  wpAny (model X.f X.w) X.A (D6 ((CJ ts X.a).map (·.2)) us) (λ_ s'=>∃σ' H',Inv X pins σ' H' s'/\Q σ' H') X.i s
abbrev Xs:=V->V->V->Hp->(Hp->Prop)->Prop
def UM(X:Cx)(t:Xs):Prop:=
 ∀(pins:List (Addr × Obj)) (s:Shared) (σ:St) (H:Hp) (o i v:V) (ov iv u:Value) (Q:Hp->Prop),Inv X pins σ H s->RelV o ov->RelV i iv->RelV v u->t o i v H Q ->
  wpAny (model X.f X.w) X.A (setItem ov iv u) (λ_ s'=>∃H',Inv X pins σ H' s'/\Q H') X.i s
section
variable {X:Cx}{pos:Pos}
def wG(i:Nat):TG:=λv σ H Q=>Q (σ.set i (some v)) H
theorem YL(hN:X.N.Nodup)(hi:X.N[i]?=some x)(hx:Loc X.a.scope x)(hf:X.q x=true\/X.a.scope.names.lookup x=some .local:=by first|exact .inl rfl|exact .inr rfl|assumption):PG X (.Name x pos) (wG i):=by intro pins s σ H v u Q I r h;exact wpAny_assign_Name (xl I hN hi hx r (λs' I'=>⟨_,H,I',h⟩) hf)
def Uh:TGs:=λvs σ H Q=>vs=[]/\Q σ H
def XA(t:TG)(u:TGs):TGs:=λvs σ H Q=>∃v r,vs=v::r/\t v σ H λσ' H'=>u r σ' H' Q
theorem YM:PGs X [] Uh:=by intro pins s σ H vs us Q I r h;obtain⟨e,h⟩:=h;subst e;cases r;exact Fe ⟨σ,H,I,h⟩
theorem bG{e:Expr}{es:List Expr}{t:TG}{u:TGs}(h1:PG X e t)(h2:PGs X es u)
 (hs:(CJ (e::es) X.a).map (·.2)=assign e X.a::(CJ es X.a).map (·.2):=by rfl):PGs X (e::es) (XA t u):=by
 intro pins s σ H vs us Q I r h;obtain⟨v,vr,e1,h⟩:=h;subst e1;cases r with
 |cons r rr=>
  rw[hs];refine Cq (thn (h1 pins s σ H _ _ _ I r h) λ_ s1 ⟨σ1,H1,I1,q1⟩=>?_);exact h2 pins s1 σ1 H1 _ _ Q I1 rr q1
def WJ(K:Ac)(n:Nat)(t:TGs):TG:=λv σ H Q=>∃a xs,v=.c a/\SqT K H a xs/\xs.length=n/\t xs σ H Q
theorem qZ(hc:X.j=true)(h:PGs X es t)
 (hn:(CJ es X.a).length=n:=by rfl) (hst:(CJ es X.a).findIdx? (·.1)=none:=by rfl):PG X (.Tuple es k pos) (WJ X.K n t):=by
 intro pins s σ H v u Q I r hw;obtain⟨a,xs,e1,hq,hl,hw⟩:=hw;subst e1;cases r;obtain⟨its,rv,ht,hz⟩:=I.tuple hq;refine assign_Tuple_tuple (I.C.k hc) ht (by simp[hn,<-hl,rv.length]) hst λh' hx=>?_
 have I1:Inv X pins σ H {s with heap:=h'}:=I.kept (t':=s.toks) λb o e=>hx b o (AG (Aj e)) e
 exact h pins _ σ H xs _ Q I1 (by simpa using rv) hw
def Ui(to ti:TE)(t:Xs):TG:=λv σ H Q=>to σ H λo H1=>ti σ H1 λi H2=>t o i v H2 λH3=>Q σ H3
theorem Vf(ho:PE X o to)(hi:PE X i ti)(hs:UM X t)
 (ha:∀v,assign (.Subscript o i pos) X.a v=(do
  let ov <-holding [v] (eval o X.a);let iv <-holding [v,ov] (eval i X.a)
  standAt pos
  holding [v,ov,iv] (setItem ov iv v)
  release [v,ov,iv] []):=by intro _;rfl):PG X (.Subscript o i pos) (Ui to ti t):=by
 intro pins s σ H v u Q I r h;rw[ha];refine xd (Bx (thn (ho pins s σ H _ I h) λov s1 ⟨x,H1,I1,r1,q1⟩=>?_));refine xd (Bx (thn (hi pins s1 σ H1 _ I1 q1) λiv s2 ⟨y,H2,I2,r2,q2⟩=>?_));refine xd (A4 (xd (Bx (thn (hs pins s2 σ H2 x y v ov iv u _ I2 r1 r2 r q2) λ_ s3 ⟨H3,I3,q3⟩=>?_))));exact wpAny_release ⟨σ,H3,I3,q3⟩
def tJ(te:TE)(g:TG):TS:=λD σ H=>te σ H λx H1=>g x σ H1 D.a
theorem bL(he:PE X e te)(hg:PG X tg g)(hs:D7 [tg] e pos.line X.a=pure false:=by rfl)(hw:BX [tg] e X.a=pure none:=by rfl)
 (h1:(CJ [tg] X.a).map (·.2)=[assign tg X.a]:=by rfl):PS X (.Assign [tg] e pos) (tJ te g):=by
 intro pins s σ H D I h;refine wpAny_Assign_stores (thn (he pins s σ H _ I h) λv s1 ⟨x,H1,I1,r1,q1⟩=>?_) hs hw;rw[h1];exact thn (hg pins s1 σ H1 x v _ I1 r1 q1) λ_ s2 q=>q
theorem vh(hN:X.N.Nodup)(hi:X.N[i]?=some x)(hx:Loc X.a.scope x)(he:PE X e te)(hs:Ei e (some (.Name x pos')) pos.line X.a=pure false:=by rfl)(hf:X.q x=true\/X.a.scope.names.lookup x=some .local:=by first|exact .inl rfl|exact .inr rfl|assumption) :
 PS X (.Assign [.Name x pos'] e pos) (tJ te (wG i)):=by
 intro pins s σ H D I h;refine wpAny_Assign_Name (thn (he pins s σ H _ I h) λv s1 ⟨y,H1,I1,r1,q1⟩=>?_) hs;exact xl I1 hN hi hx r1 (λs2 I2=>⟨_,H1,I2,q1⟩) hf
def Sk(i j:Nat)(ta:TA):TS:=λD σ H=>ta σ H λvs H1=>∃v w,vs=[v,w]/\D.a ((σ.set i (some v)).set j (some w)) H1
theorem Vl{kt k2 pt2}(hc:X.j=true)(hN:X.N.Nodup)(hi:X.N[i]?=some x)(hj:X.N[j]?=some y)(hij:i≠j)
 (hx:X.a.scope.names.lookup x=some .local) (hy:X.a.scope.names.lookup y=some .local) (ha:PA X [a,b] ta)
 (hw:BX [.Tuple [.Name x px,.Name y py] kt pt] (.Tuple [a,b] k2 pt2) X.a=pure (some [x,y]))
 (hs:D7 [.Tuple [.Name x px,.Name y py] kt pt] (.Tuple [a,b] k2 pt2) pos.line X.a=pure false:=by rfl) :
 PS X (.Assign [.Tuple [.Name x px,.Name y py] kt pt] (.Tuple [a,b] k2 pt2) pos) (Sk i j ta):=by
 intro pins s σ H D I h;rw[exec_Assign_arm];refine xd (A4 ?_);rw[hs];refine xd (Ag ?_);rw[if_neg (by decide)]
 refine xd (Tuple_ (thn (ha _ pins s σ H _ I h) λus s1 ⟨vs,H1,I1,r1,q1⟩=>?_));obtain⟨v,w,e1,q1⟩:=q1;subst e1;obtain⟨u1,u2,rfl,rv,rw'⟩:∃u1 u2,us=[u1,u2]/\RelV v u1/\RelV w u2:=by
  cases r1 with
  |cons p q=>
   cases q with
   |cons p' q'=>
    cases q';exact⟨_,_,rfl,p,p'⟩
 refine Ba ?_ (by show 2<=Am;decide)
 have I2:Inv X pins σ H1 {s1 with heap:=s1.heap.push {cls:=.type "tuple",data:=.seq [u1,u2].toArray}}:=I1.kept (t':=s1.toks) λb o e=>lp _ e
 rw[hw];refine xd (Ag ?_);show wpAny (model X.f X.w) X.A (do rule "assign.swapped-stores";let items <-unpackItems (.ref s1.heap.objs.size) 2 none;D6 [λv=>Df X.a y v,λv=>Df X.a x v] items.reverse;pure GJ) _ _ _
 refine xd (Gr (xd (unpackItems_tuple (items:=#[u1,u2]) (I.C.k hc) (IsTup.new s1.heap _) λh' hx'=>?_)));have I3:=I2.kept (h':=h') (t':=s1.toks) λb o e=>hx' b o (AG (Aj e)) e;show wpAny _ _ (D6 [λv=>Df X.a y v,λv=>Df X.a x v] [u2,u1] >>= λ_=>pure GJ) _ _ _;refine xd (Cq (DQ (xl I3 hN hj (.inl hy) rw' (λs2 I4=>?_) (.inr hy))));refine Cq (DQ (xl I4 hN hi (.inl hx) rv (λs3 I5=>Fe (Ag ?_)) (.inr hx)));rw[E5 _ _ (A5 hij)]at I5;exact⟨_,H1,I5,q1⟩
end
section
variable {X:Cx}{pos:Pos}
def aH(c:TT)(tb:TS):TS:=λD σ H=>∃W:Nat->St->Hp->Prop,(∃m,W m σ H)/\∀m σ H,W m σ H ->
 c σ H λb H1=>if b=true then ∃N:St->Hp->Prop,(∀σ' H',N σ' H'->∃m',m'<m/\W m' σ' H')/\tb {D with a:=N,d:=N,c:=D.a} σ H1 else D.a σ H1
theorem bO(hp:ES (model X.f X.w) X.A X.a X.i)(hc:PT X c tc)(hb:PSs X body tb):PS X (.While c body [] pos) (aH tc tb):=by
 intro pins s σ H D I h;obtain⟨W,⟨m0,w0⟩,turn⟩:=h;refine wpAny_While (codeAny_whileLoop (λn s'=>∃σ' H',Inv X pins σ' H' s'/\W n σ' H') ?_ m0 ⟨σ,H,I,w0⟩);rintro n s1 ⟨σ1,H1,I1,w1⟩;refine Cy hp (thn (hc pins s1 σ1 H1 _ I1 (turn n σ1 H1 w1)) λb s2 ⟨H2,I2,q2⟩=>?_);cases b with
 |true=>
  obtain⟨N,hN,q2⟩:=q2;rw[if_pos rfl];refine Cy hp (thn (hb pins s2 σ1 H2 _ I2 q2) λf s3 q3=>?_);cases f with
  |next=>
   obtain⟨σ3,H3,I3,n3⟩:=q3;obtain⟨m',hm,w3⟩:=hN σ3 H3 n3;exact⟨m',hm,σ3,H3,I3,w3⟩
  |cont=>
   obtain⟨σ3,H3,I3,n3⟩:=q3;obtain⟨m',hm,w3⟩:=hN σ3 H3 n3;exact⟨m',hm,σ3,H3,I3,w3⟩
  |brk=>exact q3
  |ret v=>exact q3
 |false=>
  rw[if_neg Ad];exact DC ⟨σ1,H2,I2,q2⟩
end
structure It where
 c:Nat->Hp->Prop
 b:Nat->Hp->V->Hp->Prop
 a:Nat->Hp->Prop
def tW(X:Cx)(pins:List (Addr × Obj))(H:Hp)(b:Addr):Prop:=
 H b=none/\b≠X.a.locals/\b ∉ X.fs/\(b∈X.m\/X.l.heap.objs.size<=b)/\(∀x c,X.a.cells.lookup x=some c->c≠b)/\∀p∈X.n++pins,p.1≠b
theorem Inv.WH(I:Inv X pins σ H s)(hb:s.heap.objs.size<=b)(hn:H' b=none):tW X pins H' b:=by
 refine⟨hn,Dh (Ar I.lt hb),I.RK hb,.inr (Ay I.sz hb),λx c e z=>?_,λp hp z=>?_⟩
 . obtain⟨v,q⟩:=I.G x c e
   exact absurd (Ar q.lt (by rw[z];exact hb)) (Bc _)
 . exact absurd (Ar (Aj (I.O p hp).1) (by rw[z];exact hb)) (Bc _)
structure Turn(P:Program)(w:World)(K:Ac)(tg:Expr)(J:It)(fp:List Addr)(it:Addr)(tn:Nat->Heap->Prop):Prop where
 g:it∈fp
 c:∀i h,tn i h->∀b∈fp,∃o,h.get? b=some o/\∀v,o.data≠.cell v
 a:∀i h h',tn i h->(∀b∈fp,∀o,h.get? b=some o->h'.get? b=some o)->tn i h'
 e:∀(X:Cx),X.f=P->X.w=w->X.K=K->X.j=true->∀(i:Nat) (pins:List (Addr × Obj)) (s:Shared) (σ:St) (H:Hp) (E:Value->Shared->Prop),Inv X pins σ H s->(∀b∈fp,tW X pins H b)->tn i s.heap->J.c i H ->
  wpAny (model P w) X.A (pyNext (.ref it)) (λr s1=>∃u,r=some u /\
   wpAny (model P w) X.A (Cb tg (.ref it) u) (λ_ s2=>∃x H',Inv X pins σ H' s2/\RelV x u/\J.b i H x H'/\tn (i+1) s2.heap/\∀b∈fp,H' b=none) E s1) E s
 d:∀(X:Cx),X.f=P->X.w=w->X.K=K->X.j=true->∀(i:Nat) (pins:List (Addr × Obj)) (s:Shared) (σ:St) (H:Hp) (E:Value->Shared->Prop),Inv X pins σ H s->(∀b∈fp,tW X pins H b)->tn i s.heap->J.a i H ->
  wpAny (model P w) X.A (pyNext (.ref it)) (λr s1=>r=none/\Inv X pins σ H s1) E s
 f:∀(A:Around) (i:Nat) (s:Shared) (Q:Value->Shared->Prop) (E:Value->Shared->Prop),tn i s.heap->Q (.ref it) s->wpAny (model P w) A (pyIter (.ref it)) Q E s
abbrev TI:=St->Hp->(It->Hp->Prop)->Prop
def PIE(X:Cx)(pins:List (Addr × Obj))(σ:St)(tg:Expr)(R:It->Hp->Prop)(itv:Value)(s2:Shared):Prop:=
 ∃(it:Addr) (fp:List Addr) (tn:Nat->Heap->Prop) (J:It) (H':Hp),itv=.ref it/\Inv X pins σ H' s2/\Turn X.f X.w X.K tg J fp it tn/\tn 0 s2.heap/\(∀b∈fp,tW X pins H' b)/\R J H'
def PI(X:Cx)(tg iter:Expr)(wi:TI):Prop:=
 ∀(pins:List (Addr × Obj)) (s:Shared) (σ:St) (H:Hp) (R:It->Hp->Prop),Inv X pins σ H s->wi σ H R ->
  wpAny (model X.f X.w) X.A (eval iter X.a) (λv s1=>wpAny (model X.f X.w) X.A (pyIter v) (PIE X pins σ tg R) X.i s1) X.i s
theorem dA(ho:s.heap.get? it=some o)(hc:o.cls=.type n)(hd:o.data=.fields vs)
 (hn:["enumerate","zip","dict_itemiterator","dict_reverseitemiterator","odict_iterator","itertools.zip_longest","itertools.pairwise"].contains n=false) (hQ:Q () s):wpAny M A (Cb tg (.ref it) u) Q E s:=by
 unfold Cb;cases tg<;>first
  |exact Ag hQ
  |(cases u<;>first
   |exact Ag hQ
   |(refine xd (wpAny_load ho ?_)
     rw[hc,hd];show wpAny M A (if (["enumerate","zip","dict_itemiterator","dict_reverseitemiterator","odict_iterator","itertools.zip_longest","itertools.pairwise"].contains n&&vs[0]? == some (rawInt _))=true then _ else _) Q E s
     rw[if_neg (by intro h;rw[hn,CP]at h;cases h)]
     exact Ag hQ))
noncomputable def Itl(K:Ac)(a:Addr):It:=
 ⟨λi H=>∃xs x,SqL K H a xs/\xs[i]?=some x,λi H x H'=>H'=H/\∀xs,SqL K H a xs->xs[i]?=some x,λi H=>∃xs,SqL K H a xs/\xs.length<=i⟩
noncomputable def Itt(K:Ac)(a:Addr):It:=
 ⟨λi H=>∃xs x,SqT K H a xs/\xs[i]?=some x,λi H x H'=>H'=H/\∀xs,SqT K H a xs->xs[i]?=some x,λi H=>∃xs,SqT K H a xs/\xs.length<=i⟩
noncomputable def Itr(lo:Int)(n:Nat):It:=⟨λi _=>i<n,λi H x H'=>H'=H/\x=.d (lo+i),λi _=>n<=i⟩
theorem sW{K}a it:Turn P w K tg (Itl K a) [it] it (λi h=>h.IsListIter it a i) where
 g:=by simp
 c:=λi h st b hb=>by
  have e:b=it:=by simpa using hb
  subst e;obtain⟨o,e,c,d⟩:=st;exact⟨o,e,λv z=>by rw[d]at z;cases z⟩
 a:=λi h h' st k=>st.at λo e=>k it (by simp) o e
 e:=by
  intro X hP hw hK hc i pins s σ H E I hf st hg;subst hP hw hK;obtain⟨xs,x,hq,hx⟩:=hg;obtain⟨its,rv,p,hz⟩:=I.list hq;obtain⟨u,hu,ru⟩:=rv.get hx;obtain⟨f0,f1,f2,f3,f4,f5⟩:=hf it (by simp)
  refine wpAny_pyNext_list_item st p.isList (x:=u) (by simpa using hu) λh' st' sb=>?_
  have I1:Inv X pins σ H {s with heap:=h'}:=I.turned (t':=s.toks) (λb o hb e=>(sb.2 b hb).trans e) f0 f1 f3 f4 f5
  obtain⟨o,e,c,d⟩:=id st';exact⟨u,rfl,dA (s:={s with heap:=h'}) e c d (by decide) ⟨x,H,I1,ru,⟨rfl,λys hy=>by rw[I.cH hy hq];exact hx⟩,st',λb hb=>(hf b hb).1⟩⟩
 d:=by
  intro X hP hw hK hc i pins s σ H E I hf st hg;subst hP hw hK;obtain⟨xs,hq,hx⟩:=hg;obtain⟨its,rv,p,hz⟩:=I.list hq;obtain⟨f0,f1,f2,f3,f4,f5⟩:=hf it (by simp)
  have hl:=rv.length;exact wpAny_pyNext_list_end (I.C.k hc) st p.isList (by simp;omega) λh' eb=>⟨rfl,I.turned (t':=s.toks) (λb o hb e=>eb b o hb e) f0 f1 f3 f4 f5⟩
 f:=λ_ _ _ _ _ st h=>wpAny_pyIter_listiter st h
theorem jN{K}a it:Turn P w K tg (Itt K a) [it] it (λi h=>h.IsTupleIter it a i) where
 g:=by simp
 c:=λi h st b hb=>by
  have e:b=it:=by simpa using hb
  subst e;obtain⟨o,e,c,d⟩:=st;exact⟨o,e,λv z=>by rw[d]at z;cases z⟩
 a:=λi h h' st k=>st.at λo e=>k it (by simp) o e
 e:=by
  intro X hP hw hK hc i pins s σ H E I hf st hg;subst hP hw hK;obtain⟨xs,x,hq,hx⟩:=hg;obtain⟨its,rv,p,hz⟩:=I.tuple hq;obtain⟨u,hu,ru⟩:=rv.get hx;obtain⟨f0,f1,f2,f3,f4,f5⟩:=hf it (by simp)
  refine wpAny_pyNext_tuple_item st (show s.heap.IsTuple a its.toArray from p) (x:=u) (by simpa using hu) λh' st' sb=>?_
  have I1:Inv X pins σ H {s with heap:=h'}:=I.turned (t':=s.toks) (λb o hb e=>(sb.2 b hb).trans e) f0 f1 f3 f4 f5
  obtain⟨o,e,c,d⟩:=id st';exact⟨u,rfl,dA (s:={s with heap:=h'}) e c d (by decide) ⟨x,H,I1,ru,⟨rfl,λys hy=>by rw[I.fF hy hq];exact hx⟩,st',λb hb=>(hf b hb).1⟩⟩
 d:=by
  intro X hP hw hK hc i pins s σ H E I hf st hg;subst hP hw hK;obtain⟨xs,hq,hx⟩:=hg;obtain⟨its,rv,p,hz⟩:=I.tuple hq;obtain⟨f0,f1,f2,f3,f4,f5⟩:=hf it (by simp)
  have hl:=rv.length;exact wpAny_pyNext_tuple_end (I.C.k hc) st (show s.heap.IsTuple a its.toArray from p) (by simp;omega) λh' eb=>⟨rfl,I.turned (t':=s.toks) (λb o hb e=>eb b o hb e) f0 f1 f3 f4 f5⟩
 f:=λ_ _ _ _ _ st h=>wpAny_pyIter_tupleiter st h
theorem jM{K}it lo n:Turn P w K tg (Itr lo n) [it] it (λi h=>IsRangeIter h it (lo+(i:Nat)*1) ((n:Int)-(i:Nat)) 1) where
 g:=by simp
 c:=λi h st b hb=>by
  have e:b=it:=by simpa using hb
  subst e;exact⟨_,st,λv z=>by have z':Data.fields _=Data.cell v:=z;cases z'⟩
 a:=λi h h' st k=>k it (by simp) _ st
 e:=by
  intro X hP hw hK hc i pins s σ H E I hf st hg;subst hP hw hK;obtain⟨f0,f1,f2,f3,f4,f5⟩:=hf it (by simp)
  have W:=Walks.range (prog:=X.f) (w:=X.w) (I.C.k hc) it lo 1 n;refine W.item i s _ _ hg st λv h' tk hv st' kk=>?_;obtain⟨t,rfl⟩:=hv;have I1:Inv X pins σ H {s with heap:=h',toks:=tk}:=I.turned (λb o hb e=>kk b o (by simpa using hb) e) f0 f1 f3 f4 f5
  refine⟨_,rfl,dA (s:={s with heap:=h',toks:=tk}) (n:="range_iterator") st' rfl rfl (by decide) ⟨.d (lo+i),H,I1,⟨t,?_⟩,⟨rfl,rfl⟩,st',λb hb=>(hf b hb).1⟩⟩
  rw[Int.mul_one]
 d:=by
  intro X hP hw hK hc i pins s σ H E I hf st hg;subst hP hw hK;obtain⟨f0,f1,f2,f3,f4,f5⟩:=hf it (by simp)
  exact wpAny_pyNext_range_end (I.C.k hc) st (by have:n<=i:=hg;omega) λh' eb=>⟨rfl,I.turned (t':=s.toks) (λb o hb e=>eb b o hb e) f0 f1 f3 f4 f5⟩
 f:=λ_ _ _ _ _ st h=>wpAny_pyIter_rangeiter st h
section
variable {X:Cx}{tg:Expr}
def Uo(K:Ac)(tl:TE):TI:=λσ H R=>tl σ H λx H1=>∃a,x=.c a/\(∃xs,SqL K H1 a xs)/\R (Itl K a) H1
def RG(K:Ac)(tl:TE):TI:=λσ H R=>tl σ H λx H1=>∃a,x=.c a/\(∃xs,SqT K H1 a xs)/\R (Itt K a) H1
theorem iH(hl:PE X l tl):PI X tg l (Uo X.K tl):=by
 intro pins s σ H R I h;refine thn (hl pins s σ H _ I h) λv s1 ⟨x,H1,I1,r1,q1⟩=>?_;obtain⟨a,e,⟨xs,hq⟩,q⟩:=q1;subst e;cases r1;obtain⟨its,rv,p,hz⟩:=I1.list hq;refine D1 p.isList ?_;refine⟨s1.heap.objs.size,[s1.heap.objs.size],_,_,H1,rfl,I1.kept (t':=s1.toks) λb o e=>lp _ e,sW a _,⟨_,Az _ rfl,rfl,rfl⟩,λb hb=>?_,q⟩;have e:b=s1.heap.objs.size:=by simpa using hb
 subst e;exact I1.WH (Ah _) (I1.B.fresh (Ah _))
theorem bH(hl:PE X l tl):PI X tg l (RG X.K tl):=by
 intro pins s σ H R I h;refine thn (hl pins s σ H _ I h) λv s1 ⟨x,H1,I1,r1,q1⟩=>?_;obtain⟨a,e,⟨xs,hq⟩,q⟩:=q1;subst e;cases r1;obtain⟨its,rv,p,hz⟩:=I1.tuple hq;refine ET (show s1.heap.IsTuple a its.toArray from p) ?_;refine⟨s1.heap.objs.size,[s1.heap.objs.size],_,_,H1,rfl,I1.kept (t':=s1.toks) λb o e=>lp _ e,jN a _,⟨_,Az _ rfl,rfl,rfl⟩,λb hb=>?_,q⟩;have e:b=s1.heap.objs.size:=by simpa using hb
 subst e;exact I1.WH (Ah _) (I1.B.fresh (Ah _))
theorem mw{lo hi}(I:Inv X pins σ H s)(h1:-(2 ^ 62)<=lo)(h2:lo<2 ^ 62)(h3:-(2 ^ 62)<=hi)(h4:hi<2 ^ 62)
 (q:R (Itr lo (hi-lo).toNat) H):wpAny (model X.f X.w) X.A (pyIter (.ref s.heap.objs.size)) (PIE X pins σ tg R) E {s with heap:=s.heap.push {cls:=.type "range",data:=.fields #[.int lo t,.int hi u,.int 1 v]},toks:=tk}:=by
 refine wpAny_pyIter_range (IsRange.new ..) (small_one h1 h2 h3 h4) ?_;have I1:Inv X pins σ H {s with heap:=s.heap.push {cls:=.type "range",data:=.fields #[.int lo t,.int hi u,.int 1 v]},toks:=tk}:=I.kept λb o e=>lp _ e
 refine⟨(s.heap.push {cls:=.type "range",data:=.fields #[.int lo t,.int hi u,.int 1 v]}).objs.size,[(s.heap.push {cls:=.type "range",data:=.fields #[.int lo t,.int hi u,.int 1 v]}).objs.size],_,_,H,rfl,
  I1.kept (t':=tk) λb o e=>lp _ e,jM _ lo (hi-lo).toNat,?_,λb hb=>?_,q⟩
 . have e1:lo+((0:Nat):Int)*1=lo:=by simp
   have e2:(((hi-lo).toNat:Nat):Int)-((0:Nat):Int)=BU lo hi 1:=by rw[rangeSize_one];split<;>omega
   show IsRangeIter _ _ (lo+((0:Nat):Int)*1) ((((hi-lo).toNat:Nat):Int)-((0:Nat):Int)) 1;rw[e1,e2];exact Az _ rfl
 . have e:b=(s.heap.push {cls:=.type "range",data:=.fields #[.int lo t,.int hi u,.int 1 v]}).objs.size:=by simpa using hb
   subst e;exact I1.WH (Ah _) (I1.B.fresh (Ah _))
def Up(ta:TA):TI:=λσ H R=>ta σ H λvs H1=>∃j:Int,vs=[.d j]∧-(2 ^ 62)<=j/\j<2 ^ 62/\R (Itr 0 j.toNat) H1
def Uq(ta:TA):TI:=λσ H R=>ta σ H λvs H1=>∃i j:Int,vs=[.d i,.d j]/\(-(2 ^ 62)<=i/\i<2 ^ 62∧-(2 ^ 62)<=j/\j<2 ^ 62)/\R (Itr i (j-i).toNat) H1
theorem gj(hg:Gl X "range")(hm:X.d "range"=none)(ha:PA X [a] ta)(hs:Av [a] X.a=[(false,eval a X.a)]:=by rfl):PI X tg (.Call (.Name "range" p) [a] [] pos) (Up ta):=by
 intro pins s σ H R I h;refine Call_ (sJ I hg hm boot_range (Dm (thn (ha pos pins s σ H _ I h) λus s1 ⟨vs,H1,I1,r1,q1⟩=>?_) hs rfl));obtain⟨j,e,q1,q2,q⟩:=q1;subst e;cases r1 with
 |cons r rr=>
  cases rr;obtain⟨t,rfl⟩:=r;exact call_range_1 (mw I1 (by omega) (by omega) q1 q2 (by simpa using q))
theorem gk(hg:Gl X "range")(hm:X.d "range"=none)(ha:PA X [a,b] ta)(hs:Av [a,b] X.a=[(false,eval a X.a),(false,eval b X.a)]:=by rfl)(hs2:Av [b] X.a=[(false,eval b X.a)]:=by rfl) :
 PI X tg (.Call (.Name "range" p) [a,b] [] pos) (Uq ta):=by
 intro pins s σ H R I h;refine Call_ (sJ I hg hm boot_range (Dm (thn (ha pos pins s σ H _ I h) λus s1 ⟨vs,H1,I1,r1,q1⟩=>?_) (by rw[hs,hs2]) (by rw[hs2];rfl)))
 obtain⟨i,j,e,⟨q1,q2,q3,q4⟩,q⟩:=q1;subst e;cases r1 with
 |cons r rr=>
  cases rr with
  |cons r' rr=>
   cases rr;obtain⟨t,rfl⟩:=r;obtain⟨t',rfl⟩:=r';exact call_range_2 (mw I1 q1 q2 q3 q4 q)
def Rb(wi:TI)(g:TG)(tb:TS):TS:=λD σ H=>wi σ H λJ H1=>∃W:Nat->Nat->St->Hp->Prop,(∃m,W 0 m σ H1)/\∀i m σ H,W i m σ H ->
 (J.a i H/\D.a σ H)\/(J.c i H/\∃N:St->Hp->Prop,(∀σ' H',N σ' H'->∃m',m'<m/\W (i+1) m' σ' H')/\∀x H',J.b i H x H'->g x σ H' λσ2 H2=>tb {D with a:=N,d:=N,c:=D.a} σ2 H2)
noncomputable def qb(fp:List Addr)(h:Heap):List (Addr × Obj):=fp.filterMap λb=>(h.get? b).map λo=>(b,o)
theorem vB(hb:b∈fp)(e:h.get? b=some o):(b,o)∈qb fp h:=Cr.mpr ⟨b,hb,by rw[e];rfl⟩
theorem gP(hp:p∈qb fp h):p.1∈fp/\h.get? p.1=some p.2:=by
 obtain⟨b,hb,e⟩:=Cr.mp hp;cases q:h.get? b with
 |none=>rw[q]at e;cases e
 |some o=>
  rw[q]at e;have e':(b,o)=p:=AR e;subst e';exact⟨hb,q⟩
theorem Inv.pinned(I:Inv X pins σ H s)(hf:∀b∈fp,tW X pins H b)(ho:∀b∈fp,∃o,s.heap.get? b=some o/\∀v,o.data≠.cell v):Inv X (pins++qb fp s.heap) σ H s:=
 I.nH λp hp=>(A3.mp hp).elim (λz=>I.O p (A7 _ z)) λz=>by obtain⟨hb,e⟩:=gP z;obtain⟨f0,f1,f2,_⟩:=hf p.1 hb;obtain⟨o,e',d⟩:=ho p.1 hb;rw[e]at e';cases e';exact⟨e,f0,f1,f2,d⟩
theorem Inv.tN(I:Inv X (pins++pl) σ H s):Inv X pins σ H s:=I.nH λp hp=>I.O p (A7 _ (Bp _ hp))
theorem Vk(hp:ES (model X.f X.w) X.A X.a X.i)(hc:X.j=true)(hi:PI X tg iter wi)(hg:PG X tg g)(hb:PSs X body tb)
 (hs:∀x,CC iter X.a x=pure x:=by intro _;rfl):PS X (.For tg iter body [] pos) (Rb wi g tb):=by
 intro pins s σ H D I h;refine wpAny_For (thn (hi pins s σ H _ I h) λv s1 h1=>thn h1 λitv s2 h2=>?_) hs;obtain⟨it,fp,tn,J,H2,e,I2,T,st2,f2,W,⟨m0,w0⟩,turn⟩:=h2;subst e
 -- what stays true of the iterator's objects through the loop
 have stat:∀{H':Hp},(∀b∈fp,H' b=none)->∀b∈fp,tW X pins H' b:=λhn b hb=>⟨hn b hb,(f2 b hb).2⟩;refine codeAny_forLoop_any (λn s'=>∃i σ' H',Inv X pins σ' H' s'/\tn i s'.heap/\(∀b∈fp,H' b=none)/\W i n σ' H') ?_ m0 ⟨0,σ,H2,I2,st2,λb hb=>(f2 b hb).1,w0⟩;rintro n s3 ⟨i,σ3,H3,I3,st3,fr3,w3⟩;rcases turn i n σ3 H3 w3 with⟨stop,qn⟩|⟨go,N,hN,step⟩
 . refine Cy hp (thn (T.d X rfl rfl rfl hc i pins s3 σ3 H3 X.i I3 (stat fr3) st3 stop) λr s4 ⟨hr,I4⟩=>?_)
   subst hr;exact DC ⟨σ3,H3,I4,qn⟩
 . refine Cy hp (thn (T.e X rfl rfl rfl hc i pins s3 σ3 H3 X.i I3 (stat fr3) st3 go) λr s4 ⟨u,hr,h4⟩=>?_)
   subst hr;refine Cy hp (thn h4 λ_ s5 ⟨x,H5,I5,r5,y5,st5,fr5⟩=>?_);have I5':=I5.pinned (stat fr5) (T.c _ _ st5);refine Cy hp (thn (hg _ s5 σ3 H5 x u _ I5' r5 (step x H5 y5)) λ_ s6 ⟨σ6,H6,I6,q6⟩=>?_);refine Cy hp (thn (hb _ s6 σ6 H6 _ I6 q6) λf s7 q7=>?_);have again:∀{σ7:St} {H7:Hp},Inv X (pins++qb fp s5.heap) σ7 H7 s7->N σ7 H7->∃m,m<n/\∃i σ' H',Inv X pins σ' H' s7/\tn i s7.heap/\(∀b∈fp,H' b=none)/\W i m σ' H':=λ{σ7 H7} I7 n7=>by obtain⟨m',hm,w7⟩:=hN σ7 H7 n7;refine⟨m',hm,i+1,σ7,H7,I7.tN,T.a _ _ _ st5 λb hb o e=>(I7.O (b,o) (A7 _ (A7 _ (vB hb e)))).1,λb hb=>?_,w7⟩;obtain⟨o,e,d⟩:=T.c _ _ st5 b hb;exact(I7.O (b,o) (A7 _ (A7 _ (vB hb e)))).2.1
   cases f with
   |next=>obtain⟨σ7,H7,I7,n7⟩:=q7;exact again I7 n7
   |cont=>obtain⟨σ7,H7,I7,n7⟩:=q7;exact again I7 n7
   |brk=>obtain⟨σ7,H7,I7,q7⟩:=q7;exact⟨σ7,H7,I7.tN,q7⟩
   |ret v=>obtain⟨x7,σ7,H7,I7,r7,q7⟩:=q7;exact⟨x7,σ7,H7,I7.tN,r7,q7⟩
end
abbrev R2:=V->V->Hp->VK->Prop
def OpR(X:Cx)(f:Value->Value->Sem Value)(r:R2):Prop:=
 ∀(pins:List (Addr × Obj)) (s:Shared) (σ:St) (H:Hp) (x y:V) (v u:Value) (Q:VK),Inv X pins σ H s->RelV x v->RelV y u->r x y H Q ->
  wpAny (model X.f X.w) X.A (f v u) (EP X pins σ Q) X.i s
def UnR(X:Cx)(f:Value->Sem Value)(r:V->Hp->VK->Prop):Prop:=
 ∀(pins:List (Addr × Obj)) (s:Shared) (σ:St) (H:Hp) (x:V) (v:Value) (Q:VK),Inv X pins σ H s->RelV x v->r x H Q ->
  wpAny (model X.f X.w) X.A (f v) (EP X pins σ Q) X.i s
def yX(X:Cx)(f:Value)(r:List V->Hp->VK->Prop):Prop:=
 ∀(pins:List (Addr × Obj)) (s:Shared) (σ:St) (H:Hp) (xs:List V) (us:List Value) (Q:VK),Inv X pins σ H s->Vals xs us->r xs H Q ->
  wpAny (model X.f X.w) X.A (call f us) (EP X pins σ Q) X.i s
def S7(X:Cx)(r:V->Hp->(Bool->Hp->Prop)->Prop):Prop:=
 ∀(pins:List (Addr × Obj)) (s:Shared) (σ:St) (H:Hp) (x:V) (v:Value) (Q:Bool->Hp->Prop),Inv X pins σ H s->RelV x v->r x H Q ->
  wpAny (model X.f X.w) X.A (truthy v) (TP X pins σ Q) X.i s
def tOp(r:R2)(ta tb:TE):TE:=λσ H Q=>ta σ H λx H1=>tb σ H1 λy H2=>r x y H2 Q
def tUn(r:V->Hp->VK->Prop)(ta:TE):TE:=λσ H Q=>ta σ H λx H1=>r x H1 Q
def rI(C:Int->Int->Prop)(g:Int->Int->V):R2:=λx y H Q=>∃i j,x=.d i/\y=.d j/\C i j/\Q (g i j) H
def rI0(g:Int->Int->V):R2:=λx y H Q=>∃i j,x=.d i/\y=.d j/\Q (g i j) H
def rU(g:Int->V):V->Hp->VK->Prop:=λx H Q=>∃i,x=.d i/\Q (g i) H
section
variable {X:Cx}{a b c:Expr}{ta tb tc:TE}{pos:Pos}
theorem Xw(ha:PE X a ta)(hb:PE X b tb){R:V->V->Hp->Prop}(I:Inv X pins σ H s)
 (h:ta σ H λx H1=>tb σ H1 λy H2=>R x y H2)  {f:Value->Value->Sem Value}
 (hf:∀v u s2 x y H2,Inv X pins σ H2 s2->RelV x v->RelV y u->R x y H2->wpAny (model X.f X.w) X.A (f v u) Q X.i s2) :
 wpAny (model X.f X.w) X.A (eval a X.a) (λv s₁=>wpAny (model X.f X.w) X.A (eval b X.a) (λu s₂=>wpAny (model X.f X.w) X.A (f v u) Q X.i s₂) X.i s₁) X.i s:=by
 refine thn (ha pins s σ H _ I h) λv s1 ⟨x,H1,I1,r1,q1⟩=>?_;refine thn (hb pins s1 σ H1 _ I1 q1) λu s2 ⟨y,H2,I2,r2,q2⟩=>?_;exact hf v u s2 x y H2 I2 r1 r2 q2
theorem mY(ho:OpR X (Bu op) r)(ha:PE X a ta)(hb:PE X b tb):PE X (.BinOp a op b pos) (tOp r ta tb):=by intro pins s σ H Q I h;exact wpAny_BinOp (Xw ha hb I h λv u s2 x y H2 I2 rx ry q=>ho pins s2 σ H2 x y v u Q I2 rx ry q)
theorem Tu(ho:UnR X (unaryOp op) r)(ha:PE X a ta):PE X (.UnaryOp op a pos) (tUn r ta):=by intro pins s σ H Q I h;exact UnaryOp_ (thn (ha pins s σ H _ I h) λv s1 ⟨x,H1,I1,r1,q1⟩=>ho pins s1 σ H1 x v Q I1 r1 q1)
theorem opI{f:Value->Value->Sem Value}{C:Int->Int->Prop}{g:Int->Int->Int}
 (rule:∀i j t u (s:Shared) (Q:Value->Shared->Prop) E,C i j->Q (.int (g i j) s.toks) {s with toks:=s.toks+1}->wpAny (model X.f X.w) X.A (f (.int i t) (.int j u)) Q E s) :
 OpR X f (rI C λi j=>.d (g i j)):=by
 intro pins s σ H x y v u Q I rx ry h;obtain⟨i,j,rfl,rfl,hc,q⟩:=h;obtain⟨t,rfl⟩:=rx;obtain⟨t',rfl⟩:=ry;exact rule i j t t' s _ _ hc ⟨.d (g i j),H,I.tok _,⟨_,rfl⟩,q⟩
theorem TM{f:Value->Value->Sem Value}{g:Int->Int->Int}
 (rule:∀i j t u (s:Shared) (Q:Value->Shared->Prop) E,Q (.int (g i j) s.toks) {s with toks:=s.toks+1}->wpAny (model X.f X.w) X.A (f (.int i t) (.int j u)) Q E s) :
 OpR X f (rI0 λi j=>.d (g i j)):=by
 intro pins s σ H x y v u Q I rx ry h;obtain⟨i,j,rfl,rfl,q⟩:=h;obtain⟨t,rfl⟩:=rx;obtain⟨t',rfl⟩:=ry;exact rule i j t t' s _ _ ⟨.d (g i j),H,I.tok _,⟨_,rfl⟩,q⟩
theorem Z3{f:Value->Value->Sem Value}{g:Int->Int->Bool}
 (rule:∀i j t u s (Q:Value->Shared->Prop) E,Q (.bool (g i j)) s->wpAny (model X.f X.w) X.A (f (.int i t) (.int j u)) Q E s) :
 OpR X f (rI0 λi j=>.f (g i j)):=by
 intro pins s σ H x y v u Q I rx ry h;obtain⟨i,j,rfl,rfl,q⟩:=h;obtain⟨t,rfl⟩:=rx;obtain⟨t',rfl⟩:=ry;exact rule i j t t' s _ _ ⟨.f (g i j),H,I,rfl,q⟩
def Sy(i j:Int):Prop:=0<j/\j<1073741824
def S6(i j:Int):Prop:=0<=j/\j<=1000000/\i.natAbs<2 ^ 64
def Xp(i j:Int):Prop:=(-(2 ^ 64)<i/\i<2 ^ 64)\/(-(2 ^ 64)<j/\j<2 ^ 64)
theorem Xp.ok(h:Xp i j):IntMulOk i j:=by
 rcases h with⟨h1,h2⟩|⟨h1,h2⟩
 . exact .of_left (intBits_le_64 h1 h2)
 . exact .of_right (intBits_le_64 h1 h2)
theorem VC:OpR X (Bu .Add) (rI0 λi j=>.d (i+j)):=TM λ_ _ _ _ _ _ _ q=>add_int q
theorem VH:OpR X (Bu .Sub) (rI0 λi j=>.d (i-j)):=TM λ_ _ _ _ _ _ _ q=>sub_int q
theorem VE:OpR X (Bu .Mult) (rI Xp λi j=>.d (i*j)):=opI λ_ _ _ _ _ _ _ hc q=>mul_int q hc.ok
theorem Z5:OpR X (Bu .FloorDiv) (rI Sy λi j=>.d (i/j)):=opI λi j _ _ _ _ _ hc q=>by have h1:(0:Int)<j:=hc.1;have h2:j<1073741824:=hc.2;exact floordiv_int (by omega) (by rw[Int.fdiv_eq_ediv_of_nonneg i (by omega)];exact q) (.inl (PyProof.noPylong_small (by omega)))
theorem VD:OpR X (Bu .Mod) (rI (λ_ j=>0<j) λi j=>.d (i%j)):=opI λi j _ _ _ _ _ hc q=>by have h1:(0:Int)<j:=hc;exact mod_int' (by omega) (by rw[Int.fmod_eq_emod_of_nonneg i (by omega)];exact q)
theorem VF:OpR X (Bu .Pow) (rI S6 λi j=>.d (i ^ j.toNat)):=opI λ_ _ _ _ _ _ _ hc q=>pow_int_small hc.1 hc.2.1 hc.2.2 q
theorem unI{f:Value->Sem Value}{g:Int->Int}
 (rule:∀i t (s:Shared) (Q:Value->Shared->Prop) E,Q (.int (g i) s.toks) {s with toks:=s.toks+1}->wpAny (model X.f X.w) X.A (f (.int i t)) Q E s) :
 UnR X f (rU λi=>.d (g i)):=by
 intro pins s σ H x v Q I rx h;obtain⟨i,rfl,q⟩:=h;obtain⟨t,rfl⟩:=rx;exact rule i t s _ _ ⟨.d (g i),H,I.tok _,⟨_,rfl⟩,q⟩
theorem UE:UnR X (unaryOp .USub) (rU λi=>.d (-i)):=unI λ_ _ _ _ _ q=>neg_int q
end
noncomputable def SX:V->V->Bool
 |.g,.g=>true|.g,.d _=>true|.d _,.g=>true|.g,.f _=>true|.f _,.g=>true|.g,.e _=>true|.e _,.g=>true
 |.d _,.d _=>true|.f _,.f _=>true|.e _,.e _=>true|.h _,.h _=>true
 |.d _,.e _=>true|.e _,.d _=>true|.f _,.e _=>true|.e _,.f _=>true
 |_,_=>false
def rEq:R2:=λx y H Q=>SX x y=true/\Q (.f (decide (x=y))) H
def rNe:R2:=λx y H Q=>SX x y=true/\Q (.f (!decide (x=y))) H
theorem jm:decide (V.d i=V.d j)=(i == j):=by rw[C7];simp
theorem eL:decide (V.f i=V.f j)=(i == j):=by rw[C7];simp
theorem jn:decide (V.e i=V.e j)=(i == j):=by rw[C7];simp
theorem jk:decide (V.h i=V.h j)=(i.toList == j.toList):=by rw[C7];cases i;cases j;simp
section
variable {X:Cx}{a b c:Expr}{ta tb tc:TE}{pos:Pos}
theorem zk(I:Inv X pins σ H s)(q:Q (.f k) H)(e:k=k'):EP X pins σ Q (.bool k') s:=by subst e;exact⟨.f k,H,I,rfl,q⟩
theorem XJ:OpR X (Br .Eq) rEq:=by
 intro pins s σ H x y v u Q I rx ry h;obtain⟨hs,q⟩:=h;cases x with
 |g=>
  cases rx;cases y with
  |g=>cases ry;exact PySem.EqNone.eq_none_none (zk I q (by simp))
  |f j=>cases ry;exact PySem.EqNone.eq_none_bool (zk I q (by simp))
  |d j=>obtain⟨t',rfl⟩:=ry;exact PySem.EqNone.eq_none_int (zk I q (by simp))
  |e j=>obtain⟨t',rfl⟩:=ry;exact PySem.EqNone.eq_none_str (zk I q (by simp))
  |_=>exact absurd (show false=true from hs) Ad
 |f i=>
  cases rx;cases y with
  |g=>cases ry;exact PySem.EqNone.eq_bool_none (zk I q (by simp))
  |f j=>cases ry;exact eq_bool (zk I q eL)
  |e j=>obtain⟨t',rfl⟩:=ry;exact PySem.EqMixed.eq_bool_str (zk I q (by simp))
  |_=>exact absurd (show false=true from hs) Ad
 |d i=>
  obtain⟨t,rfl⟩:=rx;cases y with
  |g=>cases ry;exact PySem.EqNone.eq_int_none (zk I q (by simp))
  |d j=>obtain⟨t',rfl⟩:=ry;exact eq_int (zk I q jm)
  |e j=>obtain⟨t',rfl⟩:=ry;exact PySem.EqMixed.eq_int_str (zk I q (by simp))
  |_=>exact absurd (show false=true from hs) Ad
 |e i=>
  obtain⟨t,rfl⟩:=rx;cases y with
  |g=>cases ry;exact PySem.EqNone.eq_str_none (zk I q (by simp))
  |f j=>cases ry;exact PySem.EqMixed.eq_str_bool (zk I q (by simp))
  |d j=>obtain⟨t',rfl⟩:=ry;exact PySem.EqMixed.eq_str_int (zk I q (by simp))
  |e j=>obtain⟨t',rfl⟩:=ry;exact eq_str (zk I q jn)
  |_=>exact absurd (show false=true from hs) Ad
 |h i=>
  obtain⟨t,rfl⟩:=rx;cases y with
  |h j=>obtain⟨t',rfl⟩:=ry;exact PySem.W.eq_bytes (zk I q jk)
  |_=>exact absurd (show false=true from hs) Ad
 |_=>cases y<;>exact absurd (show false=true from hs) Ad
theorem XM:OpR X (Br .NotEq) rNe:=by
 intro pins s σ H x y v u Q I rx ry h;obtain⟨hs,q⟩:=h;cases x with
 |g=>
  cases rx;cases y with
  |g=>cases ry;exact PySem.EqNone.ne_none_none (zk I q (by simp))
  |f j=>cases ry;exact PySem.EqNone.ne_none_bool (zk I q (by simp))
  |d j=>obtain⟨t',rfl⟩:=ry;exact PySem.EqNone.ne_none_int (zk I q (by simp))
  |e j=>obtain⟨t',rfl⟩:=ry;exact PySem.EqNone.ne_none_str (zk I q (by simp))
  |_=>exact absurd (show false=true from hs) Ad
 |f i=>
  cases rx;cases y with
  |g=>cases ry;exact PySem.EqNone.ne_bool_none (zk I q (by simp))
  |f j=>cases ry;exact ne_bool (zk I q (congrArg not eL))
  |e j=>obtain⟨t',rfl⟩:=ry;exact PySem.EqMixed.ne_bool_str (zk I q (by simp))
  |_=>exact absurd (show false=true from hs) Ad
 |d i=>
  obtain⟨t,rfl⟩:=rx;cases y with
  |g=>cases ry;exact PySem.EqNone.ne_int_none (zk I q (by simp))
  |d j=>obtain⟨t',rfl⟩:=ry;exact ne_int (zk I q (congrArg not jm))
  |e j=>obtain⟨t',rfl⟩:=ry;exact PySem.EqMixed.ne_int_str (zk I q (by simp))
  |_=>exact absurd (show false=true from hs) Ad
 |e i=>
  obtain⟨t,rfl⟩:=rx;cases y with
  |g=>cases ry;exact PySem.EqNone.ne_str_none (zk I q (by simp))
  |f j=>cases ry;exact PySem.EqMixed.ne_str_bool (zk I q (by simp))
  |d j=>obtain⟨t',rfl⟩:=ry;exact PySem.EqMixed.ne_str_int (zk I q (by simp))
  |e j=>obtain⟨t',rfl⟩:=ry;exact ne_str (zk I q (congrArg not jn))
  |_=>exact absurd (show false=true from hs) Ad
 |h i=>
  obtain⟨t,rfl⟩:=rx;cases y with
  |h j=>obtain⟨t',rfl⟩:=ry;exact PySem.W.ne_bytes (zk I q (congrArg not jk))
  |_=>exact absurd (show false=true from hs) Ad
 |_=>cases y<;>exact absurd (show false=true from hs) Ad
theorem TU:OpR X (Br .Lt) (rI0 λi j=>.f (decide (i<j))):=Z3 λ_ _ _ _ _ _ _ q=>lt_int q
theorem TR:OpR X (Br .LtE) (rI0 λi j=>.f (decide (i<=j))):=Z3 λ_ _ _ _ _ _ _ q=>le_int q
theorem TQ:OpR X (Br .Gt) (rI0 λi j=>.f (decide (j<i))):=Z3 λ_ _ _ _ _ _ _ q=>gt_int q
theorem TN:OpR X (Br .GtE) (rI0 λi j=>.f (decide (j<=i))):=Z3 λ_ _ _ _ _ _ _ q=>ge_int q
theorem iG(ho:OpR X (Br op) r)(ha:PE X a ta)(hb:PE X b tb)(hm:Du op b=false):PE X (.Compare a [op] [b] pos) (tOp r ta tb):=by intro pins s σ H Q I h;exact wpAny_Compare1 (Xw ha hb I h λv u s2 x y H2 I2 rx ry q=>ho pins s2 σ H2 x y v u Q I2 rx ry q) hm
def iR(t:TE):TT:=λσ H Q=>t σ H λx H'=>∃k,x=.f k/\Q k H'
theorem nJ(ho:OpR X (Br op) r)(ha:PE X a ta)(hb:PE X b tb)(hm:Du op b=false):PT X (.Compare a [op] [b] pos) (iR (tOp r ta tb)):=by
 intro pins s σ H Q I h;refine wpAny_isTrue_Compare1 (thn (ha pins s σ H _ I h) λv s1 ⟨x,H1,I1,r1,q1⟩=>thn (hb pins s1 σ H1 _ I1 q1) λu s2 ⟨y,H2,I2,r2,q2⟩=>
  thn (ho pins s2 σ H2 x y v u _ I2 r1 r2 q2) λc s3 ⟨z,H3,I3,r3,k,e,q3⟩=>?_) hm
 subst e;cases r3;exact Bw ⟨H3,I3,q3⟩
def b8(r r':R2)(ta tb tc:TE):TE:=λσ H Q=>ta σ H λx H1=>tb σ H1 λy H2=>r x y H2 λz H3=>∃k,z=.f k /\
 (if k=true then tc σ H3 λw' H4=>r' y w' H4 Q else Q (.f false) H3)
theorem cy(ho:OpR X (Br op) r)(ho':OpR X (Br op') r')(ha:PE X a ta)(hb:PE X b tb)(hc:PE X c tc)
 (hm:GK [op,op'] [b,c]=false:=by with_unfolding_all rfl):PE X (.Compare a [op,op'] [b,c] pos) (b8 r r' ta tb tc):=by
 intro pins s σ H Q I h;refine Compare_chain (thn (ha pins s σ H _ I h) λv s1 ⟨x,H1,I1,r1,q1⟩=>chain_link (thn (hb pins s1 σ H1 _ I1 q1) λu s2 ⟨y,H2,I2,r2,q2⟩=>
  thn (ho pins s2 σ H2 x y v u _ I2 r1 r2 q2) λd s3 ⟨z,H3,I3,r3,k,e,q3⟩=>?_)) hm
 subst e;cases r3;refine Bw ?_;cases k with
 |false=>exact ite_ff ⟨.f false,H3,I3,rfl,q3⟩
 |true=>exact ite_tt (chain_last (thn (hc pins s3 σ H3 _ I3 q3) λw' s4 ⟨z',H4,I4,r4,q4⟩=>ho' pins s4 σ H4 y z' u w' Q I4 r2 r4 q4))
theorem bP(ho:OpR X (Br op) r)(ho':OpR X (Br op') r')(ha:PE X a ta)(hb:PE X b tb)(hc:PE X c tc)
 (hm:GK [op,op'] [b,c]=false:=by with_unfolding_all rfl):PT X (.Compare a [op,op'] [b,c] pos) (iR (b8 r r' ta tb tc)):=by
 intro pins s σ H Q I h;refine isTrue_chain (thn (ha pins s σ H _ I h) λv s1 ⟨x,H1,I1,r1,q1⟩=>test_link (thn (hb pins s1 σ H1 _ I1 q1) λu s2 ⟨y,H2,I2,r2,q2⟩=>
  thn (ho pins s2 σ H2 x y v u _ I2 r1 r2 q2) λd s3 ⟨z,H3,I3,r3,k,e,q3⟩=>?_)) hm
 subst e;cases r3;refine Bw ?_;cases k with
 |false=>
  obtain⟨k',e',q'⟩:=q3;cases e';exact ite_ff ⟨H3,I3,q'⟩
 |true=>
  refine ite_tt (test_last (thn (hc pins s3 σ H3 _ I3 q3) λw' s4 ⟨z',H4,I4,r4,q4⟩=>thn (ho' pins s4 σ H4 y z' u w' _ I4 r2 r4 q4) λd' s5 ⟨z2,H5,I5,r5,k2,e2,q5⟩=>?_));subst e2;cases r5;exact Bw ⟨H5,I5,q5⟩
def ae(K:Ac)(x:V)(H:Hp)(k:Bool):Prop:=
 match x with
 |.g=>k=false
 |.f b=>k=b
 |.d i=>k=(i != 0)
 |.e y=>y.length<=Am/\k=((y.length:Int) != 0)
 |.h y=>y.size<=Am/\k=((y.size:Int) != 0)
 |.c p=>(∃xs,SqL K H p xs/\k=!xs.isEmpty)\/(∃xs,SqT K H p xs/\k=!xs.isEmpty)\/∃kvs,H p=some (.i kvs)/\k=!kvs.isEmpty
 |_=>False
theorem l7(r:KV kvs vs):(!vs.isEmpty)=!kvs.isEmpty:=by
 cases r<;>rfl
theorem qI(r:Vals xs its):(!its.toArray.isEmpty)=!xs.isEmpty:=by
 cases r<;>simp
theorem uO:(Am:Nat)<2 ^ 63:=by rw[AK];decide
theorem aM:S7 X (λx H Q=>∃k,ae X.K x H k/\Q k H):=by
 intro pins s σ H x v Q I rx h;obtain⟨k,e,q⟩:=h;have hl:=uO;have hs:Am=16777216:=AK;cases x with
 |g=>
  cases rx;have e':k=false:=e;subst e';exact truthy_none ⟨H,I,q⟩
 |f b=>
  cases rx;have e':k=b:=e;subst e';exact Bw ⟨H,I,q⟩
 |d i=>
  obtain⟨t,rfl⟩:=rx;have e':k=(i != 0):=e;subst e';exact PySem.P.truthy_int ⟨H,I,q⟩
 |e y=>
  obtain⟨t,rfl⟩:=rx;obtain⟨hy,e'⟩:y.length<=Am/\k=((y.length:Int) != 0):=e;subst e';exact PySem.P.truthy_str (by omega) ⟨H,I.tok _,q⟩
 |h y=>
  obtain⟨t,rfl⟩:=rx;obtain⟨hy,e'⟩:y.size<=Am/\k=((y.size:Int) != 0):=e;subst e';exact PySem.W.truthy_bytes (by omega) ⟨H,I.tok _,q⟩
 |c p=>
  cases rx;have e':(∃xs,SqL X.K H p xs/\k=!xs.isEmpty)\/(∃xs,SqT X.K H p xs/\k=!xs.isEmpty)\/∃kvs,H p=some (.i kvs)/\k=!kvs.isEmpty:=e;rcases e' with⟨xs,hx,e'⟩|⟨xs,hx,e'⟩|⟨kvs,hx,e'⟩
  . subst e'
    obtain⟨its,r,pl,hz⟩:=I.list hx;have hlen:=r.length;exact wpAny_truthy_list pl.isList (by simp only[Ai];omega) ⟨H,I.tok _,by rw[qI r];exact q⟩
  . subst e'
    obtain⟨its,r,pl,hz⟩:=I.tuple hx;have hlen:=r.length;exact truthy_tuple pl (by simp only[Ai];omega) ⟨H,I.tok _,by rw[qI r];exact q⟩
  . subst e'
    obtain⟨hz,hS,vs,r,m⟩:kvs.length<=Am/\(p == BW)=false/\∃vs,KV kvs vs/\s.heap.DictOf (ox X.f X.w) p vs:=I.B p _ hx;have hlen:kvs.length=vs.length:=GB r;exact wpAny_truthy_dict hS m (by omega) ⟨H,I.tok _,by rw[l7 r];exact q⟩
 |_=>exact(show False from e).elim
theorem mn(ha:PE X a ta)(he:∀whole,isTrue a X.a whole=(do let v <-whole;standAt a.pos;holding [v] (truthy v))) :
 PT X a (λσ H Q=>ta σ H λx H'=>∃k,ae X.K x H' k/\Q k H'):=by
 intro pins s σ H Q I h;exact isTrue_plain (thn (ha pins s σ H _ I h) λv s1 ⟨x,H1,I1,r1,q1⟩=>aM pins s1 σ H1 x v Q I1 r1 q1) (he _)
theorem qU:OpR X (Bu .Add) (λx y H Q=>∃i j,x=.e i/\y=.e j/\i.length+j.length<=Am/\Q (.e (i++j)) H):=by intro pins s σ H x y v u Q I rx ry h;obtain⟨i,j,rfl,rfl,hz,q⟩:=h;obtain⟨t,rfl⟩:=rx;obtain⟨t',rfl⟩:=ry;exact add_str (λt' tk=>⟨.e (i++j),H,I.tok _,⟨_,rfl⟩,q⟩) hz
theorem vals1(r:Vals [x] us):∃u,us=[u]/\RelV x u:=by
 cases r with
 |cons r1 r2=>cases r2;exact⟨_,rfl,r1⟩
theorem vals2(r:Vals [x,y] us):∃u w',us=[u,w']/\RelV x u/\RelV y w':=by
 cases r with
 |cons r1 r2=>
  cases r2 with
  |cons r3 r4=>cases r4;exact⟨_,_,rfl,r1,r3⟩
theorem ik(hc:X.j=true):yX X (.builtin "max") (λxs H Q=>∃i j,xs=[.d i,.d j]/\Q (.d (if j > i then j else i)) H):=by
 intro pins s σ H xs us Q I r h;obtain⟨i,j,rfl,q⟩:=h;obtain⟨u,w',rfl,⟨t,rfl⟩,⟨t',rfl⟩⟩:=vals2 r;refine max_two_ints (I.C.k hc) λh' tk k=>⟨_,H,I.kept k,?_,q⟩;by_cases hj:j > i
 . rw[if_pos hj,if_pos hj];exact⟨_,rfl⟩
 . rw[if_neg hj,if_neg hj];exact⟨_,rfl⟩
theorem iq(hc:X.j=true):yX X (.builtin "min") (λxs H Q=>∃i j,xs=[.d i,.d j]/\Q (.d (if j<i then j else i)) H):=by
 intro pins s σ H xs us Q I r h;obtain⟨i,j,rfl,q⟩:=h;obtain⟨u,w',rfl,⟨t,rfl⟩,⟨t',rfl⟩⟩:=vals2 r;refine min_two_ints (I.C.k hc) λh' tk k=>⟨_,H,I.kept k,?_,q⟩;by_cases hj:j<i
 . rw[if_pos hj,if_pos hj];exact⟨_,rfl⟩
 . rw[if_neg hj,if_neg hj];exact⟨_,rfl⟩
theorem pJ:yX X (.type "int") (λxs H Q=>(∃i,xs=[.d i]/\Q (.d i) H)\/∃k,xs=[.f k]/\Q (.d (if k then 1 else 0)) H):=by
 intro pins s σ H xs us Q I r h;rcases h with⟨i,rfl,q⟩|⟨k,rfl,q⟩
 . obtain⟨u,rfl,t,rfl⟩:=vals1 r
   exact call_int_int ⟨.d i,H,I,⟨_,rfl⟩,q⟩
 . obtain⟨u,rfl,r1⟩:=vals1 r
   cases r1;exact call_int_bool ⟨.d (if k then 1 else 0),H,I.tok _,⟨_,rfl⟩,q⟩
end
structure Xr(h:Heap)(x dx C:Addr)(mA:Str->Option Value):Prop where
 a:h.get? x=some (F6 C dx)
 ns:h.Ns1 dx mA
 ne:dx≠x
theorem gK{h:Heap}(n:h.Ns1 dx mA):∃od,h.get? dx=some od/\∀name,Gg name od=some (mA name):=by
 obtain⟨o,es,ep,ho,hd,hk,_,hm⟩:=n;refine⟨o,ho,λname=>?_⟩;have e:=hm name;unfold nsFind findBy at e;rw[<-Array.find?_toList]at e;unfold Gg;rw[hd];dsimp only;split
 . rename_i y q
   rw[q]at e;exact congrArg some e
 . rename_i q
   rw[q]at e;have a:es.toList.any (·.refKey)=false:=by rw[List.any_eq_false];intro y hy;obtain⟨z,t,hkey⟩:=hk y (Array.mem_toList_iff.mp hy);simp[F2.refKey,hkey]
   have a':¬es.toList.any (·.refKey)=true:=by rw[a];exact Ad
   rw[if_neg a'];exact congrArg some e
theorem Xr.look(I:Xr h x dx C mA):∃od,PySem.W.InstAt h x (F6 C dx) C (some od)/\∀name,Gg name od=some (mA name):=
 let ⟨od,ho,hl⟩:=gK I.ns
 ⟨od,⟨I.a,rfl,rfl,ho⟩,hl⟩
noncomputable def sQ(f:Str)(v:V):List (Str × V)->List (Str × V)
 |[]=>[(f,v)]
 |(g,x)::r=>if g=f then (g,v)::r else (g,x)::sQ f v r
theorem sk f g v:∀fs:List (Str × V),(sQ f v fs).lookup g=if g=f then some v else fs.lookup g
 |[]=>by
  show Co g [(f,v)]=_;by_cases h:g=f
  . have hb:(g == f)=true:=beq_iff_eq.mpr h
    simp only[Co,hb,if_pos h]
  . have hb:(g == f)=false:=beq_eq_false_iff_ne.mpr h
    simp only[Co,hb,if_neg h]
 |(k,x)::r=>by
  have ih:=sk f g v r;rw[show sQ f v ((k,x)::r)=(if k=f then (k,v)::r else (k,x)::sQ f v r) from rfl]
  by_cases hk:k=f
  . rw[if_pos hk]
    by_cases h:g=k
    . have hb:(g == k)=true:=beq_iff_eq.mpr h
      simp only[Co,hb,if_pos (h.trans hk)]
    . have hb:(g == k)=false:=beq_eq_false_iff_ne.mpr h
      simp only[Co,hb,if_neg (λe:g=f=>h (e.trans hk.symm))]
  . rw[if_neg hk]
    by_cases h:g=k
    . have hb:(g == k)=true:=beq_iff_eq.mpr h
      simp only[Co,hb,if_neg (λe:g=f=>hk (h.symm.trans e))]
    . have hb:(g == k)=false:=beq_eq_false_iff_ne.mpr h
      simp only[Co,hb];exact ih
theorem sI f v:∀fs:List (Str × V),f∈(sQ f v fs).map (·.1)/\∀g,g∈fs.map (·.1)->g∈(sQ f v fs).map (·.1)
 |[]=>⟨by simp[sQ],λg h=>by simp at h⟩
 |(k,x)::r=>by
  obtain⟨i1,i2⟩:=sI f v r;rw[show sQ f v ((k,x)::r)=(if k=f then (k,v)::r else (k,x)::sQ f v r) from rfl]
  by_cases hk:k=f
  . rw[if_pos hk]
    subst hk;exact⟨by simp,λg h=>by simpa using h⟩
  . rw[if_neg hk]
    refine⟨?_,λg h=>?_⟩
    . rw[A1]
      exact Af _ i1
    . rw[A1]at h ⊢
      rcases An.mp h with e|e
      . exact An.mpr (.inl e)
      . exact Af _ (i2 g e)
section
variable {P:Program}{w:World}{H H':Hp}{h h':Heap}{a C dx:Addr}{fs fs':List (Str × V)}
theorem ZT(hok:HOk P w H h)(e:H a=some (.m C dx fs)):∃mA,Xr h a dx C mA/\(∀f,nh (fs.lookup f) (mA f))/\Ep mA (fs.map (·.1))/\fs.length<=1000/\H dx=some (.d a):=by obtain⟨d,z,ne,ob,mA,n,r,q⟩:=(show z6 P w H h a (.m C dx fs) from hok a _ e);exact⟨mA,⟨ob,n,ne⟩,r,q,z,d⟩
end
structure Cls(K:Ac)(C:Addr):Prop where
 pg:PySem.W.plainGet K C CN=true
 hd:PySem.W.hasDictIn K C=true
 po:PySem.W.plainOver K C=true
 sa:Di K (.ref C) "__setattr__"=some (some (.builtin "object.__setattr__"))
theorem Cls.get{K}(c:Cls K C)f:PySem.W.plainGet K C f=true:=c.pg
section
variable {X:Cx}{pins:List (Addr × Obj)}{σ:St}{H:Hp}{s:Shared}{a C dx:Addr}{fs:List (Str × V)}{f:Str}{v:V}{A:Around}{E:Value->Shared->Prop}
theorem ai(hb:BY e f env (eval e env)=eval e env)
 (h:wpAny (model prog w) A (eval e env) (λo s₁=>wpAny (model prog w) A (getAttr o f true) Q E s₁) E s):wpAny (model prog w) A (eval (.Attribute e f pos) env) Q E s:=
 Attribute_any_ h (by rw[arm_eval_Attribute,hb])
end
section
variable {X:Cx}{pins:List (Addr × Obj)}{σ:St}{H:Hp}{s:Shared}{A:Around}{E:Value->Shared->Prop}{Q:Value->Shared->Prop}{c:Value}{b:Bool}
inductive uY(K:Ac)(H:Hp):V->Value->Prop where
 |d:uY K H .g (.type "NoneType")
 |bl (x:Bool):uY K H (.f x) (.type "bool")
 |c (i:Int):uY K H (.d i) (.type "int")
 |f (x:Str):uY K H (.e x) (.type "str")
 |h (x:UInt64):uY K H (.j x) (.type "float")
 |b {a:Addr} {xs:List V} (e:H a=some (.b xs)):uY K H (.c a) (.type "list")
 |j {a:Addr} {o:Obj} {xs:List V} (e:H a=some (.e o (.b xs))):uY K H (.c a) (.type "list")
 |g {a:Addr} {xs:List V} (e:H a=some (.c xs)):uY K H (.c a) (.type "tuple")
 |dK {a:Addr} {kvs:List (Key × V)} (e:H a=some (.i kvs)):uY K H (.c a) (.type "dict")
 |dT {a:Addr} {kvs:List (List Key × V)} (e:H a=some (.l kvs)):uY K H (.c a) (.type "dict")
 |k {a C dx:Addr} {fs:List (Str × V)} (e:H a=some (.m C dx fs)) (cl:Cls K C) (ha:Di K (.ref C) "__class__"=some (some (.builtin "object.__class__")))
  (hn:PySem.W.specialIn K (.builtin "object.__class__") "__get__"=some (some (.builtin "getset_descriptor.__get__"))) (htk:PySem.W.takesIn K (.builtin "object.__class__")=some true)
  (hm:PySem.W.mroIn K C (.type "object")=some true):uY K H (.c a) (.ref C)
theorem hJ(I:Inv X pins σ H s)(rx:RelV x u)(ty:uY X.K H x t)(e:Gh X.K t c=some b)(h:∀tk,Q (.bool b) {s with toks:=tk}) :
 wpAny (model X.f X.w) A (call (.builtin "isinstance") [u,c]) Q E s:=by
 cases ty with
 |d=>cases (show u=A8 from rx);exact BB PySem.W.kitx_none I.kIn AZ e (λz=>nomatch z) h
 |bl y=>cases (show u=C4 y from rx);exact BB PySem.W.kitx_bool I.kIn AZ e (λz=>nomatch z) h
 |c i=>obtain⟨t,q⟩:=(show ∃t,u=F4 i t from rx);cases q;exact BB PySem.W.kitx_int I.kIn AZ e (λz=>nomatch z) h
 |f y=>obtain⟨t,q⟩:=(show ∃t,u=F5 y t from rx);cases q;exact BB PySem.W.kitx_str I.kIn AZ e (λz=>nomatch z) h
 |h y=>obtain⟨t,q⟩:=(show ∃t,u=Value.float y t from rx);cases q;exact BB PySem.W.kitx_float I.kIn AZ e (λz=>nomatch z) h
 |@b a xs ea=>
  cases (show u=AF a from rx);obtain⟨_,_,n,_,h1⟩:=(show z6 X.f X.w H s.heap a (.b xs) from I.B a _ ea);exact BB PySem.W.kitx_list I.kIn ⟨_,h1,rfl⟩ e (λz=>nomatch z) h
 |@j a ob xs ea=>
  cases (show u=AF a from rx);obtain⟨_,_,_,n,_,h1⟩:=(show z6 X.f X.w H s.heap a (.e ob (.b xs)) from I.B a _ ea);exact BB PySem.W.kitx_list I.kIn ⟨_,h1,rfl⟩ e (λz=>nomatch z) h
 |@g a xs ea=>
  cases (show u=AF a from rx);obtain⟨_,_,_,p⟩:=(show z6 X.f X.w H s.heap a (.c xs) from I.B a _ ea);obtain⟨o,h1,h2,_⟩:=p;exact BB PySem.W.kitx_tuple I.kIn ⟨o,h1,h2⟩ e (λz=>nomatch z) h
 |@dK a kvs ea=>
  cases (show u=AF a from rx);obtain⟨_,_,vs,_,p⟩:=(show z6 X.f X.w H s.heap a (.i kvs) from I.B a _ ea);obtain⟨o,es,ep,h1,h2,_⟩:=p;exact BB PySem.W.kitx_dict I.kIn ⟨o,h1,h2.1⟩ e (λz=>nomatch z) h
 |@dT a kvs ea=>
  cases (show u=AF a from rx);obtain⟨_,_,xs,_,o,es,ep,h1,h2,_⟩:=(show z6 X.f X.w H s.heap a (.l kvs) from I.B a _ ea);exact BB PySem.W.kitx_dict I.kIn ⟨o,h1,h2.1⟩ e (λz=>nomatch z) h
 |@k a C dx fs ea cl ha hn htk hm=>
  cases (show u=AF a from rx);obtain⟨mA,O,_⟩:=ZT I.B ea;obtain⟨od,J,_⟩:=O.look;exact BB (PySem.W.kitx_own (cl.get _) cl.hd ha hn htk hm) I.kIn J e (λz=>nomatch z) h
end
structure y9(k:Nat)(A:Around):Prop where
 a:A.handled=none
 b:A.depth+3*k+5<B4
 c:A.units+16*k+200<cLine
 d:A.guards=some []
theorem y9.deeper(r:y9 (k+1) A)env:y9 k (A.deeper env):=
 ⟨r.a,by have:=r.b;show A.depth+1+3*k+5<_;omega,by have:=r.c;show A.units+3+16*k+200<_;omega,r.d⟩
theorem kJ{A:Around}:(A.under (.builtin "type.__call__" ⟨.ref C::us,kw⟩)).depth=A.depth+1:=by first|rfl|simp[Around.under,Code.weight,Code.isCreation,Code.isGuard,Code.isCaller,Code.frames,Code.isFrame,guardIds]
theorem y9.depth(r:y9 k A):A.depth<B4:=by have:=r.b;omega
def tK:TA:=λ_ H Q=>Q [] H
def xM(ta:TE)(tr:TA):TA:=λσ H Q=>ta σ H λx H1=>tr σ H1 λxs H2=>Q (x::xs) H2
section
variable {X:Cx}{e:Expr}{es:List Expr}{te:TE}{t:TA}{pos:Pos}
theorem yk:PA X [] tK:=λ_ _ _ _ H Q I h=>Ff ⟨[],H,I,.nil,h⟩
theorem yE(ha:PE X e te)(hr:PA X es t)(hs:Av (e::es) X.a=(false,eval e X.a)::Av es X.a:=by rfl):PA X (e::es) (xM te t):=by intro pos pins s σ H Q I h;rw[hs];show wpAny _ _ (spliced ((false,eval e X.a)::backTo pos (Av es X.a))) _ _ s;refine EU (thn (ha pins s σ H _ I h) λu s1 ⟨x,H1,I1,r1,q1⟩=>?_);exact thn (hr pos pins s1 σ H1 _ I1 q1) λus s2 ⟨xs,H2,I2,r2,q2⟩=>⟨x::xs,H2,I2,.cons r1 r2,q2⟩
def V3(t:TA):TE:=λσ H Q=>t σ H λxs H1=>xs.length<=Am/\∀p,H1 p=none->Q (.c p) (upd H1 p (.c xs))
def jA(t:TA):TE:=λσ H Q=>t σ H λxs H1=>xs.length<=Am/\∀p,H1 p=none->Q (.c p) (upd H1 p (.b xs))
theorem kf{x1}(h:PA X es t):PE X (.Tuple es x1 pos) (V3 t):=by
 intro pins s σ H Q I hq;refine wpAny_Tuple_spliced (thn (h pos pins s σ H _ I hq) λus s1 ⟨xs,H1,I1,r,z,q⟩=>⟨by rw[<-r.length];exact z,?_⟩)
 have hf:H1 s1.heap.objs.size=none:=I1.B.fresh (Ah _);refine⟨.c s1.heap.objs.size,upd H1 s1.heap.objs.size (.c xs),I1.laid (t':=s1.toks) (λb u e=>lp _ e) (Ah _) ?_,rfl,q _ hf⟩;exact⟨z,us,r,⟨_,Az _ rfl,rfl,_,rfl,rfl⟩⟩
theorem qY(h:PA X es t):PE X (.List es pos) (jA t):=by
 intro pins s σ H Q I hq;refine wpAny_List_spliced (thn (h pos pins s σ H _ I hq) λus s1 ⟨xs,H1,I1,r,z,q⟩=>⟨by rw[<-r.length];exact z,?_⟩)
 have hf:H1 s1.heap.objs.size=none:=I1.B.fresh (Ah _);refine⟨.c s1.heap.objs.size,upd H1 s1.heap.objs.size (.b xs),I1.laid (t':=s1.toks) (λb u e=>lp _ e) (Ah _) ?_,rfl,q _ hf⟩;exact⟨z,us,0,r,Az _ rfl⟩
end
abbrev Sp:=List V->Hp->VK->XK->Prop
abbrev CXT:=List Env->Hp->Shared->XK->Value->Shared->Prop
structure rB(P:Program)(w:World)(K:Ac)(mg:Str->Option Value)(base:Heap)(A:Around)(outer:List Env)(s:Shared)(H:Hp):Prop where
 a:A.frames=some outer
 c:Mod K mg base
 d:∀b o,base.get? b=some o->s.heap.get? b=some o/\H b=none
 h:base.objs.size<=s.heap.objs.size
 j:s.heap.FunFrames base outer
 i:∀b∈frs outer,H b=none
 f:HOk P w H s.heap
 g:AllBare s.gens
def CE(outer:List Env)(P:Program)(w:World)(H:Hp)(s:Shared)(Q:VK)(u:Value)(s':Shared):Prop:=
 ∃v H',s'.os=s.os/\AllBare s'.gens/\Un (frs outer) [] H H' s.heap s'.heap/\HOk P w H' s'.heap/\RelV v u/\Q v H'
def CR(CX:CXT)(outer:List Env)(P:Program)(w:World)(H:Hp)(s:Shared)(Q:VK)(E:XK)(r:Result)(s':Shared):Prop:=
 match r with
 |.ok (.ret u)=>CE outer P w H s Q u s'
 |.ok _=>False
 |.error e=>CX outer H s E e s'
structure uU(P:Program)(w:World)(K:Ac)(mg:Str->Option Value)(base:Heap)(CX:CXT)(k:Nat)(f:Addr)(fd:Bn)(ps:List Str)(sp:Sp):Prop where
 b:∀vs H Q E,sp vs H Q E->vs.length=ps.length
 a:∀(A:Around) (outer:List Env) (s:Shared) (H:Hp) (args:Args) (us:List Value) (vs:List V) (Q:VK) (E:XK),y9 k A->rB P w K mg base A outer s H->BindsTo s fd args (ps.zip us)->Vals vs us->sp vs H Q E ->
  codeAny (model P w) A (.call (.ref f) args) (CR CX outer P w H s Q E) s
theorem uU.imp{K}(F:uU P w K mg base CX k f fd ps sp)
 (h:∀vs H Q E,sp' vs H Q E->sp vs H Q E):uU P w K mg base CX k f fd ps sp':=
 ⟨λvs H Q E q=>F.b vs H Q E (h _ _ _ _ q),λA outer s H args us vs Q E hr he hb hv hs=>F.a A outer s H args us vs Q E hr he hb hv (h _ _ _ _ hs)⟩
theorem rB.make{K}(e:rB P w K mg base A outer s H)C us kw :
 rB P w K mg base (A.under (.builtin "type.__call__" ⟨.ref C::us,kw⟩)) outer s H:=⟨by first|exact e.a|(simpa [Around.under,Code.envs,Code.isFrame,pushEnvs] using e.frames),e.c,e.d,e.h,e.j,e.i,e.f,e.g⟩
section
variable {X:Cx}{pins:List (Addr × Obj)}{σ:St}{H:Hp}{s s':Shared}
theorem Inv.wN(I:Inv X pins σ H s):rB X.f X.w X.K X.d X.g X.A X.h s H:=
 ⟨I.C.g,I.C.i,I.bs,Ay I.C.p I.sz,I.stack,I.nR,I.B,I.D⟩
theorem Inv.after(I:Inv X pins σ H s)(h:CE X.h X.f X.w H s Q u s'):EP X pins σ Q u s':=by obtain⟨v,H',os,bare,un,hok,r,q⟩:=h;obtain⟨hh,g,d,t,os'⟩:=s';obtain rfl:os'=s.os:=os;exact⟨v,H',I.call (h':=hh) (g':=g) (d':=d) (t':=t) (ch:=[]) un hok bare (λb z=>absurd z (by simp)),r,q⟩
end
def lC(sp:Sp)(dvs:List V)(E:XK)(t:TA):TE:=λσ H Q=>t σ H λvs H1=>sp (vs++dvs) H1 Q E
def Binds(K:Ac)(fd:Bn)(ps:List Str)(ds:List Value):Prop:=
 ∀(s:Shared) (us:List Value),K.In s.heap->(us++ds).length=ps.length->BindsTo s fd ⟨us,[]⟩ (ps.zip (us++ds))
theorem Binds.all{K}(h:∀us:List Value,us.length=ps.length->Gs fd ⟨us,[]⟩=pure (ps.zip us)):Binds K fd ps []:=λs us _ hl=>by rw[A9]at hl ⊢;exact .of_eq (h us hl)
def Passes(CX:CXT)(X:Cx)(E:XK):Prop:=∀(pins:List (Addr × Obj)) (σ:St) (H:Hp) (s:Shared) (e:Value) (s':Shared),Inv X pins σ H s->CX X.h H s E e s'->X.i e s'
section
variable {X:Cx}{CX:CXT}{k:Nat}{f C:Addr}{fd:Bn}{ps:List Str}{sp:Sp}{dvs:List V}{ds:List Value}{E:XK}{x m:Str}{p pos apos:Pos}{e o:Expr}{es:List Expr}{ta:TE}{t:TA}
theorem kq(F:uU X.f X.w X.K X.d X.g CX k f fd ps sp)(hr:y9 k X.A)(hb:Binds X.K fd ps ds)(hd:Vals dvs ds)(hx:Passes CX X E)
 (I:Inv X pins σ H s) (r:Vals vs us) (h:sp (vs++dvs) H Q E):wpAny (model X.f X.w) X.A (call (.ref f) us) (EP X pins σ Q) X.i s:=by
 have r2:Vals (vs++dvs) (us++ds):=r.append hd;have hl:(us++ds).length=ps.length:=by rw[<-r2.length];exact F.b _ _ _ _ h
 refine CK (Ct (F.a X.A X.h s H ⟨us,[]⟩ (us++ds) (vs++dvs) Q E hr I.wN (hb s us I.kIn hl) r2 h) λr s' hq=>?_);cases r with
 |error e=>exact hx pins σ H s e s' I hq
 |ok fl=>
  cases fl with
  |ret u=>exact I.after hq
  |next=>exact Al hq
  |brk=>exact Al hq
  |cont=>exact Al hq
theorem rQ(F:uU X.f X.w X.K X.d X.g CX k f fd ps sp)(hr:y9 k X.A)(hg:Gl X x)(hm:X.d x=some (.ref f))(hk:BS X.K (.ref f)=true)(hb:Binds X.K fd ps ds)(hd:Vals dvs ds)(hx:Passes CX X E)
 (ha:PA X (e::es) t) (hdb:(x == ("__debug__":Str))=false:=by decide) (he:Av (e::es) X.a=(false,eval e X.a)::Av es X.a:=by rfl) (hpl:(backTo pos (Av es X.a)).any (·.1)=false:=by rfl) :
 PE X (.Call (.Name x p) (e::es) [] pos) (lC sp dvs E t):=by
 intro pins s σ H Q I h;refine BE (xG I hg hm ?_ hdb);refine C8 (h₀:=X.g) I.C.i.a hk (thn (ha pos pins s σ H _ I h) λus s1 ⟨vs,H1,I1,r,q⟩=>⟨I1.kIn,?_⟩) he hpl;exact kq F hr hb hd hx I1 r q
theorem mW(F:uU X.f X.w X.K X.d X.g CX k f fd ps sp)(hr:y9 k X.A)(hg:Gl X x)(hm:X.d x=some (.ref f))(hk:BS X.K (.ref f)=true)(hb:Binds X.K fd ps ds)(hd:Vals dvs ds)(hx:Passes CX X E)
 (hdb:(x == ("__debug__":Str))=false:=by decide):PE X (.Call (.Name x p) [] [] pos) (lC sp dvs E tK):=by
 intro pins s σ H Q I h;refine BE (xG I hg hm ?_ hdb);exact PySem.W.callWith_K0 I.kIn hk (kq (us:=[]) F hr hb hd hx I .nil h)
end
structure xa(N P:List Str)(sc:Scope):Prop where
 a:sc.kind=.function
 co:sc.isCoroutine=false
 f:sc.isGenerator=false
 b:N.Nodup
 c:N.take P.length=P
 e:∀x∈P,sc.names.lookup x=some .local\/sc.names.lookup x=some .cell
 d:∀y∈sc.names,y.2≠.free
theorem pI{kindOf}:∀{binds} {m},(∀v,(x,v) ∉ binds)->bindL kindOf binds m x=m x
 |[],_,_=>rfl
 |(n,v)::r,m,h=>by
  unfold bindL;rw[pI λw hw=>h w (Af _ hw)];split
  . have:x≠n:=by rintro rfl;exact h v Ap
    simp[this]
  . rfl
theorem pG{kindOf}:∀{binds} {m},(∀v,(x,v) ∉ binds)->bindC kindOf binds m x=m x
 |[],_,_=>rfl
 |(n,v)::r,m,h=>by
  unfold bindC;rw[pG λw hw=>h w (Af _ hw)];split
  . rfl
  . have:x≠n:=by rintro rfl;exact h v Ap
    simp[this]
theorem pH{kindOf}:∀{P:List Str} {vs} {i:Nat} {m},P.Nodup->P[i]?=some x->vs[i]?=some v->kindOf x=some .local ->
 bindL kindOf (P.zip vs) m x=some v
 |[],_,_,_,_,h,_,_=>by simp at h
 |_::_,[],_,_,_,_,h,_=>by simp at h
 |p::P,w::vs,0,m,nd,h1,h2,hk=>by
  simp at h1 h2;subst h1;subst h2;show bindL kindOf ((p,w)::P.zip vs) m p=_;unfold bindL;rw[pI λv hv=>(BC.mp nd).1 (Er hv).1,if_pos hk];simp
 |p::P,w::vs,i+1,m,nd,h1,h2,hk=>by show bindL kindOf ((p,w)::P.zip vs) m x=_;unfold bindL;exact pH (i:=i) (BC.mp nd).2 (by simpa using h1) (by simpa using h2) hk
theorem pF{kindOf}:∀{P:List Str} {vs} {i:Nat} {m},P.Nodup->P[i]?=some x->vs[i]?=some v->kindOf x≠some .local ->
 bindC kindOf (P.zip vs) m x=some v
 |[],_,_,_,_,h,_,_=>by simp at h
 |_::_,[],_,_,_,_,h,_=>by simp at h
 |p::P,w::vs,0,m,nd,h1,h2,hk=>by
  simp at h1 h2;subst h1;subst h2;show bindC kindOf ((p,w)::P.zip vs) m p=_;unfold bindC;rw[pG λv hv=>(BC.mp nd).1 (Er hv).1,if_neg hk];simp
 |p::P,w::vs,i+1,m,nd,h1,h2,hk=>by show bindC kindOf ((p,w)::P.zip vs) m x=_;unfold bindC;exact pF (i:=i) (BC.mp nd).2 (by simpa using h1) (by simpa using h2) hk
noncomputable def start(N:List Str)(vs:List V):St:=vs.map some++Ao (N.length-vs.length) none
noncomputable def yA(CX:CXT)(P:Program)(w:World)(K:Ac)(mg:Str->Option Value)(base:Heap)(N:List Str)(qual:Str)(scope:Scope)(f:Addr)(cd:Value)(A:Around)(outer:List Env)(s:Shared)(H:Hp)(E:XK):Cx where
 f:=P
 w:=w
 K:=K
 d:=mg
 g:=base
 A:=A.deeper (envOfC qual scope s.heap.objs.size f cd)
 N:=N
 l:=s
 r:=H
 a:=envOfC qual scope s.heap.objs.size f cd
 k:=outer
 h:=envOfC qual scope s.heap.objs.size f cd::outer
 m:=[]
 j:=true
 q:=λ_=>true
 n:=[]
 i:=λe s'=>wpAny (model P w) (A.deeper (envOfC qual scope s.heap.objs.size f cd)) (leaving (envOfC qual scope s.heap.objs.size f cd) e) (λ_ s''=>CX outer H s E e s'') (λe' s''=>CX outer H s E e' s'') s'
theorem nq{sc:Scope}(h:sc.names.lookup x=some .cell):∃c,(Cu n sc.names []).lookup x=some c:=by have q:=D3 sc.names n [] (.inl h);exact Cc.mp q
theorem pQ{K}
 (S:xa N ps scope) (hd:A.handled=none) (e0:rB P w K mg base A outer s H) (hl:vs.length=ps.length) (r:Vals vs us)
 (x:InCallC s s.heap.objs.size (bindL (envOfC qual scope s.heap.objs.size f cd).kindOf (ps.zip us) λ_=>none) (Cu (s.heap.objs.size+1) scope.names []) (bindC (envOfC qual scope s.heap.objs.size f cd).kindOf (ps.zip us) λ_=>none) s1) :
 Inv (yA CX P w K mg base N qual scope f cd A outer s H E) [] (start N vs) H s1:=by
 have hpl:ps.length<=N.length:=by have:=congrArg F9 S.c;rw[B1]at this;omega
 obtain⟨h1,tk,rfl,hk⟩:=x.done;have noA:∀b:Addr,b ∉ (yA CX P w K mg base N qual scope f cd A outer s H E).m:=λb z=>absurd (show b∈([]:List Addr) from z) (by simp)
 refine⟨⟨e0.c,S.a,rfl,rfl,Ah _,λy z c h1 h2=>?_,λy hy=>?_,λy c _ h=>?_,λ_=>hd,Es e0.a,.inr ⟨rfl,rfl⟩,λb z=>absurd z (noA b),e0.d,e0.h,λb _ _=>noA b,λb z=>absurd z (noA b),e0.j,e0.i⟩,
  rfl,e0.g,Un.kept hk,⟨_,x.toInCall.ns,λi y v h1 h2 h3=>?_⟩,λy c h=>⟨_,x.cell y c h⟩,e0.f.fresh (Ah _),λy c h=>?_,λp hp=>absurd (show p∈([]:List (Addr × Obj)) from hp) (by simp),e0.f.kept hk,?_⟩
 . exact name_of_addr x.apart (AE h1) (AE h2)
 . have hy:scope.names.lookup y=some .cell\/scope.names.lookup y=some .free:=hy
   rcases hy with hy|hy
   . exact nq hy
   . exact absurd rfl (S.d _ (AE hy))
 . exact Dg (x.above y c (AE h))
 . have hi:i<vs.length:=by
    unfold start at h2;by_cases hi:i<vs.length
    . exact hi
    . rw[Be (by simpa using hi)]at h2
      rw[DT]at h2;split at h2<;>cases h2
   have ha:vs[i]?=some v:=by
    unfold start at h2;rw[AS (by simpa using hi),A2]at h2
    cases e:vs[i]? with
    |none=>rw[e]at h2;cases h2
    |some a=>rw[e]at h2;cases h2;rfl
   obtain⟨u,hu,rv⟩:=r.get ha;have hp:ps[i]?=some y:=by rw[<-S.c,DF (by omega)];exact h1
   have ndP:ps.Nodup:=by rw[<-S.c];exact S.b.sublist (Fg _ _)
   refine⟨u,rv,?_⟩;rcases S.e y (AU hp) with k|k
   . exact .inl ⟨k,pH ndP hp hu k⟩
   . obtain⟨c,e⟩:=nq (n:=s.heap.objs.size+1) k
     refine .inr ⟨.inl k,c,e,?_⟩;have q:=x.cell y c e;rw[pF ndP hp hu (by show scope.names.lookup y≠_;rw[k];decide)]at q
     exact q
 . exact e0.f.fresh (Dg (x.above y c (AE h)))
 . unfold start
   show _=N.length;rw[Au,Ae,Ej];omega
theorem Y8{K}{dV kV doc pm cdv ct oc}
    (lk:K.lookup f=some ⟨oc,od,.func (Bz name qual params body scope dV kV doc pm an cdv ct),osl⟩) (hcd:BR K cdv qual=true) (S:xa N ps scope)
 (len:∀vs H Q E,sp vs H Q E->vs.length=ps.length)
 (hbody:∀A outer s H vs Q E,y9 k (A.deeper (envOfC qual scope s.heap.objs.size f cdv))->sp vs H Q E ->
  ∃t,PSs (yA CX P w K mg base N qual scope f cdv A outer s H E) body t/\t {a:=λ_ H'=>Q .g H',b:=Q} (start N vs) H) :
 uU P w K mg base CX (k+1) f (Bz name qual params body scope dV kV doc pm an cdv ct) ps sp:=by
 refine⟨len,λA outer s H args us vs Q E hr e0 hb r hsp=>?_⟩;have hl:=len _ _ _ _ hsp;have KX:K.In s.heap:=e0.c.a.keeps λb o e=>(e0.d b o e).1;have lim:s.heap.NoLimit:=e0.c.b.keeps λb o e=>(e0.d b o e).1;have hkind:∀y∈ps.zip us,scope.names.lookup y.1=some .local\/(scope.names.lookup y.1=some .cell/\((Cu (s.heap.objs.size+1) scope.names []).lookup y.1).isSome=true):=λ⟨n,v⟩ hy=>by
  rcases S.e n (Er hy).1 with q|q
  . exact .inl q
  . exact .inr ⟨q,D3 _ _ _ (.inl q)⟩
 refine codeAny_call_function hr.depth (KX _ _ lk) rfl S.co S.f rfl (PySem.W.codeRec_of KX hcd) (hb _ _ _ _ ?_);refine E6 S.a hkind λenv he s1 x=>?_;subst he;refine⟨lim.keeps x.toInCall.keep,codeAny_func ?_⟩;obtain⟨t,ht,hq⟩:=hbody A outer s H vs Q E (hr.deeper _) hsp;have I:Inv (yA CX P w K mg base N qual scope f cdv A outer s H E) [] (start N vs) H s1:=pQ S hr.a e0 hl r x;refine AD (ht [] s1 (start N vs) H _ I hq) (λfl s' hs=>?_) λe s' hs=>hs;have fin:∀{σ':St} {H':Hp} {v:V} {u:Value},Inv (yA CX P w K mg base N qual scope f cdv A outer s H E) [] σ' H' s'->RelV v u->Q v H'->CE outer P w H s Q u s':=
  λ{σ' H' v u} J rv q=>⟨v,H',J.P,J.D,J.j,J.B,rv,q⟩
 cases fl with
 |ret u=>
  obtain⟨v,σ',H',J,rv,q⟩:=hs;exact fin J rv q
 |next=>
  obtain⟨σ',H',J,q⟩:=hs;exact fin (v:=V.g) (u:=A8) J rfl q
 |brk=>
  obtain⟨_,_,_,q⟩:=hs;exact Al q
 |cont=>
  obtain⟨_,_,_,q⟩:=hs;exact Al q
section
variable {X:Cx}{x:Str}{p pos:Pos}{e:Expr}{es:List Expr}{t:TA}{id T:String}{r:List V->Hp->VK->Prop}
def tCB(r:List V->Hp->VK->Prop)(t:TA):TE:=λσ H Q=>t σ H λvs H1=>r vs H1 Q
theorem uv(hc:yX X (.builtin id) r)(hg:Gl X x)(hm:X.d x=none)(hv:Ca x=some (.builtin id))(ha:PA X (e::es) t)(hn:x≠"__name__":=by decide)(hdb:(x == ("__debug__":Str))=false:=by decide)
 (he:Av (e::es) X.a=(false,eval e X.a)::Av es X.a:=by rfl) (hpl:(backTo pos (Av es X.a)).any (·.1)=false:=by rfl):PE X (.Call (.Name x p) (e::es) [] pos) (tCB r t):=by
 intro pins s σ H Q I h;refine BE (sJ I hg hm hv ?_ hn hdb);exact PyProof.Rows.callWith_builtin1 (thn (ha pos pins s σ H _ I h) λus s1 ⟨vs,H1,I1,r1,q1⟩=>hc pins s1 σ H1 vs us Q I1 r1 q1) he hpl
theorem yy(hc:yX X (.type T) r)(hg:Gl X x)(hm:X.d x=none)(hv:Ca x=some (.type T))(ha:PA X (e::es) t)(hn:x≠"__name__":=by decide)(hdb:(x == ("__debug__":Str))=false:=by decide)
 (he:Av (e::es) X.a=(false,eval e X.a)::Av es X.a:=by rfl) (hpl:(backTo pos (Av es X.a)).any (·.1)=false:=by rfl):PE X (.Call (.Name x p) (e::es) [] pos) (tCB r t):=by
 intro pins s σ H Q I h;refine BE (sJ I hg hm hv ?_ hn hdb);exact Dm (thn (ha pos pins s σ H _ I h) λus s1 ⟨vs,H1,I1,r1,q1⟩=>hc pins s1 σ H1 vs us Q I1 r1 q1) he hpl
end
end L2
namespace HT
open PySem PyProof.Rows
section
variable {prog:Program}{w:World}{A:Around}{E:Value->Shared->Prop}{s:Shared}
theorem ao(ht:IsTup s.heap t vs.toArray)(hb:IsTup s.heap b ws.toArray)(hv:vs≠[])
 (h1:ws=[]->Q (.ref t) s) (h2:ws≠[]->Q (.ref s.heap.objs.size) {s with heap:=s.heap.push {cls:=.type "tuple",data:=.seq (vs++ws).toArray}})
 (hsz:vs.length+ws.length<=Am):wpAny (model prog w) A (Bu .Add (.ref t) (.ref b)) Q E s:=by
 obtain⟨⟨cls,dd,data,sl⟩,ho,hc,n,hd⟩:=id ht;obtain⟨⟨cls2,dd2,data2,sl2⟩,ho2,hc2,n2,hd2⟩:=id hb;simp only at hc hd hc2 hd2;subst hc hd hc2 hd2;have e:vs.toArray++ws.toArray=(vs++ws).toArray:=by simp
 by_cases hw:ws=[]
 . exact concat_meets ⟨_,ho,rfl⟩ ⟨_,ho2,rfl⟩ FE GC D4 DU (DG _ _)
    (tuple_addW1 t b vs.toArray ws.toArray n n2 dd dd2 sl sl2 (by simpa using hv) (by simp[hw])) ⟨ho,ho2,h1 hw⟩
 . refine concat_meets ⟨_,ho,rfl⟩ ⟨_,ho2,rfl⟩ FE GC D4 DU (DG _ _)
    (tuple_addW2 t b vs.toArray ws.toArray n n2 dd dd2 sl sl2 (by simpa using hv) (by simpa using hw) (by rw[Ai,Ai];exact hsz)) ⟨ho,ho2,?_⟩
   rw[e];exact h2 hw
noncomputable def sIx(n d:Nat):Option Int->Nat
 |none=>d
 |some v=>if v<0 then (v+(n:Int)).toNat else min v.toNat n
theorem iM(n d k:Nat):sIx n d (some (k:Int))=min k n:=by
 show (if (k:Int)<0 then ((k:Int)+(n:Int)).toNat else min (k:Int).toNat n)=min k n
 rw[if_neg (by omega),BI]
theorem Vs n d(hd:d<=n)o:sIx n d o<=n:=by
 cases o with
 |none=>exact hd
 |some v=>
  show (if v<0 then (v+(n:Int)).toNat else min v.toNat n)<=n
  by_cases hv:v<0
  . rw[if_pos hv];omega
  . rw[if_neg hv];exact Eb _ _
theorem jg v(n d:Nat):(if v<0 then max (v+(n:Int)) 0 else min v (n:Int))=((sIx n d (some v):Nat):Int):=by
 show (if v<0 then max (v+(n:Int)) 0 else min v (n:Int))=(((if v<0 then (v+(n:Int)).toNat else min v.toNat n):Nat):Int)
 by_cases hv:v<0
 . simp only[if_pos hv];omega
 . simp only[if_neg hv];omega
theorem lT lo hi(n:Nat):BL lo hi 1 (n:Int)=(((sIx n 0 lo:Nat):Int),((sIx n n hi:Nat):Int)):=by
 have h1:¬((1:Int)<0):=by omega
 unfold BL;simp only[h1,if_false];refine Prod.ext ?_ ?_
 . cases lo with
   |none=>rfl
   |some v=>exact jg v n 0
 . cases hi with
   |none=>rfl
   |some v=>exact jg v n n
theorem kh(i j:Nat):B8 (i:Int) (j:Int) 1=j-i:=by
 unfold B8;have h1:(1:Int) > 0:=by omega
 simp only[h1,if_true,Int.ediv_one];split<;>omega
theorem wL(p:IsPart v o)(h:Q o s):wpAny (model prog w) A (Builtin.Slice.slicePartIndex v) Q E s:=by
 cases p with
 |none=>exact slicePart_none h
 |int i t=>exact slicePart_int h
theorem wk{lo hi}{n:Nat}(hs:s.heap.IsSliceOf sl vl vu .none)(pl:IsPart vl lo)(pu:IsPart vu hi)
 (h:Q (((sIx n 0 lo:Nat):Int),1,sIx n n hi-sIx n 0 lo) s):wpAny (model prog w) A (CA (.ref sl) (pure (n:Int))) Q E s:=by
 obtain⟨os,hos,hcs,hds⟩:=id hs;unfold CA Fv;refine xd (xd (BQ hos hds (x:=vl) rfl (xd (BQ hos hds (x:=vu) rfl (xd (BQ hos hds (x:=.none) rfl (Ag ?_)))))));refine xd (slicePart_none ?_);show wpAny _ _ (if ((1:Int) == 0)=true then _ else _) _ _ s
 rw[if_neg (by decide)]
 refine xd (wL pl (xd (wL pu (xd (Ag ?_)))));show wpAny _ _ (match BL lo hi 1 (n:Int) with|(lo,hi)=>pure (lo,(1:Int),B8 lo hi 1)) _ _ s
 rw[lT lo hi n];show wpAny _ _ (pure (((sIx n 0 lo:Nat):Int),(1:Int),B8 ((sIx n 0 lo:Nat):Int) ((sIx n n hi:Nat):Int) 1)) _ _ s;rw[kh];exact Ag h
theorem bI(xs:Array Value)(i k:Nat):((AY k).filterMap λ(m:Nat)=>xs[((i:Int)+(m:Int)*1).toNat]?).toArray=((xs.toList.drop i).take k).toArray:=by
 have e:(λ(m:Nat)=>xs[((i:Int)+(m:Int)*1).toNat]?)=λm=>xs[i+m]?:=by
  funext m;have:((i:Int)+(m:Int)*1).toNat=i+m:=by omega
  rw[this]
 rw[e];have:=pick_run xs i k;rw[B5]at this;have e2:((λx=>xs[x]?)∘λx=>i+x)=λm=>xs[i+m]?:=rfl;rw[e2]at this;rw[this]
theorem um{lo hi}(ht:IsTup s.heap t items)(hs:s.heap.IsSliceOf sl vl vu .none)(pl:IsPart vl lo)(pu:IsPart vu hi)
 (hw:¬(sIx items.size 0 lo=0/\sIx items.size items.size hi=items.size))
 (h:Q (.ref s.heap.objs.size) {s with heap:=s.heap.push {cls:=.type "tuple",data:=.seq ((items.toList.drop (sIx items.size 0 lo)).take (sIx items.size items.size hi-sIx items.size 0 lo)).toArray}})
 (hsz:items.size<=Am):wpAny (model prog w) A (getItem (.ref t) (.ref sl)) Q E s:=by
 have htake:sizeOk (.seq ((items.toList.drop (sIx items.size 0 lo)).take (sIx items.size items.size hi-sIx items.size 0 lo)).toArray):=by show ((items.toList.drop (sIx items.size 0 lo)).take (sIx items.size items.size hi-sIx items.size 0 lo)).toArray.size<=Am;rw[Ai,B1,BP,C1];omega
 have hj:sIx items.size items.size hi<=items.size:=Vs _ _ (Ah _) hi;obtain⟨os,hos,hcs,hds⟩:=id hs;have hTs:s.TypeIs (.ref sl) "slice":=⟨os,hos,hcs⟩;unfold getItem
 try with_reducible refine Bx ?_
 first|refine xd (Ag ?_)|skip
 refine xd (Fh ht.typeIs (by decide) ?_)
 refine xd (DV (name:=Et "__getitem__") ht.typeIs A0
  (FF A0 ht.typeIs EH ?_ (EV _ _)))
 show wpAny _ _ (Dv (.ref t) >>= _) _ _ s;refine xd (D8 ht ?_);refine xd (DH hTs ?_);rw[if_pos (by decide)]
 refine xd (wk hs pl pu ?_);have hno:¬((((sIx items.size 0 lo:Nat):Int) == 0&&(1:Int) == 1&&(sIx items.size items.size hi-sIx items.size 0 lo) == items.size)=true):=by intro q;rw[cf,cf]at q;have q1:((sIx items.size 0 lo:Nat):Int)=0:=B6 q.1.1;have q2:sIx items.size items.size hi-sIx items.size 0 lo=items.size:=B6 q.2;exact hw ⟨by omega,by omega⟩
 show wpAny _ _ (if (((sIx items.size 0 lo:Nat):Int) == 0&&(1:Int) == 1&&(sIx items.size items.size hi-sIx items.size 0 lo) == items.size)=true then _ else _) _ _ s
 rw[if_neg hno,bI]
 first
  |exact xd (m:=Bi _) (Ba (Ag ⟨_,rfl,Ag h⟩) htake)
  |exact xd (m:=Bi _) (Ba (xd (Ag (Ag ⟨_,rfl,Ag h⟩))) htake)
  |exact xd (xd (m:=Bi _) (Ba (Ag (Ag ⟨_,rfl,Ag h⟩)) htake))
  |exact xd (xd (m:=Bi _) (Ba (Ag ⟨_,rfl,Ag h⟩) htake))
end
end HT
namespace L2
open PySem PySem.Spec PyProof.Rows
abbrev TO:=St->Hp->(Option Int->Hp->Prop)->Prop
def PO(X:Cx)(e:Option Expr)(t:TO):Prop:=
 ∀(pins:List (Addr × Obj)) (s:Shared) (σ:St) (H:Hp) (Q:Option Int->Hp->Prop),Inv X pins σ H s->t σ H Q ->
  wpAny (model X.f X.w) X.A (evalPart e X.a) (λu s'=>∃o H',Inv X pins σ H' s'/\IsPart u o/\Q o H') X.i s
def Yg:TO:=λ_ H Q=>Q none H
def Sl(t:TE):TO:=λσ H Q=>t σ H λx H1=>∃i,x=.d i/\Q (some i) H1
section
variable {X:Cx}{e:Expr}{te:TE}{lo hi:Option Expr}{tl th:TO}{pos p2:Pos}
theorem YN:PO X none Yg:=by intro pins s σ H Q I h;rw[evalPart_none];exact Ag ⟨none,H,I,.none,h⟩
theorem YO(h:PE X e te):PO X (some e) (Sl te):=by intro pins s σ H Q I hw;rw[evalPart_some];refine thn (h pins s σ H _ I hw) λu s1 ⟨x,H1,I1,r1,q1⟩=>?_;obtain⟨i,rfl,q⟩:=q1;obtain⟨t,rfl⟩:=r1;exact⟨some i,H1,I1,.int i t,q⟩
def SlR(X:Cx)(r:V->Option Int->Option Int->Hp->VK->Prop):Prop:=
 ∀(pins:List (Addr × Obj)) (s:Shared) (σ:St) (H:Hp) (x:V) (v vl vu:Value) (lo hi:Option Int) (sl:Addr) (Q:VK),Inv X pins σ H s->RelV x v->s.heap.IsSliceOf sl vl vu .none->IsPart vl lo->IsPart vu hi->r x lo hi H Q ->
  ∃T id,Eu (.type T) "__getitem__"=pure (some (.builtin id))/\s.TypeIs v T/\wpAny (model X.f X.w) X.A (getItem v (.ref sl)) (EP X pins σ Q) X.i s
def tSl(r:V->Option Int->Option Int->Hp->VK->Prop)(te:TE)(tl th:TO):TE:=λσ H Q=>te σ H λx H1=>tl σ H1 λl H2=>th σ H2 λu H3=>r x l u H3 Q
theorem bE(hr:SlR X r)(he:PE X e te)(hl:PO X lo tl)(hu:PO X hi th):PE X (.Subscript e (.Slice lo hi none p2) pos) (tSl r te tl th):=by
 intro pins s σ H Q I h;refine Gu (thn (he pins s σ H _ I h) λv s1 ⟨x,H1,I1,r1,q1⟩=>?_);refine wpAny_Slice (thn (hl pins s1 σ H1 _ I1 q1) λvl s2 ⟨l,H2,I2,pl,q2⟩=>thn (hu pins s2 σ H2 _ I2 q2) λvu s3 ⟨u,H3,I3,pu,q3⟩=>?_);rw[evalPart_none];refine Ag ?_;have I4:Inv X pins σ H3 {s3 with heap:=s3.heap.push {cls:=.type "slice",data:=.fields #[vl,vu,.none]}}:=I3.kept (t':=s3.toks) λb ob q=>lp _ q
 obtain⟨T,id,hT,ht,hg⟩:=hr pins {s3 with heap:=s3.heap.push {cls:=.type "slice",data:=.fields #[vl,vu,.none]}} σ H3 x v vl vu l u s3.heap.objs.size Q I4 r1 (EW ..) pl pu q3
 show wpAny (model X.f X.w) X.A (E7 e (.Slice lo hi none p2) v (.ref s3.heap.objs.size)) (EP X pins σ Q) X.i {s3 with heap:=s3.heap.push {cls:=.type "slice",data:=.fields #[vl,vu,.none]}}
 exact tail_any (ops:=[.ref s3.heap.objs.size,v]) ht hT hg (by with_unfolding_all rfl)
def qr(xs:List V)(lo hi:Option Int):List V:=(xs.drop (HT.sIx xs.length 0 lo)).take (HT.sIx xs.length xs.length hi-HT.sIx xs.length 0 lo)
theorem si xs lo hi:(qr xs lo hi).length<=xs.length:=by unfold qr;rw[B1,BP];omega
def RX(K:Ac):V->Option Int->Option Int->Hp->VK->Prop:=λx lo hi H Q=>∃a xs,x=.c a/\SqT K H a xs /\
 ¬(HT.sIx xs.length 0 lo=0/\HT.sIx xs.length xs.length hi=xs.length)/\∀p,H p=none->Q (.c p) (upd H p (.c (qr xs lo hi)))
theorem Vv:SlR X (RX X.K):=by
 intro pins s σ H x v vl vu lo hi sl Q I rx hs pl pu h;obtain⟨a,xs,rfl,hx,hw,q⟩:=h;cases rx;obtain⟨its,r,ht,hz⟩:=I.tuple hx;have hlen:its.toArray.size=xs.length:=by rw[Ai];exact r.length.symm
 refine⟨"tuple",_,A0.lookup,ht.typeIs,?_⟩;refine HT.um ht hs pl pu (by rw[hlen];exact hw) ?_ (by rw[hlen];exact hz)
 rw[hlen];refine⟨.c s.heap.objs.size,_,I.laid (t':=s.toks) (o:=.c (qr xs lo hi)) (λb ob q=>lp _ q) (Ah _) ?_,rfl,q _ (I.B.fresh (Ah _))⟩;exact⟨Ay (si xs lo hi) hz,_,(r.drop (HT.sIx xs.length 0 lo)).take (HT.sIx xs.length xs.length hi-HT.sIx xs.length 0 lo),tY.new _ _⟩
def T7(K:Ac):R2:=λx y H Q=>∃a b xs ys,x=.c a/\y=.c b/\SqT K H a xs/\SqT K H b ys/\xs≠[]/\xs.length+ys.length<=Am /\
 (ys=[]->Q (.c a) H)/\(ys≠[]->∀p,H p=none->Q (.c p) (upd H p (.c (xs++ys))))
theorem Vals.ur(r:Vals xs us):us=[]↔xs=[]:=by
 cases r with
 |nil=>simp
 |cons _ _=>simp
theorem Z4:OpR X (Bu .Add) (T7 X.K):=by
 intro pins s σ H x y v u Q I rx ry h;obtain⟨a,b,xs,ys,rfl,rfl,ha,hb,hx,hz,q1,q2⟩:=h;cases rx;cases ry;obtain⟨its,r1,p1,_⟩:=I.tuple ha;obtain⟨its2,r2,p2,_⟩:=I.tuple hb;refine HT.ao p1 p2 (λz=>hx (r1.ur.mp z)) (λz=>⟨.c a,H,I,rfl,q1 (r2.ur.mp z)⟩) (λz=>?_) (by rw[<-r1.length,<-r2.length];exact hz)
 refine⟨.c s.heap.objs.size,_,I.laid (t':=s.toks) (o:=.c (xs++ys)) (λb ob q=>lp _ q) (Ah _) ?_,rfl,q2 (λw=>z (r2.ur.mpr w)) _ (I.B.fresh (Ah _))⟩;exact⟨by rw[Au];exact hz,_,r1.append r2,tY.new _ _⟩
end
noncomputable def ixN(n:Nat)(i:Int):Option Nat:=if 0<=i then (if i<n then some i.toNat else none) else if -(n:Int)<=i then some (i+n).toNat else none
def atI{α:Type}(xs:List α)(i:Int):Option α:=(ixN xs.length i).bind λj=>xs[j]?
theorem jz(h:ixN n i=some j):seqIndex? i n=some j/\j<n∧-(n:Int)<=i/\i<n:=by
 unfold ixN at h;by_cases h0:0<=i
 . rw[if_pos h0]at h
   by_cases h1:i<n
   . rw[if_pos h1]at h
     have e:i.toNat=j:=AR h;exact⟨by rw[seqIndex_of h0 h1,e],by omega,by omega,h1⟩
   . rw[if_neg h1]at h;cases h
 . rw[if_neg h0]at h
   by_cases h1:-(n:Int)<=i
   . rw[if_pos h1]at h
     have e:(i+n).toNat=j:=AR h;exact⟨by rw[seqIndex_neg (by omega) h1,e],by omega,h1,by omega⟩
   . rw[if_neg h1]at h;cases h
theorem oP(h:atI xs i=some v):∃j,seqIndex? i xs.length=some j/\xs[j]?=some v/\j<xs.length∧-(xs.length:Int)<=i/\i<xs.length:=by
 unfold atI at h;cases e:ixN xs.length i with
 |none=>rw[e]at h;cases h
 |some j=>
  rw[e]at h;obtain⟨h1,h2,h3,h4⟩:=jz e;exact⟨j,h1,h,h2,h3,h4⟩
theorem rJ{xs}{j:Nat}{v:α}(h:xs[j]?=some v):atI xs (j:Int)=some v:=by
 have hj:j<xs.length:=(Aw.mp h).1;have e:ixN xs.length (j:Int)=some j:=by unfold ixN;rw[if_pos (by omega),if_pos (by omega)];simp
 unfold atI;rw[e];exact h
def jX(b:Expr):Prop:=∀o i,subscripted b false o i=operate [o,i] (getItem o i)
def IxR(X:Cx)(r:R2):Prop:=
 ∀(value slice:Expr) (pins:List (Addr × Obj)) (s:Shared) (σ:St) (H:Hp) (x y:V) (v u:Value) (Q:VK),Inv X pins σ H s->RelV x v->RelV y u->r x y H Q ->
  subscripted slice false v u=operate [v,u] (getItem v u)->wpAny (model X.f X.w) X.A (E7 value slice v u) (EP X pins σ Q) X.i s
def MtR(X:Cx)(id:String)(r:V->List V->Hp->VK->Prop):Prop:=
 ∀(pins:List (Addr × Obj)) (s:Shared) (σ:St) (H:Hp) (x:V) (xs:List V) (v:Value) (us:List Value) (Q:VK),Inv X pins σ H s->RelV x v->Vals xs us->r x xs H Q ->
  wpAny (model X.f X.w) X.A (call (.builtin id) (v::us)) (EP X pins σ Q) X.i s
section
variable {X:Cx}{a b:Expr}{ta tb:TE}{pos:Pos}
theorem IxR.or(h:IxR X r)(h':IxR X r'):IxR X (λx y H Q=>r x y H Q\/r' x y H Q):=by
 intro value slice pins s σ H x y v u Q I rx ry q hs;rcases q with q|q
 . exact h value slice pins s σ H x y v u Q I rx ry q hs
 . exact h' value slice pins s σ H x y v u Q I rx ry q hs
theorem XX(hr:IxR X r)(ha:PE X a ta)(hb:PE X b tb)(hs:jX b):PE X (.Subscript a b pos) (tOp r ta tb):=by intro pins s σ H Q I h;exact Gu (Xw ha hb I h λv u s2 x y H2 I2 rx ry q=>hr a b pins s2 σ H2 x y v u Q I2 rx ry q (hs _ _))
def Vo(K:Ac):R2:=λx y H Q=>∃p xs i v,x=.c p/\y=.d i/\SqL K H p xs/\atI xs i=some v/\Q v H
def SD(K:Ac):R2:=λx y H Q=>∃p xs i v,x=.c p/\y=.d i/\SqT K H p xs/\atI xs i=some v/\Q v H
def T9:R2:=λx y H Q=>∃z i c,x=.e z/\y=.d i/\z.length<=Am/\atI z.cps.toList i=some c/\Q (.e ⟨#[c]⟩) H
theorem j4:IxR X (Vo X.K):=by
 intro value slice pins s σ H x y v u Q I rx ry h hs;obtain⟨p,xs,i,z,rfl,rfl,hq,he,q⟩:=h;cases rx;obtain⟨t,rfl⟩:=ry;obtain⟨its,r,pl,hz⟩:=I.list hq;obtain⟨j,h1,h2,h3,h4,h5⟩:=oP he;obtain⟨w,ew,rw'⟩:=r.get h2;have hl:=r.length;have hn:=uO;have fin:EP X pins σ Q w s:=⟨z,H,I,rw',q⟩;by_cases h0:0<=i
 . have hj:i.toNat=j:=by rw[seqIndex_of h0 h5]at h1;exact AR h1
   exact item_listR pl.isList h0 (by omega) (by rw[hj];simpa using ew) fin hs
 . have hj:(i+(its.toArray.size:Int)).toNat=j:=by
    rw[seqIndex_neg (by omega) h4]at h1
    rw[Ai,<-hl];exact AR h1
   exact subscriptTail_builtinR (x:=w) pl.isList.typeIs Fi.lookup
    (wpAny_getItem_list_neg (Q:=λr s'=>r=w/\EP X pins σ Q r s') pl.isList (by omega) (by rw[Ai]<;>omega) (by omega) (by rw[hj];simpa using ew) ⟨rfl,fin⟩) hs
theorem WS:IxR X (SD X.K):=by
 intro value slice pins s σ H x y v u Q I rx ry h hs;obtain⟨p,xs,i,z,rfl,rfl,hq,he,q⟩:=h;cases rx;obtain⟨t,rfl⟩:=ry;obtain⟨its,r,pl,hz⟩:=I.tuple hq;obtain⟨j,h1,h2,h3,h4,h5⟩:=oP he;obtain⟨w,ew,rw'⟩:=r.get h2;have hl:=r.length;have hn:=uO;have fin:EP X pins σ Q w s:=⟨z,H,I,rw',q⟩;exact subscriptTail_builtinR (x:=w) pl.typeIs slot_tuple_getitem.lookup
  (getItem_tuple (j:=j) (Q:=λr s'=>r=w/\EP X pins σ Q r s') pl (by omega) (by omega) (by rw[Ai,<-hl];exact h1) (by simpa using ew) ⟨rfl,fin⟩) hs
theorem WR:IxR X T9:=by
 intro value slice pins s σ H x y v u Q I rx ry h hs;obtain⟨z,i,c,rfl,rfl,hz,he,q⟩:=h;obtain⟨t,rfl⟩:=rx;obtain⟨t',rfl⟩:=ry;obtain⟨j,h1,h2,h3,h4,h5⟩:=oP he;have hl:z.cps.toList.length=z.length:=by simp[Str.length]
 rw[hl]at h1 h4 h5;have hn:=uO;exact tail_any (typeIs_str s z t) slot_str_getitem.lookup (getItem_str (c:=c) (by
  have e1:decide (i < -(2 ^ 63:Int))=false:=decide_eq_false (by omega)
  have e2:decide (i ≥ 2 ^ 63)=false:=decide_eq_false (by omega)
  rw[e1,e2,Bool.or_false]) (by rw[h1];simpa using h2) ⟨.e ⟨#[c]⟩,H,I.tok _,⟨_,rfl⟩,q⟩) hs
def rIx(K:Ac):R2:=λx y H Q=>Vo K x y H Q\/SD K x y H Q\/T9 x y H Q
theorem WQ:IxR X (rIx X.K):=j4.or (WS.or WR)
theorem kK(its:List Value)n j u:Fw (·.setIfInBounds j u) {cls:=.type "list",data:=.seq its.toArray n}={cls:=.type "list",data:=.seq (its.set j u).toArray n}:=by simp[Fw]
theorem Inv.lst{pins:List (Addr × Obj)}{σ:St}{H:Hp}{s:Shared}{p:Addr}{xs:List V}(I:Inv X pins σ H s)(h:H p=some (.b xs)) :
 ∃(its:List Value) (n:Nat),Vals xs its/\s.heap.get? p=some {cls:=.type "list",data:=.seq its.toArray n}/\xs.length<=Am:=by
 obtain⟨z,its,n,r,e⟩:=I.B p _ h;exact⟨its,n,r,e,z⟩
theorem Inv.W4{its its':List Value}(I:Inv X pins σ H s)(h:H p=some (.b xs))
 (ho:s.heap.get? p=some {cls:=.type "list",data:=.seq its.toArray n}) (hf:f {cls:=.type "list",data:=.seq its.toArray n}={cls:=.type "list",data:=.seq its'.toArray n'}) (r:Vals ys its') (hz:ys.length<=Am) t :
 Inv X pins σ (upd H p (.b ys)) {s with heap:=s.heap.update p f,toks:=t}:=by
 have e:(s.heap.update p f).get? p=some {cls:=.type "list",data:=.seq its'.toArray n'}:=by rw[BA f ho (by rw[hf]<;>rfl),hf]
 refine I.write (x:=p) (e:=p) (by rw[h];trivial) (.inl rfl) (λb u hb q=>(AO _ _ (A5 hb)).trans q) ⟨_,e⟩ ?_
 exact⟨hz,its',n',r,e⟩
def XZ:V->V->V->Hp->(Hp->Prop)->Prop:=λo i v H Q=>∃p xs k j,o=.c p/\i=.d k/\H p=some (.b xs)/\ixN xs.length k=some j/\Q (upd H p (.b (xs.set j v)))
theorem set_list:UM X XZ:=by
 intro pins s σ H o i v ov iv u Q I ro ri rv h;obtain⟨p,xs,k,j,rfl,rfl,hp,hj,q⟩:=h;cases ro;obtain⟨t,rfl⟩:=ri;obtain⟨its,n,r,ho,hz⟩:=I.lst hp;obtain⟨h1,h2,h3,h4⟩:=jz hj;have hl:=r.length;have hn:=uO;have I':Inv X pins σ (upd H p (.b (xs.set j v))) {s with heap:=s.heap.update p (Fw (·.setIfInBounds j u))}:=
  I.W4 hp ho (kK its n j u) (r.set rv j) (by rw[Cz];exact hz) s.toks
 by_cases h0:0<=k
 . have hk:k.toNat=j:=by rw[seqIndex_of h0 h4]at h1;exact AR h1
   exact PySem.W.ki_setAt ho h0 (by omega) (by rw[Ai,<-hl];exact h4) (by rw[hk];exact⟨_,I',q⟩)
 . have hk:(k+(its.toArray.size:Int)).toNat=j:=by
    rw[seqIndex_neg (by omega) h3]at h1
    rw[Ai,<-hl];exact AR h1
   exact PySem.W.ki_setBack ho (by omega) (by rw[Ai,<-hl];exact h3) (by omega) (by rw[hk];exact⟨_,I',q⟩)
theorem nQ lo hi n:(Bk lo hi none n).1=((HT.sIx n 0 lo:Nat):Int)/\(Bk lo hi none n).2.1=((HT.sIx n n hi:Nat):Int)/\(Bk lo hi none n).2.2=1:=by
 refine⟨?_,?_,rfl⟩
 . cases lo with
   |none=>simp[Bk,HT.sIx]
   |some i=>
    simp only[Bk,HT.sIx,FG,show (1:Int) > 0 by decide,if_true]
    by_cases h:i<0
    . simp only[h,if_true]<;>omega
    . simp only[h,if_false]<;>omega
 . cases hi with
   |none=>simp[Bk,HT.sIx]
   |some i=>
    simp only[Bk,HT.sIx,FG,show (1:Int) > 0 by decide,if_true]
    by_cases h:i<0
    . simp only[h,if_true]<;>omega
    . simp only[h,if_false]<;>omega
theorem qx(its:List Value)lo hi:GL its.toArray lo hi none=((its.drop (HT.sIx its.length 0 lo)).take (HT.sIx its.length its.length hi-HT.sIx its.length 0 lo)).toArray:=by obtain⟨h1,h2,h3⟩:=nQ lo hi its.toArray.size;unfold GL;rw[h1,h2,h3];simp only[sliceRange_one,pick_run,Ai]<;>rfl
def RW(K:Ac):V->Option Int->Option Int->Hp->VK->Prop:=λx lo hi H Q=>∃a xs,x=.c a/\SqL K H a xs/\∀p,H p=none->Q (.c p) (upd H p (.b (qr xs lo hi)))
theorem YW:SlR X (RW X.K):=by
 intro pins s σ H x v vl vu lo hi sl Q I rx hs pl pu h;obtain⟨a,xs,rfl,hx,q⟩:=h;cases rx;obtain⟨its,r,ht,hz⟩:=I.list hx;have hlen:=r.length;refine⟨"list",_,Fi.lookup,ht.isList.typeIs,?_⟩;refine FH ht.isList hs pl pu .none (by simp) ?_ (by rw[Ai]<;>omega)
 rw[qx,<-hlen];refine⟨.c s.heap.objs.size,_,I.laid (t':=s.toks) (o:=.b (qr xs lo hi)) (λb ob q=>lp _ q) (Ah _) ?_,rfl,q _ (I.B.fresh (Ah _))⟩;exact⟨Ay (si xs lo hi) hz,_,0,(r.drop (HT.sIx xs.length 0 lo)).take (HT.sIx xs.length xs.length hi-HT.sIx xs.length 0 lo),Az _ rfl⟩
noncomputable def vJ:V->Bool
 |.g=>true
 |.f _=>true
 |.d _=>true
 |.e _=>true
 |_=>false
noncomputable def eqV:V->V->Bool
 |.g,.g=>true
 |.f a,.f b=>a == b
 |.f a,.d b=>(if a then 1 else 0) == b
 |.d a,.f b=>a == (if b then 1 else 0)
 |.d a,.d b=>a == b
 |.e a,.e b=>a == b
 |_,_=>false
theorem WD(ry:RelV y u)(rx:RelV x v)(fy:vJ y=true)(fx:vJ x=true):Bh A s u v (eqV y x):=by
 cases y with
 |g=>
  cases ry;cases x with
  |g=>cases rx;exact Bh.same _
  |f b=>cases rx;exact Bh.none_bool b
  |d b=>obtain⟨t,rfl⟩:=rx;exact Bh.none_int b t
  |e b=>obtain⟨t,rfl⟩:=rx;exact Bh.none_str b t
  |_=>exact absurd (show false=true from fx) Ad
 |f a=>
  cases ry;cases x with
  |g=>cases rx;exact Bh.bool_none a
  |f b=>cases rx;exact Bh.bool_bool a b
  |d b=>obtain⟨t,rfl⟩:=rx;exact Bh.bool_int a b t
  |e b=>obtain⟨t,rfl⟩:=rx;exact Bh.bool_str a b t
  |_=>exact absurd (show false=true from fx) Ad
 |d a=>
  obtain⟨t',rfl⟩:=ry;cases x with
  |g=>cases rx;exact Bh.int_none a t'
  |f b=>cases rx;exact Bh.int_bool a t' b
  |d b=>obtain⟨t,rfl⟩:=rx;exact Bh.int_int a t' b t
  |e b=>obtain⟨t,rfl⟩:=rx;exact Bh.int_str a t' b t
  |_=>exact absurd (show false=true from fx) Ad
 |e a=>
  obtain⟨t',rfl⟩:=ry;cases x with
  |g=>cases rx;exact Bh.str_none a t'
  |f b=>cases rx;exact Bh.str_bool a t' b
  |d b=>obtain⟨t,rfl⟩:=rx;exact Bh.str_int a t' b t
  |e b=>obtain⟨t,rfl⟩:=rx;exact Bh.str_str a t' b t
  |_=>exact absurd (show false=true from fx) Ad
 |_=>exact absurd (show false=true from fy) Ad
def eqU(x:V)(u:Value):Bool:=match u with
 |.none=>eqV .g x
 |.bool b=>eqV (.f b) x
 |.int i _=>eqV (.d i) x
 |.str z _=>eqV (.e z) x
 |_=>false
theorem lj(r:RelV y u)(f:vJ y=true):eqU x u=eqV y x:=by
 cases y with
 |g=>cases r;rfl
 |f b=>cases r;rfl
 |d i=>obtain⟨t,rfl⟩:=r;rfl
 |e z=>obtain⟨t,rfl⟩:=r;rfl
 |_=>exact absurd (show false=true from f) Ad
theorem qL(rx:RelV x v)(fx:vJ x=true):∀{xs} {us},Vals xs us->xs.all vJ=true->∀u∈us,Bh A s u v (eqU x u)
 |_,_,.nil,_=>λu hu=>by cases hu
 |y::xs,u::us,.cons r t,f=>λu' hu=>by
  rw[D9,cf]at f;rcases An.mp hu with rfl|hu
  . rw[lj r f.1];exact WD r rx f.1 fx
  . exact qL rx fx t f.2 u' hu
theorem oS:yX X (.builtin "len") (λxs H Q=>∃p ys,xs=[.c p]/\(SqL X.K H p ys\/SqT X.K H p ys)/\Q (.d ys.length) H):=by
 intro pins s σ H xs us Q I r h;obtain⟨p,ys,rfl,hq,q⟩:=h;obtain⟨u,rfl,rx⟩:=vals1 r;cases rx;have hn:=uO;rcases hq with hq|hq
 . obtain⟨its,r',pl,hz⟩:=I.list hq
   have hlen:=r'.length;exact Calls.call_len_list pl.isList (by simp only[Ai]<;>omega) ⟨.d ys.length,H,I.tok _,⟨s.toks+1,by rw[Ai,hlen]⟩,q⟩
 . obtain⟨its,r',pl,hz⟩:=I.tuple hq
   have hlen:=r'.length;exact len_tuple pl (by simp only[Ai]<;>omega) ⟨.d ys.length,H,I.tok _,⟨s.toks+1,by rw[Ai,hlen]⟩,q⟩
theorem oU:yX X (.builtin "len") (λxs H Q=>∃z,xs=[.e z]/\z.length<=Am/\Q (.d z.length) H):=by intro pins s σ H xs us Q I r h;obtain⟨z,rfl,hz,q⟩:=h;obtain⟨u,rfl,t,rfl⟩:=vals1 r;have hn:=uO;exact len_str (by omega) ⟨.d z.length,H,I.tok _,⟨_,rfl⟩,q⟩
theorem uG:yX X (.type "tuple") (λxs H Q=>∃p ys,xs=[.c p]/\((SqL X.K H p ys/\∀l,H l=none->Q (.c l) (upd H l (.c ys)))\/(SqT X.K H p ys/\Q (.c p) H))):=by
 intro pins s σ H xs us Q I r h;obtain⟨p,ys,rfl,h⟩:=h;obtain⟨u,rfl,rx⟩:=vals1 r;cases rx;rcases h with⟨hq,q⟩|⟨hq,q⟩
 . obtain⟨its,r',pl,hz⟩:=I.list hq
   have hlen:=r'.length;refine call_tuple_list pl.isList (λh' kp=>?_) (by simp only[Ai]<;>omega)
   have I1:Inv X pins σ H {s with heap:=h'}:=I.kept (t':=s.toks) kp
   have I2:Inv X pins σ (upd H h'.objs.size (.c ys)) {s with heap:=h'.push {cls:=.type "tuple",data:=.seq its.toArray}}:=
    I1.laid (t':=s.toks) (λb o e=>lp _ e) (Ah _) (show z6 X.f X.w _ _ _ (.c ys) from ⟨hz,its,r',tY.new _ _⟩)
   exact⟨.c h'.objs.size,_,I2,rfl,q _ (I1.B.fresh (Ah _))⟩
 . obtain⟨its,r',pl,hz⟩:=I.tuple hq
   exact call_tuple_same pl ⟨.c p,H,I,rfl,q⟩
def tyV(K:Ac)(T:String)(x:V)(H:Hp):Prop:=match x with
 |.e _=>T="str"
 |.d _=>T="int"
 |.c p=>(T="list"/\∃xs,SqL K H p xs)\/(T="tuple"/\∃o,K.lookup p=some o/\o.cls=.type "tuple"/\o.dict=none) \/
  (T="dict"/\((∃kvs,H p=some (.i kvs))\/∃kvs,H p=some (.l kvs)))\/(T="set"/\∃S n,H p=some (.p S n))
 |_=>False
theorem UD(I:Inv X pins σ H s)(r:RelV x v)(ty:tyV X.K T x H) :
 s.TypeIs v T/\∀a,v=.ref a->∃ob,s.heap.get? a=some ob/\ob.dict=none:=by
 cases x with
 |e z=>
  obtain⟨t,rfl⟩:=r;cases (show T="str" from ty);exact⟨typeIs_str s z t,λ_ e=>nomatch e⟩
 |d i=>
  obtain⟨t,rfl⟩:=r;cases (show T="int" from ty);exact⟨C9 s i t,λ_ e=>nomatch e⟩
 |c p=>
  cases r;rcases ty with⟨rfl,xs,hq⟩|⟨rfl,o,hk,hc,hd⟩|⟨rfl,hk⟩|⟨rfl,S,n,hk⟩
  . obtain⟨its,_,pl,_⟩:=I.list hq
    refine⟨pl.isList.typeIs,λa e=>?_⟩;cases e;obtain⟨o,n,e,c,hd,_⟩:=pl;exact⟨o,e,hd⟩
  . refine⟨⟨o,I.kIn p o hk,hc⟩,λa e=>?_⟩
    cases e;exact⟨o,I.kIn _ o hk,hd⟩
  . have z:∃o,s.heap.get? p=some o/\o.ExactDict:=by
     rcases hk with⟨kvs,hk⟩|⟨kvs,hk⟩
     . obtain⟨_,_,_,_,o,_,_,e,ex,_⟩:=I.B p _ hk
       exact⟨o,e,ex⟩
     . obtain⟨_,_,_,_,o,_,_,e,ex,_⟩:=I.B p _ hk
       exact⟨o,e,ex⟩
    obtain⟨o,e,ex⟩:=z;refine⟨⟨o,e,ex.1⟩,λa e2=>?_⟩;cases e2;exact⟨o,e,ex.2.1⟩
  . obtain⟨o,_,_,_,e,ex,_⟩:=I.B p _ hk
    refine⟨⟨o,e,ex.1⟩,λa e2=>?_⟩;cases e2;exact⟨o,e,ex.2.1⟩
 |_=>exact Al ty
def tBM(K:Ac)(T:String)(r:V->List V->Hp->VK->Prop)(to:TE)(t:TA):TE:=λσ H Q=>to σ H λx H1=>tyV K T x H1/\t σ H1 λxs H2=>r x xs H2 Q
variable {o e:Expr}{es:List Expr}{to:TE}{t:TA}{name:Str}{apos cpos:Pos}{T id:String}{r:V->List V->Hp->VK->Prop}
theorem cx(pa:PlainAttrs T)(slot:Slot T name id)(hty:typeOf (.builtin id)=pure (.type "method_descriptor"))(hm:MtR X id r)(ho:PE X o to)(ha:PA X (e::es) t)
 (hbase:BY o name X.a (eval o X.a)=eval o X.a:=by rfl)
 (hfew:((backTo cpos (Av (e::es) X.a)).all (λx=>!x.1)&&(Gv cpos (EO [] X.a)).all (λx=>x.1.isSome)
  && decide ((e::es).length+([]:List Keyword).length+(if ([]:List Keyword).isEmpty then 0 else 1)<30))=true:=by rfl)
 (hline:(apos.endLine == cpos.line)=true:=by rfl) (hs:Av (e::es) X.a=(false,eval e X.a)::Av es X.a:=by rfl) (hplain:(backTo cpos (Av es X.a)).any (·.1)=false:=by rfl) :
 PE X (.Call (.Attribute o name apos) (e::es) [] cpos) (tBM X.K T r to t):=by
 intro pins s σ H Q I h;refine wpAny_Call_method_late hbase hfew hline rfl (thn (ho pins s σ H _ I h) λv s1 ⟨x,H1,I1,r1,ty,q1⟩=>?_);obtain⟨h1,h2⟩:=UD I1 r1 ty;refine⟨T,id,pa,slot,hty,h1,h2,?_⟩;have hA:=ha cpos pins s1 σ H1 _ I1 q1;rw[hs]at hA ⊢;refine Calls.callWith_builtin (by show (false||(backTo cpos (Av es X.a)).any (·.1))=false;rw[hplain]<;>rfl) (Dp ?_)
 exact thn hA λus s2 ⟨vs,H2,I2,r2,q2⟩=>hm pins s2 σ H2 x vs v us Q I2 r1 r2 q2
/- xs.append(e),list.index on a module's tuple .. are MtR facts of 06m -/
end
def MtM(X:Cx)(id:String)(r:V->List V->Hp->VK->Prop):Prop:=
 ∀(pins:List (Addr × Obj)) (s:Shared) (σ:St) (H:Hp) (x:V) (xs:List V) (v:Value) (us:List Value) (Q:VK),Inv X pins σ H s->RelV x v->Vals xs us->r x xs H Q ->
  wpAny (model X.f X.w) X.A (call (.builtin id) (v::us)) (EP X pins σ Q) X.i s
theorem Vals.one:∀{x} {us},Vals [x] us->∃u,us=[u]/\RelV x u
 |_,_,.cons r .nil=>⟨_,rfl,r⟩
theorem Vals.rep(h:Vals xs us):∀k:Nat,Vals (Ao k xs).flatten (Ao k us).flatten
 |0=>.nil
 |k+1=>by rw[BK,BK,Ci,Ci];exact Vals.append h (Vals.rep h k)
theorem foldl_rep its:∀k (acc:List Value),
 DR (λx1 x2=>x1++x2) acc.toArray (Ao k its.toArray)=(acc++(Ao k its).flatten).toArray
 |0,acc=>by simp
 |k+1,acc=>by
  have e:acc.toArray++its.toArray=(acc++its).toArray:=by simp
  have e2:(acc++its)++(Ao k its).flatten=acc++(Ao (k+1) its).flatten:=by rw[BK,Ci,BJ]
  rw[<-e2,<-foldl_rep its k (acc++its),<-e,BK,List.foldl_cons]
section
variable {X:Cx}{pins:List (Addr × Obj)}{σ:St}{H:Hp}{s:Shared}{l b:Addr}{xs ys zs:List V}
theorem Inv.RI{its its':List Value}(I:Inv X pins σ H s)(hH:H l=some (.b xs))
 (e:s.heap.get? l=some {cls:=.type "list",data:=.seq its.toArray n}) (hf:f its.toArray=its'.toArray) (hv:Vals ys its') (hz:ys.length<=Am) :
 Inv X pins σ (upd H l (.b ys)) {s with heap:=s.heap.update l (Fw f),toks:=t'}:=by
 have q:=PySem.IsL.update e f;rw[hf]at q;refine I.write (x:=l) (e:=l) (by rw[hH];exact trivial) (.inl rfl) (λb' u hb hu=>(AO s.heap (Fw f) (A5 hb)).trans hu) ⟨_,q⟩ ?_
 exact⟨hz,its',_,hv,q⟩
theorem Inv.TC(I:Inv X pins σ H s)(hv:Vals ys its)(hz:ys.length<=Am) :
 Inv X pins σ (upd H s.heap.objs.size (.b ys)) {s with heap:=s.heap.push {cls:=.type "list",data:=.seq its.toArray},toks:=t'}:=
 I.laid (λ_ _ q=>lp _ q) (Ah _) ⟨hz,its,0,hv,Az _ rfl⟩
theorem Inv.fresh(I:Inv X pins σ H s):H s.heap.objs.size=none:=I.B.fresh (Ah _)
theorem Inv.Zr(I:Inv X pins σ H s)(hH:H l=some (.b xs)):xs.length<=Am/\∃its n,Vals xs its/\xs.length=its.length/\s.heap.get? l=some {cls:=.type "list",data:=.seq its.toArray n}:=by obtain⟨z,its,n,r,e⟩:=I.B l _ hH;exact⟨z,its,n,r,r.length,e⟩
theorem cN(h:n<=Am):DI n=false:=by unfold DI;exact decide_eq_false (by omega)
end
section
variable {X:Cx}
def iK:V->List V->Hp->VK->Prop:=λx vs H Q=>∃l xs y,x=.c l/\vs=[y]/\H l=some (.b xs)/\xs.length<Am/\Q .g (upd H l (.b (xs++[y])))
theorem pU:MtM X "list.append" iK:=by
 intro pins s σ H x vs v us Q I rx rv h;obtain⟨l,xs,y,rfl,rfl,hH,hz,q⟩:=h;cases rx;obtain⟨u,rfl,ru⟩:=rv.one;obtain⟨z,its,n,r,hl,e⟩:=I.Zr hH;refine Cp F.slot_list_append ⟨_,e,rfl⟩ F.entry_list_append (F.args_list_append_2 _ _) (PySem.list_append l its.toArray n u (by rw[Ai];omega)) ⟨e,?_⟩
 refine⟨.g,_,I.RI (its':=its++[u]) hH e (by simp) (r.append (.cons ru .nil)) ?_,rfl,q⟩
 rw[Au,List.length_singleton];omega
def YR:R2:=λx y H Q=>∃l b xs zs,x=.c l/\y=.c b/\H l=some (.b xs)/\H b=some (.b zs)/\xs.length+zs.length<=Am/\∀p,H p=none->Q (.c p) (upd H p (.b (xs++zs)))
theorem kX:OpR X (Bu .Add) YR:=by
 intro pins s σ H x y v u Q I rx ry h;obtain⟨l,b,xs,zs,rfl,rfl,hH,hB,hz,q⟩:=h;cases rx;cases ry;obtain⟨z,its,n,r,hl,e⟩:=I.Zr hH;obtain⟨z2,its2,n2,r2,hl2,e2⟩:=I.Zr hB;refine PySem.P.add_list e e2 ?_ (by rw[Ai,Ai];omega)
 have ea:its.toArray++its2.toArray=(its++its2).toArray:=by simp
 rw[ea];exact⟨.c _,_,I.TC (t':=s.toks) (r.append r2) (by rw[Au];omega),rfl,q _ I.fresh⟩
def RT:R2:=λx y H Q=>∃l k xs,x=.c l/\y=.d k/\H l=some (.b xs)∧-(2 ^ 63)<=k/\k<2 ^ 63/\xs.length*k.toNat<=Am /\
 ∀p,H p=none->Q (.c p) (upd H p (.b (Ao k.toNat xs).flatten))
theorem len_rep{α:Type}(xs:List α)k:(Ao k xs).flatten.length=k*xs.length:=by
 induction k with
 |zero=>simp
 |succ k ih=>rw[BK,Ci,Au,ih,Nat.succ_mul,Nat.add_comm]
theorem VG:OpR X (Bu .Mult) RT:=by
 intro pins s σ H x y v u Q I rx ry h;obtain⟨l,k,xs,rfl,rfl,hH,h1,h2,hz,q⟩:=h;cases rx;obtain⟨t,rfl⟩:=ry;obtain⟨z,its,n,r,hl,e⟩:=I.Zr hH;have hlen:its.toArray.size*k.toNat<=Am:=by rw[Ai,<-hl];exact hz
 have hcap:¬its.toArray.size*k.toNat > (2 ^ 63-1)/8:=by
  have:(Am:Nat)<=(2 ^ 63-1)/8:=by decide
  omega
 have hfit:¬(!Builtin.List.listFitsIndex k)=true:=by rw[fitsIndex_both h1 h2];exact Ad
 have hlong:¬DI (its.toArray.size*k.toNat)=true:=by rw[cN hlen];exact Ad
 have hnew:DR (λx1 x2=>x1++x2) #[] (Ao (if its.toArray.isEmpty=true then 0 else k.toNat) its.toArray)=(Ao k.toNat its).flatten.toArray:=by
  have f0:∀m:Nat,DR (λx1 x2=>x1++x2) #[] (Ao m its.toArray)=(Ao m its).flatten.toArray:=λm=>by have:=foldl_rep its m [];rw[Ew]at this;exact this
  rw[f0];cases its with
  |nil=>simp
  |cons a r'=>rw[if_neg (by simp)]
 refine CL (T:="list") (U:="int") (by decide) ⟨_,e,rfl⟩ (λs'=>C9 s' k t) noFill_list_mul Ey Ce repeat_list Ec.lookup
  (Cp Ce (C9 s k t) Ed (D2 _ _) (int___rmul___int_list k t l its.toArray n)
   ⟨e,rfl,⟨_,e,rfl⟩,Cp F.slot_list_mul ⟨_,e,rfl⟩ F.entry_list_mul (F.args_list_mul_2 _ _) (AutoListH.list___mul___list_int_3 l its.toArray n k t hfit hcap hlong) ⟨e,?_⟩⟩)
 rw[hnew];exact⟨.c _,_,I.TC (t':=s.toks) (r.rep k.toNat) (by rw[len_rep,Ez];exact hz),rfl,q _ I.fresh⟩
end
end L2
namespace Att
open PySem PySem.W PySem.Calls PyProof.Rows
theorem rC:∀ns vs,WellAll P h vs (ns.map WData.int)->IntsAre vs ns:=by
 intro ns;induction ns with
 |nil=>
  intro vs w;rw[FI]at w;cases w;exact .nil
 |cons n ns ih=>
  intro vs w;rw[A1]at w;cases w with
  |cons a b=>
   cases a;exact .cons _ _ (ih _ b)
theorem g9{l:OpenLaw}(hn:l.most=some n)
 (hpre:l.row.toRowW.claim.pre args=true) (hwl:WellAll P h vals args) :
 ∃a vs ns,vals=[AF a]/\args=[WData.list (ns.map WData.int)]/\h.get? a=some {cls:=.type "list",data:=.seq vs.toArray}/\IntsAre vs ns/\ns.length<=n:=by
 have hsh:WShape.hasAll [] args [.list .int]=true:=(pre_splitW hpre).1;have hc:l.pre.holds [] {args:=args}=true:=(pre_splitW hpre).2;obtain⟨d,r,rfl,h1,h2⟩:=hasAllW_cons hsh;obtain rfl:=hasAllW_nil h2;obtain⟨xs,rfl,h3⟩:=hasW_list h1;obtain⟨ns,rfl⟩:=items_int h3;have hlen:ns.length<=n:=by
  unfold OpenLaw.pre at hc;have h4:(WTm.not (.lt (.lit (.int (n:Int))) (.len (.arg 0)))).holds [] {args:=[.list (ns.map .int)]}=true:=by have h4:=(holds_andW hc).1;rw[hn]at h4;exact h4
  have h5:=condW_of h4 (w_not (w_lt w_lit (w_len_list (w_arg rfl))));rw[Ae]at h5;refine Nat.le_of_not_lt λq=>?_;have q':(n:Int)<((ns.length:Nat):Int):=by omega
  first
   |(rw[decide_eq_true q']at h5;exact absurd h5 (by decide))
   |(simp at h5;omega)
 cases hwl with
 |cons w1 w2=>
  cases w2;cases w1 with
  |list ho hall=>exact⟨_,_,ns,rfl,rfl,ho,rC ns _ hall,hlen⟩
theorem gq(l:OpenLaw)args:l.row.toRowW.claim.post args (.bool true) args=true:=
 postW_of (r:=l.row.toRowW) (X:=(true == true))
  (show WShape.has [] (.bool true) .bool=true by first|rfl|decide|simp[WShape.has,WShape.arms,WShape.armsAll])
  (show (WTm.eq .res (.lit (.bool true))).value [] {args:=args,res:=some (.bool true),after:=args}=some (.bool (true == true)) from w_eq_bool (w_res rfl) w_lit) rfl
theorem ni{l:OpenLaw}
 (hn:l.most=some n) (hdf:d.params.defaults=[])
 (call:∀w s₀ s₁ mg mb fa o pm cd doc a vs ns,
  Ground q loose [] XP w s₀ mg mb s₁.heap->YP w s₁.heap ->
  s₁.heap.get? fa=some o->o.data=.func (docDef d.name d.params d.body d.scope pm cd doc)->s₁.heap.CodeRec cd d.name->mg d.name=some (.ref fa) ->
  s₁.heap.get? a=some {cls:=.type "list",data:=.seq vs.toArray}->IntsAre vs ns->ns.length<=n->s₁.gens=#[] ->
  codeAny (model l.prog w) callerA (.call (.ref fa) ⟨[.ref a],[]⟩) (λr s'=>r=.ok (.ret (.bool true))/\OldK s₁.heap s'.heap/\s'.os=s₁.os/\AllBare s'.gens) s₁) :
 WalkO q loose XP YP l.row.toRowW d [] (λf vs=>PySem.call f vs):=by
 intro w s₀ s₁ mg mb G Y fa o pm cd doc dV kV ho hd hcd hD hmg hg args vals as hpre hlay hrd hwl hlo;obtain rfl:dV=.none:=Dflts.none hD hdf;obtain rfl:kV=.none:=Dflts.noKw hD;obtain⟨a,vs,ns,rfl,rfl,hobj,hints,hlen⟩:=g9 hn hpre hwl;refine enter_call (Ct (call w s₀ s₁ mg mb fa o pm cd doc a vs ns G Y ho (fd_plain hd) hcd hmg hobj hints hlen hg) λr s' hq=>?_);obtain⟨rfl,h2,h3,h4⟩:=hq;exact⟨.inl ⟨.bool true,.bool true,[],rfl,λ_=>rfl,.bool true,gq l _,λ_=>⟨Fj,λ_ hm=>(nomatch hm)⟩⟩,h2,h3,h4⟩
end Att
namespace L2
open PySem PySem.Spec PyProof.Rows
theorem oC:∀{vs} {ns},IntsAre vs ns->Vals (ns.map V.d) vs
 |_,_,.nil=>.nil
 |_,_,.cons n t h=>.cons ⟨t,rfl⟩ (oC h)
end L2
/- THE LAST THEOREM (shape;LID,My.* are yours):
   My.Adr: a structure of the addresses that your layer names (classes,functions);My.Txt K t: a structure (Prop) of the equations over K;
   My.txt_mk:{K} {implicit addresses ..} (e1:nsIn K AJ "law"=some (some (.ref f))) (e2:K.lookup f=some ⟨oc,od,.func (fnOf "law" "law" params body scope dV kV doc pm an cdv ct),sl⟩) (e3:codeIn K cdv "law"=true) ..:∃t,My.Txt K t
(the tactic k_is has no namespace: write k_is) -/
namespace L2
open PySem PySem.Spec PyProof.Rows
noncomputable def yp(s:Stmt):Ef:=match s with
 |.FunctionDef _ a _ _ _ _ _ _ _ _=>a
 |_=>{posonlyargs:=[],args:=[],vararg:=none,kwonlyargs:=[],kw_defaults:=[],kwarg:=none,defaults:=[]}
noncomputable def zw(s:Stmt):List Stmt:=match s with
 |.FunctionDef _ _ b _ _ _ _ _ _ _=>b
 |_=>[]
noncomputable def zC(s:Stmt):Scope:=match s with
 |.FunctionDef _ _ _ _ _ _ sc _ _ _=>sc
 |_=>{kind:=.function,names:=[],isGenerator:=false,isCoroutine:=false}
abbrev CX0:CXT:=λ_ _ _ _ _ _=>False
abbrev E0:XK:=λ_ _ _=>False
theorem XW:Passes CX0 X E0:=λ_ _ _ _ _ _ _ h=>h.elim
structure Fun(K:Ac)(x qual:Str)(st:Stmt)(f:Addr)(fd:Bn):Prop where
 a:∃(oc:Value) (od:Option Addr) (kV doc pm:Value) (an:Option Addr) (cdv ct:Value) (osl:Array (Option Value)),
  fd=Bz x qual (yp st) (zw st) (zC st) .none kV doc pm an cdv ct/\K.lookup f=some ⟨oc,od,.func fd,osl⟩/\BR K cdv qual=true
 b:BS K (.ref f)=true
section
variable {P:Program}{w:World}{K:Ac}{mg:Str->Option Value}{base:Heap}
theorem Fun.binds{st}{ps:List Str}(F:Fun K x qual st f fd)
 (h:∀kV doc pm an cdv ct (us:List Value),us.length=ps.length->Gs (Bz x qual (yp st) (zw st) (zC st) .none kV doc pm an cdv ct) ⟨us,[]⟩=pure (ps.zip us)):Binds K fd ps []:=by
 obtain⟨oc,od,kV,doc,pm,an,cdv,ct,osl,rfl,lk,hcd⟩:=F.a;exact .all (h kV doc pm an cdv ct)
theorem ey{st}{kV doc pm cdv ct}(l:K.lookup f=some ⟨oc,od,.func (Bz x qual (yp st) (zw st) (zC st) .none kV doc pm an cdv ct),osl⟩)
 (c:BR K cdv qual=true) (k:BS K (.ref f)=true):Fun K x qual st f (Bz x qual (yp st) (zw st) (zC st) .none kV doc pm an cdv ct):=⟨⟨oc,od,kV,doc,pm,an,cdv,ct,osl,rfl,l,c⟩,k⟩
end
theorem rE{A B:Prop}(h:B):if false=true then A else B:=by rw[if_neg Ad];exact h
theorem qt{A B:Prop}(h:A):if true=true then A else B:=by rw[if_pos rfl];exact h
def xp(H H':Hp):Prop:=∀b o,H b=some o->H' b=some o
theorem xp.refl H:xp H H:=λ_ _ h=>h
theorem xp.trans(a:xp H H1)(b:xp H1 H2):xp H H2:=λc o h=>b c o (a c o h)
end L2
end
section
namespace M
open PySem
noncomputable def el(a n:Nat)(f:a=n->Bool):Bool:=if h:a=n then f h else false
theorem zx(h:el a n f=true):∃hc,f hc=true:=by
 unfold el at h;by_cases hc:a=n
 . rw[dif_pos hc]at h;exact⟨hc,h⟩
 . rw[dif_neg hc]at h;cases h
def Y5(e:Expr)(k:BoolOp->List Expr->Pos->Bool):Bool:=el e.ctorIdx 0 λh=>Expr.BoolOp.elim (motive_1:=λ_=>Bool) e h k
theorem iz(h:Y5 e k=true):∃o xs p,e=.BoolOp o xs p/\k o xs p=true:=by obtain⟨hc,h⟩:=zx h;obtain⟨o,xs,p,rfl⟩:∃o xs p,e=.BoolOp o xs p:=Expr.BoolOp.elim (motive_1:=λe=>∃o xs p,e=Expr.BoolOp o xs p) e hc λo xs p=>⟨o,xs,p,rfl⟩;exact⟨o,xs,p,rfl,h⟩
def UZ(e:Expr)(k:Expr->Operator->Expr->Pos->Bool):Bool:=el e.ctorIdx 2 λh=>Expr.BinOp.elim (motive_1:=λ_=>Bool) e h k
theorem nv(h:UZ e k=true):∃l o r p,e=.BinOp l o r p/\k l o r p=true:=by obtain⟨hc,h⟩:=zx h;obtain⟨l,o,r,p,rfl⟩:∃l o r p,e=.BinOp l o r p:=Expr.BinOp.elim (motive_1:=λe=>∃l o r p,e=Expr.BinOp l o r p) e hc λl o r p=>⟨l,o,r,p,rfl⟩;exact⟨l,o,r,p,rfl,h⟩
def eUn(e:Expr)(k:UnaryOp->Expr->Pos->Bool):Bool:=el e.ctorIdx 3 λh=>Expr.UnaryOp.elim (motive_1:=λ_=>Bool) e h k
theorem ZL(h:eUn e k=true):∃o x p,e=.UnaryOp o x p/\k o x p=true:=by obtain⟨hc,h⟩:=zx h;obtain⟨o,x,p,rfl⟩:∃o x p,e=.UnaryOp o x p:=Expr.UnaryOp.elim (motive_1:=λe=>∃o x p,e=Expr.UnaryOp o x p) e hc λo x p=>⟨o,x,p,rfl⟩;exact⟨o,x,p,rfl,h⟩
def Ud(e:Expr)(k:Ef->Expr->Scope->Pos->Bool):Bool:=el e.ctorIdx 4 λh=>Expr.Lambda.elim (motive_1:=λ_=>Bool) e h k
theorem eY(h:Ud e k=true):∃a b c p,e=.Lambda a b c p/\k a b c p=true:=by obtain⟨hc,h⟩:=zx h;obtain⟨a,b,c,p,rfl⟩:∃a b c p,e=.Lambda a b c p:=Expr.Lambda.elim (motive_1:=λe=>∃a b c p,e=Expr.Lambda a b c p) e hc λa b c p=>⟨a,b,c,p,rfl⟩;exact⟨a,b,c,p,rfl,h⟩
def Ub(e:Expr)(k:List (Option Expr)->List Expr->Pos->Bool):Bool:=el e.ctorIdx 6 λh=>Expr.Dict.elim (motive_1:=λ_=>Bool) e h k
theorem eU(h:Ub e k=true):∃ks vs p,e=.Dict ks vs p/\k ks vs p=true:=by obtain⟨hc,h⟩:=zx h;obtain⟨ks,vs,p,rfl⟩:∃ks vs p,e=.Dict ks vs p:=Expr.Dict.elim (motive_1:=λe=>∃ks vs p,e=Expr.Dict ks vs p) e hc λks vs p=>⟨ks,vs,p,rfl⟩;exact⟨ks,vs,p,rfl,h⟩
def Ua(e:Expr)(k:Expr->List E8->Scope->Pos->Bool):Bool:=el e.ctorIdx 8 λh=>EX (motive_1:=λ_=>Bool) e h k
theorem eT(h:Ua e k=true):∃x gs sc p,e=.ListComp x gs sc p/\k x gs sc p=true:=by obtain⟨hc,h⟩:=zx h;obtain⟨x,gs,sc,p,rfl⟩:∃x gs sc p,e=.ListComp x gs sc p:=EX (motive_1:=λe=>∃x gs sc p,e=Expr.ListComp x gs sc p) e hc λx gs sc p=>⟨x,gs,sc,p,rfl⟩;exact⟨x,gs,sc,p,rfl,h⟩
def WC(e:Expr)(k:Expr->List CmpOp->List Expr->Pos->Bool):Bool:=el e.ctorIdx 15 λh=>Fm (motive_1:=λ_=>Bool) e h k
theorem ny(h:WC e k=true):∃l os rs p,e=.Compare l os rs p/\k l os rs p=true:=by obtain⟨hc,h⟩:=zx h;obtain⟨l,os,rs,p,rfl⟩:∃l os rs p,e=.Compare l os rs p:=Fm (motive_1:=λe=>∃l os rs p,e=Expr.Compare l os rs p) e hc λl os rs p=>⟨l,os,rs,p,rfl⟩;exact⟨l,os,rs,p,rfl,h⟩
def eR(e:Expr)(k:Expr->List Expr->List Keyword->Pos->Bool):Bool:=el e.ctorIdx 16 λh=>Expr.Call.elim (motive_1:=λ_=>Bool) e h k
theorem pO(h:eR e k=true):∃f xs ks p,e=.Call f xs ks p/\k f xs ks p=true:=by obtain⟨hc,h⟩:=zx h;obtain⟨f,xs,ks,p,rfl⟩:∃f xs ks p,e=.Call f xs ks p:=Expr.Call.elim (motive_1:=λe=>∃f xs ks p,e=Expr.Call f xs ks p) e hc λf xs ks p=>⟨f,xs,ks,p,rfl⟩;exact⟨f,xs,ks,p,rfl,h⟩
def Uc(e:Expr)(k:Expr->Int->Option Expr->Pos->Bool):Bool:=el e.ctorIdx 17 λh=>FJ (motive_1:=λ_=>Bool) e h k
theorem eW(h:Uc e k=true):∃x c s p,e=.FormattedValue x c s p/\k x c s p=true:=by obtain⟨hc,h⟩:=zx h;obtain⟨x,c,s,p,rfl⟩:∃x c s p,e=.FormattedValue x c s p:=FJ (motive_1:=λe=>∃x c s p,e=Expr.FormattedValue x c s p) e hc λx c s p=>⟨x,c,s,p,rfl⟩;exact⟨x,c,s,p,rfl,h⟩
def eJn(e:Expr)(k:List Expr->Pos->Bool):Bool:=el e.ctorIdx 18 λh=>Gi.elim (motive_1:=λ_=>Bool) e h k
theorem ZF(h:eJn e k=true):∃xs p,e=.JoinedStr xs p/\k xs p=true:=by obtain⟨hc,h⟩:=zx h;obtain⟨xs,p,rfl⟩:∃xs p,e=.JoinedStr xs p:=Gi.elim (motive_1:=λe=>∃xs p,e=Gi xs p) e hc λxs p=>⟨xs,p,rfl⟩;exact⟨xs,p,rfl,h⟩
def ZD(e:Expr)(k:Const->Nat->Pos->Bool):Bool:=el e.ctorIdx 19 λh=>GD.elim (motive_1:=λ_=>Bool) e h k
theorem rm(h:ZD e k=true):∃c n p,e=.Constant c n p/\k c n p=true:=by obtain⟨hc,h⟩:=zx h;obtain⟨c,n,p,rfl⟩:∃c n p,e=.Constant c n p:=GD.elim (motive_1:=λe=>∃c n p,e=GD c n p) e hc λc n p=>⟨c,n,p,rfl⟩;exact⟨c,n,p,rfl,h⟩
def UY(e:Expr)(k:Expr->Str->Pos->Bool):Bool:=el e.ctorIdx 20 λh=>Gj.elim (motive_1:=λ_=>Bool) e h k
theorem eQ(h:UY e k=true):∃o x p,e=.Attribute o x p/\k o x p=true:=by obtain⟨hc,h⟩:=zx h;obtain⟨o,x,p,rfl⟩:∃o x p,e=.Attribute o x p:=Gj.elim (motive_1:=λe=>∃o x p,e=Gj o x p) e hc λo x p=>⟨o,x,p,rfl⟩;exact⟨o,x,p,rfl,h⟩
def ZJ(e:Expr)(k:Expr->Expr->Pos->Bool):Bool:=el e.ctorIdx 21 λh=>Gk.elim (motive_1:=λ_=>Bool) e h k
theorem rn(h:ZJ e k=true):∃l r p,e=.Subscript l r p/\k l r p=true:=by obtain⟨hc,h⟩:=zx h;obtain⟨l,r,p,rfl⟩:∃l r p,e=.Subscript l r p:=Gk.elim (motive_1:=λe=>∃l r p,e=Gk l r p) e hc λl r p=>⟨l,r,p,rfl⟩;exact⟨l,r,p,rfl,h⟩
def eName(e:Expr)(k:Str->Pos->Bool):Bool:=el e.ctorIdx 23 λh=>Ek.elim (motive_1:=λ_=>Bool) e h k
theorem yx(h:eName e k=true):∃x p,e=.Name x p/\k x p=true:=by obtain⟨hc,h⟩:=zx h;obtain⟨x,p,rfl⟩:∃x p,e=.Name x p:=Ek.elim (motive_1:=λe=>∃x p,e=Ek x p) e hc λx p=>⟨x,p,rfl⟩;exact⟨x,p,rfl,h⟩
def Ue(e:Expr)(k:List Expr->Pos->Bool):Bool:=el e.ctorIdx 24 λh=>Expr.List.elim (motive_1:=λ_=>Bool) e h k
theorem nz(h:Ue e k=true):∃xs p,e=.List xs p/\k xs p=true:=by obtain⟨hc,h⟩:=zx h;obtain⟨xs,p,rfl⟩:∃xs p,e=.List xs p:=Expr.List.elim (motive_1:=λe=>∃xs p,e=Expr.List xs p) e hc λxs p=>⟨xs,p,rfl⟩;exact⟨xs,p,rfl,h⟩
def ZK(e:Expr)(k:List Expr->Nat->Pos->Bool):Bool:=el e.ctorIdx 25 λh=>Expr.Tuple.elim (motive_1:=λ_=>Bool) e h k
theorem uf(h:ZK e k=true):∃xs n p,e=.Tuple xs n p/\k xs n p=true:=by obtain⟨hc,h⟩:=zx h;obtain⟨xs,n,p,rfl⟩:∃xs n p,e=.Tuple xs n p:=Expr.Tuple.elim (motive_1:=λe=>∃xs n p,e=Expr.Tuple xs n p) e hc λxs n p=>⟨xs,n,p,rfl⟩;exact⟨xs,n,p,rfl,h⟩
def Ug(e:Expr)(k:Option Expr->Option Expr->Option Expr->Pos->Bool):Bool:=el e.ctorIdx 26 λh=>Expr.Slice.elim (motive_1:=λ_=>Bool) e h k
theorem eZ(h:Ug e k=true):∃x y z p,e=.Slice x y z p/\k x y z p=true:=by obtain⟨hc,h⟩:=zx h;obtain⟨x,y,z,p,rfl⟩:∃x y z p,e=.Slice x y z p:=Expr.Slice.elim (motive_1:=λe=>∃x y z p,e=Expr.Slice x y z p) e hc λx y z p=>⟨x,y,z,p,rfl⟩;exact⟨x,y,z,p,rfl,h⟩
def SQ(e:Stmt)(k:Option Expr->Pos->Bool):Bool:=el e.ctorIdx 3 λh=>Stmt.Return.elim (motive_2:=λ_=>Bool) e h k
theorem my(h:SQ e k=true):∃o p,e=.Return o p/\k o p=true:=by obtain⟨hc,h⟩:=zx h;obtain⟨o,p,rfl⟩:∃o p,e=.Return o p:=Stmt.Return.elim (motive_2:=λe=>∃o p,e=Stmt.Return o p) e hc λo p=>⟨o,p,rfl⟩;exact⟨o,p,rfl,h⟩
def YV(e:Stmt)(k:List Expr->Expr->Pos->Bool):Bool:=el e.ctorIdx 5 λh=>Stmt.Assign.elim (motive_2:=λ_=>Bool) e h k
theorem u7(h:YV e k=true):∃ts v p,e=.Assign ts v p/\k ts v p=true:=by obtain⟨hc,h⟩:=zx h;obtain⟨ts,v,p,rfl⟩:∃ts v p,e=.Assign ts v p:=Stmt.Assign.elim (motive_2:=λe=>∃ts v p,e=Stmt.Assign ts v p) e hc λts v p=>⟨ts,v,p,rfl⟩;exact⟨ts,v,p,rfl,h⟩
def SN(e:Stmt)(k:Expr->Expr->List Stmt->List Stmt->Pos->Bool):Bool:=el e.ctorIdx 9 λh=>Stmt.For.elim (motive_2:=λ_=>Bool) e h k
theorem bY(h:SN e k=true):∃t i b c p,e=.For t i b c p/\k t i b c p=true:=by obtain⟨hc,h⟩:=zx h;obtain⟨t,i,b,c,p,rfl⟩:∃t i b c p,e=.For t i b c p:=Stmt.For.elim (motive_2:=λe=>∃t i b c p,e=Stmt.For t i b c p) e hc λt i b c p=>⟨t,i,b,c,p,rfl⟩;exact⟨t,i,b,c,p,rfl,h⟩
def SR(e:Stmt)(k:Expr->List Stmt->List Stmt->Pos->Bool):Bool:=el e.ctorIdx 11 λh=>Stmt.While.elim (motive_2:=λ_=>Bool) e h k
theorem bZ(h:SR e k=true):∃c b d p,e=.While c b d p/\k c b d p=true:=by obtain⟨hc,h⟩:=zx h;obtain⟨c,b,d,p,rfl⟩:∃c b d p,e=.While c b d p:=Stmt.While.elim (motive_2:=λe=>∃c b d p,e=Stmt.While c b d p) e hc λc b d p=>⟨c,b,d,p,rfl⟩;exact⟨c,b,d,p,rfl,h⟩
def sIf(e:Stmt)(k:Expr->List Stmt->List Stmt->Pos->Bool):Bool:=el e.ctorIdx 12 λh=>Stmt.If.elim (motive_2:=λ_=>Bool) e h k
theorem iL(h:sIf e k=true):∃c a b p,e=.If c a b p/\k c a b p=true:=by obtain⟨hc,h⟩:=zx h;obtain⟨c,a,b,p,rfl⟩:∃c a b p,e=.If c a b p:=Stmt.If.elim (motive_2:=λe=>∃c a b p,e=Stmt.If c a b p) e hc λc a b p=>⟨c,a,b,p,rfl⟩;exact⟨c,a,b,p,rfl,h⟩
def sRs(e:Stmt)(k:Option Expr->Option Expr->Pos->Bool):Bool:=el e.ctorIdx 16 λh=>Stmt.Raise.elim (motive_2:=λ_=>Bool) e h k
theorem iN(h:sRs e k=true):∃a b p,e=.Raise a b p/\k a b p=true:=by obtain⟨hc,h⟩:=zx h;obtain⟨a,b,p,rfl⟩:∃a b p,e=.Raise a b p:=Stmt.Raise.elim (motive_2:=λe=>∃a b p,e=Stmt.Raise a b p) e hc λa b p=>⟨a,b,p,rfl⟩;exact⟨a,b,p,rfl,h⟩
def SM(e:Stmt)(k:Expr->Pos->Bool):Bool:=el e.ctorIdx 24 λh=>Stmt.Expr.elim (motive_2:=λ_=>Bool) e h k
theorem mx(h:SM e k=true):∃x p,e=.Expr x p/\k x p=true:=by obtain⟨hc,h⟩:=zx h;obtain⟨x,p,rfl⟩:∃x p,e=.Expr x p:=Stmt.Expr.elim (motive_2:=λe=>∃x p,e=Stmt.Expr x p) e hc λx p=>⟨x,p,rfl⟩;exact⟨x,p,rfl,h⟩
noncomputable def l1{α:Type}(xs:List α)(k:α->Bool):Bool:=match xs with
 |[x]=>k x
 |_=>false
theorem yt(h:l1 xs k=true):∃x,xs=[x]/\k x=true:=by
 cases xs with
 |nil=>cases h
 |cons x xs=>cases xs with
  |nil=>exact⟨x,rfl,h⟩
  |cons _ _=>cases h
noncomputable def lc{α:Type}(xs:List α)(k:α->List α->Bool):Bool:=match xs with
 |x::xs=>k x xs
 |[]=>false
theorem yV(h:lc xs k=true):∃x ys,xs=x::ys/\k x ys=true:=by
 cases xs with
 |nil=>cases h
 |cons x ys=>exact⟨x,ys,rfl,h⟩
theorem d9{xs}{k:α->α->Bool}(h:(lc xs λx ys=>l1 ys (k x))=true):∃x y,xs=[x,y]/\k x y=true:=by obtain⟨x,ys,rfl,h⟩:=yV h;obtain⟨y,rfl,h⟩:=yt h;exact⟨x,y,rfl,h⟩
noncomputable def o1{α:Type}(x:Option α)(k:α->Bool):Bool:=match x with
 |some x=>k x
 |none=>false
theorem qS(h:o1 x k=true):∃y,x=some y/\k y=true:=by
 cases x with
 |none=>cases h
 |some x=>exact⟨x,rfl,h⟩
theorem zR(h:(a&&b)=true):a=true/\b=true:=by
 cases a with
 |false=>cases h
 |true=>exact⟨rfl,h⟩
def eOp(u:UnaryOp)(e:Expr)(k:Expr->Bool):Bool:=eUn e λo x _=>decide (o=u)&&k x
theorem rM(h:eOp u e k=true):∃x p,e=.UnaryOp u x p/\k x=true:=by obtain⟨o,x,p,rfl,h2⟩:=ZL h;obtain⟨h1,h3⟩:=zR h2;cases of_decide_eq_true h1;exact⟨x,p,rfl,h3⟩
def eBl(u:BoolOp)(e:Expr)(k:Expr->List Expr->Bool):Bool:=Y5 e λo xs _=>decide (o=u)&&lc xs k
theorem oZ(h:eBl u e k=true):∃x xs p,e=.BoolOp u (x::xs) p/\k x xs=true:=by obtain⟨o,xs,p,rfl,h2⟩:=iz h;obtain⟨h1,h3⟩:=zR h2;cases of_decide_eq_true h1;obtain⟨x,ys,rfl,h4⟩:=yV h3;exact⟨x,ys,p,rfl,h4⟩
def eC1(e:Expr)(k:Expr->CmpOp->Expr->Bool):Bool:=WC e λl os rs _=>l1 os λo=>l1 rs λr=>k l o r
theorem oa(h:eC1 e k=true):∃l o r p,e=.Compare l [o] [r] p/\k l o r=true:=by obtain⟨l,os,rs,p,rfl,h⟩:=ny h;obtain⟨o,rfl,h⟩:=yt h;obtain⟨r,rfl,h⟩:=yt h;exact⟨l,o,r,p,rfl,h⟩
def eC2(e:Expr)(k:Expr->CmpOp->CmpOp->Expr->Expr->Bool):Bool:=WC e λl os rs _=>lc os λo os=>l1 os λo'=>lc rs λr rs=>l1 rs λr'=>k l o o' r r'
theorem jr(h:eC2 e k=true):∃l o o' r r' p,e=.Compare l [o,o'] [r,r'] p/\k l o o' r r'=true:=by obtain⟨l,os,rs,p,rfl,h⟩:=ny h;obtain⟨o,os,rfl,h⟩:=yV h;obtain⟨o',rfl,h⟩:=yt h;obtain⟨r,rs,rfl,h⟩:=yV h;obtain⟨r',rfl,h⟩:=yt h;exact⟨l,o,o',r,r',p,rfl,h⟩
def eD0(e:Expr):Bool:=Ub e λks vs _=>ks.isEmpty&&vs.isEmpty
theorem js(h:eD0 e=true):∃p,e=.Dict [] [] p:=by obtain⟨ks,vs,p,rfl,h⟩:=eU h;obtain⟨h1,h2⟩:=zR h;rw[AV.mp h1,AV.mp h2];exact⟨p,rfl⟩
def eCN(e:Expr)(k:Str->List Expr->Bool):Bool:=eR e λf xs ks _=>ks.isEmpty&&eName f λx _=>k x xs
theorem xC(h:eCN e k=true):∃x p xs pos,e=.Call (.Name x p) xs [] pos/\k x xs=true:=by obtain⟨f,xs,ks,pos,rfl,h⟩:=pO h;obtain⟨h1,h⟩:=zR h;obtain⟨x,p,rfl,h⟩:=yx h;rw[AV.mp h1];exact⟨x,p,xs,pos,rfl,h⟩
def eMt(e:Expr)(k:Expr->Str->Pos->Expr->Pos->Bool):Bool:=eR e λf xs ks cp=>ks.isEmpty&&UY f λob x ap=>l1 xs λy=>k ob x ap y cp
theorem ZG(h:eMt e k=true):∃ob x ap y cp,e=.Call (.Attribute ob x ap) [y] [] cp/\k ob x ap y cp=true:=by obtain⟨f,xs,ks,pos,rfl,h⟩:=pO h;obtain⟨h1,h⟩:=zR h;obtain⟨ob,x,ap,rfl,h⟩:=eQ h;obtain⟨y,rfl,h⟩:=yt h;rw[AV.mp h1];exact⟨ob,x,ap,y,pos,rfl,h⟩
def eSS(e:Expr)(k:Expr->Option Expr->Option Expr->Option Expr->Bool):Bool:=ZJ e λl r _=>Ug r λx y z _=>k l x y z
theorem ZH(h:eSS e k=true):∃l x y z p pos,e=.Subscript l (.Slice x y z p) pos/\k l x y z=true:=by obtain⟨l,r,pos,rfl,h⟩:=rn h;obtain⟨x,y,z,p,rfl,h⟩:=eZ h;exact⟨l,x,y,z,p,pos,rfl,h⟩
noncomputable def gC(g:E8)(k:Expr->Expr->List Expr->Bool):Bool:=decide (g.is_async=0)&&k g.target g.iter g.ifs
theorem WI(h:gC g k=true):∃t i f,g=⟨t,i,f,0⟩/\k t i f=true:=by obtain⟨t,i,f,a⟩:=g;obtain⟨h1,h⟩:=zR h;have h1:a=0:=of_decide_eq_true h1;subst h1;exact⟨t,i,f,rfl,h⟩
def eG1(e:Expr)(k:Expr->Expr->Expr->List Expr->Scope->Bool):Bool:=Ua e λx gs sc _=>l1 gs λg=>gC g λt i f=>k x t i f sc
theorem rL(h:eG1 e k=true):∃x t i f sc p,e=.ListComp x [⟨t,i,f,0⟩] sc p/\k x t i f sc=true:=by obtain⟨x,gs,sc,p,rfl,h2⟩:=eT h;obtain⟨g,rfl,h3⟩:=yt h2;obtain⟨t,i,f,rfl,h4⟩:=WI h3;exact⟨x,t,i,f,sc,p,rfl,h4⟩
end M
end
section
namespace L2
open PySem PySem.Spec PyProof.Rows
noncomputable def uA(cells:List (Str × Addr)):List (Str × Dq)->List (Str × Addr)->List (Str × Addr)
 |[],acc=>acc
 |(n,k)::r,acc=>if k == .free then (match cells.lookup n with|some c=>uA cells r ((n,c)::acc)|none=>uA cells r acc) else uA cells r acc
theorem uL:∀names acc,(∀x∈names,x.2=.free->∃c,env.cells.lookup x.1=some c) ->
 (forIn names acc λx cs =>(if x.2 == .free then do let a <-cellOf env x.1;pure (Cf ((x.1,a)::cs)) else pure (Cf cs):Sem (ForInStep (List (Str × Addr)))))=pure (uA env.cells names acc)
 |[],acc,_=>rfl
 |(n,k)::r,acc,h=>by
  rw[EA];dsimp only;unfold uA;by_cases hk:(k == AA)=true
  . have hk':k=.free:=by simpa using hk
    obtain⟨c,hc⟩:=h (n,k) Ap hk';have hc':env.cells.lookup n=some c:=hc;have hcell:cellOf env n=pure c:=by unfold cellOf;rw[hc']
    rw[if_pos hk,if_pos hk,hcell,hc',El,El];exact uL r _ λx hx=>h x (Af _ hx)
  . rw[if_neg hk,if_neg hk,El]
    exact uL r _ λx hx=>h x (Af _ hx)
theorem uH(h:∀x∈scope.names,x.2=.free->∃c,env.cells.lookup x.1=some c):Gw scope env=pure (uA env.cells scope.names []):=by
 have e:=uL (env:=env) scope.names [] h;show (do let cs <-forIn scope.names [] _;pure cs)=_
 refine Eq.trans ?_ e;refine Eq.trans (bind_pure _) ?_;congr 1
theorem uc:∀names acc,(∀x c,acc.lookup x=some c->cells.lookup x=some c)->∀x c,(uA cells names acc).lookup x=some c->cells.lookup x=some c
 |[],acc,h,x,c,e=>h x c e
 |(n,k)::r,acc,h,x,c,e=>by
  unfold uA at e;by_cases hk:(k == AA)=true
  . rw[if_pos hk]at e
    cases hc:cells.lookup n with
    |none=>rw[hc]at e;exact uc r acc h x c e
    |some d=>
     rw[hc]at e;refine uc r _ (λy z q=>?_) x c e;rw[Ak]at q;cases hy:(y == n) with
     |true=>rw[hy]at q;have hy':y=n:=by simpa using hy
            cases q;rw[hy'];exact hc
     |false=>rw[hy]at q;exact h y z q
  . rw[if_neg hk]at e;exact uc r acc h x c e
theorem wc:∀names acc x c,cells.lookup x=some c->(acc.lookup x=some c\/(x,AA)∈names)->(∀y d,acc.lookup y=some d->cells.lookup y=some d)->(uA cells names acc).lookup x=some c
 |[],acc,x,c,_,h,_=>by
  rcases h with h|h
  . exact h
  . cases h
 |(n,k)::r,acc,x,c,hc,h,ha=>by
  unfold uA;by_cases hk:(k == AA)=true
  . rw[if_pos hk]
    cases hn:cells.lookup n with
    |none=>
     refine wc r acc x c hc ?_ ha;rcases h with h|h
     . exact .inl h
     . rcases An.mp h with e|e
       . cases e;rw[hn]at hc;cases hc
       . exact .inr e
    |some d=>
     have ha':∀y z,((n,d)::acc).lookup y=some z->cells.lookup y=some z:=λy z q=>by
      rw[Ak]at q;cases hy:(y == n) with
      |true=>rw[hy]at q;have hy':y=n:=by simpa using hy
             cases q;rw[hy'];exact hn
      |false=>rw[hy]at q;exact ha y z q
     by_cases hx:x=n
     . subst hx
       refine wc r _ x c hc (.inl ?_) ha';rw[hn]at hc;cases hc;simp[Ak]
     . refine wc r _ x c hc ?_ ha'
       rcases h with h|h
       . refine .inl ?_
         have:(x == n)=false:=by simpa using hx
         rw[Ak,this];exact h
       . rcases An.mp h with e|e
         . cases e;exact absurd rfl hx
         . exact .inr e
  . rw[if_neg hk]
    refine wc r acc x c hc ?_ ha;rcases h with h|h
    . exact .inl h
    . rcases An.mp h with e|e
      . cases e;exact absurd (by decide) hk
      . exact .inr e
theorem uK:∀names n acc,Cu n names acc=Cu n names []++acc
 |[],_,_=>rfl
 |(x,k)::r,n,acc=>by
  unfold Cu;split
  . rw[uK r (n+1) ((x,n)::acc),uK r (n+1) [(x,n)],BJ];rfl
  . exact uK r n acc
theorem oX:∀names n {x} {c},(x,c)∈Cu n names []->(x,Bg)∈names/\n<=c
 |[],_,_,_,h=>by cases h
 |(y,k)::r,n,x,c,h=>by
  unfold Cu at h;split at h
  . rename_i hk
    rw[uK]at h;rcases A3.mp h with h|h
    . obtain⟨h1,h2⟩:=oX r (n+1) h
      exact⟨Af _ h1,by omega⟩
    . cases AW.mp h
      have:k=.cell:=by simpa using hk
      rw[this];exact⟨Ap,Ah _⟩
  . obtain⟨h1,h2⟩:=oX r n h
    exact⟨Af _ h1,h2⟩
theorem oW:∀names n {x},(x,Bg)∈names->∃c,(x,c)∈Cu n names []
 |[],_,_,h=>by cases h
 |(y,k)::r,n,x,h=>by
  unfold Cu;rcases An.mp h with e|h
  . cases e
    rw[if_pos (by rfl),uK]
    exact⟨n,A7 _ Ap⟩
  . split
    . obtain⟨c,hc⟩:=oW r (n+1) h
      rw[uK];exact⟨c,Bp _ hc⟩
    . exact oW r n h
theorem cI{l:List (Str × Addr)}:(x,c)∈l->∃d,l.lookup x=some d:=by
 induction l with
 |nil=>intro h;cases h
 |cons p r ih=>
  intro h;rw[Ak];cases hx:x == p.1 with
  |true=>exact⟨_,rfl⟩
  |false=>
   rcases An.mp h with e|h
   . rw[<-e]at hx;simp at hx
   . exact ih h
theorem kH{l m:List (Str × Addr)}{x:Str}:(l++m).lookup x=match l.lookup x with|some c=>some c|none=>m.lookup x:=by
 induction l with
 |nil=>rfl
 |cons p r ih=>
  rw[List.cons_append,Ak,Ak];cases hx:x == p.1 with
  |true=>rfl
  |false=>exact ih
noncomputable def wU(sc:Scope)(C:Addr):List (Str × Addr):=Cu (C+1) sc.names []
theorem Z8(h:Heap)sc:∃h',CellsOk h' (h.objs.size+1) (wU sc h.objs.size):=by
 have ok:=cellsFrom_ok sc.names (h.push {cls:=.type "dict",data:=.dict #[]}) (h.objs.size+1) [] ⟨λ_ _ hm=>(nomatch hm),Fj⟩ (by rw[Bo];exact Ah _)
 rw[Bo]at ok;exact⟨_,ok⟩
abbrev Cx.comp(X:Cx)(N:List Str)(sc:Scope)(C:Addr)(s:Shared)(H:Hp)(ex:List Addr):Cx:=
 {X with N:=N,l:=s,r:=H,a:=compEnvC sc (wU sc C++uA X.a.cells sc.names []) C X.a,k:=X.h,m:=ex,q:=λx=>sc.names.any λp=>decide (p=(x,Bg)),n:=[],i:=λ_ _=>False}
structure zv(X:Cx)(N:List Str)(sc:Scope)(fr:List (Option Nat)):Prop where
 b:sc.kind=.function
 e:∀x,(x,Bg)∈sc.names->(x,AA)∈sc.names->False
 a:∀x∈sc.names,x.2=.local->sc.names.lookup x.1=some .local
 d:∀x∈sc.names,x.2=.free->X.a.kindOf x.1=some .cell\/X.a.kindOf x.1=some .free
 g:fr.length=N.length
 f:∀(i j:Nat) (x:Str),N[i]?=some x->fr[i]?=some (some j)->X.N[j]?=some x/\(x,AA)∈sc.names
 h:∀x,sc.names.lookup x=some .local->(x,AA)∈sc.names->False
noncomputable def zo(fr:List (Option Nat))(σ:St):St:=fr.map λo=>match o with|some j=>(σ[j]?).join|none=>none
theorem nM(h:(relabel sc env).names.lookup x=some .cell\/(relabel sc env).names.lookup x=some .free):(x,AA)∈sc.names\/(x,Bg)∈sc.names:=by
 have key:∀(names:List (Str × Dq)),((names.map λ(n,k)=>if (k == AA&&env.scope.kind == .function&&env.kindOf n == some .cell) then (n,Bg) else (n,k)).lookup x=some .cell \/
  (names.map λ(n,k)=>if (k == AA&&env.scope.kind == .function&&env.kindOf n == some .cell) then (n,Bg) else (n,k)).lookup x=some .free)->(x,AA)∈names\/(x,Bg)∈names:=by
  intro names;induction names with
  |nil=>intro h;simp at h
  |cons p r ih=>
   obtain⟨n,k⟩:=p;intro h;rw[A1]at h;dsimp only at h;by_cases hx:x=n
   . subst hx
     by_cases hf:k=.free
     . subst hf;exact .inl Ap
     . have hf':(k == AA)=false:=by simpa using hf
       rw[hf']at h;simp only[CP,AX,if_false,Ak,beq_self_eq_true]at h;rcases h with h|h
       . cases h;exact .inr Ap
       . cases h;exact absurd rfl hf
   . have hx':(x == n)=false:=by simpa using hx
     have:=ih (by split at h<;>simpa only[Ak,hx'] using h)
     exact this.elim (λz=>.inl (Af _ z)) λz=>.inr (Af _ z)
 exact key sc.names h
theorem vF(h:sc.names.lookup x=some .cell):(relabel sc env).names.lookup x=some .cell:=by
 have key:∀(names:List (Str × Dq)),names.lookup x=some .cell->(names.map λ(n,k)=>if (k == AA&&env.scope.kind == .function&&env.kindOf n == some .cell) then (n,Bg) else (n,k)).lookup x=some .cell:=by
  intro names;induction names with
  |nil=>intro h;simp at h
  |cons p r ih=>
   obtain⟨n,k⟩:=p;intro h;rw[A1];dsimp only;cases hx:(x == n) with
   |true=>
    rw[Ak,hx]at h;cases h;have e:(Bg == AA)=false:=rfl;rw[e];simp only[CP,AX,if_false,Ak,hx]
   |false=>
    rw[Ak,hx]at h;have:=ih h;split<;>simpa only[Ak,hx] using this
 exact key sc.names h
theorem u6(hl:∀y∈sc.names,y.2=.local->sc.names.lookup y.1=some .local)(h:sc.names.lookup x=some .free) :
 (relabel sc env).names.lookup x=some .cell\/(relabel sc env).names.lookup x=some .free:=by
 have key:∀(names:List (Str × Dq)),names.lookup x=some .free->((names.map λ(n,k)=>if (k == AA&&env.scope.kind == .function&&env.kindOf n == some .cell) then (n,Bg) else (n,k)).lookup x=some .cell \/
  (names.map λ(n,k)=>if (k == AA&&env.scope.kind == .function&&env.kindOf n == some .cell) then (n,Bg) else (n,k)).lookup x=some .free):=by
  intro names;induction names with
  |nil=>intro h;simp at h
  |cons p r ih=>
   obtain⟨n,k⟩:=p;intro h;rw[A1];dsimp only;cases hx:(x == n) with
   |true=>
    rw[Ak,hx]at h;cases h;split
    . left;simp only[Ak,hx]
    . right;simp only[Ak,hx]
   |false=>
    rw[Ak,hx]at h;have:=ih h;split<;>simpa only[Ak,hx] using this
 exact key sc.names h
section
variable {X:Cx}{pins:List (Addr × Obj)}{σ:St}{H:Hp}{s:Shared}{N:List Str}{sc:Scope}{fr:List (Option Nat)}{fp:List Addr}
theorem zv.cells(S:zv X N sc fr)(ok:X.Ok):∀x∈sc.names,x.2=.free->∃c,X.a.cells.lookup x.1=some c:=λx hx hk=>ok.q x.1 (S.d x hx hk)
theorem wb(h:(wU sc C++uA cells sc.names []).lookup x=some c):((wU sc C).lookup x=some c)\/((wU sc C).lookup x=none/\cells.lookup x=some c):=by
 rw[kH]at h;cases ho:(wU sc C).lookup x with
 |some d=>rw[ho]at h;exact .inl h
 |none=>rw[ho]at h;exact .inr ⟨rfl,uc sc.names [] (λx c e=>by simp at e) x c h⟩
theorem qV(h:(wU sc C).lookup x=some c):@LE.le Nat _ (C+1) c:=(oX sc.names (C+1) (mem_of_lookup h)).2
theorem cV(S:zv X N sc fr)(h:(x,AA)∈sc.names):(wU sc C).lookup x=none:=by
 cases ho:(wU sc C).lookup x with
 |none=>rfl
 |some d=>exact(S.e x (oX sc.names (C+1) (mem_of_lookup ho)).1 h).elim
theorem ax(I:Inv X pins σ H s)(S:zv X N sc fr)(hf:∀b∈fp,tW X pins H b)(hlt:∀b∈fp,b<s.heap.objs.size):(X.comp N sc s.heap.objs.size s H fp).Ok:=by
 obtain⟨h',hok⟩:=Z8 s.heap sc;have old:∀x c,X.a.cells.lookup x=some c->@LT.lt Nat _ c s.heap.objs.size:=λx c e=>by obtain⟨v,z⟩:=I.G x c e;exact z.lt
 refine⟨I.C.i,S.b,I.C.j,I.C.t,Ah _,λx y c e1 e2=>?_,λx h=>?_,λx c h e=>?_,I.C.k,I.C.g,.inl rfl,λb hb=>?_,λb o e=>I.bs b o e,?_,λb o e hb=>?_,λb hb z=>?_,I.stack,I.nR⟩
 . rcases wb e1 with e1|⟨_,e1⟩<;>rcases wb e2 with e2|⟨_,e2⟩
   . exact name_of_addr hok.apart (mem_of_lookup e1) (mem_of_lookup e2)
   . exact absurd (Ar (old _ _ e2) (Ay (CO _) (qV e1))) (Bc _)
   . exact absurd (Ar (old _ _ e1) (Ay (CO _) (qV e2))) (Bc _)
   . exact I.C.r x y c e1 e2
 . show ∃c,(wU sc s.heap.objs.size++uA X.a.cells sc.names []).lookup x=some c
   rw[kH];rcases nM h with m|m
   . obtain⟨c,hc⟩:=S.cells I.C (x,.free) m rfl
     rw[cV S m];exact⟨c,wc sc.names [] x c hc (.inr m) (λy d e=>by simp at e)⟩
   . obtain⟨c,hc⟩:=oW sc.names (s.heap.objs.size+1) m
     obtain⟨d,hd⟩:=cI hc;have hd':(wU sc s.heap.objs.size).lookup x=some d:=hd;rw[hd'];exact⟨d,rfl⟩
 . have m:(x,Bg)∈sc.names:=by obtain⟨p,hp,e'⟩:=BF.mp h;rw[<-of_decide_eq_true e'];exact hp
   rcases wb e with e|⟨e,_⟩
   . exact Ay (CO _) (qV e)
   . obtain⟨c',hc⟩:=oW sc.names (s.heap.objs.size+1) m
     obtain⟨d,hd⟩:=cI hc;have hd':(wU sc s.heap.objs.size).lookup x=some d:=hd;rw[hd']at e;cases e
 . obtain⟨f0,f1,f2,f3,f4,f5⟩:=hf b hb
   refine⟨AG (hlt b hb),λx c e=>?_⟩;rcases wb e with e|⟨_,e⟩
   . exact λz=>absurd (Ar (z▸hlt b hb) (Ay (CO _) (qV e))) (Bc _)
   . exact f4 x c e
 . exact Ay I.C.p I.sz
 . obtain⟨f0,f1,f2,f3,f4,f5⟩:=hf b hb
   rcases f3 with f3|f3
   . exact I.C.m b o e f3
   . exact absurd (Ar (Aj e) (Ay I.C.p f3)) (Bc _)
 . obtain⟨f0,f1,f2,f3,f4,f5⟩:=hf b hb
   rcases An.mp (I.k6 b z) with e|e
   . exact f1 e
   . exact f2 e
theorem lZ(I:Inv X pins σ H s)(S:zv X N sc fr)(hf:∀b∈fp,tW X pins H b)(hlt:∀b∈fp,b<s.heap.objs.size)
 (hns:h'.Ns s.heap.objs.size (λ_=>none)) (k:∀b o,s.heap.get? b=some o->h'.get? b=some o) (ly:∀x c,(wU sc s.heap.objs.size).lookup x=some c->h'.IsCell c none):Inv (X.comp N sc s.heap.objs.size s H fp) [] (zo fr σ) H {s with heap:=h',toks:=tk}:=by
 refine⟨ax I S hf hlt,rfl,I.D,Un.kept k,⟨_,hns,λi x v e1 e2 e3=>?_⟩,λx c e=>?_,I.B.fresh (Ah _),λx c e=>?_,λp hp=>(by simp at hp),I.B.kept k,?_⟩
 . have e2':(fr.map λo=>match o with|some j=>(σ[j]?).join|none=>none)[i]?=some (some v):=e2
   rw[A2]at e2';cases hfi:fr[i]? with
   |none=>rw[hfi]at e2';cases e2'
   |some o=>
    rw[hfi]at e2';cases o with
    |none=>cases e2'
    |some j=>
     obtain⟨n1,n2⟩:=S.f i j x e1 hfi;have e3':σ[j]?=some (some v):=by
      have q:(σ[j]?).join=some v:=AR e2';cases hσ:σ[j]? with
      |none=>rw[hσ]at q;cases q
      |some w=>rw[hσ]at q;cases w with
       |none=>cases q
       |some w'=>have:w'=v:=AR q
                 rw[this]
     have hk:=S.d (x,.free) n2 rfl;obtain⟨m,hn,hl⟩:=I.M;obtain⟨u,r,l⟩:=hl j x v n1 e3' (hk.elim (λz=>.inr (.inl z)) λz=>.inr (.inr z));refine⟨u,r,?_⟩;rcases l with⟨hk',_⟩|⟨_,c,hc,z⟩
     . rcases hk with hk|hk<;>(rw[hk]at hk';cases hk')
     . refine .inr ⟨?_,c,(by show (wU sc s.heap.objs.size++uA X.a.cells sc.names []).lookup x=some c;rw[kH,cV S n2];exact wc sc.names [] x c hc (.inr n2) (λy d e=>by simp at e)),?_⟩
       . rcases e3 with e3|e3|e3
         . -- a local of that name: cannot be,the name is free in the block
           exfalso;have hloc:sc.names.lookup x=some .local:=by
            have key:∀(names:List (Str × Dq)),(names.map λ(n,k)=>if (k == AA&&X.a.scope.kind == .function&&X.a.kindOf n == some .cell) then (n,Bg) else (n,k)).lookup x=some .local->names.lookup x=some .local:=by
             intro names;induction names with
             |nil=>intro h;simp at h
             |cons p r ih=>
              obtain⟨n,kk⟩:=p;intro h;rw[A1]at h;dsimp only at h;cases hx:(x == n) with
              |true=>
               split at h
               . simp only[Ak,hx]at h;cases h
               . simp only[Ak,hx]at h ⊢;exact h
              |false=>
               rw[Ak,hx];refine ih ?_;split at h<;>simpa only[Ak,hx] using h
            exact key sc.names e3
           exact S.h x hloc n2
         . exact .inl e3
         . exact .inr e3
       . obtain⟨o,ho,hd⟩:=z
         exact⟨o,k _ _ ho,hd⟩
 . rcases wb e with e|⟨_,e⟩
   . exact⟨none,ly x c e⟩
   . obtain⟨v,o,ho,hd⟩:=I.G x c e
     exact⟨v,o,k _ _ ho,hd⟩
 . rcases wb e with e|⟨_,e⟩
   . exact I.B.fresh (Ay (CO _) (qV e))
   . exact I.F x c e
 . show (fr.map _).length=N.length
   rw[Ae];exact S.g
end
end L2
end
section
namespace L2
open PySem PySem.Spec PyProof.Rows
def nT:List TT->TT
 |[]=>λ_ H Q=>Q true H
 |t::ts=>λσ H Q=>t σ H λc H1=>if c=true then nT ts σ H1 Q else Q false H1
inductive PTs(X:Cx):List Expr->List TT->Prop
 |b:PTs X [] []
 |a {c:Expr} {cs:List Expr} {t:TT} {ts:List TT}:PT X c t->PTs X cs ts->PTs X (c::cs) (t::ts)
theorem sy{X:Cx}(h:Q false s):∀cs:List Expr,
 wpAny (model X.f X.w) X.A (forIn cs false λc r=>if r=true then do let ok <-isTrue c X.a (eval c X.a);pure (Cf ok) else pure (Cf r)) Q E s
 |[]=>Ag h
 |c::cs=>by rw[EA];exact xd (Ag (sy h cs))
theorem PTs.run:∀{cs} {ts},PTs X cs ts->∀{pins} {s} {σ} {H} {Q},Inv X pins σ H s->nT ts σ H Q ->
 wpAny (model X.f X.w) X.A (forIn cs true λc r=>if r=true then do let ok <-isTrue c X.a (eval c X.a);pure (Cf ok) else pure (Cf r)) (TP X pins σ Q) X.i s
 |_,_,.b,pins,s,σ,H,Q,I,h=>Ag ⟨H,I,h⟩
 |_,_,.a hc hs,pins,s,σ,H,Q,I,h=>by
  rw[EA];refine xd (xd (thn (hc pins s σ H _ I h) λc s1 ⟨H1,I1,q1⟩=>Ag ?_));cases c with
  |true=>exact hs.run I1 q1
  |false=>exact sy ⟨H1,I1,q1⟩ _
abbrev TB:=(St->Hp->Prop)->St->Hp->Prop
def PB(X:Cx)(B:Sem PUnit)(tb:TB):Prop:=
 ∀(pins:List (Addr × Obj)) (s:Shared) (σ:St) (H:Hp) (Nx:St->Hp->Prop),Inv X pins σ H s->tb Nx σ H->wpAny (model X.f X.w) X.A B (λ_ s'=>∃σ' H',Inv X pins σ' H' s'/\Nx σ' H') X.i s
def tTB(ts:List TT)(tb:TB):TS:=λD σ H=>nT ts σ H λc H1=>if c=true then tb D.a σ H1 else D.a σ H1
def mq(J:It)(g:TG)(tb:TS)(D:Ends)(σ:St)(H:Hp):Prop:=∃W:Nat->Nat->St->Hp->Prop,(∃m,W 0 m σ H)/\∀i m σ H,W i m σ H ->
 (J.a i H/\D.a σ H)\/(J.c i H/\∃N:St->Hp->Prop,(∀σ' H',N σ' H'->∃m',m'<m/\W (i+1) m' σ' H')/\∀x H',J.b i H x H'->g x σ H' λσ2 H2=>tb {D with a:=N,d:=N,c:=D.a} σ2 H2)
theorem tx{X:Cx}{elt:Expr}{gens:List E8}{csc:Scope}{cpos:Pos}{d:Nat}{tg:Expr}{p:Pos}{ifs:List Expr}{B:Sem PUnit}{acc:Value}{it:Addr}{fp:List Addr}{tn:Nat->Heap->Prop}{J:It}{g:TG}{ts:List TT}{tb:TB}{D:Ends}
 {pins:List (Addr × Obj)} {σ:St} {H:Hp} {s:Shared} {R:Result->Shared->Prop}
 (heq:FK (.ListComp elt gens csc cpos) d (.ref it) acc X.a=(do
  standAt p
  match <-pyNext (.ref it) with
  |none=>pure (.done .next)
  |some v=>
   Cb tg (.ref it) v
   assign tg X.a v
   let mut ok:=true
   for c in ifs do
    if ok then ok <-isTrue c X.a (eval c X.a)
   if ok then B
   again (.compLoop (.ListComp elt gens csc cpos) d (.ref it) acc X.a)))
 (hx:X.i=λ_ _=>False) (hc:X.j=true) (T:Turn X.f X.w X.K tg J fp it tn) (hg:PG X tg g) (ht:PTs X ifs ts) (hb:PB X B tb)
 (I:Inv X pins σ H s) (st:tn 0 s.heap) (f:∀b∈fp,tW X pins H b) (h:mq J g (tTB ts tb) D σ H)
 (hR:∀σ' H' s',Inv X pins σ' H' s'->D.a σ' H'->(∀b∈fp,H' b=none)->R (.ok .next) s') :
 codeAny (model X.f X.w) X.A (.compLoop (.ListComp elt gens csc cpos) d (.ref it) acc X.a) R s:=by
 obtain⟨W,⟨m0,w0⟩,turn⟩:=h;have stat:∀{H':Hp},(∀b∈fp,H' b=none)->∀b∈fp,tW X pins H' b:=λhn b hb=>⟨hn b hb,(f b hb).2⟩;have no:∀{α:Type} {t:Sem α} {Q:α->Shared->Prop} {E':Value->Shared->Prop} {s:Shared},wpAny (model X.f X.w) X.A t Q X.i s->wpAny (model X.f X.w) X.A t Q E' s:=λh=>AD h (λ_ _ q=>q) λ_ _ z=>by rw[hx]at z;exact z.elim
 refine codeAny_loop rfl (λn s'=>∃i σ' H',Inv X pins σ' H' s'/\tn i s'.heap/\(∀b∈fp,H' b=none)/\W i n σ' H') (λn s3 hI=>?_) m0 ⟨0,σ,H,I,st,λb hb=>(f b hb).1,w0⟩;obtain⟨i,σ3,H3,I3,st3,fr3,w3⟩:=hI;show wpAny _ _ ((FK (.ListComp elt gens csc cpos) d (.ref it) acc X.a).onRaise (λx=>do EY x X.a;theTreesLotGoes x)) _ _ s3
 refine wpAny_noted ?_;rw[heq];refine xd (A4 (xd ?_));rcases turn i n σ3 H3 w3 with⟨stop,qn⟩|⟨go,N,hN,step⟩
 . refine no (thn (T.d X rfl rfl rfl hc i pins s3 σ3 H3 X.i I3 (stat fr3) st3 stop) λr s4 ⟨hr,I4⟩=>?_)
   subst hr;exact Ag (hR σ3 H3 s4 I4 qn fr3)
 . refine no (thn (T.e X rfl rfl rfl hc i pins s3 σ3 H3 X.i I3 (stat fr3) st3 go) λr s4 ⟨u,hr,h4⟩=>?_)
   subst hr;refine xd (no (thn h4 λ_ s5 ⟨x,H5,I5,r5,y5,st5,fr5⟩=>?_));have I5':=I5.pinned (stat fr5) (T.c _ _ st5);refine xd (no (thn (hg _ s5 σ3 H5 x u _ I5' r5 (step x H5 y5)) λ_ s6 ⟨σ6,H6,I6,q6⟩=>?_));refine xd (no (thn (ht.run I6 q6) λok s7 ⟨H7,I7,q7⟩=>?_));have again':∀{σ7:St} {H7:Hp} {s7:Shared},Inv X (pins++qb fp s5.heap) σ7 H7 s7->N σ7 H7->∃m,m<n/\∃i σ' H',Inv X pins σ' H' s7/\tn i s7.heap/\(∀b∈fp,H' b=none)/\W i m σ' H':=λ{σ7 H7 s7} I7 n7=>by obtain⟨m',hm,w7⟩:=hN σ7 H7 n7;refine⟨m',hm,i+1,σ7,H7,I7.tN,T.a _ _ _ st5 λb hb o e=>(I7.O (b,o) (A7 _ (A7 _ (vB hb e)))).1,λb hb=>?_,w7⟩;obtain⟨o,e,d⟩:=T.c _ _ st5 b hb;exact(I7.O (b,o) (A7 _ (A7 _ (vB hb e)))).2.1
   cases ok with
   |false=>exact Ag ⟨rfl,again' I7 q7⟩
   |true=>exact xd (no (thn (hb _ s7 σ6 H7 N I7 q7) λ_ s8 ⟨σ8,H8,I8,n8⟩=>Ag ⟨rfl,again' I8 n8⟩))
def pk(acc:Addr)(te:TE):TB:=λNx σ H=>te σ H λy H1=>∃ys,H1 acc=some (.b ys)/\ys.length<Am/\Nx σ (upd H1 acc (.b (ys++[y])))
theorem iF(he:PE X elt te):PB X (do let _ <-call (.builtin "list.append") [.ref acc,<-eval elt X.a]) (pk acc te):=by intro pins s σ H Nx I h;refine xd (thn (he pins s σ H _ I h) λu s1 ⟨y,H1,I1,r1,ys,hl,hz,q⟩=>?_);refine xd (thn (pU pins s1 σ H1 (.c acc) [y] (.ref acc) [u] (λ_ H'=>Nx σ H') I1 rfl (.cons r1 .nil) ⟨acc,ys,y,rfl,rfl,hl,hz,q⟩) λ_ s2 ⟨_,H2,I2,_,q2⟩=>?_);exact Ag ⟨σ,H2,I2,q2⟩
end L2
end
section
namespace L2
open PySem PySem.Spec PyProof.Rows
def sr(fr:List (Option Nat))(wi:TI)(g:TG)(ts:List TT)(tb:Addr->TB)(σ:St)(H:Hp)(Q:VK):Prop:=
 wi σ H λJ H1=>∀acc,H1 acc=none->mq J g (tTB ts (tb acc)) ⟨λ_ H'=>Q (.c acc) H',λ_ _=>False,λ_ _=>False,λ_ _=>False⟩ (zo fr σ) (upd H1 acc (.b []))
section
variable {X:Cx}{pins:List (Addr × Obj)}{σ:St}{H:Hp}{s:Shared}{N:List Str}{csc:Scope}{fr:List (Option Nat)}{elt tg iter:Expr}{ifs:List Expr}{rest:List E8}{cpos:Pos}{wi:TI}{g:TG}{ts:List TT}{tb:Addr->TB}
theorem jQ{outer:Env}{Q:Env->Shared->Prop}
 (hQ:∀h':Heap,h'.Ns s.heap.objs.size (λ_=>none)->(∀b o,s.heap.get? b=some o->h'.get? b=some o)->(∀x c,(wU scope s.heap.objs.size).lookup x=some c->h'.IsCell c none) ->
  Q {scope:=scope,locals:=s.heap.objs.size,globals:=globals,cells:=wU scope s.heap.objs.size++cl,qual:=qual,func:=none,code:=outer.code,frame:=outer.frame,builtins:=outer.builtins} {s with heap:=h'}) :
 wpAny M A (Gm scope globals cl [] qual none .none (some outer)) Q E s:=by
 simp only[Gm,Option.isSome_some,if_true];refine xd (wpAny_alloc ?_);refine xd (wpAny_layCells _ (λname kind cells=>by cases hkc:kind == Bg<;>simp[hkc]) _ _ _ _ ?_)
 have ok:=cellsFrom_ok scope.names (s.heap.push {cls:=.type "dict",data:=.dict #[]}) (s.heap.objs.size+1) [] ⟨λ_ _ hm=>(nomatch hm),Fj⟩ (by rw[Bo];exact Ah _)
 rw[Bo]at ok;rw[show ({s with heap:=s.heap.push {cls:=.type "dict",data:=.dict #[]}}:Shared).heap.objs.size=s.heap.objs.size+1 from Bo ..]
 rw[Gn];refine xd (Ag (Ag ?_));rw[uK];exact hQ _ ((Heap.Ns.new s.heap (.type "dict")).keeps (pushCells_keeps _ _)) (λb o e=>pushCells_keeps _ _ b o (lp _ e)) λx c hc=>(ok.empty x c (mem_of_lookup hc)).1
theorem pL{use:Option (Value->Sem Unit)}{QQ:Value->Shared->Prop}{Qv:VK}{B:Value->Env->Sem PUnit}{E:Value->Shared->Prop}(hE:E=X.i)(hc:X.j=true)(S:zv X N csc fr)(hi:PI X tg iter wi)
 (hturn:∀(it:Addr) (acc:Value) (env:Env),FK (.ListComp elt (⟨tg,iter,ifs,0⟩::rest) csc cpos) 0 (.ref it) acc env=(do
  standAt iter.pos
  match <-pyNext (.ref it) with
  |none=>pure (.done .next)
  |some v=>
   Cb tg (.ref it) v
   assign tg env v
   let mut ok:=true
   for c in ifs do
    if ok then ok <-isTrue c env (eval c env)
   if ok then B acc env
   again (.compLoop (.ListComp elt (⟨tg,iter,ifs,0⟩::rest) csc cpos) 0 (.ref it) acc env)))
 (hg:∀C s0 H0 ex,PG (X.comp N csc C s0 H0 ex) tg g) (ht:∀C s0 H0 ex,PTs (X.comp N csc C s0 H0 ex) ifs ts)
 (hb:∀C s0 H0 ex acc,(∃pins',Inv X pins' σ H0 s0/\∀b∈ex,tW X pins' H0 b)->PB (X.comp N csc C s0 H0 ex) (B (.ref acc) (X.comp N csc C s0 H0 ex).a) (tb acc))
 (I:Inv X pins σ H s) (h:sr fr wi g ts tb σ H Qv)
 (hfin:∀acc C H' s',Inv X pins σ H' s'->Qv (.c acc) H'->(∃m,s'.heap.Ns C m)->H' C=none->C≠X.a.locals->X.l.heap.objs.size<=C->(∀x c,X.a.cells.lookup x=some c->c≠C)->(∀p∈X.n++pins,p.1≠C) ->
  compPost (model X.f X.w) X.A X.i use QQ (.ref acc) C (.ok .next) s') :
 wpAny (model X.f X.w) X.A (eval iter X.a) (λx s₁=>wpAny (model X.f X.w) X.A (pyIter x) (λit s₂=>wpAny (model X.f X.w) X.A (newList []) (λacc s₃=>
  wpAny (model X.f X.w) X.A (Gm csc X.a.globals (uA X.a.cells csc.names []) [] X.a.qual none .none (some X.a)) (λcenv s₄=>
   codeAny (model X.f X.w) X.A (.compStart (.ListComp elt (⟨tg,iter,ifs,0⟩::rest) csc cpos) 0 it acc {cenv with scope:=relabel csc X.a}) (compPost (model X.f X.w) X.A E use QQ acc cenv.locals) s₄) E s₃) E s₂) E s₁) E s:=by
 subst hE;refine thn (hi pins s σ H _ I h) λv s1 h1=>thn h1 λitv s2 h2=>?_;obtain⟨it,fp,tn,J,H2,e,I2,T,st2,f2,q2⟩:=h2;subst e;refine Ba ?_;have hfr:H2 s2.heap.objs.size=none:=I2.B.fresh (Ah _);have q3:=q2 s2.heap.objs.size hfr;generalize hs3:({s2 with heap:=s2.heap.push {cls:=.type "list",dict:=none,data:=.seq ([]:List Value).toArray}}:Shared)=s3
 have k23:∀b u,s2.heap.get? b=some u->s3.heap.get? b=some u:=λb u e=>by rw[<-hs3];exact lp _ e
 have new3:s3.heap.get? s2.heap.objs.size=some {cls:=.type "list",dict:=none,data:=.seq ([]:List Value).toArray}:=by rw[<-hs3];exact Az _ rfl
 have I3:Inv X pins σ (upd H2 s2.heap.objs.size (.b [])) s3:=by rw[<-hs3];exact I2.laid (t':=s2.toks) (λb u e=>lp _ e) (Ah _) ⟨B9 _,[],0,.nil,Az _ rfl⟩
 have lt2:∀b∈fp,b<s2.heap.objs.size:=λb hb=>by obtain⟨o,e,_⟩:=T.c _ _ st2 b hb;exact Aj e
 have hsz:s3.heap.objs.size=s2.heap.objs.size+1:=by rw[<-hs3];exact Bo ..
 have f3:∀b∈fp,tW X pins (upd H2 s2.heap.objs.size (.b [])) b:=λb hb=>⟨by rw[zJ (AG (lt2 b hb))];exact(f2 b hb).1,(f2 b hb).2⟩
 have lt3:∀b∈fp,b<s3.heap.objs.size:=λb hb=>by rw[hsz];exact CD (lt2 b hb)
 refine jQ λh4 hns4' k34 own4=>?_;have I4:=lZ (tk:=s3.toks) I3 S f3 lt3 hns4' k34 own4;have st4:tn 0 h4:=T.a _ _ _ st2 λb hb o e=>k34 b o (k23 b o e);have f4:∀b∈fp,tW (X.comp N csc s3.heap.objs.size s3 (upd H2 s2.heap.objs.size (.b [])) fp) [] (upd H2 s2.heap.objs.size (.b [])) b:=λb hb=>by have ok:=I4.C;obtain⟨g1,g2⟩:=ok.G b hb;exact⟨(f3 b hb).1,g1,ok.l b hb,.inl hb,g2,λp hp=>by simp at hp⟩
 have fin:∀σ' H' s',Inv (X.comp N csc s3.heap.objs.size s3 (upd H2 s2.heap.objs.size (.b [])) fp) [] σ' H' s'->Qv (.c s2.heap.objs.size) H'->(∀b∈fp,H' b=none) ->
  compPost (model X.f X.w) X.A X.i use QQ (.ref s2.heap.objs.size) s3.heap.objs.size (.ok .next) s':=λσ' H' s' I' q' _=>by
  have IX:Inv X pins σ H' s':=I3.UU I'.P I'.j I'.B I'.D λb hb=>by obtain⟨g0,g1,g2,g3,g4,g5⟩:=f3 b hb;exact⟨g3,g1,g4,g5⟩
  obtain⟨m,hn,_⟩:=I'.M;refine hfin _ _ H' s' IX q' ⟨m,hn⟩ I'.J (Dh I3.lt) I3.sz (λx c e=>?_) λp hp=>?_
  . obtain⟨w',z⟩:=I3.G x c e
    exact AG z.lt
  . exact AG (Aj (I3.O p hp).1)
 have loop:codeAny (model X.f X.w) X.A (.compLoop (.ListComp elt (⟨tg,iter,ifs,0⟩::rest) csc cpos) 0 (.ref it) (.ref s2.heap.objs.size) (compEnvC csc (wU csc s3.heap.objs.size++uA X.a.cells csc.names []) s3.heap.objs.size X.a))
  (compPost (model X.f X.w) X.A X.i use QQ (.ref s2.heap.objs.size) s3.heap.objs.size) {s3 with heap:=h4}:=
  tx (X:=X.comp N csc s3.heap.objs.size s3 (upd H2 s2.heap.objs.size (.b [])) fp) (hturn it _ _) rfl hc T (hg _ _ _ _) (ht _ _ _ _) (hb _ _ _ _ _ ⟨pins,I3,f3⟩) I4 st4 f4 q3 fin
 exact codeAny_compStart_list loop (T.f X.A 0 _ _ _ st4 loop)
theorem cz{B:Value->Env->Sem PUnit}(hc:X.j=true)(S:zv X N csc fr)(hi:PI X tg iter wi)
 (hturn:∀(it:Addr) (acc:Value) (env:Env),FK (.ListComp elt (⟨tg,iter,ifs,0⟩::rest) csc cpos) 0 (.ref it) acc env=(do
  standAt iter.pos
  match <-pyNext (.ref it) with
  |none=>pure (.done .next)
  |some v=>
   Cb tg (.ref it) v
   assign tg env v
   let mut ok:=true
   for c in ifs do
    if ok then ok <-isTrue c env (eval c env)
   if ok then B acc env
   again (.compLoop (.ListComp elt (⟨tg,iter,ifs,0⟩::rest) csc cpos) 0 (.ref it) acc env)))
 (hg:∀C s0 H0 ex,PG (X.comp N csc C s0 H0 ex) tg g) (ht:∀C s0 H0 ex,PTs (X.comp N csc C s0 H0 ex) ifs ts)
 (hb:∀C s0 H0 ex acc,PB (X.comp N csc C s0 H0 ex) (B (.ref acc) (X.comp N csc C s0 H0 ex).a) (tb acc))
 (hs:∀x,CC iter X.a x=pure x:=by intro _;rfl) :
 PE X (.ListComp elt (⟨tg,iter,ifs,0⟩::rest) csc cpos) (sr fr wi g ts tb):=by
 intro pins s σ H Q I h;rw[eval_ListComp];refine FL (use:=none) rfl hs (uH (S.cells I.C)) S.b S.a ?_;refine pL (use:=none) rfl hc S hi hturn hg ht (λC s0 H0 ex acc _=>hb C s0 H0 ex acc) I h λacc C H' s' I' q' hn hC hL h0 hcl hpn=>?_;obtain⟨m,hn⟩:=hn;refine⟨m,hn,λh' sb=>⟨.c acc,H',?_,rfl,q'⟩⟩;exact I'.turned (t':=s'.toks) (λb o hb e=>(sb.2 b hb).trans e) hC (A5 (A5 hL)) (.inr h0) hcl hpn
theorem bM{B:Value->Env->Sem PUnit}{y:Str}{py spos:Pos}{i:Nat}(hc:X.j=true)(S:zv X N csc fr)(hi:PI X tg iter wi)
 (hturn:∀(it:Addr) (acc:Value) (env:Env),FK (.ListComp elt (⟨tg,iter,ifs,0⟩::rest) csc cpos) 0 (.ref it) acc env=(do
  standAt iter.pos
  match <-pyNext (.ref it) with
  |none=>pure (.done .next)
  |some v=>
   Cb tg (.ref it) v
   assign tg env v
   let mut ok:=true
   for c in ifs do
    if ok then ok <-isTrue c env (eval c env)
   if ok then B acc env
   again (.compLoop (.ListComp elt (⟨tg,iter,ifs,0⟩::rest) csc cpos) 0 (.ref it) acc env)))
 (hg:∀C s0 H0 ex,PG (X.comp N csc C s0 H0 ex) tg g) (ht:∀C s0 H0 ex,PTs (X.comp N csc C s0 H0 ex) ifs ts)
 (hb:∀C s0 H0 ex acc,PB (X.comp N csc C s0 H0 ex) (B (.ref acc) (X.comp N csc C s0 H0 ex).a) (tb acc))
 (hN:X.N.Nodup) (hy:X.N[i]?=some y) (hx:Loc X.a.scope y)
 (hsw:Ei (.ListComp elt (⟨tg,iter,ifs,0⟩::rest) csc cpos) (some (.Name y py)) spos.line X.a=pure true:=by rfl)
 (hf:X.q y=true\/X.a.scope.names.lookup y=some .local:=by first|exact .inl rfl|exact .inr rfl|assumption)
 (hs:∀x,CC iter X.a x=pure x:=by intro _;rfl) :
 PS X (.Assign [.Name y py] (.ListComp elt (⟨tg,iter,ifs,0⟩::rest) csc cpos) spos) (tJ (sr fr wi g ts tb) (wG i)):=by
 intro pins s σ H D I h;rw[exec_Assign_Name_used _ _ _ _ hsw];refine xd (A4 (xd ?_));show wpAny _ X.A (do let _ <-comprehension (.ListComp elt (⟨tg,iter,ifs,0⟩::rest) csc cpos) csc X.a _ (newList []) false (eval iter X.a) (some (assign (.Name y py) X.a))) _ _ s
 refine xd (AD (FL (use:=some (assign (.Name y py) X.a)) (Q:=λ_ s'=>SP X pins D .next s') rfl hs (uH (S.cells I.C)) S.b S.a ?_) (λ_ s' hq=>Ag (Ag hq)) λ_ _ e=>e);refine pL (use:=some (assign (.Name y py) X.a)) rfl hc S hi hturn hg ht (λC s0 H0 ex acc _=>hb C s0 H0 ex acc) I h λacc C H' s' I' q' hn hC hL h0 hcl hpn=>?_;obtain⟨m,hn⟩:=hn;show wpAny _ X.A (assign (.Name y py) X.a (.ref acc)) _ _ _;refine wpAny_assign_Name (pj I' hN hy hx (show RelV (.c acc) (.ref acc) from rfl) (λs2 I2 ⟨a,sb,ha⟩=>?_) hf);have haC:C≠a:=by
  rcases ha with ha|ha
  . rw[ha];exact hL
  . exact A5 (hcl y a ha)
 refine⟨m,hn.sameBut sb haC,λh' sb'=>⟨_,H',?_,q'⟩⟩;exact I2.turned (t':=s2.toks) (λb o hb e=>(sb'.2 b hb).trans e) hC hL (.inr h0) hcl hpn
theorem Xl(elt tg iter:Expr)(ifs:List Expr)(csc:Scope)(cpos:Pos)(it:Addr)(acc:Value)(env:Env) :
 FK (.ListComp elt [⟨tg,iter,ifs,0⟩] csc cpos) 0 (.ref it) acc env=(do
  standAt iter.pos
  match <-pyNext (.ref it) with
  |none=>pure (.done .next)
  |some v=>
   Cb tg (.ref it) v
   assign tg env v
   let mut ok:=true
   for c in ifs do
    if ok then ok <-isTrue c env (eval c env)
   if ok then (do let _ <-call (.builtin "list.append") [acc,<-eval elt env])
   again (.compLoop (.ListComp elt [⟨tg,iter,ifs,0⟩] csc cpos) 0 (.ref it) acc env)):=by rfl
end
end L2
end
section
namespace L2
open PySem PySem.Spec PyProof.Rows
section
variable {X:Cx}{N:List Str}{csc:Scope}{fr:List (Option Nat)}{elt tg iter tg2 iter2:Expr}{ifs ifs2:List Expr}{cpos:Pos}{wi wi2:TI}{g g2:TG}{ts ts2:List TT}{te:TE}
theorem rR(hc:X.j=true)(S:zv X N csc fr)(hi:PI X tg iter wi)(hg:∀C s0 H0 ex,PG (X.comp N csc C s0 H0 ex) tg g)(ht:∀C s0 H0 ex,PTs (X.comp N csc C s0 H0 ex) ifs ts)
 (he:∀C s0 H0 ex,PE (X.comp N csc C s0 H0 ex) elt te) (hs:∀x,CC iter X.a x=pure x:=by intro _;rfl) :
 PE X (.ListComp elt [⟨tg,iter,ifs,0⟩] csc cpos) (sr fr wi g ts λacc=>pk acc te):=
 cz hc S hi (B:=λacc env=>(do let _ <-call (.builtin "list.append") [acc,<-eval elt env])) (Xl elt tg iter ifs csc cpos) hg ht (λC s0 H0 ex acc=>iF (he C s0 H0 ex)) hs
theorem iI(hc:X.j=true)(S:zv X N csc fr)(hi:PI X tg iter wi)(hg:∀C s0 H0 ex,PG (X.comp N csc C s0 H0 ex) tg g)(ht:∀C s0 H0 ex,PTs (X.comp N csc C s0 H0 ex) ifs ts)
 (he:∀C s0 H0 ex,PE (X.comp N csc C s0 H0 ex) elt te) (hN:X.N.Nodup) (hy:X.N[i]?=some y) (hx:Loc X.a.scope y)
 (hsw:Ei (.ListComp elt [⟨tg,iter,ifs,0⟩] csc cpos) (some (.Name y py)) spos.line X.a=pure true:=by rfl)
 (hf:X.q y=true\/X.a.scope.names.lookup y=some .local:=by first|exact .inl rfl|exact .inr rfl|assumption)
 (hs:∀x,CC iter X.a x=pure x:=by intro _;rfl) :
 PS X (.Assign [.Name y py] (.ListComp elt [⟨tg,iter,ifs,0⟩] csc cpos) spos) (tJ (sr fr wi g ts λacc=>pk acc te) (wG i)):=
 bM hc S hi (B:=λacc env=>(do let _ <-call (.builtin "list.append") [acc,<-eval elt env])) (Xl elt tg iter ifs csc cpos) hg ht (λC s0 H0 ex acc=>iF (he C s0 H0 ex)) hN hy hx hsw hf hs
end
end L2
end
section
namespace L2
open PySem PySem.Spec PyProof.Rows
section
variable {X:Cx}
theorem rk:yX X (.builtin "isinstance") (λxs H Q=>∃x c t b,xs=[x,.k c]/\uY X.K H x (.type t)/\Gh X.K (.type t) (.type c)=some b/\Q (.f b) H):=by intro pins s σ H xs us Q I r h;obtain⟨x,c,t,b,rfl,ty,e,q⟩:=h;obtain⟨u,w',rfl,rx,rc⟩:=vals2 r;cases (show w'=Ft c from rc);exact hJ I rx ty e λtk=>⟨.f b,H,I.tok _,rfl,q⟩
end
inductive Kd where
 |f|i|b|h|e|d|g
 deriving DecidableEq
noncomputable def Kd.nm:Kd->String
 |.f=>"NoneType"|.i=>"bool"|.b=>"int"|.h=>"str"|.e=>"list"|.d=>"tuple"|.g=>"dict"
noncomputable def Kd.sub(a c:Kd):Bool:=decide (a=c)||(decide (a=.i)&&decide (c=.b))
theorem W2 K(a c:Kd)(hc:c≠.f):Gh K (.type a.nm) (.type c.nm)=some (a.sub c):=by
 cases c with
 |f=>exact absurd rfl hc
 |i=>cases a<;>rfl
 |b=>cases a<;>rfl
 |h=>cases a<;>rfl
 |e=>cases a<;>rfl
 |d=>cases a<;>rfl
 |g=>cases a<;>rfl
section
variable {X:Cx}
theorem all_range:∀(bs:List Bool),((AY bs.length).all λi=>bs.getD i false)=bs.all id:=by
 intro bs;induction bs with
 |nil=>rfl
 |cons b bs ih=>
  rw[AL,List.range_succ_eq_map,D9,D9,List.all_map];exact congrArg (b&&·) (Eq.trans (by congr 1) ih)
theorem Vals.bools:∀{bs:List Bool} {us},Vals (bs.map V.f) us->us=bs.map C4
 |[],us,r=>by cases r;rfl
 |b::bs,us,r=>by
  rw[A1]at r;cases r with
  |cons r1 r2=>
   cases (show _=C4 b from r1);rw[Vals.bools r2,A1]
theorem rj(hc:X.j=true):yX X (.builtin "all") (λxs H Q=>∃(a:Addr) (bs:List Bool),xs=[.c a]/\SqL X.K H a (bs.map V.f)/\Q (.f (bs.all id)) H):=by
 intro pins s σ H xs us Q I r h;obtain⟨a,bs,rfl,ha,q⟩:=h;obtain⟨u,rfl,ru⟩:=vals1 r;cases ru;obtain⟨its,rv,pl,hz⟩:=I.list ha;have hits:=rv.bools;have alt:a<s.heap.objs.size:=by obtain⟨o,ho,_⟩:=pl.isList;exact Aj ho
 refine call_all_walk (D1 pl.isList ?_);refine⟨s.heap.objs.size,_,_,_,_,_,λi=>bs.getD i false,rfl,Walks.list (A:=X.A.in1) (I.C.k hc) s.heap.objs.size a (AG alt) its.toArray,⟨⟨_,Az _ rfl,rfl,rfl⟩,?_⟩,?_,λh' tk hk=>?_⟩
 . obtain⟨o,ho,hc',n,hd⟩:=pl.isList
   exact⟨o,lp _ ho,hc',n,hd⟩
 . intro i v s' Q' E' hv hq
   have hv':(bs.map C4)[i]?=some v:=by rw[<-hits];simpa using hv
   rw[A2]at hv';cases hb:bs[i]? with
   |none=>rw[hb]at hv';cases hv'
   |some b=>
    rw[hb]at hv';have:v=C4 b:=(AR hv').symm;subst this;have e:bs.getD i false=b:=by rw[Aq,hb];rfl
    have hq':Q' (bs.getD i false) s':=hq;rw[e]at hq';exact Bw hq'
 . have e:(AY its.toArray.size).all (λi=>bs.getD i false)=bs.all id:=by rw[Ai,hits,Ae];exact all_range bs
   rw[e];refine⟨.f (bs.all id),H,I.kept λb o ho=>hk b o ?_ (lp _ ho),rfl,q⟩;simpa using AG (Aj ho)
end
end L2
end
section
namespace L2
open PySem PySem.Spec PyProof.Rows
theorem bg(h:H p=none)o:xp H (upd H p o):=λb u q=>by rw[zJ (zP q h)];exact q
def sZ(H:Hp)(ys:List V)(Q:VK):Prop:=∀p H',xp H H'->H' p=some (.c ys)->Q (.c p) H'
theorem sZ.new(g:sZ H ys Q):∀p,H p=none->Q (.c p) (upd H p (.c ys)):=λp hp=>g p _ (bg hp _) zL
def RU:V->Option Int->Option Int->Hp->VK->Prop:=λx lo hi H Q=>∃a xs,x=.c a/\H a=some (.c xs)/\sZ H (qr xs lo hi) Q
def T6:R2:=λx y H Q=>∃a b xs ys,x=.c a/\y=.c b/\H a=some (.c xs)/\H b=some (.c ys)/\xs.length+ys.length<=Am/\sZ H (xs++ys) Q
def SE:R2:=λx y H Q=>∃a k xs,x=.c a/\y=.d k/\H a=some (.c xs)/\2<=k/\k<=1000/\xs≠[]/\xs.length<=1000/\sZ H (Ao k.toNat xs).flatten Q
section
variable {X:Cx}
theorem iy{lo hi}(ht:IsTup s.heap t items)(hs:s.heap.IsSliceOf sl vl vu .none)(pl:IsPart vl lo)(pu:IsPart vu hi)
 (h0:HT.sIx items.size 0 lo=0) (h1:HT.sIx items.size items.size hi=items.size) (h:Q (.ref t) s):wpAny (model prog w) A (getItem (.ref t) (.ref sl)) Q E s:=by
 obtain⟨os,hos,hcs,hds⟩:=id hs;have hTs:s.TypeIs (.ref sl) "slice":=⟨os,hos,hcs⟩;unfold getItem
 try with_reducible refine Bx ?_
 first|refine xd (Ag ?_)|skip
 refine xd (Fh ht.typeIs (by decide) ?_)
 refine xd (DV (name:=Et "__getitem__") ht.typeIs A0
  (FF A0 ht.typeIs EH ?_ (EV _ _)))
 show wpAny _ _ (Dv (.ref t) >>= _) _ _ s;refine xd (D8 ht ?_);refine xd (DH hTs ?_);rw[if_pos (by decide)]
 refine xd (HT.wk hs pl pu ?_);have hyes:(((HT.sIx items.size 0 lo:Nat):Int) == 0&&(1:Int) == 1&&(HT.sIx items.size items.size hi-HT.sIx items.size 0 lo) == items.size)=true:=by rw[h0,h1];simp
 show wpAny _ _ (if (((HT.sIx items.size 0 lo:Nat):Int) == 0&&(1:Int) == 1&&(HT.sIx items.size items.size hi-HT.sIx items.size 0 lo) == items.size)=true then _ else _) _ _ s
 rw[if_pos hyes];unfold E9;refine xd (xd (DH ht.typeIs (Ag ?_)));rw[if_pos (by decide)]
 exact xd (Gr (Ag ⟨_,rfl,Ag h⟩))
theorem YX:SlR X RU:=by
 intro pins s σ H x v vl vu lo hi sl Q I rx hs pl pu h;obtain⟨a,xs,rfl,hx,g⟩:=h;by_cases hw:HT.sIx xs.length 0 lo=0/\HT.sIx xs.length xs.length hi=xs.length
 . cases rx
   obtain⟨its,r,ht,hz⟩:=I.tuple (.inl (.inl hx));have hlen:its.toArray.size=xs.length:=by rw[Ai];exact r.length.symm
   refine⟨"tuple",_,A0.lookup,ht.typeIs,?_⟩;refine iy ht hs pl pu (by rw[hlen];exact hw.1) (by rw[hlen];exact hw.2) ⟨.c a,H,I,rfl,g a H (xp.refl H) ?_⟩
   rw[hx];unfold qr;rw[hw.1,hw.2,EK,Nat.sub_zero,List.take_length]
 . exact Vv pins s σ H (.c a) v vl vu lo hi sl Q I rx hs pl pu ⟨a,xs,rfl,.inl (.inl hx),hw,g.new⟩
theorem cU:OpR X (Bu .Add) T6:=by
 intro pins s σ H x y v u Q I rx ry h;obtain⟨a,b,xs,ys,rfl,rfl,ha,hb,hz,g⟩:=h;by_cases hx:xs=[]
 . cases rx
   cases ry;subst hx;obtain⟨its,r1,p1,_⟩:=I.tuple (.inl (.inl ha));obtain⟨its2,r2,p2,_⟩:=I.tuple (.inl (.inl hb));cases r1;obtain⟨⟨cls,dd,data,sl⟩,ho,hc,n,hd⟩:=id p1;obtain⟨⟨cls2,dd2,data2,sl2⟩,ho2,hc2,n2,hd2⟩:=id p2;simp only at hc hd hc2 hd2;subst hc hd hc2 hd2;exact concat_meets ⟨_,ho,rfl⟩ ⟨_,ho2,rfl⟩ FE GC D4 DU (DG _ _)
    (tuple_addW0 a b #[] its2.toArray n n2 dd dd2 sl sl2 rfl) ⟨ho,ho2,⟨.c b,H,I,rfl,g b H (xp.refl H) hb⟩⟩
 . refine Z4 pins s σ H (.c a) (.c b) v u Q I rx ry ⟨a,b,xs,ys,rfl,rfl,.inl (.inl ha),.inl (.inl hb),hx,hz,λe=>?_,λ_=>g.new⟩
   subst e;rw[A9]at g;exact g a H (xp.refl H) ha
theorem xY:fillsNumberSlot (.type "tuple") "mul"=pure false:=
 PySem.fillsNumberSlot_seq (id:="tuple.__mul__") (r:=some (.builtin "tuple.__rmul__")) Dr.lookup (by decide +kernel) F.slot_tuple_rmul.lookup (by decide +kernel)
theorem vG:seqRepeat? (.type "tuple")=pure (some (.builtin "tuple.__mul__")):=by
 unfold seqRepeat?;rw[PySem.seqSlot_of (T:="tuple") (name:="__mul__") (id:="tuple.__mul__") Dr.lookup (by decide +kernel),PySem.seqSlot_of (T:="tuple") (name:="__rmul__") (id:="tuple.__rmul__") F.slot_tuple_rmul.lookup (by decide +kernel)]
 rfl
theorem wH a t l items n dd sl :
 Meets (Builtin.«int.__rmul__» ⟨[.int a t,.ref l],[]⟩) (λ_ R s=>s.heap.get? l=some {cls:=.type "tuple",dict:=dd,data:=.seq items n,slots:=sl}/\R (.ok (.ret Value.notImplemented)) s):=
 .of_wp λprog w A R s h=>by obtain⟨hp,g,d,tk,os⟩:=s;obtain⟨hl,h⟩:=h;wp_walk;exact⟨_,rfl,h⟩
theorem jK l items n x u dd sl(h1:2<=x)(h2:x<=1000)(h3:¬items.isEmpty=true)(h4:items.size<=1000) :
 Meets (Builtin.«tuple.__mul__» ⟨[.ref l,.int x u],[]⟩) (λ_ R s=>s.heap.get? l=some {cls:=.type "tuple",dict:=dd,data:=.seq items n,slots:=sl} /\
  R (.ok (.ret (AF s.heap.objs.size))) {s with heap:=s.heap.push {cls:=Ft "tuple",data:=Data.seq (DR (λx1 x2=>x1++x2) #[] (Ao x.toNat items))},toks:=s.toks}):=
 .of_wp λprog w A R s h=>by
  obtain⟨hp,g,d,tk,os⟩:=s;obtain⟨hl,h⟩:=h;have f1:=FN;have c1:¬((decide (x < -(2 ^ 63))||decide (x ≥ 2 ^ 63))=true):=by simp;omega
  have c2:¬((items.isEmpty||x == 1)=true):=by simp at h3 ⊢;exact⟨h3,by omega⟩
  have c3:¬((decide (x<=0)||items.isEmpty)=true):=by simp at h3 ⊢;exact⟨by omega,h3⟩
  have hprod:(items.size:Int)*x<=1000*1000:=Int.mul_le_mul (by omega) h2 (by omega) (by omega)
  have c4:¬((items.size:Int)*x > (2 ^ 63-1)/8):=by omega
  have hL:Am=16777216:=AK;have c5:¬(Dw ((items.size:Int)*x)=true):=by unfold Dw;rw[hL];simp only[decide_eq_true_eq];omega
  have hn:(DR (λx1 x2=>x1++x2) #[] (Ao x.toNat items)).size=x.toNat*items.size:=by have e:=foldl_rep items.toList x.toNat [];simp only[Array.toArray_toList,Ew]at e;rw[e,Ai,len_rep,C1]
  have htake:sizeOk (.seq (DR (λx1 x2=>x1++x2) #[] (Ao x.toNat items))):=by
   show (DR (λx1 x2=>x1++x2) #[] (Ao x.toNat items)).size<=Am;rw[hn,hL];have:x.toNat*items.size<=1000*1000:=EL (by omega) h4
   omega
  wp_walk using DE hl
  rw[if_neg c1];refine xd (D8 (items:=items) ⟨_,hl,rfl,n,rfl⟩ ?_);rw[if_neg c2];show wpAny _ _ (if (decide (x<=0)||items.isEmpty)=true then _ else _) _ _ _
  rw[if_neg c3];show wpAny _ _ (if (items.size:Int)*x > (2 ^ 63-1)/8 then _ else _) _ _ _
  rw[if_neg c4];show wpAny _ _ (if Dw ((items.size:Int)*x)=true then _ else _) _ _ _
  rw[if_neg c5];exact xd (m:=Bi _) (Ba (Ag ⟨_,rfl,h⟩) htake)
theorem Z7:OpR X (Bu .Mult) SE:=by
 intro pins s σ H x y v u Q I rx ry h;obtain⟨a,k,xs,rfl,rfl,ha,h1,h2,h3,h4,g⟩:=h;cases rx;obtain⟨t,rfl⟩:=ry;obtain⟨its,r,p1,_⟩:=I.tuple (.inl (.inl ha));obtain⟨⟨cls,dd,data,sl⟩,ho,hc,n,hd⟩:=id p1;simp only at hc hd;subst hc hd;have hl:=r.length;have hne:¬its.toArray.isEmpty=true:=by simp;intro e;exact h3 (r.ur.mp e)
 refine CL (T:="tuple") (U:="int") (by decide) ⟨_,ho,rfl⟩ (λs'=>C9 s' k t) xY Ey Ce vG Ec.lookup
  (Cp Ce (C9 s k t) Ed (D2 _ _) (wH k t a its.toArray n dd sl)
   ⟨ho,rfl,⟨_,ho,rfl⟩,Cp Dr ⟨_,ho,rfl⟩ Fo (EZ _ _) (jK a its.toArray n k t dd sl h1 h2 hne (by rw[Ai,<-hl];exact h4)) ⟨ho,?_⟩⟩)
 have e:=foldl_rep its k.toNat [];rw[Ew]at e;have hz:(Ao k.toNat xs).flatten.length<=Am:=by
  rw[len_rep,AK];have:k.toNat*xs.length<=1000*1000:=EL (by omega) h4
  omega
 refine⟨.c s.heap.objs.size,_,I.laid (t':=s.toks) (o:=.c (Ao k.toNat xs).flatten) (λb ob q=>lp _ q) (Ah _) ⟨hz,(Ao k.toNat its).flatten,r.rep k.toNat,?_⟩,rfl,g.new _ (I.B.fresh (Ah _))⟩;rw[show (#[]:Array Value)=([]:List Value).toArray from rfl,e];exact tY.new _ _
end
end L2
end
section
namespace L2
open PySem PySem.Spec PyProof.Rows
section
variable {X:Cx}{pos:Pos}
def Xi(i j k:Nat)(ta:TA):TS:=λD σ H=>ta σ H λvs H1=>∃v w z,vs=[v,w,z]/\D.a (((σ.set i (some v)).set j (some w)).set k (some z)) H1
theorem vals3(r:Vals [x,y,z] us):∃u1 u2 u3,us=[u1,u2,u3]/\RelV x u1/\RelV y u2/\RelV z u3:=by
 cases r with
 |cons r1 r2=>
  cases r2 with
  |cons r3 r4=>
   cases r4 with
   |cons r5 r6=>cases r6;exact⟨_,_,_,rfl,r1,r3,r5⟩
theorem YQ{kt k2 pt2}(hc:X.j=true)(hN:X.N.Nodup)(hi:X.N[i]?=some x)(hj:X.N[j]?=some y)(hk:X.N[k]?=some z)(hij:i≠j)(hik:i≠k)(hjk:j≠k)
 (hx:X.a.scope.names.lookup x=some .local) (hy:X.a.scope.names.lookup y=some .local) (hz:X.a.scope.names.lookup z=some .local) (ha:PA X [a,b,c] ta)
 (hw:BX [.Tuple [.Name x px,.Name y py,.Name z pz] kt pt] (.Tuple [a,b,c] k2 pt2) X.a=pure (some [x,y,z]))
 (hs:D7 [.Tuple [.Name x px,.Name y py,.Name z pz] kt pt] (.Tuple [a,b,c] k2 pt2) pos.line X.a=pure false:=by rfl) :
 PS X (.Assign [.Tuple [.Name x px,.Name y py,.Name z pz] kt pt] (.Tuple [a,b,c] k2 pt2) pos) (Xi i j k ta):=by
 intro pins s σ H D I h;rw[exec_Assign_arm];refine xd (A4 ?_);rw[hs];refine xd (Ag ?_);rw[if_neg (by decide)]
 refine xd (Tuple_ (thn (ha _ pins s σ H _ I h) λus s1 ⟨vs,H1,I1,r1,q1⟩=>?_));obtain⟨v,w,zz,e1,q1⟩:=q1;subst e1;obtain⟨u1,u2,u3,rfl,rv,rw',rz⟩:=vals3 r1;refine Ba ?_ (by show 3<=Am;decide)
 have I2:Inv X pins σ H1 {s1 with heap:=s1.heap.push {cls:=.type "tuple",data:=.seq [u1,u2,u3].toArray}}:=I1.kept (t':=s1.toks) λb o e=>lp _ e
 rw[hw];refine xd (Ag ?_);show wpAny (model X.f X.w) X.A (do rule "assign.swapped-stores";let items <-unpackItems (.ref s1.heap.objs.size) 3 none;D6 [λv=>Df X.a z v,λv=>Df X.a y v,λv=>Df X.a x v] items.reverse;pure GJ) _ _ _
 refine xd (Gr (xd (unpackItems_tuple (items:=#[u1,u2,u3]) (I.C.k hc) (IsTup.new s1.heap _) λh' hx'=>?_)));have I3:=I2.kept (h':=h') (t':=s1.toks) λb o e=>hx' b o (AG (Aj e)) e;show wpAny _ _ (D6 [λv=>Df X.a z v,λv=>Df X.a y v,λv=>Df X.a x v] [u3,u2,u1] >>= λ_=>pure GJ) _ _ _;refine xd (Cq (DQ (xl I3 hN hk (.inl hz) rz (λs2 I4=>?_) (.inr hz))));refine Cq (DQ (xl I4 hN hj (.inl hy) rw' (λs3 I5=>?_) (.inr hy)));refine Cq (DQ (xl I5 hN hi (.inl hx) rv (λs4 I6=>Fe (Ag ?_)) (.inr hx)));refine⟨_,H1,?_,q1⟩;have e:((σ.set k (some zz)).set j (some w)).set i (some v)=((σ.set i (some v)).set j (some w)).set k (some zz):=by rw[E5 _ _ (A5 hij),E5 _ _ (A5 hik),E5 _ _ (A5 hjk)]
 rw[<-e];exact I6
theorem YI(hb:∀pins σ H s,Inv X pins σ H s->BW<s.heap.objs.size):PE X (.Dict [] [] pos) (λ_ H Q=>∀p,H p=none->Q (.c p) (upd H p (.i []))):=λpins s σ H Q I h=>
 FO ⟨.c s.heap.objs.size,_,I.laid (a:=s.heap.objs.size) (o:=.i []) (t':=s.toks) (λ_ _ q=>lp _ q) (Ah _)
  ⟨B9 _,beq_eq_false_iff_ne.mpr (A5 (AG (hb pins σ H s I))),[],.nil,Heap.DictOf.new s.heap⟩,rfl,h _ (I.B.fresh (Ah _))⟩
end
mutual
inductive DD(H:Hp)(p:Addr):V->PyData->Prop
 |non:DD H p .g .none
 |bl (b:Bool):DD H p (.f b) (.bool b)
 |int (i:Int):DD H p (.d i) (.int i)
 |str (x:Str):DD H p (.e x) (.str x)
 |lst {a:Addr} {xs:List V} {ds:List PyData}:H a=some (.b xs)->a≠p->DDs H p xs ds->DD H p (.c a) (.list ds)
 |tup {a:Addr} {xs:List V} {ds:List PyData}:H a=some (.c xs)->a≠p->DDs H p xs ds->DD H p (.c a) (.tuple ds)
 |dct {a:Addr}:H a=some (.i [])->a≠p->DD H p (.c a) (.dict [])
inductive DDs(H:Hp)(p:Addr):List V->List PyData->Prop
 |b:DDs H p [] []
 |a {x:V} {xs:List V} {d:PyData} {ds:List PyData}:DD H p x d->DDs H p xs ds->DDs H p (x::xs) (d::ds)
end
theorem DDs.length:∀{vs} {ds},DDs H p vs ds->vs.length=ds.length
 |_,_,.b=>rfl
 |_,_,.a _ rs=>by rw[AL,AL,rs.length]
theorem DDs.append:∀{vs ws} {ds es},DDs H p vs ds->DDs H p ws es->DDs H p (vs++ws) (ds++es)
 |_,_,_,_,.b,r=>r
 |_,_,_,_,.a r rs,q=>.a r (rs.append q)
mutual
noncomputable def xF:PyData->Bool
 |.none|.bool _|.int _|.str _=>false
 |.list _=>true
 |.tuple xs=>xW xs
 |.dict _=>false
noncomputable def xW:List PyData->Bool
 |[]=>false
 |x::xs=>xF x||xW xs
end
structure Yw(d:PyData):Prop where
 sh:d.showable=true
 a:d.hasDict=true->xF d=false
 dp:d.depth<=50
 ln:d.shown.length<=Am
end L2
end
section
namespace L2
open PySem PySem.Spec PyProof.Rows
structure lR(k w:Nat)(d:PyData):Prop where
 c:d.showable=true
 b:d.leavesShort 40=true
 a:d.depth<=k
 f:d.weight<=w
theorem cE(h1:-(10 ^ 30)<i)(h2:i<10 ^ 30):lR 0 100 (.int i):=by
 have hn:i.natAbs<10 ^ 30:=by omega
 have h100:i.natAbs<2 ^ 100:=Nat.lt_trans hn (by decide)
 have hlog:i.natAbs≠0->i.natAbs.log2<100:=λz=>(Nat.log2_lt z).mpr h100;refine⟨?_,?_,B9 _,?_⟩
 . show decide (i.natAbs.log2<1920)=true
   by_cases z:i.natAbs=0
   . rw[z];decide
   . exact decide_eq_true (Nat.lt_trans (hlog z) (by decide))
 . show decide ((PyData.shown (.int i)).length<=40)=true
   refine decide_eq_true ?_;show (Et (toString i)).length<=40;by_cases z:0<=i
   . exact Ay (toString_length_le z (k:=30) (by decide) h2) (by decide)
   . have e:=len_text_negI (n:=i) (by omega)
     have e2:=toString_length_le (v:=0-i) (k:=30) (by omega) (by decide) (by omega)
     omega
 . show (if i == 0 then 0 else i.natAbs.log2+1)<=100
   split
   . exact B9 _
   . rename_i z
     have z':i≠0:=by simpa using z
     exact hlog (by omega)
theorem uZ:∀{ds},(∀d∈ds,d.showable=true)->PyData.showableAll ds=true
 |[],_=>rfl
 |d::ds,h=>by rw[PyData.showableAll,h d Ap,uZ λx hx=>h x (Af _ hx)];rfl
theorem pE:∀{ds},(∀d∈ds,d.leavesShort 40=true)->PyData.leavesShortAll 40 ds=true
 |[],_=>rfl
 |d::ds,h=>by rw[PyData.leavesShortAll,h d Ap,pE λx hx=>h x (Af _ hx)];rfl
theorem pD:∀{ds},(∀d∈ds,d.depth<=k)->PyData.depthAll ds<=k
 |[],_=>B9 _
 |d::ds,h=>by rw[PyData.depthAll];exact Nat.max_le.mpr ⟨h d Ap,pD λx hx=>h x (Af _ hx)⟩
theorem rV:∀{ds},(∀d∈ds,d.weight<=w)->FP ds<=ds.length*(w+1)
 |[],_=>by simp[FP]
 |d::ds,h=>by rw[FP,AL,Nat.succ_mul];have h1:=h d Ap;have h2:=rV λx hx=>h x (Af _ hx);omega
theorem kE(h:∀d∈ds,lR k w d)(hn:ds.length<=n):lR (k+1) (n*(w+1)) (.tuple ds):=by refine⟨uZ λd hd=>(h d hd).c,pE λd hd=>(h d hd).b,Nat.succ_le_succ (pD λd hd=>(h d hd).a),?_⟩;exact Ay (rV λd hd=>(h d hd).f) (Nat.mul_le_mul_right _ hn)
theorem lR.SY(h:lR k w d)(hk:k<=50)(hw:w<=300000)(mix:d.hasDict=true->xF d=false):Yw d:=by
 refine⟨h.c,mix,Ay h.a hk,?_⟩;have e:=PyData.shown_le 40 (by decide) d h.b
 have e2:=h.f;rw[AK];have:(40+2)*d.weight<=42*300000:=Nat.mul_le_mul_left _ (Ay e2 hw);omega
theorem pY:∀{ds},(∀d∈ds,d.hasDict=false)->PyData.hasDictAll ds=false
 |[],_=>rfl
 |d::ds,h=>by rw[PyData.hasDictAll,h d Ap,pY λx hx=>h x (Af _ hx)];rfl
end L2
end
section
namespace L2
open PySem PySem.Spec PyProof.Rows
section
variable {X:Cx}{pos:Pos}
theorem Tt(hg:Gl X x)(hm:X.d x=none)(hv:Ca x=some (.type n))(hn:x≠"__name__":=by decide)(hd:(x == ("__debug__":Str))=false:=by decide):PE X (.Name x pos) (tC (.k n)):=
 YH hg hm hv (show RelV (.k n) (.type n) from rfl) hn hd
theorem Tx(ha:PT X a tA)(hb:PW X (.BoolOp .Or (b::rest) pos) tB'):PT X (.BoolOp .Or (a::b::rest) pos) (tOr tA tB'):=(T4 ha hb).pt
noncomputable def noStar:Expr->Bool
 |.Starred ..=>false
 |_=>true
theorem zf(h:noStar e=true):Av (e::es) env=(false,eval e env)::Av es env:=by
 cases e<;>first|rfl|cases h
theorem pac(ha:PE X e te)(hr:PA X es t)(hs:noStar e=true:=by rfl):PA X (e::es) (xM te t):=yE ha hr (zf hs)
noncomputable def tq(sc0:Scope)(N0 N:List Str)(csc:Scope)(fr:List (Option Nat)):Bool:=
 decide (csc.kind=.function)&&csc.names.all (λx=>decide (x.2≠.cell)||csc.names.all λy=>decide (y≠(x.1,AA)))&&csc.names.all (λx=>decide (x.2≠.local)||decide (csc.names.lookup x.1=some .local)) &&
 csc.names.all (λx=>decide (x.2≠.free)||(decide (sc0.names.lookup x.1=some .cell)||decide (sc0.names.lookup x.1=some .free)))&&decide (fr.length=N.length) &&
 (AY N.length).all (λi=>match fr[i]?,N[i]? with|some (some j),some x=>decide (N0[j]?=some x)&&csc.names.any (λy=>decide (y.1=x)&&decide (y.2=.free))|_,_=>true) &&
 csc.names.all (λx=>decide (x.2≠.free)||decide (csc.names.lookup x.1≠some .local))&&(decide (("!":Str) ∉ N)||(decide (("!":Str)∈N0)&&sc0.names.any (λy=>decide (sc0.names.lookup y.1=some .cell))))
end
end L2
end
section
namespace L2
open PySem PySem.Spec PyProof.Rows
noncomputable def z9{α:Type}(xs:List α)(lo st:Int)(n:Nat):List α:=(AY n).filterMap λ(k:Nat)=>xs[(lo+(k:Int)*st).toNat]?
theorem Vals.pick(r:Vals xs us):∀(is:List Nat),Vals (is.filterMap λi=>xs[i]?) (is.filterMap λi=>us[i]?)
 |[]=>.nil
 |i::is=>by
  rw[A6,A6];cases hx:xs[i]? with
  |none=>rw[r.none_of hx];exact Vals.pick r is
  |some x=>
   obtain⟨u,hu,ru⟩:=r.get hx;rw[hu];exact .cons ru (Vals.pick r is)
theorem Vals.z9{xs:List V}{us:List Value}(r:Vals xs us)(lo st:Int)(n:Nat):Vals (z9 xs lo st n) (L2.z9 us lo st n):=by have h:=r.pick ((AY n).map λ(k:Nat)=>(lo+(k:Int)*st).toNat);rw[B5,B5]at h;exact h
theorem ma(xs:List α)lo st n:(z9 xs lo st n).length<=n:=by have:=FQ (λ(k:Nat)=>xs[(lo+(k:Int)*st).toNat]?) (AY n);rw[Bl]at this;exact this
noncomputable def yn(n:Nat)(lo hi:Option Int)(st:Int):Int × Nat:=((BL lo hi st (n:Int)).1,B8 (BL lo hi st (n:Int)).1 (BL lo hi st (n:Int)).2 st)
section
variable {prog:Program}{w:World}{A:Around}{E:Value->Shared->Prop}{s:Shared}
theorem qw{lo hi}{st}{n:Nat}(hs:s.heap.IsSliceOf sl vl vu vc)(pl:IsPart vl lo)(pu:IsPart vu hi)(pc:IsPart vc (some st))(h0:st≠0)
 (h:Q ((yn n lo hi st).1,st,(yn n lo hi st).2) s):wpAny (model prog w) A (CA (.ref sl) (pure (n:Int))) Q E s:=by
 obtain⟨os,hos,hcs,hds⟩:=id hs;unfold CA Fv;refine xd (xd (BQ hos hds (x:=vl) rfl (xd (BQ hos hds (x:=vu) rfl (xd (BQ hos hds (x:=vc) rfl (Ag ?_)))))));refine xd (HT.wL pc ?_);show wpAny _ _ (if (st == 0)=true then _ else _) _ _ s
 rw[if_neg (by simpa using h0)]
 exact xd (HT.wL pl (xd (HT.wL pu (xd (Ag (Ag h))))))
theorem aN{lo hi}{st}(ht:IsTup s.heap t items)(hs:s.heap.IsSliceOf sl vl vu vc)(pl:IsPart vl lo)(pu:IsPart vu hi)(pc:IsPart vc (some st))(h0:st≠0)
 (hq1:(yn items.size lo hi st).1=0->st=1->(yn items.size lo hi st).2=items.size->Q (.ref t) s)
 (hq2:Q (.ref s.heap.objs.size) {s with heap:=s.heap.push {cls:=.type "tuple",data:=.seq (z9 items.toList (yn items.size lo hi st).1 st (yn items.size lo hi st).2).toArray}})
 (hsz:(yn items.size lo hi st).2<=Am):wpAny (model prog w) A (getItem (.ref t) (.ref sl)) Q E s:=by
 obtain⟨os,hos,hcs,hds⟩:=id hs;have hTs:s.TypeIs (.ref sl) "slice":=⟨os,hos,hcs⟩;have htake:sizeOk (.seq (z9 items.toList (yn items.size lo hi st).1 st (yn items.size lo hi st).2).toArray):=by show (z9 items.toList (yn items.size lo hi st).1 st (yn items.size lo hi st).2).toArray.size<=Am;rw[Ai];exact Ay (ma _ _ _ _) hsz
 have epick:((AY (yn items.size lo hi st).2).filterMap λ(k:Nat)=>items[((yn items.size lo hi st).1+(k:Int)*st).toNat]?).toArray=(z9 items.toList (yn items.size lo hi st).1 st (yn items.size lo hi st).2).toArray:=by unfold z9;simp only[Array.getElem?_toList]
 unfold getItem
 try with_reducible refine Bx ?_
 first|refine xd (Ag ?_)|skip
 refine xd (Fh ht.typeIs (by decide) ?_)
 refine xd (DV (name:=Et "__getitem__") ht.typeIs A0
  (FF A0 ht.typeIs EH ?_ (EV _ _)))
 show wpAny _ _ (Dv (.ref t) >>= _) _ _ s;refine xd (D8 ht ?_);refine xd (DH hTs ?_);rw[if_pos (by decide)]
 refine xd (qw (n:=items.size) hs pl pu pc h0 ?_);by_cases hw:((yn items.size lo hi st).1 == 0&&st == 1&&(yn items.size lo hi st).2 == items.size)=true
 . show wpAny _ _ (if ((yn items.size lo hi st).1 == 0&&st == 1&&(yn items.size lo hi st).2 == items.size)=true then _ else _) _ _ s
   rw[if_pos hw];simp only[cf,beq_iff_eq]at hw;unfold E9;refine xd (xd (DH ht.typeIs (Ag ?_)));rw[if_pos (by decide)]
   exact xd (Gr (Ag ⟨_,rfl,Ag (hq1 hw.1.1 hw.1.2 hw.2)⟩))
 . show wpAny _ _ (if ((yn items.size lo hi st).1 == 0&&st == 1&&(yn items.size lo hi st).2 == items.size)=true then _ else _) _ _ s
   rw[if_neg hw,epick]
   first
    |exact xd (m:=Bi _) (Ba (Ag ⟨_,rfl,Ag hq2⟩) htake)
    |exact xd (xd (m:=Bi _) (Ba (Ag ⟨_,rfl,Ag hq2⟩) htake))
end
theorem me{α:Type}:∀xs:List α,(AY xs.length).filterMap (λk=>xs[k]?)=xs
 |[]=>rfl
 |x::xs=>by
  rw[AL,List.range_succ_eq_map,A6,B5];show x::_=_;refine congrArg (x::·) (Eq.trans ?_ (me xs))
  congr 1
theorem kg(xs:List α):z9 xs 0 1 xs.length=xs:=by
 unfold z9;have e:(λ(k:Nat)=>xs[(0+(k:Int)*1).toNat]?)=λk=>xs[k]?:=by funext k;rw[show (0+(k:Int)*1).toNat=k by omega]
 rw[e];exact me xs
def RV:V->Option Int->Option Int->Option Int->Hp->VK->Prop:=λx lo hi st H Q=>∃a xs c,x=.c a/\H a=some (.c xs)/\st=some c/\c≠0/\(yn xs.length lo hi c).2<=Am/\sZ H (z9 xs (yn xs.length lo hi c).1 c (yn xs.length lo hi c).2) Q
def So(r:V->Option Int->Option Int->Option Int->Hp->VK->Prop)(te:TE)(tl th tc:TO):TE:=λσ H Q=>te σ H λx H1=>tl σ H1 λl H2=>th σ H2 λu H3=>tc σ H3 λc H4=>r x l u c H4 Q
theorem gh{lo hi}{st}(he:PE X e te)(hl:PO X lo tl)(hu:PO X hi th)(hc:PO X (some st) tc):PE X (.Subscript e (.Slice lo hi (some st) p2) pos) (So RV te tl th tc):=by
 intro pins s σ H Q I h;refine Gu (thn (he pins s σ H _ I h) λv s1 ⟨x,H1,I1,r1,q1⟩=>?_);refine wpAny_Slice (thn (hl pins s1 σ H1 _ I1 q1) λvl s2 ⟨l,H2,I2,pl,q2⟩=>thn (hu pins s2 σ H2 _ I2 q2) λvu s3 ⟨u,H3,I3,pu,q3⟩=>thn (hc pins s3 σ H3 _ I3 q3) λvc s4 ⟨c,H4,I4,pc,q4⟩=>?_);obtain⟨a,xs,cc,rfl,hx,ec,h0,hsz,g⟩:=q4;subst ec;cases r1;have I5:Inv X pins σ H4 {s4 with heap:=s4.heap.push {cls:=.type "slice",data:=.fields #[vl,vu,vc]}}:=I4.kept (t':=s4.toks) λb ob q=>lp _ q
 obtain⟨its,r,ht,hz⟩:=I5.tuple (.inl (.inl hx));have hlen:its.toArray.size=xs.length:=by rw[Ai];exact r.length.symm
 show wpAny (model X.f X.w) X.A (E7 e (.Slice lo hi (some st) p2) (.ref a) (.ref s4.heap.objs.size)) (EP X pins σ Q) X.i {s4 with heap:=s4.heap.push {cls:=.type "slice",data:=.fields #[vl,vu,vc]}}
 refine tail_any (ops:=[.ref a,.ref s4.heap.objs.size]) ht.typeIs A0.lookup (aN ht (EW ..) pl pu pc h0 (λz1 z2 z3=>?_) ?_ (by rw[hlen];exact hsz)) (by with_unfolding_all rfl)
 . refine⟨.c a,H4,I5,rfl,g a H4 (xp.refl H4) ?_⟩
   rw[hlen]at z1 z3;rw[hx,z1,z3,z2,kg]
 . rw[hlen]
   refine⟨.c _,_,I5.laid (t':=s4.toks) (o:=.c (z9 xs (yn xs.length l u cc).1 cc (yn xs.length l u cc).2)) (λb ob q=>lp _ q) (Ah _) ?_,rfl,g.new _ (I5.B.fresh (Ah _))⟩;refine⟨Ay (ma _ _ _ _) hsz,_,r.z9 _ _ _,?_⟩;exact tY.new _ _
end L2
end
section
namespace L2
open PySem PyProof.Rows
section
variable {X:Cx}
noncomputable def xw(d:Int):List Int->Int
 |[]=>d
 |n::ns=>ns.foldl (λa b=>if b > a then b else a) n
theorem r0:∀(ns:List Int) a,a<=ns.foldl (λa b=>if b > a then b else a) a/\(∀x∈ns,x<=ns.foldl (λa b=>if b > a then b else a) a)/\(ns.foldl (λa b=>if b > a then b else a) a=a\/ns.foldl (λa b=>if b > a then b else a) a∈ns)
 |[],a=>⟨Int.le_refl _,λ_ h=>(nomatch h),.inl rfl⟩
 |n::ns,a=>by
  obtain⟨h1,h2,h3⟩:=r0 ns (if n > a then n else a)
  show a<=ns.foldl _ (if n > a then n else a)/\_
  have hc:a<=(if n > a then n else a)/\n<=(if n > a then n else a):=by split<;>omega
  refine⟨FR hc.1 h1,λx hx=>?_,?_⟩
  . rcases An.mp hx with e|hx
    . rw[e];exact FR hc.2 h1
    . exact h2 x hx
  . rcases h3 with h3|h3
    . show ns.foldl _ (if n > a then n else a)=a\/ns.foldl _ (if n > a then n else a)∈n::ns
      rw[h3];split
      . exact .inr (Ap ..)
      . exact .inl rfl
    . exact .inr (Af _ h3)
theorem kL(h:ns≠[]):xw d ns∈ns/\∀x∈ns,x<=xw d ns:=by
 cases ns with
 |nil=>exact absurd rfl h
 |cons n ns=>
  obtain⟨h1,h2,h3⟩:=r0 ns n;refine⟨?_,λx hx=>?_⟩
  . rcases h3 with h3|h3
    . show ns.foldl _ n∈_;rw[h3];exact Ap ..
    . exact Af _ h3
  . rcases An.mp hx with e|hx
    . rw[e];exact h1
    . exact h2 x hx
theorem mO(h1:M∈ns)(h2:∀x∈ns,x<=M):xw d ns=M:=by
 have hne:ns≠[]:=λe=>by rw[e]at h1;exact nomatch h1
 obtain⟨a,b⟩:=kL (d:=d) hne;exact Int.le_antisymm (h2 _ a) (b _ h1)
theorem Vals.ints:∀{ns:List Int} {us},Vals (ns.map V.d) us->∀{i:Nat} {v},us[i]?=some v->∃t,v=.int (ns.getD i 0) t
 |[],_,.nil,_,_,h=>by cases h
 |n::ns,_,.cons r rs,0,v,h=>by
  obtain⟨t,e⟩:=r;have:v=.int n t:=(AR h).symm.trans e;exact⟨t,this⟩
 |n::ns,_,.cons r rs,i+1,v,h=>by have:=Vals.ints rs (i:=i) (v:=v) h;exact this
end
end L2
end
section
namespace L2
open PySem PyProof PyProof.Rows
section
variable {X:Cx}
theorem jJ l items n u dd sl :
 Meets (Builtin.«tuple.__mul__» ⟨[.ref l,.int 1 u],[]⟩) (λ_ R s=>s.heap.get? l=some {cls:=.type "tuple",dict:=dd,data:=.seq items n,slots:=sl}/\R (.ok (.ret (AF l))) s):=
 .of_wp λprog w A R s h=>by
  obtain⟨hp,g,d,tk,os⟩:=s;obtain⟨hl,h⟩:=h;have f1:=FN;have c1:¬((decide ((1:Int) < -(2 ^ 63))||decide ((1:Int) ≥ 2 ^ 63))=true):=by decide
  have c2:((items.isEmpty||((1:Int) == 1))=true):=by simp
  wp_walk using DE hl
  exact⟨_,rfl,h⟩
theorem jH l items n x u dd sl(h1:x<=0)(h2:-1000<=x)(h3:¬items.isEmpty=true) :
 Meets (Builtin.«tuple.__mul__» ⟨[.ref l,.int x u],[]⟩) (λ_ R s=>s.heap.get? l=some {cls:=.type "tuple",dict:=dd,data:=.seq items n,slots:=sl} /\
  R (.ok (.ret (AF s.heap.objs.size))) {s with heap:=s.heap.push {cls:=Ft "tuple",data:=Data.seq #[]},toks:=s.toks}):=
 .of_wp λprog w A R s h=>by
  obtain⟨hp,g,d,tk,os⟩:=s;obtain⟨hl,h⟩:=h;have f1:=FN;have c1:¬((decide (x < -(2 ^ 63))||decide (x ≥ 2 ^ 63))=true):=by simp;omega
  have c2:¬((items.isEmpty||x == 1)=true):=by simp at h3 ⊢;exact⟨h3,by omega⟩
  have c3:((decide (x<=0)||items.isEmpty)=true):=by simp;exact .inl h1
  wp_walk using DE hl
  rw[if_neg c1];refine xd (D8 (items:=items) ⟨_,hl,rfl,n,rfl⟩ ?_);rw[if_neg c2];show wpAny _ _ (if (decide (x<=0)||items.isEmpty)=true then _ else _) _ _ _
  rw[if_pos c3];exact xd (m:=Bi _) (Ba (Ag ⟨_,rfl,h⟩))
def SG:R2:=λx y H Q=>∃a k xs,x=.c a/\y=.d k/\H a=some (.c xs)∧-1000<=k/\k<=1000/\xs≠[]/\xs.length<=1000/\sZ H (Ao k.toNat xs).flatten Q
theorem Z6:OpR X (Bu .Mult) SG:=by
 intro pins s σ H x y v u Q I rx ry h;obtain⟨a,k,xs,rfl,rfl,ha,h1,h2,h3,h4,g⟩:=h;by_cases hk2:2<=k
 . exact Z7 pins s σ H _ _ v u Q I rx ry ⟨a,k,xs,rfl,rfl,ha,hk2,h2,h3,h4,g⟩
 cases rx;obtain⟨t,rfl⟩:=ry;obtain⟨its,r,p1,_⟩:=I.tuple (.inl (.inl ha));obtain⟨⟨cls,dd,data,sl⟩,ho,hc,n,hd⟩:=id p1;simp only at hc hd;subst hc hd;by_cases hk1:k=1
 . subst hk1
   refine CL (T:="tuple") (U:="int") (by decide) ⟨_,ho,rfl⟩ (λs'=>C9 s' 1 t) xY Ey Ce vG Ec.lookup
    (Cp Ce (C9 s 1 t) Ed (D2 _ _) (wH 1 t a its.toArray n dd sl)
     ⟨ho,rfl,⟨_,ho,rfl⟩,Cp Dr ⟨_,ho,rfl⟩ Fo (EZ _ _) (jJ a its.toArray n t dd sl) ⟨ho,?_⟩⟩)
   refine⟨.c a,H,I,rfl,g a H (xp.refl H) ?_⟩;rw[ha];simp
 . have hne:¬its.toArray.isEmpty=true:=by simp;intro e;exact h3 (r.ur.mp e)
   have e0:k.toNat=0:=by omega
   refine CL (T:="tuple") (U:="int") (by decide) ⟨_,ho,rfl⟩ (λs'=>C9 s' k t) xY Ey Ce vG Ec.lookup
    (Cp Ce (C9 s k t) Ed (D2 _ _) (wH k t a its.toArray n dd sl)
     ⟨ho,rfl,⟨_,ho,rfl⟩,Cp Dr ⟨_,ho,rfl⟩ Fo (EZ _ _) (jH a its.toArray n k t dd sl (by omega) h1 hne) ⟨ho,?_⟩⟩)
   rw[e0]at g;refine⟨.c s.heap.objs.size,_,I.laid (t':=s.toks) (o:=.c []) (λb ob q=>lp _ q) (Ah _) ⟨B9 _,[],.nil,tY.new _ _⟩,rfl,g.new _ (I.B.fresh (Ah _))⟩
noncomputable def km(a b c:Int):List Int:=(AY (BU a b c).toNat).map λ(i:Nat)=>a+(i:Int)*c
end
end L2
end
section
namespace L2
open PySem PyProof PyProof.Rows
section
variable {X:Cx}
theorem pN:∀{xs} {us},Vals xs us->xs.all vJ=true->us.countP (eqU x)=xs.countP λy=>eqV y x
 |_,_,.nil,_=>rfl
 |y::ys,u::us,.cons r rs,h=>by rw[D9,cf]at h;rw[List.countP_cons,List.countP_cons,pN rs h.2,lj r h.1]
def kl(K:Ac)(tup:Bool):V->List V->Hp->VK->Prop:=λx vs H Q=>∃t xs y,x=.c t/\vs=[y]/\(if tup=true then SqT K H t xs else SqL K H t xs)/\vJ y=true/\xs.all vJ=true/\Q (.d (xs.countP λz=>eqV z y:Nat)) H
theorem gM:MtR X "list.count" (kl X.K false):=by
 intro pins s σ H x xs v us Q I rx rs h;obtain⟨t,ys,y,rfl,rfl,ht,fy,fs,q⟩:=h;cases rx;obtain⟨u,rfl,ru⟩:=vals1 rs;obtain⟨its,r,p1,_⟩:=I.list ht;obtain⟨⟨cls,dd,data,sl⟩,ho,hc,n,hd⟩:=id p1.isList;simp only at hc hd;subst hc hd;refine Cp F.slot_list_count ⟨_,ho,rfl⟩ F.entry_list_count (F.args_list_count_2 _ _) (SeqAt.list_countAt t its.toArray n dd sl u (eqU y)) ⟨ho,λw hw=>qL ru fy r fs w (by simpa using hw),?_⟩
 rw[show its.toArray.toList=its from rfl,pN r fs];exact⟨.d _,H,I.tok _,⟨s.toks,rfl⟩,q⟩
noncomputable def vZ(d:Int):List Int->Int
 |[]=>d
 |n::ns=>ns.foldl (λa b=>if b<a then b else a) n
theorem r8:∀(ns:List Int) a,ns.foldl (λa b=>if b<a then b else a) a<=a/\(∀x∈ns,ns.foldl (λa b=>if b<a then b else a) a<=x)/\(ns.foldl (λa b=>if b<a then b else a) a=a\/ns.foldl (λa b=>if b<a then b else a) a∈ns)
 |[],a=>⟨Int.le_refl _,λ_ h=>(nomatch h),.inl rfl⟩
 |n::ns,a=>by
  obtain⟨h1,h2,h3⟩:=r8 ns (if n<a then n else a)
  show ns.foldl _ (if n<a then n else a)<=a/\_
  have hc:(if n<a then n else a)<=a/\(if n<a then n else a)<=n:=by split<;>omega
  refine⟨FR h1 hc.1,λx hx=>?_,?_⟩
  . rcases An.mp hx with e|hx
    . rw[e];exact FR h1 hc.2
    . exact h2 x hx
  . rcases h3 with h3|h3
    . show ns.foldl _ (if n<a then n else a)=a\/ns.foldl _ (if n<a then n else a)∈n::ns
      rw[h3];split
      . exact .inr (Ap ..)
      . exact .inl rfl
    . exact .inr (Af _ h3)
theorem kM(h:ns≠[]):vZ d ns∈ns/\∀x∈ns,vZ d ns<=x:=by
 cases ns with
 |nil=>exact absurd rfl h
 |cons n ns=>
  obtain⟨h1,h2,h3⟩:=r8 ns n;refine⟨?_,λx hx=>?_⟩
  . rcases h3 with h3|h3
    . show ns.foldl _ n∈_;rw[h3];exact Ap ..
    . exact Af _ h3
  . rcases An.mp hx with e|hx
    . rw[e];exact h1
    . exact h2 x hx
theorem mP(h1:M∈ns)(h2:∀x∈ns,M<=x):vZ d ns=M:=by
 have hne:ns≠[]:=λe=>by rw[e]at h1;exact nomatch h1
 obtain⟨a,b⟩:=kM (d:=d) hne;exact Int.le_antisymm (b _ h1) (h2 _ a)
def XY(K:Ac)(g:List Int->Int):List V->Hp->VK->Prop:=λxs H Q=>∃(a:Addr) (ns:List Int),xs=[.c a]/\SqL K H a (ns.map V.d)/\ns≠[]/\Q (.d (g ns)) H
theorem il(hc:X.j=true):yX X (.builtin "max") (XY X.K (xw 0)):=by
 intro pins s σ H xs us Q I r h;obtain⟨a,ns,rfl,ha,hne,q⟩:=h;obtain⟨u,rfl,ru⟩:=vals1 r;cases ru;obtain⟨its,rv,pl,hz⟩:=I.list ha;have hlen:=rv.length;have alt:a<s.heap.objs.size:=by obtain⟨o,ho,_⟩:=pl.isList;exact Aj ho
 have hl:its.toArray.size=ns.length:=by rw[Ai,<-hlen,Ae]
 have hpos:0<ns.length:=Cj.mpr hne;have hat:∀(i:Nat) (v:Value),its.toArray[i]?=some v->∃t,v=.int (ns.getD i 0) t:=λi v hv=>rv.ints (by simpa using hv)
 refine call_max_walk (D1 pl.isList ?_);refine⟨s.heap.objs.size,_,_,_,_,_,_,rfl,Walks.list (A:=X.A.in1) (I.C.k hc) s.heap.objs.size a (AG alt) its.toArray,⟨⟨_,Az _ rfl,rfl,rfl⟩,?_⟩,λb hb=>?_,by omega,CmpOf.ints_gt (λi=>ns.getD i 0) hat,λv h' tk hP hk=>?_⟩
 . obtain⟨o,ho,hc',n,hd⟩:=pl.isList
   exact⟨o,lp _ ho,hc',n,hd⟩
 . rw[Bo]
   simp only[An,Bj,or_false]at hb;rcases hb with e|e
   . rw[e];exact CU _
   . rw[e];exact CD alt
 . obtain⟨t,rfl⟩:=hat _ _ hP
   obtain⟨b1,b2⟩:=argBest_gt (λi=>ns.getD i 0) (its.toArray.size-1);have e:xw 0 ns=ns.getD (argBest (λi j=>decide (ns.getD i 0 > ns.getD j 0)) (its.toArray.size-1)) 0:=by
    refine mO ?_ λx hx=>?_
    . have:argBest (λi j=>decide (ns.getD i 0 > ns.getD j 0)) (its.toArray.size-1)<ns.length:=by omega
      rw[Aq,Aa this];exact B2 this
    . obtain⟨i,hi,rfl⟩:=Bv hx
      have:=b2 i (by omega)
      simpa [Aq,Aa hi] using this
   refine⟨.d (xw 0 ns),H,I.kept λb o ho=>hk b o ?_ (lp _ ho),⟨t,by rw[e]⟩,q⟩
   simpa using AG (Aj ho)
theorem ir(hc:X.j=true):yX X (.builtin "min") (XY X.K (vZ 0)):=by
 intro pins s σ H xs us Q I r h;obtain⟨a,ns,rfl,ha,hne,q⟩:=h;obtain⟨u,rfl,ru⟩:=vals1 r;cases ru;obtain⟨its,rv,pl,hz⟩:=I.list ha;have hlen:=rv.length;have alt:a<s.heap.objs.size:=by obtain⟨o,ho,_⟩:=pl.isList;exact Aj ho
 have hl:its.toArray.size=ns.length:=by rw[Ai,<-hlen,Ae]
 have hpos:0<ns.length:=Cj.mpr hne;have hat:∀(i:Nat) (v:Value),its.toArray[i]?=some v->∃t,v=.int (ns.getD i 0) t:=λi v hv=>rv.ints (by simpa using hv)
 refine call_min_walk (D1 pl.isList ?_);refine⟨s.heap.objs.size,_,_,_,_,_,_,rfl,Walks.list (A:=X.A.in1) (I.C.k hc) s.heap.objs.size a (AG alt) its.toArray,⟨⟨_,Az _ rfl,rfl,rfl⟩,?_⟩,λb hb=>?_,by omega,CmpOf.ints_lt (λi=>ns.getD i 0) hat,λv h' tk hP hk=>?_⟩
 . obtain⟨o,ho,hc',n,hd⟩:=pl.isList
   exact⟨o,lp _ ho,hc',n,hd⟩
 . rw[Bo]
   simp only[An,Bj,or_false]at hb;rcases hb with e|e
   . rw[e];exact CU _
   . rw[e];exact CD alt
 . obtain⟨t,rfl⟩:=hat _ _ hP
   obtain⟨b1,b2⟩:=argBest_lt (λi=>ns.getD i 0) (its.toArray.size-1);have e:vZ 0 ns=ns.getD (argBest (λi j=>decide (ns.getD i 0<ns.getD j 0)) (its.toArray.size-1)) 0:=by
    refine mP ?_ λx hx=>?_
    . have:argBest (λi j=>decide (ns.getD i 0<ns.getD j 0)) (its.toArray.size-1)<ns.length:=by omega
      rw[Aq,Aa this];exact B2 this
    . obtain⟨i,hi,rfl⟩:=Bv hx
      have:=b2 i (by omega)
      simpa [Aq,Aa hi] using this
   refine⟨.d (vZ 0 ns),H,I.kept λb o ho=>hk b o ?_ (lp _ ho),⟨t,by rw[e]⟩,q⟩
   simpa using AG (Aj ho)
theorem gb{o e:Expr}{to te:TE}{apos cpos:Pos}{es:List Expr}(ho:PE X o to)(he:PE X e te)(hbase:BY o "append" X.a (eval o X.a)=eval o X.a:=by rfl)(hst:noStar e=true:=by rfl)(hline:(apos.endLine == cpos.line)=true:=by rfl) :
 PE X (.Call (.Attribute o "append" apos) [e] [] cpos) (tBM X.K "list" iK to (xM te tK)):=by
 have hs1:Av [e] X.a=(false,eval e X.a)::Av [] X.a:=zf hst;refine cx DW PySem.F.slot_list_append PySem.F.type_list_append pU ho (pac he yk hst) hbase ?_ hline hs1 rfl;rw[hs1];rfl
theorem gc(ho:PE X o to)(he:PE X e te)(hbase:BY o "count" X.a (eval o X.a)=eval o X.a:=by rfl)(hst:noStar e=true:=by rfl)(hline:(apos.endLine == cpos.line)=true:=by rfl) :
 PE X (.Call (.Attribute o "count" apos) [e] [] cpos) (tBM X.K "list" (kl X.K false) to (xM te tK)):=by
 have hs1:Av [e] X.a=(false,eval e X.a)::Av [] X.a:=zf hst;refine cx DW PySem.F.slot_list_count PySem.F.type_list_count gM ho (pac he yk hst) hbase ?_ hline hs1 rfl;rw[hs1];rfl
end
end L2
namespace L2
open PySem
end L2
end
section
namespace L2
open PySem PySem.W PySem.Calls PyProof PyProof.Rows
noncomputable def Yz(z:Int × Int):Int:=z.1*1000+z.2
end L2
end
section
namespace L2
open PySem PySem.W PySem.Calls PyProof PyProof.Rows
noncomputable def U8:List Int->List Int->Bool
 |x::xs,y::ys=>if x=y then U8 xs ys else decide (x<y)
 |_,_=>false
end L2
end
section
namespace L2
open PySem PySem.W PySem.Calls PyProof PyProof.Rows
noncomputable def U7:List Int->List Int->Bool
 |x::xs,y::ys=>if x=y then U7 xs ys else decide (x<y)
 |[],_::_=>true
 |_,[]=>false
def Us(z:List Int):List (List Int)->List (List Int)
 |[]=>[z]
 |y::ys=>if U7 y z then y::Us z ys else z::y::ys
def Xc:List (List Int)->List (List Int)
 |[]=>[]
 |z::zs=>Us z (Xc zs)
end L2
end
section
namespace L2
open PySem PyProof.Rows
noncomputable def intsOf:List Expr->Option (List Int)
 |[]=>some []
 |.Constant (.int i) _ _::es=>(intsOf es).map λr=>i::r
 |.UnaryOp .USub (.Constant (.int i) _ _) _::es=>(intsOf es).map λr=>-i::r
 |_=>none
end L2
end
section
namespace L2
open PySem PyProof.Rows
section
variable {X:Cx}{a b:Expr}{rest:List Expr}{ta tb:TE}{pos:Pos}
def Rc(K:Ac)(ta tb:TE):TE:=λσ H Q=>ta σ H λx H1=>∃c,ae K x H1 c/\if c=true then Q x H1 else tb σ H1 Q
theorem Vd(ha:PE X a ta)(hb:PE X (.BoolOp .Or (b::rest) pos) tb):PE X (.BoolOp .Or (a::b::rest) pos) (Rc X.K ta tb):=by
 intro pins s σ H Q I h;refine BoolOp_or (thn (ha pins s σ H _ I h) λv s1 ⟨x,H1,I1,r1,c,ht,q1⟩=>?_);refine thn (aM pins s1 σ H1 x v (λk H2=>if k=true then Q x H2 else tb σ H2 Q) I1 r1 ⟨c,ht,q1⟩) λk s2 ⟨H2,I2,q2⟩=>?_
 cases k with
 |false=>exact hb pins s2 σ H2 Q I2 q2
 |true=>exact⟨x,H2,I2,r1,q2⟩
end
noncomputable def vW(n:Nat)(lo hi:Option Int)(c:Int):Int × Nat:=((Bk lo hi (some c) n).1,(if c > 0 then (if (Bk lo hi (some c) n).1<(Bk lo hi (some c) n).2.1 then ((Bk lo hi (some c) n).2.1-(Bk lo hi (some c) n).1+c-1)/c else 0) else (if (Bk lo hi (some c) n).1 > (Bk lo hi (some c) n).2.1 then ((Bk lo hi (some c) n).1-(Bk lo hi (some c) n).2.1-c-1)/(-c) else 0):Int).toNat)
theorem vj its lo hi c:GL its.toArray lo hi (some c)=(z9 its (vW its.length lo hi c).1 c (vW its.length lo hi c).2).toArray:=by unfold GL sliceRange z9 vW;rw[B5];refine congrArg List.toArray ?_;have e:(Bk lo hi (some c) its.toArray.size).2.2=c:=rfl;rw[e];simp only[Ai];refine congrArg (λf=>List.filterMap f _) ?_;funext k;show its.toArray[_]?=_;rw[List.getElem?_toArray,Int.mul_comm]
def SH(K:Ac):V->Option Int->Option Int->Option Int->Hp->VK->Prop:=λx lo hi st H Q=>∃a xs c,x=.c a/\SqL K H a xs/\st=some c/\c≠0/\∀p,H p=none->Q (.c p) (upd H p (.b (z9 xs (vW xs.length lo hi c).1 c (vW xs.length lo hi c).2)))
theorem ke{lo hi}{st}(he:PE X e te)(hl:PO X lo tl)(hu:PO X hi th)(hc:PO X (some st) tc):PE X (.Subscript e (.Slice lo hi (some st) p2) pos) (So (SH X.K) te tl th tc):=by
 intro pins s σ H Q I h;refine Gu (thn (he pins s σ H _ I h) λv s1 ⟨x,H1,I1,r1,q1⟩=>?_);refine wpAny_Slice (thn (hl pins s1 σ H1 _ I1 q1) λvl s2 ⟨l,H2,I2,pl,q2⟩=>thn (hu pins s2 σ H2 _ I2 q2) λvu s3 ⟨u,H3,I3,pu,q3⟩=>thn (hc pins s3 σ H3 _ I3 q3) λvc s4 ⟨c,H4,I4,pc,q4⟩=>?_);obtain⟨a,xs,cc,rfl,hx,ec,h0,g⟩:=q4;subst ec;cases r1;have I5:Inv X pins σ H4 {s4 with heap:=s4.heap.push {cls:=.type "slice",data:=.fields #[vl,vu,vc]}}:=I4.kept (t':=s4.toks) λb ob q=>lp _ q
 obtain⟨its,r,ht,hz⟩:=I5.list hx;have hlen:=r.length;show wpAny (model X.f X.w) X.A (E7 e (.Slice lo hi (some st) p2) (.ref a) (.ref s4.heap.objs.size)) (EP X pins σ Q) X.i {s4 with heap:=s4.heap.push {cls:=.type "slice",data:=.fields #[vl,vu,vc]}}
 refine tail_any (ops:=[.ref a,.ref s4.heap.objs.size]) ht.isList.typeIs Fi.lookup (FH ht.isList (EW ..) pl pu pc (λz=>h0 (AR z)) ?_ (by rw[Ai]<;>omega)) (by with_unfolding_all rfl)
 rw[vj,<-hlen];refine⟨.c _,_,I5.laid (t':=s4.toks) (o:=.b (z9 xs (vW xs.length l u cc).1 cc (vW xs.length l u cc).2)) (λb ob q=>lp _ q) (Ah _) ?_,rfl,g _ (I5.B.fresh (Ah _))⟩;have rp:=r.z9 (vW xs.length l u cc).1 cc (vW xs.length l u cc).2;have bound:(z9 xs (vW xs.length l u cc).1 cc (vW xs.length l u cc).2).length<=xs.length:=by have:=slicePick_size_le its.toArray l u (some cc);rw[vj,Ai,Ai,<-hlen,<-rp.length]at this;exact this
 exact⟨Ay bound hz,_,0,rp,Az _ rfl⟩
end L2
end
section
namespace L2
open PySem PyProof PyProof.Rows
section
variable {X:Cx}
noncomputable def U4(z:Str)(ys:List Str):Str:=Txt.join z ys
end
end L2
end
section
namespace L2
open PySem PySem.Spec PyProof PyProof.Rows
section
variable {X:Cx}
noncomputable def Se(ns:List Int):Bool:=decide (ns.length<=1000)&&ns.all λn=>decide (-1000000<=n)&&decide (n<=1000000)
end
end L2
end
section
namespace L2
open PySem PySem.W PySem.Calls PyProof PyProof.Rows
open AutoSeq1 (wpAny_loadPart')
open SeqAt
theorem ee:∀{xs} {us},Vals xs us->xs.all vJ=true->us.map (eqU x)=xs.map λy=>eqV y x
 |_,_,.nil,_=>rfl
 |y::ys,u::us,.cons r rs,h=>by rw[D9,cf]at h;rw[A1,A1,ee rs h.2,lj r h.1]
section
variable {X:Cx}
def bR(K:Ac)(g:List Int->Int):List V->Hp->VK->Prop:=λxs H Q=>∃(a:Addr) (ns:List Int),xs=[.c a]/\SqT K H a (ns.map V.d)/\ns≠[]/\Q (.d (g ns)) H
theorem ip(hc:X.j=true):yX X (.builtin "max") (bR X.K (xw 0)):=by
 intro pins s σ H xs us Q I r h;obtain⟨a,ns,rfl,ha,hne,q⟩:=h;obtain⟨u,rfl,ru⟩:=vals1 r;cases ru;obtain⟨its,rv,pl,hz⟩:=I.tuple ha;have hlen:=rv.length;have alt:a<s.heap.objs.size:=by obtain⟨o,ho,_⟩:=id pl;exact Aj ho
 have hl:its.toArray.size=ns.length:=by rw[Ai,<-hlen,Ae]
 have hpos:0<ns.length:=Cj.mpr hne;have hat:∀(i:Nat) (v:Value),its.toArray[i]?=some v->∃t,v=.int (ns.getD i 0) t:=λi v hv=>rv.ints (by simpa using hv)
 refine call_max_walk (ET pl ?_);refine⟨s.heap.objs.size,_,_,_,_,_,_,rfl,Walks.tuple (A:=X.A.in1) (I.C.k hc) s.heap.objs.size a (AG alt) its.toArray,⟨⟨_,Az _ rfl,rfl,rfl⟩,?_⟩,λb hb=>?_,by omega,CmpOf.ints_gt (λi=>ns.getD i 0) hat,λv h' tk hP hk=>?_⟩
 . obtain⟨o,ho,hc',n,hd⟩:=id pl
   exact⟨o,lp _ ho,hc',n,hd⟩
 . rw[Bo]
   simp only[An,Bj,or_false]at hb;rcases hb with e|e
   . rw[e];exact CU _
   . rw[e];exact CD alt
 . obtain⟨t,rfl⟩:=hat _ _ hP
   obtain⟨b1,b2⟩:=argBest_gt (λi=>ns.getD i 0) (its.toArray.size-1);have e:xw 0 ns=ns.getD (argBest (λi j=>decide (ns.getD i 0 > ns.getD j 0)) (its.toArray.size-1)) 0:=by
    refine mO ?_ λx hx=>?_
    . have:argBest (λi j=>decide (ns.getD i 0 > ns.getD j 0)) (its.toArray.size-1)<ns.length:=by omega
      rw[Aq,Aa this];exact B2 this
    . obtain⟨i,hi,rfl⟩:=Bv hx
      have:=b2 i (by omega)
      simpa [Aq,Aa hi] using this
   refine⟨.d (xw 0 ns),H,I.kept λb o ho=>hk b o ?_ (lp _ ho),⟨t,by rw[e]⟩,q⟩
   simpa using AG (Aj ho)
theorem lW(hc:X.j=true):yX X (.builtin "min") (bR X.K (vZ 0)):=by
 intro pins s σ H xs us Q I r h;obtain⟨a,ns,rfl,ha,hne,q⟩:=h;obtain⟨u,rfl,ru⟩:=vals1 r;cases ru;obtain⟨its,rv,pl,hz⟩:=I.tuple ha;have hlen:=rv.length;have alt:a<s.heap.objs.size:=by obtain⟨o,ho,_⟩:=id pl;exact Aj ho
 have hl:its.toArray.size=ns.length:=by rw[Ai,<-hlen,Ae]
 have hpos:0<ns.length:=Cj.mpr hne;have hat:∀(i:Nat) (v:Value),its.toArray[i]?=some v->∃t,v=.int (ns.getD i 0) t:=λi v hv=>rv.ints (by simpa using hv)
 refine call_min_walk (ET pl ?_);refine⟨s.heap.objs.size,_,_,_,_,_,_,rfl,Walks.tuple (A:=X.A.in1) (I.C.k hc) s.heap.objs.size a (AG alt) its.toArray,⟨⟨_,Az _ rfl,rfl,rfl⟩,?_⟩,λb hb=>?_,by omega,CmpOf.ints_lt (λi=>ns.getD i 0) hat,λv h' tk hP hk=>?_⟩
 . obtain⟨o,ho,hc',n,hd⟩:=id pl
   exact⟨o,lp _ ho,hc',n,hd⟩
 . rw[Bo]
   simp only[An,Bj,or_false]at hb;rcases hb with e|e
   . rw[e];exact CU _
   . rw[e];exact CD alt
 . obtain⟨t,rfl⟩:=hat _ _ hP
   obtain⟨b1,b2⟩:=argBest_lt (λi=>ns.getD i 0) (its.toArray.size-1);have e:vZ 0 ns=ns.getD (argBest (λi j=>decide (ns.getD i 0<ns.getD j 0)) (its.toArray.size-1)) 0:=by
    refine mP ?_ λx hx=>?_
    . have:argBest (λi j=>decide (ns.getD i 0<ns.getD j 0)) (its.toArray.size-1)<ns.length:=by omega
      rw[Aq,Aa this];exact B2 this
    . obtain⟨i,hi,rfl⟩:=Bv hx
      have:=b2 i (by omega)
      simpa [Aq,Aa hi] using this
   refine⟨.d (vZ 0 ns),H,I.kept λb o ho=>hk b o ?_ (lp _ ho),⟨t,by rw[e]⟩,q⟩
   simpa using AG (Aj ho)
end
end L2
end
section
namespace L2
open PySem PySem.W PySem.Calls PyProof PyProof.Rows
open AutoSeq1 (wpAny_loadPart')
open SeqAt
noncomputable def U9:List Int->List Int->Bool
 |[],[]=>false
 |[],_::_=>true
 |_::_,[]=>false
 |x::xs,y::ys=>if x=y then U9 xs ys else decide (x<y)
end L2
namespace L2
open PySem PySem.W PySem.Calls PyProof PyProof.Rows
def TK:List (List Int)->List Int
 |[]=>[]
 |z::t=>t.foldl (λm y=>if U9 y m then y else m) z
end L2
end
section
namespace L2
open PySem PySem.W PySem.Calls PyProof PyProof.Rows
noncomputable def dN(ns:List Int):Nat:=(firstMet (λi=>ns.getD i 0) ns.length).length
end L2
end
section
namespace PySem
open Sem (wp)
structure yl(B newId initId:String)(bm:List Value):Prop extends ExcCallFacts B newId initId where
 c:splitId newId=some (B,"__new__")
 d:builtinKind newId=some .builtinFn
 e:Manifest.signature? newId=some ⟨.any,B,B,.cls,[⟨"args",.varPos,false⟩,⟨"kwargs",.varKw,false⟩]⟩
 b:bm.contains (.type B)=true
 a:bm.contains (.type "BaseException")=true
 f:bm.contains (.type "AttributeError")=false
 g:bm.contains (.type "NameError")=false
 h:Manifest.canonical newId=Manifest.canonical "BaseException.__new__"
theorem ExcBaseFacts.two(F:ExcBaseFacts B newId initId bm)D:yl B newId initId (.ref D::bm):=
 ⟨F.toExcCallFacts,F.newSplit,F.newKind,F.newRow,by rw[Bb,F.hasB,CV],by rw[Bb,F.hasBase,CV],by rw[Bb,F.noAttr];rfl,by rw[Bb,F.noName];rfl,F.canon⟩
section
variable {M:Model}{A:Around}{E:Value->Shared->Prop}{h:Heap}{g:Array DJ}{d:Drawn}{t:Nat}{os:OsState}
variable {nm q:Str}{C N:Addr}{bs bm:List Value}{hdct:Bool}{sn:List Str}{sub:List Value}{ab:Bool}{col:Option Bool}{dd:Option Addr}{k0 k1 k2 k3 k5:Option Value}{B newId initId:String}
theorem vS
 (hC:h.get? C=some (AQ nm q C N bs bm hdct sn sub ab col dd k0 k1 k2 k3 k5 newId)) (hn:h.Ns N mN) (hni:mN name=none)
 (hD:h.get? D=some (AQ nm1 q1 D N1 bs1 bm1 hd1 sn1 sub1 ab1 col1 dd1 j0 j1 j2 j3 j5 new1)) (hn1:h.Ns N1 mN1) (hni1:mN1 name=none) (hbm:bm=.ref D::bm1) (hb1:mroOf (.type B)=pure bm1) (hB:Eu (.type B) name=pure y)
 (hq:Q y ⟨h,g,d,t,os⟩):wpAny M A (Eu (.ref C) name) Q E ⟨h,g,d,t,os⟩:=by
 have hrest:lookupAlong bm1 name=pure y:=by rw[GG,hb1]at hB;exact hB
 rw[GG];refine xd (F7 hC ?_);rw[FT];refine xd (E1 hC hn ?_);rw[hni,hbm];show wpAny M A (lookupAlong (.ref D::bm1) name) Q E _;rw[FT];refine xd (E1 hD hn1 ?_);rw[hni1,hrest];exact Ag hq
theorem xn(F:yl B newId initId bm)(hC:h.get? C=some (AQ nm q C N bs bm hdct sn sub ab col dd k0 k1 k2 k3 k5 newId))
 (hq:Q () ⟨h,g,d,t,os⟩):wpAny M A (B3 newId ⟨.ref C::rest,[]⟩) Q E ⟨h,g,d,t,os⟩:=by
 have hcont:(AF C::bm).contains (.type B)=true:=by rw[Bb,F.b,CV]
 have hstar:=F.noStar;simp only[B3,F.d,F.c,F.e]
 repeat (first|refine AB hC ?_|(refine BV hC ?_;rw[hcont])|refine wpAny_staticBase_exc hC ?_|refine FU hC ?_|simp only[bne_self_eq_false,AX,if_false]|wp_step)
 exact hq
end
section
variable {prog:Program}{w:World}{A:Around}{R:Result->Shared->Prop}{h:Heap}{g:Array DJ}{d:Drawn}{t:Nat}{os:OsState}
variable {nm q:Str}{C N:Addr}{bs bm:List Value}{hdct:Bool}{sn:List Str}{sub:List Value}{ab:Bool}{col:Option Bool}{dd:Option Addr}{k0 k1 k2 k3 k5:Option Value}{B newId initId:String}
theorem xj(F:yl B newId initId bm)(hC:h.get? C=some (AQ nm q C N bs bm hdct sn sub ab col dd k0 k1 k2 k3 k5 newId))
 (hq:R (.ok (.ret (.ref (h.objs.size+1)))) ⟨(h.push {cls:=.type "tuple",data:=.seq rest.toArray}).push
  {cls:=.ref C,data:=.fields #[.ref h.objs.size,.none,.none,.none,.bool false,.none]},g,d,t,os⟩) (hrest:rest.length<=Am:=by size_fits) :
 codeAny (model prog w) A (.builtin newId ⟨.ref C::rest,[]⟩) R ⟨h,g,d,t,os⟩:=by
 have hends:=F.ends;have hcB:(AF C::bm).contains (.type B)=true:=by rw[Bb,F.b,CV]
 have hcA:(AF C::bm).contains (.type "AttributeError")=false:=by rw[Bb,F.f];rfl
 have hcN:(AF C::bm).contains (.type "NameError")=false:=by rw[Bb,F.g];rfl
 refine codeAny_builtinAt F.entry ?_;unfold Builtin.«BaseException.__new__»;refine wpAt_bind ?_;show wpAt _ _ _ (stack >>= _) _ _ _;refine wpAt_bind (wpAt_stack λp below=>wpAt_of_wpAny ?_)
 wp_walk
 refine wpAt_of_wpAny ?_;rw[F.owner]
 repeat (first|with_reducible refine wpAny_madeHere_exc F.h hC ?_|with_reducible refine AB hC ?_|(with_reducible refine BV hC ?_;first|rw[hcB]|rw[hcA]|rw[hcN])|wp_step)
 show R _ _;rw[Bo];exact hq
end
section
variable {prog:Program}{w:World}{A:Around}{E:Value->Shared->Prop}{h:Heap}{g:Array DJ}{d:Drawn}{t:Nat}{os:OsState}
variable {nm q:Str}{C N:Addr}{bs bm:List Value}{hdct:Bool}{sn:List Str}{sub:List Value}{ab:Bool}{col:Option Bool}{dd:Option Addr}{k0 k1 k2 k3 k5:Option Value}{B newId initId:String}
theorem xO(F:yl B newId initId bm)
 (hC:h.get? C=some (AQ nm q C N bs bm hdct sn sub ab col dd k0 k1 k2 k3 k5 newId)) (he:h.get? e=some oe) (hcls:oe.cls=.ref C) (hq:Q () ⟨h,g,d,t,os⟩) :
 wpAny M A (B3 initId ⟨.ref e::rest,[]⟩) Q E ⟨h,g,d,t,os⟩:=by
 have hcB:(AF C::bm).contains (.type B)=true:=by rw[Bb,F.b,CV]
 have hshort:=F.noStar;simp only[B3,F.initKind,F.initSplit,F.initRow]
 repeat (first|(with_reducible refine AB he ?_;rw[hcls])|with_reducible refine AB hC ?_|(with_reducible refine BV hC ?_;rw[hcB])|wp_step)
 refine wpAny_onRaise ?_;rw[show ∀(a b:String) (n:Nat),Bind.check ⟨.positional,"*",B,.self,[⟨"args",.varPos,false⟩]⟩ a b n (FV (λx=>x.fst) ({pos:=AF e::rest}:Args).kw)=pure () from
  λa b n=>check_star_args _ _ _ _ _ _]
 exact Ag hq
theorem wY(F:yl B newId initId bm)
 (hC:h.get? C=some (AQ nm q C N bs bm hdct sn sub ab col dd k0 k1 k2 k3 k5 newId)) (hn:h.Ns N mN) (hni:mN "__init__"=none) (hD:h.get? D=some (AQ nm1 q1 D N1 bs1 bm1 hd1 sn1 sub1 ab1 col1 dd1 j0 j1 j2 j3 j5 new1)) (hn1:h.Ns N1 mN1) (hni1:mN1 "__init__"=none) (hbm:bm=.ref D::bm1) (hb1:mroOf (.type B)=pure bm1) 
 (hq:∀h' e,CQ h h' e (.ref C) rest->Q (.done (.ret (.ref e))) ⟨h',g,d,t,os⟩) (hrest:rest.length<=Am:=by size_fits) :
 wpAny (model prog w) A (Builtin.«type.__call__» ⟨.ref C::rest,[]⟩) Q E ⟨h,g,d,t,os⟩:=by
 repeat (first|with_reducible refine AB hC ?_|with_reducible refine FU hC ?_|wp_step)
 refine Fx (Dc _ F.quiet) (xn F hC ?_);refine xj F hC ?_ hrest;show wpAny _ _ _ _ _ _;have hC₁:=lp {cls:=.ref C,data:=.fields #[.ref h.objs.size,.none,.none,.none,.bool false,.none]}
  (lp {cls:=.type "tuple",data:=.seq rest.toArray} hC)
 have hn₁:((h.push {cls:=.type "tuple",data:=.seq rest.toArray}).push {cls:=.ref C,data:=.fields #[.ref h.objs.size,.none,.none,.none,.bool false,.none]}).Ns N mN:=
  let ⟨o,es,ep,e,r⟩:=hn;⟨o,es,ep,lp _ (lp _ e),r⟩
 have hget:((h.push {cls:=.type "tuple",data:=.seq rest.toArray}).push
  {cls:=.ref C,data:=.fields #[.ref h.objs.size,.none,.none,.none,.bool false,.none]}).get? (h.objs.size+1)=some
  {cls:=.ref C,data:=.fields #[.ref h.objs.size,.none,.none,.none,.bool false,.none]}:=by heap_get
 have hcC:(AF C::bm).contains (.ref C)=true:=by simp
 unfold Gx
 repeat (first|with_reducible refine AB hget ?_|(with_reducible refine BV hC₁ ?_;rw[hcC])|wp_step)
 show wpAny _ _ (Eu (.ref C) _) _ _ _;have hD₁:=lp {cls:=.ref C,data:=.fields #[.ref h.objs.size,.none,.none,.none,.bool false,.none]}
  (lp {cls:=.type "tuple",data:=.seq rest.toArray} hD)
 have hn1₁:((h.push {cls:=.type "tuple",data:=.seq rest.toArray}).push {cls:=.ref C,data:=.fields #[.ref h.objs.size,.none,.none,.none,.bool false,.none]}).Ns N1 mN1:=
  let ⟨o,es,ep,e,r⟩:=hn1;⟨o,es,ep,lp _ (lp _ e),r⟩
 refine vS hC₁ hn₁ hni hD₁ hn1₁ hni1 hbm hb1 F.init.lookup ?_;refine Bx (xd (wpAny_of_eq (F.init.bind _) ?_));refine xd (CK (Cg F.init.plain F.initEntry (xO F hC₁ hget rfl ?_)))
 wp_walk
 refine hq _ _ ⟨λb o hb=>?_,CI (CO _),h.objs.size+2,?_,CI (by omega),?_⟩
 . rw[AO _ _ (Dh (CD (Aj hb)))]
   exact lp _ (lp _ (lp _ hb))
 . rw[BA _ (lp _ hget) rfl]
   simp only[Bo];rfl
 . rw[AO _ _ (show h.objs.size+1≠h.objs.size+2 by omega)]
   exact Fp (by simp only[Bo]) rfl
theorem uC(F:yl B newId initId bm)
 (hC:h.get? C=some (AQ nm q C N bs bm hdct sn sub ab col dd k0 k1 k2 k3 k5 newId)) (hn:h.Ns N mN) (hni:mN "__init__"=none) (hD:h.get? D=some (AQ nm1 q1 D N1 bs1 bm1 hd1 sn1 sub1 ab1 col1 dd1 j0 j1 j2 j3 j5 new1)) (hn1:h.Ns N1 mN1) (hni1:mN1 "__init__"=none) (hbm:bm=.ref D::bm1) (hb1:mroOf (.type B)=pure bm1) 
 (hq:∀h' e,CQ h h' e (.ref C) rest->Q (.ref e) ⟨h',g,d,t,os⟩) (hrest:rest.length<=Am:=by size_fits) :
 wpAny (model prog w) A (call (.ref C) rest) Q E ⟨h,g,d,t,os⟩:=by
 have f1:=tc_lookup;have f2:=tc_bind (.ref C);have hT:(⟨h,g,d,t,os⟩:Shared).TypeIs (.ref C) "type":=⟨_,hC,rfl⟩;refine CK (codeAny_of_tree ?_);show wpAny _ _ (callAny (.ref C) _) _ _ _
 repeat (any_goals (first|assumption|with_reducible refine AB hC ?_|wp_step))
 refine⟨rfl,?_⟩;refine FY (Dc _ (by decide +kernel)) entry_typeCall (Fy hC (wY (hrest:=hrest) F hC hn hni hD hn1 hni1 hbm hb1 λh' e hm=>?_))
 exact hq h' e hm
end
section
variable {prog:Program}{w:World}{A:Around}{E:Value->Shared->Prop}{s:Shared}{env:Env}
variable {nm q:Str}{C N:Addr}{bs bm:List Value}{hdct:Bool}{sn:List Str}{sub:List Value}{ab:Bool}{col:Option Bool}{dd:Option Addr}{k0 k1 k2 k3 k5:Option Value}{B newId initId:String}
theorem vR(F:yl B newId initId bm)
 (hh:A.handled=none) (hplain:(backTo cpos (Av args env)).any (·.1)=false) (hni:mN "__init__"=none) (hni1:mN1 "__init__"=none) (hbm:bm=.ref D::bm1) (hb1:mroOf (.type B)=pure bm1)
 (h:wpAny (model prog w) A (eval (.Name x np) env) (λf s₁=>f=.ref C/\wpAny (model prog w) A (evalArgs (.ref C) true (backTo cpos (Av args env)) [])
  (λa s₂=>a.kw=[]/\a.pos.length<=Am/\s₂.heap.get? C=some (AQ nm q C N bs bm hdct sn sub ab col dd k0 k1 k2 k3 k5 newId)/\s₂.heap.Ns N mN/\s₂.heap.get? D=some (AQ nm1 q1 D N1 bs1 bm1 hd1 sn1 sub1 ab1 col1 dd1 j0 j1 j2 j3 j5 new1)/\s₂.heap.Ns N1 mN1 /\
   ∀h' e,CQ s₂.heap h' e (.ref C) a.pos->E (.ref e) {s₂ with heap:=h'}) E s₁) E s) :
 wpAny (model prog w) A (exec (.Raise (some (.Call (.Name x np) args [] cpos)) none pos) env) Q E s:=by
 rw[arm_exec_Raise]
 first
  |refine xd (A4 (DK (C:=C) (nm:=nm) (q:=q) (N:=N) (bs:=bs) (bm:=bm) (hdct:=hdct) (sn:=sn) (sub:=sub) (ab:=ab) (col:=col) (dd:=dd) (k0:=k0) (k1:=k1) (k2:=k2) (k3:=k3) (k5:=k5) (newId:=newId) F.a hh (xd (AD (CG (AD h (λf s₁ h₁=>?_) λ_ _ x=>x)) (λv s₃ h₃=>xd (A4 (Ag h₃))) λ_ _ x=>x))))
  |(simp only[evalOpt,Option.map];refine xd (A4 (DK (C:=C) (nm:=nm) (q:=q) (N:=N) (bs:=bs) (bm:=bm) (hdct:=hdct) (sn:=sn) (sub:=sub) (ab:=ab) (col:=col) (dd:=dd) (k0:=k0) (k1:=k1) (k2:=k2) (k3:=k3) (k5:=k5) (newId:=newId) F.hasBase hh (xd (AD (CG (AD h (λf s₁ h₁=>?_) λ_ _ x=>x)) (λv s₃ h₃=>xd (A4 (Ag h₃))) λ_ _ x=>x)))))
  |(refine xd (A4 (DK (C:=C) (nm:=nm) (q:=q) (N:=N) (bs:=bs) (bm:=bm) (hdct:=hdct) (sn:=sn) (sub:=sub) (ab:=ab) (col:=col) (dd:=dd) (k0:=k0) (k1:=k1) (k2:=k2) (k3:=k3) (k5:=k5) (newId:=newId) F.hasBase hh ?_));refine xd (AD (CG (AD h (λf s₁ h₁=>?_) λ_ _ x=>x)) (λv s₃ h₃=>xd (A4 (Ag h₃))) λ_ _ x=>x))
 obtain⟨rfl,h₁⟩:=h₁;unfold callWith;refine xd (Bx (AD h₁ (λa s₂ h₂=>xd (A4 ?_)) λ_ _ x=>x));obtain⟨apos,akw⟩:=a;obtain⟨hkw,hlen,hC,hn,hD,hn1,h₂⟩:=h₂;obtain rfl:akw=[]:=hkw;obtain⟨hp,g,d,tk,os⟩:=s₂;simp only[hplain];refine xd (wpAny_keeperOf_exc hC ?_);refine xd (uC (hrest:=hlen) F hC hn hni hD hn1 hni1 hbm hb1 λh' e hm=>xd (Bx (wpAny_point (Ag ?_))));obtain⟨t,ht,_,_⟩:=hm.there;exact⟨e,t,rfl,hm.keeps _ _ hC,ht,h₂ h' e hm⟩
end
end PySem
end
section
namespace PySem
open Sem (wp)
theorem Obj.vI f o:(BG f o).dict=o.dict:=by unfold BG;split<;>rfl
namespace Heap
def wq(h base:Heap)(e:Addr)(cls:Value)(a0:Option Addr):Prop:=
 ∃oe vs T oT ts,h.get? e=some oe/\(oe.cls=cls/\oe.dict=a0)/\oe.data=.fields vs/\vs[1]?=some (.ref T)/\base.get? T=none/\T≠e/\h.get? T=some oT/\oT.data=.fields ts/\ts[3]?=some .none
def vx(h base:Heap)(e:Addr)(cls:Value)(a0:Option Addr)(fl:Value):Prop:=
 ∃oe vs T oT ts,h.get? e=some oe/\(oe.cls=cls/\oe.dict=a0)/\oe.data=.fields vs/\vs[1]?=some (.ref T)/\base.get? T=none/\T≠e/\h.get? T=some oT/\oT.data=.fields ts/\ts[3]?=some fl
theorem wq.at{h base:Heap}(x:h.wq base e cls a0):h.vx base e cls a0 .none:=x
def fR(base:Heap)(l:List Env)(e:Addr)(cls:Value)(a0:Option Addr)(fl:Value)(h h':Heap):Prop:=
 base.StaysIn h'/\h'.FunFrames base l/\h'.vx base e cls a0 fl/\∀b o,h.get? b=some o->(∀vs,o.data≠.fields vs)->∃sl,h'.get? b=some {o with slots:=sl}
end Heap
section
variable {M:Model}{A:Around}{E:Value->Shared->Prop}{s:Shared}
def Heap.fQ(base:Heap)(l:List Env)(e:Addr)(cls:Value)(a0:Option Addr)(h h':Heap):Prop:=
 base.StaysIn h'/\h'.FunFrames base l/\h'.wq base e cls a0 /\
  ∀b o,h.get? b=some o->(∀vs,o.data≠.fields vs)->∃sl,h'.get? b=some {o with slots:=sl}
theorem vO
 (hfr:A.frames=some (env::outer)) (hl:s.heap.FunFrames base (env::outer)) (hf:env.frame=some L)
 (he:s.heap.get? e=some oe) (hkb:base.StaysIn s.heap) (hen:base.get? e=none) (hd:oe.data=.fields vs) (hsz:1<vs.size) (h0:oe.dict=a0)
 (h:∀h',Heap.fQ base (env::outer) e oe.cls a0 s.heap h'->Q () {s with heap:=h'}) :
 wpAny M A (do let a <-frameOf env;let pl <-entryPlaceOf L hadNext;let b <-Dz head a .none (rawInt L) .none pl;setField (.ref e) 1 b) (λ_ s'=>wpAny M A (Em (.ref e) none) Q E s') E s:=by
 have hene:e ∉ (env::outer).filterMap (·.frame):=λhm=>by
  obtain⟨_,o,ho,hnf⟩:=hl.mem hm;rw[he]at ho;injection ho with ho;subst ho;exact hnf vs hd
 refine xd (wpAny_frameOf_fun hfr hl hf λh₁ hs₁=>?_);refine xd (wpAny_entryPlaceOf λpl hpl=>?_);unfold Dz newFields;refine xd (Ba ?_ (hpl.sizeOk5 _ _ _ _ _));have he₁:h₁.get? e=some oe:=(hs₁.2.1 e hene).trans he;have kb₁:base.StaysIn h₁:=λb o hbo=>(hs₁.2.1 b λhm=>by rw[(hl.mem hm).1]at hbo;cases hbo).trans (hkb b o hbo)
 have he₂:=lp (h:=h₁) {cls:=.type "traceback",dict:=none,data:=.fields ([head,.ref L,.none,rawInt L,.none]++(if pl.isEmpty then Ao 6 A8 else pl)).toArray} he₁
 refine Dj he₂ hd hsz ?_;have hTe:h₁.objs.size≠e:=Dh (Aj he₁);have hd₃:=Cv hd (·.setIfInBounds 1 (AF h₁.objs.size))
 have he₃:=BA (BG (·.setIfInBounds 1 (AF h₁.objs.size))) he₂ (Dk hd₃)
 have hT₃:=(AO (h₁.push {cls:=.type "traceback",dict:=none,data:=.fields ([head,.ref L,.none,rawInt L,.none]++(if pl.isEmpty then Ao 6 A8 else pl)).toArray})
  (BG (·.setIfInBounds 1 (AF h₁.objs.size))) (A5 hTe)).trans (Az h₁ rfl)
 unfold Em;refine xd (BQ he₃ hd₃ (x:=.ref h₁.objs.size) (by simp[hsz]) ?_)
 rw[if_pos (show (AF h₁.objs.size != A8)=true from by simp)]
 refine Dj hT₃ rfl (by simp only[Ai,Au,AL,BM]<;>omega) (h _ ?_)
 have keep:∀b o,b≠e->h₁.get? b=some o ->
  (((h₁.push {cls:=.type "traceback",dict:=none,data:=.fields ([head,.ref L,.none,rawInt L,.none]++(if pl.isEmpty then Ao 6 A8 else pl)).toArray}).update e (BG (·.setIfInBounds 1 (AF h₁.objs.size)))).update h₁.objs.size
    (BG (·.setIfInBounds 3 ((none:Option Addr).elim A8 λf=>rawInt f)))).get? b=some o:=λb o hbe hb=>by
  have hbT:h₁.objs.size≠b:=Dh (Aj hb);rw[AO _ _ hbT,AO _ _ (A5 hbe)];exact lp _ hb
 have noRecord:∀b o,s.heap.get? b=some o->(∀vs,o.data≠.fields vs)->b≠e:=λb o hb hnf q=>by
  rw[q,he]at hb;injection hb with hb;subst hb;exact hnf vs hd
 refine⟨λb o hbo=>keep b o (λq=>by rw[q,hen]at hbo;cases hbo) (kb₁ b o hbo),hl.of_keeps λb o hb hnf=>?_,?_,λb o hb hnf=>?_⟩
 . obtain⟨sl,hs⟩:=hs₁.2.2 b o hb
   exact⟨_,keep b _ (noRecord b o hb hnf) hs,rfl⟩
 . refine⟨_,_,h₁.objs.size,_,_,?_,⟨Obj.cls_mapFields _ _,by rw[Obj.vI];exact h0⟩,hd₃,by simp[hsz],kb₁.fresh,hTe,BA _ hT₃ (Dk (Cv rfl _)),Cv rfl _,by first|(simp;done)|(rcases hpl with rfl|⟨_,_,_,_,_,_,_,rfl⟩<;>simp)⟩
   rw[AO _ _ hTe];exact he₃
 . obtain⟨sl,hs⟩:=hs₁.2.2 b o hb
   exact⟨sl,keep b _ (noRecord b o hb hnf) hs⟩
theorem vo
 (hfr:A.frames=some (env::outer)) (hl:s.heap.FunFrames base (env::outer)) (hf:env.frame=some L)
 (he:s.heap.get? e=some oe) (hkb:base.StaysIn s.heap) (hen:base.get? e=none) (hd:oe.data=.fields vs) (h1:vs[1]?=some .none) (h0:oe.dict=a0)
 (h:∀h',Heap.fQ base (env::outer) e oe.cls a0 s.heap h'->Q () {s with heap:=h'}):wpAny M A (leaving env (.ref e)) Q E s:=by
 unfold leaving EY;simp only[hf];refine xd (xd (BQ he hd h1 ?_));rw[if_neg (by decide)]
 exact vO hfr hl hf he hkb hen hd (BH.mp h1).1 h0 h
theorem uD
 (hfr:A.frames=some (env::outer)) (hl:s.heap.FunFrames base (env::outer)) (hf:env.frame=some L) (ht:s.heap.wq base e cls a0) (hkb:base.StaysIn s.heap) (hen:base.get? e=none)
 (h:∀h',Heap.fQ base (env::outer) e cls a0 s.heap h'->Q () {s with heap:=h'}):wpAny M A (leaving env (.ref e)) Q E s:=by
 obtain⟨oe,vs,T,oT,ts,he,⟨hcls,h0⟩,hd,h1,hnT,hTe,hT,hdT,h3⟩:=ht;subst hcls;unfold leaving EY;simp only[hf];refine xd (xd (BQ he hd h1 ?_));rw[if_pos (show (AF T != A8)=true from by simp)]
 refine xd (BQ hT hdT h3 ?_);rw[if_neg (show ¬((A8 == rawInt L)=true) from by simp[rawInt])]
 refine xd (Dj hT hdT (BH.mp h3).1 ?_);have other:∀b,b≠T->(s.heap.update T (BG (·.setIfInBounds 3 A8))).get? b=s.heap.get? b:=λb hb=>AO _ _ (A5 hb)
 have noRecord:∀b o,s.heap.get? b=some o->(∀vs,o.data≠.fields vs)->b≠T:=λb o hb hnf q=>by
  rw[q,hT]at hb;injection hb with hb;subst hb;exact hnf ts hdT
 refine vO hfr (hl.of_keeps λb o hb hnf=>⟨o,(other b (noRecord b o hb hnf)).trans hb,rfl⟩) hf ((other e (A5 hTe)).trans he)
  (λb o hbo=>(other b λq=>by rw[q,hnT]at hbo;cases hbo).trans (hkb b o hbo)) hen hd (BH.mp h1).1 h0
  λh' ⟨x1,x2,x3,x4⟩=>h h' ⟨x1,x2,x3,λb o hb hnf=>x4 b o ((other b (noRecord b o hb hnf)).trans hb) hnf⟩
def Heap.x8(base:Heap)(l:List Env)(e:Addr)(cls:Value)(a0:Option Addr)(h:Heap):Prop:=
 base.StaysIn h/\base.get? e=none/\h.FunFrames base l/\h.wq base e cls a0
theorem wo
 (hfr:A.frames=some (env::outer)) (hf:env.frame=some L) (hfl:Heap.x8 base (env::outer) e cls a0 s.heap)
 (hQ:∀h',Heap.x8 base outer e cls a0 h'->s.heap.UpToSlots h'->Q () {s with heap:=h'}):wpAny M A (leaving env (.ref e)) Q E s:=by
 obtain⟨f1,f2,f3,f4⟩:=hfl;refine uD hfr f3 hf f4 f1 f2 λh' hL=>?_;obtain⟨k1,⟨_,_,k2⟩,k3,k4⟩:=hL;exact hQ h' ⟨k1,f2,k2,k3⟩ k4
theorem nW
 (hfr:A.frames=some (env::outer)) (hl:s.heap.FunFrames base (env::outer)) (hf:env.frame=some L)
 (he:s.heap.get? e=some oe) (hkb:base.StaysIn s.heap) (hen:base.get? e=none) (hd:oe.data=.fields vs) (hsz:1<vs.size) (h0:oe.dict=a0)
 (h:∀h',Heap.fR base (env::outer) e oe.cls a0 (rawInt L) s.heap h'->Q () {s with heap:=h'}) :
 wpAny M A (do let a <-frameOf env;let pl <-entryPlaceOf L hadNext;let b <-Dz head a .none (rawInt L) .none pl;setField (.ref e) 1 b) Q E s:=by
 have hene:e ∉ (env::outer).filterMap (·.frame):=λhm=>by
  obtain⟨_,o,ho,hnf⟩:=hl.mem hm;rw[he]at ho;injection ho with ho;subst ho;exact hnf vs hd
 refine xd (wpAny_frameOf_fun hfr hl hf λh₁ hs₁=>?_);refine xd (wpAny_entryPlaceOf λpl hpl=>?_);unfold Dz newFields;refine xd (Ba ?_ (hpl.sizeOk5 _ _ _ _ _));have he₁:h₁.get? e=some oe:=(hs₁.2.1 e hene).trans he;have kb₁:base.StaysIn h₁:=λb o hbo=>(hs₁.2.1 b λhm=>by rw[(hl.mem hm).1]at hbo;cases hbo).trans (hkb b o hbo)
 have he₂:=lp (h:=h₁) {cls:=.type "traceback",dict:=none,data:=.fields ([head,.ref L,.none,rawInt L,.none]++(if pl.isEmpty then Ao 6 A8 else pl)).toArray} he₁
 refine Dj he₂ hd hsz (h _ ?_);have hTe:h₁.objs.size≠e:=Dh (Aj he₁);have hd₃:=Cv hd (·.setIfInBounds 1 (AF h₁.objs.size))
 have he₃:=BA (BG (·.setIfInBounds 1 (AF h₁.objs.size))) he₂ (Dk hd₃)
 have hT₃:=(AO (h₁.push {cls:=.type "traceback",dict:=none,data:=.fields ([head,.ref L,.none,rawInt L,.none]++(if pl.isEmpty then Ao 6 A8 else pl)).toArray})
  (BG (·.setIfInBounds 1 (AF h₁.objs.size))) (A5 hTe)).trans (Az h₁ rfl)
 have keep:∀b o,b≠e->h₁.get? b=some o ->
  ((h₁.push {cls:=.type "traceback",dict:=none,data:=.fields ([head,.ref L,.none,rawInt L,.none]++(if pl.isEmpty then Ao 6 A8 else pl)).toArray}).update e (BG (·.setIfInBounds 1 (AF h₁.objs.size)))).get? b=some o:=
  λb o hbe hb=>by rw[AO _ _ (A5 hbe)];exact lp _ hb
 have noRecord:∀b o,s.heap.get? b=some o->(∀vs,o.data≠.fields vs)->b≠e:=λb o hb hnf q=>by
  rw[q,he]at hb;injection hb with hb;subst hb;exact hnf vs hd
 refine⟨λb o hbo=>keep b o (λq=>by rw[q,hen]at hbo;cases hbo) (kb₁ b o hbo),hl.of_keeps λb o hb hnf=>?_,?_,λb o hb hnf=>?_⟩
 . obtain⟨sl,hs⟩:=hs₁.2.2 b o hb
   exact⟨_,keep b _ (noRecord b o hb hnf) hs,rfl⟩
 . exact⟨_,_,h₁.objs.size,_,_,he₃,⟨Obj.cls_mapFields _ _,by rw[Obj.vI];exact h0⟩,hd₃,by simp[hsz],kb₁.fresh,hTe,hT₃,rfl,by first|(simp;done)|(rcases hpl with rfl|⟨_,_,_,_,_,_,_,rfl⟩<;>simp)⟩
 . obtain⟨sl,hs⟩:=hs₁.2.2 b o hb
   exact⟨sl,keep b _ (noRecord b o hb hnf) hs⟩
theorem uF
 (hfr:A.frames=some (env::outer)) (hl:s.heap.FunFrames base (env::outer)) (hf:env.frame=some L) (ht:s.heap.wq base e cls a0) (hkb:base.StaysIn s.heap) (hen:base.get? e=none)
 (h:∀h',Heap.fR base (env::outer) e cls a0 (rawInt L) s.heap h'->Q () {s with heap:=h'}):wpAny M A (EY (.ref e) env) Q E s:=by
 obtain⟨oe,vs,T,oT,ts,he,⟨hcls,h0⟩,hd,h1,hnT,hTe,hT,hdT,h3⟩:=ht;subst hcls;unfold EY;simp only[hf];refine xd (BQ he hd h1 ?_);rw[if_pos (show (AF T != A8)=true from by simp)]
 refine xd (BQ hT hdT h3 ?_);rw[if_neg (show ¬((A8 == rawInt L)=true) from by simp[rawInt])]
 refine xd (Dj hT hdT (BH.mp h3).1 ?_);have other:∀b,b≠T->(s.heap.update T (BG (·.setIfInBounds 3 A8))).get? b=s.heap.get? b:=λb hb=>AO _ _ (A5 hb)
 have noRecord:∀b o,s.heap.get? b=some o->(∀vs,o.data≠.fields vs)->b≠T:=λb o hb hnf q=>by
  rw[q,hT]at hb;injection hb with hb;subst hb;exact hnf ts hdT
 refine nW hfr (hl.of_keeps λb o hb hnf=>⟨o,(other b (noRecord b o hb hnf)).trans hb,rfl⟩) hf ((other e (A5 hTe)).trans he)
  (λb o hbo=>(other b λq=>by rw[q,hnT]at hbo;cases hbo).trans (hkb b o hbo)) hen hd (BH.mp h1).1 h0
  λh' ⟨x1,x2,x3,x4⟩=>h h' ⟨x1,x2,x3,λb o hb hnf=>x4 b o ((other b (noRecord b o hb hnf)).trans hb) hnf⟩
theorem xP
 (hkb:base.StaysIn s.heap) (hl:s.heap.FunFrames base l) (ht:s.heap.vx base e cls a0 fl)
 (h:∀h',base.StaysIn h'->h'.FunFrames base l->h'.wq base e cls a0->(∀b o,s.heap.get? b=some o->(∀vs,o.data≠.fields vs)->h'.get? b=some o)->Q () {s with heap:=h'}) :
 wpAny M A (Em (.ref e) none) Q E s:=by
 obtain⟨oe,vs,T,oT,ts,he,hcls,hd,h1,hnT,hTe,hT,hdT,h3⟩:=ht;have hsz3:3<ts.size:=(BH.mp h3).1;have other:∀b,b≠T->(s.heap.update T (BG (·.setIfInBounds 3 ((none:Option Addr).elim A8 λf=>rawInt f)))).get? b=s.heap.get? b:=
  λb hb=>AO _ _ (A5 hb)
 have noRecord:∀b o,s.heap.get? b=some o->(∀vs,o.data≠.fields vs)->b≠T:=λb o hb hnf q=>by
  rw[q,hT]at hb;injection hb with hb;subst hb;exact hnf ts hdT
 unfold Em;refine xd (BQ he hd h1 ?_);rw[if_pos (show (AF T != A8)=true from by simp)]
 refine Dj hT hdT hsz3 (h _ (λb o hbo=>(other b λq=>by rw[q,hnT]at hbo;cases hbo).trans (hkb b o hbo))
  (hl.of_keeps λb o hb hnf=>⟨o,(other b (noRecord b o hb hnf)).trans hb,rfl⟩) ?_ λb o hb hnf=>(other b (noRecord b o hb hnf)).trans hb)
 exact⟨oe,vs,T,_,_,(other e (A5 hTe)).trans he,hcls,hd,h1,hnT,hTe,BA _ hT (Dk (Cv hdT _)),Cv hdT _,by simp[hsz3]⟩
def Heap.Yu(base:Heap)(l:List Env)(e:Addr)(cls:Value)(a0:Option Addr)(L:Addr)(h:Heap):Prop:=
 base.StaysIn h/\base.get? e=none/\h.FunFrames base l/\h.vx base e cls a0 (rawInt L)
theorem rH
 (hfr:A.frames=some (env::outer)) (hf:env.frame=some L) (hfl:Heap.x8 base (env::outer) e cls a0 s.heap)
 (hQ:∀h',Heap.Yu base (env::outer) e cls a0 L h'->s.heap.UpToSlots h'->Q () {s with heap:=h'}):wpAny M A (EY (.ref e) env) Q E s:=by
 obtain⟨f1,f2,f3,f4⟩:=hfl;refine uF hfr f3 hf f4 f1 f2 λh' hN=>?_;obtain⟨k1,k2,k3,k4⟩:=hN;exact hQ h' ⟨k1,f2,k2,k3⟩ k4
theorem nX(hh:Heap.Yu base l e cls a0 L s.heap)
 (hQ:∀h',Heap.x8 base l e cls a0 h'->s.heap.UpToSlots h'->Q () {s with heap:=h'}):wpAny M A (Em (.ref e) none) Q E s:=by
 obtain⟨f1,f2,f3,f4⟩:=hh;exact xP f1 f3 f4 λh' k1 k2 k3 k4=>hQ h' ⟨k1,f2,k2,k3⟩ λb o hb hn=>⟨o.slots,k4 b o hb hn⟩
theorem tQ
 (hfr:A.frames=some (env::outer)) (hf:env.frame=some L) (hkb:base.StaysIn h) (hl:h.FunFrames base (env::outer)) (keeps:∀b o,h.get? b=some o->s.heap.get? b=some o) (new:h.get? e=none) (he:s.heap.get? e=some oe) (hd:oe.data=.fields vs) (h1:vs[1]?=some .none)
 (hQ:∀h',Heap.x8 base outer e oe.cls oe.dict h'->s.heap.UpToSlots h'->Q () {s with heap:=h'}):wpAny M A (leaving env (.ref e)) Q E s:=by
 have fresh:∀b,h.get? b=none->base.get? b=none:=λb hb=>by
  cases hq:base.get? b with
  |none=>rfl
  |some o'=>have:=hkb b o' hq;rw[hb]at this;cases this
 refine vo hfr (hl.of_keeps λb o hb _=>⟨o,keeps b o hb,rfl⟩) hf he (λb o hb=>keeps b o (hkb b o hb)) (fresh e new) hd h1 rfl λh' hL=>?_;obtain⟨k1,⟨_,_,k2⟩,k3,k4⟩:=hL;exact hQ h' ⟨k1,fresh e new,k2,k3⟩ k4
theorem ou(hh:Heap.x8 base l e cls a0 s.heap)
 (hQ:∀h',Heap.x8 base l e cls a0 h'->s.heap.UpToSlots h'->Q () {s with heap:=h'}):wpAny M A (Em (.ref e) none) Q E s:=by
 obtain⟨f1,f2,f3,f4⟩:=hh;exact xP f1 f3 f4.at λh' k1 k2 k3 k4=>hQ h' ⟨k1,f2,k2,k3⟩ λb o hb hn=>⟨o.slots,k4 b o hb hn⟩
end
end PySem
end
section
namespace PySem
open Sem (wp)
open Builtin Builtin.ObjectAttr
section
variable {M:Model}{A:Around}{E:Value->Shared->Prop}{h:Heap}{g:Array DJ}{d:Drawn}{t:Nat}{os:OsState}
variable {nm q:Str}{C N:Addr}{bs bm:List Value}{hdct:Bool}{sn:List Str}{sub:List Value}{ab:Bool}{col:Option Bool}{dd:Option Addr}{k0 k1 k2 k3 k5:Option Value}{newId:String}
theorem vp
 (hC:h.get? C=some (AQ nm q C N bs bm hdct sn sub ab col dd k0 k1 k2 k3 k5 newId)) (hn:h.Ns N mN) (hi:mN name=some y)
 (hq:Q (some y) ⟨h,g,d,t,os⟩):wpAny M A (Eu (.ref C) name) Q E ⟨h,g,d,t,os⟩:=by
 rw[GG];refine xd (F7 hC ?_);rw[FT];refine xd (E1 hC hn ?_);rw[hi];exact Ag hq
theorem yW{x:Sem Value}(hbase:bm.contains (.type "BaseException")=true)(hh:A.handled=none)
 (h:wpAny M A x (λv s₁=>∃e t dx,v=.ref e/\s₁.heap.get? C=some (AQ nm q C N bs bm hdct sn sub ab col dd k0 k1 k2 k3 k5 newId) /\
  s₁.heap.get? e=some {cls:=.ref C,dict:=dx,data:=.fields #[.ref t,.none,.none,.none,.bool false,.none]}/\E (.ref e) s₁) E s) :
 wpAny M A (raiseStmt env (some x) none) Q E s:=by
 have hcB:(AF C::bm).contains (.type "BaseException")=true:=by rw[Bb,hbase,CV]
 unfold raiseStmt;refine xd (AD h (λv s₁ h₁=>?_) λ_ _ x=>x);obtain⟨e,t,dx,rfl,hC,he,hE⟩:=h₁;obtain⟨hp,g,d,tk,os⟩:=s₁
 repeat (first|with_reducible refine AB he ?_|with_reducible refine AB hC ?_|(with_reducible refine BV hC ?_;rw[hcB])|wp_step)
 exact wpAny_raiseNew_none hh hE
end
section
variable {prog:Program}{w:World}{A:Around}{E:Value->Shared->Prop}{h:Heap}{g:Array DJ}{d:Drawn}{t:Nat}{os:OsState}
variable {nm q:Str}{C N x:Addr}{bs bm:List Value}{hdct:Bool}{sn:List Str}{sub:List Value}{ab:Bool}{col:Option Bool}{dd:Option Addr}{k0 k1 k2 k3 k5:Option Value}{B newId initId sa owner:String}{mA:Str->Option Value}{name:Str}{K:Ac}
theorem wQ(F:yl B newId initId bm){Q:Fin->Shared->Prop}
 (hC:h.get? C=some (AQ nm q C N bs bm hdct sn sub ab col dd k0 k1 k2 k3 k5 newId)) (hn:h.Ns N mN) (hi:mN "__init__"=some (.ref fI))
 (hfI:h.get? fI=some oI) (hfc:oI.cls=.type "function")
 (hq:∀h' e,CQ h h' e (.ref C) rest->h.objs.size<=e ->
  wpAny (model prog w) A (call (.ref fI) (.ref e::rest)) (λr s'=>r=.none/\Q (.done (.ret (.ref e))) s') E ⟨h',g,d,t,os⟩) (hrest:rest.length<=Am:=by size_fits) :
 wpAny (model prog w) A (Builtin.«type.__call__» ⟨.ref C::rest,[]⟩) Q E ⟨h,g,d,t,os⟩:=by
 repeat (first|with_reducible refine AB hC ?_|with_reducible refine FU hC ?_|wp_step)
 refine Fx (Dc _ F.quiet) (xn F hC ?_);refine xj F hC ?_ hrest;show wpAny _ _ _ _ _ _;have hC₁:=lp {cls:=.ref C,data:=.fields #[.ref h.objs.size,.none,.none,.none,.bool false,.none]}
  (lp {cls:=.type "tuple",data:=.seq rest.toArray} hC)
 have hfI₁:=lp {cls:=.ref C,data:=.fields #[.ref h.objs.size,.none,.none,.none,.bool false,.none]}
  (lp {cls:=.type "tuple",data:=.seq rest.toArray} hfI)
 have hn₁:((h.push {cls:=.type "tuple",data:=.seq rest.toArray}).push {cls:=.ref C,data:=.fields #[.ref h.objs.size,.none,.none,.none,.bool false,.none]}).Ns N mN:=
  let ⟨o,es,ep,e,r⟩:=hn;⟨o,es,ep,lp _ (lp _ e),r⟩
 have hget:((h.push {cls:=.type "tuple",data:=.seq rest.toArray}).push
  {cls:=.ref C,data:=.fields #[.ref h.objs.size,.none,.none,.none,.bool false,.none]}).get? (h.objs.size+1)=some
  {cls:=.ref C,data:=.fields #[.ref h.objs.size,.none,.none,.none,.bool false,.none]}:=by heap_get
 have hcC:(AF C::bm).contains (.ref C)=true:=by simp
 unfold Gx
 repeat (first|with_reducible refine AB hget ?_|(with_reducible refine BV hC₁ ?_;rw[hcC])|wp_step)
 show wpAny _ _ (Eu (.ref C) _) _ _ _;refine vp hC₁ hn₁ hi ?_;refine Bx (xd ?_);unfold bindSpecial;refine xd (DH (T:="function") ⟨_,hfI₁,hfc⟩ ?_);rw[if_pos (by decide)]
 refine Ag (xd (AD (hq _ (h.objs.size+1) ⟨λb o hb=>lp _ (lp _ hb),CI (CO _),h.objs.size,hget,CI (Ah _),?_⟩ (CO _)) (λr s' hr=>?_) λ_ _ x=>x))
 . exact lp _ (Fp rfl rfl)
 . obtain⟨rfl,hQ⟩:=hr
   wp_walk
   exact hQ
theorem vn(F:yl B newId initId bm){Q:Value->Shared->Prop}
 (hC:h.get? C=some (AQ nm q C N bs bm hdct sn sub ab col dd k0 k1 k2 k3 k5 newId)) (hn:h.Ns N mN) (hi:mN "__init__"=some (.ref fI))
 (hfI:h.get? fI=some oI) (hfc:oI.cls=.type "function")
 (hq:∀h' e,CQ h h' e (.ref C) rest->h.objs.size<=e ->
  wpAny (model prog w) (A.under (.builtin "type.__call__" ⟨.ref C::rest,[]⟩)) (call (.ref fI) (.ref e::rest)) (λr s'=>r=.none/\Q (.ref e) s') E ⟨h',g,d,t,os⟩) (hrest:rest.length<=Am:=by size_fits) :
 wpAny (model prog w) A (call (.ref C) rest) Q E ⟨h,g,d,t,os⟩:=by
 have f1:=tc_lookup;have f2:=tc_bind (.ref C);have hT:(⟨h,g,d,t,os⟩:Shared).TypeIs (.ref C) "type":=⟨_,hC,rfl⟩;refine CK (codeAny_of_tree ?_);show wpAny _ _ (callAny (.ref C) _) _ _ _
 repeat (any_goals (first|assumption|with_reducible refine AB hC ?_|wp_step))
 refine⟨rfl,?_⟩;refine FY (Dc _ (by decide +kernel)) entry_typeCall (Fy hC (wQ (hrest:=hrest) F hC hn hi hfI hfc λh' e hm hz=>?_))
 exact hq h' e hm hz
theorem tP
 (hbase:bm.contains (.type "BaseException")=true) (hh:A.handled=none) (hplain:(backTo cpos (Av args env)).any (·.1)=false)
 (h:wpAny (model prog w) A (eval (.Name y np) env) (λf s₁=>f=.ref C/\wpAny (model prog w) A (evalArgs (.ref C) true (backTo cpos (Av args env)) [])
  (λa s₂=>a.kw=[]/\s₂.heap.get? C=some (AQ nm q C N bs bm hdct sn sub ab col dd k0 k1 k2 k3 k5 newId)/\wpAny (model prog w) A (call (.ref C) a.pos) (λv s₃=>∃e t dx,v=.ref e/\s₃.heap.get? C=some (AQ nm q C N bs bm hdct sn sub ab col dd k0 k1 k2 k3 k5 newId)/\s₃.heap.get? e=some {cls:=.ref C,dict:=dx,data:=.fields #[.ref t,.none,.none,.none,.bool false,.none]}/\E (.ref e) s₃) E s₂) E s₁) E s) :
 wpAny (model prog w) A (exec (.Raise (some (.Call (.Name y np) args [] cpos)) none pos) env) Q E s:=by
 rw[arm_exec_Raise]
 first
  |refine xd (A4 (yW (C:=C) (nm:=nm) (q:=q) (N:=N) (bs:=bs) (bm:=bm) (hdct:=hdct) (sn:=sn) (sub:=sub) (ab:=ab) (col:=col) (dd:=dd) (k0:=k0) (k1:=k1) (k2:=k2) (k3:=k3) (k5:=k5) (newId:=newId) hbase hh (xd (AD (CG (AD h (λf s₁ h₁=>?_) λ_ _ x=>x)) (λv s₃ h₃=>xd (A4 (Ag h₃))) λ_ _ x=>x))))
  |(simp only[evalOpt,Option.map];refine xd (A4 (yW (C:=C) (nm:=nm) (q:=q) (N:=N) (bs:=bs) (bm:=bm) (hdct:=hdct) (sn:=sn) (sub:=sub) (ab:=ab) (col:=col) (dd:=dd) (k0:=k0) (k1:=k1) (k2:=k2) (k3:=k3) (k5:=k5) (newId:=newId) hbase hh (xd (AD (CG (AD h (λf s₁ h₁=>?_) λ_ _ x=>x)) (λv s₃ h₃=>xd (A4 (Ag h₃))) λ_ _ x=>x)))))
  |(refine xd (A4 (yW (C:=C) (nm:=nm) (q:=q) (N:=N) (bs:=bs) (bm:=bm) (hdct:=hdct) (sn:=sn) (sub:=sub) (ab:=ab) (col:=col) (dd:=dd) (k0:=k0) (k1:=k1) (k2:=k2) (k3:=k3) (k5:=k5) (newId:=newId) hbase hh ?_));refine xd (AD (CG (AD h (λf s₁ h₁=>?_) λ_ _ x=>x)) (λv s₃ h₃=>xd (A4 (Ag h₃))) λ_ _ x=>x))
 obtain⟨rfl,h₁⟩:=h₁;unfold callWith;refine xd (Bx (AD h₁ (λa s₂ h₂=>xd (A4 ?_)) λ_ _ x=>x));obtain⟨apos,akw⟩:=a;obtain⟨hkw,hC,h₂⟩:=h₂;obtain rfl:akw=[]:=hkw;obtain⟨hp,g,d,tk,os⟩:=s₂;simp only[hplain];refine xd (wpAny_keeperOf_exc hC ?_);exact xd (AD h₂ (λv s₃ h₃=>xd (Bx (wpAny_point (Ag h₃)))) λ_ _ x=>x)
end
structure xh(B:String)(bm:List Value)(sa owner:String):Prop where
 f:Slot B "__setattr__" sa
 g:entryFor table sa=some Builtin.«object.__setattr__»
 j:builtinKind sa=some .slot
 h:splitId sa=some (owner,"__setattr__")
 d:bm.contains (.type owner)=true
 i:∀a b c:Value,argsOk sa ⟨[a,b,c],[]⟩
 e:∀self:Value,refuseLoop self "__setattr__" bm=pure ()
theorem StoreFacts.two(F:StoreFacts B bm sa owner)D:xh B (.ref D::bm) sa owner:=
 ⟨F.slot,F.entry,F.kind,F.split,by rw[Bb,F.hasOwner,CV],F.args,λself=>by rw[refuseLoop_ref];exact F.passes self⟩
section
variable {prog:Program}{w:World}{A:Around}{E:Value->Shared->Prop}{h:Heap}{g:Array DJ}{d:Drawn}{t:Nat}{os:OsState}
variable {nm q:Str}{C N x:Addr}{bs bm:List Value}{hdct:Bool}{sn:List Str}{sub:List Value}{ab:Bool}{col:Option Bool}{dd:Option Addr}{k0 k1 k2 k3 k5:Option Value}{B newId initId sa owner:String}{mA:Str->Option Value}{name:Str}{v:Value}{K:Ac}
theorem rG(SF:xh B bm sa owner)
 (hC:h.get? C=some (AQ nm q C N bs bm true sn sub ab col dd k0 k1 k2 k3 k5 newId)) (hx:h.get? x=some o) (hc:o.cls=.ref C) (hq:Q () ⟨h,g,d,t,os⟩) :
 wpAny M A (B3 sa ⟨[.ref x,nameV,v],[]⟩) Q E ⟨h,g,d,t,os⟩:=by
 have hcB:(AF C::bm).contains (.type owner)=true:=by rw[Bb,SF.d,CV]
 have ha:=SF.i (.ref x) nameV v;simp only[B3,SF.j,SF.h];refine xd ?_
 . unfold Gx
   repeat (first|(with_reducible refine AB hx ?_;rw[hc])|(with_reducible refine BV hC ?_;rw[hcB])|wp_step)
   cases hsig:Manifest.signature? sa with
   |none=>exact Ag hq
   |some sig=>
    simp only[argsOk,hsig]at ha;have h2:Bind.checkArgs sa sig ⟨[.ref x,nameV,v],[]⟩=pure ():=ha;show wpAny M A (Bind.checkArgs sa sig ⟨[.ref x,nameV,v],[]⟩) Q E _;rw[h2];exact Ag hq
theorem nS{tk:Tok}{Q:Fin->Shared->Prop}{ns:List Str}(SF:xh B bm sa owner)
 (hC:h.get? C=some (AQ nm q C N bs bm true sn sub ab col dd k0 k1 k2 k3 k5 newId)) (X:K.In h) (hna:Di K (.ref C) name=some none)
 (hxC:x≠C) (I:h.Inst x C mA)
 (hq:∀h' tk',h'.Inst x C (λy=>if y=name then some v else mA y) ->
  (∀b o,b≠x->(∀o₀ dx,h.get? x=some o₀->o₀.dict=some dx->b≠dx)->h.get? b=some o->h'.get? b=some o) ->
  (∀o₀,h.get? x=some o₀->∃o₁,h'.get? x=some o₁/\o₁.cls=o₀.cls/\o₁.data=o₀.data/\o₁.slots=o₀.slots/\(∀dx,o₀.dict=some dx->o₁.dict=some dx)/\(o₀.dict=none->o₁.dict=some h.objs.size))->Q (.done (.ret .none)) ⟨h',g,d,tk',os⟩) (hw:Within mA ns:=by within_ways) (hsz:ns.length<=Am:=by size_fits) :
 wpAny (model prog w) A (Builtin.«object.__setattr__» ⟨[.ref x,.str name tk,v],[]⟩) Q E ⟨h,g,d,t,os⟩:=by
 obtain⟨o,hx,hc,hnc,hd⟩:=I;have hpass:=SF.e (.ref x);have L1:=PySem.W.looks_findIn (M:=model prog w) X hna;unfold Builtin.«object.__setattr__»
 repeat (first|rw[refuse_eq]|(rw[refuseLoop_ref,hpass])|(with_reducible refine AB hx ?_;rw[hc])|with_reducible refine F7 hC ?_|with_reducible refine L1.at ?_|wp_step)
 rcases hd with⟨hdn,hmA⟩|⟨dx,hdx,hne,hns⟩
 ·
  rw[hdn,if_neg (by simp[typeHasDict])]
  split
  . rename_i hcd
    cases hcd
  split
  . rename_i c hcd
    exact absurd hcd (hnc c)
  . have hx₁:(h.push {cls:=.type "dict",data:=.dict #[]}).get? x=some o:=lp _ hx
    have hxs:x≠h.objs.size:=AG (Aj hx);refine xd (wpAny_alloc' ?_);refine xd (wpAny_update' hx₁ ?_);refine Ag ?_;have hgd:((h.push {cls:=.type "dict",data:=.dict #[]}).update x λo=>{cls:=o.cls,dict:=some h.objs.size,data:=o.data,slots:=o.slots}).get? h.objs.size
     = some {cls:=.type "dict",data:=.dict #[]}:=
     (Heap.get?_update_ne _ _ _ _ hxs.symm).trans (Fp rfl rfl)
    have hnd:((h.push {cls:=.type "dict",data:=.dict #[]}).update x λo=>{cls:=o.cls,dict:=some h.objs.size,data:=o.data,slots:=o.slots}).Ns h.objs.size (λ_=>none):=
     ⟨_,#[],_,hgd,rfl,λe he=>absurd he (by simp),λ_=>rfl⟩
    show wpAny _ _ (storeInDict h.objs.size (.str name tk) name v) _ _ _;unfold storeInDict newKeyGuard;refine xd (Ag (xd (wpAny_nsSet1 (Heap.Ns1.of_empty hnd) λh' hn' hs=>?_)));obtain⟨oD,esD,epD,hoD,hdD,hcD⟩:=hn'.count (Within.cons name v Within.nil);refine xd (wpAny_lookBehind hoD (by rw[hdD];exact pastItsLine_dict (Ay hcD (by rw[AL,BM,AK];omega))) ?_)
    wp_walk
    have hx':h'.get? x=some {cls:=o.cls,dict:=some h.objs.size,data:=o.data,slots:=o.slots}:=?_;refine hq h' _ ⟨{cls:=o.cls,dict:=some h.objs.size,data:=o.data,slots:=o.slots},hx',hc,hnc,.inr ⟨h.objs.size,rfl,hxs.symm,?_⟩⟩ (λb ob hbx _ hb=>?_)
     (λo₀ h₀=>by obtain rfl:o=o₀:=AR (hx.symm.trans h₀);exact⟨_,hx',rfl,rfl,rfl,(λdx e=>by rw[hdn]at e;cases e),λ_=>rfl⟩)
    . obtain⟨o',es,ep,e1,e2,e3,eu,e4⟩:=hn'
      exact⟨o',es,ep,e1,e2,e3,eu,λy=>by rw[e4 y];by_cases hy:y=name<;>simp[hy,hmA]⟩
    . exact(hs.2 b (AG (Aj hb))).trans ((Heap.get?_update_ne _ _ _ _ hbx).trans (lp _ hb))
    . refine(hs.2 x hxs).trans (BA _ hx₁ ?_)
      have hfr:=(Heap.get?_some_iff.mp hx).2;obtain⟨oc,od,odt,osl⟩:=o;cases odt<;>first|rfl|exact hfr
 ·
  rw[hdx];refine Ag ?_;show wpAny _ _ (storeInDict dx (.str name tk) name v) _ _ _;unfold storeInDict newKeyGuard;refine xd (Ag (xd (wpAny_nsSet1 hns λh' hn' hs=>?_)));obtain⟨oD,esD,epD,hoD,hdD,hcD⟩:=hn'.count (Within.cons name v hw);refine xd (wpAny_lookBehind hoD (by rw[hdD];exact pastItsLine_dict (Ay hcD (by rw[AL];omega))) ?_)
  wp_walk
  refine hq h' _ ⟨o,(hs.2 x hne.symm).trans hx,hc,hnc,.inr ⟨dx,hdx,hne,hn'⟩⟩ (λb ob _ hbd hb=>?_)
   (λo₀ h₀=>⟨o₀,(hs.2 x hne.symm).trans h₀,rfl,rfl,rfl,(λ_ e=>e),λz=>by rw[hx]at h₀;cases h₀;rw[hdx]at z;cases z⟩)
  exact(hs.2 b (hbd o dx hx hdx)).trans hb
theorem m9{tk:Tok}{R:Result->Shared->Prop}{ns:List Str}(SF:xh B bm sa owner)
 (hC:h.get? C=some (AQ nm q C N bs bm true sn sub ab col dd k0 k1 k2 k3 k5 newId)) (X:K.In h) (hna:Di K (.ref C) name=some none)
 (hxC:x≠C) (I:h.Inst x C mA)
 (hq:∀h' tk',h'.Inst x C (λy=>if y=name then some v else mA y) ->
  (∀b o,b≠x->(∀o₀ dx,h.get? x=some o₀->o₀.dict=some dx->b≠dx)->h.get? b=some o->h'.get? b=some o) ->
  (∀o₀,h.get? x=some o₀->∃o₁,h'.get? x=some o₁/\o₁.cls=o₀.cls/\o₁.data=o₀.data/\o₁.slots=o₀.slots/\(∀dx,o₀.dict=some dx->o₁.dict=some dx)/\(o₀.dict=none->o₁.dict=some h.objs.size))->R (.ok (.ret .none)) ⟨h',g,d,tk',os⟩) (hw:Within mA ns:=by within_ways) (hsz:ns.length<=Am:=by size_fits) :
 codeAny (model prog w) A (.call (.builtin sa) ⟨[.ref x,.str name tk,v],[]⟩) R ⟨h,g,d,t,os⟩:=by
 obtain⟨o,hx,hc,_⟩:=id I;exact Cg SF.f.plain SF.g (rG SF hC hx hc (nS SF hC X hna hxC I hq hw hsz))
theorem sx{Q:Unit->Shared->Prop}{ns:List Str}(SF:xh B bm sa owner)
 (hC:h.get? C=some (AQ nm q C N bs bm true sn sub ab col dd k0 k1 k2 k3 k5 newId)) (X:K.In h) (hns:Di K (.ref C) "__setattr__"=some (some (.builtin sa))) (hna:Di K (.ref C) name=some none)
 (hxC:x≠C) (I:h.Inst x C mA)
 (hq:∀h' tk',h'.Inst x C (λy=>if y=name then some v else mA y) ->
  (∀b o,b≠x->(∀o₀ dx,h.get? x=some o₀->o₀.dict=some dx->b≠dx)->h.get? b=some o->h'.get? b=some o) ->
  (∀o₀,h.get? x=some o₀->∃o₁,h'.get? x=some o₁/\o₁.cls=o₀.cls/\o₁.data=o₀.data/\o₁.slots=o₀.slots/\(∀dx,o₀.dict=some dx->o₁.dict=some dx)/\(o₀.dict=none->o₁.dict=some h.objs.size))->Q () ⟨h',g,d,tk',os⟩) (hw:Within mA ns:=by within_ways) (hsz:ns.length<=Am:=by size_fits) :
 wpAny (model prog w) A (setAttr (.ref x) name v) Q E ⟨h,g,d,t,os⟩:=by
 obtain⟨o,hx,hc,_⟩:=id I;have f3:=SF.f.bind (.ref x);have L1:=PySem.W.looks_findIn (M:=model prog w) X hns;unfold setAttr callSpecial? specialOf
 repeat (any_goals (first|assumption|(with_reducible refine AB hx ?_;rw[hc])|with_reducible refine L1.at ?_|wp_step))
 refine m9 SF hC X hna hxC I (λh' tk' I' hk hsame=>?_) hw hsz
 repeat (any_goals (first|assumption|wp_step))
 exact hq h' tk' I' hk hsame
end
end PySem
end
section
namespace L2
open PySem PySem.W PySem.Spec PyProof PyProof.Rows
structure uS(P:Program)(w:World)(outer:List Env)(H:Hp)(s:Shared)(H':Hp)(a:Addr)(cls:Value)(dd:Option Addr)(s':Shared):Prop where
 j:s'.os=s.os
 d:AllBare s'.gens
 i:∀b∈frs outer,H' b=none
 h:∃(g B:Heap),Un (frs outer) [] H H' s.heap g/\HOk P w H' g/\(∀b o,g.get? b=some o->b ∉ frs outer->(b<s.heap.objs.size\/H' b≠none)->B.get? b=some o) /\
  (∀b o,g.get? b=some o->b∈frs outer->∃sl,s'.heap.get? b=some {o with slots:=sl})/\Heap.x8 B outer a cls dd s'.heap
def CXE(P:Program)(w:World):CXT:=λouter H s E e s'=>∃(a:Addr) (cls:Value) (dd:Option Addr) (H':Hp),e=.ref a/\uS P w outer H s H' a cls dd s'/\E cls dd H'
theorem uS.un(f:uS P w outer H s H' a cls dd s'):Un (frs outer) [] H H' s.heap s'.heap/\HOk P w H' s'.heap:=by
 obtain⟨g,B,u,hk,cov,fr,k,_⟩:=f.h;have go:∀b o,s.heap.get? b=some o->b ∉ frs outer->∀o',g.get? b=some o'->s'.heap.get? b=some o':=λb o e n o' e'=>k b o' (cov b o' e' n (.inl (Aj e)));refine⟨⟨λb o e n hb hx=>go b o e hb o (u.f b o e n hb hx),λb o e n hb hx=>?_,u.d,λb o e hx=>?_,u.l,u.g,u.j⟩,λb o e=>(hk b o e).qy (λc v hc e'=>?_) (λ_ q=>q) λ_ _ q=>q⟩
 . obtain⟨sl,e1⟩:=u.i b o e n hb hx
   obtain⟨sl',e2⟩:=fr b _ e1 hb;exact⟨sl',e2⟩
 . obtain⟨o',e1⟩:=u.c b o e hx
   by_cases hb:b∈frs outer
   . obtain⟨sl,e2⟩:=fr b o' e1 hb
     exact⟨_,e2⟩
   . exact⟨o',go b o e hb o' e1⟩
 . have hc':H' c≠none:=by
    rcases hc with rfl|hc
    . rw[e];exact nofun
    . rw[hc];exact nofun
   exact k c v (cov c v e' (λhm=>hc' (f.i c hm)) (.inr hc'))
section
variable {P:Program}{w:World}{K:Ac}{mg:Str->Option Value}{base:Heap}{N:List Str}{qual:Str}{scope:Scope}{f:Addr}{cd:Value}{A:Around}{outer:List Env}{s₀:Shared}{H₀:Hp}{E:XK}
theorem gZ:Passes (CXE P w) (yA (CXE P w) P w K mg base N qual scope f cd A outer s₀ H₀ E) E:=by
 rintro pins σ H s e s' I ⟨a,cls,dd,H',rfl,fl,hE⟩;obtain⟨g,B,u,hk,cov,fr,fly⟩:=fl.h;show wpAny _ _ _ _ _ _;have I1:Inv (yA (CXE P w) P w K mg base N qual scope f cd A outer s₀ H₀ E) pins σ H' {s with heap:=g}:=I.call (g':=s.gens) (t':=s.toks) (d':=s.drawn) (ch:=[]) u hk I.D λb z=>absurd z (by simp)
 have hL:∀b,(b<s₀.heap.objs.size\/H' b≠none)->b≠s₀.heap.objs.size:=λb hb z=>by
  subst z;rcases hb with hb|hb
  . exact Bc _ hb
  . exact hb I1.J
 have hmem:∀b,b∈frs outer->b∈frs (envOfC qual scope s₀.heap.objs.size f cd::outer):=λb hb=>Af _ hb;refine wo (base:=B) (env:=envOfC qual scope s₀.heap.objs.size f cd) (outer:=outer) (L:=s₀.heap.objs.size) I.C.g rfl fly λh' x1 x2=>?_;refine⟨a,cls,dd,H',rfl,⟨fl.j.trans I.P,fl.d,λb hb=>fl.i b (hmem b hb),g,B,I1.j,hk,λb o e n hb=>?_,λb o e hb=>?_,x1⟩,hE⟩
 . refine cov b o e (λhm=>?_) ?_
   . rcases An.mp (show b∈s₀.heap.objs.size::frs outer from hm) with z|z
     . exact hL b hb z
     . exact n z
   . rcases hb with hb|hb
     . exact .inl (Ar hb I.sz)
     . exact .inr hb
 . obtain⟨sl,e1⟩:=fr b o e (hmem b hb)
   obtain⟨_,o',e2,hd⟩:=fly.2.2.1.mem (hmem b hb);rw[e1]at e2;cases e2;obtain⟨sl',e3⟩:=x2 b _ e1 hd;exact⟨sl',e3⟩
theorem qc(I:Inv (yA (CXE P w) P w K mg base N qual scope f cd A outer s₀ H₀ E) pins σ H s)(keeps:∀b o,s.heap.get? b=some o->h1.get? b=some o)(new:s.heap.get? a=none)(he:h1.get? a=some oe)(hd:oe.data=.fields vs)(h1n:vs[1]?=some .none)(hE:E oe.cls oe.dict H) :
 (yA (CXE P w) P w K mg base N qual scope f cd A outer s₀ H₀ E).i (.ref a) {s with heap:=h1}:=by
 have hmem:∀b,b∈frs outer->b∈frs (envOfC qual scope s₀.heap.objs.size f cd::outer):=λb hb=>Af _ hb;have hin:∀env∈(envOfC qual scope s₀.heap.objs.size f cd::outer),∀b,env.frame=some b->b∈frs (envOfC qual scope s₀.heap.objs.size f cd::outer):=λenv he b hb=>Cr.mpr ⟨env,he,hb⟩;have hst:s.heap.FunFrames base (envOfC qual scope s₀.heap.objs.size f cd::outer):=I.stack;show wpAny _ _ _ _ _ _;refine tQ (base:=hideAll s.heap (frs (envOfC qual scope s₀.heap.objs.size f cd::outer))) (h:=s.heap) (env:=envOfC qual scope s₀.heap.objs.size f cd) (outer:=outer) (L:=s₀.heap.objs.size) I.C.g rfl (λb o q=>of_hideAll _ q) (funFrames_hide hst hin) keeps new he hd h1n λh' x1 x4=>?_;refine⟨a,_,_,H,rfl,⟨I.P,I.D,λb hb=>I.nR b (hmem b hb),s.heap,_,I.j,I.B,λb o e n hb=>hideAll_get _ e λhm=>?_,λb o e hb=>?_,x1⟩,hE⟩
 . rcases An.mp (show b∈s₀.heap.objs.size::frs outer from hm) with z|z
   . subst z
     rcases hb with hb|hb
     . exact Bc _ hb
     . exact hb I.J
   . exact n z
 . obtain⟨_,o',e2,hd⟩:=hst.mem (hmem b hb)
   rw[e]at e2;cases e2;obtain⟨sl,e3⟩:=x4 b o (keeps b o e) hd;exact⟨sl,e3⟩
theorem mr(I:Inv (yA (CXE P w) P w K mg base N qual scope f cd A outer s₀ H₀ E) pins σ H s)(m:CQ s.heap h1 a (.ref C) us)(hE:E (.ref C) none H) :
 (yA (CXE P w) P w K mg base N qual scope f cd A outer s₀ H₀ E).i (.ref a) {s with heap:=h1}:=by
 obtain⟨t,he,_,_⟩:=m.there;exact qc I m.keeps m.new he rfl rfl hE
end
end L2
end
section
namespace L2
open PySem PySem.W PySem.Spec PyProof PyProof.Rows
noncomputable def veM:List Value:=[.type "ValueError",.type "Exception",.type "BaseException",.type "object"]
def ClsAt(h:Heap)(C:Addr)(bm:List Value):Prop:=∃(nm q:Str) (N:Addr) (bs:List Value) (hdct:Bool) (sn:List Str) (sub:List Value) (ab:Bool) (col:Option Bool) (dd:Option Addr) (k0 k1 k2 k3 k5:Option Value) (mN:Str->Option Value),
 h.get? C=some (AQ nm q C N bs bm hdct sn sub ab col dd k0 k1 k2 k3 k5 "ValueError.__new__")/\h.Ns N mN/\mN "__init__"=none
def XR(X:Cx)(C:Addr)(H:Hp):Prop:=∀(pins:List (Addr × Obj)) (σ:St) (s:Shared),Inv X pins σ H s->∀(h1:Heap) (a:Addr) (us:List Value),CQ s.heap h1 a (.ref C) us->X.i (.ref a) {s with heap:=h1}
def V1(X:Cx)(C:Addr)(t:TA):TS:=λ_ σ H=>t σ H λvs H1=>vs.length<=Am/\XR X C H1
section
variable {X:Cx}
theorem mj(hc:X.A.handled=none)(hg:Gl X x)(hm:X.d x=some (.ref C))(cC:ClsAt X.g C (.ref D::veM))(cD:ClsAt X.g D veM)(ha:PA X (e::es) t)
 (hdb:(x == ("__debug__":Str))=false) (he:Av (e::es) X.a=(false,eval e X.a)::Av es X.a) (hpl:(backTo cpos (Av es X.a)).any (·.1)=false):PS X (.Raise (some (.Call (.Name x np) (e::es) [] cpos)) none pos) (V1 X C t):=by
 intro pins s σ H D' I h;obtain⟨nm,q,N,bs,hdct,sn,sub,ab,col,dd,k0,k1,k2,k3,k5,mN,hC,hN,hz⟩:=cC;obtain⟨nm1,q1,N1,bs1,hd1,sn1,sub1,ab1,col1,dd1,j0,j1,j2,j3,j5,mN1,hD,hN1,hz1⟩:=cD;refine vR (C:=C) (D:=D) (nm:=nm) (q:=q) (N:=N) (bs:=bs) (hdct:=hdct) (sn:=sn) (sub:=sub) (ab:=ab) (col:=col) (dd:=dd) (k0:=k0) (k1:=k1) (k2:=k2) (k3:=k3) (k5:=k5) (mN:=mN)
  (nm1:=nm1) (q1:=q1) (N1:=N1) (bs1:=bs1) (hd1:=hd1) (sn1:=sn1) (sub1:=sub1) (ab1:=ab1) (col1:=col1) (dd1:=dd1) (j0:=j0) (j1:=j1) (j2:=j2) (j3:=j3) (j5:=j5) (mN1:=mN1) (new1:="ValueError.__new__") (BZ.two D) hc ?_ hz hz1 rfl BZ.mroIs (xG I hg hm ⟨rfl,?_⟩ hdb)
 . rw[he];exact hpl
 . rw[he]
   refine Dp ?_;have q:=ha cpos pins s σ H _ I h;rw[he]at q;refine AD q (λus s1 hq=>?_) λ_ _ z=>z;obtain⟨vs,H1,I1,r,hl,hx⟩:=hq;exact⟨rfl,by rw[<-r.length];exact hl,I1.bk _ _ hC,hN.keeps I1.bk,I1.bk _ _ hD,hN1.keeps I1.bk,λh' e' m=>hx pins σ s1 I1 h' e' _ m⟩
end
theorem Yr{K}
 (hE:E (.ref C) none H):XR (yA (CXE P w) P w K mg base N qual scope f cd A outer s₀ H₀ E) C H:=λ_ _ _ I _ _ _ m=>mr I m hE
end L2
end
section
namespace L2
open PySem PySem.W PySem.Spec PyProof PyProof.Rows
def tFs(ta tb:TE):TE:=λσ H Q=>ta σ H λx H1=>∃i:Int,x=.d i/\i.natAbs<2 ^ 64/\tb σ H1 λy H2=>∃j:Int,y=.d j/\j.natAbs<2 ^ 64/\∀z,Q (.e z) H2
theorem wm{i:Int}(h:i.natAbs<2 ^ 64):i.natAbs.log2<64:=by
 by_cases z:i.natAbs=0
 . rw[z];decide
 . exact(Nat.log2_lt z).mpr h
theorem v8{i:Int}(h:i.natAbs<2 ^ 64):(Et (toString i)).length<=65:=by rw[PySem.ofString_length];exact int_text_length_le (by decide) (wm h)
section
variable {X:Cx}
theorem Tr(ha:PE X a ta)(hb:PE X b tb)(h1:c1.length<=1000)(h2:c2.length<=1000)(h3:c3.length<=1000) :
 PE X (.JoinedStr [.Constant (.str c1) k1 p1,.FormattedValue a (-1) none p2,.Constant (.str c2) k2 p3,.FormattedValue b (-1) none p4,.Constant (.str c3) k3 p5] pos) (tFs ta tb):=by
 intro pins s σ H Q I h;refine JoinedStr_many (Cm (C6 ⟨?_,Cm (Ds ?_)⟩))
 . rw[AH,AK,show CN.length=0 from rfl];omega
 refine thn (ha pins _ σ H _ (I.tok _) h) λu s1 ⟨x,H1,I1,r1,i,e1,hi,q1⟩=>?_;subst e1;obtain⟨t1,rfl⟩:=r1;have l1:=v8 hi;refine Dl (Ar (wm hi) (by decide)) ⟨?_,Cm (C6 ⟨?_,Cm (Ds ?_)⟩)⟩
 . rw[AH,AH,AK,show CN.length=0 from rfl];omega
 . rw[AH,AH,AH,AK,show CN.length=0 from rfl];omega
 refine thn (hb pins _ σ H1 _ (I1.tok _) q1) λu2 s2 ⟨y,H2,I2,r2,j,e2,hj,q2⟩=>?_;subst e2;obtain⟨t2,rfl⟩:=r2;have l2:=v8 hj;refine Dl (Ar (wm hj) (by decide)) ⟨?_,Cm (C6 ⟨?_,joinParts_nil ⟨.e _,H2,I2.tok _,⟨_,rfl⟩,q2 _⟩ ?_⟩)⟩
 . rw[AH,AH,AH,AH,AK,show CN.length=0 from rfl];omega
 . rw[AH,AH,AH,AH,AH,AK,show CN.length=0 from rfl];omega
 . rw[AH,AH,AH,AH,AH,AK,show CN.length=0 from rfl];omega
end
end L2
end
section
namespace L2
open PySem PySem.W PySem.Spec PyProof PyProof.Rows
def Bm(base:Heap)(mg:Str->Option Value):Prop:=∃(bm:Addr) (ob:Obj),mg "__builtins__"=some (.ref bm)/\bm≠Fu/\base.get? bm=some ob/\ob.cls=.type "module"/\ob.dict=some Fu/\ob.data=.plain
def UK(H:Hp)(P:Addr)(ps:Array Value)(pos:Pos)(q:Str)(c:Addr)(H':Hp):Prop:=H'=H \/
 ∃(o:Obj) (vs:Array Value) (t:Tok),DL pos ps.toList=none/\H c=none/\o.data=.fields vs/\vs[1]?=some (.str q t)/\H'=upd (upd H P (.g (ps++#[rawInt pos.line,rawInt pos.col,.ref c]))) c (.e o (.d 0))
section
variable {X:Cx}{pins:List (Addr × Obj)}{σ:St}{H:Hp}{s:Shared}{M:Model}{A:Around}{E:Value->Shared->Prop}
theorem mK(I:Inv X pins σ H s)(dE:defaultsOf a X.a=([],[]))(hcl:Gw lsc X.a=pure clos)
 (hcode:X.a.code=.ref c) (C:CodeHd s.heap c P) (hP:H P=some (.g ps)) (ht:DM ps.toList) (B:Bm X.g X.d)
 (hit:∀cv,DL pos ps.toList=some cv->∃c' o vs t,cv=.ref c'/\H c'=some (.e o (.d 0))/\o.data=.fields vs/\vs[1]?=some (.str (X.a.qual++("<lambda>":Str)) t))
 (h:∀lf c' ctv H' h' tk,Inv X pins σ H' {s with heap:=h',toks:=tk}->UK H P ps pos (X.a.qual++("<lambda>":Str)) c' H'->(H' lf=none/\s.heap.objs.size<=lf/\lf ∉ frs X.h/\∃o vs t,H' c'=some (.e o (.d 0))/\o.data=.fields vs/\vs[1]?=some (.str (X.a.qual++("<lambda>":Str)) t)) ->
  h'.get? lf=some (kla_obj "<lambda>" (X.a.qual++("<lambda>":Str)) a body lsc clos ((X.d "__name__").getD .none) c' ctv)->h'.CodeRec (.ref c') (X.a.qual++("<lambda>":Str))->Q (.ref lf) {s with heap:=h',toks:=tk}) :
 wpAny M A (eval (.Lambda a body lsc pos) X.a) Q E s:=by
 obtain⟨bm,ob,b1,b2,b3,b4,b5,b6⟩:=B;have hPo:s.heap.get? P=some (tabObj ps):=I.B P _ hP;have hg:s.heap.Ns AJ X.d:=I.mod.c.keeps I.bk;have hbH:H bm=none:=(I.bs _ _ b3).2;have hbP:bm≠P:=λz=>by rw[z,hP]at hbH;cases hbH
 obtain⟨og,eg,pg,g1,g2,_⟩:=I.mod.c;have hgH:H AJ=none:=(I.bs _ _ g1).2;have hgP:AJ≠P:=λz=>by rw[z,hP]at hgH;cases hgH
 have hbG:bm≠AJ:=λz=>by rw[z,g1]at b3;cases b3;rw[g2]at b6;cases b6
 have hb:s.heap.BuiltinsAt X.d P:=⟨bm,ob,b1,b2,hbG,hbP,I.bk _ _ b3,b4,b5,b6⟩;have nst:∀lf,s.heap.objs.size<=lf->lf ∉ frs X.h:=λlf hl hm=>by obtain⟨_,o,e,_⟩:=I.stack.mem hm;exact absurd (Ar (Aj e) hl) (Bc _)
 refine kla_eval dE ?_;cases hf:DL pos ps.toList with
 |some cv=>
  obtain⟨c',o,vs,t,rfl,q1,q2,q3⟩:=hit cv hf;refine kla_makeFunctionHit (mg:=X.d) hcl I.C.j hg hcode C hPo ht hf hb λctv h' tk hk hsz=>?_;have hk2:∀b u,s.heap.get? b=some u->(h'.push {cls:=.type "function",data:=.func (kla_fn "<lambda>" (X.a.qual++("<lambda>":Str)) a body lsc clos ((X.d "__name__").getD .none) (.ref c') ctv)}).get? b=some u:=λb u e=>lp _ (hk b u e);have hcr:s.heap.CodeRec (.ref c') (X.a.qual++("<lambda>":Str)):=⟨c',o,vs,t,rfl,(I.B c' _ q1).1,q2,q3⟩;refine h _ c' ctv H _ tk (I.kept hk2) (.inl rfl) ⟨I.B.fresh hsz,hsz,nst _ hsz,o,vs,t,q1,q2,q3⟩ (Az _ rfl) ?_;obtain⟨c2,o2,vs2,t2,e1,e2,e3⟩:=hcr;exact⟨c2,o2,vs2,t2,e1,hk2 _ _ e2,e3⟩
 |none=>
  refine kla_makeFunction (mg:=X.d) hcl I.C.j hg hcode C hPo ht hf hgP hb λc' ctv h' tk hx hge hlt lz htb=>?_;obtain⟨c2,oc,vs,t,e1,e2,e3,e4⟩:=lz;cases e1;have hcn:H c'=none:=I.B.fresh hge;have hcP:c'≠P:=λz=>by rw[z,hP]at hcn;cases hcn
  have hk2:∀b u,b≠P->s.heap.get? b=some u->(h'.push (kla_obj "<lambda>" (X.a.qual++("<lambda>":Str)) a body lsc clos ((X.d "__name__").getD .none) c' ctv)).get? b=some u:=λb u n e=>lp _ (hx b u n e);have nP:∀b,H b=none->b≠P:=λb n z=>by rw[z,hP]at n;cases n
  have nc:∀b o,s.heap.get? b=some o->b≠c':=λb o e z=>absurd (Ar (Aj e) hge) (by rw[z];exact Bc _)
  refine h _ c' ctv (upd (upd H P (.g (ps++#[rawInt pos.line,rawInt pos.col,.ref c']))) c' (.e oc (.d 0))) _ tk (I.un (t':=tk) ⟨λb o e n _ _=>hk2 b o (nP b n) e,λb o e n _ _=>⟨o.slots,hk2 b o (nP b n) e⟩,λb o e n _=>?_,λb o e _=>?_,λb xs e=>?_,λb o u e=>?_,λb qs e=>?_⟩ λb u e=>?_)
   (.inr ⟨oc,vs,t,hf,hcn,e3,e4,rfl⟩) ⟨by rw[zJ (Dh hlt),zJ (nP _ (I.B.fresh (Ay hge (Dg hlt))))];exact I.B.fresh (Ay hge (Dg hlt)),Ay hge (Dg hlt),nst _ (Ay hge (Dg hlt)),oc,vs,t,zL,e3,e4⟩ (Az _ rfl) ⟨c',oc,vs,t,rfl,lp _ e2,e3,e4⟩
  . rw[zJ (nc b o e),zJ (nP b n)];exact n
  . by_cases z:b=P
    . rw[z];exact⟨_,lp _ htb⟩
    . exact⟨o,hk2 b o z e⟩
  . have z1:b≠c':=λz=>by rw[z,hcn]at e;cases e
    have z2:b≠P:=λz=>by rw[z,hP]at e;cases e
    rw[zJ z1,zJ z2];exact e
  . have z1:b≠c':=λz=>by rw[z,hcn]at e;cases e
    have z2:b≠P:=λz=>by rw[z,hP]at e;cases e
    rw[zJ z1,zJ z2];exact e
  . have z1:b≠c':=λz=>by rw[z,hcn]at e;cases e
    rw[zJ z1];by_cases z:b=P
    . subst z
      rw[hP]at e;cases e;exact⟨_,zL⟩
    . rw[zJ z];exact⟨#[],by rw[e];simp⟩
  . by_cases z1:b=c'
    . subst z1
      rw[zL]at e;cases e;exact⟨lp _ e2,oc,lp _ e2⟩
    . rw[zJ z1]at e
      by_cases z:b=P
      . subst z
        rw[zL]at e;cases e;exact lp _ htb
      . rw[zJ z]at e
        have own:∀d y,H d=some (.d y)->d≠c'/\d≠P:=λd y r=>⟨λz=>(by rw[z,hcn]at r;cases r),λz=>(by rw[z,hP]at r;cases r)⟩
        refine(I.B b u e).qy (λd v hd q=>hk2 d v ?_ q) (λd r=>by rw[zJ (own d b r).1,zJ (own d b r).2];exact r) λd xs r=>?_
        . rcases hd with rfl|hd
          . exact z
          . exact(own d b hd).2
        . have y1:d≠c':=λz=>by rw[z,hcn]at r;cases r
          have y2:d≠P:=λz=>by rw[z,hP]at r;cases r
          rw[zJ y1,zJ y2];exact r
end
end L2
end
section
namespace L2
open PySem PySem.W PySem.Spec PyProof PyProof.Rows
section
variable {P:Program}{w:World}{K:Ac}{mg:Str->Option Value}{base:Heap}{CX:CXT}{A:Around}{outer:List Env}{s:Shared}{H:Hp}{E:XK}{R:Result->Shared->Prop}
noncomputable abbrev Cx.loud(X:Cx)(A:Around):Cx:={X with A:=A,j:=false}
theorem Inv.loud(I:Inv X pins σ H s)(hf:A'.frames=some X.h):Inv (X.loud A') pins σ H s:=
 ⟨⟨I.C.i,I.C.a,I.C.j,I.C.t,I.C.d,I.C.r,I.C.q,I.C.s,λz=>absurd z Ad,hf,I.C.w,I.C.G,I.C.B,I.C.p,I.C.m,I.C.l,I.C.D,I.C.u⟩,I.P,I.D,I.j,I.M,I.G,I.J,I.F,I.O,I.B,I.R⟩
theorem Inv.calm(I:Inv (X.loud A') pins σ H s)(ok:X.Ok):Inv X pins σ H s:=
 ⟨ok,I.P,I.D,I.j,I.M,I.G,I.J,I.F,I.O,I.B,I.R⟩
abbrev nZ(P:Program)(w:World)(A:Around)(env:Env)(R:Result->Shared->Prop)(body:List Stmt)(s1:Shared):Prop:=
 wpAny (model P w) (A.deeper env) (execs body env) (λfl s'=>R (.ok (.ret (match fl with|.ret v=>v|_=>.none))) s')
  (λe s'=>wpAny (model P w) (A.deeper env) (leaving env e) (λ_ s''=>R (.error e) s'') (λe' s''=>R (.error e') s'') s') s1
theorem ui{dV kV doc pm cdv ct oc}
 (lk:K.lookup f=some ⟨oc,od,.func (Bz name qual params body scope dV kV doc pm an cdv ct),osl⟩) (hcd:BR K cdv qual=true) (S:xa N ps scope) (hdp:A.depth<B4)
 (e0:rB P w K mg base A outer s H) (hb:BindsTo s (Bz name qual params body scope dV kV doc pm an cdv ct) args (ps.zip us)) (hl:vs.length=ps.length) (r:Vals vs us)
 (h:∀s1:Shared,Inv (yA CX P w K mg base N qual scope f cdv {A with handled:=none} outer s H E) [] (start N vs) H s1->(∀b o,s.heap.get? b=some o->s1.heap.get? b=some o)->nZ P w A (envOfC qual scope s.heap.objs.size f cdv) R body s1) :
 codeAny (model P w) A (.call (.ref f) args) R s:=by
 have KX:K.In s.heap:=e0.c.a.keeps λb o e=>(e0.d b o e).1;have lim:s.heap.NoLimit:=e0.c.b.keeps λb o e=>(e0.d b o e).1;have hkind:∀y∈ps.zip us,scope.names.lookup y.1=some .local\/(scope.names.lookup y.1=some .cell/\((Cu (s.heap.objs.size+1) scope.names []).lookup y.1).isSome=true):=λ⟨n,v⟩ hy=>by
  rcases S.e n (Er hy).1 with q|q
  . exact .inl q
  . exact .inr ⟨q,D3 _ _ _ (.inl q)⟩
 refine codeAny_call_function hdp (KX _ _ lk) rfl S.co S.f rfl (PySem.W.codeRec_of KX hcd) (hb _ _ _ _ ?_);refine E6 S.a hkind λenv he s1 x=>?_;subst he;refine⟨lim.keeps x.toInCall.keep,codeAny_func ?_⟩;exact h s1 (pQ (A:={A with handled:=none}) S rfl ⟨e0.a,e0.c,e0.d,e0.h,e0.j,e0.i,e0.f,e0.g⟩ hl r x) x.toInCall.keep
theorem vT(h:A.handled=none):{A with handled:=none}=A:=by
 cases A;simp only at h;subst h;rfl
noncomputable def noArgs:Ef:=⟨[],[],none,[],[],none,[]⟩
noncomputable def ud(CX:CXT)(P:Program)(w:World)(K:Ac)(mg:Str->Option Value)(base:Heap)(N:List Str)(qual:Str)(scope:Scope)(f:Addr)(cd:Value)(cl:List (Str × Addr))(A:Around)(outer:List Env)(s:Shared)(H:Hp)(E:XK):Cx where
 f:=P
 w:=w
 K:=K
 d:=mg
 g:=base
 A:=A.deeper (envX qual scope s.heap.objs.size f cd cl)
 N:=N
 l:=s
 r:=H
 a:=envX qual scope s.heap.objs.size f cd cl
 k:=outer
 h:=envX qual scope s.heap.objs.size f cd cl::outer
 m:=[]
 j:=true
 q:=λ_=>false
 n:=[]
 i:=λe s'=>wpAny (model P w) (A.deeper (envX qual scope s.heap.objs.size f cd cl)) (leaving (envX qual scope s.heap.objs.size f cd cl) e) (λ_ s''=>CX outer H s E e s'') (λe' s''=>CX outer H s E e' s'') s'
theorem Zq(hdp:A.depth<B4)(hh:A.handled=none)(e0:rB P w K mg base A outer s H)
 (ho:s.heap.get? lf=some (kla_obj nm qual noArgs body lsc cl pm c ctv)) (hcr:s.heap.CodeRec (.ref c) qual) (hk:lsc.kind=.function) (hco:lsc.isCoroutine=false) (hgen:lsc.isGenerator=false)
 (hnm:∀x∈lsc.names,x.2≠.cell/\x.2≠.local) (hinj:∀x y b,cl.lookup x=some b->cl.lookup y=some b->x=y) (hhas:∀x,lsc.names.lookup x=some .free->∃b,cl.lookup x=some b)
 (hcel:∀x b,cl.lookup x=some b->(∃v,s.heap.IsCell b v)/\H b=none)
 (hval:∀(i:Nat) x v,N[i]?=some x->σ[i]?=some (some v)->lsc.names.lookup x=some .free->∃u b,RelV v u/\cl.lookup x=some b/\s.heap.IsCell b (some u)) (hlen:σ.length=N.length)
 (h:∀s1:Shared,Inv (ud CX P w K mg base N qual lsc lf (.ref c) cl A outer s H E) [] σ H s1->wpAny (model P w) (A.deeper (envX qual lsc s.heap.objs.size lf (.ref c) cl)) (eval body (envX qual lsc s.heap.objs.size lf (.ref c) cl)) (λv s'=>R (.ok (.ret v)) s')
  (λe s'=>wpAny (model P w) (A.deeper (envX qual lsc s.heap.objs.size lf (.ref c) cl)) (leaving (envX qual lsc s.heap.objs.size lf (.ref c) cl) e) (λ_ s''=>R (.error e) s'') (λe' s''=>R (.error e') s'') s') s1) :
 codeAny (model P w) A (.call (.ref lf) ⟨[],[]⟩) R s:=by
 have lim:s.heap.NoLimit:=e0.c.b.keeps λb o e=>(e0.d b o e).1;refine kla_callFunE hdp ho rfl hco hgen rfl hcr ?_;have hb:Gs (kla_fn nm qual noArgs body lsc cl pm (.ref c) ctv) ⟨[],[]⟩=pure []:=rfl;rw[hb];refine Ag (wpAny_newFunctionEnv (λx hx=>(hnm x hx).1) (λx hx=>absurd hx (by simp)) (λh₁ hns hsb=>⟨lim.fresh _ hsb,?_⟩) hk)
 show codeAny _ _ (.expr body (envX qual lsc s.heap.objs.size lf (.ref c) cl)) _ _;have hk₁:∀b o,s.heap.get? b=some o->h₁.get? b=some o:=λb o e=>hsb.extBut b o (AG (Aj e)) (lp _ e);have noA:∀b:Addr,b ∉ (ud CX P w K mg base N qual lsc lf (.ref c) cl A outer s H E).m:=λb z=>absurd (show b∈([]:List Addr) from z) (by simp)
 have cellK:∀b v,s.heap.IsCell b v->h₁.IsCell b v:=λb v ⟨o,e,d⟩=>⟨o,hk₁ b o e,d⟩;refine kla_codeExpr (h _ ⟨⟨e0.c,hk,rfl,rfl,Ah _,hinj,λy hy=>?_,λy b z _=>absurd z Ad,λ_=>hh,Es e0.a,.inr ⟨rfl,rfl⟩,λb z=>absurd z (noA b),e0.d,e0.h,λb _ _=>noA b,λb z=>absurd z (noA b),e0.j,e0.i⟩,
  rfl,e0.g,Un.kept hk₁,⟨_,hns,λi y v h1 h2 h3=>?_⟩,λy b e=>?_,e0.f.fresh (Ah _),λy b e=>(hcel y b e).2,λp hp=>absurd (show p∈([]:List (Addr × Obj)) from hp) (by simp),e0.f.kept hk₁,hlen⟩)
 . have hy:lsc.names.lookup y=some .cell\/lsc.names.lookup y=some .free:=hy
   rcases hy with hy|hy
   . exact absurd rfl (hnm _ (AE hy)).1
   . exact hhas y hy
 . have h3:lsc.names.lookup y=some .local\/lsc.names.lookup y=some .cell\/lsc.names.lookup y=some .free:=h3
   rcases h3 with z|z|z
   . exact absurd rfl (hnm _ (AE z)).2
   . exact absurd rfl (hnm _ (AE z)).1
   . obtain⟨u,b,q1,q2,q3⟩:=hval i y v h1 h2 z
     exact⟨u,q1,.inr ⟨.inr z,b,q2,cellK _ _ q3⟩⟩
 . obtain⟨v,q⟩:=(hcel y b e).1
   exact⟨v,cellK b v q⟩
end
end L2
end
section
namespace L2
open PySem PySem.W PySem.Spec PySem.Calls PyProof PyProof.Rows
noncomputable def exO(C:Addr)(dx:Option Addr)(t:Addr):Obj:={cls:=.ref C,dict:=dx,data:=.fields #[.ref t,.none,.none,.none,.bool false,.none]}
noncomputable def exH(e C:Addr)(dx:Option Addr):HO:=.k λh=>∃t,h.get? e=some (exO C dx t)
noncomputable def dcH(d:Addr)(fs:List (Str × V)):HO:=.k λh=>∃mA,h.Ns1 d mA/\(∀f,nh (fs.lookup f) (mA f))/\Ep mA (fs.map (·.1))
section
variable {P:Program}{w:World}{H:Hp}{h:Heap}{e C d t:Addr}{dx:Option Addr}{fs:List (Str × V)}{mA:Str->Option Value}
theorem ll(he:h.get? e=some (exO C dx t)):z6 P w H h e (exH e C dx):=⟨⟨t,he⟩,⟨_,he⟩,λh1 h2 ⟨t,z⟩ k=>⟨t,k _ z⟩⟩
theorem oh(x:z6 P w H h e (exH e C dx)):∃t,h.get? e=some (exO C dx t):=x.1
theorem eK(hn:h.Ns1 d mA)(r:∀f,nh (fs.lookup f) (mA f))(wi:Ep mA (fs.map (·.1))):z6 P w H h d (dcH d fs):=
 ⟨⟨mA,hn,r,wi⟩,(let ⟨o,_,_,e,_⟩:=hn;⟨o,e⟩),λh1 h2 ⟨mA,hn,r,wi⟩ k=>⟨mA,hn.at k,r,wi⟩⟩
theorem eJ(x:z6 P w H h d (dcH d fs)):∃mA,h.Ns1 d mA/\(∀f,nh (fs.lookup f) (mA f))/\Ep mA (fs.map (·.1)):=x.1
end
def v9(h:Heap)(C:Addr)(bm:List Value)(fI:Addr):Prop:=∃(nm q:Str) (N:Addr) (bs:List Value) (sn:List Str) (sub:List Value) (ab:Bool) (col:Option Bool) (dd:Option Addr) (k0 k1 k2 k3 k5:Option Value) (mN:Str->Option Value) (oI:Obj),
 h.get? C=some (AQ nm q C N bs bm true sn sub ab col dd k0 k1 k2 k3 k5 "ValueError.__new__")/\h.Ns N mN/\mN "__init__"=some (.ref fI)/\h.get? fI=some oI/\oI.cls=.type "function"
theorem v9.keeps(x:v9 h C bm fI)(k:∀b o,h.get? b=some o->h'.get? b=some o):v9 h' C bm fI:=by obtain⟨nm,q,N,bs,sn,sub,ab,col,dd,k0,k1,k2,k3,k5,mN,oI,e,n,z,e2,c⟩:=x;exact⟨nm,q,N,bs,sn,sub,ab,col,dd,k0,k1,k2,k3,k5,mN,oI,k _ _ e,n.keeps k,z,k _ _ e2,c⟩
structure GrK(K:Ac)(C D:Addr):Prop where
 sa:findIn K (.ref C) "__setattr__"=some (some (.builtin "object.__setattr__"))
 a:findIn K (.ref C) "many"=some none
 b:findIn K (.ref C) "most"=some none
 sp:specialIn K (.ref D) "__getattribute__"=some (some (.builtin "type.__getattribute__"))
 rd:readsIn K D (.type "type")=true
 fc:findCls K (.ref D) (.type "type") "__init__"=some (.val (.builtin "ValueError.__init__"))
section
variable {prog:Program}{w:World}{A:Around}{E:Value->Shared->Prop}{h:Heap}{g:Array DJ}{d:Drawn}{t:Nat}{os:OsState}
variable {nm q:Str}{C N:Addr}{bs bm:List Value}{hdct:Bool}{sn:List Str}{sub:List Value}{ab:Bool}{col:Option Bool}{dd:Option Addr}{k0 k1 k2 k3 k5:Option Value}{B newId initId:String}
theorem l5(F:yl B newId initId bm)(hC:h.get? C=some (AQ nm q C N bs bm hdct sn sub ab col dd k0 k1 k2 k3 k5 newId))(he:h.get? e=some (exO C dx t0))(hrest:rest.length<=Am)
 (hq:∀h',(∀b o,b≠e->h.get? b=some o->h'.get? b=some o)->h'.get? e=some (exO C dx h.objs.size)->Q .none ⟨h',g,d,t,os⟩):wpAny (model prog w) A (call (.builtin initId) (.ref e::rest)) Q E ⟨h,g,d,t,os⟩:=by
 refine CK (Cg F.init.plain F.initEntry (xO F hC he rfl ?_));unfold exO at he
 wp_walk
 refine hq _ (λb o hb q=>?_) ?_
 . rw[AO _ _ (A5 hb)]
   exact lp _ q
 . rw[BA _ (lp _ he) rfl]
   rfl
end
theorem UG(h:H a=some o):upd H a o=H:=by
 funext b;unfold upd;split
 . rename_i z;rw[z,h]
 . rfl
section
variable {Y:Cx}{C D:Addr}
theorem qp
 (hbase:BY o name env (eval o env)=eval o env)
 (hfew:((backTo pos (Av args env)).all (λx=>!x.1)&&(Gv pos (EO [] env)).all (λx=>x.1.isSome)
  && decide (args.length+([]:List Keyword).length+(if ([]:List Keyword).isEmpty then 0 else 1)<30))=true)
 (hline:(apos.endLine == pos.line)=true)
 (h:wpAny (model prog w) A (eval o env) (λov s₁=>∀pl,wpAny (model prog w) A (getMethod ov name pl) (λfx s₂=>wpAny (model prog w) A (callWith pos fx.1 fx.2 (backTo pos (Av args env)) (Gv pos (EO [] env))) Q E s₂) E s₁) E s) :
 wpAny (model prog w) A (eval (.Call (.Attribute o name apos) args [] pos) env) Q E s:=by
 rw[arm_eval_Call,hbase];refine xd (AD h (λov s₁ h₁=>?_) λ_ _ e=>e);refine xd (A4 ?_);have hform:methodCallForm (args.length+([]:List Keyword).length) (backTo pos (Av args env)) (Gv pos (EO [] env))=true:=hfew;have hpos:methodCallPos true o env apos pos=pure pos:=by unfold methodCallPos;simp[hline]
 unfold methodCall;rw[hform];refine xd (Bx (AD (h₁ _) (λfx s₂ h₂=>?_) λ_ _ e=>e));exact xd (wpAny_of_eq hpos h₂)
def b9(C:Addr)(ta:TA):TE:=λσ H Q=>ta σ H λvs H1=>∃e dx z,vs=[.c e,.e z]/\H1 e=some (exH e C dx)/\Q .g H1
theorem bB{K}(G:GrK K C D)(sub:∀a o,K.lookup a=some o->Y.K.lookup a=some o)(hg:Gl Y hx)(hm:Y.d hx=some (.ref D))(hdb:(hx == ("__debug__":Str))=false)(ha:PA Y [e1,e2] ta)(cC:v9 Y.g C (.ref D::veM) fI)
 (hst:Av [e1,e2] Y.a=(false,eval e1 Y.a)::Av [e2] Y.a:=by rfl) (hpl:(backTo cp (Av [e2] Y.a)).any (·.1)=false:=by rfl)
 (hline:(ap.endLine == cp.line)=true) (hbase:BY (.Name hx np) "__init__" Y.a (eval (.Name hx np) Y.a)=eval (.Name hx np) Y.a:=by rfl)
 (hfew:((backTo cp (Av [e1,e2] Y.a)).all (λx=>!x.1)&&(Gv cp (EO [] Y.a)).all (λx=>x.1.isSome)&&decide ([e1,e2].length+([]:List Keyword).length+(if ([]:List Keyword).isEmpty then 0 else 1)<30))=true:=by rfl) :
 PE Y (.Call (.Attribute (.Name hx np) "__init__" ap) [e1,e2] [] cp) (b9 C ta):=by
 intro pins s σ H Q I h;have KI:K.In s.heap:=λa o e=>I.kIn a o (sub a o e);refine qp hbase hfew hline (xG I hg hm (λpl=>?_) hdb);refine PySem.W.method_cls KI G.sp (PySem.W.cls_value KI G.rd G.fc rfl ?_);have hA:=ha cp pins {s with toks:=s.toks+1} σ H _ (I.tok _) h
 rw[hst]at hA ⊢;refine Calls.callWith_builtin (by show (false||(backTo cp (Av [e2] Y.a)).any (·.1))=false;rw[hpl];rfl) (Dp ?_)
 refine thn hA λus s2 ⟨vs,H2,I2,r2,e,dx,z,hvs,he,q⟩=>?_;subst hvs;obtain⟨u1,us1,rfl,ru1,r3⟩:∃u1 us1,us=u1::us1/\RelV (.c e) u1/\Vals [.e z] us1:=by cases r2 with|cons a b=>exact⟨_,_,rfl,a,b⟩
 cases ru1;obtain⟨t0,he2⟩:=oh (I2.B e _ he);obtain⟨nm,q',N,bs,sn,sub',ab,col,dd,k0,k1,k2,k3,k5,mN,oI,hC,_⟩:=cC.keeps I2.bk;obtain⟨h2,g2,d2,t2,os2⟩:=s2;refine l5 (BZ.two D) hC he2 (by rw[<-r3.length];show 1<=Am;rw[AK];decide) λh' k he'=>⟨.g,H2,?_,rfl,q⟩
 have:=I2.write (x:=e) (e:=e) (o:=exH e C dx) (t':=t2) (by rw[he];exact AZ) (.inl rfl) (λb u hb z=>k b u hb z) ⟨_,he'⟩ (ll he')
 rwa [UG he]at this
def Vr(C:Addr)(ta tv:TE)(f:Str):TS:=λD σ H=>tv σ H λy H1=>ta σ H1 λx H2=>∃e,x=.c e /\
 ((H2 e=some (exH e C none)/\∀d,H2 d=none->d≠e->D.a σ (upd (upd H2 d (dcH d [(f,y)])) e (exH e C (some d)))) \/
  ∃d fs,H2 e=some (exH e C (some d))/\H2 d=some (dcH d fs)/\d≠e/\fs.length<1000/\D.a σ (upd H2 d (dcH d (sQ f y fs))))
theorem bp{K}(G:GrK K C D)(sub:∀a o,K.lookup a=some o->Y.K.lookup a=some o)(cC:v9 Y.g C (.ref D::veM) fI)
 (hna:findIn K (.ref C) f=some none) (I:Inv Y pins σ H s) (he:H e=some (exH e C none)) (ry:RelV y u) (h:∀d s',H d=none->d≠e->Inv Y pins σ (upd (upd H d (dcH d [(f,y)])) e (exH e C (some d))) s'->Q () s'):wpAny (model Y.f Y.w) A (setAttr (.ref e) f u) Q E s:=by
 have KI:K.In s.heap:=λa o z=>I.kIn a o (sub a o z);obtain⟨t0,he2⟩:=oh (I.B e _ he);obtain⟨nm,q',N,bs,sn,sub',ab,col,dd,k0,k1,k2,k3,k5,mN,oI,hC,_⟩:=cC.keeps I.bk;have hxC:e≠C:=λz=>by subst z;rw[he2]at hC;cases hC
 obtain⟨hp,g2,d2,t2,os2⟩:=s;refine sx (x:=e) (mA:=λ_=>none) (ns:=[]) (FW.two D) hC KI G.sa hna hxC ⟨_,he2,rfl,λc z=>(by cases z),.inl ⟨rfl,λ_=>rfl⟩⟩ (λh' tk' I' keep same=>?_) (λn hn=>absurd rfl hn) (B9 _)
 obtain⟨o1,e1,c1,c2,c3,_,c5⟩:=same _ he2;have hdx:=c5 rfl;have lt:=Aj he2;have hobj:o1=exO C (some hp.objs.size) t0:=by obtain⟨oc,od,odt,osl⟩:=o1;simp only at c1 c2 c3 hdx;subst c1 c2 c3 hdx;rfl
 subst hobj;obtain⟨o2,e2,_,_,hd2⟩:=I';rw[e1]at e2;cases e2;rcases hd2 with⟨z,_⟩|⟨dx,z,ne,hns⟩
 . cases z
 . have hz:dx=hp.objs.size:=by cases z;rfl
   subst hz;obtain⟨od,es,ep,eo,rest⟩:=id hns;have ne':hp.objs.size≠e:=λz=>Bc _ (z▸lt);refine h hp.objs.size _ (I.B.fresh (Ah _)) ne' ?_;have hfr:od.isFreed=false:=(Heap.get?_some_iff.mp eo).2;have n1:(hp.push od).get? hp.objs.size=some od:=Az hp hfr;have I1:=I.laid (h':=hp.push od) (a:=hp.objs.size) (o:=dcH hp.objs.size [(f,y)]) (t':=t2) (λb v q=>lp _ q) (Ah _) (eK (mA:=λz=>if z=f then some u else none) ⟨od,es,ep,n1,rest⟩ (λg=>?_) λg hg=>?_)
   . refine I1.write (x:=e) (e:=e) (o:=exH e C (some hp.objs.size)) (t':=tk') (by rw[zJ (A5 ne'),he];exact AZ) (.inl rfl) (λb v hb q=>?_) ⟨_,e1⟩ (ll e1)
     by_cases hbd:b=hp.objs.size
     . subst hbd
       have q':(hp.push od).get? hp.objs.size=some v:=q;rw[n1]at q';cases q';exact eo
     . refine keep b v hb (λo₀ dx h0 hd0=>?_) ?_
       . rw[show (⟨hp,g2,d2,t2,os2⟩:Shared).heap=hp from rfl]at he2
         have h0':hp.get? e=some o₀:=h0;rw[he2]at h0';cases h0';cases hd0
       . rcases Heap.get?_push_cases (show (hp.push od).get? b=some v from q) with⟨z,_⟩|z
         . exact absurd z hbd
         . exact z
   . show nh (([(f,y)]:List (Str × V)).lookup g) (if g=f then some u else none)
     by_cases q:g=f
     . subst q;rw[if_pos rfl];simp only[Ak,beq_self_eq_true];exact ry
     . rw[if_neg q]
       have:(g == f)=false:=by simpa using q
       simp only[Ak,this,List.lookup_nil];exact AZ
   . by_cases q:g=f
     . subst q;exact .head _
     . exact absurd (if_neg q) hg
theorem fA{K}(G:GrK K C D)(sub:∀a o,K.lookup a=some o->Y.K.lookup a=some o)(cC:v9 Y.g C (.ref D::veM) fI)
 (hna:findIn K (.ref C) f=some none) (I:Inv Y pins σ H s) (he:H e=some (exH e C (some d))) (hd:H d=some (dcH d fs)) (hde:d≠e) (hl:fs.length<1000) (ry:RelV y u) (h:∀s',Inv Y pins σ (upd H d (dcH d (sQ f y fs))) s'->Q () s'):wpAny (model Y.f Y.w) A (setAttr (.ref e) f u) Q E s:=by
 have KI:K.In s.heap:=λa o z=>I.kIn a o (sub a o z);obtain⟨t0,he2⟩:=oh (I.B e _ he);obtain⟨mA,hns,r,wi⟩:=eJ (I.B d _ hd);obtain⟨nm,q',N,bs,sn,sub',ab,col,dd,k0,k1,k2,k3,k5,mN,oI,hC,_⟩:=cC.keeps I.bk;have hxC:e≠C:=λz=>by subst z;rw[he2]at hC;cases hC
 obtain⟨hp,g2,d2,t2,os2⟩:=s;refine sx (x:=e) (mA:=mA) (ns:=fs.map (·.1)) (FW.two D) hC KI G.sa hna hxC ⟨_,he2,rfl,λc z=>(by cases z),.inr ⟨d,rfl,hde,hns⟩⟩ (λh' tk' I' keep same=>?_) wi (by rw[Ae,AK];omega)
 obtain⟨o1,e1,c1,c2,c3,c4,_⟩:=same _ he2;have hdx:=c4 d rfl;have hobj:o1=exO C (some d) t0:=by obtain⟨oc,od,odt,osl⟩:=o1;simp only at c1 c2 c3 hdx;subst c1 c2 c3 hdx;rfl
 subst hobj;obtain⟨o2,e2,_,_,hd2⟩:=I';rw[e1]at e2;cases e2;rcases hd2 with⟨z,_⟩|⟨dx,z,ne,hns'⟩
 . cases z
 . have hz:dx=d:=by cases z;rfl
   subst hz;refine h _ (I.write (x:=dx) (e:=dx) (t':=tk') (by rw[hd];exact AZ) (.inl rfl) (λb v hb q=>?_) (let ⟨o,_,_,z,_⟩:=hns';⟨o,z⟩) (eK hns' (λg=>?_) λg hg=>?_))
   . by_cases hbe:b=e
     . subst hbe
       have q':hp.get? b=some v:=q;have he2':hp.get? b=some (exO C (some dx) t0):=he2;rw[he2']at q';cases q';exact e1
     . refine keep b v hbe (λo₀ dx' h0 hd0=>?_) q
       have h0':hp.get? e=some o₀:=h0;have he2':hp.get? e=some (exO C (some dx) t0):=he2;rw[he2']at h0';cases h0';cases hd0;exact hb
   . show nh ((sQ f y fs).lookup g) (if g=f then some u else mA g)
     rw[sk];by_cases q:g=f
     . rw[if_pos q,if_pos q];exact ry
     . rw[if_neg q,if_neg q];exact r g
   . by_cases q:g=f
     . rw[q];exact(sI f y fs).1
     . refine(sI f y fs).2 g (wi g λz=>hg ?_)
       show (if g=f then some u else mA g)=none
       rw[if_neg q];exact z
theorem bN{K}(G:GrK K C D)(sub:∀a o,K.lookup a=some o->Y.K.lookup a=some o)(cC:v9 Y.g C (.ref D::veM) fI)(hna:findIn K (.ref C) f=some none)(ho:PE Y eo ta)(hv:PE Y ev tv)
 (hs:Ei ev (some (.Attribute eo f ap)) pos.line Y.a=pure false:=by rfl):PS Y (.Assign [.Attribute eo f ap] ev pos) (Vr C ta tv f):=by
 intro pins s σ H D' I h;refine plainObj_wpAny_Assign_Attribute (thn (hv pins s σ H _ I h) λu s1 ⟨y,H1,I1,ry,q1⟩=>?_) hs;refine thn (ho pins s1 σ H1 _ I1 q1) λov s2 ⟨x,H2,I2,rx,e,ex,q2⟩=>?_;subst ex;obtain rfl:ov=AF e:=rx;rcases q2 with⟨he,q2⟩|⟨d,fs,he,hd,hde,hl,q2⟩
 . exact bp G sub cC hna I2 he ry λd s' hd hne I3=>⟨σ,_,I3,q2 d hd hne⟩
 . exact fA G sub cC hna I2 he hd hde hl ry λs' I3=>⟨σ,_,I3,q2⟩
end
end L2
end
section
namespace L2
open PySem PySem.W PySem.Spec PySem.Calls PyProof PyProof.Rows
section
variable {X:Cx}
theorem VZ(ha:PE X a ta)(hb:PE X b tb)(h2:c2.length<=1000) :
 PE X (.JoinedStr [.FormattedValue a (-1) none p2,.Constant (.str c2) k2 p3,.FormattedValue b (-1) none p4] pos) (tFs ta tb):=by
 intro pins s σ H Q I h;refine JoinedStr_many (Cm (Ds ?_));refine thn (ha pins _ σ H _ I h) λu s1 ⟨x,H1,I1,r1,i,e1,hi,q1⟩=>?_;subst e1;obtain⟨t1,rfl⟩:=r1;have l1:=v8 hi;refine Dl (Ar (wm hi) (by decide)) ⟨?_,Cm (C6 ⟨?_,Cm (Ds ?_)⟩)⟩
 . rw[AH,AK,show CN.length=0 from rfl];omega
 . rw[AH,AH,AK,show CN.length=0 from rfl];omega
 refine thn (hb pins _ σ H1 _ (I1.tok _) q1) λu2 s2 ⟨y,H2,I2,r2,j,e2,hj,q2⟩=>?_;subst e2;obtain⟨t2,rfl⟩:=r2;have l2:=v8 hj;refine Dl (Ar (wm hj) (by decide)) ⟨?_,joinParts_nil ⟨.e _,H2,I2.tok _,⟨_,rfl⟩,q2 _⟩ ?_⟩
 . rw[AH,AH,AH,AK,show CN.length=0 from rfl];omega
 . rw[AH,AH,AH,AK,show CN.length=0 from rfl];omega
end
def fN(body:List Stmt):Prop:=∃(z:Str) (p1 p2 p3 p4 p5 p6 p7 p8 p9 pa pb q1 q2 q3 q4 r1 r2 r3 r4:Pos) (k:Nat),z.length<=1000/\body =
 [.Expr (.Call (.Attribute (.Name "HueError" p1) "__init__" p2) [.Name "self" p3,.JoinedStr [.FormattedValue (.Name "many" p4) (-1) none p5,.Constant (.str z) k p6,.FormattedValue (.Name "most" p7) (-1) none p8] p9] [] pa) pb,
  .Assign [.Attribute (.Name "self" q1) "many" q2] (.Name "many" q3) q4,.Assign [.Attribute (.Name "self" r1) "most" r2] (.Name "most" r3) r4]/\(p2.endLine == pa.line)=true
noncomputable def inN:List Str:=["self","many","most"]
def grF(a b:Int):List (Str × V):=sQ "most" (.d b) [("many",.d a)]
def spI(C:Addr):Sp:=λvs H Q _=>∃e a b,vs=[.c e,.d a,.d b]/\a.natAbs<2 ^ 64/\b.natAbs<2 ^ 64/\H e=some (exH e C none) /\
 ∀d,H d=none->d≠e->Q .g (upd (upd (upd H d (dcH d [("many",.d a)])) e (exH e C (some d))) d (dcH d (grF a b)))
structure lP(K:Ac)(mg:Str->Option Value)(D f:Addr)(fd:Bn):Prop where
 ex:∃(x qual:Str) (st:Stmt),Fun K x qual st f fd/\xa inN inN (zC st)/\Binds K fd inN []/\fN (zw st) /\
  (zC st).names.lookup ("self":Str)=some .local/\(zC st).names.lookup ("many":Str)=some .local/\(zC st).names.lookup ("most":Str)=some .local/\(zC st).names.lookup ("HueError":Str)=some .globalImplicit
 hu:mg "HueError"=some (.ref D)
theorem dI{K Kc}(S:lP K mg D f fd)(G:GrK Kc C D)(sub:∀a o,Kc.lookup a=some o->K.lookup a=some o)(cC:v9 base C (.ref D::veM) f)
 (hh:A.handled=none) (hdp:A.depth<B4) (e0:rB P w K mg base A outer s H) (hbt:BindsTo s fd ⟨us,[]⟩ (inN.zip us)) (r:Vals vs us) (hsp:spI C vs H Q E0):codeAny (model P w) A (.call (.ref f) ⟨us,[]⟩) (CR CX0 outer P w H s Q E0) s:=by
 obtain⟨x,qual,st,F,Sc,hb,⟨z,p1,p2,p3,p4,p5,p6,p7,p8,p9,pa,pb,q1,q2,q3,q4,r1,r2,r3,r4,kk,hz,hbd,hln⟩,l0,l1,l2,lg⟩:=S.ex;obtain⟨oc,od,kV,doc,pm,an,cdv,ct,osl,rfl,lk,hcd⟩:=F.a;obtain⟨e,a,b,hvs,ha,hb',he,q⟩:=hsp;subst hvs;refine ui (CX:=CX0) (E:=E0) (R:=CR CX0 outer P w H s Q E0) (N:=inN) (vs:=[.c e,.d a,.d b]) lk hcd Sc hdp e0 hbt rfl r λs1 I1 _=>?_;rw[vT hh]at I1;have v0:∀{p:Pos},PE (yA CX0 P w K mg base inN qual (zC st) f cdv A outer s H E0) (.Name "self" p) (xm 0):=λ{p}=>xt rfl (.inl l0) (by decide) (by decide)
 have v1:∀{p:Pos},PE (yA CX0 P w K mg base inN qual (zC st) f cdv A outer s H E0) (.Name "many" p) (xm 1):=λ{p}=>xt rfl (.inl l1) (by decide) (by decide)
 have v2:∀{p:Pos},PE (yA CX0 P w K mg base inN qual (zC st) f cdv A outer s H E0) (.Name "most" p) (xm 2):=λ{p}=>xt rfl (.inl l2) (by decide) (by decide)
 have ht:PSs (yA CX0 P w K mg base inN qual (zC st) f cdv A outer s H E0) (zw st) (q0 (Xf (b9 C (xM (xm 0) (xM (tFs (xm 1) (xm 2)) tK)))) (q0 (Vr C (xm 0) (xm 1) "many") (Vr C (xm 0) (xm 2) "most"))):=by rw[hbd];exact yJ (uw (bB G sub lg S.hu (by decide) (yE v0 (yE (VZ v1 v2 hz) yk)) cC (hline:=hln))) (yJ (bN G sub cC G.a v0 v1) (xf (bN G sub cC G.b v0 v2)))
 unfold nZ;refine AD (ht [] s1 (start inN [.c e,.d a,.d b]) H {a:=λ_ H'=>Q .g H',b:=Q} I1 ?_) (λfl s' hs=>?_) λe s' z=>z
 . refine⟨_,rfl,_,rfl,a,rfl,ha,_,rfl,b,rfl,hb',λzz=>⟨e,none,zz,rfl,he,?_⟩⟩
   refine⟨_,rfl,_,rfl,e,rfl,.inl ⟨he,λd hd hde=>?_⟩⟩;exact⟨_,rfl,_,rfl,e,rfl,.inr ⟨d,[("many",.d a)],zL,by rw[zJ hde,zL],hde,(by show 1<1000;decide),q d hd hde⟩⟩
 . cases fl with
   |ret u=>
    obtain⟨v,σ',H',J,rv,q'⟩:=hs;exact⟨v,H',J.P,J.D,J.j,J.B,rv,q'⟩
   |next=>
    obtain⟨σ',H',J,q'⟩:=hs;exact⟨.g,H',J.P,J.D,J.j,J.B,rfl,q'⟩
   |brk=>obtain⟨_,_,_,z⟩:=hs;exact Al z
   |cont=>obtain⟨_,_,_,z⟩:=hs;exact Al z
end L2
end
section
namespace L2
open PySem PySem.W PySem.Spec PySem.Calls PyProof PyProof.Rows
section
variable {X:Cx}{pins:List (Addr × Obj)}{σ:St}{H H':Hp}{s:Shared}
theorem Inv.re(I:Inv X pins σ H s)(h0:∀b,H b=none->H' b=none)(h1:∀b u,H b=some u->(∀φ,u≠.k φ)->H' b=some u)(hok:HOk X.f X.w H' s.heap):Inv X pins σ H' s:=by
 refine⟨I.C,I.P,I.D,⟨I.j.f,I.j.i,λb o e n hx=>h0 b (I.j.d b o e n hx),I.j.c,λb xs e=>h1 b _ (I.j.l b xs e) nofun,λb o u e=>h1 b _ (I.j.g b o u e) nofun,λb ps e=>?_⟩,I.M,I.G,h0 _ I.J,λx c e=>h0 _ (I.F x c e),λp hp=>?_,hok,I.R⟩
 . obtain⟨more,q⟩:=I.j.j b ps e
   exact⟨more,h1 b _ q nofun⟩
 . obtain⟨a,b,c⟩:=I.O p hp
   exact⟨a,h0 _ b,c⟩
end
def XRG(X:Cx)(C d:Addr)(H:Hp):Prop:=∀(pins:List (Addr × Obj)) (σ:St) (s:Shared),Inv X pins σ H s->∀(h1:Heap) (e t:Addr),(∀b o,s.heap.get? b=some o->h1.get? b=some o)->s.heap.get? e=none->h1.get? e=some (exO C (some d) t)->X.i (.ref e) {s with heap:=h1}
def Yh(X:Cx)(C:Addr)(t:TA):TS:=λ_ σ H=>t σ H λvs H1=>∃a b:Int,vs=[.d a,.d b]/\a.natAbs<2 ^ 64/\b.natAbs<2 ^ 64/\∀d,H1 d=none->XRG X C d (upd H1 d (.j (grF a b)))
section
variable {X:Cx}
theorem gu(hr:y9 k X.A)(hg:Gl X x)(hm:X.d x=some (.ref C))(cC:v9 X.g C (.ref D::veM) f)(S:lP X.K X.d D f fd)(G:GrK Kc C D)(sub:∀a o,Kc.lookup a=some o->X.K.lookup a=some o)(hb:Binds X.K fd inN [])(ha:PA X [e1,e2] t)
 (hdb:(x == ("__debug__":Str))=false) (he:Av [e1,e2] X.a=(false,eval e1 X.a)::Av [e2] X.a) (hpl:(backTo cpos (Av [e2] X.a)).any (·.1)=false):PS X (.Raise (some (.Call (.Name x np) [e1,e2] [] cpos)) none pos) (Yh X C t):=by
 intro pins s σ H D' I h;have cC0:=cC;obtain⟨nm,q,N,bs,sn,sub',ab,col,dd,k0,k1,k2,k3,k5,mN,oI,hC,hN,hi,hfI,hfc⟩:=cC;refine tP (C:=C) (nm:=nm) (q:=q) (N:=N) (bs:=bs) (bm:=.ref D::veM) (hdct:=true) (sn:=sn) (sub:=sub') (ab:=ab) (col:=col) (dd:=dd) (k0:=k0) (k1:=k1) (k2:=k2) (k3:=k3) (k5:=k5) (newId:="ValueError.__new__") (BZ.two D).a hr.a ?_ (xG I hg hm ⟨rfl,?_⟩ hdb)
 . rw[he];exact hpl
 . rw[he]
   refine Dp ?_;have q:=ha cpos pins s σ H _ I h;rw[he]at q;refine AD q (λus s1 hq=>?_) λ_ _ z=>z;obtain⟨vs,H1,I1,r,a,b,hvs,sa,sb,hx⟩:=hq;subst hvs;have hC1:=I1.bk _ _ hC;refine⟨rfl,hC1,?_⟩;have hul:us.length=2:=r.length.symm;obtain⟨h1,g1,d1,t1,os1⟩:=s1;refine vn (BZ.two D) hC1 (hN.keeps I1.bk) hi (I1.bk _ _ hfI) hfc (λh' e m hz=>?_) (by show us.length<=Am;rw[hul,AK];decide)
   obtain⟨t0,he0,_,_⟩:=m.there;have I2:=I1.laid (h':=h') (a:=e) (o:=exH e C none) (t':=t1) m.keeps hz (ll (t:=t0) he0);have hHe:H1 e=none:=I1.B.fresh hz;have r2:Vals (V.c e::[V.d a,V.d b]) (AF e::us):=.cons rfl r;have hsp:spI C (V.c e::[V.d a,V.d b]) (upd H1 e (exH e C none)) (λv H2=>v=.g/\∃d,H1 d=none/\d≠e/\H2=upd (upd (upd (upd H1 e (exH e C none)) d (dcH d [("many",.d a)])) e (exH e C (some d))) d (dcH d (grF a b))) E0:=
    ⟨e,a,b,rfl,sa,sb,zL,λd hd hde=>⟨rfl,d,by rw[zJ hde]at hd;exact hd,hde,rfl⟩⟩
   have hbt:=hb ⟨h',g1,d1,t1,os1⟩ (AF e::us) I2.kIn (by rw[A9,AL,hul];rfl)
   rw[A9]at hbt;refine CK (Ct (dI S G sub cC0 (show (X.A.under (.builtin "type.__call__" ⟨.ref C::us,[]⟩)).handled=none from hr.a) (by have:=hr.b;rw[kJ];omega) (I2.wN.make C us []) hbt r2 hsp) λrr s' hq'=>?_)
   cases rr with
   |error z=>exact Al hq'
   |ok fl=>
    cases fl with
    |ret u=>
     obtain⟨v,H',I3,rv,ev,d,hd,hde,hH⟩:=I2.after hq';subst ev;subst hH;obtain rfl:u=A8:=rv;refine⟨rfl,e,?_⟩;obtain⟨t3,he3⟩:=oh (I3.B e _ (by rw[zJ (A5 hde),zL]))
     obtain⟨mA,hns,hrel,_⟩:=eJ (I3.B d _ zL);refine⟨t3,some d,rfl,I3.bk _ _ hC,he3,?_⟩
     -- the dict is known as such,the exception itself no more
     have hne:∀c,c≠e->c≠d->upd (upd (upd (upd H1 e (exH e C none)) d (dcH d [("many",.d a)])) e (exH e C (some d))) d (dcH d (grF a b)) c=H1 c:=λc z1 z2=>by rw[zJ z2,zJ z1,zJ z2,zJ z1]
     have hse:upd (upd (upd (upd H1 e (exH e C none)) d (dcH d [("many",.d a)])) e (exH e C (some d))) d (dcH d (grF a b)) e=some (exH e C (some d)):=by rw[zJ (A5 hde),zL]
     have hsd:upd (upd (upd (upd H1 e (exH e C none)) d (dcH d [("many",.d a)])) e (exH e C (some d))) d (dcH d (grF a b)) d=some (dcH d (grF a b)):=zL;generalize upd (upd (upd (upd H1 e (exH e C none)) d (dcH d [("many",.d a)])) e (exH e C (some d))) d (dcH d (grF a b))=H3 at I3 hne hse hsd;have sm:∀c u,H3 c=some u->(∀φ,u≠.k φ)->upd H1 d (.j (grF a b)) c=some u:=λc u z nx=>by
      have c1:c≠e:=λy=>by rw[y,hse]at z;cases z;exact nx _ rfl
      have c2:c≠d:=λy=>by rw[y,hsd]at z;cases z;exact nx _ rfl
      rw[zJ c2,<-hne c c1 c2];exact z
     have I4:=I3.re (H':=upd H1 d (.j (grF a b))) (λc z=>?_) sm λc u z=>?_
     . have I5:=I4.turned (it:=e) (h':=hideAll s'.heap [e]) (t':=s'.toks) (λc o z y=>hideAll_get _ y (by simpa using z)) (by rw[zJ (A5 hde)];exact hHe) (λz=>by have:=I3.J;rw[<-z,hse]at this;cases this) (.inr (Ay I1.sz hz)) (λx c z y=>by have:=I3.F x c z;rw[y,hse]at this;cases this) λp hp z=>by have:=(I3.O p hp).2.1;rw[z,hse]at this;cases this
       exact hx d hd pins σ _ I5 s'.heap e t3 (λc o z=>of_hideAll _ z) (hideAll_none _ (.head _)) he3
     . have c1:c≠e:=λy=>by rw[y,hse]at z;cases z
       have c2:c≠d:=λy=>by rw[y,hsd]at z;cases z
       rw[zJ c2,<-hne c c1 c2];exact z
     . by_cases c2:c=d
       . subst c2
         rw[zL]at z;cases z;exact⟨mA,hns,hrel⟩
       . rw[zJ c2]at z
         have c1:c≠e:=λy=>by rw[y,hHe]at z;cases z
         exact(I3.B c u (by rw[hne c c1 c2];exact z)).qy (λ_ _ _ y=>y) (λc' y=>sm c' _ y nofun) λc' xs y=>sm c' _ y nofun
    |next=>exact Al hq'
    |brk=>exact Al hq'
    |cont=>exact Al hq'
end
theorem aY{K}
 (hE:E (.ref C) (some d) H):XRG (yA (CXE P w) P w K mg base N qual scope f cd A outer s₀ H₀ E) C d H:=λ_ _ _ I _ _ _ k n he=>qc I k n he rfl rfl hE
end L2
end
section
namespace L2
open PySem PySem.W PySem.Spec PyProof PyProof.Rows
section
variable {P:Program}{w:World}{K:Ac}{mg:Str->Option Value}{base:Heap}{A:Around}{outer:List Env}{s₀:Shared}{H₀:Hp}{E:XK}
theorem vD:Passes (CXE P w) (ud (CXE P w) P w K mg base N qual scope f cd cl A outer s₀ H₀ E) E:=by
 rintro pins σ H s e s' I ⟨a,cls,dd,H',rfl,fl,hE⟩;obtain⟨g,B,u,hk,cov,fr,fly⟩:=fl.h;show wpAny _ _ _ _ _ _;have I1:Inv (ud (CXE P w) P w K mg base N qual scope f cd cl A outer s₀ H₀ E) pins σ H' {s with heap:=g}:=I.call (g':=s.gens) (t':=s.toks) (d':=s.drawn) (ch:=[]) u hk I.D λb z=>absurd z (by simp)
 have hL:∀b,(b<s₀.heap.objs.size\/H' b≠none)->b≠s₀.heap.objs.size:=λb hb z=>by
  subst z;rcases hb with hb|hb
  . exact Bc _ hb
  . exact hb I1.J
 have hmem:∀b,b∈frs outer->b∈frs (envX qual scope s₀.heap.objs.size f cd cl::outer):=λb hb=>Af _ hb;refine wo (base:=B) (env:=envX qual scope s₀.heap.objs.size f cd cl) (outer:=outer) (L:=s₀.heap.objs.size) I.C.g rfl fly λh' x1 x2=>?_;refine⟨a,cls,dd,H',rfl,⟨fl.j.trans I.P,fl.d,λb hb=>fl.i b (hmem b hb),g,B,I1.j,hk,λb o e n hb=>?_,λb o e hb=>?_,x1⟩,hE⟩
 . refine cov b o e (λhm=>?_) ?_
   . rcases An.mp (show b∈s₀.heap.objs.size::frs outer from hm) with z|z
     . exact hL b hb z
     . exact n z
   . rcases hb with hb|hb
     . exact .inl (Ar hb I.sz)
     . exact .inr hb
 . obtain⟨sl,e1⟩:=fr b o e (hmem b hb)
   obtain⟨_,o',e2,hd⟩:=fly.2.2.1.mem (hmem b hb);rw[e1]at e2;cases e2;obtain⟨sl',e3⟩:=x2 b _ e1 hd;exact⟨sl',e3⟩
end
section
variable {X:Cx}{pins:List (Addr × Obj)}{σ:St}{H H':Hp}{s s':Shared}{a:Addr}{cls:Value}{dd:Option Addr}
theorem Inv.Y7(I:Inv X pins σ H s)(f:uS X.f X.w X.h H s H' a cls dd s'):Inv X pins σ H' s':=by obtain⟨u,hk⟩:=f.un;obtain⟨hh,g,d,t,os⟩:=s';obtain rfl:os=s.os:=f.j;exact I.call (h':=hh) (g':=g) (d':=d) (t':=t) (ch:=[]) u hk f.d λb z=>absurd z (by simp)
theorem uS.obj(f:uS X.f X.w X.h H s H' a cls dd s')(I:Inv X pins σ H s):∃oe,s'.heap.get? a=some oe/\oe.cls=cls/\H' a=none/\s.heap.get? a=none/\(∃vs,oe.data=.fields vs)/\oe.dict=dd:=by
 obtain⟨g,B,u,hk,cov,fr,fly⟩:=f.h;obtain⟨f1,f2,f3,oe,vs,_,_,_,he,hc,hd,_⟩:=id fly;have nfr:a ∉ frs X.h:=λhm=>by obtain⟨_,o',e2,hd'⟩:=f3.mem hm;rw[he]at e2;cases e2;exact hd' vs hd
 refine⟨oe,he,hc.1,?_,?_,⟨vs,hd⟩,hc.2⟩
 . cases q:H' a with
   |none=>rfl
   |some o=>
    have ht:=(hk a o q);have:∃ob,g.get? a=some ob:=by
     have hlt:=ht.lt;cases qg:g.get? a with
     |some ob=>exact⟨ob,rfl⟩
     |none=>
      exfalso;cases o with
      |b xs=>obtain⟨_,_,_,_,e⟩:=ht;rw[qg]at e;cases e
      |c xs=>obtain⟨_,_,_,ob,e,_⟩:=ht;rw[qg]at e;cases e
      |i kvs=>obtain⟨_,_,_,_,ob,_,_,e,_⟩:=ht;rw[qg]at e;cases e
      |l kvs=>obtain⟨_,_,_,_,ob,_,_,e,_⟩:=ht;rw[qg]at e;cases e
      |p S n=>obtain⟨ob,_,_,_,e,_⟩:=ht;rw[qg]at e;cases e
      |m C dx fs=>obtain⟨_,_,_,e,_⟩:=ht;rw[qg]at e;cases e
      |d y=>obtain⟨_,e⟩:=ht;rw[qg]at e;cases e
      |j fs=>obtain⟨_,⟨_,_,_,e,_⟩,_⟩:=ht;rw[qg]at e;cases e
      |r lo hi=>obtain⟨_,_,_,e⟩:=ht;rw[qg]at e;cases e
      |e ob u=>obtain⟨e,_⟩:=ht;rw[qg]at e;cases e
      |g ps=>have e:g.get? a=some _:=ht;rw[qg]at e;cases e
      |q f y=>have e:g.get? a=some _:=ht;rw[qg]at e;cases e
      |k φ=>obtain⟨_,⟨_,e⟩,_⟩:=ht;rw[qg]at e;cases e
    obtain⟨ob,e⟩:=this;rw[cov a ob e nfr (.inr (by rw[q];exact nofun))]at f2
    cases f2
 . cases q:s.heap.get? a with
   |none=>rfl
   |some o=>
    obtain⟨o',e⟩:=u.c a o q (by simp)
    rw[cov a o' e nfr (.inl (Aj q))]at f2;cases f2
theorem Inv.adopt(I:Inv X [] σ H s)(hn:H a=none)(he:s.heap.get? a=some oe)(hd:oe.data=.fields vs)(h0:X.l.heap.get? a=none)(hpn:X.n=[]):Inv X [] σ (upd H a (.e oe (.d 0))) s:=by
 have ne:∀b,H b≠none->b≠a:=λb n z=>n (by rw[z];exact hn)
 have nL:X.a.locals≠a:=λz=>by obtain⟨m,⟨o,es,ep,e,d,_⟩,_⟩:=I.M;rw[z,he]at e;cases e;rw[hd]at d;cases d
 have nC:∀x c,X.a.cells.lookup x=some c->c≠a:=λx c e z=>by obtain⟨v,o,e2,d⟩:=I.G x c e;rw[z,he]at e2;cases e2;rw[hd]at d;cases d
 have ob:∀b u,H b=some u->upd H a (.e oe (.d 0)) b=some u:=λb u e=>by rw[zJ (ne b (by rw[e];exact nofun))];exact e
 refine⟨I.C,I.P,I.D,⟨I.j.f,I.j.i,λb o e n hx=>?_,I.j.c,λb xs e=>ob _ _ (I.j.l b xs e),λb o u e=>ob _ _ (I.j.g b o u e),λb ps e=>?_⟩,I.M,I.G,?_,λx c e=>?_,λp hp=>?_,λb u e=>?_,I.R⟩
 . rw[zJ (λz=>by rw[z,h0]at e;cases e)];exact I.j.d b o e n hx
 . obtain⟨more,q⟩:=I.j.j b ps e
   exact⟨more,ob _ _ q⟩
 . rw[zJ nL];exact I.J
 . rw[zJ (nC x c e)];exact I.F x c e
 . rw[hpn]at hp;cases hp
 . by_cases z:b=a
   . subst z
     rw[zL]at e;cases e;exact⟨he,oe,he⟩
   . rw[zJ z]at e
     exact(I.B b u e).qy (λ_ _ _ q=>q) (λc q=>ob _ _ q) λc xs q=>ob _ _ q
theorem Inv.gone(I:Inv X [] σ H s)(hn:h'.Ns X.a.locals m')(hs:Heap.SameBut X.a.locals s.heap h')(hpn:X.n=[]):Inv X [] (Ao X.N.length none) H {s with heap:=h',toks:=tk}:=by
 have neL:∀b o,X.l.heap.get? b=some o->b≠X.a.locals:=λb o e=>AG (Ar (Aj e) I.C.d);refine⟨I.C,I.P,I.D,⟨λb o e n hb hx=>?_,λb o e n hb hx=>?_,I.j.d,λb o e hx=>?_,I.j.l,I.j.g,I.j.j⟩,⟨m',hn,λi x v e1 e2 e3=>?_⟩,λy c e=>?_,I.J,I.F,λp hp=>?_,λb u e=>?_,by simp⟩
 . exact(hs.2 b (neL b o e)).trans (I.j.f b o e n hb hx)
 . obtain⟨sl,e1⟩:=I.j.i b o e n hb hx
   exact⟨sl,(hs.2 b (neL b o e)).trans e1⟩
 . obtain⟨o',e1⟩:=I.j.c b o e hx
   exact⟨o',(hs.2 b (neL b o e)).trans e1⟩
 . rw[DT]at e2
   split at e2<;>cases e2
 . obtain⟨v,z⟩:=I.G y c e
   exact⟨v,z.sameBut hs (I.cne y c e)⟩
 . rw[hpn]at hp;cases hp
 . refine(I.B b u e).qy (λc v hc q=>(hs.2 c ?_).trans q) (λ_ q=>q) λ_ _ q=>q
   rintro rfl;have z:=I.J;rcases hc with rfl|hc
   . rw[z]at e;cases e
   . rw[z]at hc;cases hc
end
end L2
end
section
namespace L2
open PySem PySem.W PySem.Spec PyProof PyProof.Rows
section
variable {prog:Program}{w:World}{A:Around}{E:Value->Shared->Prop}{s:Shared}{env:Env}
theorem i9
 (h:wpAny (model prog w) (A.mark (some (.ref e))) (eval t env) (λc s₁=>Looks (model prog w) s₁.heap (excMatches (.ref e) c) true /\
  wpAny (model prog w) (A.mark (some (.ref e))) (Em (.ref e) none) (λ_ s₂=>
   wpAny (model prog w) (A.mark (some (.ref e))) (storeName env n (.ref e)) (λ_ s₃=>
    wpAny (model prog w) (A.mark (some (.ref e))) (execs (b₀::suite) env)
     (λf s₄=>wpAny (model prog w) A (do Df env n .none;unbindBehindTheSuite env n pos) (λ_ s₅=>Q f s₅) E s₄)
     (AsSuiteRaised (model prog w) (A.mark (some (.ref e))) env n pos (notedBy (model prog w) (A.mark (some (.ref e))) env (Gy (model prog w) A env E))) s₃) (notedBy (model prog w) (A.mark (some (.ref e))) env (Gy (model prog w) A env E)) s₂) (notedBy (model prog w) (A.mark (some (.ref e))) env (Gy (model prog w) A env E)) s₁) (notedBy (model prog w) (A.mark (some (.ref e))) env (Gy (model prog w) A env E)) s) :
 wpAny (model prog w) A (handleBy (.ref e) env (.ExceptHandler (some t) (some n) (b₀::suite) pos::rest)) Q E s:=by
 refine wpAny_handleBy_cons (codeAny_handlers_test (AD h (λc s₁ h₁=>?_) λ_ _ y=>y)) (by intro q;cases q)
 obtain⟨L,hk⟩:=h₁;exact L.here (codeAny_handlers_suite_as hk)
end
def vP(Kc K:Ac):Prop:=∀a o,Kc.lookup a=some o->K.lookup a=some o
theorem vP.inn{Kc K}(s:vP Kc K)(x:K.In h):Kc.In h:=λa o e=>x a o (s a o e)
def XC(X:Cx)(EE:Value->Option Addr->Hp->Prop)(e:Value)(s':Shared):Prop:=∃(a:Addr) (cls:Value) (dd:Option Addr) (σ2:St) (H2:Hp) (s2:Shared) (H':Hp),e=.ref a/\Inv X [] σ2 H2 s2/\uS X.f X.w X.h H2 s2 H' a cls dd s'/\EE cls dd H'
theorem qJ(e:h.get? a=some o)(hc:o.cls=cls):Looks M h (typeOf (.ref a)) cls:=hc▸(Looks.ld e).andThen .now
theorem r9{g B h h':Heap}(fr:∀b o,g.get? b=some o->b∈frs l->∃sl,h.get? b=some {o with slots:=sl})(ff:h.FunFrames B l)(sm:h.UpToSlots h'):∀b o,g.get? b=some o->b∈frs l->∃sl,h'.get? b=some {o with slots:=sl}:=λb o e hb=>by obtain⟨sl,e1⟩:=fr b o e hb;obtain⟨_,o',e2,hd⟩:=ff.mem hb;rw[e1]at e2;cases e2;obtain⟨sl',e3⟩:=sm b _ e1 hd;exact⟨sl',e3⟩
section
variable {X:Cx}{σ:St}{H:Hp}{s:Shared}{D:Ends}{EE:Value->Option Addr->Hp->Prop}
theorem jG(I:Inv X [] σ H s)(hpn:X.n=[])(hxn:X.m=[])(hN:X.N.Nodup)(hl:X.a.scope.names.lookup n=some .local)(hi:X.N[ie]?=some n)
 (hst:X.h=X.a::X.k) (hfr:X.a.frame=some X.a.locals) (hg:Gl X hx) (hdb:(hx == ("__debug__":Str))=false) (hm:X.d hx=some (.ref hue)) (hb:PSs (X.wM (XC X EE)) body tb) (hq:tb D σ H)
 (hex:∀cls dd H',EE cls dd H'->(∃Kc,vP Kc X.K/\exmOne Kc cls (.ref hue)=some true)/\∀a oe (σ2:St),H' a=none->oe.cls=cls->oe.dict=dd->(∀c,oe.data≠.cls c)->σ2.length=X.N.length->ts {a:=λ_ _=>False,b:=D.b} (σ2.set ie (some (.c a))) (upd H' a (.e oe (.d 0))))
 (hs:∀a:Addr,PSs (X.loud (X.A.mark (some (.ref a)))).nox (b₀::suite) ts) :
 wpAny (model X.f X.w) X.A (exec (.Try body [.ExceptHandler (some (.Name hx np)) (some n) (b₀::suite) hpos] [] [] pos) X.a) (SP X [] D) X.i s:=by
 refine wpAny_Try_except (AD (hb [] s σ H D (I.wM _) hq) (λf s1 hsp=>?_) λe s1 hx'=>?_)
 . have q:=hsp.yv
   cases f with
   |next=>
    obtain⟨σ1,H1,I1,q1⟩:=q;exact nI [] s1 σ1 H1 D I1 q1
   |brk=>exact q
   |cont=>exact q
   |ret u=>exact q
 . obtain⟨a,cls,dd,σ2,H2,s2,H',rfl,I2,f,hE⟩:=hx'
   obtain⟨hx1,hx2⟩:=hex cls dd H' hE;obtain⟨g,B,u,hk,cov,fr,fly⟩:=f.h;have fl0:=fly;rw[hst]at fly;have hA:X.A.frames=some (X.a::X.k):=by rw[<-hst];exact I.C.g
   refine rH hA hfr fly λh4 held4 sm4=>?_;refine nX held4 λh5 fly5 sm5=>?_;have fly5':Heap.x8 B X.h a cls dd h5:=by rw[hst];exact fly5
   have f5:uS X.f X.w X.h H2 s2 H' a cls dd {s1 with heap:=h5}:=⟨f.j,f.d,f.i,g,B,u,hk,cov,r9 fr fl0.2.2.1 (sm4.trans sm5),fly5'⟩
   have I5:=(I2.Y7 f5).loud (A':=X.A.mark (some (.ref a))) (by rw[hst];exact hA)
   refine i9 (xG (X:=X.loud (X.A.mark (some (.ref a)))) I5 hg hm ⟨?_,?_⟩ hdb)
   . obtain⟨oe,e1,e2,_⟩:=f5.obj I2
     obtain⟨Kc,sub,hx1⟩:=hx1;exact exm_one (sub.inn I5.kIn) (qJ e1 e2) hx1
   . refine ou fly5' λh6 fly6 sm6=>?_
     have f6:uS X.f X.w X.h H2 s2 H' a cls dd {s1 with heap:=h6}:=⟨f.j,f.d,f.i,g,B,u,hk,cov,r9 (r9 fr fl0.2.2.1 (sm4.trans sm5)) fly5'.2.2.1 sm6,fly6⟩
     obtain⟨oe,e1,e2,e3,e4,⟨vs,e5⟩,e6⟩:=f6.obj I2;have I6:=I2.Y7 f6;have h0:X.l.heap.get? a=none:=by
      cases q:X.l.heap.get? a with
      |none=>rfl
      |some o=>
       have hne:a ∉ X.m:=by rw[hxn];exact nofun
       obtain⟨o',q'⟩:=I2.j.c a o q hne;rw[e4]at q';cases q'
     have I7:=(I6.adopt e3 e1 e5 h0 hpn).loud (A':=X.A.mark (some (.ref a))) (by rw[hst];exact hA)
     refine xl (X:=X.loud (X.A.mark (some (.ref a)))) (v:=.c a) I7 hN hi (.inl hl) rfl (λs8 I8=>?_) (.inr hl);refine AD ((hs a) [] s8 _ _ {a:=λ_ _=>False,b:=D.b} (I8.wM _) (hx2 a oe σ2 e3 e2 e6 (λc z=>by rw[e5]at z;cases z) I2.R)) (λfl s9 hsp=>?_) λ_ _ z=>Al z
     have q:=hsp.yv;cases fl with
     |next=>obtain⟨_,_,_,z⟩:=q;exact Al z
     |brk=>obtain⟨_,_,_,z⟩:=q;exact Al z
     |cont=>obtain⟨_,_,_,z⟩:=q;exact Al z
     |ret u=>
      obtain⟨v,σ',H3,I9,rv,q9⟩:=q;have I10:Inv X [] σ' H3 s9:=I9.calm I.C;obtain⟨m,hn,_⟩:=I10.M;exact wpAny_nameGoes hl hn (by rw[I.C.a];rfl) λh' m' hn' hs'=>⟨v,_,H3,I10.gone hn' hs' hpn,rv,q9⟩
end
end L2
end
section
namespace L2
open PySem PySem.W PySem.Spec PyProof PyProof.Rows
open Sem (wp)
structure wZ(K:Ac)(C:Addr):Prop where
 ga:findIn K (.ref C) "__getattribute__"=some (some (.builtin "BaseException.__getattribute__"))
 gt:findIn K (.ref C) "__getattr__"=some none
 cl:findIn K (.ref C) "__class__"=some (some (.builtin "object.__class__"))
 be:subIn K (.ref C) (.type "BaseException")=some true
 ob:subIn K (.ref C) (.type "object")=some true
 it:(clsIn K C).isSome=true
section
variable {prog:Program}{w:World}{A:Around}{E:Value->Shared->Prop}{h:Heap}{g:Array DJ}{d:Drawn}{t:Nat}{os:OsState}{a C:Addr}{o:Obj}{K:Ac}
theorem jT(F:wZ K C)(X:K.In h)(hx:h.get? a=some o)(hc:o.cls=.ref C)(hq:R (.ok (.ret (.ref C))) ⟨h,g,d,t,os⟩) :
 codeAny (model prog w) A (.call (.builtin "getset_descriptor.__get__") ⟨[.builtin "object.__class__",.ref a,.ref C],[]⟩) R ⟨h,g,d,t,os⟩:=by
 have hT5:(⟨h,g,d,t,os⟩:Shared).TypeIs (.builtin "object.__class__") "getset_descriptor":=Dn;have L1:Looks (model prog w) h (isSubtype (.ref C) (.type (".".intercalate ("object.__class__".cutAt '.').dropLast))) true:=by rw[PySem.F.owner_object_class];exact looks_subIn X F.ob
 refine Cg EI.plain PySem.F.entry_gs_get (EI.check _ _ _ _ _ _ _ _ hT5 (PySem.F.args_gs_get _ _ _) ?_)
 repeat (any_goals (first|assumption|(with_reducible refine AB hx ?_;rw[hc])|with_reducible refine L1.at ?_|wp_step))
 refine⟨Dc _ (by decide +kernel),codeAny_builtin PySem.F.entry_object_class ?_⟩
 repeat (any_goals (first|assumption|(with_reducible refine AB hx ?_;rw[hc])|wp_step))
theorem nY(F:wZ K C)(X:K.In h)(hx:h.get? a=some o)(hc:o.cls=.ref C)(hq:Q (.done (.ret (.ref C))) ⟨h,g,d,t,os⟩) :
 wpAny (model prog w) A (Builtin.«object.__getattribute__» ⟨[.ref a,.str "__class__" tk],[]⟩) Q E ⟨h,g,d,t,os⟩:=by
 have hT5:(⟨h,g,d,t,os⟩:Shared).TypeIs (.builtin "object.__class__") "getset_descriptor":=Dn;have f5:=Dn;have f6:=EI.lookup;have f7:=PySem.F.slot_gs_set.lookup;have L1:=DN (M:=model prog w) X F.cl
 repeat (any_goals (first|assumption|(with_reducible refine AB hx ?_;rw[hc])|with_reducible refine L1.at ?_|wp_step))
 refine jT F X hx hc ?_
 repeat (any_goals (first|assumption|wp_step))
theorem tS(F:wZ K C)(X:K.In h)(hx:h.get? a=some o)(hc:o.cls=.ref C)(hq:Q () ⟨h,g,d,t,os⟩):wpAny M A (B3 "BaseException.__getattribute__" ⟨[.ref a,nameV],[]⟩) Q E ⟨h,g,d,t,os⟩:=by
 have hk:builtinKind "BaseException.__getattribute__"=some .slot:=by decide +kernel
 have hsplit:splitId "BaseException.__getattribute__"=some ("BaseException","__getattribute__"):=by decide +kernel
 have L1:=looks_subIn (M:=M) X F.be;have ha:=PySem.F.args_bexc_ga (.ref a) nameV;simp only[B3,hk,hsplit];refine xd ?_
 . unfold Gx
   repeat (first|(with_reducible refine AB hx ?_;rw[hc])|with_reducible refine L1.at ?_|wp_step)
   exact hq
theorem lN(F:wZ K C)(X:K.In h)(hx:h.get? a=some o)(hc:o.cls=.ref C)(hq:R (.ok (.ret (.ref C))) ⟨h,g,d,t,os⟩) :
 codeAny (model prog w) A (.call (.builtin "BaseException.__getattribute__") ⟨[.ref a,.str "__class__" tk],[]⟩) R ⟨h,g,d,t,os⟩:=
 Cg CB.ga.plain PySem.F.entry_bexc_ga (tS F X hx hc (nY F X hx hc hq))
theorem fK{fill expr}(F:wZ K C)(X:K.In h)(hx:h.get? a=some o)(hc:o.cls=.ref C)(hq:Q (.ref C) ⟨h,g,d,t,os⟩) :
 wpAny (model prog w) A (getAttrBy (.ref a) (.str "__class__" tk) fill expr) Q E ⟨h,g,d,t,os⟩:=by
 have f3:=CB.ga.bind (.ref a);have hx0:(expr&&GN (B0 "BaseException.__getattribute__"))=false:=by cases expr<;>rfl
 have hx2:(B0 "BaseException.__getattribute__" == B0 "object.__getattribute__")=false:=by decide +kernel
 have hx1:(GN (AF C)&&B0 "BaseException.__getattribute__" == B0 "object.__getattribute__")=false:=by rw[hx2];rfl
 have L1:=DN (M:=model prog w) X F.ga;have L2:=DN (M:=model prog w) X F.gt
 repeat (any_goals (first|assumption|(with_reducible refine AB hx ?_;rw[hc])|with_reducible refine L1.at ?_|with_reducible refine L2.at ?_|wp_step))
 refine lN F X hx hc ?_
 repeat (any_goals (first|assumption|wp_step))
theorem lM(F:wZ K C)(X:K.In h)(hx:h.get? a=some o)(hc:o.cls=.ref C)(hq:Q (some (.ref C)) ⟨h,g,d,t+1,os⟩):wpAny (model prog w) A (getAttr? (.ref a) "__class__") Q E ⟨h,g,d,t,os⟩:=by
 unfold getAttr? getAttrBy?
 repeat (any_goals (first|assumption|with_reducible apply fK F X hx hc|wp_step))
theorem d8(F:wZ K C)(hc:o.cls=.ref C):KitX K (.ref a) (.ref C) (λh=>h.get? a=some o) where
 ty:=λM h _ e=>qJ e hc
 it:=λM h X _=>by
  have z:=F.it;unfold clsIn at z;split at z
  . rename_i c' d' cd' sl' ho
    intro A' Q' E' s' k q;unfold isType loadHead;exact xd (wpAny_loadPart (k _ _ (X _ _ ho)) (Ag q))
  . cases z
 ne:=λh tp dd its n sl X htp=>by
  have z:=F.it;refine Bool.eq_false_iff.mpr λq=>?_;have e:C=tp:=AF.inj (beq_iff_eq.mp q);subst e;unfold clsIn at z;split at z
  . rename_i c' d' cd' sl' ho
    have z:=(X _ _ ho).symm.trans htp;cases z
  . cases z
 ca:=λ{prog w A E Q s} X e k=>by obtain⟨h,g,d,t,os⟩:=s;exact lM F X e hc k
end
end L2
end
section
namespace L2
open PySem PySem.W PySem.Spec PySem.Calls PyProof PyProof.Rows
open SeqAt
def nK(K:Ac):V->List V->Hp->VK->Prop:=λx vs H Q=>∃t xs y j,x=.c t/\vs=[y]/\SqL K H t xs/\vJ y=true/\xs.all vJ=true/\xs.findIdx? (λz=>eqV z y)=some j/\Q (.d (j:Nat)) H
def T8(K:Ac):List V->Hp->VK->Prop:=λxs H Q=>∃(a:Addr) (oe:Obj) (C:Addr) (dv:V) (du:Value) (b:Bool) (Kc:Ac),xs=[.c a,dv]/\H a=some (.e oe (.d 0))/\oe.cls=.ref C/\vP Kc K/\wZ Kc C/\(∀u,RelV dv u->u=du)/\kitOne Kc (.ref C) du=some b/\Q (.f b) H
section
variable {X:Cx}
theorem gN:MtR X "list.index" (nK X.K):=by
 intro pins s σ H x xs v us Q I rx rs h;obtain⟨t,ys,y,j,rfl,rfl,ht,fy,fs,hx,q⟩:=h;cases rx;obtain⟨u,rfl,ru⟩:=vals1 rs;obtain⟨its,r,p1,hz⟩:=I.list ht;obtain⟨⟨cls,dd,data,sl⟩,ho,hc,n,hd⟩:=id p1.isList;simp only at hc hd;subst hc hd;have hm:=ee (x:=y) r fs;have at_:∀(i:Nat) (h1:i<its.length) (h2:i<ys.length),eqU y its[i]=eqV ys[i] y:=λi h1 h2=>by
  have:=congrArg (·[i]?) hm
  simp only[A2,Aa h1,Aa h2,DB,DZ]at this;exact this
 have hl:=r.length;obtain⟨hj,hit,hno⟩:=D5.mp hx;have hsz:its.length<=Am:=by first|exact hz|(rw[<-hl];exact hz)|simpa using hz
 rw[AK]at hsz;refine Cp F.slot_list_index ⟨_,ho,rfl⟩ F.entry_list_index (F.args_list_index_2 _ _) (list_indexAt t its.toArray n dd sl u (eqU y) j (by rw[Ai];omega) (by omega) ?_ λm hm hmj=>?_) ⟨ho,λw hw=>qL ru fy r fs w (by simpa using hw),?_⟩
 . rw[List.getElem_toArray,at_ j (by omega) hj];exact hit
 . rw[Ai]at hm
   rw[List.getElem_toArray,at_ m hm (by omega)]
   have:=hno m hmj;simpa using this
 . exact⟨.d _,H,I.tok _,⟨s.toks,rfl⟩,q⟩
theorem gg(ho:PE X o to)(he:PE X e te)(hbase:BY o "index" X.a (eval o X.a)=eval o X.a:=by rfl)(hst:noStar e=true:=by rfl)(hline:(apos.endLine == cpos.line)=true:=by rfl) :
 PE X (.Call (.Attribute o "index" apos) [e] [] cpos) (tBM X.K "list" (nK X.K) to (xM te tK)):=by
 have hs1:Av [e] X.a=(false,eval e X.a)::Av [] X.a:=zf hst;refine cx DW PySem.F.slot_list_index PySem.F.type_list_index gN ho (pac he yk hst) hbase ?_ hline hs1 rfl;rw[hs1];rfl
theorem nj:yX X (.builtin "isinstance") (T8 X.K):=by
 intro pins s σ H vs us Q I r h;obtain⟨a,oe,C,dv,du,b,Kc,rfl,ha,hc,sub,F,hd,hk,q⟩:=h;cases r with
 |cons r1 r2=>
  cases r2 with
  |cons r2 r3=>
   cases r3;cases r1;rw[hd _ r2];exact kia_one (d8 F hc) (sub.inn I.kIn) (I.B a _ ha).1 hk (λz=>nomatch z) λtk=>⟨.f b,H,I.tok tk,rfl,q⟩
theorem Ve(hg:Gl X c)(hm:X.d c=some (.ref D))(hdb:(c == ("__debug__":Str))=false):PE X (.Name c p) (tC (.c D)):=λpins s σ H Q I h=>xG I hg hm ⟨.c D,H,I,rfl,h⟩ hdb
theorem VY(hg:Gl X c)(hm:X.d c=none)(hv:Ca c=some (.type n))(hn:c≠"__name__")(hdb:(c == ("__debug__":Str))=false):PE X (.Name c p) (tC (.k n)):=λpins s σ H Q I h=>sJ I hg hm hv ⟨.k n,H,I,rfl,h⟩ hn hdb
end
end L2
end
section
namespace L2
open PySem PySem.W PySem.Spec PySem.Calls PyProof PyProof.Rows
def vV(sc:Scope):List Str->List Expr->Bool
 |[],es=>es.isEmpty
 |c::cs,es=>M.lc es λe es=>(M.eCN e λf xs=>M.lc xs λa ys=>M.l1 ys λb=>M.eName a λy _=>M.eName b λx _=>decide (f="isinstance")&&decide (y="_law_e")&&decide (x=c)&&decide (sc.names.lookup c=some .globalImplicit)&&!(c == ("__debug__":Str)))&&vV sc cs es
def tu:List Str->List Expr->Bool
 |[],es=>es.isEmpty
 |w::ws,es=>M.lc es λe es=>(M.ZD e λc _ _=>decide (c=.str w))&&tu ws es
noncomputable def adr(mg:Str->Option Value)(c:Str):Addr:=match mg c with|some (.ref D)=>D|_=>0
theorem fY(h:mg c=some (.ref D)):adr mg c=D:=by unfold adr;rw[h]
def aG(K:Ac)(dv:V):TE:=tCB (T8 K) (xM (xm 0) (xM (tC dv) tK))
def k9(K:Ac)(mg:Str->Option Value):List Str->TA
 |[]=>tK
 |c::cs=>xM (aG K (.c (adr mg c))) (k9 K mg cs)
def lE:List Str->TA
 |[]=>tK
 |w::ws=>xM (tC (.e w)) (lE ws)
structure KB(X:Cx)(sc:Scope):Prop where
 d:X.a.scope=sc
 l:X.N.Nodup
 n0:X.N[0]?=some ("_law_e":Str)
 j:X.N[1]?=some ("_law_marks":Str)
 n2:X.N[2]?=some ("_law_words":Str)
 l0:sc.names.lookup ("_law_e":Str)=some .local
 g:sc.names.lookup ("_law_marks":Str)=some .local
 i:sc.names.lookup ("_law_words":Str)=some .local
 gi:sc.names.lookup ("isinstance":Str)=some .globalImplicit
 gv:sc.names.lookup ("ValueError":Str)=some .globalImplicit
 mi:X.d "isinstance"=none
 mv:X.d "ValueError"=none
structure KS(K Kc:Ac)(C a:Addr)(oe:Obj)(H0:Hp)(σ:St)(H:Hp):Prop where
 c:σ[0]?=some (some (.c a))
 d:H a=some (.e oe (.d 0))
 e:oe.cls=.ref C
 F:wZ Kc C
 b:vP Kc K
 f:xp H0 H
section
variable {X:Cx}{sc:Scope}
theorem KB.gl(B:KB X sc)(h:sc.names.lookup x=some .globalImplicit):Gl X x:=by show X.a.scope.names.lookup x=_;rw[B.d];exact h
theorem KB.vis(B:KB X sc)(h:sc.names.lookup x=some .local):Vis X.a.scope x:=by rw[B.d];exact .inl h
theorem KB.Tq(B:KB X sc):PE X (.Name "_law_e" p) (xm 0):=xt B.n0 (B.vis B.l0) (by decide) (by decide)
theorem KB.Vb(B:KB X sc):PE X (.Name "_law_marks" p) (xm 1):=xt B.j (B.vis B.g) (by decide) (by decide)
theorem KB.RQ(B:KB X sc):PE X (.Name "_law_words" p) (xm 2):=xt B.n2 (B.vis B.i) (by decide) (by decide)
theorem KB.Ts(B:KB X sc)(hg:sc.names.lookup c=some .globalImplicit)(hdb:(c == ("__debug__":Str))=false)(hm:X.d c=some (.ref D)):PE X (.Call (.Name "isinstance" p1) [.Name "_law_e" p2,.Name c p3] [] p4) (aG X.K (.c D)):=
 uv nj (B.gl B.gi) B.mi boot_isinstance (yE B.Tq (yE (Ve (B.gl hg) hm hdb) yk))
theorem KB.Va(B:KB X sc):PE X (.Call (.Name "isinstance" p1) [.Name "_law_e" p2,.Name "ValueError" p3] [] p4) (aG X.K (.k "ValueError")):=
 uv nj (B.gl B.gi) B.mi boot_isinstance (yE B.Tq (yE (VY (B.gl B.gv) B.mv (by first|rfl|decide +kernel) (by decide) (by decide)) yk))
theorem KB.isl(B:KB X sc):∀{cs} {es},vV sc cs es=true->(∀c∈cs,∃D,X.d c=some (.ref D))->PA X es (k9 X.K X.d cs)
 |[],es,h,_=>by cases AV.mp h;exact yk
 |c::cs,es,h,hm=>by replace h:=M.yV h;obtain⟨e,es,rfl,h⟩:=h;obtain⟨h0,h6⟩:=M.zR h;replace h0:=M.xC h0;obtain⟨f,p1,xs,p4,rfl,h0⟩:=h0;replace h0:=M.d9 h0;obtain⟨a,b,rfl,h0⟩:=h0;replace h0:=M.yx h0;obtain⟨y,p2,rfl,h0⟩:=h0;replace h0:=M.yx h0;obtain⟨x,p3,rfl,h0⟩:=h0;clear h;simp only[cf,decide_eq_true_eq,AM]at h0;obtain⟨⟨⟨⟨rfl,rfl⟩,rfl⟩,h4⟩,h5⟩:=h0;obtain⟨D,hD⟩:=hm _ (Ap ..);refine yE ?_ (KB.isl B h6 λc' hc'=>hm c' (Af _ hc'));rw[fY hD];exact B.Ts h4 h5 hD
theorem Vy:∀{ws} {es},tu ws es=true->PA X es (lE ws)
 |[],es,h=>by cases AV.mp h;exact yk
 |w::ws,es,h=>by replace h:=M.yV h;obtain⟨e,es,rfl,h⟩:=h;obtain⟨h0,h6⟩:=M.zR h;obtain⟨c,k,p,rfl,h1⟩:=M.rm h0;obtain rfl:=of_decide_eq_true h1;exact yE sN (Vy h6)
end
section
variable {K Kc:Ac}{mg:Str->Option Value}{C a:Addr}{oe:Obj}{H0 H:Hp}{σ:St}
theorem dJ(S:KS K Kc C a oe H0 σ H)(hd:∀u,RelV dv u->u=du)(hk:kitOne Kc (.ref C) du=some b)(q:Q (.f b) H):aG K dv σ H Q:=
 ⟨_,S.c,a,oe,C,dv,du,b,Kc,rfl,S.d,S.e,S.b,S.F,hd,hk,q⟩
theorem oo(S:KS K Kc C a oe H0 σ H)(b:Str->Bool):∀{cs} {Q},(∀c∈cs,kitOne Kc (.ref C) (.ref (adr mg c))=some (b c))->Q (cs.map λc=>.f (b c)) H->k9 K mg cs σ H Q
 |[],_,_,q=>q
 |c::cs,Q,hk,q=>dJ S (λu z=>z) (hk c (Ap ..)) (oo S b (λc' hc'=>hk c' (Af _ hc')) q)
theorem qh:∀{ws} {Q},Q (ws.map V.e) H->lE ws σ H Q
 |[],_,q=>q
 |w::ws,Q,q=>qh (ws:=ws) q
theorem yo(h:H p=none):xp H (upd H p o):=λb u e=>by rw[zJ (zP e h)];exact e
theorem KS.new(S:KS K Kc C a oe H0 σ H)(h:H p=none):KS K Kc C a oe H0 σ (upd H p o):=⟨S.c,yo h _ _ S.d,S.e,S.F,S.b,S.f.trans (yo h)⟩
theorem KS.put(S:KS K Kc C a oe H0 σ H):KS K Kc C a oe H0 (σ.set (i+1) (some v)) H:=⟨by rw[Bq (by omega)];exact S.c,S.d,S.e,S.F,S.b,S.f⟩
theorem Zt{b:Str->Bool}(S:KS K Kc C a oe H0 σ H)(hl:3<=σ.length)(hz:cs.length<=1000)(hk:∀c∈cs,kitOne Kc (.ref C) (.ref (adr mg c))=some (b c))
 (q:∀p σ' H',KS K Kc C a oe H0 σ' H'->σ'.length=σ.length->σ'[1]?=some (some (.c p))->H' p=some (.b (cs.map λc=>.f (b c)))->D.a σ' H'):tJ (jA (k9 K mg cs)) (wG 1) D σ H:=
 oo S b hk ⟨by rw[Ae,AK];omega,λp hp=>q p _ _ (S.new hp).put (by simp) (by rw[AI (by omega)]) zL⟩
theorem oy{b:Str->Bool}(S:KS K Kc C a oe H0 σ H)(hl:3<=σ.length)(h1:σ[1]?=some (some (.c p0)))(h2:H p0=some (.b (ds.map λc=>.f (b c))))(hz:ds.length+cs.length<=1000)(hk:∀c∈cs,kitOne Kc (.ref C) (.ref (adr mg c))=some (b c))
 (q:∀p σ' H',KS K Kc C a oe H0 σ' H'->σ'.length=σ.length->σ'[1]?=some (some (.c p))->H' p=some (.b ((ds++cs).map λc=>.f (b c)))->D.a σ' H'):tJ (tOp YR (xm 1) (jA (k9 K mg cs))) (wG 1) D σ H:=by
 refine⟨_,h1,oo S b hk ⟨by rw[Ae,AK];omega,λp1 hp1=>⟨p0,p1,_,_,rfl,rfl,by rw[zJ (zP h2 hp1)];exact h2,zL,by rw[Ae,Ae,AK];omega,λp hp=>?_⟩⟩⟩
 refine q p _ _ ((S.new hp1).new hp).put (by simp) (by rw[AI (by omega)]) ?_
 rw[zL,EB]
end
end L2
end
section
namespace L2
open PySem PySem.W PySem.Spec PySem.Calls PyProof PyProof.Rows
noncomputable def ans(pre:Option Str)(w:Str):Str:=match pre with|none=>w|some x=>x++w
def T5:R2:=λx y H Q=>∃i j,x=.e i/\y=.e j/\i.length+j.length<=Am/\Q (.e (i++j)) H
def iQ(K:Ac)(ws2:List Str):TE:=tOp (Vo K) (tOp YR (xm 2) (jA (lE ws2))) (tBM K "list" (nK K) (xm 1) (xM (tC (.f true)) tK))
def jB(K:Ac)(pre:Option Str)(ws2:List Str):TE:=match pre with
 |none=>iQ K ws2
 |some x=>tOp T5 (tC (.e x)) (iQ K ws2)
def tMk(K:Ac)(mg:Str->Option Value)(cs:List Str):TS:=tJ (tOp YR (xm 1) (jA (k9 K mg cs))) (wG 1)
def Xg(K:Ac)(mg:Str->Option Value)(cs1 cs2 cs3 cs4 ws1 ws2:List Str)(pre:Option Str)(odd:Str):TS:=
 q0 (tJ (jA (k9 K mg cs1)) (wG 1)) (q0 (tMk K mg cs2) (q0 (tMk K mg cs3) (q0 (tMk K mg cs4)
  (q0 (Sg (tOr (Sh (tB (aG K (.k "ValueError")))) (iR (tOp rNe (tBM K "list" (kl K false) (xm 1) (xM (tC (.f true)) tK)) (tC (.d 1))))) (lD (tC (.e odd))) Xh)
   (q0 (tJ (jA (lE ws1)) (wG 2)) (lD (jB K pre ws2)))))))
section
variable {X:Cx}{sc:Scope}
theorem KB.pick(B:KB X sc){l2}(w2:tu ws2 l2=true)(hline:(ap.endLine == cp.line)=true) :
 PE X (.Subscript (.BinOp (.Name "_law_words" p1) .Add (.List l2 p2) p3) (.Call (.Attribute (.Name "_law_marks" p4) "index" ap) [.Constant (.bool true) k p5] [] cp) p6) (iQ X.K ws2):=
 XX j4 (mY kX B.RQ (qY (Vy w2))) (gg B.Vb cw (hline:=hline)) (λ_ _=>rfl)
theorem KB.mks(B:KB X sc){es}(h:vV sc cs es=true)(hm:∀c∈cs,∃D,X.d c=some (.ref D)) :
 PS X (.Assign [.Name "_law_marks" p1] (.BinOp (.Name "_law_marks" p2) .Add (.List es p3) p4) p5) (tMk X.K X.d cs):=
 vh B.l B.j (by rw[B.d];exact .inl B.g) (mY kX B.Vb (qY (B.isl h hm))) (hf:=.inr (by rw[B.d];exact B.g))
theorem d6(B:KB X sc)
 (h1:vV sc cs1 e1=true) (h2:vV sc cs2 e2=true) (h3:vV sc cs3 e3=true) (h4:vV sc cs4 e4=true) (hm:∀c∈cs1++cs2++cs3++cs4,∃D,X.d c=some (.ref D)) (w1:tu ws1 l1=true) (hline:(ap.endLine == cp.line)=true) (hr:PE X r (jB X.K pre ws2)) :
 PSs X [.Assign [.Name "_law_marks" a1] (.List e1 a2) a3,.Assign [.Name "_law_marks" b1] (.BinOp (.Name "_law_marks" b2) .Add (.List e2 b3) b4) b5,.Assign [.Name "_law_marks" c1] (.BinOp (.Name "_law_marks" c2) .Add (.List e3 c3) c4) c5,
  .Assign [.Name "_law_marks" d1] (.BinOp (.Name "_law_marks" d2) .Add (.List e4 d3) d4) d5,
  .If (.BoolOp .Or [.UnaryOp .Not (.Call (.Name "isinstance" f1) [.Name "_law_e" f2,.Name "ValueError" f3] [] f4) f5,.Compare (.Call (.Attribute (.Name "_law_marks" f6) "count" ap) [.Constant (.bool true) k1 f7] [] cp) [.NotEq] [.Constant (.int 1) k2 f8] f9] fa) [.Return (some (.Constant (.str odd) k3 fb)) fc] [] fd,
  .Assign [.Name "_law_words" g1] (.List l1 g2) g3,.Return (some r) r1] (Xg X.K X.d cs1 cs2 cs3 cs4 ws1 ws2 pre odd):=by
 have m1:∀c∈cs1,∃D,X.d c=some (.ref D):=λc h=>hm c (by simp[h])
 have m2:∀c∈cs2,∃D,X.d c=some (.ref D):=λc h=>hm c (by simp[h])
 have m3:∀c∈cs3,∃D,X.d c=some (.ref D):=λc h=>hm c (by simp[h])
 have m4:∀c∈cs4,∃D,X.d c=some (.ref D):=λc h=>hm c (by simp[h])
 refine yJ (vh B.l B.j (by rw[B.d];exact .inl B.g) (qY (B.isl h1 m1)) (hf:=.inr (by rw[B.d];exact B.g))) (yJ (B.mks h2 m2) (yJ (B.mks h3 m3) (yJ (B.mks h4 m4) (yJ ?_ (yJ
  (vh B.l B.n2 (by rw[B.d];exact .inl B.i) (qY (Vy w1)) (hf:=.inr (by rw[B.d];exact B.i))) (xf (wV hr)))))))
 exact mh (Tx (ki (Vm B.Va)) (Vn (nJ XM (gc B.Vb cw (hline:=hline)) bC (qR _ (by decide) (by decide))))) (xf (wV sN)) nI
end
section
variable {K Kc:Ac}{mg:Str->Option Value}{C a:Addr}{oe:Obj}{H0 H:Hp}{σ:St}
theorem jf{cs:List Str}{b:Str->Bool}:(cs.map λc=>V.f (b c)).all vJ=true:=by rw[List.all_map,AN];intro _ _;rfl
theorem cR{cs:List Str}(nd:cs.Nodup)(hm:c0∈cs):((cs.map λc=>V.f (decide (c=c0))).countP λz=>eqV z (.f true))=1:=by
 rw[List.countP_map];have e:((λz=>eqV z (.f true))∘λc=>V.f (decide (c=c0)))=λc:Str=>c == c0:=by
  funext c;by_cases z:c=c0
  . subst z;simp[eqV]
  . simp[eqV,z]
 rw[e];have h1:cs.count c0<=1:=List.nodup_iff_count.mp nd c0;have h2:0<cs.count c0:=List.count_pos_iff.mpr hm;show cs.count c0=1;omega
theorem ZW{cs:List Str}(nd:cs.Nodup)(hi:cs[i]?=some c0):(cs.map λc=>V.f (decide (c=c0))).findIdx? (λz=>eqV z (.f true))=some i:=by
 obtain⟨h1,h2⟩:=Aw.mp hi;rw[D5];refine⟨by rw[Ae];exact h1,by rw[CW,h2];simp[eqV],λj hj=>?_⟩
 rw[CW];have:cs[j]≠c0:=λz=>by rw[<-h2]at z;exact absurd ((List.getElem_inj nd).mp z) (by omega)
 simp[eqV,this]
theorem d7{i:Nat}(S:KS K Kc C a oe H0 σ H)(hl:3<=σ.length)(nd:(cs1++cs2++cs3++cs4).Nodup)(hz:(cs1++cs2++cs3++cs4).length<=100)(hz2:(ws1++ws2).length<=100)
 (hi:(cs1++cs2++cs3++cs4)[i]?=some c0) (hw:(ws1++ws2)[i]?=some w) (hwl:w.length<=100) (hpl:∀x,pre=some x->x.length<=100) (hk:∀c∈cs1++cs2++cs3++cs4,kitOne Kc (.ref C) (.ref (adr mg c))=some (decide (c=c0))) (hv:kitOne Kc (.ref C) (.type "ValueError")=some true)
 (q:∀H',xp H0 H'->D.b (.e (ans pre w)) H'):Xg K mg cs1 cs2 cs3 cs4 ws1 ws2 pre odd D σ H:=by
 simp only[Au]at hz hz2;have k1:∀c∈cs1,kitOne Kc (.ref C) (.ref (adr mg c))=some (decide (c=c0)):=λc h=>hk c (by simp[h])
 have k2:∀c∈cs2,kitOne Kc (.ref C) (.ref (adr mg c))=some (decide (c=c0)):=λc h=>hk c (by simp[h])
 have k3:∀c∈cs3,kitOne Kc (.ref C) (.ref (adr mg c))=some (decide (c=c0)):=λc h=>hk c (by simp[h])
 have k4:∀c∈cs4,kitOne Kc (.ref C) (.ref (adr mg c))=some (decide (c=c0)):=λc h=>hk c (by simp[h])
 refine Zt (b:=λc=>decide (c=c0)) S hl (by omega) k1 λp1 σ1 H1 S1 n1 e1 q1=>?_
 refine oy (b:=λc=>decide (c=c0)) (ds:=cs1) S1 (by omega) e1 q1 (by omega) k2 λp2 σ2 H2 S2 n2 e2 q2=>?_
 refine oy (b:=λc=>decide (c=c0)) (ds:=cs1++cs2) S2 (by omega) e2 q2 (by rw[Au];omega) k3 λp3 σ3 H3 S3 n3 e3 q3=>?_
 refine oy (b:=λc=>decide (c=c0)) (ds:=cs1++cs2++cs3) S3 (by omega) e3 q3 (by rw[Au,Au];omega) k4 λp4 σ4 H4 S4 n4 e4 q4=>?_
 have hmem:c0∈cs1++cs2++cs3++cs4:=AU hi;refine dJ S4 (λu z=>z) hv ⟨true,rfl,?_⟩;refine rE ?_;refine⟨_,e4,?_,p4,_,.f true,rfl,rfl,.inl (.inl q4),rfl,jf,rfl,_,rfl,?_⟩
 . exact .inl ⟨rfl,_,.inl (.inl q4)⟩
 rw[cR nd hmem];refine rE ?_;refine qh ⟨by rw[Ae,AK];omega,λp5 hp5=>?_⟩
 have S5:KS K Kc C a oe H0 (σ4.set 2 (some (.c p5))) (upd H4 p5 (.b (ws1.map V.e))):=(S4.new hp5).put;have e5:(σ4.set 2 (some (V.c p5)))[1]?=some (some (.c p4)):=by rw[Bq (by omega)];exact e4
 have q5:upd H4 p5 (.b (ws1.map V.e)) p4=some (.b ((cs1++cs2++cs3++cs4).map λc=>V.f (decide (c=c0)))):=by rw[zJ (zP q4 hp5)];exact q4
 have pick:∀Q:VK,(∀H',xp H0 H'->Q (.e w) H')->iQ K ws2 (σ4.set 2 (some (.c p5))) (upd H4 p5 (.b (ws1.map V.e))) Q:=λQ hQ=>by
  refine⟨_,by rw[AI (by omega)],qh ⟨by rw[Ae,AK];omega,λp6 hp6=>⟨p5,p6,_,_,rfl,rfl,by rw[zJ (zP zL hp6)];exact zL,zL,by rw[Ae,Ae,AK];omega,λp7 hp7=>?_⟩⟩⟩
  have q6:=yo (o:=.b (ws1.map V.e++ws2.map V.e)) hp7 _ _ (yo (o:=.b (ws2.map V.e)) hp6 _ _ q5);refine⟨_,e5,.inl ⟨rfl,_,.inl (.inl q6)⟩,p4,_,.f true,i,rfl,rfl,.inl (.inl q6),rfl,jf,ZW nd hi,p7,_,i,.e w,rfl,rfl,.inl (.inl zL),?_,hQ _ ((S5.f.trans (yo hp6)).trans (yo hp7))⟩;obtain⟨h1,h2⟩:=Aw.mp hw;rw[Au]at h1;unfold atI ixN;rw[<-EB,if_pos (by omega),Ae,Au,if_pos (by omega)]
  show (FV V.e (ws1++ws2))[(i:Int).toNat]?=_;rw[BI,A2,hw];rfl
 cases pre with
 |none=>exact pick _ q
 |some x=>
  refine pick _ λH' sm=>⟨x,w,rfl,rfl,?_,q H' sm⟩;have:=hpl x rfl;rw[AK];omega
end
end L2
end
section
namespace L2
open PySem PySem.W PySem.Spec PySem.Calls PyProof PyProof.Rows
noncomputable def kN:List Str:=["_law_e","_law_marks","_law_words"]
def fP(sc:Scope)(cs ws:List Str)(pre:Option Str)(body:List Stmt):Prop:=
 ∃(cs1 cs2 cs3 cs4 ws1 ws2:List Str) (odd:Str) (e1 e2 e3 e4 l1 l2:List Expr) (r s:Expr) (a1 a2 a3 b1 b2 b3 b4 b5 c1 c2 c3 c4 c5 d1 d2 d3 d4 d5 f1 f2 f3 f4 f5 f6 f7 f8 f9 fa fb fc fd g1 g2 g3 ap cp r1 q1 q2 q3 q4 q5 q6 ap2 cp2 t1 t2:Pos) (k1 k2 k3 k4 k5:Nat),
  body=[.Assign [.Name "_law_marks" a1] (.List e1 a2) a3,.Assign [.Name "_law_marks" b1] (.BinOp (.Name "_law_marks" b2) .Add (.List e2 b3) b4) b5,.Assign [.Name "_law_marks" c1] (.BinOp (.Name "_law_marks" c2) .Add (.List e3 c3) c4) c5,
   .Assign [.Name "_law_marks" d1] (.BinOp (.Name "_law_marks" d2) .Add (.List e4 d3) d4) d5,
   .If (.BoolOp .Or [.UnaryOp .Not (.Call (.Name "isinstance" f1) [.Name "_law_e" f2,.Name "ValueError" f3] [] f4) f5,.Compare (.Call (.Attribute (.Name "_law_marks" f6) "count" ap) [.Constant (.bool true) k1 f7] [] cp) [.NotEq] [.Constant (.int 1) k2 f8] f9] fa) [.Return (some (.Constant (.str odd) k3 fb)) fc] [] fd,
   .Assign [.Name "_law_words" g1] (.List l1 g2) g3,.Return (some r) r1] /\
  s=.Subscript (.BinOp (.Name "_law_words" q1) .Add (.List l2 q2) q3) (.Call (.Attribute (.Name "_law_marks" q4) "index" ap2) [.Constant (.bool true) k4 q5] [] cp2) q6 /\
  (match pre with|none=>r=s|some x=>r=.BinOp (.Constant (.str x) k5 t1) .Add s t2) /\
  (vV sc cs1 e1&&vV sc cs2 e2&&vV sc cs3 e3&&vV sc cs4 e4&&tu ws1 l1&&tu ws2 l2&&(ap.endLine == cp.line)&&(ap2.endLine == cp2.line))=true/\cs=cs1++cs2++cs3++cs4/\ws=ws1++ws2
structure oJ(K:Ac)(mg:Str->Option Value)(x:Str)(cs ws:List Str)(pre:Option Str):Prop where
 ex:∃(st:Stmt) (f:Addr) (fd:Bn),mg x=some (.ref f)/\Fun K x x st f fd/\xa kN ["_law_e"] (zC st)/\Binds K fd ["_law_e"] []/\fP (zC st) cs ws pre (zw st) /\
  ((zC st).names.lookup ("_law_e":Str)=some .local/\(zC st).names.lookup ("_law_marks":Str)=some .local/\(zC st).names.lookup ("_law_words":Str)=some .local/\(zC st).names.lookup ("isinstance":Str)=some .globalImplicit/\(zC st).names.lookup ("ValueError":Str)=some .globalImplicit)
 b:∀c∈cs,∃D,mg c=some (.ref D)
 mi:mg "isinstance"=none
 mv:mg "ValueError"=none
 nd:cs.Nodup
 hz:cs.length<=100
 a:ws.length<=100
 hw:∀w∈ws,w.length<=100
 hp:∀x,pre=some x->x.length<=100
structure Xq(Kc:Ac)(mg:Str->Option Value)(cs:List Str)(C:Addr)(c0:Str):Prop where
 F:wZ Kc C
 a:∀c∈cs,kitOne Kc (.ref C) (.ref (adr mg c))=some (decide (c=c0))
 ve:kitOne Kc (.ref C) (.type "ValueError")=some true
def Named(K:Ac)(mg:Str->Option Value)(cs:List Str)(C:Addr)(c0:Str):Prop:=∃Kc,vP Kc K/\Xq Kc mg cs C c0
def tKC(K:Ac)(mg:Str->Option Value)(cs ws:List Str)(pre:Option Str)(ie:Nat):TE:=λσ H Q=>∃(a:Addr) (oe:Obj) (C:Addr) (c0:Str) (i:Nat) (w:Str),σ[ie]?=some (some (.c a))/\H a=some (.e oe (.d 0))/\oe.cls=.ref C/\Named K mg cs C c0 /\
 cs[i]?=some c0/\ws[i]?=some w/\∀H',xp H H'->Q (.e (ans pre w)) H'
section
variable {X:Cx}
theorem gE(F:oJ X.K X.d x cs ws pre)(hdp:X.A.depth<B4)(hg:Gl X x)(hdb:(x == ("__debug__":Str))=false)(hN:X.N[ie]?=some e)(hv:Vis X.a.scope e)(hd1:(e == ("__debug__":Str))=false)(hd2:(e == ("__classdict__":Str))=false) :
 PE X (.Call (.Name x p) [.Name e p2] [] pos) (tKC X.K X.d cs ws pre ie):=by
 intro pins s σ H Q I ⟨a,oe,C,c0,i,w,h0,ha,hc,nm,hi,hw,q⟩;obtain⟨st,f,fd,hm,Fn,S,hb,sh,hl0,hl1,hl2,hgi,hgv⟩:=F.ex;refine BE (xG I hg hm ?_ hdb);have hpa:PA X [.Name e p2] (xM (xm ie) tK):=yE (xt hN hv hd1 hd2) yk;refine C8 (h₀:=X.g) I.C.i.a Fn.b (thn (hpa pos pins s σ H (λvs H1=>vs=[V.c a]/\H1=H) I ⟨_,h0,rfl,rfl⟩) λus s1 ⟨vs,H1,I1,r,hvs,hH⟩=>⟨I1.kIn,?_⟩);subst hvs hH;obtain⟨oc,od,kV,doc,pm,an,cdv,ct,osl,rfl,lk,hcd⟩:=Fn.a;have hl:us.length=1:=by rw[<-r.length];rfl
 have hbt:=hb s1 us I1.kIn (by rw[A9];exact hl)
 rw[A9]at hbt;refine CK (Ct (ui (CX:=CX0) (E:=E0) (R:=CR CX0 X.h X.f X.w H1 s1 Q E0) (N:=kN) lk hcd S hdp I1.wN hbt rfl r λs2 I2 _=>?_) λr s' hq=>?_)
 . have I3:=I2.loud (A':=X.A.deeper (envOfC x (zC st) s1.heap.objs.size f cdv)) (Es I1.wN.a)
   have B:KB ((yA CX0 X.f X.w X.K X.d X.g kN x (zC st) f cdv {X.A with handled:=none} X.h s1 H1 E0).loud (X.A.deeper (envOfC x (zC st) s1.heap.objs.size f cdv))).nox (zC st):=
    ⟨rfl,S.b,rfl,rfl,rfl,hl0,hl1,hl2,hgi,hgv,F.mi,F.mv⟩
   obtain⟨cs1,cs2,cs3,cs4,ws1,ws2,odd,e1,e2,e3,e4,l1,l2,rr,ss,a1,a2,a3,b1,b2,b3,b4,b5,c1,c2,c3,c4,c5,d1,d2,d3,d4,d5,f1,f2,f3,f4,f5,f6,f7,f8,f9,fa,fb,fc,fd,g1,g2,g3,ap,cp,r1,q1,q2,q3,q4,q5,q6,ap2,cp2,t1,t2,k1,k2,k3,k4,k5,hbody,hs,hr,hck,hcs,hws⟩:=sh;simp only[cf]at hck;obtain⟨⟨⟨⟨⟨⟨⟨y1,y2⟩,y3⟩,y4⟩,y5⟩,y6⟩,y7⟩,y8⟩:=hck;subst hcs hws hs;have hpe:PE ((yA CX0 X.f X.w X.K X.d X.g kN x (zC st) f cdv {X.A with handled:=none} X.h s1 H1 E0).loud (X.A.deeper (envOfC x (zC st) s1.heap.objs.size f cdv))).nox rr (jB X.K pre ws2):=by
    cases pre with
    |none=>subst hr;exact B.pick y6 y8
    |some x=>subst hr;exact mY qU sN (B.pick y6 y8)
   have t:=d6 B (a1:=a1) (a2:=a2) (a3:=a3) (b1:=b1) (b2:=b2) (b3:=b3) (b4:=b4) (b5:=b5) (c1:=c1) (c2:=c2) (c3:=c3) (c4:=c4) (c5:=c5) (d1:=d1) (d2:=d2) (d3:=d3) (d4:=d4) (d5:=d5) (f1:=f1) (f2:=f2) (f3:=f3) (f4:=f4) (f5:=f5) (f6:=f6) (f7:=f7) (f8:=f8) (f9:=f9) (fa:=fa) (fb:=fb) (fc:=fc) (fd:=fd) (g1:=g1) (g2:=g2) (g3:=g3) (ap:=ap) (cp:=cp) (r1:=r1) (k1:=k1) (k2:=k2) (k3:=k3) (odd:=odd) (pre:=pre) (ws2:=ws2) y1 y2 y3 y4 F.b y5 y7 hpe;unfold nZ;rw[hbody];obtain⟨Kc,sub,nm⟩:=nm;have KS0:KS X.K Kc C a oe H1 (start kN [.c a]) H1:=⟨rfl,ha,hc,nm.F,sub,xp.refl _⟩;refine AD (t [] s2 (start kN [.c a]) H1 {a:=λ_ _=>False,b:=Q} (I3.wM _) (d7 KS0 (show 3<=3 from Ah _) F.nd F.hz F.a hi hw (F.hw _ (AU hw)) F.hp nm.a nm.ve λH' sm=>q H' sm)) (λfl s' hs=>?_) λ_ _ z=>Al z;cases fl with
   |ret u=>
    obtain⟨v,σ',H',J,rv,q'⟩:=hs;exact⟨v,H',J.P,J.D,J.j,J.B,rv,q'⟩
   |next=>obtain⟨_,_,_,z⟩:=hs;exact Al z
   |brk=>obtain⟨_,_,_,z⟩:=hs;exact Al z
   |cont=>obtain⟨_,_,_,z⟩:=hs;exact Al z
 . cases r with
   |error e=>exact Al hq
   |ok fl=>
    cases fl with
    |ret u=>exact I1.after hq
    |next=>exact Al hq
    |brk=>exact Al hq
    |cont=>exact Al hq
end
end L2
end
section
namespace L2
open PySem PySem.W PySem.Spec PySem.Calls PyProof PyProof.Rows
structure uW(outer:List Env)(h:Heap)(H:Hp)(lf c:Addr)(qual:Str)(body:Expr)(lsc:Scope)(cl:List (Str × Addr))(pm ctv:Value)(N:List Str)(σ:St):Prop where
 ob:h.get? lf=some (kla_obj "<lambda>" qual noArgs body lsc cl pm c ctv)
 nl:H lf=none\/H lf=some (.e (kla_obj "<lambda>" qual noArgs body lsc cl pm c ctv) (.d 0))
 fl:lf ∉ frs outer
 cd:∃(o:Obj) (vs:Array Value) (t:Tok),H c=some (.e o (.d 0))/\o.data=.fields vs/\vs[1]?=some (.str qual t)
 e:∀x y b,cl.lookup x=some b->cl.lookup y=some b->x=y
 d:∀x,lsc.names.lookup x=some .free->∃b,cl.lookup x=some b
 a:∀x b,cl.lookup x=some b->(∃v,h.IsCell b v)/\H b=none
 g:∀(i:Nat) (x:Str) (v:V),N[i]?=some x->σ[i]?=some (some v)->lsc.names.lookup x=some .free->∃u b,RelV v u/\cl.lookup x=some b/\h.IsCell b (some u)
 f:σ.length=N.length
 kd:lsc.kind=.function
 co:lsc.isCoroutine=false
 gn:lsc.isGenerator=false
 nm:∀x∈lsc.names,x.2≠.cell/\x.2≠.local
section
variable {X:Cx}{EE:Value->Option Addr->Hp->Prop}
theorem mJ{ic:Nat}(L:uW X.k X.l.heap X.r lf c qual body lsc cl pm ctv N σ)(hxn:X.m=[])(hdp:X.A.depth<B4)(hh:X.A.handled=none)
 (hN:X.N[ic]?=some ("_law_call":Str)) (hv:Vis X.a.scope "_law_call")
 (hbody:∀s' H',PE (ud (CXE X.f X.w) X.f X.w X.K X.d X.g N qual lsc lf (.ref c) cl X.A X.h s' H' EE) body tb) :
 PE (X.wM (XC X EE)) (.Call (.Name "_law_call" p) [] [] pos) (λσ1 H1 Q=>σ1[ic]?=some (some (.c lf))/\tb σ H1 Q):=by
 intro pins s1 σ1 H1 Q I ⟨h0,hq⟩;have hpe:PE (X.wM (XC X EE)) (.Name "_law_call" p) (xm ic):=xt hN hv (by decide) (by decide)
 refine BE (thn (hpe pins s1 σ1 H1 (λv H2=>v=V.c lf/\H2=H1) I ⟨_,h0,rfl,rfl⟩) λu s2 ⟨v,H2,I2,r,hv2,hH2⟩=>?_);subst hv2 hH2;cases r;have un:Un (frs X.k) [] X.r H2 X.l.heap s2.heap:=by have:=I2.j;rw[show (X.wM (XC X EE)).m=[] from hxn]at this;exact this
 have ob2:s2.heap.get? lf=some (kla_obj "<lambda>" qual noArgs body lsc cl pm c ctv):=by
  rcases L.nl with z|z
  . exact un.f _ _ L.ob z L.fl (by simp)
  . exact(I2.B lf _ (un.g lf _ _ z)).1
 have cr2:s2.heap.CodeRec (.ref c) qual:=by obtain⟨o,vs,t,q1,q2,q3⟩:=L.cd;exact⟨c,o,vs,t,rfl,(I2.B c _ (un.g c o _ q1)).1,q2,q3⟩
 have cell2:∀b v,X.l.heap.IsCell b v->X.r b=none->s2.heap.IsCell b v:=λb v ⟨o,e,d⟩ n=>by
  by_cases f:b∈frs X.k
  . obtain⟨sl,e1⟩:=un.i b o e n f (by simp)
    exact⟨_,e1,d⟩
  . exact⟨o,un.f b o e n f (by simp),d⟩
 refine callWith_of (P:=λh=>h.get? lf=some (kla_obj "<lambda>" qual noArgs body lsc cl pm c ctv)) rfl (λh e=>⟨.frame,.inl rfl,(Looks.ld (part:=none) e).andThen .now⟩) (evalArgs_nil3 ⟨ob2,?_⟩);refine CK (Ct (Zq (CX:=CXE X.f X.w) (E:=EE) (R:=CR (CXE X.f X.w) X.h X.f X.w H2 s2 Q EE) (N:=N) (σ:=σ) hdp hh I2.wN ob2 cr2 L.kd L.co L.gn L.nm L.e L.d (λx b e=>?_) (λi x v e1 e2 e3=>?_) L.f λs3 I3=>?_) λr s' hq=>?_)
 . obtain⟨⟨v,z⟩,n⟩:=L.a x b e
   obtain⟨o,eo,_⟩:=id z;exact⟨⟨v,cell2 b v z n⟩,un.d b o eo n (by simp)⟩
 . obtain⟨u,b,q1,q2,q3⟩:=L.g i x v e1 e2 e3
   obtain⟨_,n⟩:=L.a x b q2;exact⟨u,b,q1,q2,cell2 b _ q3 n⟩
 . refine AD (hbody s2 H2 [] s3 σ H2 Q I3 hq) (λu s' ⟨v,H',J,rv,q⟩=>?_) λe s' z=>z
   exact⟨v,H',J.P,J.D,J.j,J.B,rv,q⟩
 . cases r with
   |error e=>
    obtain⟨a,cls,dd,H',rfl,fl,hE⟩:=hq;exact⟨a,cls,dd,σ1,H2,s2,H',rfl,I2.yv.nH λp hp=>absurd hp (by simp),fl,hE⟩
   |ok fl=>
    cases fl with
    |ret u=>exact I2.after hq
    |next=>exact Al hq
    |brk=>exact Al hq
    |cont=>exact Al hq
end
end L2
end
section
namespace L2
open PySem PySem.W PySem.Spec PyProof PyProof.Rows
open Sem (wp)
section
variable {prog:Program}{w:World}{A:Around}{E:Value->Shared->Prop}{h:Heap}{g:Array DJ}{d:Drawn}{t:Nat}{os:OsState}{a C dx:Addr}{o:Obj}{nm q:Str}{N:Addr}{bs bm:List Value}{sn:List Str}{sub:List Value}{ab:Bool}{col:Option Bool}{dd:Option Addr}{k0 k1 k2 k3 k5:Option Value}{newId:String}{K:Ac}{f:Str}{mA:Str->Option Value}{v:Value}
theorem lL(hna:findIn K (.ref C) f=some none)(X:K.In h)(hx:h.get? a=some o)(hc:o.cls=.ref C)(hnc:∀c,o.data≠.cls c)(hd:o.dict=some dx)(hn:h.Ns dx mA)(hv:mA f=some v)(hC:h.get? C=some (AQ nm q C N bs bm true sn sub ab col dd k0 k1 k2 k3 k5 newId))(hq:Q (.done (.ret v)) ⟨h,g,d,t,os⟩) :
 wpAny (model prog w) A (Builtin.«object.__getattribute__» ⟨[.ref a,.str f tk],[]⟩) Q E ⟨h,g,d,t,os⟩:=by
 have L1:=DN (M:=model prog w) X hna;unfold Builtin.«object.__getattribute__»
 repeat (any_goals (first|assumption|(with_reducible refine AB hx ?_;rw[hc])|with_reducible refine L1.at ?_|wp_step))
 split
 . rename_i c hcd
   exact absurd hcd (hnc c)
 unfold instanceDict
 repeat (first|(with_reducible refine AB hx ?_;rw[hc])|with_reducible refine AB hC ?_|wp_step)
 rw[hd]
 repeat (first|(with_reducible refine wpAny_nsGet hn ?_;rw[hv])|wp_step)
 exact hq
theorem jR(F:wZ K C)(hna:findIn K (.ref C) f=some none)(X:K.In h)(hx:h.get? a=some o)(hc:o.cls=.ref C)(hnc:∀c,o.data≠.cls c)(hd:o.dict=some dx)(hn:h.Ns dx mA)(hv:mA f=some v)(hC:h.get? C=some (AQ nm q C N bs bm true sn sub ab col dd k0 k1 k2 k3 k5 newId))(hq:R (.ok (.ret v)) ⟨h,g,d,t,os⟩) :
 codeAny (model prog w) A (.call (.builtin "BaseException.__getattribute__") ⟨[.ref a,.str f tk],[]⟩) R ⟨h,g,d,t,os⟩:=
 Cg CB.ga.plain PySem.F.entry_bexc_ga (tS F X hx hc (lL hna X hx hc hnc hd hn hv hC hq))
theorem aX{fill expr}(F:wZ K C)(hna:findIn K (.ref C) f=some none)(X:K.In h)(hx:h.get? a=some o)(hc:o.cls=.ref C)(hnc:∀c,o.data≠.cls c)(hd:o.dict=some dx)(hn:h.Ns dx mA)(hv:mA f=some v)(hC:h.get? C=some (AQ nm q C N bs bm true sn sub ab col dd k0 k1 k2 k3 k5 newId))(hh:handedOut v=pure v)(hq:Q v ⟨h,g,d,t,os⟩) :
 wpAny (model prog w) A (getAttrBy (.ref a) (.str f tk) fill expr) Q E ⟨h,g,d,t,os⟩:=by
 have f3:=CB.ga.bind (.ref a);have hx0:(expr&&GN (B0 "BaseException.__getattribute__"))=false:=by cases expr<;>rfl
 have hx2:(B0 "BaseException.__getattribute__" == B0 "object.__getattribute__")=false:=by decide +kernel
 have hx1:(GN (AF C)&&B0 "BaseException.__getattribute__" == B0 "object.__getattribute__")=false:=by rw[hx2];rfl
 have L1:=DN (M:=model prog w) X F.ga;have L2:=DN (M:=model prog w) X F.gt
 repeat (any_goals (first|assumption|(with_reducible refine AB hx ?_;rw[hc])|with_reducible refine L1.at ?_|with_reducible refine L2.at ?_|wp_step))
 refine jR F hna X hx hc hnc hd hn hv hC ?_
 repeat (any_goals (first|assumption|wp_step))
theorem fJ(F:wZ K C)(hna:findIn K (.ref C) f=some none)(X:K.In h)(hx:h.get? a=some o)(hc:o.cls=.ref C)(hnc:∀c,o.data≠.cls c)(hd:o.dict=some dx)(hn:h.Ns dx mA)(hv:mA f=some v)(hC:h.get? C=some (AQ nm q C N bs bm true sn sub ab col dd k0 k1 k2 k3 k5 newId))(hh:handedOut v=pure v)(hq:Q v ⟨h,g,d,t+1,os⟩) :
 wpAny (model prog w) A (getAttr (.ref a) f expr) Q E ⟨h,g,d,t,os⟩:=by
 unfold getAttr
 repeat (any_goals (first|assumption|with_reducible apply aX F hna X hx hc hnc hd hn hv hC hh|wp_step))
end
section
variable {X:Cx}
def jD(K:Ac)(base:Heap)(ie:Nat)(f:Str):TE:=λσ H Q=>∃(a C D d fI:Addr) (oe:Obj) (fs:List (Str × V)) (i:Int) (Kc:Ac),σ[ie]?=some (some (.c a))/\H a=some (.e oe (.d 0))/\oe.cls=.ref C/\(∀c,oe.data≠.cls c)/\oe.dict=some d/\H d=some (.j fs)/\fs.lookup f=some (.d i) /\
 wZ Kc C/\vP Kc K/\findIn Kc (.ref C) f=some none/\v9 base C (.ref D::veM) fI/\Q (.d i) H
theorem bF(hN:X.N[ie]?=some e)(hv:Vis X.a.scope e)(hd1:(e == ("__debug__":Str))=false)(hd2:(e == ("__classdict__":Str))=false)(hbase:BY (.Name e p) f X.a (eval (.Name e p) X.a)=eval (.Name e p) X.a:=by rfl):PE X (.Attribute (.Name e p) f ap) (jD X.K X.g ie f):=by
 intro pins s σ H Q I ⟨a,C,D,d,fI,oe,fs,i,Kc,h0,ha,hc,hnc,hd,hx,hl,F,sub,hna,cG,q⟩;refine ai hbase (thn (xt hN hv hd1 hd2 pins s σ H (λv H1=>v=V.c a/\H1=H) I ⟨_,h0,rfl,rfl⟩) λu s1 ⟨v,H1,I1,r,hv1,hH⟩=>?_);subst hv1 hH;cases r;obtain⟨mA,hns,hr⟩:=I1.B d _ hx;have hrf:=hr f;rw[hl]at hrf;obtain⟨u,hu,ru⟩:∃u,mA f=some u/\RelV (.d i) u:=by
  cases hm:mA f with
  |none=>rw[hm]at hrf;exact hrf.elim
  |some u=>rw[hm]at hrf;exact⟨u,rfl,hrf⟩
 obtain⟨tk,rfl⟩:=ru;obtain⟨nm,q',N,bs,sn,sub',ab,col,dd,k0,k1,k2,k3,k5,mN,oI,hC,_⟩:=cG.keeps I1.bk;obtain⟨h1,g1,d1,t1,os1⟩:=s1;exact fJ F hna (sub.inn I1.kIn) (I1.B a _ ha).1 hc hnc hd hns.ns hu hC rfl ⟨.d i,H1,I1.tok _,⟨tk,rfl⟩,q⟩
end
end L2
end
section
namespace L2
open PySem PySem.W PySem.Spec PySem.Calls PyProof PyProof.Rows
noncomputable def yK(m:Bool):Str:=if m then "_law_got" else "_law_said"
noncomputable def xK(m:Bool):List Str:=if m then ["_law_call","_law_e"] else ["_law_call","_law_e","_law_word"]
def fU(m:Bool)(kx:Str)(body:List Stmt):Prop:=∃(p1 p2 p3 p4 p5 p6 p7 p8 p9 pa pb q1 q2 q3 q4 q5 q6 q7 q8 r1 r2 r3 r4 r5 r6:Pos) (k1 k2 k3:Nat),body=if m then
 [.Try [.Return (some (.Call (.Name "_law_call" p1) [] [] p2)) p3] [.ExceptHandler (some (.Name "HueError" p4)) (some "_law_e") [.Return (some (.Call (.Name kx p6) [.Name "_law_e" p7] [] p8)) p9] pa] [] [] pb]
 else [.Try [.Expr (.Call (.Name "_law_call" p1) [] [] p2) p3] [.ExceptHandler (some (.Name "HueError" p4)) (some "_law_e") [.Assign [.Name "_law_word" p5] (.Call (.Name kx p6) [.Name "_law_e" p7] [] p8) p9,
  .Return (some (.IfExp (.Compare (.Name "_law_word" q1) [.Eq] [.Constant (.str "great") k1 q2] q3) (.Tuple [.Name "_law_word" r1,.Attribute (.Name "_law_e" r2) "many" r3,.Attribute (.Name "_law_e" r4) "most" r5] k3 r6) (.Name "_law_word" q4) q5)) q6] pa] [] [] pb,.Return (some (.Constant (.str "told") k2 q7)) q8]
structure fT(K:Ac)(mg:Str->Option Value)(m:Bool)(kx:Str)(f:Addr):Prop where
 a:∃(st:Stmt) (fd:Bn),mg (yK m)=some (.ref f)/\Fun K (yK m) (yK m) st f fd/\xa (xK m) ["_law_call"] (zC st)/\Binds K fd ["_law_call"] []/\fU m kx (zw st) /\
  (zC st).names.lookup ("_law_call":Str)=some .local/\(zC st).names.lookup ("_law_e":Str)=some .local/\(m=false->(zC st).names.lookup ("_law_word":Str)=some .local)/\(zC st).names.lookup ("HueError":Str)=some .globalImplicit/\(zC st).names.lookup kx=some .globalImplicit
 kd:(kx == ("__debug__":Str))=false
section
variable {X:Cx}{D:Ends}{s:Shared}{E:Value->Shared->Prop}
theorem i6{st}(h:wpAny (model X.f X.w) X.A (exec st X.a) (SP X [] D) E s):wpAny (model X.f X.w) X.A (execs [st] X.a) (SP X [] D) E s:=by
 refine Ea (thn h λf s1 q=>?_);cases f with
 |next=>exact DC q
 |brk=>exact q
 |cont=>exact q
 |ret u=>exact q
theorem pP{st st2}(h:wpAny (model X.f X.w) X.A (exec st X.a) (SP X [] {D with a:=t D}) X.i s)(h2:PS X st2 t):wpAny (model X.f X.w) X.A (execs [st,st2] X.a) (SP X [] D) X.i s:=by
 refine Ea (thn h λf s1 q=>?_);cases f with
 |next=>obtain⟨σ',H',I,q⟩:=q;exact xf h2 [] s1 σ' H' D I q
 |brk=>exact q
 |cont=>exact q
 |ret u=>exact q
end
section
variable {P:Program}{w:World}{K:Ac}{mg:Str->Option Value}{base:Heap}{A:Around}{outer:List Env}{s:Shared}{H:Hp}{Q:VK}
theorem bb
 (e0:rB P w K mg base A outer s H) (hh:A.handled=none) (hdp:A.depth+1<B4) (S:fT K mg m kx f) (KF:oJ K mg kx cs ws pre) (hu:mg "HueError"=some (.ref hue)) (L:uW outer s.heap H lf c qual body lsc cl pm ctv N σ)
 (hbody:∀env s' H',PE (ud (CXE P w) P w K mg base N qual lsc lf (.ref c) cl (A.deeper env) (env::outer) s' H' EE) body tb)
 (hq:tb σ H λv H1=>Q (if m then v else .e "told") H1)
 (hE:∀cls dd H',EE cls dd H'->∃(C:Addr) (c0:Str) (i:Nat) (x:Str),cls=.ref C/\(∃Kc,vP Kc K/\exmOne Kc (.ref C) (.ref hue)=some true)/\Named K mg cs C c0/\cs[i]?=some c0/\ws[i]?=some x/\(((m=false->ans pre x≠"great")/\∀H'',xp H' H''->Q (.e (ans pre x)) H'')\/(m=false/\ans pre x="great"/\∃(D fI d:Addr) (k j:Int) (Kc:Ac),dd=some d/\H' d=some (.j (grF k j))/\wZ Kc C/\vP Kc K/\GrK Kc C D/\v9 base C (.ref D::veM) fI /\
  ∀H'' p,xp H' H''->H'' p=none->Q (.c p) (upd H'' p (.c [.e "great",.d k,.d j]))))) :
 codeAny (model P w) A (.call (.ref f) ⟨[.ref lf],[]⟩) (CR CX0 outer P w H s Q E0) s:=by
 obtain⟨st,fd,hm,Fn,Sc,hb,sh,l0,l1,l2,g0,g1⟩:=S.a;obtain⟨oc,od,kV,doc,pm',an,cdv,ct,osl,rfl,lk,hcd⟩:=Fn.a;have KX:K.In s.heap:=e0.c.a.keeps λb o e=>(e0.d b o e).1;have hbt:=hb s [.ref lf] KX rfl;refine ui (CX:=CX0) (E:=E0) (R:=CR CX0 outer P w H s Q E0) (N:=xK m) (vs:=[.c lf]) lk hcd Sc (by omega) e0 hbt rfl (.cons rfl .nil) λs1 I1 _=>?_
 rw[vT hh]at I1;obtain⟨p1,p2,p3,p4,p5,p6,p7,p8,p9,pa,pb,q1,q2,q3,q4,q5,q6,q7,q8,r1,r2,r3,r4,r5,r6,k1,k2,k3,hbd⟩:=sh;have hLam:uW (yA CX0 P w K mg base (xK m) (yK m) (zC st) f cdv A outer s H E0).k (yA CX0 P w K mg base (xK m) (yK m) (zC st) f cdv A outer s H E0).l.heap (yA CX0 P w K mg base (xK m) (yK m) (zC st) f cdv A outer s H E0).r lf c qual body lsc cl pm ctv N σ:=L;have hA:(yA CX0 P w K mg base (xK m) (yK m) (zC st) f cdv A outer s H E0).A.depth=A.depth+1:=rfl;have hlam:∀{p pos:Pos},PE ((yA CX0 P w K mg base (xK m) (yK m) (zC st) f cdv A outer s H E0).wM (XC (yA CX0 P w K mg base (xK m) (yK m) (zC st) f cdv A outer s H E0) EE)) (.Call (.Name "_law_call" p) [] [] pos) (λσ1 H1 Q=>σ1[0]?=some (some (.c lf))/\tb σ H1 Q):=λ{p pos}=>
  mJ hLam rfl (by rw[hA];exact hdp) hh (by cases m<;>rfl) (.inl l0) λs' H'=>hbody _ s' H'
 have n1:(xK m)[1]?=some ("_law_e":Str):=by cases m<;>rfl
 have fin:∀(fl:Flow) (s':Shared),SP (yA CX0 P w K mg base (xK m) (yK m) (zC st) f cdv A outer s H E0) [] {a:=λ_ _=>False,b:=Q} fl s'->CR CX0 outer P w H s Q E0 (.ok (.ret (match fl with|.ret v=>v|_=>.none))) s':=λfl s' hs=>by
  cases fl with
  |ret u=>
   obtain⟨v,σ',H',J,rv,q'⟩:=hs;exact⟨v,H',J.P,J.D,J.j,J.B,rv,q'⟩
  |next=>obtain⟨_,_,_,z⟩:=hs;exact Al z
  |brk=>obtain⟨_,_,_,z⟩:=hs;exact Al z
  |cont=>obtain⟨_,_,_,z⟩:=hs;exact Al z
 have kc:∀(a:Addr) {p p2 pos:Pos},PE ((yA CX0 P w K mg base (xK m) (yK m) (zC st) f cdv A outer s H E0).loud ((yA CX0 P w K mg base (xK m) (yK m) (zC st) f cdv A outer s H E0).A.mark (some (.ref a)))).nox (.Call (.Name kx p) [.Name "_law_e" p2] [] pos) (tKC K mg cs ws pre 1):=λa {p p2 pos}=>
  gE KF (by show A.depth+1<_;exact hdp) g1 S.kd n1 (.inl l1) (by decide) (by decide)
 have at_:∀(a:Addr) (x:Str) {p ap:Pos},PE ((yA CX0 P w K mg base (xK m) (yK m) (zC st) f cdv A outer s H E0).loud ((yA CX0 P w K mg base (xK m) (yK m) (zC st) f cdv A outer s H E0).A.mark (some (.ref a)))).nox (.Attribute (.Name "_law_e" p) x ap) (jD K base 1 x):=λa x {p ap}=>
  bF n1 (.inl l1) (by decide) (by decide)
 unfold nZ;rw[hbd];cases m with
 |true=>
  rw[if_pos rfl];refine AD (i6 (X:=yA CX0 P w K mg base (xK true) (yK true) (zC st) f cdv A outer s H E0) (D:={a:=λ_ _=>False,b:=Q}) (jG (EE:=EE) (ts:=lD (tKC K mg cs ws pre 1)) (ie:=1) I1 rfl rfl Sc.b l1 n1 rfl rfl g0 (by decide) hu (xf (wV hlam)) ⟨rfl,hq⟩ (λcls dd H' hc=>?_) λa=>xf (wV (kc a)))) fin λe s' z=>z
  obtain⟨C,c0,i,x,rfl,hx,nm,hi,hw,⟨_,qq⟩|⟨z,_⟩⟩:=hE cls dd H' hc
  case inr=>cases z
  refine⟨hx,λa oe σ2 hn hcl _ _ hl=>⟨a,oe,C,c0,i,x,?_,zL,hcl,nm,hi,hw,λH'' sm=>qq H'' ((yo hn).trans sm)⟩⟩;rw[AI (by rw[hl];exact(by decide:1<2))]
 |false=>
  rw[if_neg Ad];have n2:(xK false)[2]?=some ("_law_word":Str):=rfl;refine AD (pP (X:=yA CX0 P w K mg base (xK false) (yK false) (zC st) f cdv A outer s H E0) (D:={a:=λ_ _=>False,b:=Q}) (t:=lD (tC (.e "told"))) (jG (EE:=EE) (ts:=q0 (tJ (tKC K mg cs ws pre 1) (wG 2)) (lD (tIf (iR (tOp rEq (xm 2) (tC (.e "great")))) (V3 (xM (xm 2) (xM (jD K base 1 "many") (xM (jD K base 1 "most") tK)))) (xm 2)))) (ie:=1) I1 rfl rfl Sc.b l1 n1 rfl rfl g0 (by decide) hu (xf (uw hlam)) ⟨rfl,hq⟩ (λcls dd H' hc=>?_) λa=>?_) (wV sN)) fin λe s' z=>z
  . obtain⟨C,c0,i,x,rfl,hx,nm,hi,hw,alt⟩:=hE cls dd H' hc
    refine⟨hx,λa oe σ2 hn hcl hdd hnc hl=>⟨a,oe,C,c0,i,x,?_,zL,hcl,nm,hi,hw,λH'' sm=>?_⟩⟩
    . rw[AI (by rw[hl];exact(by decide:1<3))]
    . have e2:((σ2.set 1 (some (V.c a))).set 2 (some (V.e (ans pre x))))[2]?=some (some (.e (ans pre x))):=by rw[AI (by rw[Cz,hl];exact(by decide:2<3))]
      refine⟨_,e2,rfl,_,rfl,?_⟩;rcases alt with⟨ng,qq⟩|⟨_,hg,D,fI,d,k,j,Kc,rfl,hd,F,sub,G,cG,qq⟩
      . have hne:¬(V.e (ans pre x)=V.e "great"):=λz=>ng rfl (V.e.inj z)
        rw[decide_eq_false hne];exact rE ⟨_,e2,qq H'' ((yo hn).trans sm)⟩
      . have e1:((σ2.set 1 (some (V.c a))).set 2 (some (V.e (ans pre x))))[1]?=some (some (.c a)):=by rw[Bq (by decide),AI (by rw[hl];exact(by decide:1<3))]
        have ha:=sm a _ zL;have hd':=sm d (.j (grF k j)) (by rw[zJ (zP hd hn)];exact hd)
        rw[decide_eq_true (by rw[hg])]
        refine qt ⟨_,e2,a,C,D,d,fI,oe,_,k,Kc,e1,ha,hcl,hnc,hdd,hd',rfl,F,sub,G.a,cG,a,C,D,d,fI,oe,_,j,Kc,e1,ha,hcl,hnc,hdd,hd',rfl,F,sub,G.b,cG,by show 3<=Am;rw[AK];decide,λp hp=>?_⟩
        rw[hg];exact qq _ p ((yo hn).trans sm) hp
  . have vw:Vis (zC st) "_law_word":=.inl (l2 rfl)
    have pw:∀{X':Cx} {p:Pos},X'.N=xK false->X'.a.scope=zC st->PE X' (.Name "_law_word" p) (xm 2):=λ{X' p} h1 h2=>xt (by rw[h1];exact n2) (by rw[h2];exact vw) (by decide) (by decide)
    exact yJ (vh Sc.b n2 (.inl (l2 rfl)) (kc a) (hf:=.inr (l2 rfl))) (xf (wV (bA (nJ XJ (pw rfl rfl) sN (qR _ (by decide) (by decide))) (kf (yE (pw rfl rfl) (yE (at_ a "many") (yE (at_ a "most") yk)))) (pw rfl rfl))))
end
end L2
end
section
namespace L2
open PySem PySem.W PySem.Spec PySem.Calls PyProof PyProof.Rows
noncomputable def xD:List Str:=["_law_call","_law_e"]
def jW(body:List Stmt):Prop:=∃(p1 p2 p3 p4 p5 p6 p7 p8 p9 pa pb pc pd pe:Pos) (k1 k2:Nat),body =
 [.Try [.Expr (.Call (.Name "_law_call" p1) [] [] p2) p3] [.ExceptHandler (some (.Name "TooGreat" p4)) (some "_law_e") [.Return (some (.Tuple [.Attribute (.Name "_law_e" p5) "many" p6,.Attribute (.Name "_law_e" p7) "most" p8] k1 p9)) pa] pb] [] [] pc,
  .Return (some (.Constant .none k2 pd)) pe]
structure vv(K:Ac)(mg:Str->Option Value)(f:Addr):Prop where
 ex:∃(st:Stmt) (fd:Bn),mg "_law_great"=some (.ref f)/\Fun K "_law_great" "_law_great" st f fd/\xa xD ["_law_call"] (zC st)/\Binds K fd ["_law_call"] []/\jW (zw st) /\
  (zC st).names.lookup ("_law_call":Str)=some .local/\(zC st).names.lookup ("_law_e":Str)=some .local/\(zC st).names.lookup ("TooGreat":Str)=some .globalImplicit
section
variable {P:Program}{w:World}{K:Ac}{mg:Str->Option Value}{base:Heap}{A:Around}{outer:List Env}{s:Shared}{H:Hp}{Q:VK}
theorem i8
 (e0:rB P w K mg base A outer s H) (hh:A.handled=none) (hdp:A.depth+1<B4) (S:vv K mg f) (hu:mg "TooGreat"=some (.ref gre)) (L:uW outer s.heap H lf c qual body lsc cl pm ctv N σ)
 (hbody:∀env s' H',PE (ud (CXE P w) P w K mg base N qual lsc lf (.ref c) cl (A.deeper env) (env::outer) s' H' EE) body tb)
 (hq:tb σ H λ_ H1=>Q .g H1)
 (hE:∀cls dd H',EE cls dd H'->∃C D fI d i j Kc,cls=.ref C/\dd=some d/\(∃Kc,vP Kc K/\exmOne Kc (.ref C) (.ref gre)=some true)/\H' d=some (.j (grF i j))/\wZ Kc C/\vP Kc K/\GrK Kc C D/\v9 base C (.ref D::veM) fI /\
  ∀H'' p,xp H' H''->H'' p=none->Q (.c p) (upd H'' p (.c [.d i,.d j]))) :
 codeAny (model P w) A (.call (.ref f) ⟨[.ref lf],[]⟩) (CR CX0 outer P w H s Q E0) s:=by
 obtain⟨st,fd,hm,Fn,Sc,hb,sh,l0,l1,g0⟩:=S.ex;obtain⟨oc,od,kV,doc,pm',an,cdv,ct,osl,rfl,lk,hcd⟩:=Fn.a;have KX:K.In s.heap:=e0.c.a.keeps λb o e=>(e0.d b o e).1;have hbt:=hb s [.ref lf] KX rfl;refine ui (CX:=CX0) (E:=E0) (R:=CR CX0 outer P w H s Q E0) (N:=xD) (vs:=[.c lf]) lk hcd Sc (by omega) e0 hbt rfl (.cons rfl .nil) λs1 I1 _=>?_
 rw[vT hh]at I1;obtain⟨p1,p2,p3,p4,p5,p6,p7,p8,p9,pa,pb,pc,pd,pe,k1,k2,hbd⟩:=sh;have hLam:uW (yA CX0 P w K mg base xD "_law_great" (zC st) f cdv A outer s H E0).k (yA CX0 P w K mg base xD "_law_great" (zC st) f cdv A outer s H E0).l.heap (yA CX0 P w K mg base xD "_law_great" (zC st) f cdv A outer s H E0).r lf c qual body lsc cl pm ctv N σ:=L;have hA:(yA CX0 P w K mg base xD "_law_great" (zC st) f cdv A outer s H E0).A.depth=A.depth+1:=rfl;have hlam:∀{p pos:Pos},PE ((yA CX0 P w K mg base xD "_law_great" (zC st) f cdv A outer s H E0).wM (XC (yA CX0 P w K mg base xD "_law_great" (zC st) f cdv A outer s H E0) EE)) (.Call (.Name "_law_call" p) [] [] pos) (λσ1 H1 Q=>σ1[0]?=some (some (.c lf))/\tb σ H1 Q):=λ{p pos}=>
  mJ hLam rfl (by rw[hA];exact hdp) hh rfl (.inl l0) λs' H'=>hbody _ s' H'
 have n1:xD[1]?=some ("_law_e":Str):=rfl;have fin:∀(fl:Flow) (s':Shared),SP (yA CX0 P w K mg base xD "_law_great" (zC st) f cdv A outer s H E0) [] {a:=λ_ _=>False,b:=Q} fl s'->CR CX0 outer P w H s Q E0 (.ok (.ret (match fl with|.ret v=>v|_=>.none))) s':=λfl s' hs=>by
  cases fl with
  |ret u=>
   obtain⟨v,σ',H',J,rv,q'⟩:=hs;exact⟨v,H',J.P,J.D,J.j,J.B,rv,q'⟩
  |next=>obtain⟨_,_,_,z⟩:=hs;exact Al z
  |brk=>obtain⟨_,_,_,z⟩:=hs;exact Al z
  |cont=>obtain⟨_,_,_,z⟩:=hs;exact Al z
 have at_:∀(a:Addr) (x:Str) {p ap:Pos},PE ((yA CX0 P w K mg base xD "_law_great" (zC st) f cdv A outer s H E0).loud ((yA CX0 P w K mg base xD "_law_great" (zC st) f cdv A outer s H E0).A.mark (some (.ref a)))).nox (.Attribute (.Name "_law_e" p) x ap) (jD K base 1 x):=λa x {p ap}=>
  bF n1 (.inl l1) (by decide) (by decide)
 unfold nZ;rw[hbd];refine AD (pP (X:=yA CX0 P w K mg base xD "_law_great" (zC st) f cdv A outer s H E0) (D:={a:=λ_ _=>False,b:=Q}) (t:=lD (tC .g)) (jG (EE:=EE) (ts:=lD (V3 (xM (jD K base 1 "many") (xM (jD K base 1 "most") tK)))) (ie:=1) I1 rfl rfl Sc.b l1 n1 rfl rfl g0 (by decide) hu (xf (uw hlam)) ⟨rfl,hq⟩ (λcls dd H' hc=>?_) λa=>xf (wV (kf (yE (at_ a "many") (yE (at_ a "most") yk))))) (wV bD)) fin λe s' z=>z
 obtain⟨C,D,fI,d,i,j,Kc,rfl,rfl,hx,hd,F,sub,G,cG,qq⟩:=hE cls dd H' hc;refine⟨hx,λa oe σ2 hn hcl hdd hnc hl=>?_⟩;have e1:(σ2.set 1 (some (V.c a)))[1]?=some (some (.c a)):=by rw[AI (by rw[hl];exact(by decide:1<2))]
 have hd':upd H' a (.e oe (.d 0)) d=some (.j (grF i j)):=by rw[zJ (zP hd hn)];exact hd
 refine⟨a,C,D,d,fI,oe,_,i,Kc,e1,zL,hcl,hnc,hdd,hd',rfl,F,sub,G.a,cG,a,C,D,d,fI,oe,_,j,Kc,e1,zL,hcl,hnc,hdd,hd',rfl,F,sub,G.b,cG,by show 2<=Am;rw[AK];decide,λp hp=>qq _ p (yo hn) hp⟩
end
end L2
end
section
namespace M
open PySem
inductive Val where
 |h|e (b:Bool)|c (i:Int)|g (x:Str)
 |f (vs:List Val)|m (vs:List Val)|p
 |o (ns:List Int)|r (ns:List Int)
 |j (i:Nat)|u (x:Str)|t (n:String)|q (i:Nat)
 /-- the k-th lambda of a list of lambdas,at the address a -/
 |s (a k:Nat)
 deriving Inhabited
inductive Cel where
 |c (vs:List Val)
 |e (kvs:List (Str × Val))
 |f (kvs:List (List Int × Val))
 /-- the table of the codes that lie within the def x -/
 |d (x:Str)
 deriving Inhabited
abbrev Sto:=List Cel
abbrev Env:=List (Option Val)
inductive Out(α:Type) where
 |e (a:α) (s:Sto)
 |g (c:Str) (args:List Val) (s:Sto)
 |d
noncomputable def Out.bind{α β:Type}(o:Out α)(f:α->Sto->Out β):Out β:=
 match o with
 |.e a s=>f a s
 |.g c as s=>.g c as s
 |.d=>.d
@[simp] theorem zQ a s(f:α->Sto->Out β):(Out.e a s).bind f=f a s:=rfl
@[simp] theorem wu(f:α->Sto->Out β):(Out.d:Out α).bind f=.d:=rfl
@[simp] theorem rY c as s(f:α->Sto->Out β):(Out.g c as s:Out α).bind f=.g c as s:=rfl
mutual
noncomputable def Val.isD:Val->Bool
 |.h|.e _|.c _=>true
 |.g x=>PyData.strOk x
 |.f vs=>qH vs
 |.m vs=>qH vs
 |.p|.o _|.r _|.j _|.u _|.t _|.q _|.s _ _=>false
noncomputable def qH:List Val->Bool
 |[]=>true
 |v::vs=>v.isD&&qH vs
end
mutual
noncomputable def Val.isR:Val->Bool
 |.h|.e _|.c _|.g _|.p=>true
 |.f vs=>rD vs
 |.m vs=>rD vs
 |.o _|.r _|.j _|.u _|.t _|.q _|.s _ _=>false
noncomputable def rD:List Val->Bool
 |[]=>true
 |v::vs=>v.isR&&rD vs
end
mutual
noncomputable def Val.d:Val->PyData
 |.h=>.none
 |.e b=>.bool b
 |.c i=>.int i
 |.g x=>.str x
 |.f vs=>.tuple (ds vs)
 |.m vs=>.list (ds vs)
 |.p=>.dict []
 |.o _|.r _|.j _|.u _|.t _|.q _|.s _ _=>.none
noncomputable def ds:List Val->List PyData
 |[]=>[]
 |v::vs=>v.d::ds vs
end
mutual
noncomputable def Val.noRef:Val->Bool
 |.j _|.q _=>false
 |.f vs=>zy vs
 |.m vs=>zy vs
 |.h|.e _|.c _|.g _|.p|.o _|.r _|.u _|.t _|.s _ _=>true
noncomputable def zy:List Val->Bool
 |[]=>true
 |v::vs=>v.noRef&&zy vs
end
def Cel.noRef:Cel->Bool
 |.c vs=>zy vs
 |.e kvs=>zy (kvs.map (·.2))
 |.f kvs=>zy (kvs.map (·.2))
 |.d _=>true
mutual
noncomputable def Val.beq:Val->Val->Bool
 |.h,.h=>true
 |.e a,.e b=>a == b
 |.c a,.c b=>a == b
 |.g a,.g b=>a == b
 |.f a,.f b=>tm a b
 |.m a,.m b=>tm a b
 |.p,.p=>true
 |.o a,.o b=>a == b
 |.r a,.r b=>a == b
 |.j a,.j b=>a == b
 |.u a,.u b=>a == b
 |.t a,.t b=>a == b
 |.q a,.q b=>a == b
 |.s a k,.s b l=>a == b&&k == l
 |_,_=>false
noncomputable def tm:List Val->List Val->Bool
 |[],[]=>true
 |a::as,b::bs=>a.beq b&&tm as bs
 |_,_=>false
end
def Cel.beq:Cel->Cel->Bool
 |.c a,.c b=>tm a b
 |.e a,.e b=>decide (a.map (·.1)=b.map (·.1))&&tm (a.map (·.2)) (b.map (·.2))
 |.f a,.f b=>decide (a.map (·.1)=b.map (·.1))&&tm (a.map (·.2)) (b.map (·.2))
 |.d a,.d b=>decide (a=b)
 |_,_=>false
def wI:Sto->Sto->Bool
 |[],_=>true
 |o::r,o'::r'=>(o'.noRef||o'.beq o)&&wI r r'
 |_::_,[]=>false
mutual
noncomputable def wz(n0:Nat)(s:Sto):Nat->Val->Option Val
 |_,.q i=>if i<n0 then some (.q i) else dS
 |_,.j i=>if i<n0 then some (.j i) else match s[i]? with
  |some (.c vs)=>if zy vs then some (.m vs) else dS
  |_=>dS
 |k+1,.f vs=>(uk n0 s k vs).map .f
 |_,v=>if v.noRef then some v else dS
noncomputable def uk(n0:Nat)(s:Sto):Nat->List Val->Option (List Val)
 |_,[]=>some []
 |0,_::_=>dS
 |k+1,v::vs=>match (if v.noRef then some v else wz n0 s k v),uk n0 s k vs with
  |some v',some vs'=>some (v'::vs')
  |_,_=>dS
end
def freeze(n0:Nat)(s:Sto)(v:Val):Option Val:=if v.noRef then some v else wz n0 s 20 v
inductive Bop|b|f|a|d|c|e|h|i|g
 deriving DecidableEq
inductive Cop|b|e|l|h|a|i|m|f|k|g|j|c|d
 deriving DecidableEq
inductive Bf|b|p|q|c|l|h|a|i|j|s|o|k|g|r|d|n|e|m
 deriving DecidableEq
inductive Mf|c|a|b|f|d|e
 deriving DecidableEq
inductive Tgt
 |a (i:Nat)
 |b (is:List Nat)
mutual
inductive Ex
 |g (v:Val)|e (i:Nat)|E (x:Str)|K (x:Str) (n:String)
 |j (m:Bool) (op:Bop) (a b:Ex)|A (a:Ex)|F (a:Ex)
 |p (op:Cop) (a b:Ex)|r (op op':Cop) (a b c:Ex)
 |w (a:Ex) (es:Exs)|H (a:Ex) (es:Exs)|G (c:Cn) (a b:Ex)
 |y (es:Exs)|s (m:Bool) (es:Exs)|B
 |h (f:Str) (ver:Nat) (es:Exs)|k (f:Bf) (m:Bool) (es:Exs)|D (a d:Ex)
 |J (f:Mf) (m:Bool) (o:Ex) (es:Exs)
 |u (a b:Ex)|L (m:Bool) (a:Ex) (lo hi st:OEx)
 |q (m:Bool) (N:List Str) (fr:List (Option Nat)) (elt:Ex) (t:Tgt) (it:Itb) (ifs:Cns)
 |z (m:Bool) (N:List Str) (fr:List (Option Nat)) (elt:Ex) (t:Tgt) (it:Itb) (ifs:Cns) (t2:Tgt) (it2:Itb) (ifs2:Cns)
 |l (m:Bool) (a b c:Ex)
 |C (t:Bool)|I (a b:Ex)
inductive Exs
 |b|a (e:Ex) (es:Exs)
inductive OEx
 |b|a (e:Ex)
inductive Cn
 |a (e:Ex)|b (c:Cn)|d (c:Cn) (cs:Cns)|f (c:Cn) (cs:Cns)
inductive Cns
 |b|a (c:Cn) (cs:Cns)
inductive Itb
 |g (e:Ex)|d (a:Ex)|f (a b:Ex)|i (e:Ex)|j (a b:Ex)|h (a b c:Ex)
end
mutual
inductive Sm
 |d (e:Ex)|g (e:Ex)|s|f (i:Nat) (e:Ex)|n (is:List Nat) (e:Ex)|q (is:List Nat) (es:Exs)
 |w (i:Nat) (op:Bop) (e:Ex)|k (o i e:Ex)
 |h (c:Cn) (a b:Sms)|l (t:Tgt) (it:Itb) (b:Sms)|m (c:Cn) (b:Sms)
 |r|v|p|j (e:Ex)|u (o i e:Ex)
inductive Sms
 |f|e (s:Sm) (ss:Sms)
 /-- x=[lambda: ..];x.append(lambda: ..) ..;mid;then a row with [_law_said(c) for c in x];k: 0 it is returned,1 it is returned whether it is d,2 if it is not d (or o): b -/
 |g (i:Nat) (L:Exs) (mid:Sms) (k:Nat) (d:Ex) (o:Cns) (b cs:Sms)
end
structure Fn where
 N:List Str
 b:List Str
 c:Bool
 a:Sms
abbrev Calls:=Str->Nat->List Val->Sto->Out Val
noncomputable def zb:Nat:=16777216
noncomputable def newList(m:Bool)(vs:List Val)(s:Sto):Out Val:=if m then .e (.j s.length) (s++[.c vs]) else .e (.m vs) s
noncomputable def xy(s:Sto):Val->Option (List Val)
 |.f vs=>some vs
 |.m vs=>some vs
 |.o ns=>some (ns.map .c)
 |.r ns=>some (ns.map .c)
 |.j i=>match s[i]? with
  |some (.c vs)=>some vs
  |_=>dS
 |_=>dS
noncomputable def yY(s:Sto):Val->Option (List Val)
 |.m vs=>some vs
 |.j i=>match s[i]? with
  |some (.c vs)=>some vs
  |_=>dS
 |_=>dS
def truth(s:Sto):Val->Option Bool
 |.h=>some false
 |.e b=>some b
 |.c i=>some (i != 0)
 |.g x=>if x.length<=zb then some ((x.length:Int) != 0) else dS
 |.f vs=>some !vs.isEmpty
 |.m vs=>some !vs.isEmpty
 |.p=>some false
 |.j i=>match s[i]? with
  |some (.c vs)=>some !vs.isEmpty
  |_=>dS
 |_=>dS
def Out.truth(o:Out Val):Out Bool:=o.bind λv s=>match M.truth s v with
 |some b=>.e b s
 |dS=>.d
noncomputable def yq(s:Sto):Val->Val
 |.j i=>match s[i]? with
  |some (.c vs)=>.m vs
  |_=>.j i
 |v=>v
def zl(s:Sto):Val->Val
 |.f vs=>.f (vs.map (yq s))
 |v=>yq s v
def vf(d:PyData):Bool:=d.showable&&d.leavesShort 40&&decide (d.depth<=50)&&decide (d.weight<=300000)&&(!d.hasDict||!L2.xF d)
noncomputable def flat:Val->Bool
 |.h|.e _|.c _|.g _=>true
 |_=>false
noncomputable def eqF:Val->Val->Bool
 |.h,.h=>true
 |.e a,.e b=>a == b
 |.e a,.c b=>(if a then 1 else 0) == b
 |.c a,.e b=>a == (if b then 1 else 0)
 |.c a,.c b=>a == b
 |.g a,.g b=>a == b
 |_,_=>false
def rq(a b:Val):Option Bool:=if a.isD&&b.isD&&decide (b.d.depth<=60) then some (Dt a.d b.d) else dS
noncomputable def intsOf:List Val->Option (List Int)
 |[]=>some []
 |.c i::vs=>(intsOf vs).map (i::·)
 |_=>dS
noncomputable def Val.isN:Val->Bool
 |.h=>true
 |_=>false
def inD(x:Val)(vs:List Val):Bool:=x.isD&&qH vs&&decide (x.d.depth<=60)
noncomputable def ZC{κ:Type} [DecidableEq κ]:List (κ × Val)->κ->Option Val
 |[],_=>dS
 |p::r,k=>if p.1=k then some p.2 else ZC r k
def UX{κ:Type} [DecidableEq κ] (kvs:List (κ × Val))(k:κ)(v:Val):List (κ × Val):=
 if (ZC kvs k).isSome then kvs.map (λp=>if p.1=k then (p.1,v) else p) else kvs++[(k,v)]
noncomputable def Y0(s:Sto):Val->Option (Nat × Cel)
 |.q i=>(s[i]?).map λc=>(i,c)
 |_=>dS
def X3:Cel->Val->Option (Option Val)
 |.e kvs,.g k=>some (ZC kvs k)
 |.f kvs,.f vs=>(intsOf vs).map λk=>ZC kvs k
 |_,_=>dS
def X4:Cel->Val->Val->Option Cel
 |.e kvs,.g k,v=>if kvs.length<zb then some (.e (UX kvs k v)) else dS
 |.f kvs,.f vs,v=>(intsOf vs).bind λk=>if kvs.length<zb then some (.f (UX kvs k v)) else dS
 |_,_,_=>dS
def getD(d y:Val)(s:Sto):Option (Option Val):=(Y0 s d).bind λc=>X3 c.2 y
def ixD(d y:Val)(s:Sto):Out Val:=match getD d y s with
 |some (some v)=>.e v s
 |_=>.d
def putD(d y v:Val)(s:Sto):Option Sto:=(Y0 s d).bind λc=>(X4 c.2 y v).map λc'=>s.set c.1 c'
noncomputable def strsOf:List Val->Option (List Str)
 |[]=>some []
 |.g x::vs=>(strsOf vs).map (x::·)
 |_=>dS
def zV(op:Cop)(x y:Val)(s:Sto):Out Val:=
 match op with
 |.b=>match x,y with
  |.g a,.g b=>.e (.e (decide (a=b))) s
  |.f a,.o ns=>match rq (zl s (.f a)) (.f (ns.map .c)) with|some b=>.e (.e b) s|dS=>.d
  |_,_=>match rq (zl s x) (zl s y) with|some b=>.e (.e b) s|dS=>.d
 |.e=>match x,y with
  |.g a,.g b=>.e (.e !(decide (a=b))) s
  |_,_=>match rq (zl s x) (zl s y) with|some b=>.e (.e !b) s|dS=>.d
 |.m=>match y with|.h=>.e (.e x.isN) s|.e b=>(match x with|.e a=>.e (.e (decide (a=b))) s|_=>.d)|_=>.d
 |.f=>match y with|.h=>.e (.e !x.isN) s|.e b=>(match x with|.e a=>.e (.e !(decide (a=b))) s|_=>.d)|_=>.d
 |.k=>match xy s y with
  |some vs=>if flat x&&vs.all flat then .e (.e (vs.any λz=>eqF z x)) s else if inD x vs then .e (.e (vs.any λz=>Dt z.d x.d)) s else .d
  |dS=>.d
 |.g=>match xy s y with
  |some vs=>if flat x&&vs.all flat then .e (.e !(vs.any λz=>eqF z x)) s else if inD x vs then .e (.e !(vs.any λz=>Dt z.d x.d)) s else .d
  |dS=>.d
 |.j=>match getD y x s with|some o=>.e (.e o.isSome) s|dS=>.d
 |.c=>match getD y x s with|some o=>.e (.e !o.isSome) s|dS=>.d
 |.d=>match x with
  |.p=>(match xy s y with
   |some vs=>(match M.intsOf vs with|some _=>.e (.e true) s|dS=>.d)
   |dS=>.d)
  |_=>(match xy s y with
   |some vs=>if flat x&&vs.all flat then .e (.e !(vs.any λz=>eqF z x)) s else if inD x vs then .e (.e !(vs.any λz=>Dt z.d x.d)) s else .d
   |dS=>.d)
 |.l=>match x,y with|.c i,.c j=>.e (.e (decide (i<j))) s|_,_=>.d
 |.h=>match x,y with|.c i,.c j=>.e (.e (decide (i<=j))) s|_,_=>.d
 |.a=>match x,y with|.c i,.c j=>.e (.e (decide (j<i))) s|_,_=>.d
 |.i=>match x,y with|.c i,.c j=>.e (.e (decide (j<=i))) s|_,_=>.d
def binOp(m:Bool)(op:Bop)(x y:Val)(s:Sto):Out Val:=
 match op with
 |.b=>match x,y with
  |.c i,.c j=>.e (.c (i+j)) s
  |.g a,.g b=>if a.length+b.length<=zb then .e (.g (a++b)) s else .d
  |.f a,.f b=>if a.length+b.length<=zb then .e (.f (a++b)) s else .d
  |_,_=>match yY s x,yY s y with
   |some a,some b=>if a.length+b.length<=zb then newList m (a++b) s else .d
   |_,_=>.d
 |.f=>match x,y with|.c i,.c j=>.e (.c (i-j)) s|_,_=>.d
 |.a=>match x,y with
  |.c i,.c j=>if (-(2 ^ 64)<i/\i<2 ^ 64)\/(-(2 ^ 64)<j/\j<2 ^ 64) then .e (.c (i*j)) s else .d
  |.f a,.c k=>if -1000<=k/\k<=1000/\a≠[]/\a.length<=1000 then .e (.f (Ao k.toNat a).flatten) s else .d
  |_,.c k=>match yY s x with
   |some a=>if -1000<=k/\k<=1000/\a.length*k.toNat<=zb then newList m (Ao k.toNat a).flatten s else .d
   |dS=>.d
  |_,_=>.d
 |.d=>match x,y with|.c i,.c j=>if 0<j/\j<1073741824 then .e (.c (i/j)) s else .d|_,_=>.d
 |.c=>match x,y with|.c i,.c j=>if 0<j then .e (.c (i%j)) s else .d|_,_=>.d
 |.e=>match x,y with|.c i,.c j=>if 0<=j/\j<=1000000/\i.natAbs<2 ^ 64 then .e (.c (i ^ j.toNat)) s else .d|_,_=>.d
 |.h=>match x,y with|.c i,.c j=>if 0<=j/\j<=1000000/\i.natAbs<2 ^ 64 then .e (.c (i*2 ^ j.toNat)) s else .d|_,_=>.d
 |.i=>match x,y with|.c i,.c j=>if 0<=j then .e (.c (i/2 ^ j.toNat)) s else .d|_,_=>.d
 |.g=>match x,y with|.c i,.c j=>.e (.c (Builtin.bitAnd i j)) s|_,_=>.d
noncomputable def kindOf:Val->Option L2.Kd
 |.h=>some .f
 |.e _=>some .i
 |.c _=>some .b
 |.g _=>some .h
 |.f _=>some .d
 |.m _=>some .e
 |.p=>some .g
 |.j _=>some .e
 |_=>dS
noncomputable def uN:String->Option L2.Kd
 |"bool"=>some .i
 |"int"=>some .b
 |"str"=>some .h
 |"list"=>some .e
 |"tuple"=>some .d
 |"dict"=>some .g
 |_=>dS
noncomputable def boolsOf:List Val->Option (List Bool)
 |[]=>some []
 |.e b::vs=>(boolsOf vs).map (b::·)
 |_=>dS
noncomputable def pairsOf:List Val->Option (List (Int × Int))
 |[]=>some []
 |.f [.c a,.c b]::vs=>(pairsOf vs).map ((a,b)::·)
 |_=>dS
noncomputable def prV(z:Int × Int):Val:=.f [.c z.1,.c z.2]
def Ur(z:Int × Int):List (Int × Int)->List (Int × Int)
 |[]=>[z]
 |y::ys=>if L2.Yz z<=L2.Yz y then z::y::ys else y::Ur z ys
def Xb:List (Int × Int)->List (Int × Int)
 |[]=>[]
 |z::zs=>Ur z (Xb zs)
def nV:List Val->Option (List (List Int))
 |[]=>some []
 |.f a::vs=>match intsOf a,nV vs with
  |some z,some zs=>some (z::zs)
  |_,_=>dS
 |_=>dS
noncomputable def tpV(z:List Int):Val:=.f (z.map .c)
noncomputable def tpS(x:Str)(z:List Int):Val:=.f (.g x::z.map .c)
def Xk(x:Str):List Val->Option (List (List Int))
 |[]=>some []
 |.f (.g y::a)::vs=>if y=x then (match intsOf a,Xk x vs with
  |some z,some zs=>some (z::zs)
  |_,_=>dS) else dS
 |_=>dS
noncomputable def XB:List Val->Str
 |.f (.g x::_)::_=>x
 |_=>""
def bu(m:Bool)(vs:List Val)(s:Sto):Out Val:=match nV vs with
 |some zs=>if zs.Nodup/\(zs.length<2\/∀z∈zs,z≠[]) then newList m ((L2.Xc zs).map tpV) s else .d
 |dS=>.d
def SI(zs:List (List Int)):Bool:=decide (zs.length<2)||match zs with
 |[]=>true
 |z::_=>decide (0<z.length)&&zs.all (λy=>decide (y.length=z.length))&&(AY (zs.length-1)).all λi=>!L2.U8 (zs.getD (i+1) []) (zs.getD i [])
def Vp(m:Bool)(vs:List Val)(s:Sto):Out Val:=match nV vs with
 |some zs=>if SI zs then newList m vs s else .d
 |dS=>.d
noncomputable def insI(z:Int):List Int->List Int
 |[]=>[z]
 |y::ys=>if z<=y then z::y::ys else y::insI z ys
def sortI:List Int->List Int
 |[]=>[]
 |z::zs=>insI z (sortI zs)
def blt(f:Bf)(m:Bool)(xs:List Val)(s:Sto):Out Val:=
 match f with
 |.b=>match xs with
  |[.g x]=>if x.length<=zb then .e (.c x.length) s else .d
  |[x]=>match xy s x with|some vs=>.e (.c vs.length) s|dS=>.d
  |_=>.d
 |.p=>match xs with
  |[x]=>match yY s x with|some vs=>(match boolsOf vs with|some bs=>.e (.e (bs.all id)) s|dS=>.d)|dS=>.d
  |_=>.d
 |.q=>match xs with
  |[x]=>match yY s x with|some vs=>(match boolsOf vs with|some bs=>.e (.e (bs.any id)) s|dS=>.d)|dS=>.d
  |_=>.d
 |.c=>match xs with
  |[.f vs]=>.e (.f vs) s
  |[x]=>match yY s x with|some vs=>.e (.f vs) s|dS=>.d
  |_=>.d
 |.l=>match xs with
  |[x]=>match xy s x with|some vs=>newList m vs s|dS=>.d
  |_=>.d
 |.a=>match xs with
  |[x]=>if (zl s x).isR&&vf (zl s x).d then .e (.g (zl s x).d.shown) s else .d
  |_=>.d
 |.i=>match xs with
  |[.c i,.c j]=>.e (.c (if j > i then j else i)) s
  |[.f vs]=>(match M.intsOf vs with|some ns=>if ns≠[] then .e (.c (L2.xw 0 ns)) s else .d|dS=>.d)
  |[x]=>match yY s x with|some vs=>(match M.intsOf vs with|some ns=>if ns≠[] then .e (.c (L2.xw 0 ns)) s else .d|dS=>.d)|dS=>.d
  |_=>.d
 |.j=>match xs with
  |[.c i,.c j]=>.e (.c (if j<i then j else i)) s
  |[.f vs]=>(match M.intsOf vs with|some ns=>if ns≠[] then .e (.c (L2.vZ 0 ns)) s else .d|dS=>.d)
  |[x]=>match yY s x with|some vs=>(match M.intsOf vs with|some ns=>if ns≠[] then .e (.c (L2.vZ 0 ns)) s else .d|dS=>.d)|dS=>.d
  |_=>.d
 |.o=>match xs with
  |[.c i]=>.e (.c i) s
  |[.e b]=>.e (.c (if b then 1 else 0)) s
  |_=>.d
 |.k=>match xs with
  |[x,.t n]=>match kindOf x,uN n with|some a,some c=>.e (.e (a.sub c)) s|_,_=>.d
  |_=>.d
 |.g=>match xs with
  |[.c i,.c j]=>if 0<j/\j<1073741824 then .e (.f [.c (i/j),.c (i%j)]) s else .d
  |_=>.d
 |.r=>match xs with
  |[.c i]=>if i.natAbs.log2<1920 then .e (.g (toString i)) s else .d
  |_=>.d
 |.s=>match xs with
  |[x]=>match yY s x with|some vs=>(match M.intsOf vs with|some ns=>if L2.Se ns then .e (.c ns.sum) s else .d|dS=>.d)|dS=>.d
  |_=>.d
 |.h=>match xs with
  |[x]=>match yY s x with
   |some vs=>(match pairsOf vs with
    |some zs=>if zs.Nodup/\∀z∈zs,0<=z.2/\z.2<1000 then newList m ((Xb zs).map prV) s else bu m vs s
    |dS=>bu m vs s)
   |dS=>.d
  |_=>.d
 |.n=>match xs with
  |[x]=>match yY s x with|some vs=>(match nV vs with|some zs=>if zs≠[] then .e (tpV (L2.TK zs)) s else .d|dS=>.d)|dS=>.d
  |_=>.d
 |.m=>match xs with
  |[x]=>match yY s x with|some vs=>(match Xk (XB vs) vs with|some zs=>if zs≠[] then .e (tpS (XB vs) (L2.TK zs)) s else .d|dS=>.d)|dS=>.d
  |_=>.d
 |.e=>match xs with
  |[x]=>match yY s x with|some vs=>Vp m vs s|dS=>.d
  |_=>.d
 |.d=>match xs with
  |[x]=>match xy s x with|some vs=>(match M.intsOf vs with|some ns=>if ns.length<64 then newList m ((sortI ns).map .c) s else .d|dS=>.d)|dS=>.d
  |_=>.d
def mxD(x y:Val)(s:Sto):Out Val:=match y with
 |.c k=>(match yY s x with|some vs=>(match M.intsOf vs with|some ns=>.e (.c (L2.xw k ns)) s|dS=>.d)|dS=>.d)
 |_=>.d
noncomputable def upd(s:Sto)(i:Nat)(vs:List Val):Sto:=s.set i (.c vs)
def xk(f:Mf)(o:Val)(xs:List Val)(s:Sto):Out Val:=
 match f with
 |.c=>match o,xs with
  |.f vs,[y]=>if flat y&&vs.all flat then .e (.c (vs.countP λz=>eqF z y:Nat)) s else .d
  |_,[y]=>match yY s o with|some vs=>if flat y&&vs.all flat then .e (.c (vs.countP λz=>eqF z y:Nat)) s else .d|dS=>.d
  |_,_=>.d
 |.a=>match o,xs with
  |.j i,[y]=>match s[i]? with|some (.c vs)=>if vs.length<zb then .e .h (upd s i (vs++[y])) else .d|_=>.d
  |_,_=>.d
 |.b=>match o,xs with
  |.j i,[y]=>match s[i]?,yY s y with|some (.c vs),some ws=>if vs.length+ws.length<=zb then .e .h (upd s i (vs++ws)) else .d|_,_=>.d
  |_,_=>.d
 |.f=>match o,xs with
  |.j i,[.c k]=>(match s[i]? with
   |some (.c vs)=>if -(2 ^ 63)<=k/\k<2 ^ 63 then (match seqIndex? k vs.length with
    |some j=>(match vs[j]? with|some y=>.e y (upd s i (vs.eraseIdx j))|dS=>.d)
    |dS=>.d) else .d
   |_=>.d)
  |_,_=>.d
 |.d=>match o,xs with
  |.f vs,[y]=>if flat y&&vs.all flat then (match vs.findIdx? λz=>eqF z y with|some j=>.e (.c (j:Nat)) s|dS=>.d) else .d
  |_,_=>.d
 |.e=>match o,xs with
  |.g z,[y]=>(match yY s y with
   |some vs=>(match strsOf vs with|some ys=>if (ys.map (·.length)).sum+ys.length*z.length<=16777216 then .e (.g (L2.U4 z ys)) s else .d|dS=>.d)
   |dS=>.d)
  |_,_=>.d
def vQ(a b:Val)(s:Sto):Out Val:=
 match b with
 |.c i=>match xy s a with|some vs=>(match L2.atI vs i with|some v=>.e v s|dS=>.d)|dS=>.d
 |_=>.d
def t7{α:Type}(xs:List α)(lo hi:Option Int):List α:=(xs.drop (HT.sIx xs.length 0 lo)).take (HT.sIx xs.length xs.length hi-HT.sIx xs.length 0 lo)
def qv(m:Bool)(a:Val)(lo hi st:Option Int)(s:Sto):Out Val:=
 match a,st with
 |.f vs,dS=>.e (.f (t7 vs lo hi)) s
 |.f vs,some c=>if c≠0/\(L2.yn vs.length lo hi c).2<=zb then .e (.f (L2.z9 vs (L2.yn vs.length lo hi c).1 c (L2.yn vs.length lo hi c).2)) s else .d
 |_,dS=>match yY s a with|some vs=>newList m (t7 vs lo hi) s|dS=>.d
 |_,some c=>match yY s a with|some vs=>if c≠0 then newList m (L2.z9 vs (L2.vW vs.length lo hi c).1 c (L2.vW vs.length lo hi c).2) s else .d|dS=>.d
def TF(m:Bool)(x y z:Val)(s:Sto):Out Val:=match x,y,z with
 |.c i,.c j,.c k=>if -(2 ^ 30)<=i/\i<=2 ^ 30∧-(2 ^ 30)<=j/\j<=2 ^ 30/\0<k/\k<=2 ^ 29/\BU i j k<=1000 then newList m ((L2.km i j k).map .c) s else .d
 |.h,y,.g _=>(match xy s y with|some vs=>(match M.intsOf vs with|some ns=>if ns.length<=1000 then .e (.c (L2.dN ns:Nat)) s else .d|dS=>.d)|dS=>.d)
 |.c i,.c j,.e _=>if -(2 ^ 30)<=i/\i<=2 ^ 30∧-(2 ^ 30)<=j/\j<=2 ^ 30/\BU i j 1<=1000 then newList m ((L2.km i j 1).map .c) s else .d
 |.c i,.c j,.h=>if -(2 ^ 30)<=i/\i<=2 ^ 30∧-(2 ^ 30)<=j/\j<=2 ^ 30/\BU i j 1<=1000 then .e (.f ((L2.km i j 1).map .c)) s else .d
 |_,_,_=>.d
noncomputable def yh(t:Tgt)(v:Val)(env:Env):Option Env:=
 match t with
 |.a i=>some (env.set i (some v))
 |.b is=>match v with
  |.f vs=>if vs.length=is.length then some ((is.zip vs).foldl (λe p=>e.set p.1 (some p.2)) env) else dS
  |_=>dS
structure Src where
 a:List Val
 b:Option Nat
def Src.ok(r:Src)(s:Sto):Bool:=match r.b with
 |dS=>true
 |some i=>match s[i]? with
  |some (.c vs)=>tm vs r.a
  |_=>false
noncomputable def Sx:List Val->List Val->List Val
 |v::vs,w::ws=>.f [v,w]::Sx vs ws
 |_,_=>[]
noncomputable def ju(n:Nat):List Val->List Val
 |[]=>[]
 |v::vs=>.f [.c n,v]::ju (n+1) vs
noncomputable def srcOf(s:Sto):Val->Option Src
 |.f vs=>some ⟨vs,dS⟩
 |.m vs=>some ⟨vs,dS⟩
 |.o ns=>some ⟨ns.map .c,dS⟩
 |.j i=>match s[i]? with
  |some (.c vs)=>some ⟨vs,some i⟩
  |_=>dS
 |_=>dS
noncomputable def SJ(lo c:Int)(n:Nat):List Val:=(AY n).map λ(k:Nat)=>Val.c (lo+k*c)
def RS(x y z:Val)(s:Sto):Out Src:=match x,y,z with
 |.c i,.c j,.c k=>if 0<=i/\i<=1000/\0<=j/\j<=1000/\1<=k/\k<=1000 then .e ⟨SJ i k (BU i j k).toNat,dS⟩ s else .d
 |_,_,_=>.d
noncomputable def xB(lo:Int)(n:Nat):List Val:=(AY n).map λ(k:Nat)=>Val.c (lo+k)
def yb(r:Src)(t:Tgt)(body:Env->Sto->List Val->Out (List Val × Env)):List Val->Env->Sto->List Val->Out (List Val × Env)
 |[],env,s,acc=>if r.ok s then .e (acc,env) s else .d
 |x::xs,env,s,acc=>if r.ok s then match yh t x env with
    |dS=>.d
    |some env'=>(body env' s acc).bind λp s'=>yb r t body xs p.2 s' p.1
  else .d
noncomputable def zo(fr:List (Option Nat))(env:Env):Env:=fr.map λo=>match o with|some j=>(env[j]?).join|dS=>dS
inductive Fl
 |a (env:Env)|c (env:Env)|d (env:Env)|b (v:Val)
def vL(r:Src)(t:Tgt)(body:Env->Sto->Out Fl):List Val->Env->Sto->Out Fl
 |[],env,s=>if r.ok s then .e (.a env) s else .d
 |x::xs,env,s=>if r.ok s then match yh t x env with
    |dS=>.d
    |some env'=>(body env' s).bind λfl s'=>match fl with
     |.a e=>vL r t body xs e s'
     |.d e=>vL r t body xs e s'
     |.c e=>.e (.a e) s'
     |.b v=>.e (.b v) s'
  else .d
def vY(c:Env->Sto->Out Bool)(body:Env->Sto->Out Fl):Nat->Env->Sto->Out Fl
 |0,_,_=>.d
 |n+1,env,s=>(c env s).bind λb s1=>if b then (body env s1).bind λfl s2=>match fl with
    |.a e=>vY c body n e s2
    |.d e=>vY c body n e s2
    |.c e=>.e (.a e) s2
    |.b v=>.e (.b v) s2
  else .e (.a env) s1
noncomputable def jY:Nat:=100000
noncomputable def aJ:Sto->List Str
 |.d x::r=>x::aJ r
 |_=>[]
section
variable (Φ:Calls)(G:Str->Option Val)
mutual
noncomputable def evE(env:Env):Ex->Sto->Out Val
 |.g v,s=>.e v s
 |.e i,s=>match env[i]? with|some (some v)=>.e v s|_=>.d
 |.E x,s=>match G x with|some v=>.e v s|dS=>.d
 |.K _ n,s=>.e (.t n) s
 |.j m op a b,s=>(evE env a s).bind λx s1=>(evE env b s1).bind λy s2=>binOp m op x y s2
 |.A a,s=>(evE env a s).bind λx s1=>match x with|.c i=>.e (.c (-i)) s1|_=>.d
 |.F a,s=>(evE env a s).bind λx s1=>match x with|.e b=>.e (.e !b) s1|_=>.d
 |.p op a b,s=>(evE env a s).bind λx s1=>(evE env b s1).bind λy s2=>zV op x y s2
 |.r op op' a b c,s=>(evE env a s).bind λx s1=>(evE env b s1).bind λy s2=>(zV op x y s2).bind λr s3=>match r with
  |.e true=>(evE env c s3).bind λz s4=>zV op' y z s4
  |.e false=>.e (.e false) s3
  |_=>.d
 |.w a es,s=>match es with
  |.b=>evE env a s
  |.a _ _=>(evE env a s).bind λx s1=>match x with
   |.e true=>sj env es s1
   |.e false=>.e (.e false) s1
   |_=>.d
 |.H a es,s=>match es with
  |.b=>evE env a s
  |.a _ _=>(evE env a s).bind λx s1=>match truth s1 x with
   |some false=>n5 env es s1
   |some true=>.e x s1
   |dS=>.d
 |.G c a b,s=>(evT env c s).bind λt s1=>if t then evE env a s1 else evE env b s1
 |.y es,s=>(zi env es s).bind λvs s1=>if vs.length<=zb then .e (.f vs) s1 else .d
 |.s m es,s=>(zi env es s).bind λvs s1=>if vs.length<=zb then newList m vs s1 else .d
 |.B,s=>.e .p s
 |.h f ver es,s=>(zi env es s).bind λvs s1=>Φ f ver vs s1
 |.k f m es,s=>(zi env es s).bind λvs s1=>blt f m vs s1
 |.D a d,s=>(evE env a s).bind λx s1=>(evE env d s1).bind λy s2=>mxD x y s2
 |.J f _ o es,s=>(evE env o s).bind λx s1=>(zi env es s1).bind λvs s2=>xk f x vs s2
 |.u a b,s=>(evE env a s).bind λx s1=>(evE env b s1).bind λy s2=>vQ x y s2
 |.L m a lo hi st,s=>(evE env a s).bind λx s1=>(evO env lo s1).bind λl s2=>(evO env hi s2).bind λh s3=>(evO env st s3).bind λc s4=>qv m x l h c s4
 |.q m _ fr elt t it ifs,s=>(xA env it s).bind λr s1=>
  (yb r t (λe s' acc=>(wF e ifs s').bind λb s2=>if b then (evE e elt s2).bind λv s3=>.e (acc++[v],e) s3 else .e (acc,e) s2) r.a (zo fr env) s1 []).bind λp s2=>newList m p.1 s2
 |.z m _ fr elt t it ifs t2 it2 ifs2,s=>(xA env it s).bind λr s1=>
  (yb r t (λe s' acc=>(wF e ifs s').bind λb s2=>if b then (xA e it2 s2).bind λr2 s3=>
      yb r2 t2 (λe' s4 acc'=>(wF e' ifs2 s4).bind λb' s5=>if b' then (evE e' elt s5).bind λv s6=>.e (acc'++[v],e') s6 else .e (acc',e') s5) r2.a e s3 acc
   else .e (acc,e) s2) r.a (zo fr env) s1 []).bind λp s2=>if p.1.length<=zb then newList m p.1 s2 else .d
 |.C t,s=>.e (.q s.length) (s++[if t then .f [] else .e []])
 |.I a b,s=>(evE env a s).bind λx s1=>(evE env b s1).bind λy s2=>ixD x y s2
 |.l m a b c,s=>(evE env a s).bind λx s1=>(evE env b s1).bind λy s2=>(evE env c s2).bind λz s3=>TF m x y z s3
noncomputable def sj(env:Env):Exs->Sto->Out Val
 |.b,_=>.d
 |.a a es,s=>match es with
  |.b=>evE env a s
  |.a _ _=>(evE env a s).bind λx s1=>match x with
   |.e true=>sj env es s1
   |.e false=>.e (.e false) s1
   |_=>.d
noncomputable def n5(env:Env):Exs->Sto->Out Val
 |.b,_=>.d
 |.a a es,s=>match es with
  |.b=>evE env a s
  |.a _ _=>(evE env a s).bind λx s1=>match truth s1 x with
   |some false=>n5 env es s1
   |some true=>.e x s1
   |dS=>.d
noncomputable def zi(env:Env):Exs->Sto->Out (List Val)
 |.b,s=>.e [] s
 |.a e es,s=>(evE env e s).bind λv s1=>(zi env es s1).bind λvs s2=>.e (v::vs) s2
noncomputable def evO(env:Env):OEx->Sto->Out (Option Int)
 |.b,s=>.e dS s
 |.a e,s=>(evE env e s).bind λv s1=>match v with|.c i=>.e (some i) s1|_=>.d
/-- a test -/
noncomputable def evT(env:Env):Cn->Sto->Out Bool
 |.a e,s=>(evE env e s).truth
 |.b a,s=>(evT env a s).bind λb s1=>.e (!b) s1
 |.d a es,s=>(evT env a s).bind λb s1=>if b then wF env es s1 else .e false s1
 |.f a es,s=>(evT env a s).bind λb s1=>if b then .e true s1 else sG env es s1
noncomputable def wF(env:Env):Cns->Sto->Out Bool
 |.b,s=>.e true s
 |.a a es,s=>(evT env a s).bind λb s1=>if b then wF env es s1 else .e false s1
noncomputable def sG(env:Env):Cns->Sto->Out Bool
 |.b,s=>.e false s
 |.a a es,s=>(evT env a s).bind λb s1=>if b then .e true s1 else sG env es s1
noncomputable def xA(env:Env):Itb->Sto->Out Src
 |.g e,s=>(evE env e s).bind λv s1=>match srcOf s1 v with|some r=>.e r s1|dS=>.d
 |.d a,s=>(evE env a s).bind λx s1=>match x with
  |.c j=>if -(2 ^ 62)<=j/\j<=zb then .e ⟨xB 0 j.toNat,dS⟩ s1 else .d
  |_=>.d
 |.f a b,s=>(evE env a s).bind λx s1=>(evE env b s1).bind λy s2=>match x,y with
  |.c i,.c j=>if -(2 ^ 62)<=i/\i<2 ^ 62∧-(2 ^ 62)<=j/\j<2 ^ 62/\j-i<=zb then .e ⟨xB i (j-i).toNat,dS⟩ s2 else .d
  |_,_=>.d
 |.h a b c,s=>(evE env a s).bind λx s1=>(evE env b s1).bind λy s2=>(evE env c s2).bind λz s3=>RS x y z s3
 |.i e,s=>(evE env e s).bind λv s1=>match v with
  |.f vs=>.e ⟨ju 0 vs,dS⟩ s1
  |.m vs=>.e ⟨ju 0 vs,dS⟩ s1
  |_=>.d
 |.j a b,s=>(evE env a s).bind λx s1=>(evE env b s1).bind λy s2=>match x,y with
  |.f vs,.f ws=>if ws.length<=vs.length then .e ⟨Sx vs ws,dS⟩ s2 else .d
  |_,_=>.d
end
mutual
noncomputable def exS(env:Env):Sm->Sto->Out Fl
 |.d e,s=>(evE Φ G env e s).bind λ_ s1=>.e (.a env) s1
 |.g e,s=>(evE Φ G env e s).bind λv s1=>.e (.b v) s1
 |.s,s=>.e (.b .h) s
 |.f i e,s=>(evE Φ G env e s).bind λv s1=>.e (.a (env.set i (some v))) s1
 |.n is e,s=>(evE Φ G env e s).bind λv s1=>match yh (.b is) v env with|some env'=>.e (.a env') s1|dS=>.d
 |.q is es,s=>(zi Φ G env es s).bind λvs s1=>if vs.length=is.length then .e (.a ((is.zip vs).foldl (λe p=>e.set p.1 (some p.2)) env)) s1 else .d
 |.w i op e,s=>match env[i]? with
  |some (some (.c x))=>(evE Φ G env e s).bind λv s1=>match v with
   |.c y=>(binOp false op (.c x) (.c y) s1).bind λz s2=>.e (.a (env.set i (some z))) s2
   |_=>.d
  |some (some (.f x))=>if op=.b then (evE Φ G env e s).bind λv s1=>match v with
   |.f y=>(binOp false .b (.f x) (.f y) s1).bind λz s2=>.e (.a (env.set i (some z))) s2
   |_=>.d
   else .d
  |_=>.d
 |.k o i e,s=>(evE Φ G env e s).bind λv s1=>(evE Φ G env o s1).bind λx s2=>(evE Φ G env i s2).bind λy s3=>match x,y with
  |.j r,.c k=>(match s3[r]? with
   |some (.c vs)=>(match L2.ixN vs.length k with|some j=>.e (.a env) (upd s3 r (vs.set j v))|dS=>.d)
   |_=>.d)
  |_,_=>.d
 |.h c a b,s=>(evT Φ G env c s).bind λt s1=>if t then zX env a s1 else zX env b s1
 |.l t it b,s=>(xA Φ G env it s).bind λr s1=>vL r t (λe s'=>zX e b s') r.a env s1
 |.m c b,s=>vY (λe s'=>evT Φ G e c s') (λe s'=>zX e b s') jY env s
 |.r,s=>.e (.a env) s
 |.v,s=>.e (.c env) s
 |.p,s=>.e (.d env) s
 |.j _,_=>.d
 |.u o i e,s=>(evE Φ G env e s).bind λv s1=>(evE Φ G env o s1).bind λx s2=>(evE Φ G env i s2).bind λy s3=>match putD x y v s3 with|some s4=>.e (.a env) s4|dS=>.d
noncomputable def zX(env:Env):Sms->Sto->Out Fl
 |.f,s=>.e (.a env) s
 |.e c cs,s=>(exS env c s).bind λfl s1=>match fl with
  |.a e=>zX e cs s1
  |fl=>.e fl s1
 |.g i L mid k d o b cs,s=>(zX (env.set i dS) mid s).bind λfl s0=>match fl with
  |.a e0=>if aJ s=aJ s0 then (zi Φ G e0 L s0).bind λvs s1=>if k=0 then .e (.b (.m vs)) s1 else
   if k=1 then (evE Φ G e0 d s1).bind λy s2=>(zV .b (.m vs) y s2).bind λr s3=>.e (.b r) s3
   else ((evE Φ G e0 d s1).bind λy s2=>((zV .e (.m vs) y s2).truth).bind λr s3=>if r then .e true s3 else sG Φ G e0 o s3).bind λr s3=>
    (if r then zX e0 b s3 else .e (.a e0) s3).bind λfl s4=>match fl with
   |.a e=>zX e cs s4
   |fl=>.e fl s4
   else .d
  |_=>.d
end
end
abbrev tZ:=Option (Str × List Val × Sto)
abbrev yU:=Str->Nat->List Val->Sto->tZ
noncomputable def qM:List Val->Bool
 |[.g _]=>true
 |[.c i,.c j]=>decide (i.natAbs<2 ^ 64)&&decide (j.natAbs<2 ^ 64)
 |_=>false
section
variable (W:Str->Bool)(Φ:Calls)(Ψ:yU)(G:Str->Option Val)
mutual
noncomputable def xE(env:Env):Ex->Sto->tZ
 |.h f v es,s=>match zi Φ G env es s with
  |.e vs s1=>Ψ f v vs s1
  |_=>dS
 |.p _ a _,s=>xE env a s
 |.j _ _ a _,s=>xE env a s
 |.k _ _ es,s=>xL env es s
 |.q _ _ _ _ _ it _,s=>xI env it s
 |_,_=>dS
/-- one argument that raises -/
noncomputable def xL(env:Env):Exs->Sto->tZ
 |.a a es,s=>match es with
  |.b=>xE env a s
  |.a _ _=>dS
 |.b,_=>dS
/-- what is walked raises -/
noncomputable def xI(env:Env):Itb->Sto->tZ
 |.g a,s=>xE env a s
 |_,_=>dS
end
def xT(env:Env):Cn->Sto->tZ
 |.a e,s=>match e with
  |.h f v es=>xE Φ Ψ G env (.h f v es) s
  |_=>dS
 |.b c,s=>xT env c s
 |_,_=>dS
mutual
noncomputable def xS(env:Env):Sm->Sto->tZ
 |.d e,s=>xE Φ Ψ G env e s
 |.g e,s=>xE Φ Ψ G env e s
 |.f _ e,s=>xE Φ Ψ G env e s
 |.h c a b,s=>match evT Φ G env c s with
  |.e t s1=>if t then xSs env a s1 else xSs env b s1
  |_=>xT Φ Ψ G env c s
 |.j e,s=>match e with
  |.h c _ es=>(match zi Φ G env es s with
   |.e vs s1=>if qM vs&&W c then some (c,vs,s1) else dS
   |_=>dS)
  |_=>dS
 |_,_=>dS
noncomputable def xSs(env:Env):Sms->Sto->tZ
 |.f,_=>dS
 |.e c cs,s=>match exS Φ G env c s with
  |.e fl s1=>(match fl with
   |.a e=>xSs e cs s1
   |_=>dS)
  |_=>xS env c s
 |.g _ _ _ _ _ _ _ _,_=>dS
end
end
noncomputable def zu(N:List Str)(vs:List Val):Env:=vs.map some++Ao (N.length-vs.length) dS
def leave(F:Fn)(s0:Sto)(v:Val)(s:Sto):Out Val:=
 if F.c then .e v s
 else if wI s0 s then (match freeze s0.length s v with|some v'=>.e v' (s.take s0.length)|dS=>.d) else .d
structure Tbl where
 d:Str->Nat->Option Fn
 b:Str->Option Val
 /-- the defs whose tables the store holds,from its start -/
 f:List Str:=[]
 /-- the classes of exceptions,and what the law's def says of each -/
 c:List (Str × Str):=[]
 /-- which of the law's two defs that try a call is there -/
 e:Bool->Bool:=λ_=>false
noncomputable def zj:List Str->Sto->Bool
 |[],_=>true
 |x::r,.d y::s=>decide (x=y)&&zj r s
 |_::_,_=>false
noncomputable def mz(m:Bool)(w:Str)(as:List Val):Val:=if m then .g w else if w="great" then .f (.g w::as) else .g w
def qf(T:Tbl)(m:Bool)(o:Out Val)(x:tZ):Out Val:=match o with
 |.e v s=>.e (if m then v else .g "told") s
 |_=>match x with
  |some (c,as,s)=>(match T.c.lookup c with
   |some w=>.e (mz m w as) s
   |dS=>.d)
  |dS=>.d
noncomputable def qE:Str × List Val × Sto->Out Val
 |(c,as,s)=>if c="TooGreat" then .e (.f as) s else .d
def qD:Out Val->tZ->Out Val
 |.e _ s,_=>.e .h s
 |_,some r=>qE r
 |_,dS=>.d
noncomputable def oi(T:Tbl):Bool:=T.e true&&decide (T.c.lookup ("TooGreat":Str)=some "! great")
def run(T:Tbl)(Φ:Calls)(F:Fn)(vs:List Val)(s:Sto):Out Val:=
 if vs.length=F.b.length then (zX Φ T.b (zu F.N vs) F.a s).bind λfl s1=>match fl with
  |.a _=>leave F s .h s1
  |.b v=>leave F s v s1
  |_=>.d
 else .d
noncomputable def uh:List Val->Option Str
 |.u g::_=>some g
 |_=>dS
mutual
noncomputable def zD(T:Tbl):Nat->Calls
 |0=>λ_ _ _ _=>.d
 |n+1=>λf ver vs s=>match T.d f ver with|some F=>run T (zD T n) F vs s|dS=>if ((decide (ver=100)&&T.e false)||(decide (ver=101)&&T.e true))&&zj T.f s then qf T (decide (ver=101)) (zD T n f 0 vs s) (zS T n f 0 vs s) else (match uh vs with|some g=>if decide (ver=200) then (match T.d g 0 with|some F=>run T (zD T n) F vs.tail s|dS=>.d) else if ((decide (ver=300)&&T.e false)||(decide (ver=301)&&T.e true))&&zj T.f s then qf T (decide (ver=301)) (zD T n g 0 vs.tail s) (zS T n g 0 vs.tail s) else if decide (ver=302)&&oi T&&zj T.f s then qD (zD T n g 0 vs.tail s) (zS T n g 0 vs.tail s) else .d|dS=>if decide (ver=102)&&oi T&&zj T.f s then qD (zD T n f 0 vs s) (zS T n f 0 vs s) else .d)
noncomputable def zS(T:Tbl):Nat->yU
 |0=>λ_ _ _ _=>dS
 |n+1=>λf ver vs s=>match T.d f ver with
  |some F=>if vs.length=F.b.length then xSs (λc=>(T.c.lookup c).isSome) (zD T n) (zS T n) T.b (zu F.N vs) F.a s else dS
  |dS=>dS
end
end M
end
section
namespace M
open PySem
abbrev KF:=Ac
structure Own where
 o:List Addr
 h:List Addr
def Own.no(ρ:Own)(a:Addr):Prop:=a ∉ ρ.o/\a ∉ ρ.h
def KT(K:KF)(a:Addr)(xs:List L2.V):Prop:=∃(o:Obj) (its:Array Value) (n:Nat),K.lookup a=some o/\o.cls=.type "tuple"/\o.data=.seq its n/\its.size<=Am/\L2.Vals xs its.toList
def SC(K:KF)(ρ:Own)(H:L2.Hp)(a:Addr)(xs:List L2.V):Prop:=(ρ.no a/\L2.Rd H a (.b xs)) \/
 ∃(o:Obj) (its:Array Value) (n:Nat),K.lookup a=some o/\o.cls=.type "list"/\o.dict=none/\o.data=.seq its n/\its.size<=Am/\L2.Vals xs its.toList
noncomputable def hk:Option L2.HO->Nat
 |some (.b _)=>1
 |some (.i _)=>2
 |some (.l _)=>3
 |some (.g _)=>4
 |_=>0
mutual
inductive RD(K:KF)(mg:Str->Option Value)(ρ:Own)(H:L2.Hp):Val->L2.V->Prop
 |p:RD K mg ρ H .h .g
 |j (b:Bool):RD K mg ρ H (.e b) (.f b)
 |l (i:Int):RD K mg ρ H (.c i) (.d i)
 |D (x:Str):RD K mg ρ H (.g x) (.e x)
 |m {a:Addr} {vs:List Val} {xs:List L2.V}:ρ.no a->H a=some (.c xs)->RDs K mg ρ H vs xs->RD K mg ρ H (.f vs) (.c a)
 |E {a:Addr} {vs:List Val} {xs:List L2.V}:ρ.no a->H a=some (.b xs)->RDs K mg ρ H vs xs->RD K mg ρ H (.m vs) (.c a)
 |B {a:Addr}:ρ.no a->H a=some (.i [])->RD K mg ρ H .p (.c a)
 |s {a:Addr} {ns:List Int}:KT K a (ns.map L2.V.d)->RD K mg ρ H (.o ns) (.c a)
 |F {a:Addr} {ns:List Int}:SC K ρ H a (ns.map L2.V.d)->RD K mg ρ H (.r ns) (.c a)
 |C {a:Addr} {i:Nat}:ρ.o[i]?=some a->hk (H a)=1->RD K mg ρ H (.j i) (.c a)
 |A {a:Addr} {i:Nat}:ρ.o[i]?=some a->1<hk (H a)->RD K mg ρ H (.q i) (.c a)
 |I {x:Str} {f:Addr}:mg x=some (.ref f)->RD K mg ρ H (.u x) (.c f)
 |J (n:String):RD K mg ρ H (.t n) (.k n)
 |G (a k:Nat):RD K mg ρ H (.s a k) (.c a)
inductive RDs(K:KF)(mg:Str->Option Value)(ρ:Own)(H:L2.Hp):List Val->List L2.V->Prop
 |d:RDs K mg ρ H [] []
 |a {v:Val} {x:L2.V} {vs:List Val} {xs:List L2.V}:RD K mg ρ H v x->RDs K mg ρ H vs xs->RDs K mg ρ H (v::vs) (x::xs)
end
noncomputable def Zp(x:Str):Str:=(x++(".<locals>.":Str))++("<lambda>":Str)
def UP(K:KF)(mg:Str->Option Value)(ρ:Own)(H:L2.Hp)(P:Addr)(x:Str):Prop:=∃ps,H P=some (.g ps)/\DM ps.toList /\
 (∀(pos:Pos) (cv:Value),DL pos ps.toList=some cv->∃(c:Addr) (o:Obj) (vs:Array Value) (t:Tok),cv=.ref c/\ρ.no c/\H c=some (.e o (.d 0))/\o.data=.fields vs/\vs[1]?=some (.str (Zp x) t)) /\
 ∃(fa c:Addr) (o:Obj) (fd:Bn),mg x=some (.ref fa)/\K.lookup fa=some o/\o.data=.func fd/\fd.code=.ref c/\∀h:Heap,K.In h->PySem.W.CodeHd h c P
def CR(K:KF)(mg:Str->Option Value)(ρ:Own)(H:L2.Hp)(a:Addr):Cel->Prop
 |.c vs=>∃xs,H a=some (.b xs)/\RDs K mg ρ H vs xs
 |.e kvs=>∃kxs,H a=some (.i kxs)/\kxs.map (·.1)=kvs.map (λp=>Eh p.1)/\RDs K mg ρ H (kvs.map (·.2)) (kxs.map (·.2))
 |.f kvs=>∃kxs,H a=some (.l kxs)/\kxs.map (·.1)=kvs.map (λp=>p.1.map Eg)/\RDs K mg ρ H (kvs.map (·.2)) (kxs.map (·.2))
 |.d x=>UP K mg ρ H a x
structure HR(K:KF)(mg:Str->Option Value)(ρ:Own)(s:Sto)(H:L2.Hp):Prop where
 f:ρ.o.length=s.length
 v:ρ.o.Nodup
 m:∀(i:Nat) (c:Cel),s[i]?=some c->∃a:Addr,ρ.o[i]?=some a/\CR K mg ρ H a c
 d:∀a∈ρ.h,(∃xs,H a=some (.b xs))/\a ∉ ρ.o
structure Ext(ρ:Own)(H:L2.Hp)(ρ':Own)(H':L2.Hp):Prop where
 d:∃new:List Addr,ρ'.o=ρ.o++new/\∀a∈new,H a=none
 f:ρ'.h=ρ.h
 c:∀(a:Addr) (o:L2.HO),H a=some o->a ∉ ρ.o->H' a=some o
 g:∀a∈ρ.o,hk (H' a)=hk (H a)
structure ER(K:KF)(mg:Str->Option Value)(ρ:Own)(H:L2.Hp)(env:Env)(σ:L2.St):Prop where
 b:env.length=σ.length
 a:∀(i:Nat) (v:Val),env[i]?=some (some v)->∃x:L2.V,σ[i]?=some (some x)/\RD K mg ρ H v x
section
variable {K:KF}{mg:Str->Option Value}{ρ ρ' ρ'':Own}{H H' H'':L2.Hp}{s s':Sto}
theorem HR.obj(h:HR K mg ρ s H)(i:Nat)vs(e:s[i]?=some (Cel.c vs)):∃(a:Addr) (xs:List L2.V),ρ.o[i]?=some a/\H a=some (.b xs)/\RDs K mg ρ H vs xs:=by obtain⟨a,e1,xs,e2,r⟩:=h.m i _ e;exact⟨a,xs,e1,e2,r⟩
theorem CR.there(h:CR K mg ρ H a c):∃o,H a=some o:=by
 cases c with
 |c vs=>obtain⟨xs,e,_⟩:=h;exact⟨_,e⟩
 |e kvs=>obtain⟨xs,e,_⟩:=h;exact⟨_,e⟩
 |f kvs=>obtain⟨xs,e,_⟩:=h;exact⟨_,e⟩
 |d x=>obtain⟨ps,e,_⟩:=h;exact⟨_,e⟩
theorem CR.hk{a:Addr}{c:Cel}(h:CR K mg ρ H a c):0<hk (H a):=by
 cases c with
 |c vs=>obtain⟨xs,e,_⟩:=h;rw[e];exact CU 0
 |e kvs=>obtain⟨xs,e,_⟩:=h;rw[e];exact En rfl
 |f kvs=>obtain⟨xs,e,_⟩:=h;rw[e];exact En rfl
 |d x=>obtain⟨ps,e,_⟩:=h;rw[e];exact En rfl
theorem HR.trk(h:HR K mg ρ s H)(ha:a∈ρ.o):∃o,H a=some o:=by
 obtain⟨i,hi,e⟩:=Bv ha;have hs:i<s.length:=by rw[<-h.f];exact hi
 obtain⟨b,e1,e2⟩:=h.m i _ (Aa hs);rw[Aa hi,e]at e1;cases e1;exact e2.there
theorem dG(h:hk (H a)=1):∃xs,H a=some (.b xs):=by
 cases e:H a with
 |none=>rw[e]at h;cases h
 |some o=>
  rw[e]at h;cases o with
  |b xs=>exact⟨xs,rfl⟩
  |_=>cases h
theorem HR.new(h:HR K mg ρ s H)(hp:H p=none):ρ.no p:=by
 refine⟨λhm=>?_,λhm=>?_⟩
 . obtain⟨xs,e⟩:=h.trk hm
   rw[hp]at e;cases e
 . obtain⟨⟨xs,e⟩,_⟩:=h.d p hm
   rw[hp]at e;cases e
theorem Ext.refl:Ext ρ H ρ H:=⟨⟨[],by simp,λa ha=>by cases ha⟩,rfl,λa o e _=>e,λ_ _=>rfl⟩
theorem Ext.TL(x:Ext ρ H ρ' H')(e:H a=some o)(n:ρ.no a):ρ'.no a:=by
 obtain⟨new,e1,hn⟩:=x.d;refine⟨?_,by rw[x.f];exact n.2⟩
 rw[e1];intro hm;rcases A3.mp hm with hm|hm
 . exact n.1 hm
 . rw[hn a hm]at e;cases e
theorem Ext.get(x:Ext ρ H ρ' H'){i:Nat}(e:ρ.o[i]?=some a):ρ'.o[i]?=some a:=by obtain⟨new,e1,hn⟩:=x.d;have hi:i<ρ.o.length:=(Aw.mp e).1;rw[e1,AS hi];exact e
theorem Ext.trans(x:Ext ρ H ρ' H')(h:HR K mg ρ' s H')(y:Ext ρ' H' ρ'' H''):Ext ρ H ρ'' H'':=by
 obtain⟨new,e1,hn⟩:=x.d;obtain⟨new2,e2,hn2⟩:=y.d;refine⟨⟨new++new2,by rw[e2,e1,BJ],λa ha=>?_⟩,y.f.trans x.f,λa o e n=>y.c a o (x.c a o e n) ?_,λa ha=>(y.g a (by rw[e1];exact Bp _ ha)).trans (x.g a ha)⟩
 . rcases A3.mp ha with ha|ha
   . exact hn a ha
   . cases q:H a with
     |none=>rfl
     |some o=>
      by_cases hm:a∈ρ.o
      . obtain⟨xs,e⟩:=h.trk (a:=a) (by rw[e1];exact Bp _ hm)
        rw[hn2 a ha]at e;cases e
      . have:=x.c a o q hm
        rw[hn2 a ha]at this;cases this
 . rw[e1]
   intro hm;rcases A3.mp hm with hm|hm
   . exact n hm
   . rw[hn a hm]at e;cases e
theorem SC.sql(h:SC K ρ H a xs):L2.SqL K H a xs:=by
 rcases h with⟨_,h⟩|h
 . exact .inl h
 . exact .inr h
theorem KT.sqt(h:KT K a xs):L2.SqT K H a xs:=.inr h
structure Mv(ρ:Own)(H:L2.Hp)(ρ':Own)(H':L2.Hp):Prop where
 b:∀(a:Addr) (o:L2.HO),H a=some o->ρ.no a->H' a=some o/\ρ'.no a
 c:∀(i:Nat) (a:Addr),ρ.o[i]?=some a->ρ'.o[i]?=some a
 d:∀a∈ρ.o,hk (H' a)=hk (H a)
theorem Ext.mv(x:Ext ρ H ρ' H'):Mv ρ H ρ' H':=⟨λa o e n=>⟨x.c a o e n.1,x.TL e n⟩,λi a e=>x.get e,x.g⟩
theorem SC.mv(x:Mv ρ H ρ' H')(h:SC K ρ H a xs):SC K ρ' H' a xs:=by
 rcases h with⟨n,h|⟨o,h⟩⟩|h
 . exact .inl ⟨(x.b _ _ h n).2,.inl (x.b _ _ h n).1⟩
 . exact .inl ⟨(x.b _ _ h n).2,.inr ⟨o,(x.b _ _ h n).1⟩⟩
 . exact .inr h
end
mutual
theorem RD.mv{K:KF}{mg:Str->Option Value}{ρ ρ':Own}{H H':L2.Hp}(x:Mv ρ H ρ' H'){v:Val}{u:L2.V}(q:RD K mg ρ H v u):RD K mg ρ' H' v u:=by
 cases q with
 |p=>exact .p
 |j b=>exact .j b
 |l i=>exact .l i
 |D t=>exact .D t
 |m n e r=>exact .m (x.b _ _ e n).2 (x.b _ _ e n).1 (RDs.mv x r)
 |E n e r=>exact .E (x.b _ _ e n).2 (x.b _ _ e n).1 (RDs.mv x r)
 |B n e=>exact .B (x.b _ _ e n).2 (x.b _ _ e n).1
 |s h=>exact .s h
 |F h=>exact .F (h.mv x)
 |C e k=>exact .C (x.c _ _ e) ((x.d _ (AU e)).trans k)
 |A e k=>exact .A (x.c _ _ e) (by rw[x.d _ (AU e)];exact k)
 |G a k=>exact .G a k
 |I e=>exact .I e
 |J n=>exact .J n
theorem RDs.mv{K:KF}{mg:Str->Option Value}{ρ ρ':Own}{H H':L2.Hp}(x:Mv ρ H ρ' H'){vs:List Val}{us:List L2.V}(q:RDs K mg ρ H vs us):RDs K mg ρ' H' vs us:=by
 cases q with
 |d=>exact .d
 |a r rs=>exact .a (RD.mv x r) (RDs.mv x rs)
end
theorem CR.mv(x:Mv ρ H ρ' H')(e:H' a=H a)(h:CR K mg ρ H a c):CR K mg ρ' H' a c:=by
 cases c with
 |c vs=>obtain⟨xs,e1,r⟩:=h;exact⟨xs,e.trans e1,RDs.mv x r⟩
 |e kvs=>obtain⟨xs,e1,k,r⟩:=h;exact⟨xs,e.trans e1,k,RDs.mv x r⟩
 |f kvs=>obtain⟨xs,e1,k,r⟩:=h;exact⟨xs,e.trans e1,k,RDs.mv x r⟩
 |d y=>
  obtain⟨ps,e1,k,r,g⟩:=h;refine⟨ps,e.trans e1,k,λpos cv hc=>?_,g⟩;obtain⟨c,o,vs,t,q1,q2,q3,q4⟩:=r pos cv hc;exact⟨c,o,vs,t,q1,(x.b _ _ q3 q2).2,(x.b _ _ q3 q2).1,q4⟩
theorem RD.mono(r:RD K mg ρ H v u)(x:Ext ρ H ρ' H'):RD K mg ρ' H' v u:=RD.mv x.mv r
theorem RDs.mono(r:RDs K mg ρ H v u)(x:Ext ρ H ρ' H'):RDs K mg ρ' H' v u:=RDs.mv x.mv r
end M
end
section
namespace M
open PySem
section
variable {K:KF}{mg:Str->Option Value}{ρ ρ' ρ'':Own}{H H' H'':L2.Hp}{s s':Sto}
theorem RDs.length(q:RDs K mg ρ H vs xs):vs.length=xs.length:=by
 cases q with
 |d=>rfl
 |a _ r=>rw[AL,AL,r.length]
theorem RDs.get{i:Nat}(q:RDs K mg ρ H vs xs)(e:vs[i]?=some v):∃x,xs[i]?=some x/\RD K mg ρ H v x:=by
 cases q with
 |d=>cases e
 |a r rs=>
  cases i with
  |zero=>cases e;exact⟨_,rfl,r⟩
  |succ i=>exact RDs.get (i:=i) rs e
theorem RDs.append(p:RDs K mg ρ H vs xs)(q:RDs K mg ρ H ws ys):RDs K mg ρ H (vs++ws) (xs++ys):=by
 cases p with
 |d=>exact q
 |a r rs=>exact .a r (rs.append q)
theorem RDs.take n(q:RDs K mg ρ H vs xs):RDs K mg ρ H (vs.take n) (xs.take n):=by
 cases n with
 |zero=>exact .d
 |succ n=>cases q with
  |d=>exact .d
  |a r rs=>exact .a r (rs.take n)
theorem RDs.drop n(q:RDs K mg ρ H vs xs):RDs K mg ρ H (vs.drop n) (xs.drop n):=by
 cases n with
 |zero=>exact q
 |succ n=>cases q with
  |d=>exact .d
  |a _ rs=>exact rs.drop n
theorem RDs.set(r:RD K mg ρ H v x)i(q:RDs K mg ρ H vs xs):RDs K mg ρ H (vs.set i v) (xs.set i x):=by
 cases q with
 |d=>exact .d
 |a q t=>cases i with
  |zero=>exact .a r t
  |succ i=>exact .a q (RDs.set r i t)
theorem RDs.rep(r:RDs K mg ρ H vs xs):∀k:Nat,RDs K mg ρ H (Ao k vs).flatten (Ao k xs).flatten
 |0=>.d
 |k+1=>by rw[BK,BK,Ci,Ci];exact r.append (RDs.rep r k)
theorem RDs.pick(r:RDs K mg ρ H vs xs):∀(is:List Nat),RDs K mg ρ H (is.filterMap λi=>vs[i]?) (is.filterMap λi=>xs[i]?)
 |[]=>.d
 |i::is=>by
  rw[A6,A6];cases hx:vs[i]? with
  |none=>
   have:xs[i]?=none:=by have h2:vs.length<=i:=CH.mp hx;exact CH.mpr (by rw[<-r.length];exact h2)
   rw[this];exact RDs.pick r is
  |some v=>
   obtain⟨u,hu,ru⟩:=r.get hx;rw[hu];exact .a ru (RDs.pick r is)
theorem RDs.z9(r:RDs K mg ρ H vs xs)lo st n:RDs K mg ρ H (L2.z9 vs lo st n) (L2.z9 xs lo st n):=by have h:=r.pick ((AY n).map λ(k:Nat)=>(lo+(k:Int)*st).toNat);rw[B5,B5]at h;exact h
theorem RDs.ints:∀(ns:List Int),RDs K mg ρ H (ns.map .c) (ns.map .d)
 |[]=>.d
 |n::ns=>.a (.l n) (RDs.ints ns)
theorem RDs.cut(r:RDs K mg ρ H vs xs)lo hi:RDs K mg ρ H (t7 vs lo hi) (L2.qr xs lo hi):=by unfold t7 L2.qr;rw[r.length];exact(r.drop _).take _
theorem cL{α:Type}:∀{l:List α} {i j:Nat} {x},l.Nodup->l[i]?=some x->l[j]?=some x->i=j
 |[],_,_,_,_,e,_=>by simp at e
 |a::l,0,0,_,_,_,_=>rfl
 |a::l,0,j+1,x,nd,e1,e2=>by
  simp at e1 e2;subst e1;exact absurd (AU e2) (BC.mp nd).1
 |a::l,i+1,0,x,nd,e1,e2=>by
  simp at e1 e2;subst e2;exact absurd (AU e1) (BC.mp nd).1
 |a::l,i+1,j+1,x,nd,e1,e2=>by simp at e1 e2;rw[cL (BC.mp nd).2 e1 e2]
theorem Ext.new(h:HR K mg ρ s H)(hp:H p=none)o:Ext ρ H ρ (L2.upd H p o):=
 ⟨⟨[],by simp,λa ha=>by cases ha⟩,rfl,λa u e _=>by rw[L2.zJ (L2.zP e hp)];exact e,λa ha=>by rw[L2.zJ λz=>(h.new hp).1 (by rw[<-z];exact ha)]⟩
theorem HR.more(h:HR K mg ρ s H)(hp:H p=none)o:HR K mg ρ s (L2.upd H p o):=by
 refine⟨h.f,h.v,λi c e=>?_,λa ha=>?_⟩
 . obtain⟨a,e1,r⟩:=h.m i c e
   obtain⟨u,e2⟩:=r.there;exact⟨a,e1,r.mv (Ext.new h hp o).mv (L2.zJ (L2.zP e2 hp))⟩
 . obtain⟨⟨xs,e⟩,n⟩:=h.d a ha
   exact⟨⟨xs,by rw[L2.zJ (L2.zP e hp)];exact e⟩,n⟩
noncomputable def Own.more(ρ:Own)(p:Addr):Own:=⟨ρ.o++[p],ρ.h⟩
theorem Ext.own(h:HR K mg ρ s H)(hp:H p=none)o:Ext ρ H (ρ.more p) (L2.upd H p o):=
 ⟨⟨[p],rfl,λa ha=>by rw[AW.mp ha];exact hp⟩,rfl,λa u e _=>by rw[L2.zJ (L2.zP e hp)];exact e,λa ha=>by rw[L2.zJ λz=>(h.new hp).1 (by rw[<-z];exact ha)]⟩
theorem rP(h:HR K mg ρ s H)p:(ρ.more p).o[s.length]?=some p:=by show (ρ.o++[p])[s.length]?=some p;rw[<-h.f,Be (Ah _)];simp
theorem HR.wU(h:HR K mg ρ s H)(hp:H p=none)(r:CR K mg (ρ.more p) (L2.upd H p o) p c):HR K mg (ρ.more p) (s++[c]) (L2.upd H p o):=by
 have X:=Ext.own h hp o;refine⟨by show (ρ.o++[p]).length=_;rw[Au,Au,h.f];rfl,?_,λi ws q=>?_,λa ha=>?_⟩
 . show (ρ.o++[p]).Nodup
   rw[Fq];exact⟨h.v,by simp,λa ha b hb=>by rw[AW.mp hb];intro z;subst z;exact(h.new hp).1 ha⟩
 . by_cases hi:i<s.length
   . rw[AS hi]at q
     obtain⟨a,e1,t⟩:=h.m i ws q;obtain⟨u,e2⟩:=t.there;exact⟨a,X.get e1,t.mv X.mv (L2.zJ (L2.zP e2 hp))⟩
   . have hi':i=s.length:=by have:=(Aw.mp q).1;rw[Au]at this;simp at this;omega
     subst hi';rw[Be (Ah _)]at q;simp at q;subst q;exact⟨p,rP h p,r⟩
 . obtain⟨⟨ys,q⟩,n⟩:=h.d a ha
   refine⟨⟨ys,by rw[L2.zJ (L2.zP q hp)];exact q⟩,λhm=>?_⟩
   rcases A3.mp hm with hm|hm
   . exact n hm
   . rw[AW.mp hm,hp]at q;cases q
theorem HR.own(h:HR K mg ρ s H)(hp:H p=none)(r:RDs K mg ρ H vs xs):HR K mg (ρ.more p) (s++[.c vs]) (L2.upd H p (.b xs)):=h.wU hp ⟨xs,L2.zL,r.mono (Ext.own h hp _)⟩
theorem Ext.sY(h:HR K mg ρ s H){i:Nat}(e:ρ.o[i]?=some a)(k:hk (some o)=hk (H a)):Ext ρ H ρ (L2.upd H a o):=
 ⟨⟨[],by simp,λa ha=>by cases ha⟩,rfl,λb u q n=>by rw[L2.zJ (λz=>n (by rw[z];exact AU e))];exact q,λb hb=>by
   by_cases z:b=a
   . subst z;rw[L2.zL];exact k
   . rw[L2.zJ z]⟩
theorem Ext.write(h:HR K mg ρ s H){i:Nat}(e:ρ.o[i]?=some a)(k:H a=some (.b ys))xs:Ext ρ H ρ (L2.upd H a (.b xs)):=Ext.sY h e (by rw[k];rfl)
theorem HR.sY(h:HR K mg ρ s H)(e:ρ.o[i]?=some a)(k:hk (some o)=hk (H a))(r:CR K mg ρ (L2.upd H a o) a c):HR K mg ρ (s.set i c) (L2.upd H a o):=by
 have X:=Ext.sY h e k;refine⟨by rw[Cz];exact h.f,h.v,λj ws q=>?_,λb hb=>?_⟩
 . skip
   by_cases hij:i=j
   . subst hij
     have hi:i<s.length:=by rw[<-h.f];exact(Aw.mp e).1
     rw[AI hi]at q;cases q;exact⟨a,e,r⟩
   . rw[Bq hij]at q
     obtain⟨b,e1,t⟩:=h.m j ws q;refine⟨b,e1,t.mv X.mv ?_⟩;have hb:b≠a:=by intro z;subst z;exact hij (cL h.v e e1)
     rw[L2.zJ hb]
 . obtain⟨⟨ys,q⟩,n⟩:=h.d b hb
   exact⟨⟨ys,by rw[L2.zJ (λz=>n (by rw[z];exact AU e))];exact q⟩,n⟩
theorem HR.write(h:HR K mg ρ s H)(e:ρ.o[i]?=some a)(k:H a=some (.b ys))(r:RDs K mg ρ H vs xs):HR K mg ρ (upd s i vs) (L2.upd H a (.b xs)):=
 h.sY e (by rw[k];rfl) ⟨xs,L2.zL,r.mono (Ext.write h e k xs)⟩
theorem ER.mono(x:Ext ρ H ρ' H')(h:ER K mg ρ H env σ):ER K mg ρ' H' env σ:=⟨h.b,λi v e=>by obtain⟨u,h1,h2⟩:=h.a i v e;exact⟨u,h1,h2.mono x⟩⟩
theorem ER.set(h:ER K mg ρ H env σ)i(r:RD K mg ρ H v x):ER K mg ρ H (env.set i (some v)) (σ.set i (some x)):=by
 refine⟨by rw[Cz,Cz,h.b],λj w e=>?_⟩
 by_cases hij:i=j
 . subst hij
   by_cases hi:i<env.length
   . rw[AI hi]at e
     cases e;exact⟨x,by rw[AI (by rw[<-h.b];exact hi)],r⟩
   . rw[BO (by rw[Cz];omega)]at e
     cases e
 . rw[Bq hij]at e
   rw[Bq hij];exact h.a j w e
end
section
variable (K:KF)(mg:Str->Option Value)
def yQ{α β:Type}(R:Own->L2.Hp->α->β->Prop)(ρ:Own)(H:L2.Hp)(o:Out α)(Q:β->L2.Hp->Prop):Prop:=
 match o with
 |.e v s'=>∀ρ' x H',Ext ρ H ρ' H'->HR K mg ρ' s' H'->R ρ' H' v x->Q x H'
 |_=>False
def tV(env:Env)(s:Sto)(o:Out Val):L2.TE:=λσ H Q=>∃ρ,HR K mg ρ s H/\ER K mg ρ H env σ/\yQ K mg (RD K mg) ρ H o Q
def tVs(env:Env)(s:Sto)(o:Out (List Val)):L2.TA:=λσ H Q=>∃ρ,HR K mg ρ s H/\ER K mg ρ H env σ/\yQ K mg (RDs K mg) ρ H o Q
def tT(env:Env)(s:Sto)(o:Out Bool):L2.TT:=λσ H Q=>∃ρ,HR K mg ρ s H/\ER K mg ρ H env σ/\yQ K mg (λ_ _ a b=>a=b) ρ H o Q
def tO(env:Env)(s:Sto)(o:Out (Option Int)):L2.TO:=λσ H Q=>∃ρ,HR K mg ρ s H/\ER K mg ρ H env σ/\yQ K mg (λ_ _ a b=>a=b) ρ H o Q
end
section
variable {X:L2.Cx}{e:Expr}
theorem zZ(h:L2.PE X e t)(i:∀σ H Q,t' σ H Q->t σ H Q):L2.PE X e t':=λpins s σ H Q I q=>h pins s σ H Q I (i σ H Q q)
theorem sP(h:L2.PT X e t)(i:∀σ H Q,t' σ H Q->t σ H Q):L2.PT X e t':=λpins s σ H Q I q=>h pins s σ H Q I (i σ H Q q)
theorem cu{t t':L2.TA}(h:L2.PA X es t)(i:∀σ H Q,t' σ H Q->t σ H Q):L2.PA X es t':=λpos pins s σ H Q I q=>h pos pins s σ H Q I (i σ H Q q)
theorem yH{t t':L2.TS}(h:L2.PS X st t)(i:∀D σ H,t' D σ H->t D σ H):L2.PS X st t':=λpins s σ H D I q=>h pins s σ H D I (i D σ H q)
theorem ux{t t':L2.TS}(h:L2.PSs X st t)(i:∀D σ H,t' D σ H->t D σ H):L2.PSs X st t':=λpins s σ H D I q=>h pins s σ H D I (i D σ H q)
theorem yN(h:∀σ H Q,¬t σ H Q):L2.PE X e t:=λpins s σ H Q I q=>(h σ H Q q).elim
theorem iJ(h:∀σ H Q,¬t σ H Q):L2.PT X e t:=λpins s σ H Q I q=>(h σ H Q q).elim
theorem T3(h:∀σ H Q,¬t σ H Q):L2.PW X e t:=λwh pins s σ H Q I q=>(h σ H Q q).elim
theorem Tp{t:L2.TA}(h:∀σ H Q,¬t σ H Q):L2.PA X es t:=λpos pins s σ H Q I q=>(h σ H Q q).elim
end
section
variable {K:KF}{mg:Str->Option Value}{env:Env}{s:Sto}
theorem Sq(h:∀v s',o≠.e v s'):¬tV K mg env s o σ H Q:=by
 rintro ⟨ρ,_,_,w⟩;cases o with
 |e v s'=>exact h v s' rfl
 |_=>exact w
theorem V4(h:∀v s',o≠.e v s'):¬tVs K mg env s o σ H Q:=by
 rintro ⟨ρ,_,_,w⟩;cases o with
 |e v s'=>exact h v s' rfl
 |_=>exact w
theorem Xj(h:∀v s',o≠.e v s'):¬tT K mg env s o σ H Q:=by
 rintro ⟨ρ,_,_,w⟩;cases o with
 |e v s'=>exact h v s' rfl
 |_=>exact w
end
end M
end
section
namespace M
open PySem
theorem yf:zb=Am:=by rw[AK];rfl
section
variable {K:KF}{mg:Str->Option Value}{ρ ρ':Own}{H H':L2.Hp}{s s':Sto}
theorem vA(hr:HR K mg ρ s H)(r:RD K mg ρ H v x)(e:yY s v=some vs):∃a xs,x=.c a/\H a=some (.b xs)/\RDs K mg ρ H vs xs:=by
 cases r with
 |E n h q=>cases e;exact⟨_,_,rfl,h,q⟩
 |@C a i h _=>
  simp only[yY]at e;split at e
  . rename_i ws hw
    cases e;obtain⟨b,xs,e1,e2,q⟩:=hr.obj i _ hw;rw[h]at e1;cases e1;exact⟨_,_,rfl,e2,q⟩
  . cases e
 |_=>cases e
theorem bj(hr:HR K mg ρ s H)(r:RD K mg ρ H v x)(e:xy s v=some vs):∃a xs,x=.c a/\(L2.SqL K H a xs\/L2.SqT K H a xs)/\RDs K mg ρ H vs xs:=by
 cases r with
 |E n h q=>cases e;exact⟨_,_,rfl,.inl (.of h),q⟩
 |m n h q=>cases e;exact⟨_,_,rfl,.inr (.of h),q⟩
 |s h=>cases e;exact⟨_,_,rfl,.inr h.sqt,RDs.ints _⟩
 |F h=>cases e;exact⟨_,_,rfl,.inl h.sql,RDs.ints _⟩
 |@C a i h _=>
  simp only[xy]at e;split at e
  . rename_i ws hw
    cases e;obtain⟨b,xs,e1,e2,q⟩:=hr.obj i _ hw;rw[h]at e1;cases e1;exact⟨_,_,rfl,.inl (.of e2),q⟩
  . cases e
 |_=>cases e
mutual
theorem RD.reads{P:Program}{w:World}{h:Heap}(ok:L2.HOk P w H h){v:Val}{x:L2.V}{u:Value}(q:RD K mg ρ H v x)(hv:v.isR=true)(r:L2.RelV x u):∃as,Reads h u v.d as/\(L2.xF v.d=false->BW ∉ as):=by
 cases q with
 |p=>cases (show u=A8 from r);exact⟨[],.none,λ_=>by simp⟩
 |j b=>cases (show u=C4 b from r);exact⟨[],.bool b,λ_=>by simp⟩
 |l i=>obtain⟨t,q⟩:=(show ∃t,u=F4 i t from r);cases q;exact⟨[],.int i t,λ_=>by simp⟩
 |D x=>obtain⟨t,q⟩:=(show ∃t,u=F5 x t from r);cases q;exact⟨[],.str x t,λ_=>by simp⟩
 |@E a vs xs n ha rs=>
  cases (show u=AF a from r);obtain⟨z,its,n,rv,e⟩:=(show L2.z6 P w H h a (.b xs) from ok a _ ha);obtain⟨as,q,_⟩:=RDs.reads ok rs (by simpa only[Val.isR] using hv) rv
  exact⟨a::as,.list e rfl rfl (by simpa using q),λz=>by simp[Val.d,L2.xF]at z⟩
 |@m a vs xs n ha rs=>
  cases (show u=AF a from r);obtain⟨z,its,rv,o,e,c,n,dd⟩:=(show L2.z6 P w H h a (.c xs) from ok a _ ha);obtain⟨as,q,q2⟩:=RDs.reads ok rs (by simpa only[Val.isR] using hv) rv
  exact⟨as,.tuple e c dd.1 (by simpa using q),λz=>q2 (by simpa [Val.d,L2.xF] using z)⟩
 |@B a n ha=>
  cases (show u=AF a from r);obtain⟨z,y,vs,rv,o,es,ep,e,c,dd,k⟩:=(show L2.z6 P w H h a (.i []) from ok a _ ha);cases rv;have hes:es=#[]:=by
   have h2:=k.2.1;cases hl:es.toList with
   |nil=>simpa using hl
   |cons a r=>rw[hl]at h2;cases h2
  subst hes;refine⟨[a]++[],Reads.dict (as:=[]) (bs:=[]) e c.1 dd .nil .nil,λ_=>?_⟩;have:a≠BW:=by simpa using y
  simpa using A5 this
 |s _=>cases hv
 |F _=>cases hv
 |C _ _=>cases hv
 |A _ _=>cases hv
 |G _ _=>cases hv
 |I _=>cases hv
 |J _=>cases hv
theorem RDs.reads{P:Program}{w:World}{h:Heap}(ok:L2.HOk P w H h){vs:List Val}{xs:List L2.V}{us:List Value}(p:RDs K mg ρ H vs xs)(hv:rD vs=true)(q:L2.Vals xs us):∃as,ReadsAll h us (ds vs) as/\(L2.xW (ds vs)=false->BW ∉ as):=by
 cases p with
 |d=>cases q;exact⟨[],.nil,λ_=>by simp⟩
 |a r rs=>
  cases q with
  |cons q1 q2=>
   rw[rD,cf]at hv;obtain⟨as,h1,h2⟩:=RD.reads ok r hv.1 q1;obtain⟨bs,h3,h4⟩:=RDs.reads ok rs hv.2 q2;refine⟨as++bs,.cons h1 h3,λz=>?_⟩;rw[ds,L2.xW,EC]at z;intro hm;rcases A3.mp hm with hm|hm
   . exact h2 z.1 hm
   . exact h4 z.2 hm
end
theorem ue(ok:L2.HOk P w H h)(hr:HR K mg ρ s H)(hv:(yq s v).isR=true)(r:RD K mg ρ H v x)(ru:L2.RelV x u) :
 ∃as,Reads h u (yq s v).d as/\(L2.xF (yq s v).d=false->BW ∉ as):=by
 cases v with
 |j i=>
  cases r with
  |@C a _ e0=>
  simp only[yq]at hv ⊢;split at hv
  . rename_i ws hw
    obtain⟨b,xs,e1,e2,q⟩:=hr.obj i _ hw;rw[e0]at e1;cases e1;cases (show u=AF a from ru);obtain⟨z,its,n,rv,e⟩:=(show L2.z6 P w H h a (.b xs) from ok a _ e2);obtain⟨as,q,_⟩:=RDs.reads ok q (by simpa only[Val.isR] using hv) rv
    exact⟨a::as,.list e rfl rfl (by simpa using q),λz=>by simp[Val.d,L2.xF]at z⟩
  . cases hv
 |_=>exact RD.reads ok r hv ru
theorem RDs.bT(ok:L2.HOk P w H h)(hr:HR K mg ρ s H):∀{vs} {xs} {us},RDs K mg ρ H vs xs->rD (vs.map (yq s))=true->L2.Vals xs us->∃as,ReadsAll h us (ds (vs.map (yq s))) as/\(L2.xW (ds (vs.map (yq s)))=false->BW ∉ as)
 |_,_,_,.d,_,r=>by cases r;exact⟨[],.nil,λ_=>by simp⟩
 |_,_,_,.a r rs,hv,q=>by
  cases q with
  |cons q1 q2=>
   rw[A1,rD,cf]at hv;obtain⟨as,h1,h2⟩:=ue ok hr hv.1 r q1;obtain⟨bs,h3,h4⟩:=RDs.bT ok hr rs hv.2 q2;rw[A1];refine⟨as++bs,.cons h1 h3,λz=>?_⟩;rw[ds,L2.xW,EC]at z;intro hm;rcases A3.mp hm with hm|hm
   . exact h2 z.1 hm
   . exact h4 z.2 hm
theorem eN{v:Val}(h:∀vs,v≠.f vs):zl s v=yq s v:=by
 cases v<;>first|rfl|exact absurd rfl (h _)
theorem yw(ok:L2.HOk P w H h)(hr:HR K mg ρ s H)(hv:(zl s v).isR=true)(r:RD K mg ρ H v x)(ru:L2.RelV x u) :
 ∃as,Reads h u (zl s v).d as/\(L2.xF (zl s v).d=false->BW ∉ as):=by
 cases v with
 |f vs=>
  cases r with
  |@m a _ xs n ha rs=>
   cases (show u=AF a from ru);obtain⟨z,its,rv,o,e,c,n,dd⟩:=(show L2.z6 P w H h a (.c xs) from ok a _ ha);obtain⟨as,q,q2⟩:=RDs.bT ok hr rs (by simpa only[zl,Val.isR] using hv) rv
   exact⟨as,.tuple e c dd.1 (by simpa using q),λz=>q2 (by simpa [zl,Val.d,L2.xF] using z)⟩
 |_=>exact(show _ from by rw[eN (λ_ h=>by cases h)]at hv ⊢;exact ue ok hr hv r ru)
mutual
theorem yr:∀{v:Val},v.isD=true->v.isR=true
 |.h,_=>rfl
 |.e _,_=>rfl
 |.c _,_=>rfl
 |.g _,_=>rfl
 |.f vs,h=>by rw[Val.isR];exact w6 (by simpa only[Val.isD] using h)
 |.m vs,h=>by rw[Val.isR];exact w6 (by simpa only[Val.isD] using h)
 |.p,h=>by cases h
 |.o _,h=>by cases h
 |.r _,h=>by cases h
 |.j _,h=>by cases h
 |.u _,h=>by cases h
 |.t _,h=>by cases h
theorem w6:∀{vs:List Val},qH vs=true->rD vs=true
 |[],_=>rfl
 |v::vs,h=>by rw[qH,cf]at h;rw[rD,yr h.1,w6 h.2];rfl
end
mutual
theorem yF:∀{v:Val},v.isD=true->v.d.canLay0=true
 |.h,_=>rfl
 |.e _,_=>rfl
 |.c _,_=>rfl
 |.g _,h=>by simpa only[Val.isD,Val.d,Gp] using h
 |.f vs,h=>by rw[Val.d,Gp];exact xq (by simpa only[Val.isD] using h)
 |.m vs,h=>by rw[Val.d,Gp];exact xq (by simpa only[Val.isD] using h)
 |.p,h=>by cases h
 |.o _,h=>by cases h
 |.r _,h=>by cases h
 |.j _,h=>by cases h
 |.u _,h=>by cases h
 |.t _,h=>by cases h
theorem xq:∀{vs:List Val},qH vs=true->PyData.canLayAll0 (ds vs)=true
 |[],_=>rfl
 |v::vs,h=>by rw[qH,cf]at h;rw[ds,PyData.canLayAll0,yF h.1,xq h.2];rfl
end
theorem uq(hr:HR K mg ρ s H)(r:RDs K mg ρ H vs xs)(w:yQ K mg (RD K mg) ρ H (newList m vs s) Q):∀p,H p=none->Q (.c p) (L2.upd H p (.b xs)):=λp hp=>by
 cases m with
 |true=>exact w _ _ _ (Ext.own hr hp _) (hr.own hp r) (.C (rP hr p) (by rw[L2.zL];rfl))
 |false=>exact w _ _ _ (Ext.new hr hp _) (hr.more hp _) (.E (hr.new hp) L2.zL (r.mono (Ext.new hr hp _)))
theorem iB(hr:HR K mg ρ s H)(r:RDs K mg ρ H vs xs)(w:yQ K mg (RD K mg) ρ H (.e (.f vs) s) Q):∀p,H p=none->Q (.c p) (L2.upd H p (.c xs)):=λp hp=>
 w _ _ _ (Ext.new hr hp _) (hr.more hp _) (.m (hr.new hp) L2.zL (r.mono (Ext.new hr hp _)))
theorem Ext.same(hr:HR K mg ρ s H)(e:L2.xp H H'):Ext ρ H ρ H':=⟨⟨[],by simp,λa ha=>by cases ha⟩,rfl,λa o h _=>e a o h,λa ha=>by obtain⟨o,q⟩:=hr.trk ha;rw[q,e a o q]⟩
theorem HR.same(hr:HR K mg ρ s H)(e:L2.xp H H'):HR K mg ρ s H':=⟨hr.f,hr.v,λi c q=>by
 obtain⟨a,e1,r⟩:=hr.m i c q;obtain⟨o,e2⟩:=r.there;exact⟨a,e1,r.mv (Ext.same hr e).mv ((e a _ e2).trans e2.symm)⟩,λa ha=>by
 obtain⟨⟨ys,q⟩,n⟩:=hr.d a ha;exact⟨⟨ys,e a _ q⟩,n⟩⟩
theorem uo(hr:HR K mg ρ s H)(r:RDs K mg ρ H vs xs)(w:yQ K mg (RD K mg) ρ H (.e (.f vs) s) Q):L2.sZ H xs Q:=λp H' e h=>by
 have hr':=hr.same e;refine w _ _ _ (Ext.same hr e) hr' (.m ⟨λhm=>?_,λhm=>?_⟩ h (r.mono (Ext.same hr e)))
 . obtain⟨i,hi,q⟩:=Bv hm
   have hs:i<s.length:=by rw[<-hr'.f];exact hi
   obtain⟨b,e1,e2⟩:=hr'.m i _ (Aa hs);rw[Aa hi,q]at e1;cases e1;have:=e2.hk;rw[h]at this;exact absurd this (Bc 0)
 . obtain⟨⟨ys,q⟩,_⟩:=hr'.d _ hm
   rw[h]at q;cases q
end
section
variable (K:KF)(mg:Str->Option Value)
def rM2(g:Val->Val->Sto->Out Val):L2.R2:=λx y H Q=>∃ρ s v w,HR K mg ρ s H/\RD K mg ρ H v x/\RD K mg ρ H w y/\yQ K mg (RD K mg) ρ H (g v w s) Q
def rMc(g:List Val->Sto->Out Val):List L2.V->L2.Hp->L2.VK->Prop:=λxs H Q=>∃ρ s vs,HR K mg ρ s H/\RDs K mg ρ H vs xs/\yQ K mg (RD K mg) ρ H (g vs s) Q
end
section
variable {X:L2.Cx}{k:Nat}
theorem zM(hr:HR K mg ρ s H)(r:RD K mg ρ H v x)(w:yQ K mg (RD K mg) ρ H (.e v s) Q):Q x H:=w _ _ _ Ext.refl hr r
theorem kR m:L2.OpR X (Bu .Add) (rM2 X.K X.d (binOp m .b)):=by
 intro pins s σ H x y v u Q I rx ry h;obtain⟨ρ,t,a,b,hr,ra,rb,w⟩:=h;simp only[binOp]at w;split at w
 . cases ra;cases rb
   exact L2.VC pins s σ H _ _ v u Q I rx ry ⟨_,_,rfl,rfl,zM hr (.l _) w⟩
 . split at w
   . rename_i hz
     cases ra;cases rb;exact L2.qU pins s σ H _ _ v u Q I rx ry ⟨_,_,rfl,rfl,by rw[<-yf];exact hz,zM hr (.D _) w⟩
   . exact w.elim
 . split at w
   . rename_i hz
     cases ra with
     |m n1 h1 q1=>
      cases rb with
      |m n2 h2 q2=>
       refine L2.cU pins s σ H _ _ v u Q I rx ry ⟨_,_,_,_,rfl,rfl,h1,h2,?_,uo hr (q1.append q2) w⟩;rw[<-q1.length,<-q2.length,<-yf];exact hz
   . exact w.elim
 . split at w
   . rename_i ea eb
     split at w
     . rename_i hz
       obtain⟨p1,xs,rfl,h1,q1⟩:=vA hr ra ea;obtain⟨p2,ys,rfl,h2,q2⟩:=vA hr rb eb;refine L2.kX pins s σ H _ _ v u Q I rx ry ⟨_,_,_,_,rfl,rfl,h1,h2,?_,uq hr (q1.append q2) w⟩;rw[<-q1.length,<-q2.length,<-yf];exact hz
     . exact w.elim
   . exact w.elim
theorem kW m:L2.OpR X (Bu .Sub) (rM2 X.K X.d (binOp m .f)):=by
 intro pins s σ H x y v u Q I rx ry h;obtain⟨ρ,t,a,b,hr,ra,rb,w⟩:=h;simp only[binOp]at w;split at w
 . cases ra;cases rb
   exact L2.VH pins s σ H _ _ v u Q I rx ry ⟨_,_,rfl,rfl,zM hr (.l _) w⟩
 . exact w.elim
theorem kT m:L2.OpR X (Bu .Mult) (rM2 X.K X.d (binOp m .a)):=by
 intro pins s σ H x y v u Q I rx ry h;obtain⟨ρ,t,a,b,hr,ra,rb,w⟩:=h;simp only[binOp]at w;split at w
 . split at w
   . rename_i hz
     cases ra;cases rb;exact L2.VE pins s σ H _ _ v u Q I rx ry ⟨_,_,rfl,rfl,hz,zM hr (.l _) w⟩
   . exact w.elim
 . split at w
   . rename_i hz
     obtain⟨z1,z2,z3,z4⟩:=hz;cases ra with
     |m n1 h1 q1=>
      cases rb;refine L2.Z6 pins s σ H _ _ v u Q I rx ry ⟨_,_,_,rfl,rfl,h1,z1,z2,?_,?_,uo hr (q1.rep _) w⟩
      . intro e;subst e;cases q1;exact z3 rfl
      . rw[<-q1.length];exact z4
   . exact w.elim
 . split at w
   . rename_i ea
     split at w
     . rename_i hz
       obtain⟨z1,z2,z3⟩:=hz;obtain⟨p1,xs,rfl,h1,q1⟩:=vA hr ra ea;cases rb;refine L2.VG pins s σ H _ _ v u Q I rx ry ⟨_,_,_,rfl,rfl,h1,by omega,by omega,?_,uq hr (q1.rep _) w⟩
       rw[<-q1.length,<-yf];exact z3
     . exact w.elim
   . exact w.elim
 . exact w.elim
theorem mT m:L2.OpR X (Bu .FloorDiv) (rM2 X.K X.d (binOp m .d)):=by
 intro pins s σ H x y v u Q I rx ry h;obtain⟨ρ,t,a,b,hr,ra,rb,w⟩:=h;simp only[binOp]at w;split at w
 . split at w
   . rename_i hz
     cases ra;cases rb;exact L2.Z5 pins s σ H _ _ v u Q I rx ry ⟨_,_,rfl,rfl,hz,zM hr (.l _) w⟩
   . exact w.elim
 . exact w.elim
theorem kS m:L2.OpR X (Bu .Mod) (rM2 X.K X.d (binOp m .c)):=by
 intro pins s σ H x y v u Q I rx ry h;obtain⟨ρ,t,a,b,hr,ra,rb,w⟩:=h;simp only[binOp]at w;split at w
 . split at w
   . rename_i hz
     cases ra;cases rb;exact L2.VD pins s σ H _ _ v u Q I rx ry ⟨_,_,rfl,rfl,hz,zM hr (.l _) w⟩
   . exact w.elim
 . exact w.elim
theorem kU m:L2.OpR X (Bu .Pow) (rM2 X.K X.d (binOp m .e)):=by
 intro pins s σ H x y v u Q I rx ry h;obtain⟨ρ,t,a,b,hr,ra,rb,w⟩:=h;simp only[binOp]at w;split at w
 . split at w
   . rename_i hz
     cases ra;cases rb;exact L2.VF pins s σ H _ _ v u Q I rx ry ⟨_,_,rfl,rfl,hz,zM hr (.l _) w⟩
   . exact w.elim
 . exact w.elim
end
end M
end
section
namespace L2
open PySem PyProof PyProof.Rows
section
variable {κ:Type} [DecidableEq κ]
theorem KV.length{kvs:List (κ × V)}{vs:List (κ × Value)}(r:KV kvs vs):kvs.length=vs.length:=GB r
end
section
variable {X:Cx}{pins:List (Addr × Obj)}{σ:St}{H:Hp}{s:Shared}{a:Addr}{y v:V}{u r:Value}{o:Option V}{A:Around}{E:Value->Shared->Prop}
theorem Inv.big(I:Inv X pins σ H s):BW<s.heap.objs.size:=by have h:AJ<s.heap.objs.size:=(I.mod.c.keeps I.bk).lt;exact Nat.lt_trans (by decide) h
end
theorem eO(h:Heap)(hb:BW<h.objs.size):z6 P w H (h.push {cls:=.type "dict",data:=.dict #[]}) h.objs.size (.i []):=
 ⟨B9 _,beq_eq_false_iff_ne.mpr (A5 (AG hb)),[],.nil,Heap.DictOf.new h⟩
theorem eP(h:Heap)(hb:BW<h.objs.size):z6 P w H (h.push {cls:=.type "dict",data:=.dict #[]}) h.objs.size (.l []):=
 ⟨B9 _,beq_eq_false_iff_ne.mpr (A5 (AG hb)),[],.nil,_,#[],0,Az _ rfl,⟨rfl,rfl,rfl⟩,rfl,rfl,List.nodup_nil⟩
def Vz:TE:=λ_ H Q=>∀p,H p=none->Q (.c p) (upd H p (.i []))
def V0:TE:=λ_ H Q=>∀p,H p=none->Q (.c p) (upd H p (.l []))
section
variable {X:Cx}{pos:Pos}
theorem c8:PE X (.Dict [] [] pos) Vz:=λpins s σ H Q I h=>
 FO ⟨.c s.heap.objs.size,_,I.laid (a:=s.heap.objs.size) (o:=.i []) (t':=s.toks) (λ_ _ q=>lp _ q) (Ah _) (eO s.heap I.big),rfl,h _ (I.B.fresh (Ah _))⟩
theorem c9:PE X (.Dict [] [] pos) V0:=λpins s σ H Q I h=>
 FO ⟨.c s.heap.objs.size,_,I.laid (a:=s.heap.objs.size) (o:=.l []) (t':=s.toks) (λ_ _ q=>lp _ q) (Ah _) (eP s.heap I.big),rfl,h _ (I.B.fresh (Ah _))⟩
end
end L2
end
section
namespace M
open PySem
section
variable {K:KF}{mg:Str->Option Value}{ρ:Own}{H:L2.Hp}{s:Sto}
def RO(K:KF)(mg:Str->Option Value)(ρ:Own)(H:L2.Hp):Option Val->Option L2.V->Prop
 |none,none=>True
 |some v,some x=>RD K mg ρ H v x
 |_,_=>False
theorem RO.isSome(h:RO K mg ρ H o o'):o'.isSome=o.isSome:=by
 cases o with
 |none=>cases o' with|none=>rfl|some _=>exact h.elim
 |some v=>cases o' with|none=>exact h.elim|some _=>rfl
end
end M
end
section
namespace M
open PySem
section
variable {K:KF}{mg:Str->Option Value}{ρ ρ':Own}{H H':L2.Hp}{s s':Sto}
theorem RDs.bools:∀{vs} {xs} {bs},RDs K mg ρ H vs xs->boolsOf vs=some bs->xs=bs.map L2.V.f
 |_,_,_,.d,h=>by cases h;rfl
 |_,_,_,.a r rs,h=>by
  cases r with
  |j b=>
   simp only[boolsOf,Bt]at h;obtain⟨bs',h1,h2⟩:=h;subst h2;rw[rs.bools h1];rfl
  |_=>cases h
theorem RDs.mC:∀{vs} {xs} {ns},RDs K mg ρ H vs xs->intsOf vs=some ns->xs=ns.map L2.V.d
 |_,_,_,.d,h=>by cases h;rfl
 |_,_,_,.a r rs,h=>by
  cases r with
  |l b=>
   simp only[intsOf,Bt]at h;obtain⟨bs',h1,h2⟩:=h;subst h2;rw[rs.mC h1];rfl
  |_=>cases h
theorem ah(r:RDs K mg ρ H vs xs)(h:L2.atI vs i=some v):∃x,L2.atI xs i=some x/\RD K mg ρ H v x:=by unfold L2.atI at h ⊢;rw[<-r.length];obtain⟨j,h1,h2⟩:=DS.mp h;obtain⟨x,h3,h4⟩:=r.get h2;exact⟨x,by rw[h1];exact h3,h4⟩
theorem aL(hr:HR K mg ρ s H)(r:RD K mg ρ H v x)(h:truth s v=some b):L2.ae K x H b:=by
 have hz:∀{vs:List Val} {xs:List L2.V},RDs K mg ρ H vs xs->vs.isEmpty=xs.isEmpty:=λr=>by cases r<;>rfl
 cases r with
 |p=>cases h;rfl
 |j b=>cases h;rfl
 |l i=>cases h;rfl
 |D x=>
  simp only[truth]at h;split at h
  . cases h
    rename_i q;exact⟨by rw[<-yf];exact q,rfl⟩
  . cases h
 |m n e q=>cases h;exact .inr (.inl ⟨_,.of e,by rw[hz q]⟩)
 |E n e q=>cases h;exact .inl ⟨_,.of e,by rw[hz q]⟩
 |B n e=>cases h;exact .inr (.inr ⟨_,e,rfl⟩)
 |s _=>cases h
 |F _=>cases h
 |@C a i e _=>
  simp only[truth]at h;split at h
  . rename_i ws hw
    cases h;obtain⟨c,xs,e1,e2,q⟩:=hr.obj i _ hw;rw[e]at e1;cases e1;exact .inl ⟨_,.of e2,by rw[hz q]⟩
  . cases h
 |I _=>cases h
 |J _=>cases h
 |A _ _=>cases h
 |G _ _=>cases h
theorem Sv(hr:HR K mg ρ s H)(r:RD K mg ρ H v x)(h:kindOf v=some a):(L2.uY K H x (.type a.nm)):=by
 cases r with
 |p=>cases h;exact .d
 |j b=>cases h;exact .bl b
 |l i=>cases h;exact .c i
 |D x=>cases h;exact .f x
 |m n e q=>cases h;exact .g e
 |E n e q=>cases h;exact .b e
 |B n e=>cases h;exact .dK e
 |C e k=>
  cases h;obtain⟨xs,q⟩:=dG k;exact .b q
 |_=>cases h
theorem U6(h:uN n=some c):n=c.nm/\c≠.f:=by unfold uN at h;split at h<;>first|(cases h;exact⟨rfl,by decide⟩)|cases h
end
section
variable {X:L2.Cx}{k:Nat}
theorem TH(h:vf d=true):L2.Yw d:=by
 unfold vf at h;simp only[cf,decide_eq_true_eq,Ax,AM]at h;obtain⟨⟨⟨⟨h1,h2⟩,h3⟩,h4⟩,h5⟩:=h;have L:L2.lR d.depth d.weight d:=⟨h1,h2,Ah _,Ah _⟩;refine L.SY h3 h4 λz=>?_;rcases h5 with h5|h5
 . rw[h5]at z;cases z
 . exact h5
theorem gS(hr0:L2.y9 k X.A):L2.OpR X (Br .Eq) (rM2 X.K X.d (zV .b)):=by
 intro pins s σ H x y v u Q I rx ry h;obtain⟨ρ,t,a,b,hr,ra,rb,w⟩:=h;simp only[zV,rq]at w;split at w
 . rename_i p q
   cases ra;cases rb;have e:decide (L2.V.e p=L2.V.e q)=decide (p=q):=by rw[C7];simp
   refine L2.XJ pins s σ H _ _ v u Q I rx ry ⟨rfl,?_⟩;rw[e];exact zM hr (.j _) w
 . rename_i a ns
   cases rb with
   |s g=>
    by_cases hc:((zl t (.f a)).isD&&(Val.f (ns.map .c)).isD&&decide ((Val.f (ns.map .c)).d.depth<=60))=true
    . rw[if_pos hc]at w
      simp only[cf,decide_eq_true_eq]at hc;obtain⟨as,r1,_⟩:=yw I.B hr (yr hc.1.1) ra rx;obtain⟨its,rv,p1,_⟩:=I.tuple g.sqt;obtain⟨o,ho,hcl,n,hd⟩:=id p1;obtain⟨bs,q,_⟩:=RDs.reads I.B (RDs.ints (K:=X.K) (mg:=X.d) (ρ:=ρ) (H:=H) ns) (yr hc.1.2) rv;have r2:Reads s.heap u (Val.f (ns.map .c)).d bs:=by cases ry;exact .tuple ho hcl hd (by simpa using q)
      have hu:=hr0.c;have hm:=Eb (zl t (.f a)).d.depth (Val.f (ns.map .c)).d.depth;exact SeqAt.compareEq_reads r1 r2 (yF hc.1.1) (yF hc.1.2) (by omega) ⟨.f _,H,I,rfl,zM hr (.j _) w⟩
    . rw[if_neg hc]at w;exact w.elim
 . by_cases hc:((zl t a).isD&&(zl t b).isD&&decide ((zl t b).d.depth<=60))=true
   . rw[if_pos hc]at w
     simp only[cf,decide_eq_true_eq]at hc;obtain⟨as,r1,_⟩:=yw I.B hr (yr hc.1.1) ra rx;obtain⟨bs,r2,_⟩:=yw I.B hr (yr hc.1.2) rb ry;have hu:=hr0.c;have hm:=Eb (zl t a).d.depth (zl t b).d.depth;exact SeqAt.compareEq_reads r1 r2 (yF hc.1.1) (yF hc.1.2) (by omega) ⟨.f _,H,I,rfl,zM hr (.j _) w⟩
   . rw[if_neg hc]at w;exact w.elim
theorem gX(hr0:L2.y9 k X.A):L2.OpR X (Br .NotEq) (rM2 X.K X.d (zV .e)):=by
 intro pins s σ H x y v u Q I rx ry h;obtain⟨ρ,t,a,b,hr,ra,rb,w⟩:=h;simp only[zV,rq]at w;split at w
 . rename_i p q
   cases ra;cases rb;have e:decide (L2.V.e p=L2.V.e q)=decide (p=q):=by rw[C7];simp
   refine L2.XM pins s σ H _ _ v u Q I rx ry ⟨rfl,?_⟩;rw[e];exact zM hr (.j _) w
 . by_cases hc:((zl t a).isD&&(zl t b).isD&&decide ((zl t b).d.depth<=60))=true
   . rw[if_pos hc]at w
     simp only[cf,decide_eq_true_eq]at hc;obtain⟨as,r1,_⟩:=yw I.B hr (yr hc.1.1) ra rx;obtain⟨bs,r2,_⟩:=yw I.B hr (yr hc.1.2) rb ry;have hu:=hr0.c;have hm:=Eb (zl t a).d.depth (zl t b).d.depth;exact SeqAt.compareNe_reads r1 r2 (yF hc.1.1) (yF hc.1.2) (by omega) ⟨.f _,H,I,rfl,zM hr (.j _) w⟩
   . rw[if_neg hc]at w;exact w.elim
theorem RD.isNone(r:RD K mg ρ H v x):decide (x=.g)=v.isN:=by
 cases r<;>first|rfl|exact decide_eq_false (λz=>nomatch z)
theorem gW:L2.OpR X (Br .Lt) (rM2 X.K X.d (zV .l)):=by
 intro pins s σ H x y v u Q I rx ry h;obtain⟨ρ,t,a,b,hr,ra,rb,w⟩:=h;simp only[zV]at w;split at w
 . cases ra;cases rb
   exact L2.TU pins s σ H _ _ v u Q I rx ry ⟨_,_,rfl,rfl,zM hr (.j _) w⟩
 . exact w.elim
theorem gV:L2.OpR X (Br .LtE) (rM2 X.K X.d (zV .h)):=by
 intro pins s σ H x y v u Q I rx ry h;obtain⟨ρ,t,a,b,hr,ra,rb,w⟩:=h;simp only[zV]at w;split at w
 . cases ra;cases rb
   exact L2.TR pins s σ H _ _ v u Q I rx ry ⟨_,_,rfl,rfl,zM hr (.j _) w⟩
 . exact w.elim
theorem gU:L2.OpR X (Br .Gt) (rM2 X.K X.d (zV .a)):=by
 intro pins s σ H x y v u Q I rx ry h;obtain⟨ρ,t,a,b,hr,ra,rb,w⟩:=h;simp only[zV]at w;split at w
 . cases ra;cases rb
   exact L2.TQ pins s σ H _ _ v u Q I rx ry ⟨_,_,rfl,rfl,zM hr (.j _) w⟩
 . exact w.elim
theorem gT:L2.OpR X (Br .GtE) (rM2 X.K X.d (zV .i)):=by
 intro pins s σ H x y v u Q I rx ry h;obtain⟨ρ,t,a,b,hr,ra,rb,w⟩:=h;simp only[zV]at w;split at w
 . cases ra;cases rb
   exact L2.TN pins s σ H _ _ v u Q I rx ry ⟨_,_,rfl,rfl,zM hr (.j _) w⟩
 . exact w.elim
noncomputable def Cop.op:Cop->CmpOp
 |.b=>.Eq|.e=>.NotEq|.l=>.Lt|.h=>.LtE|.a=>.Gt|.i=>.GtE|.m=>.Is|.f=>.IsNot|.k=>.In|.g=>.NotIn|.j=>.In|.c=>.NotIn|.d=>.NotIn
noncomputable def okC:Cop->Bool
 |.m|.f|.k|.g|.j|.c|.d=>false
 |_=>true
theorem uP(hr0:L2.y9 k X.A):∀op:Cop,okC op=true->L2.OpR X (Br op.op) (rM2 X.K X.d (zV op))
 |.b,_=>gS hr0
 |.e,_=>gX hr0
 |.l,_=>gW
 |.h,_=>gV
 |.a,_=>gU
 |.i,_=>gT
 |.m,h=>by cases h
 |.f,h=>by cases h
 |.k,h=>by cases h
 |.g,h=>by cases h
 |.j,h=>by cases h
 |.c,h=>by cases h
 |.d,h=>by cases h
noncomputable def Bop.op:Bop->Operator
 |.b=>.Add|.f=>.Sub|.a=>.Mult|.d=>.FloorDiv|.c=>.Mod|.e=>.Pow|.h=>.LShift|.i=>.RShift|.g=>.BitAnd
noncomputable def okB:Bop->Bool
 |.h|.i|.g=>false
 |_=>true
theorem cT m:∀op:Bop,okB op=true->L2.OpR X (Bu op.op) (rM2 X.K X.d (binOp m op))
 |.b,_=>kR m
 |.f,_=>kW m
 |.a,_=>kT m
 |.d,_=>mT m
 |.c,_=>kS m
 |.e,_=>kU m
 |.h,h=>by cases h
 |.i,h=>by cases h
 |.g,h=>by cases h
theorem Uu:L2.IxR X (rM2 X.K X.d vQ):=by
 intro value slice pins s σ H x y v u Q I rx ry h hs;obtain⟨ρ,t,a,b,hr,ra,rb,w⟩:=h;simp only[vQ]at w;split at w
 . split at w
   . rename_i vs e
     split at w
     . rename_i z hz
       obtain⟨p,xs,rfl,hq,q⟩:=bj hr ra e;cases rb;obtain⟨xz,h1,h2⟩:=ah q hz;refine L2.WQ value slice pins s σ H _ _ v u Q I rx ry ?_ hs;rcases hq with hq|hq
       . exact .inl ⟨p,xs,_,xz,rfl,rfl,hq,h1,zM hr h2 w⟩
       . exact .inr (.inl ⟨p,xs,_,xz,rfl,rfl,hq,h1,zM hr h2 w⟩)
     . exact w.elim
   . exact w.elim
 . exact w.elim
end
end M
end
section
namespace M
open PySem
noncomputable def Bf.nm:Bf->Str
 |.b=>"len"|.p=>"all"|.q=>"any"|.c=>"tuple"|.l=>"list"|.h=>"sorted"|.a=>"repr"|.i=>"max"|.j=>"min"|.s=>"sum"|.o=>"int"|.k=>"isinstance"|.g=>"divmod"|.r=>"str"|.d=>"sorted"|.n=>"min"|.e=>"sorted"|.m=>"min"
noncomputable def Bf.val:Bf->Value
 |.b=>.builtin "len"|.p=>.builtin "all"|.q=>.builtin "any"|.c=>.type "tuple"|.l=>.type "list"|.h=>.builtin "sorted"|.a=>.builtin "repr"|.i=>.builtin "max"|.j=>.builtin "min"|.s=>.builtin "sum"|.o=>.type "int"
 |.k=>.builtin "isinstance"|.g=>.builtin "divmod"|.r=>.type "str"|.d=>.builtin "sorted"|.n=>.builtin "min"|.e=>.builtin "sorted"|.m=>.builtin "min"
theorem Bf.boot:∀f:Bf,Ca f.nm=some f.val
 |.b=>boot_len|.p=>PyProof.Rows.boot_all|.q=>PyProof.Rows.boot_any|.c=>FZ|.l=>PyProof.Rows.boot_list|.h=>DO|.a=>PyProof.Rows.boot_repr|.i=>PyProof.Rows.boot_max|.j=>Eo
 |.s=>PyProof.Rows.boot_sum|.o=>PyProof.Rows.boot_int|.k=>PyProof.Rows.boot_isinstance|.g=>PyProof.Rows.boot_divmod|.r=>PyProof.Rows.boot_str|.d=>DO|.n=>Eo|.e=>DO|.m=>Eo
section
variable {X:L2.Cx}{k:Nat}{m:Bool}
theorem sR(r:RDs K mg ρ H [v] xs):∃x,xs=[x]/\RD K mg ρ H v x:=by
 cases r with
 |a r1 r2=>cases r2;exact⟨_,rfl,r1⟩
theorem bS(r:RDs K mg ρ H [v,w] xs):∃x y,xs=[x,y]/\RD K mg ρ H v x/\RD K mg ρ H w y:=by
 cases r with
 |a r1 r2=>
  obtain⟨y,rfl,r3⟩:=sR r2;exact⟨_,_,rfl,r1,r3⟩
theorem ft:L2.yX X (.builtin "len") (rMc X.K X.d (blt .b m)):=by
 intro pins s σ H xs us Q I r h;obtain⟨ρ,t,vs,hr,rv,w⟩:=h;simp only[blt]at w;split at w
 . split at w
   . rename_i hz
     obtain⟨x,rfl,rx⟩:=sR rv;cases rx;exact L2.oU pins s σ H _ us Q I r ⟨_,rfl,by rw[<-yf];exact hz,zM hr (.l _) w⟩
   . exact w.elim
 . split at w
   . rename_i e
     obtain⟨x,rfl,rx⟩:=sR rv;obtain⟨p,ys,rfl,hq,q⟩:=bj hr rx e;refine L2.oS pins s σ H _ us Q I r ⟨p,ys,rfl,hq,?_⟩;rw[<-q.length];exact zM hr (.l _) w
   . exact w.elim
 . exact w.elim
theorem rj(hc:X.j=true):L2.yX X (.builtin "all") (rMc X.K X.d (blt .p m)):=by
 intro pins s σ H xs us Q I r h;obtain⟨ρ,t,vs,hr,rv,w⟩:=h;simp only[blt]at w;split at w
 . split at w
   . rename_i e
     split at w
     . rename_i bs eb
       obtain⟨x,rfl,rx⟩:=sR rv;obtain⟨p,ys,rfl,hq,q⟩:=vA hr rx e;rw[q.bools eb]at hq;exact L2.rj hc pins s σ H _ us Q I r ⟨p,bs,rfl,.of hq,zM hr (.j _) w⟩
     . exact w.elim
   . exact w.elim
 . exact w.elim
theorem lX:L2.yX X (.type "tuple") (rMc X.K X.d (blt .c m)):=by
 intro pins s σ H xs us Q I r h;obtain⟨ρ,t,vs,hr,rv,w⟩:=h;simp only[blt]at w;split at w
 . obtain⟨x,rfl,rx⟩:=sR rv
   cases rx with
   |m n e q=>exact L2.uG pins s σ H _ us Q I r ⟨_,_,rfl,.inr ⟨.of e,zM hr (.m n e q) w⟩⟩
 . split at w
   . rename_i e
     obtain⟨x,rfl,rx⟩:=sR rv;obtain⟨p,ys,rfl,hq,q⟩:=vA hr rx e;exact L2.uG pins s σ H _ us Q I r ⟨p,ys,rfl,.inl ⟨.of hq,iB hr q w⟩⟩
   . exact w.elim
 . exact w.elim
theorem fw(hr0:L2.y9 k X.A):L2.yX X (.builtin "repr") (rMc X.K X.d (blt .a m)):=by
 intro pins s σ H xs us Q I r h;obtain⟨ρ,t,vs,hr,rv,w⟩:=h;simp only[blt]at w;split at w
 . rename_i v
   split at w
   . rename_i hc
     rw[cf]at hc;obtain⟨x,rfl,rx⟩:=sR rv;obtain⟨u,rfl,ru⟩:=L2.vals1 r;have S:=TH hc.2;have q:Q (.e (zl t v).d.shown) H:=zM hr (.D _) w;have fin:∀(tk':Tok) (tk:Nat),L2.EP X pins σ Q (.str (zl t v).d.shown tk') {s with toks:=tk}:=λ_ tk=>⟨.e _,H,I.tok _,⟨_,rfl⟩,q⟩
     obtain⟨as,R,hs⟩:=yw I.B hr hc.1 rx ru;have fr:∀a,u=.ref a->wpAny (model X.f X.w) X.A (call (.builtin "repr") [u]) (L2.EP X pins σ Q) X.i s:=λa e=>by subst e;refine repr_of_reads' R S.sh (λz=>hs (S.a z)) hr0.d ?_ (λ_ _ e=>e) (λh' u tk hk=>⟨.e _,H,I.kept hk,⟨_,rfl⟩,q⟩) S.ln;have:=S.dp;have:=hr0.c;omega
     cases rx with
     |p=>cases (show u=A8 from ru);exact PySem.P.repr_of_none (fin _ _)
     |j b=>cases (show u=C4 b from ru);exact PySem.P.repr_of_bool (fin _ _)
     |l i=>obtain⟨t',z⟩:=(show ∃t,u=F4 i t from ru);cases z;exact PySem.P.repr_of_int (by simpa [zl,yq,Val.d,PyData.showable] using S.sh) (fin _ _)
     |D x=>obtain⟨t',z⟩:=(show ∃t,u=F5 x t from ru);cases z;exact PySem.P.repr_of_str (fin _ _) S.ln
     |m _ _ _=>exact fr _ ru
     |E _ _ _=>exact fr _ ru
     |B _ _=>exact fr _ ru
     |C _ _=>exact fr _ ru
     |s _=>exact fr _ ru
     |F _=>exact fr _ ru
     |I _=>exact fr _ ru
     |J _=>exact absurd hc.1 (by simp[zl,yq,Val.isR])
     |A _ _=>exact fr _ ru
     |G _ _=>exact fr _ ru
   . exact w.elim
 . exact w.elim
theorem fu(hc:X.j=true):L2.yX X (.builtin "max") (rMc X.K X.d (blt .i m)):=by
 intro pins s σ H xs us Q I r h;obtain⟨ρ,t,vs,hr,rv,w⟩:=h;simp only[blt]at w;split at w
 . obtain⟨x,y,rfl,rx,ry⟩:=bS rv
   cases rx;cases ry;exact L2.ik hc pins s σ H _ us Q I r ⟨_,_,rfl,zM hr (.l _) w⟩
 . split at w
   . rename_i ns en
     split at w
     . rename_i hn
       obtain⟨x,rfl,rx⟩:=sR rv;cases rx with
       |m n e q=>
        rw[q.mC en]at e;exact L2.ip hc pins s σ H _ us Q I r ⟨_,ns,rfl,.of e,hn,zM hr (.l _) w⟩
     . exact w.elim
   . exact w.elim
 . split at w
   . rename_i e
     split at w
     . rename_i ns en
       split at w
       . rename_i hn
         obtain⟨x,rfl,rx⟩:=sR rv;obtain⟨p,ys,rfl,hq,q⟩:=vA hr rx e;rw[q.mC en]at hq;exact L2.il hc pins s σ H _ us Q I r ⟨p,ns,rfl,.of hq,hn,zM hr (.l _) w⟩
       . exact w.elim
     . exact w.elim
   . exact w.elim
 . exact w.elim
theorem fv(hc:X.j=true):L2.yX X (.builtin "min") (rMc X.K X.d (blt .j m)):=by
 intro pins s σ H xs us Q I r h;obtain⟨ρ,t,vs,hr,rv,w⟩:=h;simp only[blt]at w;split at w
 . obtain⟨x,y,rfl,rx,ry⟩:=bS rv
   cases rx;cases ry;exact L2.iq hc pins s σ H _ us Q I r ⟨_,_,rfl,zM hr (.l _) w⟩
 . split at w
   . rename_i ns en
     split at w
     . rename_i hn
       obtain⟨x,rfl,rx⟩:=sR rv;cases rx with
       |m n e q=>
        rw[q.mC en]at e;exact L2.lW hc pins s σ H _ us Q I r ⟨_,ns,rfl,.of e,hn,zM hr (.l _) w⟩
     . exact w.elim
   . exact w.elim
 . split at w
   . rename_i e
     split at w
     . rename_i ns en
       split at w
       . rename_i hn
         obtain⟨x,rfl,rx⟩:=sR rv;obtain⟨p,ys,rfl,hq,q⟩:=vA hr rx e;rw[q.mC en]at hq;exact L2.ir hc pins s σ H _ us Q I r ⟨p,ns,rfl,.of hq,hn,zM hr (.l _) w⟩
       . exact w.elim
     . exact w.elim
   . exact w.elim
 . exact w.elim
theorem fq:L2.yX X (.type "int") (rMc X.K X.d (blt .o m)):=by
 intro pins s σ H xs us Q I r h;obtain⟨ρ,t,vs,hr,rv,w⟩:=h;simp only[blt]at w;split at w
 . obtain⟨x,rfl,rx⟩:=sR rv
   cases rx;exact L2.pJ pins s σ H _ us Q I r (.inl ⟨_,rfl,zM hr (.l _) w⟩)
 . obtain⟨x,rfl,rx⟩:=sR rv
   cases rx;exact L2.pJ pins s σ H _ us Q I r (.inr ⟨_,rfl,zM hr (.l _) w⟩)
 . exact w.elim
theorem rk:L2.yX X (.builtin "isinstance") (rMc X.K X.d (blt .k m)):=by
 intro pins s σ H xs us Q I r h;obtain⟨ρ,t,vs,hr,rv,w⟩:=h;simp only[blt]at w;split at w
 . split at w
   . rename_i ea ec
     obtain⟨x,y,rfl,rx,ry⟩:=bS rv;cases ry;obtain⟨e1,e2⟩:=U6 ec;subst e1;exact L2.rk pins s σ H _ us Q I r ⟨_,_,_,_,rfl,Sv hr rx ea,L2.W2 X.K _ _ e2,zM hr (.j _) w⟩
   . exact w.elim
 . exact w.elim
noncomputable def okF:Bf->Bool
 |.q|.l|.h|.s|.g|.r|.d|.n|.e|.m=>false
 |_=>true
theorem ak(hc:X.j=true)(hr0:L2.y9 k X.A):∀f m,okF f=true->L2.yX X f.val (rMc X.K X.d (blt f m))
 |.b,_,_=>ft
 |.p,_,_=>rj hc
 |.q,_,h=>by cases h
 |.c,_,_=>lX
 |.l,_,h=>by cases h
 |.h,_,h=>by cases h
 |.a,_,_=>fw hr0
 |.i,_,_=>fu hc
 |.j,_,_=>fv hc
 |.s,_,h=>by cases h
 |.o,_,_=>fq
 |.k,_,_=>rk
 |.g,_,h=>by cases h
 |.r,_,h=>by cases h
 |.d,_,h=>by cases h
 |.e,_,h=>by cases h
 |.n,_,h=>by cases h
 |.m,_,h=>by cases h
end
end M
end
section
namespace M
open PySem
noncomputable def Out.isOk{α:Type}:Out α->Bool
 |.e _ _=>true
 |.g _ _ _|.d=>false
theorem zH{o:Out α}(h:o.isOk=false)v s:o≠.e v s:=λe=>by subst e;cases h
noncomputable def plain:Expr->Bool
 |.Starred ..|.Set ..|.Slice ..|.SetComp ..=>false
 |_=>true
theorem zU(h:plain e=true):L2.noStar e=true:=by cases e<;>first|rfl|cases h
theorem wJ(h:plain e=true):Du op e=false:=by cases e<;>first|rfl|cases h
theorem bJ(h:plain e=true):L2.jX e:=by intro o i;cases e<;>first|rfl|cases h
theorem yu(h:plain e=true)x:CC e env x=pure x:=by cases e<;>first|rfl|cases h
noncomputable def nA:Expr->Bool
 |.Call (.Name _ _) [] [] _=>false
 |_=>true
theorem rK(h:nA o=true):BY o name env (eval o env)=eval o env:=by
 unfold BY;split
 . cases h
 . rfl
noncomputable def plainT:Expr->Bool
 |.UnaryOp .Not _ _|.BoolOp ..|.IfExp ..|.Compare ..=>false
 |_=>true
theorem pZ(h:plainT e=true)whole:isTrue e env whole=(do let v <-whole;standAt e.pos;holding [v] (truthy v)):=by
 cases e with
 |UnaryOp op a p=>cases op<;>first|rfl|cases h
 |_=>first|rfl|cases h
def zc:List Expr->Bool
 |[]=>true
 |e::es=>plain e&&zc es
theorem yG:∀{es} {pos} {env},zc es=true->(backTo pos (Av es env)).any (·.1)=false
 |[],_,_,_=>rfl
 |e::es,pos,env,h=>by
  rw[zc,cf]at h;rw[L2.zf (zU h.1)];show (false||(backTo pos (Av es env)).any (·.1))=false
  rw[yG h.2];rfl
section
variable {K:KF}{mg:Str->Option Value}{env:Env}{s s1:Sto}{ρ ρ':Own}{H H':L2.Hp}
theorem yQ.mono(w:yQ K mg R ρ H o Q)(x:Ext ρ H ρ' H')(h:HR K mg ρ' s1 H'):yQ K mg R ρ' H' o Q:=by
 cases o with
 |e v s'=>exact λρ2 y H2 x2 h2 r2=>w ρ2 y H2 (x.trans h x2) h2 r2
 |_=>exact w
end
section
variable {X:L2.Cx}{env:Env}{s:Sto}{E a b c:Expr}
theorem zK{o:Out Val}(h:∀v s',o≠.e v s'):L2.PE X E (tV X.K X.d env s o):=yN λ_ _ _=>Sq h
theorem un1{g:Val->Sto->Out Val}(h:L2.PE X a (tV X.K X.d env s o))(rule:∀ta,L2.PE X a ta->L2.PE X E (L2.tUn r ta))
 (op:∀ρ H s1 v x Q,HR X.K X.d ρ s1 H->RD X.K X.d ρ H v x->yQ X.K X.d (RD X.K X.d) ρ H (g v s1) Q->r x H Q):L2.PE X E (tV X.K X.d env s (o.bind g)):=by
 cases o with
 |e v s1=>exact zZ (rule _ h) λσ H Q ⟨ρ,hr,er,w⟩=>⟨ρ,hr,er,λρ1 x H1 x1 hr1 r1=>op ρ1 H1 s1 v x Q hr1 r1 (w.mono x1 hr1)⟩
 |g _ _ _=>exact zK (zH rfl)
 |d=>exact zK (zH rfl)
theorem Xv{f2:Sto->Out Val}(h1:L2.PE X a (tV X.K X.d env s o))(h2:∀s1,L2.PE X b (tV X.K X.d env s1 (f2 s1)))
 (rule:∀ta tb,L2.PE X a ta->L2.PE X b tb->L2.PE X E (L2.tOp (rM2 X.K X.d g) ta tb)):L2.PE X E (tV X.K X.d env s (o.bind λx s1=>(f2 s1).bind λy s2=>g x y s2)):=by
 cases o with
 |e v s1=>
  show L2.PE X E (tV X.K X.d env s ((f2 s1).bind λy s2=>g v y s2));have h2':=h2 s1;cases hb:f2 s1 with
  |e w s2=>
   rw[hb]at h2';exact zZ (rule _ _ h1 h2') λσ H Q ⟨ρ,hr,er,wt⟩=>⟨ρ,hr,er,λρ1 x H1 x1 hr1 r1=>⟨ρ1,hr1,er.mono x1,λρ2 y H2 x2 hr2 r2=>⟨ρ2,s2,v,w,hr2,r1.mono x2,r2,wt.mono (x1.trans hr1 x2) hr2⟩⟩⟩
  |g _ _ _=>exact zK (zH rfl)
  |d=>exact zK (zH rfl)
 |g _ _ _=>exact zK (zH rfl)
 |d=>exact zK (zH rfl)
theorem de{op op':Cop}{o:Out Val}{f2 f3:Sto->Out Val}{k:Nat}{pos:Pos}(k1:okC op=true)(k2:okC op'=true)(hr0:L2.y9 k X.A)(h1:L2.PE X a (tV X.K X.d env s o))(h2:∀s1,L2.PE X b (tV X.K X.d env s1 (f2 s1)))(h3:∀s1,L2.PE X c (tV X.K X.d env s1 (f3 s1)))(hm:plain c=true) :
 L2.PE X (.Compare a [op.op,op'.op] [b,c] pos) (tV X.K X.d env s (o.bind λx s1=>(f2 s1).bind λy s2=>(zV op x y s2).bind λr s3=>match r with
  |.e true=>(f3 s3).bind λz s4=>zV op' y z s4
  |.e false=>.e (.e false) s3
  |_=>.d)):=by
 cases o with
 |e v s1=>
  have h2':=h2 s1;show L2.PE X _ (tV X.K X.d env s ((f2 s1).bind _));cases hb:f2 s1 with
  |e w s2=>
   rw[hb]at h2';show L2.PE X _ (tV X.K X.d env s ((zV op v w s2).bind _));cases hc:zV op v w s2 with
   |e r s3=>
    cases r with
    |e t=>
     have h3':=h3 s3;have rule:=L2.cy (pos:=pos) (uP hr0 op k1) (uP hr0 op' k2) h1 h2' h3' (show GK [op.op,op'.op] [b,c]=false from wJ hm);refine zZ rule λσ H Q ⟨ρ,hr,er,wt⟩=>⟨ρ,hr,er,λρ1 x H1 x1 hr1 r1=>⟨ρ1,hr1,er.mono x1,λρ2 y H2 x2 hr2 r2=>⟨ρ2,s2,v,w,hr2,r1.mono x2,r2,?_⟩⟩⟩;rw[hc];intro ρ3 z H3 x3 hr3 r3;cases r3;refine⟨t,rfl,?_⟩;have xx:=(x1.trans hr1 x2).trans hr2 x3;have wt':=wt.mono xx hr3;cases t with
     |true=>
      rw[if_pos rfl];refine⟨ρ3,hr3,er.mono xx,?_⟩;have wt2:yQ X.K X.d (RD X.K X.d) ρ3 H3 ((f3 s3).bind λz s4=>zV op' w z s4) Q:=wt';cases hz:f3 s3 with
      |e u s4=>
       rw[hz]at wt2;exact λρ4 q H4 x4 hr4 r4=>⟨ρ4,s4,w,u,hr4,(r2.mono x3).mono x4,r4,wt2.mono x4 hr4⟩
      |g _ _ _=>rw[hz]at wt2;exact wt2
      |d=>rw[hz]at wt2;exact wt2
     |false=>
      rw[if_neg Ad];exact zM hr3 (.j false) wt'
    |_=>exact zK (zH rfl)
   |g _ _ _=>exact zK (zH rfl)
   |d=>exact zK (zH rfl)
  |g _ _ _=>exact zK (zH rfl)
  |d=>exact zK (zH rfl)
 |g _ _ _=>exact zK (zH rfl)
 |d=>exact zK (zH rfl)
theorem Wk{o:Out Val}{pos:Pos}(h:L2.PE X a (tV X.K X.d env s o)):L2.PE X (.UnaryOp .USub a pos) (tV X.K X.d env s (o.bind λx s1=>match x with|.c i=>.e (.c (-i)) s1|_=>.d)):=by
 refine un1 h (λta q=>L2.Tu L2.UE q) λρ H s1 v x Q hr r w=>?_;cases r with
 |l i=>exact⟨i,rfl,zM hr (.l _) w⟩
 |_=>exact w.elim
theorem Wl{o:Out Val}{pos:Pos}(h:L2.PE X a (tV X.K X.d env s o)):L2.PE X (.UnaryOp .Not a pos) (tV X.K X.d env s (o.bind λx s1=>match x with|.e b=>.e (.e !b) s1|_=>.d)):=by
 refine un1 (r:=λx H Q=>∃c,x=.f c/\Q (.f (!c)) H) h (λta q=>L2.Vc q) λρ H s1 v x Q hr r w=>?_;cases r with
 |j i=>exact⟨i,rfl,zM hr (.j _) w⟩
 |_=>exact w.elim
theorem dZ{rest:List Expr}{o:Out Val}{f2:Sto->Out Val}{pos:Pos}(h1:L2.PE X a (tV X.K X.d env s o))(h2:∀s1,L2.PE X (.BoolOp .And (b::rest) pos) (tV X.K X.d env s1 (f2 s1))) :
 L2.PE X (.BoolOp .And (a::b::rest) pos) (tV X.K X.d env s (o.bind λx s1=>match x with|.e true=>f2 s1|.e false=>.e (.e false) s1|_=>.d)):=by
 cases o with
 |e v s1=>
  refine zZ (L2.VX h1 (h2 s1)) λσ H Q ⟨ρ,hr,er,wt⟩=>⟨ρ,hr,er,λρ1 x H1 x1 hr1 r1=>?_⟩;have wt':=wt.mono x1 hr1;cases r1 with
  |j t=>
   refine⟨t,rfl,?_⟩;cases t with
   |true=>exact L2.qt (⟨ρ1,hr1,er.mono x1,wt'⟩)
   |false=>exact L2.rE (zM hr1 (.j _) wt')
  |_=>exact wt'.elim
 |g _ _ _=>exact zK (zH rfl)
 |d=>exact zK (zH rfl)
theorem U0{rest:List Expr}{o:Out Val}{f2:Sto->Out Val}{pos:Pos}(h1:L2.PE X a (tV X.K X.d env s o))(h2:∀s1,L2.PE X (.BoolOp .Or (b::rest) pos) (tV X.K X.d env s1 (f2 s1))) :
 L2.PE X (.BoolOp .Or (a::b::rest) pos) (tV X.K X.d env s (o.bind λx s1=>match truth s1 x with|some false=>f2 s1|some true=>.e x s1|dS=>.d)):=by
 cases o with
 |e v s1=>
  refine zZ (L2.Vd h1 (h2 s1)) λσ H Q ⟨ρ,hr,er,wt⟩=>⟨ρ,hr,er,λρ1 x H1 x1 hr1 r1=>?_⟩;have wt':yQ X.K X.d (RD X.K X.d) ρ1 H1 (match truth s1 v with|some false=>f2 s1|some true=>.e v s1|dS=>.d) Q:=wt.mono x1 hr1
  cases ht:truth s1 v with
  |none=>rw[ht]at wt';exact wt'.elim
  |some t=>
   rw[ht]at wt';refine⟨t,aL hr1 r1 ht,?_⟩;cases t with
   |true=>exact L2.qt (zM hr1 r1 wt')
   |false=>exact L2.rE (⟨ρ1,hr1,er.mono x1,wt'⟩)
 |g _ _ _=>exact zK (zH rfl)
 |d=>exact zK (zH rfl)
theorem uu{o:Out (List Val)}(h:∀v s',o≠.e v s'):L2.PA X es (tVs X.K X.d env s o):=Tp λ_ _ _=>V4 h
theorem j6:L2.PA X [] (tVs X.K X.d env s (.e [] s)):=cu L2.yk λσ H Q ⟨ρ,hr,er,wt⟩=>wt ρ [] H Ext.refl hr .d
theorem mH{f2:Sto->Out (List Val)}(hp:plain a=true)(h1:L2.PE X a (tV X.K X.d env s o))(h2:∀s1,L2.PA X es (tVs X.K X.d env s1 (f2 s1))) :
 L2.PA X (a::es) (tVs X.K X.d env s (o.bind λv s1=>(f2 s1).bind λvs s2=>.e (v::vs) s2)):=by
 cases o with
 |e v s1=>
  have h2':=h2 s1;show L2.PA X _ (tVs X.K X.d env s ((f2 s1).bind _));cases hb:f2 s1 with
  |e ws s2=>
   rw[hb]at h2';exact cu (L2.pac h1 h2' (zU hp)) λσ H Q ⟨ρ,hr,er,wt⟩=>⟨ρ,hr,er,λρ1 x H1 x1 hr1 r1=>⟨ρ1,hr1,er.mono x1,λρ2 y H2 x2 hr2 r2=>wt ρ2 _ H2 (x1.trans hr1 x2) hr2 (.a (r1.mono x2) r2)⟩⟩
  |g _ _ _=>exact uu (zH rfl)
  |d=>exact uu (zH rfl)
 |g _ _ _=>exact uu (zH rfl)
 |d=>exact uu (zH rfl)
theorem kA(h:L2.PA X es (tVs X.K X.d env s o)):L2.PE X (.Tuple es k pos) (tV X.K X.d env s (o.bind λvs s1=>if vs.length<=zb then .e (.f vs) s1 else .d)):=by
 cases o with
 |e vs s1=>
  refine zZ (L2.kf h) λσ H Q ⟨ρ,hr,er,wt⟩=>⟨ρ,hr,er,λρ1 xs H1 x1 hr1 r1=>?_⟩;have wt':yQ X.K X.d (RD X.K X.d) ρ1 H1 (if vs.length<=zb then .e (.f vs) s1 else .d) Q:=wt.mono x1 hr1
  by_cases hz:vs.length<=zb
  . rw[if_pos hz]at wt'
    exact⟨by rw[<-r1.length,<-yf];exact hz,iB hr1 r1 wt'⟩
  . rw[if_neg hz]at wt';exact wt'.elim
 |g _ _ _=>exact zK (zH rfl)
 |d=>exact zK (zH rfl)
theorem di(h:L2.PA X es (tVs X.K X.d env s o)):L2.PE X (.List es pos) (tV X.K X.d env s (o.bind λvs s1=>if vs.length<=zb then newList m vs s1 else .d)):=by
 cases o with
 |e vs s1=>
  refine zZ (L2.qY h) λσ H Q ⟨ρ,hr,er,wt⟩=>⟨ρ,hr,er,λρ1 xs H1 x1 hr1 r1=>?_⟩;have wt':yQ X.K X.d (RD X.K X.d) ρ1 H1 (if vs.length<=zb then newList m vs s1 else .d) Q:=wt.mono x1 hr1
  by_cases hz:vs.length<=zb
  . rw[if_pos hz]at wt'
    exact⟨by rw[<-r1.length,<-yf];exact hz,uq hr1 r1 wt'⟩
  . rw[if_neg hz]at wt';exact wt'.elim
 |g _ _ _=>exact zK (zH rfl)
 |d=>exact zK (zH rfl)
theorem Uz(h:L2.PA X es (tVs X.K X.d env s o))(rule:∀t,L2.PA X es t->L2.PE X E (L2.tCB (rMc X.K X.d g) t)):L2.PE X E (tV X.K X.d env s (o.bind g)):=by
 cases o with
 |e vs s1=>exact zZ (rule _ h) λσ H Q ⟨ρ,hr,er,wt⟩=>⟨ρ,hr,er,λρ1 xs H1 x1 hr1 r1=>⟨ρ1,s1,vs,hr1,r1,wt.mono x1 hr1⟩⟩
 |g _ _ _=>exact zK (zH rfl)
 |d=>exact zK (zH rfl)
theorem Wj(k1:okF f=true)(hc:X.j=true)(hr0:L2.y9 k X.A)(hg:L2.Gl X f.nm)(hm:X.d f.nm=none)(hp:zc (a::es)=true)(h:L2.PA X (a::es) (tVs X.K X.d env s o)) :
 L2.PE X (.Call (.Name f.nm p) (a::es) [] pos) (tV X.K X.d env s (o.bind (blt f m))):=by
 rw[zc,cf]at hp;refine Uz h λt ht=>?_;have hb:=ak hc hr0 f m k1;have bo:=f.boot;have st:=L2.zf (es:=es) (env:=X.a) (zU hp.1);have hn:=yG (pos:=pos) (env:=X.a) hp.2;cases f with
 |c=>exact L2.yy hb hg hm bo ht (by decide) (by decide) st hn
 |l=>exact L2.yy hb hg hm bo ht (by decide) (by decide) st hn
 |o=>exact L2.yy hb hg hm bo ht (by decide) (by decide) st hn
 |r=>exact L2.yy hb hg hm bo ht (by decide) (by decide) st hn
 |_=>exact L2.uv hb hg hm bo ht (by decide) (by decide) st hn
theorem z8{o:Out Bool}(h:∀v s',o≠.e v s'):L2.PT X E (tT X.K X.d env s o):=iJ λ_ _ _=>Xj h
theorem Wt(hp:plainT a=true)(h:L2.PE X a (tV X.K X.d env s o)):L2.PT X a (tT X.K X.d env s o.truth):=by
 cases o with
 |e v s1=>
  refine sP (L2.mn h (pZ hp)) λσ H Q ⟨ρ,hr,er,wt⟩=>⟨ρ,hr,er,λρ1 x H1 x1 hr1 r1=>?_⟩;have wt':=wt.mono x1 hr1;simp only[Out.truth,zQ]at wt';cases ht:truth s1 v with
  |none=>rw[ht]at wt';exact wt'.elim
  |some b=>rw[ht]at wt';exact⟨b,aL hr1 r1 ht,wt' _ _ _ Ext.refl hr1 rfl⟩
 |g _ _ _=>exact z8 (zH rfl)
 |d=>exact z8 (zH rfl)
theorem Ws(h:L2.PT X a (tT X.K X.d env s o)):L2.PT X (.UnaryOp .Not a pos) (tT X.K X.d env s (o.bind λb s1=>.e (!b) s1)):=by
 cases o with
 |e v s1=>exact sP (L2.ki h) λσ H Q ⟨ρ,hr,er,wt⟩=>⟨ρ,hr,er,λρ1 x H1 x1 hr1 r1=>by cases r1;exact wt _ _ _ x1 hr1 rfl⟩
 |g _ _ _=>exact z8 (zH rfl)
 |d=>exact z8 (zH rfl)
theorem uy{o:Out Bool}(h:∀v s',o≠.e v s'):L2.PW X E (tT X.K X.d env s o):=T3 λ_ _ _=>Xj h
theorem kB:L2.PW X (.BoolOp .And [] pos) (tT X.K X.d env s (.e true s)):=λwh pins sh σ H Q I ⟨ρ,hr,er,wt⟩=>PyProof.Rows.isTrue_and_nil ⟨H,I,wt _ _ _ Ext.refl hr rfl⟩
theorem gD:L2.PW X (.BoolOp .Or [] pos) (tT X.K X.d env s (.e false s)):=λwh pins sh σ H Q I ⟨ρ,hr,er,wt⟩=>PyProof.Rows.isTrue_or_nil ⟨H,I,wt _ _ _ Ext.refl hr rfl⟩
theorem dw{f2:Sto->Out Bool}(h1:L2.PT X a (tT X.K X.d env s o))(h2:∀s1,L2.PW X (.BoolOp .And rest pos) (tT X.K X.d env s1 (f2 s1))) :
 L2.PW X (.BoolOp .And (a::rest) pos) (tT X.K X.d env s (o.bind λb s1=>if b then f2 s1 else .e false s1)):=by
 cases o with
 |e v s1=>
  intro wh pins sh σ H Q I h;obtain⟨ρ,hr,er,wt⟩:=h;refine PyProof.Rows.isTrue_and (L2.thn (h1 pins sh σ H (λc H1=>if c=true then tT X.K X.d env s1 (f2 s1) σ H1 Q else Q false H1) I ⟨ρ,hr,er,λρ1 x H1 x1 hr1 r1=>?_⟩) λc s' ⟨H1,I1,q1⟩=>?_)
  . have wt':=wt.mono x1 hr1
    cases r1;cases v with
    |true=>exact L2.qt (⟨ρ1,hr1,er.mono x1,wt'⟩)
    |false=>exact L2.rE (wt' _ _ _ Ext.refl hr1 rfl)
  . cases c with
    |true=>exact h2 s1 wh pins s' σ H1 Q I1 q1
    |false=>exact⟨H1,I1,q1⟩
 |g _ _ _=>exact uy (zH rfl)
 |d=>exact uy (zH rfl)
theorem XG{f2:Sto->Out Bool}(h1:L2.PT X a (tT X.K X.d env s o))(h2:∀s1,L2.PW X (.BoolOp .Or rest pos) (tT X.K X.d env s1 (f2 s1))) :
 L2.PW X (.BoolOp .Or (a::rest) pos) (tT X.K X.d env s (o.bind λb s1=>if b then .e true s1 else f2 s1)):=by
 cases o with
 |e v s1=>
  intro wh pins sh σ H Q I h;obtain⟨ρ,hr,er,wt⟩:=h;refine PyProof.Rows.isTrue_or (L2.thn (h1 pins sh σ H (λc H1=>if c=true then Q true H1 else tT X.K X.d env s1 (f2 s1) σ H1 Q) I ⟨ρ,hr,er,λρ1 x H1 x1 hr1 r1=>?_⟩) λc s' ⟨H1,I1,q1⟩=>?_)
  . have wt':=wt.mono x1 hr1
    cases r1;cases v with
    |true=>exact L2.qt (wt' _ _ _ Ext.refl hr1 rfl)
    |false=>exact L2.rE (⟨ρ1,hr1,er.mono x1,wt'⟩)
  . cases c with
    |true=>exact⟨H1,I1,q1⟩
    |false=>exact h2 s1 wh pins s' σ H1 Q I1 q1
 |g _ _ _=>exact uy (zH rfl)
 |d=>exact uy (zH rfl)
end
end M
end
section
namespace M
open PySem
section
variable {X:L2.Cx}{env:Env}{s:Sto}{E a b c:Expr}
theorem bK{t t':L2.TO}(h:L2.PO X e t)(i:∀σ H Q,t' σ H Q->t σ H Q):L2.PO X e t':=λpins s σ H Q I q=>h pins s σ H Q I (i σ H Q q)
theorem Sj{o:Out (Option Int)}(h:∀v s',o≠.e v s'):¬tO X.K X.d env s o σ H Q:=by
 rintro ⟨ρ,_,_,w⟩;cases o with
 |e v s'=>exact h v s' rfl
 |_=>exact w
theorem mf{o:Out (Option Int)}(h:∀v s',o≠.e v s'):L2.PO X e (tO X.K X.d env s o):=λpins sh σ H Q I q=>(Sj h q).elim
theorem U3:L2.PO X none (tO X.K X.d env s (.e none s)):=bK L2.YN λσ H Q ⟨ρ,hr,er,wt⟩=>wt _ _ _ Ext.refl hr rfl
theorem Wn{o:Out Val}(h:L2.PE X a (tV X.K X.d env s o)):L2.PO X (some a) (tO X.K X.d env s (o.bind λv s1=>match v with|.c i=>.e (some i) s1|_=>.d)):=by
 cases o with
 |e v s1=>
  refine bK (L2.YO h) λσ H Q ⟨ρ,hr,er,wt⟩=>⟨ρ,hr,er,λρ1 x H1 x1 hr1 r1=>?_⟩;have wt':=wt.mono x1 hr1;cases r1 with
  |l i=>exact⟨i,rfl,wt' _ _ _ Ext.refl hr1 rfl⟩
  |_=>exact wt'.elim
 |g _ _ _=>exact mf (zH rfl)
 |d=>exact mf (zH rfl)
def rMs(K:KF)(mg:Str->Option Value)(m:Bool):L2.V->Option Int->Option Int->L2.Hp->L2.VK->Prop:=λx lo hi H Q=>∃ρ s v,HR K mg ρ s H/\RD K mg ρ H v x/\yQ K mg (RD K mg) ρ H (qv m v lo hi none s) Q
theorem Sa m:L2.SlR X (rMs X.K X.d m):=by
 intro pins s σ H x v vl vu lo hi sl Q I rx hs pl pu h;obtain⟨ρ,t,w,hr,rw',wt⟩:=h;simp only[qv]at wt;split at wt
 . cases rw' with
   |m n e q=>exact L2.YX pins s σ H _ v vl vu lo hi sl Q I rx hs pl pu ⟨_,_,rfl,e,uo hr (q.cut lo hi) wt⟩
 . rename_i heq
   cases heq
 . split at wt
   . rename_i e
     obtain⟨p,xs,rfl,hq,q⟩:=vA hr rw' e;exact L2.YW pins s σ H _ v vl vu lo hi sl Q I rx hs pl pu ⟨_,_,rfl,.of hq,uq hr (q.cut lo hi) wt⟩
   . exact wt.elim
 . rename_i heq
   cases heq
theorem U1{f2 f3 f4:Sto->Out (Option Int)}(h1:L2.PE X a (tV X.K X.d env s o))(h2:∀s1,L2.PO X lo (tO X.K X.d env s1 (f2 s1)))(h3:∀s1,L2.PO X hi (tO X.K X.d env s1 (f3 s1)))
 (h4:∀s1,L2.PO X st (tO X.K X.d env s1 (f4 s1))) (hst:(st=none/\∀s1,f4 s1=.e none s1)\/∃e,st=some e/\∀s1 s2,f4 s1≠.e none s2) :
 L2.PE X (.Subscript a (.Slice lo hi st p2) pos) (tV X.K X.d env s (o.bind λx s1=>(f2 s1).bind λl s2=>(f3 s2).bind λh s3=>(f4 s3).bind λc s4=>qv m x l h c s4)):=by
 cases o with
 |e v s1=>
  have h2':=h2 s1;show L2.PE X _ (tV X.K X.d env s ((f2 s1).bind _));cases hl:f2 s1 with
  |e l s2=>
   rw[hl]at h2';have h3':=h3 s2;show L2.PE X _ (tV X.K X.d env s ((f3 s2).bind _));cases hh:f3 s2 with
   |e h s3=>
    rw[hh]at h3';have h4':=h4 s3;show L2.PE X _ (tV X.K X.d env s ((f4 s3).bind _));rcases hst with⟨rfl,e4⟩|⟨e,rfl,e4⟩
    . rw[e4 s3]
      refine zZ (L2.bE (Sa m) h1 h2' h3') λσ H Q ⟨ρ,hr,er,wt⟩=>⟨ρ,hr,er,λρ1 x H1 x1 hr1 r1=>⟨ρ1,hr1,er.mono x1,λρ2 y H2 x2 hr2 r2=>?_⟩⟩;cases r2;refine⟨ρ2,hr2,(er.mono x1).mono x2,λρ3 z H3 x3 hr3 r3=>?_⟩;cases r3;exact⟨ρ3,s3,v,hr3,(r1.mono x2).mono x3,wt.mono ((x1.trans hr1 x2).trans hr2 x3) hr3⟩
    . cases hc:f4 s3 with
      |e cc s4=>
       rw[hc]at h4';cases cc with
       |none=>exact absurd hc (e4 s3 s4)
       |some ci=>
        by_cases hv:∃vs,v=.f vs
        case neg=>
         refine zZ (L2.ke h1 h2' h3' h4') λσ H Q ⟨ρ,hr,er,wt⟩=>⟨ρ,hr,er,λρ1 x H1 x1 hr1 r1=>⟨ρ1,hr1,er.mono x1,λρ2 y H2 x2 hr2 r2=>?_⟩⟩;cases r2;refine⟨ρ2,hr2,(er.mono x1).mono x2,λρ3 z H3 x3 hr3 r3=>?_⟩;cases r3;refine⟨ρ3,hr3,((er.mono x1).mono x2).mono x3,λρ4 z4 H4 x4 hr4 r4=>?_⟩;cases r4;have wt':yQ X.K X.d (RD X.K X.d) ρ4 H4 (qv m v l h (some ci) s4) Q:=wt.mono (((x1.trans hr1 x2).trans hr2 x3).trans hr3 x4) hr4;have em:qv m v l h (some ci) s4=(match yY s4 v with|some vs=>if ci≠0 then newList m (L2.z9 vs (L2.vW vs.length l h ci).1 ci (L2.vW vs.length l h ci).2) s4 else .d|dS=>.d):=by
          cases v with
          |f vs=>exact absurd ⟨vs,rfl⟩ hv
          |_=>rfl
         rw[em]at wt';cases hl:yY s4 v with
         |none=>rw[hl]at wt';exact wt'.elim
         |some vs=>
          rw[hl]at wt';dsimp only at wt';obtain⟨p,xs,rfl,hq,q⟩:=vA hr4 (((r1.mono x2).mono x3).mono x4) hl;by_cases c0:ci≠0
          . have wt2:yQ X.K X.d (RD X.K X.d) ρ4 H4 (newList m (L2.z9 vs (L2.vW vs.length l h ci).1 ci (L2.vW vs.length l h ci).2) s4) Q:=by rwa [if_pos c0]at wt'
            refine⟨p,xs,ci,rfl,.of hq,rfl,c0,?_⟩;rw[<-q.length];exact uq hr4 (q.z9 _ _ _) wt2
          . rw[if_neg c0]at wt';exact wt'.elim
        refine zZ (L2.gh h1 h2' h3' h4') λσ H Q ⟨ρ,hr,er,wt⟩=>⟨ρ,hr,er,λρ1 x H1 x1 hr1 r1=>⟨ρ1,hr1,er.mono x1,λρ2 y H2 x2 hr2 r2=>?_⟩⟩;cases r2;refine⟨ρ2,hr2,(er.mono x1).mono x2,λρ3 z H3 x3 hr3 r3=>?_⟩;cases r3;refine⟨ρ3,hr3,((er.mono x1).mono x2).mono x3,λρ4 z4 H4 x4 hr4 r4=>?_⟩;cases r4;have xx:=((x1.trans hr1 x2).trans hr2 x3).trans hr3 x4;have wt':yQ X.K X.d (RD X.K X.d) ρ4 H4 (qv m v l h (some ci) s4) Q:=wt.mono xx hr4;have r:=((r1.mono x2).mono x3).mono x4;cases r with
        |m n e q=>
         change yQ X.K X.d (RD X.K X.d) ρ4 H4 (if ci≠0/\(L2.yn (F9 _) l h ci).2<=zb then .e (.f (L2.z9 _ (L2.yn (F9 _) l h ci).1 ci (L2.yn (F9 _) l h ci).2)) s4 else .d) Q at wt'
         split at wt'
         . rename_i hz
           have hlen:=q.length;refine⟨_,_,ci,rfl,e,rfl,hz.1,by rw[<-hlen,<-yf];exact hz.2,?_⟩
           rw[<-hlen];exact uo hr4 (q.z9 _ _ _) wt'
         . exact wt'.elim
        |_=>obtain⟨_,e⟩:=hv;cases e
      |g _ _ _=>exact zK (zH rfl)
      |d=>exact zK (zH rfl)
   |g _ _ _=>exact zK (zH rfl)
   |d=>exact zK (zH rfl)
  |g _ _ _=>exact zK (zH rfl)
  |d=>exact zK (zH rfl)
 |g _ _ _=>exact zK (zH rfl)
 |d=>exact zK (zH rfl)
noncomputable def Mf.nm:Mf->Str
 |.c=>"count"|.a=>"append"|.b=>"extend"|.f=>"pop"|.d=>"index"|.e=>"join"
noncomputable def okM:Mf->Bool
 |.c|.b|.f|.d|.e=>false
 |_=>true
theorem dj{f2:Sto->Out Val}(hm:okM f=true)(hs:nA a=true)(hp:plain b=true)(hline:(apos.endLine == cpos.line)=true)(h1:L2.PE X a (tV X.K X.d env s o))(h2:∀s1,L2.PE X b (tV X.K X.d env s1 (f2 s1))) :
 L2.PE X (.Call (.Attribute a f.nm apos) [b] [] cpos) (tV X.K X.d env s (o.bind λx s1=>((f2 s1).bind λv s2=>(Out.e [v] s2:Out (List Val))).bind λvs s2=>xk f x vs s2)):=by
 cases o with
 |e v s1=>
  have h2':=h2 s1;show L2.PE X _ (tV X.K X.d env s (((f2 s1).bind λv s2=>(Out.e [v] s2:Out (List Val))).bind λvs s2=>xk f v vs s2));cases hb:f2 s1 with
  |e w s2=>
   rw[hb]at h2';show L2.PE X _ (tV X.K X.d env s (xk f v [w] s2));cases f with
   |c=>cases hm
   |a=>
    cases v with
    |j i=>
     refine zZ (L2.gb (es:=[]) h1 h2' (rK hs) (zU hp) hline) λσ H Q ⟨ρ,hr,er,wt⟩=>⟨ρ,hr,er,λρ1 x H1 x1 hr1 r1=>?_⟩;cases r1 with
     |C e k=>
      obtain⟨xs,q⟩:=dG k;refine⟨.inl ⟨rfl,_,.of q⟩,ρ1,hr1,er.mono x1,λρ2 y H2 x2 hr2 r2=>?_⟩;have wt':yQ X.K X.d (RD X.K X.d) ρ2 H2 (xk .a (.j i) [w] s2) Q:=wt.mono (x1.trans hr1 x2) hr2;simp only[xk]at wt';split at wt'
      . rename_i vs hv
        split at wt'
        . rename_i hz
          obtain⟨b',ys,e1,e2,q2⟩:=hr2.obj i _ hv;have e':=x2.get e;rw[e']at e1;cases e1;refine⟨_,ys,y,rfl,rfl,e2,by rw[<-q2.length,<-yf];exact hz,?_⟩
          exact wt' _ _ _ (Ext.write hr2 e' e2 _) (hr2.write e' e2 (q2.append (.a r2 .d))) .p
        . exact wt'.elim
      . exact wt'.elim
    |_=>exact zK (zH rfl)
   |b=>cases hm
   |f=>cases hm
   |d=>cases hm
   |e=>cases hm
  |g _ _ _=>exact zK (zH rfl)
  |d=>exact zK (zH rfl)
 |g _ _ _=>exact zK (zH rfl)
 |d=>exact zK (zH rfl)
end
def spN(T:Tbl)(K:KF)(mg:Str->Option Value)(n:Nat)(f:Str)(ver:Nat):L2.Sp:=λvs H Q _=>∃ρ s args,HR K mg ρ s H/\RDs K mg ρ H args vs/\yQ K mg (RD K mg) ρ H (zD T n f ver args s) Q
structure Callee(T:Tbl)(n:Nat)(X:L2.Cx)(f:Str)(ver:Nat)(F:Fn):Prop where
 a:∃fa fd,X.d f=some (.ref fa)/\BS X.K (.ref fa)=true/\L2.Binds X.K fd F.b []/\L2.uU X.f X.w X.K X.d X.g L2.CX0 n fa fd F.b (spN T X.K X.d n f ver)
section
variable {X:L2.Cx}{env:Env}{s:Sto}{T:Tbl}{n ver:Nat}{f:Str}{F:Fn}
theorem da(C:Callee T n X f ver F)(hr0:L2.y9 n X.A)(hg:L2.Gl X f)(hd:(f == ("__debug__":Str))=false):L2.PE X (.Call (.Name f p) [] [] pos) (tV X.K X.d env s (zD T n f ver [] s)):=by obtain⟨fa,fd,hm,hk,hb,hf⟩:=C.a;exact zZ (L2.mW hf hr0 hg hm hk hb .nil L2.XW hd) λσ H Q ⟨ρ,hr,er,wt⟩=>⟨ρ,s,[],hr,.d,wt⟩
theorem Ze(C:Callee T n X f ver F)(hr0:L2.y9 n X.A)(hg:L2.Gl X f)(hd:(f == ("__debug__":Str))=false)(hp:zc es=true)(hne:es≠[])(h:L2.PA X es (tVs X.K X.d env s o)) :
 L2.PE X (.Call (.Name f p) es [] pos) (tV X.K X.d env s (o.bind (zD T n f ver))):=by
 obtain⟨fa,fd,hm,hk,hb,hf⟩:=C.a;cases o with
 |e vs s1=>
  cases es with
  |nil=>exact absurd rfl hne
  |cons e es=>
   rw[zc,cf]at hp;refine zZ (L2.rQ hf hr0 hg hm hk hb .nil L2.XW h hd (L2.zf (zU hp.1)) (yG hp.2)) λσ H Q ⟨ρ,hr,er,wt⟩=>⟨ρ,hr,er,λρ1 xs H1 x1 hr1 r1=>?_⟩;show spN T X.K X.d n f ver (xs++[]) H1 Q L2.E0;rw[A9];exact⟨ρ1,s1,vs,hr1,r1,wt.mono x1 hr1⟩
 |g _ _ _=>exact zK (zH rfl)
 |d=>exact zK (zH rfl)
end
end M
end
section
namespace M
open PySem
theorem xV:∀{c} {p},(c=true->p)->cond c p True
 |true,_,h=>h rfl
 |false,_,_=>AZ
theorem rl(h:cond c p True)(e:c=true):p:=by subst e;exact h
mutual
theorem US:∀(a b:Val),cond (a.beq b) (a=b) True
 |.h,b=>by cases b<;>first|exact(rfl:Val.h=Val.h)|exact AZ
 |.e x,b=>by cases b with|e y=>exact xV λh=>congrArg Val.e (B6 (show (x == y)=true from h))|_=>exact AZ
 |.c x,b=>by cases b with|c y=>exact xV λh=>congrArg Val.c (B6 (show (x == y)=true from h))|_=>exact AZ
 |.g x,b=>by cases b with|g y=>exact xV λh=>congrArg Val.g (B6 (show (x == y)=true from h))|_=>exact AZ
 |.f x,b=>by cases b with|f y=>exact xV λh=>congrArg Val.f (rl (oQ x y) h)|_=>exact AZ
 |.m x,b=>by cases b with|m y=>exact xV λh=>congrArg Val.m (rl (oQ x y) h)|_=>exact AZ
 |.p,b=>by cases b<;>first|exact(rfl:Val.p=Val.p)|exact AZ
 |.o x,b=>by cases b with|o y=>exact xV λh=>congrArg Val.o (B6 (show (x == y)=true from h))|_=>exact AZ
 |.r x,b=>by cases b with|r y=>exact xV λh=>congrArg Val.r (B6 (show (x == y)=true from h))|_=>exact AZ
 |.j x,b=>by cases b with|j y=>exact xV λh=>congrArg Val.j (B6 (show (x == y)=true from h))|_=>exact AZ
 |.u x,b=>by cases b with|u y=>exact xV λh=>congrArg Val.u (B6 (show (x == y)=true from h))|_=>exact AZ
 |.t x,b=>by cases b with|t y=>exact xV λh=>congrArg Val.t (B6 (show (x == y)=true from h))|_=>exact AZ
 |.q x,b=>by cases b with|q y=>exact xV λh=>congrArg Val.q (B6 (show (x == y)=true from h))|_=>exact AZ
 |.s x k,b=>by cases b with|s y l=>exact xV λh=>(by rw[show Val.beq (.s x k) (.s y l)=(x == y&&k == l) from rfl,cf]at h;rw[B6 h.1,B6 h.2])|_=>exact AZ
theorem oQ:∀(a b:List Val),cond (tm a b) (a=b) True
 |[],[]=>(rfl:([]:List Val)=[])
 |[],_::_=>AZ
 |_::_,[]=>AZ
 |x::xs,y::ys=>xV λh=>by have h:(x.beq y&&tm xs ys)=true:=h;rw[cf]at h;rw[rl (US x y) h.1,rl (oQ xs ys) h.2]
end
theorem ub(h:tm a b=true):a=b:=rl (oQ a b) h
mutual
theorem beq_refl:∀a:Val,a.beq a=true
 |.h=>rfl
 |.e x=>(beq_self_eq_true x:(x == x)=true)
 |.c x=>(beq_self_eq_true x:(x == x)=true)
 |.g x=>(beq_self_eq_true x:(x == x)=true)
 |.f x=>vy x
 |.m x=>vy x
 |.p=>rfl
 |.o x=>(beq_self_eq_true x:(x == x)=true)
 |.r x=>(beq_self_eq_true x:(x == x)=true)
 |.j x=>(beq_self_eq_true x:(x == x)=true)
 |.u x=>(beq_self_eq_true x:(x == x)=true)
 |.t x=>(beq_self_eq_true x:(x == x)=true)
 |.q x=>(beq_self_eq_true x:(x == x)=true)
 |.s x k=>(by rw[show Val.beq (.s x k) (.s x k)=(x == x&&k == k) from rfl,beq_self_eq_true,beq_self_eq_true];rfl)
theorem vy:∀a:List Val,tm a a=true
 |[]=>rfl
 |x::xs=>by rw[tm,beq_refl x,vy xs];rfl
end
section
variable {K:KF}{mg:Str->Option Value}
theorem Mv.refl:Mv ρ H ρ H:=⟨λa o e n=>⟨e,n⟩,λi a e=>e,λ_ _=>rfl⟩
theorem Mv.trans(x:Mv ρ H ρ1 H1)(y:Mv ρ1 H1 ρ2 H2):Mv ρ H ρ2 H2:=
 ⟨λa o e n=>y.b a o (x.b a o e n).1 (x.b a o e n).2,λi a e=>y.c i a (x.c i a e),λa ha=>by obtain⟨i,hi⟩:=List.getElem?_of_mem ha;exact(y.d a (AU (x.c i a hi))).trans (x.d a ha)⟩
structure Walk(K:KF)(mg:Str->Option Value)(ρ:Own)(H:L2.Hp)(r:Src)(J:L2.It):Prop where
 b:r.a.length<=zb
 c:∀(ρ2:Own) (H2:L2.Hp) (s2:Sto) (i:Nat) (v:Val),Mv ρ H ρ2 H2->HR K mg ρ2 s2 H2->r.ok s2=true->r.a[i]?=some v->J.c i H2/\∀x H3,J.b i H2 x H3->(H3=H2\/∃p o,H2 p=none/\H3=L2.upd H2 p o)/\RD K mg ρ2 H3 v x
 a:∀(ρ2:Own) (H2:L2.Hp) (s2:Sto) (i:Nat),Mv ρ H ρ2 H2->HR K mg ρ2 s2 H2->r.ok s2=true->i=r.a.length->J.a i H2
theorem Walk.mv(w:Walk K mg ρ H r J)(x:Mv ρ H ρ1 H1):Walk K mg ρ1 H1 r J:=
 ⟨w.b,λρ2 H2 s2 i v y=>w.c ρ2 H2 s2 i v (x.trans y),λρ2 H2 s2 i y=>w.a ρ2 H2 s2 i (x.trans y)⟩
def fW(H:L2.Hp):Prop:=∀a xs,(H a=some (.c xs)\/H a=some (.b xs))->xs.length<=Am
theorem qa(h:L2.PI X tg it wi):L2.PI X tg it (λσ H R=>wi σ H λJ H1=>fW H1->R J H1):=λpins s σ H R I q=>
 L2.thn (h pins s σ H _ I q) λv s1 h1=>L2.thn h1 λitv s2 ⟨i,fp,tn,J,H',e,I',T,t0,f,r⟩=>⟨i,fp,tn,J,H',e,I',T,t0,f,r λa xs hx=>by
  rcases hx with hx|hx
  . obtain⟨z,_⟩:=(show L2.z6 X.f X.w H' s2.heap a (.c xs) from I'.B a _ hx);exact z
  . obtain⟨z,_⟩:=(show L2.z6 X.f X.w H' s2.heap a (.b xs) from I'.B a _ hx);exact z⟩
theorem aS(hz:vs.length<=zb)(n:ρ.no a)(e:H a=some (.c xs))(q:RDs K mg ρ H vs xs):Walk K mg ρ H ⟨vs,none⟩ (L2.Itt K a) where
 b:=hz
 c:=λρ2 H2 s2 i v x hr _ hv=>by have e2:=(x.b a _ e n).1;have q2:=RDs.mv x q;obtain⟨y,h1,h2⟩:=q2.get hv;refine⟨⟨xs,y,.of e2,h1⟩,λz H3 ⟨e3,h3⟩=>⟨.inl e3,?_⟩⟩;subst e3;have:=h3 xs (.of e2);rw[h1]at this;cases this;exact h2
 a:=λρ2 H2 s2 i x hr _ hi=>⟨xs,.of (x.b a _ e n).1,by rw[<-q.length];exact ED hi.symm⟩
theorem aQ(hz:vs.length<=zb)(n:ρ.no a)(e:H a=some (.b xs))(q:RDs K mg ρ H vs xs):Walk K mg ρ H ⟨vs,none⟩ (L2.Itl K a) where
 b:=hz
 c:=λρ2 H2 s2 i v x hr _ hv=>by have e2:=(x.b a _ e n).1;have q2:=RDs.mv x q;obtain⟨y,h1,h2⟩:=q2.get hv;refine⟨⟨xs,y,.of e2,h1⟩,λz H3 ⟨e3,h3⟩=>⟨.inl e3,?_⟩⟩;subst e3;have:=h3 xs (.of e2);rw[h1]at this;cases this;exact h2
 a:=λρ2 H2 s2 i x hr _ hi=>⟨xs,.of (x.b a _ e n).1,by rw[<-q.length];exact ED hi.symm⟩
theorem fH{ns:List Int}(k:KT K a (ns.map L2.V.d)):Walk K mg ρ H ⟨ns.map .c,none⟩ (L2.Itt K a) where
 b:=by obtain⟨o,its,n,_,_,_,h4,h5⟩:=k;have:=h5.length;simp only[Ae,C1]at this;show (ns.map Val.c).length<=_;rw[Ae,yf,this];exact h4
 c:=λρ2 H2 s2 i v x hr _ hv=>by obtain⟨y,h1,h2⟩:=(RDs.ints (K:=K) (mg:=mg) (ρ:=ρ2) (H:=H2) ns).get hv;refine⟨⟨_,y,k.sqt,h1⟩,λz H3 ⟨e3,h3⟩=>⟨.inl e3,?_⟩⟩;subst e3;have:=h3 _ k.sqt;rw[h1]at this;cases this;exact h2
 a:=λρ2 H2 s2 i x hr _ hi=>⟨_,k.sqt,by rw[Ae];rw[hi];simp⟩
theorem aR(hz:vs.length<=zb)(e:ρ.o[i0]?=some a):Walk K mg ρ H ⟨vs,some i0⟩ (L2.Itl K a) where
 b:=hz
 c:=λρ2 H2 s2 i v x hr ho hv=>by
  simp only[Src.ok]at ho;split at ho
  . rename_i ws hw
    cases ub ho;obtain⟨b,xs,e1,e2,q⟩:=hr.obj i0 _ hw;rw[x.c _ _ e]at e1;cases e1;obtain⟨y,h1,h2⟩:=q.get hv;refine⟨⟨xs,y,.of e2,h1⟩,λz H3 ⟨e3,h3⟩=>⟨.inl e3,?_⟩⟩;subst e3;have:=h3 xs (.of e2);rw[h1]at this;cases this;exact h2
  . cases ho
 a:=λρ2 H2 s2 i x hr ho hi=>by
  simp only[Src.ok]at ho;split at ho
  . rename_i ws hw
    cases ub ho;obtain⟨b,xs,e1,e2,q⟩:=hr.obj i0 _ hw;rw[x.c _ _ e]at e1;cases e1;exact⟨xs,.of e2,by rw[<-q.length];exact ED hi.symm⟩
  . cases ho
theorem bU:(xB lo n)[i]?=if i<n then some (.c (lo+i)) else none:=by
 unfold xB;rw[A2];by_cases h:i<n
 . rw[if_pos h,DA h];rfl
 . rw[if_neg h,BO (by rw[Bl];omega)];rfl
theorem qe:(xB lo n).length=n:=by unfold xB;rw[Ae,Bl]
theorem lI(hz:n<=zb):Walk K mg ρ H ⟨xB lo n,none⟩ (L2.Itr lo n) where
 b:=by show (xB lo n).length<=_;rw[qe];exact hz
 c:=λρ2 H2 s2 i v x hr _ hv=>by
  have hv':(xB lo n)[i]?=some v:=hv;rw[bU]at hv';split at hv'
  . rename_i hi
    cases hv';refine⟨hi,λz H3 ⟨e3,h3⟩=>⟨.inl e3,?_⟩⟩;subst h3;exact .l _
  . cases hv'
 a:=λρ2 H2 s2 i x hr _ hi=>by have:i=(xB lo n).length:=hi;rw[qe]at this;exact ED this.symm
def tI(env:Env)(s:Sto)(o:Out Src):L2.TI:=λσ H R=>∃ρ,HR K mg ρ s H/\ER K mg ρ H env σ/\(match o with
 |.e r s'=>∀ρ' H' J,Ext ρ H ρ' H'->HR K mg ρ' s' H'->Walk K mg ρ' H' r J->R J H'
 |_=>False)
end
section
variable {X:L2.Cx}{env:Env}{s:Sto}{a b tg:Expr}
theorem sO{t t':L2.TI}(h:L2.PI X tg it t)(i:∀σ H R,t' σ H R->t σ H R):L2.PI X tg it t':=λpins s σ H R I q=>h pins s σ H R I (i σ H R q)
theorem yc{o:Out Src}(h:∀v s',o≠.e v s'):L2.PI X tg it (tI (K:=X.K) (mg:=X.d) env s o):=λpins sh σ H R I q=>by
 obtain⟨ρ,_,_,w⟩:=q;cases o with
 |e v s'=>exact(h v s' rfl).elim
 |g _ _ _=>exact w.elim
 |d=>exact w.elim
theorem fW.of(z:fW H){a}(q:RDs K mg ρ H vs xs)(h:H a=some (.c xs)\/H a=some (.b xs)):vs.length<=zb:=by rw[q.length,yf];exact z a xs h
theorem Wm{o:Out Val}(h:L2.PE X a (tV X.K X.d env s o)):L2.PI X tg a (tI (K:=X.K) (mg:=X.d) env s (o.bind λv s1=>match srcOf s1 v with|some r=>.e r s1|dS=>.d)):=by
 cases o with
 |e v s1=>
  show L2.PI X tg a (tI (K:=X.K) (mg:=X.d) env s (match srcOf s1 v with|some r=>.e r s1|dS=>.d))
  cases v with
  |f vs=>
   refine sO (qa (L2.bH h)) λσ H R ⟨ρ,hr,er,w⟩=>⟨ρ,hr,er,λρ1 x H1 x1 hr1 r1=>?_⟩;cases r1 with
   |m n e q=>exact⟨_,rfl,⟨_,.of e⟩,λz=>w ρ1 H1 _ x1 hr1 (aS (z.of q (.inl e)) n e q)⟩
  |m vs=>
   refine sO (qa (L2.iH h)) λσ H R ⟨ρ,hr,er,w⟩=>⟨ρ,hr,er,λρ1 x H1 x1 hr1 r1=>?_⟩;cases r1 with
   |E n e q=>exact⟨_,rfl,⟨_,.of e⟩,λz=>w ρ1 H1 _ x1 hr1 (aQ (z.of q (.inr e)) n e q)⟩
  |o ns=>
   refine sO (L2.bH h) λσ H R ⟨ρ,hr,er,w⟩=>⟨ρ,hr,er,λρ1 x H1 x1 hr1 r1=>?_⟩;cases r1 with
   |s k=>exact⟨_,rfl,⟨_,k.sqt⟩,w ρ1 H1 _ x1 hr1 (fH k)⟩
  |j i=>
   simp only[srcOf];cases hs:s1[i]? with
   |none=>exact yc (zH rfl)
   |some cl=>
    cases cl with
    |c vs=>
     refine sO (qa (L2.iH h)) λσ H R ⟨ρ,hr,er,w⟩=>⟨ρ,hr,er,λρ1 x H1 x1 hr1 r1=>?_⟩;cases r1 with
     |C e=>
      obtain⟨b',xs,e1,e2,q⟩:=hr1.obj i _ hs;rw[e]at e1;cases e1;exact⟨_,rfl,⟨_,.of e2⟩,λz=>w ρ1 H1 _ x1 hr1 (aR (z.of q (.inr e2)) e)⟩
    |_=>exact yc (zH rfl)
  |_=>exact yc (zH rfl)
 |g _ _ _=>exact yc (zH rfl)
 |d=>exact yc (zH rfl)
theorem gA{o:Out Val}{p pos:Pos}(hp:plain a=true)(hg:L2.Gl X "range")(hm:X.d "range"=none)(h:L2.PE X a (tV X.K X.d env s o)) :
 L2.PI X tg (.Call (.Name "range" p) [a] [] pos) (tI (K:=X.K) (mg:=X.d) env s (o.bind λx s1=>match x with
  |.c j=>if -(2 ^ 62)<=j/\j<=zb then .e ⟨xB 0 j.toNat,dS⟩ s1 else .d
  |_=>.d)):=by
 cases o with
 |e v s1=>
  have st:Av [a] X.a=[(false,eval a X.a)]:=L2.zf (zU hp);refine sO (L2.gj hg hm (L2.pac h L2.yk (zU hp)) st) λσ H R ⟨ρ,hr,er,w⟩=>⟨ρ,hr,er,λρ1 x H1 x1 hr1 r1=>?_⟩;cases r1 with
  |l j=>
   simp only[zQ]at w;by_cases hz:-(2 ^ 62)<=j/\j<=zb
   . rw[if_pos hz]at w
     have hl:(zb:Int)<2 ^ 62:=by decide
     exact⟨j,rfl,hz.1,by omega,w ρ1 H1 _ x1 hr1 (lI (by omega))⟩
   . rw[if_neg hz]at w;exact w.elim
  |_=>exact w.elim
 |g _ _ _=>exact yc (zH rfl)
 |d=>exact yc (zH rfl)
theorem gB{o:Out Val}{f2:Sto->Out Val}{p pos:Pos}(hp:plain a=true)(hp2:plain b=true)(hg:L2.Gl X "range")(hm:X.d "range"=none)(h:L2.PE X a (tV X.K X.d env s o))(h2:∀s1,L2.PE X b (tV X.K X.d env s1 (f2 s1))) :
 L2.PI X tg (.Call (.Name "range" p) [a,b] [] pos) (tI (K:=X.K) (mg:=X.d) env s (o.bind λx s1=>(f2 s1).bind λy s2=>match x,y with
  |.c i,.c j=>if -(2 ^ 62)<=i/\i<2 ^ 62∧-(2 ^ 62)<=j/\j<2 ^ 62/\j-i<=zb then .e ⟨xB i (j-i).toNat,dS⟩ s2 else .d
  |_,_=>.d)):=by
 cases o with
 |e v s1=>
  have h2':=h2 s1;simp only[zQ];cases hb:f2 s1 with
  |e w s2=>
   rw[hb]at h2';have st2:Av [b] X.a=[(false,eval b X.a)]:=L2.zf (zU hp2);have st:Av [a,b] X.a=[(false,eval a X.a),(false,eval b X.a)]:=by rw[L2.zf (zU hp),st2]
   refine sO (L2.gk hg hm (L2.pac h (L2.pac h2' L2.yk (zU hp2)) (zU hp)) st st2) λσ H R ⟨ρ,hr,er,wt⟩=>⟨ρ,hr,er,λρ1 x H1 x1 hr1 r1=>⟨ρ1,hr1,er.mono x1,λρ2 y H2 x2 hr2 r2=>?_⟩⟩;simp only[zQ]at wt;cases r1 with
   |l i=>
    cases r2 with
    |l j=>
     simp only at wt;by_cases hz:-(2 ^ 62)<=i/\i<2 ^ 62∧-(2 ^ 62)<=j/\j<2 ^ 62/\j-i<=zb
     . rw[if_pos hz]at wt
       exact⟨i,j,rfl,⟨hz.1,hz.2.1,hz.2.2.1,hz.2.2.2.1⟩,wt ρ2 H2 _ (x1.trans hr1 x2) hr2 (lI (by omega))⟩
     . rw[if_neg hz]at wt;exact wt.elim
    |_=>exact wt.elim
   |_=>exact wt.elim
  |g _ _ _=>exact yc (zH rfl)
  |d=>exact yc (zH rfl)
 |g _ _ _=>exact yc (zH rfl)
 |d=>exact yc (zH rfl)
end
end M
end
section
namespace M
open PySem
def qo(K:KF)(mg:Str->Option Value)(t:Tgt)(g:L2.TG):Prop:=∀(ρ:Own) (s:Sto) (H:L2.Hp) (v:Val) (x:L2.V) (env env':Env) (σ:L2.St) (Q:L2.St->L2.Hp->Prop),HR K mg ρ s H->RD K mg ρ H v x->ER K mg ρ H env σ->yh t v env=some env' ->
 (∀σ',ER K mg ρ H env' σ'->Q σ' H)->g x σ H Q
theorem nU:qo K mg (.a i) (L2.wG i):=λρ s H v x env env' σ Q hr r er e q=>by
 cases e;exact q _ (er.set i r)
def qC:List Nat->L2.TGs
 |[]=>L2.Uh
 |i::is=>L2.XA (L2.wG i) (qC is)
theorem pV:∀{is} {vs} {xs} {env} {σ},RDs K mg ρ H vs xs->ER K mg ρ H env σ->vs.length=is.length ->
 (∀σ',ER K mg ρ H ((is.zip vs).foldl (λe p=>e.set p.1 (some p.2)) env) σ'->Q σ' H)->qC is xs σ H Q
 |[],[],_,env,σ,.d,er,_,q=>⟨rfl,q σ er⟩
 |[],_::_,_,_,_,_,_,h,_=>by cases h
 |_::_,[],_,_,_,_,_,h,_=>by cases h
 |i::is,v::vs,x::xs,env,σ,.a r rs,er,h,q=>⟨x,xs,rfl,pV rs (er.set i r) (by simpa using h) q⟩
theorem tL:qo K mg (.b is) (L2.WJ K is.length (qC is)):=λρ s H v x env env' σ Q hr r er e q=>by
 simp only[yh]at e;split at e
 . split at e
   . rename_i hl
     cases e;cases r with
     |m n e q2=>exact⟨_,_,rfl,.of e,by rw[<-q2.length];exact hl,pV q2 er hl q⟩
   . cases e
 . cases e
noncomputable def yC(sc:Scope)(N:List Str):List Nat->List Expr->Bool
 |[],[]=>true
 |i::is,.Name x _::es=>decide (N[i]?=some x)&&(decide (sc.names.lookup x=some .local)||decide (sc.names.lookup x=some .cell))&&yC sc N is es
 |_,_=>false
def ckT(sc:Scope)(N:List Str):Tgt->Expr->Bool
 |.a i,.Name x _=>decide (N[i]?=some x)&&(decide (sc.names.lookup x=some .local)||decide (sc.names.lookup x=some .cell))
 |.b is,.Tuple es _ _=>yC sc N is es&&decide (es≠[])
 |_,_=>false
section
variable {X:L2.Cx}
structure Scp(sc:Scope)(N:List Str)(X:L2.Cx):Prop where
 a:X.N=N
 c:N.Nodup
 f:∀x,sc.names.lookup x=some .local\/sc.names.lookup x=some .cell\/sc.names.lookup x=some .free->L2.Vis X.a.scope x
 e:∀x,sc.names.lookup x=some .local\/sc.names.lookup x=some .cell->L2.Loc X.a.scope x/\(X.q x=true\/X.a.scope.names.lookup x=some .local)
 b:∀x,sc.names.lookup x=some .globalImplicit->L2.Gl X x
 d:∀x,sc.names.lookup x=some .cell\/sc.names.lookup x=some .free->X.a.kindOf x=some .cell\/X.a.kindOf x=some .free
theorem mZ(S:Scp sc N X)(h1:N[i]?=some x)(h2:sc.names.lookup x=some .local\/sc.names.lookup x=some .cell):L2.PG X (.Name x p) (L2.wG i):=by obtain⟨a,b⟩:=S.e x h2;exact L2.YL (by rw[S.a];exact S.c) (by rw[S.a];exact h1) a b
theorem wA(S:Scp sc N X):∀{is} {es},yC sc N is es=true->L2.PGs X es (qC is)/\(CJ es X.a).length=is.length/\(CJ es X.a).findIdx? (·.1)=none
 |[],[],_=>⟨L2.YM,rfl,rfl⟩
 |[],_::_,h=>by cases h
 |_::_,[],h=>by cases h
 |i::is,e::es,h=>by
  cases e with
  |Name x p=>
   simp only[yC,cf,Ax,decide_eq_true_eq]at h;obtain⟨a,b,c⟩:=wA S h.2;refine⟨L2.bG (mZ S h.1.1 h.1.2) a,?_,?_⟩
   . show (CJ es X.a).length+1=is.length+1
     rw[b]
   . show List.findIdx? (·.1) ((false,assign (.Name x p) X.a)::CJ es X.a)=none
     rw[List.findIdx?_cons];simp only[AX,if_false];rw[c];rfl
  |_=>cases h
theorem Tw(S:Scp sc N X)(hc:X.j=true)(h:ckT sc N t e=true):∃g,L2.PG X e g/\qo X.K X.d t g:=by
 cases t with
 |a i=>
  cases e with
  |Name x p=>
   simp only[ckT,cf,Ax,decide_eq_true_eq]at h;exact⟨_,mZ S h.1 h.2,nU⟩
  |_=>cases h
 |b is=>
  cases e with
  |Tuple es k p=>
   simp only[ckT,cf,decide_eq_true_eq]at h;obtain⟨a,b,c⟩:=wA S h.1;exact⟨_,L2.qZ hc a b c,tL⟩
  |_=>cases h
end
structure Lp(acc:Addr)(ρ:Own)(H:L2.Hp)(ρ':Own)(H':L2.Hp):Prop where
 f:∃new:List Addr,ρ'.o=ρ.o++new/\∀a∈new,H a=none
 c:ρ'.h=acc::ρ.h
 d:∀(a:Addr) (o:L2.HO),H a=some o->a ∉ ρ.o->H' a=some o
 g:∀a∈ρ.o,hk (H' a)=hk (H a)
section
variable {K:KF}{mg:Str->Option Value}{ρ ρ1 ρ2:Own}{H H1 H2:L2.Hp}{s s1:Sto}{acc:Addr}
noncomputable def Own.hide(ρ:Own)(acc:Addr):Own:=⟨ρ.o,acc::ρ.h⟩
theorem om(hr:HR K mg ρ s H)(hn:H acc=none)o:Mv ρ H (ρ.hide acc) (L2.upd H acc o):=
 ⟨λa u e n=>⟨by rw[L2.zJ (L2.zP e hn)];exact e,n.1,λhm=>by
  rcases An.mp hm with z|z
  . exact L2.zP e hn z
  . exact n.2 z⟩,λi a e=>e,λa ha=>by rw[L2.zJ λz=>(hr.new hn).1 (by rw[<-z];exact ha)]⟩
theorem HR.hide(hr:HR K mg ρ s H)(hn:H acc=none):HR K mg (ρ.hide acc) s (L2.upd H acc (.b xs)):=by
 refine⟨hr.f,hr.v,λi c e=>?_,λa ha=>?_⟩
 . obtain⟨a,e1,q⟩:=hr.m i c e
   obtain⟨o,e2⟩:=q.there;exact⟨a,e1,q.mv (om hr hn _) (L2.zJ (L2.zP e2 hn))⟩
 . rcases An.mp ha with z|z
   . subst z;exact⟨⟨xs,L2.zL⟩,(hr.new hn).1⟩
   . obtain⟨⟨ys,e⟩,n⟩:=hr.d a z
     exact⟨⟨ys,by rw[L2.zJ (L2.zP e hn)];exact e⟩,n⟩
theorem Lp.start(hr:HR K mg ρ s H)(hn:H acc=none)o:Lp acc ρ H (ρ.hide acc) (L2.upd H acc o):=
 ⟨⟨[],by simp[Own.hide],λa ha=>by cases ha⟩,rfl,λa u e _=>by rw[L2.zJ (L2.zP e hn)];exact e,(om hr hn o).d⟩
theorem Lp.step(l:Lp acc ρ H ρ1 H1)(hr:HR K mg ρ1 s1 H1)(x:Ext ρ1 H1 ρ2 H2):Lp acc ρ H ρ2 H2:=by
 obtain⟨new,e1,hn⟩:=l.f;obtain⟨new2,e2,hn2⟩:=x.d;refine⟨⟨new++new2,by rw[e2,e1,BJ],λa ha=>?_⟩,x.f.trans l.c,λa o e n=>x.c a o (l.d a o e n) ?_,λa ha=>(x.g a (by rw[e1];exact Bp _ ha)).trans (l.g a ha)⟩
 . rcases A3.mp ha with ha|ha
   . exact hn a ha
   . cases q:H a with
     |none=>rfl
     |some o=>
      by_cases hm:a∈ρ.o
      . obtain⟨xs,e⟩:=hr.trk (a:=a) (by rw[e1];exact Bp _ hm)
        rw[hn2 a ha]at e;cases e
      . have:=l.d a o q hm
        rw[hn2 a ha]at this;cases this
 . rw[e1]
   intro hm;rcases A3.mp hm with hm|hm
   . exact n hm
   . rw[hn a hm]at e;cases e
theorem Lp.emit(l:Lp acc ρ H ρ1 H1)(hr:HR K mg ρ1 s1 H1)(hn:H acc=none)o:Lp acc ρ H ρ1 (L2.upd H1 acc o):=
 ⟨l.f,l.c,λa u e n=>by rw[L2.zJ (L2.zP e hn)];exact l.d a u e n,λa ha=>by
  obtain⟨new,e1,_⟩:=l.f;rw[L2.zJ λz=>(hr.d acc (by rw[l.c];exact Ap)).2 (by rw[<-z,e1];exact Bp _ ha)]
  exact l.g a ha⟩
theorem Lp.here(l:Lp acc ρ H ρ1 H1):acc∈ρ1.h:=by rw[l.c];exact Ap
theorem jt(hr:HR K mg ρ1 s1 H1)(ha:acc∈ρ1.h)o:Mv ρ1 H1 ρ1 (L2.upd H1 acc o):=
 ⟨λa u e n=>⟨by rw[L2.zJ (λz=>n.2 (by rw[z];exact ha))];exact e,n⟩,λi a e=>e,λa h=>by rw[L2.zJ λz=>(hr.d acc ha).2 (by rw[<-z];exact h)]⟩
theorem HR.emit(hr:HR K mg ρ1 s1 H1)(ha:acc∈ρ1.h):HR K mg ρ1 s1 (L2.upd H1 acc (.b xs)):=by
 have hno:=(hr.d acc ha).2;refine⟨hr.f,hr.v,λi c e=>?_,λa hm=>?_⟩
 . obtain⟨a,e1,q⟩:=hr.m i c e
   exact⟨a,e1,q.mv (jt hr ha _) (L2.zJ (λz=>hno (by rw[<-z];exact AU e1)))⟩
 . obtain⟨⟨ys,e⟩,n⟩:=hr.d a hm
   by_cases z:a=acc
   . subst z;exact⟨⟨xs,L2.zL⟩,n⟩
   . exact⟨⟨ys,by rw[L2.zJ z];exact e⟩,n⟩
theorem Lp.done(l:Lp acc ρ H ρ1 H1)(h0:HR K mg ρ s H)(hn:H acc=none)(hr:HR K mg ρ1 s1 H1)(e:H1 acc=some (.b ys))(q:RDs K mg ρ1 H1 vs ys)(w:yQ K mg (RD K mg) ρ H (newList m vs s1) Q):Q (.c acc) H1:=by
 have ha:=l.here;have hacc:=(hr.d acc ha).2;have hnh:=(h0.new hn).2;cases m with
 |false=>
  have mv:Mv ρ1 H1 ⟨ρ1.o,ρ.h⟩ H1:=⟨λa u e n=>⟨e,n.1,λz=>n.2 (by rw[l.c];exact Af _ z)⟩,λi a e=>e,λ_ _=>rfl⟩
  refine w ⟨ρ1.o,ρ.h⟩ _ H1 ⟨l.f,rfl,l.d,l.g⟩ ⟨hr.f,hr.v,λi ws e=>?_,λa hm=>?_⟩ (.E ⟨hacc,hnh⟩ e (RDs.mv mv q))
  . obtain⟨a,e1,t⟩:=hr.m i ws e
    exact⟨a,e1,t.mv mv rfl⟩
  . exact hr.d a (by rw[l.c];exact Af _ hm)
 |true=>
  have mv:Mv ρ1 H1 ⟨ρ1.o++[acc],ρ.h⟩ H1:=by
   refine⟨λa u e n=>⟨e,λhm=>?_,λz=>n.2 (by rw[l.c];exact Af _ z)⟩,λi a e=>?_,λ_ _=>rfl⟩
   . rcases A3.mp hm with hm|hm
     . exact n.1 hm
     . rw[AW.mp hm]at n;exact n.2 ha
   . show (ρ1.o++[acc])[i]?=_
     rw[AS (Aw.mp e).1];exact e
  have rf:(ρ1.o++[acc])[s1.length]?=some acc:=by rw[<-hr.f,Be (Ah _)];simp
  refine w ⟨ρ1.o++[acc],ρ.h⟩ _ H1 ⟨?_,rfl,l.d,l.g⟩ ⟨?_,?_,λi ws q'=>?_,λa hm=>?_⟩ (.C rf (by rw[e];rfl))
  . obtain⟨new,e1,hnew⟩:=l.f
    refine⟨new++[acc],by show ρ1.o++[acc]=_;rw[e1,BJ],λa hm=>?_⟩
    rcases A3.mp hm with hm|hm
    . exact hnew a hm
    . rw[AW.mp hm];exact hn
  . show (ρ1.o++[acc]).length=(s1++[Cel.c vs]).length
    rw[Au,Au,hr.f];rfl
  . show (ρ1.o++[acc]).Nodup
    rw[Fq];exact⟨hr.v,by simp,λa ha' b hb=>by rw[AW.mp hb];intro z;subst z;exact hacc ha'⟩
  . by_cases hi:i<s1.length
    . rw[AS hi]at q'
      obtain⟨a,e1,t⟩:=hr.m i ws q';exact⟨a,mv.c i a e1,t.mv mv rfl⟩
    . have hi':i=s1.length:=by have:=(Aw.mp q').1;rw[Au]at this;simp at this;omega
      subst hi';rw[Be (Ah _)]at q';simp at q';subst q';exact⟨acc,rf,ys,e,RDs.mv mv q⟩
  . obtain⟨x,n⟩:=hr.d a (by rw[l.c];exact Af _ hm)
    refine⟨x,λz=>?_⟩;rcases A3.mp z with z|z
    . exact n z
    . rw[AW.mp z]at hm;exact hnh hm
end
end M
end
section
namespace M
open PySem
section
variable {K:KF}{mg:Str->Option Value}
theorem n9{J:L2.It}{g:L2.TG}{tb:L2.TS}{D:L2.Ends}(Pv:Nat->L2.St->L2.Hp->Prop)(h0:Pv 0 σ H)(hd:∀σ H,Pv n σ H->J.a n H/\D.a σ H)
 (hs:∀i σ H,i<n->Pv i σ H->J.c i H/\∀x H',J.b i H x H'->g x σ H' λσ2 H2=>tb {D with a:=Pv (i+1),d:=Pv (i+1),c:=D.a} σ2 H2):L2.mq J g tb D σ H:=by
 refine⟨λi m σ H=>m=n-i/\i<=n/\Pv i σ H,⟨n,by simp,B9 _,h0⟩,?_⟩
 rintro i m σ H ⟨rfl,hi,p⟩;by_cases hlt:i<n
 . obtain⟨a,b⟩:=hs i σ H hlt p
   exact .inr ⟨a,Pv (i+1),λσ' H' p'=>⟨n-(i+1),by omega,rfl,hlt,p'⟩,b⟩
 . have e:i=n:=by omega
   subst e;exact .inl (hd σ H p)
structure CS(K:KF)(mg:Str->Option Value)(acc:Addr)(ρ0:Own)(H0:L2.Hp)(a:List Val)(s:Sto)(env:Env)(ρ:Own)(σ:L2.St)(H:L2.Hp):Prop where
 d:Lp acc ρ0 H0 ρ H
 b:HR K mg ρ s H
 c:ER K mg ρ H env σ
 e:∃ys,H acc=some (.b ys)/\RDs K mg ρ H a ys
def Grows(body:Env->Sto->List Val->Out (List Val × Env)):Prop:=∀e s a p s',body e s a=.e p s'->a.length<=p.1.length
theorem sq(hb:Grows body):∀{xs} {env} {s} {a} {p} {s'},yb r t body xs env s a=.e p s'->a.length<=p.1.length
 |[],env,s,a,p,s',h=>by
  rw[yb]at h;split at h
  . cases h;exact Ah _
  . cases h
 |x::xs,env,s,a,p,s',h=>by
  rw[yb]at h;split at h
  . split at h
    . cases h
    . rename_i env' he
      cases hc:body env' s a with
      |e q s1=>
       rw[hc]at h;exact Ay (hb _ _ _ _ _ hc) (sq hb h)
      |g _ _ _=>rw[hc]at h;cases h
      |d=>rw[hc]at h;cases h
  . cases h
def BodyOk(K:KF)(mg:Str->Option Value)(acc:Addr)(ρ0:Own)(H0:L2.Hp)(body:Env->Sto->List Val->Out (List Val × Env))(tb:L2.TS):Prop:=
 ∀(ρ:Own) (s:Sto) (H:L2.Hp) (env:Env) (σ:L2.St) (a:List Val) (p:List Val × Env) (s':Sto) (D:L2.Ends),CS K mg acc ρ0 H0 a s env ρ σ H->body env s a=.e p s'->p.1.length<=zb ->
  (∀ρ' H' σ',CS K mg acc ρ0 H0 p.1 s' p.2 ρ' σ' H'->Mv ρ H ρ' H'->D.a σ' H')->tb D σ H
theorem tx
   (W:Walk K mg ρ H r J) (TG:qo K mg t g) (hg:Grows body) (hb:BodyOk K mg acc ρ0 H0 body tb)
 (C:CS K mg acc ρ0 H0 a s env ρ σ H) (h:yb r t body r.a env s a=.e p sf) (hz:p.1.length<=zb) (fin:∀ρ' H' σ',CS K mg acc ρ0 H0 p.1 sf p.2 ρ' σ' H'->Mv ρ H ρ' H'->D.a σ' H'):L2.mq J g tb D σ H:=by
 refine n9 (n:=r.a.length) (λi σ2 H2=>∃ρ2 s2 env2 a2,CS K mg acc ρ0 H0 a2 s2 env2 ρ2 σ2 H2/\Mv ρ H ρ2 H2/\yb r t body (r.a.drop i) env2 s2 a2=.e p sf) ⟨ρ,s,env,a,C,Mv.refl,by rw[EK];exact h⟩ ?_ ?_
 . rintro σ2 H2 ⟨ρ2,s2,env2,a2,C2,mv,h2⟩
   rw[List.drop_length,yb]at h2;split at h2
   . rename_i ho
     cases h2;exact⟨W.a ρ2 H2 _ _ mv C2.b ho rfl,fin ρ2 H2 σ2 C2 mv⟩
   . cases h2
 . rintro i σ2 H2 hi ⟨ρ2,s2,env2,a2,C2,mv,h2⟩
   rw[FA hi,yb]at h2;split at h2
   . rename_i ho
     obtain⟨hgo,hy⟩:=W.c ρ2 H2 s2 i (r.a[i]) mv C2.b ho (Aa hi);refine⟨hgo,λx H3 y=>?_⟩;obtain⟨hH,rx⟩:=hy x H3 y;split at h2
     . cases h2
     . rename_i env' he
       -- the item is there: perhaps a new thing
       have C3:CS K mg acc ρ0 H0 a2 s2 env2 ρ2 σ2 H3/\Mv ρ2 H2 ρ2 H3:=by
        rcases hH with e|⟨q,o,hq,e⟩
        . subst e;exact⟨C2,Mv.refl⟩
        . subst e
          have X:=Ext.new C2.b hq o;refine⟨⟨C2.d.step C2.b X,C2.b.more hq o,C2.c.mono X,?_⟩,X.mv⟩;obtain⟨ys,e1,e2⟩:=C2.e;exact⟨ys,by rw[L2.zJ (L2.zP e1 hq)];exact e1,e2.mono X⟩
       refine TG ρ2 s2 H3 _ x env2 env' σ2 _ C3.1.b rx C3.1.c he λσ4 er4=>?_;cases hc:body env' s2 a2 with
       |e q s5=>
        rw[hc]at h2;have hlen:q.1.length<=zb:=Ay (sq hg h2) hz;exact hb ρ2 s2 H3 env' σ4 a2 q s5 _ ⟨C3.1.d,C3.1.b,er4,C3.1.e⟩ hc hlen λρ5 H5 σ5 C5 mv5=>⟨ρ5,s5,q.2,q.1,C5,(mv.trans C3.2).trans mv5,h2⟩
       |g _ _ _=>rw[hc]at h2;cases h2
       |d=>rw[hc]at h2;cases h2
   . cases h2
end
section
variable (K:KF)(mg:Str->Option Value)(Φ:Calls)(G:Str->Option Val)
def uE(e:Ex):L2.TE:=λσ H Q=>∃env s,tV K mg env s (evE Φ G env e s) σ H Q
def uT(e:Cn):L2.TT:=λσ H Q=>∃env s,tT K mg env s (evT Φ G env e s) σ H Q
def uI(it:Itb):L2.TI:=λσ H R=>∃env s,tI (K:=K) (mg:=mg) env s (xA Φ G env it s) σ H R
noncomputable def uTs:Cns->List L2.TT
 |.b=>[]
 |.a e es=>uT K mg Φ G e::uTs es
end
section
variable {K:KF}{mg:Str->Option Value}{Φ:Calls}{G:Str->Option Val}
theorem YK(h:∀env s,L2.PE X E (tV X.K X.d env s (evE Φ G env e s))):L2.PE X E (uE X.K X.d Φ G e):=λpins s σ H Q I ⟨env,t,q⟩=>h env t pins s σ H Q I q
theorem Tz(h:∀env s,L2.PT X E (tT X.K X.d env s (evT Φ G env e s))):L2.PT X E (uT X.K X.d Φ G e):=λpins s σ H Q I ⟨env,t,q⟩=>h env t pins s σ H Q I q
theorem Vg(h:∀env s,L2.PI X tg E (tI (K:=X.K) (mg:=X.d) env s (xA Φ G env it s))):L2.PI X tg E (uI X.K X.d Φ G it):=λpins s σ H Q I ⟨env,t,q⟩=>h env t pins s σ H Q I q
theorem lG:∀{es} {ρ} {s} {H},HR K mg ρ s H->ER K mg ρ H env σ->wF Φ G env es s=.e b s2 ->
 (∀ρ' H',Ext ρ H ρ' H'->HR K mg ρ' s2 H'->Q b H')->L2.nT (uTs K mg Φ G es) σ H Q
 |.b,ρ,s,H,hr,er,h,q=>by
  rw[wF]at h;cases h;exact q ρ H Ext.refl hr
 |.a e es,ρ,s,H,hr,er,h,q=>by
  rw[wF]at h;refine⟨env,s,ρ,hr,er,?_⟩;cases hc:evT Φ G env e s with
  |e c s1=>
   rw[hc]at h;intro ρ1 c' H1 x1 hr1 e1;cases e1;cases c with
   |true=>exact L2.qt (lG hr1 (er.mono x1) h λρ' H' x' hr'=>q ρ' H' (x1.trans hr1 x') hr')
   |false=>
    simp only[zQ]at h;cases h;exact L2.rE (q ρ1 H1 x1 hr1)
  |g _ _ _=>rw[hc]at h;cases h
  |d=>rw[hc]at h;cases h
def tM(Φ:Calls)(G:Str->Option Val)(elt:Ex)(ifs:Cns):Env->Sto->List Val->Out (List Val × Env):=λe s' acc=>(wF Φ G e ifs s').bind λb s2=>if b then (evE Φ G e elt s2).bind λv s3=>.e (acc++[v],e) s3 else .e (acc,e) s2
theorem rA:Grows (tM Φ G elt ifs):=by
 intro e s a p s' h;unfold tM at h;cases hc:wF Φ G e ifs s with
 |e b s1=>
  rw[hc]at h;cases b with
  |true=>
   simp only[zQ,if_true]at h;cases hv:evE Φ G e elt s1 with
   |e v s2=>rw[hv]at h;cases h;simp
   |g _ _ _=>rw[hv]at h;cases h
   |d=>rw[hv]at h;cases h
  |false=>simp only[zQ]at h;cases h;exact Ah _
 |g _ _ _=>rw[hc]at h;cases h
 |d=>rw[hc]at h;cases h
theorem lH(hn:H0 acc=none):BodyOk K mg acc ρ0 H0 (tM Φ G elt ifs) (L2.tTB (uTs K mg Φ G ifs) (L2.pk acc (uE K mg Φ G elt))):=by
 intro ρ s H env σ a p s' D C h hz q;unfold tM at h;cases hc:wF Φ G env ifs s with
 |e b s1=>
  rw[hc]at h;refine lG (ρ:=ρ) (s:=s) C.b C.c hc λρ1 H1 x1 hr1=>?_;have hacc1:∃ys,H1 acc=some (.b ys)/\RDs K mg ρ1 H1 a ys:=by obtain⟨ys,e1,e2⟩:=C.e;exact⟨ys,x1.c _ _ e1 (C.b.d acc C.d.here).2,e2.mono x1⟩
  cases b with
  |true=>
   simp only[zQ,if_true]at h;refine L2.qt ⟨env,s1,ρ1,hr1,C.c.mono x1,?_⟩;cases hv:evE Φ G env elt s1 with
   |e v s2=>
    rw[hv]at h;cases h;intro ρ2 y H2 x2 hr2 r2;have xx:=x1.trans hr1 x2;have lp2:=C.d.step C.b xx;obtain⟨ys,e1,e2⟩:=hacc1;have e3:H2 acc=some (.b ys):=x2.c _ _ e1 (hr1.d acc (C.d.step C.b x1).here).2;have e4:=e2.mono x2;have hl:ys.length<Am:=by have h1:(a++[v]).length<=zb:=hz;rw[Au,e2.length,yf]at h1;simp at h1;omega
    have mv2:=jt (H1:=H2) hr2 lp2.here (.b (ys++[y]));refine⟨ys,e3,hl,q ρ2 _ σ ⟨lp2.emit hr2 hn _,hr2.emit lp2.here,⟨C.c.b,λi v' e'=>?_⟩,⟨_,L2.zL,RDs.mv mv2 (e4.append (.a r2 .d))⟩⟩ (xx.mv.trans mv2)⟩;obtain⟨u,h1,h2⟩:=(C.c.mono xx).a i v' e';exact⟨u,h1,RD.mv mv2 h2⟩
   |g _ _ _=>rw[hv]at h;cases h
   |d=>rw[hv]at h;cases h
  |false=>
   simp only[zQ]at h;cases h;exact L2.rE (q ρ1 H1 σ ⟨C.d.step C.b x1,hr1,C.c.mono x1,hacc1⟩ x1.mv)
 |g _ _ _=>rw[hc]at h;cases h
 |d=>rw[hc]at h;cases h
theorem fB(er:ER K mg ρ H env σ)fr:ER K mg ρ H (zo fr env) (L2.zo fr σ):=by
 refine⟨by unfold zo L2.zo;rw[Ae,Ae],λi v e=>?_⟩
 unfold zo at e;unfold L2.zo;rw[A2]at e ⊢;cases hf:fr[i]? with
 |none=>rw[hf]at e;cases e
 |some o=>
  rw[hf]at e;cases o with
  |none=>cases e
  |some j=>
   have e':(env[j]?).join=some v:=AR e;have e2:env[j]?=some (some v):=by
    cases h1:env[j]? with
    |none=>rw[h1]at e';cases e'
    |some w=>rw[h1]at e';have:w=some v:=e';rw[this]
   obtain⟨x,h1,h2⟩:=er.a j v e2;refine⟨x,?_,h2⟩;show some ((σ[j]?).join)=_;rw[h1];rfl
theorem pM(TG:qo K mg t g)(hg:Grows body)
 (hb:∀acc ρ0 H0,H0 acc=none->BodyOk K mg acc ρ0 H0 body (L2.tTB ts (tb acc)))    
 (h:tV K mg env s ((xA Φ G env it s).bind λr s1=>(yb r t body r.a (zo fr env) s1 []).bind λp s2=>if chk=true->p.1.length<=zb then newList m p.1 s2 else .d) σ H Q)
 (hlen:chk=false->∀r s1 p s2,yb r t body r.a (zo fr env) s1 []=.e p s2->p.1.length<=r.a.length):L2.sr fr (uI K mg Φ G it) g ts tb σ H Q:=by
 obtain⟨ρ,hr,er,w⟩:=h;refine⟨env,s,ρ,hr,er,?_⟩;cases hi:xA Φ G env it s with
 |e r s1=>
  rw[hi]at w;simp only[zQ]at w;intro ρ1 H1 J x1 hr1 W acc hacc;cases hl:yb r t body r.a (zo fr env) s1 [] with
  |e p s2=>
   rw[hl]at w;simp only[zQ]at w;have hz:p.1.length<=zb/\yQ K mg (RD K mg) ρ H (newList m p.1 s2) Q:=by
    by_cases hc:chk=true->p.1.length<=zb
    . rw[if_pos hc]at w
      refine⟨?_,w⟩;cases chk with
      |true=>exact hc rfl
      |false=>exact Ay (hlen rfl r s1 p s2 hl) W.b
    . rw[if_neg hc]at w;exact w.elim
   have mv:=om (ρ:=ρ1) hr1 hacc (.b []);have ers:=fB (er.mono x1) fr;refine tx (ρ0:=ρ1) (H0:=H1) (W.mv mv) TG hg (hb acc ρ1 H1 hacc) ⟨Lp.start hr1 hacc _,hr1.hide hacc,⟨ers.b,λi v e=>?_⟩,⟨[],L2.zL,.d⟩⟩ hl hz.1 λρ3 H3 σ3 C3 _=>?_
   . obtain⟨x,h1,h2⟩:=ers.a i v e
     exact⟨x,h1,RD.mv mv h2⟩
   . obtain⟨ys,e1,e2⟩:=C3.e
     exact C3.d.done hr1 hacc C3.b e1 e2 (hz.2.mono x1 hr1)
  |g _ _ _=>rw[hl]at w;exact w.elim
  |d=>rw[hl]at w;exact w.elim
 |g _ _ _=>rw[hi]at w;exact w.elim
 |d=>rw[hi]at w;exact w.elim
theorem sV:∀{xs} {env} {s} {a} {p} {s'},yb r t (tM Φ G elt ifs) xs env s a=.e p s'->p.1.length<=a.length+xs.length
 |[],env,s,a,p,s',h=>by
  rw[yb]at h;split at h
  . cases h;exact Ah _
  . cases h
 |x::xs,env,s,a,p,s',h=>by
  rw[yb]at h;split at h
  . split at h
    . cases h
    . rename_i env' he
      cases hc:tM Φ G elt ifs env' s a with
      |e q s1=>
       rw[hc]at h;have h1:=sV h;have h2:q.1.length<=a.length+1:=by
        unfold tM at hc;cases h3:wF Φ G env' ifs s with
        |e b s2=>
         rw[h3]at hc;cases b with
         |true=>
          simp only[zQ,if_true]at hc;cases h4:evE Φ G env' elt s2 with
          |e v s3=>rw[h4]at hc;cases hc;simp
          |g _ _ _=>rw[h4]at hc;cases hc
          |d=>rw[h4]at hc;cases hc
         |false=>simp only[zQ]at hc;cases hc;exact CO _
        |g _ _ _=>rw[h3]at hc;cases hc
        |d=>rw[h3]at hc;cases hc
       rw[AL];omega
      |g _ _ _=>rw[hc]at h;cases h
      |d=>rw[hc]at h;cases h
  . cases h
end
end M
end
section
namespace M
open PySem PySem.W
def DX(ρ:Own)(H:L2.Hp)(c:Str)(as:List Val)(dd:Option Addr):Prop:=if c="TooGreat" then ∃(d:Addr) (a b:Int),dd=some d/\as=[.c a,.c b]/\H d=some (.j (L2.grF a b))/\ρ.no d else dd=none
theorem DX.no{c:Str}(h:c≠"TooGreat"):DX ρ H c as none:=by unfold DX;rw[if_neg h]
theorem DX.yes(h:H d=some (.j (L2.grF a b)))(n:ρ.no d):DX ρ H "TooGreat" [.c a,.c b] (some d):=by unfold DX;rw[if_pos rfl];exact⟨d,a,b,rfl,rfl,h,n⟩
theorem DX.get(h:DX ρ H "TooGreat" as dd):∃d a b,dd=some d/\as=[.c a,.c b]/\H d=some (.j (L2.grF a b))/\ρ.no d:=by unfold DX at h;rw[if_pos rfl]at h;exact h
def uV(K:KF)(mg:Str->Option Value)(base:Heap):Prop:=∃(C D f:Addr) (fd:Bn) (Kc:KF),mg "TooGreat"=some (.ref C)/\L2.v9 base C (.ref D::L2.veM) f/\L2.lP K mg D f fd/\L2.GrK Kc C D/\L2.vP Kc K/\L2.wZ Kc C/\exmOne Kc (.ref C) (.ref C)=some true
def qm(K:KF)(mg:Str->Option Value)(ρ:Own)(H:L2.Hp)(x:tZ)(E:L2.XK):Prop:=match x with
 |some (c,as,s')=>∀ρ' H',Ext ρ H ρ' H'->HR K mg ρ' s' H'->∀C,mg c=some (.ref C)->∀dd,DX ρ' H' c as dd->E (.ref C) dd H'
 |dS=>False
def spX(T:Tbl)(K:KF)(mg:Str->Option Value)(n:Nat)(f:Str)(ver:Nat):L2.Sp:=λvs H Q E=>∃ρ s args,HR K mg ρ s H/\RDs K mg ρ H args vs/\(yQ K mg (RD K mg) ρ H (zD T n f ver args s) Q\/qm K mg ρ H (zS T n f ver args s) E)
structure Sc(T:Tbl)(K:KF)(mg:Str->Option Value):Prop where
 a:∃(kx:Str) (cs ws:List Str) (pre:Option Str) (hue:Addr),mg "HueError"=some (.ref hue)/\L2.oJ K mg kx cs ws pre/\(∀b,T.e b=true->∃f,L2.fT K mg b kx f) /\
  (∀c w,T.c.lookup c=some w->∃(C:Addr) (i:Nat) (x:Str),mg c=some (.ref C)/\(∃Kc,L2.vP Kc K/\exmOne Kc (.ref C) (.ref hue)=some true)/\L2.Named K mg cs C c/\cs[i]?=some c/\ws[i]?=some x/\w=L2.ans pre x/\(w="great"->c="TooGreat")) /\
  ∀c w,T.c.lookup c=some w->c≠"TooGreat"->∀base,K.In base->∃C,mg c=some (.ref C)/\L2.ClsAt base C (.ref hue::L2.veM)/\L2.ClsAt base hue L2.veM
 gf:oi T=true->∃f,L2.vv K mg f
 d:(T.c.lookup ("TooGreat":Str)).isSome=true->∀base,K.In base->uV K mg base
 bm:∀base,K.In base->L2.Bm base mg
structure Lv(T:Tbl)(P:Program)(w:World)(K:KF)(mg:Str->Option Value)(base:Heap)(n:Nat):Prop where
 a:∀f v F,T.d f v=some F->∃fa fd,mg f=some (.ref fa)/\BS K (.ref fa)=true/\L2.Binds K fd F.b []/\L2.uU P w K mg base L2.CX0 n fa fd F.b (spN T K mg n f v)/\L2.uU P w K mg base (L2.CXE P w) n fa fd F.b (spX T K mg n f v)
structure Sd(T:Tbl)(P:Program)(w:World)(K:KF)(mg:Str->Option Value)(base:Heap)(m:Nat):Prop where
 a:Sc T K mg
 b:∀j,j<=m->Lv T P w K mg base j
def Cod(T:Tbl)(X:L2.Cx):Prop:=∃g∈T.f,∃(fa c:Addr) (o:Obj) (fd:Bn),X.d g=some (.ref fa)/\X.K.lookup fa=some o/\o.data=.func fd/\fd.code=.ref c/\X.a.code=.ref c/\X.a.qual=g++(".<locals>.":Str)
theorem qF:∀{l} {s} {g},zj l s=true->g∈l->∃j:Nat,s[j]?=some (.d g)
 |[],_,_,_,h=>by cases h
 |x::r,[],_,h,_=>by cases h
 |x::r,c::s,g,h,hm=>by
  cases c with
  |d y=>
   rw[zj,cf,decide_eq_true_eq]at h;rcases An.mp hm with z|z
   . subst z;rw[h.1];exact⟨0,rfl⟩
   . obtain⟨j,e⟩:=qF h.2 z
     exact⟨j+1,e⟩
  |_=>cases h
section
variable {K:KF}{mg:Str->Option Value}{ρ:Own}{H H':L2.Hp}{s:Sto}
theorem HR.bc(h:HR K mg ρ s H)(sm:L2.xp H H'):HR K mg ρ s H'/\Ext ρ H ρ H':=by
 have X:Ext ρ H ρ H':=⟨⟨[],by simp,λa ha=>by cases ha⟩,rfl,λa o e _=>sm a o e,λa ha=>by obtain⟨o,e⟩:=h.trk ha;rw[e,sm a o e]⟩
 refine⟨⟨h.f,h.v,λi c e=>?_,λa ha=>?_⟩,X⟩
 . obtain⟨a,e1,r⟩:=h.m i c e
   obtain⟨o,e2⟩:=r.there;exact⟨a,e1,r.mv X.mv (by rw[e2,sm a o e2])⟩
 . obtain⟨⟨xs,e⟩,n⟩:=h.d a ha
   exact⟨⟨xs,sm _ _ e⟩,n⟩
theorem oB(h:DM l):l=[]\/∃i j t u c r,l=.int i t::.int j u::c::r/\DM r:=by
 unfold DM at h;split at h
 . exact .inl rfl
 . exact .inr ⟨_,_,_,_,_,_,rfl,h⟩
 . exact h.elim
theorem oA:∀n {l},l.length<=n->DM l->DM (l++[.int i t,.int j u,c])
 |n,l,hl,h=>by
  rcases oB h with rfl|⟨i',j',t',u',c',r,rfl,h'⟩
  . exact AZ
  . cases n with
    |zero=>cases hl
    |succ n=>exact oA n (l:=r) (by simp only[AL]at hl;omega) h'
theorem rW:∀n {l},l.length<=n->DM l->DL pos (l++[.int i t,.int j u,c])=some cv->DL pos l=some cv\/cv=c
 |n,l,hl,h,e=>by
  rcases oB h with rfl|⟨i',j',t',u',c',r,rfl,h'⟩
  . have e':(if i == pos.line&&j == pos.col then some c else none)=some cv:=e
    split at e'
    . cases e';exact .inr rfl
    . cases e'
  . have e':(if i' == pos.line&&j' == pos.col then some c' else DL pos (r++[.int i t,.int j u,c]))=some cv:=e
    show (if i' == pos.line&&j' == pos.col then some c' else DL pos r)=some cv\/_
    cases n with
    |zero=>cases hl
    |succ n=>
     split at e'
     . rename_i z;rw[if_pos z];exact .inl e'
     . rename_i z;rw[if_neg z];exact rW n (l:=r) (by simp only[AL]at hl;omega) h' e'
theorem HR.lam{j:Nat}(h:HR K mg ρ s H)(hs:s[j]?=some (.d g))(hj:ρ.o[j]?=some P)(tr:UP K mg ρ H P g)(hP:H P=some (.g ps))(l:L2.UK H P ps pos (Zp g) c H'):HR K mg ρ s H'/\Ext ρ H ρ H':=by
 rcases l with rfl|⟨o,vs,t,hf,hc,hd,hv,rfl⟩
 . exact⟨h,Ext.refl⟩
 . obtain⟨ps',e1,tok,among,fn⟩:=tr
   rw[hP]at e1;cases e1;have hcP:c≠P:=λz=>by rw[z,hP]at hc;cases hc
   have comm:L2.upd (L2.upd H P (.g (ps++#[rawInt pos.line,rawInt pos.col,.ref c]))) c (.e o (.d 0))=L2.upd (L2.upd H c (.e o (.d 0))) P (.g (ps++#[rawInt pos.line,rawInt pos.col,.ref c])):=by
    funext b;unfold L2.upd;by_cases z1:b=c
    . subst z1;rw[if_pos rfl,if_neg hcP,if_pos rfl]
    . rw[if_neg z1]
      by_cases z2:b=P
      . rw[if_pos z2,if_pos z2]
      . rw[if_neg z2,if_neg z2,if_neg z1]
   rw[comm];have h1:=h.more hc (.e o (.d 0));have X1:=Ext.new h hc (.e o (.d 0));have hP1:L2.upd H c (.e o (.d 0)) P=some (.g ps):=by rw[L2.zJ (A5 hcP)];exact hP
   have kk:hk (some (.g (ps++#[rawInt pos.line,rawInt pos.col,.ref c])))=hk (L2.upd H c (.e o (.d 0)) P):=by rw[hP1];rfl
   have X2:=Ext.sY h1 hj kk;have hnoc:ρ.no c:=h.new hc;have kc:∀b u,ρ.no b->H b=some u->L2.upd (L2.upd H c (.e o (.d 0))) P (.g (ps++#[rawInt pos.line,rawInt pos.col,.ref c])) b=some u:=λb u nb e=>X2.c b u (X1.c b u e nb.1) nb.1;refine⟨?_,X1.trans h1 X2⟩;have hr:=h1.sY (c:=.d g) hj kk ⟨_,L2.zL,?_,λpos' cv hcv=>?_,fn⟩
   . rw[show s.set j (.d g)=s from ?_]at hr
     . exact hr
     . refine Fs λi=>?_
       by_cases z:j=i
       . subst z;rw[AI (Aw.mp hs).1,hs]
       . rw[Bq z]
   . rw[Array.toList_append];exact oA _ (Ah _) tok
   . rw[Array.toList_append]at hcv
     rcases rW _ (Ah _) tok hcv with z|z
     . obtain⟨b,ob,vb,tb,q1,q2,q3,q4⟩:=among pos' cv z
       exact⟨b,ob,vb,tb,q1,q2,kc b _ q2 q3,q4⟩
     . exact⟨c,o,vs,t,z,hnoc,X2.c c _ L2.zL hnoc.1,hd,hv⟩
end
noncomputable def xu(cells:List (Str × Addr)):List (Str × Dq)->List (Str × Addr)->List (Str × Addr)
 |[],acc=>acc
 |(x,k)::r,acc=>xu cells r (if k == .free then (x,(cells.lookup x).getD 0)::acc else acc)
theorem jh(h:∀x∈lsc.names,x.2=.free->∃c,env.cells.lookup x.1=some c):Gw lsc env=pure (xu env.cells lsc.names []):=by
 have key:∀(names:List (Str × Dq)) (acc:List (Str × Addr)),(∀x∈names,x.2=.free->∃c,env.cells.lookup x.1=some c) ->
  (forIn names acc λ(x:Str × Dq) (cs:List (Str × Addr))=>(do if x.2 == .free then pure (Cf ((x.1,<-cellOf env x.1)::cs)) else pure (Cf cs):Sem (ForInStep (List (Str × Addr)))))=pure (xu env.cells names acc):=by
  intro names;induction names with
  |nil=>intro acc _;rfl
  |cons p r ih=>
   obtain⟨x,k⟩:=p;intro acc hh;rw[EA];by_cases hk:k=.free
   . subst hk
     obtain⟨c,hc⟩:=hh (x,.free) (Ap ..) rfl;have e:cellOf env x=pure c:=by unfold cellOf;rw[hc]
     have e2:xu env.cells ((x,.free)::r) acc=xu env.cells r ((x,c)::acc):=by show xu env.cells r ((x,(env.cells.lookup x).getD 0)::acc)=_;rw[hc];rfl
     rw[e2];simp only[show ((AA == AA)=true) from rfl,if_true,e,El];exact ih _ λy hy=>hh y (Af _ hy)
   . have hb:(k == AA)=false:=by simpa using hk
     have e2:xu env.cells ((x,k)::r) acc=xu env.cells r acc:=by
      show xu env.cells r (if k == .free then _ else acc)=_
      rw[hb];rfl
     rw[e2];simp only[hb,AX,if_false,El];exact ih _ λy hy=>hh y (Af _ hy)
 unfold Gw;have:=key lsc.names [] h;simpa using this
theorem tw:∀{names} {acc} {x} {b},(x,b)∈xu cells names acc->(x,b)∈acc\/((x,AA)∈names/\b=(cells.lookup x).getD 0)
 |[],_,_,_,h=>.inl h
 |(y,k)::r,acc,x,b,h=>by
  rcases tw (names:=r) h with z|z
  . by_cases hk:k=.free
    . subst hk
      rcases An.mp z with z|z
      . cases z;exact .inr ⟨Ap ..,rfl⟩
      . exact .inl z
    . have hb:(k == AA)=false:=by simpa using hk
      rw[hb]at z;exact .inl z
  . exact .inr ⟨Af _ z.1,z.2⟩
theorem pK:∀{names} {acc} {x} {b},(x,b)∈acc->(x,b)∈xu cells names acc
 |[],_,_,_,h=>h
 |(y,k)::r,acc,x,b,h=>pK (names:=r) (by
  split
  . exact Af _ h
  . exact h)
theorem wd:∀{names} {acc} {x},(x,AA)∈names->(x,(cells.lookup x).getD 0)∈xu cells names acc
 |(y,k)::r,acc,x,h=>by
  rcases An.mp h with z|z
  . cases z;exact pK (names:=r) (Ap ..)
  . exact wd (names:=r) z
theorem lookup_mem{α:Type}{l:List (Str × α)}{b}(h:(x,b)∈l):∃c,l.lookup x=some c:=by
 cases e:l.lookup x with
 |some c=>exact⟨c,rfl⟩
 |none=>
  rw[F0]at e;have:=e _ h;simp at this
end M
end
section
namespace L2
open PySem PySem.Spec PyProof.Rows
def UL(tabs:List Addr)(H:Hp):Prop:=∀b,H b=none\/(∃o xs,H b=some (.e o (.b xs)))\/(b∈tabs/\H b=some (.g #[]))
theorem gG{K}{tabs:List Addr}
 (KX:K.In s₁.heap) (hns:s₁.heap.Ns AJ mg) (hb:s₁.heap.Ns Fu mb) (hbb:∀x:Str,x≠"__name__"->mb x=Ca x) (hlim:s₁.heap.NoLimit) (hg:s₁.gens=#[])
 (ha:s₁.heap.get? a=some {cls:=.type "list",data:=.seq vs.toArray}) (hi:IntsAre vs ns) (hl:ns.length<=Am) (hr:y9 k callerA)
 (ht:∀b∈tabs,s₁.heap.get? b=some (EM #[])/\K.lookup b=none/\Ga s₁.heap b)
 (F:∀base:Heap,K.In base->base.Ns AJ mg->uU P w K mg base CX k fa fd [x] sp) (hbind:∀s u,BindsTo s fd ⟨[u],[]⟩ [(x,u)])
 (hsp:∀H:Hp,(∀b∈tabs,H b=some (.g #[]))->SqL K H a (ns.map V.d)->sp [.c a] H (λv _=>v=.f true) λ_ _ _=>False)
 (hCX:∀H e s',CX [] H s₁ (λ_ _ _=>False) e s'->False) :
 codeAny (model P w) callerA (.call (.ref fa) ⟨[.ref a],[]⟩) (λr s'=>r=.ok (.ret (.bool true))/\OldK s₁.heap s'.heap/\s'.os=s₁.os/\AllBare s'.gens) s₁:=by
 have rv:=oC hi;have lenV:=hi.length;have nat:a ∉ tabs:=λz=>by have:=(ht a z).1;rw[ha]at this;cases this
 have core:∀H:Hp,UL tabs H->(∀b∈tabs,H b=some (.g #[]))->SqL K H a (ns.map V.d)->HOk P w H s₁.heap->(∀b,H b≠none->b=a\/b∈tabs)->(H a≠none->K.lookup a=none) ->
  codeAny (model P w) callerA (.call (.ref fa) ⟨[.ref a],[]⟩) (λr s'=>r=.ok (.ret (.bool true))/\OldK s₁.heap s'.heap/\s'.os=s₁.os/\AllBare s'.gens) s₁:=by
  intro H hO hT hS hok hA hK;have rK:∀{b:Addr} {o:Obj},s₁.heap.get? b=some o->H b=none->(oj s₁.heap H).get? b=some o:=λe n=>dF e n;have noA:∀{b:Addr} {o:Obj} {es:Array F2} {ep:Nat},s₁.heap.get? b=some o->o.data=.dict es ep->H b=none:=λ{b o es ep} e d=>by
   cases q:H b with
   |none=>rfl
   |some u=>
    rcases hA b (by rw[q];simp) with e'|e'
    . subst e'
      rw[ha]at e;cases e;have d':Data.seq vs.toArray _=Data.dict es ep:=d;cases d'
    . rw[(ht b e').1]at e;cases e
      have d':Data.fields #[]=Data.dict es ep:=d;cases d'
  have nsK:∀{b:Addr} {m:Str->Option Value},s₁.heap.Ns b m->(oj s₁.heap H).Ns b m:=λ{b m} ⟨o,es,ep,e,d,r⟩=>⟨o,es,ep,rK e (noA e d),d,r⟩;have hKb:K.In (oj s₁.heap H):=λb o e=>rK (KX b o e) (by
   cases q:H b with
   |none=>rfl
   |some u=>
    rcases hA b (by rw[q];simp) with e'|e'
    . subst e'
      rw[hK (by rw[q];simp)]at e;cases e
    . rw[(ht b e').2.1]at e;cases e)
  have hM:Mod K mg (oj s₁.heap H):=⟨hKb,nsK hns,⟨mb,nsK hb,hbb⟩,let ⟨mc,h1,h2⟩:=hlim;⟨mc,nsK h1,h2⟩⟩;have e0:rB P w K mg (oj s₁.heap H) callerA [] s₁ H:=⟨rfl,hM,λb o e=>Z1 e,ED (hG _ _),trivial,λb hb=>absurd (show b∈([]:List Addr) from hb) (by simp),hok,.of_eq hg⟩
  refine Ct ((F _ hKb (nsK hns)).a callerA [] s₁ H ⟨[.ref a],[]⟩ [.ref a] [.c a] _ _ hr e0 (hbind s₁ (.ref a)) (.cons rfl .nil) (hsp H hT hS)) λr s' h=>?_;cases r with
  |error e=>exact(hCX H e s' h).elim
  |ok fl=>
   cases fl with
   |next=>exact Al h
   |brk=>exact Al h
   |cont=>exact Al h
   |ret u=>
    obtain⟨v,H',os,bare,un,hok',r',q⟩:=h;have q':v=.f true:=q;subst q';obtain rfl:u=C4 true:=r';have all:∀b o,s₁.heap.get? b=some o->asItWas s₁.heap s'.heap b o:=λb o e=>by
     cases q:H b with
     |none=>exact .inl (un.f b o e q (by intro z;exact absurd (show b∈([]:List Addr) from z) (by simp)) (by simp))
     |some u=>
      rcases hO b with z|⟨ob,xs,z⟩|⟨z1,z⟩
      . rw[q]at z;cases z
      . have z2:=un.g b ob _ z
        obtain⟨e1,_⟩:=hok b _ z;obtain⟨e2,_⟩:=hok' b _ z2;rw[e]at e1;cases e1;exact .inl e2
      . obtain⟨more,z2⟩:=un.j b _ z
        have e2:s'.heap.get? b=some (EM (#[]++more)):=hok' b _ z2;obtain⟨t1,_,t3⟩:=ht b z1;rw[e]at t1;cases t1;exact .inr (.inl ⟨t3,rfl,#[],more,rfl,e2⟩)
    exact⟨rfl,⟨all,λb o e=>by
     rcases all b o e with z|⟨_,_,_,_,_,z⟩|⟨_,_,⟨o',_,_,z,_⟩,_⟩
     . exact⟨_,z⟩
     . exact⟨_,z⟩
     . exact⟨_,z⟩⟩,os,bare⟩
 cases hk:K.lookup a with
 |some o=>
  have e:=KX a o hk;rw[ha]at e;cases e;refine core (λb=>if b∈tabs then some (.g #[]) else none) (λb=>?_) (λb hb=>if_pos hb) (.inr ⟨_,vs.toArray,_,hk,rfl,rfl,rfl,by rw[Ai,lenV];exact hl,by simpa using rv⟩) (λb u z=>?_) (λb z=>?_) λz=>?_
  . by_cases hb:b∈tabs
    . exact .inr (.inr ⟨hb,if_pos hb⟩)
    . exact .inl (if_neg hb)
  . by_cases hb:b∈tabs
    . have z':=(if_pos hb).symm.trans z
      cases z';exact(ht b hb).1
    . have z':=(if_neg hb).symm.trans z
      cases z'
  . by_cases hb:b∈tabs
    . exact .inr hb
    . exact absurd (if_neg hb) z
  . exact absurd (if_neg nat) z
 |none=>
  refine core (λb=>if b=a then some (.e {cls:=.type "list",data:=.seq vs.toArray} (.b (ns.map V.d))) else if b∈tabs then some (.g #[]) else none) (λb=>?_) (λb hb=>(if_neg (λz=>nat (by rw[<-z];exact hb))).trans (if_pos hb)) (.inl (.inr ⟨{cls:=.type "list",data:=.seq vs.toArray},if_pos rfl⟩)) (λb u z=>?_) (λb z=>?_) λ_=>hk
  . by_cases hb:b=a
    . exact .inr (.inl ⟨_,_,if_pos hb⟩)
    . by_cases hb2:b∈tabs
      . exact .inr (.inr ⟨hb2,(if_neg hb).trans (if_pos hb2)⟩)
      . exact .inl ((if_neg hb).trans (if_neg hb2))
  . by_cases hb:b=a
    . have z':=(if_pos hb).symm.trans z
      cases z';subst hb;exact⟨ha,by rw[Ae];exact hl,vs,_,rv,ha⟩
    . by_cases hb2:b∈tabs
      . have z':=((if_neg hb).trans (if_pos hb2)).symm.trans z
        cases z';exact(ht b hb2).1
      . have z':=((if_neg hb).trans (if_neg hb2)).symm.trans z
        cases z'
  . by_cases hb:b=a
    . exact .inl hb
    . by_cases hb2:b∈tabs
      . exact .inr hb2
      . exact absurd ((if_neg hb).trans (if_neg hb2)) z
end L2
end
section
namespace M
open PySem
noncomputable def mD(sc:Scope)(x:Str):Bool:=decide (sc.names.lookup x=some .local)||decide (sc.names.lookup x=some .cell)||decide (sc.names.lookup x=some .free)
noncomputable def wO(sc:Scope)(x:Str):Bool:=decide (sc.names.lookup x=some .globalImplicit)
noncomputable def wC:List Str:=["len","all","any","tuple","list","sorted","repr","max","min","sum","int","isinstance","divmod","str","bool","dict","set","range","enumerate","zip"]
noncomputable def Su(y:Str)(n:String):Bool:=(decide (y="int")&&decide (n="int"))||(decide (y="bool")&&decide (n="bool"))||(decide (y="str")&&decide (n="str"))||(decide (y="list")&&decide (n="list"))||(decide (y="tuple")&&decide (n="tuple"))||(decide (y="dict")&&decide (n="dict"))
noncomputable def vC:Val->Option Const
 |.h=>some .none
 |.e b=>some (.bool b)
 |.c i=>some (.int i)
 |.g x=>some (.str x)
 |_=>none
def UW(v:Val)(e:Expr):Bool:=ZD e λc _ _=>decide (vC v=some c)
def eSd(e:Expr)(k:Str->Ef->Str->List Expr->Scope->Bool):Bool:=eCN e λx xs=>l1 xs λl=>Ud l λa b lsc _=>eCN b λy ys=>k x a y ys lsc
theorem ZI(h:eSd e k=true):∃x a y ys lsc p1 p2 p3 p4 p5,e=.Call (.Name x p1) [.Lambda a (.Call (.Name y p2) ys [] p3) lsc p4] [] p5/\k x a y ys lsc=true:=by obtain⟨x,p1,xs,p5,rfl,h1⟩:=xC h;obtain⟨l,rfl,h2⟩:=yt h1;obtain⟨a,b,lsc,p4,rfl,h3⟩:=eY h2;obtain⟨y,p2,ys,p3,rfl,h4⟩:=xC h3;exact⟨x,a,y,ys,lsc,p1,p2,p3,p4,p5,rfl,h4⟩
noncomputable def vU(a:Ef):Bool:=a.posonlyargs.isEmpty&&a.args.isEmpty&&a.vararg.isNone&&a.kwonlyargs.isEmpty&&a.kw_defaults.isEmpty&&a.kwarg.isNone&&a.defaults.isEmpty
noncomputable def sg(sc lsc:Scope):Bool:=decide (lsc.kind=.function)&&!lsc.isCoroutine&&!lsc.isGenerator&&lsc.names.all (λy=>decide (y.2=.globalImplicit)||(decide (y.2=.free)&&(decide (sc.names.lookup y.1=some .cell)||decide (sc.names.lookup y.1=some .free))))&&sc.names.any (λy=>decide (sc.names.lookup y.1=some .cell))
noncomputable def okV:Bool:=false
noncomputable def okG:Bool:=true
noncomputable def Rj:Exs->Bool
 |.a (.e _) _=>true
 |_=>false
mutual
noncomputable def sim:Ex->Bool
 |.g _|.e _|.E _=>true
 |.j m _ a b=>!m&&sim a&&sim b
 |.A a=>sim a
 |.y es=>vi es
 |.s m es=>!m&&vi es
 |.u a b=>sim a&&sim b
 |_=>false
noncomputable def vi:Exs->Bool
 |.b=>true
 |.a e es=>sim e&&vi es
end
def ckA(sc:Scope)(f:Str)(q:List Expr->Bool)(e:Expr):Bool:=eCN e λx xs=>decide (x=f)&&wO sc x&&!(x == ("__debug__":Str))&&q xs&&zc xs
def sdX(ver:Nat):Str:=if ver=102 then "_law_great" else L2.yK (decide (ver=101))
def ckB(sc:Scope)(N:List Str)(f:Str)(ver:Nat)(es:Exs)(q:Scope->List Expr->Bool)(e:Expr):Bool:=eSd e λx a y ys lsc=>decide (x=sdX ver)&&wO sc x&&vU a&&sg sc lsc&&decide (y=f)&&wO lsc y&&!(y == ("__debug__":Str))&&vi es&&q lsc ys&&zc ys&&!ys.isEmpty&&decide (("!":Str)∈N)&&(okG||decide (ver≠102))
def sdV(ver:Nat):Str:=if ver=302 then "_law_great" else L2.yK (decide (ver=301))
def ckV(sc:Scope)(N:List Str)(ver:Nat)(es:Exs)(q:Scope->List Expr->Bool)(e:Expr):Bool:=(okV&&Rj es)&&eSd e λx a y ys lsc=>decide (x=sdV ver)&&wO sc x&&vU a&&sg sc lsc&&vi es&&q lsc (.Name y default::ys)&&zc ys&&!ys.isEmpty&&decide (("!":Str)∈N)&&decide (ver≠200)&&(okG||decide (ver≠302))
mutual
noncomputable def ck(sc:Scope)(N:List Str):Ex->Expr->Bool
 |.g v,e=>UW v e
 |.e i,e=>(eName e λx _=>decide (N[i]?=some x)&&mD sc x&&!(x == ("__debug__":Str))&&!(x == ("__classdict__":Str)))
 |.E y,e=>(eName e λx _=>decide (x=y)&&wO sc x&&!(x == ("__debug__":Str)))
 |.K y n,e=>(eName e λx _=>decide (x=y)&&wO sc x&&Su y n)
 |.j _ op a b,e=>(UZ e λl o r _=>(okB op&&decide (o=op.op))&&ck sc N a l&&ck sc N b r)
 |.A a,e=>(eOp .USub e λx=>ck sc N a x)
 |.F a,e=>(eOp .Not e λx=>ck sc N a x)
 |.p op a b,e=>(eC1 e λl o r=>(okC op&&decide (o=op.op))&&ck sc N a l&&ck sc N b r&&plain r)
 |.r op op' a b c,e=>(eC2 e λl o o' r r'=>(okC op&&decide (o=op.op))&&(okC op'&&decide (o'=op'.op))&&ck sc N a l&&ck sc N b r&&ck sc N c r'&&plain r')
 |.w a es,e=>(eBl .And e λx xs=>ck sc N a x&&ckL sc N es xs)
 |.H _ _,_=>false
 |.G _ _ _,_=>false
 |.y es,e=>(ZK e λxs _ _=>ckL sc N es xs&&zc xs)
 |.s _ es,e=>(Ue e λxs _=>ckL sc N es xs&&zc xs)
 |.B,e=>(eD0 e)
 |.C _,e=>(eD0 e)
 |.I _ _,_=>false
 |.h f ver es,e=>if ver<100 then ckA sc f (λxs=>ckL sc N es xs) e else if ver<200 then ckB sc N f ver es (λl ys=>ckL l N es ys) e else ckV sc N ver es (λl ys=>ckL l N es ys) e
 |.k f _ es,e=>(eCN e λx xs=>lc xs λy ys=>(okF f&&decide (x=f.nm))&&wO sc x&&ckL sc N es (y::ys)&&zc (y::ys))
 |.D _ _,_=>false
 |.J f _ o es,e=>(eMt e λob x ap y cp=>decide (x=f.nm)&&ck sc N o ob&&ckL sc N es [y]&&plain y&&nA ob&&(ap.endLine == cp.line)&&okM f)
 |.u a b,e=>(ZJ e λl r _=>ck sc N a l&&ck sc N b r&&plain r)
 |.L _ a lo hi st,e=>(eSS e λl x y z=>ck sc N a l&&ckO sc N lo x&&ckO sc N hi y&&ckO sc N st z)
 |.q _ N' fr elt t it ifs,e=>(eG1 e λx tg iter fs csc=>L2.tq sc N N' csc fr&&decide N'.Nodup&&ckT csc N' t tg&&ckI sc N it iter tg&&lY csc N' ifs fs&&ck csc N' elt x&&plain iter)
 |.z _ _ _ _ _ _ _ _ _ _,_=>false
 |.l _ _ _ _,_=>false
noncomputable def ckL(sc:Scope)(N:List Str):Exs->List Expr->Bool
 |.b,es=>es.isEmpty
 |.a a as,es=>(lc es λe es=>ck sc N a e&&ckL sc N as es)
noncomputable def ckO(sc:Scope)(N:List Str):OEx->Option Expr->Bool
 |.b,e=>e.isNone
 |.a a,e=>(o1 e λe=>ck sc N a e)
noncomputable def ckC(sc:Scope)(N:List Str):Cn->Expr->Bool
 |.a a,e=>ck sc N a e&&(plainT e||decide (e.ctorIdx=15))
 |.b c,e=>(eOp .Not e λx=>ckC sc N c x)
 |.d c cs,e=>(eBl .And e λx xs=>ckC sc N c x&&lY sc N cs xs)
 |.f c cs,e=>(eBl .Or e λx xs=>ckC sc N c x&&lY sc N cs xs)
noncomputable def lY(sc:Scope)(N:List Str):Cns->List Expr->Bool
 |.b,es=>es.isEmpty
 |.a a as,es=>(lc es λe es=>ckC sc N a e&&lY sc N as es)
noncomputable def ckI(sc:Scope)(N:List Str):Itb->Expr->Expr->Bool
 |.g a,e,_=>ck sc N a e
 |.d a,e,_=>(eCN e λx xs=>l1 xs λy=>decide (x="range")&&wO sc x&&ck sc N a y&&plain y)
 |.f a b,e,_=>(eCN e λx xs=>lc xs λy ys=>l1 ys λz=>decide (x="range")&&wO sc x&&ck sc N a y&&ck sc N b z&&plain y&&plain z)
 |.h _ _ _,_,_=>false
 |.i _,_,_=>false
 |.j _ _,_,_=>false
end
structure Ok(T:Tbl)(n:Nat)(sc:Scope)(N:List Str)(X:L2.Cx):Prop where
 d:X.j=true
 c:L2.y9 n X.A
 a:Scp sc N X
 p:∀f v F,T.d f v=some F->Callee T n X f v F
 i:∀x v,T.b x=some v->∃u xv,X.d x=some u/\L2.RelV xv u/\∀ρ H,RD X.K X.d ρ H v xv
 g:∀x∈wC,X.d x=none
 xe:X.i=λ_ _=>False
 j:∀f v,100<=v->T.d f v=none
 l:∀m,n=m+1->(∃b,T.e b=true)->Sd T X.f X.w X.K X.d X.g m
 k:(∃b,T.e b=true)->(∃x,sc.names.lookup x=some .cell)->("!":Str)∈N->Cod T X
theorem eI(S:Scp sc N X)(h:L2.tq sc N N' csc fr=true):L2.zv X N' csc fr:=by
 unfold L2.tq at h;simp only[cf,AN,Ax,decide_eq_true_eq,Ck]at h;obtain⟨⟨⟨⟨⟨⟨⟨a1,a2⟩,a3⟩,a4⟩,a5⟩,a6⟩,a7⟩,a8⟩:=h;refine⟨a1,λx h1 h2=>(a2 _ h1).elim (λz=>z rfl) λz=>z _ h2 rfl,λx hx hk=>?_,λx hx hk=>?_,a5,λi j x e1 e2=>?_,λx e1 e2=>?_⟩
 . rcases a3 x hx with z|z
   . exact absurd hk z
   . exact z
 . rcases a4 x hx with z|z
   . exact absurd hk z
   . exact S.d x.1 z
 . have hi:i<N'.length:=(Aw.mp e1).1
   have q:=a6 i hi;rw[e1,e2]at q;simp only[cf,decide_eq_true_eq,BF]at q;obtain⟨q1,y,q2,q3,q4⟩:=q;refine⟨by rw[S.a];exact q1,?_⟩
   have:y=(x,AA):=Prod.ext q3 q4;rw[<-this];exact q2
 . rcases a7 (x,.free) e2 with z|z
   . exact z rfl
   . exact z e1
theorem wX(h:sc.names.lookup x=some .local):(relabel sc env).names.lookup x=some .local:=lookup_relabel_local h
theorem kn(h:sc.names.lookup x=some .globalImplicit):(relabel sc env).names.lookup x=some .globalImplicit:=by
 have key:∀(names:List (Str × Dq)),names.lookup x=some .globalImplicit->(names.map λ(n,k)=>if (k == AA&&env.scope.kind == .function&&env.kindOf n == some .cell) then (n,Bg) else (n,k)).lookup x=some .globalImplicit:=by
  intro names;induction names with
  |nil=>intro h;simp at h
  |cons p r ih=>
   obtain⟨n,k⟩:=p;intro h;rw[A1];dsimp only;cases hx:(x == n) with
   |true=>
    rw[Ak,hx]at h;cases h;have e:(DY == AA)=false:=rfl;rw[e];simp only[CP,AX,if_false,Ak,hx]
   |false=>
    rw[Ak,hx]at h;have:=ih h;split<;>simpa only[Ak,hx] using this
 exact key sc.names h
theorem Scp.comp(S:Scp sc N X)(hc:L2.zv X N' csc fr)(nd:N'.Nodup)C s0 H0 ex:Scp csc N' (X.comp N' csc C s0 H0 ex):=by
 refine⟨rfl,nd,λx h=>?_,λx h=>?_,λx h=>?_,λx h=>?_⟩
 . rcases h with h|h|h
   . exact .inl (wX h)
   . exact .inr (.inl (L2.vF h))
   . exact(L2.u6 hc.a h).elim (λz=>.inr (.inl z)) λz=>.inr (.inr z)
 . rcases h with h|h
   . exact⟨.inl (wX h),.inr (wX h)⟩
   . exact⟨.inr (L2.vF h),.inl (BF.mpr ⟨_,AE h,decide_eq_true rfl⟩)⟩
 . exact kn h
 . rcases h with h|h
   . exact .inl (L2.vF h)
   . exact L2.u6 hc.a h
theorem Callee.comp(c:Callee T n X f v F)N' csc C s0 H0 ex:Callee T n (X.comp N' csc C s0 H0 ex) f v F:=⟨c.a⟩
theorem Ok.comp(o:Ok T n sc N X)(hc:L2.zv X N' csc fr)(nd:N'.Nodup)(hck:L2.tq sc N N' csc fr=true)C s0 H0 ex:Ok T n csc N' (X.comp N' csc C s0 H0 ex):=
 ⟨o.d,o.c,o.a.comp hc nd C s0 H0 ex,λf v F h=>(o.p f v F h).comp N' csc C s0 H0 ex,o.i,o.g,rfl,o.j,o.l,λhmd _ h=>by
  unfold L2.tq at hck;simp only[cf,BF,Ax,decide_eq_true_eq]at hck;rcases hck.2 with z|⟨z1,y,_,z2⟩
  . exact absurd h z
  . exact o.k hmd ⟨y.1,z2⟩ z1⟩
end M
end
section
namespace M
open PySem
section
variable {T:Tbl}{n:Nat}
def JE(T:Tbl)(n:Nat)(a:Ex):Prop:=∀(sc:Scope) (N:List Str) (X:L2.Cx) (e:Expr),Ok T n sc N X->ck sc N a e=true->∀env s,L2.PE X e (tV X.K X.d env s (evE (zD T n) T.b env a s))
def JL(T:Tbl)(n:Nat)(a:Exs):Prop:=∀(sc:Scope) (N:List Str) (X:L2.Cx) (es:List Expr),Ok T n sc N X->ckL sc N a es=true ->
 (zc es=true->∀env s,L2.PA X es (tVs X.K X.d env s (zi (zD T n) T.b env a s))) /\
 (∀e es' pos,es=e::es'->∀env s,L2.PE X (.BoolOp .And es pos) (tV X.K X.d env s (sj (zD T n) T.b env a s))) /\
 (∀e es' pos,es=e::es'->∀env s,L2.PE X (.BoolOp .Or es pos) (tV X.K X.d env s (n5 (zD T n) T.b env a s))) /\
 (∀y,es=[y]->plain y=true->∃b,a=.a b .b/\∀env s,L2.PE X y (tV X.K X.d env s (evE (zD T n) T.b env b s)))
def JO(T:Tbl)(n:Nat)(a:OEx):Prop:=∀(sc:Scope) (N:List Str) (X:L2.Cx) (e:Option Expr),Ok T n sc N X->ckO sc N a e=true->(∀env s,L2.PO X e (tO X.K X.d env s (evO (zD T n) T.b env a s))) /\
 ((e=none/\∀env s1,evO (zD T n) T.b env a s1=.e none s1)\/∃e',e=some e'/\∀env s1 s2,evO (zD T n) T.b env a s1≠.e none s2)
def JC(T:Tbl)(n:Nat)(a:Cn):Prop:=∀(sc:Scope) (N:List Str) (X:L2.Cx) (e:Expr),Ok T n sc N X->ckC sc N a e=true->∀env s,L2.PT X e (tT X.K X.d env s (evT (zD T n) T.b env a s))
def JCs(T:Tbl)(n:Nat)(a:Cns):Prop:=∀(sc:Scope) (N:List Str) (X:L2.Cx) (es:List Expr),Ok T n sc N X->lY sc N a es=true ->
 (∀pos env s,L2.PW X (.BoolOp .And es pos) (tT X.K X.d env s (wF (zD T n) T.b env a s)))/\(∀pos env s,L2.PW X (.BoolOp .Or es pos) (tT X.K X.d env s (sG (zD T n) T.b env a s)))/\L2.PTs X es (uTs X.K X.d (zD T n) T.b a)
def JI(T:Tbl)(n:Nat)(a:Itb):Prop:=∀(sc:Scope) (N:List Str) (X:L2.Cx) (e tg:Expr),Ok T n sc N X->ckI sc N a e tg=true->∀env s,L2.PI X tg e (tI (K:=X.K) (mg:=X.d) env s (xA (zD T n) T.b env a s))
theorem dh:JE T n (.g v):=by
 intro sc N X e o h env s;show L2.PE X e (tV X.K X.d env s (.e v s));replace h:=rm h;obtain⟨c,k,p,rfl,h⟩:=h;have h:=of_decide_eq_true h;cases v with
 |h=>cases h;exact zZ L2.bD λσ H Q ⟨ρ,hr,er,w⟩=>zM hr .p w
 |e b=>cases h;exact zZ L2.cw λσ H Q ⟨ρ,hr,er,w⟩=>zM hr (.j _) w
 |c i=>cases h;exact zZ L2.bC λσ H Q ⟨ρ,hr,er,w⟩=>zM hr (.l _) w
 |g x=>cases h;exact zZ L2.sN λσ H Q ⟨ρ,hr,er,w⟩=>zM hr (.D _) w
 |_=>cases h
theorem dk:JE T n (.e i):=by
 intro sc N X e o h env s;replace h:=yx h;obtain⟨x,p,rfl,h⟩:=h;simp only[cf,decide_eq_true_eq,mD,Ax,AM]at h;obtain⟨⟨⟨h1,h2⟩,h3⟩,h4⟩:=h;have hv:L2.Vis X.a.scope x:=o.a.f x (by rcases h2 with (z|z)|z;exact .inl z;exact .inr (.inl z);exact .inr (.inr z))
 show L2.PE X _ (tV X.K X.d env s (match env[i]? with|some (some v)=>.e v s|_=>.d))
 refine zZ (L2.xt (i:=i) (by rw[o.a.a];exact h1) hv h3 h4) λσ H Q ⟨ρ,hr,er,w⟩=>?_
 split at w
 . rename_i v e
   obtain⟨x',h5,h6⟩:=er.a i v e;exact⟨x',h5,zM hr h6 w⟩
 . exact w.elim
theorem XF:JE T n (.E y):=by
 intro sc N X e o h env s;replace h:=yx h;obtain⟨x,p,rfl,h⟩:=h;simp only[cf,decide_eq_true_eq,wO,AM]at h;obtain⟨⟨h1,h2⟩,h3⟩:=h;subst h1;show L2.PE X _ (tV X.K X.d env s (match T.b x with|some v=>.e v s|dS=>.d))
 cases hv:T.b x with
 |none=>exact zK (zH rfl)
 |some v=>
  obtain⟨u,xv,e1,e2,e3⟩:=o.i x v hv;exact zZ (L2.YJ (o.a.b x h2) e1 e2 h3) λσ H Q ⟨ρ,hr,er,w⟩=>zM hr (e3 ρ H) w
theorem U2:JE T n (.K y m):=by
 intro sc N X e o h env s;replace h:=yx h;obtain⟨x,p,rfl,h⟩:=h;simp only[cf,decide_eq_true_eq,wO]at h;obtain⟨⟨h1,h2⟩,h3⟩:=h;subst h1;show L2.PE X _ (tV X.K X.d env s (.e (.t m) s));have key:x∈wC/\Ca x=some (.type m)/\x≠"__name__"/\(x == ("__debug__":Str))=false:=by
  unfold Su at h3;simp only[Ax,cf,decide_eq_true_eq]at h3;rcases h3 with ((((⟨rfl,rfl⟩|⟨rfl,rfl⟩)|⟨rfl,rfl⟩)|⟨rfl,rfl⟩)|⟨rfl,rfl⟩)|⟨rfl,rfl⟩
  . exact⟨by decide,PyProof.Rows.boot_int,by decide,by decide⟩
  . exact⟨by decide,PyProof.Rows.boot_bool,by decide,by decide⟩
  . exact⟨by decide,PyProof.Rows.boot_str,by decide,by decide⟩
  . exact⟨by decide,PyProof.Rows.boot_list,by decide,by decide⟩
  . exact⟨by decide,FZ,by decide,by decide⟩
  . exact⟨by decide,PyProof.Rows.boot_dict,by decide,by decide⟩
 exact zZ (L2.Tt (o.a.b x h2) (o.g x key.1) key.2.1 key.2.2.1 key.2.2.2) λσ H Q ⟨ρ,hr,er,w⟩=>zM hr (.J _) w
theorem Zg:JE T n (.C t):=by
 intro sc N X e o h env s;obtain⟨p,rfl⟩:=js h;show L2.PE X _ (tV X.K X.d env s (.e (.q s.length) (s++[if t then .f [] else .e []])))
 cases t with
 |true=>exact zZ L2.c9 λσ H Q ⟨ρ,hr,er,w⟩ p hp=>w _ _ _ (Ext.own hr hp _) (hr.wU hp ⟨[],L2.zL,rfl,.d⟩) (.A (rP hr p) (by rw[L2.zL];decide))
 |false=>exact zZ L2.c8 λσ H Q ⟨ρ,hr,er,w⟩ p hp=>w _ _ _ (Ext.own hr hp _) (hr.wU hp ⟨[],L2.zL,rfl,.d⟩) (.A (rP hr p) (by rw[L2.zL];decide))
theorem Zf:JE T n .B:=by intro sc N X e o h env s;obtain⟨p,rfl⟩:=js h;show L2.PE X _ (tV X.K X.d env s (.e .p s));exact zZ (L2.YI λpins σ H s I=>I.big) λσ H Q ⟨ρ,hr,er,w⟩ p hp=>w _ _ _ (Ext.new hr hp _) (hr.more hp _) (.B (hr.new hp) L2.zL)
theorem nt(h:zV op x y s=.e v s'):∃b,v=.e b:=by unfold zV at h;split at h<;>(split at h<;>first|(cases h;exact⟨_,rfl⟩)|cases h|(split at h<;>first|(cases h;exact⟨_,rfl⟩)|cases h|(split at h<;>first|(cases h;exact⟨_,rfl⟩)|cases h|(split at h<;>first|(cases h;exact⟨_,rfl⟩)|cases h))))
theorem qk{o:Out Val}(hb:∀v s',o=.e v s'->∃b,v=.e b)(w:yQ K mg (λ_ _ a b=>a=b) ρ H o.truth Q):yQ K mg (RD K mg) ρ H o λx H'=>∃k,x=.f k/\Q k H':=by
 cases o with
 |e v s1=>
  obtain⟨b,rfl⟩:=hb v s1 rfl;intro ρ1 x H1 x1 hr1 r1;cases r1;exact⟨b,rfl,w _ _ _ x1 hr1 rfl⟩
 |g _ _ _=>exact w
 |d=>exact w
theorem Wr{f2:Sto->Out Val}(k1:okC op=true)(hr0:L2.y9 k X.A)(h1:L2.PE X a (tV X.K X.d env s o))(h2:∀s1,L2.PE X b (tV X.K X.d env s1 (f2 s1)))(hm:plain b=true) :
 L2.PT X (.Compare a [op.op] [b] pos) (tT X.K X.d env s (o.bind λx s1=>(f2 s1).bind λy s2=>zV op x y s2).truth):=by
 cases o with
 |e v s1=>
  have h2':=h2 s1;show L2.PT X _ (tT X.K X.d env s ((f2 s1).bind λy s2=>zV op v y s2).truth);cases hb:f2 s1 with
  |e w s2=>
   rw[hb]at h2';exact sP (L2.nJ (uP hr0 op k1) h1 h2' (wJ hm)) λσ H Q ⟨ρ,hr,er,wt⟩=>⟨ρ,hr,er,λρ1 x H1 x1 hr1 r1=>⟨ρ1,hr1,er.mono x1,λρ2 y H2 x2 hr2 r2=>⟨ρ2,s2,v,w,hr2,r1.mono x2,r2,qk (λ_ _ h=>nt h) (wt.mono (x1.trans hr1 x2) hr2)⟩⟩⟩
  |g _ _ _=>exact z8 (zH rfl)
  |d=>exact z8 (zH rfl)
 |g _ _ _=>exact z8 (zH rfl)
 |d=>exact z8 (zH rfl)
theorem dt{X:L2.Cx}{env:Env}{s:Sto}{a b c:Expr}{op op':Cop}{o:Out Val}{f2 f3:Sto->Out Val}{k:Nat}{pos:Pos}(k1:okC op=true)(k2:okC op'=true)(hr0:L2.y9 k X.A)(h1:L2.PE X a (tV X.K X.d env s o))(h2:∀s1,L2.PE X b (tV X.K X.d env s1 (f2 s1)))(h3:∀s1,L2.PE X c (tV X.K X.d env s1 (f3 s1)))(hm:plain c=true) :
 L2.PT X (.Compare a [op.op,op'.op] [b,c] pos) (tT X.K X.d env s (o.bind λx s1=>(f2 s1).bind λy s2=>(zV op x y s2).bind λr s3=>match r with
  |.e true=>(f3 s3).bind λz s4=>zV op' y z s4
  |.e false=>.e (.e false) s3
  |_=>.d).truth):=by
 cases o with
 |e v s1=>
  have h2':=h2 s1;show L2.PT X _ (tT X.K X.d env s ((f2 s1).bind _).truth);cases hb:f2 s1 with
  |e w s2=>
   rw[hb]at h2';show L2.PT X _ (tT X.K X.d env s ((zV op v w s2).bind _).truth);cases hc:zV op v w s2 with
   |e r s3=>
    cases r with
    |e t=>
     have h3':=h3 s3;have rule:=L2.bP (pos:=pos) (uP hr0 op k1) (uP hr0 op' k2) h1 h2' h3' (show GK [op.op,op'.op] [b,c]=false from wJ hm);refine sP rule λσ H Q ⟨ρ,hr,er,wt⟩=>⟨ρ,hr,er,λρ1 x H1 x1 hr1 r1=>⟨ρ1,hr1,er.mono x1,λρ2 y H2 x2 hr2 r2=>⟨ρ2,s2,v,w,hr2,r1.mono x2,r2,?_⟩⟩⟩;rw[hc];intro ρ3 z H3 x3 hr3 r3;cases r3;refine⟨t,rfl,?_⟩;have xx:=(x1.trans hr1 x2).trans hr2 x3;have wt':=wt.mono xx hr3;cases t with
     |true=>
      rw[if_pos rfl];refine⟨ρ3,hr3,er.mono xx,?_⟩;have wt2:yQ X.K X.d (λ_ _ a b=>a=b) ρ3 H3 ((f3 s3).bind λz s4=>zV op' w z s4).truth Q:=wt';cases hz:f3 s3 with
      |e u s4=>
       rw[hz]at wt2;exact λρ4 q H4 x4 hr4 r4=>⟨ρ4,s4,w,u,hr4,(r2.mono x3).mono x4,r4,qk (λ_ _ h=>nt h) (wt2.mono x4 hr4)⟩
      |g _ _ _=>rw[hz]at wt2;exact wt2
      |d=>rw[hz]at wt2;exact wt2
     |false=>
      rw[if_neg Ad];exact⟨false,rfl,wt' _ _ _ Ext.refl hr3 rfl⟩
    |_=>exact z8 (zH rfl)
   |g _ _ _=>exact z8 (zH rfl)
   |d=>exact z8 (zH rfl)
  |g _ _ _=>exact z8 (zH rfl)
  |d=>exact z8 (zH rfl)
 |g _ _ _=>exact z8 (zH rfl)
 |d=>exact z8 (zH rfl)
theorem Wi(ja:JE T n a)(jb:JE T n b):JC T n (.a (.p op a b)):=by intro sc N X e o h env s;replace h:=oa (zR h).1;obtain⟨_,_,_,_,rfl,h1⟩:=h;simp only[cf,decide_eq_true_eq]at h1;obtain⟨⟨⟨⟨k1,rfl⟩,h3⟩,h4⟩,h5⟩:=h1;exact Wr k1 o.c (ja _ _ _ _ o h3 env s) (λs1=>jb _ _ _ _ o h4 env s1) h5
theorem dY(ja:JE T n a)(jb:JE T n b)(jc:JE T n c):JC T n (.a (.r op op' a b c)):=by intro sc N X e o h env s;replace h:=jr (zR h).1;obtain⟨_,_,_,_,_,_,rfl,h1⟩:=h;simp only[cf,decide_eq_true_eq]at h1;obtain⟨⟨⟨⟨⟨⟨k1,rfl⟩,k2,rfl⟩,h3⟩,h4⟩,h5⟩,h6⟩:=h1;exact dt k1 k2 o.c (ja _ _ _ _ o h3 env s) (λs1=>jb _ _ _ _ o h4 env s1) (λs1=>jc _ _ _ _ o h5 env s1) h6
noncomputable def XD:Ex->Bool
 |.p ..|.r ..=>true
 |_=>false
theorem fz{os}(h:ck sc N a (.Compare l os rs p)=true):XD a=true:=by
 cases a with
 |p _ _ _=>rfl
 |r _ _ _ _ _=>rfl
 |h f v es=>
  replace h:(if v<100 then ckA sc f (λxs=>ckL sc N es xs) (.Compare l os rs p) else if v<200 then ckB sc N f v es (λl ys=>ckL l N es ys) (.Compare l os rs p) else ckV sc N v es (λl ys=>ckL l N es ys) (.Compare l os rs p))=true:=h
  split at h
  . cases h
  . split at h
    . cases h
    . exact absurd (show false=true from (zR h).2) Ad
 |_=>cases h
theorem eD{e:Expr}(h:e.ctorIdx=15):∃l os rs p,e=.Compare l os rs p:=Fm (motive_1:=λe=>∃l os rs p,e=Expr.Compare l os rs p) e h λl os rs p=>⟨l,os,rs,p,rfl⟩
theorem z0(ja:JE T n a)(hn:XD a=false):JC T n (.a a):=by
 intro sc N X e o h env s;obtain⟨h1,h2⟩:=zR h;have je:=ja sc N X e o h1 env s;rcases (Ax _ _).mp h2 with h2|h2
 . exact Wt h2 je
 . obtain⟨l,os,rs,p,rfl⟩:=eD (of_decide_eq_true h2)
   rw[fz h1]at hn;cases hn
end
end M
end
section
namespace M
open PySem
section
variable {T:Tbl}{n:Nat}
theorem dO(ja:JE T n a)(jb:JE T n b):JE T n (.j m op a b):=by intro sc N X e o h env s;replace h:=nv h;obtain⟨l,o1,r,p,rfl,h⟩:=h;simp only[cf,decide_eq_true_eq]at h;obtain⟨⟨⟨k1,rfl⟩,h1⟩,h2⟩:=h;exact Xv (ja _ _ _ _ o h1 env s) (λs1=>jb _ _ _ _ o h2 env s1) λta tb pa pb=>L2.mY (cT m op k1) pa pb
theorem dQ(ja:JE T n a):JE T n (.A a):=by intro sc N X e o h env s;replace h:=rM h;obtain⟨x,p,rfl,h⟩:=h;exact Wk (ja _ _ _ _ o h env s)
theorem Wa(jl:JL T n es):JE T n (.y es):=by intro sc N X e o h env s;replace h:=uf h;obtain⟨xs,k,p,rfl,h⟩:=h;simp only[cf]at h;exact kA ((jl _ _ _ _ o h.1).1 h.2 env s)
theorem WY(jl:JL T n es):JE T n (.s m es):=by intro sc N X e o h env s;replace h:=nz h;obtain⟨xs,p,rfl,h⟩:=h;simp only[cf]at h;exact di ((jl _ _ _ _ o h.1).1 h.2 env s)
theorem XE(ja:JE T n a)(jb:JE T n b):JE T n (.u a b):=by intro sc N X e o h env s;replace h:=rn h;obtain⟨l,r,p,rfl,h⟩:=h;simp only[cf]at h;exact Xv (ja _ _ _ _ o h.1.1 env s) (λs1=>jb _ _ _ _ o h.1.2 env s1) λta tb pa pb=>L2.XX Uu pa pb (bJ h.2)
end
section
variable {Φ Φ':Calls}{G:Str->Option Val}{env:Env}
mutual
theorem sS:∀(a:Ex) (s:Sto),sim a=true->evE Φ G env a s=evE Φ' G env a s
 |.g _,_,_=>rfl
 |.e _,_,_=>rfl
 |.E _,_,_=>rfl
 |.j m op a b,s,h=>by
  simp only[sim,cf]at h;show (evE Φ G env a s).bind _=(evE Φ' G env a s).bind _;rw[sS a s h.1.2];exact congrArg _ (funext λx=>funext λs1=>by rw[sS b s1 h.2])
 |.A a,s,h=>by
  simp only[sim]at h;show (evE Φ G env a s).bind _=(evE Φ' G env a s).bind _;rw[sS a s h]
 |.y es,s,h=>by
  simp only[sim]at h;show (zi Φ G env es s).bind _=(zi Φ' G env es s).bind _;rw[u9 es s h]
 |.s m es,s,h=>by
  simp only[sim,cf]at h;show (zi Φ G env es s).bind _=(zi Φ' G env es s).bind _;rw[u9 es s h.2]
 |.u a b,s,h=>by
  simp only[sim,cf]at h;show (evE Φ G env a s).bind _=(evE Φ' G env a s).bind _;rw[sS a s h.1];exact congrArg _ (funext λx=>funext λs1=>by rw[sS b s1 h.2])
 |.K _ _,_,h=>by cases h
 |.F _,_,h=>by cases h
 |.p _ _ _,_,h=>by cases h
 |.r _ _ _ _ _,_,h=>by cases h
 |.w _ _,_,h=>by cases h
 |.H _ _,_,h=>by cases h
 |.G _ _ _,_,h=>by cases h
 |.B,_,h=>by cases h
 |.h _ _ _,_,h=>by cases h
 |.k _ _ _,_,h=>by cases h
 |.D _ _,_,h=>by cases h
 |.J _ _ _ _,_,h=>by cases h
 |.L _ _ _ _ _,_,h=>by cases h
 |.q _ _ _ _ _ _ _,_,h=>by cases h
 |.z _ _ _ _ _ _ _ _ _ _,_,h=>by cases h
 |.l _ _ _ _,_,h=>by cases h
 |.C _,_,h=>by cases h
 |.I _ _,_,h=>by cases h
theorem u9:∀(es:Exs) (s:Sto),vi es=true->zi Φ G env es s=zi Φ' G env es s
 |.b,_,_=>rfl
 |.a e es,s,h=>by simp only[vi,cf]at h;show (evE Φ G env e s).bind _=(evE Φ' G env e s).bind _;rw[sS e s h.1];exact congrArg _ (funext λx=>funext λs1=>by rw[u9 es s1 h.2])
end
theorem qO(h:newList false vs s=.e v s'):s'=s:=by simp only[newList,AX,if_false]at h;cases h;rfl
theorem fk(h:binOp false op x y s=.e v s'):s'=s:=by unfold binOp at h;split at h<;>(repeat' split at h)<;>first|exact qO h|(cases h;rfl)|cases h
theorem ZV(h:vQ x y s=.e v s'):s'=s:=by
 unfold vQ at h;split at h
 . split at h
   . split at h
     . cases h;rfl
     . cases h
   . cases h
 . cases h
theorem zp{o:Out α}{f}{b:β}(h:o.bind f=.e b s):∃a s1,o=.e a s1/\f a s1=.e b s:=by
 cases o with
 |e a s1=>exact⟨a,s1,rfl,h⟩
 |g _ _ _=>cases h
 |d=>cases h
mutual
theorem sT:∀(a:Ex) (s s':Sto) (v:Val),sim a=true->evE Φ G env a s=.e v s'->s'=s
 |.g _,_,_,_,_,h=>by cases h;rfl
 |.e i,s,s',v,_,h=>by
  have key:∀o:Option (Option Val),(match o with|some (some v)=>Out.e v s|_=>.d)=.e v s'->s'=s:=λo h=>by
   cases o with
   |none=>cases h
   |some o=>cases o with
    |none=>cases h
    |some w=>cases h;rfl
  exact key _ h
 |.E x,s,s',v,_,h=>by
  have key:∀o:Option Val,(match o with|some v=>Out.e v s|dS=>.d)=.e v s'->s'=s:=λo h=>by
   cases o with
   |none=>cases h
   |some w=>cases h;rfl
  exact key _ h
 |.j m op a b,s,s',v,z,h=>by
  simp only[sim,cf,AM]at z;obtain⟨⟨rfl,z1⟩,z2⟩:=z;obtain⟨x,s1,e1,h⟩:=zp h;obtain⟨y,s2,e2,h⟩:=zp h;rw[fk h,sT b _ _ _ z2 e2,sT a _ _ _ z1 e1]
 |.A a,s,s',v,z,h=>by
  simp only[sim]at z;obtain⟨x,s1,e1,h⟩:=zp h;rw[<-sT a _ _ _ z e1];split at h
  . cases h;rfl
  . cases h
 |.y es,s,s',v,z,h=>by
  simp only[sim]at z;obtain⟨x,s1,e1,h⟩:=zp h;rw[<-tG es _ _ _ z e1];split at h
  . cases h;rfl
  . cases h
 |.s m es,s,s',v,z,h=>by
  simp only[sim,cf,AM]at z;obtain⟨rfl,z⟩:=z;obtain⟨x,s1,e1,h⟩:=zp h;rw[<-tG es _ _ _ z e1];split at h
  . exact qO h
  . cases h
 |.u a b,s,s',v,z,h=>by
  simp only[sim,cf]at z;obtain⟨x,s1,e1,h⟩:=zp h;obtain⟨y,s2,e2,h⟩:=zp h;rw[ZV h,sT b _ _ _ z.2 e2,sT a _ _ _ z.1 e1]
 |.K _ _,_,_,_,h,_=>by cases h
 |.F _,_,_,_,h,_=>by cases h
 |.p _ _ _,_,_,_,h,_=>by cases h
 |.r _ _ _ _ _,_,_,_,h,_=>by cases h
 |.w _ _,_,_,_,h,_=>by cases h
 |.H _ _,_,_,_,h,_=>by cases h
 |.G _ _ _,_,_,_,h,_=>by cases h
 |.B,_,_,_,h,_=>by cases h
 |.h _ _ _,_,_,_,h,_=>by cases h
 |.k _ _ _,_,_,_,h,_=>by cases h
 |.D _ _,_,_,_,h,_=>by cases h
 |.J _ _ _ _,_,_,_,h,_=>by cases h
 |.L _ _ _ _ _,_,_,_,h,_=>by cases h
 |.q _ _ _ _ _ _ _,_,_,_,h,_=>by cases h
 |.z _ _ _ _ _ _ _ _ _ _,_,_,_,h,_=>by cases h
 |.l _ _ _ _,_,_,_,h,_=>by cases h
 |.C _,_,_,_,h,_=>by cases h
 |.I _ _,_,_,_,h,_=>by cases h
theorem tG:∀(es:Exs) (s s':Sto) (vs:List Val),vi es=true->zi Φ G env es s=.e vs s'->s'=s
 |.b,_,_,_,_,h=>by cases h;rfl
 |.a e es,s,s',vs,z,h=>by simp only[vi,cf]at z;obtain⟨x,s1,e1,h⟩:=zp h;obtain⟨y,s2,e2,h⟩:=zp h;cases h;rw[tG es _ _ _ z.2 e2,sT e _ _ _ z.1 e1]
end
end
section
variable {T:Tbl}{n:Nat}
mutual
theorem sH:∀(a:Ex),sim a=true->JE T n a
 |.g _,_=>dh
 |.e _,_=>dk
 |.E _,_=>XF
 |.j m op a b,h=>by
  simp only[sim,cf]at h;exact dO (sH a h.1.2) (sH b h.2)
 |.A a,h=>dQ (sH a (by simpa only[sim] using h))
 |.y es,h=>by
  simp only[sim]at h;intro sc N X e o hc env s;replace hc:=uf hc;obtain⟨xs,k,p,rfl,hc⟩:=hc;simp only[cf]at hc;exact kA (qX es h _ _ _ _ o hc.1 hc.2 env s)
 |.s m es,h=>by
  simp only[sim,cf]at h;intro sc N X e o hc env s;replace hc:=nz hc;obtain⟨xs,p,rfl,hc⟩:=hc;simp only[cf]at hc;exact di (qX es h.2 _ _ _ _ o hc.1 hc.2 env s)
 |.u a b,h=>by
  simp only[sim,cf]at h;exact XE (sH a h.1) (sH b h.2)
 |.K _ _,h=>by cases h
 |.F _,h=>by cases h
 |.p _ _ _,h=>by cases h
 |.r _ _ _ _ _,h=>by cases h
 |.w _ _,h=>by cases h
 |.H _ _,h=>by cases h
 |.G _ _ _,h=>by cases h
 |.B,h=>by cases h
 |.h _ _ _,h=>by cases h
 |.k _ _ _,h=>by cases h
 |.D _ _,h=>by cases h
 |.J _ _ _ _,h=>by cases h
 |.L _ _ _ _ _,h=>by cases h
 |.q _ _ _ _ _ _ _,h=>by cases h
 |.z _ _ _ _ _ _ _ _ _ _,h=>by cases h
 |.l _ _ _ _,h=>by cases h
 |.C _,h=>by cases h
 |.I _ _,h=>by cases h
theorem qX:∀(es:Exs),vi es=true->∀(sc:Scope) (N:List Str) (X:L2.Cx) (xs:List Expr),Ok T n sc N X->ckL sc N es xs=true->zc xs=true->∀env s,L2.PA X xs (tVs X.K X.d env s (zi (zD T n) T.b env es s))
 |.b,_=>λsc N X xs o h hp env s=>by
  cases AV.mp h;exact j6
 |.a e es,hs=>λsc N X xs o h hp env s=>by simp only[vi,cf]at hs;replace h:=yV h;obtain⟨y,ys,rfl,h⟩:=h;rw[zc,cf]at hp;exact mH hp.1 (sH e hs.1 _ _ _ _ o (zR h).1 env s) λs1=>qX es hs.2 _ _ _ _ o (zR h).2 hp.2 env s1
end
end
end M
end
section
namespace M
open PySem PySem.W PyProof.Rows
theorem qW(h:L2.PA X.nox es t):L2.PA X es t:=λpos pins s σ H Q I hw=>
 AD (h pos pins s σ H Q (I.wM _) hw) (λ_ _ ⟨vs,H',I',r,q⟩=>⟨vs,H',I'.yv,r,q⟩) λ_ _ z=>Al z
theorem pX(h:vU a=true):a=L2.noArgs:=by obtain⟨po,ar,va,ko,kd,kw,df⟩:=a;simp only[vU,cf,AV,BN]at h;obtain⟨⟨⟨⟨⟨⟨rfl,rfl⟩,rfl⟩,rfl⟩,rfl⟩,rfl⟩,rfl⟩:=h;rfl
theorem ph(r:L2.y9 (m+1) A)e1 e2:L2.y9 m ((A.deeper e1).deeper e2):=
 ⟨r.a,by have:=r.b;show A.depth+1+1+3*m+5<_;omega,by have:=r.c;show A.units+3+3+16*m+200<_;omega,r.d⟩
theorem mE(h:mD sc x=true):L2.Vis sc x:=by
 simp only[mD,Ax,decide_eq_true_eq]at h;rcases h with (h|h)|h
 . exact .inl h
 . exact .inr (.inl h)
 . exact .inr (.inr h)
theorem mX{ds}{i:Nat}(F:L2.uU X.f X.w X.K X.d X.g CX k f fd ps sp)(hr:L2.y9 k X.A)(hN:X.N[i]?=some x)(hv:L2.Vis X.a.scope x)(hk:BS X.K (.ref f)=true)(hb:L2.Binds X.K fd ps ds)(hd:L2.Vals dvs ds)(hx:L2.Passes CX X E)
 (ha:L2.PA X (e::es) t) (hdb:(x == ("__debug__":Str))=false) (hcd:(x == ("__classdict__":Str))=false) (he:Av (e::es) X.a=(false,eval e X.a)::Av es X.a) (hpl:(backTo pos (Av es X.a)).any (·.1)=false) :
 L2.PE X (.Call (.Name x p) (e::es) [] pos) (λσ H Q=>σ[i]?=some (some (.c f))/\L2.lC sp dvs E t σ H Q):=by
 intro pins s σ H Q I ⟨h0,h⟩;refine BE (L2.thn (L2.xt hN hv hdb hcd pins s σ H (λv H2=>v=L2.V.c f/\H2=H) I ⟨_,h0,rfl,rfl⟩) λu s2 ⟨v,H2,I2,r,hv2,hH2⟩=>?_);subst hv2 hH2;cases r;refine C8 (h₀:=X.g) I2.C.i.a hk (L2.thn (ha pos pins s2 σ H2 _ I2 h) λus s1 ⟨vs,H1,I1,r,q⟩=>⟨I1.kIn,?_⟩) he hpl;exact L2.kq F hr hb hd hx I1 r q
section
variable {T:Tbl}{n:Nat}{sc lsc:Scope}{N:List Str}{X:L2.Cx}
def Cal(lsc:Scope)(N:List Str)(env:Env)(y f:Str):Prop:=(y=f/\lsc.names.lookup y=some .globalImplicit/\(y == ("__debug__":Str))=false) \/
 ∃i:Nat,N[i]?=some y/\mD lsc y=true/\(y == ("__debug__":Str))=false/\(y == ("__classdict__":Str))=false/\env[i]?=some (some (.u f))
theorem g7
 (o:Ok T (m+1) sc0 N0 X) (nd:N.Nodup) (nmk:∀x∈lsc.names,x.2=.globalImplicit\/x.2=.free) (h8:vi es=true) (h9:ckL lsc N es ys=true) (h10:zc ys=true) (h11:ys.isEmpty=false) (hcal:Cal lsc N env y f) (ho:zi (zD T m) T.b env es s=.e vs s) (hmd:T.e md=true)
 (I:L2.Inv X pins σq H s0) (L:L2.uW X.h s0.heap H lf c2 qual (.Call (.Name y p2) ys [] p3) lsc cl pm ctv N σ) (hr:HR X.K X.d ρ s H) (er:ER X.K X.d ρ H env σ) (wt:yQ X.K X.d (RD X.K X.d) ρ H (qf T md (zD T m f 0 vs s) (zS T m f 0 vs s)) Q) (hf:X.d (L2.yK md)=some (.ref fS)) :
 wpAny (model X.f X.w) X.A (call (.ref fS) [.ref lf]) (L2.EP X pins σq Q) X.i s0:=by
 have sd:=o.l m rfl ⟨md,hmd⟩;obtain⟨kx,cs,ws,pre,hue,hhue,KF,SF,CF,RF⟩:=sd.a.a;obtain⟨fS',SF'⟩:=SF md hmd;obtain rfl:fS'=fS:=by obtain⟨_,_,z,_⟩:=id SF'.a;rw[hf]at z;cases z;rfl
 cases hfn:T.d f 0 with
 |none=>
  exfalso;have h1:zD T m f 0 vs s=.d:=by
   cases m with
   |zero=>rfl
   |succ m=>simp only[zD,hfn];cases uh vs<;>rfl
  have h2:zS T m f 0 vs s=dS:=by
   cases m with
   |zero=>rfl
   |succ m=>simp only[zS,hfn]
  rw[h1,h2]at wt;exact wt
 |some F=>
  obtain⟨fa2,fd2,e1,e2,e3,e4,e5⟩:=(sd.b m (Ah _)).a f 0 F hfn;refine CK (Ct (L2.bb (EE:=λcls dd H2=>∃(cc:Str) (as:List Val) (s':Sto) (ρ2:Own) (C:Addr),((∀v s1,zD T m f 0 vs s≠.e v s1)/\zS T m f 0 vs s=some (cc,as,s'))/\Ext ρ H ρ2 H2/\HR X.K X.d ρ2 s' H2/\X.d cc=some (.ref C)/\cls=.ref C/\DX ρ2 H2 cc as dd)
   (Q:=Q) (tb:=λσ1 H1 Q1=>(∀i:Nat,env[i]?=some (some (.u f))->σ1[i]?=some (some (.c fa2)))/\L2.lC (spX T X.K X.d m f 0) [] (λcls dd H2=>∃(cc:Str) (as:List Val) (s':Sto) (ρ2:Own) (C:Addr),((∀v s1,zD T m f 0 vs s≠.e v s1)/\zS T m f 0 vs s=some (cc,as,s'))/\Ext ρ H ρ2 H2/\HR X.K X.d ρ2 s' H2/\X.d cc=some (.ref C)/\cls=.ref C/\DX ρ2 H2 cc as dd) (tVs X.K X.d env s (zi (zD T m) T.b env es s)) σ1 H1 Q1)
   I.wN o.c.a (by have:=o.c.b;omega) SF' KF hhue L (λwN s' H2=>?_) ?_ λcls dd H2 hEE=>?_) λr s' hres=>?_)
  . cases ys with
    |nil=>cases h11
    |cons y1 ys=>
     have hp2:=h10;rw[zc,cf]at hp2;have okL:Ok T m lsc N (L2.ud (L2.CXE X.f X.w) X.f X.w X.K X.d X.g N qual lsc lf (.ref c2) cl (X.A.deeper wN) (wN::X.h) s' H2 (λcls dd H2=>∃(cc:Str) (as:List Val) (s':Sto) (ρ2:Own) (C:Addr),((∀v s1,zD T m f 0 vs s≠.e v s1)/\zS T m f 0 vs s=some (cc,as,s'))/\Ext ρ H ρ2 H2/\HR X.K X.d ρ2 s' H2/\X.d cc=some (.ref C)/\cls=.ref C/\DX ρ2 H2 cc as dd)).nox:=by
      refine⟨rfl,ph o.c _ _,⟨rfl,nd,λx hx=>hx,λx hx=>?_,λx hx=>hx,λx hx=>hx⟩,λf' v' F' hf'=>?_,o.i,o.g,rfl,o.j,λm' hm' hmd'=>⟨sd.a,λj hj=>sd.b j (by omega)⟩,λ_ ⟨x,hx⟩ _=>?_⟩
      . exfalso
        rcases hx with hx|hx
        . rcases nmk _ (AE hx) with z|z<;>cases z
        . rcases nmk _ (AE hx) with z|z<;>cases z
      . obtain⟨fa3,fd3,y1,y2,y3,y4,y5⟩:=(sd.b m (Ah _)).a f' v' F' hf'
        exact⟨⟨fa3,fd3,y1,y2,y3,y4⟩⟩
      . exfalso
        rcases nmk _ (AE hx) with z|z<;>cases z
     have hpa:=qW (qX es h8 lsc N _ _ okL h9 h10 env s);rcases hcal with⟨rfl,h6,h7⟩|⟨i,c1,c2,c3,c4,c5⟩
     . exact zZ (L2.rQ e5 (ph o.c _ _) h6 e1 e2 e3 .nil L2.vD hpa h7 (L2.zf (zU hp2.1)) (yG hp2.2)) λσ H Q h=>h.2
     . exact zZ (mX e5 (ph o.c _ _) c1 (mE c2) e2 e3 .nil L2.vD hpa c3 c4 (L2.zf (zU hp2.1)) (yG hp2.2)) λσ H Q h=>⟨h.1 i c5,h.2⟩
  . refine Ab (λi he=>?_) ⟨ρ,hr,er,?_⟩
    . obtain⟨x,hx,r⟩:=er.a i _ he
      cases r with
      |I e=>rw[e1]at e;cases e;exact hx
    rw[ho];intro ρ1 xs H1 x1 hr1 r1;refine⟨ρ1,s,vs,hr1,by rw[A9];exact r1,?_⟩
    cases hres:zD T m f 0 vs s with
    |e v s'=>
     rw[hres]at wt;refine .inl λρ2 x H2 x2 hr2 r2=>?_;have X2:=x1.trans hr1 x2;cases md with
     |true=>exact wt ρ2 x H2 X2 hr2 r2
     |false=>exact wt ρ2 _ H2 X2 hr2 (.D _)
    |g _ _ _=>
     rw[hres]at wt;cases hx:zS T m f 0 vs s with
     |none=>rw[hx]at wt;exact wt.elim
     |some r=>
      obtain⟨cc,as,s'⟩:=r;exact .inr λρ2 H2 x2 hr2 C hC dd hdx=>⟨cc,as,s',ρ2,C,⟨zH rfl,rfl⟩,x1.trans hr1 x2,hr2,hC,rfl,hdx⟩
    |d=>
     rw[hres]at wt;cases hx:zS T m f 0 vs s with
     |none=>rw[hx]at wt;exact wt.elim
     |some r=>
      obtain⟨cc,as,s'⟩:=r;exact .inr λρ2 H2 x2 hr2 C hC dd hdx=>⟨cc,as,s',ρ2,C,⟨zH rfl,rfl⟩,x1.trans hr1 x2,hr2,hC,rfl,hdx⟩
  . obtain⟨cc,as,s',ρ2,C,⟨hno,hexc⟩,x2,hr2,hC,rfl,hdx⟩:=hEE
    have wt:yQ X.K X.d (RD X.K X.d) ρ H (match T.c.lookup cc with|some w=>.e (mz md w as) s'|dS=>.d) Q:=by
     rw[hexc]at wt;cases hn:zD T m f 0 vs s with
     |e v s1=>exact absurd hn (hno v s1)
     |g _ _ _=>rw[hn]at wt;exact wt
     |d=>rw[hn]at wt;exact wt
    cases hw:T.c.lookup cc with
    |none=>rw[hw]at wt;exact wt.elim
    |some w=>
     rw[hw]at wt;obtain⟨C',i,x,c1,c2,c3,c4,c5,c6,c7⟩:=CF cc w hw;rw[hC]at c1;cases c1;refine⟨C,cc,i,x,rfl,c2,c3,c4,c5,?_⟩;by_cases hgr:md=false/\w="great"
     . obtain⟨hmf,hwg⟩:=hgr
       subst hmf hwg;have hcc:=c7 rfl;subst hcc;obtain⟨C0,D0,fI,fd0,Kc,m1,m2,m3,m4,m5,m6,m7⟩:=sd.a.d (by rw[hw];rfl) X.g I.C.i.a
       rw[hC]at m1;cases m1;obtain⟨d,a,b,rfl,rfl,hd,hno'⟩:=hdx.get;refine .inr ⟨rfl,c6.symm,D0,fI,d,a,b,Kc,rfl,hd,m6,m5,m4,m2,λH3 p sm hp=>?_⟩;obtain⟨hr3,x3⟩:=hr2.bc sm;exact wt ρ2 (.c p) _ ((x2.trans hr2 x3).trans hr3 (Ext.new hr3 hp _)) (hr3.more hp _) (.m (hr3.new hp) L2.zL (.a (.D _) (.a (.l a) (.a (.l b) .d))))
     . refine .inl ⟨λhmf=>by rw[<-c6];exact λhwg=>hgr ⟨hmf,hwg⟩,λH3 sm=>?_⟩
       obtain⟨hr3,x3⟩:=hr2.bc sm;have hA:mz md w as=.g w:=by
        unfold mz;cases md with
        |true=>rfl
        |false=>rw[if_neg Ad,if_neg λhwg=>hgr ⟨rfl,hwg⟩]
       have wt:yQ X.K X.d (RD X.K X.d) ρ H (.e (mz md w as) s') Q:=wt;rw[hA]at wt;have:=wt ρ2 (.e w) H3 (x2.trans hr2 x3) hr3 (.D w);rw[<-c6];exact this
  . cases r with
    |error e=>exact Al hres
    |ok fl=>
     cases fl with
     |ret u=>exact I.after hres
     |next=>exact Al hres
     |brk=>exact Al hres
     |cont=>exact Al hres
theorem g8(o:Ok T (m+1) sc N X)(h2:sc.names.lookup (L2.yK md)=some .globalImplicit)(h3:vU a=true)(h4:sg sc lsc=true)
 (h8:vi es=true) (h9:ckL lsc N es ys=true) (h10:zc ys=true) (h11:ys.isEmpty=false) (h12:("!":Str)∈N) env s (hcal:Cal lsc N env y f) (ho:zi (zD T m) T.b env es s=.e vs s) (htb:zj T.f s=true) (hmd:T.e md=true) :
 L2.PE X (.Call (.Name (L2.yK md) p1) [.Lambda a (.Call (.Name y p2) ys [] p3) lsc p4] [] p5) (tV X.K X.d env s (qf T md (zD T m f 0 vs s) (zS T m f 0 vs s))):=by
 obtain rfl:=pX h3;intro pins s0 σ H Q I ⟨ρ,hr,er,wt⟩;have sd:=o.l m rfl ⟨md,hmd⟩;obtain⟨kx,cs,ws,pre,hue,hhue,KF,SF,CF,RF⟩:=sd.a.a;obtain⟨fS,SF'⟩:=SF md hmd;obtain⟨stS,fdS,hmS,FnS,_⟩:=id SF'.a;simp only[sg,cf,decide_eq_true_eq,AM,AN,BF,Ax]at h4;obtain⟨⟨⟨⟨k1,k2⟩,k3⟩,k4⟩,⟨x0,hx0,hx0f⟩⟩:=h4;have fcell:∀x∈lsc.names,x.2=.free->sc.names.lookup x.1=some .cell\/sc.names.lookup x.1=some .free:=λx hx hf=>by
  rcases k4 x hx with z|z
  . rw[hf]at z;cases z
  . exact z.2
 obtain⟨g,hg,fa,c,ob,fd,q1,q2,q3,q4,q5,q6⟩:=o.k ⟨md,hmd⟩ ⟨x0.1,hx0f⟩ h12;obtain⟨j,hj⟩:=qF htb hg;obtain⟨P,hPo,tr⟩:=hr.m j _ hj;obtain⟨ps,hP,tok,among,fa',c',o',fd',w1,w2,w3,w4,w5⟩:=id tr;rw[q1]at w1;cases w1;rw[q2]at w2;cases w2;rw[q3]at w3;cases w3;rw[q4]at w4;cases w4;have hq:X.a.qual++("<lambda>":Str)=Zp g:=by rw[q6];rfl
 have cellOf':∀x,(x,AA)∈lsc.names->∃b,X.a.cells.lookup x=some b:=λx hx=>I.C.q x (o.a.d x (fcell _ hx rfl));have clk:∀x b,(xu X.a.cells lsc.names []).lookup x=some b->(x,AA)∈lsc.names/\X.a.cells.lookup x=some b:=λx b e=>by
  rcases tw (AE e) with z|⟨z1,z2⟩
  . cases z
  . obtain⟨b',hb'⟩:=cellOf' x z1
    rw[hb']at z2;exact⟨z1,by rw[hb',z2];rfl⟩
 have hdbg:(L2.yK md == ("__debug__":Str))=false:=by cases md<;>decide
 refine BE (L2.xG I (o.a.b _ h2) hmS ?_ hdbg);refine C8 (h₀:=X.g) I.C.i.a FnS.b ?_;show wpAny _ _ (spliced ((false,eval (.Lambda L2.noArgs (.Call (.Name y p2) ys [] p3) lsc p4) X.a)::backTo p5 (Av [] X.a))) _ _ s0;refine EU (L2.mK (P:=P) (ps:=ps) (c:=c) I rfl (jh λx hx hf=>cellOf' x.1 (by rw[<-hf];exact hx)) q5 (w5 _ I.kIn) hP tok (sd.a.bm _ I.C.i.a) (λcv hcv=>?_) λlf c2 ctv H' h' tk I' lamh ⟨nl,_,nf,cdr⟩ obj cr=>Ff ⟨I'.kIn,?_⟩)
 . obtain⟨b,ob',vb,tb,z1,_,z3,z4,z5⟩:=among _ cv hcv
   exact⟨b,ob',vb,tb,z1,z3,z4,by rw[hq];exact z5⟩
 rw[hq]at lamh;obtain⟨hr',X0⟩:=hr.lam hj hPo tr hP lamh;have L:L2.uW X.h h' H' lf c2 (X.a.qual++("<lambda>":Str)) (.Call (.Name y p2) ys [] p3) lsc (xu X.a.cells lsc.names []) ((X.d "__name__").getD .none) ctv N σ:=by
  refine⟨obj,.inl nl,nf,cdr,λx y b z1 z2=>I.C.r x y b (clk x b z1).2 (clk y b z2).2,λx hx=>lookup_mem (wd (AE hx)),λx b e=>?_,λi x v z1 z2 z3=>?_,by rw[<-o.a.a];exact I'.R,k1,k2,k3,λx hx=>?_⟩
  . obtain⟨y1,y2⟩:=clk x b e
    exact⟨I'.G x b y2,I'.F x b y2⟩
  . have hm3:=AE z3
    have hcl:=fcell _ hm3 rfl;obtain⟨mm,hn,hl⟩:=I'.M;obtain⟨u,ru,lk⟩:=hl i x v (by rw[o.a.a];exact z1) z2 (o.a.f x (.inr hcl))
    rcases lk with⟨y,_⟩|⟨_,b,y2,y3⟩
    . rcases o.a.d x hcl with y'|y'
      . rw[y]at y';cases y'
      . rw[y]at y';cases y'
    . obtain⟨b',hb'⟩:=lookup_mem (wd (cells:=X.a.cells) (acc:=[]) hm3)
      have:=(clk x b' hb').2;rw[y2]at this;cases this;exact⟨u,b,ru,hb',y3⟩
  . rcases k4 x hx with z|z
    . rw[z];exact⟨nofun,nofun⟩
    . rw[z.1];exact⟨nofun,nofun⟩
 exact g7 o o.a.c (λx hx=>(k4 x hx).imp id And.left) h8 h9 h10 h11 hcal ho hmd I' L hr' (er.mono X0) (wt.mono X0 hr') hmS
theorem Zh(o:Ok T n sc N X)(hver:¬ver<100)(hver2:ver<200)(hv102:¬ver=102)(h2:sc.names.lookup (L2.yK (decide (ver=101)))=some .globalImplicit)(h3:vU a=true)(h4:sg sc lsc=true)(h6:lsc.names.lookup f=some .globalImplicit)
 (h7:(f == ("__debug__":Str))=false) (h8:vi es=true) (h9:ckL lsc N es ys=true) (h10:zc ys=true) (h11:ys.isEmpty=false) (h12:("!":Str)∈N) env s :
 L2.PE X (.Call (.Name (L2.yK (decide (ver=101))) p1) [.Lambda a (.Call (.Name f p2) ys [] p3) lsc p4] [] p5) (tV X.K X.d env s (evE (zD T n) T.b env (.h f ver es) s)):=by
 show L2.PE X _ (tV X.K X.d env s ((zi (zD T n) T.b env es s).bind λvs s1=>zD T n f ver vs s1));cases n with
 |zero=>
  refine zK λv s' e=>?_;obtain⟨_,_,_,z⟩:=zp e;cases z
 |succ m=>
  rw[u9 (Φ':=zD T m) es s h8];cases ho:zi (zD T m) T.b env es s with
  |g _ _ _=>exact zK (zH rfl)
  |d=>exact zK (zH rfl)
  |e vs s1=>
   obtain rfl:s=s1:=(tG es _ _ _ h8 ho).symm;rw[zQ];have hcall:zD T (m+1) f ver vs s=if ((decide (ver=100)&&T.e false)||(decide (ver=101)&&T.e true))&&zj T.f s then qf T (decide (ver=101)) (zD T m f 0 vs s) (zS T m f 0 vs s) else .d:=by
    simp only[zD,o.j f ver (by omega)]
    rw[decide_eq_false (show ¬ver=200 by omega),decide_eq_false (show ¬ver=300 by omega),decide_eq_false (show ¬ver=301 by omega),decide_eq_false (show ¬ver=302 by omega),decide_eq_false hv102]
    congr 1;cases uh vs<;>rfl
   rw[hcall];by_cases hcond:(((decide (ver=100)&&T.e false)||(decide (ver=101)&&T.e true))&&zj T.f s)=true
   case neg=>rw[if_neg hcond];exact zK (zH rfl)
   rw[if_pos hcond];rw[cf]at hcond;obtain⟨hmd0,htb⟩:=hcond;have hmd:T.e (decide (ver=101))=true:=by
    simp only[Ax,cf,decide_eq_true_eq]at hmd0;rcases hmd0 with⟨z1,z2⟩|⟨z1,z2⟩
    . rw[decide_eq_false (by omega)];exact z2
    . rw[decide_eq_true z1];exact z2
   exact g8 o h2 h3 h4 h8 h9 h10 h11 h12 env s (.inl ⟨rfl,h6,h7⟩) ho htb hmd
end
end M
end
section
namespace M
open PySem PySem.W PyProof.Rows
theorem lr{c:Str}(h:c="TooGreat"):qE (c,as,s)=.e (.f as) s:=if_pos h
section
variable {T:Tbl}{n:Nat}{sc lsc:Scope}{N:List Str}{X:L2.Cx}
theorem lu
 (o:Ok T (m+1) sc0 N0 X) (nd:N.Nodup) (nmk:∀x∈lsc.names,x.2=.globalImplicit\/x.2=.free) (h8:vi es=true) (h9:ckL lsc N es ys=true) (h10:zc ys=true) (h11:ys.isEmpty=false) (hcal:Cal lsc N env y f) (ho:zi (zD T m) T.b env es s=.e vs s) (sd:Sd T X.f X.w X.K X.d X.g m) (hg:X.d "TooGreat"=some (.ref C0)) (cG:L2.v9 X.g C0 (.ref D0::L2.veM) fI0) (hGr:L2.GrK Kc0 C0 D0) (hsub:L2.vP Kc0 X.K) (hXc:L2.wZ Kc0 C0) (hexm:exmOne Kc0 (.ref C0) (.ref C0)=some true) (GF:L2.vv X.K X.d fS)
 (I:L2.Inv X pins σq H s0) (L:L2.uW X.h s0.heap H lf c2 qual (.Call (.Name y p2) ys [] p3) lsc cl pm ctv N σ) (hr:HR X.K X.d ρ s H) (er:ER X.K X.d ρ H env σ) (wt:yQ X.K X.d (RD X.K X.d) ρ H (qD (zD T m f 0 vs s) (zS T m f 0 vs s)) Q) :
 wpAny (model X.f X.w) X.A (call (.ref fS) [.ref lf]) (L2.EP X pins σq Q) X.i s0:=by
 cases hfn:T.d f 0 with
 |none=>
  exfalso;have h1:zD T m f 0 vs s=.d:=by
   cases m with
   |zero=>rfl
   |succ m=>simp only[zD,hfn];cases uh vs<;>rfl
  have h2:zS T m f 0 vs s=dS:=by
   cases m with
   |zero=>rfl
   |succ m=>simp only[zS,hfn]
  rw[h1,h2]at wt;exact wt
 |some F=>
  obtain⟨fa2,fd2,e1,e2,e3,e4,e5⟩:=(sd.b m (Ah _)).a f 0 F hfn;refine CK (Ct (L2.i8 (EE:=λcls dd H2=>∃(cc:Str) (as:List Val) (s':Sto) (ρ2:Own) (C:Addr),((∀v s1,zD T m f 0 vs s≠.e v s1)/\zS T m f 0 vs s=some (cc,as,s'))/\Ext ρ H ρ2 H2/\HR X.K X.d ρ2 s' H2/\X.d cc=some (.ref C)/\cls=.ref C/\DX ρ2 H2 cc as dd)
   (Q:=Q) (tb:=λσ1 H1 Q1=>(∀i:Nat,env[i]?=some (some (.u f))->σ1[i]?=some (some (.c fa2)))/\L2.lC (spX T X.K X.d m f 0) [] (λcls dd H2=>∃(cc:Str) (as:List Val) (s':Sto) (ρ2:Own) (C:Addr),((∀v s1,zD T m f 0 vs s≠.e v s1)/\zS T m f 0 vs s=some (cc,as,s'))/\Ext ρ H ρ2 H2/\HR X.K X.d ρ2 s' H2/\X.d cc=some (.ref C)/\cls=.ref C/\DX ρ2 H2 cc as dd) (tVs X.K X.d env s (zi (zD T m) T.b env es s)) σ1 H1 Q1)
   I.wN o.c.a (by have:=o.c.b;omega) GF hg L (λwN s' H2=>?_) ?_ λcls dd H2 hEE=>?_) λr s' hres=>?_)
  . cases ys with
    |nil=>cases h11
    |cons y1 ys=>
     have hp2:=h10;rw[zc,cf]at hp2;have okL:Ok T m lsc N (L2.ud (L2.CXE X.f X.w) X.f X.w X.K X.d X.g N qual lsc lf (.ref c2) cl (X.A.deeper wN) (wN::X.h) s' H2 (λcls dd H2=>∃(cc:Str) (as:List Val) (s':Sto) (ρ2:Own) (C:Addr),((∀v s1,zD T m f 0 vs s≠.e v s1)/\zS T m f 0 vs s=some (cc,as,s'))/\Ext ρ H ρ2 H2/\HR X.K X.d ρ2 s' H2/\X.d cc=some (.ref C)/\cls=.ref C/\DX ρ2 H2 cc as dd)).nox:=by
      refine⟨rfl,ph o.c _ _,⟨rfl,nd,λx hx=>hx,λx hx=>?_,λx hx=>hx,λx hx=>hx⟩,λf' v' F' hf'=>?_,o.i,o.g,rfl,o.j,λm' hm' hmd'=>⟨sd.a,λj hj=>sd.b j (by omega)⟩,λ_ ⟨x,hx⟩ _=>?_⟩
      . exfalso
        rcases hx with hx|hx
        . rcases nmk _ (AE hx) with z|z<;>cases z
        . rcases nmk _ (AE hx) with z|z<;>cases z
      . obtain⟨fa3,fd3,y1,y2,y3,y4,y5⟩:=(sd.b m (Ah _)).a f' v' F' hf'
        exact⟨⟨fa3,fd3,y1,y2,y3,y4⟩⟩
      . exfalso
        rcases nmk _ (AE hx) with z|z<;>cases z
     have hpa:=qW (qX es h8 lsc N _ _ okL h9 h10 env s);rcases hcal with⟨rfl,h6,h7⟩|⟨i,c1,c2,c3,c4,c5⟩
     . exact zZ (L2.rQ e5 (ph o.c _ _) h6 e1 e2 e3 .nil L2.vD hpa h7 (L2.zf (zU hp2.1)) (yG hp2.2)) λσ H Q h=>h.2
     . exact zZ (mX e5 (ph o.c _ _) c1 (mE c2) e2 e3 .nil L2.vD hpa c3 c4 (L2.zf (zU hp2.1)) (yG hp2.2)) λσ H Q h=>⟨h.1 i c5,h.2⟩
  . refine Ab (λi he=>?_) ⟨ρ,hr,er,?_⟩
    . obtain⟨x,hx,r⟩:=er.a i _ he
      cases r with
      |I e=>rw[e1]at e;cases e;exact hx
    rw[ho];intro ρ1 xs H1 x1 hr1 r1;refine⟨ρ1,s,vs,hr1,by rw[A9];exact r1,?_⟩
    cases hres:zD T m f 0 vs s with
    |e v s'=>
     rw[hres]at wt;refine .inl λρ2 x H2 x2 hr2 r2=>?_;have X2:=x1.trans hr1 x2;exact wt ρ2 _ H2 X2 hr2 .p
    |g _ _ _=>
     rw[hres]at wt;cases hx:zS T m f 0 vs s with
     |none=>rw[hx]at wt;exact wt.elim
     |some r=>
      obtain⟨cc,as,s'⟩:=r;exact .inr λρ2 H2 x2 hr2 C hC dd hdx=>⟨cc,as,s',ρ2,C,⟨zH rfl,rfl⟩,x1.trans hr1 x2,hr2,hC,rfl,hdx⟩
    |d=>
     rw[hres]at wt;cases hx:zS T m f 0 vs s with
     |none=>rw[hx]at wt;exact wt.elim
     |some r=>
      obtain⟨cc,as,s'⟩:=r;exact .inr λρ2 H2 x2 hr2 C hC dd hdx=>⟨cc,as,s',ρ2,C,⟨zH rfl,rfl⟩,x1.trans hr1 x2,hr2,hC,rfl,hdx⟩
  . obtain⟨cc,as,s',ρ2,C,⟨hno,hexc⟩,x2,hr2,hC,rfl,hdx⟩:=hEE
    rw[hexc]at wt;have wt:yQ X.K X.d (RD X.K X.d) ρ H (qE (cc,as,s')) Q:=by
     cases hn:zD T m f 0 vs s with
     |e v s1=>exact absurd hn (hno v s1)
     |g _ _ _=>rw[hn]at wt;exact wt
     |d=>rw[hn]at wt;exact wt
    by_cases hcc:cc="TooGreat"
    . subst hcc
      obtain⟨d,a,b,rfl,rfl,hd,hno'⟩:=hdx.get;rw[hg]at hC;cases hC;refine⟨C0,D0,fI0,d,a,b,Kc0,rfl,rfl,⟨Kc0,hsub,hexm⟩,hd,hXc,hsub,hGr,cG,λH3 p sm hp=>?_⟩;obtain⟨hr3,x3⟩:=hr2.bc sm;have w2:yQ X.K X.d (RD X.K X.d) ρ H (.e (.f [.c a,.c b]) s') Q:=by have:qE ("TooGreat",[.c a,.c b],s')=.e (.f [.c a,.c b]) s':=lr rfl;rw[this]at wt;exact wt
      exact w2 ρ2 (.c p) _ ((x2.trans hr2 x3).trans hr3 (Ext.new hr3 hp _)) (hr3.more hp _) (.m (hr3.new hp) L2.zL (.a (.l a) (.a (.l b) .d)))
    . exfalso
      have:qE (cc,as,s')=.d:=if_neg hcc;rw[this]at wt;exact wt
  . cases r with
    |error e=>exact Al hres
    |ok fl=>
     cases fl with
     |ret u=>exact I.after hres
     |next=>exact Al hres
     |brk=>exact Al hres
     |cont=>exact Al hres
theorem lx(o:Ok T (m+1) sc N X)(h2:sc.names.lookup ("_law_great":Str)=some .globalImplicit)(h3:vU a=true)(h4:sg sc lsc=true)
 (h8:vi es=true) (h9:ckL lsc N es ys=true) (h10:zc ys=true) (h11:ys.isEmpty=false) (h12:("!":Str)∈N) env s (hcal:Cal lsc N env y f) (ho:zi (zD T m) T.b env es s=.e vs s) (htb:zj T.f s=true) (hmd:T.e md=true) (hgre:X.d "TooGreat"=some (.ref C0)) (cG:L2.v9 X.g C0 (.ref D0::L2.veM) fI0) (hGr:L2.GrK Kc0 C0 D0) (hsub:L2.vP Kc0 X.K) (hXc:L2.wZ Kc0 C0) (hexm:exmOne Kc0 (.ref C0) (.ref C0)=some true) (GF:L2.vv X.K X.d fS) :
 L2.PE X (.Call (.Name "_law_great" p1) [.Lambda a (.Call (.Name y p2) ys [] p3) lsc p4] [] p5) (tV X.K X.d env s (qD (zD T m f 0 vs s) (zS T m f 0 vs s))):=by
 obtain rfl:=pX h3;intro pins s0 σ H Q I ⟨ρ,hr,er,wt⟩;have sd:=o.l m rfl ⟨md,hmd⟩;obtain⟨stS,fdS,hmS,FnS,_⟩:=id GF.ex;simp only[sg,cf,decide_eq_true_eq,AM,AN,BF,Ax]at h4;obtain⟨⟨⟨⟨k1,k2⟩,k3⟩,k4⟩,⟨x0,hx0,hx0f⟩⟩:=h4;have fcell:∀x∈lsc.names,x.2=.free->sc.names.lookup x.1=some .cell\/sc.names.lookup x.1=some .free:=λx hx hf=>by
  rcases k4 x hx with z|z
  . rw[hf]at z;cases z
  . exact z.2
 obtain⟨g,hg,fa,c,ob,fd,q1,q2,q3,q4,q5,q6⟩:=o.k ⟨md,hmd⟩ ⟨x0.1,hx0f⟩ h12;obtain⟨j,hj⟩:=qF htb hg;obtain⟨P,hPo,tr⟩:=hr.m j _ hj;obtain⟨ps,hP,tok,among,fa',c',o',fd',w1,w2,w3,w4,w5⟩:=id tr;rw[q1]at w1;cases w1;rw[q2]at w2;cases w2;rw[q3]at w3;cases w3;rw[q4]at w4;cases w4;have hq:X.a.qual++("<lambda>":Str)=Zp g:=by rw[q6];rfl
 have cellOf':∀x,(x,AA)∈lsc.names->∃b,X.a.cells.lookup x=some b:=λx hx=>I.C.q x (o.a.d x (fcell _ hx rfl));have clk:∀x b,(xu X.a.cells lsc.names []).lookup x=some b->(x,AA)∈lsc.names/\X.a.cells.lookup x=some b:=λx b e=>by
  rcases tw (AE e) with z|⟨z1,z2⟩
  . cases z
  . obtain⟨b',hb'⟩:=cellOf' x z1
    rw[hb']at z2;exact⟨z1,by rw[hb',z2];rfl⟩
 have hdbg:(("_law_great":Str) == ("__debug__":Str))=false:=by decide
 refine BE (L2.xG I (o.a.b _ h2) hmS ?_ hdbg);refine C8 (h₀:=X.g) I.C.i.a FnS.b ?_;show wpAny _ _ (spliced ((false,eval (.Lambda L2.noArgs (.Call (.Name y p2) ys [] p3) lsc p4) X.a)::backTo p5 (Av [] X.a))) _ _ s0;refine EU (L2.mK (P:=P) (ps:=ps) (c:=c) I rfl (jh λx hx hf=>cellOf' x.1 (by rw[<-hf];exact hx)) q5 (w5 _ I.kIn) hP tok (sd.a.bm _ I.C.i.a) (λcv hcv=>?_) λlf c2 ctv H' h' tk I' lamh ⟨nl,_,nf,cdr⟩ obj cr=>Ff ⟨I'.kIn,?_⟩)
 . obtain⟨b,ob',vb,tb,z1,_,z3,z4,z5⟩:=among _ cv hcv
   exact⟨b,ob',vb,tb,z1,z3,z4,by rw[hq];exact z5⟩
 rw[hq]at lamh;obtain⟨hr',X0⟩:=hr.lam hj hPo tr hP lamh;have L:L2.uW X.h h' H' lf c2 (X.a.qual++("<lambda>":Str)) (.Call (.Name y p2) ys [] p3) lsc (xu X.a.cells lsc.names []) ((X.d "__name__").getD .none) ctv N σ:=by
  refine⟨obj,.inl nl,nf,cdr,λx y b z1 z2=>I.C.r x y b (clk x b z1).2 (clk y b z2).2,λx hx=>lookup_mem (wd (AE hx)),λx b e=>?_,λi x v z1 z2 z3=>?_,by rw[<-o.a.a];exact I'.R,k1,k2,k3,λx hx=>?_⟩
  . obtain⟨y1,y2⟩:=clk x b e
    exact⟨I'.G x b y2,I'.F x b y2⟩
  . have hm3:=AE z3
    have hcl:=fcell _ hm3 rfl;obtain⟨mm,hn,hl⟩:=I'.M;obtain⟨u,ru,lk⟩:=hl i x v (by rw[o.a.a];exact z1) z2 (o.a.f x (.inr hcl))
    rcases lk with⟨y,_⟩|⟨_,b,y2,y3⟩
    . rcases o.a.d x hcl with y'|y'
      . rw[y]at y';cases y'
      . rw[y]at y';cases y'
    . obtain⟨b',hb'⟩:=lookup_mem (wd (cells:=X.a.cells) (acc:=[]) hm3)
      have:=(clk x b' hb').2;rw[y2]at this;cases this;exact⟨u,b,ru,hb',y3⟩
  . rcases k4 x hx with z|z
    . rw[z];exact⟨nofun,nofun⟩
    . rw[z.1];exact⟨nofun,nofun⟩
 exact lu o o.a.c (λx hx=>(k4 x hx).imp id And.left) h8 h9 h10 h11 hcal ho sd hgre cG hGr hsub hXc hexm GF I' L hr' (er.mono X0) (wt.mono X0 hr')
theorem dg(o:Ok T n sc N X)(h2:sc.names.lookup ("_law_great":Str)=some .globalImplicit)(h3:vU a=true)(h4:sg sc lsc=true)(h6:lsc.names.lookup f=some .globalImplicit)
 (h7:(f == ("__debug__":Str))=false) (h8:vi es=true) (h9:ckL lsc N es ys=true) (h10:zc ys=true) (h11:ys.isEmpty=false) (h12:("!":Str)∈N) env s :
 L2.PE X (.Call (.Name "_law_great" p1) [.Lambda a (.Call (.Name f p2) ys [] p3) lsc p4] [] p5) (tV X.K X.d env s (evE (zD T n) T.b env (.h f 102 es) s)):=by
 show L2.PE X _ (tV X.K X.d env s ((zi (zD T n) T.b env es s).bind λvs s1=>zD T n f 102 vs s1));cases n with
 |zero=>
  refine zK λv s' e=>?_;obtain⟨_,_,_,z⟩:=zp e;cases z
 |succ m=>
  rw[u9 (Φ':=zD T m) es s h8];cases ho:zi (zD T m) T.b env es s with
  |g _ _ _=>exact zK (zH rfl)
  |d=>exact zK (zH rfl)
  |e vs s1=>
   obtain rfl:s=s1:=(tG es _ _ _ h8 ho).symm;rw[zQ];have hcall:∀ver,ver=102->zD T (m+1) f ver vs s=match uh vs with|some _=>.d|dS=>if oi T&&zj T.f s then qD (zD T m f 0 vs s) (zS T m f 0 vs s) else .d:=λver hv=>by
    simp only[zD,o.j f ver (by omega)]
    rw[decide_eq_false (show ¬ver=100 by omega),decide_eq_false (show ¬ver=101 by omega),decide_eq_false (show ¬ver=200 by omega),decide_eq_false (show ¬ver=300 by omega),decide_eq_false (show ¬ver=301 by omega),decide_eq_false (show ¬ver=302 by omega),decide_eq_true hv]
    simp only[Bool.true_and,CP,Bool.or_false,AX,if_false]
    all_goals (cases uh vs<;>rfl)
   rw[hcall 102 rfl];cases uh vs with
   |some g=>exact zK (zH rfl)
   |none=>
    by_cases hcond:(oi T&&zj T.f s)=true
    case neg=>simp only[if_neg hcond];exact zK (zH rfl)
    simp only[if_pos hcond];rw[cf]at hcond;obtain⟨hgr,htb⟩:=hcond;have hgr':=hgr;simp only[oi,cf,decide_eq_true_eq]at hgr';have sd:=o.l m rfl ⟨true,hgr'.1⟩;obtain⟨fS,GF⟩:=sd.a.gf hgr;intro pins s0 σ H Q I hw;obtain⟨C,D,fI,fd,Kc,m1,m2,m3,m4,m5,m6,m7⟩:=sd.a.d (by rw[hgr'.2];rfl) X.g I.C.i.a
    exact lx o h2 h3 h4 h8 h9 h10 h11 h12 env s (.inl ⟨rfl,h6,h7⟩) ho htb hgr'.1 m1 m2 m4 m5 m6 m7 GF pins s0 σ H Q I hw
end
end M
end
section
namespace M
open PySem
section
variable {T:Tbl}{n:Nat}
theorem WZ(ja:JE T n a):JE T n (.F a):=by intro sc N X e o h env s;replace h:=rM h;obtain⟨x,p,rfl,h⟩:=h;exact Wl (ja _ _ _ _ o h env s)
theorem WX(ja:JE T n a)(jb:JE T n b):JE T n (.p op a b):=by intro sc N X e o h env s;replace h:=oa h;obtain⟨l,o1,r,p,rfl,h⟩:=h;simp only[cf,decide_eq_true_eq]at h;obtain⟨⟨⟨⟨k1,rfl⟩,h1⟩,h2⟩,h3⟩:=h;exact Xv (ja _ _ _ _ o h1 env s) (λs1=>jb _ _ _ _ o h2 env s1) λta tb pa pb=>L2.iG (uP o.c op k1) pa pb (wJ h3)
theorem dP(ja:JE T n a)(jb:JE T n b)(jc:JE T n c):JE T n (.r op op' a b c):=by intro sc N X e o h env s;replace h:=jr h;obtain⟨l,o1,o2,r,r2,p,rfl,h⟩:=h;simp only[cf,decide_eq_true_eq]at h;obtain⟨⟨⟨⟨⟨⟨k1,rfl⟩,k2,rfl⟩,h3⟩,h4⟩,h5⟩,h6⟩:=h;exact de k1 k2 o.c (ja _ _ _ _ o h3 env s) (λs1=>jb _ _ _ _ o h4 env s1) (λs1=>jc _ _ _ _ o h5 env s1) h6
theorem WV(ja:JE T n a)(jl:JL T n es):JE T n (.w a es):=by
 intro sc N X e o h env s;replace h:=oZ h;obtain⟨x,xs,pos,rfl,h⟩:=h;simp only[cf]at h;obtain⟨h1,h2⟩:=h;cases es with
 |b=>
  cases AV.mp h2;exact L2.ka (ja _ _ _ _ o h1 env s)
 |a b es'=>
  cases xs with
  |nil=>cases h2
  |cons y ys=>exact dZ (ja _ _ _ _ o h1 env s) λs1=>(jl _ _ _ _ o h2).2.1 y ys pos rfl env s1
theorem lV(hv:ver<100)(h:T.d f ver=none)vs s:zD T n f ver vs s=.d:=by
 cases n with
 |zero=>rfl
 |succ n=>
  have h1:decide (ver=100)=false:=decide_eq_false (by omega)
  have h2:decide (ver=101)=false:=decide_eq_false (by omega)
  have h3:decide (ver=200)=false:=decide_eq_false (by omega)
  have h4:decide (ver=300)=false:=decide_eq_false (by omega)
  have h5:decide (ver=301)=false:=decide_eq_false (by omega)
  have h6:decide (ver=102)=false:=decide_eq_false (by omega)
  have h7:decide (ver=302)=false:=decide_eq_false (by omega)
  simp only[zD,h,h1,h2,h3,h4,h5,h6,h7,CP,Bool.or_self,AX,if_false];cases uh vs<;>rfl
theorem ZY(jl:JL T n es):JE T n (.h f ver es):=by
 intro sc N X e o h env s;replace h:(if ver<100 then ckA sc f (λxs=>ckL sc N es xs) e else if ver<200 then ckB sc N f ver es (λl ys=>ckL l N es ys) e else ckV sc N ver es (λl ys=>ckL l N es ys) e)=true:=h
 split at h
 . rename_i hver
   replace h:=xC h;obtain⟨x,p,xs,pos,rfl,h⟩:=h;simp only[cf,decide_eq_true_eq,wO,AM]at h;obtain⟨⟨⟨⟨rfl,h2⟩,h3⟩,h4⟩,h5⟩:=h;show L2.PE X _ (tV X.K X.d env s ((zi (zD T n) T.b env es s).bind λvs s1=>zD T n x ver vs s1));cases hf:T.d x ver with
   |none=>
    refine zK λv s' e=>?_;cases hv:zi (zD T n) T.b env es s with
    |e vs s1=>rw[hv]at e;simp only[zQ,lV hver hf]at e;cases e
    |g _ _ _=>rw[hv]at e;cases e
    |d=>rw[hv]at e;cases e
   |some F=>
    have C:=o.p x ver F hf;cases xs with
    |nil=>
     cases es with
     |b=>exact da C o.c (o.a.b x h2) h3
     |a _ _=>cases h4
    |cons y ys=>exact Ze C o.c (o.a.b x h2) h3 h5 (by simp) ((jl _ _ _ _ o h4).1 h5 env s)
 . rename_i hver
   split at h
   . rename_i hver2
     replace h:=ZI h;obtain⟨x,a,y,ys,lsc,p1,p2,p3,p4,p5,rfl,h⟩:=h;simp only[cf,decide_eq_true_eq,wO,AM]at h;obtain⟨⟨⟨⟨⟨⟨⟨⟨⟨⟨⟨⟨rfl,h2⟩,h3⟩,h4⟩,rfl⟩,h6⟩,h7⟩,h8⟩,h9⟩,h10⟩,h11⟩,h12⟩,hg⟩:=h;by_cases hv102:ver=102
     . subst hv102
       exact dg o h2 h3 h4 h6 h7 h8 h9 h10 h11 h12 env s
     rw[sdX,if_neg hv102]at h2 ⊢;exact Zh o hver hver2 hv102 h2 h3 h4 h6 h7 h8 h9 h10 h11 h12 env s
   . exact absurd (zR (zR h).1).1 Ad
theorem fj(f:Bf):f.nm∈wC:=by cases f<;>decide
theorem WW(jl:JL T n es):JE T n (.k f m es):=by intro sc N X e o h env s;replace h:=xC h;obtain⟨x,p,xs,pos,rfl,h⟩:=h;replace h:=yV h;obtain⟨y,ys,rfl,h⟩:=h;simp only[cf,decide_eq_true_eq,wO]at h;obtain⟨⟨⟨⟨k1,rfl⟩,h2⟩,h3⟩,h4⟩:=h;exact Wj k1 o.d o.c (o.a.b _ h2) (o.g _ (fj f)) h4 ((jl _ _ _ _ o h3).1 h4 env s)
theorem Za(ja:JE T n a)(jl:JL T n es):JE T n (.J f m a es):=by intro sc N X e o h env s;replace h:=ZG h;obtain⟨ob,x,ap,y,cp,rfl,h⟩:=h;simp only[cf,decide_eq_true_eq]at h;obtain⟨⟨⟨⟨⟨⟨rfl,h1⟩,h2⟩,h3⟩,h4⟩,h5⟩,hm⟩:=h;obtain⟨b,rfl,jb⟩:=(jl _ _ _ _ o h2).2.2.2 y rfl h3;exact dj hm h4 h3 h5 (ja _ _ _ _ o h1 env s) λs1=>jb env s1
theorem Uw(ja:JE T n a)(j1:JO T n lo)(j2:JO T n hi)(j3:JO T n st):JE T n (.L m a lo hi st):=by
 intro sc N X e o h env s;replace h:=ZH h;obtain⟨l1,x1,y1,z1,p1,p2,rfl,h⟩:=h;simp only[cf]at h;obtain⟨⟨⟨h1,h2⟩,h3⟩,h4⟩:=h;obtain⟨p3,q3⟩:=j3 _ _ _ _ o h4;refine U1 (ja _ _ _ _ o h1 env s) (λs1=>(j1 _ _ _ _ o h2).1 env s1) (λs1=>(j2 _ _ _ _ o h3).1 env s1) (λs1=>p3 env s1) ?_;rcases q3 with⟨e1,e2⟩|⟨e',e1,e2⟩
 . exact .inl ⟨e1,λs1=>e2 env s1⟩
 . exact .inr ⟨e',e1,λs1 s2=>e2 env s1 s2⟩
theorem ZZ(je:JE T n elt)(ji:JI T n it)(jc:JCs T n ifs):JE T n (.q m N' fr elt t it ifs):=by
 intro sc N X e o h env s;replace h:=rL h;obtain⟨x,tg,iter,fs,csc,cpos,rfl,h⟩:=h;simp only[cf,decide_eq_true_eq]at h;obtain⟨⟨⟨⟨⟨⟨h1,h2⟩,h3⟩,h4⟩,h5⟩,h6⟩,h7⟩:=h;have S:=eI o.a h1;have oc:=o.comp S h2 h1;obtain⟨g,pg,tg'⟩:∃g,(∀C s0 H0 ex,L2.PG (X.comp N' csc C s0 H0 ex) tg g)/\qo X.K X.d t g:=by
  cases t with
  |a i=>
   cases tg with
   |Name y p=>
    simp only[ckT,cf,Ax,decide_eq_true_eq]at h3;exact⟨_,λC s0 H0 ex=>mZ (oc C s0 H0 ex).a h3.1 h3.2,nU⟩
   |_=>cases h3
  |b is=>
   cases tg with
   |Tuple es k p=>
    simp only[ckT,cf,decide_eq_true_eq]at h3;refine⟨_,λC s0 H0 ex=>?_,tL (is:=is)⟩;obtain⟨a,b,c⟩:=wA (oc C s0 H0 ex).a h3.1;exact L2.qZ (X:=X.comp N' csc C s0 H0 ex) o.d a b c
   |_=>cases h3
 have rule:L2.PE X (.ListComp x [⟨tg,iter,fs,0⟩] csc cpos) (L2.sr fr (uI X.K X.d (zD T n) T.b it) g (uTs X.K X.d (zD T n) T.b ifs) λacc=>L2.pk acc (uE X.K X.d (zD T n) T.b elt)):=
  L2.rR o.d S (Vg λenv s=>ji _ _ _ _ _ o h4 env s) pg (λC s0 H0 ex=>(jc _ _ _ _ (oc C s0 H0 ex) h5).2.2) (λC s0 H0 ex=>YK (X:=X.comp N' csc C s0 H0 ex) λenv s=>je _ _ _ _ (oc C s0 H0 ex) h6 env s) (yu h7)
 refine zZ rule λσ H Q hq=>pM (env:=env) (s:=s) (chk:=false) (m:=m) (body:=tM (zD T n) T.b elt ifs) tg' rA (λacc ρ0 H0 hn=>lH hn) ?_ λ_ r s1 p s2 hl=>?_
 . simp only[AX,false_implies,if_true];exact hq
 . have:=sV hl
   simpa using this
theorem Wc:JL T n .b:=by intro sc N X es o h;cases AV.mp h;exact⟨λ_ env s=>j6,⟨λe es' pos z=>(nomatch z),⟨λe es' pos z=>(nomatch z),λy z=>(nomatch z)⟩⟩⟩
theorem Zb(ja:JE T n a)(jl:JL T n as):JL T n (.a a as):=by
 intro sc N X es o h;replace h:=yV h;obtain⟨e,es,rfl,h⟩:=h;simp only[cf]at h;obtain⟨h1,h2⟩:=h;obtain⟨l1,l2,l3,l4⟩:=jl _ _ _ _ o h2;refine⟨λhp env s=>?_,λe' es' pos z env s=>?_,λe' es' pos z env s=>?_,λy z hp=>?_⟩
 . rw[zc,cf]at hp
   exact mH hp.1 (ja _ _ _ _ o h1 env s) λs1=>l1 hp.2 env s1
 . cases as with
   |b=>
    cases AV.mp h2;exact L2.ka (ja _ _ _ _ o h1 env s)
   |a b as'=>
    cases es with
    |nil=>cases h2
    |cons y ys=>exact dZ (ja _ _ _ _ o h1 env s) λs1=>l2 y ys pos rfl env s1
 . cases as with
   |b=>
    cases AV.mp h2;exact L2.ka (ja _ _ _ _ o h1 env s)
   |a b as'=>
    cases es with
    |nil=>cases h2
    |cons y ys=>exact U0 (ja _ _ _ _ o h1 env s) λs1=>l3 y ys pos rfl env s1
 . cases z
   cases as with
   |b=>exact⟨a,rfl,λenv s=>ja _ _ _ _ o h1 env s⟩
   |a _ _=>cases h2
theorem Ux:JO T n .b:=by intro sc N X e o h;cases BN.mp h;exact⟨λenv s=>U3,.inl ⟨rfl,λenv s1=>rfl⟩⟩
theorem Wd(ja:JE T n a):JO T n (.a a):=by
 intro sc N X e o h;replace h:=qS h;obtain⟨e1,rfl,h⟩:=h;refine⟨λenv s=>Wn (ja _ _ _ _ o h env s),.inr ⟨_,rfl,λenv s1 s2 z=>?_⟩⟩;have z':((evE (zD T n) T.b env a s1).bind λv s1=>match v with|.c i=>.e (some i) s1|_=>.d)=.e none s2:=z
 cases hv:evE (zD T n) T.b env a s1 with
 |e v s3=>rw[hv]at z';cases v<;>cases z'
 |g _ _ _=>rw[hv]at z';cases z'
 |d=>rw[hv]at z';cases z'
theorem WU(jc:JC T n c):JC T n (.b c):=by intro sc N X e o h env s;replace h:=rM h;obtain⟨x1,p1,rfl,h⟩:=h;exact Ws (jc _ _ _ _ o h env s)
theorem WT(jc:JC T n c)(jcs:JCs T n cs):JC T n (.d c cs):=by intro sc N X e o h env s;replace h:=oZ h;obtain⟨x1,xs1,p1,rfl,h⟩:=h;simp only[cf]at h;exact(dw (jc _ _ _ _ o h.1 env s) λs1=>(jcs _ _ _ _ o h.2).1 _ env s1).pt
theorem Uv(jc:JC T n c)(jcs:JCs T n cs):JC T n (.f c cs):=by intro sc N X e o h env s;replace h:=oZ h;obtain⟨x1,xs1,p1,rfl,h⟩:=h;simp only[cf]at h;exact(XG (jc _ _ _ _ o h.1 env s) λs1=>(jcs _ _ _ _ o h.2).2.1 _ env s1).pt
theorem ZX:JCs T n .b:=by intro sc N X es o h;cases AV.mp h;exact⟨λpos env s=>kB,λpos env s=>gD,.b⟩
theorem dM(jc:JC T n c)(jcs:JCs T n cs):JCs T n (.a c cs):=by intro sc N X es o h;replace h:=yV h;obtain⟨e1,es1,rfl,h⟩:=h;simp only[cf]at h;obtain⟨a,b,d⟩:=jcs _ _ _ _ o h.2;exact⟨λpos env s=>dw (jc _ _ _ _ o h.1 env s) λs1=>a pos env s1,λpos env s=>XG (jc _ _ _ _ o h.1 env s) λs1=>b pos env s1,.a (Tz λenv s=>jc _ _ _ _ o h.1 env s) d⟩
theorem Wb(ja:JE T n a):JI T n (.g a):=λsc N X e tg o h env s=>Wm (ja _ _ _ _ o h env s)
theorem hU(ja:JE T n a):JI T n (.d a):=by intro sc N X e tg o h env s;replace h:=xC h;obtain⟨x1,p1,xs1,p2,rfl,h⟩:=h;replace h:=yt h;obtain⟨y1,rfl,h⟩:=h;simp only[cf,decide_eq_true_eq,wO]at h;obtain⟨⟨⟨rfl,h1⟩,h2⟩,h3⟩:=h;exact gA h3 (o.a.b _ h1) (o.g _ (by decide)) (ja _ _ _ _ o h2 env s)
theorem hX(ja:JE T n a)(jb:JE T n b):JI T n (.f a b):=by intro sc N X e tg o h env s;replace h:=xC h;obtain⟨x1,p1,xs1,p2,rfl,h⟩:=h;replace h:=d9 h;obtain⟨y1,y2,rfl,h⟩:=h;simp only[cf,decide_eq_true_eq,wO]at h;obtain⟨⟨⟨⟨⟨rfl,h1⟩,h2⟩,h3⟩,h4⟩,h5⟩:=h;exact gB h4 h5 (o.a.b _ h1) (o.g _ (by decide)) (ja _ _ _ _ o h2 env s) λs1=>jb _ _ _ _ o h3 env s1
end
section
variable (T:Tbl)(n:Nat)
mutual
theorem jE:∀a:Ex,JE T n a
 |.g _=>dh
 |.e _=>dk
 |.E _=>XF
 |.K _ _=>U2
 |.j _ _ a b=>dO (jE a) (jE b)
 |.A a=>dQ (jE a)
 |.F a=>WZ (jE a)
 |.p _ a b=>WX (jE a) (jE b)
 |.r _ _ a b c=>dP (jE a) (jE b) (jE c)
 |.w a es=>WV (jE a) (jL es)
 |.H _ _=>λsc N X e o h=>by cases h
 |.G _ _ _=>λsc N X e o h=>by cases h
 |.y es=>Wa (jL es)
 |.s _ es=>WY (jL es)
 |.B=>Zf
 |.C _=>Zg
 |.I _ _=>λsc N X e o h=>by cases h
 |.h _ _ es=>ZY (jL es)
 |.k _ _ es=>WW (jL es)
 |.D _ _=>λsc N X e o h=>by cases h
 |.J _ _ a es=>Za (jE a) (jL es)
 |.u a b=>XE (jE a) (jE b)
 |.L _ a lo hi st=>Uw (jE a) (jO lo) (jO hi) (jO st)
 |.q _ _ _ elt _ it ifs=>ZZ (jE elt) (jI it) (jCs ifs)
 |.z _ _ _ _ _ _ _ _ _ _=>λsc N X e o h=>by cases h
 |.l _ _ _ _=>λsc N X e o h=>by cases h
theorem jL:∀a:Exs,JL T n a
 |.b=>Wc
 |.a a as=>Zb (jE a) (jL as)
theorem jO:∀a:OEx,JO T n a
 |.b=>Ux
 |.a a=>Wd (jE a)
theorem jC:∀a:Cn,JC T n a
 |.a (.p _ a b)=>Wi (jE a) (jE b)
 |.a (.r _ _ a b c)=>dY (jE a) (jE b) (jE c)
 |.a (.g v)=>z0 (jE (.g v)) rfl
 |.a (.e v)=>z0 (jE (.e v)) rfl
 |.a (.E v)=>z0 (jE (.E v)) rfl
 |.a (.K v w)=>z0 (jE (.K v w)) rfl
 |.a (.j m o a b)=>z0 (jE (.j m o a b)) rfl
 |.a (.A a)=>z0 (jE (.A a)) rfl
 |.a (.F a)=>z0 (jE (.F a)) rfl
 |.a (.w a b)=>z0 (jE (.w a b)) rfl
 |.a (.H a b)=>z0 (jE (.H a b)) rfl
 |.a (.G a b c)=>z0 (jE (.G a b c)) rfl
 |.a (.y a)=>z0 (jE (.y a)) rfl
 |.a (.s m a)=>z0 (jE (.s m a)) rfl
 |.a .B=>z0 (jE .B) rfl
 |.a (.C t)=>z0 (jE (.C t)) rfl
 |.a (.I a b)=>z0 (jE (.I a b)) rfl
 |.a (.h a b c)=>z0 (jE (.h a b c)) rfl
 |.a (.k a b c)=>z0 (jE (.k a b c)) rfl
 |.a (.D a b)=>z0 (jE (.D a b)) rfl
 |.a (.J a b c d)=>z0 (jE (.J a b c d)) rfl
 |.a (.u a b)=>z0 (jE (.u a b)) rfl
 |.a (.L a b c d e)=>z0 (jE (.L a b c d e)) rfl
 |.a (.q a b c d e f g)=>z0 (jE (.q a b c d e f g)) rfl
 |.a (.z a b c d e f g h i j)=>z0 (jE (.z a b c d e f g h i j)) rfl
 |.a (.l a b c d)=>z0 (jE (.l a b c d)) rfl
 |.b c=>WU (jC c)
 |.d c cs=>WT (jC c) (jCs cs)
 |.f c cs=>Uv (jC c) (jCs cs)
theorem jCs:∀a:Cns,JCs T n a
 |.b=>ZX
 |.a c cs=>dM (jC c) (jCs cs)
theorem jI:∀a:Itb,JI T n a
 |.g a=>Wb (jE a)
 |.d a=>hU (jE a)
 |.f a b=>hX (jE a) (jE b)
 |.i _=>λsc N X e tg o h=>by cases h
 |.h _ _ _=>λsc N X e tg o h=>by cases h
 |.j _ _=>λsc N X e tg o h=>by cases h
end
end
end M
end
section
namespace M
open PySem
section
variable (K:KF)(mg:Str->Option Value)
def rT(ρ:Own)(H:L2.Hp)(o:Out Fl)(D:L2.Ends):Prop:=
 match o with
 |.e (.a e) s'=>∀ρ' H' σ',Ext ρ H ρ' H'->HR K mg ρ' s' H'->ER K mg ρ' H' e σ'->D.a σ' H'
 |.e (.c e) s'=>∀ρ' H' σ',Ext ρ H ρ' H'->HR K mg ρ' s' H'->ER K mg ρ' H' e σ'->D.c σ' H'
 |.e (.d e) s'=>∀ρ' H' σ',Ext ρ H ρ' H'->HR K mg ρ' s' H'->ER K mg ρ' H' e σ'->D.d σ' H'
 |.e (.b v) s'=>∀ρ' H' x,Ext ρ H ρ' H'->HR K mg ρ' s' H'->RD K mg ρ' H' v x->D.b x H'
 |_=>False
def tSt(env:Env)(s:Sto)(o:Out Fl):L2.TS:=λD σ H=>∃ρ,HR K mg ρ s H/\ER K mg ρ H env σ/\rT K mg ρ H o D
end
section
variable {K:KF}{mg:Str->Option Value}{ρ ρ':Own}{H H':L2.Hp}
theorem rT.mono(w:rT K mg ρ H o D)(x:Ext ρ H ρ' H')(h:HR K mg ρ' s1 H'):rT K mg ρ' H' o D:=by
 cases o with
 |e fl s'=>
  cases fl with
  |a e=>exact λρ2 H2 σ2 x2 h2 r2=>w ρ2 H2 σ2 (x.trans h x2) h2 r2
  |c e=>exact λρ2 H2 σ2 x2 h2 r2=>w ρ2 H2 σ2 (x.trans h x2) h2 r2
  |d e=>exact λρ2 H2 σ2 x2 h2 r2=>w ρ2 H2 σ2 (x.trans h x2) h2 r2
  |b v=>exact λρ2 H2 y x2 h2 r2=>w ρ2 H2 y (x.trans h x2) h2 r2
 |g _ _ _=>exact w
 |d=>exact w
end
noncomputable def v5:Expr->Bool
 |.ListComp ..|.SetComp ..|.DictComp ..=>false
 |_=>true
theorem tH(h:v5 e=true):Ei e t l env=pure false:=by cases e<;>first|rfl|cases h
theorem sU:D7 [.Tuple ts k p] e l env=pure false:=by cases e<;>rfl
theorem fE:D7 [.Subscript o i p] e l env=pure false:=by cases e<;>rfl
theorem lA:BX [.Subscript o i p] e env=pure none:=by cases e<;>rfl
noncomputable def Xd(sc:Scope)(ts vs:List Expr):Bool:=
 match ts with
 |[.Name x px,.Name y py]=>decide (sc.names.lookup x=some .local)&&decide (sc.names.lookup y=some .local)&&(px.line == py.line)&&decide (x≠y)&&!(vs.all (Fb 8))&&!(vs.all (EN 8))
 |[.Name x px,.Name y py,.Name z pz]=>decide (sc.names.lookup x=some .local)&&decide (sc.names.lookup y=some .local)&&decide (sc.names.lookup z=some .local)&&(px.line == py.line)&&(px.line == pz.line)&&decide (x≠y)&&decide (x≠z)&&decide (y≠z)&&!(vs.all (Fb 8))&&!(vs.all (EN 8))
 |_=>false
noncomputable def Xm(sc:Scope)(ts:List Expr):Bool:=ts.any (λ|.Name x _=>decide (sc.names.lookup x≠some .local)|_=>false)||decide (3<ts.length)
theorem qQ{vs:List Expr}(h:zc vs=true):(vs.any λ|.Starred ..=>true|_=>false)=false:=by
 induction vs with
 |nil=>rfl
 |cons v vs ih=>
  rw[zc,cf]at h;rw[List.any_cons,ih h.2];cases v<;>first|rfl|(have z:=h.1;cases z)
theorem lB(hb:env.blockKind=.function)(hx:env.kindOf x=some .local)(hy:env.kindOf y=some .local)(hl:(px.line == py.line)=true)(hne:x≠y)(hp:zc [a,b]=true)
 (hf:[a,b].all (Fb 8)=false) (hc:[a,b].all (EN 8)=false):BX [.Tuple [.Name x px,.Name y py] kt pt] (.Tuple [a,b] k2 pt2) env=pure (some [x,y]):=by
 have hs:=qQ hp;have hl':(py.line == px.line)=true:=by rw[beq_iff_eq]at hl ⊢;exact hl.symm
 unfold BX;have e1:([x,y].eraseDups.length != [x,y].length)=false:=by
  have:(y == x)=false:=by simpa using A5 hne
  simp[List.eraseDups_cons,this]
 simp only[AL,BM,hb,hf,hs,hc,hx,hy,hl',List.head?_cons,DB,FX,A6,List.filterMap_nil,beq_self_eq_true,Fc,if_true];have hpos:(Ek x px).pos.line=px.line:=rfl;refine(if_neg (by decide)).trans ((if_neg (λz=>Ad (hs.symm.trans z))).trans ?_)
 simp only[hpos,beq_self_eq_true,hl',Fc,if_true,e1,AL,BM,bne_self_eq_false,Bool.or_self,AX,if_false];exact if_neg (λz=>Ad (e1.symm.trans (by rw[GH]at z;exact z)))
theorem qz(hb:env.blockKind=.function)(hx:env.kindOf x=some .local)(hy:env.kindOf y=some .local)(hz:env.kindOf z=some .local)(hl:(px.line == py.line)=true)(hl2:(px.line == pz.line)=true)
 (hne:x≠y) (hne2:x≠z) (hne3:y≠z) (hp:zc [a,b,c]=true) (hf:[a,b,c].all (Fb 8)=false) (hc:[a,b,c].all (EN 8)=false):BX [.Tuple [.Name x px,.Name y py,.Name z pz] kt pt] (.Tuple [a,b,c] k2 pt2) env=pure (some [x,y,z]):=by
 have hs:=qQ hp;have hl':(py.line == px.line)=true:=by rw[beq_iff_eq]at hl ⊢;exact hl.symm
 have hl2':(pz.line == px.line)=true:=by rw[beq_iff_eq]at hl2 ⊢;exact hl2.symm
 unfold BX;have e1:([x,y,z].eraseDups.length != [x,y,z].length)=false:=by
  have h1:(y == x)=false:=by simpa using A5 hne
  have h2:(z == x)=false:=by simpa using A5 hne2
  have h3:(z == y)=false:=by simpa using A5 hne3
  simp[List.eraseDups_cons,h1,h2,h3]
 simp only[AL,BM,hb,hf,hs,hc,hx,hy,hz,hl',hl2',List.head?_cons,DB,FX,A6,List.filterMap_nil,beq_self_eq_true,Fc,if_true];have hpos:(Ek x px).pos.line=px.line:=rfl;refine(if_neg (by decide)).trans ((if_neg (λz=>Ad (hs.symm.trans z))).trans ?_)
 simp only[hpos,beq_self_eq_true,hl',hl2',Fc,if_true,e1,AL,BM,bne_self_eq_false,Bool.or_self,AX,if_false];exact if_neg (λz=>Ad (e1.symm.trans (by rw[GH]at z;exact z)))
theorem ug{α β:Type}{f:α->Option β}:∀{l:List α},(∃a∈l,f a=none)->(l.filterMap f).length<l.length
 |[],⟨a,h,_⟩=>by cases h
 |b::l,⟨a,h,e⟩=>by
  rw[A6];have hle:=FQ f l;rcases An.mp h with z|z
  . subst z;rw[e];simp only[AL];omega
  . have:=ug ⟨a,z,e⟩
    cases f b with
    |none=>simp only[AL];omega
    |some _=>simp only[AL];omega
theorem fG(h:(∃x p,Ek x p∈ts/\env.kindOf x≠some .local)\/3<ts.length):BX [.Tuple ts kt pt] (.Tuple vs k2 pt2) env=pure none:=by
 unfold BX;simp only[];split
 . rfl
 . rename_i h1
   split
   . rfl
   . rw[if_pos]
     rcases h with⟨x,p,hm,hk⟩|h
     . rw[Ax]
       left;rw[bne_iff_ne];refine AG (ug ⟨_,hm,?_⟩);have:(env.kindOf x == some .local)=false:=by simpa using hk
       simp only[this,CP,AX,if_false]
     . exfalso
       apply h1;have:(ts.length == 2||ts.length == 3)=false:=by rw[EC];constructor<;>(rw[beq_eq_false_iff_ne];omega)
       rw[this];rfl
theorem k8(h:plain i=true)v:assign (.Subscript o i p) env v=(do
 let ov <-holding [v] (eval o env);let iv <-holding [v,ov] (eval i env)
 standAt p
 holding [v,ov,iv] (setItem ov iv v)
 release [v,ov,iv] []):=by
 cases i<;>first|rfl|cases h
section
variable {X:L2.Cx}{env:Env}{s:Sto}
theorem yz{t:L2.TS}(h:∀D σ H,¬t D σ H):L2.PS X st t:=λpins s σ H D I q=>(h D σ H q).elim
theorem V2(h:∀v s',o≠.e v s'):¬tSt X.K X.d env s o D σ H:=by
 rintro ⟨ρ,_,_,w⟩;cases o with
 |e v s'=>exact h v s' rfl
 |g _ _ _=>exact w
 |d=>exact w
theorem zO(h:∀v s',o≠.e v s'):L2.PS X st (tSt X.K X.d env s o):=yz λ_ _ _=>V2 h
theorem Zj(hn:v5 e=true)(h:L2.PE X e (tV X.K X.d env s o)):L2.PS X (.Expr e pos) (tSt X.K X.d env s (o.bind λ_ s1=>.e (.a env) s1)):=by
 cases o with
 |e v s1=>exact yH (L2.uw h (tH hn)) λD σ H ⟨ρ,hr,er,w⟩=>⟨ρ,hr,er,λρ1 x H1 x1 hr1 r1=>w ρ1 H1 σ x1 hr1 (er.mono x1)⟩
 |g _ _ _=>exact zO (zH rfl)
 |d=>exact zO (zH rfl)
theorem Wq(h:L2.PE X e (tV X.K X.d env s o)):L2.PS X (.Return (some e) pos) (tSt X.K X.d env s (o.bind λv s1=>.e (.b v) s1)):=by
 cases o with
 |e v s1=>exact yH (L2.wV h) λD σ H ⟨ρ,hr,er,w⟩=>⟨ρ,hr,er,λρ1 x H1 x1 hr1 r1=>w ρ1 H1 x x1 hr1 r1⟩
 |g _ _ _=>exact zO (zH rfl)
 |d=>exact zO (zH rfl)
theorem dm(rule:L2.PS X st (L2.tJ te (L2.wG i)))(h:∀σ H Q,tV X.K X.d env s o σ H Q->te σ H Q):L2.PS X st (tSt X.K X.d env s (o.bind λv s1=>.e (.a (env.set i (some v))) s1)):=by
 cases o with
 |e v s1=>exact yH rule λD σ H ⟨ρ,hr,er,w⟩=>h _ _ _ ⟨ρ,hr,er,λρ1 x H1 x1 hr1 r1=>w ρ1 H1 _ x1 hr1 ((er.mono x1).set i r1)⟩
 |g _ _ _=>exact zO (zH rfl)
 |d=>exact zO (zH rfl)
theorem Zi{t:Tgt}{g:L2.TG}{o:Out Val}{st:Stmt}{te:L2.TE}(TG:qo X.K X.d t g)(rule:L2.PS X st (L2.tJ te g))(h:∀σ H Q,tV X.K X.d env s o σ H Q->te σ H Q) :
 L2.PS X st (tSt X.K X.d env s (o.bind λv s1=>match yh t v env with|some env'=>.e (.a env') s1|dS=>.d)):=by
 cases o with
 |e v s1=>
  show L2.PS X st (tSt X.K X.d env s (match yh t v env with|some env'=>.e (.a env') s1|dS=>.d))
  cases hb:yh t v env with
  |none=>exact zO (zH rfl)
  |some env'=>exact yH rule λD σ H ⟨ρ,hr,er,w⟩=>h _ _ _ ⟨ρ,hr,er,λρ1 x H1 x1 hr1 r1=>TG ρ1 s1 H1 v x env env' σ _ hr1 r1 (er.mono x1) hb λσ' er'=>w ρ1 H1 σ' x1 hr1 er'⟩
 |g _ _ _=>exact zO (zH rfl)
 |d=>exact zO (zH rfl)
theorem dn{a i e:Expr}{o:Out Val}{f2 f3:Sto->Out Val}{p pos:Pos}(hi0:plain i=true)(h1:L2.PE X e (tV X.K X.d env s o))(h2:∀s1,L2.PE X a (tV X.K X.d env s1 (f2 s1)))(h3:∀s1,L2.PE X i (tV X.K X.d env s1 (f3 s1))) :
 L2.PS X (.Assign [.Subscript a i p] e pos) (tSt X.K X.d env s (o.bind λv s1=>(f2 s1).bind λx s2=>(f3 s2).bind λy s3=>match x,y with
  |.j r,.c k=>(match s3[r]? with
   |some (.c vs)=>(match L2.ixN vs.length k with|some j=>.e (.a env) (upd s3 r (vs.set j v))|dS=>.d)
   |_=>.d)
  |_,_=>.d)):=by
 cases o with
 |e v s1=>
  have h2':=h2 s1;simp only[zQ];cases hb:f2 s1 with
  |e x s2=>
   rw[hb]at h2';have h3':=h3 s2;simp only[zQ];cases hc:f3 s2 with
   |e y s3=>
    rw[hc]at h3';simp only[zQ];have rule:L2.PS X (.Assign [.Subscript a i p] e pos) (L2.tJ _ (L2.Ui _ _ L2.XZ)):=L2.bL h1 (L2.Vf h2' h3' L2.set_list (k8 hi0)) fE lA;cases x with
    |j r=>
     cases y with
     |c k=>
      simp only[];cases hs:s3[r]? with
      |none=>exact zO (zH rfl)
      |some cl=>
       cases cl with
       |e _=>exact zO (zH rfl)
       |f _=>exact zO (zH rfl)
       |d _=>exact zO (zH rfl)
       |c vs=>
        simp only[];cases hj:L2.ixN vs.length k with
        |none=>exact zO (zH rfl)
        |some j=>
         refine yH rule λD σ H ⟨ρ,hr,er,w⟩=>⟨ρ,hr,er,λρ1 xv H1 x1 hr1 r1=>⟨ρ1,hr1,er.mono x1,λρ2 xo H2 x2 hr2 r2=>⟨ρ2,hr2,(er.mono x1).mono x2,λρ3 xi H3 x3 hr3 r3=>?_⟩⟩⟩;cases r3;have r2':=r2.mono x3;cases r2' with
         |C e0 _=>
          obtain⟨b',xs,e1,e2,q⟩:=hr3.obj r _ hs;rw[e0]at e1;cases e1;have xx:=(x1.trans hr1 x2).trans hr2 x3;refine⟨_,xs,k,j,rfl,rfl,e2,by rw[<-q.length];exact hj,?_⟩
          exact w ρ3 _ σ (xx.trans hr3 (Ext.write hr3 e0 e2 _)) (hr3.write e0 e2 (RDs.set ((r1.mono x2).mono x3) j q)) ((er.mono xx).mono (Ext.write hr3 e0 e2 _))
     |_=>exact zO (zH rfl)
    |_=>exact zO (zH rfl)
   |g _ _ _=>exact zO (zH rfl)
   |d=>exact zO (zH rfl)
  |g _ _ _=>exact zO (zH rfl)
  |d=>exact zO (zH rfl)
 |g _ _ _=>exact zO (zH rfl)
 |d=>exact zO (zH rfl)
end
end M
end
section
namespace M
open PySem
section
variable {X:L2.Cx}{env:Env}{s:Sto}
theorem Zk(rule:L2.PS X st (L2.Sk i j ta))(h:∀σ H Q,tVs X.K X.d env s o σ H Q->ta σ H Q) :
 L2.PS X st (tSt X.K X.d env s (o.bind λvs s1=>if vs.length=[i,j].length then .e (.a (([i,j].zip vs).foldl (λe p=>e.set p.1 (some p.2)) env)) s1 else .d)):=by
 cases o with
 |e vs s1=>
  show L2.PS X st (tSt X.K X.d env s (if vs.length=[i,j].length then .e (.a (([i,j].zip vs).foldl (λe p=>e.set p.1 (some p.2)) env)) s1 else .d))
  match vs with
  |[v,w]=>
   refine yH rule λD σ H ⟨ρ,hr,er,wt⟩=>h _ _ _ ⟨ρ,hr,er,λρ1 xs H1 x1 hr1 r1=>?_⟩;obtain⟨x,y,rfl,rx,ry⟩:=bS r1;exact⟨x,y,rfl,wt ρ1 H1 _ x1 hr1 (((er.mono x1).set i rx).set j ry)⟩
  |[]=>exact zO (zH rfl)
  |[_]=>exact zO (zH rfl)
  |_::_::_::r=>exact zO (λ_ _ e=>by simp at e)
 |g _ _ _=>exact zO (zH rfl)
 |d=>exact zO (zH rfl)
theorem RY(r:RDs K mg ρ H [v,w,z] xs):∃x y t,xs=[x,y,t]/\RD K mg ρ H v x/\RD K mg ρ H w y/\RD K mg ρ H z t:=by
 cases r with
 |a r1 r2=>
  obtain⟨y,t,rfl,r3,r4⟩:=bS r2;exact⟨_,_,_,rfl,r1,r3,r4⟩
theorem Zl(rule:L2.PS X st (L2.Xi i j k ta))(h:∀σ H Q,tVs X.K X.d env s o σ H Q->ta σ H Q) :
 L2.PS X st (tSt X.K X.d env s (o.bind λvs s1=>if vs.length=[i,j,k].length then .e (.a (([i,j,k].zip vs).foldl (λe p=>e.set p.1 (some p.2)) env)) s1 else .d)):=by
 cases o with
 |e vs s1=>
  show L2.PS X st (tSt X.K X.d env s (if vs.length=[i,j,k].length then .e (.a (([i,j,k].zip vs).foldl (λe p=>e.set p.1 (some p.2)) env)) s1 else .d))
  match vs with
  |[v,w,z]=>
   refine yH rule λD σ H ⟨ρ,hr,er,wt⟩=>h _ _ _ ⟨ρ,hr,er,λρ1 xs H1 x1 hr1 r1=>?_⟩;obtain⟨x,y,t,rfl,rx,ry,rt⟩:=RY r1;exact⟨x,y,t,rfl,wt ρ1 H1 _ x1 hr1 ((((er.mono x1).set i rx).set j ry).set k rt)⟩
  |[]=>exact zO (zH rfl)
  |[_]=>exact zO (zH rfl)
  |[_,_]=>exact zO (zH rfl)
  |_::_::_::_::r=>exact zO (λ_ _ e=>by simp at e)
 |g _ _ _=>exact zO (zH rfl)
 |d=>exact zO (zH rfl)
def uSs(K:KF)(mg:Str->Option Value)(Φ:Calls)(G:Str->Option Val)(b:Sms):L2.TS:=λD σ H=>∃env s,tSt K mg env s (zX Φ G env b s) D σ H
theorem U5{f2 f3:Sto->Out Fl}(hc:L2.PT X c (tT X.K X.d env s o))(ha:L2.PSs X a ta)(hb:L2.PSs X b tb)(ia:∀s1 D σ H,tSt X.K X.d env s1 (f2 s1) D σ H->ta D σ H)(ib:∀s1 D σ H,tSt X.K X.d env s1 (f3 s1) D σ H->tb D σ H) :
 L2.PS X (.If c a b pos) (tSt X.K X.d env s (o.bind λt s1=>if t then f2 s1 else f3 s1)):=by
 cases o with
 |e v s1=>
  refine yH (L2.mh hc ha hb) λD σ H ⟨ρ,hr,er,wt⟩=>⟨ρ,hr,er,λρ1 x H1 x1 hr1 r1=>?_⟩;have wt':=wt.mono x1 hr1;cases r1;cases v with
  |true=>exact L2.qt (ia s1 D σ H1 ⟨ρ1,hr1,er.mono x1,wt'⟩)
  |false=>exact L2.rE (ib s1 D σ H1 ⟨ρ1,hr1,er.mono x1,wt'⟩)
 |g _ _ _=>exact zO (zH rfl)
 |d=>exact zO (zH rfl)
theorem eh{body:Env->Sto->Out Fl}{tb:L2.TS}(W:Walk K mg ρ H r J)(TG:qo K mg t g)(hb:∀env s D σ H,tSt K mg env s (body env s) D σ H->tb D σ H)
 (hr:HR K mg ρ s H) (er:ER K mg ρ H env σ) (w:rT K mg ρ H (vL r t body r.a env s) D):L2.mq J g tb D σ H:=by
 refine n9 (n:=r.a.length) (λi σ2 H2=>∃ρ2 s2 env2,HR K mg ρ2 s2 H2/\ER K mg ρ2 H2 env2 σ2/\Ext ρ H ρ2 H2/\vL r t body (r.a.drop i) env2 s2=vL r t body r.a env s) ⟨ρ,s,env,hr,er,Ext.refl,by rw[EK]⟩ ?_ ?_
 . rintro σ2 H2 ⟨ρ2,s2,env2,hr2,er2,x2,h2⟩
   rw[List.drop_length,vL]at h2;split at h2
   . rename_i ho
     rw[<-h2]at w;exact⟨W.a ρ2 H2 s2 _ x2.mv hr2 ho rfl,w ρ2 H2 σ2 x2 hr2 er2⟩
   . rw[<-h2]at w;exact w.elim
 . rintro i σ2 H2 hi ⟨ρ2,s2,env2,hr2,er2,x2,h2⟩
   rw[FA hi,vL]at h2;split at h2
   . rename_i ho
     obtain⟨hgo,hy⟩:=W.c ρ2 H2 s2 i (r.a[i]) x2.mv hr2 ho (Aa hi);refine⟨hgo,λx H3 y=>?_⟩;obtain⟨hH,rx⟩:=hy x H3 y;split at h2
     . rw[<-h2]at w;exact w.elim
     . rename_i env' he
       have C3:HR K mg ρ2 s2 H3/\Ext ρ2 H2 ρ2 H3:=by
        rcases hH with e|⟨q,o,hq,e⟩
        . subst e;exact⟨hr2,Ext.refl⟩
        . subst e;exact⟨hr2.more hq o,Ext.new hr2 hq o⟩
       have x3:=x2.trans hr2 C3.2;refine TG ρ2 s2 H3 _ x env2 env' σ2 _ C3.1 rx (er2.mono C3.2) he λσ4 er4=>hb env' s2 _ σ4 H3 ⟨ρ2,C3.1,er4,?_⟩;cases hc:body env' s2 with
       |e fl s5=>
        rw[hc]at h2;simp only[zQ]at h2;cases fl with
        |a e=>exact λρ5 H5 σ5 x5 hr5 er5=>⟨ρ5,s5,e,hr5,er5,x3.trans C3.1 x5,h2⟩
        |d e=>exact λρ5 H5 σ5 x5 hr5 er5=>⟨ρ5,s5,e,hr5,er5,x3.trans C3.1 x5,h2⟩
        |c e=>
         simp only[]at h2;rw[<-h2]at w;exact λρ5 H5 σ5 x5 hr5 er5=>w ρ5 H5 σ5 (x3.trans C3.1 x5) hr5 er5
        |b v=>
         simp only[]at h2;rw[<-h2]at w;exact λρ5 H5 y5 x5 hr5 r5=>w ρ5 H5 y5 (x3.trans C3.1 x5) hr5 r5
       |g _ _ _=>rw[hc]at h2;simp only[rY]at h2;rw[<-h2]at w;exact w.elim
       |d=>rw[hc]at h2;simp only[wu]at h2;rw[<-h2]at w;exact w.elim
   . rw[<-h2]at w;exact w.elim
theorem Wo(hx:X.i=λ_ _=>False)(hc:X.j=true)(hp:plain iter=true)(hi:∀env s,L2.PI X tg iter (tI (K:=X.K) (mg:=X.d) env s (xA Φ G env it s)))(hg:L2.PG X tg g)(TG:qo X.K X.d t g)
 (hb:L2.PSs X body (uSs X.K X.d Φ G b)):L2.PS X (.For tg iter body [] pos) (tSt X.K X.d env s ((xA Φ G env it s).bind λr s1=>vL r t (λe s'=>zX Φ G e b s') r.a env s1)):=by
 have hpass:ES (model X.f X.w) X.A X.a X.i:=by rw[hx];exact ES.never
 refine yH (L2.Vk hpass hc (Vg hi) hg hb (yu hp)) λD σ H ⟨ρ,hr,er,w⟩=>⟨env,s,ρ,hr,er,?_⟩;cases hv:xA Φ G env it s with
 |e r s1=>
  rw[hv]at w;exact λρ1 H1 J x1 hr1 W=>eh W TG (λenv s D σ H h=>⟨env,s,h⟩) hr1 (er.mono x1) (w.mono x1 hr1)
 |g _ _ _=>rw[hv]at w;exact w.elim
 |d=>rw[hv]at w;exact w.elim
theorem jP{c:Env->Sto->Out Bool}{body:Env->Sto->Out Fl}{tc:L2.TT}{tb:L2.TS}(hc:∀env s σ H Q,tT K mg env s (c env s) σ H Q->tc σ H Q)(hb:∀env s D σ H,tSt K mg env s (body env s) D σ H->tb D σ H)
 (hr:HR K mg ρ s H) (er:ER K mg ρ H env σ) (w:rT K mg ρ H (vY c body n env s) D):L2.aH tc tb D σ H:=by
 refine⟨λm σ2 H2=>∃ρ2 s2 env2,HR K mg ρ2 s2 H2/\ER K mg ρ2 H2 env2 σ2/\Ext ρ H ρ2 H2/\vY c body m env2 s2=vY c body n env s,⟨n,ρ,s,env,hr,er,Ext.refl,rfl⟩,?_⟩;rintro m σ2 H2 ⟨ρ2,s2,env2,hr2,er2,x2,h2⟩;cases m with
 |zero=>rw[vY]at h2;rw[<-h2]at w;exact w.elim
 |succ m=>
  rw[vY]at h2;refine hc env2 s2 σ2 H2 _ ⟨ρ2,hr2,er2,?_⟩;cases hv:c env2 s2 with
  |e t s3=>
   rw[hv]at h2;simp only[zQ]at h2;intro ρ3 t' H3 x3 hr3 e3;cases e3;have x3':=x2.trans hr2 x3;cases t with
   |true=>
    refine L2.qt ⟨_,λσ' H' p=>⟨m,CU m,p⟩,hb env2 s3 _ σ2 H3 ⟨ρ3,hr3,er2.mono x3,?_⟩⟩;simp only[if_true]at h2;cases hbd:body env2 s3 with
    |e fl s5=>
     rw[hbd]at h2;simp only[zQ]at h2;cases fl with
     |a e=>exact λρ5 H5 σ5 x5 hr5 er5=>⟨ρ5,s5,e,hr5,er5,x3'.trans hr3 x5,h2⟩
     |d e=>exact λρ5 H5 σ5 x5 hr5 er5=>⟨ρ5,s5,e,hr5,er5,x3'.trans hr3 x5,h2⟩
     |c e=>
      simp only[]at h2;rw[<-h2]at w;exact λρ5 H5 σ5 x5 hr5 er5=>w ρ5 H5 σ5 (x3'.trans hr3 x5) hr5 er5
     |b v=>
      simp only[]at h2;rw[<-h2]at w;exact λρ5 H5 y5 x5 hr5 r5=>w ρ5 H5 y5 (x3'.trans hr3 x5) hr5 r5
    |g _ _ _=>rw[hbd]at h2;simp only[rY]at h2;rw[<-h2]at w;exact w.elim
    |d=>rw[hbd]at h2;simp only[wu]at h2;rw[<-h2]at w;exact w.elim
   |false=>
    simp only[AX,if_false]at h2;rw[<-h2]at w;exact L2.rE (w ρ3 H3 σ2 x3' hr3 (er2.mono x3))
  |g _ _ _=>rw[hv]at h2;simp only[rY]at h2;rw[<-h2]at w;exact w.elim
  |d=>rw[hv]at h2;simp only[wu]at h2;rw[<-h2]at w;exact w.elim
theorem dq(hx:X.i=λ_ _=>False)(hc:∀env s,L2.PT X ce (tT X.K X.d env s (evT Φ G env c s)))(hb:L2.PSs X body (uSs X.K X.d Φ G b)) :
 L2.PS X (.While ce body [] pos) (tSt X.K X.d env s (vY (λe s'=>evT Φ G e c s') (λe s'=>zX Φ G e b s') jY env s)):=by
 have hpass:ES (model X.f X.w) X.A X.a X.i:=by rw[hx];exact ES.never
 exact yH (L2.bO hpass (Tz hc) hb) λD σ H ⟨ρ,hr,er,w⟩=>jP (λenv s σ H Q h=>⟨env,s,h⟩) (λenv s D σ H h=>⟨env,s,h⟩) hr er w
theorem Zm:L2.PSs X [] (tSt X.K X.d env s (.e (.a env) s)):=ux L2.nI λD σ H ⟨ρ,hr,er,w⟩=>w ρ H σ Ext.refl hr er
theorem dr{st:Stmt}{rest:List Stmt}{o:Out Fl}{f:Env->Sto->Out Fl}{tr:L2.TS}(h1:L2.PS X st (tSt X.K X.d env s o))(h2:L2.PSs X rest tr)(i2:∀env s D σ H,tSt X.K X.d env s (f env s) D σ H->tr D σ H) :
 L2.PSs X (st::rest) (tSt X.K X.d env s (o.bind λfl s1=>match fl with|.a e=>f e s1|fl=>.e fl s1)):=by
 refine ux (L2.yJ h1 h2) λD σ H ⟨ρ,hr,er,w⟩=>⟨ρ,hr,er,?_⟩;cases o with
 |e fl s1=>
  simp only[zQ]at w;cases fl with
  |a e=>exact λρ1 H1 σ1 x1 hr1 er1=>i2 e s1 D σ1 H1 ⟨ρ1,hr1,er1,w.mono x1 hr1⟩
  |c e=>exact w
  |d e=>exact w
  |b v=>exact w
 |g _ _ _=>exact w.elim
 |d=>exact w.elim
end
end M
end
section
namespace M
open PySem
def cS(c:Const)(k:Str->Bool):Bool:=el c.ctorIdx 5 λh=>Const.str.elim (motive:=λ_=>Bool) c h k
theorem Xz(h:cS c k=true):∃x,c=.str x/\k x=true:=by obtain⟨hc,h⟩:=zx h;obtain⟨x,rfl⟩:∃x,c=.str x:=Const.str.elim (motive:=λc=>∃x,c=Const.str x) c hc λx=>⟨x,rfl⟩;exact⟨x,rfl,h⟩
def eS(e:Expr):Bool:=ZD e λc _ _=>cS c λx=>decide (x.length<=1000)
theorem lh(h:eS e=true):∃x k p,e=.Constant (.str x) k p/\x.length<=1000:=by obtain⟨c,k,p,rfl,h1⟩:=rm h;obtain⟨x,rfl,h2⟩:=Xz h1;exact⟨x,k,p,rfl,of_decide_eq_true h2⟩
def eF(e:Expr)(k:Expr->Bool):Bool:=Uc e λu c s _=>decide (c=-1)&&s.isNone&&k u
theorem eV(h:eF e k=true):∃u p,e=.FormattedValue u (-1) none p/\k u=true:=by obtain⟨u,c,s,p,rfl,h1⟩:=eW h;obtain⟨h2,h3⟩:=zR h1;rw[of_decide_eq_true (zR h2).1,BN.mp (zR h2).2];exact⟨u,p,rfl,h3⟩
def eFs(e:Expr)(k:Expr->Expr->Bool):Bool:=eJn e λxs _=>lc xs λc1 xs=>lc xs λf1 xs=>lc xs λc2 xs=>lc xs λf2 xs=>l1 xs λc3=>(eS c1&&(eS c2&&eS c3))&&eF f1 λu=>eF f2 λv=>k u v
theorem ZE(h:eFs e k=true):∃u v c1 c2 c3 k1 k2 k3 p1 p2 p3 p4 p5 pos,e=.JoinedStr [.Constant (.str c1) k1 p1,.FormattedValue u (-1) none p2,.Constant (.str c2) k2 p3,.FormattedValue v (-1) none p4,.Constant (.str c3) k3 p5] pos/\c1.length<=1000/\c2.length<=1000/\c3.length<=1000/\k u v=true:=by obtain⟨xs,pos,rfl,h1⟩:=ZF h;obtain⟨a1,xs,rfl,h2⟩:=yV h1;obtain⟨a2,xs,rfl,h3⟩:=yV h2;obtain⟨a3,xs,rfl,h4⟩:=yV h3;obtain⟨a4,xs,rfl,h5⟩:=yV h4;obtain⟨a5,rfl,h6⟩:=yt h5;obtain⟨h7,h8⟩:=zR h6;obtain⟨c1,k1,p1,rfl,z1⟩:=lh (zR h7).1;obtain⟨c2,k2,p3,rfl,z2⟩:=lh (zR (zR h7).2).1;obtain⟨c3,k3,p5,rfl,z3⟩:=lh (zR (zR h7).2).2;obtain⟨u,p2,rfl,h9⟩:=eV h8;obtain⟨v,p4,rfl,h10⟩:=eV h9;exact⟨u,v,c1,c2,c3,k1,k2,k3,p1,p2,p3,p4,p5,pos,rfl,z1,z2,z3,h10⟩
def RB(sc:Scope)(N:List Str)(es:Exs)(a:Expr):Bool:=eFs a λu v=>ckL sc N es [u,v]
mutual
noncomputable def ckS(sc:Scope)(N:List Str):Sm->Stmt->Bool
 |.d e,st=>(SM st λx _=>ck sc N e x&&v5 x)
 |.g e,st=>(SQ st λq _=>o1 q λx=>ck sc N e x)
 |.s,_=>false
 |.f i e,st=>(YV st λts v _=>l1 ts λt=>eName t λx _=>decide (N[i]?=some x)&&(decide (sc.names.lookup x=some .local)||decide (sc.names.lookup x=some .cell))&&ck sc N e v)
 |.n _ _,_=>false
 |.q is es,st=>(YV st λt0 v _=>l1 t0 λt=>ZK t λts _ _=>ZK v λvs _ _=>yC sc N is ts&&ckL sc N es vs&&zc vs&&decide (is.length<=8)&&decide is.Nodup&&decide (ts.length=vs.length)&&(Xd sc ts vs||Xm sc ts))
 |.w _ _ _,_=>false
 |.u _ _ _,_=>false
 |.k o i e,st=>(YV st λts v _=>l1 ts λt=>ZJ t λa b _=>ck sc N o a&&ck sc N i b&&ck sc N e v&&plain b)
 |.h c a b,st=>(sIf st λt x y _=>ckC sc N c t&&oY sc N a x&&oY sc N b y)
 |.l t it b,st=>(SN st λtg iter body els _=>els.isEmpty&&(ckT sc N t tg&&ckI sc N it iter tg&&oY sc N b body&&plain iter))
 |.m c b,st=>(SR st λt body els _=>els.isEmpty&&(ckC sc N c t&&oY sc N b body))
 |.r,_=>false
 |.v,_=>false
 |.p,_=>false
 |.j e,st=>(match e with
  |.h c v es=>if v=1 then (sRs st λq b _=>b.isNone&&o1 q λq=>eCN q λx xs=>decide (x=c)&&wO sc x&&!(x == ("__debug__":Str))&&(ckL sc N es xs&&zc xs&&decide (xs.length=2)&&decide (x="TooGreat"))) else (sRs st λq b _=>b.isNone&&o1 q λq=>eCN q λx xs=>l1 xs λa=>decide (x=c)&&wO sc x&&!(x == ("__debug__":Str))&&(((ckL sc N es [a]&&plain a)||RB sc N es a)&&decide (x≠"TooGreat")))
  |.g _=>true
  |_=>false)
noncomputable def oY(sc:Scope)(N:List Str):Sms->List Stmt->Bool
 |.f,ss=>ss.isEmpty
 |.e c cs,ss=>(lc ss λt ts=>ckS sc N c t&&oY sc N cs ts)
 |.g ..,_=>false
end
structure OkF(T:Tbl)(n:Nat)(sc:Scope)(N:List Str)(X:L2.Cx):Prop where
 a:Ok T n sc N X
 b:X.a.scope=sc
 bk:X.a.blockKind=.function
section
variable {T:Tbl}{n:Nat}
def JS(T:Tbl)(n:Nat)(a:Sm):Prop:=∀(sc:Scope) (N:List Str) (X:L2.Cx) (st:Stmt),OkF T n sc N X->ckS sc N a st=true->∀env s,L2.PS X st (tSt X.K X.d env s (exS (zD T n) T.b env a s))
def JSs(T:Tbl)(n:Nat)(a:Sms):Prop:=∀(sc:Scope) (N:List Str) (X:L2.Cx) (st:List Stmt),OkF T n sc N X->oY sc N a st=true->∀env s,L2.PSs X st (tSt X.K X.d env s (zX (zD T n) T.b env a s))
theorem ml(h:∀env s,L2.PSs X st (tSt X.K X.d env s (zX Φ G env b s))):L2.PSs X st (uSs X.K X.d Φ G b):=λpins s σ H D I ⟨env,t,q⟩=>h env t pins s σ H D I q
theorem Zc:JS T n (.d e):=by intro sc N X st o h env s;replace h:=mx h;obtain⟨x1,p1,rfl,h⟩:=h;simp only[cf]at h;exact Zj h.2 (jE T n e _ _ _ _ o.a h.1 env s)
theorem Wh:JS T n (.g e):=by intro sc N X st o h env s;replace h:=my h;obtain⟨q1,p1,rfl,h⟩:=h;replace h:=qS h;obtain⟨x1,rfl,h⟩:=h;exact Wq (jE T n e _ _ _ _ o.a h env s)
theorem qi:∃b,Ei (.ListComp elt gens csc cpos) (some (.Name y py)) l env=pure b:=⟨_,rfl⟩
noncomputable def ZU:Ex->Bool
 |.q ..=>true
 |_=>false
theorem mQ(h:ck sc N a e=true)(ha:ZU a=false):v5 e=true:=by
 have no:∀{e:Expr},ck sc N a e=true->e.ctorIdx=8\/e.ctorIdx=9\/e.ctorIdx=10->False:=λ{e} h hc=>by
  have key:(∃x g c p,e=.ListComp x g c p)\/(∃x g c p,e=.SetComp x g c p)\/∃k x g c p,e=.DictComp k x g c p:=by
   rcases hc with hc|hc|hc
   . exact .inl (EX (motive_1:=λe=>∃x g c p,e=Expr.ListComp x g c p) e hc λx g c p=>⟨x,g,c,p,rfl⟩)
   . exact .inr (.inl (Expr.SetComp.elim (motive_1:=λe=>∃x g c p,e=Expr.SetComp x g c p) e hc λx g c p=>⟨x,g,c,p,rfl⟩))
   . exact .inr (.inr (Expr.DictComp.elim (motive_1:=λe=>∃k x g c p,e=Expr.DictComp k x g c p) e hc λk x g c p=>⟨k,x,g,c,p,rfl⟩))
  rcases key with⟨x,g,c,p,rfl⟩|⟨x,g,c,p,rfl⟩|⟨k,x,g,c,p,rfl⟩ <;>
  . cases a with
    |q _ _ _ _ _ _ _=>cases ha
    |h f v es=>
     have h:(if v<100 then _ else if v<200 then _ else _)=true:=h
     split at h
     . cases h
     . split at h
       . cases h
       . exact absurd (show false=true from (zR h).2) Ad
    |_=>cases h
 cases e with
 |ListComp _ _ _ _=>exact(no h (.inl rfl)).elim
 |SetComp _ _ _ _=>exact(no h (.inr (.inl rfl))).elim
 |DictComp _ _ _ _ _=>exact(no h (.inr (.inr rfl))).elim
 |_=>rfl
theorem We:JS T n (.f i e):=by
 intro sc N X st o h env s;replace h:=u7 h;obtain⟨ts1,v,pos,rfl,h⟩:=h;replace h:=yt h;obtain⟨t1,rfl,h⟩:=h;replace h:=yx h;obtain⟨x,px,rfl,h⟩:=h;simp only[cf,decide_eq_true_eq,Ax]at h;obtain⟨⟨h1,h2⟩,h3⟩:=h;obtain⟨l1,l2⟩:=o.a.a.e x h2;have hN:X.N.Nodup:=by rw[o.a.a.a];exact o.a.a.c
 have hi:X.N[i]?=some x:=by rw[o.a.a.a];exact h1
 by_cases hn:v5 v=true
 . exact dm (L2.vh hN hi l1 (jE T n e _ _ _ _ o.a h3 env s) (tH hn) l2) λσ H Q q=>q
 . -- a comprehension
   cases e with
   |q m N' fr elt t it ifs=>
    replace h3:=rL h3;obtain⟨x',tg,iter,fs,csc,cpos,rfl,h3⟩:=h3;simp only[cf,decide_eq_true_eq]at h3;obtain⟨⟨⟨⟨⟨⟨c1,c2⟩,c3⟩,c4⟩,c5⟩,c6⟩,c7⟩:=h3;have S:=eI o.a.a c1;have oc:=o.a.comp S c2 c1;obtain⟨g,pg,tg'⟩:∃g,(∀C s0 H0 ex,L2.PG (X.comp N' csc C s0 H0 ex) tg g)/\qo X.K X.d t g:=by
     cases t with
     |a i=>
      cases tg with
      |Name y p=>
       simp only[ckT,cf,Ax,decide_eq_true_eq]at c3;exact⟨_,λC s0 H0 ex=>mZ (oc C s0 H0 ex).a c3.1 c3.2,nU⟩
      |_=>cases c3
     |b is=>
      cases tg with
      |Tuple es k p=>
       simp only[ckT,cf,decide_eq_true_eq]at c3;refine⟨_,λC s0 H0 ex=>?_,tL (is:=is)⟩;obtain⟨a,b,c⟩:=wA (oc C s0 H0 ex).a c3.1;exact L2.qZ (X:=X.comp N' csc C s0 H0 ex) o.a.d a b c
      |_=>cases c3
    have hpi:L2.PI X tg iter (uI X.K X.d (zD T n) T.b it):=Vg λenv s=>jI T n it _ _ _ _ _ o.a c4 env s;have hts:∀C s0 H0 ex,L2.PTs (X.comp N' csc C s0 H0 ex) fs (uTs X.K X.d (zD T n) T.b ifs):=λC s0 H0 ex=>(jCs T n ifs _ _ _ _ (oc C s0 H0 ex) c5).2.2;have hel:∀C s0 H0 ex,L2.PE (X.comp N' csc C s0 H0 ex) x' (uE X.K X.d (zD T n) T.b elt):=λC s0 H0 ex=>YK (X:=X.comp N' csc C s0 H0 ex) λenv s=>jE T n elt _ _ _ _ (oc C s0 H0 ex) c6 env s;have rule:L2.PS X (.Assign [.Name x px] (.ListComp x' [⟨tg,iter,fs,0⟩] csc cpos) pos) (L2.tJ (L2.sr fr (uI X.K X.d (zD T n) T.b it) g (uTs X.K X.d (zD T n) T.b ifs) λacc=>L2.pk acc (uE X.K X.d (zD T n) T.b elt)) (L2.wG i)):=by
     obtain⟨b,hb⟩:=qi (elt:=x') (gens:=[⟨tg,iter,fs,0⟩]) (csc:=csc) (cpos:=cpos) (y:=x) (py:=px) (l:=pos.line) (env:=X.a);cases b with
     |true=>exact L2.iI o.a.d S hpi pg hts hel hN hi l1 hb l2 (yu c7)
     |false=>exact L2.vh hN hi l1 (L2.rR o.a.d S hpi pg hts hel (yu c7)) hb l2
    refine dm (o:=evE (zD T n) T.b env (.q m N' fr elt t it ifs) s) rule λσ H Q hq=>pM (env:=env) (s:=s) (chk:=false) (m:=m) (body:=tM (zD T n) T.b elt ifs) tg' rA (λacc ρ0 H0 hn=>lH hn) ?_ λ_ r s1 p s2 hl=>?_
    . simp only[AX,false_implies,if_true];exact hq
    . have:=sV hl
      simpa using this
   |_=>exact absurd (mQ h3 rfl) hn
theorem Wg:JS T n (.q is es):=by
 intro sc N X st o h env s;replace h:=u7 h;obtain⟨ts1,v,pos,rfl,h⟩:=h;replace h:=yt h;obtain⟨t1,rfl,h⟩:=h;replace h:=uf h;obtain⟨ts,k,p,rfl,h⟩:=h;replace h:=uf h;obtain⟨vs,k2,p2,rfl,h⟩:=h;simp only[cf,decide_eq_true_eq,Ax]at h;obtain⟨⟨⟨⟨⟨⟨h1,h2⟩,h3⟩,h4⟩,h5⟩,h6⟩,h7⟩:=h;have hes:=(jL T n es _ _ _ _ o.a h2).1 h3 env s;have hN:X.N.Nodup:=by rw[o.a.a.a];exact o.a.a.c
 have kind:∀x,X.a.kindOf x=sc.names.lookup x:=λx=>by show X.a.scope.names.lookup x=_;rw[o.b]
 rcases h7 with h7|h7
 . unfold Xd at h7
   split at h7
   . rename_i x px y py
     simp only[cf,decide_eq_true_eq,AM]at h7;obtain⟨⟨⟨⟨⟨q1,q2⟩,q3⟩,q4⟩,q5⟩,q6⟩:=h7
     match is,h1,h5 with
     |[i,j],h1,h5=>
      simp only[yC,cf,decide_eq_true_eq,Ax]at h1;obtain⟨⟨i1,i2⟩,⟨j1,j2⟩,_⟩:=h1
      match vs,h6 with
      |[a,b],_=>
       have hij:i≠j:=by rw[BC]at h5;exact λz=>h5.1 (by rw[z];exact AW.mpr rfl)
       exact Zk (L2.Vl o.a.d hN (by rw[o.a.a.a];exact i1) (by rw[o.a.a.a];exact j1) hij (by rw[o.b];exact q1) (by rw[o.b];exact q2) hes
        (lB o.bk (by rw[kind];exact q1) (by rw[kind];exact q2) q3 q4 h3 q5 q6) sU) λσ H Q q=>q
     |[],h1,_=>exact absurd h1 (by simp[yC])
     |[_],h1,_=>exact absurd h1 (by simp[yC])
     |_::_::_::_,h1,_=>exact absurd h1 (by simp[yC])
   . rename_i x px y py z pz
     simp only[cf,decide_eq_true_eq,AM]at h7;obtain⟨⟨⟨⟨⟨⟨⟨⟨⟨q1,q2⟩,q3⟩,q4⟩,q5⟩,q6⟩,q7⟩,q8⟩,q9⟩,q10⟩:=h7
     match is,h1,h5 with
     |[i,j,l],h1,h5=>
      simp only[yC,cf,decide_eq_true_eq,Ax]at h1;obtain⟨⟨i1,i2⟩,⟨j1,j2⟩,⟨l1,l2⟩,_⟩:=h1
      match vs,h6 with
      |[a,b,c],_=>
       simp only[BC,An,Bj,or_false,not_or]at h5;exact Zl (L2.YQ o.a.d hN (by rw[o.a.a.a];exact i1) (by rw[o.a.a.a];exact j1) (by rw[o.a.a.a];exact l1) h5.1.1 h5.1.2 h5.2.1 (by rw[o.b];exact q1) (by rw[o.b];exact q2) (by rw[o.b];exact q3) hes
        (qz o.bk (by rw[kind];exact q1) (by rw[kind];exact q2) (by rw[kind];exact q3) q4 q5 q6 q7 q8 h3 q9 q10) sU) λσ H Q q=>q
     |[],h1,_=>exact absurd h1 (by simp[yC])
     |[_],h1,_=>exact absurd h1 (by simp[yC])
     |[_,_],h1,_=>exact absurd h1 (by simp[yC])
     |_::_::_::_::_,h1,_=>exact absurd h1 (by simp[yC])
   . cases h7
 . have hun:(∃x p,Ek x p∈ts/\X.a.kindOf x≠some .local)\/3<ts.length:=by
    unfold Xm at h7;simp only[Ax,decide_eq_true_eq,BF]at h7;rcases h7 with⟨e,hm,he⟩|h7
    . cases e with
      |Name x px=>
       simp only[decide_eq_true_eq]at he;exact .inl ⟨x,px,hm,by rw[kind];exact he⟩
      |_=>cases he
    . exact .inr h7
   obtain⟨a,b,c⟩:=wA o.a.a h1;have rule:=Zi (t:=.b is) (env:=env) (s:=s) tL (L2.bL (pos:=pos) (kA (k:=k2) (pos:=p2) hes) (L2.qZ (k:=k) (pos:=p) o.a.d a b c) sU (fG hun)) λσ H Q q=>q;have e:((zi (zD T n) T.b env es s).bind λvs s1=>if vs.length=is.length then (.e:Fl->Sto->Out Fl) (.a ((is.zip vs).foldl (λe p=>e.set p.1 (some p.2)) env)) s1 else .d)=(((zi (zD T n) T.b env es s).bind λvs s1=>if vs.length<=zb then (.e:Val->Sto->Out Val) (.f vs) s1 else .d).bind λv s1=>match yh (.b is) v env with|some env'=>(.e:Fl->Sto->Out Fl) (.a env') s1|dS=>.d):=by
    cases zi (zD T n) T.b env es s with
    |e ws s1=>
     simp only[zQ];by_cases hl:ws.length=is.length
     . have hz:ws.length<=zb:=by rw[hl];exact Ay h4 (by decide)
       simp only[if_pos hl,if_pos hz,zQ,yh]
     . rw[if_neg hl]
       by_cases hz:ws.length<=zb
       . simp only[if_neg hl,if_pos hz,zQ,yh]
       . simp only[if_neg hz,wu]
    |g _ _ _=>rfl
    |d=>rfl
   show L2.PS X _ (tSt X.K X.d env s ((zi (zD T n) T.b env es s).bind λvs s1=>if vs.length=is.length then .e (.a ((is.zip vs).foldl (λe p=>e.set p.1 (some p.2)) env)) s1 else .d))
   rw[e];exact rule
theorem dU:JS T n (.k a i e):=by intro sc N X st o h env s;replace h:=u7 h;obtain⟨ts1,v,pos,rfl,h⟩:=h;replace h:=yt h;obtain⟨t1,rfl,h⟩:=h;replace h:=rn h;obtain⟨a1,b1,p1,rfl,h⟩:=h;simp only[cf]at h;exact dn h.2 (jE T n e _ _ _ _ o.a h.1.2 env s) (λs1=>jE T n a _ _ _ _ o.a h.1.1.1 env s1) λs1=>jE T n i _ _ _ _ o.a h.1.1.2 env s1
theorem Uy(ja:JSs T n a)(jb:JSs T n b):JS T n (.h c a b):=by intro sc N X st o h env s;replace h:=iL h;obtain⟨t1,x1,y1,p1,rfl,h⟩:=h;simp only[cf]at h;exact U5 (jC T n c _ _ _ _ o.a h.1.1 env s) (ml λenv s=>ja _ _ _ _ o h.1.2 env s) (ml λenv s=>jb _ _ _ _ o h.2 env s) (λs1 D σ H q=>⟨env,s1,q⟩) λs1 D σ H q=>⟨env,s1,q⟩
theorem Wf(jb:JSs T n b):JS T n (.l t it b):=by intro sc N X st o h env s;replace h:=bY h;obtain⟨tg1,i1,b1,e1,p1,rfl,h⟩:=h;obtain⟨h0,hh⟩:=zR h;cases AV.mp h0;clear h;have h:=hh;simp only[cf]at h;obtain⟨g,pg,tg⟩:=Tw o.a.a o.a.d h.1.1.1;exact Wo o.a.xe o.a.d h.2 (λenv s=>jI T n it _ _ _ _ _ o.a h.1.1.2 env s) pg tg (ml λenv s=>jb _ _ _ _ o h.1.2 env s)
theorem dW(jb:JSs T n b):JS T n (.m c b):=by intro sc N X st o h env s;replace h:=bZ h;obtain⟨t1,b1,e1,p1,rfl,h⟩:=h;obtain⟨h0,hh⟩:=zR h;cases AV.mp h0;clear h;have h:=hh;simp only[cf]at h;exact dq o.a.xe (λenv s=>jC T n c _ _ _ _ o.a h.1 env s) (ml λenv s=>jb _ _ _ _ o h.2 env s)
theorem dR:JS T n (.j e):=λsc N X st o h env s=>zO (zH rfl)
theorem Zd:JSs T n .f:=by intro sc N X st o h env s;cases AV.mp h;exact Zm
theorem dX(jc:JS T n c)(jcs:JSs T n cs):JSs T n (.e c cs):=by intro sc N X st o h env s;replace h:=yV h;obtain⟨t1,ts1,rfl,h⟩:=h;simp only[cf]at h;exact dr (f:=λe s=>zX (zD T n) T.b e cs s) (jc _ _ _ _ o h.1 env s) (ml λenv s=>jcs _ _ _ _ o h.2 env s) λenv s D σ H q=>⟨env,s,q⟩
section
variable {sc:Scope}{N:List Str}{X:L2.Cx}{i:Nat}{L:Exs}{env:Env}{s s1:Sto}{vs:List Val}{d:Ex}
end
end
section
variable (T:Tbl)(n:Nat)
mutual
theorem jS:∀a:Sm,JS T n a
 |.d _=>Zc
 |.g _=>Wh
 |.s=>λsc N X e o h=>by cases h
 |.f _ _=>We
 |.n _ _=>λsc N X e o h=>by cases h
 |.q _ _=>Wg
 |.w _ _ _=>λsc N X e o h=>by cases h
 |.k _ _ _=>dU
 |.u _ _ _=>λsc N X e o h=>by cases h
 |.h _ a b=>Uy (jSs a) (jSs b)
 |.l _ _ b=>Wf (jSs b)
 |.m _ b=>dW (jSs b)
 |.r=>λsc N X e o h=>by cases h
 |.v=>λsc N X e o h=>by cases h
 |.p=>λsc N X e o h=>by cases h
 |.j _=>dR
theorem jSs:∀a:Sms,JSs T n a
 |.f=>Zd
 |.e c cs=>dX (jS c) (jSs cs)
 |.g _ _ _ _ _ _ _ _=>λsc N X st o h=>by cases h
end
end
end M
end
section
namespace M
open PySem
structure OkX(T:Tbl)(n:Nat)(sc:Scope)(N:List Str)(X:L2.Cx)(E:L2.XK):Prop where
 a:OkF T n sc N X.nox
 ps:L2.Passes (L2.CXE X.f X.w) X E
 xr:∀C H,E (.ref C) none H->L2.XR X C H
 xg:∀C d H,E (.ref C) (some d) H->L2.XRG X C d H
 lv:Lv T X.f X.w X.K X.d X.g n
 gr:(T.c.lookup ("TooGreat":Str)).isSome=true->uV X.K X.d X.g
 b:∀c,(T.c.lookup c).isSome=true->c≠"TooGreat"->∃C D,X.d c=some (.ref C)/\L2.ClsAt X.g C (.ref D::L2.veM)/\L2.ClsAt X.g D L2.veM
section
variable (K:KF)(mg:Str->Option Value)(E:L2.XK)
def tX(env:Env)(s:Sto)(x:tZ):L2.TS:=λ_ σ H=>∃ρ,HR K mg ρ s H/\ER K mg ρ H env σ/\qm K mg ρ H x E
def tXe(env:Env)(s:Sto)(x:tZ):L2.TE:=λσ H _=>∃ρ,HR K mg ρ s H/\ER K mg ρ H env σ/\qm K mg ρ H x E
end
theorem qm.mono(h:qm K mg ρ H x E)(e:Ext ρ H ρ' H')(hr:HR K mg ρ' s H'):qm K mg ρ' H' x E:=by
 cases x with
 |none=>exact h
 |some r=>
  obtain⟨c,as,s'⟩:=r;exact λρ2 H2 x2 hr2 C hC=>h ρ2 H2 (e.trans hr x2) hr2 C hC
noncomputable abbrev wx(T:Tbl):Str->Bool:=λc=>(T.c.lookup c).isSome
section
variable {T:Tbl}{n:Nat}{sc:Scope}{N:List Str}{X:L2.Cx}{E:L2.XK}
theorem ze:¬tXe X.K X.d E env s dS σ H Q:=λ⟨_,_,_,z⟩=>z
theorem yZ:¬tX X.K X.d E env s dS D σ H:=λ⟨_,_,_,z⟩=>z
theorem rg(h:T.d f v=dS)vs s:zS T n f v vs s=dS:=by
 cases n with
 |zero=>rfl
 |succ n=>simp only[zS,h]
theorem eH(o:OkX T n sc N X E)(h:(L2.tq sc N N' csc fr&&decide N'.Nodup&&ckT csc N' t tg&&ckI sc N it iter tg&&lY csc N' ifs fs&&ck csc N' elt x&&plain iter)=true) :
 ∃(S:L2.zv X N' csc fr) (oc:∀C s0 H0 ex,Ok T n csc N' (X.comp N' csc C s0 H0 ex)) (g:L2.TG),(∀C s0 H0 ex,L2.PG (X.comp N' csc C s0 H0 ex) tg g)/\ckI sc N it iter tg=true/\lY csc N' ifs fs=true/\ck csc N' elt x=true/\plain iter=true:=by
 simp only[cf,decide_eq_true_eq]at h;obtain⟨⟨⟨⟨⟨⟨h1,h2⟩,h3⟩,h4⟩,h5⟩,h6⟩,h7⟩:=h;have S:=eI o.a.a.a h1;have oc:=o.a.a.comp S h2 h1;refine⟨⟨S.b,S.e,S.a,S.d,S.g,S.f,S.h⟩,oc,?_⟩;cases t with
 |a i=>
  cases tg with
  |Name y p=>
   simp only[ckT,cf,Ax,decide_eq_true_eq]at h3;exact⟨_,λC s0 H0 ex=>mZ (oc C s0 H0 ex).a h3.1 h3.2,h4,h5,h6,h7⟩
  |_=>cases h3
 |b is=>
  cases tg with
  |Tuple es k p=>
   simp only[ckT,cf,decide_eq_true_eq]at h3;refine⟨L2.WJ X.K is.length (qC is),λC s0 H0 ex=>?_,h4,h5,h6,h7⟩;obtain⟨a,b,c⟩:=wA (oc C s0 H0 ex).a h3.1;exact L2.qZ (X:=X.comp N' csc C s0 H0 ex) o.a.a.d a b c
  |_=>cases h3
mutual
theorem jxE(o:OkX T n sc N X E):∀(a:Ex) (e:Expr),ck sc N a e=true->∀env s,L2.PE X e (tXe X.K X.d E env s (xE (zD T n) (zS T n) T.b env a s))
 |.h f v es,e,h=>λenv s=>by
  replace h:(if v<100 then ckA sc f (λxs=>ckL sc N es xs) e else if v<200 then ckB sc N f v es (λl ys=>ckL l N es ys) e else ckV sc N v es (λl ys=>ckL l N es ys) e)=true:=h
  split at h
  . replace h:=xC h
    obtain⟨x,p,xs,pos,rfl,h⟩:=h;simp only[cf,decide_eq_true_eq,wO,AM]at h;obtain⟨⟨⟨⟨rfl,h2⟩,h3⟩,h4⟩,h5⟩:=h;simp only[xE];cases hv:zi (zD T n) T.b env es s with
    |g _ _ _=>exact yN λ_ _ _=>ze
    |d=>exact yN λ_ _ _=>ze
    |e vs s1=>
     simp only[];cases hf:T.d x v with
     |none=>rw[rg hf];exact yN λ_ _ _=>ze
     |some F=>
      obtain⟨fa,fd,e1,e2,e3,e4,e5⟩:=o.lv.a x v F hf;have hp:=(jL T n es _ _ _ _ o.a.a h4).1 h5 env s;rw[hv]at hp;have hp:=qW hp;cases xs with
      |nil=>
       cases es with
       |a _ _=>cases h4
       |b=>
        cases hv;exact zZ (L2.mW e5 o.a.a.c (o.a.a.a.b x h2) e1 e2 e3 .nil o.ps h3) λσ H Q ⟨ρ,hr,er,w⟩=>⟨ρ,_,[],hr,.d,.inr w⟩
      |cons y ys=>
       rw[zc,cf]at h5;refine zZ (L2.rQ e5 o.a.a.c (o.a.a.a.b x h2) e1 e2 e3 .nil o.ps hp h3 (L2.zf (zU h5.1)) (yG h5.2)) λσ H Q ⟨ρ,hr,er,w⟩=>⟨ρ,hr,er,λρ1 zs H1 x1 hr1 r1=>?_⟩;show spX T X.K X.d n x v (zs++[]) H1 Q E;rw[A9];exact⟨ρ1,s1,vs,hr1,r1,.inr (w.mono x1 hr1)⟩
  . rename_i hver
    have hx:xE (zD T n) (zS T n) T.b env (.h f v es) s=dS:=by
     simp only[xE];cases zi (zD T n) T.b env es s with
     |e vs s1=>exact rg (o.a.a.j f v (by omega)) _ _
     |_=>rfl
    rw[hx];exact yN λ_ _ _=>ze
 |.p op a b,e,h=>λenv s=>by
  replace h:=oa h;obtain⟨l1,o1,r1,p1,rfl,h⟩:=h;simp only[cf,decide_eq_true_eq]at h;obtain⟨⟨⟨⟨k1,rfl⟩,h1⟩,h2⟩,h3⟩:=h;simp only[xE];exact zZ (L2.iG (uP (X:=X) o.a.a.c op k1) (jxE o a _ h1 env s) (L2.PE.nox (jE T n b _ _ _ _ o.a.a h2 env s)) (wJ h3)) λσ H Q z=>z
 |.g _,_,_=>λ_ _=>yN λ_ _ _=>ze
 |.e _,_,_=>λ_ _=>yN λ_ _ _=>ze
 |.E _,_,_=>λ_ _=>yN λ_ _ _=>ze
 |.K _ _,_,_=>λ_ _=>yN λ_ _ _=>ze
 |.j m op a b,e,h=>λenv s=>by
  replace h:=nv h;obtain⟨l1,o1,r1,p1,rfl,h⟩:=h;simp only[cf,decide_eq_true_eq]at h;obtain⟨⟨⟨k1,rfl⟩,h1⟩,h2⟩:=h;simp only[xE];exact zZ (L2.mY (cT (X:=X) m op k1) (jxE o a _ h1 env s) (L2.PE.nox (jE T n b _ _ _ _ o.a.a h2 env s))) λσ H Q z=>z
 |.A _,_,_=>λ_ _=>yN λ_ _ _=>ze
 |.F _,_,_=>λ_ _=>yN λ_ _ _=>ze
 |.r _ _ _ _ _,_,_=>λ_ _=>yN λ_ _ _=>ze
 |.w _ _,_,_=>λ_ _=>yN λ_ _ _=>ze
 |.H _ _,_,_=>λ_ _=>yN λ_ _ _=>ze
 |.G _ _ _,_,_=>λ_ _=>yN λ_ _ _=>ze
 |.y _,_,_=>λ_ _=>yN λ_ _ _=>ze
 |.s _ _,_,_=>λ_ _=>yN λ_ _ _=>ze
 |.B,_,_=>λ_ _=>yN λ_ _ _=>ze
 |.k f m es,e,h=>λenv s=>by
  replace h:=xC h;obtain⟨x,p,xs,pos,rfl,h⟩:=h;replace h:=yV h;obtain⟨y,ys,rfl,h⟩:=h;simp only[cf,decide_eq_true_eq,wO]at h;obtain⟨⟨⟨⟨k1,rfl⟩,h2⟩,h3⟩,h4⟩:=h;simp only[xE];have hpa:=jxL o es (y::ys) h3 h4 env s;rw[zc,cf]at h4;have bo:=f.boot;have hg:=o.a.a.a.b _ h2;have hm:=o.a.a.g _ (fj f);have st:=L2.zf (es:=ys) (env:=X.a) (zU h4.1);have hn:=yG (pos:=pos) (env:=X.a) h4.2;cases f with
  |c=>exact zZ (L2.yy (r:=λ_ _ _=>False) (λ_ _ _ _ _ _ _ _ _ z=>Al z) hg hm bo hpa (by decide) (by decide) st hn) λσ H Q z=>z
  |l=>exact zZ (L2.yy (r:=λ_ _ _=>False) (λ_ _ _ _ _ _ _ _ _ z=>Al z) hg hm bo hpa (by decide) (by decide) st hn) λσ H Q z=>z
  |o=>exact zZ (L2.yy (r:=λ_ _ _=>False) (λ_ _ _ _ _ _ _ _ _ z=>Al z) hg hm bo hpa (by decide) (by decide) st hn) λσ H Q z=>z
  |r=>exact zZ (L2.yy (r:=λ_ _ _=>False) (λ_ _ _ _ _ _ _ _ _ z=>Al z) hg hm bo hpa (by decide) (by decide) st hn) λσ H Q z=>z
  |_=>exact zZ (L2.uv (r:=λ_ _ _=>False) (λ_ _ _ _ _ _ _ _ _ z=>Al z) hg hm bo hpa (by decide) (by decide) st hn) λσ H Q z=>z
 |.D _ _,_,_=>λ_ _=>yN λ_ _ _=>ze
 |.J _ _ _ _,_,_=>λ_ _=>yN λ_ _ _=>ze
 |.u _ _,_,_=>λ_ _=>yN λ_ _ _=>ze
 |.L _ _ _ _ _,_,_=>λ_ _=>yN λ_ _ _=>ze
 |.q m N' fr elt t it ifs,e,h=>λenv s=>by
  replace h:=rL h;obtain⟨x,tg,iter,fs,csc,cpos,rfl,h⟩:=h;obtain⟨S,oc,g,pg,h4,h5,h6,h7⟩:=eH o h;simp only[xE];have hel:∀C s0 H0 ex,L2.PE (X.comp N' csc C s0 H0 ex) x (uE X.K X.d (zD T n) T.b elt):=λC s0 H0 ex=>YK (X:=X.comp N' csc C s0 H0 ex) λenv s=>jE T n elt _ _ _ _ (oc C s0 H0 ex) h6 env s;have hts:∀C s0 H0 ex,L2.PTs (X.comp N' csc C s0 H0 ex) fs (uTs X.K X.d (zD T n) T.b ifs):=λC s0 H0 ex=>(jCs T n ifs _ _ _ _ (oc C s0 H0 ex) h5).2.2;exact zZ (L2.rR o.a.a.d S (jxI o it tg iter h4 env s) pg hts hel (yu h7)) λσ H Q z=>z
 |.z _ _ _ _ _ _ _ _ _ _,_,_=>λ_ _=>yN λ_ _ _=>ze
 |.l _ _ _ _,_,_=>λ_ _=>yN λ_ _ _=>ze
 |.C _,_,_=>λ_ _=>yN λ_ _ _=>ze
 |.I _ _,_,_=>λ_ _=>yN λ_ _ _=>ze
theorem jxL(o:OkX T n sc N X E):∀(as:Exs) (es:List Expr),ckL sc N as es=true->zc es=true->∀env s,L2.PA X es (λσ H _=>tXe X.K X.d E env s (xL (zD T n) (zS T n) T.b env as s) σ H λ_ _=>False)
 |.b,_,_=>λ_ _ _=>λ_ _ _ _ _ _ _ z=>(ze z).elim
 |.a a as,es,h=>λhp env s=>by
  replace h:=yV h;obtain⟨e,es,rfl,h⟩:=h;obtain⟨h1,h2⟩:=zR h;cases as with
  |a _ _=>exact λ_ _ _ _ _ _ _ z=>(ze z).elim
  |b=>
   cases AV.mp h2;simp only[xL];exact λpos pins s0 σ H Q I z=>L2.yE (jxE o a e h1 env s) L2.yk (L2.zf (zU (by rw[zc,cf]at hp;exact hp.1))) pos pins s0 σ H Q I z
theorem jxI(o:OkX T n sc N X E):∀(it:Itb) (tg e:Expr),ckI sc N it e tg=true->∀env s,L2.PI X tg e (λσ H _=>tXe X.K X.d E env s (xI (zD T n) (zS T n) T.b env it s) σ H λ_ _=>False)
 |.g a,tg,e,h=>λenv s pins s0 σ H R I z=>by
  simp only[xI]at z;exact AD (jxE o a e h env s pins s0 σ H (λ_ _=>False) I z) (λv s1 ⟨_,_,_,_,q⟩=>q.elim) λ_ _ q=>q
 |.d _,_,_,_=>λ_ _ _ _ _ _ _ _ z=>(ze z).elim
 |.f _ _,_,_,_=>λ_ _ _ _ _ _ _ _ z=>(ze z).elim
 |.i _,_,_,_=>λ_ _ _ _ _ _ _ _ z=>(ze z).elim
 |.j _ _,_,_,_=>λ_ _ _ _ _ _ _ _ z=>(ze z).elim
 |.h _ _ _,_,_,_=>λ_ _ _ _ _ _ _ _ z=>(ze z).elim
end
theorem jxT(o:OkX T n sc N X E):∀c e,ckC sc N c e=true->∀env s,L2.PT X e (λσ H _=>tXe X.K X.d E env s (xT (zD T n) (zS T n) T.b env c s) σ H λ_ _=>False)
 |.a a,e,h=>λenv s=>by
  obtain⟨h1,h2⟩:=zR h;cases a with
  |h f v es=>
   simp only[xT];rcases (Ax _ _).mp h2 with h2|h2
   . exact sP (L2.mn (jxE o (.h f v es) e h1 env s) (pZ h2)) λσ H Q z=>z
   . exfalso
     obtain⟨l,os,rs,p,rfl⟩:=eD (of_decide_eq_true h2);cases fz h1
  |_=>exact iJ λ_ _ _=>ze
 |.b c,e,h=>λenv s=>by
  replace h:=rM h;obtain⟨x,p,rfl,h⟩:=h;simp only[xT];exact sP (L2.ki (jxT o c _ h env s)) λσ H Q z=>z
 |.d _ _,_,_=>λ_ _=>iJ λ_ _ _=>ze
 |.f _ _,_,_=>λ_ _=>iJ λ_ _ _=>ze
theorem oz(h:qM vs=true):(∃x,vs=[.g x])\/∃i j:Int,vs=[.c i,.c j]/\i.natAbs<2 ^ 64/\j.natAbs<2 ^ 64:=by
 unfold qM at h;split at h
 . exact .inl ⟨_,rfl⟩
 . rw[cf,decide_eq_true_eq,decide_eq_true_eq]at h
   exact .inr ⟨_,_,rfl,h⟩
 . cases h
theorem dy(o:OkX T n sc N X E)(h:ckS sc N (.j e) st=true)env s:L2.PS X st (tX X.K X.d E env s (xS (wx T) (zD T n) (zS T n) T.b env (.j e) s)):=by
 cases e with
 |h c v es=>
  simp only[ckS]at h;by_cases hv1:v=1
  . rw[if_pos hv1]at h
    replace h:=iN h;obtain⟨q,b,pos,rfl,h⟩:=h;obtain⟨h0,hh⟩:=zR h;cases BN.mp h0;replace h:=qS hh;obtain⟨q,rfl,h⟩:=h;replace h:=xC h;obtain⟨x,np,xs,cpos,rfl,h⟩:=h;simp only[cf,decide_eq_true_eq,wO,AM]at h;obtain⟨⟨⟨rfl,h2⟩,h3⟩,⟨⟨h4,h5⟩,h6⟩,rfl⟩:=h;simp only[xS];cases hv:zi (zD T n) T.b env es s with
    |g _ _ _=>exact yz λ_ _ _=>yZ
    |d=>exact yz λ_ _ _=>yZ
    |e vs s1=>
     simp only[];by_cases hm:(qM vs&&wx T "TooGreat")=true
     case neg=>rw[if_neg hm];exact yz λ_ _ _=>yZ
     rw[if_pos hm];simp only[wx,cf]at hm;obtain⟨hm1,hm2⟩:=hm;obtain⟨C,D,f,fd,Kc,m1,m2,m3,m4,m5,_,_⟩:=o.gr hm2;have hp:=(jL T n es _ _ _ _ o.a.a h4).1 h5 env s;rw[hv]at hp;obtain⟨x1,x2,rfl⟩:∃x1 x2,xs=[x1,x2]:=by
      match xs,h6 with
      |[x1,x2],_=>exact⟨x1,x2,rfl⟩
     rw[zc,cf]at h5;have hbd:L2.Binds X.K fd L2.inN []:=by obtain⟨_,_,_,_,_,z,_⟩:=m3.ex;exact z
     refine yH (L2.gu o.a.a.c (o.a.a.a.b _ h2) m1 m2 m3 m4 m5 hbd (qW hp) h3 (L2.zf (zU h5.1)) (yG h5.2)) λD' σ H ⟨ρ,hr,er,w⟩=>⟨ρ,hr,er,λρ1 ys H1 x1 hr1 r1=>?_⟩;rcases oz hm1 with⟨x,rfl⟩|⟨i,j,rfl,hi,hj⟩
     . exfalso
       cases es with
       |b=>cases h4
       |a e1 es=>
        cases es with
        |b=>replace h4:=(zR h4).2;cases h4
        |a e2 es=>
         obtain⟨v1,s2,q1,hv⟩:=zp hv;obtain⟨vs',s3,q2,hv⟩:=zp hv;obtain⟨v2,s4,q3,q2⟩:=zp q2;obtain⟨vs2,s5,q4,q2⟩:=zp q2;cases q2;cases hv
     . cases r1 with
       |a ra rb=>
        cases rb with
        |a rb rc=>
         cases rc;cases ra;cases rb;refine⟨i,j,rfl,hi,hj,λd hd=>o.xg C d _ (w ρ1 _ (x1.trans hr1 (Ext.new hr1 hd _)) (hr1.more hd _) C m1 _ (.yes L2.zL (hr1.new hd)))⟩
  rw[if_neg hv1]at h;replace h:=iN h;obtain⟨q,b,pos,rfl,h⟩:=h;obtain⟨h0,hh⟩:=zR h;cases BN.mp h0;replace h:=qS hh;obtain⟨q,rfl,h⟩:=h;replace h:=xC h;obtain⟨x,np,xs,cpos,rfl,h⟩:=h;replace h:=yt h;obtain⟨a,rfl,h⟩:=h;simp only[cf,decide_eq_true_eq,wO,AM,Ax]at h;obtain⟨⟨⟨rfl,h2⟩,h3⟩,h4,hng⟩:=h;simp only[xS];cases hv:zi (zD T n) T.b env es s with
  |g _ _ _=>exact yz λ_ _ _=>yZ
  |d=>exact yz λ_ _ _=>yZ
  |e vs s1=>
   simp only[];by_cases hm:(qM vs&&wx T x)=true
   case neg=>rw[if_neg hm];exact yz λ_ _ _=>yZ
   rw[if_pos hm];simp only[wx,cf]at hm;obtain⟨C,D,m1,m2,m3⟩:=o.b x hm.2 hng;rcases h4 with⟨h4,h5⟩|h4
   . have hp:=(jL T n es _ _ _ _ o.a.a h4).1 (by rw[zc,zc,GI];exact h5) env s
     rw[hv]at hp;refine yH (L2.mj o.a.a.c.a (o.a.a.a.b x h2) m1 m2 m3 (qW hp) h3 (L2.zf (zU h5)) rfl) λD' σ H ⟨ρ,hr,er,w⟩=>⟨ρ,hr,er,λρ1 xs H1 x1 hr1 r1=>⟨?_,o.xr C H1 (w ρ1 H1 x1 hr1 C m1 _ (.no hng))⟩⟩;rw[<-r1.length,AK];rcases oz hm.1 with⟨x,rfl⟩|⟨i,j,rfl,_⟩
     . simp
     . simp
   . replace h4:=ZE h4
     obtain⟨u,v',c1,c2,c3,k1,k2,k3,p1,p2,p3,p4,p5,pos',rfl,z1,z2,z3,h4⟩:=h4;obtain⟨e1,e2,rfl,h41,h42⟩:∃e1 e2,es=.a e1 (.a e2 .b)/\ck sc N e1 u=true/\ck sc N e2 v'=true:=by
      cases es with
      |b=>cases h4
      |a e1 es=>
       obtain⟨q1,q2⟩:=zR h4;cases es with
       |b=>cases q2
       |a e2 es=>
        obtain⟨q3,q4⟩:=zR q2;cases es with
        |b=>exact⟨e1,e2,rfl,q1,q3⟩
        |a _ _=>cases q4
     obtain⟨v1,s2,q1,hv⟩:=zp hv;obtain⟨vs',s3,q2,hv⟩:=zp hv;obtain⟨v2,s4,q3,q2⟩:=zp q2;cases q2;cases hv;have pe:=L2.Tr (c1:=c1) (c2:=c2) (c3:=c3) (k1:=k1) (k2:=k2) (k3:=k3) (p1:=p1) (p2:=p2) (p3:=p3) (p4:=p4) (p5:=p5) (pos:=pos') (L2.PE.nox (jE T n e1 _ _ _ _ o.a.a h41 env s)) (L2.PE.nox (jE T n e2 _ _ _ _ o.a.a h42 env s2)) z1 z2 z3;rcases oz hm.1 with⟨x,z⟩|⟨i,j,z,hi,hj⟩
     . cases z
     . cases z
       rw[q1,q3]at pe;refine yH (L2.mj o.a.a.c.a (o.a.a.a.b x h2) m1 m2 m3 (L2.yE pe L2.yk) h3 rfl rfl) λD' σ H ⟨ρ,hr,er,w⟩=>⟨ρ,hr,er,λρ1 y1 H1 x1 hr1 r1=>?_⟩;cases r1;refine⟨i,rfl,hi,ρ1,hr1,er.mono x1,λρ2 y2 H2 x2 hr2 r2=>?_⟩;cases r2;exact⟨j,rfl,hj,λz=>⟨by rw[AK];simp,o.xr C H2 (w ρ2 H2 (x1.trans hr1 x2) hr2 C m1 _ (.no hng))⟩⟩
 |_=>exact yz λ_ _ _=>yZ
theorem Wu(o:OkX T n sc N X E)(h:ckS sc N (.f i e) st=true)env s:L2.PS X st (tX X.K X.d E env s (xE (zD T n) (zS T n) T.b env e s)):=by
 replace h:=u7 h;obtain⟨ts1,v,pos,rfl,h⟩:=h;replace h:=yt h;obtain⟨t1,rfl,h⟩:=h;replace h:=yx h;obtain⟨x,px,rfl,h⟩:=h;simp only[cf,decide_eq_true_eq,Ax]at h;obtain⟨⟨h1,h2⟩,h3⟩:=h;obtain⟨l1,l2⟩:=o.a.a.a.e x h2;have hN:X.N.Nodup:=by have:=o.a.a.a.a;rw[show X.N=N from this];exact o.a.a.a.c
 have hi:X.N[i]?=some x:=by have:=o.a.a.a.a;rw[show X.N=N from this];exact h1
 by_cases hn:v5 v=true
 . exact yH (L2.vh hN hi l1 (jxE o e _ h3 env s) (tH hn) l2) λD σ H z=>z
 . cases e with
   |h _ _ _=>exact absurd (mQ h3 rfl) hn
   |p _ _ _=>exact absurd (mQ h3 rfl) hn
   |j _ _ _ _=>exact absurd (mQ h3 rfl) hn
   |k _ _ _=>exact absurd (mQ h3 rfl) hn
   |q m N' fr elt t it ifs=>
    replace h3:=rL h3;obtain⟨x',tg,iter,fs,csc,cpos,rfl,h3⟩:=h3;obtain⟨S,oc,g,pg,c4,c5,c6,c7⟩:=eH o h3;have hts:∀C s0 H0 ex,L2.PTs (X.comp N' csc C s0 H0 ex) fs (uTs X.K X.d (zD T n) T.b ifs):=λC s0 H0 ex=>(jCs T n ifs _ _ _ _ (oc C s0 H0 ex) c5).2.2;have hel:∀C s0 H0 ex,L2.PE (X.comp N' csc C s0 H0 ex) x' (uE X.K X.d (zD T n) T.b elt):=λC s0 H0 ex=>YK (X:=X.comp N' csc C s0 H0 ex) λenv s=>jE T n elt _ _ _ _ (oc C s0 H0 ex) c6 env s;obtain⟨b,hb⟩:=qi (elt:=x') (gens:=[⟨tg,iter,fs,0⟩]) (csc:=csc) (cpos:=cpos) (y:=x) (py:=px) (l:=pos.line) (env:=X.a);simp only[xE];cases b with
    |true=>exact yH (L2.iI o.a.a.d S (jxI o it tg iter c4 env s) pg hts hel hN hi l1 hb l2 (yu c7)) λD σ H z=>z
    |false=>exact yH (L2.vh hN hi l1 (L2.rR o.a.a.d S (jxI o it tg iter c4 env s) pg hts hel (yu c7)) hb l2) λD σ H z=>z
   |_=>exact yz λ_ _ _=>yZ
def uX(T:Tbl)(n:Nat)(X:L2.Cx)(E:L2.XK)(b:Sms):L2.TS:=λD σ H=>∃env s,tX X.K X.d E env s (xSs (wx T) (zD T n) (zS T n) T.b env b s) D σ H
mutual
theorem jxS(o:OkX T n sc N X E):∀(a:Sm) (st:Stmt),ckS sc N a st=true->∀env s,L2.PS X st (tX X.K X.d E env s (xS (wx T) (zD T n) (zS T n) T.b env a s))
 |.d e,st,h=>λenv s=>by
  replace h:=mx h;obtain⟨x1,p1,rfl,h⟩:=h;simp only[cf]at h;simp only[xS];exact yH (L2.uw (jxE o e _ h.1 env s) (tH h.2)) λD σ H z=>z
 |.g e,st,h=>λenv s=>by
  replace h:=my h;obtain⟨q1,p1,rfl,h⟩:=h;replace h:=qS h;obtain⟨x1,rfl,h⟩:=h;simp only[xS];exact yH (L2.wV (jxE o e _ h env s)) λD σ H z=>z
 |.f i e,st,h=>λenv s=>by simp only[xS];exact Wu o h env s
 |.j e,st,h=>λenv s=>dy o h env s
 |.h c a b,st,h=>λenv s=>by
  replace h:=iL h;obtain⟨t1,x1,y1,p1,rfl,h⟩:=h;simp only[cf]at h;have pc:=L2.PT.nox (jC T n c _ _ _ _ o.a.a h.1.1 env s);have pn:∀{ss:List Stmt},L2.PSs X ss (λ_ _ _=>False):=λpins s0 σ H D I q=>q.elim;simp only[xS];cases hc:evT (zD T n) T.b env c s with
  |g _ _ _=>exact yH (L2.mh (jxT o c _ h.1.1 env s) pn pn) λD σ H z=>z
  |d=>exact yH (L2.mh (jxT o c _ h.1.1 env s) pn pn) λD σ H z=>z
  |e t s1=>
   rw[hc]at pc;have pa:L2.PSs X _ (uX T n X E a):=λpins s0 σ H D I ⟨env',s',q⟩=>Zn o a _ h.1.2 env' s' pins s0 σ H D I q;have pb:L2.PSs X _ (uX T n X E b):=λpins s0 σ H D I ⟨env',s',q⟩=>Zn o b _ h.2 env' s' pins s0 σ H D I q;refine yH (L2.mh pc pa pb) λD σ H ⟨ρ,hr,er,w⟩=>⟨ρ,hr,er,λρ1 t' H1 x1 hr1 ht=>?_⟩;cases ht;simp only[]at w;cases t with
   |true=>exact L2.qt ⟨env,s1,ρ1,hr1,er.mono x1,qm.mono w x1 hr1⟩
   |false=>exact L2.rE ⟨env,s1,ρ1,hr1,er.mono x1,qm.mono w x1 hr1⟩
 |.s,_,_=>λ_ _=>yz λ_ _ _=>yZ
 |.n _ _,_,_=>λ_ _=>yz λ_ _ _=>yZ
 |.q _ _,_,_=>λ_ _=>yz λ_ _ _=>yZ
 |.w _ _ _,_,_=>λ_ _=>yz λ_ _ _=>yZ
 |.k _ _ _,_,_=>λ_ _=>yz λ_ _ _=>yZ
 |.l _ _ _,_,_=>λ_ _=>yz λ_ _ _=>yZ
 |.m _ _,_,_=>λ_ _=>yz λ_ _ _=>yZ
 |.r,_,_=>λ_ _=>yz λ_ _ _=>yZ
 |.v,_,_=>λ_ _=>yz λ_ _ _=>yZ
 |.p,_,_=>λ_ _=>yz λ_ _ _=>yZ
 |.u _ _ _,_,_=>λ_ _=>yz λ_ _ _=>yZ
theorem Zn(o:OkX T n sc N X E):∀(b:Sms) (st:List Stmt),oY sc N b st=true->∀env s,L2.PSs X st (tX X.K X.d E env s (xSs (wx T) (zD T n) (zS T n) T.b env b s))
 |.f,_,_=>λ_ _=>λpins s0 σ H D I q=>(yZ q).elim
 |.e c cs,st,h=>λenv s=>by
  replace h:=yV h;obtain⟨t0,ts,rfl,h⟩:=h;rw[cf]at h;simp only[xSs];have no:L2.PSs X ts (λ_ _ _=>False):=λpins s0 σ H D I q=>q.elim;cases hc:exS (zD T n) T.b env c s with
  |g _ _ _=>exact ux (L2.yJ (jxS o c _ h.1 env s) no) λD σ H z=>z
  |d=>exact ux (L2.yJ (jxS o c _ h.1 env s) no) λD σ H z=>z
  |e fl s1=>
   simp only[];cases fl with
   |a e=>
    have p1:=jS T n c _ _ _ _ o.a h.1 env s;rw[hc]at p1;have p1':L2.PS X t0 (tSt X.K X.d env s (.e (.a e) s1)):=λpins s0 σ H D I q=>AD (p1 pins s0 σ H D (I.wM _) q) (λ_ _ z=>z.yv) λ_ _ z=>Al z;have p2:L2.PSs X ts (uX T n X E cs):=λpins s0 σ H D I ⟨env',s',q⟩=>Zn o cs _ h.2 env' s' pins s0 σ H D I q;refine ux (L2.yJ p1' p2) λD σ H ⟨ρ,hr,er,w⟩=>⟨ρ,hr,er,λρ1 H1 σ1 x1 hr1 er1=>?_⟩;exact⟨e,s1,ρ1,hr1,er1,qm.mono w x1 hr1⟩
   |b _=>exact λpins s0 σ H D I q=>(yZ q).elim
   |c _=>exact λpins s0 σ H D I q=>(yZ q).elim
   |d _=>exact λpins s0 σ H D I q=>(yZ q).elim
 |.g _ _ _ _ _ _ _ _,_,_=>λ_ _=>λpins s0 σ H D I q=>(yZ q).elim
end
end
end M
end
section
namespace M
open PySem
mutual
noncomputable def pf(n:Nat):Val->Bool
 |.j i|.q i=>decide (i<n)
 |.f vs=>wW n vs
 |.m vs=>wW n vs
 |.h|.e _|.c _|.g _|.p|.o _|.r _|.u _|.t _|.s _ _=>true
noncomputable def wW(n:Nat):List Val->Bool
 |[]=>true
 |v::vs=>pf n v&&wW n vs
end
mutual
theorem u0{n:Nat}{v:Val}(h:v.noRef=true):pf n v=true:=by
 cases v with
 |j _=>cases h
 |q _=>cases h
 |f vs=>exact wg (vs:=vs) h
 |m vs=>exact wg (vs:=vs) h
 |_=>rfl
theorem wg{n:Nat}{vs:List Val}(h:zy vs=true):wW n vs=true:=by
 cases vs with
 |nil=>rfl
 |cons v vs=>
  rw[zy,cf]at h;rw[wW,u0 h.1,wg h.2];rfl
end
section
variable {K:KF}{mg:Str->Option Value}
mutual
theorem RD.refs{ρ:Own}{H:L2.Hp}{v:Val}{x:L2.V}(q:RD K mg ρ H v x):pf ρ.o.length v=true:=by
 cases q with
 |m _ _ r=>exact RDs.refs r
 |E _ _ r=>exact RDs.refs r
 |C e _=>exact decide_eq_true (Aw.mp e).1
 |A e _=>exact decide_eq_true (Aw.mp e).1
 |_=>rfl
theorem RDs.refs{ρ:Own}{H:L2.Hp}{v:List Val}{x:List L2.V}(q:RDs K mg ρ H v x):wW ρ.o.length v=true:=by
 cases q with
 |d=>rfl
 |a r rs=>rw[wW,RD.refs r,RDs.refs rs];rfl
end
structure Cut(ρ ρ':Own):Prop where
 b:∃new,ρ'.o=ρ.o++new
 d:ρ'.h=ρ.h
theorem Cut.no(c:Cut ρ ρ')(n:ρ'.no a):ρ.no a:=by obtain⟨new,e⟩:=c.b;exact⟨λh=>n.1 (by rw[e];exact Bp _ h),by rw[<-c.d];exact n.2⟩
mutual
theorem RD.uB{ρ ρ':Own}{H:L2.Hp}(c:Cut ρ ρ'){v:Val}{x:L2.V}(q:RD K mg ρ' H v x)(h:pf ρ.o.length v=true):RD K mg ρ H v x:=by
 have at':∀{i:Nat} {a:Addr},ρ'.o[i]?=some a->decide (i<ρ.o.length)=true->ρ.o[i]?=some a:=λ{i a} e h=>by obtain⟨new,e'⟩:=c.b;rw[e',AS (of_decide_eq_true h)]at e;exact e
 cases q with
 |p=>exact .p
 |j b=>exact .j b
 |l i=>exact .l i
 |D t=>exact .D t
 |m n e r=>exact .m (c.no n) e (RDs.uB c r h)
 |E n e r=>exact .E (c.no n) e (RDs.uB c r h)
 |B n e=>exact .B (c.no n) e
 |s g=>exact .s g
 |F g=>
  refine .F ?_;rcases g with⟨n,g⟩|g
  . exact .inl ⟨c.no n,g⟩
  . exact .inr g
 |C e k=>exact .C (at' e h) k
 |A e k=>exact .A (at' e h) k
 |I e=>exact .I e
 |J n=>exact .J n
 |G a k=>exact .G a k
theorem RDs.uB{ρ ρ':Own}{H:L2.Hp}(c:Cut ρ ρ'){v:List Val}{x:List L2.V}(q:RDs K mg ρ' H v x)(h:wW ρ.o.length v=true):RDs K mg ρ H v x:=by
 cases q with
 |d=>exact .d
 |a r rs=>
  rw[wW,cf]at h;exact .a (RD.uB c r h.1) (RDs.uB c rs h.2)
end
noncomputable def oV:Cel->List Val
 |.c vs=>vs
 |.e kvs=>kvs.map (·.2)
 |.f kvs=>kvs.map (·.2)
 |.d _=>[]
theorem CR.vals(h:CR K mg ρ H a c):∃xs,RDs K mg ρ H (oV c) xs:=by
 cases c with
 |c vs=>obtain⟨xs,_,r⟩:=h;exact⟨_,r⟩
 |e kvs=>obtain⟨xs,_,_,r⟩:=h;exact⟨_,r⟩
 |f kvs=>obtain⟨xs,_,_,r⟩:=h;exact⟨_,r⟩
 |d x=>exact⟨[],.d⟩
theorem iu(h:c.noRef=true):zy (oV c)=true:=by cases c<;>first|exact h|rfl
theorem CR.uB(c:Cut ρ ρ')(h:CR K mg ρ' H a o)(hb:wW ρ.o.length (oV o)=true):CR K mg ρ H a o:=by
 cases o with
 |c vs=>obtain⟨xs,e,r⟩:=h;exact⟨xs,e,RDs.uB c r hb⟩
 |e kvs=>obtain⟨xs,e,k,r⟩:=h;exact⟨xs,e,k,RDs.uB c r hb⟩
 |f kvs=>obtain⟨xs,e,k,r⟩:=h;exact⟨xs,e,k,RDs.uB c r hb⟩
 |d y=>
  obtain⟨ps,e1,k,r,g⟩:=h;refine⟨ps,e1,k,λpos cv hc=>?_,g⟩;obtain⟨a,o,vs,t,q1,q2,q3,q4⟩:=r pos cv hc;exact⟨a,o,vs,t,q1,c.no q2,q3,q4⟩
theorem nG{α β:Type}:∀{a b:List (α × β)},a.map (·.1)=b.map (·.1)->a.map (·.2)=b.map (·.2)->a=b
 |[],[],_,_=>rfl
 |[],_::_,h,_=>by cases h
 |_::_,[],h,_=>by cases h
 |x::xs,y::ys,h1,h2=>by
  rw[A1,A1]at h1 h2;injection h1 with a1 a2
  injection h2 with b1 b2
  rw[nG a2 b2,Prod.ext a1 b1]
theorem mS:∀{s s'} {i} {o'},wI s s'=true->i<s.length->s'[i]?=some o'->o'.noRef=true\/s[i]?=some o'
 |[],_,_,_,_,h,_=>by cases h
 |o::r,[],_,_,h,_,_=>by cases h
 |o::r,o'::r',0,q,h,_,e=>by
  rw[wI,cf,Ax]at h;simp only[List.getElem?_cons_zero,DZ]at e;subst e;rcases h.1 with z|z
  . exact .inl z
  . right
    cases o' with
    |c a=>cases o with
     |c b=>simp only[Cel.beq]at z;rw[ub z];rfl
     |_=>cases z
    |e a=>cases o with
     |e b=>simp only[Cel.beq,cf,decide_eq_true_eq]at z;rw[nG z.1 (ub z.2)];rfl
     |_=>cases z
    |f a=>cases o with
     |f b=>simp only[Cel.beq,cf,decide_eq_true_eq]at z;rw[nG z.1 (ub z.2)];rfl
     |_=>cases z
    |d a=>cases o with
     |d b=>simp only[Cel.beq,decide_eq_true_eq]at z;rw[z];rfl
     |_=>cases z
 |o::r,o'::r',i+1,q,h,hi,e=>by
  rw[wI,cf]at h;have:=mS (i:=i) h.2 (by simpa using hi) (by simpa using e)
  simpa using this
noncomputable def Vh:Val->Bool
 |.j _|.q _|.f _=>false
 |.h|.e _|.c _|.g _|.p|.o _|.r _|.u _|.t _|.m _|.s _ _=>true
theorem ZQ{n:Nat}{s:Sto}{k i:Nat}:wz n s k (.j i)=if i<n then some (Val.j i) else match s[i]? with
 |some (.c vs)=>if zy vs then some (.m vs) else dS
 |_=>dS:=by cases k<;>rfl
theorem ek:wz n s k (.q i)=if i<n then some (Val.q i) else dS:=by cases k<;>rfl
theorem et(h:Vh v=true):wz n s k v=if v.noRef then some v else dS:=by
 cases v with
 |j _=>cases h
 |q _=>cases h
 |f _=>cases h
 |_=>cases k<;>rfl
theorem ZP:uk n s k []=some []:=by cases k<;>rfl
mutual
theorem qB{ρ ρ':Own}{H:L2.Hp}{s:Sto}(c:Cut ρ ρ')(hr:HR K mg ρ' s H){k:Nat}{v v':Val}{x:L2.V}(r:RD K mg ρ' H v x)(h:wz ρ.o.length s k v=some v'):RD K mg ρ H v' x:=by
 have sv:∀{w:Val},RD K mg ρ' H w x->(if w.noRef then some w else dS)=some v'->RD K mg ρ H v' x:=λ{w} r h=>by
  split at h
  . rename_i hn;cases h;exact RD.uB c r (u0 hn)
  . cases h
 cases v with
 |j i=>
  rw[ZQ]at h;cases r with
  |C e hkd=>
   by_cases hi:i<ρ.o.length
   . rw[if_pos hi]at h
     cases h;exact RD.uB c (.C e hkd) (by rw[pf];exact decide_eq_true hi)
   . rw[if_neg hi]at h
     split at h
     . rename_i vs hs
       split at h
       . rename_i hn
         cases h;obtain⟨a,xs,e1,e2,q⟩:=hr.obj i vs hs;rw[e]at e1;cases e1;obtain⟨new,e'⟩:=c.b;have hm:=AU e;refine .E ⟨λhm'=>?_,λhh=>?_⟩ e2 (RDs.uB c q (wg hn))
         . obtain⟨j,hj,ej⟩:=Bv hm'
           have ej':ρ'.o[j]?=ρ'.o[i]?:=by rw[e,e',AS hj,Aa hj,ej]
           have:=cL hr.v e (ej'.trans e);exact hi (this▸hj)
         . exact(hr.d _ (by rw[c.d];exact hh)).2 hm
       . cases h
     . cases h
 |q i=>
  rw[ek]at h;split at h
  . rename_i hi
    cases h;exact RD.uB c r (by rw[pf];exact decide_eq_true hi)
  . cases h
 |f vs=>
  cases k with
  |zero=>exact sv r h
  |succ k=>
   rw[wz,Bt]at h;obtain⟨ws,h1,rfl⟩:=h;cases r with
   |m n e q=>exact .m (c.no n) e (qA c hr q h1)
 |_=>exact sv r ((et rfl).symm.trans h)
theorem qA{ρ ρ':Own}{H:L2.Hp}{s:Sto}(c:Cut ρ ρ')(hr:HR K mg ρ' s H){k:Nat}{v v':List Val}{x:List L2.V}(r:RDs K mg ρ' H v x)(h:uk ρ.o.length s k v=some v'):RDs K mg ρ H v' x:=by
 cases r with
 |d=>rw[ZP]at h;cases h;exact .d
 |@a v _ vs _ r1 r2=>
  cases k with
  |zero=>cases h
  |succ k=>
   rw[uk]at h;split at h
   . rename_i a b ha hb
     cases h;refine .a ?_ (qA c hr r2 hb);by_cases hn:v.noRef=true
     . rw[if_pos hn]at ha;cases ha;exact RD.uB c r1 (u0 hn)
     . rw[if_neg hn]at ha;exact qB c hr r1 ha
   . cases h
end
theorem mM(h0:HR K mg ρ s H)(w:yQ K mg (RD K mg) ρ H (leave F s v s1) Q)(X:Ext ρ H ρ' H')(hr:HR K mg ρ' s1 H')(r:RD K mg ρ' H' v x):Q x H':=by
 unfold leave at w;by_cases hk:F.c=true
 . rw[if_pos hk]at w;exact w ρ' x H' X hr r
 . rw[if_neg hk]at w
   by_cases ho:wI s s1=true
   . rw[if_pos ho]at w
     have c:Cut ρ ρ':=⟨by obtain⟨new,e,_⟩:=X.d;exact⟨new,e⟩,X.f⟩
     cases hf:freeze s.length s1 v with
     |none=>rw[hf]at w;exact w.elim
     |some v'=>
      rw[hf]at w;have hlen:s.length<=s1.length:=by obtain⟨new,e,_⟩:=X.d;rw[<-h0.f,<-hr.f,e,Au];omega
      refine w ρ x H' ⟨⟨[],by simp,λa ha=>by cases ha⟩,rfl,X.c,X.g⟩ ⟨?_,h0.v,λi vs e=>?_,λa ha=>?_⟩ ?_
      . rw[B1,h0.f];omega
      . have hi:i<s.length:=by have:=(Aw.mp e).1;rw[B1]at this;omega
        rw[DF hi]at e;obtain⟨a,e1,q⟩:=hr.m i vs e;have e3:ρ.o[i]?=some a:=by
         obtain⟨new,e',_⟩:=X.d;rw[e',AS (by rw[h0.f];exact hi)]at e1
         exact e1
        refine⟨a,e3,q.uB c ?_⟩;rcases mS ho hi e with z|z
        . exact wg (iu z)
        . obtain⟨b,_,q'⟩:=h0.m i vs z
          obtain⟨xs,q2⟩:=q'.vals;exact RDs.refs q2
      . obtain⟨z,n⟩:=hr.d a (by rw[X.f];exact ha)
        exact⟨z,(h0.d a ha).2⟩
      . unfold freeze at hf
        by_cases hn:v.noRef=true
        . rw[if_pos hn]at hf;cases hf;exact RD.uB c r (u0 hn)
        . rw[if_neg hn,<-h0.f]at hf
          exact qB c hr r hf
   . rw[if_neg ho]at w;exact w.elim
theorem m8(r:RDs K mg ρ H args vs):ER K mg ρ H (zu N args) (L2.start N vs):=by
 refine⟨by unfold zu L2.start;rw[Au,Au,Ae,Ae,Ej,Ej,r.length],λi v e=>?_⟩
 unfold zu at e;unfold L2.start;by_cases hi:i<args.length
 . rw[AS (by simpa using hi),A2]at e
   rw[AS (by rw[Ae,<-r.length];exact hi),A2]
   cases ha:args[i]? with
   |none=>rw[ha]at e;cases e
   |some a=>
    rw[ha]at e;have:a=v:=AR (AR e);subst this;obtain⟨x,h1,h2⟩:=r.get ha;exact⟨x,by rw[h1];rfl,h2⟩
 . rw[Be (by simpa using hi),DT]at e
   split at e<;>cases e
end
noncomputable def argNames(a:Ef):Option (List Str):=
 if a.posonlyargs.isEmpty&&a.vararg.isNone&&a.kwonlyargs.isEmpty&&a.kw_defaults.isEmpty&&a.kwarg.isNone&&a.defaults.isEmpty then some (a.args.map (·.arg)) else none
def iw(st:Stmt)(F:Fn):Bool:=
 match st with
 |.FunctionDef _ args body _ _ _ sc _ _ _=>decide (argNames args=some F.b)&&decide (sc.kind=.function)&&!sc.isCoroutine&&!sc.isGenerator&&decide F.N.Nodup&&decide (F.N.take F.b.length=F.b) &&
  F.b.all (λx=>decide (sc.names.lookup x=some .local)||decide (sc.names.lookup x=some .cell))&&sc.names.all (λy=>decide (y.2≠.free))&&oY sc F.N F.a body
 |_=>false
theorem kI:∀{ps:List Str} {us:List Value},ps.Nodup->us.length=ps.length->ps.filterMap (λn=>((ps.zip us).lookup n).map (n,·))=ps.zip us:=by
 have key:∀(ps qs:List Str) (us ws:List Value),(qs++ps).Nodup->us.length=ps.length->ws.length=qs.length->ps.filterMap (λn=>(((qs++ps).zip (ws++us)).lookup n).map (n,·))=ps.zip us:=by
  intro ps;induction ps with
  |nil=>intro qs us ws _ _ _;rfl
  |cons p ps ih=>
   intro qs us ws nd h1 h2;cases us with
   |nil=>cases h1
   |cons u us=>
    have hl:((qs++p::ps).zip (ws++u::us)).lookup p=some u:=by
     rw[List.zip_append h2.symm];have:∀(qs:List Str) (ws:List Value),p ∉ qs->((qs.zip ws)++(p::ps).zip (u::us)).lookup p=some u:=by
      intro qs;induction qs with
      |nil=>intro ws _;simp
      |cons q qs ih2=>
       intro ws hn;cases ws with
       |nil=>simp
       |cons w ws=>
        have hpq:(p == q)=false:=by
         have:p≠q:=λz=>hn (by rw[z];exact Ap)
         simpa using this
        rw[List.zip_cons_cons,List.cons_append,Ak,hpq];exact ih2 ws λz=>hn (Af _ z)
     refine this qs ws λz=>?_;rw[Fq]at nd;exact nd.2.2 p z p Ap rfl
    rw[A6,hl];have:=ih (qs++[p]) us (ws++[u]) (by simpa using nd) (by simpa using h1) (by simp[h2])
    rw[BJ,BJ]at this;exact congrArg ((p,u)::·) this
 intro ps us nd h;simpa using key ps [] us [] (by simpa using nd) h rfl
theorem lookup_some:∀{ps:List Str} {us:List Value},us.length=ps.length->∀n∈ps,((ps.zip us).lookup n).isNone=false
 |[],_,_,n,h=>by cases h
 |p::ps,[],h,_,_=>by cases h
 |p::ps,u::us,h,n,hn=>by
  rw[List.zip_cons_cons,Ak];cases hb:(n == p) with
  |true=>rfl
  |false=>
   have:n≠p:=by simpa using hb
   rcases An.mp hn with z|z
   . exact absurd z this
   . exact lookup_some (by simpa using h) n z
theorem wa(h:argNames a=some ps)(nd:ps.Nodup)us(hl:us.length=ps.length) :
 Gs (Bz x qual a body sc .none kV doc pm an cdv ct) ⟨us,[]⟩=pure (ps.zip us):=by
 unfold argNames at h;split at h
 . rename_i hc
   simp only[cf,AV,BN]at hc;obtain⟨⟨⟨⟨⟨h1,h2⟩,h3⟩,h4⟩,h5⟩,h6⟩:=hc;cases h;obtain⟨po,ar,va,ko,kd,kw,df⟩:=a;simp only at h1 h2 h3 h4 h5 h6 hl nd ⊢;subst h1 h2 h3 h4 h5 h6;have hm:((ar.map (·.arg)).take ((ar.map (·.arg)).length-0)).filter (λn=>(((ar.map (·.arg)).zip us).lookup n).isNone)=[]:=by rw[List.filter_eq_nil_iff];intro n hn;rw[lookup_some hl n (List.mem_of_mem_take hn)];decide
   unfold Gs;have hd:seqItems? A8=pure none:=rfl;have hg:¬(us.length > (ar.map (·.arg)).length/\True):=by rintro ⟨z,_⟩;omega
   simp only[Bz,FI,Ew,A9,Gn,El,hd,FG,List.toList_toArray,BM,List.drop_nil,Nat.sub_zero,Option.isNone_none,GI];rw[if_neg (by rw[Ae]at hl;simp;omega)]
   have hm':(List.filter (λn=>(Co n ((FV (λx=>x.arg) ar).zip us)).isNone) (List.take (FV (λx=>x.arg) ar).length (FV (λx=>x.arg) ar)))=[]:=hm;rw[hm',if_neg (by decide),List.zip_nil_right,Gn,El,if_neg (by decide),kI nd hl]
 . cases h
def uR(K:KF)(x:Str)(st:Stmt):Prop:=∃f fd,By K AJ x=some (some (.ref f))/\L2.Fun K x x st f fd
theorem WA(a:By K AJ x=some (some (.ref f)))
 (l:K.lookup f=some ⟨oc,od,.func (Bz x x (L2.yp st) (L2.zw st) (L2.zC st) .none kV doc pm an cdv ct),osl⟩) (c:BR K cdv x=true) (k:BS K (.ref f)=true):uR K x st:=
 ⟨f,_,a,L2.ey l c k⟩
section
variable {P:Program}{w:World}{K:KF}{mg:Str->Option Value}{base:Heap}{T:Tbl}
structure Top(T:Tbl)(K:KF)(mg:Str->Option Value):Prop where
 a:∀f v F,T.d f v=some F->∃st fa fd,mg f=some (.ref fa)/\L2.Fun K f f st fa fd/\iw st F=true/\((∃b,T.e b=true)->("!":Str)∈F.N->f∈T.f)
 e:∀x v,T.b x=some v->∃u xv,mg x=some u/\L2.RelV xv u/\∀ρ H,RD K mg ρ H v xv
 d:∀x∈wC,mg x=none
 no:∀f v,100<=v->T.d f v=none
 c:(T.c≠[]\/∃b,T.e b=true)->Sc T K mg
theorem wy(h:iw st F=true):argNames (L2.yp st)=some F.b/\L2.xa F.N F.b (L2.zC st)/\oY (L2.zC st) F.N F.a (L2.zw st)=true:=by
 unfold iw at h;split at h
 . simp only[cf,decide_eq_true_eq,AM,AN,Ax]at h
   obtain⟨⟨⟨⟨⟨⟨⟨⟨h1,h2⟩,h3⟩,h4⟩,h5⟩,h6⟩,h7⟩,h8⟩,h9⟩:=h;exact⟨h1,⟨h2,h3,h4,h5,h6,h7,h8⟩,h9⟩
 . cases h
theorem cQ(top:Top T K mg)(IH:∀j,j<=n->Lv T P w K mg base j){F:Fn}(p2:L2.xa F.N F.b (L2.zC st))
 (hm:mg f=some (.ref fa)) (hk:K.lookup fa=some ⟨oc,od,.func (Bz f f (L2.yp st) (L2.zw st) (L2.zC st) .none kV doc pm an cdv ct),osl⟩) (hcd:BR K cdv f=true) (htb:(∃b,T.e b=true)->("!":Str)∈F.N->f∈T.f)
       (hr:L2.y9 n (A.deeper (PyProof.Rows.envOfC f (L2.zC st) s.heap.objs.size fa cdv))):OkF T n (L2.zC st) F.N (L2.yA CX P w K mg base F.N f (L2.zC st) fa cdv A outer s H E).nox:=by
 refine⟨⟨rfl,hr,⟨rfl,p2.b,λx hx=>hx,λx hx=>⟨hx,.inl rfl⟩,λx hx=>hx,λx hx=>hx⟩,λg v' G hg=>?_,top.e,top.d,rfl,top.no,λm hm hmd=>⟨top.c (.inr hmd),λj hj=>IH j (by omega)⟩,λhmd _ hx=>?_⟩,rfl,?_⟩
 . obtain⟨ga,gd,q1,q2,q3,q4,q5⟩:=(IH n (Ah _)).a g v' G hg
   exact⟨ga,gd,q1,q2,q3,q4⟩
 . have:∃c,cdv=.ref c:=by
    unfold BR at hcd;split at hcd
    . exact⟨_,rfl⟩
    . cases hcd
   obtain⟨c,rfl⟩:=this;exact⟨f,htb hmd hx,fa,c,_,_,hm,hk,rfl,rfl,rfl,rfl⟩
 . show (if (L2.zC st).kind.isAnnotationScope then ScopeKind.function else (L2.zC st).kind)=.function
   rw[p2.a];rfl
theorem Y9(top:Top T K mg)(IH:∀j,j<=n->Lv T P w K mg base j)(h:T.d f v=some F)(hm:mg f=some (.ref fa))(e2:L2.Fun K f f st fa fd)(e3:iw st F=true)
 (htb:(∃b,T.e b=true)->("!":Str)∈F.N->f∈T.f):L2.uU P w K mg base L2.CX0 (n+1) fa fd F.b (spN T K mg (n+1) f v):=by
 obtain⟨p1,p2,p3⟩:=wy e3;have hcall:∀(vs:List Val) (s:Sto),zD T (n+1) f v vs s=run T (zD T n) F vs s:=λvs s=>by simp only[zD,h]
 obtain⟨oc,od,kV,doc,pm,an,cdv,ct,osl,rfl,lk,hcd⟩:=e2.a;refine L2.Y8 lk hcd p2 (λvs H Q E q=>?_) λA outer s H vs Q E hr q=>?_
 . obtain⟨ρ,t,as,_,r,z⟩:=q
   rw[hcall]at z;unfold run at z;split at z
   . rename_i hl;rw[<-r.length];exact hl
   . exact z.elim
 . obtain⟨ρ,t,as,h0,r,z⟩:=q
   rw[hcall]at z;unfold run at z;have hl:as.length=F.b.length:=by
    by_cases hl:as.length=F.b.length
    . exact hl
    . rw[if_neg hl]at z;exact z.elim
   rw[if_pos hl]at z;have okf:=cQ (CX:=L2.CX0) (P:=P) (w:=w) (base:=base) (outer:=outer) (s:=s) (H:=H) (E:=E) top IH p2 hm lk hcd htb hr;refine⟨_,(jSs T n F.a (L2.zC st) F.N _ (L2.zw st) okf p3 (zu F.N as) t).nox,ρ,h0,m8 r,?_⟩;show rT K mg ρ H (zX (zD T n) T.b (zu F.N as) F.a t) _;cases hx:zX (zD T n) T.b (zu F.N as) F.a t with
   |e fl s1=>
    rw[hx]at z;cases fl with
    |a e=>exact λρ1 H1 σ1 x1 hr1 er1=>mM h0 z x1 hr1 .p
    |b v'=>exact λρ1 H1 x x1 hr1 r1=>mM h0 z x1 hr1 r1
    |c e=>exact z.elim
    |d e=>exact z.elim
   |g _ _ _=>rw[hx]at z;exact z.elim
   |d=>rw[hx]at z;exact z.elim
theorem RC(top:Top T K mg)(hB:K.In base)(IH:∀j,j<=n->Lv T P w K mg base j)(h:T.d f v=some F)(hm:mg f=some (.ref fa))(e2:L2.Fun K f f st fa fd)(e3:iw st F=true)
 (htb:(∃b,T.e b=true)->("!":Str)∈F.N->f∈T.f):L2.uU P w K mg base (L2.CXE P w) (n+1) fa fd F.b (λvs H Q E=>∃ρ s args,HR K mg ρ s H/\RDs K mg ρ H args vs/\qm K mg ρ H (zS T (n+1) f v args s) E):=by
 obtain⟨p1,p2,p3⟩:=wy e3;have hcall:∀(vs:List Val) (s:Sto),zS T (n+1) f v vs s=if vs.length=F.b.length then xSs (wx T) (zD T n) (zS T n) T.b (zu F.N vs) F.a s else dS:=λvs s=>by simp only[zS,h]
 obtain⟨oc,od,kV,doc,pm,an,cdv,ct,osl,rfl,lk,hcd⟩:=e2.a;refine L2.Y8 lk hcd p2 (λvs H Q E q=>?_) λA outer s H vs Q E hr q=>?_
 . obtain⟨ρ,t,as,_,r,z⟩:=q
   rw[hcall]at z;split at z
   . rename_i hl;rw[<-r.length];exact hl
   . exact z.elim
 . obtain⟨ρ,t,as,h0,r,z⟩:=q
   rw[hcall]at z;have hl:as.length=F.b.length:=by
    by_cases hl:as.length=F.b.length
    . exact hl
    . rw[if_neg hl]at z;exact z.elim
   rw[if_pos hl]at z;have okf:=cQ (CX:=L2.CXE P w) (P:=P) (w:=w) (base:=base) (outer:=outer) (s:=s) (H:=H) (E:=E) top IH p2 hm lk hcd htb hr;have okx:OkX T n (L2.zC st) F.N (L2.yA (L2.CXE P w) P w K mg base F.N f (L2.zC st) fa cdv A outer s H E) E:=by
    refine⟨okf,L2.gZ,λC H hE=>L2.Yr hE,λC d H hE=>L2.aY hE,IH n (Ah _),λhc=>?_,λc hc hng=>?_⟩
    . have hne:T.c≠[]:=λz=>by rw[z]at hc;cases hc
      exact(top.c (.inl hne)).d hc base hB
    have hne:T.c≠[]:=λz=>by rw[z]at hc;cases hc
    obtain⟨_,_,_,_,hue,_,_,_,_,RF⟩:=(top.c (.inl hne)).a;obtain⟨w',hw⟩:=Cc.mp hc;obtain⟨C,q1,q2,q3⟩:=RF c w' hw hng base hB;exact⟨C,hue,q1,q2,q3⟩
   exact⟨_,Zn okx F.a (L2.zw st) p3 (zu F.N as) t,ρ,h0,m8 r,z⟩
theorem W5(top:Top T K mg)(hB:K.In base):∀n j,j<=n->Lv T P w K mg base j:=by
 have step:∀n,(∀j,j<n->Lv T P w K mg base j)->Lv T P w K mg base n:=λn IH=>⟨λf v F hf=>by
  obtain⟨st,fa,fd,q1,q2,q3,q4⟩:=top.a f v F hf;obtain⟨r1,r2,r3⟩:=wy q3;have nd:F.b.Nodup:=by rw[<-r2.c];exact r2.b.sublist (Fg _ _)
  have hb:L2.Binds K fd F.b []:=q2.binds λkV doc pm an cdv ct us hl=>wa r1 nd us hl;cases n with
  |zero=>
   refine⟨fa,fd,q1,q2.b,hb,⟨λvs H Q E q=>?_,λA outer s H args us vs Q E _ _ _ _ q=>?_⟩,⟨λvs H Q E q=>?_,λA outer s H args us vs Q E _ _ _ _ q=>?_⟩⟩
   . obtain⟨ρ,t,as,_,_,z⟩:=q;exact z.elim
   . obtain⟨ρ,t,as,_,_,z⟩:=q;exact z.elim
   . obtain⟨ρ,t,as,_,_,z|z⟩:=q<;>exact z.elim
   . obtain⟨ρ,t,as,_,_,z|z⟩:=q<;>exact z.elim
  |succ n=>
   have IH':∀j,j<=n->Lv T P w K mg base j:=λj hj=>IH j (by omega)
   have a:=Y9 (P:=P) (w:=w) (base:=base) top IH' hf q1 q2 q3 q4;have b:=RC (P:=P) (w:=w) (base:=base) top hB IH' hf q1 q2 q3 q4;refine⟨fa,fd,q1,q2.b,hb,a,⟨λvs H Q E q=>?_,λA outer s H args us vs Q E h1 h2 h3 h4 q=>?_⟩⟩
   . obtain⟨ρ,t,as,x1,x2,z|z⟩:=q
     . exact a.b vs H Q E ⟨ρ,t,as,x1,x2,z⟩
     . exact b.b vs H Q E ⟨ρ,t,as,x1,x2,z⟩
   . obtain⟨ρ,t,as,x1,x2,z|z⟩:=q
     . refine Ct (a.a A outer s H args us vs Q E h1 h2 h3 h4 ⟨ρ,t,as,x1,x2,z⟩) λr s' hq=>?_
       cases r with
       |error e=>exact Al hq
       |ok fl=>cases fl<;>exact hq
     . exact b.a A outer s H args us vs Q E h1 h2 h3 h4 ⟨ρ,t,as,x1,x2,z⟩⟩
 intro n;induction n with
 |zero=>intro j hj;exact step j λi hi=>absurd hi (by omega)
 |succ n ih=>
  intro j hj;by_cases h:j<=n
  . exact ih j h
  . have:j=n+1:=by omega
    subst this;exact step _ λi hi=>ih i (by omega)
end
end M
end
section
namespace M
open PySem Hd
def iW(K:KF)(x:Str):Val->Prop
 |.c i=>∃t,By K AJ x=some (some (.int i t))
 |.g y=>∃t,By K AJ x=some (some (.str y t))
 |.o ns=>∃a,By K AJ x=some (some (.ref a))/\KT K a (ns.map L2.V.d)
 |_=>False
noncomputable def glO(fnL:List ((Str × Nat) × Fn))(glL:List (Str × Val))(x:Str):Option Val:=match glL.lookup x with
 |some v=>some v
 |dS=>match fnL.lookup (x,0) with
  |some _=>some (.u x)
  |dS=>dS
def lF(fnL:List ((Str × Nat) × Fn))(glL:List (Str × Val))(tb:List Str)(xc:List (Str × Str))(md:Bool->Bool):Tbl:=⟨λf v=>fnL.lookup (f,v),glO fnL glL,tb,xc,md⟩
def pv(fnL:List ((Str × Nat) × Fn))(D:List (Str × Stmt)):Bool:=fnL.all λp=>decide (p.1.2<100)&&match D.lookup p.1.1 with|some st=>iw st p.2|none=>false
theorem yj{α β:Type} [BEq α] [LawfulBEq α]:∀{l:List (α × β)} {a:α} {b:β},l.lookup a=some b->(a,b)∈l
 |[],_,_,h=>by cases h
 |(c,d)::l,a,b,h=>by
  rw[Ak]at h;cases hb:(a == c) with
  |true=>rw[hb]at h;cases h;rw[B6 hb];exact Ap
  |false=>rw[hb]at h;exact Af _ (yj h)
theorem V8(X:K.In h)(G:h.Ns AJ mg)(hd:∀p∈D,uR K p.1 p.2)(hg:∀p∈glL,iW K p.1 p.2)(hb:∀x∈wC,By K AJ x=some none)
 (hc:pv fnL D=true)    (htb:(∃b,md b=true)->fnL.all (λp=>!decide (("!":Str)∈p.2.N)||decide (p.1.1∈tb))=true) (sc:(xc≠[]\/∃b,md b=true)->Sc (lF fnL glL tb xc md) K mg):Top (lF fnL glL tb xc md) K mg:=by
 refine⟨λf v F e=>?_,λx v e=>?_,λx hx=>PySem.W.mg_none_of X G (hb x hx),λf v hv=>?_,sc⟩
 . have hm:((f,v),F)∈fnL:=yj e
   unfold pv at hc;rw[AN]at hc;have h1:=hc _ hm;rw[cf]at h1;have h1:=h1.2;split at h1
   . rename_i st hs
     obtain⟨fa,fd,a,F'⟩:=hd _ (yj hs);refine⟨st,fa,fd,Dx X G a,F',h1,λhmd hN=>?_⟩;have:=AN.mp (htb hmd) _ hm;simp only[Ax,AM,decide_eq_false_iff_not,decide_eq_true_eq]at this;exact this.resolve_left λz=>z hN
   . cases h1
 case refine_3=>
  show fnL.lookup (f,v)=none;cases e:fnL.lookup (f,v) with
  |none=>rfl
  |some F=>
   have hm:((f,v),F)∈fnL:=yj e;unfold pv at hc;rw[AN]at hc;have h1:=hc _ hm;rw[cf,decide_eq_true_eq]at h1;have h2:v<100:=h1.1;omega
 . have e:glO fnL glL x=some v:=e
   unfold glO at e;split at e
   case h_2=>
    split at e
    . rename_i F hF
      cases e;unfold pv at hc;rw[AN]at hc;have h1:=hc _ (yj hF);rw[cf]at h1;have h1:=h1.2;split at h1
      . rename_i st hs
        obtain⟨fa,fd,a,F'⟩:=hd _ (yj hs);exact⟨_,.c fa,Dx X G a,rfl,λρ H=>.I (Dx X G a)⟩
      . cases h1
    . cases e
   rename_i v' e';cases e;have hm:(x,v)∈glL:=yj e';have h1:=hg _ hm;cases v with
   |c i=>
    obtain⟨t,a⟩:=h1;exact⟨_,.d i,Dx X G a,⟨t,rfl⟩,λρ H=>.l i⟩
   |g y=>
    obtain⟨t,a⟩:=h1;exact⟨_,.e y,Dx X G a,⟨t,rfl⟩,λρ H=>.D y⟩
   |o ns=>
    obtain⟨a,h2,h3⟩:=h1;exact⟨_,.c a,Dx X G h2,rfl,λρ H=>.s h3⟩
   |_=>exact h1.elim
theorem int_mk(a:By K AJ x=some (some (.int i t))):iW K x (.c i):=⟨t,a⟩
theorem str_mk(a:By K AJ x=some (some (.str y t))):iW K x (.g y):=⟨t,a⟩
theorem qG:∀{us} {ns},mB us=some ns->L2.Vals (ns.map L2.V.d) us
 |[],_,h=>by cases h;exact .nil
 |u::us,ns,h=>by
  cases u with
  |int i t=>
   simp only[mB,Bt]at h;obtain⟨ms,h1,rfl⟩:=h;exact .cons ⟨t,rfl⟩ (qG h1)
  |_=>cases h
theorem ay(h:By K AJ x=some (some (.ref a)))
 (l:K.lookup a=some ⟨.type "tuple",od,.seq us.toArray n,sl⟩) (hz:us.length<=1000) (hi:mB us=some ns):iW K x (.o ns):=
 ⟨a,h,_,us.toArray,n,l,rfl,rfl,by rw[Ai,AK];omega,by simpa using qG hi⟩
structure UO(T:Tbl)(K:KF)(mg:Str->Option Value)(h:Heap)(tabs:List Addr):Prop where
 nd:tabs.Nodup
 b:tabs.length=T.f.length
 a:∀(i:Nat) (g:Str),T.f[i]?=some g->∃P,tabs[i]?=some P/\h.get? P=some (EM #[])/\K.lookup P=none/\Ga h P /\
  ∃(fa c:Addr) (o:Obj) (fd:Bn),mg g=some (.ref fa)/\K.lookup fa=some o/\o.data=.func fd/\fd.code=.ref c/\∀h':Heap,K.In h'->PySem.W.CodeHd h' c P
def Sb(K:KF)(tabs:List Addr):L2.Sp:=λvs H Q _=>∃(a:Addr) (ns:List Int),vs=[.c a]/\(∀b∈tabs,H b=some (.g #[]))/\L2.SqL K H a (ns.map L2.V.d)/\ns.length<=63/\∀H',Q (.f true) H'
theorem walk{l:PySem.W.OpenLaw}(hn:l.most=some 63)(hdf:d.params.defaults=[])(hr:L2.y9 n callerA)
 (hY:∀w h,YP w h->K.In h) (hF:T.d d.name 0=some F) (hx:F.b=[x])
 (TOP:∀w s₀ mg mb h,PySem.W.Ground q loose [] XP w s₀ mg mb h->K.In h->Top T K mg/\∃tabs,UO T K mg h tabs)
 (HL:∀ns:List Int,ns.length<=63->∃s',zD T n d.name 0 [.r ns] (T.f.map .d)=.e (.e true) s') :
 PySem.W.WalkO q loose XP YP l.row.toRowW d [] (λf vs=>PySem.call f vs):=by
 refine Att.ni hn hdf λw s₀ s₁ mg mb fa o pm cd doc a vs ns G Y ho hd hcd hmg hobj hints hlen hg=>?_;have KX:=hY w _ Y;obtain⟨top,tabs,TE⟩:=TOP w s₀ mg mb _ G KX;obtain⟨st,fa',fd',e1,e2,e3,e4⟩:=top.a _ _ _ hF;obtain⟨p1,p2,p3⟩:=wy e3;have nd:F.b.Nodup:=by rw[<-p2.c];exact p2.b.sublist (Fg _ _)
 rw[e1]at hmg;cases hmg;cases n with
 |zero=>
  obtain⟨s',hs⟩:=HL [] (by decide)
  cases hs
 |succ n=>
  have htab:∀b∈tabs,s₁.heap.get? b=some (EM #[])/\K.lookup b=none/\Ga s₁.heap b:=λb hb=>by
   obtain⟨i,hi,e⟩:=Bv hb;obtain⟨P,q1,q2,q3,q4,_⟩:=TE.a i _ (Aa (by rw[<-TE.b];exact hi))
   rw[Aa hi,e]at q1;cases q1;exact⟨q2,q3,q4⟩
  refine L2.gG (CX:=L2.CX0) (k:=n+1) (fd:=fd') (x:=x) (sp:=Sb K tabs) (tabs:=tabs) KX G.T.g G.T.b G.T.builtins G.T.nolimit hg hobj hints (Ay hlen (by decide)) hr htab (λbase kb nb=>?_) (λs u=>?_) (λH hT hS=>⟨a,ns,rfl,hT,hS,hlen,λ_=>rfl⟩) λ_ _ _ z=>z
  . have f4:=Y9 (P:=l.prog) (w:=w) (base:=base) top (λj hj=>W5 top kb n j hj) hF e1 e2 e3 e4
    rw[hx]at f4;refine f4.imp λvs H Q E ⟨a,ns,e,hT,hS,hl,hq⟩=>?_;subst e;obtain⟨s',hs⟩:=HL ns hl;refine⟨⟨tabs,[]⟩,T.f.map .d,[.r ns],⟨by rw[Ae];exact TE.b,TE.nd,λi c z=>?_,λa z=>by cases z⟩,.a (.F ?_) .d,?_⟩
    . rw[A2]at z
      cases hg:T.f[i]? with
      |none=>rw[hg]at z;cases z
      |some g=>
       rw[hg]at z;cases z;obtain⟨P,q1,q2,q3,q4,fn⟩:=TE.a i g hg;exact⟨P,q1,#[],hT P (AU q1),AZ,λpos cv hc=>(nomatch hc),fn⟩
    . rcases hS with hS|hS
      . refine .inl ⟨⟨λhm=>?_,by simp⟩,hS⟩
        have:=hT a hm;rcases hS with z|⟨o,z⟩<;>(rw[this]at z;cases z)
      . exact .inr hS
    . rw[hs]
      intro ρ' x' H' _ _ r;cases r;exact hq H'
  . obtain⟨oc,od,kV,doc,pm,an,cdv,ct,osl,e,_⟩:=e2.a
    subst e;refine .of_eq ?_;have:=wa (x:=d.name) (qual:=d.name) (body:=L2.zw st) (sc:=L2.zC st) (kV:=kV) (doc:=doc) (pm:=pm) (cdv:=cdv) (ct:=ct) (an:=an) p1 nd [u] (by rw[hx];rfl)
    rw[hx]at this;exact this
end M
end
section
namespace F
open PySem M
noncomputable def z7:Fn:=⟨["_law_script","_law_k"],["_law_script","_law_k"],false,(.e (.h (.a (.p .l (.e 1) (.k .b false (.a (.e 0) .b)))) (.e (.g (.u (.e 0) (.e 1))) .f) .f) (.e (.g (.g (.c 0))) .f))⟩
noncomputable def ya:Fn:=⟨["_law_pen_here","_law_many","_law_left","_law_found","_law_mixed"],["_law_pen_here","_law_many"],false,(.e (.h (.a (.p .a (.u (.e 0) (.g (.c 0))) (.g (.c 0)))) (.e (.n [2,3] (.k .g false (.a (.u (.e 0) (.g (.c 0))) (.a (.e 1) .b)))) (.e (.k (.e 0) (.g (.c 0)) (.e 2)) (.e (.g (.e 3)) .f))) .f) (.e (.k (.e 0) (.g (.c 1)) (.j false .c (.j false .b (.j false .a (.u (.e 0) (.g (.c 1))) (.g (.c 48271))) (.g (.c 30269))) (.g (.c 2147483629)))) (.e (.f 4 (.j false .c (.j false .b (.j false .b (.j false .a (.u (.e 0) (.g (.c 1))) (.u (.e 0) (.g (.c 1)))) (.j false .a (.g (.c 40692)) (.u (.e 0) (.g (.c 1))))) (.g (.c 7))) (.g (.c 2147483587)))) (.e (.g (.j false .c (.j false .d (.e 4) (.g (.c 64))) (.e 1))) .f))))⟩
noncomputable def yO:Fn:=⟨["_law_cell","_law_left"],["_law_cell"],true,(.e (.f 1 (.k .i false (.a (.e 0) (.a (.j false .f (.g (.c 0)) (.e 0)) .b)))) (.e (.g (.s true (.a (.j false .a (.e 1) (.k .o false (.a (.p .i (.e 1) (.j false .e (.g (.c 10)) (.g (.c 18)))) .b))) (.a (.j false .c (.e 1) (.g (.c 2147483629))) .b)))) .f))⟩
noncomputable def ye:Fn:=⟨["things","least","most"],["things","least","most"],false,(.e (.g (.k .p false (.a (.q false ["thing","least","most"] [none,some 1,some 2] (.h "is_whole" 0 (.a (.e 0) (.a (.e 1) (.a (.e 2) .b)))) (.a 0) (.g (.e 0)) .b) .b))) .f)⟩
noncomputable def xR:Fn:=⟨["thing","least","most"],["thing","least","most"],false,(.e (.g (.w (.k .k false (.a (.e 0) (.a (.K "int" "int") .b))) (.a (.F (.k .k false (.a (.e 0) (.a (.K "bool" "bool") .b)))) (.a (.r .h .h (.e 1) (.e 0) (.e 2)) .b)))) .f)⟩
noncomputable def zm:Fn:=⟨["thing","least","most"],["thing","least","most"],false,(.e (.h (.b (.a (.h "is_whole" 0 (.a (.e 0) (.a (.e 1) (.a (.e 2) .b)))))) (.e (.j (.h "NoNumber" 0 (.a (.e 1) (.a (.e 2) .b)))) .f) .f) .f)⟩
end F
end
section
namespace M
open PySem L2
noncomputable def RZ(n s f:Nat):List (Nat × Nat):=(AY ((n-1-f)/(s-1))).map λj=>(f,j+1)
def SK(n s:Nat):List (Nat × Nat):=(AY n).flatMap (RZ n s)
noncomputable def VB(ns:List Int)(f d s:Nat):Bool:=(AY s).all λk=>decide (ns[f+k*d]?=ns[f]?)
noncomputable def RE(z p:Nat)(r:Nat × Nat):Bool:=(AY z).any λk=>decide (r.1+k*r.2=p)
def atP(n z p:Nat):List (Nat × Nat):=(SK n z).filter (RE z p)
def Sz(zs:List Int):Prop:=1<=zs.length/\zs.length<=4/\∀x∈zs,2<=x/\x<=8
noncomputable def putL(ns:List Int)(p:Nat)(h:Int):List Int:=ns.take p++h::ns.drop (p+1)
def S9(ns:List Int)(z p:Nat)(h:Int):List (Nat × Nat):=(atP ns.length z p).filter λr=>VB (putL ns p h) r.1 r.2 z
noncomputable def wR(zs:List Int)(h:Nat):Nat:=(zs.getD h 0).toNat
def TV(zs ns:List Int)(p:Nat):List Nat:=(AY zs.length).filter λh=>(S9 ns (wR zs h) p h).isEmpty
theorem bq(hz:Sz zs)(hh:h<zs.length):zs[h]?=some ((wR zs h:Nat):Int)/\2<=wR zs h/\wR zs h<=8:=by
 have e:zs.getD h 0=zs[h]:=by rw[Aq,Aa hh];rfl
 have:=hz.2.2 zs[h] (B2 hh);unfold wR;rw[e,Aa hh];refine⟨?_,by omega,by omega⟩
 congr 1;omega
end M
end
section
namespace M
open PySem
def Out.post{α:Type}(o:Out α)(P:α->Sto->Prop):Prop:=∃a s,o=.e a s/\P a s
theorem zF{α:Type}{a:α}{s:Sto}{P:α->Sto->Prop}:(Out.e a s).post P↔P a s:=
 ⟨λ⟨_,_,e,h⟩=>(by cases e;exact h),λh=>⟨a,s,rfl,h⟩⟩
theorem zI{o:Out α}{f}{P:β->Sto->Prop}:(o.bind f).post P↔o.post λa s=>(f a s).post P:=by
 cases o with
 |e a s=>exact(zF (P:=λa s=>(f a s).post P)).symm
 |g c as s=>exact⟨λ⟨_,_,e,_⟩=>(by cases e),λ⟨_,_,e,_⟩=>(by cases e)⟩
 |d=>exact⟨λ⟨_,_,e,_⟩=>(by cases e),λ⟨_,_,e,_⟩=>(by cases e)⟩
theorem zN{o:Out α}{P Q}(h:o.post P)(i:∀a s,P a s->Q a s):o.post Q:=by obtain⟨a,s,e,h⟩:=h;exact⟨a,s,e,i a s h⟩
theorem zt{o:Out α}{P Q}(h:∀a s,P a s↔Q a s):o.post P↔o.post Q:=⟨λk=>zN k λa s=>(h a s).mp,λk=>zN k λa s=>(h a s).mpr⟩
theorem za{α:Type}{P:α->Sto->Prop}:(Out.d:Out α).post P↔False:=⟨λ⟨_,_,e,_⟩=>(by cases e),Al⟩
theorem xH{α:Type}{c:Prop} [Decidable c] {a b:Out α}{P:α->Sto->Prop}:(if c then a else b).post P↔if c then a.post P else b.post P:=by split<;>exact CT
theorem post_eq{o:Out α}{a}:o=.e a s↔o.post λx t=>x=a/\t=s:=⟨λh=>⟨a,s,h,rfl,rfl⟩,λ⟨_,_,h,e1,e2⟩=>(by rw[h,e1,e2])⟩
section
variable {Φ:Calls}{G:Str->Option Val}{env:Env}{s:Sto}
theorem Te{v:Val}{P:Val->Sto->Prop}:(evE Φ G env (.g v) s).post P↔P v s:=zF
theorem XU{i:Nat}{P:Val->Sto->Prop}:(evE Φ G env (.e i) s).post P↔∃v,env[i]?=some (some v)/\P v s:=by
 show (match env[i]? with|some (some v)=>Out.e v s|_=>.d).post P↔_
 split
 . rename_i v e
   refine zF.trans ⟨λh=>⟨_,e,h⟩,λ⟨u,h1,h2⟩=>?_⟩;rw[e]at h1;cases h1;exact h2
 . rename_i hn
   exact⟨λ⟨_,_,e,_⟩=>(by cases e),λ⟨u,h1,h2⟩=>absurd h1 (hn u)⟩
theorem Tc{x:Str}{P:Val->Sto->Prop}:(evE Φ G env (.E x) s).post P↔∃v,G x=some v/\P v s:=by
 show (match G x with|some v=>Out.e v s|dS=>.d).post P↔_
 split
 . rename_i v e
   refine zF.trans ⟨λh=>⟨_,e,h⟩,λ⟨u,h1,h2⟩=>?_⟩;rw[e]at h1;cases h1;exact h2
 . rename_i e
   exact⟨λ⟨_,_,e,_⟩=>(by cases e),λ⟨u,h1,h2⟩=>(by rw[e]at h1;cases h1)⟩
theorem RP{x:Str}{n:String}{P:Val->Sto->Prop}:(evE Φ G env (.K x n) s).post P↔P (.t n) s:=zF
theorem TY{m:Bool}{op:Bop}{a b:Ex}{P:Val->Sto->Prop}:(evE Φ G env (.j m op a b) s).post P↔(evE Φ G env a s).post λx s1=>(evE Φ G env b s1).post λy s2=>(binOp m op x y s2).post P:=by show (Out.bind _ _).post P↔_;simp only[zI]
theorem Tg{a:Ex}{P:Val->Sto->Prop}:(evE Φ G env (.A a) s).post P↔(evE Φ G env a s).post λx s1=>∃i,x=.c i/\P (.c (-i)) s1:=by show (Out.bind _ _).post P↔_;simp only[zI];exact zt λx s1=>by cases x<;>simp[zF,za]
theorem Th{a:Ex}{P:Val->Sto->Prop}:(evE Φ G env (.F a) s).post P↔(evE Φ G env a s).post λx s1=>∃b,x=.e b/\P (.e !b) s1:=by show (Out.bind _ _).post P↔_;simp only[zI];exact zt λx s1=>by cases x<;>simp[zF,za]
theorem Ta{op:Cop}{a b:Ex}{P:Val->Sto->Prop}:(evE Φ G env (.p op a b) s).post P↔(evE Φ G env a s).post λx s1=>(evE Φ G env b s1).post λy s2=>(zV op x y s2).post P:=by show (Out.bind _ _).post P↔_;simp only[zI]
theorem YA{op op':Cop}{a b c:Ex}{P:Val->Sto->Prop}:(evE Φ G env (.r op op' a b c) s).post P↔(evE Φ G env a s).post λx s1=>(evE Φ G env b s1).post λy s2=>(zV op x y s2).post λr s3=>∃t,r=.e t/\if t=true then (evE Φ G env c s3).post λz s4=>(zV op' y z s4).post P else P (.e false) s3:=by
 show (Out.bind _ _).post P↔_;simp only[zI];refine zt λx s1=>zt λy s2=>zt λr s3=>?_;cases r with
 |e t=>cases t<;>simp[zF,za,zI]
 |_=>simp[za]
theorem TX{a b:Ex}{es:Exs}{P:Val->Sto->Prop}:(evE Φ G env (.w a (.a b es)) s).post P↔(evE Φ G env a s).post λx s1=>∃t,x=.e t/\if t=true then (sj Φ G env (.a b es) s1).post P else P (.e false) s1:=by
 show (Out.bind _ _).post P↔_;simp only[zI];refine zt λx s1=>?_;cases x with
 |e t=>cases t<;>simp[zF,za]
 |_=>simp[za]
theorem VI{a:Ex}{P:Val->Sto->Prop}:(sj Φ G env (.a a .b) s).post P↔(evE Φ G env a s).post P:=CT
theorem VJ{a b:Ex}{es:Exs}{P:Val->Sto->Prop}:(sj Φ G env (.a a (.a b es)) s).post P↔(evE Φ G env a s).post λx s1=>∃t,x=.e t/\if t=true then (sj Φ G env (.a b es) s1).post P else P (.e false) s1:=by
 show ((evE Φ G env a s).bind λx s1=>match x with
  |.e true=>sj Φ G env (.a b es) s1
  |.e false=>.e (.e false) s1
  |_=>.d).post P↔_
 simp only[zI];refine zt λx s1=>?_;cases x with
 |e t=>cases t<;>simp[zF,za]
 |_=>simp[za]
theorem RM{a b:Ex}{es:Exs}{P:Val->Sto->Prop}:(evE Φ G env (.H a (.a b es)) s).post P↔(evE Φ G env a s).post λx s1=>∃t,truth s1 x=some t/\if t=true then P x s1 else (n5 Φ G env (.a b es) s1).post P:=by
 show (Out.bind _ _).post P↔_;simp only[zI];refine zt λx s1=>?_;cases truth s1 x with
 |some t=>cases t<;>simp[zF,za]
 |none=>simp[za]
theorem Ti{a:Ex}{P:Val->Sto->Prop}:(n5 Φ G env (.a a .b) s).post P↔(evE Φ G env a s).post P:=CT
theorem Tj{a b:Ex}{es:Exs}{P:Val->Sto->Prop}:(n5 Φ G env (.a a (.a b es)) s).post P↔(evE Φ G env a s).post λx s1=>∃t,truth s1 x=some t/\if t=true then P x s1 else (n5 Φ G env (.a b es) s1).post P:=by
 show ((evE Φ G env a s).bind λx s1=>match truth s1 x with
  |some false=>n5 Φ G env (.a b es) s1
  |some true=>.e x s1
  |dS=>.d).post P↔_
 simp only[zI];refine zt λx s1=>?_;cases truth s1 x with
 |some t=>cases t<;>simp[zF,za]
 |none=>simp[za]
theorem Td{c:Cn}{a b:Ex}{P:Val->Sto->Prop}:(evE Φ G env (.G c a b) s).post P↔(evT Φ G env c s).post λt s1=>if t=true then (evE Φ G env a s1).post P else (evE Φ G env b s1).post P:=by show (Out.bind _ _).post P↔_;simp only[zI,xH]
theorem To{es:Exs}{P:Val->Sto->Prop}:(evE Φ G env (.y es) s).post P↔(zi Φ G env es s).post λvs s1=>(if vs.length<=zb then Out.e (Val.f vs) s1 else .d).post P:=by show (Out.bind _ _).post P↔_;simp only[zI]
theorem Tf{m:Bool}{es:Exs}{P:Val->Sto->Prop}:(evE Φ G env (.s m es) s).post P↔(zi Φ G env es s).post λvs s1=>(if vs.length<=zb then newList m vs s1 else .d).post P:=by show (Out.bind _ _).post P↔_;simp only[zI]
theorem VM{f:Str}{v:Nat}{es:Exs}{P:Val->Sto->Prop}:(evE Φ G env (.h f v es) s).post P↔(zi Φ G env es s).post λvs s1=>(Φ f v vs s1).post P:=by show (Out.bind _ _).post P↔_;simp only[zI]
theorem XN{f:Bf}{m:Bool}{es:Exs}{P:Val->Sto->Prop}:(evE Φ G env (.k f m es) s).post P↔(zi Φ G env es s).post λvs s1=>(blt f m vs s1).post P:=by show (Out.bind _ _).post P↔_;simp only[zI]
theorem VP{f:Mf}{m:Bool}{o:Ex}{es:Exs}{P:Val->Sto->Prop}:(evE Φ G env (.J f m o es) s).post P↔(evE Φ G env o s).post λx s1=>(zi Φ G env es s1).post λvs s2=>(xk f x vs s2).post P:=by show (Out.bind _ _).post P↔_;simp only[zI]
theorem cj{m:Bool}{a b c:Ex}{P:Val->Sto->Prop}:(evE Φ G env (.l m a b c) s).post P↔(evE Φ G env a s).post λx s1=>(evE Φ G env b s1).post λy s2=>(evE Φ G env c s2).post λz s3=>(TF m x y z s3).post P:=by show (Out.bind _ _).post P↔_;simp only[zI]
theorem RL{a b:Ex}{P:Val->Sto->Prop}:(evE Φ G env (.u a b) s).post P↔(evE Φ G env a s).post λx s1=>(evE Φ G env b s1).post λy s2=>(vQ x y s2).post P:=by show (Out.bind _ _).post P↔_;simp only[zI]
theorem RN{m:Bool}{a:Ex}{lo hi st:OEx}{P:Val->Sto->Prop}:(evE Φ G env (.L m a lo hi st) s).post P↔(evE Φ G env a s).post λx s1=>(evO Φ G env lo s1).post λl s2=>(evO Φ G env hi s2).post λh s3=>(evO Φ G env st s3).post λc s4=>(qv m x l h c s4).post P:=by show (Out.bind _ _).post P↔_;simp only[zI]
theorem VQ{P:Option Int->Sto->Prop}:(evO Φ G env .b s).post P↔P none s:=zF
theorem VR{e:Ex}{P:Option Int->Sto->Prop}:(evO Φ G env (.a e) s).post P↔(evE Φ G env e s).post λv s1=>∃i,v=.c i/\P (some i) s1:=by show (Out.bind _ _).post P↔_;simp only[zI];exact zt λx s1=>by cases x<;>simp[zF,za]
theorem cm{P:List Val->Sto->Prop}:(zi Φ G env .b s).post P↔P [] s:=zF
theorem kY{e:Ex}{es:Exs}{P:List Val->Sto->Prop}:(zi Φ G env (.a e es) s).post P↔(evE Φ G env e s).post λv s1=>(zi Φ G env es s1).post λvs s2=>P (v::vs) s2:=by show (Out.bind _ _).post P↔_;simp only[zI,zF]
theorem XS{e:Ex}{P:Bool->Sto->Prop}:(evT Φ G env (.a e) s).post P↔(evE Φ G env e s).post λv s1=>∃b,truth s1 v=some b/\P b s1:=by
 show (Out.bind (evE Φ G env e s) _).post P↔_;simp only[zI];refine⟨λh=>zN h λv s1 h=>?_,λh=>zN h λv s1 h=>?_⟩
 . split at h
   . rename_i b e;exact⟨b,e,zF.mp h⟩
   . obtain⟨_,_,e,_⟩:=h;cases e
 . obtain⟨b,e,h⟩:=h
   rw[e];exact zF.mpr h
theorem VW{c:Cn}{P:Bool->Sto->Prop}:(evT Φ G env (.b c) s).post P↔(evT Φ G env c s).post λb s1=>P (!b) s1:=by show (Out.bind _ _).post P↔_;simp only[zI,zF]
theorem VV{c:Cn}{cs:Cns}{P:Bool->Sto->Prop}:(evT Φ G env (.d c cs) s).post P↔(evT Φ G env c s).post λb s1=>if b=true then (wF Φ G env cs s1).post P else P false s1:=by show (Out.bind _ _).post P↔_;simp only[zI,xH,zF]
theorem Tn{c:Cn}{cs:Cns}{P:Bool->Sto->Prop}:(evT Φ G env (.f c cs) s).post P↔(evT Φ G env c s).post λb s1=>if b=true then P true s1 else (sG Φ G env cs s1).post P:=by show (Out.bind _ _).post P↔_;simp only[zI,xH,zF]
theorem nF{P:Bool->Sto->Prop}:(wF Φ G env .b s).post P↔P true s:=zF
theorem YE{P:Bool->Sto->Prop}:(sG Φ G env .b s).post P↔P false s:=zF
theorem cq{c:Cn}{cs:Cns}{P:Bool->Sto->Prop}:(wF Φ G env (.a c cs) s).post P↔(evT Φ G env c s).post λb s1=>if b=true then (wF Φ G env cs s1).post P else P false s1:=by show (Out.bind _ _).post P↔_;simp only[zI,xH,zF]
theorem cn{c:Cn}{cs:Cns}{P:Bool->Sto->Prop}:(sG Φ G env (.a c cs) s).post P↔(evT Φ G env c s).post λb s1=>if b=true then P true s1 else (sG Φ G env cs s1).post P:=by show (Out.bind _ _).post P↔_;simp only[zI,xH,zF]
theorem cb{e:Ex}{P:Src->Sto->Prop}:(xA Φ G env (.g e) s).post P↔(evE Φ G env e s).post λv s1=>∃r,srcOf s1 v=some r/\P r s1:=by
 show (Out.bind _ _).post P↔_;simp only[zI];refine⟨λh=>zN h λv s1 h=>?_,λh=>zN h λv s1 h=>?_⟩
 . split at h
   . rename_i b e;exact⟨b,e,zF.mp h⟩
   . obtain⟨_,_,e,_⟩:=h;cases e
 . obtain⟨b,e,h⟩:=h
   rw[e];exact zF.mpr h
theorem mU{a:Ex}{P:Src->Sto->Prop}:(xA Φ G env (.d a) s).post P↔(evE Φ G env a s).post λx s1=>∃j,x=.c j/\(-(2 ^ 62)<=j/\j<=zb)/\P ⟨xB 0 j.toNat,dS⟩ s1:=by
 show (Out.bind _ _).post P↔_;simp only[zI];refine⟨λh=>zN h λv s1 h=>?_,λh=>zN h λv s1 h=>?_⟩
 . split at h
   . rw[xH]at h
     split at h
     . rename_i j z;exact⟨_,rfl,z,zF.mp h⟩
     . obtain⟨_,_,e,_⟩:=h;cases e
   . obtain⟨_,_,e,_⟩:=h;cases e
 . obtain⟨j,rfl,z,h⟩:=h
   simp only[if_pos z];exact zF.mpr h
theorem mV{a b:Ex}{P:Src->Sto->Prop}:(xA Φ G env (.f a b) s).post P↔(evE Φ G env a s).post λx s1=>(evE Φ G env b s1).post λy s2=>∃i j,x=.c i/\y=.c j/\(-(2 ^ 62)<=i/\i<2 ^ 62∧-(2 ^ 62)<=j/\j<2 ^ 62/\j-i<=zb)/\P ⟨xB i (j-i).toNat,dS⟩ s2:=by
 show (Out.bind _ _).post P↔_;simp only[zI];refine⟨λh=>zN h λv s1 h=>zN h λw s2 h=>?_,λh=>zN h λv s1 h=>zN h λw s2 h=>?_⟩
 . split at h
   . rw[xH]at h
     split at h
     . rename_i z;exact⟨_,_,rfl,rfl,z,zF.mp h⟩
     . obtain⟨_,_,e,_⟩:=h;cases e
   . obtain⟨_,_,e,_⟩:=h;cases e
 . obtain⟨i,j,rfl,rfl,z,h⟩:=h
   simp only[if_pos z];exact zF.mpr h
theorem VO{a:Ex}{P:Src->Sto->Prop}:(xA Φ G env (.i a) s).post P↔(evE Φ G env a s).post λx s1=>∃vs,(x=.f vs\/x=.m vs)/\P ⟨ju 0 vs,dS⟩ s1:=by
 show (Out.bind _ _).post P↔_;simp only[zI];refine⟨λh=>zN h λv s1 h=>?_,λh=>zN h λv s1 h=>?_⟩
 . split at h
   . exact⟨_,.inl rfl,zF.mp h⟩
   . exact⟨_,.inr rfl,zF.mp h⟩
   . obtain⟨_,_,e,_⟩:=h;cases e
 . obtain⟨j,rfl|rfl,h⟩:=h<;>exact zF.mpr h
theorem cZ{e:Ex}{P:Fl->Sto->Prop}:(exS Φ G env (.d e) s).post P↔(evE Φ G env e s).post λ_ s1=>P (.a env) s1:=by show (Out.bind _ _).post P↔_;simp only[zI,zF]
theorem XQ{e:Ex}{P:Fl->Sto->Prop}:(exS Φ G env (.g e) s).post P↔(evE Φ G env e s).post λv s1=>P (.b v) s1:=by show (Out.bind _ _).post P↔_;simp only[zI,zF]
theorem VT{P:Fl->Sto->Prop}:(exS Φ G env .s s).post P↔P (.b .h) s:=zF
theorem cW{i:Nat}{e:Ex}{P:Fl->Sto->Prop}:(exS Φ G env (.f i e) s).post P↔(evE Φ G env e s).post λv s1=>P (.a (env.set i (some v))) s1:=by show (Out.bind _ _).post P↔_;simp only[zI,zF]
theorem VL{is:List Nat}{e:Ex}{P:Fl->Sto->Prop}:(exS Φ G env (.n is e) s).post P↔(evE Φ G env e s).post λv s1=>∃env',yh (.b is) v env=some env'/\P (.a env') s1:=by
 show (Out.bind _ _).post P↔_;simp only[zI];refine⟨λh=>zN h λv s1 h=>?_,λh=>zN h λv s1 h=>?_⟩
 . split at h
   . rename_i b e;exact⟨b,e,zF.mp h⟩
   . obtain⟨_,_,e,_⟩:=h;cases e
 . obtain⟨b,e,h⟩:=h
   rw[e];exact zF.mpr h
theorem XO{is:List Nat}{es:Exs}{P:Fl->Sto->Prop}:(exS Φ G env (.q is es) s).post P↔(zi Φ G env es s).post λvs s1=>(if vs.length=is.length then Out.e (Fl.a ((is.zip vs).foldl (λe p=>e.set p.1 (some p.2)) env)) s1 else .d).post P:=by show (Out.bind _ _).post P↔_;simp only[zI]
theorem YD{o i e:Ex}{P:Fl->Sto->Prop}:(exS Φ G env (.k o i e) s).post P↔(evE Φ G env e s).post λv s1=>(evE Φ G env o s1).post λx s2=>(evE Φ G env i s2).post λy s3=>∃r k vs j,x=.j r/\y=.c k/\s3[r]?=some (.c vs)/\L2.ixN vs.length k=some j/\P (.a env) (upd s3 r (vs.set j v)):=by
 show (Out.bind _ _).post P↔_;simp only[zI];refine zt λv s1=>zt λx s2=>zt λy s3=>⟨λh=>?_,λ⟨r,k,vs,j,h1,h2,h3,h4,h5⟩=>?_⟩
 . split at h
   . split at h
     . rename_i e3
       split at h
       . rename_i e4;exact⟨_,_,_,_,rfl,rfl,e3,e4,zF.mp h⟩
       . exact(za.mp h).elim
     . exact(za.mp h).elim
   . exact(za.mp h).elim
 . subst h1;subst h2
   simp only[h3,h4];exact zF.mpr h5
theorem YC{c:Cn}{a b:Sms}{P:Fl->Sto->Prop}:(exS Φ G env (.h c a b) s).post P↔(evT Φ G env c s).post λt s1=>if t=true then (zX Φ G env a s1).post P else (zX Φ G env b s1).post P:=by show (Out.bind _ _).post P↔_;simp only[zI,xH]
theorem VS{P:Fl->Sto->Prop}:(exS Φ G env .r s).post P↔P (.a env) s:=zF
theorem TZ{P:Fl->Sto->Prop}:(exS Φ G env .v s).post P↔P (.c env) s:=zF
theorem VN{P:Fl->Sto->Prop}:(exS Φ G env .p s).post P↔P (.d env) s:=zF
theorem kZ{P:Fl->Sto->Prop}:(zX Φ G env .f s).post P↔P (.a env) s:=zF
def qj(Φ:Calls)(G:Str->Option Val)(cs:Sms)(P:Fl->Sto->Prop):Fl->Sto->Prop
 |.a e,s1=>(zX Φ G e cs s1).post P
 |fl,s1=>P fl s1
theorem yP{c:Sm}{cs:Sms}{P:Fl->Sto->Prop}:(zX Φ G env (.e c cs) s).post P↔(exS Φ G env c s).post (qj Φ G cs P):=by
 show (Out.bind _ _).post P↔_;simp only[zI];have:∀fl s1,(match fl with|.a e=>zX Φ G e cs s1|fl=>Out.e fl s1:Out Fl).post P↔qj Φ G cs P fl s1:=λfl s1=>by
  cases fl with
  |a e=>exact CT
  |_=>exact zF
 exact⟨λh=>zN h λfl s1 h=>(this fl s1).mp h,λh=>zN h λfl s1 h=>(this fl s1).mpr h⟩
theorem Ym{cs:Sms}{P:Fl->Sto->Prop}{e:Env}:qj Φ G cs P (.a e) s↔(zX Φ G e cs s).post P:=CT
theorem Yn{cs:Sms}{P:Fl->Sto->Prop}{v:Val}:qj Φ G cs P (.b v) s↔P (.b v) s:=CT
theorem Yk{cs:Sms}{P:Fl->Sto->Prop}{v:Env}:qj Φ G cs P (.c v) s↔P (.c v) s:=CT
theorem Yl{cs:Sms}{P:Fl->Sto->Prop}{v:Env}:qj Φ G cs P (.d v) s↔P (.d v) s:=CT
theorem qK{I:Env->Prop}(hr:r.ok s=true):∀xs,(∀x∈xs,∀e acc,I e->∃e1 e2,yh t x e=some e1/\body e1 s acc=.e (acc++g x,e2) s/\I e2)->∀e acc,I e->∃e',I e'/\yb r t body xs e s acc=.e (acc++xs.flatMap g,e') s
 |[],_,e,acc,h0=>⟨e,h0,by simp[yb,hr]⟩
 |x::xs,h,e,acc,h0=>by obtain⟨e1,e2,h1,h2,h3⟩:=h x (.head _) e acc h0;obtain⟨e',h4,h5⟩:=qK hr xs (λy hy=>h y (.tail _ hy)) e2 (acc++g x) h3;refine⟨e',h4,?_⟩;simp only[yb,hr,if_true,h1,h2,zQ,h5,List.flatMap_cons,BJ]
theorem cY(I:Env->Prop)g
 (h:(xA Φ G env it s).post λr s1=>r.ok s1=true/\I (zo fr env)/\(∀x∈r.a,∀e,I e->∃e1,yh t x e=some e1/\I e1/\(wF Φ G e1 ifs s1).post λb s2=>s2=s1/\if b=true then (evE Φ G e1 elt s1).post (λv s2=>s2=s1/\g x=[v]) else g x=[])/\(newList m (r.a.flatMap g) s1).post P) :
 (evE Φ G env (.q m N fr elt t it ifs) s).post P:=by
 obtain⟨r,s1,ei,h1,h2,h3,h4⟩:=h;obtain⟨e',_,h5⟩:=qK (I:=I) (g:=g) (body:=λe s' acc=>(wF Φ G e ifs s').bind λb s2=>if b then (evE Φ G e elt s2).bind λv s3=>.e (acc++[v],e) s3 else .e (acc,e) s2) h1 r.a (λx hx e acc he=>by
  obtain⟨e1,k1,k2,b,s2,k3,rfl,k4⟩:=h3 x hx e he;refine⟨e1,e1,k1,?_,k2⟩;rw[k3,zQ];cases b with
  |true=>
   rw[if_pos rfl]at k4 ⊢;obtain⟨v,s3,kw,rfl,kv⟩:=k4;rw[kw,zQ,kv]
  |false=>
   rw[if_neg Ad]at k4 ⊢;rw[k4,A9]) (zo fr env) [] h2
 show (Out.bind (xA Φ G env it s) _).post P;rw[ei,zQ];rw[h5,zQ];exact h4
theorem pT(Q:List Val->Env->Sto->List Val->Prop):∀xs,(∀e s acc,Q [] e s acc->r.ok s=true)->(∀x rest e s acc,Q (x::rest) e s acc->r.ok s=true/\∃e1,yh t x e=some e1/\(body e1 s acc).post λp s2=>Q rest p.2 s2 p.1)->∀e s acc,Q xs e s acc->(yb r t body xs e s acc).post λp s2=>Q [] p.2 s2 p.1
 |[],h0,_,e,s,acc,q=>by
  simp only[yb,h0 e s acc q,if_true];exact zF.mpr q
 |x::xs,h0,h,e,s,acc,q=>by obtain⟨h1,e1,h2,h3⟩:=h x xs e s acc q;simp only[yb,h1,if_true,h2,zI];exact zN h3 λp s2 q=>pT Q xs h0 h p.2 s2 p.1 q
theorem YB(Q:List Val->Env->Sto->List Val->Prop)
 (h:(xA Φ G env it s).post λr s1=>Q r.a (zo fr env) s1 []/\(∀rest e s acc,Q rest e s acc->r.ok s=true)/\(∀x rest e s acc,Q (x::rest) e s acc->∃e1,yh t x e=some e1/\(wF Φ G e1 ifs s).post λb s2=>if b=true then (evE Φ G e1 elt s2).post (λv s3=>Q rest e1 s3 (acc++[v])) else Q rest e1 s2 acc)/\∀e s acc,Q [] e s acc->(newList m acc s).post P) :
 (evE Φ G env (.q m N fr elt t it ifs) s).post P:=by
 obtain⟨r,s1,ei,h1,h2,h3,h4⟩:=h;show (Out.bind (xA Φ G env it s) _).post P;rw[ei,zQ,zI];refine zN (pT Q r.a (λe s acc q=>h2 _ e s acc q) (λx rest e s acc q=>⟨h2 _ e s acc q,?_⟩) _ _ _ h1) λp s2 q=>h4 _ _ _ q;obtain⟨e1,k1,k2⟩:=h3 x rest e s acc q;refine⟨e1,k1,?_⟩;simp only[zI];refine zN k2 λb s2 k=>?_;cases b with
 |true=>
  rw[if_pos rfl]at k ⊢;simp only[zI,zF];exact k
 |false=>
  rw[if_neg Ad]at k ⊢;exact zF.mpr k
theorem sL(Q:List Val->Env->Sto->Prop)(R:Fl->Sto->Prop){r:Src}{t:Tgt}{body:Env->Sto->Out Fl}(h0:∀e s,Q [] e s->R (.a e) s):∀(xs:List Val),(∀rest e s,Q rest e s->r.ok s=true)->(∀x rest e s,Q (x::rest) e s->∃e1,yh t x e=some e1/\(body e1 s).post λfl s2=>match fl with|.a e=>Q rest e s2|.d e=>Q rest e s2|.c e=>R (.a e) s2|.b v=>R (.b v) s2)->∀e s,Q xs e s->(vL r t body xs e s).post R
 |[],hk,_,e,s,q=>by
  simp only[vL,hk _ _ _ q,if_true];exact zF.mpr (h0 _ _ q)
 |x::xs,hk,h,e,s,q=>by
  obtain⟨e1,h2,h3⟩:=h x xs e s q;simp only[vL,hk _ _ _ q,if_true,h2,zI];refine zN h3 λfl s2 q=>?_;cases fl with
  |a e=>exact sL Q R h0 xs hk h e s2 q
  |d e=>exact sL Q R h0 xs hk h e s2 q
  |c e=>exact zF.mpr q
  |b v=>exact zF.mpr q
def su(Q:Env->Sto->Prop)(R:Fl->Sto->Prop):Fl->Sto->Prop
 |.a e,s=>Q e s
 |.d e,s=>Q e s
 |.c e,s=>R (.a e) s
 |.b v,s=>R (.b v) s
theorem Yc{Q:Env->Sto->Prop}{R:Fl->Sto->Prop}{e:Env}:su Q R (.a e) s↔Q e s:=CT
theorem Yb{Q:Env->Sto->Prop}{R:Fl->Sto->Prop}{e:Env}:su Q R (.d e) s↔Q e s:=CT
theorem YZ{Q:Env->Sto->Prop}{R:Fl->Sto->Prop}{e:Env}:su Q R (.c e) s↔R (.a e) s:=CT
theorem Yd{Q:Env->Sto->Prop}{R:Fl->Sto->Prop}{v:Val}:su Q R (.b v) s↔R (.b v) s:=CT
theorem Tb(Q:List Val->Env->Sto->Prop)
 (h:(xA Φ G env it s).post λr s1=>Q r.a env s1/\(∀rest e s,Q rest e s->r.ok s=true)/\(∀x rest e s,Q (x::rest) e s->∃e1,yh t x e=some e1/\(zX Φ G e1 b s).post (su (Q rest) R))/\∀e s,Q [] e s->R (.a e) s) :
 (exS Φ G env (.l t it b) s).post R:=by
 obtain⟨r,s1,ei,h1,h2,h3,h4⟩:=h;show (Out.bind (xA Φ G env it s) _).post R;rw[ei,zQ];refine sL Q R h4 r.a h2 (λx rest e s q=>?_) _ _ h1;obtain⟨e1,k1,k2⟩:=h3 x rest e s q;refine⟨e1,k1,zN k2 λfl s2 k=>?_⟩;cases fl<;>exact k
theorem nE(Q:List Val->Env->Sto->Prop)xs(hi:xA Φ G env it s=.e ⟨xs,dS⟩ s1)(h0:Q xs env s1)
 (h1:∀x rest e s,Q (x::rest) e s->∃e1,yh t x e=some e1/\(zX Φ G e1 b s).post (su (Q rest) R)) (h2:∀e s,Q [] e s->R (.a e) s) :
 (exS Φ G env (.l t it b) s).post R:=Tb Q ⟨_,_,hi,h0,λ_ _ _ _=>rfl,h1,h2⟩
theorem iD(I:Env->Prop)g xs(hi:xA Φ G env it s=.e ⟨xs,dS⟩ s1)(h0:I (zo fr env))
 (h1:∀x∈xs,∀e,I e->∃e1,yh t x e=some e1/\I e1/\(wF Φ G e1 ifs s1).post λb s2=>s2=s1/\if b=true then (evE Φ G e1 elt s1).post (λv s2=>s2=s1/\g x=[v]) else g x=[]) (h2:(newList m (xs.flatMap g) s1).post P) :
 (evE Φ G env (.q m N fr elt t it ifs) s).post P:=cY I g ⟨_,_,hi,rfl,h0,h1,h2⟩
theorem gL(Q:Nat->Env->Sto->Prop)R:∀n k,n<k->(∀n e s,Q n e s->(c e s).post λb s1=>if b=true then (body e s1).post (su (λe s=>∃m,m<n/\Q m e s) R) else R (.a e) s1)->∀e s,Q n e s->(vY c body k e s).post R:=by
 intro n;induction n using Nat.strongRecOn with
 |ind n ih=>
  intro k hk h e s q;cases k with
  |zero=>omega
  |succ k=>
   simp only[vY,zI];refine zN (h n e s q) λb s1 z=>?_;cases b with
   |true=>
    rw[if_pos rfl]at z ⊢;simp only[zI];refine zN z λfl s2 z=>?_;cases fl with
    |a e=>
     obtain⟨m,h1,h2⟩:=z;exact ih m h1 k (by omega) h e s2 h2
    |d e=>
     obtain⟨m,h1,h2⟩:=z;exact ih m h1 k (by omega) h e s2 h2
    |c e=>exact zF.mpr z
    |b v=>exact zF.mpr z
   |false=>
    rw[if_neg Ad]at z ⊢;exact zF.mpr z
theorem YF n(Q:Nat->Env->Sto->Prop)(hn:n<jY)(q:Q n env s)
 (h:∀n e s,Q n e s->(evT Φ G e c s).post λt s1=>if t=true then (zX Φ G e b s1).post (su (λe s=>∃m,m<n/\Q m e s) R) else R (.a e) s1) :
 (exS Φ G env (.m c b) s).post R:=gL Q R n jY hn h env s q
end
theorem Yp{s:Sto}:truth s .h=some false:=rfl
theorem zh{s:Sto}{b:Bool}:truth s (.e b)=some b:=rfl
theorem V9{s:Sto}{i:Int}:truth s (.c i)=some (i != 0):=rfl
theorem UB{s:Sto}{vs:List Val}:truth s (.f vs)=some !vs.isEmpty:=rfl
theorem UA{s:Sto}{vs:List Val}:truth s (.m vs)=some !vs.isEmpty:=rfl
theorem Vx{s:Sto}{vs:List Val}:srcOf s (.f vs)=some ⟨vs,dS⟩:=rfl
theorem Vw{s:Sto}{vs:List Val}:srcOf s (.m vs)=some ⟨vs,dS⟩:=rfl
theorem YY{s:Sto}{ns:List Int}:srcOf s (.o ns)=some ⟨ns.map .c,dS⟩:=rfl
theorem bt{s:Sto}{xs:List Val}:Src.ok ⟨xs,dS⟩ s=true:=rfl
theorem UT{i:Nat}{v:Val}{env:Env}:yh (.a i) v env=some (env.set i (some v)):=rfl
theorem Xy{is:List Nat}{vs:List Val}{env:Env}:yh (.b is) (.f vs) env=if vs.length=is.length then some ((is.zip vs).foldl (λe p=>e.set p.1 (some p.2)) env) else dS:=rfl
theorem fo vs:tm vs vs=true:=vy vs
theorem nk(c:Cel):c.beq c=true:=by cases c<;>simp[Cel.beq,fo]
theorem v7:∀s t,wI s (s++t)=true
 |[],_=>rfl
 |c::r,t=>by simp[wI,nk c,v7 r t]
theorem kQ s:wI s s=true:=by have:=v7 s [];rwa [A9]at this
theorem qT:∀s t i c,c.noRef=true->wI s (s.set i c++t)=true
 |[],_,_,_,_=>by simp[wI]
 |_::r,t,0,c,h=>by simp[wI,h,v7 r t]
 |o::r,t,i+1,c,h=>by simp[wI,nk o,qT r t i c h]
theorem gQ s t i vs(h:zy vs=true):wI s (s.set i (.c vs)++t)=true:=qT s t i _ h
theorem Zw:Val.h.noRef=true:=by rw[Val.noRef]
theorem rO{b:Bool}:(Val.e b).noRef=true:=by rw[Val.noRef]
theorem nB{b:Int}:(Val.c b).noRef=true:=by rw[Val.noRef]
theorem W8{b:Str}:(Val.g b).noRef=true:=by rw[Val.noRef]
theorem W9{vs:List Val}:(Val.f vs).noRef=zy vs:=by rw[Val.noRef]
theorem W7{vs:List Val}:(Val.m vs).noRef=zy vs:=by rw[Val.noRef]
theorem Zx:zy []=true:=by rw[zy]
theorem cO{v:Val}{vs:List Val}:zy (v::vs)=(v.noRef&&zy vs):=by rw[zy]
theorem vd:∀ns:List Int,zy (ns.map .c)=true
 |[]=>rfl
 |_::ns=>by simp[zy,Val.noRef,vd ns]
theorem qP:∀zs:List (Int × Int),zy (zs.map prV)=true
 |[]=>rfl
 |_::zs=>by simp[zy,Val.noRef,prV,qP zs]
def yI(k:Bool)(s0:Sto)(v:Val)(s:Sto):Out Val:=
 if k then .e v s
 else if wI s0 s then (match freeze s0.length s v with|some v'=>.e v' (s.take s0.length)|dS=>.d) else .d
theorem mL{s0 s:Sto}{v:Val}:yI true s0 v s=.e v s:=rfl
theorem w9{k:Bool}{s:Sto}{v:Val}(h:v.noRef=true):yI k s v s=.e v s:=by
 unfold yI;cases k
 . simp[kQ,freeze,h]
 . rfl
theorem kF(h:v.noRef=true):yI false s v (s++t)=.e v s:=by unfold yI;simp[v7,freeze,h]
theorem kG(h:v.noRef=true)(hv:zy vs=true):yI false s v (s.set i (.c vs)++t)=.e v (s.set i (.c vs)):=by
 unfold yI;have e:s.length=(s.set i (.c vs)).length:=by rw[Cz]
 simp only[gQ s t i vs hv,freeze,h,if_true,AX,if_false,e,List.take_left']
theorem gH(h:v.noRef=true)(hv:zy vs=true):yI false s v (s.set i (.c vs))=.e v (s.set i (.c vs)):=by
 have:=kG (s:=s) (t:=[]) (i:=i) h hv
 rwa [A9]at this
def fin(k:Bool)(s:Sto)(P:Val->Sto->Prop):Fl->Sto->Prop
 |.a _,s1=>(yI k s .h s1).post P
 |.b v,s1=>(yI k s v s1).post P
 |_,_=>False
theorem WE{k:Bool}{s s1:Sto}{P:Val->Sto->Prop}{e:Env}:fin k s P (.a e) s1↔(yI k s .h s1).post P:=CT
theorem WG{k:Bool}{s s1:Sto}{P:Val->Sto->Prop}{v:Val}:fin k s P (.b v) s1↔(yI k s v s1).post P:=CT
theorem we{T:Tbl}{Φ:Calls}{N ps:List Str}{k:Bool}{b:Sms}{vs:List Val}{s:Sto}{P:Val->Sto->Prop}:(run T Φ ⟨N,ps,k,b⟩ vs s).post P↔vs.length=ps.length/\(zX Φ T.b (zu N vs) b s).post (fin k s P):=by
 unfold run;by_cases hl:vs.length=ps.length
 . rw[if_pos hl,zI]
   refine⟨λh=>⟨hl,zN h λfl s1 h=>?_⟩,λh=>zN h.2 λfl s1 h=>?_⟩
   . cases fl<;>first|exact h|exact(za.mp h).elim
   . cases fl<;>first|exact h|exact h.elim
 . rw[if_neg hl]
   exact⟨λh=>(za.mp h).elim,λh=>absurd h.1 hl⟩
theorem zq(h:T.d f v=some F)vs s:zD T (n+1) f v vs s=run T (zD T n) F vs s:=by simp only[zD,h]
theorem rh(h:T.d f v=some F)(hl:vs.length=F.b.length)s:zS T (n+1) f v vs s=xSs (λc=>(T.c.lookup c).isSome) (zD T n) (zS T n) T.b (zu F.N vs) F.a s:=by simp only[zS,h];rw[if_pos hl]
def At(T:Tbl)(k:Nat)(C:Calls->Prop):Prop:=∀n,k<=n->C (zD T n)
def EVl:=Ab @Te <| Ab @XU <| Ab @Tc <| Ab @RP <| Ab @TY <| Ab @Tg <| Ab @Th <| Ab @Ta <| Ab @YA <| Ab @TX <| Ab @VI <| Ab @VJ <| Ab @RM <| Ab @Ti <| Ab @Tj <| Ab @Td <| Ab @To <| Ab @Tf <| Ab @VM <| Ab @XN <| Ab @VP <| Ab @cj <| Ab @RL <| Ab @RN <| Ab @VQ <| Ab @VR <| Ab @cm <| Ab @kY <| Ab @XS <| Ab @VW <| Ab @VV <| Ab @Tn <| Ab @nF <| Ab @YE <| Ab @cq <| Ab @cn <| Ab @cb <| Ab @mU <| Ab @mV <| Ab @VO <| Ab @cZ <| Ab @XQ <| Ab @VT <| Ab @cW <| Ab @VL <| Ab @XO <| Ab @YD <| Ab @YC <| Ab @VS <| Ab @TZ <| Ab @VN <| Ab @kZ <| Ab @yP <| Ab @Ym <| Ab @Yn <| Ab @Yk <| Ab @Yl <| Ab @Yc <| Ab @Yb <| Ab @YZ <| Ab @Yd <| Ab @zF <| Ab @xH <| Ab @za <| Ab @Yp <| Ab @zh <| Ab @V9 <| Ab @UB <| Ab @UA <| Ab @Vx <| Ab @Vw <| Ab @YY <| Ab @bt <| Ab @UT <| Ab @Xy <| Ab @we <| Ab @WE <| Ab @WG <| Ab @mL <| Ab @w9 <| Ab @Zw <| Ab @rO <| Ab @nB <| Ab @W8 <| Ab @W9 <| Ab @W7 <| Ab @Zx <| Ab @cO <| Ab @vd <| @qP
end M
end
section
namespace M
open PySem
theorem bnd{o:Out α}{a}{f}{r:Out β}(h:o=.e a s)(k:f a s=r):o.bind f=r:=by rw[h];exact k
section
variable {Φ:Calls}{G:Str->Option Val}{env:Env}{s s1 s2 s3 s4:Sto}
theorem zG:evE Φ G env (.g v) s=.e v s:=rfl
theorem zB(h:env[i]?=some (some v)):evE Φ G env (.e i) s=.e v s:=post_eq.mpr (XU.mpr ⟨v,h,rfl,rfl⟩)
theorem lK:evE Φ G env (.K x n) s=.e (.t n) s:=rfl
theorem pA(h:G x=some v):evE Φ G env (.E x) s=.e v s:=post_eq.mpr (Tc.mpr ⟨v,h,rfl,rfl⟩)
theorem aT(h1:evE Φ G env a s=.e (.e false) s1):evE Φ G env (.w a (.a b es)) s=.e (.e false) s1:=bnd h1 rfl
theorem aU(h1:evE Φ G env a s=.e (.e true) s1)(h2:evE Φ G env b s1=.e (.e false) s2):evE Φ G env (.w a (.a b (.a c es))) s=.e (.e false) s2:=bnd h1 (show (evE Φ G env b s1).bind _=_ from bnd h2 rfl)
theorem aV(h1:evE Φ G env a s=.e (.e true) s1)(h2:evE Φ G env b s1=.e (.e true) s2)(h3:evE Φ G env c s2=r):evE Φ G env (.w a (.a b (.a c .b))) s=r:=bnd h1 (show (evE Φ G env b s1).bind _=_ from bnd h2 h3)
theorem lJ(h:evE Φ G env a s=.e (.c i) s1):evE Φ G env (.A a) s=.e (.c (-i)) s1:=bnd h rfl
theorem zW(h1:evE Φ G env a s=.e x s1)(h2:evE Φ G env b s1=.e y s2)(h3:binOp m op x y s2=r):evE Φ G env (.j m op a b) s=r:=bnd h1 (bnd h2 h3)
theorem yi(h1:evE Φ G env a s=.e x s1)(h2:evE Φ G env b s1=.e y s2)(h3:zV op x y s2=r):evE Φ G env (.p op a b) s=r:=bnd h1 (bnd h2 h3)
theorem vH(h1:evE Φ G env a s=.e x s1)(h2:evE Φ G env b s1=.e y s2)(h3:vQ x y s2=r):evE Φ G env (.u a b) s=r:=bnd h1 (bnd h2 h3)
theorem Zy:evO Φ G env .b s=.e none s:=rfl
theorem XI(h:evE Φ G env e s=.e (.c i) s1):evO Φ G env (.a e) s=.e (some i) s1:=bnd h rfl
theorem Sw(h0:evE Φ G env a s=.e x s1)(h1:evO Φ G env lo s1=.e l s2)(h2:evO Φ G env hi s2=.e h s3)(h3:evO Φ G env st s3=.e c s4)(h4:qv m x l h c s4=r):evE Φ G env (.L m a lo hi st) s=r:=bnd h0 (bnd h1 (bnd h2 (bnd h3 h4)))
theorem zE:zi Φ G env .b s=.e [] s:=rfl
theorem zA(h1:evE Φ G env e s=.e v s1)(h2:zi Φ G env es s1=.e vs s2):zi Φ G env (.a e es) s=.e (v::vs) s2:=bnd h1 (bnd h2 rfl)
theorem iE{P:List Val->Sto->Prop}(h:evE Φ G env e s=.e v s1)(k:(zi Φ G env es s1).post λvs s2=>P (v::vs) s2):(zi Φ G env (.a e es) s).post P:=kY.mpr (by rw[h];exact zF.mpr k)
theorem tR(h:zi Φ G env es s=.e vs s1)(hl:vs.length<=zb):evE Φ G env (.y es) s=.e (.f vs) s1:=bnd h (if_pos hl)
theorem vt(h:zi Φ G env es s=.e vs s1)(hl:vs.length<=zb):evE Φ G env (.s false es) s=.e (.m vs) s1:=bnd h (if_pos hl)
theorem yS(h:zi Φ G env es s=.e vs s1)(k:blt f m vs s1=r):evE Φ G env (.k f m es) s=r:=bnd h k
theorem x_call(h:zi Φ G env es s=.e vs s1)(k:Φ f v vs s1=r):evE Φ G env (.h f v es) s=r:=bnd h k
theorem Z9(h:zi Φ G env es s=.e vs s1)(k:(Φ f v vs s1).post P):(evE Φ G env (.h f v es) s).post P:=by rw[x_call h rfl];exact k
theorem xN(h:evE Φ G env e s=.e v s1)(k:(zX Φ G (env.set i (some v)) cs s1).post P):(zX Φ G env (.e (.f i e) cs) s).post P:=yP.mpr (cW.mpr (by rw[h];exact zF.mpr k))
theorem Vt(h:(evE Φ G env e s).post λv s1=>(zX Φ G (env.set i (some v)) cs s1).post P):(zX Φ G env (.e (.f i e) cs) s).post P:=yP.mpr (cW.mpr h)
theorem xJ(h:evE Φ G env e s=.e v s1)(k:(zX Φ G env cs s1).post P):(zX Φ G env (.e (.d e) cs) s).post P:=yP.mpr (cZ.mpr (by rw[h];exact zF.mpr k))
theorem wK(h:evE Φ G env e s=.e v s1)(k:P (.b v) s1):(zX Φ G env (.e (.g e) cs) s).post P:=yP.mpr (XQ.mpr (by rw[h];exact zF.mpr k))
theorem l9(h:evE Φ G env e s=.e v s1)(k:srcOf s1 v=some ⟨xs,none⟩):xA Φ G env (.g e) s=.e ⟨xs,none⟩ s1:=post_eq.mpr (cb.mpr (by rw[h];exact zF.mpr ⟨_,k,rfl,rfl⟩))
theorem yR(h:evE Φ G env e s=.e v s1)(k:truth s1 v=some b):evT Φ G env (.a e) s=.e b s1:=post_eq.mpr (XS.mpr (by rw[h];exact zF.mpr ⟨_,k,rfl,rfl⟩))
theorem pq(h:evT Φ G env c s=.e b s1):evT Φ G env (.b c) s=.e (!b) s1:=bnd h rfl
theorem Sr(h:evT Φ G env c s=.e false s1)(k:sG Φ G env cs s1=.e b s2):evT Φ G env (.f c cs) s=.e b s2:=bnd h k
theorem V7:sG Φ G env .b s=.e false s:=rfl
theorem Yo(h:evT Φ G env c s=.e false s1)(k:sG Φ G env cs s1=.e b s2):sG Φ G env (.a c cs) s=.e b s2:=bnd h k
theorem Ss(h:evT Φ G env c s=.e true s1):evT Φ G env (.f c cs) s=.e true s1:=bnd h rfl
theorem aK(h:evT Φ G env c s=.e true s1):sG Φ G env (.a c cs) s=.e true s1:=bnd h rfl
theorem vM(h:evT Φ G env c s=.e false s1)(k:(zX Φ G env cs s1).post P):(zX Φ G env (.e (.h c a .f) cs) s).post P:=yP.mpr (YC.mpr (by rw[h];refine zF.mpr ?_;rw[if_neg Ad];exact kZ.mpr k))
theorem ba(h:evT Φ G env c s=.e true s1)(k:(zX Φ G env a s1).post (qj Φ G cs P)):(zX Φ G env (.e (.h c a b) cs) s).post P:=yP.mpr (YC.mpr (by rw[h];refine zF.mpr ?_;rw[if_pos rfl];exact k))
theorem SU{J:Env->Sto->Prop}(h:evT Φ G env c s=.e b s1)(k1:b=true->(zX Φ G env a s1).post λfl s2=>∃e,fl=.a e/\J e s2)(k0:b=false->J env s1)(k:∀e s2,J e s2->(zX Φ G e cs s2).post P):(zX Φ G env (.e (.h c a .f) cs) s).post P:=by
 cases b with
 |true=>exact ba h (zN (k1 rfl) λfl s2 ⟨e,he,j⟩=>by subst he;exact k e s2 j)
 |false=>exact vM h (k env s1 (k0 rfl))
theorem SV{J:Env->Sto->Prop}(h:evT Φ G env c s=.e b s1)(k1:b=true->(zX Φ G env a s1).post λfl s2=>∃e,fl=.a e/\J e s2)(k0:b=false->(zX Φ G env d s1).post λfl s2=>∃e,fl=.a e/\J e s2)(k:∀e s2,J e s2->(zX Φ G e cs s2).post P):(zX Φ G env (.e (.h c a d) cs) s).post P:=by
 refine yP.mpr (YC.mpr ?_);rw[h];refine zF.mpr ?_;cases b with
 |true=>
  rw[if_pos rfl];exact zN (k1 rfl) λfl s2 ⟨e,he,j⟩=>by subst he;exact k e s2 j
 |false=>
  rw[if_neg Ad];exact zN (k0 rfl) λfl s2 ⟨e,he,j⟩=>by subst he;exact k e s2 j
theorem Xn(h:evE Φ G env a s=.e (.e b) s1):evE Φ G env (.F a) s=.e (.e !b) s1:=bnd h rfl
theorem vN(k:P (.a env) s):(zX Φ G env .f s).post P:=kZ.mpr k
theorem YG{is:List Nat}{vs:List Val}{P:Fl->Sto->Prop}(hl:vs.length=is.length)(k:P (.a ((is.zip vs).foldl (λe p=>e.set p.1 (some p.2)) env)) s):(if vs.length=is.length then Out.e (Fl.a ((is.zip vs).foldl (λe p=>e.set p.1 (some p.2)) env)) s else .d).post P:=by rw[if_pos hl];exact zF.mpr k
theorem mF{k:Nat}(h:evE Φ G env e s=.e (.c (k:Int)) s1)(hk:k<=zb):xA Φ G env (.d e) s=.e ⟨xB 0 k,none⟩ s1:=by rw[post_eq];refine mU.mpr ?_;rw[h];exact zF.mpr ⟨_,rfl,⟨by omega,by omega⟩,by rw[BI],rfl⟩
theorem Ut{i j:Nat}(h:evE Φ G env a s=.e (.c (i:Int)) s1)(h':evE Φ G env b s1=.e (.c (j:Int)) s2)(hi:i<=1000)(hj:j<=1000):xA Φ G env (.f a b) s=.e ⟨xB i (j-i),none⟩ s2:=by rw[post_eq];refine mV.mpr ?_;rw[h];refine zF.mpr ?_;rw[h'];exact zF.mpr ⟨_,_,rfl,rfl,⟨by omega,by omega,by omega,by omega,by unfold zb;omega⟩,by congr 2;omega,rfl⟩
theorem aI(h:evT Φ G env c s=.e a s)(k:evT Φ G env d s=.e b s):evT Φ G env (.d c (.a d .b)) s=.e (a&&b) s:=bnd h (by
 cases a with
 |false=>rfl
 |true=>exact bnd k (by cases b<;>rfl))
theorem UC(h:evT Φ G env c s=.e b s):wF Φ G env (.a c .b) s=.e b s:=bnd h (by cases b<;>rfl)
theorem aW(h:zi Φ G env es s=.e vs s1)(hl:vs.length<=zb):evE Φ G env (.s true es) s=.e (.j s1.length) (s1++[.c vs]):=bnd h (if_pos hl)
theorem iO(he:evE Φ G env e s=.e v s1)(ho:evE Φ G env o s1=.e (.j r) s1)(hi:evE Φ G env i s1=.e (.c k) s1)(hs:s1[r]?=some (.c vs))(hj:L2.ixN vs.length k=some j)
 (q:(zX Φ G env cs (s1.set r (.c (vs.set j v)))).post P):(zX Φ G env (.e (.k o i e) cs) s).post P:=by
 have e0:exS Φ G env (.k o i e) s=.e (.a env) (s1.set r (.c (vs.set j v))):=by show ((evE Φ G env e s).bind _)=_;rw[he,zQ,ho,zQ,hi,zQ];simp only[hs,hj];rfl
 refine yP.mpr ?_;rw[e0];exact zF.mpr q
end
theorem wD(h:v.noRef=true):(yI false s v s).post λx t=>x=v/\t=s:=by rw[w9 h];exact zF.mpr ⟨rfl,rfl⟩
end M
end
section
namespace M
open PySem
noncomputable def zY(l m:Int):Val->Bool
 |.c i=>decide (l<=i)&&decide (i<=m)
 |_=>false
theorem sX(h1:l<=i)(h2:i<=m):zY l m (.c i)=true:=by simp[zY,h1,h2]
def tU(Φ:Calls):Prop:=∀(v:Val) (l m:Int) (s:Sto),kindOf v≠none->Φ "is_whole" 0 [v,.c l,.c m] s=.e (.e (zY l m v)) s
def jV(Φ:Calls):Prop:=∀(vs:List Val) (l m:Int) (s:Sto),(∀v∈vs,kindOf v≠none)->Φ "are_wholes" 0 [.f vs,.c l,.c m] s=.e (.e (vs.all (zY l m))) s
def wB(Φ:Calls):Prop:=∀(i l m:Int) (s:Sto),l<=i->i<=m->Φ "need_whole" 0 [.c i,.c l,.c m] s=.e .h s
theorem j9:blt .b m [.f vs] s=.e (.c vs.length) s:=rfl
theorem cA:blt .b m [.r ns] s=.e (.c ns.length) s:=by simp[blt,xy]
theorem le_int:zV .h (.c a) (.c b) s=.e (.e (decide (a<=b))) s:=rfl
theorem lt_int:zV .l (.c a) (.c b) s=.e (.e (decide (a<b))) s:=rfl
theorem ge_int:zV .i (.c a) (.c b) s=.e (.e (decide (b<=a))) s:=rfl
theorem gt_int:zV .a (.c a) (.c b) s=.e (.e (decide (b<a))) s:=rfl
theorem se{α:Type}f:∀xs:List α,boolsOf (xs.map λx=>Val.e (f x))=some (xs.map f)
 |[]=>rfl
 |x::xs=>by simp[boolsOf,se f xs]
theorem Y6{α β:Type}(f:α->β)(xs:List α):xs.flatMap (λx=>[f x])=xs.map f:=by
 induction xs with
 |nil=>rfl
 |cons x xs ih=>simp[ih]
theorem tj:binOp m .b (.c i) (.c j) s=.e (.c (i+j)) s:=by simp only[binOp]
theorem Xx:binOp m .f (.c i) (.c j) s=.e (.c (i-j)) s:=by simp only[binOp]
theorem rZ(h:-1000000<=i/\i<=1000000):binOp m .a (.c i) (.c j) s=.e (.c (i*j)) s:=by simp only[binOp];rw[if_pos (.inl (by omega))]
theorem fm(h:-1000000<=j/\j<=1000000):binOp m .a (.c i) (.c j) s=.e (.c (i*j)) s:=by simp only[binOp];rw[if_pos (.inr (by omega))]
section
variable {T:Tbl}{Φ:Calls}{s:Sto}
theorem l8(h:kindOf v=some a)(h':uN n=some c):blt .k m [v,.t n] s=.e (.e (a.sub c)) s:=by simp only[blt];rw[h,h']
theorem Wv(h:kindOf v=some a):(∃i,v=.c i)\/(∃b,v=.e b)\/(a.sub .b=false/\∀l m,zY l m v=false):=by
 cases v with
 |c i=>exact .inl ⟨i,rfl⟩
 |e b=>exact .inr (.inl ⟨b,rfl⟩)
 |_=>cases h<;>exact .inr (.inr ⟨rfl,λ_ _=>rfl⟩)
theorem j8(h:kindOf v≠none):∃a,kindOf v=some a:=Option.ne_none_iff_exists'.mp h
theorem Ww(h:kindOf v=some a):(∃vs,v=.f vs)\/a.sub .d=false:=by
 cases v with
 |f vs=>exact .inl ⟨vs,rfl⟩
 |_=>cases h<;>exact .inr rfl
theorem g6(hk:kindOf v≠none):run T Φ F.xR [v,.c l,.c m] s=.e (.e (zY l m v)) s:=by
 obtain⟨a,ha⟩:=j8 hk;have e1:=l8 (m:=false) (s:=s) ha (show uN "int"=some .b from rfl);have e2:=l8 (m:=false) (s:=s) ha (show uN "bool"=some .i from rfl);have end':∀{b:Bool},b=zY l m v->(yI false s (.e b) s).post λx t=>x=.e (zY l m v)/\t=s:=λ{b} e=>by rw[w9 rO,e];exact zF.mpr ⟨rfl,rfl⟩
 rw[post_eq,F.xR,we];refine⟨rfl,?_⟩;show (zX Φ T.b [some v,some (.c l),some (.c m)] _ s).post _;rcases Wv ha with⟨i,rfl⟩|⟨b,rfl⟩|⟨h1,h2⟩
 . cases ha
   have hc:evE Φ T.b [some (.c i),some (.c l),some (.c m)] (.r .h .h (.e 1) (.e 0) (.e 2)) s=.e (.e (zY l m (.c i))) s:=by
    refine bnd (zB rfl) (bnd (zB rfl) (bnd le_int ?_));show (match Val.e (decide (l<=i)) with
     |.e true=>(evE Φ T.b [some (.c i),some (.c l),some (.c m)] (.e 2) s).bind λz s4=>zV .h (.c i) z s4
     |.e false=>.e (.e false) s
     |_=>.d)=Out.e (.e (decide (l<=i)&&decide (i<=m))) s
    cases decide (l<=i) with
    |true=>exact bnd (zB rfl) le_int
    |false=>rfl
   exact wK (aV (yS (zA (zB rfl) (zA lK zE)) e1) (Xn (yS (zA (zB rfl) (zA lK zE)) e2)) hc) (end' rfl)
 . cases ha
   exact wK (aU (yS (zA (zB rfl) (zA lK zE)) e1) (Xn (yS (zA (zB rfl) (zA lK zE)) e2))) (end' rfl)
 . rw[h1]at e1
   exact wK (aT (yS (zA (zB rfl) (zA lK zE)) e1)) (end' (h2 _ _).symm)
theorem kz(c:tU Φ)(hk:∀v∈vs,kindOf v≠none):run T Φ F.ye [.f vs,.c l,.c m] s=.e (.e (vs.all (zY l m))) s:=by
 rw[post_eq];simp[F.ye,EVl,zu,zo];refine cY (λe=>∃o,e=[o,some (.c l),some (.c m)]) (λx=>[.e (zY l m x)]) ?_;simp[EVl,zu,zo];refine⟨?_,?_⟩
 . intro x hx
   simp[EVl,zu,zo,c x l m s (hk x hx)]
 . simp[newList,EVl,zu,zo,blt,Y6,yY,se]
theorem qu(c:tU Φ)(h1:l<=i)(h2:i<=m):run T Φ F.zm [.c i,.c l,.c m] s=.e .h s:=by rw[post_eq];simp[F.zm,EVl,zu,zo,c (.c i) l m s (by simp[kindOf]),sX h1 h2]
end
end M
end
section
namespace M
open PySem
theorem ow(h:x∈xB lo n):∃k:Nat,k<n/\x=.c (lo+k):=by unfold xB at h;obtain⟨k,h1,rfl⟩:=Cw.mp h;exact⟨k,Ck.mp h1,rfl⟩
theorem ZM a b:Dt (.int a) (.int b)=decide (a=b):=by by_cases h:a=b<;>simp[Dt,h]
theorem eq_int:zV .b (.c a) (.c b) s=.e (.e (decide (a=b))) s:=by simp[zV,zl,yq,rq,Val.isD,Val.d,PyData.depth,ZM]
theorem WN{k:Nat}(h:vs[k]?=some v):vQ (.f vs) (.c k) s=.e v s:=by simp[vQ,xy,L2.rJ h]
theorem oq{ns:List Int}{k:Nat}(h:ns[k]?=some i):vQ (.f (ns.map .c)) (.c k) s=.e (.c i) s:=WN (by rw[A2,h];rfl)
end M
end
section
namespace M
open PySem
theorem gF{ns:List Int}:∀v∈ns.map Val.c,kindOf v≠none:=λv hv=>by obtain⟨i,_,rfl⟩:=Cw.mp hv;simp[kindOf]
theorem lU{ns:List Int}(h:∀x∈ns,l<=x/\x<=m):(ns.map Val.c).all (zY l m)=true:=by rw[AN];intro v hv;obtain⟨i,hi,rfl⟩:=Cw.mp hv;exact sX (h i hi).1 (h i hi).2
theorem a9{xs:List α}(hp:p<=xs.length):t7 xs none (some (p:Int))=xs.take p:=by
 unfold t7;have h1:HT.sIx xs.length 0 none=0:=rfl;have h2:HT.sIx xs.length xs.length (some (p:Int))=p:=by rw[HT.iM];omega
 rw[h1,h2,EK,Nat.sub_zero]
theorem az{xs:List α}(hp:p<=xs.length):t7 xs (some (p:Int)) none=xs.drop p:=by
 unfold t7;have h1:HT.sIx xs.length 0 (some (p:Int))=p:=by rw[HT.iM];omega
 have h2:HT.sIx xs.length xs.length none=xs.length:=rfl;rw[h1,h2,List.take_of_length_le (by rw[BP];omega)]
noncomputable abbrev tpI(ns:List Int):Val:=.f (ns.map .c)
section
variable {T:Tbl}{Φ:Calls}{s:Sto}
theorem ag(h:a.length+b.length<=zb):binOp m .b (.f a) (.f b) s=.e (.f (a++b)) s:=by simp only[binOp];rw[if_pos h]
end
end M
end
section
namespace M
open PySem
noncomputable def Tv(a b:Int):Cel:=.c [.c a,.c b]
def UN(s:Sto)(p:Nat):Prop:=∃a b,s[p]?=some (Tv a b)/\0<=b/\b<2147483629
def Yv(s:Sto)(p:Nat)(s':Sto):Prop:=∃a b,s'=s.set p (Tv a b)/\0<=b/\b<2147483629
theorem Yv.at_(h:Yv s p s')(hp:p<s.length):UN s' p:=by obtain⟨a,b,rfl,h1⟩:=h;exact⟨a,b,AI hp,h1⟩
theorem bmod(h:0<j):binOp m .c (.c i) (.c j) s=.e (.c (i%j)) s:=by simp only[binOp];rw[if_pos h]
theorem bdiv(h:0<j/\j<1073741824):binOp m .d (.c i) (.c j) s=.e (.c (i/j)) s:=by simp only[binOp];rw[if_pos h]
theorem WM{k:Nat}(h:vs[k]?=some v):vQ (.m vs) (.c k) s=.e v s:=by simp[vQ,xy,L2.rJ h]
theorem WO{i k:Nat}(hs:s[i]?=some (.c vs))(h:vs[k]?=some v):vQ (.j i) (.c k) s=.e v s:=by simp[vQ,xy,hs,L2.rJ h]
section
variable {T:Tbl}{Φ:Calls}{s:Sto}
def Ys(Φ:Calls):Prop:=∀(ns:List Int) (k:Nat) (s:Sto),∃c,Φ "_law_cell_at" 0 [.r ns,.c k] s=.e (.c c) s
theorem bW ns(k:Nat):∃c,run T Φ F.z7 [.r ns,.c k] s=.e (.c c) s:=by
 by_cases h:k<ns.length
 . refine⟨ns[k],?_⟩
   rw[post_eq];have h':(k:Int)<ns.length:=by omega
   have e:(ns.map Val.c)[k]?=some (.c ns[k]):=by rw[A2,Aa h];rfl
   have c1:vQ (.r ns) (.c k) s=.e (.c ns[k]) s:=by simp[vQ,xy,L2.rJ e]
   simp[F.z7,EVl,zu,zo,cA,lt_int,h',h,c1]
 . refine⟨0,?_⟩
   rw[post_eq];have h':¬(k:Int)<ns.length:=by omega
   simp[F.z7,EVl,zu,zo,cA,lt_int,h',h]
end
end M
end
section
namespace M
open PySem
theorem ua(h:vs.length<zb):xk .a (.j s.length) [y] (s++[.c vs])=.e .h (s++[.c (vs++[y])]):=by simp[xk,h,upd]
end M
end
section
namespace M
open PySem
noncomputable def Rk(bad:Int->Bool):Val->List Val
 |.c x=>if bad x then [.c x] else []
 |_=>[]
theorem vq(h:env[i]?=some (some (tpI ns))):evE Φ G env (.k .b m (.a (.e i) .b)) s=.e (.c (ns.length:Nat)) s:=yS (zA (zB h) zE) (by rw[j9,Ae])
section
variable {Φ:Calls}{G:Str->Option Val}{env:Env}{s:Sto}
noncomputable def Vq(f:Nat->Int):Val->List Val
 |.c k=>[.c (f k.toNat)]
 |_=>[]
theorem bV:(xB 0 n).flatMap (Vq f)=((AY n).map f).map .c:=by
 unfold xB;rw[List.flatMap_map,EF];have:(λ(k:Nat)=>Vq f (.c (0+(k:Int))))=λk=>[(Val.c∘f) k]:=by funext k;show [Val.c (f (0+(k:Int)).toNat)]=_;rw[Int.zero_add,BI];rfl
 rw[this,Y6]
theorem iT(hi:xA Φ G env it s=.e ⟨xB 0 n,none⟩ s)(h0:zo fr env=none::e0)(h:∀k (o:Option Val),k<n->evE Φ G (some (.c k)::e0) elt s=.e (.c (f k)) s)(hl:n<=zb):evE Φ G env (.q false N fr elt (.a 0) it .b) s=.e (.m (((AY n).map f).map .c)) s:=by
 rw[post_eq];refine iD (λe=>∃o,e=o::e0) (Vq f) (xB 0 n) (s1:=s) hi ⟨none,h0⟩ ?_ ?_
 . rintro x hx e ⟨o,rfl⟩
   obtain⟨k,hk,rfl⟩:=ow hx;refine⟨_,rfl,⟨_,rfl⟩,nF.mpr ⟨rfl,?_⟩⟩;rw[if_pos rfl,Int.zero_add];show (evE Φ G (some (.c (k:Int))::e0) elt s).post _;rw[h k none hk];refine zF.mpr ⟨rfl,?_⟩;show [Val.c (f (k:Int).toNat)]=_;rw[BI]
 . rw[bV]
   exact zF.mpr ⟨rfl,rfl⟩
end
end M
end
section
namespace M
open PySem
theorem gR(L:L2.lR k w d)(hk:k<=50)(hw:w<=300000)(hd:d.hasDict=false):vf d=true:=by
 have:=L.a;have:=L.f;unfold vf;rw[L.c,L.b,hd,decide_eq_true (show d.depth<=50 by omega),decide_eq_true (show d.weight<=300000 by omega)]
 rfl
theorem jq:∀ks:List Int,ds (ks.map .c)=ks.map FC
 |[]=>by rw[FI,ds];rfl
 |k::ks=>by rw[A1,ds,jq ks,Val.d];rfl
theorem pR:∀ks:List Int,rD (ks.map .c)=true
 |[]=>by rw[FI,rD]
 |k::ks=>by rw[A1,rD,pR ks,Val.isR];rfl
theorem YS(h1:ks.length<=1000)(h2:∀k∈ks,0<=k/\k<=100000):blt .a m [tpI ks] s=.e (.g (PyData.tuple (ks.map FC)).shown) s:=by
 have hd:(Val.f (ks.map .c)).d=.tuple (ks.map FC):=by rw[Val.d,jq]
 have hr:(Val.f (ks.map .c)).isR=true:=by rw[Val.isR];exact pR ks
 have ok:vf (.tuple (ks.map FC))=true:=gR (L2.kE (n:=1000) (k:=0) (w:=100) (λd hd=>by obtain⟨r,hr,rfl⟩:=Cw.mp hd;exact L2.cE (by have:=h2 r hr;omega) (by have:=h2 r hr;omega)) (by rw[Ae];exact h1)) (by decide) (by decide) (by rw[PyData.hasDict];exact L2.pY λd hd=>by obtain⟨r,hr,rfl⟩:=Cw.mp hd;rfl)
 have hx:zl s (tpI ks)=.f (ks.map .c):=by show Val.f ((ks.map Val.c).map (yq s))=_;rw[EF];rfl
 simp only[blt];rw[hx,hd,hr,ok];rfl
theorem max2:blt .i m [.c i,.c j] s=.e (.c (if j > i then j else i)) s:=rfl
theorem min2:blt .j m [.c i,.c j] s=.e (.c (if j<i then j else i)) s:=rfl
theorem ef{K:Nat}(h0:env[0]?=some (some (.r ns)))(hK:K<=100) :
 xA Φ G env (.d (.k .i false (.a (.g (.c 1)) (.a (.k .j false (.a (.k .b false (.a (.e 0) .b)) (.a (.g (.c K)) .b))) .b)))) s=.e ⟨xB 0 (max 1 (min ns.length K)),none⟩ s:=by
 rw[post_eq];simp only[EVl,zu,zo];refine⟨_,h0,?_⟩;rw[cA];simp only[zF];rw[min2];simp only[zF];rw[max2];simp only[zF];have e:(if (if (K:Int)<(ns.length:Int) then (K:Int) else (ns.length:Int)) > 1 then (if (K:Int)<(ns.length:Int) then (K:Int) else (ns.length:Int)) else 1)=((max 1 (min ns.length K):Nat):Int):=by split<;>split<;>omega
 rw[e];refine⟨_,rfl,⟨by omega,by unfold zb;omega⟩,?_⟩
 simp
end M
end
section
namespace F
open PySem M
noncomputable def xQ:Fn:=⟨["thing"],["thing"],false,(.e (.g (.w (.k .k false (.a (.e 0) (.a (.K "tuple" "tuple") .b))) (.a (.p .h (.k .b false (.a (.e 0) .b)) (.E "MOST_PLACES")) (.a (.h "are_wholes" 0 (.a (.e 0) (.a (.u (.E "HUES") (.g (.c 0))) (.a (.u (.E "HUES") (.A (.g (.c 1)))) .b)))) .b)))) .f)⟩
end F
end
section
namespace M
open PySem
section
variable {T:Tbl}{Φ:Calls}{s:Sto}
theorem jy:∀ns:List Int,intsOf (ns.map .c)=some ns
 |[]=>rfl
 |n::ns=>by show (intsOf (ns.map .c)).map _=_;rw[jy ns];rfl
end
end M
end
section
namespace M
open PySem
def endOf(ms:List Int)(st:List (Nat × Nat)):List Int:=st.foldl (λms q=>putL ms q.1 q.2) ms
def SO(zs:List Int):List Int->List (Nat × Nat)->Prop
 |_,[]=>True
 |ms,(p,h)::st=>ms[p]?=some (-1)/\TV zs ms p=[h]/\SO zs (putL ms p h) st
theorem SO.append:∀{st st'} {ms},SO zs ms st->SO zs (endOf ms st) st'->SO zs ms (st++st')
 |[],_,_,_,h=>h
 |(p,h)::st,st',ms,⟨a,b,c⟩,d=>⟨a,b,SO.append c d⟩
end M
end
section
namespace M
open PySem
theorem ZA:t7 (xs.map f) lo hi=(t7 xs lo hi).map f:=by unfold t7;rw[Ae,List.map_take,List.map_drop]
theorem br:qv m (tpI ns) lo hi none s=.e (tpI (t7 ns lo hi)) s:=by show Out.e (Val.f (t7 (ns.map .c) lo hi)) s=_;rw[ZA]
theorem Zu{k:Nat}(h:k<=1000)(h1:vs≠[])(h2:vs.length<=1000):binOp m .a (.f vs) (.c k) s=.e (.f (Ao k vs).flatten) s:=by simp only[binOp];rw[if_pos ⟨by omega,by omega,h1,h2⟩,BI]
end M
end
section
namespace M
open PySem
section
variable {T:Tbl}{Φ:Calls}{s:Sto}
def lS(ns:List Int):Prop:=ns.length<=40/\∀x∈ns,0<=x/\x<=3
def pB(Φ:Calls):Prop:=∀(ns:List Int) (s:Sto),lS ns->Φ "is_strip" 0 [tpI ns] s=.e (.e true) s
end
end M
end
section
namespace M
open PySem
def vk:Val->Bool
 |.f vs=>decide (vs.length<=40)&&vs.all (zY 0 3)
 |_=>false
theorem bw(h:∀vs,v≠.f vs):vk v=false:=by
 cases v with
 |f vs=>exact absurd rfl (h vs)
 |_=>rfl
theorem bx(h:lS t):vk (tpI t)=true:=by show (decide ((t.map Val.c).length<=40)&&(t.map Val.c).all (zY 0 3))=true;rw[Ae,decide_eq_true h.1,lU h.2];rfl
end M
end
section
namespace F75
open PySem M
noncomputable def ya:Fn:=⟨["_law_pen_here","_law_bound","_law_found","_law_stir"],["_law_pen_here","_law_bound"],false,(.e (.h (.d (.a (.p .b (.u (.e 0) (.g (.c 1))) (.g (.c 1)))) (.a (.a (.p .a (.u (.e 0) (.g (.c 0))) (.g (.c 0)))) .b)) (.e (.f 2 (.j false .c (.u (.e 0) (.g (.c 0))) (.e 1))) (.e (.k (.e 0) (.g (.c 0)) (.j false .d (.u (.e 0) (.g (.c 0))) (.e 1))) (.e (.g (.e 2)) .f))) .f) (.e (.k (.e 0) (.g (.c 2)) (.j false .b (.u (.e 0) (.g (.c 2))) (.g (.c 1)))) (.e (.f 3 (.j false .c (.j false .a (.j false .b (.u (.e 0) (.g (.c 3))) (.g (.c 17))) (.j false .b (.g (.c 69621)) (.j false .a (.g (.c 2)) (.u (.e 0) (.g (.c 2)))))) (.g (.c 2147483647)))) (.e (.f 3 (.j false .c (.j false .b (.j false .b (.j false .a (.e 3) (.e 3)) (.j false .a (.g (.c 40503)) (.u (.e 0) (.g (.c 2))))) (.g (.c 5))) (.g (.c 2147483629)))) (.e (.g (.j false .c (.j false .d (.j false .c (.j false .a (.e 3) (.g (.c 48271))) (.g (.c 2147483647))) (.g (.c 32))) (.e 1))) .f)))))⟩
noncomputable def yO:Fn:=⟨["_law_cell"],["_law_cell"],true,(.e (.g (.s true (.a (.e 0) (.a (.k .o false (.a (.p .i (.e 0) (.j false .e (.g (.c 10)) (.g (.c 18)))) .b)) (.a (.g (.c 0)) (.a (.j false .c (.e 0) (.g (.c 1000000007))) .b)))))) .f)⟩
end F75
end
section
namespace M
open PySem
noncomputable def rF(a b c d:Int):Cel:=.c [.c a,.c b,.c c,.c d]
def oK(s:Sto)(p:Nat):Prop:=∃a b c d,s[p]?=some (rF a b c d)/\0<=d/\d<1000000007
def uJ(s:Sto)(p:Nat)(s':Sto):Prop:=∃a b c d,s'=s.set p (rF a b c d)/\0<=d/\d<1000000007
theorem oK.lt(h:oK s p):p<s.length:=by obtain⟨a,b,c,d,h,_⟩:=h;exact(Aw.mp h).1
theorem uJ.at_(h:uJ s p s')(hp:p<s.length):oK s' p:=by obtain⟨a,b,c,d,rfl,h1⟩:=h;exact⟨a,b,c,d,AI hp,h1⟩
theorem uJ.trans(h:uJ s p s1)(k:uJ s1 p s2):uJ s p s2:=by obtain⟨a,b,c,d,rfl,h1⟩:=h;obtain⟨a',b',c',d',rfl,h2⟩:=k;exact⟨a',b',c',d',by rw[List.set_set],h2⟩
theorem oK.refl(h:oK s p):uJ s p s:=by obtain⟨a,b,c,d,h,h1⟩:=h;obtain⟨hp,e⟩:=Aw.mp h;exact⟨a,b,c,d,by rw[<-e,List.set_getElem_self],h1⟩
theorem cF(h:uJ s p s')(hv:v.noRef=true):yI false s v s'=.e v s':=by obtain⟨a,b,c,d,rfl,_⟩:=h;exact gH hv rfl
section
variable {T:Tbl}{Φ:Calls}{G:Str->Option Val}{env:Env}{s s1 s2 s3:Sto}
def Yt(Φ:Calls):Prop:=∀(c:Int) (s:Sto),∃a b e d,Φ "_law_pen" 1 [.c c] s=.e (.j s.length) (s++[rF a b e d])/\0<=d/\d<1000000007
theorem bX c:∃a b e d,run T Φ F75.yO [.c c] s=.e (.j s.length) (s++[rF a b e d])/\0<=d/\d<1000000007:=by
 refine⟨c,if decide ((10:Int) ^ 18<=c) then 1 else 0,0,c%1000000007,?_,F8 _ (by omega),E2 _ (by omega)⟩
 rw[post_eq,F75.yO,we];refine⟨rfl,?_⟩;show (zX Φ T.b [some (.c c)] _ s).post _;refine wK (aW (zA (zB rfl) (zA (yS (zA (yi (zB rfl) (zW zG zG rfl) ge_int) zE) rfl) (zA zG (zA (zW (zB rfl) zG (bmod (by omega))) zE)))) (show 4<=zb by unfold zb;omega)) ?_
 exact zF.mpr ⟨rfl,rfl⟩
def lO(Φ:Calls):Prop:=∀(p:Nat) (m:Int) (s:Sto),oK s p->0<m->m<1000000->(Φ "_law_draw" 0 [.j p,.c m] s).post λv s'=>∃r:Nat,v=.c r/\(r:Int)<m/\uJ s p s'
theorem gx(hp:oK s p)(h1:0<m)(h2:m<1000000):(run T Φ F75.ya [.j p,.c m] s).post λv s'=>∃r:Nat,v=.c r/\(r:Int)<m/\uJ s p s':=by
 have hpl:=hp.lt;obtain⟨a,b,c,d,hs,hd0,hd1⟩:=hp;have ix:∀{s:Sto} {a b c d:Int} {k:Nat} {v:Val},s[p]?=some (rF a b c d)->[Val.c a,.c b,.c c,.c d][k]?=some v->vQ (.j p) (.c k) s=.e v s:=λh h'=>WO h h';rw[F75.ya,we];refine⟨rfl,?_⟩;show (zX Φ T.b [some (.j p),some (.c m),none,none] _ s).post _;have tc:evT Φ T.b [some (.j p),some (.c m),none,none] (.d (.a (.p .b (.u (.e 0) (.g (.c 1))) (.g (.c 1)))) (.a (.a (.p .a (.u (.e 0) (.g (.c 0))) (.g (.c 0)))) .b)) s=.e (decide (b=1)&&decide (0<a)) s:=aI (yR (yi (vH (zB rfl) zG (ix (k:=1) hs rfl)) zG eq_int) zh) (yR (yi (vH (zB rfl) zG (ix (k:=0) hs rfl)) zG gt_int) zh);have fin':∀{x:Int} {s':Sto},uJ s p s'->(yI false s (.c (x%m)) s').post λv s'=>∃r:Nat,v=.c r/\(r:Int)<m/\uJ s p s':=λ{x s'} t=>by
  rw[cF t nB];have h3:=F8 x (show m≠0 by omega)
  have h4:=E2 x h1;exact zF.mpr ⟨(x%m).toNat,by congr 1;omega,by omega,t⟩
 cases hb:(decide (b=1)&&decide (0<a)) with
 |true=>
  rw[hb]at tc;refine ba tc (xN (zW (vH (zB rfl) zG (ix (k:=0) hs rfl)) (zB rfl) (bmod h1)) ?_);refine iO (j:=0) (zW (vH (zB rfl) zG (ix (k:=0) hs rfl)) (zB rfl) (bdiv ⟨h1,by omega⟩)) (zB rfl) zG hs rfl (wK (zB rfl) ?_)
  exact fin' ⟨a/m,b,c,d,rfl,hd0,hd1⟩
 |false=>
  rw[hb]at tc;refine vM tc ?_;refine iO (j:=2) (zW (vH (zB rfl) zG (ix (k:=2) hs rfl)) zG tj) (zB rfl) zG hs rfl ?_;have hs':(s.set p (rF a b (c+1) d))[p]?=some (rF a b (c+1) d):=AI hpl;show (zX Φ T.b [some (.j p),some (.c m),none,none] _ (s.set p (rF a b (c+1) d))).post _;refine xN (zW (zW (zW (vH (zB rfl) zG (ix (k:=3) hs' rfl)) zG tj) (zW zG (zW zG (vH (zB rfl) zG (ix (k:=2) hs' rfl)) (rZ (by omega))) tj) (show binOp false .a (.c (d+17)) _ _=_ by simp only[binOp];rw[if_pos (.inl (by omega))])) zG (bmod (by omega))) ?_
  generalize hx:(d+17)*(69621+2*(c+1))%2147483647=x;have x0:0<=x:=by rw[<-hx];exact F8 _ (by omega)
  have x1:x<2147483647:=by rw[<-hx];exact E2 _ (by omega)
  refine xN (zW (zW (zW (zW (zB rfl) (zB rfl) (show binOp false .a (.c x) (.c x) _=_ by simp only[binOp];rw[if_pos (.inl (by omega))])) (zW zG (vH (zB rfl) zG (ix (k:=2) hs' rfl)) (rZ (by omega))) tj) zG tj) zG (bmod (by omega))) ?_
  generalize hy:(x*x+40503*(c+1)+5)%2147483629=y;refine wK (zW (zW (zW (zW (zB rfl) zG (fm (by omega))) zG (bmod (by omega))) zG (bdiv ⟨by omega,by omega⟩)) (zB rfl) (bmod h1)) ?_
  exact fin' ⟨a,b,c+1,d,rfl,hd0,hd1⟩
end
end M
end
section
namespace M
open PySem
theorem kP ns:(tpI ns).noRef=true:=vd ns
noncomputable abbrev gO(os:List Nat):List Int:=os.map λ(h:Nat)=>(h:Int)
end M
end
section
namespace M
open PySem
theorem pW{α β:Type}{f:α->β}:∀{l:List α},l.Nodup->(∀a∈l,∀b∈l,f a=f b->a=b)->(l.map f).Nodup
 |[],_,_=>.nil
 |a::l,h,hi=>by rw[BC]at h;rw[A1,BC];refine⟨λhm=>?_,pW h.2 λx hx y hy=>hi x (.tail _ hx) y (.tail _ hy)⟩;obtain⟨b,hb,e⟩:=Cw.mp hm;exact h.1 (hi b (.tail _ hb) a (.head _) e▸hb)
end M
end
section
namespace M
open PySem
theorem n6{α β:Type}{p}{f:α->β}:∀l:List α,(l.flatMap λr=>if p r then [f r] else [])=(l.filter p).map f
 |[]=>rfl
 |a::l=>by rw[List.flatMap_cons,n6 l,List.filter_cons];cases p a<;>rfl
end M
end
section
namespace M
open PySem
theorem cJ ls:(gO ls).map Val.c=ls.map λ(k:Nat)=>Val.c k:=by rw[EF];rfl
end M
end
section
namespace M
open PySem
noncomputable def goN(n f d z:Nat):List Nat:=(AY z).map λt=>(f+d*t)%n
def bf(r:List Int)(f d z:Nat):Bool:=(goN r.length f d z).all λp=>decide (r[p]?=r[f]?)
def ql(r:List Int)(f d z:Nat):Bool:=bf r f d z&&decide ((goN r.length f d z).Nodup)
theorem same_iff:bf r f d z=true↔∀t<z,r[(f+d*t)%r.length]?=r[f]?:=by unfold bf goN;rw[List.all_map,AN];exact⟨λh t ht=>of_decide_eq_true (h t (Ck.mpr ht)),λh t ht=>decide_eq_true (h t (Ck.mp ht))⟩
theorem Um:(goN n f d z).Nodup↔∀a b,a<z->b<z->(f+d*a)%n=(f+d*b)%n->a=b:=by
 unfold goN;constructor
 . intro h a b ha hb e
   have h1:=List.pairwise_iff_getElem.mp h;rcases Nat.lt_trichotomy a b with hab|hab|hab
   . exfalso
     have:=h1 a b (by rw[Ae,Bl];exact ha) (by rw[Ae,Bl];exact hb) hab
     rw[CW,CW,DP,DP]at this;exact this e
   . exact hab
   . exfalso
     have:=h1 b a (by rw[Ae,Bl];exact hb) (by rw[Ae,Bl];exact ha) hab
     rw[CW,CW,DP,DP]at this;exact this e.symm
 . intro h
   exact pW List.nodup_range λa ha b hb e=>h a b (Ck.mp ha) (Ck.mp hb) e
theorem oE:ql r f d z=true↔(∀t<z,r[(f+d*t)%r.length]?=r[f]?)/\∀a b,a<z->b<z->(f+d*a)%r.length=(f+d*b)%r.length->a=b:=by unfold ql;rw[cf,same_iff,decide_eq_true_eq,Um]
def b7(zs r:List Int)(f:Nat):Nat:=wR zs (r.getD f 0).toNat
structure oG(zs r:List Int):Prop where
 c:∀x∈r,0<=x/\x<zs.length
 g:∀f d,f<r.length->0<d->d<r.length->ql r f d (b7 zs r f)=false
theorem Xe{h:Nat}(e:r[f]?=some (h:Int)):b7 zs r f=wR zs h:=by unfold b7;rw[Aq,e];show wR zs ((h:Int)).toNat=_;rw[BI]
theorem oG.no(hF:oG zs r)(hz:Sz zs)(hh:h<zs.length)(hf:f<r.length)(ha:∀t<wR zs h,r[(f+d*t)%r.length]?=some (h:Int))(hn:∀a b,a<wR zs h->b<wR zs h->(f+d*a)%r.length=(f+d*b)%r.length->a=b):False:=by
 obtain⟨_,z2,_⟩:=bq hz hh;have hpos:0<r.length:=by omega
 have h0:=ha 0 (by omega)
 rw[Nat.mul_zero,Nat.add_zero,Ee hf]at h0;have hd:0<d%r.length:=by
  rcases Nat.eq_zero_or_pos (d%r.length) with e|e
  . exfalso
    have:=hn 0 1 (by omega) (by omega) (by rw[Nat.mul_zero,Nat.add_zero,Nat.mul_one,Dy,e,Nat.add_zero,Gb])
    omega
  . exact e
 have hm:∀t,(f+d%r.length*t)%r.length=(f+d*t)%r.length:=λt=>by rw[Dy,Gd,Gb,<-Gd,<-Dy]
 have hw:ql r f (d%r.length) (b7 zs r f)=true:=by
  rw[Xe h0,oE];refine⟨λt ht=>?_,λa b ha' hb' e=>hn a b ha' hb' ?_⟩
  . rw[hm,ha t ht,h0]
  . rwa [hm,hm]at e
 rw[hF.g f _ hf hd (CM _ hpos)]at hw;cases hw
theorem ZN{zs r:List Int}(hz:Sz zs)(hu:∀x∈r,0<=x/\x<zs.length)(h:∀f d h,h<zs.length->f<r.length->(∀t<wR zs h,r[(f+d*t)%r.length]?=some (h:Int))->(∀a b,a<wR zs h->b<wR zs h->(f+d*a)%r.length=(f+d*b)%r.length->a=b)->False):oG zs r:=by
 refine⟨hu,λf d hf _ _=>?_⟩;cases hw:ql r f d (b7 zs r f) with
 |false=>rfl
 |true=>
  exfalso;have hx:=hu r[f] (B2 hf);obtain⟨c,hc⟩:∃c:Nat,r[f]=c:=⟨r[f].toNat,by omega⟩
  have he:r[f]?=some (c:Int):=by rw[Aa hf,hc]
  rw[Xe he,oE]at hw;exact h f d c (by omega) hf (λt ht=>by rw[hw.1 t ht,he]) hw.2
theorem oG.via(hz:Sz zs)(hF:oG zs r)(hl:q.length=r.length)u v(hu:∀i<r.length,q[i]?=r[(u+v*i)%r.length]?)(hi:∀i j,i<r.length->j<r.length->(u+v*i)%r.length=(u+v*j)%r.length->i=j):oG zs q:=by
 have mem:∀x∈q,x∈r:=λx hx=>by
  obtain⟨i,hi',rfl⟩:=Bv hx;have:=hu i (by omega)
  rw[Aa hi']at this;exact AU this.symm
 refine ZN hz (λx hx=>hF.c x (mem x hx)) λf d h h1 h2 h3 h4=>?_;rw[hl]at h2 h3 h4;have hpos:0<r.length:=by omega
 have hml:∀x,x%r.length<r.length:=λx=>CM _ hpos;have e:∀t,(u+v*((f+d*t)%r.length))%r.length=((u+v*f)%r.length+v*d*t)%r.length:=λt=>by
  rw[Dy,Gd,Gb,<-Gd,<-Dy]
  conv=>rhs;rw[Dy,Gb,<-Dy]
  congr 1;rw[Nat.mul_add,Nat.mul_assoc];omega
 refine hF.no hz (f:=(u+v*f)%r.length) (d:=v*d) h1 (hml _) (λt ht=>?_) λa b ha hb e'=>?_
 . rw[<-e,<-hu _ (hml _)]
   exact h3 t ht
 . rw[<-e,<-e]at e'
   exact h4 a b ha hb (hi _ _ (hml _) (hml _) e')
theorem kO(hc:Nat.Coprime v n)(hi:i<n)(hj:j<n)(h:(u+v*i)%n=(u+v*j)%n):i=j:=by
 have key:∀{i j:Nat},i<=j->i<n->j<n->(u+v*i)%n=(u+v*j)%n->i=j:=λ{i j} hij hi hj h=>by
  have h1:(u+v*j-(u+v*i))%n=0:=Nat.sub_mod_eq_zero_of_mod_eq h.symm;have h2:u+v*j-(u+v*i)=v*(j-i):=by rw[Nat.mul_sub];have:=Nat.mul_le_mul_left v hij;omega
  rw[h2]at h1;have h3:n ∣ (j-i):=(Nat.Coprime.symm hc).dvd_of_dvd_mul_left (Nat.dvd_of_mod_eq_zero h1);rcases Nat.eq_zero_or_pos (j-i) with e|e
  . omega
  . have:=Nat.le_of_dvd e h3
    omega
 rcases Nat.le_total i j with hij|hij
 . exact key hij hi hj h
 . exact(key hij hj hi h.symm).symm
noncomputable def yg(r:List Int)(v:Nat):List Int:=(AY r.length).map λi=>r.getD (i*v%r.length) 0
theorem fC(hi:i<r.length):(yg r v)[i]?=r[i*v%r.length]?:=by
 have hlt:i*v%r.length<r.length:=CM _ (by omega)
 unfold yg;rw[A2,DA hi];show some (r.getD (i*v%r.length) 0)=_;rw[Aq,Aa hlt];rfl
theorem k7 r v:(yg r v).length=r.length:=by unfold yg;rw[Ae,Bl]
theorem oG.stride(hz:Sz zs)(hF:oG zs r)(hc:Nat.Coprime v r.length):oG zs (yg r v):=hF.via hz (k7 r v) 0 v (λi hi=>by rw[fC hi,Nat.zero_add,Ez]) λi j hi hj e=>kO hc hi hj e
noncomputable def vK(r:List Int)(m:Nat):List Int:=(Ao m r).flatten
theorem mI r m:(vK r m).length=m*r.length:=by unfold vK;simp
theorem iA:∀{m i},i<m*r.length->(vK r m)[i]?=r[i%r.length]?
 |0,i,h=>by rw[Nat.zero_mul]at h;omega
 |m+1,i,h=>by
  show (Ao (m+1) r).flatten[i]?=_;rw[BK,Ci];by_cases hi:i<r.length
  . rw[AS hi,Ee hi]
  . rw[Be (by omega),Nat.mod_eq_sub_mod (by omega)]
    exact iA (by rw[Nat.succ_mul]at h;omega)
end M
end
section
namespace F66
open PySem M
noncomputable def yT:Fn:=⟨["_law_one","_law_other"],["_law_one","_law_other"],false,(.e (.g (.k .i false (.a (.q false ["_law_by","_law_one","_law_other"] [none,some 0,some 1] (.e 0) (.a 0) (.f (.g (.c 1)) (.j false .b (.e 0) (.g (.c 1)))) (.a (.d (.a (.p .b (.j false .c (.e 1) (.e 0)) (.g (.c 0)))) (.a (.a (.p .b (.j false .c (.e 2) (.e 0)) (.g (.c 0)))) .b)) .b)) .b))) .f)⟩
noncomputable def zr:Fn:=⟨["one","other"],["one","other"],false,(.e (.m (.a (.p .a (.e 1) (.g (.c 0)))) (.e (.q [0,1] (.a (.e 1) (.a (.j false .c (.e 0) (.e 1)) .b))) .f)) (.e (.g (.e 0)) .f))⟩
noncomputable def xU:Fn:=⟨["ring","often","many"],["ring","often"],false,(.e (.d (.h "need_ring" 0 (.a (.e 0) .b))) (.e (.d (.h "need_whole" 0 (.a (.e 1) (.a (.g (.c 0)) (.a (.E "MOST_LAID") .b))))) (.e (.f 2 (.j false .a (.k .b false (.a (.e 0) .b)) (.e 1))) (.e (.h (.a (.p .a (.e 2) (.E "MOST_PLACES"))) (.e (.j (.g .h)) .f) .f) (.e (.g (.j false .a (.e 0) (.e 1))) .f)))))⟩
noncomputable def yL:Fn:=⟨["thing"],["thing"],false,(.e (.h (.f (.b (.a (.h "is_strip" 0 (.a (.e 0) .b)))) (.a (.a (.p .b (.k .b false (.a (.e 0) .b)) (.g (.c 0)))) .b)) (.e (.j (.h "NoRing" 0 (.a (.g (.g "a strip with one place or more is due")) .b))) .f) .f) .f)⟩
noncomputable def zg:Fn:=⟨["ring","thing"],["ring","thing"],false,(.e (.h (.b (.a (.h "is_whole" 0 (.a (.e 1) (.a (.g (.c 0)) (.a (.j false .f (.k .b false (.a (.e 0) .b)) (.g (.c 1))) .b)))))) (.e (.j (.h "NoPlace" 0 (.a (.g (.g "a place of the ring is due")) .b))) .f) .f) .f)⟩
noncomputable def yB:Fn:=⟨["ring","by","length"],["ring","by"],false,(.e (.d (.h "need_ring" 0 (.a (.e 0) .b))) (.e (.f 2 (.k .b false (.a (.e 0) .b))) (.e (.d (.h "need_whole" 0 (.a (.e 1) (.a (.g (.c 1)) (.a (.e 2) .b))))) (.e (.h (.a (.p .a (.h "greatest_divisor" 0 (.a (.e 1) (.a (.e 2) .b))) (.g (.c 1)))) (.e (.j (.h "NoNumber" 0 (.a (.g (.g "a number without a divisor in common with the length is due")) .b))) .f) .f) (.e (.g (.k .c false (.a (.q false ["place","ring","length","by"] [none,some 0,some 2,some 1] (.u (.e 1) (.j false .c (.j false .a (.e 0) (.e 3)) (.e 2))) (.a 0) (.d (.e 2)) .b) .b))) .f)))))⟩
noncomputable def ym:Fn:=⟨["ring","place"],["ring","place"],false,(.e (.d (.h "need_ring" 0 (.a (.e 0) .b))) (.e (.d (.h "need_ring_place" 0 (.a (.e 0) (.a (.e 1) .b)))) (.e (.g (.j false .b (.L false (.e 0) (.a (.e 1)) .b .b) (.L false (.e 0) .b (.a (.e 1)) .b))) .f)))⟩
end F66
end
section
namespace M
open PySem
structure Rg(r:List Int):Prop where
 a:lS r
 b:r≠[]
theorem Rg.pos(h:Rg r):0<r.length:=Cj.mpr h.b
theorem Rg.le(h:Rg r):r.length<=40:=h.a.1
section
variable {T:Tbl}{Φ:Calls}{s:Sto}
def yd(Φ:Calls):Prop:=∀(r:List Int) (s:Sto),Rg r->Φ "need_ring" 0 [tpI r] s=.e .h s
theorem nN(c:pB Φ)(h:Rg r):run T Φ F66.yL [tpI r] s=.e .h s:=by
 have h0:zV .b (.c (r.length:Nat)) (.c 0) s=.e (.e false) s:=by rw[eq_int,decide_eq_false (by have:=h.pos;omega)]
 rw[post_eq,F66.yL,we];refine⟨rfl,?_⟩;show (zX Φ T.b [some (tpI r)] _ s).post _;exact vM (Sr (pq (yR (x_call (zA (zB rfl) zE) (c r s h.a)) zh)) (Yo (yR (yi (vq rfl) zG h0) zh) V7)) (vN (wD rfl))
def jU(Φ:Calls):Prop:=∀(r:List Int) (p:Nat) (s:Sto),p<r.length->Φ "need_ring_place" 0 [tpI r,.c p] s=.e .h s
theorem kr(c:tU Φ){p:Nat}(h:p<r.length):run T Φ F66.zg [tpI r,.c p] s=.e .h s:=by
 have c1:=c (.c p) 0 ((r.length:Nat)-1) s (by simp[kindOf])
 rw[sX (by omega) (by omega)]at c1
 rw[post_eq,F66.zg,we];refine⟨rfl,?_⟩;show (zX Φ T.b [some (tpI r),some (.c p)] _ s).post _;exact vM (pq (yR (x_call (zA (zB rfl) (zA zG (zA (zW (vq rfl) zG Xx) zE))) c1) zh)) (vN (wD rfl))
end
end M
end
section
namespace M
open PySem
section
variable {T:Tbl}{Φ:Calls}{s:Sto}
def fM(Φ:Calls):Prop:=∀(r:List Int) (p:Nat) (s:Sto),Rg r->p<r.length->Φ "turned" 0 [tpI r,.c p] s=.e (tpI (r.drop p++r.take p)) s
theorem gz(c1:yd Φ)(c2:jU Φ)(h:Rg r)(hp:p<r.length):run T Φ F66.ym [tpI r,.c p] s=.e (tpI (r.drop p++r.take p)) s:=by
 have hl:=h.le;have hadd:binOp false .b (tpI (r.drop p)) (tpI (r.take p)) s=.e (tpI (r.drop p++r.take p)) s:=by rw[ag (by rw[Ae,Ae,BP,B1];unfold zb;omega),<-EB]
 rw[post_eq,F66.ym,we];refine⟨rfl,?_⟩;show (zX Φ T.b [some (tpI r),some (.c p)] _ s).post _;exact xJ (x_call (zA (zB rfl) zE) (c1 r s h)) (xJ (x_call (zA (zB rfl) (zA (zB rfl) zE)) (c2 r p s hp)) (wK (zW (Sw (zB rfl) (XI (zB rfl)) Zy Zy (by rw[br,az (by omega)])) (Sw (zB rfl) Zy (XI (zB rfl)) Zy (by rw[br,a9 (by omega)])) hadd) (wD (kP _))))
def Xo(Φ:Calls):Prop:=∀(a b:Nat) (s:Sto),b<=40->Φ "greatest_divisor" 0 [.c a,.c b] s=.e (.c (B7 a b:Nat)) s
theorem YU{a b:Nat}(hb:b<=40):run T Φ F66.zr [.c a,.c b] s=.e (.c (B7 a b:Nat)) s:=by
 rw[post_eq,F66.zr,we];refine⟨rfl,?_⟩;show (zX Φ T.b [some (.c a),some (.c b)] _ s).post _;refine yP.mpr (YF b (λk e s'=>s'=s/\∃x:Nat,e=[some (.c (x:Nat)),some (.c (k:Nat))]/\B7 x k=B7 a b) (Nat.lt_of_le_of_lt hb (by decide)) ⟨rfl,a,rfl,rfl⟩ ?_)
 rintro k e s' ⟨rfl,x,rfl,hg⟩;have hgt:evT Φ T.b [some (.c (x:Nat)),some (.c (k:Nat))] (.a (.p .a (.e 1) (.g (.c 0)))) s'=.e (decide ((0:Int)<(k:Nat))) s':=yR (yi (zB rfl) zG gt_int) zh;rw[hgt];refine zF.mpr ?_;cases k with
 |zero=>
  rw[show decide ((0:Int)<((0:Nat):Int))=false from rfl,if_neg Ad];rw[Nat.gcd_zero_right]at hg;rw[<-hg];exact wK (zB rfl) (wD nB)
 |succ k=>
  rw[decide_eq_true (by omega),if_pos rfl]
  refine yP.mpr (XO.mpr (iE (zB rfl) (iE (zW (zB rfl) (zB rfl) (bmod (by omega))) (cm.mpr (YG rfl ?_)))))
  rw[show (x:Int)%((k+1:Nat):Int)=((x%(k+1):Nat):Int) from (CY _ _).symm];refine vN ⟨x%(k+1),CM _ (by omega),rfl,k+1,rfl,?_⟩
  rw[<-hg,Nat.gcd_comm,<-Nat.gcd_rec,Nat.gcd_comm]
def aZ(Φ:Calls):Prop:=∀(r:List Int) (v:Nat) (s:Sto),Rg r->1<=v->v<=r.length->B7 v r.length=1->Φ "strided" 0 [tpI r,.c v] s=.e (tpI (yg r v)) s
theorem ku(c1:yd Φ)(c2:wB Φ)(c3:Xo Φ)(h:Rg r)(h1:1<=v)(h2:v<=r.length)(h3:B7 v r.length=1):run T Φ F66.yB [tpI r,.c v] s=.e (tpI (yg r v)) s:=by
 have hl:=h.le;have hpos:=h.pos;have cg:=c3 v r.length s hl;rw[h3]at cg;have hL:r.length<=zb:=Ay hl (by decide)
 rw[post_eq,F66.yB,we];refine⟨rfl,?_⟩;show (zX Φ T.b [some (tpI r),some (.c v),none] _ s).post _;refine xJ (x_call (zA (zB rfl) zE) (c1 r s h)) (xN (vq rfl) ?_);show (zX Φ T.b [some (tpI r),some (.c v),some (.c (r.length:Nat))] _ s).post _;refine xJ (x_call (zA (zB rfl) (zA zG (zA (zB rfl) zE))) (c2 v 1 _ s (by omega) (by omega))) (vM (yR (yi (x_call (zA (zB rfl) (zA (zB rfl) zE)) cg) zG (show zV .a (.c ((1:Nat):Int)) (.c 1) s=.e (.e false) s from rfl)) zh) ?_)
 refine wK (yS (zA (iT (n:=r.length) (f:=λi=>r.getD (i*v%r.length) 0) (mF (zB rfl) hL) rfl (λk o hk=>?_) hL) zE) rfl) (wD (kP _));have hlt:k*v%r.length<r.length:=CM _ hpos;have e:((k:Int)*(v:Int))%((r.length:Nat):Int)=((k*v%r.length:Nat):Int):=by rw[CY,Dd]
 refine vH (zB rfl) (zW (zW (zB rfl) (zB rfl) (rZ (by omega))) (zB rfl) (by rw[bmod (by omega),e])) (oq ?_)
 rw[Aa hlt,Aq,Aa hlt];rfl
def UJ(Φ:Calls):Prop:=∀(r:List Int) (m:Nat) (s:Sto),Rg r->r.length*m<=40->Φ "laid" 0 [tpI r,.c m] s=.e (tpI (vK r m)) s
end
end M
end
section
namespace M
open PySem
noncomputable def ZO(p:Nat->Bool):Val->List Val
 |.c i=>if p i.toNat then [.c i] else []
 |_=>[]
theorem YT n:xB ((1:Nat):Int) n=(Ge 1 n).map λ(q:Nat)=>Val.c q:=by unfold xB;rw[List.range'_eq_map_range,EF];exact List.map_congr_left λk _=>by show Val.c _=Val.c _;congr 1
section
variable {T:Tbl}{Φ:Calls}{G:Str->Option Val}{s:Sto}
theorem UH{p:Nat->Bool}(hi:xA Φ G env it s=.e ⟨xB ((1:Nat):Int) n,none⟩ s)(h0:zo fr env=none::e0)(h:∀k:Nat,1<=k->k<=n->evT Φ G (some (.c (k:Nat))::e0) c s=.e (p k) s) :
 evE Φ G env (.q false N fr (.e 0) (.a 0) it (.a c .b)) s=.e (.m ((gO ((Ge 1 n).filter p)).map .c)) s:=by
 rw[post_eq];refine iD (λe=>∃o,e=o::e0) (ZO p) (xB ((1:Nat):Int) n) (s1:=s) hi ⟨none,h0⟩ ?_ ?_
 . rintro x hx e ⟨o,rfl⟩
   obtain⟨k,hk,rfl⟩:=ow hx;rw[show ((1:Nat):Int)+(k:Int)=((1+k:Nat):Int) by omega]
   refine⟨_,rfl,⟨_,rfl⟩,?_⟩;show (wF Φ G (some (.c ((1+k:Nat):Int))::e0) _ s).post _;rw[UC (h (1+k) (by omega) (by omega))]
   refine zF.mpr ⟨rfl,?_⟩;have e:ZO p (.c ((1+k:Nat):Int))=if p (1+k) then [.c ((1+k:Nat):Int)] else []:=by
    show (if p ((1+k:Nat):Int).toNat then _ else _)=_
    rw[BI]
   rw[e];cases p (1+k) with
   |false=>rfl
   |true=>
    show (evE Φ G (some (.c ((1+k:Nat):Int))::e0) (.e 0) s).post _;rw[zB rfl];exact zF.mpr ⟨rfl,rfl⟩
 . have e:(xB ((1:Nat):Int) n).flatMap (ZO p)=(gO ((Ge 1 n).filter p)).map .c:=by
    rw[YT,List.flatMap_map,cJ];have:(λ(k:Nat)=>ZO p (.c (k:Int)))=λk=>if p k then [(λ(k:Nat)=>Val.c (k:Int)) k] else []:=by
     funext k;show (if p (k:Int).toNat then [Val.c (k:Int)] else [])=_
     rw[BI]
    rw[this,n6 (p:=p) (f:=λ(k:Nat)=>Val.c (k:Int))]
   rw[e];exact zF.mpr ⟨rfl,rfl⟩
noncomputable def X8(a b:Nat):List Nat:=(Ge 1 a).filter λd=>decide (a%d=0)&&decide (b%d=0)
theorem Zs(h:ns≠[]):blt .i false [.m (ns.map .c)] s=.e (.c (L2.xw 0 ns)) s:=by
 show (match M.intsOf (ns.map .c) with|some ns=>if ns≠[] then Out.e (Val.c (L2.xw 0 ns)) s else .d|dS=>.d)=_
 rw[jy];exact if_pos h
theorem jv:zV .b (.c (a:Nat)) (.c (b:Nat)) s=.e (.e (decide (a=b))) s:=by rw[eq_int];congr 2;exact decide_eq_decide.mpr (by omega)
end
end M
end
section
namespace M
open PySem
section
variable {W:Str->Bool}{Φ:Calls}{Ψ:yU}{G:Str->Option Val}{env:Env}{s s1:Sto}
theorem w8(h:exS Φ G env c s=.e (.a e) s1):zX Φ G env (.e c cs) s=zX Φ G e cs s1:=bnd h rfl
theorem xX(h:exS Φ G env c s=.d):zX Φ G env (.e c cs) s=.d:=by show (exS Φ G env c s).bind _=_;rw[h];rfl
theorem dz(h:evT Φ G env c s=.e true s1)(k:zX Φ G env a s1=.d):exS Φ G env (.h c a b) s=.d:=bnd h k
theorem xb:exS Φ G env (.j e) s=.d:=rfl
theorem kD(h:evE Φ G env e s=.d):exS Φ G env (.d e) s=.d:=by show (evE Φ G env e s).bind _=_;rw[h];rfl
theorem vz(h:evE Φ G env e s=.e v s1):exS Φ G env (.d e) s=.e (.a env) s1:=bnd h rfl
theorem vE(h:exS Φ G env c s=.e (.a e) s1):xSs W Φ Ψ G env (.e c cs) s=xSs W Φ Ψ G e cs s1:=by simp only[xSs,h]
theorem xZ(h:exS Φ G env c s=.d):xSs W Φ Ψ G env (.e c cs) s=xS W Φ Ψ G env c s:=by simp only[xSs,h]
theorem bQ(h:evT Φ G env c s=.e true s1):xS W Φ Ψ G env (.h c a b) s=xSs W Φ Ψ G env a s1:=by simp only[xS,h,if_true]
theorem kj(h:zi Φ G env es s=.e vs s1):xS W Φ Ψ G env (.d (.h f v es)) s=Ψ f v vs s1:=by simp only[xS,xE,h]
theorem uz(h:zi Φ G env es s=.e vs s1)(k:(qM vs&&W c)=true):xS W Φ Ψ G env (.j (.h c v es)) s=some (c,vs,s1):=by simp only[xS,h];rw[if_pos k]
theorem y0(hl:vs.length=F.b.length)(h:zX Φ T.b (zu F.N vs) F.a s=.d):run T Φ F vs s=.d:=by unfold run;rw[if_pos hl,h];rfl
end
def Rz(Φ:Calls)(Ψ:yU)(f:Str)(vs:List Val)(s:Sto)(c:Str):Prop:=Φ f 0 vs s=.d/\∃as,Ψ f 0 vs s=some (c,as,s)
section
variable {T:Tbl}{Φ:Calls}{Ψ:yU}{s:Sto}
def fX(Φ:Calls)(Ψ:yU):Prop:=∀(v:Val) (l m:Int) (s:Sto),kindOf v≠none->zY l m v=false->l.natAbs<2 ^ 64->m.natAbs<2 ^ 64->Rz Φ Ψ "need_whole" [v,.c l,.c m] s "NoNumber"
theorem fZ(c:tU Φ)(hW:(T.c.lookup ("NoNumber":Str)).isSome=true)(hk:kindOf v≠none)(hw:zY l m v=false)(hl:l.natAbs<2 ^ 64)(hm:m.natAbs<2 ^ 64) :
 run T Φ F.zm [v,.c l,.c m] s=.d/\xSs (λc=>(T.c.lookup c).isSome) Φ Ψ T.b (zu F.zm.N [v,.c l,.c m]) F.zm.a s=some (("NoNumber":Str),[Val.c l,Val.c m],s):=by
 have ht:evT Φ T.b [some v,some (.c l),some (.c m)] (.b (.a (.h "is_whole" 0 (.a (.e 0) (.a (.e 1) (.a (.e 2) .b)))))) s=.e true s:=by have hc:=c v l m s hk;rw[hw]at hc;exact pq (b:=false) (yR (x_call (zA (zB rfl) (zA (zB rfl) (zA (zB rfl) zE))) hc) zh)
 have hs:=dz (b:=.f) ht (xX (cs:=.f) (xb (e:=.h "NoNumber" 0 (.a (.e 1) (.a (.e 2) .b)))));refine⟨y0 rfl (xX hs),(xZ hs).trans ((bQ ht).trans ((xZ xb).trans (uz (zA (zB rfl) (zA (zB rfl) zE)) ?_)))⟩;rw[hW];simp[qM,hl,hm]
end
end M
end
section
namespace M
open PySem
theorem x9:∀{tb} {s},zj tb s=true↔∃r,s=tb.map Cel.d++r
 |[],s=>⟨λ_=>⟨s,rfl⟩,λ_=>rfl⟩
 |x::tb,s=>by
  constructor
  . intro h
    cases s with
    |nil=>cases h
    |cons c r=>
     cases c with
     |d y=>
      have h':(decide (x=y)&&zj tb r)=true:=h;rw[cf,decide_eq_true_eq]at h';obtain⟨r',e⟩:=x9.mp h'.2;exact⟨r',by rw[h'.1,e];rfl⟩
     |_=>cases h
  . rintro ⟨r,rfl⟩
    show (decide (x=x)&&zj tb (tb.map Cel.d++r))=true;rw[decide_eq_true rfl,x9.mpr ⟨r,rfl⟩];rfl
theorem iS(h:zj tb s=true):zj tb (s++t)=true:=by obtain⟨r,rfl⟩:=x9.mp h;exact x9.mpr ⟨r++t,BJ ..⟩
theorem Yj(h:zj tb s=true)(hp:tb.length<=p):zj tb (s.set p c)=true:=by obtain⟨r,rfl⟩:=x9.mp h;refine x9.mpr ⟨r.set (p-tb.length) c,?_⟩;rw[List.set_append_right _ _ (by rw[Ae];exact hp),Ae]
theorem vm(h:zj tb s=true)(hp:tb.length<=p)(t:uJ s p s'):zj tb s'=true:=by obtain⟨a,b,c,d,rfl,_⟩:=t;exact Yj h hp
theorem Yi(h:zj tb s=true):tb.length<=s.length:=by obtain⟨r,rfl⟩:=x9.mp h;rw[Au,Ae];omega
theorem gI(hs:zj tb s=true)(h:v.noRef=true):yI false (tb.map Cel.d) v s=.e v (tb.map Cel.d):=by obtain⟨r,rfl⟩:=x9.mp hs;exact kF h
theorem vX(h:Rz (zD T n) (zS T n) f vs s c)(h1:T.d f 101=none)(h2:T.e true=true)(h3:zj T.f s=true)(h4:T.c.lookup c=some w):zD T (n+1) f 101 vs s=.e (.g w) s:=by obtain⟨a,as,b⟩:=h;simp only[zD,h1,a,b,h2,h3,h4,qf];rfl
theorem dB(h:zD T n f 0 vs s=.e v s')(h1:T.d f 101=none)(h2:T.e true=true)(h3:zj T.f s=true):zD T (n+1) f 101 vs s=.e v s':=by simp only[zD,h1,h,h2,h3,qf];rfl
def RzF(T:Tbl)(Φ:Calls)(Ψ:yU)(F:Fn)(vs:List Val)(s:Sto)(c:Str):Prop:=run T Φ F vs s=.d/\∃as,xSs (λc=>(T.c.lookup c).isSome) Φ Ψ T.b (zu F.N vs) F.a s=some (c,as,s)
theorem RzF.up(h:RzF T (zD T n) (zS T n) F vs s c)(hf:T.d f 0=some F)(hl:vs.length=F.b.length):Rz (zD T (n+1)) (zS T (n+1)) f vs s c:=by obtain⟨a,as,b⟩:=h;exact⟨by rw[zq hf];exact a,as,by rw[rh hf hl];exact b⟩
section
variable {T:Tbl}{Φ:Calls}{Ψ:yU}{s:Sto}
theorem td(hb:F.a=.e (.d (.h f 0 es)) cs)(hl:vs.length=F.b.length)(he:zi Φ T.b (zu F.N vs) es s=.e ws s)(h:Rz Φ Ψ f ws s c):RzF T Φ Ψ F vs s c:=by obtain⟨a,as,b⟩:=h;have hs:=kD (x_call he a);refine⟨y0 hl (by rw[hb];exact xX hs),as,by rw[hb];exact(xZ hs).trans ((kj he).trans b)⟩
theorem rX(hb:F.a=.e (.d (.h f 0 es)) (.e (.d (.h g 0 es2)) cs))(hl:vs.length=F.b.length)(he:zi Φ T.b (zu F.N vs) es s=.e ws s)(h1:Φ f 0 ws s=.e v s)(he2:zi Φ T.b (zu F.N vs) es2 s=.e ys s)(h:Rz Φ Ψ g ys s c):RzF T Φ Ψ F vs s c:=by obtain⟨a,as,b⟩:=h;have hs:=kD (x_call he2 a);have hn:=vz (x_call he h1);refine⟨y0 hl (by rw[hb];exact(w8 hn).trans (xX hs)),as,by rw[hb];exact(vE hn).trans ((xZ hs).trans ((kj he2).trans b))⟩
end
end M
end
section
namespace M
open PySem
structure Kds(v:Val):Prop where
 kd:kindOf v≠none
 el:∀vs,v=.f vs->∀w∈vs,kindOf w≠none
def wj(v:Val):Bool:=vk v&&(match v with|.f []=>false|_=>true)
section
variable {T:Tbl}{Φ:Calls}{Ψ:yU}{s:Sto}
def oF(Φ:Calls):Prop:=∀(v:Val) (s:Sto),Kds v->Φ "is_strip" 0 [v] s=.e (.e (vk v)) s
theorem ky(g1:T.b "MOST_PLACES"=some (.c 40))(g2:T.b "HUES"=some (.o [0,1,2,3]))(c:jV Φ)(hv:Kds v):run T Φ F.xQ [v] s=.e (.e (vk v)) s:=by
 obtain⟨a,ha⟩:=j8 hv.kd;have i1:=l8 (m:=false) (s:=s) ha (show uN "tuple"=some .d from rfl);have end':∀{b:Bool},b=vk v->(yI false s (.e b) s).post λx t=>x=.e (vk v)/\t=s:=λ{b} e=>by rw[w9 rO,e];exact zF.mpr ⟨rfl,rfl⟩
 rw[post_eq,F.xQ,we];refine⟨rfl,?_⟩;show (zX Φ T.b [some v] _ s).post _;rcases Ww ha with⟨vs,rfl⟩|hn
 . have e1:a=.d:=by cases ha;rfl
   subst e1;by_cases h4:vs.length<=40
   . exact wK (aV (yS (zA (zB rfl) (zA lK zE)) i1) (yi (yS (zA (zB rfl) zE) j9) (pA g1) (by rw[le_int,decide_eq_true (by omega)])) (x_call (zA (zB rfl) (zA (vH (pA g2) zG rfl) (zA (vH (pA g2) (lJ zG) rfl) zE))) (c vs 0 3 s (hv.el vs rfl)))) (end' (by show _=(decide (vs.length<=40)&&vs.all (zY 0 3));rw[decide_eq_true h4];rfl))
   . exact wK (aU (yS (zA (zB rfl) (zA lK zE)) i1) (yi (yS (zA (zB rfl) zE) j9) (pA g1) (by rw[le_int,decide_eq_false (by omega)]))) (end' (by show _=(decide (vs.length<=40)&&vs.all (zY 0 3));rw[decide_eq_false h4];rfl))
 . rw[hn]at i1
   exact wK (aT (yS (zA (zB rfl) (zA lK zE)) i1)) (end' (bw λvs e=>by rw[e]at ha;cases ha;cases hn).symm)
theorem d0 ns:Kds (tpI ns):=⟨nofun,λvs e=>by cases e;exact gF⟩
theorem fD(c:oF Φ):pB Φ:=λns s h=>by rw[c _ s (d0 ns),bx h]
def jZ(Φ:Calls)(Ψ:yU):Prop:=∀(v:Val) (s:Sto),Kds v->wj v=false->Rz Φ Ψ "need_ring" [v] s "NoRing"
theorem fe(c:oF Φ)(hW:(T.c.lookup ("NoRing":Str)).isSome=true)(hv:Kds v)(hr:wj v=false):RzF T Φ Ψ F66.yL [v] s "NoRing":=by
 have cs:=c v s hv;have ht:evT Φ T.b [some v] (.f (.b (.a (.h "is_strip" 0 (.a (.e 0) .b)))) (.a (.a (.p .b (.k .b false (.a (.e 0) .b)) (.g (.c 0)))) .b)) s=.e true s:=by
  cases hs:vk v with
  |false=>
   rw[hs]at cs;exact Ss (pq (b:=false) (yR (x_call (zA (zB rfl) zE) cs) zh))
  |true=>
   rw[hs]at cs;have:v=.f []:=by
    unfold wj at hr;rw[hs,Bool.true_and]at hr;split at hr
    . rfl
    . cases hr
   subst this;exact Sr (pq (b:=true) (yR (x_call (zA (zB rfl) zE) cs) zh)) (aK (yR (yi (yS (zA (zB rfl) zE) j9) zG (show zV .b (.c (([]:List Val).length:Nat)) (.c 0) s=.e (.e true) s from rfl)) zh))
 have hs:=dz (b:=.f) ht (xX (cs:=.f) (xb (e:=.h "NoRing" 0 (.a (.g (.g "a strip with one place or more is due")) .b))));refine⟨y0 rfl (xX hs),_,(xZ hs).trans ((bQ ht).trans ((xZ xb).trans (uz (zA zG zE) ?_)))⟩;rw[hW];rfl
def XRP(Φ:Calls)(Ψ:yU):Prop:=∀(r:List Int) (v:Val) (s:Sto),kindOf v≠none->zY 0 ((r.length:Nat)-1) v=false->Rz Φ Ψ "need_ring_place" [tpI r,v] s "NoPlace"
theorem Xu(c:tU Φ)(hW:(T.c.lookup ("NoPlace":Str)).isSome=true)(hk:kindOf v≠none)(hw:zY 0 ((r.length:Nat)-1) v=false):RzF T Φ Ψ F66.zg [tpI r,v] s "NoPlace":=by have hc:=c v 0 ((r.length:Nat)-1) s hk;rw[hw]at hc;have ht:evT Φ T.b [some (tpI r),some v] (.b (.a (.h "is_whole" 0 (.a (.e 1) (.a (.g (.c 0)) (.a (.j false .f (.k .b false (.a (.e 0) .b)) (.g (.c 1))) .b)))))) s=.e true s:=pq (b:=false) (yR (x_call (zA (zB rfl) (zA zG (zA (zW (vq rfl) zG Xx) zE))) hc) zh);have hs:=dz (b:=.f) ht (xX (cs:=.f) (xb (e:=.h "NoPlace" 0 (.a (.g (.g "a place of the ring is due")) .b))));refine⟨y0 rfl (xX hs),_,(xZ hs).trans ((bQ ht).trans ((xZ xb).trans (uz (zA zG zE) ?_)))⟩;rw[hW];rfl
end
end M
end
section
namespace F63
open PySem M
noncomputable def xU:Fn:=⟨["ring","often","many"],["ring","often"],false,(.e (.d (.h "need_ring" 0 (.a (.e 0) .b))) (.e (.d (.h "need_whole" 0 (.a (.e 1) (.a (.g (.c 0)) (.a (.E "MOST_LAID") .b))))) (.e (.f 2 (.j false .a (.k .b false (.a (.e 0) .b)) (.e 1))) (.e (.h (.a (.p .a (.e 2) (.E "MOST_PLACES"))) (.e (.j (.h "TooGreat" 1 (.a (.e 2) (.a (.E "MOST_PLACES") .b)))) .f) .f) (.e (.g (.j false .a (.e 0) (.e 1))) .f)))))⟩
end F63
end
section
namespace M
open PySem
def RzG(Φ:Calls)(Ψ:yU)(f:Str)(vs:List Val)(s:Sto)(c:Str)(as:List Val):Prop:=Φ f 0 vs s=.d/\Ψ f 0 vs s=some (c,as,s)
def aa(T:Tbl)(Φ:Calls)(Ψ:yU)(F:Fn)(vs:List Val)(s:Sto)(c:Str)(as:List Val):Prop:=run T Φ F vs s=.d/\xSs (λc=>(T.c.lookup c).isSome) Φ Ψ T.b (zu F.N vs) F.a s=some (c,as,s)
theorem RzG.rz(h:RzG Φ Ψ f vs s c as):Rz Φ Ψ f vs s c:=⟨h.1,as,h.2⟩
theorem aa.up(h:aa T (zD T n) (zS T n) F vs s c as)(hf:T.d f 0=some F)(hl:vs.length=F.b.length):RzG (zD T (n+1)) (zS T (n+1)) f vs s c as:=
 ⟨by rw[zq hf];exact h.1,by rw[rh hf hl];exact h.2⟩
theorem dD(h:RzG (zD T n) (zS T n) f vs s "TooGreat" as)(h1:T.d f 102=none)(h0:uh vs=none)(h2:oi T=true)(h3:zj T.f s=true):zD T (n+1) f 102 vs s=.e (.f as) s:=by obtain⟨a,b⟩:=h;simp only[zD,h1,a,b,h0,h2,h3];rfl
section
variable {T:Tbl}{Φ:Calls}{Ψ:yU}{s:Sto}
structure UR(Φ:Calls)(Ψ:yU):Prop where
 a:∀(v w:Val) (s:Sto),Kds v->wj v=false->Rz Φ Ψ "turned" [v,w] s "NoRing"
 b:∀(r:List Int) (w:Val) (s:Sto),Rg r->kindOf w≠none->zY 0 ((r.length:Nat)-1) w=false->Rz Φ Ψ "turned" [tpI r,w] s "NoPlace"
theorem ig(cX:jZ Φ Ψ)(hv:Kds v)(hr:wj v=false):RzF T Φ Ψ F66.ym [v,w] s "NoRing":=td rfl rfl (zA (zB rfl) zE) (cX v s hv hr)
theorem ij(c1:yd Φ)(cX:XRP Φ Ψ)(h:Rg r)(hk:kindOf w≠none)(hw:zY 0 ((r.length:Nat)-1) w=false):RzF T Φ Ψ F66.ym [tpI r,w] s "NoPlace":=
 rX rfl rfl (zA (zB rfl) zE) (c1 r s h) (zA (zB rfl) (zA (zB rfl) zE)) (cX r w s hk hw)
structure af(Φ:Calls)(Ψ:yU):Prop where
 a:∀(v w:Val) (s:Sto),Kds v->wj v=false->Rz Φ Ψ "strided" [v,w] s "NoRing"
 b:∀(r:List Int) (w:Val) (s:Sto),Rg r->kindOf w≠none->zY 1 (r.length:Nat) w=false->Rz Φ Ψ "strided" [tpI r,w] s "NoNumber"
 c:∀(r:List Int) (v:Nat) (s:Sto),Rg r->1<=v->v<=r.length->B7 v r.length≠1->Rz Φ Ψ "strided" [tpI r,.c v] s "NoNumber"
theorem fg(cX:jZ Φ Ψ)(hv:Kds v)(hr:wj v=false):RzF T Φ Ψ F66.yB [v,w] s "NoRing":=td rfl rfl (zA (zB rfl) zE) (cX v s hv hr)
theorem kC(h:evE Φ G env e s=.e v s1):exS Φ G env (.f i e) s=.e (.a (env.set i (some v))) s1:=bnd h rfl
theorem fh(c1:yd Φ)(cX:fX Φ Ψ)(h:Rg r)(hk:kindOf w≠none)(hw:zY 1 (r.length:Nat) w=false):RzF T Φ Ψ F66.yB [tpI r,w] s "NoNumber":=by
 have hl:=h.le;obtain⟨a,as,b⟩:=cX w 1 (r.length:Nat) s hk hw (by decide) (by omega)
 have h1:exS Φ T.b [some (tpI r),some w,none] (.d (.h "need_ring" 0 (.a (.e 0) .b))) s=.e (.a [some (tpI r),some w,none]) s:=vz (x_call (zA (zB rfl) zE) (c1 r s h));have h2:exS Φ T.b [some (tpI r),some w,none] (.f 2 (.k .b false (.a (.e 0) .b))) s=.e (.a [some (tpI r),some w,some (.c (r.length:Nat))]) s:=kC (vq rfl);have he:zi Φ T.b [some (tpI r),some w,some (.c (r.length:Nat))] (.a (.e 1) (.a (.g (.c 1)) (.a (.e 2) .b))) s=.e [w,.c 1,.c (r.length:Nat)] s:=zA (zB rfl) (zA zG (zA (zB rfl) zE));have hs:=kD (x_call he a);exact⟨y0 rfl ((w8 h1).trans ((w8 h2).trans (xX hs))),as,(vE h1).trans ((vE h2).trans ((xZ hs).trans ((kj he).trans b)))⟩
theorem fi(c1:yd Φ)(c2:wB Φ)(c3:Xo Φ)(hW:(T.c.lookup ("NoNumber":Str)).isSome=true)(h:Rg r)(h1:1<=v)(h2:v<=r.length)(h3:B7 v r.length≠1):RzF T Φ Ψ F66.yB [tpI r,.c v] s "NoNumber":=by
 have hl:=h.le;have hpos:0<B7 v r.length:=F1 _ h1;have e1:exS Φ T.b [some (tpI r),some (.c v),none] (.d (.h "need_ring" 0 (.a (.e 0) .b))) s=.e (.a [some (tpI r),some (.c v),none]) s:=vz (x_call (zA (zB rfl) zE) (c1 r s h));have e2:exS Φ T.b [some (tpI r),some (.c v),none] (.f 2 (.k .b false (.a (.e 0) .b))) s=.e (.a [some (tpI r),some (.c v),some (.c (r.length:Nat))]) s:=kC (vq rfl);have e3:exS Φ T.b [some (tpI r),some (.c v),some (.c (r.length:Nat))] (.d (.h "need_whole" 0 (.a (.e 1) (.a (.g (.c 1)) (.a (.e 2) .b))))) s=.e (.a [some (tpI r),some (.c v),some (.c (r.length:Nat))]) s:=vz (x_call (zA (zB rfl) (zA zG (zA (zB rfl) zE))) (c2 v 1 (r.length:Nat) s (by omega) (by omega)))
 have ht:evT Φ T.b [some (tpI r),some (.c v),some (.c (r.length:Nat))] (.a (.p .a (.h "greatest_divisor" 0 (.a (.e 1) (.a (.e 2) .b))) (.g (.c 1)))) s=.e true s:=yR (yi (x_call (zA (zB rfl) (zA (zB rfl) zE)) (c3 v r.length s hl)) zG (show zV .a (.c (B7 v r.length:Nat)) (.c 1) s=.e (.e true) s by rw[gt_int,decide_eq_true (by omega)])) zh
 have hs:=dz (b:=.f) ht (xX (cs:=.f) (xb (e:=.h "NoNumber" 0 (.a (.g (.g "a number without a divisor in common with the length is due")) .b))));refine⟨y0 rfl ((w8 e1).trans ((w8 e2).trans ((w8 e3).trans (xX hs)))),_,(vE e1).trans ((vE e2).trans ((vE e3).trans ((xZ hs).trans ((bQ ht).trans ((xZ xb).trans (uz (zA zG zE) ?_))))))⟩;rw[hW];rfl
structure UQ(Φ:Calls)(Ψ:yU):Prop where
 a:∀(v w:Val) (s:Sto),Kds v->wj v=false->Rz Φ Ψ "laid" [v,w] s "NoRing"
 b:∀(r:List Int) (w:Val) (s:Sto),Rg r->kindOf w≠none->zY 0 40 w=false->Rz Φ Ψ "laid" [tpI r,w] s "NoNumber"
 c:∀(r:List Int) (m:Nat) (s:Sto),Rg r->m<=40->40<r.length*m->RzG Φ Ψ "laid" [tpI r,.c m] s "TooGreat" [.c ((r.length:Int)*(m:Int)),.c 40]
theorem iX(cX:jZ Φ Ψ)(hv:Kds v)(hr:wj v=false):RzF T Φ Ψ F63.xU [v,w] s "NoRing":=td rfl rfl (zA (zB rfl) zE) (cX v s hv hr)
theorem iY(gp:T.b "MOST_PLACES"=some (.c 40))(gm:T.b "MOST_LAID"=some (.c 40))(c1:yd Φ)(cX:fX Φ Ψ)(h:Rg r)(hk:kindOf w≠none)(hw:zY 0 40 w=false):RzF T Φ Ψ F63.xU [tpI r,w] s "NoNumber":=
 rX rfl rfl (zA (zB rfl) zE) (c1 r s h) (zA (zB rfl) (zA zG (zA (pA gm) zE))) (cX w 0 40 s hk hw (by decide) (by decide))
theorem iZ(gp:T.b "MOST_PLACES"=some (.c 40))(gm:T.b "MOST_LAID"=some (.c 40))(c1:yd Φ)(c2:wB Φ)(hW:(T.c.lookup ("TooGreat":Str)).isSome=true)(h:Rg r)(hm:m<=40)(hg:40<r.length*m):aa T Φ Ψ F63.xU [tpI r,.c m] s "TooGreat" [.c ((r.length:Int)*(m:Int)),.c 40]:=by
 have hl:=h.le;have hmul:r.length*m<=40*40:=EL hl hm;have hc:((r.length*m:Nat):Int)=(r.length:Int)*(m:Int):=Dd _ _;have e1:exS Φ T.b [some (tpI r),some (.c m),none] (.d (.h "need_ring" 0 (.a (.e 0) .b))) s=.e (.a [some (tpI r),some (.c m),none]) s:=vz (x_call (zA (zB rfl) zE) (c1 r s h));have e2:exS Φ T.b [some (tpI r),some (.c m),none] (.d (.h "need_whole" 0 (.a (.e 1) (.a (.g (.c 0)) (.a (.E "MOST_LAID") .b))))) s=.e (.a [some (tpI r),some (.c m),none]) s:=vz (x_call (zA (zB rfl) (zA zG (zA (pA gm) zE))) (c2 m 0 40 s (by omega) (by omega)))
 have e3:exS Φ T.b [some (tpI r),some (.c m),none] (.f 2 (.j false .a (.k .b false (.a (.e 0) .b)) (.e 1))) s=.e (.a [some (tpI r),some (.c m),some (.c ((r.length:Int)*(m:Int)))]) s:=kC (zW (vq rfl) (zB rfl) (fm (by omega)))
 have ht:evT Φ T.b [some (tpI r),some (.c m),some (.c ((r.length:Int)*(m:Int)))] (.a (.p .a (.e 2) (.E "MOST_PLACES"))) s=.e true s:=yR (yi (zB rfl) (pA gp) (show zV .a (.c ((r.length:Int)*(m:Int))) (.c 40) s=.e (.e true) s by rw[gt_int,decide_eq_true (by omega)])) zh
 have hs:=dz (b:=.f) ht (xX (cs:=.f) (xb (e:=.h "TooGreat" 1 (.a (.e 2) (.a (.E "MOST_PLACES") .b)))));refine⟨y0 rfl ((w8 e1).trans ((w8 e2).trans ((w8 e3).trans (xX hs)))),(vE e1).trans ((vE e2).trans ((vE e3).trans ((xZ hs).trans ((bQ ht).trans ((xZ xb).trans (uz (zA (zB rfl) (zA (pA gp) zE)) ?_))))))⟩;rw[hW,GI];show (decide (_<2 ^ 64)&&decide (_<2 ^ 64))=true;rw[<-hc,decide_eq_true (by omega),decide_eq_true (by decide)];rfl
theorem gy(gp:T.b "MOST_PLACES"=some (.c 40))(gm:T.b "MOST_LAID"=some (.c 40))(c1:yd Φ)(c2:wB Φ)(h:Rg r)(hm:r.length*m<=40):run T Φ F63.xU [tpI r,.c m] s=.e (tpI (vK r m)) s:=by
 have hl:=h.le;have hm':m<=40:=by have:=Nat.le_mul_of_pos_left m h.pos;omega
 have hgt:zV .a (.c ((r.length:Int)*(m:Int))) (.c 40) s=.e (.e false) s:=by rw[gt_int,decide_eq_false (by have:((r.length*m:Nat):Int)=(r.length:Int)*(m:Int):=Dd _ _;omega)]
 have hmul:binOp false .a (tpI r) (.c (m:Int)) s=.e (tpI (vK r m)) s:=by
  rw[Zu (by omega) (λe=>h.b (List.map_eq_nil_iff.mp e)) (by rw[Ae];omega)]
  unfold vK;show _=Out.e (Val.f (FV Val.c (Ao m r).flatten)) s;rw[List.map_flatten,List.map_replicate]
 rw[post_eq,F63.xU,we];refine⟨rfl,?_⟩;show (zX Φ T.b [some (tpI r),some (.c m),none] _ s).post _;refine xJ (x_call (zA (zB rfl) zE) (c1 r s h)) (xJ (x_call (zA (zB rfl) (zA zG (zA (pA gm) zE))) (c2 m 0 40 s (by omega) (by omega))) (xN (zW (vq rfl) (zB rfl) (fm (by omega))) ?_))
 show (zX Φ T.b [some (tpI r),some (.c m),some (.c ((r.length:Int)*(m:Int)))] _ s).post _;exact vM (yR (yi (zB rfl) (pA gp) hgt) zh) (wK (zW (zB rfl) (zB rfl) hmul) (wD (kP _)))
theorem aw:∀a,a<41->∀b,b<41->1<=a->1<=b->gO (X8 a b)≠[]/\L2.xw 0 (gO (X8 a b))=(B7 a b:Nat):=by decide +kernel
def fL(Φ:Calls):Prop:=∀(a b:Nat) (s:Sto),1<=a->a<=40->1<=b->b<=40->Φ "_law_common" 0 [.c a,.c b] s=.e (.c (B7 a b:Nat)) s
theorem gw{a b:Nat}(h1:1<=a)(h2:a<=40)(h3:1<=b)(h4:b<=40):run T Φ F66.yT [.c a,.c b] s=.e (.c (B7 a b:Nat)) s:=by
 obtain⟨g1,g2⟩:=aw a (by omega) b (by omega) h1 h3
 rw[post_eq,F66.yT,we];refine⟨rfl,?_⟩;show (zX Φ T.b [some (.c a),some (.c b)] _ s).post _;refine wK (yS (zA (UH (n:=a) (p:=λd=>decide (a%d=0)&&decide (b%d=0)) (Ut (i:=1) (j:=a+1) zG (zW (zB rfl) zG tj) (by omega) (by omega)) rfl λk hk _=>?_) zE) (Zs g1)) ?_
 . have e:∀x:Nat,binOp false .c (.c (x:Nat)) (.c (k:Nat)) s=.e (.c ((x%k:Nat):Int)) s:=λx=>by rw[bmod (by omega),CY]
   exact aI (a:=decide (a%k=0)) (b:=decide (b%k=0)) (yR (yi (zW (zB rfl) (zB rfl) (e a)) zG (jv (b:=0))) zh) (yR (yi (zW (zB rfl) (zB rfl) (e b)) zG (jv (b:=0))) zh)
 . show (yI false s (.c (L2.xw 0 (gO (X8 a b)))) s).post _
   rw[g2];exact wD nB
theorem sW{r:List Int}(hp:p<r.length):((AY r.length).map λi=>r.getD ((p+i)%r.length) 0)=r.drop p++r.take p:=by
 refine Fs λi=>?_;by_cases hi:i<r.length
 . rw[A2,DA hi]
   have hlt:(p+i)%r.length<r.length:=CM _ (by omega)
   show some (r.getD ((p+i)%r.length) 0)=_;rw[Aq,Aa hlt,FX,<-Aa hlt];by_cases hc:i<r.length-p
   . rw[AS (by rw[BP];exact hc),List.getElem?_drop,Ee (by omega)]
   . rw[Be (by rw[BP];omega),BP,DF (by omega)]
     congr 1;rw[Nat.mod_eq_sub_mod (by omega),Ee (by omega)]
     omega
 . rw[BO (by rw[Ae,Bl];omega),BO (by rw[Au,BP,B1];omega)]
theorem pS(hr:r≠[]):((AY (r.length*m)).map λi=>r.getD (i%r.length) 0)=vK r m:=by
 have hpos:=Cj.mpr hr;refine Fs λi=>?_;by_cases hi:i<r.length*m
 . rw[A2,DA hi,iA (by rw[Ez];exact hi)]
   have hlt:i%r.length<r.length:=CM _ hpos;show some (r.getD (i%r.length) 0)=_;rw[Aq,Aa hlt];rfl
 . rw[BO (by rw[Ae,Bl];omega),BO (by rw[mI,Ez];omega)]
end
end M
end
section
namespace M
open PySem Hd
def ez(h:Heap)(a:Addr):Option Obj:=(h.get? a).bind λo=>if yM o then none else some o
theorem ZR(e:h.get? a=some o)(n:yM o=false):ez h a=some o:=by unfold ez;rw[e];show (if yM o=true then none else some o)=some o;rw[n];rfl
theorem jw(e:ez h a=some o):h.get? a=some o/\yM o=false:=by
 unfold ez at e;obtain⟨o',e1,e2⟩:=DS.mp e;split at e2
 . cases e2
 . rename_i z
   cases e2;exact⟨e1,by simpa using z⟩
def zd(h:Heap):KF:=(AY h.objs.size).filterMap λa=>(ez h a).map λo=>(a,o)
theorem rN{g:Addr->Option Obj}:∀{l:List Addr},a∈l->(l.filterMap λb=>(g b).map λo=>(b,o)).lookup a=g a
 |b::r,hm=>by
  rw[A6];by_cases e:a=b
  . subst e
    cases hg:g a with
    |none=>
     show (r.filterMap _).lookup a=none;by_cases m:a∈r
     . rw[rN m,hg]
     . exact F0.mpr λp hp=>by
        obtain⟨c,hc,e⟩:=Cr.mp hp;obtain⟨o,_,rfl⟩:=Bt.mp e;have z:a≠c:=λz=>m (by rw[z];exact hc)
        simpa using z
    |some o=>show (Co a ((a,o)::_))=_;rw[Ak,beq_self_eq_true]
  . have m:a∈r:=(An.mp hm).resolve_left e
    cases hg:g b with
    |none=>exact rN m
    |some o=>
     show (Co a ((b,o)::_))=_;rw[Ak,beq_false_of_ne e];exact rN m
theorem zT o(e:h.get? a=some o)(n:yM o=false):(zd h).lookup a=some o:=by rw[<-ZR e n];exact rN (Ck.mpr (Aj e))
theorem uj:(zd h).In h:=λa o e=>by obtain⟨c,_,e⟩:=Cr.mp (yj e);obtain⟨o',e1,e2⟩:=Bt.mp e;cases e2;exact(jw e1).1
theorem i7(e:(zd h).lookup a=some o):yM o=false:=by obtain⟨c,_,e⟩:=Cr.mp (yj e);obtain⟨o',e1,e2⟩:=Bt.mp e;cases e2;exact(jw e1).2
theorem sM(e:nsH h x=some v):By (zd h) AJ x=some v:=by
 unfold nsH at e;split at e
 . rename_i o ho
   have hn:yM o=false:=by
    unfold By at e;rw[Ak,beq_self_eq_true]at e;dsimp only at e;split at e
    . rename_i hd;cases hd;unfold yM;simp
    . cases e
   unfold By at e ⊢;rw[zT o ho hn];rw[Ak,beq_self_eq_true]at e;exact e
 . cases e
theorem nu(e:jj h cd x=true):BR (zd h) cd x=true:=by
 unfold jj at e;split at e
 . split at e
   . rename_i c o ho
     rw[cf,AM]at e;obtain⟨hn,e⟩:=e;unfold BR at e ⊢;dsimp only at e ⊢;rw[Ak,beq_self_eq_true]at e;rw[zT o ho hn];exact e
   . cases e
 . cases e
theorem args_eq st:args st=L2.yp st/\body st=L2.zw st/\scope st=L2.zC st:=by cases st<;>exact⟨rfl,rfl,rfl⟩
theorem WB(e:Zz h p.1=Yq p):uR (zd h) p.1 p.2:=by
 obtain⟨a1,a2,a3⟩:=args_eq p.2;unfold Yq at e;rw[a1,a2,a3]at e;unfold Zz at e;split at e
 . rename_i f hf
   split at e
   . rename_i oc od fd osl ho
     split at e
     . rename_i hc
       have e':=AR e;obtain⟨n,q,ps,b,sc,g,cl,df,kw,dc,pm,an,cd,ct,bl⟩:=fd;injection e' with e1 e2 e3 e4 e5 e6 e7 e8 _ _ _ _ _ _ e9
       subst e1 e2 e3 e4 e5 e6 e7 e8 e9;exact WA (sM hf) (zT _ ho (by unfold yM;simp)) (nu hc) (by unfold BS;dsimp only;rw[zT _ ho (by unfold yM;simp)])
     . cases e
   . cases e
 . cases e
noncomputable def gv:G->Val
 |.b i=>.c i
 |.c x=>.g x
 |.a ns=>.o ns
theorem Uj(e:glB h x v=true):iW (zd h) x (gv v):=by
 cases v with
 |b i=>
  unfold glB at e;dsimp only at e;split at e
  . rename_i hn;have:=of_decide_eq_true e;subst this;exact int_mk (sM hn)
  . cases e
 |c y=>
  unfold glB at e;dsimp only at e;split at e
  . rename_i hn;have:=of_decide_eq_true e;subst this;exact str_mk (sM hn)
  . cases e
 |a ns=>
  unfold glB at e;dsimp only at e;split at e
  . rename_i hn
    split at e
    . rename_i n od us k sl ho
      obtain⟨e1,e3⟩:=EG.mp e;obtain⟨e1,e2⟩:=EG.mp e1;have:=of_decide_eq_true e1;subst this;exact ay (us:=us.toList) (sM hn) (zT _ ho rfl) (of_decide_eq_true e2) (of_decide_eq_true e3)
    . cases e
  . cases e
theorem Yy(e:blB h x=true):By (zd h) AJ x=some none:=by
 unfold blB at e;split at e
 . rename_i hn;exact sM hn
 . cases e
theorem jo:∀{D:List (Str × Stmt)},(D.map λp=>Zz h p.1)=D.map Yq->∀p∈D,uR (zd h) p.1 p.2
 |p::D,e,q,hq=>by
  rw[A1,A1]at e;obtain⟨e1,e2⟩:=List.cons.inj e;rcases An.mp hq with rfl|hq
  . exact WB e1
  . exact jo e2 q hq
end M
end
section
namespace M
open PySem Hd PySem.W
noncomputable def scB(N ps:List Str)(sc:Scope):Bool:=decide (sc.kind=.function)&&!sc.isCoroutine&&!sc.isGenerator&&decide N.Nodup&&decide (N.take ps.length=ps)&&ps.all (λx=>decide (sc.names.lookup x=some .local)||decide (sc.names.lookup x=some .cell))&&sc.names.all (λy=>decide (y.2≠.free))
theorem nO(h:scB N ps sc=true):L2.xa N ps sc:=by unfold scB at h;simp only[cf,decide_eq_true_eq,AM,AN,Ax]at h;obtain⟨⟨⟨⟨⟨⟨h1,h2⟩,h3⟩,h4⟩,h5⟩,h6⟩,h7⟩:=h;exact⟨h1,h2,h3,h4,h5,h6,h7⟩
noncomputable def lkB(sc:Scope)(l:List (Str × Dq)):Bool:=l.all λp=>decide (sc.names.lookup p.1=some p.2)
structure lQ(st:Stmt)(cs ws:List Str)(pre:Option Str):Prop where
 b:argNames (L2.yp st)=some [("_law_e":Str)]
 c:scB L2.kN ["_law_e"] (L2.zC st)=true
 sh:L2.fP (L2.zC st) cs ws pre (L2.zw st)
 a:lkB (L2.zC st) [("_law_e",.local),("_law_marks",.local),("_law_words",.local),("isinstance",.globalImplicit),("ValueError",.globalImplicit)]=true
structure oM(m:Bool)(kx:Str)(st:Stmt):Prop where
 b:argNames (L2.yp st)=some [("_law_call":Str)]
 c:scB (L2.xK m) ["_law_call"] (L2.zC st)=true
 sh:L2.fU m kx (L2.zw st)
 a:lkB (L2.zC st) ((("_law_call":Str),NameKind.local)::(("_law_e":Str),NameKind.local)::(("HueError":Str),DY)::(kx,DY)::if m then [] else [(("_law_word":Str),NameKind.local)])=true
noncomputable def wsB(cs ws:List Str)(pre:Option Str):Bool:=decide cs.Nodup&&decide (cs.length<=100)&&decide (ws.length<=100)&&ws.all (λw=>decide (w.length<=100))&&(match pre with|none=>true|some x=>decide (x.length<=100))
def xcB(rz cs ws:List Str)(pre:Option Str)(xc:List (Str × Str)):Bool:=xc.all λp=>decide (p.1∈rz)&&(AY cs.length).any λi=>decide (cs[i]?=some p.1)&&(match ws[i]? with|some x=>decide (p.2=L2.ans pre x)|none=>false)&&(decide (p.2≠"great")||decide (p.1="TooGreat"))
def gY(q:Program)(c:Str):Bool:=(PyProof.Rows.ownsOf q).any λo=>decide (o.name=c)&&(o.bm == Hd.veM)&&(o.newId == "ValueError.__new__")
section
variable {h0 h:Heap}{mg:Str->Option Value}
theorem oN(e:adH h0 x=some a):nsIn (zd h0) AJ x=some (some (.ref a)):=by
 unfold adH at e;split at e
 . rename_i hn;cases e;exact sM hn
 . cases e
theorem eC(hm:p∈X6 h0 x):h0.get? p.1=some p.2/\yM p.2=false:=by
 unfold X6 at hm;split at hm
 . split at hm
   . rename_i a o ho
     split at hm
     . rename_i cd hcd
       rcases An.mp hm with z|z
       . subst z
         refine⟨ho,?_⟩;unfold yM;rw[hcd];simp
       . split at z
         . rename_i n hn
           split at z
           . cases z
           . rename_i hz
             rw[AW]at z;subst z;exact⟨hn,by simpa using hz⟩
         . cases z
     . cases hm
   . cases hm
 . cases hm
theorem ot:∀{xs},p∈kcH h0 xs->h0.get? p.1=some p.2/\yM p.2=false
 |[],hm=>by cases hm
 |x::xs,hm=>by
  rcases A3.mp hm with z|z
  . exact eC z
  . exact ot z
theorem j7:L2.vP (kcH h0 xs) (zd h0):=λa o e=>by obtain⟨e1,e2⟩:=ot (yj e);exact zT o e1 e2
theorem Zo:L2.vP (kcG h0 xs) (zd h0):=λa o e=>by
 rcases A3.mp (yj e) with z|z
 . split at z
   . rename_i o' ho
     split at z
     . cases z
     . rename_i ht
       rw[AW]at z;cases z;exact zT _ ho (by simpa using ht)
   . cases z
 . obtain⟨e1,e2⟩:=ot z
   exact zT o e1 e2
theorem iV(h:iU K C=true):L2.wZ K C:=by unfold iU at h;simp only[cf,beq_iff_eq]at h;obtain⟨⟨⟨⟨⟨h1,h2⟩,h3⟩,h4⟩,h5⟩,h6⟩:=h;exact⟨h1,h2,h3,h4,h5,h6⟩
theorem nr(T:CZ q loose mean mg mb h)(KX:(zd h0).In h)(KB:(zd h0).In base)(ho:gY q c=true)(hm:mg c=some (.ref C))(hb:cK h0 C bm=true):L2.ClsAt base C bm:=by
 unfold gY at ho;rw[BF]at ho;obtain⟨o,hmem,ho⟩:=ho;simp only[cf,decide_eq_true_eq,beq_iff_eq]at ho;obtain⟨⟨o1,o2⟩,o3⟩:=ho;obtain⟨C',O,_⟩:=T.own o hmem;have hb':=O.bound;rw[o1,hm]at hb';cases hb';obtain⟨bm',N,nm,qq,bs,hdct,sn,sub,ab,col,dd,k0,k1,k2,k3,k5,mN,hC,hN,hq,_⟩:=O.obj;rw[o3]at hC;unfold cK at hb;split at hb
 . rename_i ob hob
   split at hb
   . rename_i cd hcd
     rw[cf,beq_iff_eq]at hb;obtain⟨hb1,hb2⟩:=hb;have hk:=zT ob hob (by unfold yM;rw[hcd];simp)
     have e1:=KX _ _ hk;rw[hC]at e1;cases e1;cases hcd;obtain⟨_,rfl⟩:=List.cons.inj hb1;split at hb2
     . rename_i n hn
       have hkN:=zT n hn (by simpa using hb2)
       obtain⟨on,es,ep,f1,f2,f3⟩:=hN;rw[KX _ _ hkN]at f1;cases f1;exact⟨nm,qq,N,bs,hdct,sn,sub,ab,col,dd,k0,k1,k2,k3,k5,mN,KB _ _ hk,⟨n,es,ep,KB _ _ hkN,f2,f3⟩,hq _ (.head _)⟩
     . cases hb2
   . cases hb
 . cases hb
structure fO(st:Stmt):Prop where
 b:argNames (L2.yp st)=some L2.inN
 c:scB L2.inN L2.inN (L2.zC st)=true
 sh:L2.fN (L2.zw st)
 a:lkB (L2.zC st) [("self",.local),("many",.local),("most",.local),("HueError",.globalImplicit)]=true
structure oH(st:Stmt):Prop where
 a:argNames (L2.yp st)=some [("_law_call":Str)]
 c:scB L2.xD ["_law_call"] (L2.zC st)=true
 sh:L2.jW (L2.zw st)
 b:lkB (L2.zC st) [("_law_call",.local),("_law_e",.local),("TooGreat",.globalImplicit)]=true
theorem lkk(hh:lkB sc l=true)(hm:(x,k)∈l):sc.names.lookup x=some k:=of_decide_eq_true (AN.mp hh _ hm)
theorem lq(TT:CZ q loose mean mg mb h)(KX:(zd h0).In h)(hD:uR (zd h0) "_law_great" st)(S:oH st):∃f,L2.vv (zd h0) mg f:=by obtain⟨f,fd,a1,a2⟩:=hD;exact⟨f,⟨st,fd,mg_of KX TT.g a1,a2,nO S.c,a2.binds λkV doc pm an cdv ct us hl=>wa S.a (by decide) us hl,S.sh,lkk S.b (by simp),lkk S.b (by simp),lkk S.b (by simp)⟩⟩
theorem au(KB:(zd h0).In base)(hb:eB h0 C hue=true)(hi:jx h0 C=some f)(ho:h0.get? f=some o)(hc:o.cls=.type "function")(ht:yM o=false):L2.v9 base C (.ref hue::L2.veM) f:=by
 unfold eB at hb;split at hb
 . rename_i n dd cd sl hC
   simp only[cf,decide_eq_true_eq,beq_iff_eq,AM]at hb;obtain⟨⟨⟨⟨⟨h1,h2⟩,h3⟩,h4⟩,h5⟩,h6⟩:=hb;subst h1;unfold jx at hi;rw[hC]at hi;dsimp only at hi;split at hi
   . rename_i f' hf
     cases hi;unfold slB at h5;split at h5
     . rename_i k0 k1 k2 k3 m k5 hsl
       have h5:=of_decide_eq_true h5;subst h5;have hs:sl=#[k0,k1,k2,k3,some (.builtin "ValueError.__new__"),k5]:=Array.toList_inj.mp hsl;subst hs;obtain⟨nm,bs,mro,N,qn,hdc,sn,sub,ab,col,hdl⟩:=cd;dsimp only at h2 h3 h4 h6 hf;subst h2 h3 h4;obtain⟨on,es,ep,n1,n2,n3⟩:=Heap.Ns.of_isNs h6;have e1:=KB _ _ (zT _ hC (by unfold yM;simp))
       have e2:=KB _ _ (zT _ n1 (by unfold yM;rw[n2];simp))
       exact⟨nm,qn,N,bs,sn,sub,ab,col,dd,k0,k1,k2,k3,k5,h0.nsMap N,o,e1,⟨on,es,ep,e2,n2,n3⟩,hf,KB _ _ (zT _ ho ht),hc⟩
     . cases h5
   . cases hi
 . cases hb
theorem ZS(e:dH h0 C=(aO st).2):∃f fd o,jx h0 C=some f/\h0.get? f=some o/\o.cls=.type "function"/\yM o=false/\L2.Fun (zd h0) "__init__" "TooGreat.__init__" st f fd:=by
 obtain⟨a1,a2,a3⟩:=args_eq st;unfold aO at e;dsimp only at e;rw[a1,a2,a3]at e;unfold dH at e;split at e
 . rename_i f hf
   split at e
   . rename_i n od fd osl ho
     split at e
     . rename_i hc
       rw[cf,decide_eq_true_eq]at hc;have e':=AR e;obtain⟨n',q,ps,b,sc,g,cl,df,kw,dc,pm,an,cd,ct,bl⟩:=fd;injection e' with e1 e2 e3 e4 e5 e6 e7 e8 _ _ _ _ _ _ e9
       subst e1 e2 e3 e4 e5 e6 e7 e8 e9;exact⟨f,_,_,hf,ho,congrArg Ft hc.1,by unfold yM;simp,L2.ey (zT _ ho (by unfold yM;simp)) (nu hc.2) (by unfold BS;dsimp only;rw[zT _ ho (by unfold yM;simp)])⟩
     . cases e
   . cases e
 . cases e
theorem WL(h:WK K C D=true):L2.GrK K C D:=by
 unfold WK at h;simp only[cf,beq_iff_eq]at h;obtain⟨⟨⟨⟨⟨h1,h2⟩,h3⟩,h4⟩,h5⟩,h6⟩:=h;refine⟨h1,h2,h3,h4,h5,?_⟩;split at h6
 . rename_i m hm
   rw[hm,of_decide_eq_true h6]
 . cases h6
theorem dC(TT:CZ q loose mean mg mb h)(KX:(zd h0).In h)(ob:Z0 X h0=aO st)(S:fO st):∀base,(zd h0).In base->uV (zd h0) mg base:=λbase KB=>by
 unfold Z0 at ob;split at ob
 . rename_i C hC
   split at ob
   . rename_i D hD
     obtain⟨o1,o2⟩:=Gf ob;simp only[cf,beq_iff_eq]at o1;obtain⟨⟨⟨g1,g2⟩,g3⟩,g4⟩:=o1;obtain⟨f,fd,o,i1,i2,i3,i4,i5⟩:=ZS (st:=st) o2;exact⟨C,D,f,fd,_,mg_of KX TT.g (oN hC),au KB g1 i1 i2 i3 i4,⟨⟨_,_,st,i5,nO S.c,i5.binds λkV doc pm an cdv ct us hl=>wa S.b (by decide) us hl,S.sh,lkk S.a (by simp),lkk S.a (by simp),lkk S.a (by simp),lkk S.a (by simp)⟩,mg_of KX TT.g (oN hD)⟩,WL g2,Zo,iV g4,g3⟩
   . cases ob
 . cases ob
theorem SW(sst:Bool->Stmt)(TT:CZ q loose mean mg mb h)(KX:(zd h0).In h)(ob:nD X h0=true)
 (hD:uR (zd h0) kx kst) (hS:∀b,T.e b=true->uR (zd h0) (L2.yK b) (sst b)/\oM b kx (sst b)) (hK:lQ kst X.a ws pre) (hb:∀x∈wC,nsIn (zd h0) AJ x=some none) (hkd:(kx == ("__debug__":Str))=false)
 (hws:wsB X.a ws pre=true) (hxc:xcB X.c X.a ws pre T.c=true) (ly:((("HueError":Str))::X.c).all (λc=>decide (c="TooGreat")||gY q c)=true) (hgf:oi T=true->∃f,L2.vv (zd h0) mg f) (hgr:(T.c.lookup ("TooGreat":Str)).isSome=true->∀base,(zd h0).In base->uV (zd h0) mg base):Sc T (zd h0) mg:=by
 unfold nD at ob;split at ob
 . cases ob
 . rename_i hue hhue
   simp only[cf,AN,decide_eq_true_eq]at ob;obtain⟨⟨⟨⟨⟨x1,x2⟩,x3⟩,x4⟩,x5⟩,x6⟩:=ob;have mghue:=mg_of KX TT.g (oN hhue);have adm:∀c a,adH h0 c=some a->mg c=some (.ref a):=λc a e=>mg_of KX TT.g (oN e);simp only[wsB,cf,decide_eq_true_eq,AN]at hws;obtain⟨⟨⟨⟨w1,w2⟩,w3⟩,w4⟩,w5⟩:=hws;have KFn:L2.oJ (zd h0) mg kx X.a ws pre:=by
    obtain⟨f,fd,a1,a2⟩:=hD;refine⟨⟨kst,f,fd,mg_of KX TT.g a1,a2,nO hK.c,a2.binds λkV doc pm an cdv ct us hl=>wa hK.b (by decide) us hl,hK.sh,lkk hK.a (by simp),lkk hK.a (by simp),lkk hK.a (by simp),lkk hK.a (by simp),lkk hK.a (by simp)⟩,λc hc=>?_,mg_none_of KX TT.g (hb _ (by decide)),mg_none_of KX TT.g (Yy x2),w1,w2,w3,λw hw=>w4 w hw,λx hx=>?_⟩
    . obtain⟨a,e⟩:=Cc.mp (x1 c hc)
      exact⟨a,adm c a e⟩
    . subst hx;exact of_decide_eq_true w5
   have raised:∀c∈X.c,∃C,mg c=some (.ref C)/\(∃Kc,L2.vP Kc (zd h0)/\exmOne Kc (.ref C) (.ref hue)=some true)/\L2.Named (zd h0) mg X.a C c/\cK h0 C (.ref hue::Hd.veM)=true:=λc hc=>by
    have z:=x3 c hc;split at z
    . cases z
    . rename_i C hC
      simp only[cf,AN,beq_iff_eq]at z;obtain⟨⟨⟨⟨z1,z2⟩,z3⟩,z4⟩,z5⟩:=z;refine⟨C,adm c C hC,⟨_,j7,z2⟩,⟨_,j7,iV z1,λd hd=>?_,z4⟩,z5⟩;obtain⟨a,e⟩:=Cc.mp (x1 d hd);have:=z3 d hd;rw[e]at this;rw[L2.fY (adm d a e)];exact this
   have xcf:∀c w,T.c.lookup c=some w->c∈X.c/\∃(i:Nat) (x:Str),X.a[i]?=some c/\ws[i]?=some x/\w=L2.ans pre x/\(w="great"->c="TooGreat"):=λc w e=>by
    have z:=AN.mp hxc _ (yj e);simp only[cf,Ax,decide_eq_true_eq,BF]at z;obtain⟨z1,i,_,⟨z2,z3⟩,z4⟩:=z;split at z3
    . rename_i x hx
      exact⟨z1,i,x,z2,hx,of_decide_eq_true z3,λhg=>z4.resolve_left λz5=>z5 hg⟩
    . cases z3
   have hw:∀c∈(("HueError":Str))::X.c,c≠"TooGreat"->gY q c=true:=λc hc hn=>by
    have:=AN.mp ly c hc
    rwa [decide_eq_false hn,GH]at this
   refine⟨⟨kx,X.a,ws,pre,hue,mghue,KFn,λb hbm=>?_,λc w e=>?_,λc w e hne base KB=>?_⟩,hgf,hgr,λbase KB=>?_⟩
   . obtain⟨⟨f,fd,a1,a2⟩,SS⟩:=hS b hbm
     refine⟨f,⟨⟨sst b,fd,mg_of KX TT.g a1,a2,nO SS.c,a2.binds λkV doc pm an cdv ct us hl=>wa SS.b (by decide) us hl,SS.sh,lkk SS.a (by simp),lkk SS.a (by simp),λhbf=>lkk SS.a (by subst hbf;simp),lkk SS.a (by simp),lkk SS.a (by simp)⟩,hkd⟩⟩
   . obtain⟨y1,i,x,y2,y3,y4,y5⟩:=xcf c w e
     obtain⟨C,r1,r2,r3,_⟩:=raised c y1;exact⟨C,i,x,r1,r2,r3,y2,y3,y4,y5⟩
   . obtain⟨y1,_⟩:=xcf c w e
     obtain⟨C,r1,_,_,r4⟩:=raised c y1;exact⟨C,r1,nr TT KX KB (hw c (Af _ y1) hne) r1 r4,nr TT KX KB (hw _ (Ap ..) (by decide)) mghue x4⟩
   . obtain⟨bm,obj,b1,b2,b3,b4,b5,b6⟩:=TT.bmain
     unfold bmB at x5;split at x5
     . rename_i b hbb
       have:=adm _ _ hbb;rw[b1]at this;cases this;split at x5
       . rename_i o hob
         have hk:=zT o hob (by simpa using x5)
         have e1:=KX _ _ hk;rw[b3]at e1;cases e1;exact⟨bm,obj,b1,b2,KB _ _ hk,b4,b5,b6⟩
       . cases x5
     . cases x5
theorem tab_of{D:List (Str × Stmt)}(TT:CZ q loose mean mg mb h)(KX:(zd h0).In h)(ob:nD X h0=true)(htb:T.f=X.b)
 (hd:∀p∈D,uR (zd h0) p.1 p.2) (lz:X.b.all (λg=>(EJ q).any (λd=>decide (d.name=g))&&(D.lookup g).isSome)=true):∃tabs,UO T (zd h0) mg h tabs:=by
 have nd:(X.b.map (jF h0)).Nodup:=by
  unfold nD at ob;split at ob
  . cases ob
  . simp only[cf,decide_eq_true_eq]at ob
    exact ob.2
 have one:∀g∈X.b,∃P,jF h0 g=some P/\h.get? P=some (tabObj #[])/\(zd h0).lookup P=none/\Ga h P/\∃(fa c:Addr) (o:Obj) (fd:Bn),mg g=some (.ref fa)/\(zd h0).lookup fa=some o/\o.data=.func fd/\fd.code=.ref c/\∀h':Heap,(zd h0).In h'->CodeHd h' c P:=λg hg=>by
  have z:=AN.mp lz g hg;rw[cf,BF]at z;obtain⟨⟨d,d1,d2⟩,z2⟩:=z;have d2:=of_decide_eq_true d2;obtain⟨st,hst⟩:=Cc.mp z2;obtain⟨fa,fd,a1,a2⟩:=hd _ (yj hst);obtain⟨oc,od,kV,doc,pm,an,cdv,ct,osl,rfl,lk,hcd⟩:=a2.a;have hmg:=mg_of KX TT.g a1;obtain⟨a',o',fd',c,P,t1,t2,t3,t4,t5,t6⟩:=TT.tab d d1;rw[d2,hmg]at t1;cases t1;rw[KX _ _ lk]at t2;cases t2;cases t3;have hcdv:cdv=.ref c:=t4;subst hcdv;have hkc:∃occ,(zd h0).lookup c=some occ:=by
   unfold codeIn at hcd;dsimp only at hcd;split at hcd
   . rename_i hh;exact⟨_,hh⟩
   . cases hcd
  obtain⟨occ,hkc⟩:=hkc;obtain⟨⟨oT,vsT,u1,u2,u3,u4⟩,u5⟩:=id t6;rw[KX _ _ hkc]at u1;cases u1;refine⟨P,?_,u5,?_,t6.isCodeTable,fa,c,_,_,hmg,lk,rfl,rfl,λh' K'=>?_⟩
  . have g1:adH h0 g=some fa:=by
     unfold adH;have a1':nsIn (zd h0) AJ g=some (some (.ref fa)):=a1;unfold nsH;unfold nsIn at a1';split at a1'
     . rename_i c1 d1 es n1 s1 hmn
       have:=uj _ _ hmn;rw[this];dsimp only;unfold nsIn;rw[Ak,beq_self_eq_true];dsimp only;rw[a1']
     . cases a1'
    unfold jF;rw[g1];dsimp only;rw[uj _ _ lk];dsimp only;rw[uj _ _ hkc];dsimp only;rw[u3];dsimp only;rw[u4]
  . cases e:(zd h0).lookup P with
    |none=>rfl
    |some o=>
     have n1:=i7 e;have e2:=KX _ _ e;rw[u5]at e2;cases e2;cases n1
  . obtain⟨o2,vs2,file,tf,flags,tg,inF,text,tt,v1,v2,v3⟩:=CodeHd.of t5 t6
    rw[KX _ _ hkc]at v1;cases v1;exact⟨_,vs2,file,tf,flags,tg,inF,text,tt,K' _ _ hkc,v2,v3⟩
 have hmap:X.b.map (jF h0)=(X.b.map λg=>(jF h0 g).getD 0).map some:=by rw[EF];refine List.map_congr_left λg hg=>?_;obtain⟨P,e,_⟩:=one g hg;simp[e]
 refine⟨X.b.map λg=>(jF h0 g).getD 0,?_,by rw[htb,Ae],λi g hi=>?_⟩
 . rw[hmap]at nd
   exact(List.pairwise_map.mp nd).imp λhne z=>hne (by rw[z])
 . rw[htb]at hi
   obtain⟨P,e,r⟩:=one g (AU hi);refine⟨P,?_,r⟩;rw[A2,hi];simp[e]
end
def fV{γ:Type}(D:List (Str × Stmt))(glL:List (Str × Val))(X:XT)(og:Heap->γ)(vg:γ)(K:KF)(h:Heap):Prop:=K.In h/\(∀p∈D,uR K p.1 p.2)/\(∀p∈glL,iW K p.1 p.2)/\(∀x∈wC,nsIn K AJ x=some none)/\∃h0,K=zd h0/\nD X h0=true/\og h0=vg
theorem bh(e:(cP D gl s,(nD X s.heap,og s.heap))=(aP D,(true,vg))):∃K,fV D (gl.map λp=>(p.1,gv p.2)) X og vg K s.heap:=by obtain⟨e0,eX⟩:=Gf e;obtain⟨eX,eG⟩:=Gf eX;obtain⟨e1,e2⟩:=Gf e0;obtain⟨e2,e3⟩:=EG.mp e2;exact⟨zd s.heap,uj,jo e1,λp hp=>(by obtain⟨p',h1,rfl⟩:=Cw.mp hp;exact Uj (AN.mp e2 p' h1)),λx hx=>Yy (AN.mp e3 x hx),s.heap,rfl,eX,eG⟩
theorem X5{og:Heap->γ}{vg}{l:PySem.W.OpenLaw}(sst:Bool->Stmt)
 (Vu:l.wellSaid=true) (left:PySem.W.LeftO l.row.prog q [] (λs=>E3 l.row.records s) (λz=>(cP D gl z,(nD X z.heap,og z.heap))) (λ_=>(aP D,(true,vg))) N) (hgl:glL=gl.map λp=>(p.1,gv p.2))
 (dE:PySem.W.defOf q l.row.name=some (d,[])) (hp:l.row.prog.theDef l.row.name=some (d.params,d.body,d.scope)) (hk:PySem.W.kwWritten? d.params.kwonlyargs d.params.kw_defaults=some [])
 (hwr:(!l.row.writes||l.row.records.isEmpty)=true) (ok:(PySem.W.chainsOk q&&PySem.W.opensWell l.row.prog&&(PySem.W.frees l.row.toRowW&&l.row.within.isEmpty))=true) (hb:l.row.prog.bare) (hw:l.row.toRowW.promised)
 (hn:l.most=some 63) (hdf:d.params.defaults=[]) (hr:L2.y9 n callerA) (hF:(lF fnL glL tb xc md).d d.name 0=some F) (hx:F.b=[x]) (hc:pv fnL D=true)
 (htb:tb=X.b) (htb2:fnL.all (λp=>!decide (("!":Str)∈p.2.N)||decide (p.1.1∈tb))=true) (hkx:D.lookup kx=some kst) (hK:lQ kst X.a ws pre) (hS:∀b,md b=true->D.lookup (L2.yK b)=some (sst b)/\oM b kx (sst b)) (hkd:(kx == ("__debug__":Str))=false)
 (hws:wsB X.a ws pre=true) (hxc:xcB X.c X.a ws pre xc=true) (ly:((("HueError":Str))::X.c).all (λc=>decide (c="TooGreat")||gY q c)=true)
 (hgf:oi (lF fnL glL tb xc md)=true->∃st,D.lookup ("_law_great":Str)=some st/\oH st) (hgr:(xc.lookup ("TooGreat":Str)).isSome=true->∀loose mean mg mb h h0,CZ q loose mean mg mb h->(zd h0).In h->og h0=vg->∀base,(zd h0).In base->uV (zd h0) mg base) (lz:X.b.all (λg=>(EJ q).any (λd=>decide (d.name=g))&&(D.lookup g).isSome)=true)
 (HL:∀ns:List Int,ns.length<=63->∃s',zD (lF fnL glL tb xc md) n d.name 0 [.r ns] (tb.map .d)=.e (.e true) s'):l.Holds:=by
 refine PySem.W.holds_law Vu λsaid'=>PySem.W.holds_open (q:=q) (loose:=[]) (Xt:=λs=>E3 l.row.records s) (XP:=λ_ _=>True) (YP:=λ_ h=>∃K,fV D glL X og vg K h) left (λw s e=>hgl▸bh e)
  (λw h h' ⟨K,a,b⟩ k=>⟨K,a.keeps k,b⟩) (λ_ _=>trivial) (λ_ _ _ _ _=>trivial) dE hp hk (λs e=>PySem.W.recFacts_of e) hwr said' ok hb hw ?_
 intro w s₀ s₁ mg mb G ⟨K,Y⟩;obtain⟨Y1,Y2,Y3,Y4,h0,rfl,ob,obg⟩:=id Y;refine walk (l:=l) (q:=q) (loose:=[]) (XP:=λ_ _=>True) (YP:=λ_ h=>fV D glL X og vg (zd h0) h) (d:=d) (K:=zd h0) (T:=lF fnL glL tb xc md) hn hdf hr (λ_ _ y=>y.1) hF hx (λw s₀ mg mb h G KX=>⟨?_,?_⟩) HL w s₀ s₁ mg mb G Y
 . exact V8 KX G.T.g Y2 Y3 Y4 hc (λ_=>htb2) λ_=>SW sst G.T KX ob (Y2 _ (yj hkx)) (λb hbm=>⟨Y2 _ (yj (hS b hbm).1),(hS b hbm).2⟩) hK Y4 hkd hws hxc ly (λhg=>by obtain⟨st,e,S⟩:=hgf hg;exact lq G.T KX (Y2 _ (yj e)) S) λhg=>hgr hg _ _ _ _ _ _ G.T KX obg
 . exact tab_of G.T KX ob htb Y2 lz
end M
end
section
namespace P63
open PySem M
noncomputable def z7:Fn:=F.z7
noncomputable def yT:Fn:=F66.yT
noncomputable def ya:Fn:=F75.ya
noncomputable def yO:Fn:=F75.yO
noncomputable def ye:Fn:=F.ye
noncomputable def zr:Fn:=F66.zr
noncomputable def xQ:Fn:=F.xQ
noncomputable def xR:Fn:=F.xR
noncomputable def xU:Fn:=F63.xU
noncomputable def pC:Fn:=⟨["_law_script","_law_k","_law_pen_here","_law_many","_law_away","_law_stride","_law_often","_law_none","_law_ring","_law_place","_law_due","_law_by","_law_times","_law_said","!"],["_law_script"],false,(.e (.l (.a 1) (.d (.k .i false (.a (.g (.c 1)) (.a (.k .j false (.a (.k .b false (.a (.e 0) .b)) (.a (.g (.c 5)) .b))) .b)))) (.e (.f 2 (.h "_law_pen" 1 (.a (.h "_law_cell_at" 0 (.a (.e 0) (.a (.e 1) .b))) .b))) (.e (.f 3 (.j false .b (.g (.c 1)) (.h "_law_draw" 0 (.a (.e 2) (.a (.u (.s false (.a (.g (.c 12)) (.a (.g (.c 40)) .b))) (.h "_law_draw" 0 (.a (.e 2) (.a (.g (.c 2)) .b)))) .b))))) (.e (.f 4 (.u (.s false (.a (.A (.g (.c 1))) (.a (.e 3) (.a (.g .h) (.a (.g (.e true)) (.a (.g (.g "0")) (.a (.j false .e (.g (.c 10)) (.g (.c 29))) (.a (.y (.a (.g (.c 0)) .b)) (.a (.g (.e false)) .b))))))))) (.h "_law_draw" 0 (.a (.e 2) (.a (.g (.c 8)) .b))))) (.e (.f 5 (.u (.s false (.a (.g (.c 0)) (.a (.j false .b (.e 3) (.g (.c 1))) (.a (.A (.g (.c 1))) (.a (.g .h) (.a (.g (.e true)) (.a (.g (.g "1")) (.a (.j false .e (.g (.c 10)) (.g (.c 29))) (.a (.y (.a (.g (.c 1)) .b)) .b))))))))) (.h "_law_draw" 0 (.a (.e 2) (.a (.g (.c 8)) .b))))) (.e (.f 6 (.u (.s false (.a (.A (.g (.c 1))) (.a (.g (.c 41)) (.a (.g .h) (.a (.g (.e true)) (.a (.g (.g "1")) (.a (.j false .e (.g (.c 10)) (.g (.c 29))) (.a (.y (.a (.g (.c 1)) .b)) (.a (.g (.e false)) .b))))))))) (.h "_law_draw" 0 (.a (.e 2) (.a (.g (.c 8)) .b))))) (.e (.f 7 (.u (.s false (.a (.y .b) (.a (.s false (.a (.g (.c 0)) .b)) (.a (.y (.a (.g (.c 4)) .b)) (.a (.j false .a (.y (.a (.g (.c 0)) .b)) (.g (.c 41))) (.a (.g .h) (.a (.g (.g "01")) (.a (.y (.a (.g (.e true)) .b)) (.a .B (.a (.y (.a (.g (.c 0)) (.a (.A (.g (.c 1))) .b))) .b)))))))))) (.h "_law_draw" 0 (.a (.e 2) (.a (.g (.c 9)) .b))))) (.e (.f 8 (.k .c false (.a (.q false ["_law_place","_law_pen_here"] [none,some 2] (.h "_law_draw" 0 (.a (.e 1) (.a (.g (.c 4)) .b))) (.a 0) (.d (.e 3)) .b) .b))) (.e (.l (.a 9) (.g (.s false (.a (.g (.c 0)) (.a (.j false .f (.e 3) (.g (.c 1))) (.a (.h "_law_draw" 0 (.a (.e 2) (.a (.e 3) .b))) (.a (.h "_law_draw" 0 (.a (.e 2) (.a (.e 3) .b))) .b)))))) (.e (.f 10 (.k .c false (.a (.q false ["_law_spot","_law_ring","_law_many","_law_place"] [none,some 8,some 3,some 9] (.u (.e 1) (.j false .c (.j false .b (.e 3) (.e 0)) (.e 2))) (.a 0) (.d (.e 3)) .b) .b))) (.e (.h (.a (.p .e (.k .a false (.a (.h "turned" 0 (.a (.e 8) (.a (.e 9) .b))) .b)) (.k .a false (.a (.e 10) .b)))) (.e (.g (.g (.e false))) .f) .f) .f))) (.e (.l (.a 11) (.g (.s false (.a (.g (.c 1)) (.a (.e 3) (.a (.j false .b (.g (.c 1)) (.h "_law_draw" 0 (.a (.e 2) (.a (.e 3) .b)))) (.a (.j false .b (.g (.c 1)) (.h "_law_draw" 0 (.a (.e 2) (.a (.e 3) .b)))) (.a (.j false .b (.g (.c 1)) (.h "_law_draw" 0 (.a (.e 2) (.a (.e 3) .b)))) .b))))))) (.e (.f 10 (.k .c false (.a (.q false ["_law_spot","_law_ring","_law_many","_law_by"] [none,some 8,some 3,some 11] (.u (.e 1) (.j false .c (.j false .a (.e 0) (.e 3)) (.e 2))) (.a 0) (.d (.e 3)) .b) .b))) (.e (.h (.a (.p .a (.h "_law_common" 0 (.a (.e 3) (.a (.e 11) .b))) (.g (.c 1)))) (.e (.f 10 (.g (.g "! number"))) .f) .f) (.e (.h (.a (.p .e (.k .a false (.a (.h "strided" 101 (.a (.e 8) (.a (.e 11) .b))) .b)) (.k .a false (.a (.e 10) .b)))) (.e (.g (.g (.e false))) .f) .f) .f)))) (.e (.l (.a 12) (.g (.s false (.a (.g (.c 0)) (.a (.g (.c 1)) (.a (.j false .d (.g (.c 40)) (.e 3)) (.a (.j false .b (.j false .d (.g (.c 40)) (.e 3)) (.g (.c 1))) (.a (.g (.c 40)) (.a (.h "_law_draw" 0 (.a (.e 2) (.a (.g (.c 41)) .b))) .b)))))))) (.e (.f 10 (.k .c false (.a (.q false ["_law_spot","_law_ring","_law_many"] [none,some 8,some 3] (.u (.e 1) (.j false .c (.e 0) (.e 2))) (.a 0) (.d (.j false .a (.e 3) (.k .j false (.a (.e 12) (.a (.g (.c 40)) .b))))) .b) .b))) (.e (.h (.a (.p .a (.e 12) (.g (.c 40)))) (.e (.f 10 (.g (.g "! number"))) .f) (.e (.h (.a (.p .a (.j false .a (.e 3) (.e 12)) (.g (.c 40)))) (.e (.f 10 (.g (.g "! great"))) (.e (.h (.a (.p .e (.h "laid" 102 (.a (.e 8) (.a (.e 12) .b))) (.y (.a (.j false .a (.e 3) (.e 12)) (.a (.g (.c 40)) .b))))) (.e (.g (.g (.e false))) .f) .f) .f)) .f) .f)) (.e (.h (.a (.p .e (.k .a false (.a (.h "laid" 101 (.a (.e 8) (.a (.e 12) .b))) .b)) (.k .a false (.a (.e 10) .b)))) (.e (.g (.g (.e false))) .f) .f) .f)))) (.e (.f 13 (.s true (.a (.h "turned" 101 (.a (.e 7) (.a (.e 4) .b))) .b))) (.e (.d (.J .a false (.e 13) (.a (.h "strided" 101 (.a (.e 7) (.a (.e 5) .b))) .b))) (.e (.d (.J .a false (.e 13) (.a (.h "laid" 101 (.a (.e 7) (.a (.e 6) .b))) .b))) (.e (.d (.J .a false (.e 13) (.a (.h "turned" 101 (.a (.e 8) (.a (.e 4) .b))) .b))) (.e (.d (.J .a false (.e 13) (.a (.h "strided" 101 (.a (.e 8) (.a (.e 5) .b))) .b))) (.e (.d (.J .a false (.e 13) (.a (.h "laid" 101 (.a (.e 8) (.a (.e 6) .b))) .b))) (.e (.h (.a (.p .e (.e 13) (.j false .b (.j false .a (.s false (.a (.g (.g "! ring")) .b)) (.g (.c 3))) (.s false (.a (.g (.g "! place")) (.a (.g (.g "! number")) (.a (.g (.g "! number")) .b))))))) (.e (.g (.g (.e false))) .f) .f) .f)))))))))))))))))) (.e (.g (.g (.e true))) .f))⟩
noncomputable def yL:Fn:=F66.yL
noncomputable def zg:Fn:=F66.zg
noncomputable def zm:Fn:=F.zm
noncomputable def yB:Fn:=F66.yB
noncomputable def ym:Fn:=F66.ym
def fnL:List ((Str × Nat) × Fn):=((("_law_cell_at":Str),(0:Nat)),z7)::((("_law_common":Str),(0:Nat)),yT)::((("_law_draw":Str),(0:Nat)),ya)::((("_law_pen":Str),(1:Nat)),yO)::((("are_wholes":Str),(0:Nat)),ye)::((("greatest_divisor":Str),(0:Nat)),zr)::((("is_strip":Str),(0:Nat)),xQ)::((("is_whole":Str),(0:Nat)),xR)::((("laid":Str),(0:Nat)),xU)::((("law":Str),(0:Nat)),pC)::((("need_ring":Str),(0:Nat)),yL)::((("need_ring_place":Str),(0:Nat)),zg)::((("need_whole":Str),(0:Nat)),zm)::((("strided":Str),(0:Nat)),yB)::((("turned":Str),(0:Nat)),ym)::[]
noncomputable def glL:List (Str × Val):=[("MOST_PLACES",.c 40),("HUES",.o [0,1,2,3]),("MOST_LAID",.c 40)]
noncomputable def tb:List Str:=["law"]
noncomputable def xc:List (Str × Str):=[("NoNumber","! number"),("NoPlace","! place"),("TooGreat","! great"),("NoRing","! ring")]
noncomputable def md:Bool->Bool:=λb=>b
def T:Tbl:=lF fnL glL tb xc md
set_option maxHeartbeats 0 in
theorem V5:pv fnL D=true:=by decide +kernel
end P63
end
section
namespace P63
open PySem M
theorem qN:zV .e (.g x) (.g x) s=.e (.e false) s:=by simp[zV]
theorem cM:zV .e (.f [.c a,.c b]) (.f [.c a,.c b]) s=.e (.e false) s:=by
 have h:rq (.f [.c a,.c b]) (.f [.c a,.c b])=some true:=by
  unfold rq;have e1:(Val.f [.c a,.c b]).isD=true:=by rw[Val.isD,qH,qH,qH,Val.isD,Val.isD];rfl
  have e2:(Val.f [.c a,.c b]).d=.tuple [.int a,.int b]:=by rw[Val.d,ds,ds,ds,Val.d,Val.d]
  rw[e1,e2,show decide ((PyData.tuple [.int a,.int b]).depth<=60)=true from rfl];show some (Dt (.tuple [.int a,.int b]) (.tuple [.int a,.int b]))=some true;congr 1;simp[Dt,PyData.eqvAll]
 show (match rq (zl s (.f [.c a,.c b])) (zl s (.f [.c a,.c b])) with|some b=>Out.e (Val.e !b) s|none=>.d)=_
 rw[show zl s (.f [.c a,.c b])=.f [.c a,.c b] from rfl,h];rfl
theorem oR:binOp m .e (.c 10) (.c 29) s=.e (.c 100000000000000000000000000000) s:=by
 simp only[binOp];rw[if_pos (by decide)]
 rfl
theorem mG{k:Nat}(h:k<vs.length):∃v,v∈vs/\∀s,vQ (.m vs) (.c k) s=.e v s:=⟨vs[k],B2 h,λs=>WM (Aa h)⟩
def jd(m:Int):List Val:=[.c (-1),.c m,.h,.e true,.g "0",.c 100000000000000000000000000000,.f [.c 0],.e false]
def iP(m:Int):List Val:=[.c 0,.c (m+1),.c (-1),.h,.e true,.g "1",.c 100000000000000000000000000000,.f [.c 1]]
def Z2:List Val:=[.c (-1),.c 41,.h,.e true,.g "1",.c 100000000000000000000000000000,.f [.c 1],.e false]
def iC:List Val:=[.f [],.m [.c 0],.f [.c 4],.f (Ao 41 (.c 0)),.h,.g "01",.f [.e true],.p,.f [.c 0,.c (-1)]]
theorem aj{m:Nat}(hm:m<=40):∀v∈jd m,kindOf v≠none/\zY 0 ((m:Nat)-1) v=false:=λv hv=>by
 simp only[jd,An,Bj,or_false]at hv;rcases hv with rfl|rfl|rfl|rfl|rfl|rfl|rfl|rfl
 . exact⟨nofun,by simp[zY]⟩
 . exact⟨nofun,by simp[zY];omega⟩
 . exact⟨nofun,rfl⟩
 . exact⟨nofun,rfl⟩
 . exact⟨nofun,rfl⟩
 . exact⟨nofun,by simp[zY];omega⟩
 . exact⟨nofun,rfl⟩
 . exact⟨nofun,rfl⟩
theorem Ye{m:Nat}(hm:m<=40):∀v∈iP m,kindOf v≠none/\zY 1 (m:Nat) v=false:=λv hv=>by
 simp only[iP,An,Bj,or_false]at hv;rcases hv with rfl|rfl|rfl|rfl|rfl|rfl|rfl|rfl
 . exact⟨nofun,by simp[zY]⟩
 . exact⟨nofun,by simp[zY];omega⟩
 . exact⟨nofun,by simp[zY]⟩
 . exact⟨nofun,rfl⟩
 . exact⟨nofun,rfl⟩
 . exact⟨nofun,rfl⟩
 . exact⟨nofun,by simp[zY];omega⟩
 . exact⟨nofun,rfl⟩
theorem VA:∀v∈Z2,kindOf v≠none/\zY 0 40 v=false:=λv hv=>by
 simp only[Z2,An,Bj,or_false]at hv;rcases hv with rfl|rfl|rfl|rfl|rfl|rfl|rfl|rfl<;>exact⟨nofun,rfl⟩
theorem Zv:∀v∈iC,Kds v/\wj v=false:=λv hv=>by
 simp only[iC,An,Bj,or_false]at hv;rcases hv with rfl|rfl|rfl|rfl|rfl|rfl|rfl|rfl|rfl
 . exact⟨⟨nofun,λvs e w hw=>by cases e;cases hw⟩,rfl⟩
 . exact⟨⟨nofun,nofun⟩,rfl⟩
 . exact⟨⟨nofun,λvs e w hw=>by cases e;rw[AW.mp hw];nofun⟩,rfl⟩
 . exact⟨⟨nofun,λvs e w hw=>by cases e;rw[List.eq_of_mem_replicate hw];nofun⟩,rfl⟩
 . exact⟨⟨nofun,nofun⟩,rfl⟩
 . exact⟨⟨nofun,nofun⟩,rfl⟩
 . exact⟨⟨nofun,λvs e w hw=>by cases e;rw[AW.mp hw];nofun⟩,rfl⟩
 . exact⟨⟨nofun,nofun⟩,rfl⟩
 . refine⟨⟨nofun,λvs e w hw=>?_⟩,rfl⟩
   cases e;rcases An.mp hw with rfl|hw
   . nofun
   . rw[AW.mp hw];nofun
structure UI(Φ:Calls):Prop where
 ta:∀(v w:Val) (s:Sto),zj tb s=true->Kds v->wj v=false->Φ "turned" 101 [v,w] s=.e (.g "! ring") s
 tp:∀(r:List Int) (w:Val) (s:Sto),zj tb s=true->Rg r->kindOf w≠none->zY 0 ((r.length:Nat)-1) w=false->Φ "turned" 101 [tpI r,w] s=.e (.g "! place") s
 sa:∀(v w:Val) (s:Sto),zj tb s=true->Kds v->wj v=false->Φ "strided" 101 [v,w] s=.e (.g "! ring") s
 sb:∀(r:List Int) (w:Val) (s:Sto),zj tb s=true->Rg r->kindOf w≠none->zY 1 (r.length:Nat) w=false->Φ "strided" 101 [tpI r,w] s=.e (.g "! number") s
 sc:∀(r:List Int) (v:Nat) (s:Sto),zj tb s=true->Rg r->1<=v->v<=r.length->B7 v r.length≠1->Φ "strided" 101 [tpI r,.c v] s=.e (.g "! number") s
 so:∀(r:List Int) (v:Nat) (s:Sto),zj tb s=true->Rg r->1<=v->v<=r.length->B7 v r.length=1->Φ "strided" 101 [tpI r,.c v] s=.e (tpI (yg r v)) s
 la:∀(v w:Val) (s:Sto),zj tb s=true->Kds v->wj v=false->Φ "laid" 101 [v,w] s=.e (.g "! ring") s
 lb:∀(r:List Int) (w:Val) (s:Sto),zj tb s=true->Rg r->kindOf w≠none->zY 0 40 w=false->Φ "laid" 101 [tpI r,w] s=.e (.g "! number") s
 lc:∀(r:List Int) (m:Nat) (s:Sto),zj tb s=true->Rg r->m<=40->40<r.length*m->Φ "laid" 101 [tpI r,.c m] s=.e (.g "! great") s
 lg:∀(r:List Int) (m:Nat) (s:Sto),zj tb s=true->Rg r->m<=40->40<r.length*m->Φ "laid" 102 [tpI r,.c m] s=.e (.f [.c ((r.length:Int)*(m:Int)),.c 40]) s
 lo:∀(r:List Int) (m:Nat) (s:Sto),zj tb s=true->Rg r->r.length*m<=40->Φ "laid" 101 [tpI r,.c m] s=.e (tpI (vK r m)) s
structure Cs(Φ:Calls):Prop where
 c:Ys Φ
 f:Yt Φ
 a:lO Φ
 d:fM Φ
 e:fL Φ
 b:UI Φ
section
variable {Φ:Calls}{s:Sto}
theorem qd x(h:vf (Val.g x).d=true):∀s,blt .a false [.g x] s=.e (.g (Val.g x).d.shown) s:=λs=>by
 show (if ((Val.g x).isR&&vf (Val.g x).d)=true then Out.e (Val.g (Val.g x).d.shown) s else .d)=_
 rw[h];rfl
theorem rS(hl:ns.length<=1000)(hb:∀k∈ns,0<=k/\k<=3):∀s,blt .a false [tpI ns] s=.e (.g (PyData.tuple (ns.map FC)).shown) s:=λs=>YS hl λk hk=>by have:=hb k hk;omega
theorem VU(c:lO Φ)(hn:n<=40)(h3:env[3]?=some (some (.c (n:Nat))))(h0:zo [none,some 2] env=[none,some (.j p)])(hp:oK s p)(h:∀os s',os.length=n->(∀x∈os,0<=x/\x<=3)->uJ s p s'->P (tpI os) s') :
 (evE Φ G env (.k .c false (.a (.q false N [none,some 2] (.h "_law_draw" 0 (.a (.e 1) (.a (.g (.c 4)) .b))) (.a 0) (.d (.e 3)) .b) .b)) s).post P:=by
 refine XN.mpr (kY.mpr ?_);refine YB (λrest e s' acc=>(∃o,e=[o,some (.j p)])/\uJ s p s'/\∃os:List Int,acc=os.map .c/\os.length+rest.length=n/\∀x∈os,0<=x/\x<=3) ?_;refine⟨⟨xB 0 n,none⟩,_,mF (zB h3) (by unfold zb;omega),⟨⟨none,h0⟩,hp.refl,[],rfl,by rw[qe,BM,Nat.zero_add],λ_ h=>nomatch h⟩,λ_ _ _ _ _=>rfl,?_,?_⟩
 . rintro x rest e s' acc ⟨⟨o,rfl⟩,hp',os,rfl,hl,ho⟩
   refine⟨_,rfl,nF.mpr ?_⟩;rw[if_pos rfl];show (evE Φ G [some x,some (.j p)] _ s').post _;refine Z9 (zA (zB rfl) (zA zG zE)) (zN (c p 4 s' (hp'.at_ hp.lt) (by omega) (by omega)) ?_)
   rintro v s3 ⟨w,rfl,hw,t3⟩;refine⟨⟨_,rfl⟩,hp'.trans t3,os++[(w:Int)],by rw[EB];rfl,by rw[Au,List.length_singleton];rw[AL]at hl;omega,λy hy=>?_⟩
   rcases A3.mp hy with hy|hy
   . exact ho y hy
   . rw[AW.mp hy];omega
 . rintro e s' acc ⟨⟨o,rfl⟩,hp',os,rfl,hl,ho⟩
   refine zF.mpr (cm.mpr (zF.mpr ?_));exact h os s' (by rw[BM]at hl;omega) ho hp'
abbrev en(ns:List Int)(o1 o2 o3 o4 o5 o6 o7 o8 o9 o10 o11 o12 o13:Option Val):M.Env:=[some (.r ns),o1,o2,o3,o4,o5,o6,o7,o8,o9,o10,o11,o12,o13,none]
def uQ:List Val:=[.g "! ring",.g "! ring",.g "! ring",.g "! place",.g "! number",.g "! number"]
theorem W6:zV .e (.j s.length) (.m uQ) (s++[Cel.c uQ])=.e (.e false) (s++[Cel.c uQ]):=by
 have h1:zl (s++[Cel.c uQ]) (.j s.length)=.m uQ:=by simp[zl,yq,uQ]
 show (match rq (zl (s++[Cel.c uQ]) (.j s.length)) (zl (s++[Cel.c uQ]) (.m uQ)) with|some b=>Out.e (Val.e !b) (s++[Cel.c uQ])|none=>.d)=_
 rw[h1,show zl (s++[Cel.c uQ]) (.m uQ)=.m uQ from rfl,show rq (.m uQ) (.m uQ)=some true from by decide +kernel]
 rfl
theorem Xa{r:List Int}(hb:∀x∈r,0<=x/\x<=3)k:0<=r.getD k 0/\r.getD k 0<=3:=by
 rw[Aq];by_cases h:k<r.length
 . rw[Aa h];exact hb _ (B2 h)
 . rw[BO (by omega)];exact⟨by decide,by decide⟩
theorem cB(c:Cs Φ)ns:(run T Φ pC [.r ns] (tb.map .d)).post λv _=>v=.e true:=by
 have L9:9<=zb:=by decide
 have L8:8<=zb:=by decide
 have L6:6<=zb:=by decide
 have L5:5<=zb:=by decide
 have L4:4<=zb:=by decide
 have L3:3<=zb:=by decide
 have L2':2<=zb:=by decide
 have L1:1<=zb:=by decide
 rw[pC,we];refine⟨rfl,?_⟩;show (zX Φ T.b (en ns none none none none none none none none none none none none none) _ (tb.map .d)).post _;refine yP.mpr (nE (λrest e s'=>(∃o1 o2 o3 o4 o5 o6 o7 o8 o9 o10 o11 o12 o13,e=en ns o1 o2 o3 o4 o5 o6 o7 o8 o9 o10 o11 o12 o13)/\zj tb s'=true/\∀x∈rest,∃k:Nat,x=.c k) (xB 0 (max 1 (min ns.length 5))) (s1:=tb.map .d) (ef (K:=5) rfl (by omega)) ⟨⟨_,_,_,_,_,_,_,_,_,_,_,_,_,rfl⟩,x9.mpr ⟨[],by rw[A9]⟩,?_⟩ ?_ ?_)
 . intro x hx
   obtain⟨k,_,rfl⟩:=ow hx;exact⟨k,by congr 1;omega⟩
 . rintro x rest e s' ⟨⟨o1,o2,o3,o4,o5,o6,o7,o8,o9,o10,o11,o12,o13,rfl⟩,hZ,hr⟩
   obtain⟨k,rfl⟩:=hr x (.head _);have hr':∀x∈rest,∃k:Nat,x=.c k:=λx hx=>hr x (.tail _ hx);refine⟨_,rfl,?_⟩;obtain⟨cv,hcell⟩:=c.c ns k s';obtain⟨pa,pb,pc,pd,hpen,hb⟩:=c.f cv s';show (zX Φ T.b (en ns (some (.c k)) o2 o3 o4 o5 o6 o7 o8 o9 o10 o11 o12 o13) _ s').post _;refine xN (x_call (zA (x_call (zA (zB rfl) (zA (zB rfl) zE)) hcell) zE) hpen) ?_;have hP:oK (s'++[rF pa pb pc pd]) s'.length:=⟨pa,pb,pc,pd,by simp,hb⟩
   have hZ1:zj tb (s'++[rF pa pb pc pd])=true:=iS hZ;have hpl:tb.length<=s'.length:=Yi hZ;show (zX Φ T.b (en ns (some (.c k)) (some (.j s'.length)) o3 o4 o5 o6 o7 o8 o9 o10 o11 o12 o13) _ (s'++[rF pa pb pc pd])).post _;generalize s'++[rF pa pb pc pd]=s1 at hP hZ1;generalize s'.length=p at hP hpl;obtain⟨_,s2,hd2,a2,rfl,ha2,t2⟩:=c.a p 2 s1 hP (by omega) (by omega)
   have hP2:=t2.at_ hP.lt;obtain⟨hv,hvm,hix⟩:=mG (vs:=[.c 12,.c 40]) (k:=a2) (show a2<2 by omega)
   obtain⟨h,rfl,h1,h40⟩:∃h:Int,hv=.c h/\0<h/\h<=40:=by
    rcases An.mp hvm with rfl|hvm
    . exact⟨12,rfl,by decide,by decide⟩
    . rw[AW.mp hvm];exact⟨40,rfl,by decide,by decide⟩
   obtain⟨_,s3,hd3,a3,rfl,ha3,t3⟩:=c.a p h s2 hP2 h1 (by omega)
   have hP3:=t3.at_ hP2.lt;obtain⟨n,hn,hn1,hn40⟩:∃n:Nat,(1:Int)+(a3:Int)=(n:Int)/\1<=n/\n<=40:=⟨1+a3,by omega,by omega,by omega⟩
   refine xN (zW zG (x_call (zA (zB rfl) (zA (vH (vt (zA zG (zA zG zE)) L2') (x_call (zA (zB rfl) (zA zG zE)) hd2) (hix s2)) zE)) hd3) tj) ?_;rw[hn];show (zX Φ T.b (en ns (some (.c k)) (some (.j p)) (some (.c n)) o4 o5 o6 o7 o8 o9 o10 o11 o12 o13) _ s3).post _;obtain⟨_,s4,hd4,a4,rfl,ha4,t4⟩:=c.a p 8 s3 hP3 (by omega) (by omega)
   have hP4:=t4.at_ hP3.lt;obtain⟨away,ham,haway⟩:=mG (vs:=jd n) (k:=a4) (show a4<8 by omega)
   obtain⟨hw1,hw2⟩:=aj hn40 away ham;refine xN (vH (vt (vs:=jd n) (zA (lJ zG) (zA (zB rfl) (zA zG (zA zG (zA zG (zA (zW zG zG oR) (zA (tR (zA zG zE) L1) (zA zG zE)))))))) L8) (x_call (zA (zB rfl) (zA zG zE)) hd4) (haway s4)) ?_;show (zX Φ T.b (en ns (some (.c k)) (some (.j p)) (some (.c n)) (some away) o5 o6 o7 o8 o9 o10 o11 o12 o13) _ s4).post _;obtain⟨_,s5,hd5,a5,rfl,ha5,t5⟩:=c.a p 8 s4 hP4 (by omega) (by omega)
   have hP5:=t5.at_ hP4.lt;obtain⟨strd,hsm,hstrd⟩:=mG (vs:=iP n) (k:=a5) (show a5<8 by omega)
   obtain⟨hs1,hs2⟩:=Ye hn40 strd hsm;refine xN (vH (vt (vs:=iP n) (zA zG (zA (zW (zB rfl) zG tj) (zA (lJ zG) (zA zG (zA zG (zA zG (zA (zW zG zG oR) (zA (tR (zA zG zE) L1) zE)))))))) L8) (x_call (zA (zB rfl) (zA zG zE)) hd5) (hstrd s5)) ?_;show (zX Φ T.b (en ns (some (.c k)) (some (.j p)) (some (.c n)) (some away) (some strd) o6 o7 o8 o9 o10 o11 o12 o13) _ s5).post _;obtain⟨_,s6,hd6,a6,rfl,ha6,t6⟩:=c.a p 8 s5 hP5 (by omega) (by omega)
   have hP6:=t6.at_ hP5.lt;obtain⟨oft,hom,hoft⟩:=mG (vs:=Z2) (k:=a6) (show a6<8 by omega)
   obtain⟨ho1,ho2⟩:=VA oft hom;refine xN (vH (vt (vs:=Z2) (zA (lJ zG) (zA zG (zA zG (zA zG (zA zG (zA (zW zG zG oR) (zA (tR (zA zG zE) L1) (zA zG zE)))))))) L8) (x_call (zA (zB rfl) (zA zG zE)) hd6) (hoft s6)) ?_;show (zX Φ T.b (en ns (some (.c k)) (some (.j p)) (some (.c n)) (some away) (some strd) (some oft) o7 o8 o9 o10 o11 o12 o13) _ s6).post _;obtain⟨_,s8,hd8,a8,rfl,ha8,t8⟩:=c.a p 9 s6 hP6 (by omega) (by omega)
   have hP8:=t8.at_ hP6.lt;obtain⟨non,hnm,hnon⟩:=mG (vs:=iC) (k:=a8) (show a8<9 by omega)
   obtain⟨hn2,hn3⟩:=Zv non hnm;refine xN (vH (vt (vs:=iC) (zA (tR zE (B9 _)) (zA (vt (zA zG zE) L1) (zA (tR (zA zG zE) L1) (zA (zW (tR (zA zG zE) L1) zG rfl) (zA zG (zA zG (zA (tR (zA zG zE) L1) (zA rfl (zA (tR (zA zG (zA (lJ zG) zE)) L2') zE))))))))) L9) (x_call (zA (zB rfl) (zA zG zE)) hd8) (hnon s8)) ?_;show (zX Φ T.b (en ns (some (.c k)) (some (.j p)) (some (.c n)) (some away) (some strd) (some oft) (some non) o8 o9 o10 o11 o12 o13) _ s8).post _;have t18:=(((((t2.trans t3).trans t4).trans t5).trans t6).trans t8);have hZ8:=vm hZ1 hpl t18;refine Vt (VU c.a hn40 rfl rfl hP8 ?_);intro r s9 hrl hrx t9;have hP9:=t9.at_ hP8.lt;have hZ9:=vm hZ8 hpl t9;have hR:Rg r:=⟨⟨by omega,hrx⟩,λe=>by rw[e,BM]at hrl;omega⟩
   subst hrl;show (zX Φ T.b (en ns (some (.c k)) (some (.j p)) (some (.c (r.length:Nat))) (some away) (some strd) (some oft) (some non) (some (tpI r)) o9 o10 o11 o12 o13) _ s9).post _;have hLr:r.length<=zb:=Ay hn40 (by decide)
   -- turned
   obtain⟨_,sA,hdA,aA,rfl,haA,tA⟩:=c.a p (r.length:Nat) s9 hP9 (by omega) (by omega)
   have hPA:=tA.at_ hP9.lt;obtain⟨_,sB,hdB,aB,rfl,haB,tB⟩:=c.a p (r.length:Nat) sA hPA (by omega) (by omega)
   have hPB:=tB.at_ hPA.lt;have hZB:=vm (vm hZ9 hpl tA) hpl tB;refine yP.mpr (nE (λrest2 e s'=>s'=sB/\(∃o9 o10,e=en ns (some (.c k)) (some (.j p)) (some (.c (r.length:Nat))) (some away) (some strd) (some oft) (some non) (some (tpI r)) o9 o10 o11 o12 o13)/\∀x∈rest2,∃z:Nat,x=.c z/\z<r.length) [.c 0,.c ((r.length:Nat)-1),.c aA,.c aB] (s1:=sB) (l9 (vt (zA zG (zA (zW (zB rfl) zG Xx) (zA (x_call (zA (zB rfl) (zA (zB rfl) zE)) hdA) (zA (x_call (zA (zB rfl) (zA (zB rfl) zE)) hdB) zE)))) L4) rfl) ⟨rfl,⟨_,_,rfl⟩,?_⟩ ?_ ?_)
   . intro x hx
     simp only[An,Bj,or_false]at hx;rcases hx with rfl|rfl|rfl|rfl
     . exact⟨0,rfl,by omega⟩
     . exact⟨r.length-1,by congr 1;omega,by omega⟩
     . exact⟨aA,rfl,by omega⟩
     . exact⟨aB,rfl,by omega⟩
   . rintro x rest2 e s' ⟨rfl,⟨o9,o10,rfl⟩,hr2⟩
     obtain⟨q,rfl,hq⟩:=hr2 x (.head _);refine⟨en ns (some (.c k)) (some (.j p)) (some (.c (r.length:Nat))) (some away) (some strd) (some oft) (some non) (some (tpI r)) (some (.c q)) o10 o11 o12 o13,rfl,?_⟩;have hdue:=iT (Φ:=Φ) (G:=T.b) (s:=s') (env:=en ns (some (.c k)) (some (.j p)) (some (.c (r.length:Nat))) (some away) (some strd) (some oft) (some non) (some (tpI r)) (some (.c q)) o10 o11 o12 o13) (N:=["_law_spot","_law_ring","_law_many","_law_place"]) (fr:=[none,some 8,some 3,some 9]) (elt:=.u (.e 1) (.j false .c (.j false .b (.e 3) (.e 0)) (.e 2))) (it:=.d (.e 3)) (n:=r.length) (f:=λi=>r.getD ((q+i)%r.length) 0) (mF (zB rfl) hLr) rfl (λi o hi=>vH (zB rfl) (zW (zW (zB rfl) (zB rfl) tj) (zB rfl) (by rw[bmod (by omega),show ((q:Int)+(i:Int))%((r.length:Nat):Int)=(((q+i)%r.length:Nat):Int) by rw[CY,Int.natCast_add]])) (oq (by
      have hlt:(q+i)%r.length<r.length:=CM _ (by omega)
      rw[Aa hlt,Aq,Aa hlt];rfl))) hLr
     rw[sW hq]at hdue;refine xN (yS (zA hdue zE) rfl) ?_;have hb:∀x∈r.drop q++r.take q,0<=x/\x<=3:=λx hx=>by
      rcases A3.mp hx with hx|hx
      . exact hrx x (List.mem_of_mem_drop hx)
      . exact hrx x (List.mem_of_mem_take hx)
     have hlen:(r.drop q++r.take q).length<=1000:=by rw[Au,BP,B1];omega
     show (zX Φ T.b (en ns (some (.c k)) (some (.j p)) (some (.c (r.length:Nat))) (some away) (some strd) (some oft) (some non) (some (tpI r)) (some (.c q)) (some (tpI (r.drop q++r.take q))) o11 o12 o13) _ s').post _;exact vM (yR (yi (yS (zA (x_call (zA (zB rfl) (zA (zB rfl) zE)) (c.d r q s' hR hq)) zE) (rS hlen hb s')) (yS (zA (zB rfl) zE) (rS hlen hb s')) qN) zh) (vN ⟨rfl,⟨_,_,rfl⟩,λx hx=>hr2 x (.tail _ hx)⟩)
   rintro e s' ⟨rfl,⟨o9,o10,rfl⟩,_⟩
   -- strided
   obtain⟨_,sC,hdC,aC,rfl,haC,tC⟩:=c.a p (r.length:Nat) s' hPB (by omega) (by omega)
   have hPC:=tC.at_ hPB.lt;obtain⟨_,sD,hdD,aD,rfl,haD,tD⟩:=c.a p (r.length:Nat) sC hPC (by omega) (by omega)
   have hPD:=tD.at_ hPC.lt;obtain⟨_,sE,hdE,aE,rfl,haE,tE⟩:=c.a p (r.length:Nat) sD hPD (by omega) (by omega)
   have hPE:=tE.at_ hPD.lt;have hZE:=vm (vm (vm hZB hpl tC) hpl tD) hpl tE;refine yP.mpr (nE (λrest2 e s'=>s'=sE/\(∃o10 o11,e=en ns (some (.c k)) (some (.j p)) (some (.c (r.length:Nat))) (some away) (some strd) (some oft) (some non) (some (tpI r)) o9 o10 o11 o12 o13)/\∀x∈rest2,∃z:Nat,x=.c z/\1<=z/\z<=r.length) [.c 1,.c (r.length:Nat),.c (1+aC),.c (1+aD),.c (1+aE)] (s1:=sE) (l9 (vt (zA zG (zA (zB rfl) (zA (zW zG (x_call (zA (zB rfl) (zA (zB rfl) zE)) hdC) tj) (zA (zW zG (x_call (zA (zB rfl) (zA (zB rfl) zE)) hdD) tj) (zA (zW zG (x_call (zA (zB rfl) (zA (zB rfl) zE)) hdE) tj) zE))))) L5) rfl) ⟨rfl,⟨_,_,rfl⟩,?_⟩ ?_ ?_)
   . intro x hx
     simp only[An,Bj,or_false]at hx;rcases hx with rfl|rfl|rfl|rfl|rfl
     . exact⟨1,rfl,by omega,by omega⟩
     . exact⟨r.length,rfl,by omega,by omega⟩
     . exact⟨1+aC,by congr 1,by omega,by omega⟩
     . exact⟨1+aD,by congr 1,by omega,by omega⟩
     . exact⟨1+aE,by congr 1,by omega,by omega⟩
   . rintro x rest2 e s' ⟨rfl,⟨o10,o11,rfl⟩,hr2⟩
     obtain⟨q,rfl,hq1,hq2⟩:=hr2 x (.head _);refine⟨en ns (some (.c k)) (some (.j p)) (some (.c (r.length:Nat))) (some away) (some strd) (some oft) (some non) (some (tpI r)) o9 o10 (some (.c q)) o12 o13,rfl,?_⟩;have hdue:=iT (Φ:=Φ) (G:=T.b) (s:=s') (env:=en ns (some (.c k)) (some (.j p)) (some (.c (r.length:Nat))) (some away) (some strd) (some oft) (some non) (some (tpI r)) o9 o10 (some (.c q)) o12 o13) (N:=["_law_spot","_law_ring","_law_many","_law_by"]) (fr:=[none,some 8,some 3,some 11]) (elt:=.u (.e 1) (.j false .c (.j false .a (.e 0) (.e 3)) (.e 2))) (it:=.d (.e 3)) (n:=r.length) (f:=λi=>r.getD (i*q%r.length) 0) (mF (zB rfl) hLr) rfl (λi o hi=>vH (zB rfl) (zW (zW (zB rfl) (zB rfl) (rZ (by omega))) (zB rfl) (by rw[bmod (by omega),show ((i:Int)*(q:Int))%((r.length:Nat):Int)=((i*q%r.length:Nat):Int) by rw[CY,Dd]])) (oq (by
      have hlt:i*q%r.length<r.length:=CM _ (by omega)
      rw[Aa hlt,Aq,Aa hlt];rfl))) hLr
     refine xN (yS (zA hdue zE) rfl) ?_;show (zX Φ T.b (en ns (some (.c k)) (some (.j p)) (some (.c (r.length:Nat))) (some away) (some strd) (some oft) (some non) (some (tpI r)) o9 (some (tpI (yg r q))) (some (.c q)) o12 o13) _ s').post _;have hb:∀x∈yg r q,0<=x/\x<=3:=λx hx=>by obtain⟨i,_,rfl⟩:=Cw.mp hx;exact Xa hrx _
     have hlen:(yg r q).length<=1000:=by unfold yg;rw[Ae,Bl];omega
     have key:∃V t,Φ "strided" 101 [tpI r,.c q] s'=.e V s'/\(∀s,blt .a false [V] s=.e (.g t) s)/\V=if 1<B7 r.length q then .g "! number" else tpI (yg r q):=by
      have hg:0<B7 r.length q:=F1 _ (by omega)
      have hgc:=Nat.gcd_comm q r.length;by_cases h1:1<B7 r.length q
      . rw[if_pos h1]
        exact⟨_,_,c.b.sc r q s' hZE hR hq1 hq2 (by omega),qd _ (by decide),rfl⟩
      . rw[if_neg h1]
        exact⟨_,_,c.b.so r q s' hZE hR hq1 hq2 (by omega),rS hlen hb,rfl⟩
     obtain⟨V,t,k1,k2,hV⟩:=key;refine SU (J:=λe s2=>s2=s'/\e=en ns (some (.c k)) (some (.j p)) (some (.c (r.length:Nat))) (some away) (some strd) (some oft) (some non) (some (tpI r)) o9 (some V) (some (.c q)) o12 o13) (yR (yi (x_call (zA (zB rfl) (zA (zB rfl) zE)) (c.e r.length q s' (by omega) (by omega) hq1 (by omega))) zG gt_int) zh) (λhb=>?_) (λhb=>?_) ?_
     . have:=of_decide_eq_true hb
       rw[if_pos (by omega)]at hV
       subst hV;exact xN zG (vN ⟨_,rfl,rfl,rfl⟩)
     . have:=of_decide_eq_false hb
       rw[if_neg (by omega)]at hV
       subst hV;exact⟨rfl,rfl⟩
     rintro e s2 ⟨rfl,rfl⟩;exact vM (yR (yi (yS (zA (x_call (zA (zB rfl) (zA (zB rfl) zE)) k1) zE) (k2 s2)) (yS (zA (zB rfl) zE) (k2 s2)) qN) zh) (vN ⟨rfl,⟨_,_,rfl⟩,λx hx=>hr2 x (.tail _ hx)⟩)
   rintro e s' ⟨rfl,⟨o10,o11,rfl⟩,_⟩
   -- laid
   obtain⟨_,sF,hdF,aF,rfl,haF,tF⟩:=c.a p 41 s' hPE (by omega) (by omega)
   have hZF:=vm hZE hpl tF;have hdiv:binOp false .d (.c 40) (.c (r.length:Nat)) s'=.e (.c ((40/r.length:Nat):Int)) s':=by rw[bdiv (by omega),Int.natCast_ediv];rfl
   have hd40:40/r.length<=40:=Nat.div_le_self _ _;refine yP.mpr (nE (λrest2 e s'=>s'=sF/\(∃o10 o12,e=en ns (some (.c k)) (some (.j p)) (some (.c (r.length:Nat))) (some away) (some strd) (some oft) (some non) (some (tpI r)) o9 o10 o11 o12 o13)/\∀x∈rest2,∃z:Nat,x=.c z/\z<=41) [.c 0,.c 1,.c (40/r.length:Nat),.c ((40/r.length:Nat)+1),.c 40,.c aF] (s1:=sF) (l9 (vt (zA zG (zA zG (zA (zW zG (zB rfl) hdiv) (zA (zW (zW zG (zB rfl) hdiv) zG tj) (zA zG (zA (x_call (zA (zB rfl) (zA zG zE)) hdF) zE)))))) L6) rfl) ⟨rfl,⟨_,_,rfl⟩,?_⟩ ?_ ?_)
   . intro x hx
     simp only[An,Bj,or_false]at hx;rcases hx with rfl|rfl|rfl|rfl|rfl|rfl
     . exact⟨0,rfl,by omega⟩
     . exact⟨1,rfl,by omega⟩
     . exact⟨40/r.length,rfl,by omega⟩
     . exact⟨40/r.length+1,rfl,by omega⟩
     . exact⟨40,rfl,by omega⟩
     . exact⟨aF,rfl,by omega⟩
   . rintro x rest2 e s' ⟨rfl,⟨o10,o12,rfl⟩,hr2⟩
     obtain⟨q,rfl,hq⟩:=hr2 x (.head _);refine⟨en ns (some (.c k)) (some (.j p)) (some (.c (r.length:Nat))) (some away) (some strd) (some oft) (some non) (some (tpI r)) o9 o10 o11 (some (.c q)) o13,rfl,?_⟩;obtain⟨q',hq',hqe,hqm⟩:∃q':Nat,q'<=40/\(if (40:Int)<(q:Int) then (40:Int) else (q:Int))=(q':Int)/\(q<=40->q'=q):=by
      by_cases h:40<q
      . exact⟨40,by omega,by rw[if_pos (by omega)];rfl,λ_=>by omega⟩
      . exact⟨q,by omega,by rw[if_neg (by omega)],λ_=>rfl⟩
     have hmul:r.length*q'<=40*40:=EL hn40 hq';have hLq:r.length*q'<=zb:=Ay hmul (by decide)
     have hcm:((r.length*q':Nat):Int)=(r.length:Int)*(q':Int):=Dd _ _;have hdue:=iT (Φ:=Φ) (G:=T.b) (s:=s') (env:=en ns (some (.c k)) (some (.j p)) (some (.c (r.length:Nat))) (some away) (some strd) (some oft) (some non) (some (tpI r)) o9 o10 o11 (some (.c q)) o13) (N:=["_law_spot","_law_ring","_law_many"]) (fr:=[none,some 8,some 3]) (elt:=.u (.e 1) (.j false .c (.e 0) (.e 2))) (it:=.d (.j false .a (.e 3) (.k .j false (.a (.e 12) (.a (.g (.c 40)) .b))))) (n:=r.length*q') (f:=λi=>r.getD (i%r.length) 0) (mF (zW (zB rfl) (yS (zA (zB rfl) (zA zG zE)) min2) (by rw[hqe,rZ (by omega),hcm])) hLq) rfl (λi o hi=>vH (zB rfl) (zW (zB rfl) (zB rfl) (by rw[bmod (by omega),show ((i:Int))%((r.length:Nat):Int)=((i%r.length:Nat):Int) by rw[CY]])) (oq (by
      have hlt:i%r.length<r.length:=CM _ (by omega)
      rw[Aa hlt,Aq,Aa hlt];rfl))) hLq
     rw[pS hR.b]at hdue;refine xN (yS (zA hdue zE) rfl) ?_;show (zX Φ T.b (en ns (some (.c k)) (some (.j p)) (some (.c (r.length:Nat))) (some away) (some strd) (some oft) (some non) (some (tpI r)) o9 (some (tpI (vK r q'))) o11 (some (.c q)) o13) _ s').post _;have hcq:((r.length*q:Nat):Int)=(r.length:Int)*(q:Int):=Dd _ _;have key:∃V t,Φ "laid" 101 [tpI r,.c q] s'=.e V s'/\(∀s,blt .a false [V] s=.e (.g t) s)/\V=if 40<q then .g "! number" else if 40<r.length*q then .g "! great" else tpI (vK r q'):=by
      by_cases h1:40<q
      . rw[if_pos h1]
        exact⟨_,_,c.b.lb r (.c q) s' hZF hR nofun (by simp[zY];omega),qd _ (by decide),rfl⟩
      . rw[if_neg h1]
        by_cases h2:40<r.length*q
        . rw[if_pos h2]
          exact⟨_,_,c.b.lc r q s' hZF hR (by omega) h2,qd _ (by decide),rfl⟩
        . rw[if_neg h2,hqm (by omega)]
          refine⟨_,_,c.b.lo r q s' hZF hR (by omega),rS (by rw[mI,Ez];omega) λx hx=>?_,rfl⟩
          rw[<-pS hR.b]at hx;obtain⟨i,_,rfl⟩:=Cw.mp hx;exact Xa hrx _
     obtain⟨V,t,k1,k2,hV⟩:=key;refine SV (J:=λe s2=>s2=s'/\e=en ns (some (.c k)) (some (.j p)) (some (.c (r.length:Nat))) (some away) (some strd) (some oft) (some non) (some (tpI r)) o9 (some V) o11 (some (.c q)) o13) (yR (yi (zB rfl) zG gt_int) zh) (λhb=>?_) (λhb=>?_) ?_
     . have:=of_decide_eq_true hb
       rw[if_pos (by omega)]at hV
       subst hV;exact xN zG (vN ⟨_,rfl,rfl,rfl⟩)
     . have hq40:=of_decide_eq_false hb
       rw[if_neg (by omega)]at hV
       have ht:evT Φ T.b (en ns (some (.c k)) (some (.j p)) (some (.c (r.length:Nat))) (some away) (some strd) (some oft) (some non) (some (tpI r)) o9 (some (tpI (vK r q'))) o11 (some (.c q)) o13) (.a (.p .a (.j false .a (.e 3) (.e 12)) (.g (.c 40)))) s'=.e (decide ((40:Int)<(r.length:Int)*(q:Int))) s':=yR (yi (zW (zB rfl) (zB rfl) (rZ (by omega))) zG gt_int) zh
       by_cases h2:40<r.length*q
       . rw[if_pos h2]at hV
         subst hV;rw[decide_eq_true (by omega)]at ht
         refine ba ht (xN zG (vM (yR (yi (x_call (zA (zB rfl) (zA (zB rfl) zE)) (c.b.lg r q s' hZF hR (by omega) h2)) (tR (zA (zW (zB rfl) (zB rfl) (rZ (by omega))) (zA zG zE)) L2') cM) zh) (vN (vN ⟨_,rfl,rfl,rfl⟩))))
       . rw[if_neg h2]at hV
         subst hV;rw[decide_eq_false (by omega)]at ht
         exact vM ht (vN ⟨_,rfl,rfl,rfl⟩)
     rintro e s2 ⟨rfl,rfl⟩;exact vM (yR (yi (yS (zA (x_call (zA (zB rfl) (zA (zB rfl) zE)) k1) zE) (k2 s2)) (yS (zA (zB rfl) zE) (k2 s2)) qN) zh) (vN ⟨rfl,⟨_,_,rfl⟩,λx hx=>hr2 x (.tail _ hx)⟩)
   rintro e s' ⟨rfl,⟨o10,o12,rfl⟩,_⟩;have Z:∀vs:List Val,zj tb (s'++[.c vs])=true:=λvs=>iS hZF;refine xN (aW (zA (x_call (zA (zB rfl) (zA (zB rfl) zE)) (c.b.ta _ _ s' hZF hn2 hn3)) zE) L1) ?_;show (zX Φ T.b (en ns (some (.c k)) (some (.j p)) (some (.c (r.length:Nat))) (some away) (some strd) (some oft) (some non) (some (tpI r)) o9 o10 o11 o12 (some (.j s'.length))) _ (s'++[.c [.g "! ring"]])).post _;refine xJ (bnd (zB rfl) (bnd (zA (x_call (zA (zB rfl) (zA (zB rfl) zE)) (c.b.sa _ _ _ (Z _) hn2 hn3)) zE) (ua (show 1<zb by decide)))) ?_
   refine xJ (bnd (zB rfl) (bnd (zA (x_call (zA (zB rfl) (zA (zB rfl) zE)) (c.b.la _ _ _ (Z _) hn2 hn3)) zE) (ua (show 2<zb by decide)))) ?_
   refine xJ (bnd (zB rfl) (bnd (zA (x_call (zA (zB rfl) (zA (zB rfl) zE)) (c.b.tp r _ _ (Z _) hR hw1 hw2)) zE) (ua (show 3<zb by decide)))) ?_
   refine xJ (bnd (zB rfl) (bnd (zA (x_call (zA (zB rfl) (zA (zB rfl) zE)) (c.b.sb r _ _ (Z _) hR hs1 hs2)) zE) (ua (show 4<zb by decide)))) ?_
   refine xJ (bnd (zB rfl) (bnd (zA (x_call (zA (zB rfl) (zA (zB rfl) zE)) (c.b.lb r _ _ (Z _) hR ho1 ho2)) zE) (ua (show 5<zb by decide)))) ?_
   exact vM (yR (yi (zB rfl) (zW (zW (vt (zA zG zE) L1) zG rfl) (vt (zA zG (zA zG (zA zG zE))) L3) rfl) W6) zh) (vN ⟨⟨_,_,_,_,_,_,_,_,_,_,_,_,_,rfl⟩,Z _,hr'⟩)
 . rintro e s' ⟨⟨o1,o2,o3,o4,o5,o6,o7,o8,o9,o10,o11,o12,o13,rfl⟩,hZ,_⟩
   refine wK zG ?_;show (yI false (tb.map .d) (.e true) s').post _;rw[gI hZ rO];exact zF.mpr rfl
end
theorem cs:At T 7 Cs:=λn hn=>by
 obtain⟨n,rfl⟩:∃m,n=m+7:=⟨n-7,by omega⟩
 have g3:T.b "MOST_PLACES"=some (.c 40):=rfl;have g4:T.b "HUES"=some (.o [0,1,2,3]):=rfl;have g5:T.b "MOST_LAID"=some (.c 40):=rfl;have whole:∀m,tU (zD T (m+1)):=λm v l k s h=>by rw[zq (F:=F.xR) rfl];exact g6 h
 have wholes:∀m,jV (zD T (m+2)):=λm vs l k s h=>by rw[zq (F:=F.ye) rfl];exact kz (whole m) h
 have needWhole:∀m,wB (zD T (m+2)):=λm i l k s h1 h2=>by rw[zq (F:=F.zm) rfl];exact qu (whole m) h1 h2
 have stripW:∀m,oF (zD T (m+3)):=λm v s h=>by rw[zq (F:=F.xQ) rfl];exact ky g3 g4 (wholes m) h
 have needRing:∀m,yd (zD T (m+4)):=λm r s h=>by rw[zq (F:=F66.yL) rfl];exact nN (fD (stripW m)) h
 have needRP:∀m,jU (zD T (m+2)):=λm r p s h=>by rw[zq (F:=F66.zg) rfl];exact kr (whole m) h
 have gcd:∀m,Xo (zD T (m+1)):=λm a b s h=>by rw[zq (F:=F66.zr) rfl];exact YU h
 have turn:∀m,fM (zD T (m+5)):=λm r p s h1 h2=>by rw[zq (F:=F66.ym) rfl];exact gz (needRing m) (needRP (m+2)) h1 h2
 have stride:∀m,aZ (zD T (m+5)):=λm r v s h1 h2 h3 h4=>by rw[zq (F:=F66.yB) rfl];exact ku (needRing m) (needWhole (m+2)) (gcd (m+3)) h1 h2 h3 h4
 have laid:∀m,UJ (zD T (m+5)):=λm r t s h1 h2=>by rw[zq (F:=F63.xU) rfl];exact gy g3 g5 (needRing m) (needWhole (m+2)) h1 h2
 have xNeed:∀m,fX (zD T (m+2)) (zS T (m+2)):=λm v l k s h1 h2 h3 h4=>by obtain⟨a,b⟩:=fZ (T:=T) (Φ:=zD T (m+1)) (Ψ:=zS T (m+1)) (s:=s) (whole m) rfl h1 h2 h3 h4;exact⟨by rw[zq (F:=F.zm) rfl];exact a,_,by rw[rh (F:=F.zm) rfl rfl];exact b⟩
 have xRing:∀m,jZ (zD T (m+4)) (zS T (m+4)):=λm v s h1 h2=>RzF.up (F:=F66.yL) (fe (stripW m) rfl h1 h2) rfl rfl;have xRP:∀m,XRP (zD T (m+2)) (zS T (m+2)):=λm r v s h1 h2=>RzF.up (F:=F66.zg) (Xu (whole m) rfl h1 h2) rfl rfl;have xTurn:∀m,UR (zD T (m+5)) (zS T (m+5)):=λm=>
  ⟨λv w s h1 h2=>RzF.up (F:=F66.ym) (ig (xRing m) h1 h2) rfl rfl,
   λr w s h h1 h2=>RzF.up (F:=F66.ym) (ij (needRing m) (xRP (m+2)) h h1 h2) rfl rfl⟩
 have xStr:∀m,af (zD T (m+5)) (zS T (m+5)):=λm=>
  ⟨λv w s h1 h2=>RzF.up (F:=F66.yB) (fg (xRing m) h1 h2) rfl rfl,
   λr w s h h1 h2=>RzF.up (F:=F66.yB) (fh (needRing m) (xNeed (m+2)) h h1 h2) rfl rfl,
   λr v s h h1 h2 h3=>RzF.up (F:=F66.yB) (fi (needRing m) (needWhole (m+2)) (gcd (m+3)) rfl h h1 h2 h3) rfl rfl⟩
 have xLaid:∀m,UQ (zD T (m+5)) (zS T (m+5)):=λm=>
  ⟨λv w s h1 h2=>RzF.up (F:=F63.xU) (iX (xRing m) h1 h2) rfl rfl,
   λr w s h h1 h2=>RzF.up (F:=F63.xU) (iY g3 g5 (needRing m) (xNeed (m+2)) h h1 h2) rfl rfl,
   λr t s h h1 h2=>aa.up (F:=F63.xU) (iZ g3 g5 (needRing m) (needWhole (m+2)) rfl h h1 h2) rfl rfl⟩
 have got:∀m,UI (zD T (m+6)):=λm=>
  ⟨λv w s hz h1 h2=>vX ((xTurn m).a v w s h1 h2) rfl rfl hz rfl,
   λr w s hz h h1 h2=>vX ((xTurn m).b r w s h h1 h2) rfl rfl hz rfl,
   λv w s hz h1 h2=>vX ((xStr m).a v w s h1 h2) rfl rfl hz rfl,
   λr w s hz h h1 h2=>vX ((xStr m).b r w s h h1 h2) rfl rfl hz rfl,
   λr v s hz h h1 h2 h3=>vX ((xStr m).c r v s h h1 h2 h3) rfl rfl hz rfl,
   λr v s hz h h1 h2 h3=>dB (stride m r v s h h1 h2 h3) rfl rfl hz,
   λv w s hz h1 h2=>vX ((xLaid m).a v w s h1 h2) rfl rfl hz rfl,
   λr w s hz h h1 h2=>vX ((xLaid m).b r w s h h1 h2) rfl rfl hz rfl,
   λr t s hz h h1 h2=>vX ((xLaid m).c r t s h h1 h2).rz rfl rfl hz rfl,
   λr t s hz h h1 h2=>dD ((xLaid m).c r t s h h1 h2) rfl rfl rfl hz,
   λr t s hz h h1=>dB (laid m r t s h h1) rfl rfl hz⟩
 have cell:∀m,Ys (zD T (m+1)):=λm ns k s=>by obtain⟨c,h⟩:=bW (T:=T) (Φ:=zD T m) (s:=s) ns k;exact⟨c,by rw[zq (F:=F.z7) rfl];exact h⟩
 have pen:∀m,Yt (zD T (m+1)):=λm c s=>by obtain⟨a,b,e,d,h,h2⟩:=bX (T:=T) (Φ:=zD T m) (s:=s) c;exact⟨a,b,e,d,by rw[zq (F:=F75.yO) rfl];exact h,h2⟩
 have draw:∀m,lO (zD T (m+1)):=λm p k s h1 h2 h3=>by rw[zq (F:=F75.ya) rfl];exact gx h1 h2 h3
 have com:∀m,fL (zD T (m+1)):=λm a b s h1 h2 h3 h4=>by rw[zq (F:=F66.yT) rfl];exact gw h1 h2 h3 h4
 exact⟨cell (n+6),pen (n+6),draw (n+6),turn (n+2),com (n+6),got (n+1)⟩
theorem W3 ns:∃s',zD T 8 "law" 0 [.r ns] (tb.map .d)=.e (.e true) s':=by
 obtain⟨v,s',h,rfl⟩:=cB (cs 7 (by omega)) ns
 exact⟨s',by rw[zq (F:=pC) rfl];exact h⟩
end P63
end
section
open PySem PySem.W PyProof.Rows
theorem P63.hx:P63.pC.b=[("_law_script":Str)]:=by kernel_rfl
theorem P63.hF:(M.lF P63.fnL P63.glL P63.tb P63.xc P63.md).d P63.dd.name 0=some P63.pC:=by kernel_rfl
theorem P63.hgl:P63.glL=P63.gl.map λp=>(p.1,M.gv p.2):=by kernel_rfl
def P63.ws1:List Str:=["strip","sizes","number","place","hue","draft","paper","fit","great","lot","ring","round"]
def P63.ws2:List Str:=["stand","text","deed","line"]
theorem P63.kst:M.lQ (P63.top 38) P63.X.a (P63.ws1++P63.ws2) (some "! "):=by
 refine⟨by kernel_rfl,by decide +kernel,?_,by decide +kernel⟩
 exact⟨P63.X.a.take 4,(P63.X.a.drop 4).take 4,(P63.X.a.drop 8).take 4,P63.X.a.drop 12,P63.ws1,P63.ws2,_,_,_,_,_,_,_,_,_,_,_,_,_,_,_,_,_,_,_,_,_,_,_,_,_,_,_,_,_,_,_,_,_,_,_,_,_,_,_,_,_,_,_,_,_,_,_,_,_,_,_,_,_,_,_,_,_,_,_,_,_,rfl,rfl,rfl,by decide +kernel,rfl,rfl⟩
theorem P63.Ra:M.oM true "_law_kind" (P63.top 39):=⟨by kernel_rfl,by decide +kernel,⟨_,_,_,_,default,_,_,_,_,_,_,default,default,default,default,default,default,default,default,default,default,default,default,default,default,0,0,0,rfl⟩,by decide +kernel⟩
theorem P63.ist:M.fO (Hd.l6 (P63.top 17)):=⟨by kernel_rfl,by decide +kernel,⟨_,_,_,_,_,_,_,_,_,_,_,_,_,_,_,_,_,_,_,_,_,by decide,rfl,by decide +kernel⟩,by decide +kernel⟩
theorem P63.gst:M.oH (P63.top 40):=⟨by kernel_rfl,by decide +kernel,⟨_,_,_,_,_,_,_,_,_,_,_,_,_,_,_,_,rfl⟩,by decide +kernel⟩
theorem P63.hS:∀b,P63.md b=true->P63.D.lookup (L2.yK b)=some ((λb=>match b with|true=>P63.top 39|false=>P63.top 0) b)/\M.oM b "_law_kind" ((λb=>match b with|true=>P63.top 39|false=>P63.top 0) b)
 |true,_=>⟨rfl,P63.Ra⟩|false,h=>by cases h
theorem P63.ly:((("HueError":Str))::P63.X.c).all (λc=>decide (c="TooGreat")||M.gY P63.q c)=true:=by decide +kernel
theorem P63.lz:P63.X.b.all (λg=>(EJ P63.q).any (λd=>decide (d.name=g))&&(P63.D.lookup g).isSome)=true:=by decide +kernel
theorem PySem.Challenge.cw_evenhues_k63_rings_turned_holds : PySem.Challenge.rw_evenhues_k63_rings_turned.Holds := by
 exact M.X5 (n:=8) _ P63.Vu P63.left P63.hgl P63.dE P63.hp P63.hk P63.hwr P63.ok P63.bare P63.hw (by kernel_rfl) P63.hdf ⟨rfl,by decide,by decide,rfl⟩ P63.hF P63.hx P63.V5 rfl (by decide +kernel) rfl P63.kst P63.hS rfl (by decide +kernel) (by decide +kernel) P63.ly (λ_=>⟨_,rfl,P63.gst⟩) (λ_ _ _ _ _ _ _ TT KX ob=>M.dC TT KX ob P63.ist) P63.lz (λns _=>P63.W3 ns)
end
end
