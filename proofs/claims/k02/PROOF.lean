import PyProof.Rows.All
import Wide.All
import OpenK.AllK
import Wide.FinOn
import Lean
import PyProof.EqAt
import PyProof.EqKinds
import PyProof.TupleCall
import KE.KTryMore
import PyProof.P3Eq
import PyProof.NeData
import PyProof.P3In
import PyProof.Rows.EnumRows
import PyProof.ZipIter
import PyProof.Rows.SetFrom
import PyProof.ExcClass
import OpenK.KRaise
import PyProof.ExcBaseAll.ValueError
import KE.KLam
import PyProof.ExcArgsOwn
import PyProof.IsiH_list
import PySem.Challenge.RW_evenhues_k02_even_rows
set_option genSizeOf false
set_option genSizeOfSpec false
set_option bootstrap.genMatcherCode false
set_option Elab.async false
set_option linter.all false
set_option maxRecDepth 100000
set_option maxHeartbeats 4000000
set_option autoImplicit true
set_option relaxedAutoImplicit true
noncomputable section
open And renaming intro->Aa
open Array renaming length_toList->Cm
open Bool renaming and_eq_true->cf,false_ne_true->Ae,or_eq_true->An,not_eq_true'->AD,false_eq_true->A2,false_and->Cc,eq_iff_iff->Co,or_true->D6,or_eq_false_iff->D8,and_eq_true_iff->D9,and_self->EG
open False renaming elim->Aw
open ForInStep renaming yield->BZ
open Iff renaming rfl->Cf
open Int renaming toNat_natCast->Cw,zero_add->Dh,emod_lt_of_pos->Ep,fdiv_eq_ediv_of_nonneg->Eu,fmod_eq_emod_of_nonneg->Ew,le_trans->Ff,emod_nonneg->Fw
open LawfulBEq renaming eq_of_beq->BR
open LawfulMonad renaming pure_bind->C8
open List renaming mem_cons_of_mem->Ac,length_map->Ad,size_toArray->Ag,getElem?_eq_getElem->Ak,lookup_cons->Al,getElem?_eq_some_iff->Am,mem_cons_self->Ao,getElem?_set_self->Ar,mem_cons->As,length_append->Av,range->Ax,replicate->AA,all_eq_true->AJ,length_set->AL,length_cons->AM,isEmpty_iff->AN,getElem?_set_ne->AO,getElem?_append_left->AQ,mem_of_getElem?->AR,append_nil->AY,getD_eq_getElem?_getD->AZ,mem_append->A1,filterMap_cons->A3,map_cons->A4,getElem?_map->A5,mem_append_right->A6,any_eq_true->Bh,append_assoc->Bk,mem_append_left->Bl,mem_singleton->Bp,getElem_of_mem->Bs,length_range->Bt,contains_cons->Bz,getElem?_append_right->BB,nodup_cons->BI,replicate_succ->BJ,mem_map->BL,not_mem_nil->BO,filterMap_map->BQ,getElem?_eq_none->BS,mem_filterMap->B4,flatten_cons->B7,getElem?_eq_none_iff->B8,map_map->Ck,length_nil->Cp,mem_range->Cy,map_nil->CB,length_take->CD,getElem_mem->CI,flatMap_map->CJ,length_pos_iff->CQ,map_congr_left->CU,nil_append->CY,map_append->C0,drop_eq_getElem_cons->C1,foldl->Dj,getElem?_replicate->Dp,range_succ_eq_map->DB,findIdx?_eq_some_iff_getElem->DC,length_replicate->DR,of_mem_zip->D0,forIn_cons->D5,drop_zero->Ee,length->Ei,set_comm->Et,take_sublist->EJ,nodup_append->EU,getElem?_take_of_lt->E4,length_filterMap_le->Fe,drop_length->Fg,filter_cons->Fh,lookup_eq_none_iff->Fm,range_succ->Fv,filter_nil->Fx,forIn_nil->FI,map->FR,all_cons->FZ
open List.Pairwise renaming nil->EM
open Nat renaming le_refl->Ab,lt_of_lt_of_le->Ap,le_trans->Az,ne_of_lt->AG,lt_irrefl->A8,lt_succ_of_lt->B0,zero_le->Cb,lt_succ_self->Ci,le_of_lt->Cz,le_succ->CP,le_of_eq->Dg,mul_le_mul->Dk,min_le_right->DJ,lt_of_sub_eq_succ->DT,ne_of_gt->E2,div_le_self->Fu
open Ne renaming symm->Bv
open Option renaming none->dS,map_eq_some_iff->BC,isNone_iff_eq_none->BV,isSome_iff_exists->BX,map_some->CV,bind_eq_some_iff->Dn,bind_some->E1,getD_none->E7
open Option.some renaming inj->AW,injEq->Du
open Prod.mk renaming injEq->FW
open PyProof renaming noPylong_small->Dx
open PyProof.Rows renaming slot_tuple_getitem->AV,assignInOrder_cons->B2,callWith_type1->B3,boot_sorted->Df,joinParts_cons->Dm,tupleItemsOf_->DG,boot_min->DU,entry_tuple_getitem->Ea,recsOf->Ed,args_tuple_getitem->Ek,subscriptTail->Ez,assignInOrder_nil->EI,Top->Fi,boot_tuple->Fj,Subscript_->FP
open PySem renaming wpAny_bind->xd,wpAny_pure->Ai,sizeLine->Aq,Spec->Au,starEach->AF,mainGlobals->AI,mem_of_lookup->AK,sizeLine_eq->AS,foldedSetIterable->AU,wpAny_mono->AX,strLen_append->A0,wpAny_loadPart_at->Ba,wpAny_standAt->Be,wpAny_newObj_type->Bi,sliceBounds->Bj,compareOp->Bn,letOwnedTupleGo->Bo,binaryOp->Br,treeTable->Bx,wpAny_Call_Name_kw->By,wpAny_truthy_bool->BD,swappedStores->BF,FuncData->BH,excClassObj->BK,sysModules->BM,wpAny_holding->BN,bootBuiltins->BW,call_meets->B1,cellsFrom->B5,assignEach->B9,wpAny_binaryOp_repeat_ref->Ca,recursionLimit->Ce,NameKind->Cg,checkBuiltinCall->Cj,typeIs_int->Cr,bindName->Cu,codeAny_mono->CA,compTurn->CG,behindInMarks->CK,attributeBase->CM,wpAny_isSubtype_exc->CT,wpAny_passesOwn->CW,wpAny_loadPart'->CZ,wpAny_comprehension_free->C9,wpAny_raiseStmt_made_sub->Dc,codeAmong->Dd,TriplesOk->De,wpAny_bindName->Di,wpAny_callSpecial?_slot->Dr,wpAny_pyIter_list->Dv,wpAny_field->DA,assignInOrder->DE,swapsWithSole->DF,wpAny_execs_cons->DI,Arguments->DM,swapsWith->DP,wpAny_execs_nil->DX,wpAny_rule->DY,wpAny_call->DZ,wpAny_typeOf->D3,codeAny_call_builtin->D7,constantsAlone->Eg,wpAny_pyIter_tuple->Ej,wpAny_newFunctionEnv_cells->Ey,Comprehension->EA,foldedForSure->EF,wpAny_sequenceKey->EK,slot_list_getitem->EL,wpAny_Call_ofName->ET,builtinsNs->EW,cameBackBy->EZ,noFill_tuple_add->E5,wpAny_call_entry->E6,wpAny_getItem_list_slice->E8,wpAny_Dict_empty->Fc,DictEntry->Fo,importedModules->Fp,IsRangeIter->Fy,isCodeTable->FA,newFunctionEnv->FH,bindArgs->FN,typeLookup->FO,closureFor->FQ,seq_tuple_add->FY,lastMarks->F2,slicePick->F3
open PySem.Around renaming frames_deeper->D1
open PySem.AutoSeq1 renaming idx_int->Fb
open PySem.Builtin.List renaming listTooLong->C7
open PySem.Builtin.Range renaming rangeSize->AH,small->Eb
open PySem.Builtin.Slice renaming sliceAdjust->BE,slicePlaces->BU,sliceApplied->B6,sliceFields->EX
open PySem.Builtin.Tuple renaming tupleExact->Bg,tupleItemsOf->CL,tupleTooMany->CN,tupleIsExact->EB
open PySem.Calls renaming Constant_str->C4,Name_function_global->Es
open PySem.Code renaming quiet_builtin->Eo
open PySem.Expr renaming Name->DS,JoinedStr->FE,Attribute->FF,Subscript->FG,Constant->F0
open PySem.Expr.Compare renaming elim->EN
open PySem.Expr.FormattedValue renaming elim->E9
open PySem.Expr.ListComp renaming elim->Em
open PySem.F renaming slot_int_rmul->BY,typeOf_object_class->CC,slot_tuple_mul->CH,args_tuple_add_2->C6,entry_tuple_add->Dq,plainAttrs_list->Ds,args_int_rmul_2->Dw,slot_tuple_add->Dz,slot_int_index->DK,entry_int_rmul->DL,fills_int_mul->D4,slot_gs_get->Ec,args_tuple_mul_2->En,excBase_ValueError->EC,excAttr_ValueError->ED,entry_tuple_mul->EO
open PySem.Flow renaming next->F1
open PySem.Heap renaming get?_push_of_some->nx,lt_size->Aj,get?_push_size->AB,size_push->Bc,get?_update_other->Cv,MadeExcOf->Dl,get?_none_of_le->DW
open PySem.Heap.IsSliceOf renaming new->El
open PySem.NameKind renaming free->Ay,cell->A9,globalImplicit->Dt
open PySem.Obj renaming mapSeq->EY
open PySem.Paired renaming length->FX
open PySem.PyData renaming hasDict->Eh,hasDictAll->ES,weightAll->Fd,canLay0->FJ,eqv->FT,int->FU
open PySem.SeqAt renaming EqAt->Bb
open PySem.Str renaming empty->DQ,ofString->D2
open PySem.Value renaming ref->A7,builtin->DH,none->DV,bool->EV,int->Fq,str->Fs,type->FL
open PySem.W renaming Frag->Ah,behindTheImports->Bq,nsIn->Bu,kia_one->Bw,fnOf->BA,codeIn->BG,keepIn->BP,callWith_K->Cq,topFrame->Ct,mg_of->CO,cellsFrom_some->Dy,tabObj->Ef,recOk->Er,methodObj->EH,instObj->Ft,lookIn->FC,kitOne->FD,piecesOf->FK,fencedOpening->FV
open Sum renaming inl->DN,inr->DO
open ToString renaming toString->E3
open True renaming intro->AE
section
namespace Hd
open PySem
inductive G where
 |a (i:Int)|c (x:Str)|b (ns:List Int)
noncomputable def args(s:Stmt):DM:=match s with
 |.FunctionDef _ a _ _ _ _ _ _ _ _=>a
 |_=>{posonlyargs:=[],args:=[],vararg:=none,kwonlyargs:=[],kw_defaults:=[],kwarg:=none,defaults:=[]}
noncomputable def body(s:Stmt):List Stmt:=match s with
 |.FunctionDef _ _ b _ _ _ _ _ _ _=>b
 |_=>[]
noncomputable def scope(s:Stmt):Scope:=match s with
 |.FunctionDef _ _ _ _ _ _ sc _ _ _=>sc
 |_=>{kind:=.function,names:=[],isGenerator:=false,isCoroutine:=false}
noncomputable def posOf(s:Stmt):Pos:=match s with
 |.FunctionDef _ _ _ _ _ _ _ _ _ p=>p
 |_=>⟨0,0,0,0⟩
def Yc(x:Str)(st:Stmt):DefRec:=⟨x,args st,body st,scope st,posOf st⟩
noncomputable def TF:List Str:=["len","all","any","tuple","list","sorted","repr","max","min","sum","int","isinstance","divmod","str","bool","dict","set","range","enumerate","zip"]
noncomputable def nJ:List Value->Option (List Int)
 |[]=>some []
 |.int i _::r=>(nJ r).map (i::·)
 |_=>none
noncomputable def nsH(h:Heap)(x:Str):Option (Option Value):=match h.get? AI with
 |some o=>Bu [(AI,o)] AI x
 |none=>none
noncomputable def VA(fd:BH):BH:={fd with kwdefaults:=.none,doc:=.none,pyModule:=.none,annotations:=none,code:=.none,closureTuple:=.none}
noncomputable def xH(o:Obj):Bool:=(match o.cls with|.none=>true|_=>false)&&(match o.data with|.fields _=>true|_=>false)
def g8(h:Heap)(cd:Value)(x:Str):Bool:=match cd with
 |.ref c=>(match h.get? c with
  |some o=>!xH o&&BG [(c,o)] (.ref c) x
  |none=>false)
 |_=>false
def aK(h:Heap)(x:Str):Option BH:=match nsH h x with
 |some (some (.ref f))=>(match h.get? f with
  |some ⟨_,_,.func fd,_⟩=>if g8 h fd.code x then some (VA fd) else none
  |_=>none)
 |_=>none
def ZU(p:Str × Stmt):Option BH:=some (BA p.1 p.1 (args p.2) (body p.2) (scope p.2) .none .none .none .none none .none .none)
def glB(h:Heap)(x:Str):G->Bool
 |.a i=>(match nsH h x with|some (some (.int j _))=>decide (i=j)|_=>false)
 |.c y=>(match nsH h x with|some (some (.str z _))=>decide (y=z)|_=>false)
 |.b ns=>(match nsH h x with
  |some (some (.ref a))=>(match h.get? a with
   |some ⟨.type n,_,.seq us _,_⟩=>decide (n="tuple")&&decide (us.toList.length<=1000)&&decide (nJ us.toList=some ns)
   |_=>false)
  |_=>false)
def blB(h:Heap)(x:Str):Bool:=match nsH h x with|some none=>true|_=>false
def ek(D:List (Str × Stmt))(gl:List (Str × G))(s:Shared):List (Option BH) × Bool:=(D.map λp=>aK s.heap p.1,gl.all (λp=>glB s.heap p.1 p.2)&&TF.all λx=>blB s.heap x)
def cn(D:List (Str × Stmt)):List (Option BH) × Bool:=(D.map ZU,true)
end Hd
end
section
namespace Hd
open PySem PySem.W
noncomputable def hsh(w:World)(x:Str):Int:=reduceHash (w.params.strHash x.cps)
def ent(w:World)(x:Str)(t:Tok)(v:Value):Fo:=⟨hsh w x,.str x t,v⟩
def bK(w:World)(n:Nat)(t:Tok)(b:Addr)(md:Value)(x:Str)(l:Int):List Obj:=
 [{cls:=.type "tuple",data:=.seq #[.ref b]},
  {cls:=.type "builtin_function_or_method",data:=.fields #[.builtin "type.__prepare__",.type "type"]},
  {cls:=.type "dict",data:=.dict #[ent w "__module__" (t+7) md,ent w "__qualname__" (t+9) (.str x (t+8)),ent w "__firstlineno__" (t+11) (.int l (t+10)),ent w "__static_attributes__" (t+12) (.ref (n+7))] 4},
  {cls:=.type "tuple",data:=.seq #[]},
  {cls:=.none,data:=.fields #[]},
  {cls:=.type "code",data:=.fields #[.str x (t+2),.str x (t+3),.str "/claim/cut.py" (t+4),.int l 0,.int 0 0,.int 0 0,.int 0 0,.int 0 0,.ref (n+3),.bool false,.int 181 0,.ref (n+4),.none,.none,.none,.none,.int (t+5) 0,.int l 0,.str "/claim/cut.py" (t+6)]},
  {cls:=.type "frame",data:=.plain,slots:=#[some (.ref (n+5)),some (.ref 3),some (.ref (n+2)),none,some md,none,some (.ref 0)]},
  {cls:=.type "tuple",data:=.seq #[]},
  {cls:=.type "dict",data:=.dict #[ent w "__module__" (t+7) md,ent w "__firstlineno__" (t+11) (.int l (t+10)),ent w "__static_attributes__" (t+12) (.ref (n+7)),ent w "__doc__" (t+13) .none] 2},
  {cls:=.type "type",data:=.cls {name:=x,bases:=[.ref b],mro:=[.ref (n+9),.ref b,.type "ValueError",.type "Exception",.type "BaseException",.type "object"],ns:=n+8,qualname:=x},slots:=#[some (.ref n),none,some (.str x t),some (.str x (t+8)),some (.builtin "ValueError.__new__"),some (.bool true)]},
  {cls:=.type "super",data:=.fields #[.ref (n+9),.ref (n+9),.ref (n+9)]},
  {cls:=.type "builtin_function_or_method",data:=.fields #[.builtin "object.__init_subclass__",.ref (n+9)]}]
def gw(w:World)(b:Addr)(md:Value):Nat->Nat->List (Str × Int)->List Obj
 |_,_,[]=>[]
 |n,t,c::cs=>bK w n t b md c.1 c.2++gw w b md (n+12) (t+16) cs
def fN(w:World):Nat->Nat->List (Str × Int)->List Fo
 |_,_,[]=>[]
 |n,t,c::cs=>ent w c.1 (t+15) (.ref (n+9))::fN w (n+12) (t+16) cs
noncomputable def gz:Nat->List (Str × Int)->List Value
 |_,[]=>[]
 |n,c::cs=>.int c.2 0::.int 0 0::.ref (n+5)::gz (n+12) cs
noncomputable def cW:Nat->List (Str × Int)->List Value
 |_,[]=>[]
 |n,_::cs=>.ref (n+9)::cW (n+12) cs
noncomputable def Tt(es':List Fo):Obj->Obj
 |⟨c,d,.dict es n,s⟩=>⟨c,d,.dict ⟨es.toList++es'⟩ (n+es'.length),s⟩
 |o=>o
noncomputable def Tv(vs':List Value):Obj->Obj
 |⟨c,d,.fields vs,s⟩=>⟨c,d,.fields ⟨vs.toList++vs'⟩,s⟩
 |o=>o
noncomputable def Tu(vs':List Value):Obj->Obj
 |⟨c,d,.cls k,s⟩=>⟨c,d,.cls {k with subclasses:=k.subclasses++vs'},s⟩
 |o=>o
noncomputable def atL(f:Obj->Obj):Nat->List Obj->List Obj
 |_,[]=>[]
 |0,o::os=>f o::os
 |n+1,o::os=>o::atL f n os
noncomputable def fC(st:Stmt):Stmt:=match st with
 |.ClassDef _ _ _ b _ _ _ _ _ _ _=>b.getD 0 st
 |_=>st
def Wl(w:World)(n:Nat)(t:Tok)(b:Addr)(md:Value)(st:Stmt)(l:Int):List Obj:=
 let x:Str:="TooGreat";let f:BH:={name:="__init__",qualname:="TooGreat.__init__",params:=args (fC st),body:=.stmts (body (fC st)),scope:=scope (fC st),globals:=0,closure:=[],defaults:=.none,kwdefaults:=.none}
 [{cls:=.type "tuple",data:=.seq #[.ref b]},
  {cls:=.type "builtin_function_or_method",data:=.fields #[.builtin "type.__prepare__",.type "type"]},
  {cls:=.type "dict",data:=.dict #[ent w "__module__" (t+7) md,ent w "__qualname__" (t+9) (.str x (t+8)),ent w "__firstlineno__" (t+11) (.int l (t+10)),ent w "__init__" (t+20) (.ref (n+13)),ent w "__static_attributes__" (t+23) (.ref (n+14))] 5},
  {cls:=.type "tuple",data:=.seq #[]},
  {cls:=.none,data:=.fields #[.int (l+2) 0,.int 4 0,.ref (n+12)]},
  {cls:=.type "code",data:=.fields #[.str x (t+2),.str x (t+3),.str "/claim/cut.py" (t+4),.int l 0,.int 0 0,.int 0 0,.int 0 0,.int 0 0,.ref (n+3),.bool false,.int 181 0,.ref (n+4),.none,.none,.none,.none,.int (t+5) 0,.int l 0,.str "/claim/cut.py" (t+6)]},
  {cls:=.type "frame",data:=.plain,slots:=#[some (.ref (n+5)),some (.ref 3),some (.ref (n+2)),none,some md,none,some (.ref 0)]},
  {cls:=.type "tuple",data:=.seq #[]},
  {cls:=.none,data:=.fields #[]},
  {cls:=.type "tuple",data:=.seq #[.str "self" (t+15),.str "many" (t+16),.str "most" (t+17)]},
  {cls:=.type "tuple",data:=.seq #[]},
  {cls:=.none,data:=.func f},
  {cls:=.type "code",data:=.fields #[.str "__init__" (t+12),.str "TooGreat.__init__" (t+13),.str "/claim/cut.py" (t+14),.int (l+2) 0,.int 3 0,.int 0 0,.int 0 0,.int 3 0,.ref (n+7),.bool true,.int 181 0,.ref (n+8),.none,.ref (n+9),.ref (n+10),.ref (n+11),.int (t+18) 0,.int (l+2) 0,.str "/claim/cut.py" (t+19)]},
  {cls:=.type "function",data:=.func {f with globals:=3,pyModule:=md,code:=.ref (n+12)}},
  {cls:=.type "tuple",data:=.seq #[.str "many" (t+21),.str "most" (t+22)]},
  {cls:=.type "dict",data:=.dict #[ent w "__module__" (t+7) md,ent w "__firstlineno__" (t+11) (.int l (t+10)),ent w "__init__" (t+20) (.ref (n+13)),ent w "__static_attributes__" (t+23) (.ref (n+14)),ent w "__doc__" (t+24) .none] 2},
  {cls:=.type "type",data:=.cls {name:=x,bases:=[.ref b],mro:=[.ref (n+16),.ref b,.type "ValueError",.type "Exception",.type "BaseException",.type "object"],ns:=n+15,qualname:=x},slots:=#[some (.ref n),none,some (.str x t),some (.str x (t+8)),some (.builtin "ValueError.__new__"),some (.bool true)]},
  {cls:=.type "super",data:=.fields #[.ref (n+16),.ref (n+16),.ref (n+16)]},
  {cls:=.type "builtin_function_or_method",data:=.fields #[.builtin "object.__init_subclass__",.ref (n+16)]}]
def tgF(w:World)(n t:Nat)(b:Addr)(md:Value)(cs:List (Str × Int))(st:Stmt)(l:Int)(s:Shared):Shared:=
 let m:=n+12*cs.length;let u:=t+16*cs.length
 {s with toks:=u+27,heap:={s.heap with objs:=⟨atL (Tt (fN w n t cs++[ent w "TooGreat" (u+26) (.ref (m+16))])) 3 (atL (Tv (gz n cs++[.int l 0,.int 0 0,.ref (m+5)])) 12 (atL (Tu (cW n cs++[.ref (m+16)])) b s.heap.objs.toList))++(gw w b md n t cs++Wl w m u b md st l)⟩}}
noncomputable def vX(p:Program):Env:={scope:=p.main.scope,locals:=mainNs,globals:=mainNs,cells:=[],code:=.ref 13,frame:=some 14}
noncomputable def pR:Option Value:=some (.ref 6)
noncomputable def S0(p:Program)(w:World):Shared:=(FV Bx p w 100000).getD (start (opening p)).1
def SA(p:Program)(w:World):Shared:=((topGo Bx p w 11 pR 12 (S0 p w) (topStub p)).map Prod.fst).getD (S0 p w)
noncomputable def Bd(p:Program)(k:Nat):List Stmt:=(Bq p).take 2++(((Bq p).drop 2).take k++(Bq p).drop (2+k))
def Cd(p:Program)(k:Nat):Code:=.body (Bd p k) (vX p)
def S1(p:Program)(k:Nat)(w:World):Shared:=((segRun Bx p w 11 pR 1 1000 (SA p w) (FK ((Bq p).take 2) (vX p) (Cd p k) default [Ct default])).map λr=>r.2.1).getD (SA p w)
noncomputable def WL(l:Nat):Pos:=⟨l,0,l+1,8⟩
noncomputable def WM(l:Nat):Pos:=⟨l,0,l+5,24⟩
def S3(p:Program)(cs:List (Str × Int))(l:Nat)(w:World):Shared:=tgF w 28 207 24 (.str "evenhues.errors" 187) cs ((Bq p).getD (2+cs.length) (.Pass ⟨0,0,0,0⟩)) l (S1 p (cs.length+1) w)
noncomputable def bI(p:Program)(h:Heap)(z:Shared):Bool:=staticsOk (Fp p.main.body) h z.heap&&namesBound p z.heap&&gensDone z&&laidKept h z.heap
def chk(p:Program)(h:Heap)(z:Shared):Option Shared:=match bI p h z with
 |true=>some z
 |false=>none
theorem iM{Yf}{Ya:World->α}{T0 TA T1 T2:World->Shared}
 (hc:cd=.body (l1++(l2++l3)) env)
 (h0:∀w,FV Bx p w N=some (T0 w))
 (h1:∀w,((T0 w).heap.isNs AI&&(T0 w).gens.size == 0,(T0 w).heap.objs.size,(T0 w).heap.nsMap AI "__annotations__")=(true,m,ann))
 (hA:∀w,topGo Bx p w m ann k0 (T0 w) (topStub p)=some (TA w,⟨denote Bx (.body (l1++(l2++l3)) env),cd,b0,[Ct qq]⟩))
 (hB:∀w,segRun Bx p w m ann 1 1 (TA w) (blockOf (l1++(l2++l3)) env cd b0 [Ct qq])=some (.next,TA w,cd,b0))
 (hC:∀w,segRun Bx p w m ann 1 n1 (TA w) (FK l1 env cd b0 [Ct qq])=some (.next,T1 w,cd,b1))
 (hD:∀w,segRun Bx p w m ann 1 n2 (T1 w) (FK l2 env cd b1 [Ct qq])=some (.next,T2 w,cd,b2))
 (hE:∀w,((topRun Bx p w m ann n3 (T2 w) (restOf l3 env cd b2 [Ct qq])).bind (chk p (T0 w).heap)).map (λz=>(openSeen q loose (Fp p.main.body) Xt true z,Yf z))=some (openGood q loose,Ya w))
 (le:Nat.ble (k0+(1+(n1+(n2+n3)))) N=true):LeftO p q loose Xt Yf Ya N:=λw=>by
 have hs:=h1 w;simp only[FW]at hs;obtain⟨r,k1,k2⟩:=BC.mp (hE w);obtain⟨r',k3,k4⟩:=Dn.mp k1;have go:=topRun_mono (N-(k0+(1+(n1+(n2+n3))))) _ _ _ _ (go_top (hA w) (piece_block (hB w) (piece_app (hC w) (piece_app (hD w) k3))));rw[Nat.add_sub_cancel' (Nat.le_of_ble_eq_true le)]at go;have tf:topFrom Bx p w N (T0 w)=some r:=by unfold topFrom;rw[hs.1,hs.2.1,hs.2.2];dsimp only;rw[go];unfold chk bI at k4;exact k4
 unfold openEnds;rw[h0 w,E1,tf];exact congrArg some k2
theorem VP{α β γ δ ε ζ η κ:Type}{o:Option Shared}{f:Shared->α × β × γ × δ × ε × ζ × η}{g:Shared->κ}{a}{b}{c}{d}{e}{i}{j}{u}(h0:o.map (λz=>(f z).1)=some a)(h1:o.map (λz=>((f z).2.1,(f z).2.2.1))=some (b,c))(h2:o.map (λz=>(f z).2.2.2.1)=some d)(h5:o.map (λz=>((f z).2.2.2.2.1,(f z).2.2.2.2.2.1))=some (e,i))(h3:o.map (λz=>(f z).2.2.2.2.2.2)=some j)(h4:o.map (λz=>(g z,bI p h z))=some (u,true)):(o.bind (chk p h)).map (λz=>(f z,g z))=some ((a,b,c,d,e,i,j),u):=by
 cases o with
 |none=>cases h4
 |some z=>
  simp only[CV,Du,FW]at h0 h1 h2 h3 h4 h5;have e1:chk p h z=some z:=by unfold chk;rw[h4.2]
  rw[E1,e1,<-h0,<-h1.1,<-h1.2,<-h2,<-h5.1,<-h5.2,<-h3,<-h4.1];rfl
end Hd
end
section
namespace Hd
open PySem PySem.W
structure XT where
 a:List Str
 c:List Str
 b:List Str
def adH(h:Heap)(x:Str):Option Addr:=match nsH h x with
 |some (some (.ref a))=>some a
 |_=>none
def YZ(h:Heap)(x:Str):List (Addr × Obj):=match adH h x with
 |some a=>(match h.get? a with
  |some o=>(match o.data with
   |.cls cd=>(a,o)::(match h.get? cd.ns with
    |some n=>if xH n then [] else [(cd.ns,n)]
    |none=>[])
   |_=>[])
  |none=>[])
 |none=>[]
def kcH(h:Heap):List Str->Frag
 |[]=>[]
 |x::xs=>YZ h x++kcH h xs
noncomputable def veM:List Value:=[.type "ValueError",.type "Exception",.type "BaseException",.type "object"]
noncomputable def bA(K:Frag)(C:Addr):Bool:=(findIn K (.ref C) "__getattribute__" == some (some (.builtin "BaseException.__getattribute__")))&&(findIn K (.ref C) "__getattr__" == some none)&&(findIn K (.ref C) "__class__" == some (some (.builtin "object.__class__"))) &&
 (subIn K (.ref C) (.type "BaseException") == some true)&&(subIn K (.ref C) (.type "object") == some true)&&(clsIn K C).isSome
def ed(h:Heap)(C:Addr)(bm:List Value):Bool:=match h.get? C with
 |some o=>(match o.data with
  |.cls cd=>(cd.mro == .ref C::bm)&&(match h.get? cd.ns with
   |some n=>!xH n
   |none=>false)
  |_=>false)
 |none=>false
def bmB(h:Heap):Bool:=match adH h "__builtins__" with
 |some b=>(match h.get? b with
  |some o=>!xH o
  |none=>false)
 |none=>false
def kB(h:Heap)(x:Str):Option Addr:=match adH h x with
 |some f=>(match h.get? f with
  |some o=>(match o.data with
   |.func fd=>(match fd.code with
    |.ref c=>(match h.get? c with
     |some oc=>(match oc.data with
      |.fields vs=>(match (vs[11]?:Option Value) with
       |some (.ref P)=>some P
       |_=>none)
      |_=>none)
     |none=>none)
    |_=>none)
   |_=>none)
  |none=>none)
 |none=>none
def oF(X:XT)(h:Heap):Bool:=match adH h "HueError" with
 |none=>false
 |some hue=>X.a.all (λc=>(adH h c).isSome)&&blB h "ValueError"&&X.c.all (λc=>match adH h c with
  |none=>false
  |some C=>bA (kcH h ("HueError"::X.a)) C&&(exmOne (kcH h ("HueError"::X.a)) (.ref C) (.ref hue) == some true)&&X.a.all (λd=>kitOne (kcH h ("HueError"::X.a)) (.ref C) (.ref ((adH h d).getD 0)) == some (decide (d=c))) &&
   (kitOne (kcH h ("HueError"::X.a)) (.ref C) (.type "ValueError") == some true)&&ed h C (.ref hue::veM)) &&
  ed h hue veM&&bmB h&&decide ((X.b.map (kB h)).Nodup)
theorem VQ{α β γ:Type}{z:Option γ}{f:γ->α}{g:γ->β}{p}{a}{b}(h1:z.map (λz=>(f z,g z))=some (a,b))(h2:z.map p=some true):z.map (λz=>(f z,(g z,p z)))=some (a,(b,true)):=by
 cases z with
 |none=>cases h1
 |some z=>
  simp only[CV,Du,FW]at h1 h2 ⊢;exact⟨h1.1,h1.2,h2⟩
theorem VR{α β:Type}{o:Option Shared}{f:Shared->α}{g:Shared->β}{a}{b}(h1:(o.bind (chk p h)).map (λz=>(f z,g z))=some (a,b))(h2:o.map q=some true):(o.bind (chk p h)).map (λz=>(f z,(g z,q z)))=some (a,(b,true)):=by
 refine VQ h1 ?_;cases o with
 |none=>cases h2
 |some z=>
  rw[E1]at h1 ⊢;unfold chk at h1 ⊢;split
  . exact h2
  . rename_i e;rw[e]at h1;cases h1
end Hd
end
section
set_option maxHeartbeats 0
open PySem PySem.W PyProof.Rows
namespace P02
noncomputable def top(i:Nat):Stmt:=PySem.Challenge.pw_evenhues_k02_even_rows.main.body.getD i (.Pass ⟨0,0,0,0⟩)
def D:List (Str × Stmt):=(("is_whole":Str),top 22)::(("need_whole":Str),top 23)::(("need_size":Str),top 24)::(("need_length":Str),top 25)::(("need_first":Str),top 26)::(("need_step":Str),top 27)::(("places_of":Str),top 29)::(("most_step":Str),top 30)::(("rows_in":Str),top 31)::(("rows_many":Str),top 32)::(("_law_cell_at":Str),top 34)::(("_law_pen":Str),top 35)::(("_law_draw":Str),top 36)::(("_law_rows":Str),top 37)::(("_law_places":Str),top 38)::(("_law_class":Str),top 39)::(("_law_said":Str),top 40)::(("_law_none":Str),top 41)::(("_law_refused_right":Str),top 42)::(("law":Str),top 43)::[]
noncomputable def gl:List (Str × Hd.G):=[("MOST_PLACES",.a 40),("LEAST_SIZE",.a 2),("MOST_SIZE",.a 8)]
def q:Program:={PySem.Challenge.pw_evenhues_k02_even_rows with main:={PySem.Challenge.pw_evenhues_k02_even_rows.main with body:=[1,2,3,4,5,6,7,8,9,10,11,12,13,14,15,16,17,19,20,21,22,23,24,25,26,27,29,30,31,32,34,35,36,37,38,39,40,41,42,43].map top}}
def dd:DefRec:=Hd.Yc "law" (top 43)
noncomputable def X:Hd.XT:=⟨["NoStrip","NoSizes","NoNumber","NoPlace","NoHue","NoDraft","NoPaper","NoFit","NoLot","NoRing","NoRound","NoStand","NoText","NoDeed","NoLine","TooGreat"],["NoNumber"],["_law_refused_right"]⟩
noncomputable abbrev pr:Program:=PySem.Challenge.rw_evenhues_k02_even_rows.row.prog
noncomputable def Yb:List (Str × Int):=[("NoStrip",4),("NoSizes",6),("NoNumber",8),("NoPlace",10),("NoHue",12),("NoDraft",14),("NoPaper",16),("NoFit",18),("NoLot",20),("NoRing",22),("NoRound",24),("NoStand",26),("NoText",28),("NoDeed",30),("NoLine",32)]
def Fz(w:World):Option Shared:=topRun Bx pr w 11 Hd.pR 50000 (Hd.S3 pr Yb 34 w) (restOf ((Bq pr).drop 18) (Hd.vX pr) (Hd.Cd pr 16) (Hd.WM 34) [Ct default])
def Sn(z:Shared):=openSeen q [] (Fp pr.main.body) (λs=>Er PySem.Challenge.rw_evenhues_k02_even_rows.row.records s) true z
theorem e0:∀w,(Fz w).map (λz=>(Sn z).1)=some (expectedOf q):=by
 intro w
 kernel_rfl
theorem e1:∀w,(Fz w).map (λz=>((Sn z).2.1,(Sn z).2.2.1))=some (bltViewBooted,true):=by
 intro w
 kernel_rfl
theorem e2:∀w,(Fz w).map (λz=>(Sn z).2.2.2.1)=some true:=by
 intro w
 kernel_rfl
theorem e6:∀w,(Fz w).map (λz=>((Sn z).2.2.2.2.1,(Sn z).2.2.2.2.2.1))=some (pinGoodD (drecsOf q),plainGoodE q (looseW q [])):=by
 intro w
 kernel_rfl
theorem e3:∀w,(Fz w).map (λz=>(Sn z).2.2.2.2.2.2)=some (plainGoodD q [],wideGood q,clsGoodW q []):=by
 intro w
 kernel_rfl
theorem e4:∀w,(Fz w).map (λz=>(Hd.ek D gl z,Hd.bI pr (Hd.S0 pr w).heap z))=some (Hd.cn D,true):=by
 intro w
 kernel_rfl
theorem e5:∀w,(Fz w).map (λz=>Hd.oF X z.heap)=some true:=by
 intro w
 kernel_rfl
theorem h0:∀w,FV Bx pr w 100000=some (Hd.S0 pr w):=by
 intro w
 kernel_rfl
theorem h1:∀w,((Hd.S0 pr w).heap.isNs AI&&(Hd.S0 pr w).gens.size == 0,(Hd.S0 pr w).heap.objs.size,(Hd.S0 pr w).heap.nsMap AI "__annotations__")=(true,11,Hd.pR):=by
 intro w
 kernel_rfl
theorem hA:∀w,topGo Bx pr w 11 Hd.pR 12 (Hd.S0 pr w) (topStub pr)=some (Hd.SA pr w,⟨denote Bx (.body (Hd.Bd pr 16) (Hd.vX pr)),Hd.Cd pr 16,default,[Ct default]⟩):=by
 intro w
 kernel_rfl
theorem hB:∀w,segRun Bx pr w 11 Hd.pR 1 1 (Hd.SA pr w) (blockOf (Hd.Bd pr 16) (Hd.vX pr) (Hd.Cd pr 16) default [Ct default])=some (.next,Hd.SA pr w,Hd.Cd pr 16,default):=by
 intro w
 kernel_rfl
theorem hC:∀w,segRun Bx pr w 11 Hd.pR 1 1000 (Hd.SA pr w) (FK ((Bq pr).take 2) (Hd.vX pr) (Hd.Cd pr 16) default [Ct default])=some (.next,Hd.S1 pr 16 w,Hd.Cd pr 16,Hd.WL 2):=by
 intro w
 kernel_rfl
theorem hD:∀w,segRun Bx pr w 11 Hd.pR 1 20000 (Hd.S1 pr 16 w) (FK (((Bq pr).drop 2).take 16) (Hd.vX pr) (Hd.Cd pr 16) (Hd.WL 2) [Ct default])=some (.next,Hd.S3 pr Yb 34 w,Hd.Cd pr 16,(Hd.WM 34)):=by
 intro w
 kernel_rfl
theorem hE:∀w,((Fz w).bind (Hd.chk pr (Hd.S0 pr w).heap)).map (λz=>(Sn z,Hd.ek D gl z))=some (openGood q [],Hd.cn D):=λw=>Hd.VP (e0 w) (e1 w) (e2 w) (e6 w) (e3 w) (e4 w)
theorem left:PySem.W.LeftO pr q [] (λs=>Er PySem.Challenge.rw_evenhues_k02_even_rows.row.records s) (λz=>(Hd.ek D gl z,Hd.oF X z.heap)) (λ_=>(Hd.cn D,true)) 100000:=
 Hd.iM (p:=pr) (T0:=Hd.S0 pr) (TA:=Hd.SA pr) (T1:=Hd.S1 pr 16) (T2:=Hd.S3 pr Yb 34) (N:=100000) (m:=11) (k0:=12) (n1:=1000) (n2:=20000) (n3:=50000) (ann:=Hd.pR) (env:=Hd.vX pr) (l1:=(Bq pr).take 2) (l2:=((Bq pr).drop 2).take 16) (l3:=(Bq pr).drop 18) (cd:=Hd.Cd pr 16) (b0:=default) (b1:=Hd.WL 2) (b2:=(Hd.WM 34)) (qq:=default) rfl h0 h1 hA hB hC hD (λw=>Hd.VR (hE w) (e5 w)) (by decide +kernel)
theorem WZ:PySem.Challenge.rw_evenhues_k02_even_rows.wellSaid=true:=by kernel_rfl
theorem fX:PySem.W.defOf q PySem.Challenge.rw_evenhues_k02_even_rows.row.name=some (dd,[]):=by kernel_rfl
theorem hp:PySem.Challenge.rw_evenhues_k02_even_rows.row.prog.theDef PySem.Challenge.rw_evenhues_k02_even_rows.row.name=some (dd.params,dd.body,dd.scope):=by kernel_rfl
theorem hk:PySem.W.kwWritten? dd.params.kwonlyargs dd.params.kw_defaults=some []:=by kernel_rfl
theorem hwr:(!PySem.Challenge.rw_evenhues_k02_even_rows.row.writes||PySem.Challenge.rw_evenhues_k02_even_rows.row.records.isEmpty)=true:=by kernel_rfl
theorem ok:(PySem.W.chainsOk q&&PySem.W.opensWell PySem.Challenge.rw_evenhues_k02_even_rows.row.prog&&(PySem.W.frees PySem.Challenge.rw_evenhues_k02_even_rows.row.toRowW&&PySem.Challenge.rw_evenhues_k02_even_rows.row.within.isEmpty))=true:=by kernel_rfl
theorem hdf:dd.params.defaults=[]:=by kernel_rfl
theorem bare:PySem.Challenge.rw_evenhues_k02_even_rows.row.prog.bare:=⟨rfl,rfl,rfl,rfl,rfl,by decide +kernel⟩
theorem hw:PySem.Challenge.rw_evenhues_k02_even_rows.row.toRowW.promised:=by w_witness2
end P02
end
section
namespace L2
open PySem PySem.Spec PyProof.Rows
abbrev Key:=Sum Int Str
noncomputable def Zr:Key->Value->Bool
 |.inl k,v=>Value.isInt k v
 |.inr x,v=>Value.isStrOf x v
noncomputable def TN(w:World):Key->Int
 |.inl k=>hashInt k
 |.inr x=>hashStr w x
theorem yL:∀{k} {v},Zr k v=true->(∃i t,k=DN i/\v=Fq i t)\/(∃x t,k=DO x/\v=Fs x t)
 |.inl i,v,h=>by
  obtain⟨t,e⟩:=Value.isInt_shape (k:=i) (v:=v) h;exact .inl ⟨i,t,rfl,e⟩
 |.inr x,v,h=>by obtain⟨t,e⟩:=Value.isStrOf_shape (x:=x) (v:=v) h;exact .inr ⟨x,t,rfl,e⟩
theorem Xa a b:decide ((DN a:Key)=DN b)=(a == b):=by
 by_cases e:a=b
 . subst e;simp
 . have h:¬(DN a:Key)=DN b:=λq=>e (DN.inj q)
   rw[decide_eq_false h];exact(beq_eq_false_iff_ne.mpr e).symm
theorem Xd a b:decide ((DO a:Key)=DO b)=decide (a=b):=by
 by_cases e:a=b
 . subst e;simp
 . have h:¬(DO a:Key)=DO b:=λq=>e (DO.inj q)
   rw[decide_eq_false h,decide_eq_false e]
theorem Xb a b:decide ((DN a:Key)=DO b)=false:=decide_eq_false (λq=>nomatch q)
theorem Xc a b:decide ((DO a:Key)=DN b)=false:=decide_eq_false (λq=>nomatch q)
def oB(prog:Program)(w:World):PySem.KeyKind prog w Key where
 is:=Zr
 hash:=TN w
 inj:=λv a b ha hb=>by
  rcases yL ha with⟨i,t,rfl,rfl⟩|⟨x,t,rfl,rfl⟩
  . rcases yL hb with⟨j,u,rfl,e⟩|⟨y,u,rfl,e⟩
    . injection e with e1 _;rw[e1]
    . exact nomatch e
  . rcases yL hb with⟨j,u,rfl,e⟩|⟨y,u,rfl,e⟩
    . exact nomatch e
    . injection e with e1 _;rw[e1]
 byValue:=λk v h=>by
  rcases yL h with⟨i,t,rfl,rfl⟩|⟨x,t,rfl,rfl⟩<;>rfl
 pyHash:=λhv h=>by
  rcases yL hv with⟨i,t,rfl,rfl⟩|⟨x,t,rfl,rfl⟩
  . exact wpAny_pyHash_int h
  . exact wpAny_pyHash_str h
 eqBool:=λhu hv h=>by
  rcases yL hu with⟨i,t,rfl,rfl⟩|⟨x,t,rfl,rfl⟩
  . rcases yL hv with⟨j,u,rfl,rfl⟩|⟨y,u,rfl,rfl⟩
    . rw[Xa]at h;exact wpAny_eqBool_int h
    . rw[Xb]at h;exact Bb.int_str i t y u _ _ _ _ h
  . rcases yL hv with⟨j,u,rfl,rfl⟩|⟨y,u,rfl,rfl⟩
    . rw[Xc]at h;exact Bb.str_int x t j u _ _ _ _ h
    . rw[Xd]at h;exact wpAny_eqBool_str h
 «strs»:=λk x t v h=>by
  rcases yL h with⟨i,u,rfl,e⟩|⟨y,u,rfl,e⟩
  . exact nomatch e
  . injection e with e1 _
    subst e1;cases v<;>rfl
inductive V where
 |g|f (b:Bool)|d (i:Int)|e (x:Str)|h (b:Array UInt8)|j (b:UInt64)|c (a:Addr)|k (n:String)
 deriving DecidableEq
def RelV:V->Value->Prop
 |.g,u=>u=DV
 |.f b,u=>u=EV b
 |.d i,u=>∃t,u=Fq i t
 |.e x,u=>∃t,u=Fs x t
 |.h b,u=>∃t,u=Value.bytes b t
 |.j b,u=>∃t,u=Value.float b t
 |.c a,u=>u=A7 a
 |.k n,u=>u=FL n
abbrev Vals:List V->List Value->Prop:=Paired RelV
theorem Vals.length(r:Vals xs us):xs.length=us.length:=FX r
theorem Vals.get:∀{xs} {us} {i:Nat} {x},Vals xs us->xs[i]?=some x->∃u,us[i]?=some u/\RelV x u
 |_,_,_,_,.nil,e=>by simp at e
 |_,_,0,_,.cons r _,e=>by simp at e;subst e;exact⟨_,rfl,r⟩
 |_,_,i+1,x,.cons _ t,e=>by
  obtain⟨u,h1,h2⟩:=Vals.get (i:=i) (x:=x) t (by simpa using e)
  exact⟨u,by simpa using h1,h2⟩
theorem Vals.set(r:RelV x u):∀{xs} {us} i,Vals xs us->Vals (xs.set i x) (us.set i u)
 |_,_,_,.nil=>.nil
 |_,_,0,.cons _ t=>.cons r t
 |_,_,i+1,.cons q t=>.cons q (Vals.set r i t)
theorem Vals.append:∀{xs ys} {us ws},Vals xs us->Vals ys ws->Vals (xs++ys) (us++ws)
 |_,_,_,_,.nil,s=>s
 |_,_,_,_,.cons r t,s=>.cons r (Vals.append t s)
theorem Vals.take:∀{xs} {us} n,Vals xs us->Vals (xs.take n) (us.take n)
 |_,_,0,_=>.nil
 |_,_,_+1,.nil=>.nil
 |_,_,n+1,.cons r t=>.cons r (Vals.take n t)
theorem Vals.drop:∀{xs} {us} n,Vals xs us->Vals (xs.drop n) (us.drop n)
 |_,_,0,r=>r
 |_,_,_+1,.nil=>.nil
 |_,_,n+1,.cons _ t=>Vals.drop n t
theorem Vals.none_of:∀{xs} {us} {i:Nat},Vals xs us->xs[i]?=none->us[i]?=none:=λ{xs us i} r e=>by have h1:=r.length;have h2:xs.length<=i:=B8.mp e;exact B8.mpr (by omega)
def YK:Option V->Option Value->Prop
 |some v,some u=>RelV v u
 |none,none=>True
 |_,_=>False
def KV{κ:Type}:List (κ × V)->List (κ × Value)->Prop:=Paired λ(p:κ × V) (q:κ × Value)=>p.1=q.1/\RelV p.2 q.2
noncomputable def kV:Key->V
 |.inl i=>.d i
 |.inr x=>.e x
inductive HO where
 /-- a list -/
 |b (xs:List V)
 /-- a tuple (never changes) -/
 |c (xs:List V)
 /-- a dict whose keys are ints and texts;one whose keys are tuples of ints and texts (the empty one is both) -/
 |i (kvs:List (Key × V))|j (kvs:List (List Key × V))
 /-- a set of ints: its members,its size -/
 |l (S:Int->Bool) (n:Nat)
 /-- an instance of the class at C,its dict at dx,its attributes -/
 |k (C dx:Addr) (fs:List (Str × V))
 /-- the dict of the instance at x -/
 |e (x:Addr)
 /-- the dict of an exception -/
 |r (fs:List (Str × V))
 /-- a bound method,f of x -/
 |p (f x:Addr)
 /-- a range object lo,lo+1,.. below hi -/
 |q (lo hi:Int)
 /-- a thing that is known to the object (the script;a dict while a loop walks it): read,never written while it is so -/
 |d (o:Obj) (u:HO)
 /-- a code object's table -/
 |g (ps:Array Value)
 /-- any other thing,by what is true of its one object (a def of one's own: SetO a S n:=HO.ext λh=>..) -/
 |m (φ:Heap->Prop)
abbrev Hp:=Addr->Option HO
def tN(h:Heap)(a:Addr)(items:Array Value):Prop:=∃o,h.get? a=some o/\o.cls=.type "tuple"/\∃n,o.data=.seq items n/\o.dict=none
theorem tN.tup{h:Heap}{a:Addr}{items:Array Value}(x:tN h a items):IsTup h a items:=let ⟨o,e,c,n,d,_⟩:=x;⟨o,e,c,n,d⟩
theorem tN.lt(x:tN h a items):a<h.objs.size:=let ⟨_,e,_⟩:=x;Aj e
theorem tN.new(h:Heap)items:tN (h.push {cls:=.type "tuple",data:=.seq items}) h.objs.size items:=⟨_,AB _ rfl,rfl,_,rfl,rfl⟩
noncomputable def upd(H:Hp)(a:Addr)(o:HO):Hp:=λb=>if b=a then some o else H b
theorem zM:upd H a o a=some o:=by unfold upd;rw[if_pos rfl]
theorem zH(h:b≠a):upd H a o b=H b:=by unfold upd;rw[if_neg h]
theorem zO{H:Hp}(h:H a=some o)(h':H b=none):a≠b:=by intro e;subst e;rw[h]at h';cases h'
section
variable (P:Program)(w:World)
def yP(H:Hp)(h:Heap)(a:Addr):HO->Prop
 |.b xs=>xs.length<=Aq/\∃(its:List Value) (n:Nat),Vals xs its/\h.get? a=some {cls:=.type "list",data:=.seq its.toArray n}
 |.c xs=>xs.length<=Aq/\∃its:List Value,Vals xs its/\tN h a its.toArray
 |.i kvs=>kvs.length<=Aq/\(a == BM)=false/\∃vs,KV kvs vs/\h.DictOf (oB P w) a vs
 |.j kvs=>kvs.length<=Aq/\(a == BM)=false/\∃xs:List (List Key × Addr × Value),
  Paired (λ(p:List Key × V) (q:List Key × Addr × Value)=>p.1=q.1/\H q.2.1=some (.c (p.1.map kV))/\RelV p.2 q.2.2) kvs xs /\
  ∃o es ep,h.get? a=some o/\o.ExactDict/\o.data=.dict es ep/\es.toList=xs.map (entryOfKey (tupleKind (oB P w)))/\(xs.map (·.1)).Nodup
 |.l S n=>h.SetOf (intKind P w) a S n
 |.k C dx fs=>H dx=some (.e a)/\fs.length<=1000/\dx≠a/\h.get? a=some (Ft C dx) /\
  ∃mA,h.Ns1 dx mA/\(∀f,YK (fs.lookup f) (mA f))/\PySem.Within mA (fs.map (·.1))
 |.e _=>∃o,h.get? a=some o
 |.r fs=>∃mA,h.Ns1 a mA/\∀f,YK (fs.lookup f) (mA f)
 |.q lo hi=>∃t u v,h.get? a=some {cls:=.type "range",data:=.fields #[.int lo t,.int hi u,.int 1 v]}
 |.d o u=>h.get? a=some o/\yP H h a u
 |.g ps=>h.get? a=some {cls:=.none,data:=.fields ps}
 |.p f x=>h.get? a=some (EH (.ref f) (.ref x))
 |.m φ=>φ h/\(∃o,h.get? a=some o)/\∀h1 h2:Heap,φ h1->(∀o,h1.get? a=some o->h2.get? a=some o)->φ h2
def HOk(H:Hp)(h:Heap):Prop:=∀a o,H a=some o->yP P w H h a o
end
section
variable {P:Program}{w:World}{H H':Hp}{h h':Heap}{a:Addr}{o:HO}
theorem yP.lt(x:yP P w H h a o):a<h.objs.size:=by
 cases o with
 |b xs=>obtain⟨_,_,_,_,e⟩:=x;exact Aj e
 |c xs=>obtain⟨_,_,_,p⟩:=x;exact p.lt
 |i kvs=>obtain⟨_,_,_,_,o,_,_,e,_⟩:=x;exact Aj e
 |j kvs=>obtain⟨_,_,_,_,o,_,_,e,_⟩:=x;exact Aj e
 |l S n=>obtain⟨o,_,_,_,e,_⟩:=x;exact Aj e
 |k C dx fs=>obtain⟨_,_,_,e,_⟩:=x;exact Aj e
 |e y=>obtain⟨_,e⟩:=x;exact Aj e
 |r fs=>obtain⟨_,⟨_,_,_,e,_⟩,_⟩:=x;exact Aj e
 |q lo hi=>obtain⟨_,_,_,e⟩:=x;exact Aj e
 |d ob u=>obtain⟨e,_⟩:=x;exact Aj e
 |g ps=>exact Aj (show h.get? a=some _ from x)
 |p f y=>exact Aj (show h.get? a=some _ from x)
 |m φ=>obtain⟨_,⟨_,e⟩,_⟩:=x;exact Aj e
theorem Paired.Vr:∀{l₁} {l₂},Paired F l₁ l₂->(∀a b,F a b->G a b)->Paired G l₁ l₂
 |_,_,.nil,_=>.nil
 |_,_,.cons r t,f=>.cons (f _ _ r) (Paired.Vr t f)
theorem yP.qT(x:yP P w H h a o)(k:∀b u,(b=a\/H b=some (.e a))->h.get? b=some u->h'.get? b=some u)
 (ho:∀b,H b=some (.e a)->H' b=some (.e a)) (ht:∀b xs,H b=some (.c xs)->H' b=some (.c xs)):yP P w H' h' a o:=by
 induction o with
 |b xs=>obtain⟨z,its,n,r,e⟩:=x;exact⟨z,its,n,r,k _ _ (.inl rfl) e⟩
 |c xs=>obtain⟨z,its,r,ob,e,c⟩:=x;exact⟨z,its,r,ob,k _ _ (.inl rfl) e,c⟩
 |i kvs=>obtain⟨z,y,vs,r,ob,es,ep,e,c⟩:=x;exact⟨z,y,vs,r,ob,es,ep,k _ _ (.inl rfl) e,c⟩
 |j kvs=>
  obtain⟨z,y,xs,r,ob,es,ep,e,c⟩:=x;exact⟨z,y,xs,Paired.Vr r λp q z=>⟨z.1,ht _ _ z.2.1,z.2.2⟩,ob,es,ep,k _ _ (.inl rfl) e,c⟩
 |l S n=>obtain⟨ob,es,ep,t,e,c⟩:=x;exact⟨ob,es,ep,t,k _ _ (.inl rfl) e,c⟩
 |k C dx fs=>
  obtain⟨d,z,ne,e,mA,⟨od,es,ep,e2,c⟩,r⟩:=x;exact⟨ho _ d,z,ne,k _ _ (.inl rfl) e,mA,⟨od,es,ep,k _ _ (.inr d) e2,c⟩,r⟩
 |e y=>obtain⟨ob,e⟩:=x;exact⟨ob,k _ _ (.inl rfl) e⟩
 |r fs=>obtain⟨mA,⟨od,es,ep,e,c⟩,r⟩:=x;exact⟨mA,⟨od,es,ep,k _ _ (.inl rfl) e,c⟩,r⟩
 |q lo hi=>obtain⟨t,u,v,e⟩:=x;exact⟨t,u,v,k _ _ (.inl rfl) e⟩
 |d ob u ih=>obtain⟨e,q⟩:=x;exact⟨k _ _ (.inl rfl) e,ih q⟩
 |g ps=>
  have e:h.get? a=some {cls:=.none,data:=.fields ps}:=x;show h'.get? a=some {cls:=.none,data:=.fields ps};exact k a _ (.inl rfl) e
 |p f y=>
  have e:h.get? a=some (EH (.ref f) (.ref y)):=x;show h'.get? a=some (EH (.ref f) (.ref y));exact k a _ (.inl rfl) e
 |m φ=>obtain⟨p,⟨o,e⟩,st⟩:=x;exact⟨st _ _ p λo q=>k _ _ (.inl rfl) q,⟨o,k _ _ (.inl rfl) e⟩,st⟩
theorem HOk.lt(x:HOk P w H h)(e:H a=some o):a<h.objs.size:=(x a o e).lt
theorem HOk.fresh(x:HOk P w H h)(e:h.objs.size<=a):H a=none:=by
 cases q:H a with
 |none=>rfl
 |some u=>exact absurd (Ap (x.lt q) e) (A8 _)
theorem HOk.kept(x:HOk P w H h)(k:∀b u,h.get? b=some u->h'.get? b=some u):HOk P w H h':=λa o e=>
 (x a o e).qT (λb u _ q=>k b u q) (λ_ q=>q) λ_ _ q=>q
theorem HOk.laid(x:HOk P w H h)(k:∀b u,h.get? b=some u->h'.get? b=some u)(hp:h.objs.size<=a)(new:yP P w (upd H a o) h' a o):HOk P w (upd H a o) h':=λb u e=>by
 have hn:=x.fresh hp;by_cases hb:b=a
 . subst hb;rw[zM]at e;cases e;exact new
 . rw[zH hb]at e
   exact(x b u e).qT (λc v _ q=>k c v q) (λc q=>by rw[zH (zO q hn)];exact q) λc xs q=>by rw[zH (zO q hn)];exact q
end
def Rd(H:Hp)(a:Addr)(u:HO):Prop:=H a=some u\/∃o,H a=some (.d o u)
theorem Rd.ok(r:Rd H a u)(x:HOk P w H h):yP P w H h a u:=by
 rcases r with r|⟨o,r⟩
 . exact x a u r
 . obtain⟨_,q⟩:=x a _ r
   exact q
def Mut:Option HO->Prop
 |some (.b _)=>True
 |some (.i _)=>True
 |some (.j _)=>True
 |some (.l _ _)=>True
 |some (.k _ _ _)=>True
 |some (.m _)=>True
 |_=>False
section
variable {P:Program}{w:World}{H:Hp}{h h':Heap}{x e:Addr}{o':HO}
theorem HOk.write(ok:HOk P w H h)(mu:Mut (H x))(he:e=x\/H e=some (.e x))(k:∀b u,b≠e->h.get? b=some u->h'.get? b=some u)(heo:∃u,h'.get? e=some u)
 (new:yP P w (upd H x o') h' x o'):HOk P w (upd H x o') h':=λb u q=>by
 have nown:∀c y,H c=some (.e y)->c≠x:=λc y r z=>by subst z;rw[r]at mu;exact mu
 have ntup:∀c xs,H c=some (.c xs)->c≠x:=λc xs r z=>by subst z;rw[r]at mu;exact mu
 by_cases hb:b=x
 . subst hb;rw[zM]at q;cases q;exact new
 . rw[zH hb]at q
   by_cases hbe:b=e
   . have q':H b=some (.e x):=by
      rcases he with z|z
      . exact absurd (hbe.trans z) hb
      . rw[hbe];exact z
     rw[q]at q';cases q';obtain⟨v,hv⟩:=heo;exact⟨v,by rw[hbe];exact hv⟩
   . refine(ok b u q).qT (λc v hc r=>k c v ?_ r) (λc r=>by rw[zH (nown c b r)];exact r) λc xs r=>by rw[zH (ntup c xs r)];exact r
     rcases hc with rfl|hc
     . exact hbe
     . rintro rfl
       rcases he with z|z
       . exact nown c b hc z
       . rw[hc]at z;cases z;exact hb rfl
end
structure Un(fs ex:List Addr)(H H':Hp)(h h':Heap):Prop where
 f:∀b o,h.get? b=some o->H b=none->b ∉ fs->b ∉ ex->h'.get? b=some o
 i:∀b o,h.get? b=some o->H b=none->b∈fs->b ∉ ex->∃sl,h'.get? b=some {o with slots:=sl}
 d:∀b o,h.get? b=some o->H b=none->b ∉ ex->H' b=none
 c:∀b o,h.get? b=some o->b ∉ ex->∃o',h'.get? b=some o'
 l:∀b xs,H b=some (.c xs)->H' b=some (.c xs)
 g:∀b o u,H b=some (.d o u)->H' b=some (.d o u)
 j:∀b ps,H b=some (.g ps)->∃more,H' b=some (.g (ps++more))
section
variable {fs fs' ex ex':List Addr}{H H1 H2:Hp}{h h1 h2 h':Heap}{a x e:Addr}{o:HO}
theorem Un.any(u:Un fs ex H H1 h h1)(q:h.get? b=some ob)(n:H b=none)(hx:b ∉ ex):∃sl,h1.get? b=some {ob with slots:=sl}:=by
 by_cases hb:b∈fs
 . exact u.i b ob q n hb hx
 . exact⟨ob.slots,u.f b ob q n hb hx⟩
theorem Un.kept(k:∀b u,h.get? b=some u->h'.get? b=some u):Un fs ex H H h h':=
 ⟨λb ob q _ _ _=>k b ob q,λb ob q _ _ _=>⟨ob.slots,k b ob q⟩,λ_ _ _ n _=>n,λb ob q _=>⟨ob,k b ob q⟩,λ_ _ q=>q,λ_ _ _ q=>q,λ_ ps q=>⟨#[],by rw[q];simp⟩⟩
theorem Un.refl:Un fs ex H H h h:=Un.kept λ_ _ q=>q
theorem Un.laid(k:∀b u,h.get? b=some u->h'.get? b=some u)(hp:h.objs.size<=a)(hn:H a=none):Un fs ex H (upd H a o) h h' where
 f:=λb u q _ _ _=>k b u q
 i:=λb u q _ _ _=>⟨u.slots,k b u q⟩
 d:=λb u q n _=>by rw[zH (AG (Ap (Aj q) hp))];exact n
 c:=λb u q _=>⟨u,k b u q⟩
 l:=λb xs q=>by rw[zH (zO q hn)];exact q
 g:=λb u xs q=>by rw[zH (zO q hn)];exact q
 j:=λb ps q=>⟨#[],by rw[zH (zO q hn),q];simp⟩
theorem Un.write(mu:Mut (H x))(he:e=x\/H e=some (.e x))(k:∀b u,b≠e->h.get? b=some u->h'.get? b=some u)(heo:∃u,h'.get? e=some u):Un fs ex H (upd H x o) h h':=by
 have hx:∀b,H b=none->b≠x:=λb n z=>by subst z;rw[n]at mu;exact mu
 have hb:∀b,H b=none->b≠e:=λb n z=>by
  subst z;rcases he with r|r
  . exact hx b n r
  . rw[n]at r;cases r
 have hm:∀b u,H b=some u->¬Mut (some u)->b≠x:=λb u q nm z=>by subst z;rw[q]at mu;exact nm mu
 refine⟨λb u q n _ _=>k b u (hb b n) q,λb u q n _ _=>⟨u.slots,k b u (hb b n) q⟩,λb u q n _=>by rw[zH (hx b n)];exact n,λb u q _=>?_,
  λb xs q=>by rw[zH (hm b _ q λz=>z)];exact q,λb u xs q=>by rw[zH (hm b _ q λz=>z)];exact q,λb ps q=>⟨#[],by rw[zH (hm b _ q λz=>z),q];simp⟩⟩
 by_cases hbe:b=e
 . subst hbe;exact heo
 . exact⟨u,k b u hbe q⟩
end
noncomputable def trk(h:Heap)(H:Hp):List Addr:=(Ax h.objs.size).filter λa=>(H a).isSome
def pj(h:Heap)(H:Hp):Heap:=PySem.W.hideAll h (trk h H)
theorem j4 h H:(pj h H).objs.size=h.objs.size:=PySem.W.hideAll_size _ _
theorem fY(e:h.get? b=some o)(n:H b=none):(pj h H).get? b=some o:=
 PySem.W.hideAll_get _ e λhm=>by have q:(H b).isSome=true:=(List.mem_filter.mp hm).2;rw[n]at q;simp at q
theorem aM(e:(pj h H).get? b=some o):h.get? b=some o/\H b=none:=by
 have e':h.get? b=some o:=PySem.W.of_hideAll (trk h H) e;refine⟨e',?_⟩;cases q:H b with
 |none=>rfl
 |some x=>
  have hm:b∈trk h H:=List.mem_filter.mpr ⟨Cy.mpr (Aj e'),by simp[q]⟩
  have z:(pj h H).get? b=none:=PySem.W.hideAll_none (trk h H) hm;rw[z]at e;cases e
structure Mod(K:Ah)(mg:Str->Option Value)(base:Heap):Prop where
 a:K.In base
 c:base.Ns AI mg
 d:∃mb,base.Ns EW mb/\∀x:Str,x≠"__name__"->mb x=BW x
 b:base.NoLimit
structure Cx where
 f:Program
 w:World
 K:Ah
 d:Str->Option Value
 h:Heap
 A:Around
 N:List Str
 l:Shared
 r:Hp
 a:Env
 k:List Env
 g:List Env
 m:List Addr
 q:Str->Bool
 i:Bool
 n:List (Addr × Obj)
 j:Value->Shared->Prop
noncomputable def frs(l:List Env):List Addr:=l.filterMap (·.frame)
abbrev Cx.fs(X:Cx):List Addr:=frs X.k
def Vis(sc:Scope)(x:Str):Prop:=sc.names.lookup x=some .local\/sc.names.lookup x=some .cell\/sc.names.lookup x=some .free
def Loc(sc:Scope)(x:Str):Prop:=sc.names.lookup x=some .local\/sc.names.lookup x=some .cell
def Look(env:Env)(h:Heap)(m:Str->Option Value)(x:Str)(u:Value):Prop:=
 (env.kindOf x=some .local/\m x=some u)\/((env.kindOf x=some .cell\/env.kindOf x=some .free)/\∃c,env.cells.lookup x=some c/\h.IsCell c (some u))
structure Cx.Ok(X:Cx):Prop where
 i:Mod X.K X.d X.h
 a:X.a.scope.kind=.function
 k:X.a.globals=AI
 t:X.a.builtins=EW
 d:X.l.heap.objs.size<=X.a.locals
 r:∀x y c,X.a.cells.lookup x=some c->X.a.cells.lookup y=some c->x=y
 p:∀x,(X.a.kindOf x=some .cell\/X.a.kindOf x=some .free)->∃c,X.a.cells.lookup x=some c
 s:∀x c,X.q x=true->X.a.cells.lookup x=some c->X.l.heap.objs.size<=c
 j:X.i=true->X.A.handled=none
 g:X.A.frames=some X.g
 w:X.g=X.k\/(X.g=X.a::X.k/\X.a.frame=some X.a.locals)
 G:∀b∈X.m,b≠X.a.locals/\∀x c,X.a.cells.lookup x=some c->c≠b
 B:∀b o,X.h.get? b=some o->X.l.heap.get? b=some o/\X.r b=none
 q:X.h.objs.size<=X.l.heap.objs.size
 m:∀b o,X.h.get? b=some o->b ∉ X.m
 l:∀b∈X.m,b ∉ X.fs
 D:X.l.heap.FunFrames X.h X.k
 u:∀b∈X.fs,X.r b=none
structure Inv(X:Cx)(pins:List (Addr × Obj))(σ:List (Option V))(H:Hp)(s:Shared):Prop where
 B:X.Ok
 R:s.os=X.l.os
 F:AllBare s.gens
 j:Un X.fs X.m X.r H X.l.heap s.heap
 M:∃m,s.heap.Ns X.a.locals m/\∀(i:Nat) (x:Str) (v:V),X.N[i]?=some x->σ[i]?=some (some v)->Vis X.a.scope x->∃u,RelV v u/\Look X.a s.heap m x u
 G:∀x c,X.a.cells.lookup x=some c->∃v,s.heap.IsCell c v
 J:H X.a.locals=none
 D:∀x c,X.a.cells.lookup x=some c->H c=none
 O:∀p∈X.n++pins,s.heap.get? p.1=some p.2/\H p.1=none/\p.1≠X.a.locals/\p.1 ∉ X.fs/\∀v,p.2.data≠.cell v
 C:HOk X.f X.w H s.heap
 P:σ.length=X.N.length
section
variable {X:Cx}{pins:List (Addr × Obj)}{σ:List (Option V)}{H H':Hp}{s:Shared}{h':Heap}
theorem Cx.Ok.TR(ok:X.Ok)(e:X.h.get? b=some o):b ∉ X.fs:=λhb=>by have:=(ok.D.mem hb).1;rw[e]at this;cases this
theorem Inv.bs(I:Inv X pins σ H s):∀b o,X.h.get? b=some o->s.heap.get? b=some o/\H b=none:=λb o e=>
 ⟨I.j.f b o (I.B.B b o e).1 (I.B.B b o e).2 (I.B.TR e) (I.B.m b o e),I.j.d b o (I.B.B b o e).1 (I.B.B b o e).2 (I.B.m b o e)⟩
theorem Inv.bk(I:Inv X pins σ H s):∀b o,X.h.get? b=some o->s.heap.get? b=some o:=λb o e=>(I.bs b o e).1
theorem Inv.mod(I:Inv X pins σ H s):Mod X.K X.d X.h:=I.B.i
theorem Inv.kIn(I:Inv X pins σ H s):X.K.In s.heap:=I.B.i.a.keeps I.bk
theorem Inv.lt(I:Inv X pins σ H s):X.a.locals<s.heap.objs.size:=let ⟨_,hn,_⟩:=I.M;hn.lt
theorem Inv.sz(I:Inv X pins σ H s):X.l.heap.objs.size<=s.heap.objs.size:=Az I.B.d (Cz I.lt)
theorem Inv.TU(I:Inv X pins σ H s)(h:s.heap.objs.size<=a):a ∉ X.fs:=λhb=>by obtain⟨_,o,ho,_⟩:=I.B.D.mem hb;exact absurd (Ap (Aj ho) (Az I.sz h)) (A8 _)
theorem Inv.cne(I:Inv X pins σ H s):∀x c,X.a.cells.lookup x=some c->c≠X.a.locals:=λx c e z=>by obtain⟨v,o,ho,hd⟩:=I.G x c e;obtain⟨m,⟨o',es,ep,ho',hd',_⟩,_⟩:=I.M;rw[z,ho']at ho;cases ho;rw[hd']at hd;cases hd
theorem Inv.uk(I:Inv X pins σ H s):s.heap.FunFrames X.h X.k:=by
 have all:∀(l:List Env),(∀b∈frs l,b∈X.fs)->X.l.heap.FunFrames X.h l->s.heap.FunFrames X.h l:=by
  intro l;induction l with
  |nil=>intro _ _;trivial
  |cons env r ih=>
   intro hs hl;obtain⟨hk,⟨L,o,hf,hn,ho,hd⟩,hr⟩:=hl;have hL:L∈X.fs:=hs L (by unfold frs;rw[A3,hf];exact Ao)
   obtain⟨sl,e⟩:=I.j.i L o ho (I.B.u L hL) hL λz=>I.B.l L z hL;exact⟨hk,⟨L,_,hf,hn,e,hd⟩,ih (λb hb=>hs b (by unfold frs;rw[A3,hf];exact Ac _ hb)) hr⟩
 exact all X.k (λ_ hb=>hb) I.B.D
theorem Inv.stack(I:Inv X pins σ H s):s.heap.FunFrames X.h X.g:=by
 rcases I.B.w with e|⟨e,hf⟩
 . rw[e];exact I.uk
 . rw[e]
   obtain⟨m,hn,_⟩:=I.M;refine .cons (by rw[I.B.a];decide) hf hn ?_ I.uk
   exact DW (Az I.B.q I.B.d)
theorem Inv.l5(I:Inv X pins σ H s):∀b∈frs X.g,b∈X.a.locals::X.fs:=λb hb=>by
 rcases I.B.w with e|⟨e,hf⟩
 . rw[e]at hb;exact Ac _ hb
 . rw[e]at hb
   unfold frs at hb;rw[A3,hf]at hb;exact hb
theorem Inv.oX(I:Inv X pins σ H s):∀b∈frs X.g,H b=none:=λb hb=>by
 rcases As.mp (I.l5 b hb) with e|hb
 . rw[e];exact I.J
 . obtain⟨_,o,ho,_⟩:=I.B.D.mem hb
   exact I.j.d b o ho (I.B.u b hb) λz=>I.B.l b z hb
theorem Inv.step{ch:List Addr}(I:Inv X pins σ H s)
 (hch:∀b∈ch,(b∈X.m\/X.l.heap.objs.size<=b)/\b≠X.a.locals/\(∀x c,X.a.cells.lookup x=some c->c≠b)/\∀p∈X.n++pins,p.1≠b)
 (keep:∀b o,b≠X.a.locals->b ∉ X.fs->b ∉ ch->s.heap.get? b=some o->H b=none->h'.get? b=some o)
 (slot:∀b o,b≠X.a.locals->b∈X.fs->b ∉ ch->s.heap.get? b=some o->H b=none->∃sl,h'.get? b=some {o with slots:=sl}) (free:∀b o,b ∉ ch->s.heap.get? b=some o->H b=none->H' b=none)
 (there:∀b o,b ∉ ch->s.heap.get? b=some o->∃o',h'.get? b=some o')
 (tups:∀b xs,H b=some (.c xs)->H' b=some (.c xs)) (frzs:∀b o u,H b=some (.d o u)->H' b=some (.d o u)) (tbls:∀b ps,H b=some (.g ps)->∃more,H' b=some (.g (ps++more)))
 (ns:∀m,s.heap.Ns X.a.locals m->h'.Ns X.a.locals m) (hok:HOk X.f X.w H' h') (hg:AllBare g') :
 Inv X pins σ H' {s with heap:=h',gens:=g',drawn:=d',toks:=t'}:=by
 have neL:∀b o,X.l.heap.get? b=some o->b≠X.a.locals:=λb o e=>AG (Ap (Aj e) I.B.d);have neC:∀b o,X.l.heap.get? b=some o->b ∉ X.m->b ∉ ch:=λb o e hx hb=>by
  rcases (hch b hb).1 with z|z
  . exact hx z
  . exact absurd (Ap (Aj e) z) (A8 _)
 have cellK:∀x c,X.a.cells.lookup x=some c->∀v,s.heap.IsCell c v->h'.IsCell c v:=λx c e v ⟨o,ho,hd⟩=>by
  have nch:c ∉ ch:=λz=>(hch c z).2.2.1 x c e rfl;by_cases hc:c∈X.fs
  . obtain⟨sl,q⟩:=slot c o (I.cne x c e) hc nch ho (I.D x c e)
    exact⟨_,q,hd⟩
  . exact⟨o,keep c o (I.cne x c e) hc nch ho (I.D x c e),hd⟩
 refine⟨I.B,I.R,hg,⟨λb o e n hb hx=>?_,λb o e n hb hx=>?_,λb o e n hx=>?_,λb o e hx=>?_,λb xs e=>tups b xs (I.j.l b xs e),λb o xs e=>frzs b o xs (I.j.g b o xs e),λb ps e=>?_⟩,?_,λx c e=>?_,?_,λx c e=>?_,λp hp=>?_,hok,I.P⟩
 . exact keep b o (neL b o e) hb (neC b o e hx) (I.j.f b o e n hb hx) (I.j.d b o e n hx)
 . obtain⟨sl,e1⟩:=I.j.i b o e n hb hx
   obtain⟨sl',e2⟩:=slot b _ (neL b o e) hb (neC b o e hx) e1 (I.j.d b o e n hx);exact⟨sl',e2⟩
 . obtain⟨o',e1⟩:=I.j.c b o e hx
   exact free b o' (neC b o e hx) e1 (I.j.d b o e n hx)
 . obtain⟨o',e1⟩:=I.j.c b o e hx
   exact there b o' (neC b o e hx) e1
 . obtain⟨m1,e1⟩:=I.j.j b ps e
   obtain⟨m2,e2⟩:=tbls b _ e1;exact⟨m1++m2,by rw[e2,Array.append_assoc]⟩
 . obtain⟨m,hn,hl⟩:=I.M
   refine⟨m,ns m hn,λi x v e1 e2 e3=>?_⟩;obtain⟨u,r,l⟩:=hl i x v e1 e2 e3;refine⟨u,r,?_⟩;rcases l with l|⟨k,c,e,z⟩
   . exact .inl l
   . exact .inr ⟨k,c,e,cellK x c e _ z⟩
 . obtain⟨v,z⟩:=I.G x c e
   exact⟨v,cellK x c e v z⟩
 . obtain⟨m,⟨o,_,_,ho,_⟩,_⟩:=I.M
   exact free _ o (λz=>(hch _ z).2.1 rfl) ho I.J
 . obtain⟨v,o,ho,hd⟩:=I.G x c e
   exact free c o (λz=>(hch c z).2.2.1 x c e rfl) ho (I.D x c e)
 . obtain⟨e,n,ne,nf,d⟩:=I.O p hp
   have nch:p.1 ∉ ch:=λz=>(hch p.1 z).2.2.2 p hp rfl;exact⟨keep p.1 p.2 ne nf nch e n,free p.1 p.2 nch e n,ne,nf,d⟩
theorem Inv.un(I:Inv X pins σ H s)(u:Un X.fs [] H H' s.heap h')(hok:HOk X.f X.w H' h'):Inv X pins σ H' {s with heap:=h',toks:=t'}:=by
 obtain⟨m,⟨o,es,ep,ho,r⟩,_⟩:=id I.M;obtain⟨sl,hL⟩:=u.any ho I.J (by simp)
 exact I.step (g':=s.gens) (d':=s.drawn) (ch:=[]) (λ_ z=>nomatch z) (λb o _ hb _ e n=>u.f b o e n hb (by simp)) (λb o _ hb _ e n=>u.i b o e n hb (by simp)) (λb o _ e n=>u.d b o e n (by simp)) (λb o _ e=>u.c b o e (by simp)) u.l u.g u.j (λm' hm=>by obtain⟨o',es',ep',ho',r'⟩:=hm;rw[ho]at ho';cases ho';exact⟨_,es',ep',hL,r'⟩) hok I.F
theorem Inv.call(I:Inv X pins σ H s)(u:Un (frs X.g) ch H H' s.heap h')(hok:HOk X.f X.w H' h')(hg:AllBare g')
 (hch:∀b∈ch,(b∈X.m\/X.l.heap.objs.size<=b)/\b≠X.a.locals/\(∀x c,X.a.cells.lookup x=some c->c≠b)/\∀p∈X.n++pins,p.1≠b) :
 Inv X pins σ H' {s with heap:=h',gens:=g',drawn:=d',toks:=t'}:=by
 obtain⟨m,⟨o,es,ep,ho,r⟩,_⟩:=id I.M;obtain⟨sl,hL⟩:=u.any ho I.J λz=>(hch _ z).2.1 rfl;exact I.step (ch:=ch) hch (λb o hL hb hc e n=>u.f b o e n (λz=>(As.mp (I.l5 b z)).elim hL hb) hc) (λb o _ _ hc e n=>u.any e n hc) (λb o hc e n=>u.d b o e n hc) (λb o hc e=>u.c b o e hc) u.l u.g u.j (λm' hm=>by obtain⟨o',es',ep',ho',r'⟩:=hm;rw[ho]at ho';cases ho';exact⟨_,es',ep',hL,r'⟩) hok hg
theorem Inv.turned(I:Inv X pins σ H s)(k:∀b o,b≠it->s.heap.get? b=some o->h'.get? b=some o)(hn:H it=none)(hL:it≠X.a.locals)
 (h1:it∈X.m\/X.l.heap.objs.size<=it) (h2:∀x c,X.a.cells.lookup x=some c->c≠it) (h3:∀p∈X.n++pins,p.1≠it):Inv X pins σ H {s with heap:=h',toks:=t'}:=by
 have nit:∀b u,H b=some u->b≠it:=λb u e z=>by rw[z,hn]at e;cases e
 refine I.step (g':=s.gens) (d':=s.drawn) (ch:=[it]) (λb hb=>?_) (λb o _ _ hc e _=>k b o (λz=>hc (by simp[z])) e) (λb o _ _ hc e _=>⟨o.slots,k b o (λz=>hc (by simp[z])) e⟩) (λ_ _ _ _ n=>n)
  (λb o hc e=>⟨o,k b o (λz=>hc (by simp[z])) e⟩) (λ_ _ e=>e) (λ_ _ _ e=>e) (λb ps e=>⟨#[],by rw[e];simp⟩) (λm hm=>?_) (λb u e=>?_) I.F
 . have e:b=it:=by simpa using hb
   subst e;exact⟨h1,hL,h2,h3⟩
 . obtain⟨o,es,ep,ho,r⟩:=hm
   exact⟨o,es,ep,k _ o (Bv hL) ho,r⟩
 . refine(I.C b u e).qT (λc v hc q=>k c v ?_ q) (λ_ q=>q) λ_ _ q=>q
   rcases hc with z|z
   . rw[z];exact nit b u e
   . exact nit c _ z
theorem Inv.tok(I:Inv X pins σ H s)t:Inv X pins σ H {s with toks:=t}:=I.un (h':=s.heap) (t':=t) Un.refl I.C
theorem Inv.kept(I:Inv X pins σ H s)(k:∀b u,s.heap.get? b=some u->h'.get? b=some u):Inv X pins σ H {s with heap:=h',toks:=t'}:=I.un (Un.kept k) (I.C.kept k)
theorem Inv.laid(I:Inv X pins σ H s)(k:∀b u,s.heap.get? b=some u->h'.get? b=some u)(hp:s.heap.objs.size<=a)(new:yP X.f X.w (upd H a o) h' a o) :
 Inv X pins σ (upd H a o) {s with heap:=h',toks:=t'}:=I.un (Un.laid k hp (I.C.fresh hp)) (I.C.laid k hp new)
theorem Inv.write(I:Inv X pins σ H s)(mu:Mut (H x))(he:e=x\/H e=some (.e x))(k:∀b u,b≠e->s.heap.get? b=some u->h'.get? b=some u)(heo:∃u,h'.get? e=some u)
 (new:yP X.f X.w (upd H x o) h' x o):Inv X pins σ (upd H x o) {s with heap:=h',toks:=t'}:=I.un (Un.write mu he k heo) (I.C.write mu he k heo new)
theorem Inv.oQ{pins':List (Addr × Obj)}(I:Inv X pins σ H s)(h:∀p∈pins',s.heap.get? p.1=some p.2/\H p.1=none/\p.1≠X.a.locals/\p.1 ∉ X.fs/\∀v,p.2.data≠.cell v):Inv X pins' σ H s:=
 ⟨I.B,I.R,I.F,I.j,I.M,I.G,I.J,I.D,λp hp=>(A1.mp hp).elim (λz=>I.O p (Bl _ z)) (h p),I.C,I.P⟩
theorem nY{N:List Str}(hN:N.Nodup){i j:Nat}(a:N[i]?=some x)(b:N[j]?=some x):i=j:=by obtain⟨h1,e1⟩:=Am.mp a;obtain⟨h2,e2⟩:=Am.mp b;exact(List.getElem_inj hN).mp (e1.trans e2.symm)
theorem pI{Q:Unit->Shared->Prop}(I:Inv X pins σ H s)(hN:X.N.Nodup)(hi:X.N[i]?=some x)(hx:Loc X.a.scope x)(r:RelV v u)
 (h:∀s',Inv X pins (σ.set i (some v)) H s'->(∃a,Heap.SameBut a s.heap s'.heap/\(a=X.a.locals\/X.a.cells.lookup x=some a))->Q () s') (hf:X.q x=true\/X.a.scope.names.lookup x=some .local:=by first|exact .inl rfl|exact .inr rfl|assumption):wpAny M A (storeName X.a x u) Q E s:=by
 obtain⟨m,hn,hl⟩:=id I.M;have hcls:(X.a.scope.kind == .class||(X.a.scope.kind == .module&&X.a.locals != X.a.globals))=false:=by rw[I.B.a];rfl
 have hiσ:i<σ.length:=by rw[I.P];exact(Am.mp hi).1
 have cne:=I.cne;have tracked:∀{a:Addr} {h':Heap},(∃o,s.heap.get? a=some o/\H a=none)->Heap.SameBut a s.heap h'->HOk X.f X.w H h':=λ{a h'} ha hs b ob e=>by
  obtain⟨_,_,hfree⟩:=ha;refine(I.C b ob e).qT (λc w' hc q=>(hs.2 c ?_).trans q) (λ_ q=>q) λ_ _ q=>q;rintro rfl;rcases hc with rfl|hc
  . rw[hfree]at e;cases e
  . rw[hfree]at hc;cases hc
 rcases hx with hk|hk
 . refine wpAny_storeName_local hk hn (λh' hn' hs=>?_) hcls
   obtain⟨oL,_,_,hoL,_⟩:=id hn;refine h _ ⟨I.B,I.R,I.F,⟨λb o e n hb hx=>?_,λb o e n hb hx=>?_,I.j.d,λb o e hx=>?_,I.j.l,I.j.g,I.j.j⟩,⟨_,hn',λj y v' e1 e2 e3=>?_⟩,λy c e=>?_,I.J,I.D,λp hp=>?_,tracked ⟨oL,hoL,I.J⟩ hs,by simpa using I.P⟩ ⟨_,hs,.inl rfl⟩
   . exact(hs.2 b (AG (Ap (Aj e) I.B.d))).trans (I.j.f b o e n hb hx)
   . obtain⟨sl,e1⟩:=I.j.i b o e n hb hx
     exact⟨sl,(hs.2 b (AG (Ap (Aj e) I.B.d))).trans e1⟩
   . obtain⟨o',e1⟩:=I.j.c b o e hx
     exact⟨o',(hs.2 b (AG (Ap (Aj e) I.B.d))).trans e1⟩
   . by_cases hj:j=i
     . subst hj
       rw[hi]at e1;cases e1;rw[Ar hiσ]at e2;cases e2;exact⟨u,r,.inl ⟨hk,by simp⟩⟩
     . rw[AO (Bv hj)]at e2
       obtain⟨u',r',q⟩:=hl j y v' e1 e2 e3;refine⟨u',r',?_⟩;rcases q with⟨k,e⟩|⟨k,c,e,z⟩
       . refine .inl ⟨k,?_⟩
         have:y≠x:=λe=>hj (nY hN e1 (e▸hi));simp[this,e]
       . exact .inr ⟨k,c,e,z.sameBut hs (cne y c e)⟩
   . obtain⟨w',z⟩:=I.G y c e
     exact⟨w',z.sameBut hs (cne y c e)⟩
   . obtain⟨e,n,ne,nf,d⟩:=I.O p hp
     exact⟨(hs.2 p.1 ne).trans e,n,ne,nf,d⟩
 . have hfn:X.q x=true:=by
    rcases hf with z|z
    . exact z
    . rw[z]at hk;cases hk
   obtain⟨c,hc⟩:=I.B.p x (.inl hk);obtain⟨w',z⟩:=I.G x c hc;refine wpAny_storeName_cell I.B.a hk hc z (λh' hc' hs=>?_);obtain⟨oc,hoc,hocd⟩:=id z;refine h {s with heap:=h'} ⟨I.B,I.R,I.F,⟨λb o e n hb hx=>?_,λb o e n hb hx=>?_,I.j.d,λb o e hx=>?_,I.j.l,I.j.g,I.j.j⟩,⟨m,hn.sameBut hs (Bv (cne x c hc)),λj y v' e1 e2 e3=>?_⟩,λy c' e=>?_,I.J,I.D,λp hp=>?_,tracked ⟨oc,hoc,I.D x c hc⟩ hs,by simpa using I.P⟩ ⟨c,hs,.inr hc⟩
   . exact(hs.2 b (AG (Ap (Aj e) (I.B.s x c hfn hc)))).trans (I.j.f b o e n hb hx)
   . obtain⟨sl,e1⟩:=I.j.i b o e n hb hx
     exact⟨sl,(hs.2 b (AG (Ap (Aj e) (I.B.s x c hfn hc)))).trans e1⟩
   . obtain⟨o',e1⟩:=I.j.c b o e hx
     exact⟨o',(hs.2 b (AG (Ap (Aj e) (I.B.s x c hfn hc)))).trans e1⟩
   . by_cases hj:j=i
     . subst hj
       rw[hi]at e1;cases e1;rw[Ar hiσ]at e2;cases e2;exact⟨u,r,.inr ⟨.inl hk,c,hc,hc'⟩⟩
     . rw[AO (Bv hj)]at e2
       obtain⟨u',r',q⟩:=hl j y v' e1 e2 e3;refine⟨u',r',?_⟩;rcases q with q|⟨k,c',e,z'⟩
       . exact .inl q
       . refine .inr ⟨k,c',e,z'.sameBut hs ?_⟩
         rintro rfl;exact hj (nY hN e1 (I.B.r _ _ _ e hc▸hi))
   . by_cases hcc:c'=c
     . subst hcc;exact⟨_,hc'⟩
     . obtain⟨w2,z2⟩:=I.G y c' e
       exact⟨w2,z2.sameBut hs hcc⟩
   . obtain⟨e,n,ne,nf,d⟩:=I.O p hp
     refine⟨(hs.2 p.1 ?_).trans e,n,ne,nf,d⟩;intro q;rw[q,hoc]at e;have q':oc=p.2:=AW e;exact d w' (by rw[<-q'];exact hocd)
theorem xf{Q:Unit->Shared->Prop}(I:Inv X pins σ H s)(hN:X.N.Nodup)(hi:X.N[i]?=some x)(hx:Loc X.a.scope x)(r:RelV v u)
 (h:∀s',Inv X pins (σ.set i (some v)) H s'->Q () s') (hf:X.q x=true\/X.a.scope.names.lookup x=some .local:=by first|exact .inl rfl|exact .inr rfl|assumption):wpAny M A (storeName X.a x u) Q E s:=
 pI I hN hi hx r (λs' I' _=>h s' I') hf
theorem Inv.VD(I:Inv X pins σ H s)(ho:s'.os=s.os)(u:Un (frs X.g) ch H H' s.heap s'.heap)(hok:HOk X.f X.w H' s'.heap)(hg:AllBare s'.gens)
 (hch:∀b∈ch,(b∈X.m\/X.l.heap.objs.size<=b)/\b≠X.a.locals/\(∀x c,X.a.cells.lookup x=some c->c≠b)/\∀p∈X.n++pins,p.1≠b):Inv X pins σ H' s':=by
 obtain⟨h',g',d',t',o'⟩:=s';have e:o'=s.os:=ho;subst e;exact I.call (g':=g') (t':=t') (d':=d') u hok hg hch
end
abbrev XK:=Value->Option Addr->Hp->Prop
abbrev St:=List (Option V)
abbrev VK:=V->Hp->Prop
abbrev TE:=St->Hp->VK->Prop
abbrev TT:=St->Hp->(Bool->Hp->Prop)->Prop
abbrev TA:=St->Hp->(List V->Hp->Prop)->Prop
structure Ends where
 a:St->Hp->Prop
 b:VK
 c:St->Hp->Prop:=λ_ _=>False
 d:St->Hp->Prop:=λ_ _=>False
abbrev TS:=Ends->St->Hp->Prop
def EP(X:Cx)(pins:List (Addr × Obj))(σ:St)(Q:VK)(u:Value)(s':Shared):Prop:=∃v H',Inv X pins σ H' s'/\RelV v u/\Q v H'
def TP(X:Cx)(pins:List (Addr × Obj))(σ:St)(Q:Bool->Hp->Prop)(b:Bool)(s':Shared):Prop:=∃H',Inv X pins σ H' s'/\Q b H'
def AP(X:Cx)(pins:List (Addr × Obj))(σ:St)(Q:List V->Hp->Prop)(us:List Value)(s':Shared):Prop:=∃vs H',Inv X pins σ H' s'/\Vals vs us/\Q vs H'
def SP(X:Cx)(pins:List (Addr × Obj))(D:Ends)(f:Flow)(s':Shared):Prop:=
 match f with
 |.next=>∃σ' H',Inv X pins σ' H' s'/\D.a σ' H'
 |.brk=>∃σ' H',Inv X pins σ' H' s'/\D.c σ' H'
 |.cont=>∃σ' H',Inv X pins σ' H' s'/\D.d σ' H'
 |.ret u=>∃v σ' H',Inv X pins σ' H' s'/\RelV v u/\D.b v H'
def PE(X:Cx)(e:Expr)(t:TE):Prop:=
 ∀(pins:List (Addr × Obj)) (s:Shared) (σ:St) (H:Hp) (Q:VK),Inv X pins σ H s->t σ H Q->wpAny (model X.f X.w) X.A (eval e X.a) (EP X pins σ Q) X.j s
def PT(X:Cx)(e:Expr)(t:TT):Prop:=
 ∀(pins:List (Addr × Obj)) (s:Shared) (σ:St) (H:Hp) (Q:Bool->Hp->Prop),Inv X pins σ H s->t σ H Q->wpAny (model X.f X.w) X.A (isTrue e X.a (eval e X.a)) (TP X pins σ Q) X.j s
def PW(X:Cx)(e:Expr)(t:TT):Prop:=
 ∀(whole:Sem Value) (pins:List (Addr × Obj)) (s:Shared) (σ:St) (H:Hp) (Q:Bool->Hp->Prop),Inv X pins σ H s->t σ H Q->wpAny (model X.f X.w) X.A (isTrue e X.a whole) (TP X pins σ Q) X.j s
theorem PW.pt(h:PW X e t):PT X e t:=h _
def PA(X:Cx)(es:List Expr)(t:TA):Prop:=
 ∀(pos:Pos) (pins:List (Addr × Obj)) (s:Shared) (σ:St) (H:Hp) (Q:List V->Hp->Prop),Inv X pins σ H s->t σ H Q->wpAny (model X.f X.w) X.A (spliced (backTo pos (AF es X.a))) (AP X pins σ Q) X.j s
def PS(X:Cx)(st:Stmt)(t:TS):Prop:=
 ∀(pins:List (Addr × Obj)) (s:Shared) (σ:St) (H:Hp) (D:Ends),Inv X pins σ H s->t D σ H->wpAny (model X.f X.w) X.A (exec st X.a) (SP X pins D) X.j s
def PSs(X:Cx)(st:List Stmt)(t:TS):Prop:=
 ∀(pins:List (Addr × Obj)) (s:Shared) (σ:St) (H:Hp) (D:Ends),Inv X pins σ H s->t D σ H->wpAny (model X.f X.w) X.A (execs st X.a) (SP X pins D) X.j s
theorem thn(h:wpAny M A t Q E s)(hQ:∀a s,Q a s->Q' a s):wpAny M A t Q' E s:=AX h hQ λ_ _ x=>x
section
variable {X:Cx}
theorem bin(ha:PE X a ta)(hb:PE X b tb){R:V->V->Hp->Prop}(I:Inv X pins σ H s)(h:ta σ H λx H1=>tb σ H1 λy H2=>R x y H2)
  {Q} {f:Value->Value->Sem α}
 (hf:∀v u s2 x y H2,Inv X pins σ H2 s2->RelV x v->RelV y u->R x y H2->wpAny (model X.f X.w) X.A (f v u) Q X.j s2) :
 wpAny (model X.f X.w) X.A (eval a X.a) (λv s₁=>wpAny (model X.f X.w) X.A (eval b X.a) (λu s₂=>wpAny (model X.f X.w) X.A (f v u) Q X.j s₂) X.j s₁) X.j s:=by
 refine thn (ha pins s σ H _ I h) λv s1 ⟨x,H1,I1,r1,q1⟩=>?_;refine thn (hb pins s1 σ H1 _ I1 q1) λu s2 ⟨y,H2,I2,r2,q2⟩=>?_;exact hf v u s2 x y H2 I2 r1 r2 q2
def vK(i:Nat):TE:=λσ H Q=>∃v,σ[i]?=some (some v)/\Q v H
def tC(v:V):TE:=λ_ H Q=>Q v H
theorem wK(hN:X.N[i]?=some x)(hv:Vis X.a.scope x)(hd:(x == ("__debug__":Str))=false:=by decide)(hcd:(x == ("__classdict__":Str))=false:=by decide):PE X (.Name x pos) (vK i):=by
 intro pins s σ H Q I h;obtain⟨v,e,h⟩:=h;obtain⟨m,hn,hl⟩:=I.M;obtain⟨u,r,l⟩:=hl i x v hN e hv;have fin:EP X pins σ Q u s:=⟨v,H,I,r,h⟩;rcases l with⟨hk,hm⟩|⟨hk,c,hc,hcell⟩
 . exact wpAny_Name (wpAny_loadName_local I.B.a hk hn hm fin) hd
 . rcases hk with hk|hk
   . exact wpAny_Name (wpAny_loadName_cell I.B.a hk hc hcell fin) hd
   . exact wpAny_Name (wpAny_loadName_free I.B.a hk hc hcell fin hcd) hd
theorem dh{i j pos}:PE X (.Constant (.int i) j pos) (tC (.d i)):=λ_ _ _ H _ I h=>wpAny_Constant_int ⟨.d i,H,I.tok _,⟨_,rfl⟩,h⟩
theorem dQ{b j pos}:PE X (.Constant (.bool b) j pos) (tC (.f b)):=λ_ _ _ H _ I h=>Constant_bool ⟨.f b,H,I,rfl,h⟩
theorem WD{j pos}:PE X (.Constant .none j pos) (tC .g):=λ_ _ _ H _ I h=>Constant_none ⟨.g,H,I,rfl,h⟩
theorem tx{x j pos}:PE X (.Constant (.str x) j pos) (tC (.e x)):=λ_ _ _ H _ I h=>C4 ⟨.e x,H,I.tok _,⟨_,rfl⟩,h⟩
def Gl(X:Cx)(x:Str):Prop:=X.a.kindOf x=some .globalImplicit
theorem xj(I:Inv X pins σ H s)(hg:Gl X x)(hm:X.d x=some u)(h:Q u s)
 (hd:(x == ("__debug__":Str))=false:=by decide):wpAny (model X.f X.w) X.A (eval (.Name x pos) X.a) Q E s:=
 Es I.B.a hg (Calls.loadGlobal_global (by rw[I.B.k];exact I.mod.c.keeps I.bk) hm h) hd
theorem uM(I:Inv X pins σ H s)(hg:Gl X x)(hm:X.d x=none)(hv:BW x=some u)(h:Q u s)
 (hn:x≠"__name__":=by decide) (hd:(x == ("__debug__":Str))=false:=by decide):wpAny (model X.f X.w) X.A (eval (.Name x pos) X.a) Q E s:=by
 obtain⟨mb,h1,h2⟩:=I.mod.d;exact Es I.B.a hg (Calls.loadGlobal_builtin (by rw[I.B.k];exact I.mod.c.keeps I.bk) hm (by rw[I.B.t];exact h1.keeps I.bk) ((h2 x hn).trans hv) h) hd
theorem ah(hg:Gl X x)(hm:X.d x=some u)(r:RelV v u)(hd:(x == ("__debug__":Str))=false:=by decide):PE X (.Name x pos) (tC v):=
 λ_ _ _ H _ I h=>xj I hg hm ⟨v,H,I,r,h⟩ hd
theorem ae(hg:Gl X x)(hm:X.d x=none)(hv:BW x=some u)(r:RelV v u)(hn:x≠"__name__":=by decide)(hd:(x == ("__debug__":Str))=false:=by decide):PE X (.Name x pos) (tC v):=
 λ_ _ _ H _ I h=>uM I hg hm hv ⟨v,H,I,r,h⟩ hn hd
variable {a b:Expr}{ta tb:TE}{pos:Pos}
def PC(X:Cx)(op:CmpOp)(a b:Expr)(t:TE):Prop:=
 ∀(pins:List (Addr × Obj)) (s:Shared) (σ:St) (H:Hp) (Q:VK),Inv X pins σ H s->t σ H Q ->
  wpAny (model X.f X.w) X.A (eval a X.a) (λv s₁=>wpAny (model X.f X.w) X.A (eval b X.a) (λu s₂=>wpAny (model X.f X.w) X.A (Bn op v u) (EP X pins σ Q) X.j s₂) X.j s₁) X.j s
theorem rm b(h:op≠.In)(h2:op≠.NotIn):CK op b=false:=by
 have e1:(op == CmpOp.In)=false:=by cases op<;>first|rfl|exact absurd rfl h
 have e2:(op == CmpOp.NotIn)=false:=by cases op<;>first|rfl|exact absurd rfl h2
 cases b<;>simp[CK,e1,e2]
def tB(t:TE):TT:=λσ H Q=>t σ H λx H1=>∃c,x=.f c/\Q c H1
theorem Tb(h:PC X op a b t)(h1:CK op b=false:=by first|exact rm _ (by decide) (by decide)|rfl):PT X (.Compare a [op] [b] pos) (tB t):=by intro pins s σ H Q I hw;refine wpAny_isTrue_Compare1 (thn (h pins s σ H _ I hw) λv s1 h1=>thn h1 λu s2 h2=>thn h2 λc s3 ⟨x,H1,I1,r1,q1⟩=>?_) h1;obtain⟨d,rfl,q⟩:=q1;cases r1;exact BD ⟨H1,I1,q⟩
theorem WQ(h:PE X e t)(he:∀whole,isTrue e X.a whole=(do let v <-whole;standAt e.pos;holding [v] (truthy v)):=by intro _;rfl):PT X e (tB t):=by intro pins s σ H Q I hw;refine isTrue_plain (thn (h pins s σ H _ I hw) λv s1 ⟨x,H1,I1,r1,q1⟩=>?_) (he _);obtain⟨d,rfl,q⟩:=q1;cases r1;exact BD ⟨H1,I1,q⟩
variable {tA tB':TT}{rest:List Expr}
def tOr(t u:TT):TT:=λσ H Q=>t σ H λc H1=>if c=true then Q true H1 else u σ H1 Q
def Ut(t:TT):TT:=λσ H Q=>t σ H λc H1=>Q (!c) H1
theorem WR(ha:PT X a tA):PW X (.BoolOp .Or [a] pos) tA:=by
 intro wh pins s σ H Q I h;refine isTrue_or (thn (ha pins s σ H Q I h) λc s1 e=>?_);cases c with
 |false=>exact isTrue_or_nil e
 |true=>exact e
theorem UT(ha:PT X a tA)(hb:PW X (.BoolOp .Or (b::rest) pos) tB'):PW X (.BoolOp .Or (a::b::rest) pos) (tOr tA tB'):=by
 intro wh pins s σ H Q I h;refine isTrue_or (thn (ha pins s σ H _ I h) λc s1 ⟨H1,I1,q1⟩=>?_);cases c with
 |true=>exact⟨H1,I1,q1⟩
 |false=>exact hb wh pins s1 σ H1 Q I1 q1
theorem lh(ha:PT X a tA):PT X (.UnaryOp .Not a pos) (Ut tA):=by intro pins s σ H Q I h;exact isTrue_not (ha pins s σ H (λc H1=>Q (!c) H1) I h)
def Uq(ta tb:TE):TE:=λσ H Q=>ta σ H λx H1=>∃c,x=.f c/\if c=true then tb σ H1 Q else Q (.f false) H1
def Uu(ta:TE):TE:=λσ H Q=>ta σ H λx H1=>∃c,x=.f c/\Q (.f (!c)) H1
theorem lX{op}(h:PE X a t):PE X (.BoolOp op [a] pos) t:=λpins s σ H Q I hw=>BoolOp_one (h pins s σ H Q I hw)
theorem X9(ha:PE X a ta)(hb:PE X (.BoolOp .And (b::rest) pos) tb):PE X (.BoolOp .And (a::b::rest) pos) (Uq ta tb):=by
 intro pins s σ H Q I h;refine BoolOp_and (thn (ha pins s σ H _ I h) λv s1 ⟨x,H1,I1,r1,q1⟩=>?_);obtain⟨c,rfl,q1⟩:=q1;cases r1;refine BD ?_;cases c with
 |true=>exact hb pins s1 σ H1 Q I1 q1
 |false=>exact⟨.f false,H1,I1,rfl,q1⟩
theorem WE(ha:PE X a ta):PE X (.UnaryOp .Not a pos) (Uu ta):=by intro pins s σ H Q I h;refine UnaryOp_ (thn (ha pins s σ H _ I h) λv s1 ⟨x,H1,I1,r1,q1⟩=>?_);obtain⟨c,rfl,q1⟩:=q1;cases r1;exact not_of (BD ⟨.f (!c),H1,I1,rfl,q1⟩)
def tIf(t:TT)(ta tb:TE):TE:=λσ H Q=>t σ H λc H1=>if c=true then ta σ H1 Q else tb σ H1 Q
theorem dg(hc:PT X c tA)(ha:PE X a ta)(hb:PE X b tb):PE X (.IfExp c a b pos) (tIf tA ta tb):=by
 intro pins s σ H Q I h;refine wpAny_IfExp (thn (hc pins s σ H _ I h) λd s1 ⟨H1,I1,q1⟩=>?_);cases d with
 |true=>exact ha pins s1 σ H1 Q I1 q1
 |false=>exact hb pins s1 σ H1 Q I1 q1
end
def SqL(K:Ah)(H:Hp)(a:Addr)(xs:List V):Prop:=
 Rd H a (.b xs) \/
  ∃(o:Obj) (its:Array Value) (n:Nat),K.lookup a=some o/\o.cls=.type "list"/\o.dict=none/\o.data=.seq its n/\its.size<=Aq/\Vals xs its.toList
def SqT(K:Ah)(H:Hp)(a:Addr)(xs:List V):Prop:=
 Rd H a (.c xs) \/
  ∃(o:Obj) (its:Array Value) (n:Nat),K.lookup a=some o/\o.cls=.type "tuple"/\o.data=.seq its n/\its.size<=Aq/\Vals xs its.toList
noncomputable def U8:Value->Option V
 |.none=>some .g
 |.bool b=>some (.f b)
 |.int i _=>some (.d i)
 |.str x _=>some (.e x)
 |.bytes b _=>some (.h b)
 |.float b _=>some (.j b)
 |.ref a=>some (.c a)
 |.type n=>some (.k n)
 |_=>none
theorem RelV.abs(r:RelV x u):U8 u=some x:=by
 cases x with
 |g=>cases r;rfl
 |f _=>cases r;rfl
 |d _=>obtain⟨t,rfl⟩:=r;rfl
 |e _=>obtain⟨t,rfl⟩:=r;rfl
 |h _=>obtain⟨t,rfl⟩:=r;rfl
 |j _=>obtain⟨t,rfl⟩:=r;rfl
 |c _=>cases r;rfl
 |k _=>cases r;rfl
theorem RelV.inj(r:RelV x u)(q:RelV y u):x=y:=AW (r.abs.symm.trans q.abs)
theorem Vals.inj:∀{xs ys} {us},Vals xs us->Vals ys us->xs=ys
 |_,_,_,.nil,.nil=>rfl
 |_,_,_,.cons r t,.cons r' t'=>by rw[r.inj r',Vals.inj t t']
section
variable {X:Cx}{pins:List (Addr × Obj)}{σ:St}{H:Hp}{s:Shared}{a:Addr}{xs ys:List V}
theorem SqL.of{K}(h:H a=some (.b xs)):SqL K H a xs:=.inl (.inl h)
theorem SqT.of{K}(h:H a=some (.c xs)):SqT K H a xs:=.inl (.inl h)
theorem Inv.list(I:Inv X pins σ H s)(h:SqL X.K H a xs):∃its:List Value,Vals xs its/\PlainL s.heap a its.toArray/\xs.length<=Aq:=by
 rcases h with h|⟨o,its,n,hk,hc,hd,hs,hz,r⟩
 . obtain⟨z,its,n,r,e⟩:=h.ok I.C
   exact⟨its,r,⟨_,n,e,rfl,rfl,rfl⟩,z⟩
 . refine⟨its.toList,r,⟨o,n,I.kIn a o hk,hc,hd,by simpa using hs⟩,?_⟩
   have e:=r.length;simp only[Cm]at e;omega
theorem Inv.tuple(I:Inv X pins σ H s)(h:SqT X.K H a xs):∃its:List Value,Vals xs its/\IsTup s.heap a its.toArray/\xs.length<=Aq:=by
 rcases h with h|⟨o,its,n,hk,hc,hs,hz,r⟩
 . obtain⟨z,its,r,p⟩:=h.ok I.C
   exact⟨its,r,p.tup,z⟩
 . refine⟨its.toList,r,⟨o,I.kIn a o hk,hc,n,by simpa using hs⟩,?_⟩
   have e:=r.length;simp only[Cm]at e;omega
theorem Inv.eV(I:Inv X pins σ H s)(h:SqL X.K H a xs)(h':SqL X.K H a ys):xs=ys:=by
 obtain⟨its,r,⟨o,n,e,_,_,d⟩,_⟩:=I.list h;obtain⟨its',r',⟨o',n',e',_,_,d'⟩,_⟩:=I.list h';rw[e]at e';cases e';rw[d]at d';injection d' with d1 _
 have:its=its':=by simpa using congrArg Array.toList d1
 subst this;exact r.inj r'
theorem Inv.hX(I:Inv X pins σ H s)(h:SqT X.K H a xs)(h':SqT X.K H a ys):xs=ys:=by
 obtain⟨its,r,⟨o,e,_,n,d⟩,_⟩:=I.tuple h;obtain⟨its',r',⟨o',e',_,n',d'⟩,_⟩:=I.tuple h';rw[e]at e';cases e';rw[d]at d';injection d' with d1 _
 have:its=its':=by simpa using congrArg Array.toList d1
 subst this;exact r.inj r'
end
noncomputable abbrev Cx.wA(X:Cx)(E:Value->Shared->Prop):Cx:={X with j:=E}
abbrev Cx.nox(X:Cx):Cx:=X.wA λ_ _=>False
theorem Cx.Ok.wA{X:Cx}(ok:X.Ok)E:(X.wA E).Ok:=
 ⟨ok.i,ok.a,ok.k,ok.t,ok.d,ok.r,ok.p,ok.s,ok.j,ok.g,ok.w,ok.G,ok.B,ok.q,ok.m,ok.l,ok.D,ok.u⟩
theorem Cx.Ok.yt{X:Cx}(ok:(X.wA E).Ok):X.Ok:=
 ⟨ok.i,ok.a,ok.k,ok.t,ok.d,ok.r,ok.p,ok.s,ok.j,ok.g,ok.w,ok.G,ok.B,ok.q,ok.m,ok.l,ok.D,ok.u⟩
section
variable {X:Cx}{pins:List (Addr × Obj)}{σ:St}{H:Hp}{s:Shared}{E:Value->Shared->Prop}
theorem Inv.wA(I:Inv X pins σ H s)E:Inv (X.wA E) pins σ H s:=⟨I.B.wA E,I.R,I.F,I.j,I.M,I.G,I.J,I.D,I.O,I.C,I.P⟩
theorem Inv.yt(I:Inv (X.wA E) pins σ H s):Inv X pins σ H s:=⟨I.B.yt,I.R,I.F,I.j,I.M,I.G,I.J,I.D,I.O,I.C,I.P⟩
theorem SP.yt(h:SP (X.wA E) pins D f s'):SP X pins D f s':=by
 cases f with
 |next=>obtain⟨σ',H',I,q⟩:=h;exact⟨σ',H',I.yt,q⟩
 |brk=>obtain⟨σ',H',I,q⟩:=h;exact⟨σ',H',I.yt,q⟩
 |cont=>obtain⟨σ',H',I,q⟩:=h;exact⟨σ',H',I.yt,q⟩
 |ret u=>obtain⟨v,σ',H',I,r,q⟩:=h;exact⟨v,σ',H',I.yt,r,q⟩
theorem PE.nox(h:PE X.nox e t):PE X e t:=λpins s σ H Q I hw=>
 AX (h pins s σ H Q (I.wA _) hw) (λ_ _ ⟨v,H',I',r,q⟩=>⟨v,H',I'.yt,r,q⟩) λ_ _ z=>Aw z
theorem PT.nox(h:PT X.nox e t):PT X e t:=λpins s σ H Q I hw=>
 AX (h pins s σ H Q (I.wA _) hw) (λ_ _ ⟨H',I',q⟩=>⟨H',I'.yt,q⟩) λ_ _ z=>Aw z
theorem PSs.nox{st}(h:PSs X.nox st t):PSs X st t:=λpins s σ H D I hw=>
 AX (h pins s σ H D (I.wA _) hw) (λ_ _ q=>q.yt) λ_ _ z=>Aw z
end
section
variable {X:Cx}{st:Stmt}{rest:List Stmt}{t u:TS}{e:Expr}{te:TE}{pos:Pos}
def Z8:TS:=λD σ H=>D.a σ H
def mQ(t u:TS):TS:=λD σ H=>t {D with a:=u D} σ H
theorem sk:PSs X [] Z8:=λ_ _ σ H _ I h=>DX ⟨σ,H,I,h⟩
theorem zx(h1:PS X st t)(h2:PSs X rest u):PSs X (st::rest) (mQ t u):=by
 intro pins s σ H D I h;refine DI (thn (h1 pins s σ H {D with a:=u D} I h) λf s1 q=>?_)
 cases f with
 |next=>
  obtain⟨σ',H',I',q⟩:=q;exact h2 pins s1 σ' H' D I' q
 |ret v=>exact q
 |brk=>exact q
 |cont=>exact q
theorem w8(h1:PS X st t):PSs X [st] t:=by
 intro pins s σ H D I h;refine DI (thn (h1 pins s σ H D I h) λf s1 q=>?_);cases f with
 |next=>exact DX q
 |ret v=>exact q
 |brk=>exact q
 |cont=>exact q
theorem Inv.quiet(I:Inv X pins σ H s):interactive X.a=false:=by simp[interactive,I.B.a]
def Ur(te:TE):TS:=λD σ H=>te σ H λ_ H1=>D.a σ H1
theorem sj(he:PE X e te)(hs:DP e none pos.line X.a=pure false:=by rfl):PS X (.Expr e pos) (Ur te):=by intro pins s σ H D I h;exact wpAny_Expr_any (thn (he pins s σ H _ I h) λv s1 ⟨x,H1,I1,r1,q1⟩=>⟨σ,H1,I1,q1⟩) I.quiet hs
def hV(te:TE):TS:=λD σ H=>te σ H D.b
theorem wL(he:PE X e te):PS X (.Return (some e) pos) (hV te):=by intro pins s σ H D I h;exact wpAny_Return_some (thn (he pins s σ H _ I h) λv s1 ⟨x,H1,I1,r1,q1⟩=>⟨x,σ,H1,I1,r1,q1⟩)
def Us(c:TT)(t u:TS):TS:=λD σ H=>c σ H λb H1=>if b=true then t D σ H1 else u D σ H1
theorem qz(hc:PT X c tc)(ha:PSs X a t)(hb:PSs X b u):PS X (.If c a b pos) (Us tc t u):=by
 intro pins s σ H D I h;refine wpAny_If (thn (hc pins s σ H _ I h) λd s1 ⟨H1,I1,q1⟩=>?_);cases d with
 |true=>exact ha pins s1 σ H1 D I1 q1
 |false=>exact hb pins s1 σ H1 D I1 q1
end
abbrev TG:=V->St->Hp->(St->Hp->Prop)->Prop
abbrev TGs:=List V->St->Hp->(St->Hp->Prop)->Prop
def PG(X:Cx)(target:Expr)(t:TG):Prop:=
 ∀(pins:List (Addr × Obj)) (s:Shared) (σ:St) (H:Hp) (v:V) (u:Value) (Q:St->Hp->Prop),Inv X pins σ H s->RelV v u->t v σ H Q ->
  wpAny (model X.f X.w) X.A (assign target X.a u) (λ_ s'=>∃σ' H',Inv X pins σ' H' s'/\Q σ' H') X.j s
def PGs(X:Cx)(ts:List Expr)(t:TGs):Prop:=
 ∀(pins:List (Addr × Obj)) (s:Shared) (σ:St) (H:Hp) (vs:List V) (us:List Value) (Q:St->Hp->Prop),Inv X pins σ H s->Vals vs us->t vs σ H Q ->
  wpAny (model X.f X.w) X.A (DE ((B9 ts X.a).map (·.2)) us) (λ_ s'=>∃σ' H',Inv X pins σ' H' s'/\Q σ' H') X.j s
abbrev YL:=V->V->V->Hp->(Hp->Prop)->Prop
def W4(X:Cx)(t:YL):Prop:=
 ∀(pins:List (Addr × Obj)) (s:Shared) (σ:St) (H:Hp) (o i v:V) (ov iv u:Value) (Q:Hp->Prop),Inv X pins σ H s->RelV o ov->RelV i iv->RelV v u->t o i v H Q ->
  wpAny (model X.f X.w) X.A (setItem ov iv u) (λ_ s'=>∃H',Inv X pins σ H' s'/\Q H') X.j s
section
variable {X:Cx}{pos:Pos}
def xG(i:Nat):TG:=λv σ H Q=>Q (σ.set i (some v)) H
theorem ai(hN:X.N.Nodup)(hi:X.N[i]?=some x)(hx:Loc X.a.scope x)(hf:X.q x=true\/X.a.scope.names.lookup x=some .local:=by first|exact .inl rfl|exact .inr rfl|assumption):PG X (.Name x pos) (xG i):=by intro pins s σ H v u Q I r h;exact wpAny_assign_Name (xf I hN hi hx r (λs' I'=>⟨_,H,I',h⟩) hf)
def VM:TGs:=λvs σ H Q=>vs=[]/\Q σ H
def Zj(t:TG)(u:TGs):TGs:=λvs σ H Q=>∃v r,vs=v::r/\t v σ H λσ' H'=>u r σ' H' Q
theorem aj:PGs X [] VM:=by intro pins s σ H vs us Q I r h;obtain⟨e,h⟩:=h;subst e;cases r;exact EI ⟨σ,H,I,h⟩
theorem dm{e:Expr}{es:List Expr}{t:TG}{u:TGs}(h1:PG X e t)(h2:PGs X es u)
 (hs:(B9 (e::es) X.a).map (·.2)=assign e X.a::(B9 es X.a).map (·.2):=by rfl):PGs X (e::es) (Zj t u):=by
 intro pins s σ H vs us Q I r h;obtain⟨v,vr,e1,h⟩:=h;subst e1;cases r with
 |cons r rr=>
  rw[hs];refine B2 (thn (h1 pins s σ H _ _ _ I r h) λ_ s1 ⟨σ1,H1,I1,q1⟩=>?_);exact h2 pins s1 σ1 H1 _ _ Q I1 rr q1
def Yo(K:Ah)(n:Nat)(t:TGs):TG:=λv σ H Q=>∃a xs,v=.c a/\SqT K H a xs/\xs.length=n/\t xs σ H Q
theorem vi(hc:X.i=true)(h:PGs X es t)
 (hn:(B9 es X.a).length=n:=by rfl) (hst:(B9 es X.a).findIdx? (·.1)=none:=by rfl):PG X (.Tuple es k pos) (Yo X.K n t):=by
 intro pins s σ H v u Q I r hw;obtain⟨a,xs,e1,hq,hl,hw⟩:=hw;subst e1;cases r;obtain⟨its,rv,ht,hz⟩:=I.tuple hq;refine assign_Tuple_tuple (I.B.j hc) ht (by simp[hn,<-hl,rv.length]) hst λh' hx=>?_
 have I1:Inv X pins σ H {s with heap:=h'}:=I.kept (t':=s.toks) λb o e=>hx b o (AG (Aj e)) e
 exact h pins _ σ H xs _ Q I1 (by simpa using rv) hw
def VN(to ti:TE)(t:YL):TG:=λv σ H Q=>to σ H λo H1=>ti σ H1 λi H2=>t o i v H2 λH3=>Q σ H3
theorem WJ(ho:PE X o to)(hi:PE X i ti)(hs:W4 X t)
 (ha:∀v,assign (.Subscript o i pos) X.a v=(do
  let ov <-holding [v] (eval o X.a);let iv <-holding [v,ov] (eval i X.a)
  standAt pos
  holding [v,ov,iv] (setItem ov iv v)
  release [v,ov,iv] []):=by intro _;rfl):PG X (.Subscript o i pos) (VN to ti t):=by
 intro pins s σ H v u Q I r h;rw[ha];refine xd (BN (thn (ho pins s σ H _ I h) λov s1 ⟨x,H1,I1,r1,q1⟩=>?_));refine xd (BN (thn (hi pins s1 σ H1 _ I1 q1) λiv s2 ⟨y,H2,I2,r2,q2⟩=>?_));refine xd (Be (xd (BN (thn (hs pins s2 σ H2 x y v ov iv u _ I2 r1 r2 r q2) λ_ s3 ⟨H3,I3,q3⟩=>?_))));exact wpAny_release ⟨σ,H3,I3,q3⟩
def v9(te:TE)(g:TG):TS:=λD σ H=>te σ H λx H1=>g x σ H1 D.a
theorem lg(he:PE X e te)(hg:PG X tg g)(hs:DF [tg] e pos.line X.a=pure false:=by rfl)(hw:BF [tg] e X.a=pure none:=by rfl)
 (h1:(B9 [tg] X.a).map (·.2)=[assign tg X.a]:=by rfl):PS X (.Assign [tg] e pos) (v9 te g):=by
 intro pins s σ H D I h;refine wpAny_Assign_stores (thn (he pins s σ H _ I h) λv s1 ⟨x,H1,I1,r1,q1⟩=>?_) hs hw;rw[h1];exact thn (hg pins s1 σ H1 x v _ I1 r1 q1) λ_ s2 q=>q
theorem wM(hN:X.N.Nodup)(hi:X.N[i]?=some x)(hx:Loc X.a.scope x)(he:PE X e te)(hs:DP e (some (.Name x pos')) pos.line X.a=pure false:=by rfl)(hf:X.q x=true\/X.a.scope.names.lookup x=some .local:=by first|exact .inl rfl|exact .inr rfl|assumption) :
 PS X (.Assign [.Name x pos'] e pos) (v9 te (xG i)):=by
 intro pins s σ H D I h;refine wpAny_Assign_Name (thn (he pins s σ H _ I h) λv s1 ⟨y,H1,I1,r1,q1⟩=>?_) hs;exact xf I1 hN hi hx r1 (λs2 I2=>⟨_,H1,I2,q1⟩) hf
def Uw(i j:Nat)(ta:TA):TS:=λD σ H=>ta σ H λvs H1=>∃v w,vs=[v,w]/\D.a ((σ.set i (some v)).set j (some w)) H1
theorem WO{kt k2 pt2}(hc:X.i=true)(hN:X.N.Nodup)(hi:X.N[i]?=some x)(hj:X.N[j]?=some y)(hij:i≠j)
 (hx:X.a.scope.names.lookup x=some .local) (hy:X.a.scope.names.lookup y=some .local) (ha:PA X [a,b] ta)
 (hw:BF [.Tuple [.Name x px,.Name y py] kt pt] (.Tuple [a,b] k2 pt2) X.a=pure (some [x,y]))
 (hs:DF [.Tuple [.Name x px,.Name y py] kt pt] (.Tuple [a,b] k2 pt2) pos.line X.a=pure false:=by rfl) :
 PS X (.Assign [.Tuple [.Name x px,.Name y py] kt pt] (.Tuple [a,b] k2 pt2) pos) (Uw i j ta):=by
 intro pins s σ H D I h;rw[exec_Assign_arm];refine xd (Be ?_);rw[hs];refine xd (Ai ?_);rw[if_neg (by decide)]
 refine xd (Tuple_ (thn (ha _ pins s σ H _ I h) λus s1 ⟨vs,H1,I1,r1,q1⟩=>?_));obtain⟨v,w,e1,q1⟩:=q1;subst e1;obtain⟨u1,u2,rfl,rv,rw'⟩:∃u1 u2,us=[u1,u2]/\RelV v u1/\RelV w u2:=by
  cases r1 with
  |cons p q=>
   cases q with
   |cons p' q'=>
    cases q';exact⟨_,_,rfl,p,p'⟩
 refine Bi ?_ (by show 2<=Aq;decide)
 have I2:Inv X pins σ H1 {s1 with heap:=s1.heap.push {cls:=.type "tuple",data:=.seq [u1,u2].toArray}}:=I1.kept (t':=s1.toks) λb o e=>nx _ e
 rw[hw];refine xd (Ai ?_);show wpAny (model X.f X.w) X.A (do rule "assign.swapped-stores";let items <-unpackItems (.ref s1.heap.objs.size) 2 none;DE [λv=>Cu X.a y v,λv=>Cu X.a x v] items.reverse;pure F1) _ _ _
 refine xd (DY (xd (unpackItems_tuple (items:=#[u1,u2]) (I.B.j hc) (IsTup.new s1.heap _) λh' hx'=>?_)));have I3:=I2.kept (h':=h') (t':=s1.toks) λb o e=>hx' b o (AG (Aj e)) e;show wpAny _ _ (DE [λv=>Cu X.a y v,λv=>Cu X.a x v] [u2,u1] >>= λ_=>pure F1) _ _ _;refine xd (B2 (Di (xf I3 hN hj (.inl hy) rw' (λs2 I4=>?_) (.inr hy))));refine B2 (Di (xf I4 hN hi (.inl hx) rv (λs3 I5=>EI (Ai ?_)) (.inr hx)));rw[Et _ _ (Bv hij)]at I5;exact⟨_,H1,I5,q1⟩
end
structure It where
 c:Nat->Hp->Prop
 b:Nat->Hp->V->Hp->Prop
 a:Nat->Hp->Prop
def v5(X:Cx)(pins:List (Addr × Obj))(H:Hp)(b:Addr):Prop:=
 H b=none/\b≠X.a.locals/\b ∉ X.fs/\(b∈X.m\/X.l.heap.objs.size<=b)/\(∀x c,X.a.cells.lookup x=some c->c≠b)/\∀p∈X.n++pins,p.1≠b
theorem Inv.bW(I:Inv X pins σ H s)(hb:s.heap.objs.size<=b)(hn:H' b=none):v5 X pins H' b:=by
 refine⟨hn,E2 (Ap I.lt hb),I.TU hb,.inr (Az I.sz hb),λx c e z=>?_,λp hp z=>?_⟩
 . obtain⟨v,q⟩:=I.G x c e
   exact absurd (Ap q.lt (by rw[z];exact hb)) (A8 _)
 . exact absurd (Ap (Aj (I.O p hp).1) (by rw[z];exact hb)) (A8 _)
structure Turn(P:Program)(w:World)(K:Ah)(tg:Expr)(J:It)(fp:List Addr)(it:Addr)(tn:Nat->Heap->Prop):Prop where
 g:it∈fp
 c:∀i h,tn i h->∀b∈fp,∃o,h.get? b=some o/\∀v,o.data≠.cell v
 a:∀i h h',tn i h->(∀b∈fp,∀o,h.get? b=some o->h'.get? b=some o)->tn i h'
 e:∀(X:Cx),X.f=P->X.w=w->X.K=K->X.i=true->∀(i:Nat) (pins:List (Addr × Obj)) (s:Shared) (σ:St) (H:Hp) (E:Value->Shared->Prop),Inv X pins σ H s->(∀b∈fp,v5 X pins H b)->tn i s.heap->J.c i H ->
  wpAny (model P w) X.A (pyNext (.ref it)) (λr s1=>∃u,r=some u /\
   wpAny (model P w) X.A (Bo tg (.ref it) u) (λ_ s2=>∃x H',Inv X pins σ H' s2/\RelV x u/\J.b i H x H'/\tn (i+1) s2.heap/\∀b∈fp,H' b=none) E s1) E s
 d:∀(X:Cx),X.f=P->X.w=w->X.K=K->X.i=true->∀(i:Nat) (pins:List (Addr × Obj)) (s:Shared) (σ:St) (H:Hp) (E:Value->Shared->Prop),Inv X pins σ H s->(∀b∈fp,v5 X pins H b)->tn i s.heap->J.a i H ->
  wpAny (model P w) X.A (pyNext (.ref it)) (λr s1=>r=none/\Inv X pins σ H s1) E s
 f:∀(A:Around) (i:Nat) (s:Shared) (Q:Value->Shared->Prop) (E:Value->Shared->Prop),tn i s.heap->Q (.ref it) s->wpAny (model P w) A (pyIter (.ref it)) Q E s
abbrev TI:=St->Hp->(It->Hp->Prop)->Prop
def PIE(X:Cx)(pins:List (Addr × Obj))(σ:St)(tg:Expr)(R:It->Hp->Prop)(itv:Value)(s2:Shared):Prop:=
 ∃(it:Addr) (fp:List Addr) (tn:Nat->Heap->Prop) (J:It) (H':Hp),itv=.ref it/\Inv X pins σ H' s2/\Turn X.f X.w X.K tg J fp it tn/\tn 0 s2.heap/\(∀b∈fp,v5 X pins H' b)/\R J H'
def PI(X:Cx)(tg iter:Expr)(wi:TI):Prop:=
 ∀(pins:List (Addr × Obj)) (s:Shared) (σ:St) (H:Hp) (R:It->Hp->Prop),Inv X pins σ H s->wi σ H R ->
  wpAny (model X.f X.w) X.A (eval iter X.a) (λv s1=>wpAny (model X.f X.w) X.A (pyIter v) (PIE X pins σ tg R) X.j s1) X.j s
theorem ky(ho:s.heap.get? it=some o)(hc:o.cls=.type n)(hd:o.data=.fields vs)
 (hn:["enumerate","zip","dict_itemiterator","dict_reverseitemiterator","odict_iterator","itertools.zip_longest","itertools.pairwise"].contains n=false) (hQ:Q () s):wpAny M A (Bo tg (.ref it) u) Q E s:=by
 unfold Bo;cases tg<;>first
  |exact Ai hQ
  |(cases u<;>first
   |exact Ai hQ
   |(refine xd (wpAny_load ho ?_)
     rw[hc,hd];show wpAny M A (if (["enumerate","zip","dict_itemiterator","dict_reverseitemiterator","odict_iterator","itertools.zip_longest","itertools.pairwise"].contains n&&vs[0]? == some (rawInt _))=true then _ else _) Q E s
     rw[if_neg (by intro h;rw[hn,Cc]at h;cases h)]
     exact Ai hQ))
noncomputable def Itl(K:Ah)(a:Addr):It:=
 ⟨λi H=>∃xs x,SqL K H a xs/\xs[i]?=some x,λi H x H'=>H'=H/\∀xs,SqL K H a xs->xs[i]?=some x,λi H=>∃xs,SqL K H a xs/\xs.length<=i⟩
noncomputable def Itt(K:Ah)(a:Addr):It:=
 ⟨λi H=>∃xs x,SqT K H a xs/\xs[i]?=some x,λi H x H'=>H'=H/\∀xs,SqT K H a xs->xs[i]?=some x,λi H=>∃xs,SqT K H a xs/\xs.length<=i⟩
noncomputable def Itr(lo:Int)(n:Nat):It:=⟨λi _=>i<n,λi H x H'=>H'=H/\x=.d (lo+i),λi _=>n<=i⟩
theorem gA{K}a it:Turn P w K tg (Itl K a) [it] it (λi h=>h.IsListIter it a i) where
 g:=by simp
 c:=λi h st b hb=>by
  have e:b=it:=by simpa using hb
  subst e;obtain⟨o,e,c,d⟩:=st;exact⟨o,e,λv z=>by rw[d]at z;cases z⟩
 a:=λi h h' st k=>st.at λo e=>k it (by simp) o e
 e:=by
  intro X hP hw hK hc i pins s σ H E I hf st hg;subst hP hw hK;obtain⟨xs,x,hq,hx⟩:=hg;obtain⟨its,rv,p,hz⟩:=I.list hq;obtain⟨u,hu,ru⟩:=rv.get hx;obtain⟨f0,f1,f2,f3,f4,f5⟩:=hf it (by simp)
  refine wpAny_pyNext_list_item st p.isList (x:=u) (by simpa using hu) λh' st' sb=>?_
  have I1:Inv X pins σ H {s with heap:=h'}:=I.turned (t':=s.toks) (λb o hb e=>(sb.2 b hb).trans e) f0 f1 f3 f4 f5
  obtain⟨o,e,c,d⟩:=id st';exact⟨u,rfl,ky (s:={s with heap:=h'}) e c d (by decide) ⟨x,H,I1,ru,⟨rfl,λys hy=>by rw[I.eV hy hq];exact hx⟩,st',λb hb=>(hf b hb).1⟩⟩
 d:=by
  intro X hP hw hK hc i pins s σ H E I hf st hg;subst hP hw hK;obtain⟨xs,hq,hx⟩:=hg;obtain⟨its,rv,p,hz⟩:=I.list hq;obtain⟨f0,f1,f2,f3,f4,f5⟩:=hf it (by simp)
  have hl:=rv.length;exact wpAny_pyNext_list_end (I.B.j hc) st p.isList (by simp;omega) λh' eb=>⟨rfl,I.turned (t':=s.toks) (λb o hb e=>eb b o hb e) f0 f1 f3 f4 f5⟩
 f:=λ_ _ _ _ _ st h=>wpAny_pyIter_listiter st h
theorem kH{K}a it:Turn P w K tg (Itt K a) [it] it (λi h=>h.IsTupleIter it a i) where
 g:=by simp
 c:=λi h st b hb=>by
  have e:b=it:=by simpa using hb
  subst e;obtain⟨o,e,c,d⟩:=st;exact⟨o,e,λv z=>by rw[d]at z;cases z⟩
 a:=λi h h' st k=>st.at λo e=>k it (by simp) o e
 e:=by
  intro X hP hw hK hc i pins s σ H E I hf st hg;subst hP hw hK;obtain⟨xs,x,hq,hx⟩:=hg;obtain⟨its,rv,p,hz⟩:=I.tuple hq;obtain⟨u,hu,ru⟩:=rv.get hx;obtain⟨f0,f1,f2,f3,f4,f5⟩:=hf it (by simp)
  refine wpAny_pyNext_tuple_item st (show s.heap.IsTuple a its.toArray from p) (x:=u) (by simpa using hu) λh' st' sb=>?_
  have I1:Inv X pins σ H {s with heap:=h'}:=I.turned (t':=s.toks) (λb o hb e=>(sb.2 b hb).trans e) f0 f1 f3 f4 f5
  obtain⟨o,e,c,d⟩:=id st';exact⟨u,rfl,ky (s:={s with heap:=h'}) e c d (by decide) ⟨x,H,I1,ru,⟨rfl,λys hy=>by rw[I.hX hy hq];exact hx⟩,st',λb hb=>(hf b hb).1⟩⟩
 d:=by
  intro X hP hw hK hc i pins s σ H E I hf st hg;subst hP hw hK;obtain⟨xs,hq,hx⟩:=hg;obtain⟨its,rv,p,hz⟩:=I.tuple hq;obtain⟨f0,f1,f2,f3,f4,f5⟩:=hf it (by simp)
  have hl:=rv.length;exact wpAny_pyNext_tuple_end (I.B.j hc) st (show s.heap.IsTuple a its.toArray from p) (by simp;omega) λh' eb=>⟨rfl,I.turned (t':=s.toks) (λb o hb e=>eb b o hb e) f0 f1 f3 f4 f5⟩
 f:=λ_ _ _ _ _ st h=>wpAny_pyIter_tupleiter st h
theorem kG{K}it lo n:Turn P w K tg (Itr lo n) [it] it (λi h=>Fy h it (lo+(i:Nat)*1) ((n:Int)-(i:Nat)) 1) where
 g:=by simp
 c:=λi h st b hb=>by
  have e:b=it:=by simpa using hb
  subst e;exact⟨_,st,λv z=>by have z':Data.fields _=Data.cell v:=z;cases z'⟩
 a:=λi h h' st k=>k it (by simp) _ st
 e:=by
  intro X hP hw hK hc i pins s σ H E I hf st hg;subst hP hw hK;obtain⟨f0,f1,f2,f3,f4,f5⟩:=hf it (by simp)
  have W:=Walks.range (prog:=X.f) (w:=X.w) (I.B.j hc) it lo 1 n;refine W.item i s _ _ hg st λv h' tk hv st' kk=>?_;obtain⟨t,rfl⟩:=hv;have I1:Inv X pins σ H {s with heap:=h',toks:=tk}:=I.turned (λb o hb e=>kk b o (by simpa using hb) e) f0 f1 f3 f4 f5
  refine⟨_,rfl,ky (s:={s with heap:=h',toks:=tk}) (n:="range_iterator") st' rfl rfl (by decide) ⟨.d (lo+i),H,I1,⟨t,?_⟩,⟨rfl,rfl⟩,st',λb hb=>(hf b hb).1⟩⟩
  rw[Int.mul_one]
 d:=by
  intro X hP hw hK hc i pins s σ H E I hf st hg;subst hP hw hK;obtain⟨f0,f1,f2,f3,f4,f5⟩:=hf it (by simp)
  exact wpAny_pyNext_range_end (I.B.j hc) st (by have:n<=i:=hg;omega) λh' eb=>⟨rfl,I.turned (t':=s.toks) (λb o hb e=>eb b o hb e) f0 f1 f3 f4 f5⟩
 f:=λ_ _ _ _ _ st h=>wpAny_pyIter_rangeiter st h
section
variable {X:Cx}{tg:Expr}
def Zl(K:Ah)(tl:TE):TI:=λσ H R=>tl σ H λx H1=>∃a,x=.c a/\(∃xs,SqL K H1 a xs)/\R (Itl K a) H1
def TL(K:Ah)(tl:TE):TI:=λσ H R=>tl σ H λx H1=>∃a,x=.c a/\(∃xs,SqT K H1 a xs)/\R (Itt K a) H1
theorem oP(hl:PE X l tl):PI X tg l (Zl X.K tl):=by
 intro pins s σ H R I h;refine thn (hl pins s σ H _ I h) λv s1 ⟨x,H1,I1,r1,q1⟩=>?_;obtain⟨a,e,⟨xs,hq⟩,q⟩:=q1;subst e;cases r1;obtain⟨its,rv,p,hz⟩:=I1.list hq;refine Dv p.isList ?_;refine⟨s1.heap.objs.size,[s1.heap.objs.size],_,_,H1,rfl,I1.kept (t':=s1.toks) λb o e=>nx _ e,gA a _,⟨_,AB _ rfl,rfl,rfl⟩,λb hb=>?_,q⟩;have e:b=s1.heap.objs.size:=by simpa using hb
 subst e;exact I1.bW (Ab _) (I1.C.fresh (Ab _))
theorem dn(hl:PE X l tl):PI X tg l (TL X.K tl):=by
 intro pins s σ H R I h;refine thn (hl pins s σ H _ I h) λv s1 ⟨x,H1,I1,r1,q1⟩=>?_;obtain⟨a,e,⟨xs,hq⟩,q⟩:=q1;subst e;cases r1;obtain⟨its,rv,p,hz⟩:=I1.tuple hq;refine Ej (show s1.heap.IsTuple a its.toArray from p) ?_;refine⟨s1.heap.objs.size,[s1.heap.objs.size],_,_,H1,rfl,I1.kept (t':=s1.toks) λb o e=>nx _ e,kH a _,⟨_,AB _ rfl,rfl,rfl⟩,λb hb=>?_,q⟩;have e:b=s1.heap.objs.size:=by simpa using hb
 subst e;exact I1.bW (Ab _) (I1.C.fresh (Ab _))
theorem mE{lo hi}(I:Inv X pins σ H s)(h1:-(2 ^ 62)<=lo)(h2:lo<2 ^ 62)(h3:-(2 ^ 62)<=hi)(h4:hi<2 ^ 62)
 (q:R (Itr lo (hi-lo).toNat) H):wpAny (model X.f X.w) X.A (pyIter (.ref s.heap.objs.size)) (PIE X pins σ tg R) E {s with heap:=s.heap.push {cls:=.type "range",data:=.fields #[.int lo t,.int hi u,.int 1 v]},toks:=tk}:=by
 refine wpAny_pyIter_range (IsRange.new ..) (small_one h1 h2 h3 h4) ?_;have I1:Inv X pins σ H {s with heap:=s.heap.push {cls:=.type "range",data:=.fields #[.int lo t,.int hi u,.int 1 v]},toks:=tk}:=I.kept λb o e=>nx _ e
 refine⟨(s.heap.push {cls:=.type "range",data:=.fields #[.int lo t,.int hi u,.int 1 v]}).objs.size,[(s.heap.push {cls:=.type "range",data:=.fields #[.int lo t,.int hi u,.int 1 v]}).objs.size],_,_,H,rfl,
  I1.kept (t':=tk) λb o e=>nx _ e,kG _ lo (hi-lo).toNat,?_,λb hb=>?_,q⟩
 . have e1:lo+((0:Nat):Int)*1=lo:=by simp
   have e2:(((hi-lo).toNat:Nat):Int)-((0:Nat):Int)=AH lo hi 1:=by rw[rangeSize_one];split<;>omega
   show Fy _ _ (lo+((0:Nat):Int)*1) ((((hi-lo).toNat:Nat):Int)-((0:Nat):Int)) 1;rw[e1,e2];exact AB _ rfl
 . have e:b=(s.heap.push {cls:=.type "range",data:=.fields #[.int lo t,.int hi u,.int 1 v]}).objs.size:=by simpa using hb
   subst e;exact I1.bW (Ab _) (I1.C.fresh (Ab _))
def VS(ta:TA):TI:=λσ H R=>ta σ H λvs H1=>∃j:Int,vs=[.d j]∧-(2 ^ 62)<=j/\j<2 ^ 62/\R (Itr 0 j.toNat) H1
def VT(ta:TA):TI:=λσ H R=>ta σ H λvs H1=>∃i j:Int,vs=[.d i,.d j]/\(-(2 ^ 62)<=i/\i<2 ^ 62∧-(2 ^ 62)<=j/\j<2 ^ 62)/\R (Itr i (j-i).toNat) H1
theorem ir(hg:Gl X "range")(hm:X.d "range"=none)(ha:PA X [a] ta)(hs:AF [a] X.a=[(false,eval a X.a)]:=by rfl):PI X tg (.Call (.Name "range" p) [a] [] pos) (VS ta):=by
 intro pins s σ H R I h;refine Call_ (uM I hg hm boot_range (B3 (thn (ha pos pins s σ H _ I h) λus s1 ⟨vs,H1,I1,r1,q1⟩=>?_) hs rfl));obtain⟨j,e,q1,q2,q⟩:=q1;subst e;cases r1 with
 |cons r rr=>
  cases rr;obtain⟨t,rfl⟩:=r;exact call_range_1 (mE I1 (by omega) (by omega) q1 q2 (by simpa using q))
theorem iu(hg:Gl X "range")(hm:X.d "range"=none)(ha:PA X [a,b] ta)(hs:AF [a,b] X.a=[(false,eval a X.a),(false,eval b X.a)]:=by rfl)(hs2:AF [b] X.a=[(false,eval b X.a)]:=by rfl) :
 PI X tg (.Call (.Name "range" p) [a,b] [] pos) (VT ta):=by
 intro pins s σ H R I h;refine Call_ (uM I hg hm boot_range (B3 (thn (ha pos pins s σ H _ I h) λus s1 ⟨vs,H1,I1,r1,q1⟩=>?_) (by rw[hs,hs2]) (by rw[hs2];rfl)))
 obtain⟨i,j,e,⟨q1,q2,q3,q4⟩,q⟩:=q1;subst e;cases r1 with
 |cons r rr=>
  cases rr with
  |cons r' rr=>
   cases rr;obtain⟨t,rfl⟩:=r;obtain⟨t',rfl⟩:=r';exact call_range_2 (mE I1 q1 q2 q3 q4 q)
def Tp(wi:TI)(g:TG)(tb:TS):TS:=λD σ H=>wi σ H λJ H1=>∃W:Nat->Nat->St->Hp->Prop,(∃m,W 0 m σ H1)/\∀i m σ H,W i m σ H ->
 (J.a i H/\D.a σ H)\/(J.c i H/\∃N:St->Hp->Prop,(∀σ' H',N σ' H'->∃m',m'<m/\W (i+1) m' σ' H')/\∀x H',J.b i H x H'->g x σ H' λσ2 H2=>tb {D with a:=N,d:=N,c:=D.a} σ2 H2)
noncomputable def qA(fp:List Addr)(h:Heap):List (Addr × Obj):=fp.filterMap λb=>(h.get? b).map λo=>(b,o)
theorem wy(hb:b∈fp)(e:h.get? b=some o):(b,o)∈qA fp h:=B4.mpr ⟨b,hb,by rw[e];rfl⟩
theorem iS(hp:p∈qA fp h):p.1∈fp/\h.get? p.1=some p.2:=by
 obtain⟨b,hb,e⟩:=B4.mp hp;cases q:h.get? b with
 |none=>rw[q]at e;cases e
 |some o=>
  rw[q]at e;have e':(b,o)=p:=AW e;subst e';exact⟨hb,q⟩
theorem Inv.pinned(I:Inv X pins σ H s)(hf:∀b∈fp,v5 X pins H b)(ho:∀b∈fp,∃o,s.heap.get? b=some o/\∀v,o.data≠.cell v):Inv X (pins++qA fp s.heap) σ H s:=
 I.oQ λp hp=>(A1.mp hp).elim (λz=>I.O p (A6 _ z)) λz=>by obtain⟨hb,e⟩:=iS z;obtain⟨f0,f1,f2,_⟩:=hf p.1 hb;obtain⟨o,e',d⟩:=ho p.1 hb;rw[e]at e';cases e';exact⟨e,f0,f1,f2,d⟩
theorem Inv.tM(I:Inv X (pins++pl) σ H s):Inv X pins σ H s:=I.oQ λp hp=>I.O p (A6 _ (Bl _ hp))
theorem WN(hp:PassesOwn (model X.f X.w) X.A X.a X.j)(hc:X.i=true)(hi:PI X tg iter wi)(hg:PG X tg g)(hb:PSs X body tb)
 (hs:∀x,AU iter X.a x=pure x:=by intro _;rfl):PS X (.For tg iter body [] pos) (Tp wi g tb):=by
 intro pins s σ H D I h;refine wpAny_For (thn (hi pins s σ H _ I h) λv s1 h1=>thn h1 λitv s2 h2=>?_) hs;obtain⟨it,fp,tn,J,H2,e,I2,T,st2,f2,W,⟨m0,w0⟩,turn⟩:=h2;subst e
 -- what stays true of the iterator's objects through the loop
 have stat:∀{H':Hp},(∀b∈fp,H' b=none)->∀b∈fp,v5 X pins H' b:=λhn b hb=>⟨hn b hb,(f2 b hb).2⟩;refine codeAny_forLoop_any (λn s'=>∃i σ' H',Inv X pins σ' H' s'/\tn i s'.heap/\(∀b∈fp,H' b=none)/\W i n σ' H') ?_ m0 ⟨0,σ,H2,I2,st2,λb hb=>(f2 b hb).1,w0⟩;rintro n s3 ⟨i,σ3,H3,I3,st3,fr3,w3⟩;rcases turn i n σ3 H3 w3 with⟨stop,qn⟩|⟨go,N,hN,step⟩
 . refine CW hp (thn (T.d X rfl rfl rfl hc i pins s3 σ3 H3 X.j I3 (stat fr3) st3 stop) λr s4 ⟨hr,I4⟩=>?_)
   subst hr;exact DX ⟨σ3,H3,I4,qn⟩
 . refine CW hp (thn (T.e X rfl rfl rfl hc i pins s3 σ3 H3 X.j I3 (stat fr3) st3 go) λr s4 ⟨u,hr,h4⟩=>?_)
   subst hr;refine CW hp (thn h4 λ_ s5 ⟨x,H5,I5,r5,y5,st5,fr5⟩=>?_);have I5':=I5.pinned (stat fr5) (T.c _ _ st5);refine CW hp (thn (hg _ s5 σ3 H5 x u _ I5' r5 (step x H5 y5)) λ_ s6 ⟨σ6,H6,I6,q6⟩=>?_);refine CW hp (thn (hb _ s6 σ6 H6 _ I6 q6) λf s7 q7=>?_);have again:∀{σ7:St} {H7:Hp},Inv X (pins++qA fp s5.heap) σ7 H7 s7->N σ7 H7->∃m,m<n/\∃i σ' H',Inv X pins σ' H' s7/\tn i s7.heap/\(∀b∈fp,H' b=none)/\W i m σ' H':=λ{σ7 H7} I7 n7=>by obtain⟨m',hm,w7⟩:=hN σ7 H7 n7;refine⟨m',hm,i+1,σ7,H7,I7.tM,T.a _ _ _ st5 λb hb o e=>(I7.O (b,o) (A6 _ (A6 _ (wy hb e)))).1,λb hb=>?_,w7⟩;obtain⟨o,e,d⟩:=T.c _ _ st5 b hb;exact(I7.O (b,o) (A6 _ (A6 _ (wy hb e)))).2.1
   cases f with
   |next=>obtain⟨σ7,H7,I7,n7⟩:=q7;exact again I7 n7
   |cont=>obtain⟨σ7,H7,I7,n7⟩:=q7;exact again I7 n7
   |brk=>obtain⟨σ7,H7,I7,q7⟩:=q7;exact⟨σ7,H7,I7.tM,q7⟩
   |ret v=>obtain⟨x7,σ7,H7,I7,r7,q7⟩:=q7;exact⟨x7,σ7,H7,I7.tM,r7,q7⟩
end
abbrev R2:=V->V->Hp->VK->Prop
def OpR(X:Cx)(f:Value->Value->Sem Value)(r:R2):Prop:=
 ∀(pins:List (Addr × Obj)) (s:Shared) (σ:St) (H:Hp) (x y:V) (v u:Value) (Q:VK),Inv X pins σ H s->RelV x v->RelV y u->r x y H Q ->
  wpAny (model X.f X.w) X.A (f v u) (EP X pins σ Q) X.j s
def UnR(X:Cx)(f:Value->Sem Value)(r:V->Hp->VK->Prop):Prop:=
 ∀(pins:List (Addr × Obj)) (s:Shared) (σ:St) (H:Hp) (x:V) (v:Value) (Q:VK),Inv X pins σ H s->RelV x v->r x H Q ->
  wpAny (model X.f X.w) X.A (f v) (EP X pins σ Q) X.j s
def yO(X:Cx)(f:Value)(r:List V->Hp->VK->Prop):Prop:=
 ∀(pins:List (Addr × Obj)) (s:Shared) (σ:St) (H:Hp) (xs:List V) (us:List Value) (Q:VK),Inv X pins σ H s->Vals xs us->r xs H Q ->
  wpAny (model X.f X.w) X.A (call f us) (EP X pins σ Q) X.j s
def U7(X:Cx)(r:V->Hp->(Bool->Hp->Prop)->Prop):Prop:=
 ∀(pins:List (Addr × Obj)) (s:Shared) (σ:St) (H:Hp) (x:V) (v:Value) (Q:Bool->Hp->Prop),Inv X pins σ H s->RelV x v->r x H Q ->
  wpAny (model X.f X.w) X.A (truthy v) (TP X pins σ Q) X.j s
def tOp(r:R2)(ta tb:TE):TE:=λσ H Q=>ta σ H λx H1=>tb σ H1 λy H2=>r x y H2 Q
def tUn(r:V->Hp->VK->Prop)(ta:TE):TE:=λσ H Q=>ta σ H λx H1=>r x H1 Q
def rI(C:Int->Int->Prop)(g:Int->Int->V):R2:=λx y H Q=>∃i j,x=.d i/\y=.d j/\C i j/\Q (g i j) H
def rI0(g:Int->Int->V):R2:=λx y H Q=>∃i j,x=.d i/\y=.d j/\Q (g i j) H
def rU(g:Int->V):V->Hp->VK->Prop:=λx H Q=>∃i,x=.d i/\Q (g i) H
section
variable {X:Cx}{a b c:Expr}{ta tb tc:TE}{pos:Pos}
theorem YQ(ha:PE X a ta)(hb:PE X b tb){R:V->V->Hp->Prop}(I:Inv X pins σ H s)
 (h:ta σ H λx H1=>tb σ H1 λy H2=>R x y H2)  {f:Value->Value->Sem Value}
 (hf:∀v u s2 x y H2,Inv X pins σ H2 s2->RelV x v->RelV y u->R x y H2->wpAny (model X.f X.w) X.A (f v u) Q X.j s2) :
 wpAny (model X.f X.w) X.A (eval a X.a) (λv s₁=>wpAny (model X.f X.w) X.A (eval b X.a) (λu s₂=>wpAny (model X.f X.w) X.A (f v u) Q X.j s₂) X.j s₁) X.j s:=by
 refine thn (ha pins s σ H _ I h) λv s1 ⟨x,H1,I1,r1,q1⟩=>?_;refine thn (hb pins s1 σ H1 _ I1 q1) λu s2 ⟨y,H2,I2,r2,q2⟩=>?_;exact hf v u s2 x y H2 I2 r1 r2 q2
theorem ny(ho:OpR X (Br op) r)(ha:PE X a ta)(hb:PE X b tb):PE X (.BinOp a op b pos) (tOp r ta tb):=by intro pins s σ H Q I h;exact wpAny_BinOp (YQ ha hb I h λv u s2 x y H2 I2 rx ry q=>ho pins s2 σ H2 x y v u Q I2 rx ry q)
theorem UN(ho:UnR X (unaryOp op) r)(ha:PE X a ta):PE X (.UnaryOp op a pos) (tUn r ta):=by intro pins s σ H Q I h;exact UnaryOp_ (thn (ha pins s σ H _ I h) λv s1 ⟨x,H1,I1,r1,q1⟩=>ho pins s1 σ H1 x v Q I1 r1 q1)
theorem opI{f:Value->Value->Sem Value}{C:Int->Int->Prop}{g:Int->Int->Int}
 (rule:∀i j t u (s:Shared) (Q:Value->Shared->Prop) E,C i j->Q (.int (g i j) s.toks) {s with toks:=s.toks+1}->wpAny (model X.f X.w) X.A (f (.int i t) (.int j u)) Q E s) :
 OpR X f (rI C λi j=>.d (g i j)):=by
 intro pins s σ H x y v u Q I rx ry h;obtain⟨i,j,rfl,rfl,hc,q⟩:=h;obtain⟨t,rfl⟩:=rx;obtain⟨t',rfl⟩:=ry;exact rule i j t t' s _ _ hc ⟨.d (g i j),H,I.tok _,⟨_,rfl⟩,q⟩
theorem Vv{f:Value->Value->Sem Value}{g:Int->Int->Int}
 (rule:∀i j t u (s:Shared) (Q:Value->Shared->Prop) E,Q (.int (g i j) s.toks) {s with toks:=s.toks+1}->wpAny (model X.f X.w) X.A (f (.int i t) (.int j u)) Q E s) :
 OpR X f (rI0 λi j=>.d (g i j)):=by
 intro pins s σ H x y v u Q I rx ry h;obtain⟨i,j,rfl,rfl,q⟩:=h;obtain⟨t,rfl⟩:=rx;obtain⟨t',rfl⟩:=ry;exact rule i j t t' s _ _ ⟨.d (g i j),H,I.tok _,⟨_,rfl⟩,q⟩
theorem aR{f:Value->Value->Sem Value}{g:Int->Int->Bool}
 (rule:∀i j t u s (Q:Value->Shared->Prop) E,Q (.bool (g i j)) s->wpAny (model X.f X.w) X.A (f (.int i t) (.int j u)) Q E s) :
 OpR X f (rI0 λi j=>.f (g i j)):=by
 intro pins s σ H x y v u Q I rx ry h;obtain⟨i,j,rfl,rfl,q⟩:=h;obtain⟨t,rfl⟩:=rx;obtain⟨t',rfl⟩:=ry;exact rule i j t t' s _ _ ⟨.f (g i j),H,I,rfl,q⟩
def Wy(i j:Int):Prop:=0<j/\j<1073741824
def U5(i j:Int):Prop:=0<=j/\j<=1000000/\i.natAbs<2 ^ 64
def YG(i j:Int):Prop:=(-(2 ^ 64)<i/\i<2 ^ 64)\/(-(2 ^ 64)<j/\j<2 ^ 64)
theorem YG.ok(h:YG i j):IntMulOk i j:=by
 rcases h with⟨h1,h2⟩|⟨h1,h2⟩
 . exact .of_left (intBits_le_64 h1 h2)
 . exact .of_right (intBits_le_64 h1 h2)
theorem Xl:OpR X (Br .Add) (rI0 λi j=>.d (i+j)):=Vv λ_ _ _ _ _ _ _ q=>add_int q
theorem Xq:OpR X (Br .Sub) (rI0 λi j=>.d (i-j)):=Vv λ_ _ _ _ _ _ _ q=>sub_int q
theorem Xn:OpR X (Br .Mult) (rI YG λi j=>.d (i*j)):=opI λ_ _ _ _ _ _ _ hc q=>mul_int q hc.ok
theorem aT:OpR X (Br .FloorDiv) (rI Wy λi j=>.d (i/j)):=opI λi j _ _ _ _ _ hc q=>by have h1:(0:Int)<j:=hc.1;have h2:j<1073741824:=hc.2;exact floordiv_int (by omega) (by rw[Eu i (by omega)];exact q) (.inl (Dx (by omega)))
theorem Xm:OpR X (Br .Mod) (rI (λ_ j=>0<j) λi j=>.d (i%j)):=opI λi j _ _ _ _ _ hc q=>by have h1:(0:Int)<j:=hc;exact mod_int' (by omega) (by rw[Ew i (by omega)];exact q)
theorem Xo:OpR X (Br .Pow) (rI U5 λi j=>.d (i ^ j.toNat)):=opI λ_ _ _ _ _ _ _ hc q=>pow_int_small hc.1 hc.2.1 hc.2.2 q
theorem unI{f:Value->Sem Value}{g:Int->Int}
 (rule:∀i t (s:Shared) (Q:Value->Shared->Prop) E,Q (.int (g i) s.toks) {s with toks:=s.toks+1}->wpAny (model X.f X.w) X.A (f (.int i t)) Q E s) :
 UnR X f (rU λi=>.d (g i)):=by
 intro pins s σ H x v Q I rx h;obtain⟨i,rfl,q⟩:=h;obtain⟨t,rfl⟩:=rx;exact rule i t s _ _ ⟨.d (g i),H,I.tok _,⟨_,rfl⟩,q⟩
theorem Wv:UnR X (unaryOp .USub) (rU λi=>.d (-i)):=unI λ_ _ _ _ _ q=>neg_int q
end
noncomputable def Uk:V->V->Bool
 |.g,.g=>true|.g,.d _=>true|.d _,.g=>true|.g,.f _=>true|.f _,.g=>true|.g,.e _=>true|.e _,.g=>true
 |.d _,.d _=>true|.f _,.f _=>true|.e _,.e _=>true|.h _,.h _=>true
 |.d _,.e _=>true|.e _,.d _=>true|.f _,.e _=>true|.e _,.f _=>true
 |_,_=>false
def rEq:R2:=λx y H Q=>Uk x y=true/\Q (.f (decide (x=y))) H
def rNe:R2:=λx y H Q=>Uk x y=true/\Q (.f (!decide (x=y))) H
theorem ka:decide (V.d i=V.d j)=(i == j):=by rw[Co];simp
theorem fB:decide (V.f i=V.f j)=(i == j):=by rw[Co];simp
theorem ke:decide (V.e i=V.e j)=(i == j):=by rw[Co];simp
theorem kZ:decide (V.h i=V.h j)=(i.toList == j.toList):=by rw[Co];cases i;cases j;simp
section
variable {X:Cx}{a b c:Expr}{ta tb tc:TE}{pos:Pos}
theorem zi(I:Inv X pins σ H s)(q:Q (.f k) H)(e:k=k'):EP X pins σ Q (.bool k') s:=by subst e;exact⟨.f k,H,I,rfl,q⟩
theorem Zs:OpR X (Bn .Eq) rEq:=by
 intro pins s σ H x y v u Q I rx ry h;obtain⟨hs,q⟩:=h;cases x with
 |g=>
  cases rx;cases y with
  |g=>cases ry;exact PySem.EqNone.eq_none_none (zi I q (by simp))
  |f j=>cases ry;exact PySem.EqNone.eq_none_bool (zi I q (by simp))
  |d j=>obtain⟨t',rfl⟩:=ry;exact PySem.EqNone.eq_none_int (zi I q (by simp))
  |e j=>obtain⟨t',rfl⟩:=ry;exact PySem.EqNone.eq_none_str (zi I q (by simp))
  |_=>exact absurd (show false=true from hs) Ae
 |f i=>
  cases rx;cases y with
  |g=>cases ry;exact PySem.EqNone.eq_bool_none (zi I q (by simp))
  |f j=>cases ry;exact eq_bool (zi I q fB)
  |e j=>obtain⟨t',rfl⟩:=ry;exact PySem.EqMixed.eq_bool_str (zi I q (by simp))
  |_=>exact absurd (show false=true from hs) Ae
 |d i=>
  obtain⟨t,rfl⟩:=rx;cases y with
  |g=>cases ry;exact PySem.EqNone.eq_int_none (zi I q (by simp))
  |d j=>obtain⟨t',rfl⟩:=ry;exact eq_int (zi I q ka)
  |e j=>obtain⟨t',rfl⟩:=ry;exact PySem.EqMixed.eq_int_str (zi I q (by simp))
  |_=>exact absurd (show false=true from hs) Ae
 |e i=>
  obtain⟨t,rfl⟩:=rx;cases y with
  |g=>cases ry;exact PySem.EqNone.eq_str_none (zi I q (by simp))
  |f j=>cases ry;exact PySem.EqMixed.eq_str_bool (zi I q (by simp))
  |d j=>obtain⟨t',rfl⟩:=ry;exact PySem.EqMixed.eq_str_int (zi I q (by simp))
  |e j=>obtain⟨t',rfl⟩:=ry;exact eq_str (zi I q ke)
  |_=>exact absurd (show false=true from hs) Ae
 |h i=>
  obtain⟨t,rfl⟩:=rx;cases y with
  |h j=>obtain⟨t',rfl⟩:=ry;exact PySem.W.eq_bytes (zi I q kZ)
  |_=>exact absurd (show false=true from hs) Ae
 |_=>cases y<;>exact absurd (show false=true from hs) Ae
theorem Zt:OpR X (Bn .NotEq) rNe:=by
 intro pins s σ H x y v u Q I rx ry h;obtain⟨hs,q⟩:=h;cases x with
 |g=>
  cases rx;cases y with
  |g=>cases ry;exact PySem.EqNone.ne_none_none (zi I q (by simp))
  |f j=>cases ry;exact PySem.EqNone.ne_none_bool (zi I q (by simp))
  |d j=>obtain⟨t',rfl⟩:=ry;exact PySem.EqNone.ne_none_int (zi I q (by simp))
  |e j=>obtain⟨t',rfl⟩:=ry;exact PySem.EqNone.ne_none_str (zi I q (by simp))
  |_=>exact absurd (show false=true from hs) Ae
 |f i=>
  cases rx;cases y with
  |g=>cases ry;exact PySem.EqNone.ne_bool_none (zi I q (by simp))
  |f j=>cases ry;exact ne_bool (zi I q (congrArg not fB))
  |e j=>obtain⟨t',rfl⟩:=ry;exact PySem.EqMixed.ne_bool_str (zi I q (by simp))
  |_=>exact absurd (show false=true from hs) Ae
 |d i=>
  obtain⟨t,rfl⟩:=rx;cases y with
  |g=>cases ry;exact PySem.EqNone.ne_int_none (zi I q (by simp))
  |d j=>obtain⟨t',rfl⟩:=ry;exact ne_int (zi I q (congrArg not ka))
  |e j=>obtain⟨t',rfl⟩:=ry;exact PySem.EqMixed.ne_int_str (zi I q (by simp))
  |_=>exact absurd (show false=true from hs) Ae
 |e i=>
  obtain⟨t,rfl⟩:=rx;cases y with
  |g=>cases ry;exact PySem.EqNone.ne_str_none (zi I q (by simp))
  |f j=>cases ry;exact PySem.EqMixed.ne_str_bool (zi I q (by simp))
  |d j=>obtain⟨t',rfl⟩:=ry;exact PySem.EqMixed.ne_str_int (zi I q (by simp))
  |e j=>obtain⟨t',rfl⟩:=ry;exact ne_str (zi I q (congrArg not ke))
  |_=>exact absurd (show false=true from hs) Ae
 |h i=>
  obtain⟨t,rfl⟩:=rx;cases y with
  |h j=>obtain⟨t',rfl⟩:=ry;exact PySem.W.ne_bytes (zi I q (congrArg not kZ))
  |_=>exact absurd (show false=true from hs) Ae
 |_=>cases y<;>exact absurd (show false=true from hs) Ae
theorem Vz:OpR X (Bn .Lt) (rI0 λi j=>.f (decide (i<j))):=aR λ_ _ _ _ _ _ _ q=>lt_int q
theorem Vy:OpR X (Bn .LtE) (rI0 λi j=>.f (decide (i<=j))):=aR λ_ _ _ _ _ _ _ q=>le_int q
theorem Vx:OpR X (Bn .Gt) (rI0 λi j=>.f (decide (j<i))):=aR λ_ _ _ _ _ _ _ q=>gt_int q
theorem Vw:OpR X (Bn .GtE) (rI0 λi j=>.f (decide (j<=i))):=aR λ_ _ _ _ _ _ _ q=>ge_int q
theorem oO(ho:OpR X (Bn op) r)(ha:PE X a ta)(hb:PE X b tb)(hm:CK op b=false):PE X (.Compare a [op] [b] pos) (tOp r ta tb):=by intro pins s σ H Q I h;exact wpAny_Compare1 (YQ ha hb I h λv u s2 x y H2 I2 rx ry q=>ho pins s2 σ H2 x y v u Q I2 rx ry q) hm
def jZ(t:TE):TT:=λσ H Q=>t σ H λx H'=>∃k,x=.f k/\Q k H'
theorem sq(ho:OpR X (Bn op) r)(ha:PE X a ta)(hb:PE X b tb)(hm:CK op b=false):PT X (.Compare a [op] [b] pos) (jZ (tOp r ta tb)):=by
 intro pins s σ H Q I h;refine wpAny_isTrue_Compare1 (thn (ha pins s σ H _ I h) λv s1 ⟨x,H1,I1,r1,q1⟩=>thn (hb pins s1 σ H1 _ I1 q1) λu s2 ⟨y,H2,I2,r2,q2⟩=>
  thn (ho pins s2 σ H2 x y v u _ I2 r1 r2 q2) λc s3 ⟨z,H3,I3,r3,k,e,q3⟩=>?_) hm
 subst e;cases r3;exact BD ⟨H3,I3,q3⟩
def cX(r r':R2)(ta tb tc:TE):TE:=λσ H Q=>ta σ H λx H1=>tb σ H1 λy H2=>r x y H2 λz H3=>∃k,z=.f k /\
 (if k=true then tc σ H3 λw' H4=>r' y w' H4 Q else Q (.f false) H3)
theorem dX(ho:OpR X (Bn op) r)(ho':OpR X (Bn op') r')(ha:PE X a ta)(hb:PE X b tb)(hc:PE X c tc)
 (hm:F2 [op,op'] [b,c]=false:=by with_unfolding_all rfl):PE X (.Compare a [op,op'] [b,c] pos) (cX r r' ta tb tc):=by
 intro pins s σ H Q I h;refine Compare_chain (thn (ha pins s σ H _ I h) λv s1 ⟨x,H1,I1,r1,q1⟩=>chain_link (thn (hb pins s1 σ H1 _ I1 q1) λu s2 ⟨y,H2,I2,r2,q2⟩=>
  thn (ho pins s2 σ H2 x y v u _ I2 r1 r2 q2) λd s3 ⟨z,H3,I3,r3,k,e,q3⟩=>?_)) hm
 subst e;cases r3;refine BD ?_;cases k with
 |false=>exact ite_ff ⟨.f false,H3,I3,rfl,q3⟩
 |true=>exact ite_tt (chain_last (thn (hc pins s3 σ H3 _ I3 q3) λw' s4 ⟨z',H4,I4,r4,q4⟩=>ho' pins s4 σ H4 y z' u w' Q I4 r2 r4 q4))
theorem dz(ho:OpR X (Bn op) r)(ho':OpR X (Bn op') r')(ha:PE X a ta)(hb:PE X b tb)(hc:PE X c tc)
 (hm:F2 [op,op'] [b,c]=false:=by with_unfolding_all rfl):PT X (.Compare a [op,op'] [b,c] pos) (jZ (cX r r' ta tb tc)):=by
 intro pins s σ H Q I h;refine isTrue_chain (thn (ha pins s σ H _ I h) λv s1 ⟨x,H1,I1,r1,q1⟩=>test_link (thn (hb pins s1 σ H1 _ I1 q1) λu s2 ⟨y,H2,I2,r2,q2⟩=>
  thn (ho pins s2 σ H2 x y v u _ I2 r1 r2 q2) λd s3 ⟨z,H3,I3,r3,k,e,q3⟩=>?_)) hm
 subst e;cases r3;refine BD ?_;cases k with
 |false=>
  obtain⟨k',e',q'⟩:=q3;cases e';exact ite_ff ⟨H3,I3,q'⟩
 |true=>
  refine ite_tt (test_last (thn (hc pins s3 σ H3 _ I3 q3) λw' s4 ⟨z',H4,I4,r4,q4⟩=>thn (ho' pins s4 σ H4 y z' u w' _ I4 r2 r4 q4) λd' s5 ⟨z2,H5,I5,r5,k2,e2,q5⟩=>?_));subst e2;cases r5;exact BD ⟨H5,I5,q5⟩
def bC(K:Ah)(x:V)(H:Hp)(k:Bool):Prop:=
 match x with
 |.g=>k=false
 |.f b=>k=b
 |.d i=>k=(i != 0)
 |.e y=>y.length<=Aq/\k=((y.length:Int) != 0)
 |.h y=>y.size<=Aq/\k=((y.size:Int) != 0)
 |.c p=>(∃xs,SqL K H p xs/\k=!xs.isEmpty)\/(∃xs,SqT K H p xs/\k=!xs.isEmpty)\/∃kvs,H p=some (.i kvs)/\k=!kvs.isEmpty
 |_=>False
theorem m8(r:KV kvs vs):(!vs.isEmpty)=!kvs.isEmpty:=by
 cases r<;>rfl
theorem rX(r:Vals xs its):(!its.toArray.isEmpty)=!xs.isEmpty:=by
 cases r<;>simp
theorem uP:(Aq:Nat)<2 ^ 63:=by rw[AS];decide
theorem cb:U7 X (λx H Q=>∃k,bC X.K x H k/\Q k H):=by
 intro pins s σ H x v Q I rx h;obtain⟨k,e,q⟩:=h;have hl:=uP;have hs:Aq=16777216:=AS;cases x with
 |g=>
  cases rx;have e':k=false:=e;subst e';exact truthy_none ⟨H,I,q⟩
 |f b=>
  cases rx;have e':k=b:=e;subst e';exact BD ⟨H,I,q⟩
 |d i=>
  obtain⟨t,rfl⟩:=rx;have e':k=(i != 0):=e;subst e';exact PySem.P.truthy_int ⟨H,I,q⟩
 |e y=>
  obtain⟨t,rfl⟩:=rx;obtain⟨hy,e'⟩:y.length<=Aq/\k=((y.length:Int) != 0):=e;subst e';exact PySem.P.truthy_str (by omega) ⟨H,I.tok _,q⟩
 |h y=>
  obtain⟨t,rfl⟩:=rx;obtain⟨hy,e'⟩:y.size<=Aq/\k=((y.size:Int) != 0):=e;subst e';exact PySem.W.truthy_bytes (by omega) ⟨H,I.tok _,q⟩
 |c p=>
  cases rx;have e':(∃xs,SqL X.K H p xs/\k=!xs.isEmpty)\/(∃xs,SqT X.K H p xs/\k=!xs.isEmpty)\/∃kvs,H p=some (.i kvs)/\k=!kvs.isEmpty:=e;rcases e' with⟨xs,hx,e'⟩|⟨xs,hx,e'⟩|⟨kvs,hx,e'⟩
  . subst e'
    obtain⟨its,r,pl,hz⟩:=I.list hx;have hlen:=r.length;exact wpAny_truthy_list pl.isList (by simp only[Ag];omega) ⟨H,I.tok _,by rw[rX r];exact q⟩
  . subst e'
    obtain⟨its,r,pl,hz⟩:=I.tuple hx;have hlen:=r.length;exact truthy_tuple pl (by simp only[Ag];omega) ⟨H,I.tok _,by rw[rX r];exact q⟩
  . subst e'
    obtain⟨hz,hS,vs,r,m⟩:kvs.length<=Aq/\(p == BM)=false/\∃vs,KV kvs vs/\s.heap.DictOf (oB X.f X.w) p vs:=I.C p _ hx;have hlen:kvs.length=vs.length:=FX r;exact wpAny_truthy_dict hS m (by omega) ⟨H,I.tok _,by rw[m8 r];exact q⟩
 |_=>exact(show False from e).elim
theorem mC(ha:PE X a ta)(he:∀whole,isTrue a X.a whole=(do let v <-whole;standAt a.pos;holding [v] (truthy v))) :
 PT X a (λσ H Q=>ta σ H λx H'=>∃k,bC X.K x H' k/\Q k H'):=by
 intro pins s σ H Q I h;exact isTrue_plain (thn (ha pins s σ H _ I h) λv s1 ⟨x,H1,I1,r1,q1⟩=>cb pins s1 σ H1 x v Q I1 r1 q1) (he _)
theorem rq:OpR X (Br .Add) (λx y H Q=>∃i j,x=.e i/\y=.e j/\i.length+j.length<=Aq/\Q (.e (i++j)) H):=by intro pins s σ H x y v u Q I rx ry h;obtain⟨i,j,rfl,rfl,hz,q⟩:=h;obtain⟨t,rfl⟩:=rx;obtain⟨t',rfl⟩:=ry;exact add_str (λt' tk=>⟨.e (i++j),H,I.tok _,⟨_,rfl⟩,q⟩) hz
theorem vals1(r:Vals [x] us):∃u,us=[u]/\RelV x u:=by
 cases r with
 |cons r1 r2=>cases r2;exact⟨_,rfl,r1⟩
theorem vals2(r:Vals [x,y] us):∃u w',us=[u,w']/\RelV x u/\RelV y w':=by
 cases r with
 |cons r1 r2=>
  cases r2 with
  |cons r3 r4=>cases r4;exact⟨_,_,rfl,r1,r3⟩
theorem jj(hc:X.i=true):yO X (.builtin "max") (λxs H Q=>∃i j,xs=[.d i,.d j]/\Q (.d (if j > i then j else i)) H):=by
 intro pins s σ H xs us Q I r h;obtain⟨i,j,rfl,q⟩:=h;obtain⟨u,w',rfl,⟨t,rfl⟩,⟨t',rfl⟩⟩:=vals2 r;refine max_two_ints (I.B.j hc) λh' tk k=>⟨_,H,I.kept k,?_,q⟩;by_cases hj:j > i
 . rw[if_pos hj,if_pos hj];exact⟨_,rfl⟩
 . rw[if_neg hj,if_neg hj];exact⟨_,rfl⟩
theorem jn(hc:X.i=true):yO X (.builtin "min") (λxs H Q=>∃i j,xs=[.d i,.d j]/\Q (.d (if j<i then j else i)) H):=by
 intro pins s σ H xs us Q I r h;obtain⟨i,j,rfl,q⟩:=h;obtain⟨u,w',rfl,⟨t,rfl⟩,⟨t',rfl⟩⟩:=vals2 r;refine min_two_ints (I.B.j hc) λh' tk k=>⟨_,H,I.kept k,?_,q⟩;by_cases hj:j<i
 . rw[if_pos hj,if_pos hj];exact⟨_,rfl⟩
 . rw[if_neg hj,if_neg hj];exact⟨_,rfl⟩
theorem qd:yO X (.type "int") (λxs H Q=>(∃i,xs=[.d i]/\Q (.d i) H)\/∃k,xs=[.f k]/\Q (.d (if k then 1 else 0)) H):=by
 intro pins s σ H xs us Q I r h;rcases h with⟨i,rfl,q⟩|⟨k,rfl,q⟩
 . obtain⟨u,rfl,t,rfl⟩:=vals1 r
   exact call_int_int ⟨.d i,H,I,⟨_,rfl⟩,q⟩
 . obtain⟨u,rfl,r1⟩:=vals1 r
   cases r1;exact call_int_bool ⟨.d (if k then 1 else 0),H,I.tok _,⟨_,rfl⟩,q⟩
theorem pW:yO X (.type "str") (λxs H Q=>∃i,xs=[.d i]/\i.natAbs.log2<1920/\Q (.e (E3 i)) H):=by intro pins s σ H xs us Q I r h;obtain⟨i,rfl,hz,q⟩:=h;obtain⟨u,rfl,t,rfl⟩:=vals1 r;exact PySem.P.str_of_int hz ⟨.e _,H,I.tok _,⟨_,rfl⟩,q⟩
theorem vQ:yO X (.builtin "divmod") (λxs H Q=>∃i j,xs=[.d i,.d j]/\Wy i j/\∀p,H p=none->Q (.c p) (upd H p (.c [.d (i/j),.d (i%j)]))):=by
 intro pins s σ H xs us Q I r h;obtain⟨i,j,rfl,⟨h1,h2⟩,q⟩:=h;obtain⟨u,w',rfl,⟨t,rfl⟩,⟨t',rfl⟩⟩:=vals2 r;refine divmod_int (by omega) ?_ (.inl (Dx (by omega)))
 rw[Eu i (by omega),Ew i (by omega)]
 have hn:H s.heap.objs.size=none:=I.C.fresh (Ab _);refine⟨.c s.heap.objs.size,_,?_,rfl,q _ hn⟩;refine I.laid (λb o e=>nx _ e) (Ab _) ⟨by simp only[AM,Cp];rw[AS];decide,[.int (i/j) s.toks,.int (i%j) (s.toks+1)],.cons ⟨_,rfl⟩ (.cons ⟨_,rfl⟩ .nil),?_⟩
 exact⟨_,AB s.heap rfl,rfl,0,rfl,rfl⟩
end
structure YJ(h:Heap)(x dx C:Addr)(mA:Str->Option Value):Prop where
 a:h.get? x=some (Ft C dx)
 ns:h.Ns1 dx mA
 ne:dx≠x
theorem iN{h:Heap}(n:h.Ns1 dx mA):∃od,h.get? dx=some od/\∀name,FC name od=some (mA name):=by
 obtain⟨o,es,ep,ho,hd,hk,_,hm⟩:=n;refine⟨o,ho,λname=>?_⟩;have e:=hm name;unfold nsFind findBy at e;rw[<-Array.find?_toList]at e;unfold FC;rw[hd];dsimp only;split
 . rename_i y q
   rw[q]at e;exact congrArg some e
 . rename_i q
   rw[q]at e;have a:es.toList.any (·.refKey)=false:=by rw[List.any_eq_false];intro y hy;obtain⟨z,t,hkey⟩:=hk y (Array.mem_toList_iff.mp hy);simp[Fo.refKey,hkey]
   have a':¬es.toList.any (·.refKey)=true:=by rw[a];exact Ae
   rw[if_neg a'];exact congrArg some e
theorem YJ.look(I:YJ h x dx C mA):∃od,PySem.W.InstAt h x (Ft C dx) C (some od)/\∀name,FC name od=some (mA name):=
 let ⟨od,ho,hl⟩:=iN I.ns
 ⟨od,⟨I.a,rfl,rfl,ho⟩,hl⟩
section
variable {P:Program}{w:World}{H H':Hp}{h h':Heap}{a C dx:Addr}{fs fs':List (Str × V)}
theorem ba(hok:HOk P w H h)(e:H a=some (.k C dx fs)):∃mA,YJ h a dx C mA/\(∀f,YK (fs.lookup f) (mA f))/\PySem.Within mA (fs.map (·.1))/\fs.length<=1000/\H dx=some (.e a):=by obtain⟨d,z,ne,ob,mA,n,r,q⟩:=(show yP P w H h a (.k C dx fs) from hok a _ e);exact⟨mA,⟨ob,n,ne⟩,r,q,z,d⟩
end
structure Cls(K:Ah)(C:Addr):Prop where
 pg:PySem.W.plainGet K C DQ=true
 hd:PySem.W.hasDictIn K C=true
 po:PySem.W.plainOver K C=true
 sa:PySem.W.findIn K (.ref C) "__setattr__"=some (some (.builtin "object.__setattr__"))
theorem Cls.get{K}(c:Cls K C)f:PySem.W.plainGet K C f=true:=c.pg
section
variable {X:Cx}{pins:List (Addr × Obj)}{σ:St}{H:Hp}{s:Shared}{A:Around}{E:Value->Shared->Prop}{Q:Value->Shared->Prop}{c:Value}{b:Bool}
inductive uZ(K:Ah)(H:Hp):V->Value->Prop where
 |d:uZ K H .g (.type "NoneType")
 |bl (x:Bool):uZ K H (.f x) (.type "bool")
 |c (i:Int):uZ K H (.d i) (.type "int")
 |f (x:Str):uZ K H (.e x) (.type "str")
 |h (x:UInt64):uZ K H (.j x) (.type "float")
 |b {a:Addr} {xs:List V} (e:H a=some (.b xs)):uZ K H (.c a) (.type "list")
 |j {a:Addr} {o:Obj} {xs:List V} (e:H a=some (.d o (.b xs))):uZ K H (.c a) (.type "list")
 |g {a:Addr} {xs:List V} (e:H a=some (.c xs)):uZ K H (.c a) (.type "tuple")
 |dK {a:Addr} {kvs:List (Key × V)} (e:H a=some (.i kvs)):uZ K H (.c a) (.type "dict")
 |dT {a:Addr} {kvs:List (List Key × V)} (e:H a=some (.j kvs)):uZ K H (.c a) (.type "dict")
 |k {a C dx:Addr} {fs:List (Str × V)} (e:H a=some (.k C dx fs)) (cl:Cls K C) (ha:PySem.W.findIn K (.ref C) "__class__"=some (some (.builtin "object.__class__")))
  (hn:PySem.W.specialIn K (.builtin "object.__class__") "__get__"=some (some (.builtin "getset_descriptor.__get__"))) (htk:PySem.W.takesIn K (.builtin "object.__class__")=some true)
  (hm:PySem.W.mroIn K C (.type "object")=some true):uZ K H (.c a) (.ref C)
theorem j6(I:Inv X pins σ H s)(rx:RelV x u)(ty:uZ X.K H x t)(e:FD X.K t c=some b)(h:∀tk,Q (.bool b) {s with toks:=tk}) :
 wpAny (model X.f X.w) A (call (.builtin "isinstance") [u,c]) Q E s:=by
 cases ty with
 |d=>cases (show u=DV from rx);exact Bw PySem.W.kitx_none I.kIn AE e (λz=>nomatch z) h
 |bl y=>cases (show u=EV y from rx);exact Bw PySem.W.kitx_bool I.kIn AE e (λz=>nomatch z) h
 |c i=>obtain⟨t,q⟩:=(show ∃t,u=Fq i t from rx);cases q;exact Bw PySem.W.kitx_int I.kIn AE e (λz=>nomatch z) h
 |f y=>obtain⟨t,q⟩:=(show ∃t,u=Fs y t from rx);cases q;exact Bw PySem.W.kitx_str I.kIn AE e (λz=>nomatch z) h
 |h y=>obtain⟨t,q⟩:=(show ∃t,u=Value.float y t from rx);cases q;exact Bw PySem.W.kitx_float I.kIn AE e (λz=>nomatch z) h
 |@b a xs ea=>
  cases (show u=A7 a from rx);obtain⟨_,_,n,_,h1⟩:=(show yP X.f X.w H s.heap a (.b xs) from I.C a _ ea);exact Bw PySem.W.kitx_list I.kIn ⟨_,h1,rfl⟩ e (λz=>nomatch z) h
 |@j a ob xs ea=>
  cases (show u=A7 a from rx);obtain⟨_,_,_,n,_,h1⟩:=(show yP X.f X.w H s.heap a (.d ob (.b xs)) from I.C a _ ea);exact Bw PySem.W.kitx_list I.kIn ⟨_,h1,rfl⟩ e (λz=>nomatch z) h
 |@g a xs ea=>
  cases (show u=A7 a from rx);obtain⟨_,_,_,p⟩:=(show yP X.f X.w H s.heap a (.c xs) from I.C a _ ea);obtain⟨o,h1,h2,_⟩:=p;exact Bw PySem.W.kitx_tuple I.kIn ⟨o,h1,h2⟩ e (λz=>nomatch z) h
 |@dK a kvs ea=>
  cases (show u=A7 a from rx);obtain⟨_,_,vs,_,p⟩:=(show yP X.f X.w H s.heap a (.i kvs) from I.C a _ ea);obtain⟨o,es,ep,h1,h2,_⟩:=p;exact Bw PySem.W.kitx_dict I.kIn ⟨o,h1,h2.1⟩ e (λz=>nomatch z) h
 |@dT a kvs ea=>
  cases (show u=A7 a from rx);obtain⟨_,_,xs,_,o,es,ep,h1,h2,_⟩:=(show yP X.f X.w H s.heap a (.j kvs) from I.C a _ ea);exact Bw PySem.W.kitx_dict I.kIn ⟨o,h1,h2.1⟩ e (λz=>nomatch z) h
 |@k a C dx fs ea cl ha hn htk hm=>
  cases (show u=A7 a from rx);obtain⟨mA,O,_⟩:=ba I.C ea;obtain⟨od,J,_⟩:=O.look;exact Bw (PySem.W.kitx_own (cl.get _) cl.hd ha hn htk hm) I.kIn J e (λz=>nomatch z) h
end
structure y9(k:Nat)(A:Around):Prop where
 a:A.handled=none
 c:A.depth+3*k+5<Ce
 b:A.units+16*k+200<cLine
 d:A.guards=some []
theorem y9.deeper(r:y9 (k+1) A)env:y9 k (A.deeper env):=
 ⟨r.a,by have:=r.c;show A.depth+1+3*k+5<_;omega,by have:=r.b;show A.units+3+16*k+200<_;omega,r.d⟩
theorem y9.depth(r:y9 k A):A.depth<Ce:=by have:=r.c;omega
def sR:TA:=λ_ H Q=>Q [] H
def wj(ta:TE)(tr:TA):TA:=λσ H Q=>ta σ H λx H1=>tr σ H1 λxs H2=>Q (x::xs) H2
section
variable {X:Cx}{e:Expr}{es:List Expr}{te:TE}{t:TA}{pos:Pos}
theorem yl:PA X [] sR:=λ_ _ _ _ H Q I h=>Calls.spliced_nil ⟨[],H,I,.nil,h⟩
theorem yo(ha:PE X e te)(hr:PA X es t)(hs:AF (e::es) X.a=(false,eval e X.a)::AF es X.a:=by rfl):PA X (e::es) (wj te t):=by intro pos pins s σ H Q I h;rw[hs];show wpAny _ _ (spliced ((false,eval e X.a)::backTo pos (AF es X.a))) _ _ s;refine Calls.spliced_cons (thn (ha pins s σ H _ I h) λu s1 ⟨x,H1,I1,r1,q1⟩=>?_);exact thn (hr pos pins s1 σ H1 _ I1 q1) λus s2 ⟨xs,H2,I2,r2,q2⟩=>⟨x::xs,H2,I2,.cons r1 r2,q2⟩
def Tr(t:TA):TE:=λσ H Q=>t σ H λxs H1=>xs.length<=Aq/\∀p,H1 p=none->Q (.c p) (upd H1 p (.c xs))
def l9(t:TA):TE:=λσ H Q=>t σ H λxs H1=>xs.length<=Aq/\∀p,H1 p=none->Q (.c p) (upd H1 p (.b xs))
theorem WI{x1}(h:PA X es t):PE X (.Tuple es x1 pos) (Tr t):=by
 intro pins s σ H Q I hq;refine wpAny_Tuple_spliced (thn (h pos pins s σ H _ I hq) λus s1 ⟨xs,H1,I1,r,z,q⟩=>⟨by rw[<-r.length];exact z,?_⟩)
 have hf:H1 s1.heap.objs.size=none:=I1.C.fresh (Ab _);refine⟨.c s1.heap.objs.size,upd H1 s1.heap.objs.size (.c xs),I1.laid (t':=s1.toks) (λb u e=>nx _ e) (Ab _) ?_,rfl,q _ hf⟩;exact⟨z,us,r,⟨_,AB _ rfl,rfl,_,rfl,rfl⟩⟩
theorem tw(h:PA X es t):PE X (.List es pos) (l9 t):=by
 intro pins s σ H Q I hq;refine wpAny_List_spliced (thn (h pos pins s σ H _ I hq) λus s1 ⟨xs,H1,I1,r,z,q⟩=>⟨by rw[<-r.length];exact z,?_⟩)
 have hf:H1 s1.heap.objs.size=none:=I1.C.fresh (Ab _);refine⟨.c s1.heap.objs.size,upd H1 s1.heap.objs.size (.b xs),I1.laid (t':=s1.toks) (λb u e=>nx _ e) (Ab _) ?_,rfl,q _ hf⟩;exact⟨z,us,0,r,AB _ rfl⟩
end
abbrev Sp:=List V->Hp->VK->XK->Prop
abbrev CXT:=List Env->Hp->Shared->XK->Value->Shared->Prop
structure mZ(P:Program)(w:World)(K:Ah)(mg:Str->Option Value)(base:Heap)(A:Around)(outer:List Env)(s:Shared)(H:Hp):Prop where
 a:A.frames=some outer
 c:Mod K mg base
 e:∀b o,base.get? b=some o->s.heap.get? b=some o/\H b=none
 g:base.objs.size<=s.heap.objs.size
 i:s.heap.FunFrames base outer
 h:∀b∈frs outer,H b=none
 d:HOk P w H s.heap
 f:AllBare s.gens
def CE(outer:List Env)(P:Program)(w:World)(H:Hp)(s:Shared)(Q:VK)(u:Value)(s':Shared):Prop:=
 ∃v H',s'.os=s.os/\AllBare s'.gens/\Un (frs outer) [] H H' s.heap s'.heap/\HOk P w H' s'.heap/\RelV v u/\Q v H'
def CR(CX:CXT)(outer:List Env)(P:Program)(w:World)(H:Hp)(s:Shared)(Q:VK)(E:XK)(r:Result)(s':Shared):Prop:=
 match r with
 |.ok (.ret u)=>CE outer P w H s Q u s'
 |.ok _=>False
 |.error e=>CX outer H s E e s'
structure uY(P:Program)(w:World)(K:Ah)(mg:Str->Option Value)(base:Heap)(CX:CXT)(k:Nat)(f:Addr)(fd:BH)(ps:List Str)(sp:Sp):Prop where
 b:∀vs H Q E,sp vs H Q E->vs.length=ps.length
 a:∀(A:Around) (outer:List Env) (s:Shared) (H:Hp) (args:Args) (us:List Value) (vs:List V) (Q:VK) (E:XK),y9 k A->mZ P w K mg base A outer s H->BindsTo s fd args (ps.zip us)->Vals vs us->sp vs H Q E ->
  codeAny (model P w) A (.call (.ref f) args) (CR CX outer P w H s Q E) s
theorem uY.imp{K}(F:uY P w K mg base CX k f fd ps sp)
 (h:∀vs H Q E,sp' vs H Q E->sp vs H Q E):uY P w K mg base CX k f fd ps sp':=
 ⟨λvs H Q E q=>F.b vs H Q E (h _ _ _ _ q),λA outer s H args us vs Q E hr he hb hv hs=>F.a A outer s H args us vs Q E hr he hb hv (h _ _ _ _ hs)⟩
section
variable {X:Cx}{pins:List (Addr × Obj)}{σ:St}{H:Hp}{s s':Shared}
theorem Inv.vX(I:Inv X pins σ H s):mZ X.f X.w X.K X.d X.h X.A X.g s H:=
 ⟨I.B.g,I.B.i,I.bs,Az I.B.q I.sz,I.stack,I.oX,I.C,I.F⟩
theorem Inv.after(I:Inv X pins σ H s)(h:CE X.g X.f X.w H s Q u s'):EP X pins σ Q u s':=by obtain⟨v,H',os,bare,un,hok,r,q⟩:=h;obtain⟨hh,g,d,t,os'⟩:=s';obtain rfl:os'=s.os:=os;exact⟨v,H',I.call (h':=hh) (g':=g) (d':=d) (t':=t) (ch:=[]) un hok bare (λb z=>absurd z (by simp)),r,q⟩
end
def jX(sp:Sp)(dvs:List V)(E:XK)(t:TA):TE:=λσ H Q=>t σ H λvs H1=>sp (vs++dvs) H1 Q E
def Binds(K:Ah)(fd:BH)(ps:List Str)(ds:List Value):Prop:=
 ∀(s:Shared) (us:List Value),K.In s.heap->(us++ds).length=ps.length->BindsTo s fd ⟨us,[]⟩ (ps.zip (us++ds))
theorem Binds.all{K}(h:∀us:List Value,us.length=ps.length->FN fd ⟨us,[]⟩=pure (ps.zip us)):Binds K fd ps []:=λs us _ hl=>by rw[AY]at hl ⊢;exact .of_eq (h us hl)
def Passes(CX:CXT)(X:Cx)(E:XK):Prop:=∀(pins:List (Addr × Obj)) (σ:St) (H:Hp) (s:Shared) (e:Value) (s':Shared),Inv X pins σ H s->CX X.g H s E e s'->X.j e s'
section
variable {X:Cx}{CX:CXT}{k:Nat}{f C:Addr}{fd:BH}{ps:List Str}{sp:Sp}{dvs:List V}{ds:List Value}{E:XK}{x m:Str}{p pos apos:Pos}{e o:Expr}{es:List Expr}{ta:TE}{t:TA}
theorem lx(F:uY X.f X.w X.K X.d X.h CX k f fd ps sp)(hr:y9 k X.A)(hb:Binds X.K fd ps ds)(hd:Vals dvs ds)(hx:Passes CX X E)
 (I:Inv X pins σ H s) (r:Vals vs us) (h:sp (vs++dvs) H Q E):wpAny (model X.f X.w) X.A (call (.ref f) us) (EP X pins σ Q) X.j s:=by
 have r2:Vals (vs++dvs) (us++ds):=r.append hd;have hl:(us++ds).length=ps.length:=by rw[<-r2.length];exact F.b _ _ _ _ h
 refine DZ (CA (F.a X.A X.g s H ⟨us,[]⟩ (us++ds) (vs++dvs) Q E hr I.vX (hb s us I.kIn hl) r2 h) λr s' hq=>?_);cases r with
 |error e=>exact hx pins σ H s e s' I hq
 |ok fl=>
  cases fl with
  |ret u=>exact I.after hq
  |next=>exact Aw hq
  |brk=>exact Aw hq
  |cont=>exact Aw hq
theorem oN(F:uY X.f X.w X.K X.d X.h CX k f fd ps sp)(hr:y9 k X.A)(hg:Gl X x)(hm:X.d x=some (.ref f))(hk:BP X.K (.ref f)=true)(hb:Binds X.K fd ps ds)(hd:Vals dvs ds)(hx:Passes CX X E)
 (ha:PA X (e::es) t) (hdb:(x == ("__debug__":Str))=false:=by decide) (he:AF (e::es) X.a=(false,eval e X.a)::AF es X.a:=by rfl) (hpl:(backTo pos (AF es X.a)).any (·.1)=false:=by rfl) :
 PE X (.Call (.Name x p) (e::es) [] pos) (jX sp dvs E t):=by
 intro pins s σ H Q I h;refine By (xj I hg hm ?_ hdb);refine Cq (h₀:=X.h) I.B.i.a hk (thn (ha pos pins s σ H _ I h) λus s1 ⟨vs,H1,I1,r,q⟩=>⟨I1.kIn,?_⟩) he hpl;exact lx F hr hb hd hx I1 r q
theorem nt(F:uY X.f X.w X.K X.d X.h CX k f fd ps sp)(hr:y9 k X.A)(hg:Gl X x)(hm:X.d x=some (.ref f))(hk:BP X.K (.ref f)=true)(hb:Binds X.K fd ps ds)(hd:Vals dvs ds)(hx:Passes CX X E)
 (hdb:(x == ("__debug__":Str))=false:=by decide):PE X (.Call (.Name x p) [] [] pos) (jX sp dvs E sR):=by
 intro pins s σ H Q I h;refine By (xj I hg hm ?_ hdb);exact PySem.W.callWith_K0 I.kIn hk (lx (us:=[]) F hr hb hd hx I .nil h)
end
structure wC(N P:List Str)(sc:Scope):Prop where
 a:sc.kind=.function
 co:sc.isCoroutine=false
 f:sc.isGenerator=false
 b:N.Nodup
 c:N.take P.length=P
 e:∀x∈P,sc.names.lookup x=some .local\/sc.names.lookup x=some .cell
 d:∀y∈sc.names,y.2≠.free
theorem qc{kindOf}:∀{binds} {m},(∀v,(x,v) ∉ binds)->bindL kindOf binds m x=m x
 |[],_,_=>rfl
 |(n,v)::r,m,h=>by
  unfold bindL;rw[qc λw hw=>h w (Ac _ hw)];split
  . have:x≠n:=by rintro rfl;exact h v Ao
    simp[this]
  . rfl
theorem qa{kindOf}:∀{binds} {m},(∀v,(x,v) ∉ binds)->bindC kindOf binds m x=m x
 |[],_,_=>rfl
 |(n,v)::r,m,h=>by
  unfold bindC;rw[qa λw hw=>h w (Ac _ hw)];split
  . rfl
  . have:x≠n:=by rintro rfl;exact h v Ao
    simp[this]
theorem qb{kindOf}:∀{P:List Str} {vs} {i:Nat} {m},P.Nodup->P[i]?=some x->vs[i]?=some v->kindOf x=some .local ->
 bindL kindOf (P.zip vs) m x=some v
 |[],_,_,_,_,h,_,_=>by simp at h
 |_::_,[],_,_,_,_,h,_=>by simp at h
 |p::P,w::vs,0,m,nd,h1,h2,hk=>by
  simp at h1 h2;subst h1;subst h2;show bindL kindOf ((p,w)::P.zip vs) m p=_;unfold bindL;rw[qc λv hv=>(BI.mp nd).1 (D0 hv).1,if_pos hk];simp
 |p::P,w::vs,i+1,m,nd,h1,h2,hk=>by show bindL kindOf ((p,w)::P.zip vs) m x=_;unfold bindL;exact qb (i:=i) (BI.mp nd).2 (by simpa using h1) (by simpa using h2) hk
theorem qZ{kindOf}:∀{P:List Str} {vs} {i:Nat} {m},P.Nodup->P[i]?=some x->vs[i]?=some v->kindOf x≠some .local ->
 bindC kindOf (P.zip vs) m x=some v
 |[],_,_,_,_,h,_,_=>by simp at h
 |_::_,[],_,_,_,_,h,_=>by simp at h
 |p::P,w::vs,0,m,nd,h1,h2,hk=>by
  simp at h1 h2;subst h1;subst h2;show bindC kindOf ((p,w)::P.zip vs) m p=_;unfold bindC;rw[qa λv hv=>(BI.mp nd).1 (D0 hv).1,if_neg hk];simp
 |p::P,w::vs,i+1,m,nd,h1,h2,hk=>by show bindC kindOf ((p,w)::P.zip vs) m x=_;unfold bindC;exact qZ (i:=i) (BI.mp nd).2 (by simpa using h1) (by simpa using h2) hk
noncomputable def start(N:List Str)(vs:List V):St:=vs.map some++AA (N.length-vs.length) none
noncomputable def xV(CX:CXT)(P:Program)(w:World)(K:Ah)(mg:Str->Option Value)(base:Heap)(N:List Str)(qual:Str)(scope:Scope)(f:Addr)(cd:Value)(A:Around)(outer:List Env)(s:Shared)(H:Hp)(E:XK):Cx where
 f:=P
 w:=w
 K:=K
 d:=mg
 h:=base
 A:=A.deeper (envOfC qual scope s.heap.objs.size f cd)
 N:=N
 l:=s
 r:=H
 a:=envOfC qual scope s.heap.objs.size f cd
 k:=outer
 g:=envOfC qual scope s.heap.objs.size f cd::outer
 m:=[]
 i:=true
 q:=λ_=>true
 n:=[]
 j:=λe s'=>wpAny (model P w) (A.deeper (envOfC qual scope s.heap.objs.size f cd)) (leaving (envOfC qual scope s.heap.objs.size f cd) e) (λ_ s''=>CX outer H s E e s'') (λe' s''=>CX outer H s E e' s'') s'
theorem oy{sc:Scope}(h:sc.names.lookup x=some .cell):∃c,(B5 n sc.names []).lookup x=some c:=by have q:=Dy sc.names n [] (.inl h);exact BX.mp q
theorem ql{K}
 (S:wC N ps scope) (hd:A.handled=none) (e0:mZ P w K mg base A outer s H) (hl:vs.length=ps.length) (r:Vals vs us)
 (x:InCallC s s.heap.objs.size (bindL (envOfC qual scope s.heap.objs.size f cd).kindOf (ps.zip us) λ_=>none) (B5 (s.heap.objs.size+1) scope.names []) (bindC (envOfC qual scope s.heap.objs.size f cd).kindOf (ps.zip us) λ_=>none) s1) :
 Inv (xV CX P w K mg base N qual scope f cd A outer s H E) [] (start N vs) H s1:=by
 have hpl:ps.length<=N.length:=by have:=congrArg Ei S.c;rw[CD]at this;omega
 obtain⟨h1,tk,rfl,hk⟩:=x.done;have noA:∀b:Addr,b ∉ (xV CX P w K mg base N qual scope f cd A outer s H E).m:=λb z=>absurd (show b∈([]:List Addr) from z) (by simp)
 refine⟨⟨e0.c,S.a,rfl,rfl,Ab _,λy z c h1 h2=>?_,λy hy=>?_,λy c _ h=>?_,λ_=>hd,D1 e0.a,.inr ⟨rfl,rfl⟩,λb z=>absurd z (noA b),e0.e,e0.g,λb _ _=>noA b,λb z=>absurd z (noA b),e0.i,e0.h⟩,
  rfl,e0.f,Un.kept hk,⟨_,x.toInCall.ns,λi y v h1 h2 h3=>?_⟩,λy c h=>⟨_,x.cell y c h⟩,e0.d.fresh (Ab _),λy c h=>?_,λp hp=>absurd (show p∈([]:List (Addr × Obj)) from hp) (by simp),e0.d.kept hk,?_⟩
 . exact name_of_addr x.apart (AK h1) (AK h2)
 . have hy:scope.names.lookup y=some .cell\/scope.names.lookup y=some .free:=hy
   rcases hy with hy|hy
   . exact oy hy
   . exact absurd rfl (S.d _ (AK hy))
 . exact Cz (x.above y c (AK h))
 . have hi:i<vs.length:=by
    unfold start at h2;by_cases hi:i<vs.length
    . exact hi
    . rw[BB (by simpa using hi)]at h2
      rw[Dp]at h2;split at h2<;>cases h2
   have ha:vs[i]?=some v:=by
    unfold start at h2;rw[AQ (by simpa using hi),A5]at h2
    cases e:vs[i]? with
    |none=>rw[e]at h2;cases h2
    |some a=>rw[e]at h2;cases h2;rfl
   obtain⟨u,hu,rv⟩:=r.get ha;have hp:ps[i]?=some y:=by rw[<-S.c,E4 (by omega)];exact h1
   have ndP:ps.Nodup:=by rw[<-S.c];exact S.b.sublist (EJ _ _)
   refine⟨u,rv,?_⟩;rcases S.e y (AR hp) with k|k
   . exact .inl ⟨k,qb ndP hp hu k⟩
   . obtain⟨c,e⟩:=oy (n:=s.heap.objs.size+1) k
     refine .inr ⟨.inl k,c,e,?_⟩;have q:=x.cell y c e;rw[qZ ndP hp hu (by show scope.names.lookup y≠_;rw[k];decide)]at q
     exact q
 . exact e0.d.fresh (Cz (x.above y c (AK h)))
 . unfold start
   show _=N.length;rw[Av,Ad,DR];omega
theorem Zg{K}{dV kV doc pm cdv ct oc}
    (lk:K.lookup f=some ⟨oc,od,.func (BA name qual params body scope dV kV doc pm an cdv ct),osl⟩) (hcd:BG K cdv qual=true) (S:wC N ps scope)
 (len:∀vs H Q E,sp vs H Q E->vs.length=ps.length)
 (hbody:∀A outer s H vs Q E,y9 k (A.deeper (envOfC qual scope s.heap.objs.size f cdv))->sp vs H Q E ->
  ∃t,PSs (xV CX P w K mg base N qual scope f cdv A outer s H E) body t/\t {a:=λ_ H'=>Q .g H',b:=Q} (start N vs) H) :
 uY P w K mg base CX (k+1) f (BA name qual params body scope dV kV doc pm an cdv ct) ps sp:=by
 refine⟨len,λA outer s H args us vs Q E hr e0 hb r hsp=>?_⟩;have hl:=len _ _ _ _ hsp;have KX:K.In s.heap:=e0.c.a.keeps λb o e=>(e0.e b o e).1;have lim:s.heap.NoLimit:=e0.c.b.keeps λb o e=>(e0.e b o e).1;have hkind:∀y∈ps.zip us,scope.names.lookup y.1=some .local\/(scope.names.lookup y.1=some .cell/\((B5 (s.heap.objs.size+1) scope.names []).lookup y.1).isSome=true):=λ⟨n,v⟩ hy=>by
  rcases S.e n (D0 hy).1 with q|q
  . exact .inl q
  . exact .inr ⟨q,Dy _ _ _ (.inl q)⟩
 refine codeAny_call_function hr.depth (KX _ _ lk) rfl S.co S.f rfl (PySem.W.codeRec_of KX hcd) (hb _ _ _ _ ?_);refine Ey S.a hkind λenv he s1 x=>?_;subst he;refine⟨lim.keeps x.toInCall.keep,codeAny_func ?_⟩;obtain⟨t,ht,hq⟩:=hbody A outer s H vs Q E (hr.deeper _) hsp;have I:Inv (xV CX P w K mg base N qual scope f cdv A outer s H E) [] (start N vs) H s1:=ql S hr.a e0 hl r x;refine AX (ht [] s1 (start N vs) H _ I hq) (λfl s' hs=>?_) λe s' hs=>hs;have fin:∀{σ':St} {H':Hp} {v:V} {u:Value},Inv (xV CX P w K mg base N qual scope f cdv A outer s H E) [] σ' H' s'->RelV v u->Q v H'->CE outer P w H s Q u s':=
  λ{σ' H' v u} J rv q=>⟨v,H',J.R,J.F,J.j,J.C,rv,q⟩
 cases fl with
 |ret u=>
  obtain⟨v,σ',H',J,rv,q⟩:=hs;exact fin J rv q
 |next=>
  obtain⟨σ',H',J,q⟩:=hs;exact fin (v:=V.g) (u:=DV) J rfl q
 |brk=>
  obtain⟨_,_,_,q⟩:=hs;exact Aw q
 |cont=>
  obtain⟨_,_,_,q⟩:=hs;exact Aw q
section
variable {X:Cx}{x:Str}{p pos:Pos}{e:Expr}{es:List Expr}{t:TA}{id T:String}{r:List V->Hp->VK->Prop}
def tCB(r:List V->Hp->VK->Prop)(t:TA):TE:=λσ H Q=>t σ H λvs H1=>r vs H1 Q
theorem u6(hc:yO X (.builtin id) r)(hg:Gl X x)(hm:X.d x=none)(hv:BW x=some (.builtin id))(ha:PA X (e::es) t)(hn:x≠"__name__":=by decide)(hdb:(x == ("__debug__":Str))=false:=by decide)
 (he:AF (e::es) X.a=(false,eval e X.a)::AF es X.a:=by rfl) (hpl:(backTo pos (AF es X.a)).any (·.1)=false:=by rfl):PE X (.Call (.Name x p) (e::es) [] pos) (tCB r t):=by
 intro pins s σ H Q I h;refine By (uM I hg hm hv ?_ hn hdb);exact PyProof.Rows.callWith_builtin1 (thn (ha pos pins s σ H _ I h) λus s1 ⟨vs,H1,I1,r1,q1⟩=>hc pins s1 σ H1 vs us Q I1 r1 q1) he hpl
theorem y0(hc:yO X (.type T) r)(hg:Gl X x)(hm:X.d x=none)(hv:BW x=some (.type T))(ha:PA X (e::es) t)(hn:x≠"__name__":=by decide)(hdb:(x == ("__debug__":Str))=false:=by decide)
 (he:AF (e::es) X.a=(false,eval e X.a)::AF es X.a:=by rfl) (hpl:(backTo pos (AF es X.a)).any (·.1)=false:=by rfl):PE X (.Call (.Name x p) (e::es) [] pos) (tCB r t):=by
 intro pins s σ H Q I h;refine By (uM I hg hm hv ?_ hn hdb);exact B3 (thn (ha pos pins s σ H _ I h) λus s1 ⟨vs,H1,I1,r1,q1⟩=>hc pins s1 σ H1 vs us Q I1 r1 q1) he hpl
end
end L2
namespace HT
open PySem PyProof.Rows
section
variable {prog:Program}{w:World}{A:Around}{E:Value->Shared->Prop}{s:Shared}
theorem bH(ht:IsTup s.heap t vs.toArray)(hb:IsTup s.heap b ws.toArray)(hv:vs≠[])
 (h1:ws=[]->Q (.ref t) s) (h2:ws≠[]->Q (.ref s.heap.objs.size) {s with heap:=s.heap.push {cls:=.type "tuple",data:=.seq (vs++ws).toArray}})
 (hsz:vs.length+ws.length<=Aq):wpAny (model prog w) A (Br .Add (.ref t) (.ref b)) Q E s:=by
 obtain⟨⟨cls,dd,data,sl⟩,ho,hc,n,hd⟩:=id ht;obtain⟨⟨cls2,dd2,data2,sl2⟩,ho2,hc2,n2,hd2⟩:=id hb;simp only at hc hd hc2 hd2;subst hc hd hc2 hd2;have e:vs.toArray++ws.toArray=(vs++ws).toArray:=by simp
 by_cases hw:ws=[]
 . exact concat_meets ⟨_,ho,rfl⟩ ⟨_,ho2,rfl⟩ E5 FY Dz Dq (C6 _ _)
    (tuple_addW1 t b vs.toArray ws.toArray n n2 dd dd2 sl sl2 (by simpa using hv) (by simp[hw])) ⟨ho,ho2,h1 hw⟩
 . refine concat_meets ⟨_,ho,rfl⟩ ⟨_,ho2,rfl⟩ E5 FY Dz Dq (C6 _ _)
    (tuple_addW2 t b vs.toArray ws.toArray n n2 dd dd2 sl sl2 (by simpa using hv) (by simpa using hw) (by rw[Ag,Ag];exact hsz)) ⟨ho,ho2,?_⟩
   rw[e];exact h2 hw
noncomputable def sIx(n d:Nat):Option Int->Nat
 |none=>d
 |some v=>if v<0 then (v+(n:Int)).toNat else min v.toNat n
theorem WX n d(hd:d<=n)o:sIx n d o<=n:=by
 cases o with
 |none=>exact hd
 |some v=>
  show (if v<0 then (v+(n:Int)).toNat else min v.toNat n)<=n
  by_cases hv:v<0
  . rw[if_pos hv];omega
  . rw[if_neg hv];exact DJ _ _
theorem kX v(n d:Nat):(if v<0 then max (v+(n:Int)) 0 else min v (n:Int))=((sIx n d (some v):Nat):Int):=by
 show (if v<0 then max (v+(n:Int)) 0 else min v (n:Int))=(((if v<0 then (v+(n:Int)).toNat else min v.toNat n):Nat):Int)
 by_cases hv:v<0
 . simp only[if_pos hv];omega
 . simp only[if_neg hv];omega
theorem me lo hi(n:Nat):BE lo hi 1 (n:Int)=(((sIx n 0 lo:Nat):Int),((sIx n n hi:Nat):Int)):=by
 have h1:¬((1:Int)<0):=by omega
 unfold BE;simp only[h1,if_false];refine Prod.ext ?_ ?_
 . cases lo with
   |none=>rfl
   |some v=>exact kX v n 0
 . cases hi with
   |none=>rfl
   |some v=>exact kX v n n
theorem lb(i j:Nat):BU (i:Int) (j:Int) 1=j-i:=by
 unfold BU;have h1:(1:Int) > 0:=by omega
 simp only[h1,if_true,Int.ediv_one];split<;>omega
theorem xy(p:IsPart v o)(h:Q o s):wpAny (model prog w) A (Builtin.Slice.slicePartIndex v) Q E s:=by
 cases p with
 |none=>exact slicePart_none h
 |int i t=>exact slicePart_int h
theorem wg{lo hi}{n:Nat}(hs:s.heap.IsSliceOf sl vl vu .none)(pl:IsPart vl lo)(pu:IsPart vu hi)
 (h:Q (((sIx n 0 lo:Nat):Int),1,sIx n n hi-sIx n 0 lo) s):wpAny (model prog w) A (B6 (.ref sl) (pure (n:Int))) Q E s:=by
 obtain⟨os,hos,hcs,hds⟩:=id hs;unfold B6 EX;refine xd (xd (DA hos hds (x:=vl) rfl (xd (DA hos hds (x:=vu) rfl (xd (DA hos hds (x:=.none) rfl (Ai ?_)))))));refine xd (slicePart_none ?_);show wpAny _ _ (if ((1:Int) == 0)=true then _ else _) _ _ s
 rw[if_neg (by decide)]
 refine xd (xy pl (xd (xy pu (xd (Ai ?_)))));show wpAny _ _ (match BE lo hi 1 (n:Int) with|(lo,hi)=>pure (lo,(1:Int),BU lo hi 1)) _ _ s
 rw[me lo hi n];show wpAny _ _ (pure (((sIx n 0 lo:Nat):Int),(1:Int),BU ((sIx n 0 lo:Nat):Int) ((sIx n n hi:Nat):Int) 1)) _ _ s;rw[lb];exact Ai h
theorem dq(xs:Array Value)(i k:Nat):((Ax k).filterMap λ(m:Nat)=>xs[((i:Int)+(m:Int)*1).toNat]?).toArray=((xs.toList.drop i).take k).toArray:=by
 have e:(λ(m:Nat)=>xs[((i:Int)+(m:Int)*1).toNat]?)=λm=>xs[i+m]?:=by
  funext m;have:((i:Int)+(m:Int)*1).toNat=i+m:=by omega
  rw[this]
 rw[e];have:=pick_run xs i k;rw[BQ]at this;have e2:((λx=>xs[x]?)∘λx=>i+x)=λm=>xs[i+m]?:=rfl;rw[e2]at this;rw[this]
theorem um{lo hi}(ht:IsTup s.heap t items)(hs:s.heap.IsSliceOf sl vl vu .none)(pl:IsPart vl lo)(pu:IsPart vu hi)
 (hw:¬(sIx items.size 0 lo=0/\sIx items.size items.size hi=items.size))
 (h:Q (.ref s.heap.objs.size) {s with heap:=s.heap.push {cls:=.type "tuple",data:=.seq ((items.toList.drop (sIx items.size 0 lo)).take (sIx items.size items.size hi-sIx items.size 0 lo)).toArray}})
 (hsz:items.size<=Aq):wpAny (model prog w) A (getItem (.ref t) (.ref sl)) Q E s:=by
 have htake:sizeOk (.seq ((items.toList.drop (sIx items.size 0 lo)).take (sIx items.size items.size hi-sIx items.size 0 lo)).toArray):=by show ((items.toList.drop (sIx items.size 0 lo)).take (sIx items.size items.size hi-sIx items.size 0 lo)).toArray.size<=Aq;rw[Ag,CD,List.length_drop,Cm];omega
 have hj:sIx items.size items.size hi<=items.size:=WX _ _ (Ab _) hi;obtain⟨os,hos,hcs,hds⟩:=id hs;have hTs:s.TypeIs (.ref sl) "slice":=⟨os,hos,hcs⟩;unfold getItem
 try with_reducible refine BN ?_
 first|refine xd (Ai ?_)|skip
 refine xd (EK ht.typeIs (by decide) ?_)
 refine xd (Dr (name:=D2 "__getitem__") ht.typeIs AV
  (E6 AV ht.typeIs Ea ?_ (Ek _ _)))
 show wpAny _ _ (CL (.ref t) >>= _) _ _ s;refine xd (DG ht ?_);refine xd (D3 hTs ?_);rw[if_pos (by decide)]
 refine xd (wg hs pl pu ?_);have hno:¬((((sIx items.size 0 lo:Nat):Int) == 0&&(1:Int) == 1&&(sIx items.size items.size hi-sIx items.size 0 lo) == items.size)=true):=by intro q;rw[cf,cf]at q;have q1:((sIx items.size 0 lo:Nat):Int)=0:=BR q.1.1;have q2:sIx items.size items.size hi-sIx items.size 0 lo=items.size:=BR q.2;exact hw ⟨by omega,by omega⟩
 show wpAny _ _ (if (((sIx items.size 0 lo:Nat):Int) == 0&&(1:Int) == 1&&(sIx items.size items.size hi-sIx items.size 0 lo) == items.size)=true then _ else _) _ _ s
 rw[if_neg hno,dq]
 first
  |exact xd (m:=Bg _) (Bi (Ai ⟨_,rfl,Ai h⟩) htake)
  |exact xd (m:=Bg _) (Bi (xd (Ai (Ai ⟨_,rfl,Ai h⟩))) htake)
  |exact xd (xd (m:=Bg _) (Bi (Ai (Ai ⟨_,rfl,Ai h⟩)) htake))
  |exact xd (xd (m:=Bg _) (Bi (Ai ⟨_,rfl,Ai h⟩) htake))
end
end HT
namespace L2
open PySem PySem.Spec PyProof.Rows
abbrev TO:=St->Hp->(Option Int->Hp->Prop)->Prop
def PO(X:Cx)(e:Option Expr)(t:TO):Prop:=
 ∀(pins:List (Addr × Obj)) (s:Shared) (σ:St) (H:Hp) (Q:Option Int->Hp->Prop),Inv X pins σ H s->t σ H Q ->
  wpAny (model X.f X.w) X.A (evalPart e X.a) (λu s'=>∃o H',Inv X pins σ H' s'/\IsPart u o/\Q o H') X.j s
def ZL:TO:=λ_ H Q=>Q none H
def Ux(t:TE):TO:=λσ H Q=>t σ H λx H1=>∃i,x=.d i/\Q (some i) H1
section
variable {X:Cx}{e:Expr}{te:TE}{lo hi:Option Expr}{tl th:TO}{pos p2:Pos}
theorem ak:PO X none ZL:=by intro pins s σ H Q I h;rw[evalPart_none];exact Ai ⟨none,H,I,.none,h⟩
theorem ao(h:PE X e te):PO X (some e) (Ux te):=by intro pins s σ H Q I hw;rw[evalPart_some];refine thn (h pins s σ H _ I hw) λu s1 ⟨x,H1,I1,r1,q1⟩=>?_;obtain⟨i,rfl,q⟩:=q1;obtain⟨t,rfl⟩:=r1;exact⟨some i,H1,I1,.int i t,q⟩
def SlR(X:Cx)(r:V->Option Int->Option Int->Hp->VK->Prop):Prop:=
 ∀(pins:List (Addr × Obj)) (s:Shared) (σ:St) (H:Hp) (x:V) (v vl vu:Value) (lo hi:Option Int) (sl:Addr) (Q:VK),Inv X pins σ H s->RelV x v->s.heap.IsSliceOf sl vl vu .none->IsPart vl lo->IsPart vu hi->r x lo hi H Q ->
  ∃T id,FO (.type T) "__getitem__"=pure (some (.builtin id))/\s.TypeIs v T/\wpAny (model X.f X.w) X.A (getItem v (.ref sl)) (EP X pins σ Q) X.j s
def tSl(r:V->Option Int->Option Int->Hp->VK->Prop)(te:TE)(tl th:TO):TE:=λσ H Q=>te σ H λx H1=>tl σ H1 λl H2=>th σ H2 λu H3=>r x l u H3 Q
theorem dk(hr:SlR X r)(he:PE X e te)(hl:PO X lo tl)(hu:PO X hi th):PE X (.Subscript e (.Slice lo hi none p2) pos) (tSl r te tl th):=by
 intro pins s σ H Q I h;refine FP (thn (he pins s σ H _ I h) λv s1 ⟨x,H1,I1,r1,q1⟩=>?_);refine wpAny_Slice (thn (hl pins s1 σ H1 _ I1 q1) λvl s2 ⟨l,H2,I2,pl,q2⟩=>thn (hu pins s2 σ H2 _ I2 q2) λvu s3 ⟨u,H3,I3,pu,q3⟩=>?_);rw[evalPart_none];refine Ai ?_;have I4:Inv X pins σ H3 {s3 with heap:=s3.heap.push {cls:=.type "slice",data:=.fields #[vl,vu,.none]}}:=I3.kept (t':=s3.toks) λb ob q=>nx _ q
 obtain⟨T,id,hT,ht,hg⟩:=hr pins {s3 with heap:=s3.heap.push {cls:=.type "slice",data:=.fields #[vl,vu,.none]}} σ H3 x v vl vu l u s3.heap.objs.size Q I4 r1 (El ..) pl pu q3
 show wpAny (model X.f X.w) X.A (Ez e (.Slice lo hi none p2) v (.ref s3.heap.objs.size)) (EP X pins σ Q) X.j {s3 with heap:=s3.heap.push {cls:=.type "slice",data:=.fields #[vl,vu,.none]}}
 exact tail_any (ops:=[.ref s3.heap.objs.size,v]) ht hT hg (by with_unfolding_all rfl)
def qP(xs:List V)(lo hi:Option Int):List V:=(xs.drop (HT.sIx xs.length 0 lo)).take (HT.sIx xs.length xs.length hi-HT.sIx xs.length 0 lo)
theorem sH xs lo hi:(qP xs lo hi).length<=xs.length:=by unfold qP;rw[CD,List.length_drop];omega
def Tj(K:Ah):V->Option Int->Option Int->Hp->VK->Prop:=λx lo hi H Q=>∃a xs,x=.c a/\SqT K H a xs /\
 ¬(HT.sIx xs.length 0 lo=0/\HT.sIx xs.length xs.length hi=xs.length)/\∀p,H p=none->Q (.c p) (upd H p (.c (qP xs lo hi)))
theorem Wa:SlR X (Tj X.K):=by
 intro pins s σ H x v vl vu lo hi sl Q I rx hs pl pu h;obtain⟨a,xs,rfl,hx,hw,q⟩:=h;cases rx;obtain⟨its,r,ht,hz⟩:=I.tuple hx;have hlen:its.toArray.size=xs.length:=by rw[Ag];exact r.length.symm
 refine⟨"tuple",_,AV.lookup,ht.typeIs,?_⟩;refine HT.um ht hs pl pu (by rw[hlen];exact hw) ?_ (by rw[hlen];exact hz)
 rw[hlen];refine⟨.c s.heap.objs.size,_,I.laid (t':=s.toks) (o:=.c (qP xs lo hi)) (λb ob q=>nx _ q) (Ab _) ?_,rfl,q _ (I.C.fresh (Ab _))⟩;exact⟨Az (sH xs lo hi) hz,_,(r.drop (HT.sIx xs.length 0 lo)).take (HT.sIx xs.length xs.length hi-HT.sIx xs.length 0 lo),tN.new _ _⟩
def UX(K:Ah):R2:=λx y H Q=>∃a b xs ys,x=.c a/\y=.c b/\SqT K H a xs/\SqT K H b ys/\xs≠[]/\xs.length+ys.length<=Aq /\
 (ys=[]->Q (.c a) H)/\(ys≠[]->∀p,H p=none->Q (.c p) (upd H p (.c (xs++ys))))
theorem Vals.uw(r:Vals xs us):us=[]↔xs=[]:=by
 cases r with
 |nil=>simp
 |cons _ _=>simp
theorem aS:OpR X (Br .Add) (UX X.K):=by
 intro pins s σ H x y v u Q I rx ry h;obtain⟨a,b,xs,ys,rfl,rfl,ha,hb,hx,hz,q1,q2⟩:=h;cases rx;cases ry;obtain⟨its,r1,p1,_⟩:=I.tuple ha;obtain⟨its2,r2,p2,_⟩:=I.tuple hb;refine HT.bH p1 p2 (λz=>hx (r1.uw.mp z)) (λz=>⟨.c a,H,I,rfl,q1 (r2.uw.mp z)⟩) (λz=>?_) (by rw[<-r1.length,<-r2.length];exact hz)
 refine⟨.c s.heap.objs.size,_,I.laid (t':=s.toks) (o:=.c (xs++ys)) (λb ob q=>nx _ q) (Ab _) ?_,rfl,q2 (λw=>z (r2.uw.mpr w)) _ (I.C.fresh (Ab _))⟩;exact⟨by rw[Av];exact hz,_,r1.append r2,tN.new _ _⟩
end
noncomputable def ixN(n:Nat)(i:Int):Option Nat:=if 0<=i then (if i<n then some i.toNat else none) else if -(n:Int)<=i then some (i+n).toNat else none
def atI{α:Type}(xs:List α)(i:Int):Option α:=(ixN xs.length i).bind λj=>xs[j]?
theorem jA(h:ixN n i=some j):seqIndex? i n=some j/\j<n∧-(n:Int)<=i/\i<n:=by
 unfold ixN at h;by_cases h0:0<=i
 . rw[if_pos h0]at h
   by_cases h1:i<n
   . rw[if_pos h1]at h
     have e:i.toNat=j:=AW h;exact⟨by rw[seqIndex_of h0 h1,e],by omega,by omega,h1⟩
   . rw[if_neg h1]at h;cases h
 . rw[if_neg h0]at h
   by_cases h1:-(n:Int)<=i
   . rw[if_pos h1]at h
     have e:(i+n).toNat=j:=AW h;exact⟨by rw[seqIndex_neg (by omega) h1,e],by omega,h1,by omega⟩
   . rw[if_neg h1]at h;cases h
theorem pS(h:atI xs i=some v):∃j,seqIndex? i xs.length=some j/\xs[j]?=some v/\j<xs.length∧-(xs.length:Int)<=i/\i<xs.length:=by
 unfold atI at h;cases e:ixN xs.length i with
 |none=>rw[e]at h;cases h
 |some j=>
  rw[e]at h;obtain⟨h1,h2,h3,h4⟩:=jA e;exact⟨j,h1,h,h2,h3,h4⟩
theorem sS{xs}{j:Nat}{v:α}(h:xs[j]?=some v):atI xs (j:Int)=some v:=by
 have hj:j<xs.length:=(Am.mp h).1;have e:ixN xs.length (j:Int)=some j:=by unfold ixN;rw[if_pos (by omega),if_pos (by omega)];simp
 unfold atI;rw[e];exact h
def kO(b:Expr):Prop:=∀o i,subscripted b false o i=operate [o,i] (getItem o i)
def IxR(X:Cx)(r:R2):Prop:=
 ∀(value slice:Expr) (pins:List (Addr × Obj)) (s:Shared) (σ:St) (H:Hp) (x y:V) (v u:Value) (Q:VK),Inv X pins σ H s->RelV x v->RelV y u->r x y H Q ->
  subscripted slice false v u=operate [v,u] (getItem v u)->wpAny (model X.f X.w) X.A (Ez value slice v u) (EP X pins σ Q) X.j s
def MtR(X:Cx)(id:String)(r:V->List V->Hp->VK->Prop):Prop:=
 ∀(pins:List (Addr × Obj)) (s:Shared) (σ:St) (H:Hp) (x:V) (xs:List V) (v:Value) (us:List Value) (Q:VK),Inv X pins σ H s->RelV x v->Vals xs us->r x xs H Q ->
  wpAny (model X.f X.w) X.A (call (.builtin id) (v::us)) (EP X pins σ Q) X.j s
section
variable {X:Cx}{a b:Expr}{ta tb:TE}{pos:Pos}
theorem IxR.or(h:IxR X r)(h':IxR X r'):IxR X (λx y H Q=>r x y H Q\/r' x y H Q):=by
 intro value slice pins s σ H x y v u Q I rx ry q hs;rcases q with q|q
 . exact h value slice pins s σ H x y v u Q I rx ry q hs
 . exact h' value slice pins s σ H x y v u Q I rx ry q hs
theorem Zz(hr:IxR X r)(ha:PE X a ta)(hb:PE X b tb)(hs:kO b):PE X (.Subscript a b pos) (tOp r ta tb):=by intro pins s σ H Q I h;exact FP (YQ ha hb I h λv u s2 x y H2 I2 rx ry q=>hr a b pins s2 σ H2 x y v u Q I2 rx ry q (hs _ _))
def WT(K:Ah):R2:=λx y H Q=>∃p xs i v,x=.c p/\y=.d i/\SqL K H p xs/\atI xs i=some v/\Q v H
def Ua(K:Ah):R2:=λx y H Q=>∃p xs i v,x=.c p/\y=.d i/\SqT K H p xs/\atI xs i=some v/\Q v H
def UZ:R2:=λx y H Q=>∃z i c,x=.e z/\y=.d i/\z.length<=Aq/\atI z.cps.toList i=some c/\Q (.e ⟨#[c]⟩) H
theorem jB:IxR X (WT X.K):=by
 intro value slice pins s σ H x y v u Q I rx ry h hs;obtain⟨p,xs,i,z,rfl,rfl,hq,he,q⟩:=h;cases rx;obtain⟨t,rfl⟩:=ry;obtain⟨its,r,pl,hz⟩:=I.list hq;obtain⟨j,h1,h2,h3,h4,h5⟩:=pS he;obtain⟨w,ew,rw'⟩:=r.get h2;have hl:=r.length;have hn:=uP;have fin:EP X pins σ Q w s:=⟨z,H,I,rw',q⟩;by_cases h0:0<=i
 . have hj:i.toNat=j:=by rw[seqIndex_of h0 h5]at h1;exact AW h1
   exact item_listR pl.isList h0 (by omega) (by rw[hj];simpa using ew) fin hs
 . have hj:(i+(its.toArray.size:Int)).toNat=j:=by
    rw[seqIndex_neg (by omega) h4]at h1
    rw[Ag,<-hl];exact AW h1
   exact subscriptTail_builtinR (x:=w) pl.isList.typeIs EL.lookup
    (wpAny_getItem_list_neg (Q:=λr s'=>r=w/\EP X pins σ Q r s') pl.isList (by omega) (by rw[Ag]<;>omega) (by omega) (by rw[hj];simpa using ew) ⟨rfl,fin⟩) hs
theorem Yw:IxR X (Ua X.K):=by
 intro value slice pins s σ H x y v u Q I rx ry h hs;obtain⟨p,xs,i,z,rfl,rfl,hq,he,q⟩:=h;cases rx;obtain⟨t,rfl⟩:=ry;obtain⟨its,r,pl,hz⟩:=I.tuple hq;obtain⟨j,h1,h2,h3,h4,h5⟩:=pS he;obtain⟨w,ew,rw'⟩:=r.get h2;have hl:=r.length;have hn:=uP;have fin:EP X pins σ Q w s:=⟨z,H,I,rw',q⟩;exact subscriptTail_builtinR (x:=w) pl.typeIs slot_tuple_getitem.lookup
  (getItem_tuple (j:=j) (Q:=λr s'=>r=w/\EP X pins σ Q r s') pl (by omega) (by omega) (by rw[Ag,<-hl];exact h1) (by simpa using ew) ⟨rfl,fin⟩) hs
theorem Yv:IxR X UZ:=by
 intro value slice pins s σ H x y v u Q I rx ry h hs;obtain⟨z,i,c,rfl,rfl,hz,he,q⟩:=h;obtain⟨t,rfl⟩:=rx;obtain⟨t',rfl⟩:=ry;obtain⟨j,h1,h2,h3,h4,h5⟩:=pS he;have hl:z.cps.toList.length=z.length:=by simp[Str.length]
 rw[hl]at h1 h4 h5;have hn:=uP;exact tail_any (typeIs_str s z t) slot_str_getitem.lookup (getItem_str (c:=c) (by
  have e1:decide (i < -(2 ^ 63:Int))=false:=decide_eq_false (by omega)
  have e2:decide (i ≥ 2 ^ 63)=false:=decide_eq_false (by omega)
  rw[e1,e2,Bool.or_false]) (by rw[h1];simpa using h2) ⟨.e ⟨#[c]⟩,H,I.tok _,⟨_,rfl⟩,q⟩) hs
def rIx(K:Ah):R2:=λx y H Q=>WT K x y H Q\/Ua K x y H Q\/UZ x y H Q
theorem Yu:IxR X (rIx X.K):=jB.or (Yw.or Yv)
theorem lI(its:List Value)n j u:EY (·.setIfInBounds j u) {cls:=.type "list",data:=.seq its.toArray n}={cls:=.type "list",data:=.seq (its.set j u).toArray n}:=by simp[EY]
theorem Inv.lst{pins:List (Addr × Obj)}{σ:St}{H:Hp}{s:Shared}{p:Addr}{xs:List V}(I:Inv X pins σ H s)(h:H p=some (.b xs)) :
 ∃(its:List Value) (n:Nat),Vals xs its/\s.heap.get? p=some {cls:=.type "list",data:=.seq its.toArray n}/\xs.length<=Aq:=by
 obtain⟨z,its,n,r,e⟩:=I.C p _ h;exact⟨its,n,r,e,z⟩
theorem Inv.Xg{its its':List Value}(I:Inv X pins σ H s)(h:H p=some (.b xs))
 (ho:s.heap.get? p=some {cls:=.type "list",data:=.seq its.toArray n}) (hf:f {cls:=.type "list",data:=.seq its.toArray n}={cls:=.type "list",data:=.seq its'.toArray n'}) (r:Vals ys its') (hz:ys.length<=Aq) t :
 Inv X pins σ (upd H p (.b ys)) {s with heap:=s.heap.update p f,toks:=t}:=by
 have e:(s.heap.update p f).get? p=some {cls:=.type "list",data:=.seq its'.toArray n'}:=by rw[Heap.get?_update_self f ho (by rw[hf]<;>rfl),hf]
 refine I.write (x:=p) (e:=p) (by rw[h];trivial) (.inl rfl) (λb u hb q=>(Cv _ _ (Bv hb)).trans q) ⟨_,e⟩ ?_
 exact⟨hz,its',n',r,e⟩
def Z2:V->V->V->Hp->(Hp->Prop)->Prop:=λo i v H Q=>∃p xs k j,o=.c p/\i=.d k/\H p=some (.b xs)/\ixN xs.length k=some j/\Q (upd H p (.b (xs.set j v)))
theorem set_list:W4 X Z2:=by
 intro pins s σ H o i v ov iv u Q I ro ri rv h;obtain⟨p,xs,k,j,rfl,rfl,hp,hj,q⟩:=h;cases ro;obtain⟨t,rfl⟩:=ri;obtain⟨its,n,r,ho,hz⟩:=I.lst hp;obtain⟨h1,h2,h3,h4⟩:=jA hj;have hl:=r.length;have hn:=uP;have I':Inv X pins σ (upd H p (.b (xs.set j v))) {s with heap:=s.heap.update p (EY (·.setIfInBounds j u))}:=
  I.Xg hp ho (lI its n j u) (r.set rv j) (by rw[AL];exact hz) s.toks
 by_cases h0:0<=k
 . have hk:k.toNat=j:=by rw[seqIndex_of h0 h4]at h1;exact AW h1
   exact PySem.W.ki_setAt ho h0 (by omega) (by rw[Ag,<-hl];exact h4) (by rw[hk];exact⟨_,I',q⟩)
 . have hk:(k+(its.toArray.size:Int)).toNat=j:=by
    rw[seqIndex_neg (by omega) h3]at h1
    rw[Ag,<-hl];exact AW h1
   exact PySem.W.ki_setBack ho (by omega) (by rw[Ag,<-hl];exact h3) (by omega) (by rw[hk];exact⟨_,I',q⟩)
theorem oW lo hi n:(Bj lo hi none n).1=((HT.sIx n 0 lo:Nat):Int)/\(Bj lo hi none n).2.1=((HT.sIx n n hi:Nat):Int)/\(Bj lo hi none n).2.2=1:=by
 refine⟨?_,?_,rfl⟩
 . cases lo with
   |none=>simp[Bj,HT.sIx]
   |some i=>
    simp only[Bj,HT.sIx,E7,show (1:Int) > 0 by decide,if_true]
    by_cases h:i<0
    . simp only[h,if_true]<;>omega
    . simp only[h,if_false]<;>omega
 . cases hi with
   |none=>simp[Bj,HT.sIx]
   |some i=>
    simp only[Bj,HT.sIx,E7,show (1:Int) > 0 by decide,if_true]
    by_cases h:i<0
    . simp only[h,if_true]<;>omega
    . simp only[h,if_false]<;>omega
theorem qS(its:List Value)lo hi:F3 its.toArray lo hi none=((its.drop (HT.sIx its.length 0 lo)).take (HT.sIx its.length its.length hi-HT.sIx its.length 0 lo)).toArray:=by obtain⟨h1,h2,h3⟩:=oW lo hi its.toArray.size;unfold F3;rw[h1,h2,h3];simp only[sliceRange_one,pick_run,Ag]<;>rfl
def Ti(K:Ah):V->Option Int->Option Int->Hp->VK->Prop:=λx lo hi H Q=>∃a xs,x=.c a/\SqL K H a xs/\∀p,H p=none->Q (.c p) (upd H p (.b (qP xs lo hi)))
theorem ZD:SlR X (Ti X.K):=by
 intro pins s σ H x v vl vu lo hi sl Q I rx hs pl pu h;obtain⟨a,xs,rfl,hx,q⟩:=h;cases rx;obtain⟨its,r,ht,hz⟩:=I.list hx;have hlen:=r.length;refine⟨"list",_,EL.lookup,ht.isList.typeIs,?_⟩;refine E8 ht.isList hs pl pu .none (by simp) ?_ (by rw[Ag]<;>omega)
 rw[qS,<-hlen];refine⟨.c s.heap.objs.size,_,I.laid (t':=s.toks) (o:=.b (qP xs lo hi)) (λb ob q=>nx _ q) (Ab _) ?_,rfl,q _ (I.C.fresh (Ab _))⟩;exact⟨Az (sH xs lo hi) hz,_,0,(r.drop (HT.sIx xs.length 0 lo)).take (HT.sIx xs.length xs.length hi-HT.sIx xs.length 0 lo),AB _ rfl⟩
noncomputable def vE:V->Bool
 |.g=>true
 |.f _=>true
 |.d _=>true
 |.e _=>true
 |_=>false
noncomputable def eqV:V->V->Bool
 |.g,.g=>true
 |.f a,.f b=>a == b
 |.f a,.d b=>(if a then 1 else 0) == b
 |.d a,.f b=>a == (if b then 1 else 0)
 |.d a,.d b=>a == b
 |.e a,.e b=>a == b
 |_,_=>false
theorem Yk(ry:RelV y u)(rx:RelV x v)(fy:vE y=true)(fx:vE x=true):Bb A s u v (eqV y x):=by
 cases y with
 |g=>
  cases ry;cases x with
  |g=>cases rx;exact Bb.same _
  |f b=>cases rx;exact Bb.none_bool b
  |d b=>obtain⟨t,rfl⟩:=rx;exact Bb.none_int b t
  |e b=>obtain⟨t,rfl⟩:=rx;exact Bb.none_str b t
  |_=>exact absurd (show false=true from fx) Ae
 |f a=>
  cases ry;cases x with
  |g=>cases rx;exact Bb.bool_none a
  |f b=>cases rx;exact Bb.bool_bool a b
  |d b=>obtain⟨t,rfl⟩:=rx;exact Bb.bool_int a b t
  |e b=>obtain⟨t,rfl⟩:=rx;exact Bb.bool_str a b t
  |_=>exact absurd (show false=true from fx) Ae
 |d a=>
  obtain⟨t',rfl⟩:=ry;cases x with
  |g=>cases rx;exact Bb.int_none a t'
  |f b=>cases rx;exact Bb.int_bool a t' b
  |d b=>obtain⟨t,rfl⟩:=rx;exact Bb.int_int a t' b t
  |e b=>obtain⟨t,rfl⟩:=rx;exact Bb.int_str a t' b t
  |_=>exact absurd (show false=true from fx) Ae
 |e a=>
  obtain⟨t',rfl⟩:=ry;cases x with
  |g=>cases rx;exact Bb.str_none a t'
  |f b=>cases rx;exact Bb.str_bool a t' b
  |d b=>obtain⟨t,rfl⟩:=rx;exact Bb.str_int a t' b t
  |e b=>obtain⟨t,rfl⟩:=rx;exact Bb.str_str a t' b t
  |_=>exact absurd (show false=true from fx) Ae
 |_=>exact absurd (show false=true from fy) Ae
def eqU(x:V)(u:Value):Bool:=match u with
 |.none=>eqV .g x
 |.bool b=>eqV (.f b) x
 |.int i _=>eqV (.d i) x
 |.str z _=>eqV (.e z) x
 |_=>false
theorem my(r:RelV y u)(f:vE y=true):eqU x u=eqV y x:=by
 cases y with
 |g=>cases r;rfl
 |f b=>cases r;rfl
 |d i=>obtain⟨t,rfl⟩:=r;rfl
 |e z=>obtain⟨t,rfl⟩:=r;rfl
 |_=>exact absurd (show false=true from f) Ae
theorem rj(rx:RelV x v)(fx:vE x=true):∀{xs} {us},Vals xs us->xs.all vE=true->∀u∈us,Bb A s u v (eqU x u)
 |_,_,.nil,_=>λu hu=>by cases hu
 |y::xs,u::us,.cons r t,f=>λu' hu=>by
  rw[FZ,cf]at f;rcases As.mp hu with rfl|hu
  . rw[my r f.1];exact Yk r rx f.1 fx
  . exact rj rx fx t f.2 u' hu
theorem pU:yO X (.builtin "len") (λxs H Q=>∃p ys,xs=[.c p]/\(SqL X.K H p ys\/SqT X.K H p ys)/\Q (.d ys.length) H):=by
 intro pins s σ H xs us Q I r h;obtain⟨p,ys,rfl,hq,q⟩:=h;obtain⟨u,rfl,rx⟩:=vals1 r;cases rx;have hn:=uP;rcases hq with hq|hq
 . obtain⟨its,r',pl,hz⟩:=I.list hq
   have hlen:=r'.length;exact Calls.call_len_list pl.isList (by simp only[Ag]<;>omega) ⟨.d ys.length,H,I.tok _,⟨s.toks+1,by rw[Ag,hlen]⟩,q⟩
 . obtain⟨its,r',pl,hz⟩:=I.tuple hq
   have hlen:=r'.length;exact len_tuple pl (by simp only[Ag]<;>omega) ⟨.d ys.length,H,I.tok _,⟨s.toks+1,by rw[Ag,hlen]⟩,q⟩
theorem pV:yO X (.builtin "len") (λxs H Q=>∃z,xs=[.e z]/\z.length<=Aq/\Q (.d z.length) H):=by intro pins s σ H xs us Q I r h;obtain⟨z,rfl,hz,q⟩:=h;obtain⟨u,rfl,t,rfl⟩:=vals1 r;have hn:=uP;exact len_str (by omega) ⟨.d z.length,H,I.tok _,⟨_,rfl⟩,q⟩
theorem uC:yO X (.type "tuple") (λxs H Q=>∃p ys,xs=[.c p]/\((SqL X.K H p ys/\∀l,H l=none->Q (.c l) (upd H l (.c ys)))\/(SqT X.K H p ys/\Q (.c p) H))):=by
 intro pins s σ H xs us Q I r h;obtain⟨p,ys,rfl,h⟩:=h;obtain⟨u,rfl,rx⟩:=vals1 r;cases rx;rcases h with⟨hq,q⟩|⟨hq,q⟩
 . obtain⟨its,r',pl,hz⟩:=I.list hq
   have hlen:=r'.length;refine call_tuple_list pl.isList (λh' kp=>?_) (by simp only[Ag]<;>omega)
   have I1:Inv X pins σ H {s with heap:=h'}:=I.kept (t':=s.toks) kp
   have I2:Inv X pins σ (upd H h'.objs.size (.c ys)) {s with heap:=h'.push {cls:=.type "tuple",data:=.seq its.toArray}}:=
    I1.laid (t':=s.toks) (λb o e=>nx _ e) (Ab _) (show yP X.f X.w _ _ _ (.c ys) from ⟨hz,its,r',tN.new _ _⟩)
   exact⟨.c h'.objs.size,_,I2,rfl,q _ (I1.C.fresh (Ab _))⟩
 . obtain⟨its,r',pl,hz⟩:=I.tuple hq
   exact call_tuple_same pl ⟨.c p,H,I,rfl,q⟩
def tyV(K:Ah)(T:String)(x:V)(H:Hp):Prop:=match x with
 |.e _=>T="str"
 |.d _=>T="int"
 |.c p=>(T="list"/\∃xs,SqL K H p xs)\/(T="tuple"/\∃o,K.lookup p=some o/\o.cls=.type "tuple"/\o.dict=none) \/
  (T="dict"/\((∃kvs,H p=some (.i kvs))\/∃kvs,H p=some (.j kvs)))\/(T="set"/\∃S n,H p=some (.l S n))
 |_=>False
theorem Wu(I:Inv X pins σ H s)(r:RelV x v)(ty:tyV X.K T x H) :
 s.TypeIs v T/\∀a,v=.ref a->∃ob,s.heap.get? a=some ob/\ob.dict=none:=by
 cases x with
 |e z=>
  obtain⟨t,rfl⟩:=r;cases (show T="str" from ty);exact⟨typeIs_str s z t,λ_ e=>nomatch e⟩
 |d i=>
  obtain⟨t,rfl⟩:=r;cases (show T="int" from ty);exact⟨Cr s i t,λ_ e=>nomatch e⟩
 |c p=>
  cases r;rcases ty with⟨rfl,xs,hq⟩|⟨rfl,o,hk,hc,hd⟩|⟨rfl,hk⟩|⟨rfl,S,n,hk⟩
  . obtain⟨its,_,pl,_⟩:=I.list hq
    refine⟨pl.isList.typeIs,λa e=>?_⟩;cases e;obtain⟨o,n,e,c,hd,_⟩:=pl;exact⟨o,e,hd⟩
  . refine⟨⟨o,I.kIn p o hk,hc⟩,λa e=>?_⟩
    cases e;exact⟨o,I.kIn _ o hk,hd⟩
  . have z:∃o,s.heap.get? p=some o/\o.ExactDict:=by
     rcases hk with⟨kvs,hk⟩|⟨kvs,hk⟩
     . obtain⟨_,_,_,_,o,_,_,e,ex,_⟩:=I.C p _ hk
       exact⟨o,e,ex⟩
     . obtain⟨_,_,_,_,o,_,_,e,ex,_⟩:=I.C p _ hk
       exact⟨o,e,ex⟩
    obtain⟨o,e,ex⟩:=z;refine⟨⟨o,e,ex.1⟩,λa e2=>?_⟩;cases e2;exact⟨o,e,ex.2.1⟩
  . obtain⟨o,_,_,_,e,ex,_⟩:=I.C p _ hk
    refine⟨⟨o,e,ex.1⟩,λa e2=>?_⟩;cases e2;exact⟨o,e,ex.2.1⟩
 |_=>exact Aw ty
def tBM(K:Ah)(T:String)(r:V->List V->Hp->VK->Prop)(to:TE)(t:TA):TE:=λσ H Q=>to σ H λx H1=>tyV K T x H1/\t σ H1 λxs H2=>r x xs H2 Q
variable {o e:Expr}{es:List Expr}{to:TE}{t:TA}{name:Str}{apos cpos:Pos}{T id:String}{r:V->List V->Hp->VK->Prop}
theorem dR(pa:PlainAttrs T)(slot:Slot T name id)(hty:typeOf (.builtin id)=pure (.type "method_descriptor"))(hm:MtR X id r)(ho:PE X o to)(ha:PA X (e::es) t)
 (hbase:CM o name X.a (eval o X.a)=eval o X.a:=by rfl)
 (hfew:((backTo cpos (AF (e::es) X.a)).all (λx=>!x.1)&&(backToKw cpos (keywordEach [] X.a)).all (λx=>x.1.isSome)
  && decide ((e::es).length+([]:List Keyword).length+(if ([]:List Keyword).isEmpty then 0 else 1)<30))=true:=by rfl)
 (hline:(apos.endLine == cpos.line)=true:=by rfl) (hs:AF (e::es) X.a=(false,eval e X.a)::AF es X.a:=by rfl) (hplain:(backTo cpos (AF es X.a)).any (·.1)=false:=by rfl) :
 PE X (.Call (.Attribute o name apos) (e::es) [] cpos) (tBM X.K T r to t):=by
 intro pins s σ H Q I h;refine wpAny_Call_method_late hbase hfew hline rfl (thn (ho pins s σ H _ I h) λv s1 ⟨x,H1,I1,r1,ty,q1⟩=>?_);obtain⟨h1,h2⟩:=Wu I1 r1 ty;refine⟨T,id,pa,slot,hty,h1,h2,?_⟩;have hA:=ha cpos pins s1 σ H1 _ I1 q1;rw[hs]at hA ⊢;refine Calls.callWith_builtin (by show (false||(backTo cpos (AF es X.a)).any (·.1))=false;rw[hplain]<;>rfl) (Calls.evalArgs_plain ?_)
 exact thn hA λus s2 ⟨vs,H2,I2,r2,q2⟩=>hm pins s2 σ H2 x vs v us Q I2 r1 r2 q2
/- xs.append(e),list.index on a module's tuple .. are MtR facts of 06m -/
end
def MtM(X:Cx)(id:String)(r:V->List V->Hp->VK->Prop):Prop:=
 ∀(pins:List (Addr × Obj)) (s:Shared) (σ:St) (H:Hp) (x:V) (xs:List V) (v:Value) (us:List Value) (Q:VK),Inv X pins σ H s->RelV x v->Vals xs us->r x xs H Q ->
  wpAny (model X.f X.w) X.A (call (.builtin id) (v::us)) (EP X pins σ Q) X.j s
theorem Vals.one:∀{x} {us},Vals [x] us->∃u,us=[u]/\RelV x u
 |_,_,.cons r .nil=>⟨_,rfl,r⟩
theorem Vals.rep(h:Vals xs us):∀k:Nat,Vals (AA k xs).flatten (AA k us).flatten
 |0=>.nil
 |k+1=>by rw[BJ,BJ,B7,B7];exact Vals.append h (Vals.rep h k)
theorem foldl_rep its:∀k (acc:List Value),
 Dj (λx1 x2=>x1++x2) acc.toArray (AA k its.toArray)=(acc++(AA k its).flatten).toArray
 |0,acc=>by simp
 |k+1,acc=>by
  have e:acc.toArray++its.toArray=(acc++its).toArray:=by simp
  have e2:(acc++its)++(AA k its).flatten=acc++(AA (k+1) its).flatten:=by rw[BJ,B7,Bk]
  rw[<-e2,<-foldl_rep its k (acc++its),<-e,BJ,List.foldl_cons]
section
variable {X:Cx}{pins:List (Addr × Obj)}{σ:St}{H:Hp}{s:Shared}{l b:Addr}{xs ys zs:List V}
theorem Inv.TQ{its its':List Value}(I:Inv X pins σ H s)(hH:H l=some (.b xs))
 (e:s.heap.get? l=some {cls:=.type "list",data:=.seq its.toArray n}) (hf:f its.toArray=its'.toArray) (hv:Vals ys its') (hz:ys.length<=Aq) :
 Inv X pins σ (upd H l (.b ys)) {s with heap:=s.heap.update l (EY f),toks:=t'}:=by
 have q:=PySem.IsL.update e f;rw[hf]at q;refine I.write (x:=l) (e:=l) (by rw[hH];exact trivial) (.inl rfl) (λb' u hb hu=>(Cv s.heap (EY f) (Bv hb)).trans hu) ⟨_,q⟩ ?_
 exact⟨hz,its',_,hv,q⟩
theorem Inv.Vo(I:Inv X pins σ H s)(hv:Vals ys its)(hz:ys.length<=Aq) :
 Inv X pins σ (upd H s.heap.objs.size (.b ys)) {s with heap:=s.heap.push {cls:=.type "list",data:=.seq its.toArray},toks:=t'}:=
 I.laid (λ_ _ q=>nx _ q) (Ab _) ⟨hz,its,0,hv,AB _ rfl⟩
theorem Inv.fresh(I:Inv X pins σ H s):H s.heap.objs.size=none:=I.C.fresh (Ab _)
theorem Inv.aH(I:Inv X pins σ H s)(hH:H l=some (.b xs)):xs.length<=Aq/\∃its n,Vals xs its/\xs.length=its.length/\s.heap.get? l=some {cls:=.type "list",data:=.seq its.toArray n}:=by obtain⟨z,its,n,r,e⟩:=I.C l _ hH;exact⟨z,its,n,r,r.length,e⟩
theorem ef(h:n<=Aq):C7 n=false:=by unfold C7;exact decide_eq_false (by omega)
end
section
variable {X:Cx}
def jT:V->List V->Hp->VK->Prop:=λx vs H Q=>∃l xs y,x=.c l/\vs=[y]/\H l=some (.b xs)/\xs.length<Aq/\Q .g (upd H l (.b (xs++[y])))
theorem qt:MtM X "list.append" jT:=by
 intro pins s σ H x vs v us Q I rx rv h;obtain⟨l,xs,y,rfl,rfl,hH,hz,q⟩:=h;cases rx;obtain⟨u,rfl,ru⟩:=rv.one;obtain⟨z,its,n,r,hl,e⟩:=I.aH hH;refine B1 F.slot_list_append ⟨_,e,rfl⟩ F.entry_list_append (F.args_list_append_2 _ _) (PySem.list_append l its.toArray n u (by rw[Ag];omega)) ⟨e,?_⟩
 refine⟨.g,_,I.TQ (its':=its++[u]) hH e (by simp) (r.append (.cons ru .nil)) ?_,rfl,q⟩
 rw[Av,List.length_singleton];omega
def av:R2:=λx y H Q=>∃l b xs zs,x=.c l/\y=.c b/\H l=some (.b xs)/\H b=some (.b zs)/\xs.length+zs.length<=Aq/\∀p,H p=none->Q (.c p) (upd H p (.b (xs++zs)))
theorem lU:OpR X (Br .Add) av:=by
 intro pins s σ H x y v u Q I rx ry h;obtain⟨l,b,xs,zs,rfl,rfl,hH,hB,hz,q⟩:=h;cases rx;cases ry;obtain⟨z,its,n,r,hl,e⟩:=I.aH hH;obtain⟨z2,its2,n2,r2,hl2,e2⟩:=I.aH hB;refine PySem.P.add_list e e2 ?_ (by rw[Ag,Ag];omega)
 have ea:its.toArray++its2.toArray=(its++its2).toArray:=by simp
 rw[ea];exact⟨.c _,_,I.Vo (t':=s.toks) (r.append r2) (by rw[Av];omega),rfl,q _ I.fresh⟩
def Te:R2:=λx y H Q=>∃l k xs,x=.c l/\y=.d k/\H l=some (.b xs)∧-(2 ^ 63)<=k/\k<2 ^ 63/\xs.length*k.toNat<=Aq /\
 ∀p,H p=none->Q (.c p) (upd H p (.b (AA k.toNat xs).flatten))
theorem len_rep{α:Type}(xs:List α)k:(AA k xs).flatten.length=k*xs.length:=by
 induction k with
 |zero=>simp
 |succ k ih=>rw[BJ,B7,Av,ih,Nat.succ_mul,Nat.add_comm]
theorem Xp:OpR X (Br .Mult) Te:=by
 intro pins s σ H x y v u Q I rx ry h;obtain⟨l,k,xs,rfl,rfl,hH,h1,h2,hz,q⟩:=h;cases rx;obtain⟨t,rfl⟩:=ry;obtain⟨z,its,n,r,hl,e⟩:=I.aH hH;have hlen:its.toArray.size*k.toNat<=Aq:=by rw[Ag,<-hl];exact hz
 have hcap:¬its.toArray.size*k.toNat > (2 ^ 63-1)/8:=by
  have:(Aq:Nat)<=(2 ^ 63-1)/8:=by decide
  omega
 have hfit:¬(!Builtin.List.listFitsIndex k)=true:=by rw[fitsIndex_both h1 h2];exact Ae
 have hlong:¬C7 (its.toArray.size*k.toNat)=true:=by rw[ef hlen];exact Ae
 have hnew:Dj (λx1 x2=>x1++x2) #[] (AA (if its.toArray.isEmpty=true then 0 else k.toNat) its.toArray)=(AA k.toNat its).flatten.toArray:=by
  have f0:∀m:Nat,Dj (λx1 x2=>x1++x2) #[] (AA m its.toArray)=(AA m its).flatten.toArray:=λm=>by have:=foldl_rep its m [];rw[CY]at this;exact this
  rw[f0];cases its with
  |nil=>simp
  |cons a r'=>rw[if_neg (by simp)]
 refine Ca (T:="list") (U:="int") (by decide) ⟨_,e,rfl⟩ (λs'=>Cr s' k t) noFill_list_mul D4 BY repeat_list DK.lookup
  (B1 BY (Cr s k t) DL (Dw _ _) (int___rmul___int_list k t l its.toArray n)
   ⟨e,rfl,⟨_,e,rfl⟩,B1 F.slot_list_mul ⟨_,e,rfl⟩ F.entry_list_mul (F.args_list_mul_2 _ _) (AutoListH.list___mul___list_int_3 l its.toArray n k t hfit hcap hlong) ⟨e,?_⟩⟩)
 rw[hnew];exact⟨.c _,_,I.Vo (t':=s.toks) (r.rep k.toNat) (by rw[len_rep,Nat.mul_comm];exact hz),rfl,q _ I.fresh⟩
end
end L2
namespace Att
open PySem PySem.W PySem.Calls PyProof.Rows
theorem sQ:∀ns vs,WellAll P h vs (ns.map WData.int)->IntsAre vs ns:=by
 intro ns;induction ns with
 |nil=>
  intro vs w;rw[CB]at w;cases w;exact .nil
 |cons n ns ih=>
  intro vs w;rw[A4]at w;cases w with
  |cons a b=>
   cases a;exact .cons _ _ (ih _ b)
theorem hG{l:OpenLaw}(hn:l.most=some n)
 (hpre:l.row.toRowW.claim.pre args=true) (hwl:WellAll P h vals args) :
 ∃a vs ns,vals=[A7 a]/\args=[WData.list (ns.map WData.int)]/\h.get? a=some {cls:=.type "list",data:=.seq vs.toArray}/\IntsAre vs ns/\ns.length<=n:=by
 have hsh:WShape.hasAll [] args [.list .int]=true:=(pre_splitW hpre).1;have hc:l.pre.holds [] {args:=args}=true:=(pre_splitW hpre).2;obtain⟨d,r,rfl,h1,h2⟩:=hasAllW_cons hsh;obtain rfl:=hasAllW_nil h2;obtain⟨xs,rfl,h3⟩:=hasW_list h1;obtain⟨ns,rfl⟩:=items_int h3;have hlen:ns.length<=n:=by
  unfold OpenLaw.pre at hc;have h4:(WTm.not (.lt (.lit (.int (n:Int))) (.len (.arg 0)))).holds [] {args:=[.list (ns.map .int)]}=true:=by have h4:=(holds_andW hc).1;rw[hn]at h4;exact h4
  have h5:=condW_of h4 (w_not (w_lt w_lit (w_len_list (w_arg rfl))));rw[Ad]at h5;refine Nat.le_of_not_lt λq=>?_;have q':(n:Int)<((ns.length:Nat):Int):=by omega
  first
   |(rw[decide_eq_true q']at h5;exact absurd h5 (by decide))
   |(simp at h5;omega)
 cases hwl with
 |cons w1 w2=>
  cases w2;cases w1 with
  |list ho hall=>exact⟨_,_,ns,rfl,rfl,ho,sQ ns _ hall,hlen⟩
theorem iy(l:OpenLaw)args:l.row.toRowW.claim.post args (.bool true) args=true:=
 postW_of (r:=l.row.toRowW) (X:=(true == true))
  (show WShape.has [] (.bool true) .bool=true by first|rfl|decide|simp[WShape.has,WShape.arms,WShape.armsAll])
  (show (WTm.eq .res (.lit (.bool true))).value [] {args:=args,res:=some (.bool true),after:=args}=some (.bool (true == true)) from w_eq_bool (w_res rfl) w_lit) rfl
theorem ou{l:OpenLaw}
 (hn:l.most=some n) (hdf:d.params.defaults=[])
 (call:∀w s₀ s₁ mg mb fa o pm cd doc a vs ns,
  Ground q loose [] XP w s₀ mg mb s₁.heap->YP w s₁.heap ->
  s₁.heap.get? fa=some o->o.data=.func (docDef d.name d.params d.body d.scope pm cd doc)->s₁.heap.CodeRec cd d.name->mg d.name=some (.ref fa) ->
  s₁.heap.get? a=some {cls:=.type "list",data:=.seq vs.toArray}->IntsAre vs ns->ns.length<=n->s₁.gens=#[] ->
  codeAny (model l.prog w) callerA (.call (.ref fa) ⟨[.ref a],[]⟩) (λr s'=>r=.ok (.ret (.bool true))/\OldK s₁.heap s'.heap/\s'.os=s₁.os/\AllBare s'.gens) s₁) :
 WalkO q loose XP YP l.row.toRowW d [] (λf vs=>PySem.call f vs):=by
 intro w s₀ s₁ mg mb G Y fa o pm cd doc dV kV ho hd hcd hD hmg hg args vals as hpre hlay hrd hwl hlo;obtain rfl:dV=.none:=Dflts.none hD hdf;obtain rfl:kV=.none:=Dflts.noKw hD;obtain⟨a,vs,ns,rfl,rfl,hobj,hints,hlen⟩:=hG hn hpre hwl;refine enter_call (CA (call w s₀ s₁ mg mb fa o pm cd doc a vs ns G Y ho (fd_plain hd) hcd hmg hobj hints hlen hg) λr s' hq=>?_);obtain⟨rfl,h2,h3,h4⟩:=hq;exact⟨.inl ⟨.bool true,.bool true,[],rfl,λ_=>rfl,.bool true,iy l _,λ_=>⟨EM,λ_ hm=>(nomatch hm)⟩⟩,h2,h3,h4⟩
end Att
namespace L2
open PySem PySem.Spec PyProof.Rows
theorem pN:∀{vs} {ns},IntsAre vs ns->Vals (ns.map V.d) vs
 |_,_,.nil=>.nil
 |_,_,.cons n t h=>.cons ⟨t,rfl⟩ (pN h)
end L2
/- THE LAST THEOREM (shape;LID,My.* are yours):
   My.Adr: a structure of the addresses that your layer names (classes,functions);My.Txt K t: a structure (Prop) of the equations over K;
   My.txt_mk:{K} {implicit addresses ..} (e1:nsIn K AI "law"=some (some (.ref f))) (e2:K.lookup f=some ⟨oc,od,.func (fnOf "law" "law" params body scope dV kV doc pm an cdv ct),sl⟩) (e3:codeIn K cdv "law"=true) ..:∃t,My.Txt K t
(the tactic k_is has no namespace: write k_is) -/
namespace L2
open PySem PySem.Spec PyProof.Rows
noncomputable def xP(s:Stmt):DM:=match s with
 |.FunctionDef _ a _ _ _ _ _ _ _ _=>a
 |_=>{posonlyargs:=[],args:=[],vararg:=none,kwonlyargs:=[],kw_defaults:=[],kwarg:=none,defaults:=[]}
noncomputable def yW(s:Stmt):List Stmt:=match s with
 |.FunctionDef _ _ b _ _ _ _ _ _ _=>b
 |_=>[]
noncomputable def zG(s:Stmt):Scope:=match s with
 |.FunctionDef _ _ _ _ _ _ sc _ _ _=>sc
 |_=>{kind:=.function,names:=[],isGenerator:=false,isCoroutine:=false}
abbrev CX0:CXT:=λ_ _ _ _ _ _=>False
abbrev E0:XK:=λ_ _ _=>False
theorem Zy:Passes CX0 X E0:=λ_ _ _ _ _ _ _ h=>h.elim
structure Fun(K:Ah)(x qual:Str)(st:Stmt)(f:Addr)(fd:BH):Prop where
 a:∃(oc:Value) (od:Option Addr) (kV doc pm:Value) (an:Option Addr) (cdv ct:Value) (osl:Array (Option Value)),
  fd=BA x qual (xP st) (yW st) (zG st) .none kV doc pm an cdv ct/\K.lookup f=some ⟨oc,od,.func fd,osl⟩/\BG K cdv qual=true
 b:BP K (.ref f)=true
section
variable {P:Program}{w:World}{K:Ah}{mg:Str->Option Value}{base:Heap}
theorem Fun.binds{st}{ps:List Str}(F:Fun K x qual st f fd)
 (h:∀kV doc pm an cdv ct (us:List Value),us.length=ps.length->FN (BA x qual (xP st) (yW st) (zG st) .none kV doc pm an cdv ct) ⟨us,[]⟩=pure (ps.zip us)):Binds K fd ps []:=by
 obtain⟨oc,od,kV,doc,pm,an,cdv,ct,osl,rfl,lk,hcd⟩:=F.a;exact .all (h kV doc pm an cdv ct)
theorem Yn{st}{kV doc pm cdv ct}(l:K.lookup f=some ⟨oc,od,.func (BA x qual (xP st) (yW st) (zG st) .none kV doc pm an cdv ct),osl⟩)
 (c:BG K cdv qual=true) (k:BP K (.ref f)=true):Fun K x qual st f (BA x qual (xP st) (yW st) (zG st) .none kV doc pm an cdv ct):=⟨⟨oc,od,kV,doc,pm,an,cdv,ct,osl,rfl,l,c⟩,k⟩
end
theorem uq{A B:Prop}(h:B):if false=true then A else B:=by rw[if_neg Ae];exact h
theorem rZ{A B:Prop}(h:A):if true=true then A else B:=by rw[if_pos rfl];exact h
def xq(H H':Hp):Prop:=∀b o,H b=some o->H' b=some o
theorem xq.refl H:xq H H:=λ_ _ h=>h
theorem xq.trans(a:xq H H1)(b:xq H1 H2):xq H H2:=λc o h=>b c o (a c o h)
end L2
end
section
namespace M
open PySem
noncomputable def el(a n:Nat)(f:a=n->Bool):Bool:=if h:a=n then f h else false
theorem z6(h:el a n f=true):∃hc,f hc=true:=by
 unfold el at h;by_cases hc:a=n
 . rw[dif_pos hc]at h;exact⟨hc,h⟩
 . rw[dif_neg hc]at h;cases h
def Ze(e:Expr)(k:BoolOp->List Expr->Pos->Bool):Bool:=el e.ctorIdx 0 λh=>Expr.BoolOp.elim (motive_1:=λ_=>Bool) e h k
theorem jv(h:Ze e k=true):∃o xs p,e=.BoolOp o xs p/\k o xs p=true:=by obtain⟨hc,h⟩:=z6 h;obtain⟨o,xs,p,rfl⟩:∃o xs p,e=.BoolOp o xs p:=Expr.BoolOp.elim (motive_1:=λe=>∃o xs p,e=Expr.BoolOp o xs p) e hc λo xs p=>⟨o,xs,p,rfl⟩;exact⟨o,xs,p,rfl,h⟩
def VH(e:Expr)(k:Expr->Operator->Expr->Pos->Bool):Bool:=el e.ctorIdx 2 λh=>Expr.BinOp.elim (motive_1:=λ_=>Bool) e h k
theorem nA(h:VH e k=true):∃l o r p,e=.BinOp l o r p/\k l o r p=true:=by obtain⟨hc,h⟩:=z6 h;obtain⟨l,o,r,p,rfl⟩:∃l o r p,e=.BinOp l o r p:=Expr.BinOp.elim (motive_1:=λe=>∃l o r p,e=Expr.BinOp l o r p) e hc λl o r p=>⟨l,o,r,p,rfl⟩;exact⟨l,o,r,p,rfl,h⟩
def eUn(e:Expr)(k:UnaryOp->Expr->Pos->Bool):Bool:=el e.ctorIdx 3 λh=>Expr.UnaryOp.elim (motive_1:=λ_=>Bool) e h k
theorem bV(h:eUn e k=true):∃o x p,e=.UnaryOp o x p/\k o x p=true:=by obtain⟨hc,h⟩:=z6 h;obtain⟨o,x,p,rfl⟩:∃o x p,e=.UnaryOp o x p:=Expr.UnaryOp.elim (motive_1:=λe=>∃o x p,e=Expr.UnaryOp o x p) e hc λo x p=>⟨o,x,p,rfl⟩;exact⟨o,x,p,rfl,h⟩
def Yi(e:Expr)(k:DM->Expr->Scope->Pos->Bool):Bool:=el e.ctorIdx 4 λh=>Expr.Lambda.elim (motive_1:=λ_=>Bool) e h k
theorem nE(h:Yi e k=true):∃a b c p,e=.Lambda a b c p/\k a b c p=true:=by obtain⟨hc,h⟩:=z6 h;obtain⟨a,b,c,p,rfl⟩:∃a b c p,e=.Lambda a b c p:=Expr.Lambda.elim (motive_1:=λe=>∃a b c p,e=Expr.Lambda a b c p) e hc λa b c p=>⟨a,b,c,p,rfl⟩;exact⟨a,b,c,p,rfl,h⟩
def VI(e:Expr)(k:List (Option Expr)->List Expr->Pos->Bool):Bool:=el e.ctorIdx 6 λh=>Expr.Dict.elim (motive_1:=λ_=>Bool) e h k
theorem fI(h:VI e k=true):∃ks vs p,e=.Dict ks vs p/\k ks vs p=true:=by obtain⟨hc,h⟩:=z6 h;obtain⟨ks,vs,p,rfl⟩:∃ks vs p,e=.Dict ks vs p:=Expr.Dict.elim (motive_1:=λe=>∃ks vs p,e=Expr.Dict ks vs p) e hc λks vs p=>⟨ks,vs,p,rfl⟩;exact⟨ks,vs,p,rfl,h⟩
def Yg(e:Expr)(k:Expr->List EA->Scope->Pos->Bool):Bool:=el e.ctorIdx 8 λh=>Em (motive_1:=λ_=>Bool) e h k
theorem nB(h:Yg e k=true):∃x gs sc p,e=.ListComp x gs sc p/\k x gs sc p=true:=by obtain⟨hc,h⟩:=z6 h;obtain⟨x,gs,sc,p,rfl⟩:∃x gs sc p,e=.ListComp x gs sc p:=Em (motive_1:=λe=>∃x gs sc p,e=Expr.ListComp x gs sc p) e hc λx gs sc p=>⟨x,gs,sc,p,rfl⟩;exact⟨x,gs,sc,p,rfl,h⟩
def Yh(e:Expr)(k:Expr->List CmpOp->List Expr->Pos->Bool):Bool:=el e.ctorIdx 15 λh=>EN (motive_1:=λ_=>Bool) e h k
theorem nD(h:Yh e k=true):∃l os rs p,e=.Compare l os rs p/\k l os rs p=true:=by obtain⟨hc,h⟩:=z6 h;obtain⟨l,os,rs,p,rfl⟩:∃l os rs p,e=.Compare l os rs p:=EN (motive_1:=λe=>∃l os rs p,e=Expr.Compare l os rs p) e hc λl os rs p=>⟨l,os,rs,p,rfl⟩;exact⟨l,os,rs,p,rfl,h⟩
def fH(e:Expr)(k:Expr->List Expr->List Keyword->Pos->Bool):Bool:=el e.ctorIdx 16 λh=>Expr.Call.elim (motive_1:=λ_=>Bool) e h k
theorem qi(h:fH e k=true):∃f xs ks p,e=.Call f xs ks p/\k f xs ks p=true:=by obtain⟨hc,h⟩:=z6 h;obtain⟨f,xs,ks,p,rfl⟩:∃f xs ks p,e=.Call f xs ks p:=Expr.Call.elim (motive_1:=λe=>∃f xs ks p,e=Expr.Call f xs ks p) e hc λf xs ks p=>⟨f,xs,ks,p,rfl⟩;exact⟨f,xs,ks,p,rfl,h⟩
def VJ(e:Expr)(k:Expr->Int->Option Expr->Pos->Bool):Bool:=el e.ctorIdx 17 λh=>E9 (motive_1:=λ_=>Bool) e h k
theorem fK(h:VJ e k=true):∃x c s p,e=.FormattedValue x c s p/\k x c s p=true:=by obtain⟨hc,h⟩:=z6 h;obtain⟨x,c,s,p,rfl⟩:∃x c s p,e=.FormattedValue x c s p:=E9 (motive_1:=λe=>∃x c s p,e=Expr.FormattedValue x c s p) e hc λx c s p=>⟨x,c,s,p,rfl⟩;exact⟨x,c,s,p,rfl,h⟩
def eJn(e:Expr)(k:List Expr->Pos->Bool):Bool:=el e.ctorIdx 18 λh=>FE.elim (motive_1:=λ_=>Bool) e h k
theorem bR(h:eJn e k=true):∃xs p,e=.JoinedStr xs p/\k xs p=true:=by obtain⟨hc,h⟩:=z6 h;obtain⟨xs,p,rfl⟩:∃xs p,e=.JoinedStr xs p:=FE.elim (motive_1:=λe=>∃xs p,e=FE xs p) e hc λxs p=>⟨xs,p,rfl⟩;exact⟨xs,p,rfl,h⟩
def bP(e:Expr)(k:Const->Nat->Pos->Bool):Bool:=el e.ctorIdx 19 λh=>F0.elim (motive_1:=λ_=>Bool) e h k
theorem rK(h:bP e k=true):∃c n p,e=.Constant c n p/\k c n p=true:=by obtain⟨hc,h⟩:=z6 h;obtain⟨c,n,p,rfl⟩:∃c n p,e=.Constant c n p:=F0.elim (motive_1:=λe=>∃c n p,e=F0 c n p) e hc λc n p=>⟨c,n,p,rfl⟩;exact⟨c,n,p,rfl,h⟩
def VG(e:Expr)(k:Expr->Str->Pos->Bool):Bool:=el e.ctorIdx 20 λh=>FF.elim (motive_1:=λ_=>Bool) e h k
theorem fG(h:VG e k=true):∃o x p,e=.Attribute o x p/\k o x p=true:=by obtain⟨hc,h⟩:=z6 h;obtain⟨o,x,p,rfl⟩:∃o x p,e=.Attribute o x p:=FF.elim (motive_1:=λe=>∃o x p,e=FF o x p) e hc λo x p=>⟨o,x,p,rfl⟩;exact⟨o,x,p,rfl,h⟩
def bU(e:Expr)(k:Expr->Expr->Pos->Bool):Bool:=el e.ctorIdx 21 λh=>FG.elim (motive_1:=λ_=>Bool) e h k
theorem rM(h:bU e k=true):∃l r p,e=.Subscript l r p/\k l r p=true:=by obtain⟨hc,h⟩:=z6 h;obtain⟨l,r,p,rfl⟩:∃l r p,e=.Subscript l r p:=FG.elim (motive_1:=λe=>∃l r p,e=FG l r p) e hc λl r p=>⟨l,r,p,rfl⟩;exact⟨l,r,p,rfl,h⟩
def eName(e:Expr)(k:Str->Pos->Bool):Bool:=el e.ctorIdx 23 λh=>DS.elim (motive_1:=λ_=>Bool) e h k
theorem yI(h:eName e k=true):∃x p,e=.Name x p/\k x p=true:=by obtain⟨hc,h⟩:=z6 h;obtain⟨x,p,rfl⟩:∃x p,e=.Name x p:=DS.elim (motive_1:=λe=>∃x p,e=DS x p) e hc λx p=>⟨x,p,rfl⟩;exact⟨x,p,rfl,h⟩
def Yj(e:Expr)(k:List Expr->Pos->Bool):Bool:=el e.ctorIdx 24 λh=>Expr.List.elim (motive_1:=λ_=>Bool) e h k
theorem rL(h:Yj e k=true):∃xs p,e=.List xs p/\k xs p=true:=by obtain⟨hc,h⟩:=z6 h;obtain⟨xs,p,rfl⟩:∃xs p,e=.List xs p:=Expr.List.elim (motive_1:=λe=>∃xs p,e=Expr.List xs p) e hc λxs p=>⟨xs,p,rfl⟩;exact⟨xs,p,rfl,h⟩
def fM(e:Expr)(k:List Expr->Nat->Pos->Bool):Bool:=el e.ctorIdx 25 λh=>Expr.Tuple.elim (motive_1:=λ_=>Bool) e h k
theorem vV(h:fM e k=true):∃xs n p,e=.Tuple xs n p/\k xs n p=true:=by obtain⟨hc,h⟩:=z6 h;obtain⟨xs,n,p,rfl⟩:∃xs n p,e=.Tuple xs n p:=Expr.Tuple.elim (motive_1:=λe=>∃xs n p,e=Expr.Tuple xs n p) e hc λxs n p=>⟨xs,n,p,rfl⟩;exact⟨xs,n,p,rfl,h⟩
def VL(e:Expr)(k:Option Expr->Option Expr->Option Expr->Pos->Bool):Bool:=el e.ctorIdx 26 λh=>Expr.Slice.elim (motive_1:=λ_=>Bool) e h k
theorem fL(h:VL e k=true):∃x y z p,e=.Slice x y z p/\k x y z p=true:=by obtain⟨hc,h⟩:=z6 h;obtain⟨x,y,z,p,rfl⟩:∃x y z p,e=.Slice x y z p:=Expr.Slice.elim (motive_1:=λe=>∃x y z p,e=Expr.Slice x y z p) e hc λx y z p=>⟨x,y,z,p,rfl⟩;exact⟨x,y,z,p,rfl,h⟩
def a0(e:Stmt)(k:Option Expr->Pos->Bool):Bool:=el e.ctorIdx 3 λh=>Stmt.Return.elim (motive_2:=λ_=>Bool) e h k
theorem tG(h:a0 e k=true):∃o p,e=.Return o p/\k o p=true:=by obtain⟨hc,h⟩:=z6 h;obtain⟨o,p,rfl⟩:∃o p,e=.Return o p:=Stmt.Return.elim (motive_2:=λe=>∃o p,e=Stmt.Return o p) e hc λo p=>⟨o,p,rfl⟩;exact⟨o,p,rfl,h⟩
def i8(e:Stmt)(k:List Expr->Expr->Pos->Bool):Bool:=el e.ctorIdx 5 λh=>Stmt.Assign.elim (motive_2:=λ_=>Bool) e h k
theorem we(h:i8 e k=true):∃ts v p,e=.Assign ts v p/\k ts v p=true:=by obtain⟨hc,h⟩:=z6 h;obtain⟨ts,v,p,rfl⟩:∃ts v p,e=.Assign ts v p:=Stmt.Assign.elim (motive_2:=λe=>∃ts v p,e=Stmt.Assign ts v p) e hc λts v p=>⟨ts,v,p,rfl⟩;exact⟨ts,v,p,rfl,h⟩
def Uh(e:Stmt)(k:Expr->Expr->List Stmt->List Stmt->Pos->Bool):Bool:=el e.ctorIdx 9 λh=>Stmt.For.elim (motive_2:=λ_=>Bool) e h k
theorem cK(h:Uh e k=true):∃t i b c p,e=.For t i b c p/\k t i b c p=true:=by obtain⟨hc,h⟩:=z6 h;obtain⟨t,i,b,c,p,rfl⟩:∃t i b c p,e=.For t i b c p:=Stmt.For.elim (motive_2:=λe=>∃t i b c p,e=Stmt.For t i b c p) e hc λt i b c p=>⟨t,i,b,c,p,rfl⟩;exact⟨t,i,b,c,p,rfl,h⟩
def sIf(e:Stmt)(k:Expr->List Stmt->List Stmt->Pos->Bool):Bool:=el e.ctorIdx 12 λh=>Stmt.If.elim (motive_2:=λ_=>Bool) e h k
theorem oV(h:sIf e k=true):∃c a b p,e=.If c a b p/\k c a b p=true:=by obtain⟨hc,h⟩:=z6 h;obtain⟨c,a,b,p,rfl⟩:∃c a b p,e=.If c a b p:=Stmt.If.elim (motive_2:=λe=>∃c a b p,e=Stmt.If c a b p) e hc λc a b p=>⟨c,a,b,p,rfl⟩;exact⟨c,a,b,p,rfl,h⟩
def sRs(e:Stmt)(k:Option Expr->Option Expr->Pos->Bool):Bool:=el e.ctorIdx 16 λh=>Stmt.Raise.elim (motive_2:=λ_=>Bool) e h k
theorem ZA(h:sRs e k=true):∃a b p,e=.Raise a b p/\k a b p=true:=by obtain⟨hc,h⟩:=z6 h;obtain⟨a,b,p,rfl⟩:∃a b p,e=.Raise a b p:=Stmt.Raise.elim (motive_2:=λe=>∃a b p,e=Stmt.Raise a b p) e hc λa b p=>⟨a,b,p,rfl⟩;exact⟨a,b,p,rfl,h⟩
def WW(e:Stmt)(k:Expr->Pos->Bool):Bool:=el e.ctorIdx 24 λh=>Stmt.Expr.elim (motive_2:=λ_=>Bool) e h k
theorem qC(h:WW e k=true):∃x p,e=.Expr x p/\k x p=true:=by obtain⟨hc,h⟩:=z6 h;obtain⟨x,p,rfl⟩:∃x p,e=.Expr x p:=Stmt.Expr.elim (motive_2:=λe=>∃x p,e=Stmt.Expr x p) e hc λx p=>⟨x,p,rfl⟩;exact⟨x,p,rfl,h⟩
noncomputable def l1{α:Type}(xs:List α)(k:α->Bool):Bool:=match xs with
 |[x]=>k x
 |_=>false
theorem yN(h:l1 xs k=true):∃x,xs=[x]/\k x=true:=by
 cases xs with
 |nil=>cases h
 |cons x xs=>cases xs with
  |nil=>exact⟨x,rfl,h⟩
  |cons _ _=>cases h
noncomputable def lc{α:Type}(xs:List α)(k:α->List α->Bool):Bool:=match xs with
 |x::xs=>k x xs
 |[]=>false
theorem z0(h:lc xs k=true):∃x ys,xs=x::ys/\k x ys=true:=by
 cases xs with
 |nil=>cases h
 |cons x ys=>exact⟨x,ys,rfl,h⟩
theorem eO{xs}{k:α->α->Bool}(h:(lc xs λx ys=>l1 ys (k x))=true):∃x y,xs=[x,y]/\k x y=true:=by obtain⟨x,ys,rfl,h⟩:=z0 h;obtain⟨y,rfl,h⟩:=yN h;exact⟨x,y,rfl,h⟩
noncomputable def o1{α:Type}(x:Option α)(k:α->Bool):Bool:=match x with
 |some x=>k x
 |none=>false
theorem tu(h:o1 x k=true):∃y,x=some y/\k y=true:=by
 cases x with
 |none=>cases h
 |some x=>exact⟨x,rfl,h⟩
theorem zJ(h:(a&&b)=true):a=true/\b=true:=by
 cases a with
 |false=>cases h
 |true=>exact⟨rfl,h⟩
def eOp(u:UnaryOp)(e:Expr)(k:Expr->Bool):Bool:=eUn e λo x _=>decide (o=u)&&k x
theorem sV(h:eOp u e k=true):∃x p,e=.UnaryOp u x p/\k x=true:=by obtain⟨o,x,p,rfl,h2⟩:=bV h;obtain⟨h1,h3⟩:=zJ h2;cases of_decide_eq_true h1;exact⟨x,p,rfl,h3⟩
def eBl(u:BoolOp)(e:Expr)(k:Expr->List Expr->Bool):Bool:=Ze e λo xs _=>decide (o=u)&&lc xs k
theorem sT(h:eBl u e k=true):∃x xs p,e=.BoolOp u (x::xs) p/\k x xs=true:=by obtain⟨o,xs,p,rfl,h2⟩:=jv h;obtain⟨h1,h3⟩:=zJ h2;cases of_decide_eq_true h1;obtain⟨x,ys,rfl,h4⟩:=z0 h3;exact⟨x,ys,p,rfl,h4⟩
def eC1(e:Expr)(k:Expr->CmpOp->Expr->Bool):Bool:=Yh e λl os rs _=>l1 os λo=>l1 rs λr=>k l o r
theorem sU(h:eC1 e k=true):∃l o r p,e=.Compare l [o] [r] p/\k l o r=true:=by obtain⟨l,os,rs,p,rfl,h⟩:=nD h;obtain⟨o,rfl,h⟩:=yN h;obtain⟨r,rfl,h⟩:=yN h;exact⟨l,o,r,p,rfl,h⟩
def eC2(e:Expr)(k:Expr->CmpOp->CmpOp->Expr->Expr->Bool):Bool:=Yh e λl os rs _=>lc os λo os=>l1 os λo'=>lc rs λr rs=>l1 rs λr'=>k l o o' r r'
theorem ki(h:eC2 e k=true):∃l o o' r r' p,e=.Compare l [o,o'] [r,r'] p/\k l o o' r r'=true:=by obtain⟨l,os,rs,p,rfl,h⟩:=nD h;obtain⟨o,os,rfl,h⟩:=z0 h;obtain⟨o',rfl,h⟩:=yN h;obtain⟨r,rs,rfl,h⟩:=z0 h;obtain⟨r',rfl,h⟩:=yN h;exact⟨l,o,o',r,r',p,rfl,h⟩
def eD0(e:Expr):Bool:=VI e λks vs _=>ks.isEmpty&&vs.isEmpty
theorem kj(h:eD0 e=true):∃p,e=.Dict [] [] p:=by obtain⟨ks,vs,p,rfl,h⟩:=fI h;obtain⟨h1,h2⟩:=zJ h;rw[AN.mp h1,AN.mp h2];exact⟨p,rfl⟩
def eCN(e:Expr)(k:Str->List Expr->Bool):Bool:=fH e λf xs ks _=>ks.isEmpty&&eName f λx _=>k x xs
theorem yf(h:eCN e k=true):∃x p xs pos,e=.Call (.Name x p) xs [] pos/\k x xs=true:=by obtain⟨f,xs,ks,pos,rfl,h⟩:=qi h;obtain⟨h1,h⟩:=zJ h;obtain⟨x,p,rfl,h⟩:=yI h;rw[AN.mp h1];exact⟨x,p,xs,pos,rfl,h⟩
def eMt(e:Expr)(k:Expr->Str->Pos->Expr->Pos->Bool):Bool:=fH e λf xs ks cp=>ks.isEmpty&&VG f λob x ap=>l1 xs λy=>k ob x ap y cp
theorem km(h:eMt e k=true):∃ob x ap y cp,e=.Call (.Attribute ob x ap) [y] [] cp/\k ob x ap y cp=true:=by obtain⟨f,xs,ks,pos,rfl,h⟩:=qi h;obtain⟨h1,h⟩:=zJ h;obtain⟨ob,x,ap,rfl,h⟩:=fG h;obtain⟨y,rfl,h⟩:=yN h;rw[AN.mp h1];exact⟨ob,x,ap,y,pos,rfl,h⟩
def eSS(e:Expr)(k:Expr->Option Expr->Option Expr->Option Expr->Bool):Bool:=bU e λl r _=>VL r λx y z _=>k l x y z
theorem bS(h:eSS e k=true):∃l x y z p pos,e=.Subscript l (.Slice x y z p) pos/\k l x y z=true:=by obtain⟨l,r,pos,rfl,h⟩:=rM h;obtain⟨x,y,z,p,rfl,h⟩:=fL h;exact⟨l,x,y,z,p,pos,rfl,h⟩
noncomputable def gC(g:EA)(k:Expr->Expr->List Expr->Bool):Bool:=decide (g.is_async=0)&&k g.target g.iter g.ifs
theorem m5(h:gC g k=true):∃t i f,g=⟨t,i,f,0⟩/\k t i f=true:=by obtain⟨t,i,f,a⟩:=g;obtain⟨h1,h⟩:=zJ h;have h1:a=0:=of_decide_eq_true h1;subst h1;exact⟨t,i,f,rfl,h⟩
def eG1(e:Expr)(k:Expr->Expr->Expr->List Expr->Scope->Bool):Bool:=Yg e λx gs sc _=>l1 gs λg=>gC g λt i f=>k x t i f sc
theorem ug(h:eG1 e k=true):∃x t i f sc p,e=.ListComp x [⟨t,i,f,0⟩] sc p/\k x t i f sc=true:=by obtain⟨x,gs,sc,p,rfl,h2⟩:=nB h;obtain⟨g,rfl,h3⟩:=yN h2;obtain⟨t,i,f,rfl,h4⟩:=m5 h3;exact⟨x,t,i,f,sc,p,rfl,h4⟩
def eG2(e:Expr)(k:Expr->Expr->Expr->List Expr->Expr->Expr->List Expr->Scope->Bool):Bool:=Yg e λx gs sc _=>lc gs λg gs=>l1 gs λg2=>gC g λt i f=>gC g2 λt2 i2 f2=>k x t i f t2 i2 f2 sc
theorem kl(h:eG2 e k=true):∃x t i f t2 i2 f2 sc p,e=.ListComp x [⟨t,i,f,0⟩,⟨t2,i2,f2,0⟩] sc p/\k x t i f t2 i2 f2 sc=true:=by obtain⟨x,gs,sc,p,rfl,h2⟩:=nB h;obtain⟨g,gs,rfl,h3⟩:=z0 h2;obtain⟨g2,rfl,h4⟩:=yN h3;obtain⟨t,i,f,rfl,h5⟩:=m5 h4;obtain⟨t2,i2,f2,rfl,h6⟩:=m5 h5;exact⟨x,t,i,f,t2,i2,f2,sc,p,rfl,h6⟩
end M
end
section
namespace L2
open PySem PySem.Spec PyProof.Rows
noncomputable def v7(cells:List (Str × Addr)):List (Str × Cg)->List (Str × Addr)->List (Str × Addr)
 |[],acc=>acc
 |(n,k)::r,acc=>if k == .free then (match cells.lookup n with|some c=>v7 cells r ((n,c)::acc)|none=>v7 cells r acc) else v7 cells r acc
theorem uK:∀names acc,(∀x∈names,x.2=.free->∃c,env.cells.lookup x.1=some c) ->
 (forIn names acc λx cs =>(if x.2 == .free then do let a <-cellOf env x.1;pure (BZ ((x.1,a)::cs)) else pure (BZ cs):Sem (ForInStep (List (Str × Addr)))))=pure (v7 env.cells names acc)
 |[],acc,_=>rfl
 |(n,k)::r,acc,h=>by
  rw[D5];dsimp only;unfold v7;by_cases hk:(k == Ay)=true
  . have hk':k=.free:=by simpa using hk
    obtain⟨c,hc⟩:=h (n,k) Ao hk';have hc':env.cells.lookup n=some c:=hc;have hcell:cellOf env n=pure c:=by unfold cellOf;rw[hc']
    rw[if_pos hk,if_pos hk,hcell,hc',C8,C8];exact uK r _ λx hx=>h x (Ac _ hx)
  . rw[if_neg hk,if_neg hk,C8]
    exact uK r _ λx hx=>h x (Ac _ hx)
theorem wH(h:∀x∈scope.names,x.2=.free->∃c,env.cells.lookup x.1=some c):FQ scope env=pure (v7 env.cells scope.names []):=by
 have e:=uK (env:=env) scope.names [] h;show (do let cs <-forIn scope.names [] _;pure cs)=_
 refine Eq.trans ?_ e;refine Eq.trans (bind_pure _) ?_;congr 1
theorem ue:∀names acc,(∀x c,acc.lookup x=some c->cells.lookup x=some c)->∀x c,(v7 cells names acc).lookup x=some c->cells.lookup x=some c
 |[],acc,h,x,c,e=>h x c e
 |(n,k)::r,acc,h,x,c,e=>by
  unfold v7 at e;by_cases hk:(k == Ay)=true
  . rw[if_pos hk]at e
    cases hc:cells.lookup n with
    |none=>rw[hc]at e;exact ue r acc h x c e
    |some d=>
     rw[hc]at e;refine ue r _ (λy z q=>?_) x c e;rw[Al]at q;cases hy:(y == n) with
     |true=>rw[hy]at q;have hy':y=n:=by simpa using hy
            cases q;rw[hy'];exact hc
     |false=>rw[hy]at q;exact h y z q
  . rw[if_neg hk]at e;exact ue r acc h x c e
theorem wW:∀names acc x c,cells.lookup x=some c->(acc.lookup x=some c\/(x,Ay)∈names)->(∀y d,acc.lookup y=some d->cells.lookup y=some d)->(v7 cells names acc).lookup x=some c
 |[],acc,x,c,_,h,_=>by
  rcases h with h|h
  . exact h
  . cases h
 |(n,k)::r,acc,x,c,hc,h,ha=>by
  unfold v7;by_cases hk:(k == Ay)=true
  . rw[if_pos hk]
    cases hn:cells.lookup n with
    |none=>
     refine wW r acc x c hc ?_ ha;rcases h with h|h
     . exact .inl h
     . rcases As.mp h with e|e
       . cases e;rw[hn]at hc;cases hc
       . exact .inr e
    |some d=>
     have ha':∀y z,((n,d)::acc).lookup y=some z->cells.lookup y=some z:=λy z q=>by
      rw[Al]at q;cases hy:(y == n) with
      |true=>rw[hy]at q;have hy':y=n:=by simpa using hy
             cases q;rw[hy'];exact hn
      |false=>rw[hy]at q;exact ha y z q
     by_cases hx:x=n
     . subst hx
       refine wW r _ x c hc (.inl ?_) ha';rw[hn]at hc;cases hc;simp[Al]
     . refine wW r _ x c hc ?_ ha'
       rcases h with h|h
       . refine .inl ?_
         have:(x == n)=false:=by simpa using hx
         rw[Al,this];exact h
       . rcases As.mp h with e|e
         . cases e;exact absurd rfl hx
         . exact .inr e
  . rw[if_neg hk]
    refine wW r acc x c hc ?_ ha;rcases h with h|h
    . exact .inl h
    . rcases As.mp h with e|e
      . cases e;exact absurd (by decide) hk
      . exact .inr e
theorem uH:∀names n acc,B5 n names acc=B5 n names []++acc
 |[],_,_=>rfl
 |(x,k)::r,n,acc=>by
  unfold B5;split
  . rw[uH r (n+1) ((x,n)::acc),uH r (n+1) [(x,n)],Bk];rfl
  . exact uH r n acc
theorem pZ:∀names n {x} {c},(x,c)∈B5 n names []->(x,A9)∈names/\n<=c
 |[],_,_,_,h=>by cases h
 |(y,k)::r,n,x,c,h=>by
  unfold B5 at h;split at h
  . rename_i hk
    rw[uH]at h;rcases A1.mp h with h|h
    . obtain⟨h1,h2⟩:=pZ r (n+1) h
      exact⟨Ac _ h1,by omega⟩
    . cases Bp.mp h
      have:k=.cell:=by simpa using hk
      rw[this];exact⟨Ao,Ab _⟩
  . obtain⟨h1,h2⟩:=pZ r n h
    exact⟨Ac _ h1,h2⟩
theorem pY:∀names n {x},(x,A9)∈names->∃c,(x,c)∈B5 n names []
 |[],_,_,h=>by cases h
 |(y,k)::r,n,x,h=>by
  unfold B5;rcases As.mp h with e|h
  . cases e
    rw[if_pos (by rfl),uH]
    exact⟨n,A6 _ Ao⟩
  . split
    . obtain⟨c,hc⟩:=pY r (n+1) h
      rw[uH];exact⟨c,Bl _ hc⟩
    . exact pY r n h
theorem eW{l:List (Str × Addr)}:(x,c)∈l->∃d,l.lookup x=some d:=by
 induction l with
 |nil=>intro h;cases h
 |cons p r ih=>
  intro h;rw[Al];cases hx:x == p.1 with
  |true=>exact⟨_,rfl⟩
  |false=>
   rcases As.mp h with e|h
   . rw[<-e]at hx;simp at hx
   . exact ih h
theorem lG{l m:List (Str × Addr)}{x:Str}:(l++m).lookup x=match l.lookup x with|some c=>some c|none=>m.lookup x:=by
 induction l with
 |nil=>rfl
 |cons p r ih=>
  rw[List.cons_append,Al,Al];cases hx:x == p.1 with
  |true=>rfl
  |false=>exact ih
noncomputable def wJ(sc:Scope)(C:Addr):List (Str × Addr):=B5 (C+1) sc.names []
theorem aW(h:Heap)sc:∃h',CellsOk h' (h.objs.size+1) (wJ sc h.objs.size):=by
 have ok:=cellsFrom_ok sc.names (h.push {cls:=.type "dict",data:=.dict #[]}) (h.objs.size+1) [] ⟨λ_ _ hm=>(nomatch hm),EM⟩ (by rw[Bc];exact Ab _)
 rw[Bc]at ok;exact⟨_,ok⟩
abbrev Cx.comp(X:Cx)(N:List Str)(sc:Scope)(C:Addr)(s:Shared)(H:Hp)(ex:List Addr):Cx:=
 {X with N:=N,l:=s,r:=H,a:=compEnvC sc (wJ sc C++v7 X.a.cells sc.names []) C X.a,k:=X.g,m:=ex,q:=λx=>sc.names.any λp=>decide (p=(x,A9)),n:=[],j:=λ_ _=>False}
structure zf(X:Cx)(N:List Str)(sc:Scope)(fr:List (Option Nat)):Prop where
 b:sc.kind=.function
 e:∀x,(x,A9)∈sc.names->(x,Ay)∈sc.names->False
 a:∀x∈sc.names,x.2=.local->sc.names.lookup x.1=some .local
 d:∀x∈sc.names,x.2=.free->X.a.kindOf x.1=some .cell\/X.a.kindOf x.1=some .free
 g:fr.length=N.length
 f:∀(i j:Nat) (x:Str),N[i]?=some x->fr[i]?=some (some j)->X.N[j]?=some x/\(x,Ay)∈sc.names
 h:∀x,sc.names.lookup x=some .local->(x,Ay)∈sc.names->False
noncomputable def zZ(fr:List (Option Nat))(σ:St):St:=fr.map λo=>match o with|some j=>(σ[j]?).join|none=>none
theorem oS(h:(relabel sc env).names.lookup x=some .cell\/(relabel sc env).names.lookup x=some .free):(x,Ay)∈sc.names\/(x,A9)∈sc.names:=by
 have key:∀(names:List (Str × Cg)),((names.map λ(n,k)=>if (k == Ay&&env.scope.kind == .function&&env.kindOf n == some .cell) then (n,A9) else (n,k)).lookup x=some .cell \/
  (names.map λ(n,k)=>if (k == Ay&&env.scope.kind == .function&&env.kindOf n == some .cell) then (n,A9) else (n,k)).lookup x=some .free)->(x,Ay)∈names\/(x,A9)∈names:=by
  intro names;induction names with
  |nil=>intro h;simp at h
  |cons p r ih=>
   obtain⟨n,k⟩:=p;intro h;rw[A4]at h;dsimp only at h;by_cases hx:x=n
   . subst hx
     by_cases hf:k=.free
     . subst hf;exact .inl Ao
     . have hf':(k == Ay)=false:=by simpa using hf
       rw[hf']at h;simp only[Cc,A2,if_false,Al,beq_self_eq_true]at h;rcases h with h|h
       . cases h;exact .inr Ao
       . cases h;exact absurd rfl hf
   . have hx':(x == n)=false:=by simpa using hx
     have:=ih (by split at h<;>simpa only[Al,hx'] using h)
     exact this.elim (λz=>.inl (Ac _ z)) λz=>.inr (Ac _ z)
 exact key sc.names h
theorem w9(h:sc.names.lookup x=some .cell):(relabel sc env).names.lookup x=some .cell:=by
 have key:∀(names:List (Str × Cg)),names.lookup x=some .cell->(names.map λ(n,k)=>if (k == Ay&&env.scope.kind == .function&&env.kindOf n == some .cell) then (n,A9) else (n,k)).lookup x=some .cell:=by
  intro names;induction names with
  |nil=>intro h;simp at h
  |cons p r ih=>
   obtain⟨n,k⟩:=p;intro h;rw[A4];dsimp only;cases hx:(x == n) with
   |true=>
    rw[Al,hx]at h;cases h;have e:(A9 == Ay)=false:=rfl;rw[e];simp only[Cc,A2,if_false,Al,hx]
   |false=>
    rw[Al,hx]at h;have:=ih h;split<;>simpa only[Al,hx] using this
 exact key sc.names h
theorem tF(hl:∀y∈sc.names,y.2=.local->sc.names.lookup y.1=some .local)(h:sc.names.lookup x=some .free) :
 (relabel sc env).names.lookup x=some .cell\/(relabel sc env).names.lookup x=some .free:=by
 have key:∀(names:List (Str × Cg)),names.lookup x=some .free->((names.map λ(n,k)=>if (k == Ay&&env.scope.kind == .function&&env.kindOf n == some .cell) then (n,A9) else (n,k)).lookup x=some .cell \/
  (names.map λ(n,k)=>if (k == Ay&&env.scope.kind == .function&&env.kindOf n == some .cell) then (n,A9) else (n,k)).lookup x=some .free):=by
  intro names;induction names with
  |nil=>intro h;simp at h
  |cons p r ih=>
   obtain⟨n,k⟩:=p;intro h;rw[A4];dsimp only;cases hx:(x == n) with
   |true=>
    rw[Al,hx]at h;cases h;split
    . left;simp only[Al,hx]
    . right;simp only[Al,hx]
   |false=>
    rw[Al,hx]at h;have:=ih h;split<;>simpa only[Al,hx] using this
 exact key sc.names h
section
variable {X:Cx}{pins:List (Addr × Obj)}{σ:St}{H:Hp}{s:Shared}{N:List Str}{sc:Scope}{fr:List (Option Nat)}{fp:List Addr}
theorem zf.cells(S:zf X N sc fr)(ok:X.Ok):∀x∈sc.names,x.2=.free->∃c,X.a.cells.lookup x.1=some c:=λx hx hk=>ok.p x.1 (S.d x hx hk)
theorem wV(h:(wJ sc C++v7 cells sc.names []).lookup x=some c):((wJ sc C).lookup x=some c)\/((wJ sc C).lookup x=none/\cells.lookup x=some c):=by
 rw[lG]at h;cases ho:(wJ sc C).lookup x with
 |some d=>rw[ho]at h;exact .inl h
 |none=>rw[ho]at h;exact .inr ⟨rfl,ue sc.names [] (λx c e=>by simp at e) x c h⟩
theorem r0(h:(wJ sc C).lookup x=some c):@LE.le Nat _ (C+1) c:=(pZ sc.names (C+1) (mem_of_lookup h)).2
theorem dE(S:zf X N sc fr)(h:(x,Ay)∈sc.names):(wJ sc C).lookup x=none:=by
 cases ho:(wJ sc C).lookup x with
 |none=>rfl
 |some d=>exact(S.e x (pZ sc.names (C+1) (mem_of_lookup ho)).1 h).elim
theorem bL(I:Inv X pins σ H s)(S:zf X N sc fr)(hf:∀b∈fp,v5 X pins H b)(hlt:∀b∈fp,b<s.heap.objs.size):(X.comp N sc s.heap.objs.size s H fp).Ok:=by
 obtain⟨h',hok⟩:=aW s.heap sc;have old:∀x c,X.a.cells.lookup x=some c->@LT.lt Nat _ c s.heap.objs.size:=λx c e=>by obtain⟨v,z⟩:=I.G x c e;exact z.lt
 refine⟨I.B.i,S.b,I.B.k,I.B.t,Ab _,λx y c e1 e2=>?_,λx h=>?_,λx c h e=>?_,I.B.j,I.B.g,.inl rfl,λb hb=>?_,λb o e=>I.bs b o e,?_,λb o e hb=>?_,λb hb z=>?_,I.stack,I.oX⟩
 . rcases wV e1 with e1|⟨_,e1⟩<;>rcases wV e2 with e2|⟨_,e2⟩
   . exact name_of_addr hok.apart (mem_of_lookup e1) (mem_of_lookup e2)
   . exact absurd (Ap (old _ _ e2) (Az (CP _) (r0 e1))) (A8 _)
   . exact absurd (Ap (old _ _ e1) (Az (CP _) (r0 e2))) (A8 _)
   . exact I.B.r x y c e1 e2
 . show ∃c,(wJ sc s.heap.objs.size++v7 X.a.cells sc.names []).lookup x=some c
   rw[lG];rcases oS h with m|m
   . obtain⟨c,hc⟩:=S.cells I.B (x,.free) m rfl
     rw[dE S m];exact⟨c,wW sc.names [] x c hc (.inr m) (λy d e=>by simp at e)⟩
   . obtain⟨c,hc⟩:=pY sc.names (s.heap.objs.size+1) m
     obtain⟨d,hd⟩:=eW hc;have hd':(wJ sc s.heap.objs.size).lookup x=some d:=hd;rw[hd'];exact⟨d,rfl⟩
 . have m:(x,A9)∈sc.names:=by obtain⟨p,hp,e'⟩:=Bh.mp h;rw[<-of_decide_eq_true e'];exact hp
   rcases wV e with e|⟨e,_⟩
   . exact Az (CP _) (r0 e)
   . obtain⟨c',hc⟩:=pY sc.names (s.heap.objs.size+1) m
     obtain⟨d,hd⟩:=eW hc;have hd':(wJ sc s.heap.objs.size).lookup x=some d:=hd;rw[hd']at e;cases e
 . obtain⟨f0,f1,f2,f3,f4,f5⟩:=hf b hb
   refine⟨AG (hlt b hb),λx c e=>?_⟩;rcases wV e with e|⟨_,e⟩
   . exact λz=>absurd (Ap (z▸hlt b hb) (Az (CP _) (r0 e))) (A8 _)
   . exact f4 x c e
 . exact Az I.B.q I.sz
 . obtain⟨f0,f1,f2,f3,f4,f5⟩:=hf b hb
   rcases f3 with f3|f3
   . exact I.B.m b o e f3
   . exact absurd (Ap (Aj e) (Az I.B.q f3)) (A8 _)
 . obtain⟨f0,f1,f2,f3,f4,f5⟩:=hf b hb
   rcases As.mp (I.l5 b z) with e|e
   . exact f1 e
   . exact f2 e
theorem mw(I:Inv X pins σ H s)(S:zf X N sc fr)(hf:∀b∈fp,v5 X pins H b)(hlt:∀b∈fp,b<s.heap.objs.size)
 (hns:h'.Ns s.heap.objs.size (λ_=>none)) (k:∀b o,s.heap.get? b=some o->h'.get? b=some o) (m6:∀x c,(wJ sc s.heap.objs.size).lookup x=some c->h'.IsCell c none):Inv (X.comp N sc s.heap.objs.size s H fp) [] (zZ fr σ) H {s with heap:=h',toks:=tk}:=by
 refine⟨bL I S hf hlt,rfl,I.F,Un.kept k,⟨_,hns,λi x v e1 e2 e3=>?_⟩,λx c e=>?_,I.C.fresh (Ab _),λx c e=>?_,λp hp=>(by simp at hp),I.C.kept k,?_⟩
 . have e2':(fr.map λo=>match o with|some j=>(σ[j]?).join|none=>none)[i]?=some (some v):=e2
   rw[A5]at e2';cases hfi:fr[i]? with
   |none=>rw[hfi]at e2';cases e2'
   |some o=>
    rw[hfi]at e2';cases o with
    |none=>cases e2'
    |some j=>
     obtain⟨n1,n2⟩:=S.f i j x e1 hfi;have e3':σ[j]?=some (some v):=by
      have q:(σ[j]?).join=some v:=AW e2';cases hσ:σ[j]? with
      |none=>rw[hσ]at q;cases q
      |some w=>rw[hσ]at q;cases w with
       |none=>cases q
       |some w'=>have:w'=v:=AW q
                 rw[this]
     have hk:=S.d (x,.free) n2 rfl;obtain⟨m,hn,hl⟩:=I.M;obtain⟨u,r,l⟩:=hl j x v n1 e3' (hk.elim (λz=>.inr (.inl z)) λz=>.inr (.inr z));refine⟨u,r,?_⟩;rcases l with⟨hk',_⟩|⟨_,c,hc,z⟩
     . rcases hk with hk|hk<;>(rw[hk]at hk';cases hk')
     . refine .inr ⟨?_,c,(by show (wJ sc s.heap.objs.size++v7 X.a.cells sc.names []).lookup x=some c;rw[lG,dE S n2];exact wW sc.names [] x c hc (.inr n2) (λy d e=>by simp at e)),?_⟩
       . rcases e3 with e3|e3|e3
         . -- a local of that name: cannot be,the name is free in the block
           exfalso;have hloc:sc.names.lookup x=some .local:=by
            have key:∀(names:List (Str × Cg)),(names.map λ(n,k)=>if (k == Ay&&X.a.scope.kind == .function&&X.a.kindOf n == some .cell) then (n,A9) else (n,k)).lookup x=some .local->names.lookup x=some .local:=by
             intro names;induction names with
             |nil=>intro h;simp at h
             |cons p r ih=>
              obtain⟨n,kk⟩:=p;intro h;rw[A4]at h;dsimp only at h;cases hx:(x == n) with
              |true=>
               split at h
               . simp only[Al,hx]at h;cases h
               . simp only[Al,hx]at h ⊢;exact h
              |false=>
               rw[Al,hx];refine ih ?_;split at h<;>simpa only[Al,hx] using h
            exact key sc.names e3
           exact S.h x hloc n2
         . exact .inl e3
         . exact .inr e3
       . obtain⟨o,ho,hd⟩:=z
         exact⟨o,k _ _ ho,hd⟩
 . rcases wV e with e|⟨_,e⟩
   . exact⟨none,m6 x c e⟩
   . obtain⟨v,o,ho,hd⟩:=I.G x c e
     exact⟨v,o,k _ _ ho,hd⟩
 . rcases wV e with e|⟨_,e⟩
   . exact I.C.fresh (Az (CP _) (r0 e))
   . exact I.D x c e
 . show (fr.map _).length=N.length
   rw[Ad];exact S.g
end
end L2
end
section
namespace L2
open PySem PySem.Spec PyProof.Rows
def oY:List TT->TT
 |[]=>λ_ H Q=>Q true H
 |t::ts=>λσ H Q=>t σ H λc H1=>if c=true then oY ts σ H1 Q else Q false H1
inductive PTs(X:Cx):List Expr->List TT->Prop
 |b:PTs X [] []
 |a {c:Expr} {cs:List Expr} {t:TT} {ts:List TT}:PT X c t->PTs X cs ts->PTs X (c::cs) (t::ts)
theorem sN{X:Cx}(h:Q false s):∀cs:List Expr,
 wpAny (model X.f X.w) X.A (forIn cs false λc r=>if r=true then do let ok <-isTrue c X.a (eval c X.a);pure (BZ ok) else pure (BZ r)) Q E s
 |[]=>Ai h
 |c::cs=>by rw[D5];exact xd (Ai (sN h cs))
theorem PTs.run:∀{cs} {ts},PTs X cs ts->∀{pins} {s} {σ} {H} {Q},Inv X pins σ H s->oY ts σ H Q ->
 wpAny (model X.f X.w) X.A (forIn cs true λc r=>if r=true then do let ok <-isTrue c X.a (eval c X.a);pure (BZ ok) else pure (BZ r)) (TP X pins σ Q) X.j s
 |_,_,.b,pins,s,σ,H,Q,I,h=>Ai ⟨H,I,h⟩
 |_,_,.a hc hs,pins,s,σ,H,Q,I,h=>by
  rw[D5];refine xd (xd (thn (hc pins s σ H _ I h) λc s1 ⟨H1,I1,q1⟩=>Ai ?_));cases c with
  |true=>exact hs.run I1 q1
  |false=>exact sN ⟨H1,I1,q1⟩ _
abbrev TB:=(St->Hp->Prop)->St->Hp->Prop
def PB(X:Cx)(B:Sem PUnit)(tb:TB):Prop:=
 ∀(pins:List (Addr × Obj)) (s:Shared) (σ:St) (H:Hp) (Nx:St->Hp->Prop),Inv X pins σ H s->tb Nx σ H->wpAny (model X.f X.w) X.A B (λ_ s'=>∃σ' H',Inv X pins σ' H' s'/\Nx σ' H') X.j s
def tTB(ts:List TT)(tb:TB):TS:=λD σ H=>oY ts σ H λc H1=>if c=true then tb D.a σ H1 else D.a σ H1
def pA(J:It)(g:TG)(tb:TS)(D:Ends)(σ:St)(H:Hp):Prop:=∃W:Nat->Nat->St->Hp->Prop,(∃m,W 0 m σ H)/\∀i m σ H,W i m σ H ->
 (J.a i H/\D.a σ H)\/(J.c i H/\∃N:St->Hp->Prop,(∀σ' H',N σ' H'->∃m',m'<m/\W (i+1) m' σ' H')/\∀x H',J.b i H x H'->g x σ H' λσ2 H2=>tb {D with a:=N,d:=N,c:=D.a} σ2 H2)
theorem wY{X:Cx}{elt:Expr}{gens:List EA}{csc:Scope}{cpos:Pos}{d:Nat}{tg:Expr}{p:Pos}{ifs:List Expr}{B:Sem PUnit}{acc:Value}{it:Addr}{fp:List Addr}{tn:Nat->Heap->Prop}{J:It}{g:TG}{ts:List TT}{tb:TB}{D:Ends}
 {pins:List (Addr × Obj)} {σ:St} {H:Hp} {s:Shared} {R:Result->Shared->Prop}
 (heq:CG (.ListComp elt gens csc cpos) d (.ref it) acc X.a=(do
  standAt p
  match <-pyNext (.ref it) with
  |none=>pure (.done .next)
  |some v=>
   Bo tg (.ref it) v
   assign tg X.a v
   let mut ok:=true
   for c in ifs do
    if ok then ok <-isTrue c X.a (eval c X.a)
   if ok then B
   again (.compLoop (.ListComp elt gens csc cpos) d (.ref it) acc X.a)))
 (hx:X.j=λ_ _=>False) (hc:X.i=true) (T:Turn X.f X.w X.K tg J fp it tn) (hg:PG X tg g) (ht:PTs X ifs ts) (hb:PB X B tb)
 (I:Inv X pins σ H s) (st:tn 0 s.heap) (f:∀b∈fp,v5 X pins H b) (h:pA J g (tTB ts tb) D σ H)
 (hR:∀σ' H' s',Inv X pins σ' H' s'->D.a σ' H'->(∀b∈fp,H' b=none)->R (.ok .next) s') :
 codeAny (model X.f X.w) X.A (.compLoop (.ListComp elt gens csc cpos) d (.ref it) acc X.a) R s:=by
 obtain⟨W,⟨m0,w0⟩,turn⟩:=h;have stat:∀{H':Hp},(∀b∈fp,H' b=none)->∀b∈fp,v5 X pins H' b:=λhn b hb=>⟨hn b hb,(f b hb).2⟩;have no:∀{α:Type} {t:Sem α} {Q:α->Shared->Prop} {E':Value->Shared->Prop} {s:Shared},wpAny (model X.f X.w) X.A t Q X.j s->wpAny (model X.f X.w) X.A t Q E' s:=λh=>AX h (λ_ _ q=>q) λ_ _ z=>by rw[hx]at z;exact z.elim
 refine codeAny_loop rfl (λn s'=>∃i σ' H',Inv X pins σ' H' s'/\tn i s'.heap/\(∀b∈fp,H' b=none)/\W i n σ' H') (λn s3 hI=>?_) m0 ⟨0,σ,H,I,st,λb hb=>(f b hb).1,w0⟩;obtain⟨i,σ3,H3,I3,st3,fr3,w3⟩:=hI;show wpAny _ _ ((CG (.ListComp elt gens csc cpos) d (.ref it) acc X.a).onRaise (λx=>do noteFrame x X.a;theTreesLotGoes x)) _ _ s3
 refine wpAny_noted ?_;rw[heq];refine xd (Be (xd ?_));rcases turn i n σ3 H3 w3 with⟨stop,qn⟩|⟨go,N,hN,step⟩
 . refine no (thn (T.d X rfl rfl rfl hc i pins s3 σ3 H3 X.j I3 (stat fr3) st3 stop) λr s4 ⟨hr,I4⟩=>?_)
   subst hr;exact Ai (hR σ3 H3 s4 I4 qn fr3)
 . refine no (thn (T.e X rfl rfl rfl hc i pins s3 σ3 H3 X.j I3 (stat fr3) st3 go) λr s4 ⟨u,hr,h4⟩=>?_)
   subst hr;refine xd (no (thn h4 λ_ s5 ⟨x,H5,I5,r5,y5,st5,fr5⟩=>?_));have I5':=I5.pinned (stat fr5) (T.c _ _ st5);refine xd (no (thn (hg _ s5 σ3 H5 x u _ I5' r5 (step x H5 y5)) λ_ s6 ⟨σ6,H6,I6,q6⟩=>?_));refine xd (no (thn (ht.run I6 q6) λok s7 ⟨H7,I7,q7⟩=>?_));have again':∀{σ7:St} {H7:Hp} {s7:Shared},Inv X (pins++qA fp s5.heap) σ7 H7 s7->N σ7 H7->∃m,m<n/\∃i σ' H',Inv X pins σ' H' s7/\tn i s7.heap/\(∀b∈fp,H' b=none)/\W i m σ' H':=λ{σ7 H7 s7} I7 n7=>by obtain⟨m',hm,w7⟩:=hN σ7 H7 n7;refine⟨m',hm,i+1,σ7,H7,I7.tM,T.a _ _ _ st5 λb hb o e=>(I7.O (b,o) (A6 _ (A6 _ (wy hb e)))).1,λb hb=>?_,w7⟩;obtain⟨o,e,d⟩:=T.c _ _ st5 b hb;exact(I7.O (b,o) (A6 _ (A6 _ (wy hb e)))).2.1
   cases ok with
   |false=>exact Ai ⟨rfl,again' I7 q7⟩
   |true=>exact xd (no (thn (hb _ s7 σ6 H7 N I7 q7) λ_ s8 ⟨σ8,H8,I8,n8⟩=>Ai ⟨rfl,again' I8 n8⟩))
def vH(acc:Addr)(te:TE):TB:=λNx σ H=>te σ H λy H1=>∃ys,H1 acc=some (.b ys)/\ys.length<Aq/\Nx σ (upd H1 acc (.b (ys++[y])))
theorem u0(he:PE X elt te):PB X (do let _ <-call (.builtin "list.append") [.ref acc,<-eval elt X.a]) (vH acc te):=by intro pins s σ H Nx I h;refine xd (thn (he pins s σ H _ I h) λu s1 ⟨y,H1,I1,r1,ys,hl,hz,q⟩=>?_);refine xd (thn (qt pins s1 σ H1 (.c acc) [y] (.ref acc) [u] (λ_ H'=>Nx σ H') I1 rfl (.cons r1 .nil) ⟨acc,ys,y,rfl,rfl,hl,hz,q⟩) λ_ s2 ⟨_,H2,I2,_,q2⟩=>?_);exact Ai ⟨σ,H2,I2,q2⟩
end L2
end
section
namespace L2
open PySem PySem.Spec PyProof.Rows
def wc(fr:List (Option Nat))(wi:TI)(g:TG)(ts:List TT)(tb:Addr->TB)(σ:St)(H:Hp)(Q:VK):Prop:=
 wi σ H λJ H1=>∀acc,H1 acc=none->pA J g (tTB ts (tb acc)) ⟨λ_ H'=>Q (.c acc) H',λ_ _=>False,λ_ _=>False,λ_ _=>False⟩ (zZ fr σ) (upd H1 acc (.b []))
section
variable {X:Cx}{pins:List (Addr × Obj)}{σ:St}{H:Hp}{s:Shared}{N:List Str}{csc:Scope}{fr:List (Option Nat)}{elt tg iter:Expr}{ifs:List Expr}{rest:List EA}{cpos:Pos}{wi:TI}{g:TG}{ts:List TT}{tb:Addr->TB}
theorem kI{outer:Env}{Q:Env->Shared->Prop}
 (hQ:∀h':Heap,h'.Ns s.heap.objs.size (λ_=>none)->(∀b o,s.heap.get? b=some o->h'.get? b=some o)->(∀x c,(wJ scope s.heap.objs.size).lookup x=some c->h'.IsCell c none) ->
  Q {scope:=scope,locals:=s.heap.objs.size,globals:=globals,cells:=wJ scope s.heap.objs.size++cl,qual:=qual,func:=none,code:=outer.code,frame:=outer.frame,builtins:=outer.builtins} {s with heap:=h'}) :
 wpAny M A (FH scope globals cl [] qual none .none (some outer)) Q E s:=by
 simp only[FH,Option.isSome_some,if_true];refine xd (wpAny_alloc ?_);refine xd (wpAny_layCells _ (λname kind cells=>by cases hkc:kind == A9<;>simp[hkc]) _ _ _ _ ?_)
 have ok:=cellsFrom_ok scope.names (s.heap.push {cls:=.type "dict",data:=.dict #[]}) (s.heap.objs.size+1) [] ⟨λ_ _ hm=>(nomatch hm),EM⟩ (by rw[Bc];exact Ab _)
 rw[Bc]at ok;rw[show ({s with heap:=s.heap.push {cls:=.type "dict",data:=.dict #[]}}:Shared).heap.objs.size=s.heap.objs.size+1 from Bc ..]
 rw[FI];refine xd (Ai (Ai ?_));rw[uH];exact hQ _ ((Heap.Ns.new s.heap (.type "dict")).keeps (pushCells_keeps _ _)) (λb o e=>pushCells_keeps _ _ b o (nx _ e)) λx c hc=>(ok.empty x c (mem_of_lookup hc)).1
theorem tY{use:Option (Value->Sem Unit)}{QQ:Value->Shared->Prop}{Qv:VK}{B:Value->Env->Sem PUnit}{E:Value->Shared->Prop}(hE:E=X.j)(hc:X.i=true)(S:zf X N csc fr)(hi:PI X tg iter wi)
 (hturn:∀(it:Addr) (acc:Value) (env:Env),CG (.ListComp elt (⟨tg,iter,ifs,0⟩::rest) csc cpos) 0 (.ref it) acc env=(do
  standAt iter.pos
  match <-pyNext (.ref it) with
  |none=>pure (.done .next)
  |some v=>
   Bo tg (.ref it) v
   assign tg env v
   let mut ok:=true
   for c in ifs do
    if ok then ok <-isTrue c env (eval c env)
   if ok then B acc env
   again (.compLoop (.ListComp elt (⟨tg,iter,ifs,0⟩::rest) csc cpos) 0 (.ref it) acc env)))
 (hg:∀C s0 H0 ex,PG (X.comp N csc C s0 H0 ex) tg g) (ht:∀C s0 H0 ex,PTs (X.comp N csc C s0 H0 ex) ifs ts)
 (hb:∀C s0 H0 ex acc,(∃pins',Inv X pins' σ H0 s0/\∀b∈ex,v5 X pins' H0 b)->PB (X.comp N csc C s0 H0 ex) (B (.ref acc) (X.comp N csc C s0 H0 ex).a) (tb acc))
 (I:Inv X pins σ H s) (h:wc fr wi g ts tb σ H Qv)
 (hfin:∀acc C H' s',Inv X pins σ H' s'->Qv (.c acc) H'->(∃m,s'.heap.Ns C m)->H' C=none->C≠X.a.locals->X.l.heap.objs.size<=C->(∀x c,X.a.cells.lookup x=some c->c≠C)->(∀p∈X.n++pins,p.1≠C) ->
  compPost (model X.f X.w) X.A X.j use QQ (.ref acc) C (.ok .next) s') :
 wpAny (model X.f X.w) X.A (eval iter X.a) (λx s₁=>wpAny (model X.f X.w) X.A (pyIter x) (λit s₂=>wpAny (model X.f X.w) X.A (newList []) (λacc s₃=>
  wpAny (model X.f X.w) X.A (FH csc X.a.globals (v7 X.a.cells csc.names []) [] X.a.qual none .none (some X.a)) (λcenv s₄=>
   codeAny (model X.f X.w) X.A (.compStart (.ListComp elt (⟨tg,iter,ifs,0⟩::rest) csc cpos) 0 it acc {cenv with scope:=relabel csc X.a}) (compPost (model X.f X.w) X.A E use QQ acc cenv.locals) s₄) E s₃) E s₂) E s₁) E s:=by
 subst hE;refine thn (hi pins s σ H _ I h) λv s1 h1=>thn h1 λitv s2 h2=>?_;obtain⟨it,fp,tn,J,H2,e,I2,T,st2,f2,q2⟩:=h2;subst e;refine Bi ?_;have hfr:H2 s2.heap.objs.size=none:=I2.C.fresh (Ab _);have q3:=q2 s2.heap.objs.size hfr;generalize hs3:({s2 with heap:=s2.heap.push {cls:=.type "list",dict:=none,data:=.seq ([]:List Value).toArray}}:Shared)=s3
 have k23:∀b u,s2.heap.get? b=some u->s3.heap.get? b=some u:=λb u e=>by rw[<-hs3];exact nx _ e
 have new3:s3.heap.get? s2.heap.objs.size=some {cls:=.type "list",dict:=none,data:=.seq ([]:List Value).toArray}:=by rw[<-hs3];exact AB _ rfl
 have I3:Inv X pins σ (upd H2 s2.heap.objs.size (.b [])) s3:=by rw[<-hs3];exact I2.laid (t':=s2.toks) (λb u e=>nx _ e) (Ab _) ⟨Cb _,[],0,.nil,AB _ rfl⟩
 have lt2:∀b∈fp,b<s2.heap.objs.size:=λb hb=>by obtain⟨o,e,_⟩:=T.c _ _ st2 b hb;exact Aj e
 have hsz:s3.heap.objs.size=s2.heap.objs.size+1:=by rw[<-hs3];exact Bc ..
 have f3:∀b∈fp,v5 X pins (upd H2 s2.heap.objs.size (.b [])) b:=λb hb=>⟨by rw[zH (AG (lt2 b hb))];exact(f2 b hb).1,(f2 b hb).2⟩
 have lt3:∀b∈fp,b<s3.heap.objs.size:=λb hb=>by rw[hsz];exact B0 (lt2 b hb)
 refine kI λh4 hns4' k34 own4=>?_;have I4:=mw (tk:=s3.toks) I3 S f3 lt3 hns4' k34 own4;have st4:tn 0 h4:=T.a _ _ _ st2 λb hb o e=>k34 b o (k23 b o e);have f4:∀b∈fp,v5 (X.comp N csc s3.heap.objs.size s3 (upd H2 s2.heap.objs.size (.b [])) fp) [] (upd H2 s2.heap.objs.size (.b [])) b:=λb hb=>by have ok:=I4.B;obtain⟨g1,g2⟩:=ok.G b hb;exact⟨(f3 b hb).1,g1,ok.l b hb,.inl hb,g2,λp hp=>by simp at hp⟩
 have fin:∀σ' H' s',Inv (X.comp N csc s3.heap.objs.size s3 (upd H2 s2.heap.objs.size (.b [])) fp) [] σ' H' s'->Qv (.c s2.heap.objs.size) H'->(∀b∈fp,H' b=none) ->
  compPost (model X.f X.w) X.A X.j use QQ (.ref s2.heap.objs.size) s3.heap.objs.size (.ok .next) s':=λσ' H' s' I' q' _=>by
  have IX:Inv X pins σ H' s':=I3.VD I'.R I'.j I'.C I'.F λb hb=>by obtain⟨g0,g1,g2,g3,g4,g5⟩:=f3 b hb;exact⟨g3,g1,g4,g5⟩
  obtain⟨m,hn,_⟩:=I'.M;refine hfin _ _ H' s' IX q' ⟨m,hn⟩ I'.J (E2 I3.lt) I3.sz (λx c e=>?_) λp hp=>?_
  . obtain⟨w',z⟩:=I3.G x c e
    exact AG z.lt
  . exact AG (Aj (I3.O p hp).1)
 have loop:codeAny (model X.f X.w) X.A (.compLoop (.ListComp elt (⟨tg,iter,ifs,0⟩::rest) csc cpos) 0 (.ref it) (.ref s2.heap.objs.size) (compEnvC csc (wJ csc s3.heap.objs.size++v7 X.a.cells csc.names []) s3.heap.objs.size X.a))
  (compPost (model X.f X.w) X.A X.j use QQ (.ref s2.heap.objs.size) s3.heap.objs.size) {s3 with heap:=h4}:=
  wY (X:=X.comp N csc s3.heap.objs.size s3 (upd H2 s2.heap.objs.size (.b [])) fp) (hturn it _ _) rfl hc T (hg _ _ _ _) (ht _ _ _ _) (hb _ _ _ _ _ ⟨pins,I3,f3⟩) I4 st4 f4 q3 fin
 exact codeAny_compStart_list loop (T.f X.A 0 _ _ _ st4 loop)
theorem nv{B:Value->Env->Sem PUnit}(hc:X.i=true)(S:zf X N csc fr)(hi:PI X tg iter wi)
 (hturn:∀(it:Addr) (acc:Value) (env:Env),CG (.ListComp elt (⟨tg,iter,ifs,0⟩::rest) csc cpos) 0 (.ref it) acc env=(do
  standAt iter.pos
  match <-pyNext (.ref it) with
  |none=>pure (.done .next)
  |some v=>
   Bo tg (.ref it) v
   assign tg env v
   let mut ok:=true
   for c in ifs do
    if ok then ok <-isTrue c env (eval c env)
   if ok then B acc env
   again (.compLoop (.ListComp elt (⟨tg,iter,ifs,0⟩::rest) csc cpos) 0 (.ref it) acc env)))
 (hg:∀C s0 H0 ex,PG (X.comp N csc C s0 H0 ex) tg g) (ht:∀C s0 H0 ex,PTs (X.comp N csc C s0 H0 ex) ifs ts)
 (hb:∀C s0 H0 ex acc,PB (X.comp N csc C s0 H0 ex) (B (.ref acc) (X.comp N csc C s0 H0 ex).a) (tb acc))
 (hs:∀x,AU iter X.a x=pure x:=by intro _;rfl) :
 PE X (.ListComp elt (⟨tg,iter,ifs,0⟩::rest) csc cpos) (wc fr wi g ts tb):=by
 intro pins s σ H Q I h;rw[eval_ListComp];refine C9 (use:=none) rfl hs (wH (S.cells I.B)) S.b S.a ?_;refine tY (use:=none) rfl hc S hi hturn hg ht (λC s0 H0 ex acc _=>hb C s0 H0 ex acc) I h λacc C H' s' I' q' hn hC hL h0 hcl hpn=>?_;obtain⟨m,hn⟩:=hn;refine⟨m,hn,λh' sb=>⟨.c acc,H',?_,rfl,q'⟩⟩;exact I'.turned (t':=s'.toks) (λb o hb e=>(sb.2 b hb).trans e) hC (Bv (Bv hL)) (.inr h0) hcl hpn
theorem dZ{B:Value->Env->Sem PUnit}{tp:St->Addr->TB}(hc:X.i=true)(S:zf X N csc fr)(hi:PI X tg iter wi)
 (hturn:∀(it:Addr) (acc:Value) (env:Env),CG (.ListComp elt (⟨tg,iter,ifs,0⟩::rest) csc cpos) 0 (.ref it) acc env=(do
  standAt iter.pos
  match <-pyNext (.ref it) with
  |none=>pure (.done .next)
  |some v=>
   Bo tg (.ref it) v
   assign tg env v
   let mut ok:=true
   for c in ifs do
    if ok then ok <-isTrue c env (eval c env)
   if ok then B acc env
   again (.compLoop (.ListComp elt (⟨tg,iter,ifs,0⟩::rest) csc cpos) 0 (.ref it) acc env)))
 (hg:∀C s0 H0 ex,PG (X.comp N csc C s0 H0 ex) tg g) (ht:∀C s0 H0 ex,PTs (X.comp N csc C s0 H0 ex) ifs ts)
 (hb:∀σ C s0 H0 ex acc,(∃pins',Inv X pins' σ H0 s0/\∀b∈ex,v5 X pins' H0 b)->PB (X.comp N csc C s0 H0 ex) (B (.ref acc) (X.comp N csc C s0 H0 ex).a) (tp σ acc))
 (hs:∀x,AU iter X.a x=pure x:=by intro _;rfl) :
 PE X (.ListComp elt (⟨tg,iter,ifs,0⟩::rest) csc cpos) (λσ=>wc fr wi g ts (tp σ) σ):=by
 intro pins s σ H Q I h;rw[eval_ListComp];refine C9 (use:=none) rfl hs (wH (S.cells I.B)) S.b S.a ?_;refine tY (use:=none) rfl hc S hi hturn hg ht (hb σ) I h λacc C H' s' I' q' hn hC hL h0 hcl hpn=>?_;obtain⟨m,hn⟩:=hn;refine⟨m,hn,λh' sb=>⟨.c acc,H',?_,rfl,q'⟩⟩;exact I'.turned (t':=s'.toks) (λb o hb e=>(sb.2 b hb).trans e) hC (Bv (Bv hL)) (.inr h0) hcl hpn
theorem n9{B:Value->Env->Sem PUnit}{y:Str}{py spos:Pos}{i:Nat}(hc:X.i=true)(S:zf X N csc fr)(hi:PI X tg iter wi)
 (hturn:∀(it:Addr) (acc:Value) (env:Env),CG (.ListComp elt (⟨tg,iter,ifs,0⟩::rest) csc cpos) 0 (.ref it) acc env=(do
  standAt iter.pos
  match <-pyNext (.ref it) with
  |none=>pure (.done .next)
  |some v=>
   Bo tg (.ref it) v
   assign tg env v
   let mut ok:=true
   for c in ifs do
    if ok then ok <-isTrue c env (eval c env)
   if ok then B acc env
   again (.compLoop (.ListComp elt (⟨tg,iter,ifs,0⟩::rest) csc cpos) 0 (.ref it) acc env)))
 (hg:∀C s0 H0 ex,PG (X.comp N csc C s0 H0 ex) tg g) (ht:∀C s0 H0 ex,PTs (X.comp N csc C s0 H0 ex) ifs ts)
 (hb:∀C s0 H0 ex acc,PB (X.comp N csc C s0 H0 ex) (B (.ref acc) (X.comp N csc C s0 H0 ex).a) (tb acc))
 (hN:X.N.Nodup) (hy:X.N[i]?=some y) (hx:Loc X.a.scope y)
 (hsw:DP (.ListComp elt (⟨tg,iter,ifs,0⟩::rest) csc cpos) (some (.Name y py)) spos.line X.a=pure true:=by rfl)
 (hf:X.q y=true\/X.a.scope.names.lookup y=some .local:=by first|exact .inl rfl|exact .inr rfl|assumption)
 (hs:∀x,AU iter X.a x=pure x:=by intro _;rfl) :
 PS X (.Assign [.Name y py] (.ListComp elt (⟨tg,iter,ifs,0⟩::rest) csc cpos) spos) (v9 (wc fr wi g ts tb) (xG i)):=by
 intro pins s σ H D I h;rw[exec_Assign_Name_used _ _ _ _ hsw];refine xd (Be (xd ?_));show wpAny _ X.A (do let _ <-comprehension (.ListComp elt (⟨tg,iter,ifs,0⟩::rest) csc cpos) csc X.a _ (newList []) false (eval iter X.a) (some (assign (.Name y py) X.a))) _ _ s
 refine xd (AX (C9 (use:=some (assign (.Name y py) X.a)) (Q:=λ_ s'=>SP X pins D .next s') rfl hs (wH (S.cells I.B)) S.b S.a ?_) (λ_ s' hq=>Ai (Ai hq)) λ_ _ e=>e);refine tY (use:=some (assign (.Name y py) X.a)) rfl hc S hi hturn hg ht (λC s0 H0 ex acc _=>hb C s0 H0 ex acc) I h λacc C H' s' I' q' hn hC hL h0 hcl hpn=>?_;obtain⟨m,hn⟩:=hn;show wpAny _ X.A (assign (.Name y py) X.a (.ref acc)) _ _ _;refine wpAny_assign_Name (pI I' hN hy hx (show RelV (.c acc) (.ref acc) from rfl) (λs2 I2 ⟨a,sb,ha⟩=>?_) hf);have haC:C≠a:=by
  rcases ha with ha|ha
  . rw[ha];exact hL
  . exact Bv (hcl y a ha)
 refine⟨m,hn.sameBut sb haC,λh' sb'=>⟨_,H',?_,q'⟩⟩;exact I2.turned (t':=s2.toks) (λb o hb e=>(sb'.2 b hb).trans e) hC hL (.inr h0) hcl hpn
theorem cm(elt tg iter:Expr)(ifs:List Expr)(csc:Scope)(cpos:Pos)(it:Addr)(acc:Value)(env:Env) :
 CG (.ListComp elt [⟨tg,iter,ifs,0⟩] csc cpos) 0 (.ref it) acc env=(do
  standAt iter.pos
  match <-pyNext (.ref it) with
  |none=>pure (.done .next)
  |some v=>
   Bo tg (.ref it) v
   assign tg env v
   let mut ok:=true
   for c in ifs do
    if ok then ok <-isTrue c env (eval c env)
   if ok then (do let _ <-call (.builtin "list.append") [acc,<-eval elt env])
   again (.compLoop (.ListComp elt [⟨tg,iter,ifs,0⟩] csc cpos) 0 (.ref it) acc env)):=by rfl
theorem YD(elt tg iter:Expr)(ifs:List Expr)(tg2 iter2:Expr)(ifs2:List Expr)(csc:Scope)(cpos:Pos)(it:Addr)(acc:Value)(env:Env) :
 CG (.ListComp elt [⟨tg,iter,ifs,0⟩,⟨tg2,iter2,ifs2,0⟩] csc cpos) 0 (.ref it) acc env=(do
  standAt iter.pos
  match <-pyNext (.ref it) with
  |none=>pure (.done .next)
  |some v=>
   Bo tg (.ref it) v
   assign tg env v
   let mut ok:=true
   for c in ifs do
    if ok then ok <-isTrue c env (eval c env)
   if ok then (do
    let x <-eval iter2 env
    standAt iter2.pos
    let x <-AU iter2 env x;let _ <-runOwn (.compStart (.ListComp elt [⟨tg,iter,ifs,0⟩,⟨tg2,iter2,ifs2,0⟩] csc cpos) 1 (<-holding [x] (pyIter x)) acc env) env)
   again (.compLoop (.ListComp elt [⟨tg,iter,ifs,0⟩,⟨tg2,iter2,ifs2,0⟩] csc cpos) 0 (.ref it) acc env)):=by
 have e:CG (.ListComp elt [⟨tg,iter,ifs,0⟩,⟨tg2,iter2,ifs2,0⟩] csc cpos) 0 (.ref it) acc env=(do
  standAt iter.pos
  match <-pyNext (.ref it) with
  |none=>pure (.done .next)
  |some v=>
   Bo tg (.ref it) v
   assign tg env v
   let mut ok:=true
   for c in ifs do
    if ok then ok <-isTrue c env (eval c env)
   if ok then
    let x <-eval iter2 env
    standAt iter2.pos
    let x <-AU iter2 env x;let _ <-runOwn (.compStart (.ListComp elt [⟨tg,iter,ifs,0⟩,⟨tg2,iter2,ifs2,0⟩] csc cpos) 1 (<-holding [x] (pyIter x)) acc env) env
   again (.compLoop (.ListComp elt [⟨tg,iter,ifs,0⟩,⟨tg2,iter2,ifs2,0⟩] csc cpos) 0 (.ref it) acc env)):=by rfl
 rw[e];simp only[bind_assoc,C8]
theorem Wt(elt tg iter:Expr)(ifs:List Expr)(tg2 iter2:Expr)(ifs2:List Expr)(csc:Scope)(cpos:Pos)(it:Addr)(acc:Value)(env:Env) :
 CG (.ListComp elt [⟨tg,iter,ifs,0⟩,⟨tg2,iter2,ifs2,0⟩] csc cpos) 1 (.ref it) acc env=(do
  standAt iter2.pos
  match <-pyNext (.ref it) with
  |none=>pure (.done .next)
  |some v=>
   Bo tg2 (.ref it) v
   assign tg2 env v
   let mut ok:=true
   for c in ifs2 do
    if ok then ok <-isTrue c env (eval c env)
   if ok then (do let _ <-call (.builtin "list.append") [acc,<-eval elt env])
   again (.compLoop (.ListComp elt [⟨tg,iter,ifs,0⟩,⟨tg2,iter2,ifs2,0⟩] csc cpos) 1 (.ref it) acc env)):=by rfl
end
end L2
end
section
namespace L2
open PySem PySem.Spec PyProof.Rows
theorem mr
 (h0:codeAny (model prog w) A (.compLoop (.ListComp elt [⟨tg,iter,ifs,0⟩,⟨tg2,iter2,ifs2,0⟩] csc cpos) 1 it acc env) R s)
 (h:wpAny (model prog w) A (pyIter it) (λit' s'=>codeAny (model prog w) A (.compLoop (.ListComp elt [⟨tg,iter,ifs,0⟩,⟨tg2,iter2,ifs2,0⟩] csc cpos) 1 it' acc env) R s')
  (notedBy (model prog w) A env λx s'=>R (.error x) s') s) :
 codeAny (model prog w) A (.compStart (.ListComp elt [⟨tg,iter,ifs,0⟩,⟨tg2,iter2,ifs2,0⟩] csc cpos) 1 it acc env) R s:=by
 refine codeAny_of_tree ?_;show wpAny _ _ ((compStart (.ListComp elt [⟨tg,iter,ifs,0⟩,⟨tg2,iter2,ifs2,0⟩] csc cpos) 1 it acc env).onRaise (λx=>do noteFrame x env;standAt theWindowsPlace)) _ _ s
 refine wpAny_notedAt ?_;unfold compStart;show wpAny _ _ (ask >>= _) _ _ s;refine xd (wpAny_askSetting (wpAny_ite ?_));split
 . first
    |exact xd (Ai (Ai (Aa rfl h0)))
    |exact Ai (Aa rfl h0)
 . first
    |exact xd (DY (xd (Be (xd (AX h (λit' s' h'=>Ai (Aa rfl h')) λ_ _ x=>x)))))
    |(refine xd (DY ?_);show wpAny _ _ (standAt iter2.pos >>= _) _ _ s;exact xd (Be (xd (AX h (λit' s' h'=>Ai (Aa rfl h')) λ_ _ x=>x))))
def qF(wi:TI)(g:TG)(ts:List TT)(tb:TB):TB:=λNx σ H=>wi σ H λJ H1=>pA J g (tTB ts tb) ⟨Nx,λ_ _=>False,λ_ _=>False,λ_ _=>False⟩ σ H1
theorem nq
 (hx:X.j=λ_ _=>False) (hc:X.i=true) (hi:PI X tg2 iter2 wi) (hg:PG X tg2 g) (ht:PTs X ifs2 ts) (hb:PB X (do let _ <-call (.builtin "list.append") [.ref acc,<-eval elt X.a]) tb)
 (hs:∀x,AU iter2 X.a x=pure x:=by intro _;rfl) :
 PB X (do
       let x <-eval iter2 X.a
       standAt iter2.pos
       let x <-AU iter2 X.a x;let _ <-runOwn (.compStart (.ListComp elt [⟨tg,iter,ifs,0⟩,⟨tg2,iter2,ifs2,0⟩] csc cpos) 1 (<-holding [x] (pyIter x)) (.ref acc) X.a) X.a) (qF wi g ts tb):=by
 intro pins s σ H Nx I h;refine xd (thn (hi pins s σ H _ I h) λv s1 h1=>xd (Be (xd (wpAny_of_eq (hs v) (xd (BN (thn h1 λitv s2 h2=>?_)))))));obtain⟨it,fp,tn,J,H2,e,I2,T,st2,f2,q2⟩:=h2;subst e;refine xd (wpAny_runOwn ?_);have loop:codeAny (model X.f X.w) X.A (.compLoop (.ListComp elt [⟨tg,iter,ifs,0⟩,⟨tg2,iter2,ifs2,0⟩] csc cpos) 1 (.ref it) (.ref acc) X.a)
  (λr s'=>match r with|.ok f=>wpAny (model X.f X.w) X.A (pure PUnit.unit:Sem PUnit) (λ_ s'=>∃σ' H',Inv X pins σ' H' s'/\Nx σ' H') X.j s'|.error e=>EZ (model X.f X.w) X.A X.a X.j e s') s2:=
  wY (Wt ..) hx hc T hg ht hb I2 st2 f2 q2 λσ' H' s' I' n' _=>Ai ⟨σ',H',I',n'⟩
 exact mr loop (T.f X.A 0 _ _ _ st2 loop)
section
variable {X:Cx}{N:List Str}{csc:Scope}{fr:List (Option Nat)}{elt tg iter tg2 iter2:Expr}{ifs ifs2:List Expr}{cpos:Pos}{wi wi2:TI}{g g2:TG}{ts ts2:List TT}{te:TE}
theorem si(hc:X.i=true)(S:zf X N csc fr)(hi:PI X tg iter wi)(hg:∀C s0 H0 ex,PG (X.comp N csc C s0 H0 ex) tg g)(ht:∀C s0 H0 ex,PTs (X.comp N csc C s0 H0 ex) ifs ts)
 (he:∀C s0 H0 ex,PE (X.comp N csc C s0 H0 ex) elt te) (hs:∀x,AU iter X.a x=pure x:=by intro _;rfl) :
 PE X (.ListComp elt [⟨tg,iter,ifs,0⟩] csc cpos) (wc fr wi g ts λacc=>vH acc te):=
 nv hc S hi (B:=λacc env=>(do let _ <-call (.builtin "list.append") [acc,<-eval elt env])) (cm elt tg iter ifs csc cpos) hg ht (λC s0 H0 ex acc=>u0 (he C s0 H0 ex)) hs
theorem jQ(hc:X.i=true)(S:zf X N csc fr)(hi:PI X tg iter wi)(hg:∀C s0 H0 ex,PG (X.comp N csc C s0 H0 ex) tg g)(ht:∀C s0 H0 ex,PTs (X.comp N csc C s0 H0 ex) ifs ts)
 (he:∀C s0 H0 ex,PE (X.comp N csc C s0 H0 ex) elt te) (hN:X.N.Nodup) (hy:X.N[i]?=some y) (hx:Loc X.a.scope y)
 (hsw:DP (.ListComp elt [⟨tg,iter,ifs,0⟩] csc cpos) (some (.Name y py)) spos.line X.a=pure true:=by rfl)
 (hf:X.q y=true\/X.a.scope.names.lookup y=some .local:=by first|exact .inl rfl|exact .inr rfl|assumption)
 (hs:∀x,AU iter X.a x=pure x:=by intro _;rfl) :
 PS X (.Assign [.Name y py] (.ListComp elt [⟨tg,iter,ifs,0⟩] csc cpos) spos) (v9 (wc fr wi g ts λacc=>vH acc te) (xG i)):=
 n9 hc S hi (B:=λacc env=>(do let _ <-call (.builtin "list.append") [acc,<-eval elt env])) (cm elt tg iter ifs csc cpos) hg ht (λC s0 H0 ex acc=>u0 (he C s0 H0 ex)) hN hy hx hsw hf hs
theorem nu(hc:X.i=true)(S:zf X N csc fr)(hi:PI X tg iter wi)(hg:∀C s0 H0 ex,PG (X.comp N csc C s0 H0 ex) tg g)(ht:∀C s0 H0 ex,PTs (X.comp N csc C s0 H0 ex) ifs ts)
 (hi2:∀C s0 H0 ex,PI (X.comp N csc C s0 H0 ex) tg2 iter2 wi2) (hg2:∀C s0 H0 ex,PG (X.comp N csc C s0 H0 ex) tg2 g2) (ht2:∀C s0 H0 ex,PTs (X.comp N csc C s0 H0 ex) ifs2 ts2)
 (he:∀C s0 H0 ex,PE (X.comp N csc C s0 H0 ex) elt te) (hs:∀x,AU iter X.a x=pure x:=by intro _;rfl)
 (hs2:∀env x,AU iter2 env x=pure x:=by intro _ _;rfl) :
 PE X (.ListComp elt [⟨tg,iter,ifs,0⟩,⟨tg2,iter2,ifs2,0⟩] csc cpos) (wc fr wi g ts λacc=>qF wi2 g2 ts2 (vH acc te)):=
 nv hc S hi (B:=λacc env=>(do
         let x <-eval iter2 env
         standAt iter2.pos
         let x <-AU iter2 env x;let _ <-runOwn (.compStart (.ListComp elt [⟨tg,iter,ifs,0⟩,⟨tg2,iter2,ifs2,0⟩] csc cpos) 1 (<-holding [x] (pyIter x)) acc env) env)) (YD elt tg iter ifs tg2 iter2 ifs2 csc cpos) hg ht
  (λC s0 H0 ex acc=>nq rfl hc (hi2 C s0 H0 ex) (hg2 C s0 H0 ex) (ht2 C s0 H0 ex) (u0 (he C s0 H0 ex)) (hs2 _)) hs
end
end L2
end
section
namespace L2
open PySem PySem.Spec PyProof.Rows
section
variable {X:Cx}
theorem rF:yO X (.builtin "isinstance") (λxs H Q=>∃x c t b,xs=[x,.k c]/\uZ X.K H x (.type t)/\FD X.K (.type t) (.type c)=some b/\Q (.f b) H):=by intro pins s σ H xs us Q I r h;obtain⟨x,c,t,b,rfl,ty,e,q⟩:=h;obtain⟨u,w',rfl,rx,rc⟩:=vals2 r;cases (show w'=FL c from rc);exact j6 I rx ty e λtk=>⟨.f b,H,I.tok _,rfl,q⟩
end
inductive Kd where
 |e|i|b|g|d|h|f
 deriving DecidableEq
noncomputable def Kd.nm:Kd->String
 |.e=>"NoneType"|.i=>"bool"|.b=>"int"|.g=>"str"|.d=>"list"|.h=>"tuple"|.f=>"dict"
noncomputable def Kd.sub(a c:Kd):Bool:=decide (a=c)||(decide (a=.i)&&decide (c=.b))
theorem Xe K(a c:Kd)(hc:c≠.e):FD K (.type a.nm) (.type c.nm)=some (a.sub c):=by
 cases c with
 |e=>exact absurd rfl hc
 |i=>cases a<;>rfl
 |b=>cases a<;>rfl
 |g=>cases a<;>rfl
 |d=>cases a<;>rfl
 |h=>cases a<;>rfl
 |f=>cases a<;>rfl
end L2
end
section
namespace L2
open PySem PySem.Spec PyProof.Rows
theorem cP(h:H p=none)o:xq H (upd H p o):=λb u q=>by rw[zH (zO q h)];exact q
def sG(H:Hp)(ys:List V)(Q:VK):Prop:=∀p H',xq H H'->H' p=some (.c ys)->Q (.c p) H'
theorem sG.new(g:sG H ys Q):∀p,H p=none->Q (.c p) (upd H p (.c ys)):=λp hp=>g p _ (cP hp _) zM
def Tf:V->Option Int->Option Int->Hp->VK->Prop:=λx lo hi H Q=>∃a xs,x=.c a/\H a=some (.c xs)/\sG H (qP xs lo hi) Q
def UW:R2:=λx y H Q=>∃a b xs ys,x=.c a/\y=.c b/\H a=some (.c xs)/\H b=some (.c ys)/\xs.length+ys.length<=Aq/\sG H (xs++ys) Q
def Ub:R2:=λx y H Q=>∃a k xs,x=.c a/\y=.d k/\H a=some (.c xs)/\2<=k/\k<=1000/\xs≠[]/\xs.length<=1000/\sG H (AA k.toNat xs).flatten Q
section
variable {X:Cx}
theorem ju{lo hi}(ht:IsTup s.heap t items)(hs:s.heap.IsSliceOf sl vl vu .none)(pl:IsPart vl lo)(pu:IsPart vu hi)
 (h0:HT.sIx items.size 0 lo=0) (h1:HT.sIx items.size items.size hi=items.size) (h:Q (.ref t) s):wpAny (model prog w) A (getItem (.ref t) (.ref sl)) Q E s:=by
 obtain⟨os,hos,hcs,hds⟩:=id hs;have hTs:s.TypeIs (.ref sl) "slice":=⟨os,hos,hcs⟩;unfold getItem
 try with_reducible refine BN ?_
 first|refine xd (Ai ?_)|skip
 refine xd (EK ht.typeIs (by decide) ?_)
 refine xd (Dr (name:=D2 "__getitem__") ht.typeIs AV
  (E6 AV ht.typeIs Ea ?_ (Ek _ _)))
 show wpAny _ _ (CL (.ref t) >>= _) _ _ s;refine xd (DG ht ?_);refine xd (D3 hTs ?_);rw[if_pos (by decide)]
 refine xd (HT.wg hs pl pu ?_);have hyes:(((HT.sIx items.size 0 lo:Nat):Int) == 0&&(1:Int) == 1&&(HT.sIx items.size items.size hi-HT.sIx items.size 0 lo) == items.size)=true:=by rw[h0,h1];simp
 show wpAny _ _ (if (((HT.sIx items.size 0 lo:Nat):Int) == 0&&(1:Int) == 1&&(HT.sIx items.size items.size hi-HT.sIx items.size 0 lo) == items.size)=true then _ else _) _ _ s
 rw[if_pos hyes];unfold EB;refine xd (xd (D3 ht.typeIs (Ai ?_)));rw[if_pos (by decide)]
 exact xd (DY (Ai ⟨_,rfl,Ai h⟩))
theorem ZE:SlR X Tf:=by
 intro pins s σ H x v vl vu lo hi sl Q I rx hs pl pu h;obtain⟨a,xs,rfl,hx,g⟩:=h;by_cases hw:HT.sIx xs.length 0 lo=0/\HT.sIx xs.length xs.length hi=xs.length
 . cases rx
   obtain⟨its,r,ht,hz⟩:=I.tuple (.inl (.inl hx));have hlen:its.toArray.size=xs.length:=by rw[Ag];exact r.length.symm
   refine⟨"tuple",_,AV.lookup,ht.typeIs,?_⟩;refine ju ht hs pl pu (by rw[hlen];exact hw.1) (by rw[hlen];exact hw.2) ⟨.c a,H,I,rfl,g a H (xq.refl H) ?_⟩
   rw[hx];unfold qP;rw[hw.1,hw.2,Ee,Nat.sub_zero,List.take_length]
 . exact Wa pins s σ H (.c a) v vl vu lo hi sl Q I rx hs pl pu ⟨a,xs,rfl,.inl (.inl hx),hw,g.new⟩
theorem dC:OpR X (Br .Add) UW:=by
 intro pins s σ H x y v u Q I rx ry h;obtain⟨a,b,xs,ys,rfl,rfl,ha,hb,hz,g⟩:=h;by_cases hx:xs=[]
 . cases rx
   cases ry;subst hx;obtain⟨its,r1,p1,_⟩:=I.tuple (.inl (.inl ha));obtain⟨its2,r2,p2,_⟩:=I.tuple (.inl (.inl hb));cases r1;obtain⟨⟨cls,dd,data,sl⟩,ho,hc,n,hd⟩:=id p1;obtain⟨⟨cls2,dd2,data2,sl2⟩,ho2,hc2,n2,hd2⟩:=id p2;simp only at hc hd hc2 hd2;subst hc hd hc2 hd2;exact concat_meets ⟨_,ho,rfl⟩ ⟨_,ho2,rfl⟩ E5 FY Dz Dq (C6 _ _)
    (tuple_addW0 a b #[] its2.toArray n n2 dd dd2 sl sl2 rfl) ⟨ho,ho2,⟨.c b,H,I,rfl,g b H (xq.refl H) hb⟩⟩
 . refine aS pins s σ H (.c a) (.c b) v u Q I rx ry ⟨a,b,xs,ys,rfl,rfl,.inl (.inl ha),.inl (.inl hb),hx,hz,λe=>?_,λ_=>g.new⟩
   subst e;rw[AY]at g;exact g a H (xq.refl H) ha
theorem xO:fillsNumberSlot (.type "tuple") "mul"=pure false:=
 PySem.fillsNumberSlot_seq (id:="tuple.__mul__") (r:=some (.builtin "tuple.__rmul__")) CH.lookup (by decide +kernel) F.slot_tuple_rmul.lookup (by decide +kernel)
theorem vA:seqRepeat? (.type "tuple")=pure (some (.builtin "tuple.__mul__")):=by
 unfold seqRepeat?;rw[PySem.seqSlot_of (T:="tuple") (name:="__mul__") (id:="tuple.__mul__") CH.lookup (by decide +kernel),PySem.seqSlot_of (T:="tuple") (name:="__rmul__") (id:="tuple.__rmul__") F.slot_tuple_rmul.lookup (by decide +kernel)]
 rfl
theorem xu a t l items n dd sl :
 Meets (Builtin.«int.__rmul__» ⟨[.int a t,.ref l],[]⟩) (λ_ R s=>s.heap.get? l=some {cls:=.type "tuple",dict:=dd,data:=.seq items n,slots:=sl}/\R (.ok (.ret Value.notImplemented)) s):=
 .of_wp λprog w A R s h=>by obtain⟨hp,g,d,tk,os⟩:=s;obtain⟨hl,h⟩:=h;wp_walk;exact⟨_,rfl,h⟩
theorem kF l items n x u dd sl(h1:2<=x)(h2:x<=1000)(h3:¬items.isEmpty=true)(h4:items.size<=1000) :
 Meets (Builtin.«tuple.__mul__» ⟨[.ref l,.int x u],[]⟩) (λ_ R s=>s.heap.get? l=some {cls:=.type "tuple",dict:=dd,data:=.seq items n,slots:=sl} /\
  R (.ok (.ret (A7 s.heap.objs.size))) {s with heap:=s.heap.push {cls:=FL "tuple",data:=Data.seq (Dj (λx1 x2=>x1++x2) #[] (AA x.toNat items))},toks:=s.toks}):=
 .of_wp λprog w A R s h=>by
  obtain⟨hp,g,d,tk,os⟩:=s;obtain⟨hl,h⟩:=h;have f1:=Fb;have c1:¬((decide (x < -(2 ^ 63))||decide (x ≥ 2 ^ 63))=true):=by simp;omega
  have c2:¬((items.isEmpty||x == 1)=true):=by simp at h3 ⊢;exact⟨h3,by omega⟩
  have c3:¬((decide (x<=0)||items.isEmpty)=true):=by simp at h3 ⊢;exact⟨by omega,h3⟩
  have hprod:(items.size:Int)*x<=1000*1000:=Int.mul_le_mul (by omega) h2 (by omega) (by omega)
  have c4:¬((items.size:Int)*x > (2 ^ 63-1)/8):=by omega
  have hL:Aq=16777216:=AS;have c5:¬(CN ((items.size:Int)*x)=true):=by unfold CN;rw[hL];simp only[decide_eq_true_eq];omega
  have hn:(Dj (λx1 x2=>x1++x2) #[] (AA x.toNat items)).size=x.toNat*items.size:=by have e:=foldl_rep items.toList x.toNat [];simp only[Array.toArray_toList,CY]at e;rw[e,Ag,len_rep,Cm]
  have htake:sizeOk (.seq (Dj (λx1 x2=>x1++x2) #[] (AA x.toNat items))):=by
   show (Dj (λx1 x2=>x1++x2) #[] (AA x.toNat items)).size<=Aq;rw[hn,hL];have:x.toNat*items.size<=1000*1000:=Dk (by omega) h4
   omega
  wp_walk using CZ hl
  rw[if_neg c1];refine xd (DG (items:=items) ⟨_,hl,rfl,n,rfl⟩ ?_);rw[if_neg c2];show wpAny _ _ (if (decide (x<=0)||items.isEmpty)=true then _ else _) _ _ _
  rw[if_neg c3];show wpAny _ _ (if (items.size:Int)*x > (2 ^ 63-1)/8 then _ else _) _ _ _
  rw[if_neg c4];show wpAny _ _ (if CN ((items.size:Int)*x)=true then _ else _) _ _ _
  rw[if_neg c5];exact xd (m:=Bg _) (Bi (Ai ⟨_,rfl,h⟩) htake)
theorem aV:OpR X (Br .Mult) Ub:=by
 intro pins s σ H x y v u Q I rx ry h;obtain⟨a,k,xs,rfl,rfl,ha,h1,h2,h3,h4,g⟩:=h;cases rx;obtain⟨t,rfl⟩:=ry;obtain⟨its,r,p1,_⟩:=I.tuple (.inl (.inl ha));obtain⟨⟨cls,dd,data,sl⟩,ho,hc,n,hd⟩:=id p1;simp only at hc hd;subst hc hd;have hl:=r.length;have hne:¬its.toArray.isEmpty=true:=by simp;intro e;exact h3 (r.uw.mp e)
 refine Ca (T:="tuple") (U:="int") (by decide) ⟨_,ho,rfl⟩ (λs'=>Cr s' k t) xO D4 BY vA DK.lookup
  (B1 BY (Cr s k t) DL (Dw _ _) (xu k t a its.toArray n dd sl)
   ⟨ho,rfl,⟨_,ho,rfl⟩,B1 CH ⟨_,ho,rfl⟩ EO (En _ _) (kF a its.toArray n k t dd sl h1 h2 hne (by rw[Ag,<-hl];exact h4)) ⟨ho,?_⟩⟩)
 have e:=foldl_rep its k.toNat [];rw[CY]at e;have hz:(AA k.toNat xs).flatten.length<=Aq:=by
  rw[len_rep,AS];have:k.toNat*xs.length<=1000*1000:=Dk (by omega) h4
  omega
 refine⟨.c s.heap.objs.size,_,I.laid (t':=s.toks) (o:=.c (AA k.toNat xs).flatten) (λb ob q=>nx _ q) (Ab _) ⟨hz,(AA k.toNat its).flatten,r.rep k.toNat,?_⟩,rfl,g.new _ (I.C.fresh (Ab _))⟩;rw[show (#[]:Array Value)=([]:List Value).toArray from rfl,e];exact tN.new _ _
end
end L2
end
section
namespace L2
open PySem PySem.Spec PyProof.Rows
section
variable {X:Cx}{pos:Pos}
def Z9(i j k:Nat)(ta:TA):TS:=λD σ H=>ta σ H λvs H1=>∃v w z,vs=[v,w,z]/\D.a (((σ.set i (some v)).set j (some w)).set k (some z)) H1
theorem vals3(r:Vals [x,y,z] us):∃u1 u2 u3,us=[u1,u2,u3]/\RelV x u1/\RelV y u2/\RelV z u3:=by
 cases r with
 |cons r1 r2=>
  cases r2 with
  |cons r3 r4=>
   cases r4 with
   |cons r5 r6=>cases r6;exact⟨_,_,_,rfl,r1,r3,r5⟩
theorem aq{kt k2 pt2}(hc:X.i=true)(hN:X.N.Nodup)(hi:X.N[i]?=some x)(hj:X.N[j]?=some y)(hk:X.N[k]?=some z)(hij:i≠j)(hik:i≠k)(hjk:j≠k)
 (hx:X.a.scope.names.lookup x=some .local) (hy:X.a.scope.names.lookup y=some .local) (hz:X.a.scope.names.lookup z=some .local) (ha:PA X [a,b,c] ta)
 (hw:BF [.Tuple [.Name x px,.Name y py,.Name z pz] kt pt] (.Tuple [a,b,c] k2 pt2) X.a=pure (some [x,y,z]))
 (hs:DF [.Tuple [.Name x px,.Name y py,.Name z pz] kt pt] (.Tuple [a,b,c] k2 pt2) pos.line X.a=pure false:=by rfl) :
 PS X (.Assign [.Tuple [.Name x px,.Name y py,.Name z pz] kt pt] (.Tuple [a,b,c] k2 pt2) pos) (Z9 i j k ta):=by
 intro pins s σ H D I h;rw[exec_Assign_arm];refine xd (Be ?_);rw[hs];refine xd (Ai ?_);rw[if_neg (by decide)]
 refine xd (Tuple_ (thn (ha _ pins s σ H _ I h) λus s1 ⟨vs,H1,I1,r1,q1⟩=>?_));obtain⟨v,w,zz,e1,q1⟩:=q1;subst e1;obtain⟨u1,u2,u3,rfl,rv,rw',rz⟩:=vals3 r1;refine Bi ?_ (by show 3<=Aq;decide)
 have I2:Inv X pins σ H1 {s1 with heap:=s1.heap.push {cls:=.type "tuple",data:=.seq [u1,u2,u3].toArray}}:=I1.kept (t':=s1.toks) λb o e=>nx _ e
 rw[hw];refine xd (Ai ?_);show wpAny (model X.f X.w) X.A (do rule "assign.swapped-stores";let items <-unpackItems (.ref s1.heap.objs.size) 3 none;DE [λv=>Cu X.a z v,λv=>Cu X.a y v,λv=>Cu X.a x v] items.reverse;pure F1) _ _ _
 refine xd (DY (xd (unpackItems_tuple (items:=#[u1,u2,u3]) (I.B.j hc) (IsTup.new s1.heap _) λh' hx'=>?_)));have I3:=I2.kept (h':=h') (t':=s1.toks) λb o e=>hx' b o (AG (Aj e)) e;show wpAny _ _ (DE [λv=>Cu X.a z v,λv=>Cu X.a y v,λv=>Cu X.a x v] [u3,u2,u1] >>= λ_=>pure F1) _ _ _;refine xd (B2 (Di (xf I3 hN hk (.inl hz) rz (λs2 I4=>?_) (.inr hz))));refine B2 (Di (xf I4 hN hj (.inl hy) rw' (λs3 I5=>?_) (.inr hy)));refine B2 (Di (xf I5 hN hi (.inl hx) rv (λs4 I6=>EI (Ai ?_)) (.inr hx)));refine⟨_,H1,?_,q1⟩;have e:((σ.set k (some zz)).set j (some w)).set i (some v)=((σ.set i (some v)).set j (some w)).set k (some zz):=by rw[Et _ _ (Bv hij),Et _ _ (Bv hik),Et _ _ (Bv hjk)]
 rw[<-e];exact I6
theorem af(hb:∀pins σ H s,Inv X pins σ H s->BM<s.heap.objs.size):PE X (.Dict [] [] pos) (λ_ H Q=>∀p,H p=none->Q (.c p) (upd H p (.i []))):=λpins s σ H Q I h=>
 Fc ⟨.c s.heap.objs.size,_,I.laid (a:=s.heap.objs.size) (o:=.i []) (t':=s.toks) (λ_ _ q=>nx _ q) (Ab _)
  ⟨Cb _,beq_eq_false_iff_ne.mpr (Bv (AG (hb pins σ H s I))),[],.nil,Heap.DictOf.new s.heap⟩,rfl,h _ (I.C.fresh (Ab _))⟩
end
mutual
inductive DD(H:Hp)(p:Addr):V->PyData->Prop
 |non:DD H p .g .none
 |bl (b:Bool):DD H p (.f b) (.bool b)
 |int (i:Int):DD H p (.d i) (.int i)
 |str (x:Str):DD H p (.e x) (.str x)
 |lst {a:Addr} {xs:List V} {ds:List PyData}:H a=some (.b xs)->a≠p->DDs H p xs ds->DD H p (.c a) (.list ds)
 |tup {a:Addr} {xs:List V} {ds:List PyData}:H a=some (.c xs)->a≠p->DDs H p xs ds->DD H p (.c a) (.tuple ds)
 |dct {a:Addr}:H a=some (.i [])->a≠p->DD H p (.c a) (.dict [])
inductive DDs(H:Hp)(p:Addr):List V->List PyData->Prop
 |b:DDs H p [] []
 |a {x:V} {xs:List V} {d:PyData} {ds:List PyData}:DD H p x d->DDs H p xs ds->DDs H p (x::xs) (d::ds)
end
theorem DDs.length:∀{vs} {ds},DDs H p vs ds->vs.length=ds.length
 |_,_,.b=>rfl
 |_,_,.a _ rs=>by rw[AM,AM,rs.length]
theorem DDs.append:∀{vs ws} {ds es},DDs H p vs ds->DDs H p ws es->DDs H p (vs++ws) (ds++es)
 |_,_,_,_,.b,r=>r
 |_,_,_,_,.a r rs,q=>.a r (rs.append q)
mutual
noncomputable def xA:PyData->Bool
 |.none|.bool _|.int _|.str _=>false
 |.list _=>true
 |.tuple xs=>xN xs
 |.dict _=>false
noncomputable def xN:List PyData->Bool
 |[]=>false
 |x::xs=>xA x||xN xs
end
structure Za(d:PyData):Prop where
 sh:d.showable=true
 a:d.hasDict=true->xA d=false
 dp:d.depth<=50
 ln:d.shown.length<=Aq
end L2
end
section
namespace L2
open PySem PySem.Spec PyProof.Rows
structure sy(k w:Nat)(d:PyData):Prop where
 c:d.showable=true
 b:d.leavesShort 40=true
 a:d.depth<=k
 f:d.weight<=w
theorem ur(h1:-(10 ^ 30)<i)(h2:i<10 ^ 30):sy 0 100 (.int i):=by
 have hn:i.natAbs<10 ^ 30:=by omega
 have h100:i.natAbs<2 ^ 100:=Nat.lt_trans hn (by decide)
 have hlog:i.natAbs≠0->i.natAbs.log2<100:=λz=>(Nat.log2_lt z).mpr h100;refine⟨?_,?_,Cb _,?_⟩
 . show decide (i.natAbs.log2<1920)=true
   by_cases z:i.natAbs=0
   . rw[z];decide
   . exact decide_eq_true (Nat.lt_trans (hlog z) (by decide))
 . show decide ((PyData.shown (.int i)).length<=40)=true
   refine decide_eq_true ?_;show (D2 (E3 i)).length<=40;by_cases z:0<=i
   . exact Az (toString_length_le z (k:=30) (by decide) h2) (by decide)
   . have e:=len_text_negI (n:=i) (by omega)
     have e2:=toString_length_le (v:=0-i) (k:=30) (by omega) (by decide) (by omega)
     omega
 . show (if i == 0 then 0 else i.natAbs.log2+1)<=100
   split
   . exact Cb _
   . rename_i z
     have z':i≠0:=by simpa using z
     exact hlog (by omega)
theorem wk:∀{ds},(∀d∈ds,d.showable=true)->PyData.showableAll ds=true
 |[],_=>rfl
 |d::ds,h=>by rw[PyData.showableAll,h d Ao,wk λx hx=>h x (Ac _ hx)];rfl
theorem tR:∀{ds},(∀d∈ds,d.leavesShort 40=true)->PyData.leavesShortAll 40 ds=true
 |[],_=>rfl
 |d::ds,h=>by rw[PyData.leavesShortAll,h d Ao,tR λx hx=>h x (Ac _ hx)];rfl
theorem tQ:∀{ds},(∀d∈ds,d.depth<=k)->PyData.depthAll ds<=k
 |[],_=>Cb _
 |d::ds,h=>by rw[PyData.depthAll];exact Nat.max_le.mpr ⟨h d Ao,tQ λx hx=>h x (Ac _ hx)⟩
theorem uF:∀{ds},(∀d∈ds,d.weight<=w)->Fd ds<=ds.length*(w+1)
 |[],_=>by simp[Fd]
 |d::ds,h=>by rw[Fd,AM,Nat.succ_mul];have h1:=h d Ao;have h2:=uF λx hx=>h x (Ac _ hx);omega
theorem rg(h:∀d∈ds,sy k w d)(hn:ds.length<=n):sy (k+1) (n*(w+1)) (.tuple ds):=by refine⟨wk λd hd=>(h d hd).c,tR λd hd=>(h d hd).b,Nat.succ_le_succ (tQ λd hd=>(h d hd).a),?_⟩;exact Az (uF λd hd=>(h d hd).f) (Nat.mul_le_mul_right _ hn)
theorem iI(h:∀d∈ds,sy k w d)(hn:ds.length<=n):sy (k+1) (n*(w+1)) (.list ds):=by refine⟨wk λd hd=>(h d hd).c,tR λd hd=>(h d hd).b,Nat.succ_le_succ (tQ λd hd=>(h d hd).a),?_⟩;exact Az (uF λd hd=>(h d hd).f) (Nat.mul_le_mul_right _ hn)
theorem sy.Ul(h:sy k w d)(hk:k<=50)(hw:w<=300000)(mix:d.hasDict=true->xA d=false):Za d:=by
 refine⟨h.c,mix,Az h.a hk,?_⟩;have e:=PyData.shown_le 40 (by decide) d h.b
 have e2:=h.f;rw[AS];have:(40+2)*d.weight<=42*300000:=Nat.mul_le_mul_left _ (Az e2 hw);omega
theorem tm:∀{ds},(∀d∈ds,d.hasDict=false)->ES ds=false
 |[],_=>rfl
 |d::ds,h=>by rw[ES,h d Ao,tm λx hx=>h x (Ac _ hx)];rfl
end L2
end
section
namespace L2
open PySem PySem.Spec PyProof.Rows
section
variable {X:Cx}{pos:Pos}
theorem UM(hg:Gl X x)(hm:X.d x=none)(hv:BW x=some (.type n))(hn:x≠"__name__":=by decide)(hd:(x == ("__debug__":Str))=false:=by decide):PE X (.Name x pos) (tC (.k n)):=
 ae hg hm hv (show RelV (.k n) (.type n) from rfl) hn hd
theorem UR(ha:PT X a tA)(hb:PW X (.BoolOp .Or (b::rest) pos) tB'):PT X (.BoolOp .Or (a::b::rest) pos) (tOr tA tB'):=(UT ha hb).pt
noncomputable def noStar:Expr->Bool
 |.Starred ..=>false
 |_=>true
theorem zd(h:noStar e=true):AF (e::es) env=(false,eval e env)::AF es env:=by
 cases e<;>first|rfl|cases h
theorem pac(ha:PE X e te)(hr:PA X es t)(hs:noStar e=true:=by rfl):PA X (e::es) (wj te t):=yo ha hr (zd hs)
noncomputable def vR(sc0:Scope)(N0 N:List Str)(csc:Scope)(fr:List (Option Nat)):Bool:=
 decide (csc.kind=.function)&&csc.names.all (λx=>decide (x.2≠.cell)||csc.names.all λy=>decide (y≠(x.1,Ay)))&&csc.names.all (λx=>decide (x.2≠.local)||decide (csc.names.lookup x.1=some .local)) &&
 csc.names.all (λx=>decide (x.2≠.free)||(decide (sc0.names.lookup x.1=some .cell)||decide (sc0.names.lookup x.1=some .free)))&&decide (fr.length=N.length) &&
 (Ax N.length).all (λi=>match fr[i]?,N[i]? with|some (some j),some x=>decide (N0[j]?=some x)&&csc.names.any (λy=>decide (y.1=x)&&decide (y.2=.free))|_,_=>true) &&
 csc.names.all (λx=>decide (x.2≠.free)||decide (csc.names.lookup x.1≠some .local))&&(decide (("!":Str) ∉ N)||(decide (("!":Str)∈N0)&&sc0.names.any (λy=>decide (sc0.names.lookup y.1=some .cell))))
end
end L2
end
section
namespace L2
open PySem PySem.Spec PyProof.Rows
noncomputable def yG{α:Type}(xs:List α)(lo st:Int)(n:Nat):List α:=(Ax n).filterMap λ(k:Nat)=>xs[(lo+(k:Int)*st).toNat]?
theorem Vals.pick(r:Vals xs us):∀(is:List Nat),Vals (is.filterMap λi=>xs[i]?) (is.filterMap λi=>us[i]?)
 |[]=>.nil
 |i::is=>by
  rw[A3,A3];cases hx:xs[i]? with
  |none=>rw[r.none_of hx];exact Vals.pick r is
  |some x=>
   obtain⟨u,hu,ru⟩:=r.get hx;rw[hu];exact .cons ru (Vals.pick r is)
theorem Vals.yG{xs:List V}{us:List Value}(r:Vals xs us)(lo st:Int)(n:Nat):Vals (yG xs lo st n) (L2.yG us lo st n):=by have h:=r.pick ((Ax n).map λ(k:Nat)=>(lo+(k:Int)*st).toNat);rw[BQ,BQ]at h;exact h
theorem nz(xs:List α)lo st n:(yG xs lo st n).length<=n:=by have:=Fe (λ(k:Nat)=>xs[(lo+(k:Int)*st).toNat]?) (Ax n);rw[Bt]at this;exact this
noncomputable def ym(n:Nat)(lo hi:Option Int)(st:Int):Int × Nat:=((BE lo hi st (n:Int)).1,BU (BE lo hi st (n:Int)).1 (BE lo hi st (n:Int)).2 st)
section
variable {prog:Program}{w:World}{A:Around}{E:Value->Shared->Prop}{s:Shared}
theorem qR{lo hi}{st}{n:Nat}(hs:s.heap.IsSliceOf sl vl vu vc)(pl:IsPart vl lo)(pu:IsPart vu hi)(pc:IsPart vc (some st))(h0:st≠0)
 (h:Q ((ym n lo hi st).1,st,(ym n lo hi st).2) s):wpAny (model prog w) A (B6 (.ref sl) (pure (n:Int))) Q E s:=by
 obtain⟨os,hos,hcs,hds⟩:=id hs;unfold B6 EX;refine xd (xd (DA hos hds (x:=vl) rfl (xd (DA hos hds (x:=vu) rfl (xd (DA hos hds (x:=vc) rfl (Ai ?_)))))));refine xd (HT.xy pc ?_);show wpAny _ _ (if (st == 0)=true then _ else _) _ _ s
 rw[if_neg (by simpa using h0)]
 exact xd (HT.xy pl (xd (HT.xy pu (xd (Ai (Ai h))))))
theorem cj{lo hi}{st}(ht:IsTup s.heap t items)(hs:s.heap.IsSliceOf sl vl vu vc)(pl:IsPart vl lo)(pu:IsPart vu hi)(pc:IsPart vc (some st))(h0:st≠0)
 (hq1:(ym items.size lo hi st).1=0->st=1->(ym items.size lo hi st).2=items.size->Q (.ref t) s)
 (hq2:Q (.ref s.heap.objs.size) {s with heap:=s.heap.push {cls:=.type "tuple",data:=.seq (yG items.toList (ym items.size lo hi st).1 st (ym items.size lo hi st).2).toArray}})
 (hsz:(ym items.size lo hi st).2<=Aq):wpAny (model prog w) A (getItem (.ref t) (.ref sl)) Q E s:=by
 obtain⟨os,hos,hcs,hds⟩:=id hs;have hTs:s.TypeIs (.ref sl) "slice":=⟨os,hos,hcs⟩;have htake:sizeOk (.seq (yG items.toList (ym items.size lo hi st).1 st (ym items.size lo hi st).2).toArray):=by show (yG items.toList (ym items.size lo hi st).1 st (ym items.size lo hi st).2).toArray.size<=Aq;rw[Ag];exact Az (nz _ _ _ _) hsz
 have epick:((Ax (ym items.size lo hi st).2).filterMap λ(k:Nat)=>items[((ym items.size lo hi st).1+(k:Int)*st).toNat]?).toArray=(yG items.toList (ym items.size lo hi st).1 st (ym items.size lo hi st).2).toArray:=by unfold yG;simp only[Array.getElem?_toList]
 unfold getItem
 try with_reducible refine BN ?_
 first|refine xd (Ai ?_)|skip
 refine xd (EK ht.typeIs (by decide) ?_)
 refine xd (Dr (name:=D2 "__getitem__") ht.typeIs AV
  (E6 AV ht.typeIs Ea ?_ (Ek _ _)))
 show wpAny _ _ (CL (.ref t) >>= _) _ _ s;refine xd (DG ht ?_);refine xd (D3 hTs ?_);rw[if_pos (by decide)]
 refine xd (qR (n:=items.size) hs pl pu pc h0 ?_);by_cases hw:((ym items.size lo hi st).1 == 0&&st == 1&&(ym items.size lo hi st).2 == items.size)=true
 . show wpAny _ _ (if ((ym items.size lo hi st).1 == 0&&st == 1&&(ym items.size lo hi st).2 == items.size)=true then _ else _) _ _ s
   rw[if_pos hw];simp only[cf,beq_iff_eq]at hw;unfold EB;refine xd (xd (D3 ht.typeIs (Ai ?_)));rw[if_pos (by decide)]
   exact xd (DY (Ai ⟨_,rfl,Ai (hq1 hw.1.1 hw.1.2 hw.2)⟩))
 . show wpAny _ _ (if ((ym items.size lo hi st).1 == 0&&st == 1&&(ym items.size lo hi st).2 == items.size)=true then _ else _) _ _ s
   rw[if_neg hw,epick]
   first
    |exact xd (m:=Bg _) (Bi (Ai ⟨_,rfl,Ai hq2⟩) htake)
    |exact xd (xd (m:=Bg _) (Bi (Ai ⟨_,rfl,Ai hq2⟩) htake))
end
theorem n5{α:Type}:∀xs:List α,(Ax xs.length).filterMap (λk=>xs[k]?)=xs
 |[]=>rfl
 |x::xs=>by
  rw[AM,DB,A3,BQ];show x::_=_;refine congrArg (x::·) (Eq.trans ?_ (n5 xs))
  congr 1
theorem la(xs:List α):yG xs 0 1 xs.length=xs:=by
 unfold yG;have e:(λ(k:Nat)=>xs[(0+(k:Int)*1).toNat]?)=λk=>xs[k]?:=by funext k;rw[show (0+(k:Int)*1).toNat=k by omega]
 rw[e];exact n5 xs
def Tg:V->Option Int->Option Int->Option Int->Hp->VK->Prop:=λx lo hi st H Q=>∃a xs c,x=.c a/\H a=some (.c xs)/\st=some c/\c≠0/\(ym xs.length lo hi c).2<=Aq/\sG H (yG xs (ym xs.length lo hi c).1 c (ym xs.length lo hi c).2) Q
def Uy(r:V->Option Int->Option Int->Option Int->Hp->VK->Prop)(te:TE)(tl th tc:TO):TE:=λσ H Q=>te σ H λx H1=>tl σ H1 λl H2=>th σ H2 λu H3=>tc σ H3 λc H4=>r x l u c H4 Q
theorem ip{lo hi}{st}(he:PE X e te)(hl:PO X lo tl)(hu:PO X hi th)(hc:PO X (some st) tc):PE X (.Subscript e (.Slice lo hi (some st) p2) pos) (Uy Tg te tl th tc):=by
 intro pins s σ H Q I h;refine FP (thn (he pins s σ H _ I h) λv s1 ⟨x,H1,I1,r1,q1⟩=>?_);refine wpAny_Slice (thn (hl pins s1 σ H1 _ I1 q1) λvl s2 ⟨l,H2,I2,pl,q2⟩=>thn (hu pins s2 σ H2 _ I2 q2) λvu s3 ⟨u,H3,I3,pu,q3⟩=>thn (hc pins s3 σ H3 _ I3 q3) λvc s4 ⟨c,H4,I4,pc,q4⟩=>?_);obtain⟨a,xs,cc,rfl,hx,ec,h0,hsz,g⟩:=q4;subst ec;cases r1;have I5:Inv X pins σ H4 {s4 with heap:=s4.heap.push {cls:=.type "slice",data:=.fields #[vl,vu,vc]}}:=I4.kept (t':=s4.toks) λb ob q=>nx _ q
 obtain⟨its,r,ht,hz⟩:=I5.tuple (.inl (.inl hx));have hlen:its.toArray.size=xs.length:=by rw[Ag];exact r.length.symm
 show wpAny (model X.f X.w) X.A (Ez e (.Slice lo hi (some st) p2) (.ref a) (.ref s4.heap.objs.size)) (EP X pins σ Q) X.j {s4 with heap:=s4.heap.push {cls:=.type "slice",data:=.fields #[vl,vu,vc]}}
 refine tail_any (ops:=[.ref a,.ref s4.heap.objs.size]) ht.typeIs AV.lookup (cj ht (El ..) pl pu pc h0 (λz1 z2 z3=>?_) ?_ (by rw[hlen];exact hsz)) (by with_unfolding_all rfl)
 . refine⟨.c a,H4,I5,rfl,g a H4 (xq.refl H4) ?_⟩
   rw[hlen]at z1 z3;rw[hx,z1,z3,z2,la]
 . rw[hlen]
   refine⟨.c _,_,I5.laid (t':=s4.toks) (o:=.c (yG xs (ym xs.length l u cc).1 cc (ym xs.length l u cc).2)) (λb ob q=>nx _ q) (Ab _) ?_,rfl,g.new _ (I5.C.fresh (Ab _))⟩;refine⟨Az (nz _ _ _ _) hsz,_,r.yG _ _ _,?_⟩;exact tN.new _ _
end L2
end
section
namespace L2
open PySem PyProof.Rows
section
variable {X:Cx}
noncomputable def vF(d:Int):List Int->Int
 |[]=>d
 |n::ns=>ns.foldl (λa b=>if b > a then b else a) n
theorem rN:∀(ns:List Int) a,a<=ns.foldl (λa b=>if b > a then b else a) a/\(∀x∈ns,x<=ns.foldl (λa b=>if b > a then b else a) a)/\(ns.foldl (λa b=>if b > a then b else a) a=a\/ns.foldl (λa b=>if b > a then b else a) a∈ns)
 |[],a=>⟨Int.le_refl _,λ_ h=>(nomatch h),.inl rfl⟩
 |n::ns,a=>by
  obtain⟨h1,h2,h3⟩:=rN ns (if n > a then n else a)
  show a<=ns.foldl _ (if n > a then n else a)/\_
  have hc:a<=(if n > a then n else a)/\n<=(if n > a then n else a):=by split<;>omega
  refine⟨Ff hc.1 h1,λx hx=>?_,?_⟩
  . rcases As.mp hx with e|hx
    . rw[e];exact Ff hc.2 h1
    . exact h2 x hx
  . rcases h3 with h3|h3
    . show ns.foldl _ (if n > a then n else a)=a\/ns.foldl _ (if n > a then n else a)∈n::ns
      rw[h3];split
      . exact .inr (Ao ..)
      . exact .inl rfl
    . exact .inr (Ac _ h3)
theorem lJ(h:ns≠[]):vF d ns∈ns/\∀x∈ns,x<=vF d ns:=by
 cases ns with
 |nil=>exact absurd rfl h
 |cons n ns=>
  obtain⟨h1,h2,h3⟩:=rN ns n;refine⟨?_,λx hx=>?_⟩
  . rcases h3 with h3|h3
    . show ns.foldl _ n∈_;rw[h3];exact Ao ..
    . exact Ac _ h3
  . rcases As.mp hx with e|hx
    . rw[e];exact h1
    . exact h2 x hx
theorem nU(h1:M∈ns)(h2:∀x∈ns,x<=M):vF d ns=M:=by
 have hne:ns≠[]:=λe=>by rw[e]at h1;exact nomatch h1
 obtain⟨a,b⟩:=lJ (d:=d) hne;exact Int.le_antisymm (h2 _ a) (b _ h1)
theorem Vals.ints:∀{ns:List Int} {us},Vals (ns.map V.d) us->∀{i:Nat} {v},us[i]?=some v->∃t,v=.int (ns.getD i 0) t
 |[],_,.nil,_,_,h=>by cases h
 |n::ns,_,.cons r rs,0,v,h=>by
  obtain⟨t,e⟩:=r;have:v=.int n t:=(AW h).symm.trans e;exact⟨t,this⟩
 |n::ns,_,.cons r rs,i+1,v,h=>by have:=Vals.ints rs (i:=i) (v:=v) h;exact this
end
end L2
end
section
namespace L2
open PySem PyProof PyProof.Rows
section
variable {X:Cx}
theorem kE l items n u dd sl :
 Meets (Builtin.«tuple.__mul__» ⟨[.ref l,.int 1 u],[]⟩) (λ_ R s=>s.heap.get? l=some {cls:=.type "tuple",dict:=dd,data:=.seq items n,slots:=sl}/\R (.ok (.ret (A7 l))) s):=
 .of_wp λprog w A R s h=>by
  obtain⟨hp,g,d,tk,os⟩:=s;obtain⟨hl,h⟩:=h;have f1:=Fb;have c1:¬((decide ((1:Int) < -(2 ^ 63))||decide ((1:Int) ≥ 2 ^ 63))=true):=by decide
  have c2:((items.isEmpty||((1:Int) == 1))=true):=by simp
  wp_walk using CZ hl
  exact⟨_,rfl,h⟩
theorem kD l items n x u dd sl(h1:x<=0)(h2:-1000<=x)(h3:¬items.isEmpty=true) :
 Meets (Builtin.«tuple.__mul__» ⟨[.ref l,.int x u],[]⟩) (λ_ R s=>s.heap.get? l=some {cls:=.type "tuple",dict:=dd,data:=.seq items n,slots:=sl} /\
  R (.ok (.ret (A7 s.heap.objs.size))) {s with heap:=s.heap.push {cls:=FL "tuple",data:=Data.seq #[]},toks:=s.toks}):=
 .of_wp λprog w A R s h=>by
  obtain⟨hp,g,d,tk,os⟩:=s;obtain⟨hl,h⟩:=h;have f1:=Fb;have c1:¬((decide (x < -(2 ^ 63))||decide (x ≥ 2 ^ 63))=true):=by simp;omega
  have c2:¬((items.isEmpty||x == 1)=true):=by simp at h3 ⊢;exact⟨h3,by omega⟩
  have c3:((decide (x<=0)||items.isEmpty)=true):=by simp;exact .inl h1
  wp_walk using CZ hl
  rw[if_neg c1];refine xd (DG (items:=items) ⟨_,hl,rfl,n,rfl⟩ ?_);rw[if_neg c2];show wpAny _ _ (if (decide (x<=0)||items.isEmpty)=true then _ else _) _ _ _
  rw[if_pos c3];exact xd (m:=Bg _) (Bi (Ai ⟨_,rfl,h⟩))
def Uc:R2:=λx y H Q=>∃a k xs,x=.c a/\y=.d k/\H a=some (.c xs)∧-1000<=k/\k<=1000/\xs≠[]/\xs.length<=1000/\sG H (AA k.toNat xs).flatten Q
theorem aU:OpR X (Br .Mult) Uc:=by
 intro pins s σ H x y v u Q I rx ry h;obtain⟨a,k,xs,rfl,rfl,ha,h1,h2,h3,h4,g⟩:=h;by_cases hk2:2<=k
 . exact aV pins s σ H _ _ v u Q I rx ry ⟨a,k,xs,rfl,rfl,ha,hk2,h2,h3,h4,g⟩
 cases rx;obtain⟨t,rfl⟩:=ry;obtain⟨its,r,p1,_⟩:=I.tuple (.inl (.inl ha));obtain⟨⟨cls,dd,data,sl⟩,ho,hc,n,hd⟩:=id p1;simp only at hc hd;subst hc hd;by_cases hk1:k=1
 . subst hk1
   refine Ca (T:="tuple") (U:="int") (by decide) ⟨_,ho,rfl⟩ (λs'=>Cr s' 1 t) xO D4 BY vA DK.lookup
    (B1 BY (Cr s 1 t) DL (Dw _ _) (xu 1 t a its.toArray n dd sl)
     ⟨ho,rfl,⟨_,ho,rfl⟩,B1 CH ⟨_,ho,rfl⟩ EO (En _ _) (kE a its.toArray n t dd sl) ⟨ho,?_⟩⟩)
   refine⟨.c a,H,I,rfl,g a H (xq.refl H) ?_⟩;rw[ha];simp
 . have hne:¬its.toArray.isEmpty=true:=by simp;intro e;exact h3 (r.uw.mp e)
   have e0:k.toNat=0:=by omega
   refine Ca (T:="tuple") (U:="int") (by decide) ⟨_,ho,rfl⟩ (λs'=>Cr s' k t) xO D4 BY vA DK.lookup
    (B1 BY (Cr s k t) DL (Dw _ _) (xu k t a its.toArray n dd sl)
     ⟨ho,rfl,⟨_,ho,rfl⟩,B1 CH ⟨_,ho,rfl⟩ EO (En _ _) (kD a its.toArray n k t dd sl (by omega) h1 hne) ⟨ho,?_⟩⟩)
   rw[e0]at g;refine⟨.c s.heap.objs.size,_,I.laid (t':=s.toks) (o:=.c []) (λb ob q=>nx _ q) (Ab _) ⟨Cb _,[],.nil,tN.new _ _⟩,rfl,g.new _ (I.C.fresh (Ab _))⟩
noncomputable def lq(a b c:Int):List Int:=(Ax (AH a b c).toNat).map λ(i:Nat)=>a+(i:Int)*c
end
end L2
end
section
namespace L2
open PySem PyProof PyProof.Rows
section
variable {X:Cx}
theorem qf:∀{xs} {us},Vals xs us->xs.all vE=true->us.countP (eqU x)=xs.countP λy=>eqV y x
 |_,_,.nil,_=>rfl
 |y::ys,u::us,.cons r rs,h=>by rw[FZ,cf]at h;rw[List.countP_cons,List.countP_cons,qf rs h.2,my r h.1]
def ll(K:Ah)(tup:Bool):V->List V->Hp->VK->Prop:=λx vs H Q=>∃t xs y,x=.c t/\vs=[y]/\(if tup=true then SqT K H t xs else SqL K H t xs)/\vE y=true/\xs.all vE=true/\Q (.d (xs.countP λz=>eqV z y:Nat)) H
theorem iP:MtR X "list.count" (ll X.K false):=by
 intro pins s σ H x xs v us Q I rx rs h;obtain⟨t,ys,y,rfl,rfl,ht,fy,fs,q⟩:=h;cases rx;obtain⟨u,rfl,ru⟩:=vals1 rs;obtain⟨its,r,p1,_⟩:=I.list ht;obtain⟨⟨cls,dd,data,sl⟩,ho,hc,n,hd⟩:=id p1.isList;simp only at hc hd;subst hc hd;refine B1 F.slot_list_count ⟨_,ho,rfl⟩ F.entry_list_count (F.args_list_count_2 _ _) (SeqAt.list_countAt t its.toArray n dd sl u (eqU y)) ⟨ho,λw hw=>rj ru fy r fs w (by simpa using hw),?_⟩
 rw[show its.toArray.toList=its from rfl,qf r fs];exact⟨.d _,H,I.tok _,⟨s.toks,rfl⟩,q⟩
noncomputable def vd(d:Int):List Int->Int
 |[]=>d
 |n::ns=>ns.foldl (λa b=>if b<a then b else a) n
theorem rO:∀(ns:List Int) a,ns.foldl (λa b=>if b<a then b else a) a<=a/\(∀x∈ns,ns.foldl (λa b=>if b<a then b else a) a<=x)/\(ns.foldl (λa b=>if b<a then b else a) a=a\/ns.foldl (λa b=>if b<a then b else a) a∈ns)
 |[],a=>⟨Int.le_refl _,λ_ h=>(nomatch h),.inl rfl⟩
 |n::ns,a=>by
  obtain⟨h1,h2,h3⟩:=rO ns (if n<a then n else a)
  show ns.foldl _ (if n<a then n else a)<=a/\_
  have hc:(if n<a then n else a)<=a/\(if n<a then n else a)<=n:=by split<;>omega
  refine⟨Ff h1 hc.1,λx hx=>?_,?_⟩
  . rcases As.mp hx with e|hx
    . rw[e];exact Ff h1 hc.2
    . exact h2 x hx
  . rcases h3 with h3|h3
    . show ns.foldl _ (if n<a then n else a)=a\/ns.foldl _ (if n<a then n else a)∈n::ns
      rw[h3];split
      . exact .inr (Ao ..)
      . exact .inl rfl
    . exact .inr (Ac _ h3)
theorem lK(h:ns≠[]):vd d ns∈ns/\∀x∈ns,vd d ns<=x:=by
 cases ns with
 |nil=>exact absurd rfl h
 |cons n ns=>
  obtain⟨h1,h2,h3⟩:=rO ns n;refine⟨?_,λx hx=>?_⟩
  . rcases h3 with h3|h3
    . show ns.foldl _ n∈_;rw[h3];exact Ao ..
    . exact Ac _ h3
  . rcases As.mp hx with e|hx
    . rw[e];exact h1
    . exact h2 x hx
theorem nV(h1:M∈ns)(h2:∀x∈ns,M<=x):vd d ns=M:=by
 have hne:ns≠[]:=λe=>by rw[e]at h1;exact nomatch h1
 obtain⟨a,b⟩:=lK (d:=d) hne;exact Int.le_antisymm (b _ h1) (h2 _ a)
def Z1(K:Ah)(g:List Int->Int):List V->Hp->VK->Prop:=λxs H Q=>∃(a:Addr) (ns:List Int),xs=[.c a]/\SqL K H a (ns.map V.d)/\ns≠[]/\Q (.d (g ns)) H
theorem jk(hc:X.i=true):yO X (.builtin "max") (Z1 X.K (vF 0)):=by
 intro pins s σ H xs us Q I r h;obtain⟨a,ns,rfl,ha,hne,q⟩:=h;obtain⟨u,rfl,ru⟩:=vals1 r;cases ru;obtain⟨its,rv,pl,hz⟩:=I.list ha;have hlen:=rv.length;have alt:a<s.heap.objs.size:=by obtain⟨o,ho,_⟩:=pl.isList;exact Aj ho
 have hl:its.toArray.size=ns.length:=by rw[Ag,<-hlen,Ad]
 have hpos:0<ns.length:=CQ.mpr hne;have hat:∀(i:Nat) (v:Value),its.toArray[i]?=some v->∃t,v=.int (ns.getD i 0) t:=λi v hv=>rv.ints (by simpa using hv)
 refine call_max_walk (Dv pl.isList ?_);refine⟨s.heap.objs.size,_,_,_,_,_,_,rfl,Walks.list (A:=X.A.in1) (I.B.j hc) s.heap.objs.size a (AG alt) its.toArray,⟨⟨_,AB _ rfl,rfl,rfl⟩,?_⟩,λb hb=>?_,by omega,CmpOf.ints_gt (λi=>ns.getD i 0) hat,λv h' tk hP hk=>?_⟩
 . obtain⟨o,ho,hc',n,hd⟩:=pl.isList
   exact⟨o,nx _ ho,hc',n,hd⟩
 . rw[Bc]
   simp only[As,BO,or_false]at hb;rcases hb with e|e
   . rw[e];exact Ci _
   . rw[e];exact B0 alt
 . obtain⟨t,rfl⟩:=hat _ _ hP
   obtain⟨b1,b2⟩:=argBest_gt (λi=>ns.getD i 0) (its.toArray.size-1);have e:vF 0 ns=ns.getD (argBest (λi j=>decide (ns.getD i 0 > ns.getD j 0)) (its.toArray.size-1)) 0:=by
    refine nU ?_ λx hx=>?_
    . have:argBest (λi j=>decide (ns.getD i 0 > ns.getD j 0)) (its.toArray.size-1)<ns.length:=by omega
      rw[AZ,Ak this];exact CI this
    . obtain⟨i,hi,rfl⟩:=Bs hx
      have:=b2 i (by omega)
      simpa [AZ,Ak hi] using this
   refine⟨.d (vF 0 ns),H,I.kept λb o ho=>hk b o ?_ (nx _ ho),⟨t,by rw[e]⟩,q⟩
   simpa using AG (Aj ho)
theorem jo(hc:X.i=true):yO X (.builtin "min") (Z1 X.K (vd 0)):=by
 intro pins s σ H xs us Q I r h;obtain⟨a,ns,rfl,ha,hne,q⟩:=h;obtain⟨u,rfl,ru⟩:=vals1 r;cases ru;obtain⟨its,rv,pl,hz⟩:=I.list ha;have hlen:=rv.length;have alt:a<s.heap.objs.size:=by obtain⟨o,ho,_⟩:=pl.isList;exact Aj ho
 have hl:its.toArray.size=ns.length:=by rw[Ag,<-hlen,Ad]
 have hpos:0<ns.length:=CQ.mpr hne;have hat:∀(i:Nat) (v:Value),its.toArray[i]?=some v->∃t,v=.int (ns.getD i 0) t:=λi v hv=>rv.ints (by simpa using hv)
 refine call_min_walk (Dv pl.isList ?_);refine⟨s.heap.objs.size,_,_,_,_,_,_,rfl,Walks.list (A:=X.A.in1) (I.B.j hc) s.heap.objs.size a (AG alt) its.toArray,⟨⟨_,AB _ rfl,rfl,rfl⟩,?_⟩,λb hb=>?_,by omega,CmpOf.ints_lt (λi=>ns.getD i 0) hat,λv h' tk hP hk=>?_⟩
 . obtain⟨o,ho,hc',n,hd⟩:=pl.isList
   exact⟨o,nx _ ho,hc',n,hd⟩
 . rw[Bc]
   simp only[As,BO,or_false]at hb;rcases hb with e|e
   . rw[e];exact Ci _
   . rw[e];exact B0 alt
 . obtain⟨t,rfl⟩:=hat _ _ hP
   obtain⟨b1,b2⟩:=argBest_lt (λi=>ns.getD i 0) (its.toArray.size-1);have e:vd 0 ns=ns.getD (argBest (λi j=>decide (ns.getD i 0<ns.getD j 0)) (its.toArray.size-1)) 0:=by
    refine nV ?_ λx hx=>?_
    . have:argBest (λi j=>decide (ns.getD i 0<ns.getD j 0)) (its.toArray.size-1)<ns.length:=by omega
      rw[AZ,Ak this];exact CI this
    . obtain⟨i,hi,rfl⟩:=Bs hx
      have:=b2 i (by omega)
      simpa [AZ,Ak hi] using this
   refine⟨.d (vd 0 ns),H,I.kept λb o ho=>hk b o ?_ (nx _ ho),⟨t,by rw[e]⟩,q⟩
   simpa using AG (Aj ho)
theorem qw{o e:Expr}{to te:TE}{apos cpos:Pos}{es:List Expr}(ho:PE X o to)(he:PE X e te)(hbase:CM o "append" X.a (eval o X.a)=eval o X.a:=by rfl)(hst:noStar e=true:=by rfl)(hline:(apos.endLine == cpos.line)=true:=by rfl) :
 PE X (.Call (.Attribute o "append" apos) [e] [] cpos) (tBM X.K "list" jT to (wj te sR)):=by
 have hs1:AF [e] X.a=(false,eval e X.a)::AF [] X.a:=zd hst;refine dR Ds PySem.F.slot_list_append PySem.F.type_list_append qt ho (pac he yl hst) hbase ?_ hline hs1 rfl;rw[hs1];rfl
theorem ik(ho:PE X o to)(he:PE X e te)(hbase:CM o "count" X.a (eval o X.a)=eval o X.a:=by rfl)(hst:noStar e=true:=by rfl)(hline:(apos.endLine == cpos.line)=true:=by rfl) :
 PE X (.Call (.Attribute o "count" apos) [e] [] cpos) (tBM X.K "list" (ll X.K false) to (wj te sR)):=by
 have hs1:AF [e] X.a=(false,eval e X.a)::AF [] X.a:=zd hst;refine dR Ds PySem.F.slot_list_count PySem.F.type_list_count iP ho (pac he yl hst) hbase ?_ hline hs1 rfl;rw[hs1];rfl
end
end L2
namespace L2
open PySem
end L2
end
section
namespace L2
open PySem PySem.W PySem.Calls PyProof PyProof.Rows
noncomputable def Zc(z:Int × Int):Int:=z.1*1000+z.2
end L2
end
section
namespace L2
open PySem PySem.W PySem.Calls PyProof PyProof.Rows
noncomputable def Vm:List Int->List Int->Bool
 |x::xs,y::ys=>if x=y then Vm xs ys else decide (x<y)
 |_,_=>false
end L2
end
section
namespace L2
open PySem PySem.W PySem.Calls PyProof PyProof.Rows
noncomputable def Vl:List Int->List Int->Bool
 |x::xs,y::ys=>if x=y then Vl xs ys else decide (x<y)
 |[],_::_=>true
 |_,[]=>false
def VW(z:List Int):List (List Int)->List (List Int)
 |[]=>[z]
 |y::ys=>if Vl y z then y::VW z ys else z::y::ys
def Z5:List (List Int)->List (List Int)
 |[]=>[]
 |z::zs=>VW z (Z5 zs)
end L2
end
section
namespace L2
open PySem PyProof.Rows
section
variable {X:Cx}{N:List Str}{csc:Scope}{fr:List (Option Nat)}{elt tg iter tg2 iter2:Expr}{ifs ifs2:List Expr}{cpos:Pos}{wi wi2:TI}{g g2:TG}{ts ts2:List TT}{te:TE}
theorem dy(hc:X.i=true)(S:zf X N csc fr)(hi:PI X tg iter wi)(hg:∀C s0 H0 ex,PG (X.comp N csc C s0 H0 ex) tg g)(ht:∀C s0 H0 ex,PTs (X.comp N csc C s0 H0 ex) ifs ts)
 (hi2:∀C s0 H0 ex,PI (X.comp N csc C s0 H0 ex) tg2 iter2 wi2) (hg2:∀C s0 H0 ex,PG (X.comp N csc C s0 H0 ex) tg2 g2) (ht2:∀C s0 H0 ex,PTs (X.comp N csc C s0 H0 ex) ifs2 ts2)
 (he:∀C s0 H0 ex,PE (X.comp N csc C s0 H0 ex) elt te) (hN:X.N.Nodup) (hy:X.N[i]?=some y) (hx:Loc X.a.scope y)
 (hsw:DP (.ListComp elt [⟨tg,iter,ifs,0⟩,⟨tg2,iter2,ifs2,0⟩] csc cpos) (some (.Name y py)) spos.line X.a=pure true:=by rfl)
 (hf:X.q y=true\/X.a.scope.names.lookup y=some .local:=by first|exact .inl rfl|exact .inr rfl|assumption)
 (hs:∀x,AU iter X.a x=pure x:=by intro _;rfl)
 (hs2:∀env x,AU iter2 env x=pure x:=by intro _ _;rfl) :
 PS X (.Assign [.Name y py] (.ListComp elt [⟨tg,iter,ifs,0⟩,⟨tg2,iter2,ifs2,0⟩] csc cpos) spos) (v9 (wc fr wi g ts λacc=>qF wi2 g2 ts2 (vH acc te)) (xG i)):=
 n9 hc S hi (B:=λacc env=>(do
         let x <-eval iter2 env
         standAt iter2.pos
         let x <-AU iter2 env x;let _ <-runOwn (.compStart (.ListComp elt [⟨tg,iter,ifs,0⟩,⟨tg2,iter2,ifs2,0⟩] csc cpos) 1 (<-holding [x] (pyIter x)) acc env) env)) (YD elt tg iter ifs tg2 iter2 ifs2 csc cpos) hg ht
  (λC s0 H0 ex acc=>nq rfl hc (hi2 C s0 H0 ex) (hg2 C s0 H0 ex) (ht2 C s0 H0 ex) (u0 (he C s0 H0 ex)) (hs2 _)) hN hy hx hsw hf hs
end
end L2
end
section
namespace L2
open PySem PyProof.Rows
noncomputable def intsOf:List Expr->Option (List Int)
 |[]=>some []
 |.Constant (.int i) _ _::es=>(intsOf es).map λr=>i::r
 |.UnaryOp .USub (.Constant (.int i) _ _) _::es=>(intsOf es).map λr=>-i::r
 |_=>none
end L2
end
section
namespace L2
open PySem PyProof.Rows
section
variable {X:Cx}{a b:Expr}{rest:List Expr}{ta tb:TE}{pos:Pos}
def Tq(K:Ah)(ta tb:TE):TE:=λσ H Q=>ta σ H λx H1=>∃c,bC K x H1 c/\if c=true then Q x H1 else tb σ H1 Q
theorem WG(ha:PE X a ta)(hb:PE X (.BoolOp .Or (b::rest) pos) tb):PE X (.BoolOp .Or (a::b::rest) pos) (Tq X.K ta tb):=by
 intro pins s σ H Q I h;refine BoolOp_or (thn (ha pins s σ H _ I h) λv s1 ⟨x,H1,I1,r1,c,ht,q1⟩=>?_);refine thn (cb pins s1 σ H1 x v (λk H2=>if k=true then Q x H2 else tb σ H2 Q) I1 r1 ⟨c,ht,q1⟩) λk s2 ⟨H2,I2,q2⟩=>?_
 cases k with
 |false=>exact hb pins s2 σ H2 Q I2 q2
 |true=>exact⟨x,H2,I2,r1,q2⟩
end
noncomputable def vU(n:Nat)(lo hi:Option Int)(c:Int):Int × Nat:=((Bj lo hi (some c) n).1,(if c > 0 then (if (Bj lo hi (some c) n).1<(Bj lo hi (some c) n).2.1 then ((Bj lo hi (some c) n).2.1-(Bj lo hi (some c) n).1+c-1)/c else 0) else (if (Bj lo hi (some c) n).1 > (Bj lo hi (some c) n).2.1 then ((Bj lo hi (some c) n).1-(Bj lo hi (some c) n).2.1-c-1)/(-c) else 0):Int).toNat)
theorem vn its lo hi c:F3 its.toArray lo hi (some c)=(yG its (vU its.length lo hi c).1 c (vU its.length lo hi c).2).toArray:=by unfold F3 sliceRange yG vU;rw[BQ];refine congrArg List.toArray ?_;have e:(Bj lo hi (some c) its.toArray.size).2.2=c:=rfl;rw[e];simp only[Ag];refine congrArg (λf=>List.filterMap f _) ?_;funext k;show its.toArray[_]?=_;rw[List.getElem?_toArray,Int.mul_comm]
def Ud(K:Ah):V->Option Int->Option Int->Option Int->Hp->VK->Prop:=λx lo hi st H Q=>∃a xs c,x=.c a/\SqL K H a xs/\st=some c/\c≠0/\∀p,H p=none->Q (.c p) (upd H p (.b (yG xs (vU xs.length lo hi c).1 c (vU xs.length lo hi c).2)))
theorem lY{lo hi}{st}(he:PE X e te)(hl:PO X lo tl)(hu:PO X hi th)(hc:PO X (some st) tc):PE X (.Subscript e (.Slice lo hi (some st) p2) pos) (Uy (Ud X.K) te tl th tc):=by
 intro pins s σ H Q I h;refine FP (thn (he pins s σ H _ I h) λv s1 ⟨x,H1,I1,r1,q1⟩=>?_);refine wpAny_Slice (thn (hl pins s1 σ H1 _ I1 q1) λvl s2 ⟨l,H2,I2,pl,q2⟩=>thn (hu pins s2 σ H2 _ I2 q2) λvu s3 ⟨u,H3,I3,pu,q3⟩=>thn (hc pins s3 σ H3 _ I3 q3) λvc s4 ⟨c,H4,I4,pc,q4⟩=>?_);obtain⟨a,xs,cc,rfl,hx,ec,h0,g⟩:=q4;subst ec;cases r1;have I5:Inv X pins σ H4 {s4 with heap:=s4.heap.push {cls:=.type "slice",data:=.fields #[vl,vu,vc]}}:=I4.kept (t':=s4.toks) λb ob q=>nx _ q
 obtain⟨its,r,ht,hz⟩:=I5.list hx;have hlen:=r.length;show wpAny (model X.f X.w) X.A (Ez e (.Slice lo hi (some st) p2) (.ref a) (.ref s4.heap.objs.size)) (EP X pins σ Q) X.j {s4 with heap:=s4.heap.push {cls:=.type "slice",data:=.fields #[vl,vu,vc]}}
 refine tail_any (ops:=[.ref a,.ref s4.heap.objs.size]) ht.isList.typeIs EL.lookup (E8 ht.isList (El ..) pl pu pc (λz=>h0 (AW z)) ?_ (by rw[Ag]<;>omega)) (by with_unfolding_all rfl)
 rw[vn,<-hlen];refine⟨.c _,_,I5.laid (t':=s4.toks) (o:=.b (yG xs (vU xs.length l u cc).1 cc (vU xs.length l u cc).2)) (λb ob q=>nx _ q) (Ab _) ?_,rfl,g _ (I5.C.fresh (Ab _))⟩;have rp:=r.yG (vU xs.length l u cc).1 cc (vU xs.length l u cc).2;have bound:(yG xs (vU xs.length l u cc).1 cc (vU xs.length l u cc).2).length<=xs.length:=by have:=slicePick_size_le its.toArray l u (some cc);rw[vn,Ag,Ag,<-hlen,<-rp.length]at this;exact this
 exact⟨Az bound hz,_,0,rp,AB _ rfl⟩
end L2
end
section
namespace L2
open PySem PyProof PyProof.Rows
section
variable {X:Cx}
noncomputable def Vi(z:Str)(ys:List Str):Str:=Txt.join z ys
end
end L2
end
section
namespace L2
open PySem PySem.Spec PyProof PyProof.Rows
section
variable {X:Cx}
noncomputable def qE(ns:List Int):Bool:=decide (ns.length<=1000)&&ns.all λn=>decide (-1000000<=n)&&decide (n<=1000000)
theorem pre_take(ns:List Int):∀n,preSum (λi=>ns.getD i 0) n=(ns.take n).sum
 |0=>by rw[List.take_zero];rfl
 |n+1=>by
  have e:preSum (λi=>ns.getD i 0) (n+1)=preSum (λi=>ns.getD i 0) n+ns.getD n 0:=rfl;rw[e,pre_take ns n,List.take_add_one,List.sum_append,AZ];cases ns[n]? with
  |none=>rfl
  |some x=>show _+x=_+(x+0);rw[Int.add_zero]
theorem qy{val:Nat->Int}(h:∀i,-1000000<=val i/\val i<=1000000):∀n:Nat,-(1000000*(n:Int))<=preSum val n/\preSum val n<=1000000*(n:Int)
 |0=>by have e:preSum val 0=0:=rfl
        rw[e];omega
 |n+1=>by have e:preSum val (n+1)=preSum val n+val n:=rfl;have:=qy h n;have:=h n;rw[e];omega
theorem jq(hc:X.i=true):yO X (.builtin "sum") (λxs H Q=>∃a ns,xs=[.c a]/\SqL X.K H a (ns.map V.d)/\qE ns=true/\Q (.d ns.sum) H):=by
 intro pins s σ H xs us Q I r h;obtain⟨a,ns,rfl,ha,hok,q⟩:=h;obtain⟨u,rfl,ru⟩:=vals1 r;cases ru;obtain⟨its,rv,pl,hz⟩:=I.list ha;have hlen:=rv.length;have alt:a<s.heap.objs.size:=by obtain⟨o,ho,_⟩:=pl.isList;exact Aj ho
 have hl:its.toArray.size=ns.length:=by rw[Ag,<-hlen,Ad]
 have hat:∀(i:Nat) (v:Value),its.toArray[i]?=some v->∃t,v=.int (ns.getD i 0) t:=λi v hv=>rv.ints (by simpa using hv)
 unfold qE at hok;rw[cf]at hok;have h1:=of_decide_eq_true hok.1;have hv:∀i,-1000000<=ns.getD i 0/\ns.getD i 0<=1000000:=λi=>by
  rw[AZ];cases hi:ns[i]? with
  |none=>exact⟨by decide,by decide⟩
  |some x=>
   have:=AJ.mp hok.2 x (AR hi);rw[cf]at this;exact⟨of_decide_eq_true this.1,of_decide_eq_true this.2⟩
 refine call_sum_walk (Dv pl.isList ?_);refine⟨s.heap.objs.size,_,_,_,_,_,λi=>ns.getD i 0,rfl,Walks.list (A:=X.A.in1) (I.B.j hc) s.heap.objs.size a (AG alt) its.toArray,⟨⟨_,AB _ rfl,rfl,rfl⟩,?_⟩,λb hb=>?_,hat,λj hj=>?_,λh' tk t' hk=>?_⟩
 . obtain⟨o,ho,hc',n,hd⟩:=pl.isList
   exact⟨o,nx _ ho,hc',n,hd⟩
 . rw[Bc]
   simp only[As,BO,or_false]at hb;rcases hb with e|e
   . rw[e];exact Ci _
   . rw[e];exact B0 alt
 . have b1:=qy hv (j+1)
   have b2:-1000000<=(λi=>ns.getD i 0) j/\(λi=>ns.getD i 0) j<=1000000:=hv j;have:j+1<=1000:=by omega
   exact⟨⟨by omega,by omega⟩,⟨by omega,by omega⟩⟩
 . have e:preSum (λi=>ns.getD i 0) its.toArray.size=ns.sum:=by rw[hl,pre_take,List.take_length]
   rw[e];refine⟨.d ns.sum,H,I.kept λb o ho=>hk b o ?_ (nx _ ho),⟨t',rfl⟩,q⟩;simpa using AG (Aj ho)
end
end L2
end
section
namespace L2
open PySem PySem.W PySem.Calls PyProof PyProof.Rows
open AutoSeq1 (wpAny_loadPart')
open SeqAt
theorem fO:∀{xs} {us},Vals xs us->xs.all vE=true->us.map (eqU x)=xs.map λy=>eqV y x
 |_,_,.nil,_=>rfl
 |y::ys,u::us,.cons r rs,h=>by rw[FZ,cf]at h;rw[A4,A4,fO rs h.2,my r h.1]
section
variable {X:Cx}
def d0(K:Ah)(g:List Int->Int):List V->Hp->VK->Prop:=λxs H Q=>∃(a:Addr) (ns:List Int),xs=[.c a]/\SqT K H a (ns.map V.d)/\ns≠[]/\Q (.d (g ns)) H
theorem jm(hc:X.i=true):yO X (.builtin "max") (d0 X.K (vF 0)):=by
 intro pins s σ H xs us Q I r h;obtain⟨a,ns,rfl,ha,hne,q⟩:=h;obtain⟨u,rfl,ru⟩:=vals1 r;cases ru;obtain⟨its,rv,pl,hz⟩:=I.tuple ha;have hlen:=rv.length;have alt:a<s.heap.objs.size:=by obtain⟨o,ho,_⟩:=id pl;exact Aj ho
 have hl:its.toArray.size=ns.length:=by rw[Ag,<-hlen,Ad]
 have hpos:0<ns.length:=CQ.mpr hne;have hat:∀(i:Nat) (v:Value),its.toArray[i]?=some v->∃t,v=.int (ns.getD i 0) t:=λi v hv=>rv.ints (by simpa using hv)
 refine call_max_walk (Ej pl ?_);refine⟨s.heap.objs.size,_,_,_,_,_,_,rfl,Walks.tuple (A:=X.A.in1) (I.B.j hc) s.heap.objs.size a (AG alt) its.toArray,⟨⟨_,AB _ rfl,rfl,rfl⟩,?_⟩,λb hb=>?_,by omega,CmpOf.ints_gt (λi=>ns.getD i 0) hat,λv h' tk hP hk=>?_⟩
 . obtain⟨o,ho,hc',n,hd⟩:=id pl
   exact⟨o,nx _ ho,hc',n,hd⟩
 . rw[Bc]
   simp only[As,BO,or_false]at hb;rcases hb with e|e
   . rw[e];exact Ci _
   . rw[e];exact B0 alt
 . obtain⟨t,rfl⟩:=hat _ _ hP
   obtain⟨b1,b2⟩:=argBest_gt (λi=>ns.getD i 0) (its.toArray.size-1);have e:vF 0 ns=ns.getD (argBest (λi j=>decide (ns.getD i 0 > ns.getD j 0)) (its.toArray.size-1)) 0:=by
    refine nU ?_ λx hx=>?_
    . have:argBest (λi j=>decide (ns.getD i 0 > ns.getD j 0)) (its.toArray.size-1)<ns.length:=by omega
      rw[AZ,Ak this];exact CI this
    . obtain⟨i,hi,rfl⟩:=Bs hx
      have:=b2 i (by omega)
      simpa [AZ,Ak hi] using this
   refine⟨.d (vF 0 ns),H,I.kept λb o ho=>hk b o ?_ (nx _ ho),⟨t,by rw[e]⟩,q⟩
   simpa using AG (Aj ho)
theorem ml(hc:X.i=true):yO X (.builtin "min") (d0 X.K (vd 0)):=by
 intro pins s σ H xs us Q I r h;obtain⟨a,ns,rfl,ha,hne,q⟩:=h;obtain⟨u,rfl,ru⟩:=vals1 r;cases ru;obtain⟨its,rv,pl,hz⟩:=I.tuple ha;have hlen:=rv.length;have alt:a<s.heap.objs.size:=by obtain⟨o,ho,_⟩:=id pl;exact Aj ho
 have hl:its.toArray.size=ns.length:=by rw[Ag,<-hlen,Ad]
 have hpos:0<ns.length:=CQ.mpr hne;have hat:∀(i:Nat) (v:Value),its.toArray[i]?=some v->∃t,v=.int (ns.getD i 0) t:=λi v hv=>rv.ints (by simpa using hv)
 refine call_min_walk (Ej pl ?_);refine⟨s.heap.objs.size,_,_,_,_,_,_,rfl,Walks.tuple (A:=X.A.in1) (I.B.j hc) s.heap.objs.size a (AG alt) its.toArray,⟨⟨_,AB _ rfl,rfl,rfl⟩,?_⟩,λb hb=>?_,by omega,CmpOf.ints_lt (λi=>ns.getD i 0) hat,λv h' tk hP hk=>?_⟩
 . obtain⟨o,ho,hc',n,hd⟩:=id pl
   exact⟨o,nx _ ho,hc',n,hd⟩
 . rw[Bc]
   simp only[As,BO,or_false]at hb;rcases hb with e|e
   . rw[e];exact Ci _
   . rw[e];exact B0 alt
 . obtain⟨t,rfl⟩:=hat _ _ hP
   obtain⟨b1,b2⟩:=argBest_lt (λi=>ns.getD i 0) (its.toArray.size-1);have e:vd 0 ns=ns.getD (argBest (λi j=>decide (ns.getD i 0<ns.getD j 0)) (its.toArray.size-1)) 0:=by
    refine nV ?_ λx hx=>?_
    . have:argBest (λi j=>decide (ns.getD i 0<ns.getD j 0)) (its.toArray.size-1)<ns.length:=by omega
      rw[AZ,Ak this];exact CI this
    . obtain⟨i,hi,rfl⟩:=Bs hx
      have:=b2 i (by omega)
      simpa [AZ,Ak hi] using this
   refine⟨.d (vd 0 ns),H,I.kept λb o ho=>hk b o ?_ (nx _ ho),⟨t,by rw[e]⟩,q⟩
   simpa using AG (Aj ho)
end
end L2
end
section
namespace L2
open PySem PySem.W PySem.Calls PyProof PyProof.Rows
open AutoSeq1 (wpAny_loadPart')
open SeqAt
noncomputable def Vn:List Int->List Int->Bool
 |[],[]=>false
 |[],_::_=>true
 |_::_,[]=>false
 |x::xs,y::ys=>if x=y then Vn xs ys else decide (x<y)
end L2
namespace L2
open PySem PySem.W PySem.Calls PyProof PyProof.Rows
def Vs:List (List Int)->List Int
 |[]=>[]
 |z::t=>t.foldl (λm y=>if Vn y m then y else m) z
end L2
end
section
namespace L2
open PySem PySem.W PySem.Calls PyProof PyProof.Rows
noncomputable def dN(ns:List Int):Nat:=(firstMet (λi=>ns.getD i 0) ns.length).length
end L2
end
section
namespace L2
open PySem PySem.Spec PyProof.Rows
noncomputable def bB(lo c:Int)(n:Nat):It:=⟨λi _=>i<n,λi H x H'=>H'=H/\x=.d (lo+i*c),λi _=>n<=i⟩
theorem mS{K}it lo c n:Turn P w K tg (bB lo c n) [it] it (λi h=>Fy h it (lo+(i:Nat)*c) ((n:Int)-(i:Nat)) c) where
 g:=by simp
 c:=λi h st b hb=>by
  have e:b=it:=by simpa using hb
  subst e;exact⟨_,st,λv z=>by have z':Data.fields _=Data.cell v:=z;cases z'⟩
 a:=λi h h' st k=>k it (by simp) _ st
 e:=by
  intro X hP hw hK hc i pins s σ H E I hf st hg;subst hP hw hK;obtain⟨f0,f1,f2,f3,f4,f5⟩:=hf it (by simp)
  have W:=Walks.range (prog:=X.f) (w:=X.w) (I.B.j hc) it lo c n;refine W.item i s _ _ hg st λv h' tk hv st' kk=>?_;obtain⟨t,rfl⟩:=hv;have I1:Inv X pins σ H {s with heap:=h',toks:=tk}:=I.turned (λb o hb e=>kk b o (by simpa using hb) e) f0 f1 f3 f4 f5
  exact⟨_,rfl,ky (s:={s with heap:=h',toks:=tk}) (n:="range_iterator") st' rfl rfl (by decide) ⟨.d (lo+i*c),H,I1,⟨t,rfl⟩,⟨rfl,rfl⟩,st',λb hb=>(hf b hb).1⟩⟩
 d:=by
  intro X hP hw hK hc i pins s σ H E I hf st hg;subst hP hw hK;obtain⟨f0,f1,f2,f3,f4,f5⟩:=hf it (by simp)
  exact wpAny_pyNext_range_end (I.B.j hc) st (by have:n<=i:=hg;omega) λh' eb=>⟨rfl,I.turned (t':=s.toks) (λb o hb e=>eb b o hb e) f0 f1 f3 f4 f5⟩
 f:=λ_ _ _ _ _ st h=>wpAny_pyIter_rangeiter st h
section
variable {X:Cx}{tg:Expr}
theorem cF(h1:0<=i)(h2:j<=1000)(h3:1<=k):0<=AH i j k/\AH i j k<=1000:=by
 unfold AH;rw[if_pos (by omega)]
 split
 . rename_i z
   have a:=Int.ediv_nonneg (a:=j-i-1) (b:=k) (by omega) (by omega)
   have b:=Int.ediv_le_self (a:=j-i-1) k (by omega)
   omega
 . omega
theorem iz{lo hi c}{n:Nat}(I:Inv X pins σ H s)(hs:Eb lo hi c=true)(hn:AH lo hi c=(n:Int))
 (q:R (bB lo c n) H):wpAny (model X.f X.w) X.A (pyIter (.ref s.heap.objs.size)) (PIE X pins σ tg R) E {s with heap:=s.heap.push {cls:=.type "range",data:=.fields #[.int lo t,.int hi u,.int c v]},toks:=tk}:=by
 refine wpAny_pyIter_range (IsRange.new ..) hs ?_;have I1:Inv X pins σ H {s with heap:=s.heap.push {cls:=.type "range",data:=.fields #[.int lo t,.int hi u,.int c v]},toks:=tk}:=I.kept λb o e=>nx _ e
 refine⟨(s.heap.push {cls:=.type "range",data:=.fields #[.int lo t,.int hi u,.int c v]}).objs.size,[(s.heap.push {cls:=.type "range",data:=.fields #[.int lo t,.int hi u,.int c v]}).objs.size],_,_,H,rfl,
  I1.kept (t':=tk) λb o e=>nx _ e,mS _ lo c n,?_,λb hb=>?_,q⟩
 . have e1:lo+((0:Nat):Int)*c=lo:=by simp
   have e2:((n:Nat):Int)-((0:Nat):Int)=AH lo hi c:=by rw[hn];simp
   show Fy _ _ (lo+((0:Nat):Int)*c) (((n:Nat):Int)-((0:Nat):Int)) c;rw[e1,e2];exact AB _ rfl
 . have e:b=(s.heap.push {cls:=.type "range",data:=.fields #[.int lo t,.int hi u,.int c v]}).objs.size:=by simpa using hb
   subst e;exact I1.bW (Ab _) (I1.C.fresh (Ab _))
def ok3(i j k:Int):Prop:=0<=i/\i<=1000/\0<=j/\j<=1000/\1<=k/\k<=1000
def VU(ta:TA):TI:=λσ H R=>ta σ H λvs H1=>∃i j k:Int,vs=[.d i,.d j,.d k]/\ok3 i j k/\R (bB i k (AH i j k).toNat) H1
theorem Wb(h:ok3 i j k):Eb i j k=true:=by
 obtain⟨h1,h2,h3,h4,h5,h6⟩:=h;have z:=cF h1 h4 h5;unfold Eb;generalize AH i j k=r at z;simp only[Builtin.Range.rangeFitsLong,cf,An,decide_eq_true_eq,beq_iff_eq];refine⟨by omega,.inr ?_⟩
 rw[if_pos (by omega),cf,decide_eq_true_eq,decide_eq_true_eq]
 omega
theorem iw(hg:Gl X "range")(hm:X.d "range"=none)(ha:PA X [a,b,c] ta)(hs:AF [a,b,c] X.a=[(false,eval a X.a),(false,eval b X.a),(false,eval c X.a)])(hs2:AF [b,c] X.a=[(false,eval b X.a),(false,eval c X.a)]) :
 PI X tg (.Call (.Name "range" p) [a,b,c] [] pos) (VU ta):=by
 intro pins s σ H R I h;refine Call_ (uM I hg hm boot_range (B3 (thn (ha pos pins s σ H _ I h) λus s1 ⟨vs,H1,I1,r1,q1⟩=>?_) (by rw[hs,hs2]) (by rw[hs2];rfl)))
 obtain⟨i,j,k,e,hk,q⟩:=q1;subst e;cases r1 with
 |cons r rr=>
  cases rr with
  |cons r' rr=>
   cases rr with
   |cons r'' rr=>
    cases rr;obtain⟨t,rfl⟩:=r;obtain⟨t',rfl⟩:=r';obtain⟨t'',rfl⟩:=r'';have z:=cF (i:=i) (j:=j) (k:=k) hk.1 hk.2.2.2.1 hk.2.2.2.2.1;exact call_range_3 (by have:=hk.2.2.2.2.1;omega) (iz I1 (Wb hk) (by omega) q) (.inl (Dx (by have:=hk.2.2.2.2.1;have:=hk.2.2.2.2.2;omega)))
end
end L2
end
section
namespace PySem
open Sem (wp)
structure xp(B newId initId:String)(bm:List Value):Prop extends ExcCallFacts B newId initId where
 b:splitId newId=some (B,"__new__")
 d:builtinKind newId=some .builtinFn
 e:Manifest.signature? newId=some ⟨.any,B,B,.cls,[⟨"args",.varPos,false⟩,⟨"kwargs",.varKw,false⟩]⟩
 a:bm.contains (.type B)=true
 c:bm.contains (.type "BaseException")=true
 f:bm.contains (.type "AttributeError")=false
 g:bm.contains (.type "NameError")=false
 h:Manifest.canonical newId=Manifest.canonical "BaseException.__new__"
theorem ExcBaseFacts.two(F:ExcBaseFacts B newId initId bm)D:xp B newId initId (.ref D::bm):=
 ⟨F.toExcCallFacts,F.newSplit,F.newKind,F.newRow,by rw[Bz,F.hasB,D6],by rw[Bz,F.hasBase,D6],by rw[Bz,F.noAttr];rfl,by rw[Bz,F.noName];rfl,F.canon⟩
section
variable {M:Model}{A:Around}{E:Value->Shared->Prop}{h:Heap}{g:Array GenState}{d:Drawn}{t:Nat}{os:OsState}
variable {nm q:Str}{C N:Addr}{bs bm:List Value}{hdct:Bool}{sn:List Str}{sub:List Value}{ab:Bool}{col:Option Bool}{dd:Option Addr}{k0 k1 k2 k3 k5:Option Value}{B newId initId:String}
theorem vN
 (hC:h.get? C=some (BK nm q C N bs bm hdct sn sub ab col dd k0 k1 k2 k3 k5 newId)) (hn:h.Ns N mN) (hni:mN name=none)
 (hD:h.get? D=some (BK nm1 q1 D N1 bs1 bm1 hd1 sn1 sub1 ab1 col1 dd1 j0 j1 j2 j3 j5 new1)) (hn1:h.Ns N1 mN1) (hni1:mN1 name=none) (hbm:bm=.ref D::bm1) (hb1:mroOf (.type B)=pure bm1) (hB:FO (.type B) name=pure y)
 (hq:Q y ⟨h,g,d,t,os⟩):wpAny M A (FO (.ref C) name) Q E ⟨h,g,d,t,os⟩:=by
 have hrest:lookupAlong bm1 name=pure y:=by rw[typeLookup_eq,hb1]at hB;exact hB
 rw[typeLookup_eq];refine xd (wpAny_mroOf_exc hC ?_);rw[lookupAlong_cons];refine xd (wpAny_classOwn_exc hC hn ?_);rw[hni,hbm];show wpAny M A (lookupAlong (.ref D::bm1) name) Q E _;rw[lookupAlong_cons];refine xd (wpAny_classOwn_exc hD hn1 ?_);rw[hni1,hrest];exact Ai hq
theorem vp(F:xp B newId initId bm)(hC:h.get? C=some (BK nm q C N bs bm hdct sn sub ab col dd k0 k1 k2 k3 k5 newId))
 (hq:Q () ⟨h,g,d,t,os⟩):wpAny M A (Cj newId ⟨.ref C::rest,[]⟩) Q E ⟨h,g,d,t,os⟩:=by
 have hcont:(A7 C::bm).contains (.type B)=true:=by rw[Bz,F.a,D6]
 have hstar:=F.noStar;simp only[Cj,F.d,F.b,F.e]
 repeat (first|refine Ba hC ?_|(refine CT hC ?_;rw[hcont])|refine wpAny_staticBase_exc hC ?_|refine wpAny_madeBy_exc hC ?_|simp only[bne_self_eq_false,A2,if_false]|wp_step)
 exact hq
end
section
variable {prog:Program}{w:World}{A:Around}{R:Result->Shared->Prop}{h:Heap}{g:Array GenState}{d:Drawn}{t:Nat}{os:OsState}
variable {nm q:Str}{C N:Addr}{bs bm:List Value}{hdct:Bool}{sn:List Str}{sub:List Value}{ab:Bool}{col:Option Bool}{dd:Option Addr}{k0 k1 k2 k3 k5:Option Value}{B newId initId:String}
theorem vT(F:xp B newId initId bm)(hC:h.get? C=some (BK nm q C N bs bm hdct sn sub ab col dd k0 k1 k2 k3 k5 newId))
 (hq:R (.ok (.ret (.ref (h.objs.size+1)))) ⟨(h.push {cls:=.type "tuple",data:=.seq rest.toArray}).push
  {cls:=.ref C,data:=.fields #[.ref h.objs.size,.none,.none,.none,.bool false,.none]},g,d,t,os⟩) (hrest:rest.length<=Aq:=by size_fits) :
 codeAny (model prog w) A (.builtin newId ⟨.ref C::rest,[]⟩) R ⟨h,g,d,t,os⟩:=by
 have hends:=F.ends;have hcB:(A7 C::bm).contains (.type B)=true:=by rw[Bz,F.a,D6]
 have hcA:(A7 C::bm).contains (.type "AttributeError")=false:=by rw[Bz,F.f];rfl
 have hcN:(A7 C::bm).contains (.type "NameError")=false:=by rw[Bz,F.g];rfl
 refine codeAny_builtinAt F.entry ?_;unfold Builtin.«BaseException.__new__»;refine wpAt_bind ?_;show wpAt _ _ _ (stack >>= _) _ _ _;refine wpAt_bind (wpAt_stack λp below=>wpAt_of_wpAny ?_)
 wp_walk
 refine wpAt_of_wpAny ?_;rw[F.owner]
 repeat (first|with_reducible refine wpAny_madeHere_exc F.h hC ?_|with_reducible refine Ba hC ?_|(with_reducible refine CT hC ?_;first|rw[hcB]|rw[hcA]|rw[hcN])|wp_step)
 show R _ _;rw[Bc];exact hq
end
section
variable {prog:Program}{w:World}{A:Around}{E:Value->Shared->Prop}{h:Heap}{g:Array GenState}{d:Drawn}{t:Nat}{os:OsState}
variable {nm q:Str}{C N:Addr}{bs bm:List Value}{hdct:Bool}{sn:List Str}{sub:List Value}{ab:Bool}{col:Option Bool}{dd:Option Addr}{k0 k1 k2 k3 k5:Option Value}{B newId initId:String}
theorem vM(F:xp B newId initId bm)
 (hC:h.get? C=some (BK nm q C N bs bm hdct sn sub ab col dd k0 k1 k2 k3 k5 newId)) (he:h.get? e=some oe) (hcls:oe.cls=.ref C) (hq:Q () ⟨h,g,d,t,os⟩) :
 wpAny M A (Cj initId ⟨.ref e::rest,[]⟩) Q E ⟨h,g,d,t,os⟩:=by
 have hcB:(A7 C::bm).contains (.type B)=true:=by rw[Bz,F.a,D6]
 have hshort:=F.noStar;simp only[Cj,F.initKind,F.initSplit,F.initRow]
 repeat (first|(with_reducible refine Ba he ?_;rw[hcls])|with_reducible refine Ba hC ?_|(with_reducible refine CT hC ?_;rw[hcB])|wp_step)
 refine wpAny_onRaise ?_;rw[show ∀(a b:String) (n:Nat),Bind.check ⟨.positional,"*",B,.self,[⟨"args",.varPos,false⟩]⟩ a b n (FR (λx=>x.fst) ({pos:=A7 e::rest}:Args).kw)=pure () from
  λa b n=>check_star_args _ _ _ _ _ _]
 exact Ai hq
theorem wQ(F:xp B newId initId bm)
 (hC:h.get? C=some (BK nm q C N bs bm hdct sn sub ab col dd k0 k1 k2 k3 k5 newId)) (hn:h.Ns N mN) (hni:mN "__init__"=none) (hD:h.get? D=some (BK nm1 q1 D N1 bs1 bm1 hd1 sn1 sub1 ab1 col1 dd1 j0 j1 j2 j3 j5 new1)) (hn1:h.Ns N1 mN1) (hni1:mN1 "__init__"=none) (hbm:bm=.ref D::bm1) (hb1:mroOf (.type B)=pure bm1) 
 (hq:∀h' e,Dl h h' e (.ref C) rest->Q (.done (.ret (.ref e))) ⟨h',g,d,t,os⟩) (hrest:rest.length<=Aq:=by size_fits) :
 wpAny (model prog w) A (Builtin.«type.__call__» ⟨.ref C::rest,[]⟩) Q E ⟨h,g,d,t,os⟩:=by
 repeat (first|with_reducible refine Ba hC ?_|with_reducible refine wpAny_madeBy_exc hC ?_|wp_step)
 refine codeAny_call_builtin_code (Eo _ F.quiet) (vp F hC ?_);refine vT F hC ?_ hrest;show wpAny _ _ _ _ _ _;have hC₁:=nx {cls:=.ref C,data:=.fields #[.ref h.objs.size,.none,.none,.none,.bool false,.none]}
  (nx {cls:=.type "tuple",data:=.seq rest.toArray} hC)
 have hn₁:((h.push {cls:=.type "tuple",data:=.seq rest.toArray}).push {cls:=.ref C,data:=.fields #[.ref h.objs.size,.none,.none,.none,.bool false,.none]}).Ns N mN:=
  let ⟨o,es,ep,e,r⟩:=hn;⟨o,es,ep,nx _ (nx _ e),r⟩
 have hget:((h.push {cls:=.type "tuple",data:=.seq rest.toArray}).push
  {cls:=.ref C,data:=.fields #[.ref h.objs.size,.none,.none,.none,.bool false,.none]}).get? (h.objs.size+1)=some
  {cls:=.ref C,data:=.fields #[.ref h.objs.size,.none,.none,.none,.bool false,.none]}:=by heap_get
 have hcC:(A7 C::bm).contains (.ref C)=true:=by simp
 unfold isInstance
 repeat (first|with_reducible refine Ba hget ?_|(with_reducible refine CT hC₁ ?_;rw[hcC])|wp_step)
 show wpAny _ _ (FO (.ref C) _) _ _ _;have hD₁:=nx {cls:=.ref C,data:=.fields #[.ref h.objs.size,.none,.none,.none,.bool false,.none]}
  (nx {cls:=.type "tuple",data:=.seq rest.toArray} hD)
 have hn1₁:((h.push {cls:=.type "tuple",data:=.seq rest.toArray}).push {cls:=.ref C,data:=.fields #[.ref h.objs.size,.none,.none,.none,.bool false,.none]}).Ns N1 mN1:=
  let ⟨o,es,ep,e,r⟩:=hn1;⟨o,es,ep,nx _ (nx _ e),r⟩
 refine vN hC₁ hn₁ hni hD₁ hn1₁ hni1 hbm hb1 F.init.lookup ?_;refine BN (xd (wpAny_of_eq (F.init.bind _) ?_));refine xd (DZ (D7 F.init.plain F.initEntry (vM F hC₁ hget rfl ?_)))
 wp_walk
 refine hq _ _ ⟨λb o hb=>?_,DW (CP _),h.objs.size+2,?_,DW (by omega),?_⟩
 . rw[Cv _ _ (E2 (B0 (Aj hb)))]
   exact nx _ (nx _ (nx _ hb))
 . rw[Heap.get?_update_self _ (nx _ hget) rfl]
   simp only[Bc];rfl
 . rw[Cv _ _ (show h.objs.size+1≠h.objs.size+2 by omega)]
   exact Heap.get?_push_at (by simp only[Bc]) rfl
theorem uA(F:xp B newId initId bm)
 (hC:h.get? C=some (BK nm q C N bs bm hdct sn sub ab col dd k0 k1 k2 k3 k5 newId)) (hn:h.Ns N mN) (hni:mN "__init__"=none) (hD:h.get? D=some (BK nm1 q1 D N1 bs1 bm1 hd1 sn1 sub1 ab1 col1 dd1 j0 j1 j2 j3 j5 new1)) (hn1:h.Ns N1 mN1) (hni1:mN1 "__init__"=none) (hbm:bm=.ref D::bm1) (hb1:mroOf (.type B)=pure bm1) 
 (hq:∀h' e,Dl h h' e (.ref C) rest->Q (.ref e) ⟨h',g,d,t,os⟩) (hrest:rest.length<=Aq:=by size_fits) :
 wpAny (model prog w) A (call (.ref C) rest) Q E ⟨h,g,d,t,os⟩:=by
 have f1:=tc_lookup;have f2:=tc_bind (.ref C);have hT:(⟨h,g,d,t,os⟩:Shared).TypeIs (.ref C) "type":=⟨_,hC,rfl⟩;refine DZ (codeAny_of_tree ?_);show wpAny _ _ (callAny (.ref C) _) _ _ _
 repeat (any_goals (first|assumption|with_reducible refine Ba hC ?_|wp_step))
 refine⟨rfl,?_⟩;refine codeAny_call_builtin_at (Eo _ (by decide +kernel)) entry_typeCall (wpAny_check_type_call_sub hC (wQ (hrest:=hrest) F hC hn hni hD hn1 hni1 hbm hb1 λh' e hm=>?_))
 exact hq h' e hm
end
section
variable {prog:Program}{w:World}{A:Around}{E:Value->Shared->Prop}{s:Shared}{env:Env}
variable {nm q:Str}{C N:Addr}{bs bm:List Value}{hdct:Bool}{sn:List Str}{sub:List Value}{ab:Bool}{col:Option Bool}{dd:Option Addr}{k0 k1 k2 k3 k5:Option Value}{B newId initId:String}
theorem vL(F:xp B newId initId bm)
 (hh:A.handled=none) (hplain:(backTo cpos (AF args env)).any (·.1)=false) (hni:mN "__init__"=none) (hni1:mN1 "__init__"=none) (hbm:bm=.ref D::bm1) (hb1:mroOf (.type B)=pure bm1)
 (h:wpAny (model prog w) A (eval (.Name x np) env) (λf s₁=>f=.ref C/\wpAny (model prog w) A (evalArgs (.ref C) true (backTo cpos (AF args env)) [])
  (λa s₂=>a.kw=[]/\a.pos.length<=Aq/\s₂.heap.get? C=some (BK nm q C N bs bm hdct sn sub ab col dd k0 k1 k2 k3 k5 newId)/\s₂.heap.Ns N mN/\s₂.heap.get? D=some (BK nm1 q1 D N1 bs1 bm1 hd1 sn1 sub1 ab1 col1 dd1 j0 j1 j2 j3 j5 new1)/\s₂.heap.Ns N1 mN1 /\
   ∀h' e,Dl s₂.heap h' e (.ref C) a.pos->E (.ref e) {s₂ with heap:=h'}) E s₁) E s) :
 wpAny (model prog w) A (exec (.Raise (some (.Call (.Name x np) args [] cpos)) none pos) env) Q E s:=by
 rw[arm_exec_Raise]
 first
  |refine xd (Be (Dc (C:=C) (nm:=nm) (q:=q) (N:=N) (bs:=bs) (bm:=bm) (hdct:=hdct) (sn:=sn) (sub:=sub) (ab:=ab) (col:=col) (dd:=dd) (k0:=k0) (k1:=k1) (k2:=k2) (k3:=k3) (k5:=k5) (newId:=newId) F.c hh (xd (AX (ET (AX h (λf s₁ h₁=>?_) λ_ _ x=>x)) (λv s₃ h₃=>xd (Be (Ai h₃))) λ_ _ x=>x))))
  |(simp only[evalOpt,Option.map];refine xd (Be (Dc (C:=C) (nm:=nm) (q:=q) (N:=N) (bs:=bs) (bm:=bm) (hdct:=hdct) (sn:=sn) (sub:=sub) (ab:=ab) (col:=col) (dd:=dd) (k0:=k0) (k1:=k1) (k2:=k2) (k3:=k3) (k5:=k5) (newId:=newId) F.hasBase hh (xd (AX (ET (AX h (λf s₁ h₁=>?_) λ_ _ x=>x)) (λv s₃ h₃=>xd (Be (Ai h₃))) λ_ _ x=>x)))))
  |(refine xd (Be (Dc (C:=C) (nm:=nm) (q:=q) (N:=N) (bs:=bs) (bm:=bm) (hdct:=hdct) (sn:=sn) (sub:=sub) (ab:=ab) (col:=col) (dd:=dd) (k0:=k0) (k1:=k1) (k2:=k2) (k3:=k3) (k5:=k5) (newId:=newId) F.hasBase hh ?_));refine xd (AX (ET (AX h (λf s₁ h₁=>?_) λ_ _ x=>x)) (λv s₃ h₃=>xd (Be (Ai h₃))) λ_ _ x=>x))
 obtain⟨rfl,h₁⟩:=h₁;unfold callWith;refine xd (BN (AX h₁ (λa s₂ h₂=>xd (Be ?_)) λ_ _ x=>x));obtain⟨apos,akw⟩:=a;obtain⟨hkw,hlen,hC,hn,hD,hn1,h₂⟩:=h₂;obtain rfl:akw=[]:=hkw;obtain⟨hp,g,d,tk,os⟩:=s₂;simp only[hplain];refine xd (wpAny_keeperOf_exc hC ?_);refine xd (uA (hrest:=hlen) F hC hn hni hD hn1 hni1 hbm hb1 λh' e hm=>xd (BN (wpAny_point (Ai ?_))));obtain⟨t,ht,_,_⟩:=hm.there;exact⟨e,t,rfl,hm.keeps _ _ hC,ht,h₂ h' e hm⟩
end
end PySem
end
section
namespace L2
open PySem PySem.W PySem.Spec PyProof PyProof.Rows
structure uW(P:Program)(w:World)(outer:List Env)(H:Hp)(s:Shared)(H':Hp)(a:Addr)(cls:Value)(s':Shared):Prop where
 j:s'.os=s.os
 d:AllBare s'.gens
 i:∀b∈frs outer,H' b=none
 h:∃(t:Addr) (g B:Heap),Un (frs outer) [] H H' s.heap g/\HOk P w H' g/\(∀b o,g.get? b=some o->b ∉ frs outer->(b<s.heap.objs.size\/H' b≠none)->B.get? b=some o) /\
  (∀b o,g.get? b=some o->b∈frs outer->∃sl,s'.heap.get? b=some {o with slots:=sl})/\Heap.FlyingW B outer a cls (.ref t) s'.heap
def CXE(P:Program)(w:World):CXT:=λouter H s E e s'=>∃(a:Addr) (cls:Value) (H':Hp),e=.ref a/\uW P w outer H s H' a cls s'/\E cls none H'
theorem uW.un(f:uW P w outer H s H' a cls s'):Un (frs outer) [] H H' s.heap s'.heap/\HOk P w H' s'.heap:=by
 obtain⟨t,g,B,u,hk,cov,fr,k,_⟩:=f.h;have go:∀b o,s.heap.get? b=some o->b ∉ frs outer->∀o',g.get? b=some o'->s'.heap.get? b=some o':=λb o e n o' e'=>k b o' (cov b o' e' n (.inl (Aj e)));refine⟨⟨λb o e n hb hx=>go b o e hb o (u.f b o e n hb hx),λb o e n hb hx=>?_,u.d,λb o e hx=>?_,u.l,u.g,u.j⟩,λb o e=>(hk b o e).qT (λc v hc e'=>?_) (λ_ q=>q) λ_ _ q=>q⟩
 . obtain⟨sl,e1⟩:=u.i b o e n hb hx
   obtain⟨sl',e2⟩:=fr b _ e1 hb;exact⟨sl',e2⟩
 . obtain⟨o',e1⟩:=u.c b o e hx
   by_cases hb:b∈frs outer
   . obtain⟨sl,e2⟩:=fr b o' e1 hb
     exact⟨_,e2⟩
   . exact⟨o',go b o e hb o' e1⟩
 . have hc':H' c≠none:=by
    rcases hc with rfl|hc
    . rw[e];exact nofun
    . rw[hc];exact nofun
   exact k c v (cov c v e' (λhm=>hc' (f.i c hm)) (.inr hc'))
section
variable {P:Program}{w:World}{K:Ah}{mg:Str->Option Value}{base:Heap}{N:List Str}{qual:Str}{scope:Scope}{f:Addr}{cd:Value}{A:Around}{outer:List Env}{s₀:Shared}{H₀:Hp}{E:XK}
theorem ij:Passes (CXE P w) (xV (CXE P w) P w K mg base N qual scope f cd A outer s₀ H₀ E) E:=by
 rintro pins σ H s e s' I ⟨a,cls,H',rfl,fl,hE⟩;obtain⟨t,g,B,u,hk,cov,fr,fly⟩:=fl.h;show wpAny _ _ _ _ _ _;have I1:Inv (xV (CXE P w) P w K mg base N qual scope f cd A outer s₀ H₀ E) pins σ H' {s with heap:=g}:=I.call (g':=s.gens) (t':=s.toks) (d':=s.drawn) (ch:=[]) u hk I.F λb z=>absurd z (by simp)
 have hL:∀b,(b<s₀.heap.objs.size\/H' b≠none)->b≠s₀.heap.objs.size:=λb hb z=>by
  subst z;rcases hb with hb|hb
  . exact A8 _ hb
  . exact hb I1.J
 have hmem:∀b,b∈frs outer->b∈frs (envOfC qual scope s₀.heap.objs.size f cd::outer):=λb hb=>Ac _ hb;refine wpAny_leaves_onW (base:=B) (env:=envOfC qual scope s₀.heap.objs.size f cd) (outer:=outer) (L:=s₀.heap.objs.size) I.B.g rfl fly λh' x1 x2=>?_;refine⟨a,cls,H',rfl,⟨fl.j.trans I.R,fl.d,λb hb=>fl.i b (hmem b hb),t,g,B,I1.j,hk,λb o e n hb=>?_,λb o e hb=>?_,x1⟩,hE⟩
 . refine cov b o e (λhm=>?_) ?_
   . rcases As.mp (show b∈s₀.heap.objs.size::frs outer from hm) with z|z
     . exact hL b hb z
     . exact n z
   . rcases hb with hb|hb
     . exact .inl (Ap hb I.sz)
     . exact .inr hb
 . obtain⟨sl,e1⟩:=fr b o e (hmem b hb)
   obtain⟨_,o',e2,hd⟩:=fly.2.2.1.mem (hmem b hb);rw[e1]at e2;cases e2;obtain⟨sl',e3⟩:=x2 b _ e1 hd;exact⟨sl',e3⟩
theorem mD(I:Inv (xV (CXE P w) P w K mg base N qual scope f cd A outer s₀ H₀ E) pins σ H s)(m:Dl s.heap h1 a (.ref C) us)(hE:E (.ref C) none H) :
 (xV (CXE P w) P w K mg base N qual scope f cd A outer s₀ H₀ E).j (.ref a) {s with heap:=h1}:=by
 have hmem:∀b,b∈frs outer->b∈frs (envOfC qual scope s₀.heap.objs.size f cd::outer):=λb hb=>Ac _ hb;have hin:∀env∈(envOfC qual scope s₀.heap.objs.size f cd::outer),∀b,env.frame=some b->b∈frs (envOfC qual scope s₀.heap.objs.size f cd::outer):=λenv he b hb=>B4.mpr ⟨env,he,hb⟩;have hst:s.heap.FunFrames base (envOfC qual scope s₀.heap.objs.size f cd::outer):=I.stack;show wpAny _ _ _ _ _ _;refine wpAny_leaves_madeW (base:=hideAll s.heap (frs (envOfC qual scope s₀.heap.objs.size f cd::outer))) (h:=s.heap) (env:=envOfC qual scope s₀.heap.objs.size f cd) (outer:=outer) (L:=s₀.heap.objs.size) I.B.g rfl (λb o q=>of_hideAll _ q) (funFrames_hide hst hin) m λh' t x1 x2 x3 x4=>?_;refine⟨a,_,H,rfl,⟨I.R,I.F,λb hb=>I.oX b (hmem b hb),t,s.heap,_,I.j,I.C,λb o e n hb=>hideAll_get _ e λhm=>?_,λb o e hb=>?_,x1⟩,hE⟩
 . rcases As.mp (show b∈s₀.heap.objs.size::frs outer from hm) with z|z
   . subst z
     rcases hb with hb|hb
     . exact A8 _ hb
     . exact hb I.J
   . exact n z
 . obtain⟨_,o',e2,hd⟩:=hst.mem (hmem b hb)
   rw[e]at e2;cases e2;obtain⟨sl,e3⟩:=x4 b o (m.keeps b o e) hd;exact⟨sl,e3⟩
end
end L2
end
section
namespace L2
open PySem PySem.W PySem.Spec PyProof PyProof.Rows
noncomputable def veM:List Value:=[.type "ValueError",.type "Exception",.type "BaseException",.type "object"]
def ClsAt(h:Heap)(C:Addr)(bm:List Value):Prop:=∃(nm q:Str) (N:Addr) (bs:List Value) (hdct:Bool) (sn:List Str) (sub:List Value) (ab:Bool) (col:Option Bool) (dd:Option Addr) (k0 k1 k2 k3 k5:Option Value) (mN:Str->Option Value),
 h.get? C=some (BK nm q C N bs bm hdct sn sub ab col dd k0 k1 k2 k3 k5 "ValueError.__new__")/\h.Ns N mN/\mN "__init__"=none
def XR(X:Cx)(C:Addr)(H:Hp):Prop:=∀(pins:List (Addr × Obj)) (σ:St) (s:Shared),Inv X pins σ H s->∀(h1:Heap) (a:Addr) (us:List Value),Dl s.heap h1 a (.ref C) us->X.j (.ref a) {s with heap:=h1}
def Wh(X:Cx)(C:Addr)(t:TA):TS:=λ_ σ H=>t σ H λvs H1=>vs.length<=Aq/\XR X C H1
section
variable {X:Cx}
theorem mB(hc:X.A.handled=none)(hg:Gl X x)(hm:X.d x=some (.ref C))(cC:ClsAt X.h C (.ref D::veM))(cD:ClsAt X.h D veM)(ha:PA X (e::es) t)
 (hdb:(x == ("__debug__":Str))=false) (he:AF (e::es) X.a=(false,eval e X.a)::AF es X.a) (hpl:(backTo cpos (AF es X.a)).any (·.1)=false):PS X (.Raise (some (.Call (.Name x np) (e::es) [] cpos)) none pos) (Wh X C t):=by
 intro pins s σ H D' I h;obtain⟨nm,q,N,bs,hdct,sn,sub,ab,col,dd,k0,k1,k2,k3,k5,mN,hC,hN,hz⟩:=cC;obtain⟨nm1,q1,N1,bs1,hd1,sn1,sub1,ab1,col1,dd1,j0,j1,j2,j3,j5,mN1,hD,hN1,hz1⟩:=cD;refine vL (C:=C) (D:=D) (nm:=nm) (q:=q) (N:=N) (bs:=bs) (hdct:=hdct) (sn:=sn) (sub:=sub) (ab:=ab) (col:=col) (dd:=dd) (k0:=k0) (k1:=k1) (k2:=k2) (k3:=k3) (k5:=k5) (mN:=mN)
  (nm1:=nm1) (q1:=q1) (N1:=N1) (bs1:=bs1) (hd1:=hd1) (sn1:=sn1) (sub1:=sub1) (ab1:=ab1) (col1:=col1) (dd1:=dd1) (j0:=j0) (j1:=j1) (j2:=j2) (j3:=j3) (j5:=j5) (mN1:=mN1) (new1:="ValueError.__new__") (EC.two D) hc ?_ hz hz1 rfl EC.mroIs (xj I hg hm ⟨rfl,?_⟩ hdb)
 . rw[he];exact hpl
 . rw[he]
   refine Calls.evalArgs_plain ?_;have q:=ha cpos pins s σ H _ I h;rw[he]at q;refine AX q (λus s1 hq=>?_) λ_ _ z=>z;obtain⟨vs,H1,I1,r,hl,hx⟩:=hq;exact⟨rfl,by rw[<-r.length];exact hl,I1.bk _ _ hC,hN.keeps I1.bk,I1.bk _ _ hD,hN1.keeps I1.bk,λh' e' m=>hx pins σ s1 I1 h' e' _ m⟩
end
theorem ZX{K}
 (hE:E (.ref C) none H):XR (xV (CXE P w) P w K mg base N qual scope f cd A outer s₀ H₀ E) C H:=λ_ _ _ I _ _ _ m=>mD I m hE
end L2
end
section
namespace L2
open PySem PySem.W PySem.Spec PyProof PyProof.Rows
def tFs(ta tb:TE):TE:=λσ H Q=>ta σ H λx H1=>∃i:Int,x=.d i/\i.natAbs<2 ^ 64/\tb σ H1 λy H2=>∃j:Int,y=.d j/\j.natAbs<2 ^ 64/\∀z,Q (.e z) H2
theorem sA{i:Int}(h:i.natAbs<2 ^ 64):i.natAbs.log2<64:=by
 by_cases z:i.natAbs=0
 . rw[z];decide
 . exact(Nat.log2_lt z).mpr h
theorem pG{i:Int}(h:i.natAbs<2 ^ 64):(D2 (E3 i)).length<=65:=by rw[PySem.ofString_length];exact int_text_length_le (by decide) (sA h)
section
variable {X:Cx}
theorem UK(ha:PE X a ta)(hb:PE X b tb)(h1:c1.length<=1000)(h2:c2.length<=1000)(h3:c3.length<=1000) :
 PE X (.JoinedStr [.Constant (.str c1) k1 p1,.FormattedValue a (-1) none p2,.Constant (.str c2) k2 p3,.FormattedValue b (-1) none p4,.Constant (.str c3) k3 p5] pos) (tFs ta tb):=by
 intro pins s σ H Q I h;refine JoinedStr_many (Dm (C4 ⟨?_,Dm (FormattedValue_plain ?_)⟩))
 . rw[A0,AS,show DQ.length=0 from rfl];omega
 refine thn (ha pins _ σ H _ (I.tok _) h) λu s1 ⟨x,H1,I1,r1,i,e1,hi,q1⟩=>?_;subst e1;obtain⟨t1,rfl⟩:=r1;have l1:=pG hi;refine formatField_int_small (Ap (sA hi) (by decide)) ⟨?_,Dm (C4 ⟨?_,Dm (FormattedValue_plain ?_)⟩)⟩
 . rw[A0,A0,AS,show DQ.length=0 from rfl];omega
 . rw[A0,A0,A0,AS,show DQ.length=0 from rfl];omega
 refine thn (hb pins _ σ H1 _ (I1.tok _) q1) λu2 s2 ⟨y,H2,I2,r2,j,e2,hj,q2⟩=>?_;subst e2;obtain⟨t2,rfl⟩:=r2;have l2:=pG hj;refine formatField_int_small (Ap (sA hj) (by decide)) ⟨?_,Dm (C4 ⟨?_,joinParts_nil ⟨.e _,H2,I2.tok _,⟨_,rfl⟩,q2 _⟩ ?_⟩)⟩
 . rw[A0,A0,A0,A0,AS,show DQ.length=0 from rfl];omega
 . rw[A0,A0,A0,A0,A0,AS,show DQ.length=0 from rfl];omega
 . rw[A0,A0,A0,A0,A0,AS,show DQ.length=0 from rfl];omega
end
end L2
end
section
namespace L2
open PySem PySem.W PySem.Spec PyProof PyProof.Rows
def Bm(base:Heap)(mg:Str->Option Value):Prop:=∃(bm:Addr) (ob:Obj),mg "__builtins__"=some (.ref bm)/\bm≠EW/\base.get? bm=some ob/\ob.cls=.type "module"/\ob.dict=some EW/\ob.data=.plain
def YH(H:Hp)(P:Addr)(ps:Array Value)(pos:Pos)(q:Str)(c:Addr)(H':Hp):Prop:=H'=H \/
 ∃(o:Obj) (vs:Array Value) (t:Tok),Dd pos ps.toList=none/\H c=none/\o.data=.fields vs/\vs[1]?=some (.str q t)/\H'=upd (upd H P (.g (ps++#[rawInt pos.line,rawInt pos.col,.ref c]))) c (.d o (.e 0))
section
variable {X:Cx}{pins:List (Addr × Obj)}{σ:St}{H:Hp}{s:Shared}{M:Model}{A:Around}{E:Value->Shared->Prop}
theorem nQ(I:Inv X pins σ H s)(fX:defaultsOf a X.a=([],[]))(hcl:FQ lsc X.a=pure clos)
 (hcode:X.a.code=.ref c) (C:CodeHd s.heap c P) (hP:H P=some (.g ps)) (ht:De ps.toList) (B:Bm X.h X.d)
 (hit:∀cv,Dd pos ps.toList=some cv->∃c' o vs t,cv=.ref c'/\H c'=some (.d o (.e 0))/\o.data=.fields vs/\vs[1]?=some (.str (X.a.qual++("<lambda>":Str)) t))
 (h:∀lf c' ctv H' h' tk,Inv X pins σ H' {s with heap:=h',toks:=tk}->YH H P ps pos (X.a.qual++("<lambda>":Str)) c' H'->(H' lf=none/\s.heap.objs.size<=lf/\lf ∉ frs X.g/\∃o vs t,H' c'=some (.d o (.e 0))/\o.data=.fields vs/\vs[1]?=some (.str (X.a.qual++("<lambda>":Str)) t)) ->
  h'.get? lf=some (kla_obj "<lambda>" (X.a.qual++("<lambda>":Str)) a body lsc clos ((X.d "__name__").getD .none) c' ctv)->h'.CodeRec (.ref c') (X.a.qual++("<lambda>":Str))->Q (.ref lf) {s with heap:=h',toks:=tk}) :
 wpAny M A (eval (.Lambda a body lsc pos) X.a) Q E s:=by
 obtain⟨bm,ob,b1,b2,b3,b4,b5,b6⟩:=B;have hPo:s.heap.get? P=some (tabObj ps):=I.C P _ hP;have hg:s.heap.Ns AI X.d:=I.mod.c.keeps I.bk;have hbH:H bm=none:=(I.bs _ _ b3).2;have hbP:bm≠P:=λz=>by rw[z,hP]at hbH;cases hbH
 obtain⟨og,eg,pg,g1,g2,_⟩:=I.mod.c;have hgH:H AI=none:=(I.bs _ _ g1).2;have hgP:AI≠P:=λz=>by rw[z,hP]at hgH;cases hgH
 have hbG:bm≠AI:=λz=>by rw[z,g1]at b3;cases b3;rw[g2]at b6;cases b6
 have hb:s.heap.BuiltinsAt X.d P:=⟨bm,ob,b1,b2,hbG,hbP,I.bk _ _ b3,b4,b5,b6⟩;have nst:∀lf,s.heap.objs.size<=lf->lf ∉ frs X.g:=λlf hl hm=>by obtain⟨_,o,e,_⟩:=I.stack.mem hm;exact absurd (Ap (Aj e) hl) (A8 _)
 refine kla_eval fX ?_;cases hf:Dd pos ps.toList with
 |some cv=>
  obtain⟨c',o,vs,t,rfl,q1,q2,q3⟩:=hit cv hf;refine kla_makeFunctionHit (mg:=X.d) hcl I.B.k hg hcode C hPo ht hf hb λctv h' tk hk hsz=>?_;have hk2:∀b u,s.heap.get? b=some u->(h'.push {cls:=.type "function",data:=.func (kla_fn "<lambda>" (X.a.qual++("<lambda>":Str)) a body lsc clos ((X.d "__name__").getD .none) (.ref c') ctv)}).get? b=some u:=λb u e=>nx _ (hk b u e);have hcr:s.heap.CodeRec (.ref c') (X.a.qual++("<lambda>":Str)):=⟨c',o,vs,t,rfl,(I.C c' _ q1).1,q2,q3⟩;refine h _ c' ctv H _ tk (I.kept hk2) (.inl rfl) ⟨I.C.fresh hsz,hsz,nst _ hsz,o,vs,t,q1,q2,q3⟩ (AB _ rfl) ?_;obtain⟨c2,o2,vs2,t2,e1,e2,e3⟩:=hcr;exact⟨c2,o2,vs2,t2,e1,hk2 _ _ e2,e3⟩
 |none=>
  refine kla_makeFunction (mg:=X.d) hcl I.B.k hg hcode C hPo ht hf hgP hb λc' ctv h' tk hx hge hlt m7 htb=>?_;obtain⟨c2,oc,vs,t,e1,e2,e3,e4⟩:=m7;cases e1;have hcn:H c'=none:=I.C.fresh hge;have hcP:c'≠P:=λz=>by rw[z,hP]at hcn;cases hcn
  have hk2:∀b u,b≠P->s.heap.get? b=some u->(h'.push (kla_obj "<lambda>" (X.a.qual++("<lambda>":Str)) a body lsc clos ((X.d "__name__").getD .none) c' ctv)).get? b=some u:=λb u n e=>nx _ (hx b u n e);have nP:∀b,H b=none->b≠P:=λb n z=>by rw[z,hP]at n;cases n
  have nc:∀b o,s.heap.get? b=some o->b≠c':=λb o e z=>absurd (Ap (Aj e) hge) (by rw[z];exact A8 _)
  refine h _ c' ctv (upd (upd H P (.g (ps++#[rawInt pos.line,rawInt pos.col,.ref c']))) c' (.d oc (.e 0))) _ tk (I.un (t':=tk) ⟨λb o e n _ _=>hk2 b o (nP b n) e,λb o e n _ _=>⟨o.slots,hk2 b o (nP b n) e⟩,λb o e n _=>?_,λb o e _=>?_,λb xs e=>?_,λb o u e=>?_,λb qs e=>?_⟩ λb u e=>?_)
   (.inr ⟨oc,vs,t,hf,hcn,e3,e4,rfl⟩) ⟨by rw[zH (E2 hlt),zH (nP _ (I.C.fresh (Az hge (Cz hlt))))];exact I.C.fresh (Az hge (Cz hlt)),Az hge (Cz hlt),nst _ (Az hge (Cz hlt)),oc,vs,t,zM,e3,e4⟩ (AB _ rfl) ⟨c',oc,vs,t,rfl,nx _ e2,e3,e4⟩
  . rw[zH (nc b o e),zH (nP b n)];exact n
  . by_cases z:b=P
    . rw[z];exact⟨_,nx _ htb⟩
    . exact⟨o,hk2 b o z e⟩
  . have z1:b≠c':=λz=>by rw[z,hcn]at e;cases e
    have z2:b≠P:=λz=>by rw[z,hP]at e;cases e
    rw[zH z1,zH z2];exact e
  . have z1:b≠c':=λz=>by rw[z,hcn]at e;cases e
    have z2:b≠P:=λz=>by rw[z,hP]at e;cases e
    rw[zH z1,zH z2];exact e
  . have z1:b≠c':=λz=>by rw[z,hcn]at e;cases e
    rw[zH z1];by_cases z:b=P
    . subst z
      rw[hP]at e;cases e;exact⟨_,zM⟩
    . rw[zH z];exact⟨#[],by rw[e];simp⟩
  . by_cases z1:b=c'
    . subst z1
      rw[zM]at e;cases e;exact⟨nx _ e2,oc,nx _ e2⟩
    . rw[zH z1]at e
      by_cases z:b=P
      . subst z
        rw[zM]at e;cases e;exact nx _ htb
      . rw[zH z]at e
        have own:∀d y,H d=some (.e y)->d≠c'/\d≠P:=λd y r=>⟨λz=>(by rw[z,hcn]at r;cases r),λz=>(by rw[z,hP]at r;cases r)⟩
        refine(I.C b u e).qT (λd v hd q=>hk2 d v ?_ q) (λd r=>by rw[zH (own d b r).1,zH (own d b r).2];exact r) λd xs r=>?_
        . rcases hd with rfl|hd
          . exact z
          . exact(own d b hd).2
        . have y1:d≠c':=λz=>by rw[z,hcn]at r;cases r
          have y2:d≠P:=λz=>by rw[z,hP]at r;cases r
          rw[zH y1,zH y2];exact r
end
end L2
end
section
namespace L2
open PySem PySem.W PySem.Spec PyProof PyProof.Rows
section
variable {P:Program}{w:World}{K:Ah}{mg:Str->Option Value}{base:Heap}{CX:CXT}{A:Around}{outer:List Env}{s:Shared}{H:Hp}{E:XK}{R:Result->Shared->Prop}
noncomputable abbrev Cx.loud(X:Cx)(A:Around):Cx:={X with A:=A,i:=false}
theorem Inv.loud(I:Inv X pins σ H s)(hf:A'.frames=some X.g):Inv (X.loud A') pins σ H s:=
 ⟨⟨I.B.i,I.B.a,I.B.k,I.B.t,I.B.d,I.B.r,I.B.p,I.B.s,λz=>absurd z Ae,hf,I.B.w,I.B.G,I.B.B,I.B.q,I.B.m,I.B.l,I.B.D,I.B.u⟩,I.R,I.F,I.j,I.M,I.G,I.J,I.D,I.O,I.C,I.P⟩
theorem Inv.calm(I:Inv (X.loud A') pins σ H s)(ok:X.Ok):Inv X pins σ H s:=
 ⟨ok,I.R,I.F,I.j,I.M,I.G,I.J,I.D,I.O,I.C,I.P⟩
abbrev gK(P:Program)(w:World)(A:Around)(env:Env)(R:Result->Shared->Prop)(body:List Stmt)(s1:Shared):Prop:=
 wpAny (model P w) (A.deeper env) (execs body env) (λfl s'=>R (.ok (.ret (match fl with|.ret v=>v|_=>.none))) s')
  (λe s'=>wpAny (model P w) (A.deeper env) (leaving env e) (λ_ s''=>R (.error e) s'') (λe' s''=>R (.error e') s'') s') s1
theorem nI{dV kV doc pm cdv ct oc}
 (lk:K.lookup f=some ⟨oc,od,.func (BA name qual params body scope dV kV doc pm an cdv ct),osl⟩) (hcd:BG K cdv qual=true) (S:wC N ps scope) (hdp:A.depth<Ce)
 (e0:mZ P w K mg base A outer s H) (hb:BindsTo s (BA name qual params body scope dV kV doc pm an cdv ct) args (ps.zip us)) (hl:vs.length=ps.length) (r:Vals vs us)
 (h:∀s1:Shared,Inv (xV CX P w K mg base N qual scope f cdv {A with handled:=none} outer s H E) [] (start N vs) H s1->(∀b o,s.heap.get? b=some o->s1.heap.get? b=some o)->gK P w A (envOfC qual scope s.heap.objs.size f cdv) R body s1) :
 codeAny (model P w) A (.call (.ref f) args) R s:=by
 have KX:K.In s.heap:=e0.c.a.keeps λb o e=>(e0.e b o e).1;have lim:s.heap.NoLimit:=e0.c.b.keeps λb o e=>(e0.e b o e).1;have hkind:∀y∈ps.zip us,scope.names.lookup y.1=some .local\/(scope.names.lookup y.1=some .cell/\((B5 (s.heap.objs.size+1) scope.names []).lookup y.1).isSome=true):=λ⟨n,v⟩ hy=>by
  rcases S.e n (D0 hy).1 with q|q
  . exact .inl q
  . exact .inr ⟨q,Dy _ _ _ (.inl q)⟩
 refine codeAny_call_function hdp (KX _ _ lk) rfl S.co S.f rfl (PySem.W.codeRec_of KX hcd) (hb _ _ _ _ ?_);refine Ey S.a hkind λenv he s1 x=>?_;subst he;refine⟨lim.keeps x.toInCall.keep,codeAny_func ?_⟩;exact h s1 (ql (A:={A with handled:=none}) S rfl ⟨e0.a,e0.c,e0.e,e0.g,e0.i,e0.h,e0.d,e0.f⟩ hl r x) x.toInCall.keep
theorem ot(h:A.handled=none):{A with handled:=none}=A:=by
 cases A;simp only at h;subst h;rfl
noncomputable def noArgs:DM:=⟨[],[],none,[],[],none,[]⟩
noncomputable def rJ(CX:CXT)(P:Program)(w:World)(K:Ah)(mg:Str->Option Value)(base:Heap)(N:List Str)(qual:Str)(scope:Scope)(f:Addr)(cd:Value)(cl:List (Str × Addr))(A:Around)(outer:List Env)(s:Shared)(H:Hp)(E:XK):Cx where
 f:=P
 w:=w
 K:=K
 d:=mg
 h:=base
 A:=A.deeper (envX qual scope s.heap.objs.size f cd cl)
 N:=N
 l:=s
 r:=H
 a:=envX qual scope s.heap.objs.size f cd cl
 k:=outer
 g:=envX qual scope s.heap.objs.size f cd cl::outer
 m:=[]
 i:=true
 q:=λ_=>false
 n:=[]
 j:=λe s'=>wpAny (model P w) (A.deeper (envX qual scope s.heap.objs.size f cd cl)) (leaving (envX qual scope s.heap.objs.size f cd cl) e) (λ_ s''=>CX outer H s E e s'') (λe' s''=>CX outer H s E e' s'') s'
theorem aG(hdp:A.depth<Ce)(hh:A.handled=none)(e0:mZ P w K mg base A outer s H)
 (ho:s.heap.get? lf=some (kla_obj nm qual noArgs body lsc cl pm c ctv)) (hcr:s.heap.CodeRec (.ref c) qual) (hk:lsc.kind=.function) (hco:lsc.isCoroutine=false) (hgen:lsc.isGenerator=false)
 (hnm:∀x∈lsc.names,x.2≠.cell/\x.2≠.local) (hinj:∀x y b,cl.lookup x=some b->cl.lookup y=some b->x=y) (hhas:∀x,lsc.names.lookup x=some .free->∃b,cl.lookup x=some b)
 (hcel:∀x b,cl.lookup x=some b->(∃v,s.heap.IsCell b v)/\H b=none)
 (hval:∀(i:Nat) x v,N[i]?=some x->σ[i]?=some (some v)->lsc.names.lookup x=some .free->∃u b,RelV v u/\cl.lookup x=some b/\s.heap.IsCell b (some u)) (hlen:σ.length=N.length)
 (h:∀s1:Shared,Inv (rJ CX P w K mg base N qual lsc lf (.ref c) cl A outer s H E) [] σ H s1->wpAny (model P w) (A.deeper (envX qual lsc s.heap.objs.size lf (.ref c) cl)) (eval body (envX qual lsc s.heap.objs.size lf (.ref c) cl)) (λv s'=>R (.ok (.ret v)) s')
  (λe s'=>wpAny (model P w) (A.deeper (envX qual lsc s.heap.objs.size lf (.ref c) cl)) (leaving (envX qual lsc s.heap.objs.size lf (.ref c) cl) e) (λ_ s''=>R (.error e) s'') (λe' s''=>R (.error e') s'') s') s1) :
 codeAny (model P w) A (.call (.ref lf) ⟨[],[]⟩) R s:=by
 have lim:s.heap.NoLimit:=e0.c.b.keeps λb o e=>(e0.e b o e).1;refine kla_callFunE hdp ho rfl hco hgen rfl hcr ?_;have hb:FN (kla_fn nm qual noArgs body lsc cl pm (.ref c) ctv) ⟨[],[]⟩=pure []:=rfl;rw[hb];refine Ai (wpAny_newFunctionEnv (λx hx=>(hnm x hx).1) (λx hx=>absurd hx (by simp)) (λh₁ hns hsb=>⟨lim.fresh _ hsb,?_⟩) hk)
 show codeAny _ _ (.expr body (envX qual lsc s.heap.objs.size lf (.ref c) cl)) _ _;have hk₁:∀b o,s.heap.get? b=some o->h₁.get? b=some o:=λb o e=>hsb.extBut b o (AG (Aj e)) (nx _ e);have noA:∀b:Addr,b ∉ (rJ CX P w K mg base N qual lsc lf (.ref c) cl A outer s H E).m:=λb z=>absurd (show b∈([]:List Addr) from z) (by simp)
 have cellK:∀b v,s.heap.IsCell b v->h₁.IsCell b v:=λb v ⟨o,e,d⟩=>⟨o,hk₁ b o e,d⟩;refine kla_codeExpr (h _ ⟨⟨e0.c,hk,rfl,rfl,Ab _,hinj,λy hy=>?_,λy b z _=>absurd z Ae,λ_=>hh,D1 e0.a,.inr ⟨rfl,rfl⟩,λb z=>absurd z (noA b),e0.e,e0.g,λb _ _=>noA b,λb z=>absurd z (noA b),e0.i,e0.h⟩,
  rfl,e0.f,Un.kept hk₁,⟨_,hns,λi y v h1 h2 h3=>?_⟩,λy b e=>?_,e0.d.fresh (Ab _),λy b e=>(hcel y b e).2,λp hp=>absurd (show p∈([]:List (Addr × Obj)) from hp) (by simp),e0.d.kept hk₁,hlen⟩)
 . have hy:lsc.names.lookup y=some .cell\/lsc.names.lookup y=some .free:=hy
   rcases hy with hy|hy
   . exact absurd rfl (hnm _ (AK hy)).1
   . exact hhas y hy
 . have h3:lsc.names.lookup y=some .local\/lsc.names.lookup y=some .cell\/lsc.names.lookup y=some .free:=h3
   rcases h3 with z|z|z
   . exact absurd rfl (hnm _ (AK z)).2
   . exact absurd rfl (hnm _ (AK z)).1
   . obtain⟨u,b,q1,q2,q3⟩:=hval i y v h1 h2 z
     exact⟨u,q1,.inr ⟨.inr z,b,q2,cellK _ _ q3⟩⟩
 . obtain⟨v,q⟩:=(hcel y b e).1
   exact⟨v,cellK b v q⟩
end
end L2
end
section
namespace L2
open PySem PySem.W PySem.Spec PyProof PyProof.Rows
section
variable {P:Program}{w:World}{K:Ah}{mg:Str->Option Value}{base:Heap}{A:Around}{outer:List Env}{s₀:Shared}{H₀:Hp}{E:XK}
theorem r8:Passes (CXE P w) (rJ (CXE P w) P w K mg base N qual scope f cd cl A outer s₀ H₀ E) E:=by
 rintro pins σ H s e s' I ⟨a,cls,H',rfl,fl,hE⟩;obtain⟨t,g,B,u,hk,cov,fr,fly⟩:=fl.h;show wpAny _ _ _ _ _ _;have I1:Inv (rJ (CXE P w) P w K mg base N qual scope f cd cl A outer s₀ H₀ E) pins σ H' {s with heap:=g}:=I.call (g':=s.gens) (t':=s.toks) (d':=s.drawn) (ch:=[]) u hk I.F λb z=>absurd z (by simp)
 have hL:∀b,(b<s₀.heap.objs.size\/H' b≠none)->b≠s₀.heap.objs.size:=λb hb z=>by
  subst z;rcases hb with hb|hb
  . exact A8 _ hb
  . exact hb I1.J
 have hmem:∀b,b∈frs outer->b∈frs (envX qual scope s₀.heap.objs.size f cd cl::outer):=λb hb=>Ac _ hb;refine wpAny_leaves_onW (base:=B) (env:=envX qual scope s₀.heap.objs.size f cd cl) (outer:=outer) (L:=s₀.heap.objs.size) I.B.g rfl fly λh' x1 x2=>?_;refine⟨a,cls,H',rfl,⟨fl.j.trans I.R,fl.d,λb hb=>fl.i b (hmem b hb),t,g,B,I1.j,hk,λb o e n hb=>?_,λb o e hb=>?_,x1⟩,hE⟩
 . refine cov b o e (λhm=>?_) ?_
   . rcases As.mp (show b∈s₀.heap.objs.size::frs outer from hm) with z|z
     . exact hL b hb z
     . exact n z
   . rcases hb with hb|hb
     . exact .inl (Ap hb I.sz)
     . exact .inr hb
 . obtain⟨sl,e1⟩:=fr b o e (hmem b hb)
   obtain⟨_,o',e2,hd⟩:=fly.2.2.1.mem (hmem b hb);rw[e1]at e2;cases e2;obtain⟨sl',e3⟩:=x2 b _ e1 hd;exact⟨sl',e3⟩
end
section
variable {X:Cx}{pins:List (Addr × Obj)}{σ:St}{H H':Hp}{s s':Shared}{a:Addr}{cls:Value}
theorem Inv.Zf(I:Inv X pins σ H s)(f:uW X.f X.w X.g H s H' a cls s'):Inv X pins σ H' s':=by obtain⟨u,hk⟩:=f.un;obtain⟨hh,g,d,t,os⟩:=s';obtain rfl:os=s.os:=f.j;exact I.call (h':=hh) (g':=g) (d':=d) (t':=t) (ch:=[]) u hk f.d λb z=>absurd z (by simp)
theorem uW.obj(f:uW X.f X.w X.g H s H' a cls s')(I:Inv X pins σ H s):∃oe,s'.heap.get? a=some oe/\oe.cls=cls/\H' a=none/\s.heap.get? a=none/\(∃vs,oe.data=.fields vs):=by
 obtain⟨t,g,B,u,hk,cov,fr,fly⟩:=f.h;obtain⟨f1,f2,f3,oe,vs,_,_,_,he,hc,hd,_⟩:=id fly;have nfr:a ∉ frs X.g:=λhm=>by obtain⟨_,o',e2,hd'⟩:=f3.mem hm;rw[he]at e2;cases e2;exact hd' vs hd
 refine⟨oe,he,hc.1,?_,?_,vs,hd⟩
 . cases q:H' a with
   |none=>rfl
   |some o=>
    have ht:=(hk a o q);have:∃ob,g.get? a=some ob:=by
     have hlt:=ht.lt;cases qg:g.get? a with
     |some ob=>exact⟨ob,rfl⟩
     |none=>
      exfalso;cases o with
      |b xs=>obtain⟨_,_,_,_,e⟩:=ht;rw[qg]at e;cases e
      |c xs=>obtain⟨_,_,_,ob,e,_⟩:=ht;rw[qg]at e;cases e
      |i kvs=>obtain⟨_,_,_,_,ob,_,_,e,_⟩:=ht;rw[qg]at e;cases e
      |j kvs=>obtain⟨_,_,_,_,ob,_,_,e,_⟩:=ht;rw[qg]at e;cases e
      |l S n=>obtain⟨ob,_,_,_,e,_⟩:=ht;rw[qg]at e;cases e
      |k C dx fs=>obtain⟨_,_,_,e,_⟩:=ht;rw[qg]at e;cases e
      |e y=>obtain⟨_,e⟩:=ht;rw[qg]at e;cases e
      |r fs=>obtain⟨_,⟨_,_,_,e,_⟩,_⟩:=ht;rw[qg]at e;cases e
      |q lo hi=>obtain⟨_,_,_,e⟩:=ht;rw[qg]at e;cases e
      |d ob u=>obtain⟨e,_⟩:=ht;rw[qg]at e;cases e
      |g ps=>have e:g.get? a=some _:=ht;rw[qg]at e;cases e
      |p f y=>have e:g.get? a=some _:=ht;rw[qg]at e;cases e
      |m φ=>obtain⟨_,⟨_,e⟩,_⟩:=ht;rw[qg]at e;cases e
    obtain⟨ob,e⟩:=this;rw[cov a ob e nfr (.inr (by rw[q];exact nofun))]at f2
    cases f2
 . cases q:s.heap.get? a with
   |none=>rfl
   |some o=>
    obtain⟨o',e⟩:=u.c a o q (by simp)
    rw[cov a o' e nfr (.inl (Aj q))]at f2;cases f2
theorem Inv.adopt(I:Inv X [] σ H s)(hn:H a=none)(he:s.heap.get? a=some oe)(hd:oe.data=.fields vs)(h0:X.l.heap.get? a=none)(hpn:X.n=[]):Inv X [] σ (upd H a (.d oe (.e 0))) s:=by
 have ne:∀b,H b≠none->b≠a:=λb n z=>n (by rw[z];exact hn)
 have nL:X.a.locals≠a:=λz=>by obtain⟨m,⟨o,es,ep,e,d,_⟩,_⟩:=I.M;rw[z,he]at e;cases e;rw[hd]at d;cases d
 have nC:∀x c,X.a.cells.lookup x=some c->c≠a:=λx c e z=>by obtain⟨v,o,e2,d⟩:=I.G x c e;rw[z,he]at e2;cases e2;rw[hd]at d;cases d
 have ob:∀b u,H b=some u->upd H a (.d oe (.e 0)) b=some u:=λb u e=>by rw[zH (ne b (by rw[e];exact nofun))];exact e
 refine⟨I.B,I.R,I.F,⟨I.j.f,I.j.i,λb o e n hx=>?_,I.j.c,λb xs e=>ob _ _ (I.j.l b xs e),λb o u e=>ob _ _ (I.j.g b o u e),λb ps e=>?_⟩,I.M,I.G,?_,λx c e=>?_,λp hp=>?_,λb u e=>?_,I.P⟩
 . rw[zH (λz=>by rw[z,h0]at e;cases e)];exact I.j.d b o e n hx
 . obtain⟨more,q⟩:=I.j.j b ps e
   exact⟨more,ob _ _ q⟩
 . rw[zH nL];exact I.J
 . rw[zH (nC x c e)];exact I.D x c e
 . rw[hpn]at hp;cases hp
 . by_cases z:b=a
   . subst z
     rw[zM]at e;cases e;exact⟨he,oe,he⟩
   . rw[zH z]at e
     exact(I.C b u e).qT (λ_ _ _ q=>q) (λc q=>ob _ _ q) λc xs q=>ob _ _ q
theorem Inv.gone(I:Inv X [] σ H s)(hn:h'.Ns X.a.locals m')(hs:Heap.SameBut X.a.locals s.heap h')(hpn:X.n=[]):Inv X [] (AA X.N.length none) H {s with heap:=h',toks:=tk}:=by
 have neL:∀b o,X.l.heap.get? b=some o->b≠X.a.locals:=λb o e=>AG (Ap (Aj e) I.B.d);refine⟨I.B,I.R,I.F,⟨λb o e n hb hx=>?_,λb o e n hb hx=>?_,I.j.d,λb o e hx=>?_,I.j.l,I.j.g,I.j.j⟩,⟨m',hn,λi x v e1 e2 e3=>?_⟩,λy c e=>?_,I.J,I.D,λp hp=>?_,λb u e=>?_,by simp⟩
 . exact(hs.2 b (neL b o e)).trans (I.j.f b o e n hb hx)
 . obtain⟨sl,e1⟩:=I.j.i b o e n hb hx
   exact⟨sl,(hs.2 b (neL b o e)).trans e1⟩
 . obtain⟨o',e1⟩:=I.j.c b o e hx
   exact⟨o',(hs.2 b (neL b o e)).trans e1⟩
 . rw[Dp]at e2
   split at e2<;>cases e2
 . obtain⟨v,z⟩:=I.G y c e
   exact⟨v,z.sameBut hs (I.cne y c e)⟩
 . rw[hpn]at hp;cases hp
 . refine(I.C b u e).qT (λc v hc q=>(hs.2 c ?_).trans q) (λ_ q=>q) λ_ _ q=>q
   rintro rfl;have z:=I.J;rcases hc with rfl|hc
   . rw[z]at e;cases e
   . rw[z]at hc;cases hc
end
end L2
end
section
namespace L2
open PySem PySem.W PySem.Spec PyProof PyProof.Rows
section
variable {prog:Program}{w:World}{A:Around}{E:Value->Shared->Prop}{s:Shared}{env:Env}
theorem jz
 (h:wpAny (model prog w) (A.mark (some (.ref e))) (eval t env) (λc s₁=>Looks (model prog w) s₁.heap (excMatches (.ref e) c) true /\
  wpAny (model prog w) (A.mark (some (.ref e))) (setFlight (.ref e) none) (λ_ s₂=>
   wpAny (model prog w) (A.mark (some (.ref e))) (storeName env n (.ref e)) (λ_ s₃=>
    wpAny (model prog w) (A.mark (some (.ref e))) (execs (b₀::suite) env)
     (λf s₄=>wpAny (model prog w) A (do Cu env n .none;unbindBehindTheSuite env n pos) (λ_ s₅=>Q f s₅) E s₄)
     (AsSuiteRaised (model prog w) (A.mark (some (.ref e))) env n pos (notedBy (model prog w) (A.mark (some (.ref e))) env (EZ (model prog w) A env E))) s₃) (notedBy (model prog w) (A.mark (some (.ref e))) env (EZ (model prog w) A env E)) s₂) (notedBy (model prog w) (A.mark (some (.ref e))) env (EZ (model prog w) A env E)) s₁) (notedBy (model prog w) (A.mark (some (.ref e))) env (EZ (model prog w) A env E)) s) :
 wpAny (model prog w) A (handleBy (.ref e) env (.ExceptHandler (some t) (some n) (b₀::suite) pos::rest)) Q E s:=by
 refine wpAny_handleBy_cons (codeAny_handlers_test (AX h (λc s₁ h₁=>?_) λ_ _ y=>y)) (by intro q;cases q)
 obtain⟨L,hk⟩:=h₁;exact L.here (codeAny_handlers_suite_as hk)
end
def qM(Kc K:Ah):Prop:=∀a o,Kc.lookup a=some o->K.lookup a=some o
theorem qM.inn{Kc K}(s:qM Kc K)(x:K.In h):Kc.In h:=λa o e=>x a o (s a o e)
def XC(X:Cx)(EE:Value->Hp->Prop)(e:Value)(s':Shared):Prop:=∃(a:Addr) (cls:Value) (σ2:St) (H2:Hp) (s2:Shared) (H':Hp),e=.ref a/\Inv X [] σ2 H2 s2/\uW X.f X.w X.g H2 s2 H' a cls s'/\EE cls H'
theorem rh(e:h.get? a=some o)(hc:o.cls=cls):Looks M h (typeOf (.ref a)) cls:=hc▸(Looks.ld e).andThen .now
theorem rQ{g B h h':Heap}(fr:∀b o,g.get? b=some o->b∈frs l->∃sl,h.get? b=some {o with slots:=sl})(ff:h.FunFrames B l)(sm:h.UpToSlots h'):∀b o,g.get? b=some o->b∈frs l->∃sl,h'.get? b=some {o with slots:=sl}:=λb o e hb=>by obtain⟨sl,e1⟩:=fr b o e hb;obtain⟨_,o',e2,hd⟩:=ff.mem hb;rw[e1]at e2;cases e2;obtain⟨sl',e3⟩:=sm b _ e1 hd;exact⟨sl',e3⟩
section
variable {X:Cx}{σ:St}{H:Hp}{s:Shared}{D:Ends}{EE:Value->Hp->Prop}
theorem cg(I:Inv X [] σ H s)(hpn:X.n=[])(hxn:X.m=[])(hN:X.N.Nodup)(hl:X.a.scope.names.lookup n=some .local)(hi:X.N[ie]?=some n)
 (hst:X.g=X.a::X.k) (hfr:X.a.frame=some X.a.locals) (hg:Gl X hx) (hdb:(hx == ("__debug__":Str))=false) (hm:X.d hx=some (.ref hue)) (hb:PSs (X.wA (XC X EE)) body tb) (hq:tb D σ H)
 (hex:∀cls H',EE cls H'->(∃Kc,qM Kc X.K/\exmOne Kc cls (.ref hue)=some true)/\∀a oe (σ2:St),H' a=none->oe.cls=cls->σ2.length=X.N.length->ts {a:=λ_ _=>False,b:=D.b} (σ2.set ie (some (.c a))) (upd H' a (.d oe (.e 0))))
 (hs:∀a:Addr,PSs (X.loud (X.A.mark (some (.ref a)))).nox (b₀::suite) ts) :
 wpAny (model X.f X.w) X.A (exec (.Try body [.ExceptHandler (some (.Name hx np)) (some n) (b₀::suite) hpos] [] [] pos) X.a) (SP X [] D) X.j s:=by
 refine wpAny_Try_except (AX (hb [] s σ H D (I.wA _) hq) (λf s1 hsp=>?_) λe s1 hx'=>?_)
 . have q:=hsp.yt
   cases f with
   |next=>
    obtain⟨σ1,H1,I1,q1⟩:=q;exact sk [] s1 σ1 H1 D I1 q1
   |brk=>exact q
   |cont=>exact q
   |ret u=>exact q
 . obtain⟨a,cls,σ2,H2,s2,H',rfl,I2,f,hE⟩:=hx'
   obtain⟨hx1,hx2⟩:=hex cls H' hE;obtain⟨t,g,B,u,hk,cov,fr,fly⟩:=f.h;have fl0:=fly;rw[hst]at fly;have hA:X.A.frames=some (X.a::X.k):=by rw[<-hst];exact I.B.g
   refine wpAny_looks_onW hA hfr fly λh4 held4 sm4=>?_;refine wpAny_landsW held4 λh5 fly5 sm5=>?_;have fly5':Heap.FlyingW B X.g a cls (.ref t) h5:=by rw[hst];exact fly5
   have f5:uW X.f X.w X.g H2 s2 H' a cls {s1 with heap:=h5}:=⟨f.j,f.d,f.i,t,g,B,u,hk,cov,rQ fr fl0.2.2.1 (sm4.trans sm5),fly5'⟩
   have I5:=(I2.Zf f5).loud (A':=X.A.mark (some (.ref a))) (by rw[hst];exact hA)
   refine jz (xj (X:=X.loud (X.A.mark (some (.ref a)))) I5 hg hm ⟨?_,?_⟩ hdb)
   . obtain⟨oe,e1,e2,_⟩:=f5.obj I2
     obtain⟨Kc,sub,hx1⟩:=hx1;exact exm_one (sub.inn I5.kIn) (rh e1 e2) hx1
   . refine lands_againW fly5' λh6 fly6 sm6=>?_
     have f6:uW X.f X.w X.g H2 s2 H' a cls {s1 with heap:=h6}:=⟨f.j,f.d,f.i,t,g,B,u,hk,cov,rQ (rQ fr fl0.2.2.1 (sm4.trans sm5)) fly5'.2.2.1 sm6,fly6⟩
     obtain⟨oe,e1,e2,e3,e4,vs,e5⟩:=f6.obj I2;have I6:=I2.Zf f6;have h0:X.l.heap.get? a=none:=by
      cases q:X.l.heap.get? a with
      |none=>rfl
      |some o=>
       have hne:a ∉ X.m:=by rw[hxn];exact nofun
       obtain⟨o',q'⟩:=I2.j.c a o q hne;rw[e4]at q';cases q'
     have I7:=(I6.adopt e3 e1 e5 h0 hpn).loud (A':=X.A.mark (some (.ref a))) (by rw[hst];exact hA)
     refine xf (X:=X.loud (X.A.mark (some (.ref a)))) (v:=.c a) I7 hN hi (.inl hl) rfl (λs8 I8=>?_) (.inr hl);refine AX ((hs a) [] s8 _ _ {a:=λ_ _=>False,b:=D.b} (I8.wA _) (hx2 a oe σ2 e3 e2 I2.P)) (λfl s9 hsp=>?_) λ_ _ z=>Aw z;have q:=hsp.yt;cases fl with
     |next=>obtain⟨_,_,_,z⟩:=q;exact Aw z
     |brk=>obtain⟨_,_,_,z⟩:=q;exact Aw z
     |cont=>obtain⟨_,_,_,z⟩:=q;exact Aw z
     |ret u=>
      obtain⟨v,σ',H3,I9,rv,q9⟩:=q;have I10:Inv X [] σ' H3 s9:=I9.calm I.B;obtain⟨m,hn,_⟩:=I10.M;exact wpAny_nameGoes hl hn (by rw[I.B.a];rfl) λh' m' hn' hs'=>⟨v,_,H3,I10.gone hn' hs' hpn,rv,q9⟩
end
end L2
end
section
namespace L2
open PySem PySem.W PySem.Spec PyProof PyProof.Rows
open Sem (wp)
structure rA(K:Ah)(C:Addr):Prop where
 ga:findIn K (.ref C) "__getattribute__"=some (some (.builtin "BaseException.__getattribute__"))
 gt:findIn K (.ref C) "__getattr__"=some none
 cl:findIn K (.ref C) "__class__"=some (some (.builtin "object.__class__"))
 be:subIn K (.ref C) (.type "BaseException")=some true
 ob:subIn K (.ref C) (.type "object")=some true
 it:(clsIn K C).isSome=true
section
variable {prog:Program}{w:World}{A:Around}{E:Value->Shared->Prop}{h:Heap}{g:Array GenState}{d:Drawn}{t:Nat}{os:OsState}{a C:Addr}{o:Obj}{K:Ah}
theorem kK(F:rA K C)(X:K.In h)(hx:h.get? a=some o)(hc:o.cls=.ref C)(hq:R (.ok (.ret (.ref C))) ⟨h,g,d,t,os⟩) :
 codeAny (model prog w) A (.call (.builtin "getset_descriptor.__get__") ⟨[.builtin "object.__class__",.ref a,.ref C],[]⟩) R ⟨h,g,d,t,os⟩:=by
 have hT5:(⟨h,g,d,t,os⟩:Shared).TypeIs (.builtin "object.__class__") "getset_descriptor":=CC;have L1:Looks (model prog w) h (isSubtype (.ref C) (.type (".".intercalate ("object.__class__".cutAt '.').dropLast))) true:=by rw[PySem.F.owner_object_class];exact looks_subIn X F.ob
 refine D7 Ec.plain PySem.F.entry_gs_get (Ec.check _ _ _ _ _ _ _ _ hT5 (PySem.F.args_gs_get _ _ _) ?_)
 repeat (any_goals (first|assumption|(with_reducible refine Ba hx ?_;rw[hc])|with_reducible refine L1.at ?_|wp_step))
 refine⟨Eo _ (by decide +kernel),codeAny_builtin PySem.F.entry_object_class ?_⟩
 repeat (any_goals (first|assumption|(with_reducible refine Ba hx ?_;rw[hc])|wp_step))
theorem oi(F:rA K C)(X:K.In h)(hx:h.get? a=some o)(hc:o.cls=.ref C)(hq:Q (.done (.ret (.ref C))) ⟨h,g,d,t,os⟩) :
 wpAny (model prog w) A (Builtin.«object.__getattribute__» ⟨[.ref a,.str "__class__" tk],[]⟩) Q E ⟨h,g,d,t,os⟩:=by
 have hT5:(⟨h,g,d,t,os⟩:Shared).TypeIs (.builtin "object.__class__") "getset_descriptor":=CC;have f5:=CC;have f6:=Ec.lookup;have f7:=PySem.F.slot_gs_set.lookup;have L1:=looks_findIn (M:=model prog w) X F.cl
 repeat (any_goals (first|assumption|(with_reducible refine Ba hx ?_;rw[hc])|with_reducible refine L1.at ?_|wp_step))
 refine kK F X hx hc ?_
 repeat (any_goals (first|assumption|wp_step))
theorem oh(F:rA K C)(X:K.In h)(hx:h.get? a=some o)(hc:o.cls=.ref C)(hq:Q () ⟨h,g,d,t,os⟩):wpAny M A (Cj "BaseException.__getattribute__" ⟨[.ref a,nameV],[]⟩) Q E ⟨h,g,d,t,os⟩:=by
 have hk:builtinKind "BaseException.__getattribute__"=some .slot:=by decide +kernel
 have hsplit:splitId "BaseException.__getattribute__"=some ("BaseException","__getattribute__"):=by decide +kernel
 have L1:=looks_subIn (M:=M) X F.be;have ha:=PySem.F.args_bexc_ga (.ref a) nameV;simp only[Cj,hk,hsplit];refine xd ?_
 . unfold isInstance
   repeat (first|(with_reducible refine Ba hx ?_;rw[hc])|with_reducible refine L1.at ?_|wp_step)
   exact hq
theorem mX(F:rA K C)(X:K.In h)(hx:h.get? a=some o)(hc:o.cls=.ref C)(hq:R (.ok (.ret (.ref C))) ⟨h,g,d,t,os⟩) :
 codeAny (model prog w) A (.call (.builtin "BaseException.__getattribute__") ⟨[.ref a,.str "__class__" tk],[]⟩) R ⟨h,g,d,t,os⟩:=
 D7 ED.ga.plain PySem.F.entry_bexc_ga (oh F X hx hc (oi F X hx hc hq))
theorem gG{fill expr}(F:rA K C)(X:K.In h)(hx:h.get? a=some o)(hc:o.cls=.ref C)(hq:Q (.ref C) ⟨h,g,d,t,os⟩) :
 wpAny (model prog w) A (getAttrBy (.ref a) (.str "__class__" tk) fill expr) Q E ⟨h,g,d,t,os⟩:=by
 have f3:=ED.ga.bind (.ref a);have hx0:(expr&&onTheHeap (DH "BaseException.__getattribute__"))=false:=by cases expr<;>rfl
 have hx2:(DH "BaseException.__getattribute__" == DH "object.__getattribute__")=false:=by decide +kernel
 have hx1:(onTheHeap (A7 C)&&DH "BaseException.__getattribute__" == DH "object.__getattribute__")=false:=by rw[hx2];rfl
 have L1:=looks_findIn (M:=model prog w) X F.ga;have L2:=looks_findIn (M:=model prog w) X F.gt
 repeat (any_goals (first|assumption|(with_reducible refine Ba hx ?_;rw[hc])|with_reducible refine L1.at ?_|with_reducible refine L2.at ?_|wp_step))
 refine mX F X hx hc ?_
 repeat (any_goals (first|assumption|wp_step))
theorem mW(F:rA K C)(X:K.In h)(hx:h.get? a=some o)(hc:o.cls=.ref C)(hq:Q (some (.ref C)) ⟨h,g,d,t+1,os⟩):wpAny (model prog w) A (getAttr? (.ref a) "__class__") Q E ⟨h,g,d,t,os⟩:=by
 unfold getAttr? getAttrBy?
 repeat (any_goals (first|assumption|with_reducible apply gG F X hx hc|wp_step))
theorem eN(F:rA K C)(hc:o.cls=.ref C):KitX K (.ref a) (.ref C) (λh=>h.get? a=some o) where
 ty:=λM h _ e=>rh e hc
 it:=λM h X _=>by
  have z:=F.it;unfold clsIn at z;split at z
  . rename_i c' d' cd' sl' ho
    intro A' Q' E' s' k q;unfold isType loadHead;exact xd (wpAny_loadPart (k _ _ (X _ _ ho)) (Ai q))
  . cases z
 ne:=λh tp dd its n sl X htp=>by
  have z:=F.it;refine Bool.eq_false_iff.mpr λq=>?_;have e:C=tp:=A7.inj (beq_iff_eq.mp q);subst e;unfold clsIn at z;split at z
  . rename_i c' d' cd' sl' ho
    have z:=(X _ _ ho).symm.trans htp;cases z
  . cases z
 ca:=λ{prog w A E Q s} X e k=>by obtain⟨h,g,d,t,os⟩:=s;exact mW F X e hc k
end
end L2
end
section
namespace L2
open PySem PySem.W PySem.Spec PySem.Calls PyProof PyProof.Rows
open SeqAt
def oR(K:Ah):V->List V->Hp->VK->Prop:=λx vs H Q=>∃t xs y j,x=.c t/\vs=[y]/\SqL K H t xs/\vE y=true/\xs.all vE=true/\xs.findIdx? (λz=>eqV z y)=some j/\Q (.d (j:Nat)) H
def UY(K:Ah):List V->Hp->VK->Prop:=λxs H Q=>∃(a:Addr) (oe:Obj) (C:Addr) (dv:V) (du:Value) (b:Bool) (Kc:Ah),xs=[.c a,dv]/\H a=some (.d oe (.e 0))/\oe.cls=.ref C/\qM Kc K/\rA Kc C/\(∀u,RelV dv u->u=du)/\kitOne Kc (.ref C) du=some b/\Q (.f b) H
section
variable {X:Cx}
theorem iQ:MtR X "list.index" (oR X.K):=by
 intro pins s σ H x xs v us Q I rx rs h;obtain⟨t,ys,y,j,rfl,rfl,ht,fy,fs,hx,q⟩:=h;cases rx;obtain⟨u,rfl,ru⟩:=vals1 rs;obtain⟨its,r,p1,hz⟩:=I.list ht;obtain⟨⟨cls,dd,data,sl⟩,ho,hc,n,hd⟩:=id p1.isList;simp only at hc hd;subst hc hd;have hm:=fO (x:=y) r fs;have at_:∀(i:Nat) (h1:i<its.length) (h2:i<ys.length),eqU y its[i]=eqV ys[i] y:=λi h1 h2=>by
  have:=congrArg (·[i]?) hm
  simp only[A5,Ak h1,Ak h2,CV,Du]at this;exact this
 have hl:=r.length;obtain⟨hj,hit,hno⟩:=DC.mp hx;have hsz:its.length<=Aq:=by first|exact hz|(rw[<-hl];exact hz)|simpa using hz
 rw[AS]at hsz;refine B1 F.slot_list_index ⟨_,ho,rfl⟩ F.entry_list_index (F.args_list_index_2 _ _) (list_indexAt t its.toArray n dd sl u (eqU y) j (by rw[Ag];omega) (by omega) ?_ λm hm hmj=>?_) ⟨ho,λw hw=>rj ru fy r fs w (by simpa using hw),?_⟩
 . rw[List.getElem_toArray,at_ j (by omega) hj];exact hit
 . rw[Ag]at hm
   rw[List.getElem_toArray,at_ m hm (by omega)]
   have:=hno m hmj;simpa using this
 . exact⟨.d _,H,I.tok _,⟨s.toks,rfl⟩,q⟩
theorem il(ho:PE X o to)(he:PE X e te)(hbase:CM o "index" X.a (eval o X.a)=eval o X.a:=by rfl)(hst:noStar e=true:=by rfl)(hline:(apos.endLine == cpos.line)=true:=by rfl) :
 PE X (.Call (.Attribute o "index" apos) [e] [] cpos) (tBM X.K "list" (oR X.K) to (wj te sR)):=by
 have hs1:AF [e] X.a=(false,eval e X.a)::AF [] X.a:=zd hst;refine dR Ds PySem.F.slot_list_index PySem.F.type_list_index iQ ho (pac he yl hst) hbase ?_ hline hs1 rfl;rw[hs1];rfl
theorem ow:yO X (.builtin "isinstance") (UY X.K):=by
 intro pins s σ H vs us Q I r h;obtain⟨a,oe,C,dv,du,b,Kc,rfl,ha,hc,sub,F,hd,hk,q⟩:=h;cases r with
 |cons r1 r2=>
  cases r2 with
  |cons r2 r3=>
   cases r3;cases r1;rw[hd _ r2];exact kia_one (eN F hc) (sub.inn I.kIn) (I.C a _ ha).1 hk (λz=>nomatch z) λtk=>⟨.f b,H,I.tok tk,rfl,q⟩
theorem WH(hg:Gl X c)(hm:X.d c=some (.ref D))(hdb:(c == ("__debug__":Str))=false):PE X (.Name c p) (tC (.c D)):=λpins s σ H Q I h=>xj I hg hm ⟨.c D,H,I,rfl,h⟩ hdb
theorem WA(hg:Gl X c)(hm:X.d c=none)(hv:BW c=some (.type n))(hn:c≠"__name__")(hdb:(c == ("__debug__":Str))=false):PE X (.Name c p) (tC (.k n)):=λpins s σ H Q I h=>uM I hg hm hv ⟨.k n,H,I,rfl,h⟩ hn hdb
end
end L2
end
section
namespace L2
open PySem PySem.W PySem.Spec PySem.Calls PyProof PyProof.Rows
def vS(sc:Scope):List Str->List Expr->Bool
 |[],es=>es.isEmpty
 |c::cs,es=>M.lc es λe es=>(M.eCN e λf xs=>M.lc xs λa ys=>M.l1 ys λb=>M.eName a λy _=>M.eName b λx _=>decide (f="isinstance")&&decide (y="_law_e")&&decide (x=c)&&decide (sc.names.lookup c=some .globalImplicit)&&!(c == ("__debug__":Str)))&&vS sc cs es
def tU:List Str->List Expr->Bool
 |[],es=>es.isEmpty
 |w::ws,es=>M.lc es λe es=>(M.bP e λc _ _=>decide (c=.str w))&&tU ws es
noncomputable def adr(mg:Str->Option Value)(c:Str):Addr:=match mg c with|some (.ref D)=>D|_=>0
theorem gS(h:mg c=some (.ref D)):adr mg c=D:=by unfold adr;rw[h]
def cY(K:Ah)(dv:V):TE:=tCB (UY K) (wj (vK 0) (wj (tC dv) sR))
def l8(K:Ah)(mg:Str->Option Value):List Str->TA
 |[]=>sR
 |c::cs=>wj (cY K (.c (adr mg c))) (l8 K mg cs)
def mR:List Str->TA
 |[]=>sR
 |w::ws=>wj (tC (.e w)) (mR ws)
structure KB(X:Cx)(sc:Scope):Prop where
 d:X.a.scope=sc
 l:X.N.Nodup
 n0:X.N[0]?=some ("_law_e":Str)
 j:X.N[1]?=some ("_law_marks":Str)
 n2:X.N[2]?=some ("_law_words":Str)
 l0:sc.names.lookup ("_law_e":Str)=some .local
 g:sc.names.lookup ("_law_marks":Str)=some .local
 i:sc.names.lookup ("_law_words":Str)=some .local
 gi:sc.names.lookup ("isinstance":Str)=some .globalImplicit
 gv:sc.names.lookup ("ValueError":Str)=some .globalImplicit
 mi:X.d "isinstance"=none
 mv:X.d "ValueError"=none
structure KS(K Kc:Ah)(C a:Addr)(oe:Obj)(H0:Hp)(σ:St)(H:Hp):Prop where
 c:σ[0]?=some (some (.c a))
 d:H a=some (.d oe (.e 0))
 e:oe.cls=.ref C
 F:rA Kc C
 b:qM Kc K
 f:xq H0 H
section
variable {X:Cx}{sc:Scope}
theorem KB.gl(B:KB X sc)(h:sc.names.lookup x=some .globalImplicit):Gl X x:=by show X.a.scope.names.lookup x=_;rw[B.d];exact h
theorem KB.vis(B:KB X sc)(h:sc.names.lookup x=some .local):Vis X.a.scope x:=by rw[B.d];exact .inl h
theorem KB.UJ(B:KB X sc):PE X (.Name "_law_e" p) (vK 0):=wK B.n0 (B.vis B.l0) (by decide) (by decide)
theorem KB.WC(B:KB X sc):PE X (.Name "_law_marks" p) (vK 1):=wK B.j (B.vis B.g) (by decide) (by decide)
theorem KB.Ta(B:KB X sc):PE X (.Name "_law_words" p) (vK 2):=wK B.n2 (B.vis B.i) (by decide) (by decide)
theorem KB.UL(B:KB X sc)(hg:sc.names.lookup c=some .globalImplicit)(hdb:(c == ("__debug__":Str))=false)(hm:X.d c=some (.ref D)):PE X (.Call (.Name "isinstance" p1) [.Name "_law_e" p2,.Name c p3] [] p4) (cY X.K (.c D)):=
 u6 ow (B.gl B.gi) B.mi boot_isinstance (yo B.UJ (yo (WH (B.gl hg) hm hdb) yl))
theorem KB.WB(B:KB X sc):PE X (.Call (.Name "isinstance" p1) [.Name "_law_e" p2,.Name "ValueError" p3] [] p4) (cY X.K (.k "ValueError")):=
 u6 ow (B.gl B.gi) B.mi boot_isinstance (yo B.UJ (yo (WA (B.gl B.gv) B.mv (by first|rfl|decide +kernel) (by decide) (by decide)) yl))
theorem KB.isl(B:KB X sc):∀{cs} {es},vS sc cs es=true->(∀c∈cs,∃D,X.d c=some (.ref D))->PA X es (l8 X.K X.d cs)
 |[],es,h,_=>by cases AN.mp h;exact yl
 |c::cs,es,h,hm=>by replace h:=M.z0 h;obtain⟨e,es,rfl,h⟩:=h;obtain⟨h0,h6⟩:=M.zJ h;replace h0:=M.yf h0;obtain⟨f,p1,xs,p4,rfl,h0⟩:=h0;replace h0:=M.eO h0;obtain⟨a,b,rfl,h0⟩:=h0;replace h0:=M.yI h0;obtain⟨y,p2,rfl,h0⟩:=h0;replace h0:=M.yI h0;obtain⟨x,p3,rfl,h0⟩:=h0;clear h;simp only[cf,decide_eq_true_eq,AD]at h0;obtain⟨⟨⟨⟨rfl,rfl⟩,rfl⟩,h4⟩,h5⟩:=h0;obtain⟨D,hD⟩:=hm _ (Ao ..);refine yo ?_ (KB.isl B h6 λc' hc'=>hm c' (Ac _ hc'));rw[gS hD];exact B.UL h4 h5 hD
theorem We:∀{ws} {es},tU ws es=true->PA X es (mR ws)
 |[],es,h=>by cases AN.mp h;exact yl
 |w::ws,es,h=>by replace h:=M.z0 h;obtain⟨e,es,rfl,h⟩:=h;obtain⟨h0,h6⟩:=M.zJ h;obtain⟨c,k,p,rfl,h1⟩:=M.rK h0;obtain rfl:=of_decide_eq_true h1;exact yo tx (We h6)
end
section
variable {K Kc:Ah}{mg:Str->Option Value}{C a:Addr}{oe:Obj}{H0 H:Hp}{σ:St}
theorem fe(S:KS K Kc C a oe H0 σ H)(hd:∀u,RelV dv u->u=du)(hk:kitOne Kc (.ref C) du=some b)(q:Q (.f b) H):cY K dv σ H Q:=
 ⟨_,S.c,a,oe,C,dv,du,b,Kc,rfl,S.d,S.e,S.b,S.F,hd,hk,q⟩
theorem pk(S:KS K Kc C a oe H0 σ H)(b:Str->Bool):∀{cs} {Q},(∀c∈cs,kitOne Kc (.ref C) (.ref (adr mg c))=some (b c))->Q (cs.map λc=>.f (b c)) H->l8 K mg cs σ H Q
 |[],_,_,q=>q
 |c::cs,Q,hk,q=>fe S (λu z=>z) (hk c (Ao ..)) (pk S b (λc' hc'=>hk c' (Ac _ hc')) q)
theorem qD:∀{ws} {Q},Q (ws.map V.e) H->mR ws σ H Q
 |[],_,q=>q
 |w::ws,Q,q=>qD (ws:=ws) q
theorem xZ(h:H p=none):xq H (upd H p o):=λb u e=>by rw[zH (zO e h)];exact e
theorem KS.new(S:KS K Kc C a oe H0 σ H)(h:H p=none):KS K Kc C a oe H0 σ (upd H p o):=⟨S.c,xZ h _ _ S.d,S.e,S.F,S.b,S.f.trans (xZ h)⟩
theorem KS.put(S:KS K Kc C a oe H0 σ H):KS K Kc C a oe H0 (σ.set (i+1) (some v)) H:=⟨by rw[AO (by omega)];exact S.c,S.d,S.e,S.F,S.b,S.f⟩
theorem aI{b:Str->Bool}(S:KS K Kc C a oe H0 σ H)(hl:3<=σ.length)(hz:cs.length<=1000)(hk:∀c∈cs,kitOne Kc (.ref C) (.ref (adr mg c))=some (b c))
 (q:∀p σ' H',KS K Kc C a oe H0 σ' H'->σ'.length=σ.length->σ'[1]?=some (some (.c p))->H' p=some (.b (cs.map λc=>.f (b c)))->D.a σ' H'):v9 (l9 (l8 K mg cs)) (xG 1) D σ H:=
 pk S b hk ⟨by rw[Ad,AS];omega,λp hp=>q p _ _ (S.new hp).put (by simp) (by rw[Ar (by omega)]) zM⟩
theorem oC{b:Str->Bool}(S:KS K Kc C a oe H0 σ H)(hl:3<=σ.length)(h1:σ[1]?=some (some (.c p0)))(h2:H p0=some (.b (ds.map λc=>.f (b c))))(hz:ds.length+cs.length<=1000)(hk:∀c∈cs,kitOne Kc (.ref C) (.ref (adr mg c))=some (b c))
 (q:∀p σ' H',KS K Kc C a oe H0 σ' H'->σ'.length=σ.length->σ'[1]?=some (some (.c p))->H' p=some (.b ((ds++cs).map λc=>.f (b c)))->D.a σ' H'):v9 (tOp av (vK 1) (l9 (l8 K mg cs))) (xG 1) D σ H:=by
 refine⟨_,h1,pk S b hk ⟨by rw[Ad,AS];omega,λp1 hp1=>⟨p0,p1,_,_,rfl,rfl,by rw[zH (zO h2 hp1)];exact h2,zM,by rw[Ad,Ad,AS];omega,λp hp=>?_⟩⟩⟩
 refine q p _ _ ((S.new hp1).new hp).put (by simp) (by rw[Ar (by omega)]) ?_
 rw[zM,C0]
end
end L2
end
section
namespace L2
open PySem PySem.W PySem.Spec PySem.Calls PyProof PyProof.Rows
noncomputable def ans(pre:Option Str)(w:Str):Str:=match pre with|none=>w|some x=>x++w
def UU:R2:=λx y H Q=>∃i j,x=.e i/\y=.e j/\i.length+j.length<=Aq/\Q (.e (i++j)) H
def jY(K:Ah)(ws2:List Str):TE:=tOp (WT K) (tOp av (vK 2) (l9 (mR ws2))) (tBM K "list" (oR K) (vK 1) (wj (tC (.f true)) sR))
def kA(K:Ah)(pre:Option Str)(ws2:List Str):TE:=match pre with
 |none=>jY K ws2
 |some x=>tOp UU (tC (.e x)) (jY K ws2)
def tMk(K:Ah)(mg:Str->Option Value)(cs:List Str):TS:=v9 (tOp av (vK 1) (l9 (l8 K mg cs))) (xG 1)
def Z7(K:Ah)(mg:Str->Option Value)(cs1 cs2 cs3 cs4 ws1 ws2:List Str)(pre:Option Str)(odd:Str):TS:=
 mQ (v9 (l9 (l8 K mg cs1)) (xG 1)) (mQ (tMk K mg cs2) (mQ (tMk K mg cs3) (mQ (tMk K mg cs4)
  (mQ (Us (tOr (Ut (tB (cY K (.k "ValueError")))) (jZ (tOp rNe (tBM K "list" (ll K false) (vK 1) (wj (tC (.f true)) sR)) (tC (.d 1))))) (hV (tC (.e odd))) Z8)
   (mQ (v9 (l9 (mR ws1)) (xG 2)) (hV (kA K pre ws2)))))))
section
variable {X:Cx}{sc:Scope}
theorem KB.pick(B:KB X sc){l2}(w2:tU ws2 l2=true)(hline:(ap.endLine == cp.line)=true) :
 PE X (.Subscript (.BinOp (.Name "_law_words" p1) .Add (.List l2 p2) p3) (.Call (.Attribute (.Name "_law_marks" p4) "index" ap) [.Constant (.bool true) k p5] [] cp) p6) (jY X.K ws2):=
 Zz jB (ny lU B.Ta (tw (We w2))) (il B.WC dQ (hline:=hline)) (λ_ _=>rfl)
theorem KB.mks(B:KB X sc){es}(h:vS sc cs es=true)(hm:∀c∈cs,∃D,X.d c=some (.ref D)) :
 PS X (.Assign [.Name "_law_marks" p1] (.BinOp (.Name "_law_marks" p2) .Add (.List es p3) p4) p5) (tMk X.K X.d cs):=
 wM B.l B.j (by rw[B.d];exact .inl B.g) (ny lU B.WC (tw (B.isl h hm))) (hf:=.inr (by rw[B.d];exact B.g))
theorem eL(B:KB X sc)
 (h1:vS sc cs1 e1=true) (h2:vS sc cs2 e2=true) (h3:vS sc cs3 e3=true) (h4:vS sc cs4 e4=true) (hm:∀c∈cs1++cs2++cs3++cs4,∃D,X.d c=some (.ref D)) (w1:tU ws1 l1=true) (hline:(ap.endLine == cp.line)=true) (hr:PE X r (kA X.K pre ws2)) :
 PSs X [.Assign [.Name "_law_marks" a1] (.List e1 a2) a3,.Assign [.Name "_law_marks" b1] (.BinOp (.Name "_law_marks" b2) .Add (.List e2 b3) b4) b5,.Assign [.Name "_law_marks" c1] (.BinOp (.Name "_law_marks" c2) .Add (.List e3 c3) c4) c5,
  .Assign [.Name "_law_marks" d1] (.BinOp (.Name "_law_marks" d2) .Add (.List e4 d3) d4) d5,
  .If (.BoolOp .Or [.UnaryOp .Not (.Call (.Name "isinstance" f1) [.Name "_law_e" f2,.Name "ValueError" f3] [] f4) f5,.Compare (.Call (.Attribute (.Name "_law_marks" f6) "count" ap) [.Constant (.bool true) k1 f7] [] cp) [.NotEq] [.Constant (.int 1) k2 f8] f9] fa) [.Return (some (.Constant (.str odd) k3 fb)) fc] [] fd,
  .Assign [.Name "_law_words" g1] (.List l1 g2) g3,.Return (some r) r1] (Z7 X.K X.d cs1 cs2 cs3 cs4 ws1 ws2 pre odd):=by
 have m1:∀c∈cs1,∃D,X.d c=some (.ref D):=λc h=>hm c (by simp[h])
 have m2:∀c∈cs2,∃D,X.d c=some (.ref D):=λc h=>hm c (by simp[h])
 have m3:∀c∈cs3,∃D,X.d c=some (.ref D):=λc h=>hm c (by simp[h])
 have m4:∀c∈cs4,∃D,X.d c=some (.ref D):=λc h=>hm c (by simp[h])
 refine zx (wM B.l B.j (by rw[B.d];exact .inl B.g) (tw (B.isl h1 m1)) (hf:=.inr (by rw[B.d];exact B.g))) (zx (B.mks h2 m2) (zx (B.mks h3 m3) (zx (B.mks h4 m4) (zx ?_ (zx
  (wM B.l B.n2 (by rw[B.d];exact .inl B.i) (tw (We w1)) (hf:=.inr (by rw[B.d];exact B.i))) (w8 (wL hr)))))))
 exact qz (UR (lh (WQ B.WB)) (WR (sq Zt (ik B.WC dQ (hline:=hline)) dh (rm _ (by decide) (by decide))))) (w8 (wL tx)) sk
end
section
variable {K Kc:Ah}{mg:Str->Option Value}{C a:Addr}{oe:Obj}{H0 H:Hp}{σ:St}
theorem kT{cs:List Str}{b:Str->Bool}:(cs.map λc=>V.f (b c)).all vE=true:=by rw[List.all_map,AJ];intro _ _;rfl
theorem dA{cs:List Str}(nd:cs.Nodup)(hm:c0∈cs):((cs.map λc=>V.f (decide (c=c0))).countP λz=>eqV z (.f true))=1:=by
 rw[List.countP_map];have e:((λz=>eqV z (.f true))∘λc=>V.f (decide (c=c0)))=λc:Str=>c == c0:=by
  funext c;by_cases z:c=c0
  . subst z;simp[eqV]
  . simp[eqV,z]
 rw[e];have h1:cs.count c0<=1:=List.nodup_iff_count.mp nd c0;have h2:0<cs.count c0:=List.count_pos_iff.mpr hm;show cs.count c0=1;omega
theorem bf{cs:List Str}(nd:cs.Nodup)(hi:cs[i]?=some c0):(cs.map λc=>V.f (decide (c=c0))).findIdx? (λz=>eqV z (.f true))=some i:=by
 obtain⟨h1,h2⟩:=Am.mp hi;rw[DC];refine⟨by rw[Ad];exact h1,by rw[List.getElem_map,h2];simp[eqV],λj hj=>?_⟩
 rw[List.getElem_map];have:cs[j]≠c0:=λz=>by rw[<-h2]at z;exact absurd ((List.getElem_inj nd).mp z) (by omega)
 simp[eqV,this]
theorem eM{i:Nat}(S:KS K Kc C a oe H0 σ H)(hl:3<=σ.length)(nd:(cs1++cs2++cs3++cs4).Nodup)(hz:(cs1++cs2++cs3++cs4).length<=100)(hz2:(ws1++ws2).length<=100)
 (hi:(cs1++cs2++cs3++cs4)[i]?=some c0) (hw:(ws1++ws2)[i]?=some w) (hwl:w.length<=100) (hpl:∀x,pre=some x->x.length<=100) (hk:∀c∈cs1++cs2++cs3++cs4,kitOne Kc (.ref C) (.ref (adr mg c))=some (decide (c=c0))) (hv:kitOne Kc (.ref C) (.type "ValueError")=some true)
 (q:∀H',xq H0 H'->D.b (.e (ans pre w)) H'):Z7 K mg cs1 cs2 cs3 cs4 ws1 ws2 pre odd D σ H:=by
 simp only[Av]at hz hz2;have k1:∀c∈cs1,kitOne Kc (.ref C) (.ref (adr mg c))=some (decide (c=c0)):=λc h=>hk c (by simp[h])
 have k2:∀c∈cs2,kitOne Kc (.ref C) (.ref (adr mg c))=some (decide (c=c0)):=λc h=>hk c (by simp[h])
 have k3:∀c∈cs3,kitOne Kc (.ref C) (.ref (adr mg c))=some (decide (c=c0)):=λc h=>hk c (by simp[h])
 have k4:∀c∈cs4,kitOne Kc (.ref C) (.ref (adr mg c))=some (decide (c=c0)):=λc h=>hk c (by simp[h])
 refine aI (b:=λc=>decide (c=c0)) S hl (by omega) k1 λp1 σ1 H1 S1 n1 e1 q1=>?_
 refine oC (b:=λc=>decide (c=c0)) (ds:=cs1) S1 (by omega) e1 q1 (by omega) k2 λp2 σ2 H2 S2 n2 e2 q2=>?_
 refine oC (b:=λc=>decide (c=c0)) (ds:=cs1++cs2) S2 (by omega) e2 q2 (by rw[Av];omega) k3 λp3 σ3 H3 S3 n3 e3 q3=>?_
 refine oC (b:=λc=>decide (c=c0)) (ds:=cs1++cs2++cs3) S3 (by omega) e3 q3 (by rw[Av,Av];omega) k4 λp4 σ4 H4 S4 n4 e4 q4=>?_
 have hmem:c0∈cs1++cs2++cs3++cs4:=AR hi;refine fe S4 (λu z=>z) hv ⟨true,rfl,?_⟩;refine uq ?_;refine⟨_,e4,?_,p4,_,.f true,rfl,rfl,.inl (.inl q4),rfl,kT,rfl,_,rfl,?_⟩
 . exact .inl ⟨rfl,_,.inl (.inl q4)⟩
 rw[dA nd hmem];refine uq ?_;refine qD ⟨by rw[Ad,AS];omega,λp5 hp5=>?_⟩
 have S5:KS K Kc C a oe H0 (σ4.set 2 (some (.c p5))) (upd H4 p5 (.b (ws1.map V.e))):=(S4.new hp5).put;have e5:(σ4.set 2 (some (V.c p5)))[1]?=some (some (.c p4)):=by rw[AO (by omega)];exact e4
 have q5:upd H4 p5 (.b (ws1.map V.e)) p4=some (.b ((cs1++cs2++cs3++cs4).map λc=>V.f (decide (c=c0)))):=by rw[zH (zO q4 hp5)];exact q4
 have pick:∀Q:VK,(∀H',xq H0 H'->Q (.e w) H')->jY K ws2 (σ4.set 2 (some (.c p5))) (upd H4 p5 (.b (ws1.map V.e))) Q:=λQ hQ=>by
  refine⟨_,by rw[Ar (by omega)],qD ⟨by rw[Ad,AS];omega,λp6 hp6=>⟨p5,p6,_,_,rfl,rfl,by rw[zH (zO zM hp6)];exact zM,zM,by rw[Ad,Ad,AS];omega,λp7 hp7=>?_⟩⟩⟩
  have q6:=xZ (o:=.b (ws1.map V.e++ws2.map V.e)) hp7 _ _ (xZ (o:=.b (ws2.map V.e)) hp6 _ _ q5);refine⟨_,e5,.inl ⟨rfl,_,.inl (.inl q6)⟩,p4,_,.f true,i,rfl,rfl,.inl (.inl q6),rfl,kT,bf nd hi,p7,_,i,.e w,rfl,rfl,.inl (.inl zM),?_,hQ _ ((S5.f.trans (xZ hp6)).trans (xZ hp7))⟩;obtain⟨h1,h2⟩:=Am.mp hw;rw[Av]at h1;unfold atI ixN;rw[<-C0,if_pos (by omega),Ad,Av,if_pos (by omega)]
  show (FR V.e (ws1++ws2))[(i:Int).toNat]?=_;rw[Cw,A5,hw];rfl
 cases pre with
 |none=>exact pick _ q
 |some x=>
  refine pick _ λH' sm=>⟨x,w,rfl,rfl,?_,q H' sm⟩;have:=hpl x rfl;rw[AS];omega
end
end L2
end
section
namespace L2
open PySem PySem.W PySem.Spec PySem.Calls PyProof PyProof.Rows
noncomputable def kN:List Str:=["_law_e","_law_marks","_law_words"]
def gL(sc:Scope)(cs ws:List Str)(pre:Option Str)(body:List Stmt):Prop:=
 ∃(cs1 cs2 cs3 cs4 ws1 ws2:List Str) (odd:Str) (e1 e2 e3 e4 l1 l2:List Expr) (r s:Expr) (a1 a2 a3 b1 b2 b3 b4 b5 c1 c2 c3 c4 c5 d1 d2 d3 d4 d5 f1 f2 f3 f4 f5 f6 f7 f8 f9 fa fb fc fd g1 g2 g3 ap cp r1 q1 q2 q3 q4 q5 q6 ap2 cp2 t1 t2:Pos) (k1 k2 k3 k4 k5:Nat),
  body=[.Assign [.Name "_law_marks" a1] (.List e1 a2) a3,.Assign [.Name "_law_marks" b1] (.BinOp (.Name "_law_marks" b2) .Add (.List e2 b3) b4) b5,.Assign [.Name "_law_marks" c1] (.BinOp (.Name "_law_marks" c2) .Add (.List e3 c3) c4) c5,
   .Assign [.Name "_law_marks" d1] (.BinOp (.Name "_law_marks" d2) .Add (.List e4 d3) d4) d5,
   .If (.BoolOp .Or [.UnaryOp .Not (.Call (.Name "isinstance" f1) [.Name "_law_e" f2,.Name "ValueError" f3] [] f4) f5,.Compare (.Call (.Attribute (.Name "_law_marks" f6) "count" ap) [.Constant (.bool true) k1 f7] [] cp) [.NotEq] [.Constant (.int 1) k2 f8] f9] fa) [.Return (some (.Constant (.str odd) k3 fb)) fc] [] fd,
   .Assign [.Name "_law_words" g1] (.List l1 g2) g3,.Return (some r) r1] /\
  s=.Subscript (.BinOp (.Name "_law_words" q1) .Add (.List l2 q2) q3) (.Call (.Attribute (.Name "_law_marks" q4) "index" ap2) [.Constant (.bool true) k4 q5] [] cp2) q6 /\
  (match pre with|none=>r=s|some x=>r=.BinOp (.Constant (.str x) k5 t1) .Add s t2) /\
  (vS sc cs1 e1&&vS sc cs2 e2&&vS sc cs3 e3&&vS sc cs4 e4&&tU ws1 l1&&tU ws2 l2&&(ap.endLine == cp.line)&&(ap2.endLine == cp2.line))=true/\cs=cs1++cs2++cs3++cs4/\ws=ws1++ws2
structure pP(K:Ah)(mg:Str->Option Value)(x:Str)(cs ws:List Str)(pre:Option Str):Prop where
 ex:∃(st:Stmt) (f:Addr) (fd:BH),mg x=some (.ref f)/\Fun K x x st f fd/\wC kN ["_law_e"] (zG st)/\Binds K fd ["_law_e"] []/\gL (zG st) cs ws pre (yW st) /\
  ((zG st).names.lookup ("_law_e":Str)=some .local/\(zG st).names.lookup ("_law_marks":Str)=some .local/\(zG st).names.lookup ("_law_words":Str)=some .local/\(zG st).names.lookup ("isinstance":Str)=some .globalImplicit/\(zG st).names.lookup ("ValueError":Str)=some .globalImplicit)
 b:∀c∈cs,∃D,mg c=some (.ref D)
 mi:mg "isinstance"=none
 mv:mg "ValueError"=none
 nd:cs.Nodup
 hz:cs.length<=100
 a:ws.length<=100
 hw:∀w∈ws,w.length<=100
 hp:∀x,pre=some x->x.length<=100
structure YI(Kc:Ah)(mg:Str->Option Value)(cs:List Str)(C:Addr)(c0:Str):Prop where
 F:rA Kc C
 a:∀c∈cs,kitOne Kc (.ref C) (.ref (adr mg c))=some (decide (c=c0))
 ve:kitOne Kc (.ref C) (.type "ValueError")=some true
def Named(K:Ah)(mg:Str->Option Value)(cs:List Str)(C:Addr)(c0:Str):Prop:=∃Kc,qM Kc K/\YI Kc mg cs C c0
def tKC(K:Ah)(mg:Str->Option Value)(cs ws:List Str)(pre:Option Str)(ie:Nat):TE:=λσ H Q=>∃(a:Addr) (oe:Obj) (C:Addr) (c0:Str) (i:Nat) (w:Str),σ[ie]?=some (some (.c a))/\H a=some (.d oe (.e 0))/\oe.cls=.ref C/\Named K mg cs C c0 /\
 cs[i]?=some c0/\ws[i]?=some w/\∀H',xq H H'->Q (.e (ans pre w)) H'
section
variable {X:Cx}
theorem iG(F:pP X.K X.d x cs ws pre)(hdp:X.A.depth<Ce)(hg:Gl X x)(hdb:(x == ("__debug__":Str))=false)(hN:X.N[ie]?=some e)(hv:Vis X.a.scope e)(hd1:(e == ("__debug__":Str))=false)(hd2:(e == ("__classdict__":Str))=false) :
 PE X (.Call (.Name x p) [.Name e p2] [] pos) (tKC X.K X.d cs ws pre ie):=by
 intro pins s σ H Q I ⟨a,oe,C,c0,i,w,h0,ha,hc,nm,hi,hw,q⟩;obtain⟨st,f,fd,hm,Fn,S,hb,sh,hl0,hl1,hl2,hgi,hgv⟩:=F.ex;refine By (xj I hg hm ?_ hdb);have hpa:PA X [.Name e p2] (wj (vK ie) sR):=yo (wK hN hv hd1 hd2) yl;refine Cq (h₀:=X.h) I.B.i.a Fn.b (thn (hpa pos pins s σ H (λvs H1=>vs=[V.c a]/\H1=H) I ⟨_,h0,rfl,rfl⟩) λus s1 ⟨vs,H1,I1,r,hvs,hH⟩=>⟨I1.kIn,?_⟩);subst hvs hH;obtain⟨oc,od,kV,doc,pm,an,cdv,ct,osl,rfl,lk,hcd⟩:=Fn.a;have hl:us.length=1:=by rw[<-r.length];rfl
 have hbt:=hb s1 us I1.kIn (by rw[AY];exact hl)
 rw[AY]at hbt;refine DZ (CA (nI (CX:=CX0) (E:=E0) (R:=CR CX0 X.g X.f X.w H1 s1 Q E0) (N:=kN) lk hcd S hdp I1.vX hbt rfl r λs2 I2 _=>?_) λr s' hq=>?_)
 . have I3:=I2.loud (A':=X.A.deeper (envOfC x (zG st) s1.heap.objs.size f cdv)) (D1 I1.vX.a)
   have B:KB ((xV CX0 X.f X.w X.K X.d X.h kN x (zG st) f cdv {X.A with handled:=none} X.g s1 H1 E0).loud (X.A.deeper (envOfC x (zG st) s1.heap.objs.size f cdv))).nox (zG st):=
    ⟨rfl,S.b,rfl,rfl,rfl,hl0,hl1,hl2,hgi,hgv,F.mi,F.mv⟩
   obtain⟨cs1,cs2,cs3,cs4,ws1,ws2,odd,e1,e2,e3,e4,l1,l2,rr,ss,a1,a2,a3,b1,b2,b3,b4,b5,c1,c2,c3,c4,c5,d1,d2,d3,d4,d5,f1,f2,f3,f4,f5,f6,f7,f8,f9,fa,fb,fc,fd,g1,g2,g3,ap,cp,r1,q1,q2,q3,q4,q5,q6,ap2,cp2,t1,t2,k1,k2,k3,k4,k5,hbody,hs,hr,hck,hcs,hws⟩:=sh;simp only[cf]at hck;obtain⟨⟨⟨⟨⟨⟨⟨y1,y2⟩,y3⟩,y4⟩,y5⟩,y6⟩,y7⟩,y8⟩:=hck;subst hcs hws hs;have hpe:PE ((xV CX0 X.f X.w X.K X.d X.h kN x (zG st) f cdv {X.A with handled:=none} X.g s1 H1 E0).loud (X.A.deeper (envOfC x (zG st) s1.heap.objs.size f cdv))).nox rr (kA X.K pre ws2):=by
    cases pre with
    |none=>subst hr;exact B.pick y6 y8
    |some x=>subst hr;exact ny rq tx (B.pick y6 y8)
   have t:=eL B (a1:=a1) (a2:=a2) (a3:=a3) (b1:=b1) (b2:=b2) (b3:=b3) (b4:=b4) (b5:=b5) (c1:=c1) (c2:=c2) (c3:=c3) (c4:=c4) (c5:=c5) (d1:=d1) (d2:=d2) (d3:=d3) (d4:=d4) (d5:=d5) (f1:=f1) (f2:=f2) (f3:=f3) (f4:=f4) (f5:=f5) (f6:=f6) (f7:=f7) (f8:=f8) (f9:=f9) (fa:=fa) (fb:=fb) (fc:=fc) (fd:=fd) (g1:=g1) (g2:=g2) (g3:=g3) (ap:=ap) (cp:=cp) (r1:=r1) (k1:=k1) (k2:=k2) (k3:=k3) (odd:=odd) (pre:=pre) (ws2:=ws2) y1 y2 y3 y4 F.b y5 y7 hpe;unfold gK;rw[hbody];obtain⟨Kc,sub,nm⟩:=nm;have KS0:KS X.K Kc C a oe H1 (start kN [.c a]) H1:=⟨rfl,ha,hc,nm.F,sub,xq.refl _⟩;refine AX (t [] s2 (start kN [.c a]) H1 {a:=λ_ _=>False,b:=Q} (I3.wA _) (eM KS0 (show 3<=3 from Ab _) F.nd F.hz F.a hi hw (F.hw _ (AR hw)) F.hp nm.a nm.ve λH' sm=>q H' sm)) (λfl s' hs=>?_) λ_ _ z=>Aw z;cases fl with
   |ret u=>
    obtain⟨v,σ',H',J,rv,q'⟩:=hs;exact⟨v,H',J.R,J.F,J.j,J.C,rv,q'⟩
   |next=>obtain⟨_,_,_,z⟩:=hs;exact Aw z
   |brk=>obtain⟨_,_,_,z⟩:=hs;exact Aw z
   |cont=>obtain⟨_,_,_,z⟩:=hs;exact Aw z
 . cases r with
   |error e=>exact Aw hq
   |ok fl=>
    cases fl with
    |ret u=>exact I1.after hq
    |next=>exact Aw hq
    |brk=>exact Aw hq
    |cont=>exact Aw hq
end
end L2
end
section
namespace L2
open PySem PySem.W PySem.Spec PySem.Calls PyProof PyProof.Rows
structure qY(outer:List Env)(h:Heap)(H:Hp)(lf c:Addr)(qual:Str)(body:Expr)(lsc:Scope)(cl:List (Str × Addr))(pm ctv:Value)(N:List Str)(σ:St):Prop where
 ob:h.get? lf=some (kla_obj "<lambda>" qual noArgs body lsc cl pm c ctv)
 nl:H lf=none\/H lf=some (.d (kla_obj "<lambda>" qual noArgs body lsc cl pm c ctv) (.e 0))
 fl:lf ∉ frs outer
 cd:∃(o:Obj) (vs:Array Value) (t:Tok),H c=some (.d o (.e 0))/\o.data=.fields vs/\vs[1]?=some (.str qual t)
 e:∀x y b,cl.lookup x=some b->cl.lookup y=some b->x=y
 d:∀x,lsc.names.lookup x=some .free->∃b,cl.lookup x=some b
 a:∀x b,cl.lookup x=some b->(∃v,h.IsCell b v)/\H b=none
 g:∀(i:Nat) (x:Str) (v:V),N[i]?=some x->σ[i]?=some (some v)->lsc.names.lookup x=some .free->∃u b,RelV v u/\cl.lookup x=some b/\h.IsCell b (some u)
 f:σ.length=N.length
 kd:lsc.kind=.function
 co:lsc.isCoroutine=false
 gn:lsc.isGenerator=false
 nm:∀x∈lsc.names,x.2≠.cell/\x.2≠.local
section
variable {X:Cx}{EE:Value->Hp->Prop}
theorem eR{ic:Nat}(L:qY X.k X.l.heap X.r lf c qual body lsc cl pm ctv N σ)(hxn:X.m=[])(hdp:X.A.depth<Ce)(hh:X.A.handled=none)
 (hN:X.N[ic]?=some ("_law_call":Str)) (hv:Vis X.a.scope "_law_call")
 (hbody:∀s' H',PE (rJ (CXE X.f X.w) X.f X.w X.K X.d X.h N qual lsc lf (.ref c) cl X.A X.g s' H' (λcls _ H'=>EE cls H')) body tb) :
 PE (X.wA (XC X EE)) (.Call (.Name "_law_call" p) [] [] pos) (λσ1 H1 Q=>σ1[ic]?=some (some (.c lf))/\tb σ H1 Q):=by
 intro pins s1 σ1 H1 Q I ⟨h0,hq⟩;have hpe:PE (X.wA (XC X EE)) (.Name "_law_call" p) (vK ic):=wK hN hv (by decide) (by decide)
 refine By (thn (hpe pins s1 σ1 H1 (λv H2=>v=V.c lf/\H2=H1) I ⟨_,h0,rfl,rfl⟩) λu s2 ⟨v,H2,I2,r,hv2,hH2⟩=>?_);subst hv2 hH2;cases r;have un:Un (frs X.k) [] X.r H2 X.l.heap s2.heap:=by have:=I2.j;rw[show (X.wA (XC X EE)).m=[] from hxn]at this;exact this
 have ob2:s2.heap.get? lf=some (kla_obj "<lambda>" qual noArgs body lsc cl pm c ctv):=by
  rcases L.nl with z|z
  . exact un.f _ _ L.ob z L.fl (by simp)
  . exact(I2.C lf _ (un.g lf _ _ z)).1
 have cr2:s2.heap.CodeRec (.ref c) qual:=by obtain⟨o,vs,t,q1,q2,q3⟩:=L.cd;exact⟨c,o,vs,t,rfl,(I2.C c _ (un.g c o _ q1)).1,q2,q3⟩
 have cell2:∀b v,X.l.heap.IsCell b v->X.r b=none->s2.heap.IsCell b v:=λb v ⟨o,e,d⟩ n=>by
  by_cases f:b∈frs X.k
  . obtain⟨sl,e1⟩:=un.i b o e n f (by simp)
    exact⟨_,e1,d⟩
  . exact⟨o,un.f b o e n f (by simp),d⟩
 refine callWith_of (P:=λh=>h.get? lf=some (kla_obj "<lambda>" qual noArgs body lsc cl pm c ctv)) rfl (λh e=>⟨.frame,.inl rfl,(Looks.ld (part:=none) e).andThen .now⟩) (evalArgs_nil3 ⟨ob2,?_⟩);refine DZ (CA (aG (CX:=CXE X.f X.w) (E:=λcls _ H'=>EE cls H') (R:=CR (CXE X.f X.w) X.g X.f X.w H2 s2 Q (λcls _ H'=>EE cls H')) (N:=N) (σ:=σ) hdp hh I2.vX ob2 cr2 L.kd L.co L.gn L.nm L.e L.d (λx b e=>?_) (λi x v e1 e2 e3=>?_) L.f λs3 I3=>?_) λr s' hq=>?_)
 . obtain⟨⟨v,z⟩,n⟩:=L.a x b e
   obtain⟨o,eo,_⟩:=id z;exact⟨⟨v,cell2 b v z n⟩,un.d b o eo n (by simp)⟩
 . obtain⟨u,b,q1,q2,q3⟩:=L.g i x v e1 e2 e3
   obtain⟨_,n⟩:=L.a x b q2;exact⟨u,b,q1,q2,cell2 b _ q3 n⟩
 . refine AX (hbody s2 H2 [] s3 σ H2 Q I3 hq) (λu s' ⟨v,H',J,rv,q⟩=>?_) λe s' z=>z
   exact⟨v,H',J.R,J.F,J.j,J.C,rv,q⟩
 . cases r with
   |error e=>
    obtain⟨a,cls,H',rfl,fl,hE⟩:=hq;exact⟨a,cls,σ1,H2,s2,H',rfl,I2.yt.oQ λp hp=>absurd hp (by simp),fl,hE⟩
   |ok fl=>
    cases fl with
    |ret u=>exact I2.after hq
    |next=>exact Aw hq
    |brk=>exact Aw hq
    |cont=>exact Aw hq
end
end L2
end
section
namespace L2
open PySem PySem.W PySem.Spec PySem.Calls PyProof PyProof.Rows
noncomputable def yQ(m:Bool):Str:=if m then "_law_got" else "_law_said"
noncomputable def xY(m:Bool):List Str:=if m then ["_law_call","_law_e"] else ["_law_call","_law_e","_law_word"]
def gN(m:Bool)(kx:Str)(body:List Stmt):Prop:=∃(te:Expr) (p1 p2 p3 p4 p5 p6 p7 p8 p9 pa pb q1 q2 q3 q4 q5 q6 q7 q8:Pos) (k1 k2:Nat),body=if m then
 [.Try [.Return (some (.Call (.Name "_law_call" p1) [] [] p2)) p3] [.ExceptHandler (some (.Name "HueError" p4)) (some "_law_e") [.Return (some (.Call (.Name kx p6) [.Name "_law_e" p7] [] p8)) p9] pa] [] [] pb]
 else [.Try [.Expr (.Call (.Name "_law_call" p1) [] [] p2) p3] [.ExceptHandler (some (.Name "HueError" p4)) (some "_law_e") [.Assign [.Name "_law_word" p5] (.Call (.Name kx p6) [.Name "_law_e" p7] [] p8) p9,
  .Return (some (.IfExp (.Compare (.Name "_law_word" q1) [.Eq] [.Constant (.str "great") k1 q2] q3) te (.Name "_law_word" q4) q5)) q6] pa] [] [] pb,.Return (some (.Constant (.str "told") k2 q7)) q8]
structure gM(K:Ah)(mg:Str->Option Value)(m:Bool)(kx:Str)(f:Addr):Prop where
 a:∃(st:Stmt) (fd:BH),mg (yQ m)=some (.ref f)/\Fun K (yQ m) (yQ m) st f fd/\wC (xY m) ["_law_call"] (zG st)/\Binds K fd ["_law_call"] []/\gN m kx (yW st) /\
  (zG st).names.lookup ("_law_call":Str)=some .local/\(zG st).names.lookup ("_law_e":Str)=some .local/\(m=false->(zG st).names.lookup ("_law_word":Str)=some .local)/\(zG st).names.lookup ("HueError":Str)=some .globalImplicit/\(zG st).names.lookup kx=some .globalImplicit
 kd:(kx == ("__debug__":Str))=false
section
variable {X:Cx}{D:Ends}{s:Shared}{E:Value->Shared->Prop}
theorem jw{st}(h:wpAny (model X.f X.w) X.A (exec st X.a) (SP X [] D) E s):wpAny (model X.f X.w) X.A (execs [st] X.a) (SP X [] D) E s:=by
 refine DI (thn h λf s1 q=>?_);cases f with
 |next=>exact DX q
 |brk=>exact q
 |cont=>exact q
 |ret u=>exact q
theorem jx{st st2}(h:wpAny (model X.f X.w) X.A (exec st X.a) (SP X [] {D with a:=t D}) X.j s)(h2:PS X st2 t):wpAny (model X.f X.w) X.A (execs [st,st2] X.a) (SP X [] D) X.j s:=by
 refine DI (thn h λf s1 q=>?_);cases f with
 |next=>obtain⟨σ',H',I,q⟩:=q;exact w8 h2 [] s1 σ' H' D I q
 |brk=>exact q
 |cont=>exact q
 |ret u=>exact q
end
section
variable {P:Program}{w:World}{K:Ah}{mg:Str->Option Value}{base:Heap}{A:Around}{outer:List Env}{s:Shared}{H:Hp}{Q:VK}
theorem cO{EE:Value->Hp->Prop}
 (e0:mZ P w K mg base A outer s H) (hh:A.handled=none) (hdp:A.depth+1<Ce) (S:gM K mg m kx f) (KF:pP K mg kx cs ws pre) (hu:mg "HueError"=some (.ref hue)) (L:qY outer s.heap H lf c qual body lsc cl pm ctv N σ)
 (hbody:∀env s' H',PE (rJ (CXE P w) P w K mg base N qual lsc lf (.ref c) cl (A.deeper env) (env::outer) s' H' (λcls _ H'=>EE cls H')) body tb)
 (hq:tb σ H λv H1=>Q (if m then v else .e "told") H1)
 (hE:∀cls H',EE cls H'->∃(C:Addr) (c0:Str) (i:Nat) (x:Str),cls=.ref C/\(∃Kc,qM Kc K/\exmOne Kc (.ref C) (.ref hue)=some true)/\Named K mg cs C c0/\cs[i]?=some c0/\ws[i]?=some x/\(m=false->ans pre x≠"great")/\∀H'',xq H' H''->Q (.e (ans pre x)) H'') :
 codeAny (model P w) A (.call (.ref f) ⟨[.ref lf],[]⟩) (CR CX0 outer P w H s Q E0) s:=by
 obtain⟨st,fd,hm,Fn,Sc,hb,sh,l0,l1,l2,g0,g1⟩:=S.a;obtain⟨oc,od,kV,doc,pm',an,cdv,ct,osl,rfl,lk,hcd⟩:=Fn.a;have KX:K.In s.heap:=e0.c.a.keeps λb o e=>(e0.e b o e).1;have hbt:=hb s [.ref lf] KX rfl;refine nI (CX:=CX0) (E:=E0) (R:=CR CX0 outer P w H s Q E0) (N:=xY m) (vs:=[.c lf]) lk hcd Sc (by omega) e0 hbt rfl (.cons rfl .nil) λs1 I1 _=>?_
 rw[ot hh]at I1;obtain⟨te,p1,p2,p3,p4,p5,p6,p7,p8,p9,pa,pb,q1,q2,q3,q4,q5,q6,q7,q8,k1,k2,hbd⟩:=sh;have hLam:qY (xV CX0 P w K mg base (xY m) (yQ m) (zG st) f cdv A outer s H E0).k (xV CX0 P w K mg base (xY m) (yQ m) (zG st) f cdv A outer s H E0).l.heap (xV CX0 P w K mg base (xY m) (yQ m) (zG st) f cdv A outer s H E0).r lf c qual body lsc cl pm ctv N σ:=L;have hA:(xV CX0 P w K mg base (xY m) (yQ m) (zG st) f cdv A outer s H E0).A.depth=A.depth+1:=rfl;have hlam:∀{p pos:Pos},PE ((xV CX0 P w K mg base (xY m) (yQ m) (zG st) f cdv A outer s H E0).wA (XC (xV CX0 P w K mg base (xY m) (yQ m) (zG st) f cdv A outer s H E0) EE)) (.Call (.Name "_law_call" p) [] [] pos) (λσ1 H1 Q=>σ1[0]?=some (some (.c lf))/\tb σ H1 Q):=λ{p pos}=>
  eR hLam rfl (by rw[hA];exact hdp) hh (by cases m<;>rfl) (.inl l0) λs' H'=>hbody _ s' H'
 have n1:(xY m)[1]?=some ("_law_e":Str):=by cases m<;>rfl
 have fin:∀(fl:Flow) (s':Shared),SP (xV CX0 P w K mg base (xY m) (yQ m) (zG st) f cdv A outer s H E0) [] {a:=λ_ _=>False,b:=Q} fl s'->CR CX0 outer P w H s Q E0 (.ok (.ret (match fl with|.ret v=>v|_=>.none))) s':=λfl s' hs=>by
  cases fl with
  |ret u=>
   obtain⟨v,σ',H',J,rv,q'⟩:=hs;exact⟨v,H',J.R,J.F,J.j,J.C,rv,q'⟩
  |next=>obtain⟨_,_,_,z⟩:=hs;exact Aw z
  |brk=>obtain⟨_,_,_,z⟩:=hs;exact Aw z
  |cont=>obtain⟨_,_,_,z⟩:=hs;exact Aw z
 have kc:∀(a:Addr) {p p2 pos:Pos},PE ((xV CX0 P w K mg base (xY m) (yQ m) (zG st) f cdv A outer s H E0).loud ((xV CX0 P w K mg base (xY m) (yQ m) (zG st) f cdv A outer s H E0).A.mark (some (.ref a)))).nox (.Call (.Name kx p) [.Name "_law_e" p2] [] pos) (tKC K mg cs ws pre 1):=λa {p p2 pos}=>
  iG KF (by show A.depth+1<_;exact hdp) g1 S.kd n1 (.inl l1) (by decide) (by decide)
 unfold gK;rw[hbd];cases m with
 |true=>
  rw[if_pos rfl];refine AX (jw (X:=xV CX0 P w K mg base (xY true) (yQ true) (zG st) f cdv A outer s H E0) (D:={a:=λ_ _=>False,b:=Q}) (cg (EE:=EE) (ts:=hV (tKC K mg cs ws pre 1)) (ie:=1) I1 rfl rfl Sc.b l1 n1 rfl rfl g0 (by decide) hu (w8 (wL hlam)) ⟨rfl,hq⟩ (λcls H' hc=>?_) λa=>w8 (wL (kc a)))) fin λe s' z=>z
  obtain⟨C,c0,i,x,rfl,hx,nm,hi,hw,_,qq⟩:=hE cls H' hc;refine⟨hx,λa oe σ2 hn hcl hl=>⟨a,oe,C,c0,i,x,?_,zM,hcl,nm,hi,hw,λH'' sm=>qq H'' ((xZ hn).trans sm)⟩⟩;rw[Ar (by rw[hl];exact(by decide:1<2))]
 |false=>
  rw[if_neg Ae];have n2:(xY false)[2]?=some ("_law_word":Str):=rfl;refine AX (jx (X:=xV CX0 P w K mg base (xY false) (yQ false) (zG st) f cdv A outer s H E0) (D:={a:=λ_ _=>False,b:=Q}) (t:=hV (tC (.e "told"))) (cg (EE:=EE) (ts:=mQ (v9 (tKC K mg cs ws pre 1) (xG 2)) (hV (tIf (jZ (tOp rEq (vK 2) (tC (.e "great")))) (λ_ _ _=>False) (vK 2)))) (ie:=1) I1 rfl rfl Sc.b l1 n1 rfl rfl g0 (by decide) hu (w8 (sj hlam)) ⟨rfl,hq⟩ (λcls H' hc=>?_) λa=>?_) (wL tx)) fin λe s' z=>z
  . obtain⟨C,c0,i,x,rfl,hx,nm,hi,hw,ng,qq⟩:=hE cls H' hc
    refine⟨hx,λa oe σ2 hn hcl hl=>⟨a,oe,C,c0,i,x,?_,zM,hcl,nm,hi,hw,λH'' sm=>?_⟩⟩
    . rw[Ar (by rw[hl];exact(by decide:1<3))]
    . have e2:((σ2.set 1 (some (V.c a))).set 2 (some (V.e (ans pre x))))[2]?=some (some (.e (ans pre x))):=by rw[Ar (by rw[AL,hl];exact(by decide:2<3))]
      refine⟨_,e2,rfl,_,rfl,?_⟩;have hne:¬(V.e (ans pre x)=V.e "great"):=λz=>ng rfl (V.e.inj z);rw[decide_eq_false hne];exact uq ⟨_,e2,qq H'' ((xZ hn).trans sm)⟩
  . have vw:Vis (zG st) "_law_word":=.inl (l2 rfl)
    have pw:∀{X':Cx} {p:Pos},X'.N=xY false->X'.a.scope=zG st->PE X' (.Name "_law_word" p) (vK 2):=λ{X' p} h1 h2=>wK (by rw[h1];exact n2) (by rw[h2];exact vw) (by decide) (by decide)
    exact zx (wM Sc.b n2 (.inl (l2 rfl)) (kc a) (hf:=.inr (l2 rfl))) (w8 (wL (dg (sq Zs (pw rfl rfl) tx (rm _ (by decide) (by decide))) (λ_ _ _ _ _ _ z=>Aw z) (pw rfl rfl))))
end
end L2
end
section
namespace M
open PySem
inductive Val where
 |g|e (b:Bool)|c (i:Int)|m (x:Str)
 |f (vs:List Val)|h (vs:List Val)|p
 |o (ns:List Int)|r (ns:List Int)
 |j (i:Nat)|u (x:Str)|t (n:String)|q (i:Nat)
 /-- the k-th lambda of a list of lambdas,at the address a -/
 |s (a k:Nat)
 deriving Inhabited
inductive Cel where
 |c (vs:List Val)
 |e (kvs:List (Str × Val))
 |f (kvs:List (List Int × Val))
 /-- the table of the codes that lie within the def x -/
 |d (x:Str)
 deriving Inhabited
abbrev Sto:=List Cel
abbrev Env:=List (Option Val)
inductive Out(α:Type) where
 |e (a:α) (s:Sto)
 |g (c:Str) (args:List Val) (s:Sto)
 |d
noncomputable def Out.bind{α β:Type}(o:Out α)(f:α->Sto->Out β):Out β:=
 match o with
 |.e a s=>f a s
 |.g c as s=>.g c as s
 |.d=>.d
@[simp] theorem zL a s(f:α->Sto->Out β):(Out.e a s).bind f=f a s:=rfl
@[simp] theorem rD(f:α->Sto->Out β):(Out.d:Out α).bind f=.d:=rfl
@[simp] theorem gZ c as s(f:α->Sto->Out β):(Out.g c as s:Out α).bind f=.g c as s:=rfl
mutual
noncomputable def Val.isD:Val->Bool
 |.g|.e _|.c _=>true
 |.m x=>PyData.strOk x
 |.f vs=>nM vs
 |.h vs=>nM vs
 |.p|.o _|.r _|.j _|.u _|.t _|.q _|.s _ _=>false
noncomputable def nM:List Val->Bool
 |[]=>true
 |v::vs=>v.isD&&nM vs
end
mutual
noncomputable def Val.isR:Val->Bool
 |.g|.e _|.c _|.m _|.p=>true
 |.f vs=>vI vs
 |.h vs=>vI vs
 |.o _|.r _|.j _|.u _|.t _|.q _|.s _ _=>false
noncomputable def vI:List Val->Bool
 |[]=>true
 |v::vs=>v.isR&&vI vs
end
mutual
noncomputable def Val.d:Val->PyData
 |.g=>.none
 |.e b=>.bool b
 |.c i=>.int i
 |.m x=>.str x
 |.f vs=>.tuple (ds vs)
 |.h vs=>.list (ds vs)
 |.p=>.dict []
 |.o _|.r _|.j _|.u _|.t _|.q _|.s _ _=>.none
noncomputable def ds:List Val->List PyData
 |[]=>[]
 |v::vs=>v.d::ds vs
end
mutual
noncomputable def Val.noRef:Val->Bool
 |.j _|.q _=>false
 |.f vs=>zq vs
 |.h vs=>zq vs
 |.g|.e _|.c _|.m _|.p|.o _|.r _|.u _|.t _|.s _ _=>true
noncomputable def zq:List Val->Bool
 |[]=>true
 |v::vs=>v.noRef&&zq vs
end
def Cel.noRef:Cel->Bool
 |.c vs=>zq vs
 |.e kvs=>zq (kvs.map (·.2))
 |.f kvs=>zq (kvs.map (·.2))
 |.d _=>true
mutual
noncomputable def Val.beq:Val->Val->Bool
 |.g,.g=>true
 |.e a,.e b=>a == b
 |.c a,.c b=>a == b
 |.m a,.m b=>a == b
 |.f a,.f b=>tS a b
 |.h a,.h b=>tS a b
 |.p,.p=>true
 |.o a,.o b=>a == b
 |.r a,.r b=>a == b
 |.j a,.j b=>a == b
 |.u a,.u b=>a == b
 |.t a,.t b=>a == b
 |.q a,.q b=>a == b
 |.s a k,.s b l=>a == b&&k == l
 |_,_=>false
noncomputable def tS:List Val->List Val->Bool
 |[],[]=>true
 |a::as,b::bs=>a.beq b&&tS as bs
 |_,_=>false
end
def Cel.beq:Cel->Cel->Bool
 |.c a,.c b=>tS a b
 |.e a,.e b=>decide (a.map (·.1)=b.map (·.1))&&tS (a.map (·.2)) (b.map (·.2))
 |.f a,.f b=>decide (a.map (·.1)=b.map (·.1))&&tS (a.map (·.2)) (b.map (·.2))
 |.d a,.d b=>decide (a=b)
 |_,_=>false
def xw:Sto->Sto->Bool
 |[],_=>true
 |o::r,o'::r'=>(o'.noRef||o'.beq o)&&xw r r'
 |_::_,[]=>false
mutual
noncomputable def wD(n0:Nat)(s:Sto):Nat->Val->Option Val
 |_,.q i=>if i<n0 then some (.q i) else dS
 |_,.j i=>if i<n0 then some (.j i) else match s[i]? with
  |some (.c vs)=>if zq vs then some (.h vs) else dS
  |_=>dS
 |k+1,.f vs=>(uj n0 s k vs).map .f
 |_,v=>if v.noRef then some v else dS
noncomputable def uj(n0:Nat)(s:Sto):Nat->List Val->Option (List Val)
 |_,[]=>some []
 |0,_::_=>dS
 |k+1,v::vs=>match (if v.noRef then some v else wD n0 s k v),uj n0 s k vs with
  |some v',some vs'=>some (v'::vs')
  |_,_=>dS
end
def freeze(n0:Nat)(s:Sto)(v:Val):Option Val:=if v.noRef then some v else wD n0 s 20 v
inductive Bop|a|c|b|e|d|f|h|i|g
 deriving DecidableEq
inductive Cop|a|b|i|g|h|j|m|e|l|f|k|c|d
 deriving DecidableEq
inductive Bf|h|r|s|e|k|g|a|i|l|q|o|j|b|p|c|n|d|m
 deriving DecidableEq
inductive Mf|c|a|b|f|d|e
 deriving DecidableEq
inductive Tgt
 |a (i:Nat)
 |b (is:List Nat)
mutual
inductive Ex
 |g (v:Val)|e (i:Nat)|F (x:Str)|J (x:Str) (n:String)
 |j (m:Bool) (op:Bop) (a b:Ex)|D (a:Ex)|E (a:Ex)
 |r (op:Cop) (a b:Ex)|s (op op':Cop) (a b c:Ex)
 |u (a:Ex) (es:Exs)|H (a:Ex) (es:Exs)|G (c:Cn) (a b:Ex)
 |y (es:Exs)|w (m:Bool) (es:Exs)|A
 |h (f:Str) (ver:Nat) (es:Exs)|l (f:Bf) (m:Bool) (es:Exs)|C (a d:Ex)
 |K (f:Mf) (m:Bool) (o:Ex) (es:Exs)
 |z (a b:Ex)|L (m:Bool) (a:Ex) (lo hi st:OEx)
 |q (m:Bool) (N:List Str) (fr:List (Option Nat)) (elt:Ex) (t:Tgt) (it:Itb) (ifs:Cns)
 |p (m:Bool) (N:List Str) (fr:List (Option Nat)) (elt:Ex) (t:Tgt) (it:Itb) (ifs:Cns) (t2:Tgt) (it2:Itb) (ifs2:Cns)
 |k (m:Bool) (a b c:Ex)
 |B (t:Bool)|I (a b:Ex)
inductive Exs
 |c|a (e:Ex) (es:Exs)
inductive OEx
 |b|a (e:Ex)
inductive Cn
 |a (e:Ex)|b (c:Cn)|d (c:Cn) (cs:Cns)|f (c:Cn) (cs:Cns)
inductive Cns
 |a|b (c:Cn) (cs:Cns)
inductive Itb
 |h (e:Ex)|d (a:Ex)|f (a b:Ex)|i (e:Ex)|j (a b:Ex)|g (a b c:Ex)
end
mutual
inductive Sm
 |d (e:Ex)|f (e:Ex)|s|k (i:Nat) (e:Ex)|m (is:List Nat) (e:Ex)|p (is:List Nat) (es:Exs)
 |w (i:Nat) (op:Bop) (e:Ex)|h (o i e:Ex)
 |g (c:Cn) (a b:Sms)|l (t:Tgt) (it:Itb) (b:Sms)|n (c:Cn) (b:Sms)
 |r|v|q|j (e:Ex)|u (o i e:Ex)
inductive Sms
 |f|e (s:Sm) (ss:Sms)
 /-- x=[lambda: ..];x.append(lambda: ..) ..;mid;then a row with [_law_said(c) for c in x];k: 0 it is returned,1 it is returned whether it is d,2 if it is not d (or o): b -/
 |g (i:Nat) (L:Exs) (mid:Sms) (k:Nat) (d:Ex) (o:Cns) (b cs:Sms)
end
structure Fn where
 N:List Str
 b:List Str
 c:Bool
 a:Sms
abbrev Calls:=Str->Nat->List Val->Sto->Out Val
noncomputable def zS:Nat:=16777216
noncomputable def newList(m:Bool)(vs:List Val)(s:Sto):Out Val:=if m then .e (.j s.length) (s++[.c vs]) else .e (.h vs) s
noncomputable def xa(s:Sto):Val->Option (List Val)
 |.f vs=>some vs
 |.h vs=>some vs
 |.o ns=>some (ns.map .c)
 |.r ns=>some (ns.map .c)
 |.j i=>match s[i]? with
  |some (.c vs)=>some vs
  |_=>dS
 |_=>dS
noncomputable def ye(s:Sto):Val->Option (List Val)
 |.h vs=>some vs
 |.j i=>match s[i]? with
  |some (.c vs)=>some vs
  |_=>dS
 |_=>dS
def truth(s:Sto):Val->Option Bool
 |.g=>some false
 |.e b=>some b
 |.c i=>some (i != 0)
 |.m x=>if x.length<=zS then some ((x.length:Int) != 0) else dS
 |.f vs=>some !vs.isEmpty
 |.h vs=>some !vs.isEmpty
 |.p=>some false
 |.j i=>match s[i]? with
  |some (.c vs)=>some !vs.isEmpty
  |_=>dS
 |_=>dS
def Out.truth(o:Out Val):Out Bool:=o.bind λv s=>match M.truth s v with
 |some b=>.e b s
 |dS=>.d
noncomputable def yk(s:Sto):Val->Val
 |.j i=>match s[i]? with
  |some (.c vs)=>.h vs
  |_=>.j i
 |v=>v
def zt(s:Sto):Val->Val
 |.f vs=>.f (vs.map (yk s))
 |v=>yk s v
def vh(d:PyData):Bool:=d.showable&&d.leavesShort 40&&decide (d.depth<=50)&&decide (d.weight<=300000)&&(!d.hasDict||!L2.xA d)
noncomputable def flat:Val->Bool
 |.g|.e _|.c _|.m _=>true
 |_=>false
noncomputable def eqF:Val->Val->Bool
 |.g,.g=>true
 |.e a,.e b=>a == b
 |.e a,.c b=>(if a then 1 else 0) == b
 |.c a,.e b=>a == (if b then 1 else 0)
 |.c a,.c b=>a == b
 |.m a,.m b=>a == b
 |_,_=>false
def nF(a b:Val):Option Bool:=if a.isD&&b.isD&&decide (b.d.depth<=60) then some (FT a.d b.d) else dS
noncomputable def intsOf:List Val->Option (List Int)
 |[]=>some []
 |.c i::vs=>(intsOf vs).map (i::·)
 |_=>dS
noncomputable def Val.isN:Val->Bool
 |.g=>true
 |_=>false
def inD(x:Val)(vs:List Val):Bool:=x.isD&&nM vs&&decide (x.d.depth<=60)
noncomputable def bO{κ:Type} [DecidableEq κ]:List (κ × Val)->κ->Option Val
 |[],_=>dS
 |p::r,k=>if p.1=k then some p.2 else bO r k
def VF{κ:Type} [DecidableEq κ] (kvs:List (κ × Val))(k:κ)(v:Val):List (κ × Val):=
 if (bO kvs k).isSome then kvs.map (λp=>if p.1=k then (p.1,v) else p) else kvs++[(k,v)]
noncomputable def Zd(s:Sto):Val->Option (Nat × Cel)
 |.q i=>(s[i]?).map λc=>(i,c)
 |_=>dS
def YT:Cel->Val->Option (Option Val)
 |.e kvs,.m k=>some (bO kvs k)
 |.f kvs,.f vs=>(intsOf vs).map λk=>bO kvs k
 |_,_=>dS
def YU:Cel->Val->Val->Option Cel
 |.e kvs,.m k,v=>if kvs.length<zS then some (.e (VF kvs k v)) else dS
 |.f kvs,.f vs,v=>(intsOf vs).bind λk=>if kvs.length<zS then some (.f (VF kvs k v)) else dS
 |_,_,_=>dS
def getD(d y:Val)(s:Sto):Option (Option Val):=(Zd s d).bind λc=>YT c.2 y
def ixD(d y:Val)(s:Sto):Out Val:=match getD d y s with
 |some (some v)=>.e v s
 |_=>.d
def putD(d y v:Val)(s:Sto):Option Sto:=(Zd s d).bind λc=>(YU c.2 y v).map λc'=>s.set c.1 c'
noncomputable def strsOf:List Val->Option (List Str)
 |[]=>some []
 |.m x::vs=>(strsOf vs).map (x::·)
 |_=>dS
def zU(op:Cop)(x y:Val)(s:Sto):Out Val:=
 match op with
 |.a=>match x,y with
  |.m a,.m b=>.e (.e (decide (a=b))) s
  |.f a,.o ns=>match nF (zt s (.f a)) (.f (ns.map .c)) with|some b=>.e (.e b) s|dS=>.d
  |_,_=>match nF (zt s x) (zt s y) with|some b=>.e (.e b) s|dS=>.d
 |.b=>match x,y with
  |.m a,.m b=>.e (.e !(decide (a=b))) s
  |_,_=>match nF (zt s x) (zt s y) with|some b=>.e (.e !b) s|dS=>.d
 |.m=>match y with|.g=>.e (.e x.isN) s|.e b=>(match x with|.e a=>.e (.e (decide (a=b))) s|_=>.d)|_=>.d
 |.e=>match y with|.g=>.e (.e !x.isN) s|.e b=>(match x with|.e a=>.e (.e !(decide (a=b))) s|_=>.d)|_=>.d
 |.l=>match xa s y with
  |some vs=>if flat x&&vs.all flat then .e (.e (vs.any λz=>eqF z x)) s else if inD x vs then .e (.e (vs.any λz=>FT z.d x.d)) s else .d
  |dS=>.d
 |.f=>match xa s y with
  |some vs=>if flat x&&vs.all flat then .e (.e !(vs.any λz=>eqF z x)) s else if inD x vs then .e (.e !(vs.any λz=>FT z.d x.d)) s else .d
  |dS=>.d
 |.k=>match getD y x s with|some o=>.e (.e o.isSome) s|dS=>.d
 |.c=>match getD y x s with|some o=>.e (.e !o.isSome) s|dS=>.d
 |.d=>match x with
  |.p=>(match xa s y with
   |some vs=>(match M.intsOf vs with|some _=>.e (.e true) s|dS=>.d)
   |dS=>.d)
  |_=>(match xa s y with
   |some vs=>if flat x&&vs.all flat then .e (.e !(vs.any λz=>eqF z x)) s else if inD x vs then .e (.e !(vs.any λz=>FT z.d x.d)) s else .d
   |dS=>.d)
 |.i=>match x,y with|.c i,.c j=>.e (.e (decide (i<j))) s|_,_=>.d
 |.g=>match x,y with|.c i,.c j=>.e (.e (decide (i<=j))) s|_,_=>.d
 |.h=>match x,y with|.c i,.c j=>.e (.e (decide (j<i))) s|_,_=>.d
 |.j=>match x,y with|.c i,.c j=>.e (.e (decide (j<=i))) s|_,_=>.d
def binOp(m:Bool)(op:Bop)(x y:Val)(s:Sto):Out Val:=
 match op with
 |.a=>match x,y with
  |.c i,.c j=>.e (.c (i+j)) s
  |.m a,.m b=>if a.length+b.length<=zS then .e (.m (a++b)) s else .d
  |.f a,.f b=>if a.length+b.length<=zS then .e (.f (a++b)) s else .d
  |_,_=>match ye s x,ye s y with
   |some a,some b=>if a.length+b.length<=zS then newList m (a++b) s else .d
   |_,_=>.d
 |.c=>match x,y with|.c i,.c j=>.e (.c (i-j)) s|_,_=>.d
 |.b=>match x,y with
  |.c i,.c j=>if (-(2 ^ 64)<i/\i<2 ^ 64)\/(-(2 ^ 64)<j/\j<2 ^ 64) then .e (.c (i*j)) s else .d
  |.f a,.c k=>if -1000<=k/\k<=1000/\a≠[]/\a.length<=1000 then .e (.f (AA k.toNat a).flatten) s else .d
  |_,.c k=>match ye s x with
   |some a=>if -1000<=k/\k<=1000/\a.length*k.toNat<=zS then newList m (AA k.toNat a).flatten s else .d
   |dS=>.d
  |_,_=>.d
 |.e=>match x,y with|.c i,.c j=>if 0<j/\j<1073741824 then .e (.c (i/j)) s else .d|_,_=>.d
 |.d=>match x,y with|.c i,.c j=>if 0<j then .e (.c (i%j)) s else .d|_,_=>.d
 |.f=>match x,y with|.c i,.c j=>if 0<=j/\j<=1000000/\i.natAbs<2 ^ 64 then .e (.c (i ^ j.toNat)) s else .d|_,_=>.d
 |.h=>match x,y with|.c i,.c j=>if 0<=j/\j<=1000000/\i.natAbs<2 ^ 64 then .e (.c (i*2 ^ j.toNat)) s else .d|_,_=>.d
 |.i=>match x,y with|.c i,.c j=>if 0<=j then .e (.c (i/2 ^ j.toNat)) s else .d|_,_=>.d
 |.g=>match x,y with|.c i,.c j=>.e (.c (Builtin.bitAnd i j)) s|_,_=>.d
noncomputable def kindOf:Val->Option L2.Kd
 |.g=>some .e
 |.e _=>some .i
 |.c _=>some .b
 |.m _=>some .g
 |.f _=>some .h
 |.h _=>some .d
 |.p=>some .f
 |.j _=>some .d
 |_=>dS
noncomputable def td:String->Option L2.Kd
 |"bool"=>some .i
 |"int"=>some .b
 |"str"=>some .g
 |"list"=>some .d
 |"tuple"=>some .h
 |"dict"=>some .f
 |_=>dS
noncomputable def boolsOf:List Val->Option (List Bool)
 |[]=>some []
 |.e b::vs=>(boolsOf vs).map (b::·)
 |_=>dS
noncomputable def pairsOf:List Val->Option (List (Int × Int))
 |[]=>some []
 |.f [.c a,.c b]::vs=>(pairsOf vs).map ((a,b)::·)
 |_=>dS
noncomputable def prV(z:Int × Int):Val:=.f [.c z.1,.c z.2]
def VV(z:Int × Int):List (Int × Int)->List (Int × Int)
 |[]=>[z]
 |y::ys=>if L2.Zc z<=L2.Zc y then z::y::ys else y::VV z ys
def Z4:List (Int × Int)->List (Int × Int)
 |[]=>[]
 |z::zs=>VV z (Z4 zs)
def oa:List Val->Option (List (List Int))
 |[]=>some []
 |.f a::vs=>match intsOf a,oa vs with
  |some z,some zs=>some (z::zs)
  |_,_=>dS
 |_=>dS
noncomputable def tpV(z:List Int):Val:=.f (z.map .c)
noncomputable def tpS(x:Str)(z:List Int):Val:=.f (.m x::z.map .c)
def YC(x:Str):List Val->Option (List (List Int))
 |[]=>some []
 |.f (.m y::a)::vs=>if y=x then (match intsOf a,YC x vs with
  |some z,some zs=>some (z::zs)
  |_,_=>dS) else dS
 |_=>dS
noncomputable def Zk:List Val->Str
 |.f (.m x::_)::_=>x
 |_=>""
def cV(m:Bool)(vs:List Val)(s:Sto):Out Val:=match oa vs with
 |some zs=>if zs.Nodup/\(zs.length<2\/∀z∈zs,z≠[]) then newList m ((L2.Z5 zs).map tpV) s else .d
 |dS=>.d
def Ue(zs:List (List Int)):Bool:=decide (zs.length<2)||match zs with
 |[]=>true
 |z::_=>decide (0<z.length)&&zs.all (λy=>decide (y.length=z.length))&&(Ax (zs.length-1)).all λi=>!L2.Vm (zs.getD (i+1) []) (zs.getD i [])
def WU(m:Bool)(vs:List Val)(s:Sto):Out Val:=match oa vs with
 |some zs=>if Ue zs then newList m vs s else .d
 |dS=>.d
noncomputable def insI(z:Int):List Int->List Int
 |[]=>[z]
 |y::ys=>if z<=y then z::y::ys else y::insI z ys
def sortI:List Int->List Int
 |[]=>[]
 |z::zs=>insI z (sortI zs)
def blt(f:Bf)(m:Bool)(xs:List Val)(s:Sto):Out Val:=
 match f with
 |.h=>match xs with
  |[.m x]=>if x.length<=zS then .e (.c x.length) s else .d
  |[x]=>match xa s x with|some vs=>.e (.c vs.length) s|dS=>.d
  |_=>.d
 |.r=>match xs with
  |[x]=>match ye s x with|some vs=>(match boolsOf vs with|some bs=>.e (.e (bs.all id)) s|dS=>.d)|dS=>.d
  |_=>.d
 |.s=>match xs with
  |[x]=>match ye s x with|some vs=>(match boolsOf vs with|some bs=>.e (.e (bs.any id)) s|dS=>.d)|dS=>.d
  |_=>.d
 |.e=>match xs with
  |[.f vs]=>.e (.f vs) s
  |[x]=>match ye s x with|some vs=>.e (.f vs) s|dS=>.d
  |_=>.d
 |.k=>match xs with
  |[x]=>match xa s x with|some vs=>newList m vs s|dS=>.d
  |_=>.d
 |.a=>match xs with
  |[x]=>if (zt s x).isR&&vh (zt s x).d then .e (.m (zt s x).d.shown) s else .d
  |_=>.d
 |.i=>match xs with
  |[.c i,.c j]=>.e (.c (if j > i then j else i)) s
  |[.f vs]=>(match M.intsOf vs with|some ns=>if ns≠[] then .e (.c (L2.vF 0 ns)) s else .d|dS=>.d)
  |[x]=>match ye s x with|some vs=>(match M.intsOf vs with|some ns=>if ns≠[] then .e (.c (L2.vF 0 ns)) s else .d|dS=>.d)|dS=>.d
  |_=>.d
 |.l=>match xs with
  |[.c i,.c j]=>.e (.c (if j<i then j else i)) s
  |[.f vs]=>(match M.intsOf vs with|some ns=>if ns≠[] then .e (.c (L2.vd 0 ns)) s else .d|dS=>.d)
  |[x]=>match ye s x with|some vs=>(match M.intsOf vs with|some ns=>if ns≠[] then .e (.c (L2.vd 0 ns)) s else .d|dS=>.d)|dS=>.d
  |_=>.d
 |.o=>match xs with
  |[.c i]=>.e (.c i) s
  |[.e b]=>.e (.c (if b then 1 else 0)) s
  |_=>.d
 |.j=>match xs with
  |[x,.t n]=>match kindOf x,td n with|some a,some c=>.e (.e (a.sub c)) s|_,_=>.d
  |_=>.d
 |.b=>match xs with
  |[.c i,.c j]=>if 0<j/\j<1073741824 then .e (.f [.c (i/j),.c (i%j)]) s else .d
  |_=>.d
 |.p=>match xs with
  |[.c i]=>if i.natAbs.log2<1920 then .e (.m (E3 i)) s else .d
  |_=>.d
 |.q=>match xs with
  |[x]=>match ye s x with|some vs=>(match M.intsOf vs with|some ns=>if L2.qE ns then .e (.c ns.sum) s else .d|dS=>.d)|dS=>.d
  |_=>.d
 |.g=>match xs with
  |[x]=>match ye s x with
   |some vs=>(match pairsOf vs with
    |some zs=>if zs.Nodup/\∀z∈zs,0<=z.2/\z.2<1000 then newList m ((Z4 zs).map prV) s else cV m vs s
    |dS=>cV m vs s)
   |dS=>.d
  |_=>.d
 |.n=>match xs with
  |[x]=>match ye s x with|some vs=>(match oa vs with|some zs=>if zs≠[] then .e (tpV (L2.Vs zs)) s else .d|dS=>.d)|dS=>.d
  |_=>.d
 |.m=>match xs with
  |[x]=>match ye s x with|some vs=>(match YC (Zk vs) vs with|some zs=>if zs≠[] then .e (tpS (Zk vs) (L2.Vs zs)) s else .d|dS=>.d)|dS=>.d
  |_=>.d
 |.d=>match xs with
  |[x]=>match ye s x with|some vs=>WU m vs s|dS=>.d
  |_=>.d
 |.c=>match xs with
  |[x]=>match xa s x with|some vs=>(match M.intsOf vs with|some ns=>if ns.length<64 then newList m ((sortI ns).map .c) s else .d|dS=>.d)|dS=>.d
  |_=>.d
def mxD(x y:Val)(s:Sto):Out Val:=match y with
 |.c k=>(match ye s x with|some vs=>(match M.intsOf vs with|some ns=>.e (.c (L2.vF k ns)) s|dS=>.d)|dS=>.d)
 |_=>.d
noncomputable def upd(s:Sto)(i:Nat)(vs:List Val):Sto:=s.set i (.c vs)
def xk(f:Mf)(o:Val)(xs:List Val)(s:Sto):Out Val:=
 match f with
 |.c=>match o,xs with
  |.f vs,[y]=>if flat y&&vs.all flat then .e (.c (vs.countP λz=>eqF z y:Nat)) s else .d
  |_,[y]=>match ye s o with|some vs=>if flat y&&vs.all flat then .e (.c (vs.countP λz=>eqF z y:Nat)) s else .d|dS=>.d
  |_,_=>.d
 |.a=>match o,xs with
  |.j i,[y]=>match s[i]? with|some (.c vs)=>if vs.length<zS then .e .g (upd s i (vs++[y])) else .d|_=>.d
  |_,_=>.d
 |.b=>match o,xs with
  |.j i,[y]=>match s[i]?,ye s y with|some (.c vs),some ws=>if vs.length+ws.length<=zS then .e .g (upd s i (vs++ws)) else .d|_,_=>.d
  |_,_=>.d
 |.f=>match o,xs with
  |.j i,[.c k]=>(match s[i]? with
   |some (.c vs)=>if -(2 ^ 63)<=k/\k<2 ^ 63 then (match seqIndex? k vs.length with
    |some j=>(match vs[j]? with|some y=>.e y (upd s i (vs.eraseIdx j))|dS=>.d)
    |dS=>.d) else .d
   |_=>.d)
  |_,_=>.d
 |.d=>match o,xs with
  |.f vs,[y]=>if flat y&&vs.all flat then (match vs.findIdx? λz=>eqF z y with|some j=>.e (.c (j:Nat)) s|dS=>.d) else .d
  |_,_=>.d
 |.e=>match o,xs with
  |.m z,[y]=>(match ye s y with
   |some vs=>(match strsOf vs with|some ys=>if (ys.map (·.length)).sum+ys.length*z.length<=16777216 then .e (.m (L2.Vi z ys)) s else .d|dS=>.d)
   |dS=>.d)
  |_,_=>.d
def wI(a b:Val)(s:Sto):Out Val:=
 match b with
 |.c i=>match xa s a with|some vs=>(match L2.atI vs i with|some v=>.e v s|dS=>.d)|dS=>.d
 |_=>.d
def bN{α:Type}(xs:List α)(lo hi:Option Int):List α:=(xs.drop (HT.sIx xs.length 0 lo)).take (HT.sIx xs.length xs.length hi-HT.sIx xs.length 0 lo)
def mL(m:Bool)(a:Val)(lo hi st:Option Int)(s:Sto):Out Val:=
 match a,st with
 |.f vs,dS=>.e (.f (bN vs lo hi)) s
 |.f vs,some c=>if c≠0/\(L2.ym vs.length lo hi c).2<=zS then .e (.f (L2.yG vs (L2.ym vs.length lo hi c).1 c (L2.ym vs.length lo hi c).2)) s else .d
 |_,dS=>match ye s a with|some vs=>newList m (bN vs lo hi) s|dS=>.d
 |_,some c=>match ye s a with|some vs=>if c≠0 then newList m (L2.yG vs (L2.vU vs.length lo hi c).1 c (L2.vU vs.length lo hi c).2) s else .d|dS=>.d
def Vp(m:Bool)(x y z:Val)(s:Sto):Out Val:=match x,y,z with
 |.c i,.c j,.c k=>if -(2 ^ 30)<=i/\i<=2 ^ 30∧-(2 ^ 30)<=j/\j<=2 ^ 30/\0<k/\k<=2 ^ 29/\AH i j k<=1000 then newList m ((L2.lq i j k).map .c) s else .d
 |.g,y,.m _=>(match xa s y with|some vs=>(match M.intsOf vs with|some ns=>if ns.length<=1000 then .e (.c (L2.dN ns:Nat)) s else .d|dS=>.d)|dS=>.d)
 |.c i,.c j,.e _=>if -(2 ^ 30)<=i/\i<=2 ^ 30∧-(2 ^ 30)<=j/\j<=2 ^ 30/\AH i j 1<=1000 then newList m ((L2.lq i j 1).map .c) s else .d
 |.c i,.c j,.g=>if -(2 ^ 30)<=i/\i<=2 ^ 30∧-(2 ^ 30)<=j/\j<=2 ^ 30/\AH i j 1<=1000 then .e (.f ((L2.lq i j 1).map .c)) s else .d
 |_,_,_=>.d
noncomputable def yc(t:Tgt)(v:Val)(env:Env):Option Env:=
 match t with
 |.a i=>some (env.set i (some v))
 |.b is=>match v with
  |.f vs=>if vs.length=is.length then some ((is.zip vs).foldl (λe p=>e.set p.1 (some p.2)) env) else dS
  |_=>dS
structure Src where
 a:List Val
 b:Option Nat
def Src.ok(r:Src)(s:Sto):Bool:=match r.b with
 |dS=>true
 |some i=>match s[i]? with
  |some (.c vs)=>tS vs r.a
  |_=>false
noncomputable def U4:List Val->List Val->List Val
 |v::vs,w::ws=>.f [v,w]::U4 vs ws
 |_,_=>[]
noncomputable def kn(n:Nat):List Val->List Val
 |[]=>[]
 |v::vs=>.f [.c n,v]::kn (n+1) vs
noncomputable def srcOf(s:Sto):Val->Option Src
 |.f vs=>some ⟨vs,dS⟩
 |.h vs=>some ⟨vs,dS⟩
 |.o ns=>some ⟨ns.map .c,dS⟩
 |.j i=>match s[i]? with
  |some (.c vs)=>some ⟨vs,some i⟩
  |_=>dS
 |_=>dS
noncomputable def vk(lo c:Int)(n:Nat):List Val:=(Ax n).map λ(k:Nat)=>Val.c (lo+k*c)
def WS(x y z:Val)(s:Sto):Out Src:=match x,y,z with
 |.c i,.c j,.c k=>if 0<=i/\i<=1000/\0<=j/\j<=1000/\1<=k/\k<=1000 then .e ⟨vk i k (AH i j k).toNat,dS⟩ s else .d
 |_,_,_=>.d
noncomputable def yH(lo:Int)(n:Nat):List Val:=(Ax n).map λ(k:Nat)=>Val.c (lo+k)
def yj(r:Src)(t:Tgt)(body:Env->Sto->List Val->Out (List Val × Env)):List Val->Env->Sto->List Val->Out (List Val × Env)
 |[],env,s,acc=>if r.ok s then .e (acc,env) s else .d
 |x::xs,env,s,acc=>if r.ok s then match yc t x env with
    |dS=>.d
    |some env'=>(body env' s acc).bind λp s'=>yj r t body xs p.2 s' p.1
  else .d
noncomputable def zZ(fr:List (Option Nat))(env:Env):Env:=fr.map λo=>match o with|some j=>(env[j]?).join|dS=>dS
inductive Fl
 |a (env:Env)|c (env:Env)|d (env:Env)|b (v:Val)
def yz(r:Src)(t:Tgt)(body:Env->Sto->Out Fl):List Val->Env->Sto->Out Fl
 |[],env,s=>if r.ok s then .e (.a env) s else .d
 |x::xs,env,s=>if r.ok s then match yc t x env with
    |dS=>.d
    |some env'=>(body env' s).bind λfl s'=>match fl with
     |.a e=>yz r t body xs e s'
     |.d e=>yz r t body xs e s'
     |.c e=>.e (.a e) s'
     |.b v=>.e (.b v) s'
  else .d
def eY(c:Env->Sto->Out Bool)(body:Env->Sto->Out Fl):Nat->Env->Sto->Out Fl
 |0,_,_=>.d
 |n+1,env,s=>(c env s).bind λb s1=>if b then (body env s1).bind λfl s2=>match fl with
    |.a e=>eY c body n e s2
    |.d e=>eY c body n e s2
    |.c e=>.e (.a e) s2
    |.b v=>.e (.b v) s2
  else .e (.a env) s1
noncomputable def W7:Nat:=100000
noncomputable def x8:Sto->List Str
 |.d x::r=>x::x8 r
 |_=>[]
section
variable (Φ:Calls)(G:Str->Option Val)
mutual
noncomputable def evE(env:Env):Ex->Sto->Out Val
 |.g v,s=>.e v s
 |.e i,s=>match env[i]? with|some (some v)=>.e v s|_=>.d
 |.F x,s=>match G x with|some v=>.e v s|dS=>.d
 |.J _ n,s=>.e (.t n) s
 |.j m op a b,s=>(evE env a s).bind λx s1=>(evE env b s1).bind λy s2=>binOp m op x y s2
 |.D a,s=>(evE env a s).bind λx s1=>match x with|.c i=>.e (.c (-i)) s1|_=>.d
 |.E a,s=>(evE env a s).bind λx s1=>match x with|.e b=>.e (.e !b) s1|_=>.d
 |.r op a b,s=>(evE env a s).bind λx s1=>(evE env b s1).bind λy s2=>zU op x y s2
 |.s op op' a b c,s=>(evE env a s).bind λx s1=>(evE env b s1).bind λy s2=>(zU op x y s2).bind λr s3=>match r with
  |.e true=>(evE env c s3).bind λz s4=>zU op' y z s4
  |.e false=>.e (.e false) s3
  |_=>.d
 |.u a es,s=>match es with
  |.c=>evE env a s
  |.a _ _=>(evE env a s).bind λx s1=>match x with
   |.e true=>sI env es s1
   |.e false=>.e (.e false) s1
   |_=>.d
 |.H a es,s=>match es with
  |.c=>evE env a s
  |.a _ _=>(evE env a s).bind λx s1=>match truth s1 x with
   |some false=>nG env es s1
   |some true=>.e x s1
   |dS=>.d
 |.G c a b,s=>(evT env c s).bind λt s1=>if t then evE env a s1 else evE env b s1
 |.y es,s=>(zV env es s).bind λvs s1=>if vs.length<=zS then .e (.f vs) s1 else .d
 |.w m es,s=>(zV env es s).bind λvs s1=>if vs.length<=zS then newList m vs s1 else .d
 |.A,s=>.e .p s
 |.h f ver es,s=>(zV env es s).bind λvs s1=>Φ f ver vs s1
 |.l f m es,s=>(zV env es s).bind λvs s1=>blt f m vs s1
 |.C a d,s=>(evE env a s).bind λx s1=>(evE env d s1).bind λy s2=>mxD x y s2
 |.K f _ o es,s=>(evE env o s).bind λx s1=>(zV env es s1).bind λvs s2=>xk f x vs s2
 |.z a b,s=>(evE env a s).bind λx s1=>(evE env b s1).bind λy s2=>wI x y s2
 |.L m a lo hi st,s=>(evE env a s).bind λx s1=>(evO env lo s1).bind λl s2=>(evO env hi s2).bind λh s3=>(evO env st s3).bind λc s4=>mL m x l h c s4
 |.q m _ fr elt t it ifs,s=>(yS env it s).bind λr s1=>
  (yj r t (λe s' acc=>(xF e ifs s').bind λb s2=>if b then (evE e elt s2).bind λv s3=>.e (acc++[v],e) s3 else .e (acc,e) s2) r.a (zZ fr env) s1 []).bind λp s2=>newList m p.1 s2
 |.p m _ fr elt t it ifs t2 it2 ifs2,s=>(yS env it s).bind λr s1=>
  (yj r t (λe s' acc=>(xF e ifs s').bind λb s2=>if b then (yS e it2 s2).bind λr2 s3=>
      yj r2 t2 (λe' s4 acc'=>(xF e' ifs2 s4).bind λb' s5=>if b' then (evE e' elt s5).bind λv s6=>.e (acc'++[v],e') s6 else .e (acc',e') s5) r2.a e s3 acc
   else .e (acc,e) s2) r.a (zZ fr env) s1 []).bind λp s2=>if p.1.length<=zS then newList m p.1 s2 else .d
 |.B t,s=>.e (.q s.length) (s++[if t then .f [] else .e []])
 |.I a b,s=>(evE env a s).bind λx s1=>(evE env b s1).bind λy s2=>ixD x y s2
 |.k m a b c,s=>(evE env a s).bind λx s1=>(evE env b s1).bind λy s2=>(evE env c s2).bind λz s3=>Vp m x y z s3
noncomputable def sI(env:Env):Exs->Sto->Out Val
 |.c,_=>.d
 |.a a es,s=>match es with
  |.c=>evE env a s
  |.a _ _=>(evE env a s).bind λx s1=>match x with
   |.e true=>sI env es s1
   |.e false=>.e (.e false) s1
   |_=>.d
noncomputable def nG(env:Env):Exs->Sto->Out Val
 |.c,_=>.d
 |.a a es,s=>match es with
  |.c=>evE env a s
  |.a _ _=>(evE env a s).bind λx s1=>match truth s1 x with
   |some false=>nG env es s1
   |some true=>.e x s1
   |dS=>.d
noncomputable def zV(env:Env):Exs->Sto->Out (List Val)
 |.c,s=>.e [] s
 |.a e es,s=>(evE env e s).bind λv s1=>(zV env es s1).bind λvs s2=>.e (v::vs) s2
noncomputable def evO(env:Env):OEx->Sto->Out (Option Int)
 |.b,s=>.e dS s
 |.a e,s=>(evE env e s).bind λv s1=>match v with|.c i=>.e (some i) s1|_=>.d
/-- a test -/
noncomputable def evT(env:Env):Cn->Sto->Out Bool
 |.a e,s=>(evE env e s).truth
 |.b a,s=>(evT env a s).bind λb s1=>.e (!b) s1
 |.d a es,s=>(evT env a s).bind λb s1=>if b then xF env es s1 else .e false s1
 |.f a es,s=>(evT env a s).bind λb s1=>if b then .e true s1 else vY env es s1
noncomputable def xF(env:Env):Cns->Sto->Out Bool
 |.a,s=>.e true s
 |.b a es,s=>(evT env a s).bind λb s1=>if b then xF env es s1 else .e false s1
noncomputable def vY(env:Env):Cns->Sto->Out Bool
 |.a,s=>.e false s
 |.b a es,s=>(evT env a s).bind λb s1=>if b then .e true s1 else vY env es s1
noncomputable def yS(env:Env):Itb->Sto->Out Src
 |.h e,s=>(evE env e s).bind λv s1=>match srcOf s1 v with|some r=>.e r s1|dS=>.d
 |.d a,s=>(evE env a s).bind λx s1=>match x with
  |.c j=>if -(2 ^ 62)<=j/\j<=zS then .e ⟨yH 0 j.toNat,dS⟩ s1 else .d
  |_=>.d
 |.f a b,s=>(evE env a s).bind λx s1=>(evE env b s1).bind λy s2=>match x,y with
  |.c i,.c j=>if -(2 ^ 62)<=i/\i<2 ^ 62∧-(2 ^ 62)<=j/\j<2 ^ 62/\j-i<=zS then .e ⟨yH i (j-i).toNat,dS⟩ s2 else .d
  |_,_=>.d
 |.g a b c,s=>(evE env a s).bind λx s1=>(evE env b s1).bind λy s2=>(evE env c s2).bind λz s3=>WS x y z s3
 |.i e,s=>(evE env e s).bind λv s1=>match v with
  |.f vs=>.e ⟨kn 0 vs,dS⟩ s1
  |.h vs=>.e ⟨kn 0 vs,dS⟩ s1
  |_=>.d
 |.j a b,s=>(evE env a s).bind λx s1=>(evE env b s1).bind λy s2=>match x,y with
  |.f vs,.f ws=>if ws.length<=vs.length then .e ⟨U4 vs ws,dS⟩ s2 else .d
  |_,_=>.d
end
mutual
noncomputable def exS(env:Env):Sm->Sto->Out Fl
 |.d e,s=>(evE Φ G env e s).bind λ_ s1=>.e (.a env) s1
 |.f e,s=>(evE Φ G env e s).bind λv s1=>.e (.b v) s1
 |.s,s=>.e (.b .g) s
 |.k i e,s=>(evE Φ G env e s).bind λv s1=>.e (.a (env.set i (some v))) s1
 |.m is e,s=>(evE Φ G env e s).bind λv s1=>match yc (.b is) v env with|some env'=>.e (.a env') s1|dS=>.d
 |.p is es,s=>(zV Φ G env es s).bind λvs s1=>if vs.length=is.length then .e (.a ((is.zip vs).foldl (λe p=>e.set p.1 (some p.2)) env)) s1 else .d
 |.w i op e,s=>match env[i]? with
  |some (some (.c x))=>(evE Φ G env e s).bind λv s1=>match v with
   |.c y=>(binOp false op (.c x) (.c y) s1).bind λz s2=>.e (.a (env.set i (some z))) s2
   |_=>.d
  |some (some (.f x))=>if op=.a then (evE Φ G env e s).bind λv s1=>match v with
   |.f y=>(binOp false .a (.f x) (.f y) s1).bind λz s2=>.e (.a (env.set i (some z))) s2
   |_=>.d
   else .d
  |_=>.d
 |.h o i e,s=>(evE Φ G env e s).bind λv s1=>(evE Φ G env o s1).bind λx s2=>(evE Φ G env i s2).bind λy s3=>match x,y with
  |.j r,.c k=>(match s3[r]? with
   |some (.c vs)=>(match L2.ixN vs.length k with|some j=>.e (.a env) (upd s3 r (vs.set j v))|dS=>.d)
   |_=>.d)
  |_,_=>.d
 |.g c a b,s=>(evT Φ G env c s).bind λt s1=>if t then zX env a s1 else zX env b s1
 |.l t it b,s=>(yS Φ G env it s).bind λr s1=>yz r t (λe s'=>zX e b s') r.a env s1
 |.n c b,s=>eY (λe s'=>evT Φ G e c s') (λe s'=>zX e b s') W7 env s
 |.r,s=>.e (.a env) s
 |.v,s=>.e (.c env) s
 |.q,s=>.e (.d env) s
 |.j _,_=>.d
 |.u o i e,s=>(evE Φ G env e s).bind λv s1=>(evE Φ G env o s1).bind λx s2=>(evE Φ G env i s2).bind λy s3=>match putD x y v s3 with|some s4=>.e (.a env) s4|dS=>.d
noncomputable def zX(env:Env):Sms->Sto->Out Fl
 |.f,s=>.e (.a env) s
 |.e c cs,s=>(exS env c s).bind λfl s1=>match fl with
  |.a e=>zX e cs s1
  |fl=>.e fl s1
 |.g i L mid k d o b cs,s=>(zX (env.set i dS) mid s).bind λfl s0=>match fl with
  |.a e0=>if x8 s=x8 s0 then (zV Φ G e0 L s0).bind λvs s1=>if k=0 then .e (.b (.h vs)) s1 else
   if k=1 then (evE Φ G e0 d s1).bind λy s2=>(zU .a (.h vs) y s2).bind λr s3=>.e (.b r) s3
   else ((evE Φ G e0 d s1).bind λy s2=>((zU .b (.h vs) y s2).truth).bind λr s3=>if r then .e true s3 else vY Φ G e0 o s3).bind λr s3=>
    (if r then zX e0 b s3 else .e (.a e0) s3).bind λfl s4=>match fl with
   |.a e=>zX e cs s4
   |fl=>.e fl s4
   else .d
  |_=>.d
end
end
abbrev sP:=Option (Str × List Val × Sto)
abbrev xK:=Str->Nat->List Val->Sto->sP
noncomputable def qr:List Val->Bool
 |[.m _]=>true
 |[.c i,.c j]=>decide (i.natAbs<2 ^ 64)&&decide (j.natAbs<2 ^ 64)
 |_=>false
section
variable (W:Str->Bool)(Φ:Calls)(Ψ:xK)(G:Str->Option Val)
mutual
noncomputable def xE(env:Env):Ex->Sto->sP
 |.h f v es,s=>match zV Φ G env es s with
  |.e vs s1=>Ψ f v vs s1
  |_=>dS
 |.r _ a _,s=>xE env a s
 |.j _ _ a _,s=>xE env a s
 |.l _ _ es,s=>xL env es s
 |.q _ _ _ _ _ it _,s=>xI env it s
 |_,_=>dS
/-- one argument that raises -/
noncomputable def xL(env:Env):Exs->Sto->sP
 |.a a es,s=>match es with
  |.c=>xE env a s
  |.a _ _=>dS
 |.c,_=>dS
/-- what is walked raises -/
noncomputable def xI(env:Env):Itb->Sto->sP
 |.h a,s=>xE env a s
 |_,_=>dS
end
def xT(env:Env):Cn->Sto->sP
 |.a e,s=>match e with
  |.h f v es=>xE Φ Ψ G env (.h f v es) s
  |_=>dS
 |.b c,s=>xT env c s
 |_,_=>dS
mutual
noncomputable def xS(env:Env):Sm->Sto->sP
 |.d e,s=>xE Φ Ψ G env e s
 |.f e,s=>xE Φ Ψ G env e s
 |.k _ e,s=>xE Φ Ψ G env e s
 |.g c a b,s=>match evT Φ G env c s with
  |.e t s1=>if t then xSs env a s1 else xSs env b s1
  |_=>xT Φ Ψ G env c s
 |.j e,s=>match e with
  |.h c _ es=>(match zV Φ G env es s with
   |.e vs s1=>if qr vs&&W c then some (c,vs,s1) else dS
   |_=>dS)
  |_=>dS
 |_,_=>dS
noncomputable def xSs(env:Env):Sms->Sto->sP
 |.f,_=>dS
 |.e c cs,s=>match exS Φ G env c s with
  |.e fl s1=>(match fl with
   |.a e=>xSs e cs s1
   |_=>dS)
  |_=>xS env c s
 |.g _ _ _ _ _ _ _ _,_=>dS
end
end
noncomputable def za(N:List Str)(vs:List Val):Env:=vs.map some++AA (N.length-vs.length) dS
def leave(F:Fn)(s0:Sto)(v:Val)(s:Sto):Out Val:=
 if F.c then .e v s
 else if xw s0 s then (match freeze s0.length s v with|some v'=>.e v' (s.take s0.length)|dS=>.d) else .d
structure Tbl where
 d:Str->Nat->Option Fn
 b:Str->Option Val
 /-- the defs whose tables the store holds,from its start -/
 e:List Str:=[]
 /-- the classes of exceptions,and what the law's def says of each -/
 f:List (Str × Str):=[]
 /-- which of the law's two defs that try a call is there -/
 c:Bool->Bool:=λ_=>false
noncomputable def zl:List Str->Sto->Bool
 |[],_=>true
 |x::r,.d y::s=>decide (x=y)&&zl r s
 |_::_,_=>false
noncomputable def sM(T:Tbl)(m:Bool)(o:Out Val)(x:sP):Out Val:=match o with
 |.e v s=>.e (if m then v else .m "told") s
 |_=>match x with
  |some (c,_,s)=>(match T.f.lookup c with
   |some w=>.e (.m w) s
   |dS=>.d)
  |dS=>.d
def run(T:Tbl)(Φ:Calls)(F:Fn)(vs:List Val)(s:Sto):Out Val:=
 if vs.length=F.b.length then (zX Φ T.b (za F.N vs) F.a s).bind λfl s1=>match fl with
  |.a _=>leave F s .g s1
  |.b v=>leave F s v s1
  |_=>.d
 else .d
noncomputable def nH:List Val->Option Str
 |.u g::_=>some g
 |_=>dS
mutual
noncomputable def zB(T:Tbl):Nat->Calls
 |0=>λ_ _ _ _=>.d
 |n+1=>λf ver vs s=>match T.d f ver with|some F=>run T (zB T n) F vs s|dS=>if ((decide (ver=100)&&T.c false)||(decide (ver=101)&&T.c true))&&zl T.e s then sM T (decide (ver=101)) (zB T n f 0 vs s) (ze T n f 0 vs s) else (match nH vs with|some g=>if decide (ver=200) then (match T.d g 0 with|some F=>run T (zB T n) F vs.tail s|dS=>.d) else if ((decide (ver=300)&&T.c false)||(decide (ver=301)&&T.c true))&&zl T.e s then sM T (decide (ver=301)) (zB T n g 0 vs.tail s) (ze T n g 0 vs.tail s) else .d|dS=>.d)
noncomputable def ze(T:Tbl):Nat->xK
 |0=>λ_ _ _ _=>dS
 |n+1=>λf ver vs s=>match T.d f ver with
  |some F=>if vs.length=F.b.length then xSs (λc=>(T.f.lookup c).isSome) (zB T n) (ze T n) T.b (za F.N vs) F.a s else dS
  |dS=>dS
end
end M
end
section
namespace M
open PySem
abbrev KF:=Ah
structure Own where
 o:List Addr
 h:List Addr
def Own.no(ρ:Own)(a:Addr):Prop:=a ∉ ρ.o/\a ∉ ρ.h
def KT(K:KF)(a:Addr)(xs:List L2.V):Prop:=∃(o:Obj) (its:Array Value) (n:Nat),K.lookup a=some o/\o.cls=.type "tuple"/\o.data=.seq its n/\its.size<=Aq/\L2.Vals xs its.toList
def SC(K:KF)(ρ:Own)(H:L2.Hp)(a:Addr)(xs:List L2.V):Prop:=(ρ.no a/\L2.Rd H a (.b xs)) \/
 ∃(o:Obj) (its:Array Value) (n:Nat),K.lookup a=some o/\o.cls=.type "list"/\o.dict=none/\o.data=.seq its n/\its.size<=Aq/\L2.Vals xs its.toList
noncomputable def hk:Option L2.HO->Nat
 |some (.b _)=>1
 |some (.i _)=>2
 |some (.j _)=>3
 |some (.g _)=>4
 |_=>0
mutual
inductive RD(K:KF)(mg:Str->Option Value)(ρ:Own)(H:L2.Hp):Val->L2.V->Prop
 |s:RD K mg ρ H .g .g
 |j (b:Bool):RD K mg ρ H (.e b) (.f b)
 |l (i:Int):RD K mg ρ H (.c i) (.d i)
 |D (x:Str):RD K mg ρ H (.m x) (.e x)
 |m {a:Addr} {vs:List Val} {xs:List L2.V}:ρ.no a->H a=some (.c xs)->RDs K mg ρ H vs xs->RD K mg ρ H (.f vs) (.c a)
 |E {a:Addr} {vs:List Val} {xs:List L2.V}:ρ.no a->H a=some (.b xs)->RDs K mg ρ H vs xs->RD K mg ρ H (.h vs) (.c a)
 |B {a:Addr}:ρ.no a->H a=some (.i [])->RD K mg ρ H .p (.c a)
 |p {a:Addr} {ns:List Int}:KT K a (ns.map L2.V.d)->RD K mg ρ H (.o ns) (.c a)
 |G {a:Addr} {ns:List Int}:SC K ρ H a (ns.map L2.V.d)->RD K mg ρ H (.r ns) (.c a)
 |C {a:Addr} {i:Nat}:ρ.o[i]?=some a->hk (H a)=1->RD K mg ρ H (.j i) (.c a)
 |A {a:Addr} {i:Nat}:ρ.o[i]?=some a->1<hk (H a)->RD K mg ρ H (.q i) (.c a)
 |I {x:Str} {f:Addr}:mg x=some (.ref f)->RD K mg ρ H (.u x) (.c f)
 |J (n:String):RD K mg ρ H (.t n) (.k n)
 |F (a k:Nat):RD K mg ρ H (.s a k) (.c a)
inductive RDs(K:KF)(mg:Str->Option Value)(ρ:Own)(H:L2.Hp):List Val->List L2.V->Prop
 |d:RDs K mg ρ H [] []
 |a {v:Val} {x:L2.V} {vs:List Val} {xs:List L2.V}:RD K mg ρ H v x->RDs K mg ρ H vs xs->RDs K mg ρ H (v::vs) (x::xs)
end
noncomputable def eQ(x:Str):Str:=(x++(".<locals>.":Str))++("<lambda>":Str)
def W6(K:KF)(mg:Str->Option Value)(ρ:Own)(H:L2.Hp)(P:Addr)(x:Str):Prop:=∃ps,H P=some (.g ps)/\De ps.toList /\
 (∀(pos:Pos) (cv:Value),Dd pos ps.toList=some cv->∃(c:Addr) (o:Obj) (vs:Array Value) (t:Tok),cv=.ref c/\ρ.no c/\H c=some (.d o (.e 0))/\o.data=.fields vs/\vs[1]?=some (.str (eQ x) t)) /\
 ∃(fa c:Addr) (o:Obj) (fd:BH),mg x=some (.ref fa)/\K.lookup fa=some o/\o.data=.func fd/\fd.code=.ref c/\∀h:Heap,K.In h->PySem.W.CodeHd h c P
def CR(K:KF)(mg:Str->Option Value)(ρ:Own)(H:L2.Hp)(a:Addr):Cel->Prop
 |.c vs=>∃xs,H a=some (.b xs)/\RDs K mg ρ H vs xs
 |.e kvs=>∃kxs,H a=some (.i kxs)/\kxs.map (·.1)=kvs.map (λp=>DO p.1)/\RDs K mg ρ H (kvs.map (·.2)) (kxs.map (·.2))
 |.f kvs=>∃kxs,H a=some (.j kxs)/\kxs.map (·.1)=kvs.map (λp=>p.1.map DN)/\RDs K mg ρ H (kvs.map (·.2)) (kxs.map (·.2))
 |.d x=>W6 K mg ρ H a x
structure HR(K:KF)(mg:Str->Option Value)(ρ:Own)(s:Sto)(H:L2.Hp):Prop where
 f:ρ.o.length=s.length
 v:ρ.o.Nodup
 m:∀(i:Nat) (c:Cel),s[i]?=some c->∃a:Addr,ρ.o[i]?=some a/\CR K mg ρ H a c
 d:∀a∈ρ.h,(∃xs,H a=some (.b xs))/\a ∉ ρ.o
structure Ext(ρ:Own)(H:L2.Hp)(ρ':Own)(H':L2.Hp):Prop where
 d:∃new:List Addr,ρ'.o=ρ.o++new/\∀a∈new,H a=none
 f:ρ'.h=ρ.h
 c:∀(a:Addr) (o:L2.HO),H a=some o->a ∉ ρ.o->H' a=some o
 g:∀a∈ρ.o,hk (H' a)=hk (H a)
structure ER(K:KF)(mg:Str->Option Value)(ρ:Own)(H:L2.Hp)(env:Env)(σ:L2.St):Prop where
 b:env.length=σ.length
 a:∀(i:Nat) (v:Val),env[i]?=some (some v)->∃x:L2.V,σ[i]?=some (some x)/\RD K mg ρ H v x
section
variable {K:KF}{mg:Str->Option Value}{ρ ρ' ρ'':Own}{H H' H'':L2.Hp}{s s':Sto}
theorem HR.obj(h:HR K mg ρ s H)(i:Nat)vs(e:s[i]?=some (Cel.c vs)):∃(a:Addr) (xs:List L2.V),ρ.o[i]?=some a/\H a=some (.b xs)/\RDs K mg ρ H vs xs:=by obtain⟨a,e1,xs,e2,r⟩:=h.m i _ e;exact⟨a,xs,e1,e2,r⟩
theorem CR.there(h:CR K mg ρ H a c):∃o,H a=some o:=by
 cases c with
 |c vs=>obtain⟨xs,e,_⟩:=h;exact⟨_,e⟩
 |e kvs=>obtain⟨xs,e,_⟩:=h;exact⟨_,e⟩
 |f kvs=>obtain⟨xs,e,_⟩:=h;exact⟨_,e⟩
 |d x=>obtain⟨ps,e,_⟩:=h;exact⟨_,e⟩
theorem CR.hk{a:Addr}{c:Cel}(h:CR K mg ρ H a c):0<hk (H a):=by
 cases c with
 |c vs=>obtain⟨xs,e,_⟩:=h;rw[e];exact Ci 0
 |e kvs=>obtain⟨xs,e,_⟩:=h;rw[e];exact DT rfl
 |f kvs=>obtain⟨xs,e,_⟩:=h;rw[e];exact DT rfl
 |d x=>obtain⟨ps,e,_⟩:=h;rw[e];exact DT rfl
theorem HR.trk(h:HR K mg ρ s H)(ha:a∈ρ.o):∃o,H a=some o:=by
 obtain⟨i,hi,e⟩:=Bs ha;have hs:i<s.length:=by rw[<-h.f];exact hi
 obtain⟨b,e1,e2⟩:=h.m i _ (Ak hs);rw[Ak hi,e]at e1;cases e1;exact e2.there
theorem fZ(h:hk (H a)=1):∃xs,H a=some (.b xs):=by
 cases e:H a with
 |none=>rw[e]at h;cases h
 |some o=>
  rw[e]at h;cases o with
  |b xs=>exact⟨xs,rfl⟩
  |_=>cases h
theorem HR.new(h:HR K mg ρ s H)(hp:H p=none):ρ.no p:=by
 refine⟨λhm=>?_,λhm=>?_⟩
 . obtain⟨xs,e⟩:=h.trk hm
   rw[hp]at e;cases e
 . obtain⟨⟨xs,e⟩,_⟩:=h.d p hm
   rw[hp]at e;cases e
theorem Ext.refl:Ext ρ H ρ H:=⟨⟨[],by simp,λa ha=>by cases ha⟩,rfl,λa o e _=>e,λ_ _=>rfl⟩
theorem Ext.Vu(x:Ext ρ H ρ' H')(e:H a=some o)(n:ρ.no a):ρ'.no a:=by
 obtain⟨new,e1,hn⟩:=x.d;refine⟨?_,by rw[x.f];exact n.2⟩
 rw[e1];intro hm;rcases A1.mp hm with hm|hm
 . exact n.1 hm
 . rw[hn a hm]at e;cases e
theorem Ext.get(x:Ext ρ H ρ' H'){i:Nat}(e:ρ.o[i]?=some a):ρ'.o[i]?=some a:=by obtain⟨new,e1,hn⟩:=x.d;have hi:i<ρ.o.length:=(Am.mp e).1;rw[e1,AQ hi];exact e
theorem Ext.trans(x:Ext ρ H ρ' H')(h:HR K mg ρ' s H')(y:Ext ρ' H' ρ'' H''):Ext ρ H ρ'' H'':=by
 obtain⟨new,e1,hn⟩:=x.d;obtain⟨new2,e2,hn2⟩:=y.d;refine⟨⟨new++new2,by rw[e2,e1,Bk],λa ha=>?_⟩,y.f.trans x.f,λa o e n=>y.c a o (x.c a o e n) ?_,λa ha=>(y.g a (by rw[e1];exact Bl _ ha)).trans (x.g a ha)⟩
 . rcases A1.mp ha with ha|ha
   . exact hn a ha
   . cases q:H a with
     |none=>rfl
     |some o=>
      by_cases hm:a∈ρ.o
      . obtain⟨xs,e⟩:=h.trk (a:=a) (by rw[e1];exact Bl _ hm)
        rw[hn2 a ha]at e;cases e
      . have:=x.c a o q hm
        rw[hn2 a ha]at this;cases this
 . rw[e1]
   intro hm;rcases A1.mp hm with hm|hm
   . exact n hm
   . rw[hn a hm]at e;cases e
theorem SC.sql(h:SC K ρ H a xs):L2.SqL K H a xs:=by
 rcases h with⟨_,h⟩|h
 . exact .inl h
 . exact .inr h
theorem KT.sqt(h:KT K a xs):L2.SqT K H a xs:=.inr h
structure Mv(ρ:Own)(H:L2.Hp)(ρ':Own)(H':L2.Hp):Prop where
 b:∀(a:Addr) (o:L2.HO),H a=some o->ρ.no a->H' a=some o/\ρ'.no a
 c:∀(i:Nat) (a:Addr),ρ.o[i]?=some a->ρ'.o[i]?=some a
 d:∀a∈ρ.o,hk (H' a)=hk (H a)
theorem Ext.mv(x:Ext ρ H ρ' H'):Mv ρ H ρ' H':=⟨λa o e n=>⟨x.c a o e n.1,x.Vu e n⟩,λi a e=>x.get e,x.g⟩
theorem SC.mv(x:Mv ρ H ρ' H')(h:SC K ρ H a xs):SC K ρ' H' a xs:=by
 rcases h with⟨n,h|⟨o,h⟩⟩|h
 . exact .inl ⟨(x.b _ _ h n).2,.inl (x.b _ _ h n).1⟩
 . exact .inl ⟨(x.b _ _ h n).2,.inr ⟨o,(x.b _ _ h n).1⟩⟩
 . exact .inr h
end
mutual
theorem RD.mv{K:KF}{mg:Str->Option Value}{ρ ρ':Own}{H H':L2.Hp}(x:Mv ρ H ρ' H'){v:Val}{u:L2.V}(q:RD K mg ρ H v u):RD K mg ρ' H' v u:=by
 cases q with
 |s=>exact .s
 |j b=>exact .j b
 |l i=>exact .l i
 |D t=>exact .D t
 |m n e r=>exact .m (x.b _ _ e n).2 (x.b _ _ e n).1 (RDs.mv x r)
 |E n e r=>exact .E (x.b _ _ e n).2 (x.b _ _ e n).1 (RDs.mv x r)
 |B n e=>exact .B (x.b _ _ e n).2 (x.b _ _ e n).1
 |p h=>exact .p h
 |G h=>exact .G (h.mv x)
 |C e k=>exact .C (x.c _ _ e) ((x.d _ (AR e)).trans k)
 |A e k=>exact .A (x.c _ _ e) (by rw[x.d _ (AR e)];exact k)
 |F a k=>exact .F a k
 |I e=>exact .I e
 |J n=>exact .J n
theorem RDs.mv{K:KF}{mg:Str->Option Value}{ρ ρ':Own}{H H':L2.Hp}(x:Mv ρ H ρ' H'){vs:List Val}{us:List L2.V}(q:RDs K mg ρ H vs us):RDs K mg ρ' H' vs us:=by
 cases q with
 |d=>exact .d
 |a r rs=>exact .a (RD.mv x r) (RDs.mv x rs)
end
theorem CR.mv(x:Mv ρ H ρ' H')(e:H' a=H a)(h:CR K mg ρ H a c):CR K mg ρ' H' a c:=by
 cases c with
 |c vs=>obtain⟨xs,e1,r⟩:=h;exact⟨xs,e.trans e1,RDs.mv x r⟩
 |e kvs=>obtain⟨xs,e1,k,r⟩:=h;exact⟨xs,e.trans e1,k,RDs.mv x r⟩
 |f kvs=>obtain⟨xs,e1,k,r⟩:=h;exact⟨xs,e.trans e1,k,RDs.mv x r⟩
 |d y=>
  obtain⟨ps,e1,k,r,g⟩:=h;refine⟨ps,e.trans e1,k,λpos cv hc=>?_,g⟩;obtain⟨c,o,vs,t,q1,q2,q3,q4⟩:=r pos cv hc;exact⟨c,o,vs,t,q1,(x.b _ _ q3 q2).2,(x.b _ _ q3 q2).1,q4⟩
theorem RD.mono(r:RD K mg ρ H v u)(x:Ext ρ H ρ' H'):RD K mg ρ' H' v u:=RD.mv x.mv r
theorem RDs.mono(r:RDs K mg ρ H v u)(x:Ext ρ H ρ' H'):RDs K mg ρ' H' v u:=RDs.mv x.mv r
end M
end
section
namespace M
open PySem
section
variable {K:KF}{mg:Str->Option Value}{ρ ρ' ρ'':Own}{H H' H'':L2.Hp}{s s':Sto}
theorem RDs.length(q:RDs K mg ρ H vs xs):vs.length=xs.length:=by
 cases q with
 |d=>rfl
 |a _ r=>rw[AM,AM,r.length]
theorem RDs.get{i:Nat}(q:RDs K mg ρ H vs xs)(e:vs[i]?=some v):∃x,xs[i]?=some x/\RD K mg ρ H v x:=by
 cases q with
 |d=>cases e
 |a r rs=>
  cases i with
  |zero=>cases e;exact⟨_,rfl,r⟩
  |succ i=>exact RDs.get (i:=i) rs e
theorem RDs.append(p:RDs K mg ρ H vs xs)(q:RDs K mg ρ H ws ys):RDs K mg ρ H (vs++ws) (xs++ys):=by
 cases p with
 |d=>exact q
 |a r rs=>exact .a r (rs.append q)
theorem RDs.take n(q:RDs K mg ρ H vs xs):RDs K mg ρ H (vs.take n) (xs.take n):=by
 cases n with
 |zero=>exact .d
 |succ n=>cases q with
  |d=>exact .d
  |a r rs=>exact .a r (rs.take n)
theorem RDs.drop n(q:RDs K mg ρ H vs xs):RDs K mg ρ H (vs.drop n) (xs.drop n):=by
 cases n with
 |zero=>exact q
 |succ n=>cases q with
  |d=>exact .d
  |a _ rs=>exact rs.drop n
theorem RDs.set(r:RD K mg ρ H v x)i(q:RDs K mg ρ H vs xs):RDs K mg ρ H (vs.set i v) (xs.set i x):=by
 cases q with
 |d=>exact .d
 |a q t=>cases i with
  |zero=>exact .a r t
  |succ i=>exact .a q (RDs.set r i t)
theorem RDs.rep(r:RDs K mg ρ H vs xs):∀k:Nat,RDs K mg ρ H (AA k vs).flatten (AA k xs).flatten
 |0=>.d
 |k+1=>by rw[BJ,BJ,B7,B7];exact r.append (RDs.rep r k)
theorem RDs.pick(r:RDs K mg ρ H vs xs):∀(is:List Nat),RDs K mg ρ H (is.filterMap λi=>vs[i]?) (is.filterMap λi=>xs[i]?)
 |[]=>.d
 |i::is=>by
  rw[A3,A3];cases hx:vs[i]? with
  |none=>
   have:xs[i]?=none:=by have h2:vs.length<=i:=B8.mp hx;exact B8.mpr (by rw[<-r.length];exact h2)
   rw[this];exact RDs.pick r is
  |some v=>
   obtain⟨u,hu,ru⟩:=r.get hx;rw[hu];exact .a ru (RDs.pick r is)
theorem RDs.yG(r:RDs K mg ρ H vs xs)lo st n:RDs K mg ρ H (L2.yG vs lo st n) (L2.yG xs lo st n):=by have h:=r.pick ((Ax n).map λ(k:Nat)=>(lo+(k:Int)*st).toNat);rw[BQ,BQ]at h;exact h
theorem RDs.ints:∀(ns:List Int),RDs K mg ρ H (ns.map .c) (ns.map .d)
 |[]=>.d
 |n::ns=>.a (.l n) (RDs.ints ns)
theorem RDs.cut(r:RDs K mg ρ H vs xs)lo hi:RDs K mg ρ H (bN vs lo hi) (L2.qP xs lo hi):=by unfold bN L2.qP;rw[r.length];exact(r.drop _).take _
theorem ee{α:Type}:∀{l:List α} {i j:Nat} {x},l.Nodup->l[i]?=some x->l[j]?=some x->i=j
 |[],_,_,_,_,e,_=>by simp at e
 |a::l,0,0,_,_,_,_=>rfl
 |a::l,0,j+1,x,nd,e1,e2=>by
  simp at e1 e2;subst e1;exact absurd (AR e2) (BI.mp nd).1
 |a::l,i+1,0,x,nd,e1,e2=>by
  simp at e1 e2;subst e2;exact absurd (AR e1) (BI.mp nd).1
 |a::l,i+1,j+1,x,nd,e1,e2=>by simp at e1 e2;rw[ee (BI.mp nd).2 e1 e2]
theorem Ext.new(h:HR K mg ρ s H)(hp:H p=none)o:Ext ρ H ρ (L2.upd H p o):=
 ⟨⟨[],by simp,λa ha=>by cases ha⟩,rfl,λa u e _=>by rw[L2.zH (L2.zO e hp)];exact e,λa ha=>by rw[L2.zH λz=>(h.new hp).1 (by rw[<-z];exact ha)]⟩
theorem HR.more(h:HR K mg ρ s H)(hp:H p=none)o:HR K mg ρ s (L2.upd H p o):=by
 refine⟨h.f,h.v,λi c e=>?_,λa ha=>?_⟩
 . obtain⟨a,e1,r⟩:=h.m i c e
   obtain⟨u,e2⟩:=r.there;exact⟨a,e1,r.mv (Ext.new h hp o).mv (L2.zH (L2.zO e2 hp))⟩
 . obtain⟨⟨xs,e⟩,n⟩:=h.d a ha
   exact⟨⟨xs,by rw[L2.zH (L2.zO e hp)];exact e⟩,n⟩
noncomputable def Own.more(ρ:Own)(p:Addr):Own:=⟨ρ.o++[p],ρ.h⟩
theorem Ext.own(h:HR K mg ρ s H)(hp:H p=none)o:Ext ρ H (ρ.more p) (L2.upd H p o):=
 ⟨⟨[p],rfl,λa ha=>by rw[Bp.mp ha];exact hp⟩,rfl,λa u e _=>by rw[L2.zH (L2.zO e hp)];exact e,λa ha=>by rw[L2.zH λz=>(h.new hp).1 (by rw[<-z];exact ha)]⟩
theorem sg(h:HR K mg ρ s H)p:(ρ.more p).o[s.length]?=some p:=by show (ρ.o++[p])[s.length]?=some p;rw[<-h.f,BB (Ab _)];simp
theorem HR.wJ(h:HR K mg ρ s H)(hp:H p=none)(r:CR K mg (ρ.more p) (L2.upd H p o) p c):HR K mg (ρ.more p) (s++[c]) (L2.upd H p o):=by
 have X:=Ext.own h hp o;refine⟨by show (ρ.o++[p]).length=_;rw[Av,Av,h.f];rfl,?_,λi ws q=>?_,λa ha=>?_⟩
 . show (ρ.o++[p]).Nodup
   rw[EU];exact⟨h.v,by simp,λa ha b hb=>by rw[Bp.mp hb];intro z;subst z;exact(h.new hp).1 ha⟩
 . by_cases hi:i<s.length
   . rw[AQ hi]at q
     obtain⟨a,e1,t⟩:=h.m i ws q;obtain⟨u,e2⟩:=t.there;exact⟨a,X.get e1,t.mv X.mv (L2.zH (L2.zO e2 hp))⟩
   . have hi':i=s.length:=by have:=(Am.mp q).1;rw[Av]at this;simp at this;omega
     subst hi';rw[BB (Ab _)]at q;simp at q;subst q;exact⟨p,sg h p,r⟩
 . obtain⟨⟨ys,q⟩,n⟩:=h.d a ha
   refine⟨⟨ys,by rw[L2.zH (L2.zO q hp)];exact q⟩,λhm=>?_⟩
   rcases A1.mp hm with hm|hm
   . exact n hm
   . rw[Bp.mp hm,hp]at q;cases q
theorem HR.own(h:HR K mg ρ s H)(hp:H p=none)(r:RDs K mg ρ H vs xs):HR K mg (ρ.more p) (s++[.c vs]) (L2.upd H p (.b xs)):=h.wJ hp ⟨xs,L2.zM,r.mono (Ext.own h hp _)⟩
theorem Ext.sE(h:HR K mg ρ s H){i:Nat}(e:ρ.o[i]?=some a)(k:hk (some o)=hk (H a)):Ext ρ H ρ (L2.upd H a o):=
 ⟨⟨[],by simp,λa ha=>by cases ha⟩,rfl,λb u q n=>by rw[L2.zH (λz=>n (by rw[z];exact AR e))];exact q,λb hb=>by
   by_cases z:b=a
   . subst z;rw[L2.zM];exact k
   . rw[L2.zH z]⟩
theorem Ext.write(h:HR K mg ρ s H){i:Nat}(e:ρ.o[i]?=some a)(k:H a=some (.b ys))xs:Ext ρ H ρ (L2.upd H a (.b xs)):=Ext.sE h e (by rw[k];rfl)
theorem HR.sE(h:HR K mg ρ s H)(e:ρ.o[i]?=some a)(k:hk (some o)=hk (H a))(r:CR K mg ρ (L2.upd H a o) a c):HR K mg ρ (s.set i c) (L2.upd H a o):=by
 have X:=Ext.sE h e k;refine⟨by rw[AL];exact h.f,h.v,λj ws q=>?_,λb hb=>?_⟩
 . skip
   by_cases hij:i=j
   . subst hij
     have hi:i<s.length:=by rw[<-h.f];exact(Am.mp e).1
     rw[Ar hi]at q;cases q;exact⟨a,e,r⟩
   . rw[AO hij]at q
     obtain⟨b,e1,t⟩:=h.m j ws q;refine⟨b,e1,t.mv X.mv ?_⟩;have hb:b≠a:=by intro z;subst z;exact hij (ee h.v e e1)
     rw[L2.zH hb]
 . obtain⟨⟨ys,q⟩,n⟩:=h.d b hb
   exact⟨⟨ys,by rw[L2.zH (λz=>n (by rw[z];exact AR e))];exact q⟩,n⟩
theorem HR.write(h:HR K mg ρ s H)(e:ρ.o[i]?=some a)(k:H a=some (.b ys))(r:RDs K mg ρ H vs xs):HR K mg ρ (upd s i vs) (L2.upd H a (.b xs)):=
 h.sE e (by rw[k];rfl) ⟨xs,L2.zM,r.mono (Ext.write h e k xs)⟩
theorem ER.mono(x:Ext ρ H ρ' H')(h:ER K mg ρ H env σ):ER K mg ρ' H' env σ:=⟨h.b,λi v e=>by obtain⟨u,h1,h2⟩:=h.a i v e;exact⟨u,h1,h2.mono x⟩⟩
theorem ER.set(h:ER K mg ρ H env σ)i(r:RD K mg ρ H v x):ER K mg ρ H (env.set i (some v)) (σ.set i (some x)):=by
 refine⟨by rw[AL,AL,h.b],λj w e=>?_⟩
 by_cases hij:i=j
 . subst hij
   by_cases hi:i<env.length
   . rw[Ar hi]at e
     cases e;exact⟨x,by rw[Ar (by rw[<-h.b];exact hi)],r⟩
   . rw[BS (by rw[AL];omega)]at e
     cases e
 . rw[AO hij]at e
   rw[AO hij];exact h.a j w e
end
section
variable (K:KF)(mg:Str->Option Value)
def yV{α β:Type}(R:Own->L2.Hp->α->β->Prop)(ρ:Own)(H:L2.Hp)(o:Out α)(Q:β->L2.Hp->Prop):Prop:=
 match o with
 |.e v s'=>∀ρ' x H',Ext ρ H ρ' H'->HR K mg ρ' s' H'->R ρ' H' v x->Q x H'
 |_=>False
def tV(env:Env)(s:Sto)(o:Out Val):L2.TE:=λσ H Q=>∃ρ,HR K mg ρ s H/\ER K mg ρ H env σ/\yV K mg (RD K mg) ρ H o Q
def tVs(env:Env)(s:Sto)(o:Out (List Val)):L2.TA:=λσ H Q=>∃ρ,HR K mg ρ s H/\ER K mg ρ H env σ/\yV K mg (RDs K mg) ρ H o Q
def tT(env:Env)(s:Sto)(o:Out Bool):L2.TT:=λσ H Q=>∃ρ,HR K mg ρ s H/\ER K mg ρ H env σ/\yV K mg (λ_ _ a b=>a=b) ρ H o Q
def tO(env:Env)(s:Sto)(o:Out (Option Int)):L2.TO:=λσ H Q=>∃ρ,HR K mg ρ s H/\ER K mg ρ H env σ/\yV K mg (λ_ _ a b=>a=b) ρ H o Q
end
section
variable {X:L2.Cx}{e:Expr}
theorem zT(h:L2.PE X e t)(i:∀σ H Q,t' σ H Q->t σ H Q):L2.PE X e t':=λpins s σ H Q I q=>h pins s σ H Q I (i σ H Q q)
theorem vj(h:L2.PT X e t)(i:∀σ H Q,t' σ H Q->t σ H Q):L2.PT X e t':=λpins s σ H Q I q=>h pins s σ H Q I (i σ H Q q)
theorem dP{t t':L2.TA}(h:L2.PA X es t)(i:∀σ H Q,t' σ H Q->t σ H Q):L2.PA X es t':=λpos pins s σ H Q I q=>h pos pins s σ H Q I (i σ H Q q)
theorem yY{t t':L2.TS}(h:L2.PS X st t)(i:∀D σ H,t' D σ H->t D σ H):L2.PS X st t':=λpins s σ H D I q=>h pins s σ H D I (i D σ H q)
theorem xQ{t t':L2.TS}(h:L2.PSs X st t)(i:∀D σ H,t' D σ H->t D σ H):L2.PSs X st t':=λpins s σ H D I q=>h pins s σ H D I (i D σ H q)
theorem yU(h:∀σ H Q,¬t σ H Q):L2.PE X e t:=λpins s σ H Q I q=>(h σ H Q q).elim
theorem jR(h:∀σ H Q,¬t σ H Q):L2.PT X e t:=λpins s σ H Q I q=>(h σ H Q q).elim
theorem US(h:∀σ H Q,¬t σ H Q):L2.PW X e t:=λwh pins s σ H Q I q=>(h σ H Q q).elim
theorem UI{t:L2.TA}(h:∀σ H Q,¬t σ H Q):L2.PA X es t:=λpos pins s σ H Q I q=>(h σ H Q q).elim
end
section
variable {K:KF}{mg:Str->Option Value}{env:Env}{s:Sto}
theorem Uz(h:∀v s',o≠.e v s'):¬tV K mg env s o σ H Q:=by
 rintro ⟨ρ,_,_,w⟩;cases o with
 |e v s'=>exact h v s' rfl
 |_=>exact w
theorem Wj(h:∀v s',o≠.e v s'):¬tVs K mg env s o σ H Q:=by
 rintro ⟨ρ,_,_,w⟩;cases o with
 |e v s'=>exact h v s' rfl
 |_=>exact w
theorem YA(h:∀v s',o≠.e v s'):¬tT K mg env s o σ H Q:=by
 rintro ⟨ρ,_,_,w⟩;cases o with
 |e v s'=>exact h v s' rfl
 |_=>exact w
end
end M
end
section
namespace M
open PySem
theorem yg:zS=Aq:=by rw[AS];rfl
section
variable {K:KF}{mg:Str->Option Value}{ρ ρ':Own}{H H':L2.Hp}{s s':Sto}
theorem wu(hr:HR K mg ρ s H)(r:RD K mg ρ H v x)(e:ye s v=some vs):∃a xs,x=.c a/\H a=some (.b xs)/\RDs K mg ρ H vs xs:=by
 cases r with
 |E n h q=>cases e;exact⟨_,_,rfl,h,q⟩
 |@C a i h _=>
  simp only[ye]at e;split at e
  . rename_i ws hw
    cases e;obtain⟨b,xs,e1,e2,q⟩:=hr.obj i _ hw;rw[h]at e1;cases e1;exact⟨_,_,rfl,e2,q⟩
  . cases e
 |_=>cases e
theorem cT(hr:HR K mg ρ s H)(r:RD K mg ρ H v x)(e:xa s v=some vs):∃a xs,x=.c a/\(L2.SqL K H a xs\/L2.SqT K H a xs)/\RDs K mg ρ H vs xs:=by
 cases r with
 |E n h q=>cases e;exact⟨_,_,rfl,.inl (.of h),q⟩
 |m n h q=>cases e;exact⟨_,_,rfl,.inr (.of h),q⟩
 |p h=>cases e;exact⟨_,_,rfl,.inr h.sqt,RDs.ints _⟩
 |G h=>cases e;exact⟨_,_,rfl,.inl h.sql,RDs.ints _⟩
 |@C a i h _=>
  simp only[xa]at e;split at e
  . rename_i ws hw
    cases e;obtain⟨b,xs,e1,e2,q⟩:=hr.obj i _ hw;rw[h]at e1;cases e1;exact⟨_,_,rfl,.inl (.of e2),q⟩
  . cases e
 |_=>cases e
mutual
theorem RD.reads{P:Program}{w:World}{h:Heap}(ok:L2.HOk P w H h){v:Val}{x:L2.V}{u:Value}(q:RD K mg ρ H v x)(hv:v.isR=true)(r:L2.RelV x u):∃as,Reads h u v.d as/\(L2.xA v.d=false->BM ∉ as):=by
 cases q with
 |s=>cases (show u=DV from r);exact⟨[],.none,λ_=>by simp⟩
 |j b=>cases (show u=EV b from r);exact⟨[],.bool b,λ_=>by simp⟩
 |l i=>obtain⟨t,q⟩:=(show ∃t,u=Fq i t from r);cases q;exact⟨[],.int i t,λ_=>by simp⟩
 |D x=>obtain⟨t,q⟩:=(show ∃t,u=Fs x t from r);cases q;exact⟨[],.str x t,λ_=>by simp⟩
 |@E a vs xs n ha rs=>
  cases (show u=A7 a from r);obtain⟨z,its,n,rv,e⟩:=(show L2.yP P w H h a (.b xs) from ok a _ ha);obtain⟨as,q,_⟩:=RDs.reads ok rs (by simpa only[Val.isR] using hv) rv
  exact⟨a::as,.list e rfl rfl (by simpa using q),λz=>by simp[Val.d,L2.xA]at z⟩
 |@m a vs xs n ha rs=>
  cases (show u=A7 a from r);obtain⟨z,its,rv,o,e,c,n,dd⟩:=(show L2.yP P w H h a (.c xs) from ok a _ ha);obtain⟨as,q,q2⟩:=RDs.reads ok rs (by simpa only[Val.isR] using hv) rv
  exact⟨as,.tuple e c dd.1 (by simpa using q),λz=>q2 (by simpa [Val.d,L2.xA] using z)⟩
 |@B a n ha=>
  cases (show u=A7 a from r);obtain⟨z,y,vs,rv,o,es,ep,e,c,dd,k⟩:=(show L2.yP P w H h a (.i []) from ok a _ ha);cases rv;have hes:es=#[]:=by
   have h2:=k.2.1;cases hl:es.toList with
   |nil=>simpa using hl
   |cons a r=>rw[hl]at h2;cases h2
  subst hes;refine⟨[a]++[],Reads.dict (as:=[]) (bs:=[]) e c.1 dd .nil .nil,λ_=>?_⟩;have:a≠BM:=by simpa using y
  simpa using Bv this
 |p _=>cases hv
 |G _=>cases hv
 |C _ _=>cases hv
 |A _ _=>cases hv
 |F _ _=>cases hv
 |I _=>cases hv
 |J _=>cases hv
theorem RDs.reads{P:Program}{w:World}{h:Heap}(ok:L2.HOk P w H h){vs:List Val}{xs:List L2.V}{us:List Value}(p:RDs K mg ρ H vs xs)(hv:vI vs=true)(q:L2.Vals xs us):∃as,ReadsAll h us (ds vs) as/\(L2.xN (ds vs)=false->BM ∉ as):=by
 cases p with
 |d=>cases q;exact⟨[],.nil,λ_=>by simp⟩
 |a r rs=>
  cases q with
  |cons q1 q2=>
   rw[vI,cf]at hv;obtain⟨as,h1,h2⟩:=RD.reads ok r hv.1 q1;obtain⟨bs,h3,h4⟩:=RDs.reads ok rs hv.2 q2;refine⟨as++bs,.cons h1 h3,λz=>?_⟩;rw[ds,L2.xN,D8]at z;intro hm;rcases A1.mp hm with hm|hm
   . exact h2 z.1 hm
   . exact h4 z.2 hm
end
theorem uf(ok:L2.HOk P w H h)(hr:HR K mg ρ s H)(hv:(yk s v).isR=true)(r:RD K mg ρ H v x)(ru:L2.RelV x u) :
 ∃as,Reads h u (yk s v).d as/\(L2.xA (yk s v).d=false->BM ∉ as):=by
 cases v with
 |j i=>
  cases r with
  |@C a _ e0=>
  simp only[yk]at hv ⊢;split at hv
  . rename_i ws hw
    obtain⟨b,xs,e1,e2,q⟩:=hr.obj i _ hw;rw[e0]at e1;cases e1;cases (show u=A7 a from ru);obtain⟨z,its,n,rv,e⟩:=(show L2.yP P w H h a (.b xs) from ok a _ e2);obtain⟨as,q,_⟩:=RDs.reads ok q (by simpa only[Val.isR] using hv) rv
    exact⟨a::as,.list e rfl rfl (by simpa using q),λz=>by simp[Val.d,L2.xA]at z⟩
  . cases hv
 |_=>exact RD.reads ok r hv ru
theorem RDs.d6(ok:L2.HOk P w H h)(hr:HR K mg ρ s H):∀{vs} {xs} {us},RDs K mg ρ H vs xs->vI (vs.map (yk s))=true->L2.Vals xs us->∃as,ReadsAll h us (ds (vs.map (yk s))) as/\(L2.xN (ds (vs.map (yk s)))=false->BM ∉ as)
 |_,_,_,.d,_,r=>by cases r;exact⟨[],.nil,λ_=>by simp⟩
 |_,_,_,.a r rs,hv,q=>by
  cases q with
  |cons q1 q2=>
   rw[A4,vI,cf]at hv;obtain⟨as,h1,h2⟩:=uf ok hr hv.1 r q1;obtain⟨bs,h3,h4⟩:=RDs.d6 ok hr rs hv.2 q2;rw[A4];refine⟨as++bs,.cons h1 h3,λz=>?_⟩;rw[ds,L2.xN,D8]at z;intro hm;rcases A1.mp hm with hm|hm
   . exact h2 z.1 hm
   . exact h4 z.2 hm
theorem fD{v:Val}(h:∀vs,v≠.f vs):zt s v=yk s v:=by
 cases v<;>first|rfl|exact absurd rfl (h _)
theorem yy(ok:L2.HOk P w H h)(hr:HR K mg ρ s H)(hv:(zt s v).isR=true)(r:RD K mg ρ H v x)(ru:L2.RelV x u) :
 ∃as,Reads h u (zt s v).d as/\(L2.xA (zt s v).d=false->BM ∉ as):=by
 cases v with
 |f vs=>
  cases r with
  |@m a _ xs n ha rs=>
   cases (show u=A7 a from ru);obtain⟨z,its,rv,o,e,c,n,dd⟩:=(show L2.yP P w H h a (.c xs) from ok a _ ha);obtain⟨as,q,q2⟩:=RDs.d6 ok hr rs (by simpa only[zt,Val.isR] using hv) rv
   exact⟨as,.tuple e c dd.1 (by simpa using q),λz=>q2 (by simpa [zt,Val.d,L2.xA] using z)⟩
 |_=>exact(show _ from by rw[fD (λ_ h=>by cases h)]at hv ⊢;exact uf ok hr hv r ru)
mutual
theorem yp:∀{v:Val},v.isD=true->v.isR=true
 |.g,_=>rfl
 |.e _,_=>rfl
 |.c _,_=>rfl
 |.m _,_=>rfl
 |.f vs,h=>by rw[Val.isR];exact wo (by simpa only[Val.isD] using h)
 |.h vs,h=>by rw[Val.isR];exact wo (by simpa only[Val.isD] using h)
 |.p,h=>by cases h
 |.o _,h=>by cases h
 |.r _,h=>by cases h
 |.j _,h=>by cases h
 |.u _,h=>by cases h
 |.t _,h=>by cases h
theorem wo:∀{vs:List Val},nM vs=true->vI vs=true
 |[],_=>rfl
 |v::vs,h=>by rw[nM,cf]at h;rw[vI,yp h.1,wo h.2];rfl
end
mutual
theorem yM:∀{v:Val},v.isD=true->v.d.canLay0=true
 |.g,_=>rfl
 |.e _,_=>rfl
 |.c _,_=>rfl
 |.m _,h=>by simpa only[Val.isD,Val.d,FJ] using h
 |.f vs,h=>by rw[Val.d,FJ];exact xh (by simpa only[Val.isD] using h)
 |.h vs,h=>by rw[Val.d,FJ];exact xh (by simpa only[Val.isD] using h)
 |.p,h=>by cases h
 |.o _,h=>by cases h
 |.r _,h=>by cases h
 |.j _,h=>by cases h
 |.u _,h=>by cases h
 |.t _,h=>by cases h
theorem xh:∀{vs:List Val},nM vs=true->PyData.canLayAll0 (ds vs)=true
 |[],_=>rfl
 |v::vs,h=>by rw[nM,cf]at h;rw[ds,PyData.canLayAll0,yM h.1,xh h.2];rfl
end
theorem uv(hr:HR K mg ρ s H)(r:RDs K mg ρ H vs xs)(w:yV K mg (RD K mg) ρ H (newList m vs s) Q):∀p,H p=none->Q (.c p) (L2.upd H p (.b xs)):=λp hp=>by
 cases m with
 |true=>exact w _ _ _ (Ext.own hr hp _) (hr.own hp r) (.C (sg hr p) (by rw[L2.zM];rfl))
 |false=>exact w _ _ _ (Ext.new hr hp _) (hr.more hp _) (.E (hr.new hp) L2.zM (r.mono (Ext.new hr hp _)))
theorem oE(hr:HR K mg ρ s H)(r:RDs K mg ρ H vs xs)(w:yV K mg (RD K mg) ρ H (.e (.f vs) s) Q):∀p,H p=none->Q (.c p) (L2.upd H p (.c xs)):=λp hp=>
 w _ _ _ (Ext.new hr hp _) (hr.more hp _) (.m (hr.new hp) L2.zM (r.mono (Ext.new hr hp _)))
theorem Ext.same(hr:HR K mg ρ s H)(e:L2.xq H H'):Ext ρ H ρ H':=⟨⟨[],by simp,λa ha=>by cases ha⟩,rfl,λa o h _=>e a o h,λa ha=>by obtain⟨o,q⟩:=hr.trk ha;rw[q,e a o q]⟩
theorem HR.same(hr:HR K mg ρ s H)(e:L2.xq H H'):HR K mg ρ s H':=⟨hr.f,hr.v,λi c q=>by
 obtain⟨a,e1,r⟩:=hr.m i c q;obtain⟨o,e2⟩:=r.there;exact⟨a,e1,r.mv (Ext.same hr e).mv ((e a _ e2).trans e2.symm)⟩,λa ha=>by
 obtain⟨⟨ys,q⟩,n⟩:=hr.d a ha;exact⟨⟨ys,e a _ q⟩,n⟩⟩
theorem uo(hr:HR K mg ρ s H)(r:RDs K mg ρ H vs xs)(w:yV K mg (RD K mg) ρ H (.e (.f vs) s) Q):L2.sG H xs Q:=λp H' e h=>by
 have hr':=hr.same e;refine w _ _ _ (Ext.same hr e) hr' (.m ⟨λhm=>?_,λhm=>?_⟩ h (r.mono (Ext.same hr e)))
 . obtain⟨i,hi,q⟩:=Bs hm
   have hs:i<s.length:=by rw[<-hr'.f];exact hi
   obtain⟨b,e1,e2⟩:=hr'.m i _ (Ak hs);rw[Ak hi,q]at e1;cases e1;have:=e2.hk;rw[h]at this;exact absurd this (A8 0)
 . obtain⟨⟨ys,q⟩,_⟩:=hr'.d _ hm
   rw[h]at q;cases q
end
section
variable (K:KF)(mg:Str->Option Value)
def rM2(g:Val->Val->Sto->Out Val):L2.R2:=λx y H Q=>∃ρ s v w,HR K mg ρ s H/\RD K mg ρ H v x/\RD K mg ρ H w y/\yV K mg (RD K mg) ρ H (g v w s) Q
def rMc(g:List Val->Sto->Out Val):List L2.V->L2.Hp->L2.VK->Prop:=λxs H Q=>∃ρ s vs,HR K mg ρ s H/\RDs K mg ρ H vs xs/\yV K mg (RD K mg) ρ H (g vs s) Q
end
section
variable {X:L2.Cx}{k:Nat}
theorem zN(hr:HR K mg ρ s H)(r:RD K mg ρ H v x)(w:yV K mg (RD K mg) ρ H (.e v s) Q):Q x H:=w _ _ _ Ext.refl hr r
theorem lP m:L2.OpR X (Br .Add) (rM2 X.K X.d (binOp m .a)):=by
 intro pins s σ H x y v u Q I rx ry h;obtain⟨ρ,t,a,b,hr,ra,rb,w⟩:=h;simp only[binOp]at w;split at w
 . cases ra;cases rb
   exact L2.Xl pins s σ H _ _ v u Q I rx ry ⟨_,_,rfl,rfl,zN hr (.l _) w⟩
 . split at w
   . rename_i hz
     cases ra;cases rb;exact L2.rq pins s σ H _ _ v u Q I rx ry ⟨_,_,rfl,rfl,by rw[<-yg];exact hz,zN hr (.D _) w⟩
   . exact w.elim
 . split at w
   . rename_i hz
     cases ra with
     |m n1 h1 q1=>
      cases rb with
      |m n2 h2 q2=>
       refine L2.dC pins s σ H _ _ v u Q I rx ry ⟨_,_,_,_,rfl,rfl,h1,h2,?_,uo hr (q1.append q2) w⟩;rw[<-q1.length,<-q2.length,<-yg];exact hz
   . exact w.elim
 . split at w
   . rename_i ea eb
     split at w
     . rename_i hz
       obtain⟨p1,xs,rfl,h1,q1⟩:=wu hr ra ea;obtain⟨p2,ys,rfl,h2,q2⟩:=wu hr rb eb;refine L2.lU pins s σ H _ _ v u Q I rx ry ⟨_,_,_,_,rfl,rfl,h1,h2,?_,uv hr (q1.append q2) w⟩;rw[<-q1.length,<-q2.length,<-yg];exact hz
     . exact w.elim
   . exact w.elim
theorem lT m:L2.OpR X (Br .Sub) (rM2 X.K X.d (binOp m .c)):=by
 intro pins s σ H x y v u Q I rx ry h;obtain⟨ρ,t,a,b,hr,ra,rb,w⟩:=h;simp only[binOp]at w;split at w
 . cases ra;cases rb
   exact L2.Xq pins s σ H _ _ v u Q I rx ry ⟨_,_,rfl,rfl,zN hr (.l _) w⟩
 . exact w.elim
theorem lR m:L2.OpR X (Br .Mult) (rM2 X.K X.d (binOp m .b)):=by
 intro pins s σ H x y v u Q I rx ry h;obtain⟨ρ,t,a,b,hr,ra,rb,w⟩:=h;simp only[binOp]at w;split at w
 . split at w
   . rename_i hz
     cases ra;cases rb;exact L2.Xn pins s σ H _ _ v u Q I rx ry ⟨_,_,rfl,rfl,hz,zN hr (.l _) w⟩
   . exact w.elim
 . split at w
   . rename_i hz
     obtain⟨z1,z2,z3,z4⟩:=hz;cases ra with
     |m n1 h1 q1=>
      cases rb;refine L2.aU pins s σ H _ _ v u Q I rx ry ⟨_,_,_,rfl,rfl,h1,z1,z2,?_,?_,uo hr (q1.rep _) w⟩
      . intro e;subst e;cases q1;exact z3 rfl
      . rw[<-q1.length];exact z4
   . exact w.elim
 . split at w
   . rename_i ea
     split at w
     . rename_i hz
       obtain⟨z1,z2,z3⟩:=hz;obtain⟨p1,xs,rfl,h1,q1⟩:=wu hr ra ea;cases rb;refine L2.Xp pins s σ H _ _ v u Q I rx ry ⟨_,_,_,rfl,rfl,h1,by omega,by omega,?_,uv hr (q1.rep _) w⟩
       rw[<-q1.length,<-yg];exact z3
     . exact w.elim
   . exact w.elim
 . exact w.elim
theorem ni m:L2.OpR X (Br .FloorDiv) (rM2 X.K X.d (binOp m .e)):=by
 intro pins s σ H x y v u Q I rx ry h;obtain⟨ρ,t,a,b,hr,ra,rb,w⟩:=h;simp only[binOp]at w;split at w
 . split at w
   . rename_i hz
     cases ra;cases rb;exact L2.aT pins s σ H _ _ v u Q I rx ry ⟨_,_,rfl,rfl,hz,zN hr (.l _) w⟩
   . exact w.elim
 . exact w.elim
theorem lQ m:L2.OpR X (Br .Mod) (rM2 X.K X.d (binOp m .d)):=by
 intro pins s σ H x y v u Q I rx ry h;obtain⟨ρ,t,a,b,hr,ra,rb,w⟩:=h;simp only[binOp]at w;split at w
 . split at w
   . rename_i hz
     cases ra;cases rb;exact L2.Xm pins s σ H _ _ v u Q I rx ry ⟨_,_,rfl,rfl,hz,zN hr (.l _) w⟩
   . exact w.elim
 . exact w.elim
theorem lS m:L2.OpR X (Br .Pow) (rM2 X.K X.d (binOp m .f)):=by
 intro pins s σ H x y v u Q I rx ry h;obtain⟨ρ,t,a,b,hr,ra,rb,w⟩:=h;simp only[binOp]at w;split at w
 . split at w
   . rename_i hz
     cases ra;cases rb;exact L2.Xo pins s σ H _ _ v u Q I rx ry ⟨_,_,rfl,rfl,hz,zN hr (.l _) w⟩
   . exact w.elim
 . exact w.elim
end
end M
end
section
namespace L2
open PySem PyProof PyProof.Rows
section
variable {κ:Type} [DecidableEq κ]
theorem KV.length{kvs:List (κ × V)}{vs:List (κ × Value)}(r:KV kvs vs):kvs.length=vs.length:=FX r
end
section
variable {X:Cx}{pins:List (Addr × Obj)}{σ:St}{H:Hp}{s:Shared}{a:Addr}{y v:V}{u r:Value}{o:Option V}{A:Around}{E:Value->Shared->Prop}
theorem Inv.big(I:Inv X pins σ H s):BM<s.heap.objs.size:=by have h:AI<s.heap.objs.size:=(I.mod.c.keeps I.bk).lt;exact Nat.lt_trans (by decide) h
end
theorem fE(h:Heap)(hb:BM<h.objs.size):yP P w H (h.push {cls:=.type "dict",data:=.dict #[]}) h.objs.size (.i []):=
 ⟨Cb _,beq_eq_false_iff_ne.mpr (Bv (AG hb)),[],.nil,Heap.DictOf.new h⟩
theorem fF(h:Heap)(hb:BM<h.objs.size):yP P w H (h.push {cls:=.type "dict",data:=.dict #[]}) h.objs.size (.j []):=
 ⟨Cb _,beq_eq_false_iff_ne.mpr (Bv (AG hb)),[],.nil,_,#[],0,AB _ rfl,⟨rfl,rfl,rfl⟩,rfl,rfl,List.nodup_nil⟩
def Wf:TE:=λ_ H Q=>∀p,H p=none->Q (.c p) (upd H p (.i []))
def Wg:TE:=λ_ H Q=>∀p,H p=none->Q (.c p) (upd H p (.j []))
section
variable {X:Cx}{pos:Pos}
theorem da:PE X (.Dict [] [] pos) Wf:=λpins s σ H Q I h=>
 Fc ⟨.c s.heap.objs.size,_,I.laid (a:=s.heap.objs.size) (o:=.i []) (t':=s.toks) (λ_ _ q=>nx _ q) (Ab _) (fE s.heap I.big),rfl,h _ (I.C.fresh (Ab _))⟩
theorem de:PE X (.Dict [] [] pos) Wg:=λpins s σ H Q I h=>
 Fc ⟨.c s.heap.objs.size,_,I.laid (a:=s.heap.objs.size) (o:=.j []) (t':=s.toks) (λ_ _ q=>nx _ q) (Ab _) (fF s.heap I.big),rfl,h _ (I.C.fresh (Ab _))⟩
end
end L2
end
section
namespace M
open PySem
section
variable {K:KF}{mg:Str->Option Value}{ρ:Own}{H:L2.Hp}{s:Sto}
def RO(K:KF)(mg:Str->Option Value)(ρ:Own)(H:L2.Hp):Option Val->Option L2.V->Prop
 |none,none=>True
 |some v,some x=>RD K mg ρ H v x
 |_,_=>False
theorem RO.isSome(h:RO K mg ρ H o o'):o'.isSome=o.isSome:=by
 cases o with
 |none=>cases o' with|none=>rfl|some _=>exact h.elim
 |some v=>cases o' with|none=>exact h.elim|some _=>rfl
end
end M
end
section
namespace M
open PySem
section
variable {K:KF}{mg:Str->Option Value}{ρ ρ':Own}{H H':L2.Hp}{s s':Sto}
theorem RDs.qk:∀{vs} {xs} {ns},RDs K mg ρ H vs xs->intsOf vs=some ns->xs=ns.map L2.V.d
 |_,_,_,.d,h=>by cases h;rfl
 |_,_,_,.a r rs,h=>by
  cases r with
  |l b=>
   simp only[intsOf,BC]at h;obtain⟨bs',h1,h2⟩:=h;subst h2;rw[rs.qk h1];rfl
  |_=>cases h
theorem bF(r:RDs K mg ρ H vs xs)(h:L2.atI vs i=some v):∃x,L2.atI xs i=some x/\RD K mg ρ H v x:=by unfold L2.atI at h ⊢;rw[<-r.length];obtain⟨j,h1,h2⟩:=Dn.mp h;obtain⟨x,h3,h4⟩:=r.get h2;exact⟨x,by rw[h1];exact h3,h4⟩
theorem cZ(hr:HR K mg ρ s H)(r:RD K mg ρ H v x)(h:truth s v=some b):L2.bC K x H b:=by
 have hz:∀{vs:List Val} {xs:List L2.V},RDs K mg ρ H vs xs->vs.isEmpty=xs.isEmpty:=λr=>by cases r<;>rfl
 cases r with
 |s=>cases h;rfl
 |j b=>cases h;rfl
 |l i=>cases h;rfl
 |D x=>
  simp only[truth]at h;split at h
  . cases h
    rename_i q;exact⟨by rw[<-yg];exact q,rfl⟩
  . cases h
 |m n e q=>cases h;exact .inr (.inl ⟨_,.of e,by rw[hz q]⟩)
 |E n e q=>cases h;exact .inl ⟨_,.of e,by rw[hz q]⟩
 |B n e=>cases h;exact .inr (.inr ⟨_,e,rfl⟩)
 |p _=>cases h
 |G _=>cases h
 |@C a i e _=>
  simp only[truth]at h;split at h
  . rename_i ws hw
    cases h;obtain⟨c,xs,e1,e2,q⟩:=hr.obj i _ hw;rw[e]at e1;cases e1;exact .inl ⟨_,.of e2,by rw[hz q]⟩
  . cases h
 |I _=>cases h
 |J _=>cases h
 |A _ _=>cases h
 |F _ _=>cases h
theorem U1(hr:HR K mg ρ s H)(r:RD K mg ρ H v x)(h:kindOf v=some a):(L2.uZ K H x (.type a.nm)):=by
 cases r with
 |s=>cases h;exact .d
 |j b=>cases h;exact .bl b
 |l i=>cases h;exact .c i
 |D x=>cases h;exact .f x
 |m n e q=>cases h;exact .g e
 |E n e q=>cases h;exact .b e
 |B n e=>cases h;exact .dK e
 |C e k=>
  cases h;obtain⟨xs,q⟩:=fZ k;exact .b q
 |_=>cases h
theorem Vk(h:td n=some c):n=c.nm/\c≠.e:=by unfold td at h;split at h<;>first|(cases h;exact⟨rfl,by decide⟩)|cases h
end
section
variable {X:L2.Cx}{k:Nat}
theorem Vq(h:vh d=true):L2.Za d:=by
 unfold vh at h;simp only[cf,decide_eq_true_eq,An,AD]at h;obtain⟨⟨⟨⟨h1,h2⟩,h3⟩,h4⟩,h5⟩:=h;have L:L2.sy d.depth d.weight d:=⟨h1,h2,Ab _,Ab _⟩;refine L.Ul h3 h4 λz=>?_;rcases h5 with h5|h5
 . rw[h5]at z;cases z
 . exact h5
theorem iV(hr0:L2.y9 k X.A):L2.OpR X (Bn .Eq) (rM2 X.K X.d (zU .a)):=by
 intro pins s σ H x y v u Q I rx ry h;obtain⟨ρ,t,a,b,hr,ra,rb,w⟩:=h;simp only[zU,nF]at w;split at w
 . rename_i p q
   cases ra;cases rb;have e:decide (L2.V.e p=L2.V.e q)=decide (p=q):=by rw[Co];simp
   refine L2.Zs pins s σ H _ _ v u Q I rx ry ⟨rfl,?_⟩;rw[e];exact zN hr (.j _) w
 . rename_i a ns
   cases rb with
   |p g=>
    by_cases hc:((zt t (.f a)).isD&&(Val.f (ns.map .c)).isD&&decide ((Val.f (ns.map .c)).d.depth<=60))=true
    . rw[if_pos hc]at w
      simp only[cf,decide_eq_true_eq]at hc;obtain⟨as,r1,_⟩:=yy I.C hr (yp hc.1.1) ra rx;obtain⟨its,rv,p1,_⟩:=I.tuple g.sqt;obtain⟨o,ho,hcl,n,hd⟩:=id p1;obtain⟨bs,q,_⟩:=RDs.reads I.C (RDs.ints (K:=X.K) (mg:=X.d) (ρ:=ρ) (H:=H) ns) (yp hc.1.2) rv;have r2:Reads s.heap u (Val.f (ns.map .c)).d bs:=by cases ry;exact .tuple ho hcl hd (by simpa using q)
      have hu:=hr0.b;have hm:=DJ (zt t (.f a)).d.depth (Val.f (ns.map .c)).d.depth;exact SeqAt.compareEq_reads r1 r2 (yM hc.1.1) (yM hc.1.2) (by omega) ⟨.f _,H,I,rfl,zN hr (.j _) w⟩
    . rw[if_neg hc]at w;exact w.elim
 . by_cases hc:((zt t a).isD&&(zt t b).isD&&decide ((zt t b).d.depth<=60))=true
   . rw[if_pos hc]at w
     simp only[cf,decide_eq_true_eq]at hc;obtain⟨as,r1,_⟩:=yy I.C hr (yp hc.1.1) ra rx;obtain⟨bs,r2,_⟩:=yy I.C hr (yp hc.1.2) rb ry;have hu:=hr0.b;have hm:=DJ (zt t a).d.depth (zt t b).d.depth;exact SeqAt.compareEq_reads r1 r2 (yM hc.1.1) (yM hc.1.2) (by omega) ⟨.f _,H,I,rfl,zN hr (.j _) w⟩
   . rw[if_neg hc]at w;exact w.elim
theorem ig(hr0:L2.y9 k X.A):L2.OpR X (Bn .NotEq) (rM2 X.K X.d (zU .b)):=by
 intro pins s σ H x y v u Q I rx ry h;obtain⟨ρ,t,a,b,hr,ra,rb,w⟩:=h;simp only[zU,nF]at w;split at w
 . rename_i p q
   cases ra;cases rb;have e:decide (L2.V.e p=L2.V.e q)=decide (p=q):=by rw[Co];simp
   refine L2.Zt pins s σ H _ _ v u Q I rx ry ⟨rfl,?_⟩;rw[e];exact zN hr (.j _) w
 . by_cases hc:((zt t a).isD&&(zt t b).isD&&decide ((zt t b).d.depth<=60))=true
   . rw[if_pos hc]at w
     simp only[cf,decide_eq_true_eq]at hc;obtain⟨as,r1,_⟩:=yy I.C hr (yp hc.1.1) ra rx;obtain⟨bs,r2,_⟩:=yy I.C hr (yp hc.1.2) rb ry;have hu:=hr0.b;have hm:=DJ (zt t a).d.depth (zt t b).d.depth;exact SeqAt.compareNe_reads r1 r2 (yM hc.1.1) (yM hc.1.2) (by omega) ⟨.f _,H,I,rfl,zN hr (.j _) w⟩
   . rw[if_neg hc]at w;exact w.elim
theorem RD.isNone(r:RD K mg ρ H v x):decide (x=.g)=v.isN:=by
 cases r<;>first|rfl|exact decide_eq_false (λz=>nomatch z)
theorem iZ:L2.OpR X (Bn .Lt) (rM2 X.K X.d (zU .i)):=by
 intro pins s σ H x y v u Q I rx ry h;obtain⟨ρ,t,a,b,hr,ra,rb,w⟩:=h;simp only[zU]at w;split at w
 . cases ra;cases rb
   exact L2.Vz pins s σ H _ _ v u Q I rx ry ⟨_,_,rfl,rfl,zN hr (.j _) w⟩
 . exact w.elim
theorem iY:L2.OpR X (Bn .LtE) (rM2 X.K X.d (zU .g)):=by
 intro pins s σ H x y v u Q I rx ry h;obtain⟨ρ,t,a,b,hr,ra,rb,w⟩:=h;simp only[zU]at w;split at w
 . cases ra;cases rb
   exact L2.Vy pins s σ H _ _ v u Q I rx ry ⟨_,_,rfl,rfl,zN hr (.j _) w⟩
 . exact w.elim
theorem iX:L2.OpR X (Bn .Gt) (rM2 X.K X.d (zU .h)):=by
 intro pins s σ H x y v u Q I rx ry h;obtain⟨ρ,t,a,b,hr,ra,rb,w⟩:=h;simp only[zU]at w;split at w
 . cases ra;cases rb
   exact L2.Vx pins s σ H _ _ v u Q I rx ry ⟨_,_,rfl,rfl,zN hr (.j _) w⟩
 . exact w.elim
theorem iW:L2.OpR X (Bn .GtE) (rM2 X.K X.d (zU .j)):=by
 intro pins s σ H x y v u Q I rx ry h;obtain⟨ρ,t,a,b,hr,ra,rb,w⟩:=h;simp only[zU]at w;split at w
 . cases ra;cases rb
   exact L2.Vw pins s σ H _ _ v u Q I rx ry ⟨_,_,rfl,rfl,zN hr (.j _) w⟩
 . exact w.elim
noncomputable def Cop.op:Cop->CmpOp
 |.a=>.Eq|.b=>.NotEq|.i=>.Lt|.g=>.LtE|.h=>.Gt|.j=>.GtE|.m=>.Is|.e=>.IsNot|.l=>.In|.f=>.NotIn|.k=>.In|.c=>.NotIn|.d=>.NotIn
noncomputable def okC:Cop->Bool
 |.m|.e|.l|.f|.k|.c|.d=>false
 |_=>true
theorem w6(hr0:L2.y9 k X.A):∀op:Cop,okC op=true->L2.OpR X (Bn op.op) (rM2 X.K X.d (zU op))
 |.a,_=>iV hr0
 |.b,_=>ig hr0
 |.i,_=>iZ
 |.g,_=>iY
 |.h,_=>iX
 |.j,_=>iW
 |.m,h=>by cases h
 |.e,h=>by cases h
 |.l,h=>by cases h
 |.f,h=>by cases h
 |.k,h=>by cases h
 |.c,h=>by cases h
 |.d,h=>by cases h
noncomputable def Bop.op:Bop->Operator
 |.a=>.Add|.c=>.Sub|.b=>.Mult|.e=>.FloorDiv|.d=>.Mod|.f=>.Pow|.h=>.LShift|.i=>.RShift|.g=>.BitAnd
noncomputable def okB:Bop->Bool
 |.h|.i|.g=>false
 |_=>true
theorem dB m:∀op:Bop,okB op=true->L2.OpR X (Br op.op) (rM2 X.K X.d (binOp m op))
 |.a,_=>lP m
 |.c,_=>lT m
 |.b,_=>lR m
 |.e,_=>ni m
 |.d,_=>lQ m
 |.f,_=>lS m
 |.h,h=>by cases h
 |.i,h=>by cases h
 |.g,h=>by cases h
theorem VY:L2.IxR X (rM2 X.K X.d wI):=by
 intro value slice pins s σ H x y v u Q I rx ry h hs;obtain⟨ρ,t,a,b,hr,ra,rb,w⟩:=h;simp only[wI]at w;split at w
 . split at w
   . rename_i vs e
     split at w
     . rename_i z hz
       obtain⟨p,xs,rfl,hq,q⟩:=cT hr ra e;cases rb;obtain⟨xz,h1,h2⟩:=bF q hz;refine L2.Yu value slice pins s σ H _ _ v u Q I rx ry ?_ hs;rcases hq with hq|hq
       . exact .inl ⟨p,xs,_,xz,rfl,rfl,hq,h1,zN hr h2 w⟩
       . exact .inr (.inl ⟨p,xs,_,xz,rfl,rfl,hq,h1,zN hr h2 w⟩)
     . exact w.elim
   . exact w.elim
 . exact w.elim
end
end M
end
section
namespace M
open PySem
noncomputable def Bf.nm:Bf->Str
 |.h=>"len"|.r=>"all"|.s=>"any"|.e=>"tuple"|.k=>"list"|.g=>"sorted"|.a=>"repr"|.i=>"max"|.l=>"min"|.q=>"sum"|.o=>"int"|.j=>"isinstance"|.b=>"divmod"|.p=>"str"|.c=>"sorted"|.n=>"min"|.d=>"sorted"|.m=>"min"
noncomputable def Bf.val:Bf->Value
 |.h=>.builtin "len"|.r=>.builtin "all"|.s=>.builtin "any"|.e=>.type "tuple"|.k=>.type "list"|.g=>.builtin "sorted"|.a=>.builtin "repr"|.i=>.builtin "max"|.l=>.builtin "min"|.q=>.builtin "sum"|.o=>.type "int"
 |.j=>.builtin "isinstance"|.b=>.builtin "divmod"|.p=>.type "str"|.c=>.builtin "sorted"|.n=>.builtin "min"|.d=>.builtin "sorted"|.m=>.builtin "min"
theorem Bf.boot:∀f:Bf,BW f.nm=some f.val
 |.h=>boot_len|.r=>PyProof.Rows.boot_all|.s=>PyProof.Rows.boot_any|.e=>Fj|.k=>PyProof.Rows.boot_list|.g=>Df|.a=>PyProof.Rows.boot_repr|.i=>PyProof.Rows.boot_max|.l=>DU
 |.q=>PyProof.Rows.boot_sum|.o=>PyProof.Rows.boot_int|.j=>PyProof.Rows.boot_isinstance|.b=>PyProof.Rows.boot_divmod|.p=>PyProof.Rows.boot_str|.c=>Df|.n=>DU|.d=>Df|.m=>DU
section
variable {X:L2.Cx}{k:Nat}{m:Bool}
theorem tD(r:RDs K mg ρ H [v] xs):∃x,xs=[x]/\RD K mg ρ H v x:=by
 cases r with
 |a r1 r2=>cases r2;exact⟨_,rfl,r1⟩
theorem i3(r:RDs K mg ρ H [v,w] xs):∃x y,xs=[x,y]/\RD K mg ρ H v x/\RD K mg ρ H w y:=by
 cases r with
 |a r1 r2=>
  obtain⟨y,rfl,r3⟩:=tD r2;exact⟨_,_,rfl,r1,r3⟩
theorem gh:L2.yO X (.builtin "len") (rMc X.K X.d (blt .h m)):=by
 intro pins s σ H xs us Q I r h;obtain⟨ρ,t,vs,hr,rv,w⟩:=h;simp only[blt]at w;split at w
 . split at w
   . rename_i hz
     obtain⟨x,rfl,rx⟩:=tD rv;cases rx;exact L2.pV pins s σ H _ us Q I r ⟨_,rfl,by rw[<-yg];exact hz,zN hr (.l _) w⟩
   . exact w.elim
 . split at w
   . rename_i e
     obtain⟨x,rfl,rx⟩:=tD rv;obtain⟨p,ys,rfl,hq,q⟩:=cT hr rx e;refine L2.pU pins s σ H _ us Q I r ⟨p,ys,rfl,hq,?_⟩;rw[<-q.length];exact zN hr (.l _) w
   . exact w.elim
 . exact w.elim
theorem mn:L2.yO X (.type "tuple") (rMc X.K X.d (blt .e m)):=by
 intro pins s σ H xs us Q I r h;obtain⟨ρ,t,vs,hr,rv,w⟩:=h;simp only[blt]at w;split at w
 . obtain⟨x,rfl,rx⟩:=tD rv
   cases rx with
   |m n e q=>exact L2.uC pins s σ H _ us Q I r ⟨_,_,rfl,.inr ⟨.of e,zN hr (.m n e q) w⟩⟩
 . split at w
   . rename_i e
     obtain⟨x,rfl,rx⟩:=tD rv;obtain⟨p,ys,rfl,hq,q⟩:=wu hr rx e;exact L2.uC pins s σ H _ us Q I r ⟨p,ys,rfl,.inl ⟨.of hq,oE hr q w⟩⟩
   . exact w.elim
 . exact w.elim
theorem gm(hr0:L2.y9 k X.A):L2.yO X (.builtin "repr") (rMc X.K X.d (blt .a m)):=by
 intro pins s σ H xs us Q I r h;obtain⟨ρ,t,vs,hr,rv,w⟩:=h;simp only[blt]at w;split at w
 . rename_i v
   split at w
   . rename_i hc
     rw[cf]at hc;obtain⟨x,rfl,rx⟩:=tD rv;obtain⟨u,rfl,ru⟩:=L2.vals1 r;have S:=Vq hc.2;have q:Q (.e (zt t v).d.shown) H:=zN hr (.D _) w;have fin:∀(tk':Tok) (tk:Nat),L2.EP X pins σ Q (.str (zt t v).d.shown tk') {s with toks:=tk}:=λ_ tk=>⟨.e _,H,I.tok _,⟨_,rfl⟩,q⟩
     obtain⟨as,R,hs⟩:=yy I.C hr hc.1 rx ru;have fr:∀a,u=.ref a->wpAny (model X.f X.w) X.A (call (.builtin "repr") [u]) (L2.EP X pins σ Q) X.j s:=λa e=>by subst e;refine repr_of_reads' R S.sh (λz=>hs (S.a z)) hr0.d ?_ (λ_ _ e=>e) (λh' u tk hk=>⟨.e _,H,I.kept hk,⟨_,rfl⟩,q⟩) S.ln;have:=S.dp;have:=hr0.b;omega
     cases rx with
     |s=>cases (show u=DV from ru);exact PySem.P.repr_of_none (fin _ _)
     |j b=>cases (show u=EV b from ru);exact PySem.P.repr_of_bool (fin _ _)
     |l i=>obtain⟨t',z⟩:=(show ∃t,u=Fq i t from ru);cases z;exact PySem.P.repr_of_int (by simpa [zt,yk,Val.d,PyData.showable] using S.sh) (fin _ _)
     |D x=>obtain⟨t',z⟩:=(show ∃t,u=Fs x t from ru);cases z;exact PySem.P.repr_of_str (fin _ _) S.ln
     |m _ _ _=>exact fr _ ru
     |E _ _ _=>exact fr _ ru
     |B _ _=>exact fr _ ru
     |C _ _=>exact fr _ ru
     |p _=>exact fr _ ru
     |G _=>exact fr _ ru
     |I _=>exact fr _ ru
     |J _=>exact absurd hc.1 (by simp[zt,yk,Val.isR])
     |A _ _=>exact fr _ ru
     |F _ _=>exact fr _ ru
   . exact w.elim
 . exact w.elim
theorem gj(hc:X.i=true):L2.yO X (.builtin "max") (rMc X.K X.d (blt .i m)):=by
 intro pins s σ H xs us Q I r h;obtain⟨ρ,t,vs,hr,rv,w⟩:=h;simp only[blt]at w;split at w
 . obtain⟨x,y,rfl,rx,ry⟩:=i3 rv
   cases rx;cases ry;exact L2.jj hc pins s σ H _ us Q I r ⟨_,_,rfl,zN hr (.l _) w⟩
 . split at w
   . rename_i ns en
     split at w
     . rename_i hn
       obtain⟨x,rfl,rx⟩:=tD rv;cases rx with
       |m n e q=>
        rw[q.qk en]at e;exact L2.jm hc pins s σ H _ us Q I r ⟨_,ns,rfl,.of e,hn,zN hr (.l _) w⟩
     . exact w.elim
   . exact w.elim
 . split at w
   . rename_i e
     split at w
     . rename_i ns en
       split at w
       . rename_i hn
         obtain⟨x,rfl,rx⟩:=tD rv;obtain⟨p,ys,rfl,hq,q⟩:=wu hr rx e;rw[q.qk en]at hq;exact L2.jk hc pins s σ H _ us Q I r ⟨p,ns,rfl,.of hq,hn,zN hr (.l _) w⟩
       . exact w.elim
     . exact w.elim
   . exact w.elim
 . exact w.elim
theorem gq(hc:X.i=true):L2.yO X (.builtin "sum") (rMc X.K X.d (blt .q m)):=by
 intro pins s σ H xs us Q I r h;obtain⟨ρ,t,vs,hr,rv,w⟩:=h;simp only[blt]at w;split at w
 . split at w
   . rename_i e
     split at w
     . rename_i ns en
       split at w
       . rename_i hn
         obtain⟨x,rfl,rx⟩:=tD rv;obtain⟨p,ys,rfl,hq,q⟩:=wu hr rx e;rw[q.qk en]at hq;exact L2.jq hc pins s σ H _ us Q I r ⟨p,ns,rfl,.of hq,hn,zN hr (.l _) w⟩
       . exact w.elim
     . exact w.elim
   . exact w.elim
 . exact w.elim
theorem gk(hc:X.i=true):L2.yO X (.builtin "min") (rMc X.K X.d (blt .l m)):=by
 intro pins s σ H xs us Q I r h;obtain⟨ρ,t,vs,hr,rv,w⟩:=h;simp only[blt]at w;split at w
 . obtain⟨x,y,rfl,rx,ry⟩:=i3 rv
   cases rx;cases ry;exact L2.jn hc pins s σ H _ us Q I r ⟨_,_,rfl,zN hr (.l _) w⟩
 . split at w
   . rename_i ns en
     split at w
     . rename_i hn
       obtain⟨x,rfl,rx⟩:=tD rv;cases rx with
       |m n e q=>
        rw[q.qk en]at e;exact L2.ml hc pins s σ H _ us Q I r ⟨_,ns,rfl,.of e,hn,zN hr (.l _) w⟩
     . exact w.elim
   . exact w.elim
 . split at w
   . rename_i e
     split at w
     . rename_i ns en
       split at w
       . rename_i hn
         obtain⟨x,rfl,rx⟩:=tD rv;obtain⟨p,ys,rfl,hq,q⟩:=wu hr rx e;rw[q.qk en]at hq;exact L2.jo hc pins s σ H _ us Q I r ⟨p,ns,rfl,.of hq,hn,zN hr (.l _) w⟩
       . exact w.elim
     . exact w.elim
   . exact w.elim
 . exact w.elim
theorem gg:L2.yO X (.type "int") (rMc X.K X.d (blt .o m)):=by
 intro pins s σ H xs us Q I r h;obtain⟨ρ,t,vs,hr,rv,w⟩:=h;simp only[blt]at w;split at w
 . obtain⟨x,rfl,rx⟩:=tD rv
   cases rx;exact L2.qd pins s σ H _ us Q I r (.inl ⟨_,rfl,zN hr (.l _) w⟩)
 . obtain⟨x,rfl,rx⟩:=tD rv
   cases rx;exact L2.qd pins s σ H _ us Q I r (.inr ⟨_,rfl,zN hr (.l _) w⟩)
 . exact w.elim
theorem rF:L2.yO X (.builtin "isinstance") (rMc X.K X.d (blt .j m)):=by
 intro pins s σ H xs us Q I r h;obtain⟨ρ,t,vs,hr,rv,w⟩:=h;simp only[blt]at w;split at w
 . split at w
   . rename_i ea ec
     obtain⟨x,y,rfl,rx,ry⟩:=i3 rv;cases ry;obtain⟨e1,e2⟩:=Vk ec;subst e1;exact L2.rF pins s σ H _ us Q I r ⟨_,_,_,_,rfl,U1 hr rx ea,L2.Xe X.K _ _ e2,zN hr (.j _) w⟩
   . exact w.elim
 . exact w.elim
theorem vQ:L2.yO X (.builtin "divmod") (rMc X.K X.d (blt .b m)):=by
 intro pins s σ H xs us Q I r h;obtain⟨ρ,t,vs,hr,rv,w⟩:=h;simp only[blt]at w;split at w
 . split at w
   . rename_i hz
     obtain⟨x,y,rfl,rx,ry⟩:=i3 rv;cases rx;cases ry;exact L2.vQ pins s σ H _ us Q I r ⟨_,_,rfl,hz,oE hr (.a (.l _) (.a (.l _) .d)) w⟩
   . exact w.elim
 . exact w.elim
theorem gp:L2.yO X (.type "str") (rMc X.K X.d (blt .p m)):=by
 intro pins s σ H xs us Q I r h;obtain⟨ρ,t,vs,hr,rv,w⟩:=h;simp only[blt]at w;split at w
 . split at w
   . rename_i hz
     obtain⟨x,rfl,rx⟩:=tD rv;cases rx;exact L2.pW pins s σ H _ us Q I r ⟨_,rfl,hz,zN hr (.D _) w⟩
   . exact w.elim
 . exact w.elim
noncomputable def okF:Bf->Bool
 |.r|.s|.k|.g|.c|.n|.d|.m=>false
 |_=>true
theorem bG(hc:X.i=true)(hr0:L2.y9 k X.A):∀f m,okF f=true->L2.yO X f.val (rMc X.K X.d (blt f m))
 |.h,_,_=>gh
 |.r,_,h=>by cases h
 |.s,_,h=>by cases h
 |.e,_,_=>mn
 |.k,_,h=>by cases h
 |.g,_,h=>by cases h
 |.a,_,_=>gm hr0
 |.i,_,_=>gj hc
 |.l,_,_=>gk hc
 |.q,_,_=>gq hc
 |.o,_,_=>gg
 |.j,_,_=>rF
 |.b,_,_=>vQ
 |.p,_,_=>gp
 |.c,_,h=>by cases h
 |.d,_,h=>by cases h
 |.n,_,h=>by cases h
 |.m,_,h=>by cases h
end
end M
end
section
namespace M
open PySem
noncomputable def Out.isOk{α:Type}:Out α->Bool
 |.e _ _=>true
 |.g _ _ _|.d=>false
theorem zF{o:Out α}(h:o.isOk=false)v s:o≠.e v s:=λe=>by subst e;cases h
noncomputable def plain:Expr->Bool
 |.Starred ..|.Set ..|.Slice ..|.SetComp ..=>false
 |_=>true
theorem zR(h:plain e=true):L2.noStar e=true:=by cases e<;>first|rfl|cases h
theorem yq(h:plain e=true):CK op e=false:=by cases e<;>first|rfl|cases h
theorem dt(h:plain e=true):L2.kO e:=by intro o i;cases e<;>first|rfl|cases h
theorem zm(h:plain e=true)x:AU e env x=pure x:=by cases e<;>first|rfl|cases h
noncomputable def sZ:Expr->Bool
 |.Call (.Name _ _) [] [] _=>false
 |_=>true
theorem ua(h:sZ o=true):CM o name env (eval o env)=eval o env:=by
 unfold CM;split
 . cases h
 . rfl
noncomputable def plainT:Expr->Bool
 |.UnaryOp .Not _ _|.BoolOp ..|.IfExp ..|.Compare ..=>false
 |_=>true
theorem qx(h:plainT e=true)whole:isTrue e env whole=(do let v <-whole;standAt e.pos;holding [v] (truthy v)):=by
 cases e with
 |UnaryOp op a p=>cases op<;>first|rfl|cases h
 |_=>first|rfl|cases h
def zc:List Expr->Bool
 |[]=>true
 |e::es=>plain e&&zc es
theorem yr:∀{es} {pos} {env},zc es=true->(backTo pos (AF es env)).any (·.1)=false
 |[],_,_,_=>rfl
 |e::es,pos,env,h=>by
  rw[zc,cf]at h;rw[L2.zd (zR h.1)];show (false||(backTo pos (AF es env)).any (·.1))=false
  rw[yr h.2];rfl
section
variable {K:KF}{mg:Str->Option Value}{env:Env}{s s1:Sto}{ρ ρ':Own}{H H':L2.Hp}
theorem yV.mono(w:yV K mg R ρ H o Q)(x:Ext ρ H ρ' H')(h:HR K mg ρ' s1 H'):yV K mg R ρ' H' o Q:=by
 cases o with
 |e v s'=>exact λρ2 y H2 x2 h2 r2=>w ρ2 y H2 (x.trans h x2) h2 r2
 |_=>exact w
end
section
variable {X:L2.Cx}{env:Env}{s:Sto}{E a b c:Expr}
theorem zK{o:Out Val}(h:∀v s',o≠.e v s'):L2.PE X E (tV X.K X.d env s o):=yU λ_ _ _=>Uz h
theorem un1{g:Val->Sto->Out Val}(h:L2.PE X a (tV X.K X.d env s o))(rule:∀ta,L2.PE X a ta->L2.PE X E (L2.tUn r ta))
 (op:∀ρ H s1 v x Q,HR X.K X.d ρ s1 H->RD X.K X.d ρ H v x->yV X.K X.d (RD X.K X.d) ρ H (g v s1) Q->r x H Q):L2.PE X E (tV X.K X.d env s (o.bind g)):=by
 cases o with
 |e v s1=>exact zT (rule _ h) λσ H Q ⟨ρ,hr,er,w⟩=>⟨ρ,hr,er,λρ1 x H1 x1 hr1 r1=>op ρ1 H1 s1 v x Q hr1 r1 (w.mono x1 hr1)⟩
 |g _ _ _=>exact zK (zF rfl)
 |d=>exact zK (zF rfl)
theorem YO{f2:Sto->Out Val}(h1:L2.PE X a (tV X.K X.d env s o))(h2:∀s1,L2.PE X b (tV X.K X.d env s1 (f2 s1)))
 (rule:∀ta tb,L2.PE X a ta->L2.PE X b tb->L2.PE X E (L2.tOp (rM2 X.K X.d g) ta tb)):L2.PE X E (tV X.K X.d env s (o.bind λx s1=>(f2 s1).bind λy s2=>g x y s2)):=by
 cases o with
 |e v s1=>
  show L2.PE X E (tV X.K X.d env s ((f2 s1).bind λy s2=>g v y s2));have h2':=h2 s1;cases hb:f2 s1 with
  |e w s2=>
   rw[hb]at h2';exact zT (rule _ _ h1 h2') λσ H Q ⟨ρ,hr,er,wt⟩=>⟨ρ,hr,er,λρ1 x H1 x1 hr1 r1=>⟨ρ1,hr1,er.mono x1,λρ2 y H2 x2 hr2 r2=>⟨ρ2,s2,v,w,hr2,r1.mono x2,r2,wt.mono (x1.trans hr1 x2) hr2⟩⟩⟩
  |g _ _ _=>exact zK (zF rfl)
  |d=>exact zK (zF rfl)
 |g _ _ _=>exact zK (zF rfl)
 |d=>exact zK (zF rfl)
theorem eA{op op':Cop}{o:Out Val}{f2 f3:Sto->Out Val}{k:Nat}{pos:Pos}(k1:okC op=true)(k2:okC op'=true)(hr0:L2.y9 k X.A)(h1:L2.PE X a (tV X.K X.d env s o))(h2:∀s1,L2.PE X b (tV X.K X.d env s1 (f2 s1)))(h3:∀s1,L2.PE X c (tV X.K X.d env s1 (f3 s1)))(hm:plain c=true) :
 L2.PE X (.Compare a [op.op,op'.op] [b,c] pos) (tV X.K X.d env s (o.bind λx s1=>(f2 s1).bind λy s2=>(zU op x y s2).bind λr s3=>match r with
  |.e true=>(f3 s3).bind λz s4=>zU op' y z s4
  |.e false=>.e (.e false) s3
  |_=>.d)):=by
 cases o with
 |e v s1=>
  have h2':=h2 s1;show L2.PE X _ (tV X.K X.d env s ((f2 s1).bind _));cases hb:f2 s1 with
  |e w s2=>
   rw[hb]at h2';show L2.PE X _ (tV X.K X.d env s ((zU op v w s2).bind _));cases hc:zU op v w s2 with
   |e r s3=>
    cases r with
    |e t=>
     have h3':=h3 s3;have rule:=L2.dX (pos:=pos) (w6 hr0 op k1) (w6 hr0 op' k2) h1 h2' h3' (show F2 [op.op,op'.op] [b,c]=false from yq hm);refine zT rule λσ H Q ⟨ρ,hr,er,wt⟩=>⟨ρ,hr,er,λρ1 x H1 x1 hr1 r1=>⟨ρ1,hr1,er.mono x1,λρ2 y H2 x2 hr2 r2=>⟨ρ2,s2,v,w,hr2,r1.mono x2,r2,?_⟩⟩⟩;rw[hc];intro ρ3 z H3 x3 hr3 r3;cases r3;refine⟨t,rfl,?_⟩;have xx:=(x1.trans hr1 x2).trans hr2 x3;have wt':=wt.mono xx hr3;cases t with
     |true=>
      rw[if_pos rfl];refine⟨ρ3,hr3,er.mono xx,?_⟩;have wt2:yV X.K X.d (RD X.K X.d) ρ3 H3 ((f3 s3).bind λz s4=>zU op' w z s4) Q:=wt';cases hz:f3 s3 with
      |e u s4=>
       rw[hz]at wt2;exact λρ4 q H4 x4 hr4 r4=>⟨ρ4,s4,w,u,hr4,(r2.mono x3).mono x4,r4,wt2.mono x4 hr4⟩
      |g _ _ _=>rw[hz]at wt2;exact wt2
      |d=>rw[hz]at wt2;exact wt2
     |false=>
      rw[if_neg Ae];exact zN hr3 (.j false) wt'
    |_=>exact zK (zF rfl)
   |g _ _ _=>exact zK (zF rfl)
   |d=>exact zK (zF rfl)
  |g _ _ _=>exact zK (zF rfl)
  |d=>exact zK (zF rfl)
 |g _ _ _=>exact zK (zF rfl)
 |d=>exact zK (zF rfl)
theorem XJ{o:Out Val}{pos:Pos}(h:L2.PE X a (tV X.K X.d env s o)):L2.PE X (.UnaryOp .USub a pos) (tV X.K X.d env s (o.bind λx s1=>match x with|.c i=>.e (.c (-i)) s1|_=>.d)):=by
 refine un1 h (λta q=>L2.UN L2.Wv q) λρ H s1 v x Q hr r w=>?_;cases r with
 |l i=>exact⟨i,rfl,zN hr (.l _) w⟩
 |_=>exact w.elim
theorem XM{o:Out Val}{pos:Pos}(h:L2.PE X a (tV X.K X.d env s o)):L2.PE X (.UnaryOp .Not a pos) (tV X.K X.d env s (o.bind λx s1=>match x with|.e b=>.e (.e !b) s1|_=>.d)):=by
 refine un1 (r:=λx H Q=>∃c,x=.f c/\Q (.f (!c)) H) h (λta q=>L2.WE q) λρ H s1 v x Q hr r w=>?_;cases r with
 |j i=>exact⟨i,rfl,zN hr (.j _) w⟩
 |_=>exact w.elim
theorem fw{rest:List Expr}{o:Out Val}{f2:Sto->Out Val}{pos:Pos}(h1:L2.PE X a (tV X.K X.d env s o))(h2:∀s1,L2.PE X (.BoolOp .And (b::rest) pos) (tV X.K X.d env s1 (f2 s1))) :
 L2.PE X (.BoolOp .And (a::b::rest) pos) (tV X.K X.d env s (o.bind λx s1=>match x with|.e true=>f2 s1|.e false=>.e (.e false) s1|_=>.d)):=by
 cases o with
 |e v s1=>
  refine zT (L2.X9 h1 (h2 s1)) λσ H Q ⟨ρ,hr,er,wt⟩=>⟨ρ,hr,er,λρ1 x H1 x1 hr1 r1=>?_⟩;have wt':=wt.mono x1 hr1;cases r1 with
  |j t=>
   refine⟨t,rfl,?_⟩;cases t with
   |true=>exact L2.rZ (⟨ρ1,hr1,er.mono x1,wt'⟩)
   |false=>exact L2.uq (zN hr1 (.j _) wt')
  |_=>exact wt'.elim
 |g _ _ _=>exact zK (zF rfl)
 |d=>exact zK (zF rfl)
theorem Ve{rest:List Expr}{o:Out Val}{f2:Sto->Out Val}{pos:Pos}(h1:L2.PE X a (tV X.K X.d env s o))(h2:∀s1,L2.PE X (.BoolOp .Or (b::rest) pos) (tV X.K X.d env s1 (f2 s1))) :
 L2.PE X (.BoolOp .Or (a::b::rest) pos) (tV X.K X.d env s (o.bind λx s1=>match truth s1 x with|some false=>f2 s1|some true=>.e x s1|dS=>.d)):=by
 cases o with
 |e v s1=>
  refine zT (L2.WG h1 (h2 s1)) λσ H Q ⟨ρ,hr,er,wt⟩=>⟨ρ,hr,er,λρ1 x H1 x1 hr1 r1=>?_⟩;have wt':yV X.K X.d (RD X.K X.d) ρ1 H1 (match truth s1 v with|some false=>f2 s1|some true=>.e v s1|dS=>.d) Q:=wt.mono x1 hr1
  cases ht:truth s1 v with
  |none=>rw[ht]at wt';exact wt'.elim
  |some t=>
   rw[ht]at wt';refine⟨t,cZ hr1 r1 ht,?_⟩;cases t with
   |true=>exact L2.rZ (zN hr1 r1 wt')
   |false=>exact L2.uq (⟨ρ1,hr1,er.mono x1,wt'⟩)
 |g _ _ _=>exact zK (zF rfl)
 |d=>exact zK (zF rfl)
theorem uz{o:Out (List Val)}(h:∀v s',o≠.e v s'):L2.PA X es (tVs X.K X.d env s o):=UI λ_ _ _=>Wj h
theorem jD:L2.PA X [] (tVs X.K X.d env s (.e [] s)):=dP L2.yl λσ H Q ⟨ρ,hr,er,wt⟩=>wt ρ [] H Ext.refl hr .d
theorem nO{f2:Sto->Out (List Val)}(hp:plain a=true)(h1:L2.PE X a (tV X.K X.d env s o))(h2:∀s1,L2.PA X es (tVs X.K X.d env s1 (f2 s1))) :
 L2.PA X (a::es) (tVs X.K X.d env s (o.bind λv s1=>(f2 s1).bind λvs s2=>.e (v::vs) s2)):=by
 cases o with
 |e v s1=>
  have h2':=h2 s1;show L2.PA X _ (tVs X.K X.d env s ((f2 s1).bind _));cases hb:f2 s1 with
  |e ws s2=>
   rw[hb]at h2';exact dP (L2.pac h1 h2' (zR hp)) λσ H Q ⟨ρ,hr,er,wt⟩=>⟨ρ,hr,er,λρ1 x H1 x1 hr1 r1=>⟨ρ1,hr1,er.mono x1,λρ2 y H2 x2 hr2 r2=>wt ρ2 _ H2 (x1.trans hr1 x2) hr2 (.a (r1.mono x2) r2)⟩⟩
  |g _ _ _=>exact uz (zF rfl)
  |d=>exact uz (zF rfl)
 |g _ _ _=>exact uz (zF rfl)
 |d=>exact uz (zF rfl)
theorem m9(h:L2.PA X es (tVs X.K X.d env s o)):L2.PE X (.Tuple es k pos) (tV X.K X.d env s (o.bind λvs s1=>if vs.length<=zS then .e (.f vs) s1 else .d)):=by
 cases o with
 |e vs s1=>
  refine zT (L2.WI h) λσ H Q ⟨ρ,hr,er,wt⟩=>⟨ρ,hr,er,λρ1 xs H1 x1 hr1 r1=>?_⟩;have wt':yV X.K X.d (RD X.K X.d) ρ1 H1 (if vs.length<=zS then .e (.f vs) s1 else .d) Q:=wt.mono x1 hr1
  by_cases hz:vs.length<=zS
  . rw[if_pos hz]at wt'
    exact⟨by rw[<-r1.length,<-yg];exact hz,oE hr1 r1 wt'⟩
  . rw[if_neg hz]at wt';exact wt'.elim
 |g _ _ _=>exact zK (zF rfl)
 |d=>exact zK (zF rfl)
theorem eC(h:L2.PA X es (tVs X.K X.d env s o)):L2.PE X (.List es pos) (tV X.K X.d env s (o.bind λvs s1=>if vs.length<=zS then newList m vs s1 else .d)):=by
 cases o with
 |e vs s1=>
  refine zT (L2.tw h) λσ H Q ⟨ρ,hr,er,wt⟩=>⟨ρ,hr,er,λρ1 xs H1 x1 hr1 r1=>?_⟩;have wt':yV X.K X.d (RD X.K X.d) ρ1 H1 (if vs.length<=zS then newList m vs s1 else .d) Q:=wt.mono x1 hr1
  by_cases hz:vs.length<=zS
  . rw[if_pos hz]at wt'
    exact⟨by rw[<-r1.length,<-yg];exact hz,uv hr1 r1 wt'⟩
  . rw[if_neg hz]at wt';exact wt'.elim
 |g _ _ _=>exact zK (zF rfl)
 |d=>exact zK (zF rfl)
theorem Vd(h:L2.PA X es (tVs X.K X.d env s o))(rule:∀t,L2.PA X es t->L2.PE X E (L2.tCB (rMc X.K X.d g) t)):L2.PE X E (tV X.K X.d env s (o.bind g)):=by
 cases o with
 |e vs s1=>exact zT (rule _ h) λσ H Q ⟨ρ,hr,er,wt⟩=>⟨ρ,hr,er,λρ1 xs H1 x1 hr1 r1=>⟨ρ1,s1,vs,hr1,r1,wt.mono x1 hr1⟩⟩
 |g _ _ _=>exact zK (zF rfl)
 |d=>exact zK (zF rfl)
theorem XI(k1:okF f=true)(hc:X.i=true)(hr0:L2.y9 k X.A)(hg:L2.Gl X f.nm)(hm:X.d f.nm=none)(hp:zc (a::es)=true)(h:L2.PA X (a::es) (tVs X.K X.d env s o)) :
 L2.PE X (.Call (.Name f.nm p) (a::es) [] pos) (tV X.K X.d env s (o.bind (blt f m))):=by
 rw[zc,cf]at hp;refine Vd h λt ht=>?_;have hb:=bG hc hr0 f m k1;have bo:=f.boot;have st:=L2.zd (es:=es) (env:=X.a) (zR hp.1);have hn:=yr (pos:=pos) (env:=X.a) hp.2;cases f with
 |e=>exact L2.y0 hb hg hm bo ht (by decide) (by decide) st hn
 |k=>exact L2.y0 hb hg hm bo ht (by decide) (by decide) st hn
 |o=>exact L2.y0 hb hg hm bo ht (by decide) (by decide) st hn
 |p=>exact L2.y0 hb hg hm bo ht (by decide) (by decide) st hn
 |_=>exact L2.u6 hb hg hm bo ht (by decide) (by decide) st hn
theorem yE{o:Out Bool}(h:∀v s',o≠.e v s'):L2.PT X E (tT X.K X.d env s o):=jR λ_ _ _=>YA h
theorem XX(hp:plainT a=true)(h:L2.PE X a (tV X.K X.d env s o)):L2.PT X a (tT X.K X.d env s o.truth):=by
 cases o with
 |e v s1=>
  refine vj (L2.mC h (qx hp)) λσ H Q ⟨ρ,hr,er,wt⟩=>⟨ρ,hr,er,λρ1 x H1 x1 hr1 r1=>?_⟩;have wt':=wt.mono x1 hr1;simp only[Out.truth,zL]at wt';cases ht:truth s1 v with
  |none=>rw[ht]at wt';exact wt'.elim
  |some b=>rw[ht]at wt';exact⟨b,cZ hr1 r1 ht,wt' _ _ _ Ext.refl hr1 rfl⟩
 |g _ _ _=>exact yE (zF rfl)
 |d=>exact yE (zF rfl)
theorem XW(h:L2.PT X a (tT X.K X.d env s o)):L2.PT X (.UnaryOp .Not a pos) (tT X.K X.d env s (o.bind λb s1=>.e (!b) s1)):=by
 cases o with
 |e v s1=>exact vj (L2.lh h) λσ H Q ⟨ρ,hr,er,wt⟩=>⟨ρ,hr,er,λρ1 x H1 x1 hr1 r1=>by cases r1;exact wt _ _ _ x1 hr1 rfl⟩
 |g _ _ _=>exact yE (zF rfl)
 |d=>exact yE (zF rfl)
theorem u9{o:Out Bool}(h:∀v s',o≠.e v s'):L2.PW X E (tT X.K X.d env s o):=US λ_ _ _=>YA h
theorem lB:L2.PW X (.BoolOp .And [] pos) (tT X.K X.d env s (.e true s)):=λwh pins sh σ H Q I ⟨ρ,hr,er,wt⟩=>PyProof.Rows.isTrue_and_nil ⟨H,I,wt _ _ _ Ext.refl hr rfl⟩
theorem iF:L2.PW X (.BoolOp .Or [] pos) (tT X.K X.d env s (.e false s)):=λwh pins sh σ H Q I ⟨ρ,hr,er,wt⟩=>PyProof.Rows.isTrue_or_nil ⟨H,I,wt _ _ _ Ext.refl hr rfl⟩
theorem eJ{f2:Sto->Out Bool}(h1:L2.PT X a (tT X.K X.d env s o))(h2:∀s1,L2.PW X (.BoolOp .And rest pos) (tT X.K X.d env s1 (f2 s1))) :
 L2.PW X (.BoolOp .And (a::rest) pos) (tT X.K X.d env s (o.bind λb s1=>if b then f2 s1 else .e false s1)):=by
 cases o with
 |e v s1=>
  intro wh pins sh σ H Q I h;obtain⟨ρ,hr,er,wt⟩:=h;refine PyProof.Rows.isTrue_and (L2.thn (h1 pins sh σ H (λc H1=>if c=true then tT X.K X.d env s1 (f2 s1) σ H1 Q else Q false H1) I ⟨ρ,hr,er,λρ1 x H1 x1 hr1 r1=>?_⟩) λc s' ⟨H1,I1,q1⟩=>?_)
  . have wt':=wt.mono x1 hr1
    cases r1;cases v with
    |true=>exact L2.rZ (⟨ρ1,hr1,er.mono x1,wt'⟩)
    |false=>exact L2.uq (wt' _ _ _ Ext.refl hr1 rfl)
  . cases c with
    |true=>exact h2 s1 wh pins s' σ H1 Q I1 q1
    |false=>exact⟨H1,I1,q1⟩
 |g _ _ _=>exact u9 (zF rfl)
 |d=>exact u9 (zF rfl)
theorem Zq{f2:Sto->Out Bool}(h1:L2.PT X a (tT X.K X.d env s o))(h2:∀s1,L2.PW X (.BoolOp .Or rest pos) (tT X.K X.d env s1 (f2 s1))) :
 L2.PW X (.BoolOp .Or (a::rest) pos) (tT X.K X.d env s (o.bind λb s1=>if b then .e true s1 else f2 s1)):=by
 cases o with
 |e v s1=>
  intro wh pins sh σ H Q I h;obtain⟨ρ,hr,er,wt⟩:=h;refine PyProof.Rows.isTrue_or (L2.thn (h1 pins sh σ H (λc H1=>if c=true then Q true H1 else tT X.K X.d env s1 (f2 s1) σ H1 Q) I ⟨ρ,hr,er,λρ1 x H1 x1 hr1 r1=>?_⟩) λc s' ⟨H1,I1,q1⟩=>?_)
  . have wt':=wt.mono x1 hr1
    cases r1;cases v with
    |true=>exact L2.rZ (wt' _ _ _ Ext.refl hr1 rfl)
    |false=>exact L2.uq (⟨ρ1,hr1,er.mono x1,wt'⟩)
  . cases c with
    |true=>exact⟨H1,I1,q1⟩
    |false=>exact h2 s1 wh pins s' σ H1 Q I1 q1
 |g _ _ _=>exact u9 (zF rfl)
 |d=>exact u9 (zF rfl)
end
end M
end
section
namespace M
open PySem
section
variable {X:L2.Cx}{env:Env}{s:Sto}{E a b c:Expr}
theorem dw{t t':L2.TO}(h:L2.PO X e t)(i:∀σ H Q,t' σ H Q->t σ H Q):L2.PO X e t':=λpins s σ H Q I q=>h pins s σ H Q I (i σ H Q q)
theorem Uv{o:Out (Option Int)}(h:∀v s',o≠.e v s'):¬tO X.K X.d env s o σ H Q:=by
 rintro ⟨ρ,_,_,w⟩;cases o with
 |e v s'=>exact h v s' rfl
 |_=>exact w
theorem n6{o:Out (Option Int)}(h:∀v s',o≠.e v s'):L2.PO X e (tO X.K X.d env s o):=λpins sh σ H Q I q=>(Uv h q).elim
theorem Vh:L2.PO X none (tO X.K X.d env s (.e none s)):=dw L2.ak λσ H Q ⟨ρ,hr,er,wt⟩=>wt _ _ _ Ext.refl hr rfl
theorem XO{o:Out Val}(h:L2.PE X a (tV X.K X.d env s o)):L2.PO X (some a) (tO X.K X.d env s (o.bind λv s1=>match v with|.c i=>.e (some i) s1|_=>.d)):=by
 cases o with
 |e v s1=>
  refine dw (L2.ao h) λσ H Q ⟨ρ,hr,er,wt⟩=>⟨ρ,hr,er,λρ1 x H1 x1 hr1 r1=>?_⟩;have wt':=wt.mono x1 hr1;cases r1 with
  |l i=>exact⟨i,rfl,wt' _ _ _ Ext.refl hr1 rfl⟩
  |_=>exact wt'.elim
 |g _ _ _=>exact n6 (zF rfl)
 |d=>exact n6 (zF rfl)
def rMs(K:KF)(mg:Str->Option Value)(m:Bool):L2.V->Option Int->Option Int->L2.Hp->L2.VK->Prop:=λx lo hi H Q=>∃ρ s v,HR K mg ρ s H/\RD K mg ρ H v x/\yV K mg (RD K mg) ρ H (mL m v lo hi none s) Q
theorem Uo m:L2.SlR X (rMs X.K X.d m):=by
 intro pins s σ H x v vl vu lo hi sl Q I rx hs pl pu h;obtain⟨ρ,t,w,hr,rw',wt⟩:=h;simp only[mL]at wt;split at wt
 . cases rw' with
   |m n e q=>exact L2.ZE pins s σ H _ v vl vu lo hi sl Q I rx hs pl pu ⟨_,_,rfl,e,uo hr (q.cut lo hi) wt⟩
 . rename_i heq
   cases heq
 . split at wt
   . rename_i e
     obtain⟨p,xs,rfl,hq,q⟩:=wu hr rw' e;exact L2.ZD pins s σ H _ v vl vu lo hi sl Q I rx hs pl pu ⟨_,_,rfl,.of hq,uv hr (q.cut lo hi) wt⟩
   . exact wt.elim
 . rename_i heq
   cases heq
theorem Vf{f2 f3 f4:Sto->Out (Option Int)}(h1:L2.PE X a (tV X.K X.d env s o))(h2:∀s1,L2.PO X lo (tO X.K X.d env s1 (f2 s1)))(h3:∀s1,L2.PO X hi (tO X.K X.d env s1 (f3 s1)))
 (h4:∀s1,L2.PO X st (tO X.K X.d env s1 (f4 s1))) (hst:(st=none/\∀s1,f4 s1=.e none s1)\/∃e,st=some e/\∀s1 s2,f4 s1≠.e none s2) :
 L2.PE X (.Subscript a (.Slice lo hi st p2) pos) (tV X.K X.d env s (o.bind λx s1=>(f2 s1).bind λl s2=>(f3 s2).bind λh s3=>(f4 s3).bind λc s4=>mL m x l h c s4)):=by
 cases o with
 |e v s1=>
  have h2':=h2 s1;show L2.PE X _ (tV X.K X.d env s ((f2 s1).bind _));cases hl:f2 s1 with
  |e l s2=>
   rw[hl]at h2';have h3':=h3 s2;show L2.PE X _ (tV X.K X.d env s ((f3 s2).bind _));cases hh:f3 s2 with
   |e h s3=>
    rw[hh]at h3';have h4':=h4 s3;show L2.PE X _ (tV X.K X.d env s ((f4 s3).bind _));rcases hst with⟨rfl,e4⟩|⟨e,rfl,e4⟩
    . rw[e4 s3]
      refine zT (L2.dk (Uo m) h1 h2' h3') λσ H Q ⟨ρ,hr,er,wt⟩=>⟨ρ,hr,er,λρ1 x H1 x1 hr1 r1=>⟨ρ1,hr1,er.mono x1,λρ2 y H2 x2 hr2 r2=>?_⟩⟩;cases r2;refine⟨ρ2,hr2,(er.mono x1).mono x2,λρ3 z H3 x3 hr3 r3=>?_⟩;cases r3;exact⟨ρ3,s3,v,hr3,(r1.mono x2).mono x3,wt.mono ((x1.trans hr1 x2).trans hr2 x3) hr3⟩
    . cases hc:f4 s3 with
      |e cc s4=>
       rw[hc]at h4';cases cc with
       |none=>exact absurd hc (e4 s3 s4)
       |some ci=>
        by_cases hv:∃vs,v=.f vs
        case neg=>
         refine zT (L2.lY h1 h2' h3' h4') λσ H Q ⟨ρ,hr,er,wt⟩=>⟨ρ,hr,er,λρ1 x H1 x1 hr1 r1=>⟨ρ1,hr1,er.mono x1,λρ2 y H2 x2 hr2 r2=>?_⟩⟩;cases r2;refine⟨ρ2,hr2,(er.mono x1).mono x2,λρ3 z H3 x3 hr3 r3=>?_⟩;cases r3;refine⟨ρ3,hr3,((er.mono x1).mono x2).mono x3,λρ4 z4 H4 x4 hr4 r4=>?_⟩;cases r4;have wt':yV X.K X.d (RD X.K X.d) ρ4 H4 (mL m v l h (some ci) s4) Q:=wt.mono (((x1.trans hr1 x2).trans hr2 x3).trans hr3 x4) hr4;have em:mL m v l h (some ci) s4=(match ye s4 v with|some vs=>if ci≠0 then newList m (L2.yG vs (L2.vU vs.length l h ci).1 ci (L2.vU vs.length l h ci).2) s4 else .d|dS=>.d):=by
          cases v with
          |f vs=>exact absurd ⟨vs,rfl⟩ hv
          |_=>rfl
         rw[em]at wt';cases hl:ye s4 v with
         |none=>rw[hl]at wt';exact wt'.elim
         |some vs=>
          rw[hl]at wt';dsimp only at wt';obtain⟨p,xs,rfl,hq,q⟩:=wu hr4 (((r1.mono x2).mono x3).mono x4) hl;by_cases c0:ci≠0
          . have wt2:yV X.K X.d (RD X.K X.d) ρ4 H4 (newList m (L2.yG vs (L2.vU vs.length l h ci).1 ci (L2.vU vs.length l h ci).2) s4) Q:=by rwa [if_pos c0]at wt'
            refine⟨p,xs,ci,rfl,.of hq,rfl,c0,?_⟩;rw[<-q.length];exact uv hr4 (q.yG _ _ _) wt2
          . rw[if_neg c0]at wt';exact wt'.elim
        refine zT (L2.ip h1 h2' h3' h4') λσ H Q ⟨ρ,hr,er,wt⟩=>⟨ρ,hr,er,λρ1 x H1 x1 hr1 r1=>⟨ρ1,hr1,er.mono x1,λρ2 y H2 x2 hr2 r2=>?_⟩⟩;cases r2;refine⟨ρ2,hr2,(er.mono x1).mono x2,λρ3 z H3 x3 hr3 r3=>?_⟩;cases r3;refine⟨ρ3,hr3,((er.mono x1).mono x2).mono x3,λρ4 z4 H4 x4 hr4 r4=>?_⟩;cases r4;have xx:=((x1.trans hr1 x2).trans hr2 x3).trans hr3 x4;have wt':yV X.K X.d (RD X.K X.d) ρ4 H4 (mL m v l h (some ci) s4) Q:=wt.mono xx hr4;have r:=((r1.mono x2).mono x3).mono x4;cases r with
        |m n e q=>
         change yV X.K X.d (RD X.K X.d) ρ4 H4 (if ci≠0/\(L2.ym (Ei _) l h ci).2<=zS then .e (.f (L2.yG _ (L2.ym (Ei _) l h ci).1 ci (L2.ym (Ei _) l h ci).2)) s4 else .d) Q at wt'
         split at wt'
         . rename_i hz
           have hlen:=q.length;refine⟨_,_,ci,rfl,e,rfl,hz.1,by rw[<-hlen,<-yg];exact hz.2,?_⟩
           rw[<-hlen];exact uo hr4 (q.yG _ _ _) wt'
         . exact wt'.elim
        |_=>obtain⟨_,e⟩:=hv;cases e
      |g _ _ _=>exact zK (zF rfl)
      |d=>exact zK (zF rfl)
   |g _ _ _=>exact zK (zF rfl)
   |d=>exact zK (zF rfl)
  |g _ _ _=>exact zK (zF rfl)
  |d=>exact zK (zF rfl)
 |g _ _ _=>exact zK (zF rfl)
 |d=>exact zK (zF rfl)
noncomputable def Mf.nm:Mf->Str
 |.c=>"count"|.a=>"append"|.b=>"extend"|.f=>"pop"|.d=>"index"|.e=>"join"
noncomputable def okM:Mf->Bool
 |.c|.b|.f|.d|.e=>false
 |_=>true
theorem eD{f2:Sto->Out Val}(hm:okM f=true)(hs:sZ a=true)(hp:plain b=true)(hline:(apos.endLine == cpos.line)=true)(h1:L2.PE X a (tV X.K X.d env s o))(h2:∀s1,L2.PE X b (tV X.K X.d env s1 (f2 s1))) :
 L2.PE X (.Call (.Attribute a f.nm apos) [b] [] cpos) (tV X.K X.d env s (o.bind λx s1=>((f2 s1).bind λv s2=>(Out.e [v] s2:Out (List Val))).bind λvs s2=>xk f x vs s2)):=by
 cases o with
 |e v s1=>
  have h2':=h2 s1;show L2.PE X _ (tV X.K X.d env s (((f2 s1).bind λv s2=>(Out.e [v] s2:Out (List Val))).bind λvs s2=>xk f v vs s2));cases hb:f2 s1 with
  |e w s2=>
   rw[hb]at h2';show L2.PE X _ (tV X.K X.d env s (xk f v [w] s2));cases f with
   |c=>cases hm
   |a=>
    cases v with
    |j i=>
     refine zT (L2.qw (es:=[]) h1 h2' (ua hs) (zR hp) hline) λσ H Q ⟨ρ,hr,er,wt⟩=>⟨ρ,hr,er,λρ1 x H1 x1 hr1 r1=>?_⟩;cases r1 with
     |C e k=>
      obtain⟨xs,q⟩:=fZ k;refine⟨.inl ⟨rfl,_,.of q⟩,ρ1,hr1,er.mono x1,λρ2 y H2 x2 hr2 r2=>?_⟩;have wt':yV X.K X.d (RD X.K X.d) ρ2 H2 (xk .a (.j i) [w] s2) Q:=wt.mono (x1.trans hr1 x2) hr2;simp only[xk]at wt';split at wt'
      . rename_i vs hv
        split at wt'
        . rename_i hz
          obtain⟨b',ys,e1,e2,q2⟩:=hr2.obj i _ hv;have e':=x2.get e;rw[e']at e1;cases e1;refine⟨_,ys,y,rfl,rfl,e2,by rw[<-q2.length,<-yg];exact hz,?_⟩
          exact wt' _ _ _ (Ext.write hr2 e' e2 _) (hr2.write e' e2 (q2.append (.a r2 .d))) .s
        . exact wt'.elim
      . exact wt'.elim
    |_=>exact zK (zF rfl)
   |b=>cases hm
   |f=>cases hm
   |d=>cases hm
   |e=>cases hm
  |g _ _ _=>exact zK (zF rfl)
  |d=>exact zK (zF rfl)
 |g _ _ _=>exact zK (zF rfl)
 |d=>exact zK (zF rfl)
end
def spN(T:Tbl)(K:KF)(mg:Str->Option Value)(n:Nat)(f:Str)(ver:Nat):L2.Sp:=λvs H Q _=>∃ρ s args,HR K mg ρ s H/\RDs K mg ρ H args vs/\yV K mg (RD K mg) ρ H (zB T n f ver args s) Q
structure Callee(T:Tbl)(n:Nat)(X:L2.Cx)(f:Str)(ver:Nat)(F:Fn):Prop where
 a:∃fa fd,X.d f=some (.ref fa)/\BP X.K (.ref fa)=true/\L2.Binds X.K fd F.b []/\L2.uY X.f X.w X.K X.d X.h L2.CX0 n fa fd F.b (spN T X.K X.d n f ver)
section
variable {X:L2.Cx}{env:Env}{s:Sto}{T:Tbl}{n ver:Nat}{f:Str}{F:Fn}
theorem fz(C:Callee T n X f ver F)(hr0:L2.y9 n X.A)(hg:L2.Gl X f)(hd:(f == ("__debug__":Str))=false):L2.PE X (.Call (.Name f p) [] [] pos) (tV X.K X.d env s (zB T n f ver [] s)):=by obtain⟨fa,fd,hm,hk,hb,hf⟩:=C.a;exact zT (L2.nt hf hr0 hg hm hk hb .nil L2.Zy hd) λσ H Q ⟨ρ,hr,er,wt⟩=>⟨ρ,s,[],hr,.d,wt⟩
theorem bw(C:Callee T n X f ver F)(hr0:L2.y9 n X.A)(hg:L2.Gl X f)(hd:(f == ("__debug__":Str))=false)(hp:zc es=true)(hne:es≠[])(h:L2.PA X es (tVs X.K X.d env s o)) :
 L2.PE X (.Call (.Name f p) es [] pos) (tV X.K X.d env s (o.bind (zB T n f ver))):=by
 obtain⟨fa,fd,hm,hk,hb,hf⟩:=C.a;cases o with
 |e vs s1=>
  cases es with
  |nil=>exact absurd rfl hne
  |cons e es=>
   rw[zc,cf]at hp;refine zT (L2.oN hf hr0 hg hm hk hb .nil L2.Zy h hd (L2.zd (zR hp.1)) (yr hp.2)) λσ H Q ⟨ρ,hr,er,wt⟩=>⟨ρ,hr,er,λρ1 xs H1 x1 hr1 r1=>?_⟩;show spN T X.K X.d n f ver (xs++[]) H1 Q L2.E0;rw[AY];exact⟨ρ1,s1,vs,hr1,r1,wt.mono x1 hr1⟩
 |g _ _ _=>exact zK (zF rfl)
 |d=>exact zK (zF rfl)
end
end M
end
section
namespace M
open PySem
theorem xM:∀{c} {p},(c=true->p)->cond c p True
 |true,_,h=>h rfl
 |false,_,_=>AE
theorem rH(h:cond c p True)(e:c=true):p:=by subst e;exact h
mutual
theorem VB:∀(a b:Val),cond (a.beq b) (a=b) True
 |.g,b=>by cases b<;>first|exact(rfl:Val.g=Val.g)|exact AE
 |.e x,b=>by cases b with|e y=>exact xM λh=>congrArg Val.e (BR (show (x == y)=true from h))|_=>exact AE
 |.c x,b=>by cases b with|c y=>exact xM λh=>congrArg Val.c (BR (show (x == y)=true from h))|_=>exact AE
 |.m x,b=>by cases b with|m y=>exact xM λh=>congrArg Val.m (BR (show (x == y)=true from h))|_=>exact AE
 |.f x,b=>by cases b with|f y=>exact xM λh=>congrArg Val.f (rH (pT x y) h)|_=>exact AE
 |.h x,b=>by cases b with|h y=>exact xM λh=>congrArg Val.h (rH (pT x y) h)|_=>exact AE
 |.p,b=>by cases b<;>first|exact(rfl:Val.p=Val.p)|exact AE
 |.o x,b=>by cases b with|o y=>exact xM λh=>congrArg Val.o (BR (show (x == y)=true from h))|_=>exact AE
 |.r x,b=>by cases b with|r y=>exact xM λh=>congrArg Val.r (BR (show (x == y)=true from h))|_=>exact AE
 |.j x,b=>by cases b with|j y=>exact xM λh=>congrArg Val.j (BR (show (x == y)=true from h))|_=>exact AE
 |.u x,b=>by cases b with|u y=>exact xM λh=>congrArg Val.u (BR (show (x == y)=true from h))|_=>exact AE
 |.t x,b=>by cases b with|t y=>exact xM λh=>congrArg Val.t (BR (show (x == y)=true from h))|_=>exact AE
 |.q x,b=>by cases b with|q y=>exact xM λh=>congrArg Val.q (BR (show (x == y)=true from h))|_=>exact AE
 |.s x k,b=>by cases b with|s y l=>exact xM λh=>(by rw[show Val.beq (.s x k) (.s y l)=(x == y&&k == l) from rfl,cf]at h;rw[BR h.1,BR h.2])|_=>exact AE
theorem pT:∀(a b:List Val),cond (tS a b) (a=b) True
 |[],[]=>(rfl:([]:List Val)=[])
 |[],_::_=>AE
 |_::_,[]=>AE
 |x::xs,y::ys=>xM λh=>by have h:(x.beq y&&tS xs ys)=true:=h;rw[cf]at h;rw[rH (VB x y) h.1,rH (pT xs ys) h.2]
end
theorem ub(h:tS a b=true):a=b:=rH (pT a b) h
mutual
theorem beq_refl:∀a:Val,a.beq a=true
 |.g=>rfl
 |.e x=>(beq_self_eq_true x:(x == x)=true)
 |.c x=>(beq_self_eq_true x:(x == x)=true)
 |.m x=>(beq_self_eq_true x:(x == x)=true)
 |.f x=>vq x
 |.h x=>vq x
 |.p=>rfl
 |.o x=>(beq_self_eq_true x:(x == x)=true)
 |.r x=>(beq_self_eq_true x:(x == x)=true)
 |.j x=>(beq_self_eq_true x:(x == x)=true)
 |.u x=>(beq_self_eq_true x:(x == x)=true)
 |.t x=>(beq_self_eq_true x:(x == x)=true)
 |.q x=>(beq_self_eq_true x:(x == x)=true)
 |.s x k=>(by rw[show Val.beq (.s x k) (.s x k)=(x == x&&k == k) from rfl,beq_self_eq_true,beq_self_eq_true];rfl)
theorem vq:∀a:List Val,tS a a=true
 |[]=>rfl
 |x::xs=>by rw[tS,beq_refl x,vq xs];rfl
end
section
variable {K:KF}{mg:Str->Option Value}
theorem Mv.refl:Mv ρ H ρ H:=⟨λa o e n=>⟨e,n⟩,λi a e=>e,λ_ _=>rfl⟩
theorem Mv.trans(x:Mv ρ H ρ1 H1)(y:Mv ρ1 H1 ρ2 H2):Mv ρ H ρ2 H2:=
 ⟨λa o e n=>y.b a o (x.b a o e n).1 (x.b a o e n).2,λi a e=>y.c i a (x.c i a e),λa ha=>by obtain⟨i,hi⟩:=List.getElem?_of_mem ha;exact(y.d a (AR (x.c i a hi))).trans (x.d a ha)⟩
structure Walk(K:KF)(mg:Str->Option Value)(ρ:Own)(H:L2.Hp)(r:Src)(J:L2.It):Prop where
 b:r.a.length<=zS
 c:∀(ρ2:Own) (H2:L2.Hp) (s2:Sto) (i:Nat) (v:Val),Mv ρ H ρ2 H2->HR K mg ρ2 s2 H2->r.ok s2=true->r.a[i]?=some v->J.c i H2/\∀x H3,J.b i H2 x H3->(H3=H2\/∃p o,H2 p=none/\H3=L2.upd H2 p o)/\RD K mg ρ2 H3 v x
 a:∀(ρ2:Own) (H2:L2.Hp) (s2:Sto) (i:Nat),Mv ρ H ρ2 H2->HR K mg ρ2 s2 H2->r.ok s2=true->i=r.a.length->J.a i H2
theorem Walk.mv(w:Walk K mg ρ H r J)(x:Mv ρ H ρ1 H1):Walk K mg ρ1 H1 r J:=
 ⟨w.b,λρ2 H2 s2 i v y=>w.c ρ2 H2 s2 i v (x.trans y),λρ2 H2 s2 i y=>w.a ρ2 H2 s2 i (x.trans y)⟩
def gP(H:L2.Hp):Prop:=∀a xs,(H a=some (.c xs)\/H a=some (.b xs))->xs.length<=Aq
theorem r9(h:L2.PI X tg it wi):L2.PI X tg it (λσ H R=>wi σ H λJ H1=>gP H1->R J H1):=λpins s σ H R I q=>
 L2.thn (h pins s σ H _ I q) λv s1 h1=>L2.thn h1 λitv s2 ⟨i,fp,tn,J,H',e,I',T,t0,f,r⟩=>⟨i,fp,tn,J,H',e,I',T,t0,f,r λa xs hx=>by
  rcases hx with hx|hx
  . obtain⟨z,_⟩:=(show L2.yP X.f X.w H' s2.heap a (.c xs) from I'.C a _ hx);exact z
  . obtain⟨z,_⟩:=(show L2.yP X.f X.w H' s2.heap a (.b xs) from I'.C a _ hx);exact z⟩
theorem cw(hz:vs.length<=zS)(n:ρ.no a)(e:H a=some (.c xs))(q:RDs K mg ρ H vs xs):Walk K mg ρ H ⟨vs,none⟩ (L2.Itt K a) where
 b:=hz
 c:=λρ2 H2 s2 i v x hr _ hv=>by have e2:=(x.b a _ e n).1;have q2:=RDs.mv x q;obtain⟨y,h1,h2⟩:=q2.get hv;refine⟨⟨xs,y,.of e2,h1⟩,λz H3 ⟨e3,h3⟩=>⟨.inl e3,?_⟩⟩;subst e3;have:=h3 xs (.of e2);rw[h1]at this;cases this;exact h2
 a:=λρ2 H2 s2 i x hr _ hi=>⟨xs,.of (x.b a _ e n).1,by rw[<-q.length];exact Dg hi.symm⟩
theorem cq(hz:vs.length<=zS)(n:ρ.no a)(e:H a=some (.b xs))(q:RDs K mg ρ H vs xs):Walk K mg ρ H ⟨vs,none⟩ (L2.Itl K a) where
 b:=hz
 c:=λρ2 H2 s2 i v x hr _ hv=>by have e2:=(x.b a _ e n).1;have q2:=RDs.mv x q;obtain⟨y,h1,h2⟩:=q2.get hv;refine⟨⟨xs,y,.of e2,h1⟩,λz H3 ⟨e3,h3⟩=>⟨.inl e3,?_⟩⟩;subst e3;have:=h3 xs (.of e2);rw[h1]at this;cases this;exact h2
 a:=λρ2 H2 s2 i x hr _ hi=>⟨xs,.of (x.b a _ e n).1,by rw[<-q.length];exact Dg hi.symm⟩
theorem gD{ns:List Int}(k:KT K a (ns.map L2.V.d)):Walk K mg ρ H ⟨ns.map .c,none⟩ (L2.Itt K a) where
 b:=by obtain⟨o,its,n,_,_,_,h4,h5⟩:=k;have:=h5.length;simp only[Ad,Cm]at this;show (ns.map Val.c).length<=_;rw[Ad,yg,this];exact h4
 c:=λρ2 H2 s2 i v x hr _ hv=>by obtain⟨y,h1,h2⟩:=(RDs.ints (K:=K) (mg:=mg) (ρ:=ρ2) (H:=H2) ns).get hv;refine⟨⟨_,y,k.sqt,h1⟩,λz H3 ⟨e3,h3⟩=>⟨.inl e3,?_⟩⟩;subst e3;have:=h3 _ k.sqt;rw[h1]at this;cases this;exact h2
 a:=λρ2 H2 s2 i x hr _ hi=>⟨_,k.sqt,by rw[Ad];rw[hi];simp⟩
theorem cu(hz:vs.length<=zS)(e:ρ.o[i0]?=some a):Walk K mg ρ H ⟨vs,some i0⟩ (L2.Itl K a) where
 b:=hz
 c:=λρ2 H2 s2 i v x hr ho hv=>by
  simp only[Src.ok]at ho;split at ho
  . rename_i ws hw
    cases ub ho;obtain⟨b,xs,e1,e2,q⟩:=hr.obj i0 _ hw;rw[x.c _ _ e]at e1;cases e1;obtain⟨y,h1,h2⟩:=q.get hv;refine⟨⟨xs,y,.of e2,h1⟩,λz H3 ⟨e3,h3⟩=>⟨.inl e3,?_⟩⟩;subst e3;have:=h3 xs (.of e2);rw[h1]at this;cases this;exact h2
  . cases ho
 a:=λρ2 H2 s2 i x hr ho hi=>by
  simp only[Src.ok]at ho;split at ho
  . rename_i ws hw
    cases ub ho;obtain⟨b,xs,e1,e2,q⟩:=hr.obj i0 _ hw;rw[x.c _ _ e]at e1;cases e1;exact⟨xs,.of e2,by rw[<-q.length];exact Dg hi.symm⟩
  . cases ho
theorem d8:(yH lo n)[i]?=if i<n then some (.c (lo+i)) else none:=by
 unfold yH;rw[A5];by_cases h:i<n
 . rw[if_pos h,List.getElem?_range h];rfl
 . rw[if_neg h,BS (by rw[Bt];omega)];rfl
theorem mF:(yH lo n).length=n:=by unfold yH;rw[Ad,Bt]
theorem mT(hz:n<=zS):Walk K mg ρ H ⟨yH lo n,none⟩ (L2.Itr lo n) where
 b:=by show (yH lo n).length<=_;rw[mF];exact hz
 c:=λρ2 H2 s2 i v x hr _ hv=>by
  have hv':(yH lo n)[i]?=some v:=hv;rw[d8]at hv';split at hv'
  . rename_i hi
    cases hv';refine⟨hi,λz H3 ⟨e3,h3⟩=>⟨.inl e3,?_⟩⟩;subst h3;exact .l _
  . cases hv'
 a:=λρ2 H2 s2 i x hr _ hi=>by have:i=(yH lo n).length:=hi;rw[mF]at this;exact Dg this.symm
def tI(env:Env)(s:Sto)(o:Out Src):L2.TI:=λσ H R=>∃ρ,HR K mg ρ s H/\ER K mg ρ H env σ/\(match o with
 |.e r s'=>∀ρ' H' J,Ext ρ H ρ' H'->HR K mg ρ' s' H'->Walk K mg ρ' H' r J->R J H'
 |_=>False)
end
section
variable {X:L2.Cx}{env:Env}{s:Sto}{a b tg:Expr}
theorem uR{t t':L2.TI}(h:L2.PI X tg it t)(i:∀σ H R,t' σ H R->t σ H R):L2.PI X tg it t':=λpins s σ H R I q=>h pins s σ H R I (i σ H R q)
theorem zw{o:Out Src}(h:∀v s',o≠.e v s'):L2.PI X tg it (tI (K:=X.K) (mg:=X.d) env s o):=λpins sh σ H R I q=>by
 obtain⟨ρ,_,_,w⟩:=q;cases o with
 |e v s'=>exact(h v s' rfl).elim
 |g _ _ _=>exact w.elim
 |d=>exact w.elim
theorem gP.of(z:gP H){a}(q:RDs K mg ρ H vs xs)(h:H a=some (.c xs)\/H a=some (.b xs)):vs.length<=zS:=by rw[q.length,yg];exact z a xs h
theorem XN{o:Out Val}(h:L2.PE X a (tV X.K X.d env s o)):L2.PI X tg a (tI (K:=X.K) (mg:=X.d) env s (o.bind λv s1=>match srcOf s1 v with|some r=>.e r s1|dS=>.d)):=by
 cases o with
 |e v s1=>
  show L2.PI X tg a (tI (K:=X.K) (mg:=X.d) env s (match srcOf s1 v with|some r=>.e r s1|dS=>.d))
  cases v with
  |f vs=>
   refine uR (r9 (L2.dn h)) λσ H R ⟨ρ,hr,er,w⟩=>⟨ρ,hr,er,λρ1 x H1 x1 hr1 r1=>?_⟩;cases r1 with
   |m n e q=>exact⟨_,rfl,⟨_,.of e⟩,λz=>w ρ1 H1 _ x1 hr1 (cw (z.of q (.inl e)) n e q)⟩
  |h vs=>
   refine uR (r9 (L2.oP h)) λσ H R ⟨ρ,hr,er,w⟩=>⟨ρ,hr,er,λρ1 x H1 x1 hr1 r1=>?_⟩;cases r1 with
   |E n e q=>exact⟨_,rfl,⟨_,.of e⟩,λz=>w ρ1 H1 _ x1 hr1 (cq (z.of q (.inr e)) n e q)⟩
  |o ns=>
   refine uR (L2.dn h) λσ H R ⟨ρ,hr,er,w⟩=>⟨ρ,hr,er,λρ1 x H1 x1 hr1 r1=>?_⟩;cases r1 with
   |p k=>exact⟨_,rfl,⟨_,k.sqt⟩,w ρ1 H1 _ x1 hr1 (gD k)⟩
  |j i=>
   simp only[srcOf];cases hs:s1[i]? with
   |none=>exact zw (zF rfl)
   |some cl=>
    cases cl with
    |c vs=>
     refine uR (r9 (L2.oP h)) λσ H R ⟨ρ,hr,er,w⟩=>⟨ρ,hr,er,λρ1 x H1 x1 hr1 r1=>?_⟩;cases r1 with
     |C e=>
      obtain⟨b',xs,e1,e2,q⟩:=hr1.obj i _ hs;rw[e]at e1;cases e1;exact⟨_,rfl,⟨_,.of e2⟩,λz=>w ρ1 H1 _ x1 hr1 (cu (z.of q (.inr e2)) e)⟩
    |_=>exact zw (zF rfl)
  |_=>exact zw (zF rfl)
 |g _ _ _=>exact zw (zF rfl)
 |d=>exact zw (zF rfl)
theorem iC{o:Out Val}{p pos:Pos}(hp:plain a=true)(hg:L2.Gl X "range")(hm:X.d "range"=none)(h:L2.PE X a (tV X.K X.d env s o)) :
 L2.PI X tg (.Call (.Name "range" p) [a] [] pos) (tI (K:=X.K) (mg:=X.d) env s (o.bind λx s1=>match x with
  |.c j=>if -(2 ^ 62)<=j/\j<=zS then .e ⟨yH 0 j.toNat,dS⟩ s1 else .d
  |_=>.d)):=by
 cases o with
 |e v s1=>
  have st:AF [a] X.a=[(false,eval a X.a)]:=L2.zd (zR hp);refine uR (L2.ir hg hm (L2.pac h L2.yl (zR hp)) st) λσ H R ⟨ρ,hr,er,w⟩=>⟨ρ,hr,er,λρ1 x H1 x1 hr1 r1=>?_⟩;cases r1 with
  |l j=>
   simp only[zL]at w;by_cases hz:-(2 ^ 62)<=j/\j<=zS
   . rw[if_pos hz]at w
     have hl:(zS:Int)<2 ^ 62:=by decide
     exact⟨j,rfl,hz.1,by omega,w ρ1 H1 _ x1 hr1 (mT (by omega))⟩
   . rw[if_neg hz]at w;exact w.elim
  |_=>exact w.elim
 |g _ _ _=>exact zw (zF rfl)
 |d=>exact zw (zF rfl)
theorem iD{o:Out Val}{f2:Sto->Out Val}{p pos:Pos}(hp:plain a=true)(hp2:plain b=true)(hg:L2.Gl X "range")(hm:X.d "range"=none)(h:L2.PE X a (tV X.K X.d env s o))(h2:∀s1,L2.PE X b (tV X.K X.d env s1 (f2 s1))) :
 L2.PI X tg (.Call (.Name "range" p) [a,b] [] pos) (tI (K:=X.K) (mg:=X.d) env s (o.bind λx s1=>(f2 s1).bind λy s2=>match x,y with
  |.c i,.c j=>if -(2 ^ 62)<=i/\i<2 ^ 62∧-(2 ^ 62)<=j/\j<2 ^ 62/\j-i<=zS then .e ⟨yH i (j-i).toNat,dS⟩ s2 else .d
  |_,_=>.d)):=by
 cases o with
 |e v s1=>
  have h2':=h2 s1;simp only[zL];cases hb:f2 s1 with
  |e w s2=>
   rw[hb]at h2';have st2:AF [b] X.a=[(false,eval b X.a)]:=L2.zd (zR hp2);have st:AF [a,b] X.a=[(false,eval a X.a),(false,eval b X.a)]:=by rw[L2.zd (zR hp),st2]
   refine uR (L2.iu hg hm (L2.pac h (L2.pac h2' L2.yl (zR hp2)) (zR hp)) st st2) λσ H R ⟨ρ,hr,er,wt⟩=>⟨ρ,hr,er,λρ1 x H1 x1 hr1 r1=>⟨ρ1,hr1,er.mono x1,λρ2 y H2 x2 hr2 r2=>?_⟩⟩;simp only[zL]at wt;cases r1 with
   |l i=>
    cases r2 with
    |l j=>
     simp only at wt;by_cases hz:-(2 ^ 62)<=i/\i<2 ^ 62∧-(2 ^ 62)<=j/\j<2 ^ 62/\j-i<=zS
     . rw[if_pos hz]at wt
       exact⟨i,j,rfl,⟨hz.1,hz.2.1,hz.2.2.1,hz.2.2.2.1⟩,wt ρ2 H2 _ (x1.trans hr1 x2) hr2 (mT (by omega))⟩
     . rw[if_neg hz]at wt;exact wt.elim
    |_=>exact wt.elim
   |_=>exact wt.elim
  |g _ _ _=>exact zw (zF rfl)
  |d=>exact zw (zF rfl)
 |g _ _ _=>exact zw (zF rfl)
 |d=>exact zw (zF rfl)
theorem gE(hz:n<=zS):Walk K mg ρ H ⟨vk lo c n,none⟩ (L2.bB lo c n) where
 b:=by show (vk lo c n).length<=_;unfold vk;rw[Ad,Bt];exact hz
 c:=λρ2 H2 s2 i v x hr _ hv=>by
  have hv':(vk lo c n)[i]?=some v:=hv;unfold vk at hv';rw[A5]at hv';by_cases hi:i<n
  . rw[List.getElem?_range hi]at hv'
    cases hv';refine⟨hi,λz H3 ⟨e3,h3⟩=>⟨.inl e3,?_⟩⟩;subst h3;exact .l _
  . rw[BS (by rw[Bt];omega)]at hv'
    cases hv'
 a:=λρ2 H2 s2 i x hr _ hi=>by have:i=(vk lo c n).length:=hi;unfold vk at this;rw[Ad,Bt]at this;exact Dg this.symm
theorem iE{f2 f3:Sto->Out Val}(hp:plain a=true)(hp2:plain b=true)(hp3:plain c=true)(hg:L2.Gl X "range")(hm:X.d "range"=none)(h:L2.PE X a (tV X.K X.d env s o))(h2:∀s1,L2.PE X b (tV X.K X.d env s1 (f2 s1)))(h3:∀s1,L2.PE X c (tV X.K X.d env s1 (f3 s1))) :
 L2.PI X tg (.Call (.Name "range" p) [a,b,c] [] pos) (tI (K:=X.K) (mg:=X.d) env s (o.bind λx s1=>(f2 s1).bind λy s2=>(f3 s2).bind λz s3=>WS x y z s3)):=by
 cases o with
 |e v s1=>
  have h2':=h2 s1;simp only[zL];cases hb:f2 s1 with
  |e w s2=>
   rw[hb]at h2';have h3':=h3 s2;simp only[zL];cases hc:f3 s2 with
   |e y s3=>
    rw[hc]at h3';have st3:AF [c] X.a=[(false,eval c X.a)]:=L2.zd (zR hp3);have st2:AF [b,c] X.a=[(false,eval b X.a),(false,eval c X.a)]:=by rw[L2.zd (zR hp2),st3]
    have st:AF [a,b,c] X.a=[(false,eval a X.a),(false,eval b X.a),(false,eval c X.a)]:=by rw[L2.zd (zR hp),st2]
    refine uR (L2.iw hg hm (L2.pac h (L2.pac h2' (L2.pac h3' L2.yl (zR hp3)) (zR hp2)) (zR hp)) st st2) λσ H R ⟨ρ,hr,er,wt⟩=>⟨ρ,hr,er,λρ1 x H1 x1 hr1 r1=>⟨ρ1,hr1,er.mono x1,λρ2 y H2 x2 hr2 r2=>⟨ρ2,hr2,(er.mono x1).mono x2,λρ3 z H3 x3 hr3 r3=>?_⟩⟩⟩;simp only[zL]at wt;cases r1 with
    |l i=>
     cases r2 with
     |l j=>
      cases r3 with
      |l k=>
       simp only[WS]at wt;by_cases hz:0<=i/\i<=1000/\0<=j/\j<=1000/\1<=k/\k<=1000
       . rw[if_pos hz]at wt
         have zz:=L2.cF (i:=i) (j:=j) (k:=k) hz.1 hz.2.2.2.1 hz.2.2.2.2.1;exact⟨i,j,k,rfl,hz,wt ρ3 H3 _ ((x1.trans hr1 x2).trans hr2 x3) hr3 (gE (by have:zS=16777216:=rfl;omega))⟩
       . rw[if_neg hz]at wt;exact wt.elim
      |_=>exact wt.elim
     |_=>exact wt.elim
    |_=>exact wt.elim
   |g _ _ _=>exact zw (zF rfl)
   |d=>exact zw (zF rfl)
  |g _ _ _=>exact zw (zF rfl)
  |d=>exact zw (zF rfl)
 |g _ _ _=>exact zw (zF rfl)
 |d=>exact zw (zF rfl)
end
end M
end
section
namespace M
open PySem
def tP(K:KF)(mg:Str->Option Value)(t:Tgt)(g:L2.TG):Prop:=∀(ρ:Own) (s:Sto) (H:L2.Hp) (v:Val) (x:L2.V) (env env':Env) (σ:L2.St) (Q:L2.St->L2.Hp->Prop),HR K mg ρ s H->RD K mg ρ H v x->ER K mg ρ H env σ->yc t v env=some env' ->
 (∀σ',ER K mg ρ H env' σ'->Q σ' H)->g x σ H Q
theorem tK:tP K mg (.a i) (L2.xG i):=λρ s H v x env env' σ Q hr r er e q=>by
 cases e;exact q _ (er.set i r)
def rT:List Nat->L2.TGs
 |[]=>L2.VM
 |i::is=>L2.Zj (L2.xG i) (rT is)
theorem qu:∀{is} {vs} {xs} {env} {σ},RDs K mg ρ H vs xs->ER K mg ρ H env σ->vs.length=is.length ->
 (∀σ',ER K mg ρ H ((is.zip vs).foldl (λe p=>e.set p.1 (some p.2)) env) σ'->Q σ' H)->rT is xs σ H Q
 |[],[],_,env,σ,.d,er,_,q=>⟨rfl,q σ er⟩
 |[],_::_,_,_,_,_,_,h,_=>by cases h
 |_::_,[],_,_,_,_,_,h,_=>by cases h
 |i::is,v::vs,x::xs,env,σ,.a r rs,er,h,q=>⟨x,xs,rfl,qu rs (er.set i r) (by simpa using h) q⟩
theorem x9:tP K mg (.b is) (L2.Yo K is.length (rT is)):=λρ s H v x env env' σ Q hr r er e q=>by
 simp only[yc]at e;split at e
 . split at e
   . rename_i hl
     cases e;cases r with
     |m n e q2=>exact⟨_,_,rfl,.of e,by rw[<-q2.length];exact hl,qu q2 er hl q⟩
   . cases e
 . cases e
noncomputable def yD(sc:Scope)(N:List Str):List Nat->List Expr->Bool
 |[],[]=>true
 |i::is,.Name x _::es=>decide (N[i]?=some x)&&(decide (sc.names.lookup x=some .local)||decide (sc.names.lookup x=some .cell))&&yD sc N is es
 |_,_=>false
def ckT(sc:Scope)(N:List Str):Tgt->Expr->Bool
 |.a i,.Name x _=>decide (N[i]?=some x)&&(decide (sc.names.lookup x=some .local)||decide (sc.names.lookup x=some .cell))
 |.b is,.Tuple es _ _=>yD sc N is es&&decide (es≠[])
 |_,_=>false
section
variable {X:L2.Cx}
structure Scp(sc:Scope)(N:List Str)(X:L2.Cx):Prop where
 a:X.N=N
 d:N.Nodup
 c:∀x,sc.names.lookup x=some .local\/sc.names.lookup x=some .cell\/sc.names.lookup x=some .free->L2.Vis X.a.scope x
 e:∀x,sc.names.lookup x=some .local\/sc.names.lookup x=some .cell->L2.Loc X.a.scope x/\(X.q x=true\/X.a.scope.names.lookup x=some .local)
 b:∀x,sc.names.lookup x=some .globalImplicit->L2.Gl X x
 f:∀x,sc.names.lookup x=some .cell\/sc.names.lookup x=some .free->X.a.kindOf x=some .cell\/X.a.kindOf x=some .free
theorem sJ(S:Scp sc N X)(h1:N[i]?=some x)(h2:sc.names.lookup x=some .local\/sc.names.lookup x=some .cell):L2.PG X (.Name x p) (L2.xG i):=by obtain⟨a,b⟩:=S.e x h2;exact L2.ai (by rw[S.a];exact S.d) (by rw[S.a];exact h1) a b
theorem yh(S:Scp sc N X):∀{is} {es},yD sc N is es=true->L2.PGs X es (rT is)/\(B9 es X.a).length=is.length/\(B9 es X.a).findIdx? (·.1)=none
 |[],[],_=>⟨L2.aj,rfl,rfl⟩
 |[],_::_,h=>by cases h
 |_::_,[],h=>by cases h
 |i::is,e::es,h=>by
  cases e with
  |Name x p=>
   simp only[yD,cf,An,decide_eq_true_eq]at h;obtain⟨a,b,c⟩:=yh S h.2;refine⟨L2.dm (sJ S h.1.1 h.1.2) a,?_,?_⟩
   . show (B9 es X.a).length+1=is.length+1
     rw[b]
   . show List.findIdx? (·.1) ((false,assign (.Name x p) X.a)::B9 es X.a)=none
     rw[List.findIdx?_cons];simp only[A2,if_false];rw[c];rfl
  |_=>cases h
theorem UP(S:Scp sc N X)(hc:X.i=true)(h:ckT sc N t e=true):∃g,L2.PG X e g/\tP X.K X.d t g:=by
 cases t with
 |a i=>
  cases e with
  |Name x p=>
   simp only[ckT,cf,An,decide_eq_true_eq]at h;exact⟨_,sJ S h.1 h.2,tK⟩
  |_=>cases h
 |b is=>
  cases e with
  |Tuple es k p=>
   simp only[ckT,cf,decide_eq_true_eq]at h;obtain⟨a,b,c⟩:=yh S h.1;exact⟨_,L2.vi hc a b c,x9⟩
  |_=>cases h
end
structure Lp(acc:Addr)(ρ:Own)(H:L2.Hp)(ρ':Own)(H':L2.Hp):Prop where
 f:∃new:List Addr,ρ'.o=ρ.o++new/\∀a∈new,H a=none
 d:ρ'.h=acc::ρ.h
 c:∀(a:Addr) (o:L2.HO),H a=some o->a ∉ ρ.o->H' a=some o
 g:∀a∈ρ.o,hk (H' a)=hk (H a)
section
variable {K:KF}{mg:Str->Option Value}{ρ ρ1 ρ2:Own}{H H1 H2:L2.Hp}{s s1:Sto}{acc:Addr}
noncomputable def Own.hide(ρ:Own)(acc:Addr):Own:=⟨ρ.o,acc::ρ.h⟩
theorem sX(hr:HR K mg ρ s H)(hn:H acc=none)o:Mv ρ H (ρ.hide acc) (L2.upd H acc o):=
 ⟨λa u e n=>⟨by rw[L2.zH (L2.zO e hn)];exact e,n.1,λhm=>by
  rcases As.mp hm with z|z
  . exact L2.zO e hn z
  . exact n.2 z⟩,λi a e=>e,λa ha=>by rw[L2.zH λz=>(hr.new hn).1 (by rw[<-z];exact ha)]⟩
theorem HR.hide(hr:HR K mg ρ s H)(hn:H acc=none):HR K mg (ρ.hide acc) s (L2.upd H acc (.b xs)):=by
 refine⟨hr.f,hr.v,λi c e=>?_,λa ha=>?_⟩
 . obtain⟨a,e1,q⟩:=hr.m i c e
   obtain⟨o,e2⟩:=q.there;exact⟨a,e1,q.mv (sX hr hn _) (L2.zH (L2.zO e2 hn))⟩
 . rcases As.mp ha with z|z
   . subst z;exact⟨⟨xs,L2.zM⟩,(hr.new hn).1⟩
   . obtain⟨⟨ys,e⟩,n⟩:=hr.d a z
     exact⟨⟨ys,by rw[L2.zH (L2.zO e hn)];exact e⟩,n⟩
theorem Lp.start(hr:HR K mg ρ s H)(hn:H acc=none)o:Lp acc ρ H (ρ.hide acc) (L2.upd H acc o):=
 ⟨⟨[],by simp[Own.hide],λa ha=>by cases ha⟩,rfl,λa u e _=>by rw[L2.zH (L2.zO e hn)];exact e,(sX hr hn o).d⟩
theorem Lp.step(l:Lp acc ρ H ρ1 H1)(hr:HR K mg ρ1 s1 H1)(x:Ext ρ1 H1 ρ2 H2):Lp acc ρ H ρ2 H2:=by
 obtain⟨new,e1,hn⟩:=l.f;obtain⟨new2,e2,hn2⟩:=x.d;refine⟨⟨new++new2,by rw[e2,e1,Bk],λa ha=>?_⟩,x.f.trans l.d,λa o e n=>x.c a o (l.c a o e n) ?_,λa ha=>(x.g a (by rw[e1];exact Bl _ ha)).trans (l.g a ha)⟩
 . rcases A1.mp ha with ha|ha
   . exact hn a ha
   . cases q:H a with
     |none=>rfl
     |some o=>
      by_cases hm:a∈ρ.o
      . obtain⟨xs,e⟩:=hr.trk (a:=a) (by rw[e1];exact Bl _ hm)
        rw[hn2 a ha]at e;cases e
      . have:=l.c a o q hm
        rw[hn2 a ha]at this;cases this
 . rw[e1]
   intro hm;rcases A1.mp hm with hm|hm
   . exact n hm
   . rw[hn a hm]at e;cases e
theorem Lp.emit(l:Lp acc ρ H ρ1 H1)(hr:HR K mg ρ1 s1 H1)(hn:H acc=none)o:Lp acc ρ H ρ1 (L2.upd H1 acc o):=
 ⟨l.f,l.d,λa u e n=>by rw[L2.zH (L2.zO e hn)];exact l.c a u e n,λa ha=>by
  obtain⟨new,e1,_⟩:=l.f;rw[L2.zH λz=>(hr.d acc (by rw[l.d];exact Ao)).2 (by rw[<-z,e1];exact Bl _ ha)]
  exact l.g a ha⟩
theorem Lp.mv(l:Lp acc ρ H ρ1 H1)(hn:H acc=none):Mv ρ H ρ1 H1:=by
 obtain⟨new,e1,hnew⟩:=l.f;refine⟨λa u e n=>⟨l.c a u e n.1,?_,?_⟩,λi a e=>?_,l.g⟩
 . rw[e1]
   intro hm;rcases A1.mp hm with hm|hm
   . exact n.1 hm
   . rw[hnew a hm]at e;cases e
 . rw[l.d]
   intro hm;rcases As.mp hm with z|z
   . exact L2.zO e hn z
   . exact n.2 z
 . have hi:i<ρ.o.length:=(Am.mp e).1
   rw[e1,AQ hi];exact e
theorem Lp.here(l:Lp acc ρ H ρ1 H1):acc∈ρ1.h:=by rw[l.d];exact Ao
theorem sW(hr:HR K mg ρ1 s1 H1)(ha:acc∈ρ1.h)o:Mv ρ1 H1 ρ1 (L2.upd H1 acc o):=
 ⟨λa u e n=>⟨by rw[L2.zH (λz=>n.2 (by rw[z];exact ha))];exact e,n⟩,λi a e=>e,λa h=>by rw[L2.zH λz=>(hr.d acc ha).2 (by rw[<-z];exact h)]⟩
theorem HR.emit(hr:HR K mg ρ1 s1 H1)(ha:acc∈ρ1.h):HR K mg ρ1 s1 (L2.upd H1 acc (.b xs)):=by
 have hno:=(hr.d acc ha).2;refine⟨hr.f,hr.v,λi c e=>?_,λa hm=>?_⟩
 . obtain⟨a,e1,q⟩:=hr.m i c e
   exact⟨a,e1,q.mv (sW hr ha _) (L2.zH (λz=>hno (by rw[<-z];exact AR e1)))⟩
 . obtain⟨⟨ys,e⟩,n⟩:=hr.d a hm
   by_cases z:a=acc
   . subst z;exact⟨⟨xs,L2.zM⟩,n⟩
   . exact⟨⟨ys,by rw[L2.zH z];exact e⟩,n⟩
theorem Lp.done(l:Lp acc ρ H ρ1 H1)(h0:HR K mg ρ s H)(hn:H acc=none)(hr:HR K mg ρ1 s1 H1)(e:H1 acc=some (.b ys))(q:RDs K mg ρ1 H1 vs ys)(w:yV K mg (RD K mg) ρ H (newList m vs s1) Q):Q (.c acc) H1:=by
 have ha:=l.here;have hacc:=(hr.d acc ha).2;have hnh:=(h0.new hn).2;cases m with
 |false=>
  have mv:Mv ρ1 H1 ⟨ρ1.o,ρ.h⟩ H1:=⟨λa u e n=>⟨e,n.1,λz=>n.2 (by rw[l.d];exact Ac _ z)⟩,λi a e=>e,λ_ _=>rfl⟩
  refine w ⟨ρ1.o,ρ.h⟩ _ H1 ⟨l.f,rfl,l.c,l.g⟩ ⟨hr.f,hr.v,λi ws e=>?_,λa hm=>?_⟩ (.E ⟨hacc,hnh⟩ e (RDs.mv mv q))
  . obtain⟨a,e1,t⟩:=hr.m i ws e
    exact⟨a,e1,t.mv mv rfl⟩
  . exact hr.d a (by rw[l.d];exact Ac _ hm)
 |true=>
  have mv:Mv ρ1 H1 ⟨ρ1.o++[acc],ρ.h⟩ H1:=by
   refine⟨λa u e n=>⟨e,λhm=>?_,λz=>n.2 (by rw[l.d];exact Ac _ z)⟩,λi a e=>?_,λ_ _=>rfl⟩
   . rcases A1.mp hm with hm|hm
     . exact n.1 hm
     . rw[Bp.mp hm]at n;exact n.2 ha
   . show (ρ1.o++[acc])[i]?=_
     rw[AQ (Am.mp e).1];exact e
  have rf:(ρ1.o++[acc])[s1.length]?=some acc:=by rw[<-hr.f,BB (Ab _)];simp
  refine w ⟨ρ1.o++[acc],ρ.h⟩ _ H1 ⟨?_,rfl,l.c,l.g⟩ ⟨?_,?_,λi ws q'=>?_,λa hm=>?_⟩ (.C rf (by rw[e];rfl))
  . obtain⟨new,e1,hnew⟩:=l.f
    refine⟨new++[acc],by show ρ1.o++[acc]=_;rw[e1,Bk],λa hm=>?_⟩
    rcases A1.mp hm with hm|hm
    . exact hnew a hm
    . rw[Bp.mp hm];exact hn
  . show (ρ1.o++[acc]).length=(s1++[Cel.c vs]).length
    rw[Av,Av,hr.f];rfl
  . show (ρ1.o++[acc]).Nodup
    rw[EU];exact⟨hr.v,by simp,λa ha' b hb=>by rw[Bp.mp hb];intro z;subst z;exact hacc ha'⟩
  . by_cases hi:i<s1.length
    . rw[AQ hi]at q'
      obtain⟨a,e1,t⟩:=hr.m i ws q';exact⟨a,mv.c i a e1,t.mv mv rfl⟩
    . have hi':i=s1.length:=by have:=(Am.mp q').1;rw[Av]at this;simp at this;omega
      subst hi';rw[BB (Ab _)]at q';simp at q';subst q';exact⟨acc,rf,ys,e,RDs.mv mv q⟩
  . obtain⟨x,n⟩:=hr.d a (by rw[l.d];exact Ac _ hm)
    refine⟨x,λz=>?_⟩;rcases A1.mp z with z|z
    . exact n z
    . rw[Bp.mp z]at hm;exact hnh hm
end
end M
end
section
namespace M
open PySem
section
variable {K:KF}{mg:Str->Option Value}
theorem rP{J:L2.It}{g:L2.TG}{tb:L2.TS}{D:L2.Ends}(Pv:Nat->L2.St->L2.Hp->Prop)(h0:Pv 0 σ H)(hd:∀σ H,Pv n σ H->J.a n H/\D.a σ H)
 (hs:∀i σ H,i<n->Pv i σ H->J.c i H/\∀x H',J.b i H x H'->g x σ H' λσ2 H2=>tb {D with a:=Pv (i+1),d:=Pv (i+1),c:=D.a} σ2 H2):L2.pA J g tb D σ H:=by
 refine⟨λi m σ H=>m=n-i/\i<=n/\Pv i σ H,⟨n,by simp,Cb _,h0⟩,?_⟩
 rintro i m σ H ⟨rfl,hi,p⟩;by_cases hlt:i<n
 . obtain⟨a,b⟩:=hs i σ H hlt p
   exact .inr ⟨a,Pv (i+1),λσ' H' p'=>⟨n-(i+1),by omega,rfl,hlt,p'⟩,b⟩
 . have e:i=n:=by omega
   subst e;exact .inl (hd σ H p)
structure CS(K:KF)(mg:Str->Option Value)(acc:Addr)(ρ0:Own)(H0:L2.Hp)(a:List Val)(s:Sto)(env:Env)(ρ:Own)(σ:L2.St)(H:L2.Hp):Prop where
 d:Lp acc ρ0 H0 ρ H
 b:HR K mg ρ s H
 c:ER K mg ρ H env σ
 e:∃ys,H acc=some (.b ys)/\RDs K mg ρ H a ys
def Grows(body:Env->Sto->List Val->Out (List Val × Env)):Prop:=∀e s a p s',body e s a=.e p s'->a.length<=p.1.length
theorem vZ(hb:Grows body):∀{xs} {env} {s} {a} {p} {s'},yj r t body xs env s a=.e p s'->a.length<=p.1.length
 |[],env,s,a,p,s',h=>by
  rw[yj]at h;split at h
  . cases h;exact Ab _
  . cases h
 |x::xs,env,s,a,p,s',h=>by
  rw[yj]at h;split at h
  . split at h
    . cases h
    . rename_i env' he
      cases hc:body env' s a with
      |e q s1=>
       rw[hc]at h;exact Az (hb _ _ _ _ _ hc) (vZ hb h)
      |g _ _ _=>rw[hc]at h;cases h
      |d=>rw[hc]at h;cases h
  . cases h
def BodyOk(K:KF)(mg:Str->Option Value)(acc:Addr)(ρ0:Own)(H0:L2.Hp)(body:Env->Sto->List Val->Out (List Val × Env))(tb:L2.TS):Prop:=
 ∀(ρ:Own) (s:Sto) (H:L2.Hp) (env:Env) (σ:L2.St) (a:List Val) (p:List Val × Env) (s':Sto) (D:L2.Ends),CS K mg acc ρ0 H0 a s env ρ σ H->body env s a=.e p s'->p.1.length<=zS ->
  (∀ρ' H' σ',CS K mg acc ρ0 H0 p.1 s' p.2 ρ' σ' H'->Mv ρ H ρ' H'->D.a σ' H')->tb D σ H
theorem wY
   (W:Walk K mg ρ H r J) (TG:tP K mg t g) (hg:Grows body) (hb:BodyOk K mg acc ρ0 H0 body tb)
 (C:CS K mg acc ρ0 H0 a s env ρ σ H) (h:yj r t body r.a env s a=.e p sf) (hz:p.1.length<=zS) (fin:∀ρ' H' σ',CS K mg acc ρ0 H0 p.1 sf p.2 ρ' σ' H'->Mv ρ H ρ' H'->D.a σ' H'):L2.pA J g tb D σ H:=by
 refine rP (n:=r.a.length) (λi σ2 H2=>∃ρ2 s2 env2 a2,CS K mg acc ρ0 H0 a2 s2 env2 ρ2 σ2 H2/\Mv ρ H ρ2 H2/\yj r t body (r.a.drop i) env2 s2 a2=.e p sf) ⟨ρ,s,env,a,C,Mv.refl,by rw[Ee];exact h⟩ ?_ ?_
 . rintro σ2 H2 ⟨ρ2,s2,env2,a2,C2,mv,h2⟩
   rw[Fg,yj]at h2;split at h2
   . rename_i ho
     cases h2;exact⟨W.a ρ2 H2 _ _ mv C2.b ho rfl,fin ρ2 H2 σ2 C2 mv⟩
   . cases h2
 . rintro i σ2 H2 hi ⟨ρ2,s2,env2,a2,C2,mv,h2⟩
   rw[C1 hi,yj]at h2;split at h2
   . rename_i ho
     obtain⟨hgo,hy⟩:=W.c ρ2 H2 s2 i (r.a[i]) mv C2.b ho (Ak hi);refine⟨hgo,λx H3 y=>?_⟩;obtain⟨hH,rx⟩:=hy x H3 y;split at h2
     . cases h2
     . rename_i env' he
       -- the item is there: perhaps a new thing
       have C3:CS K mg acc ρ0 H0 a2 s2 env2 ρ2 σ2 H3/\Mv ρ2 H2 ρ2 H3:=by
        rcases hH with e|⟨q,o,hq,e⟩
        . subst e;exact⟨C2,Mv.refl⟩
        . subst e
          have X:=Ext.new C2.b hq o;refine⟨⟨C2.d.step C2.b X,C2.b.more hq o,C2.c.mono X,?_⟩,X.mv⟩;obtain⟨ys,e1,e2⟩:=C2.e;exact⟨ys,by rw[L2.zH (L2.zO e1 hq)];exact e1,e2.mono X⟩
       refine TG ρ2 s2 H3 _ x env2 env' σ2 _ C3.1.b rx C3.1.c he λσ4 er4=>?_;cases hc:body env' s2 a2 with
       |e q s5=>
        rw[hc]at h2;have hlen:q.1.length<=zS:=Az (vZ hg h2) hz;exact hb ρ2 s2 H3 env' σ4 a2 q s5 _ ⟨C3.1.d,C3.1.b,er4,C3.1.e⟩ hc hlen λρ5 H5 σ5 C5 mv5=>⟨ρ5,s5,q.2,q.1,C5,(mv.trans C3.2).trans mv5,h2⟩
       |g _ _ _=>rw[hc]at h2;cases h2
       |d=>rw[hc]at h2;cases h2
   . cases h2
end
section
variable (K:KF)(mg:Str->Option Value)(Φ:Calls)(G:Str->Option Val)
def uE(e:Ex):L2.TE:=λσ H Q=>∃env s,tV K mg env s (evE Φ G env e s) σ H Q
def uT(e:Cn):L2.TT:=λσ H Q=>∃env s,tT K mg env s (evT Φ G env e s) σ H Q
def uI(it:Itb):L2.TI:=λσ H R=>∃env s,tI (K:=K) (mg:=mg) env s (yS Φ G env it s) σ H R
noncomputable def uTs:Cns->List L2.TT
 |.a=>[]
 |.b e es=>uT K mg Φ G e::uTs es
end
section
variable {K:KF}{mg:Str->Option Value}{Φ:Calls}{G:Str->Option Val}
theorem iq(h:∀env s,L2.PE X E (tV X.K X.d env s (evE Φ G env e s))):L2.PE X E (uE X.K X.d Φ G e):=λpins s σ H Q I ⟨env,t,q⟩=>h env t pins s σ H Q I q
theorem Tc(h:∀env s,L2.PT X E (tT X.K X.d env s (evT Φ G env e s))):L2.PT X E (uT X.K X.d Φ G e):=λpins s σ H Q I ⟨env,t,q⟩=>h env t pins s σ H Q I q
theorem lZ(h:∀env s,L2.PI X tg E (tI (K:=X.K) (mg:=X.d) env s (yS Φ G env it s))):L2.PI X tg E (uI X.K X.d Φ G it):=λpins s σ H Q I ⟨env,t,q⟩=>h env t pins s σ H Q I q
theorem qH:∀{es} {ρ} {s} {H},HR K mg ρ s H->ER K mg ρ H env σ->xF Φ G env es s=.e b s2 ->
 (∀ρ' H',Ext ρ H ρ' H'->HR K mg ρ' s2 H'->Q b H')->L2.oY (uTs K mg Φ G es) σ H Q
 |.a,ρ,s,H,hr,er,h,q=>by
  rw[xF]at h;cases h;exact q ρ H Ext.refl hr
 |.b e es,ρ,s,H,hr,er,h,q=>by
  rw[xF]at h;refine⟨env,s,ρ,hr,er,?_⟩;cases hc:evT Φ G env e s with
  |e c s1=>
   rw[hc]at h;intro ρ1 c' H1 x1 hr1 e1;cases e1;cases c with
   |true=>exact L2.rZ (qH hr1 (er.mono x1) h λρ' H' x' hr'=>q ρ' H' (x1.trans hr1 x') hr')
   |false=>
    simp only[zL]at h;cases h;exact L2.uq (q ρ1 H1 x1 hr1)
  |g _ _ _=>rw[hc]at h;cases h
  |d=>rw[hc]at h;cases h
def uD(Φ:Calls)(G:Str->Option Val)(elt:Ex)(ifs:Cns):Env->Sto->List Val->Out (List Val × Env):=λe s' acc=>(xF Φ G e ifs s').bind λb s2=>if b then (evE Φ G e elt s2).bind λv s3=>.e (acc++[v],e) s3 else .e (acc,e) s2
theorem wG:Grows (uD Φ G elt ifs):=by
 intro e s a p s' h;unfold uD at h;cases hc:xF Φ G e ifs s with
 |e b s1=>
  rw[hc]at h;cases b with
  |true=>
   simp only[zL,if_true]at h;cases hv:evE Φ G e elt s1 with
   |e v s2=>rw[hv]at h;cases h;simp
   |g _ _ _=>rw[hv]at h;cases h
   |d=>rw[hv]at h;cases h
  |false=>simp only[zL]at h;cases h;exact Ab _
 |g _ _ _=>rw[hc]at h;cases h
 |d=>rw[hc]at h;cases h
theorem qJ(hn:H0 acc=none):BodyOk K mg acc ρ0 H0 (uD Φ G elt ifs) (L2.tTB (uTs K mg Φ G ifs) (L2.vH acc (uE K mg Φ G elt))):=by
 intro ρ s H env σ a p s' D C h hz q;unfold uD at h;cases hc:xF Φ G env ifs s with
 |e b s1=>
  rw[hc]at h;refine qH (ρ:=ρ) (s:=s) C.b C.c hc λρ1 H1 x1 hr1=>?_;have hacc1:∃ys,H1 acc=some (.b ys)/\RDs K mg ρ1 H1 a ys:=by obtain⟨ys,e1,e2⟩:=C.e;exact⟨ys,x1.c _ _ e1 (C.b.d acc C.d.here).2,e2.mono x1⟩
  cases b with
  |true=>
   simp only[zL,if_true]at h;refine L2.rZ ⟨env,s1,ρ1,hr1,C.c.mono x1,?_⟩;cases hv:evE Φ G env elt s1 with
   |e v s2=>
    rw[hv]at h;cases h;intro ρ2 y H2 x2 hr2 r2;have xx:=x1.trans hr1 x2;have lp2:=C.d.step C.b xx;obtain⟨ys,e1,e2⟩:=hacc1;have e3:H2 acc=some (.b ys):=x2.c _ _ e1 (hr1.d acc (C.d.step C.b x1).here).2;have e4:=e2.mono x2;have hl:ys.length<Aq:=by have h1:(a++[v]).length<=zS:=hz;rw[Av,e2.length,yg]at h1;simp at h1;omega
    have mv2:=sW (H1:=H2) hr2 lp2.here (.b (ys++[y]));refine⟨ys,e3,hl,q ρ2 _ σ ⟨lp2.emit hr2 hn _,hr2.emit lp2.here,⟨C.c.b,λi v' e'=>?_⟩,⟨_,L2.zM,RDs.mv mv2 (e4.append (.a r2 .d))⟩⟩ (xx.mv.trans mv2)⟩;obtain⟨u,h1,h2⟩:=(C.c.mono xx).a i v' e';exact⟨u,h1,RD.mv mv2 h2⟩
   |g _ _ _=>rw[hv]at h;cases h
   |d=>rw[hv]at h;cases h
  |false=>
   simp only[zL]at h;cases h;exact L2.uq (q ρ1 H1 σ ⟨C.d.step C.b x1,hr1,C.c.mono x1,hacc1⟩ x1.mv)
 |g _ _ _=>rw[hc]at h;cases h
 |d=>rw[hc]at h;cases h
def sC(Φ:Calls)(G:Str->Option Val)(elt:Ex)(ifs:Cns)(t2:Tgt)(it2:Itb)(ifs2:Cns):Env->Sto->List Val->Out (List Val × Env):=λe s' acc=>(xF Φ G e ifs s').bind λb s2=>if b then (yS Φ G e it2 s2).bind λr2 s3=>
 yj r2 t2 (uD Φ G elt ifs2) r2.a e s3 acc
 else .e (acc,e) s2
theorem tL:Grows (sC Φ G elt ifs t2 it2 ifs2):=by
 intro e s a p s' h;unfold sC at h;cases hc:xF Φ G e ifs s with
 |e b s1=>
  rw[hc]at h;cases b with
  |true=>
   simp only[zL,if_true]at h;cases hv:yS Φ G e it2 s1 with
   |e v s2=>rw[hv]at h;exact vZ wG h
   |g _ _ _=>rw[hv]at h;cases h
   |d=>rw[hv]at h;cases h
  |false=>simp only[zL]at h;cases h;exact Ab _
 |g _ _ _=>rw[hc]at h;cases h
 |d=>rw[hc]at h;cases h
theorem pM(hn:H0 acc=none)(TG:tP K mg t2 g2) :
 BodyOk K mg acc ρ0 H0 (sC Φ G elt ifs t2 it2 ifs2) (L2.tTB (uTs K mg Φ G ifs) (L2.qF (uI K mg Φ G it2) g2 (uTs K mg Φ G ifs2) (L2.vH acc (uE K mg Φ G elt)))):=by
 intro ρ s H env σ a p s' D C h hz q;unfold sC at h;cases hc:xF Φ G env ifs s with
 |e b s1=>
  rw[hc]at h;refine qH (ρ:=ρ) (s:=s) C.b C.c hc λρ1 H1 x1 hr1=>?_;have hacc1:∃ys,H1 acc=some (.b ys)/\RDs K mg ρ1 H1 a ys:=by obtain⟨ys,e1,e2⟩:=C.e;exact⟨ys,x1.c _ _ e1 (C.b.d acc C.d.here).2,e2.mono x1⟩
  have lp1:=C.d.step C.b x1;cases b with
  |true=>
   simp only[zL,if_true]at h;refine L2.rZ ⟨env,s1,ρ1,hr1,C.c.mono x1,?_⟩;cases hv:yS Φ G env it2 s1 with
   |e r2 s2=>
    rw[hv]at h;intro ρ2 H2 J x2 hr2 W;have xx:=x1.trans hr1 x2;obtain⟨ys,e1,e2⟩:=hacc1;have e3:H2 acc=some (.b ys):=x2.c _ _ e1 (hr1.d acc lp1.here).2;exact wY W TG wG (qJ hn) ⟨lp1.step hr1 x2,hr2,C.c.mono xx,⟨ys,e3,e2.mono x2⟩⟩ h hz λρ3 H3 σ3 C3 mv3=>q ρ3 H3 σ3 C3 (xx.mv.trans mv3)
   |g _ _ _=>rw[hv]at h;cases h
   |d=>rw[hv]at h;cases h
  |false=>
   simp only[zL]at h;cases h;exact L2.uq (q ρ1 H1 σ ⟨lp1,hr1,C.c.mono x1,hacc1⟩ x1.mv)
 |g _ _ _=>rw[hc]at h;cases h
 |d=>rw[hc]at h;cases h
theorem hJ(er:ER K mg ρ H env σ)fr:ER K mg ρ H (zZ fr env) (L2.zZ fr σ):=by
 refine⟨by unfold zZ L2.zZ;rw[Ad,Ad],λi v e=>?_⟩
 unfold zZ at e;unfold L2.zZ;rw[A5]at e ⊢;cases hf:fr[i]? with
 |none=>rw[hf]at e;cases e
 |some o=>
  rw[hf]at e;cases o with
  |none=>cases e
  |some j=>
   have e':(env[j]?).join=some v:=AW e;have e2:env[j]?=some (some v):=by
    cases h1:env[j]? with
    |none=>rw[h1]at e';cases e'
    |some w=>rw[h1]at e';have:w=some v:=e';rw[this]
   obtain⟨x,h1,h2⟩:=er.a j v e2;refine⟨x,?_,h2⟩;show some ((σ[j]?).join)=_;rw[h1];rfl
theorem vt(TG:tP K mg t g)(hg:Grows body)
 (hb:∀acc ρ0 H0,H0 acc=none->BodyOk K mg acc ρ0 H0 body (L2.tTB ts (tb acc)))    
 (h:tV K mg env s ((yS Φ G env it s).bind λr s1=>(yj r t body r.a (zZ fr env) s1 []).bind λp s2=>if chk=true->p.1.length<=zS then newList m p.1 s2 else .d) σ H Q)
 (hlen:chk=false->∀r s1 p s2,yj r t body r.a (zZ fr env) s1 []=.e p s2->p.1.length<=r.a.length):L2.wc fr (uI K mg Φ G it) g ts tb σ H Q:=by
 obtain⟨ρ,hr,er,w⟩:=h;refine⟨env,s,ρ,hr,er,?_⟩;cases hi:yS Φ G env it s with
 |e r s1=>
  rw[hi]at w;simp only[zL]at w;intro ρ1 H1 J x1 hr1 W acc hacc;cases hl:yj r t body r.a (zZ fr env) s1 [] with
  |e p s2=>
   rw[hl]at w;simp only[zL]at w;have hz:p.1.length<=zS/\yV K mg (RD K mg) ρ H (newList m p.1 s2) Q:=by
    by_cases hc:chk=true->p.1.length<=zS
    . rw[if_pos hc]at w
      refine⟨?_,w⟩;cases chk with
      |true=>exact hc rfl
      |false=>exact Az (hlen rfl r s1 p s2 hl) W.b
    . rw[if_neg hc]at w;exact w.elim
   have mv:=sX (ρ:=ρ1) hr1 hacc (.b []);have ers:=hJ (er.mono x1) fr;refine wY (ρ0:=ρ1) (H0:=H1) (W.mv mv) TG hg (hb acc ρ1 H1 hacc) ⟨Lp.start hr1 hacc _,hr1.hide hacc,⟨ers.b,λi v e=>?_⟩,⟨[],L2.zM,.d⟩⟩ hl hz.1 λρ3 H3 σ3 C3 _=>?_
   . obtain⟨x,h1,h2⟩:=ers.a i v e
     exact⟨x,h1,RD.mv mv h2⟩
   . obtain⟨ys,e1,e2⟩:=C3.e
     exact C3.d.done hr1 hacc C3.b e1 e2 (hz.2.mono x1 hr1)
  |g _ _ _=>rw[hl]at w;exact w.elim
  |d=>rw[hl]at w;exact w.elim
 |g _ _ _=>rw[hi]at w;exact w.elim
 |d=>rw[hi]at w;exact w.elim
theorem sD:∀{xs} {env} {s} {a} {p} {s'},yj r t (uD Φ G elt ifs) xs env s a=.e p s'->p.1.length<=a.length+xs.length
 |[],env,s,a,p,s',h=>by
  rw[yj]at h;split at h
  . cases h;exact Ab _
  . cases h
 |x::xs,env,s,a,p,s',h=>by
  rw[yj]at h;split at h
  . split at h
    . cases h
    . rename_i env' he
      cases hc:uD Φ G elt ifs env' s a with
      |e q s1=>
       rw[hc]at h;have h1:=sD h;have h2:q.1.length<=a.length+1:=by
        unfold uD at hc;cases h3:xF Φ G env' ifs s with
        |e b s2=>
         rw[h3]at hc;cases b with
         |true=>
          simp only[zL,if_true]at hc;cases h4:evE Φ G env' elt s2 with
          |e v s3=>rw[h4]at hc;cases hc;simp
          |g _ _ _=>rw[h4]at hc;cases hc
          |d=>rw[h4]at hc;cases hc
         |false=>simp only[zL]at hc;cases hc;exact CP _
        |g _ _ _=>rw[h3]at hc;cases hc
        |d=>rw[h3]at hc;cases hc
       rw[AM];omega
      |g _ _ _=>rw[hc]at h;cases h
      |d=>rw[hc]at h;cases h
  . cases h
end
end M
end
section
namespace M
open PySem PySem.W
def qL(K:KF)(mg:Str->Option Value)(ρ:Own)(H:L2.Hp)(x:sP)(E:L2.XK):Prop:=match x with
 |some (c,_,s')=>∀ρ' H',Ext ρ H ρ' H'->HR K mg ρ' s' H'->∀C,mg c=some (.ref C)->E (.ref C) none H'
 |dS=>False
def spX(T:Tbl)(K:KF)(mg:Str->Option Value)(n:Nat)(f:Str)(ver:Nat):L2.Sp:=λvs H Q E=>∃ρ s args,HR K mg ρ s H/\RDs K mg ρ H args vs/\(yV K mg (RD K mg) ρ H (zB T n f ver args s) Q\/qL K mg ρ H (ze T n f ver args s) E)
structure Sc(T:Tbl)(K:KF)(mg:Str->Option Value):Prop where
 a:∃(kx:Str) (cs ws:List Str) (pre:Option Str) (hue:Addr),mg "HueError"=some (.ref hue)/\L2.pP K mg kx cs ws pre/\(∀b,T.c b=true->∃f,L2.gM K mg b kx f) /\
  (∀c w,T.f.lookup c=some w->∃(C:Addr) (i:Nat) (x:Str),mg c=some (.ref C)/\(∃Kc,L2.qM Kc K/\exmOne Kc (.ref C) (.ref hue)=some true)/\L2.Named K mg cs C c/\cs[i]?=some c/\ws[i]?=some x/\w=L2.ans pre x/\w≠"great") /\
  ∀c w,T.f.lookup c=some w->∀base,K.In base->∃C,mg c=some (.ref C)/\L2.ClsAt base C (.ref hue::L2.veM)/\L2.ClsAt base hue L2.veM
 bm:∀base,K.In base->L2.Bm base mg
structure Lv(T:Tbl)(P:Program)(w:World)(K:KF)(mg:Str->Option Value)(base:Heap)(n:Nat):Prop where
 a:∀f v F,T.d f v=some F->∃fa fd,mg f=some (.ref fa)/\BP K (.ref fa)=true/\L2.Binds K fd F.b []/\L2.uY P w K mg base L2.CX0 n fa fd F.b (spN T K mg n f v)/\L2.uY P w K mg base (L2.CXE P w) n fa fd F.b (spX T K mg n f v)
structure Sd(T:Tbl)(P:Program)(w:World)(K:KF)(mg:Str->Option Value)(base:Heap)(m:Nat):Prop where
 a:Sc T K mg
 b:∀j,j<=m->Lv T P w K mg base j
def Cod(T:Tbl)(X:L2.Cx):Prop:=∃g∈T.e,∃(fa c:Addr) (o:Obj) (fd:BH),X.d g=some (.ref fa)/\X.K.lookup fa=some o/\o.data=.func fd/\fd.code=.ref c/\X.a.code=.ref c/\X.a.qual=g++(".<locals>.":Str)
theorem rV:∀{l} {s} {g},zl l s=true->g∈l->∃j:Nat,s[j]?=some (.d g)
 |[],_,_,_,h=>by cases h
 |x::r,[],_,h,_=>by cases h
 |x::r,c::s,g,h,hm=>by
  cases c with
  |d y=>
   rw[zl,cf,decide_eq_true_eq]at h;rcases As.mp hm with z|z
   . subst z;rw[h.1];exact⟨0,rfl⟩
   . obtain⟨j,e⟩:=rV h.2 z
     exact⟨j+1,e⟩
  |_=>cases h
section
variable {K:KF}{mg:Str->Option Value}{ρ:Own}{H H':L2.Hp}{s:Sto}
theorem HR.Ui(h:HR K mg ρ s H)(sm:L2.xq H H'):HR K mg ρ s H'/\Ext ρ H ρ H':=by
 have X:Ext ρ H ρ H':=⟨⟨[],by simp,λa ha=>by cases ha⟩,rfl,λa o e _=>sm a o e,λa ha=>by obtain⟨o,e⟩:=h.trk ha;rw[e,sm a o e]⟩
 refine⟨⟨h.f,h.v,λi c e=>?_,λa ha=>?_⟩,X⟩
 . obtain⟨a,e1,r⟩:=h.m i c e
   obtain⟨o,e2⟩:=r.there;exact⟨a,e1,r.mv X.mv (by rw[e2,sm a o e2])⟩
 . obtain⟨⟨xs,e⟩,n⟩:=h.d a ha
   exact⟨⟨xs,sm _ _ e⟩,n⟩
theorem pL(h:De l):l=[]\/∃i j t u c r,l=.int i t::.int j u::c::r/\De r:=by
 unfold De at h;split at h
 . exact .inl rfl
 . exact .inr ⟨_,_,_,_,_,_,rfl,h⟩
 . exact h.elim
theorem pK:∀n {l},l.length<=n->De l->De (l++[.int i t,.int j u,c])
 |n,l,hl,h=>by
  rcases pL h with rfl|⟨i',j',t',u',c',r,rfl,h'⟩
  . exact AE
  . cases n with
    |zero=>cases hl
    |succ n=>exact pK n (l:=r) (by simp only[AM]at hl;omega) h'
theorem rC:∀n {l},l.length<=n->De l->Dd pos (l++[.int i t,.int j u,c])=some cv->Dd pos l=some cv\/cv=c
 |n,l,hl,h,e=>by
  rcases pL h with rfl|⟨i',j',t',u',c',r,rfl,h'⟩
  . have e':(if i == pos.line&&j == pos.col then some c else none)=some cv:=e
    split at e'
    . cases e';exact .inr rfl
    . cases e'
  . have e':(if i' == pos.line&&j' == pos.col then some c' else Dd pos (r++[.int i t,.int j u,c]))=some cv:=e
    show (if i' == pos.line&&j' == pos.col then some c' else Dd pos r)=some cv\/_
    cases n with
    |zero=>cases hl
    |succ n=>
     split at e'
     . rename_i z;rw[if_pos z];exact .inl e'
     . rename_i z;rw[if_neg z];exact rC n (l:=r) (by simp only[AM]at hl;omega) h' e'
theorem HR.lam{j:Nat}(h:HR K mg ρ s H)(hs:s[j]?=some (.d g))(hj:ρ.o[j]?=some P)(tr:W6 K mg ρ H P g)(hP:H P=some (.g ps))(l:L2.YH H P ps pos (eQ g) c H'):HR K mg ρ s H'/\Ext ρ H ρ H':=by
 rcases l with rfl|⟨o,vs,t,hf,hc,hd,hv,rfl⟩
 . exact⟨h,Ext.refl⟩
 . obtain⟨ps',e1,tok,among,fn⟩:=tr
   rw[hP]at e1;cases e1;have hcP:c≠P:=λz=>by rw[z,hP]at hc;cases hc
   have comm:L2.upd (L2.upd H P (.g (ps++#[rawInt pos.line,rawInt pos.col,.ref c]))) c (.d o (.e 0))=L2.upd (L2.upd H c (.d o (.e 0))) P (.g (ps++#[rawInt pos.line,rawInt pos.col,.ref c])):=by
    funext b;unfold L2.upd;by_cases z1:b=c
    . subst z1;rw[if_pos rfl,if_neg hcP,if_pos rfl]
    . rw[if_neg z1]
      by_cases z2:b=P
      . rw[if_pos z2,if_pos z2]
      . rw[if_neg z2,if_neg z2,if_neg z1]
   rw[comm];have h1:=h.more hc (.d o (.e 0));have X1:=Ext.new h hc (.d o (.e 0));have hP1:L2.upd H c (.d o (.e 0)) P=some (.g ps):=by rw[L2.zH (Bv hcP)];exact hP
   have kk:hk (some (.g (ps++#[rawInt pos.line,rawInt pos.col,.ref c])))=hk (L2.upd H c (.d o (.e 0)) P):=by rw[hP1];rfl
   have X2:=Ext.sE h1 hj kk;have hnoc:ρ.no c:=h.new hc;have kc:∀b u,ρ.no b->H b=some u->L2.upd (L2.upd H c (.d o (.e 0))) P (.g (ps++#[rawInt pos.line,rawInt pos.col,.ref c])) b=some u:=λb u nb e=>X2.c b u (X1.c b u e nb.1) nb.1;refine⟨?_,X1.trans h1 X2⟩;have hr:=h1.sE (c:=.d g) hj kk ⟨_,L2.zM,?_,λpos' cv hcv=>?_,fn⟩
   . rw[show s.set j (.d g)=s from ?_]at hr
     . exact hr
     . refine List.ext_getElem? λi=>?_
       by_cases z:j=i
       . subst z;rw[Ar (Am.mp hs).1,hs]
       . rw[AO z]
   . rw[Array.toList_append];exact pK _ (Ab _) tok
   . rw[Array.toList_append]at hcv
     rcases rC _ (Ab _) tok hcv with z|z
     . obtain⟨b,ob,vb,tb,q1,q2,q3,q4⟩:=among pos' cv z
       exact⟨b,ob,vb,tb,q1,q2,kc b _ q2 q3,q4⟩
     . exact⟨c,o,vs,t,z,hnoc,X2.c c _ L2.zM hnoc.1,hd,hv⟩
end
noncomputable def xU(cells:List (Str × Addr)):List (Str × Cg)->List (Str × Addr)->List (Str × Addr)
 |[],acc=>acc
 |(x,k)::r,acc=>xU cells r (if k == .free then (x,(cells.lookup x).getD 0)::acc else acc)
theorem kY(h:∀x∈lsc.names,x.2=.free->∃c,env.cells.lookup x.1=some c):FQ lsc env=pure (xU env.cells lsc.names []):=by
 have key:∀(names:List (Str × Cg)) (acc:List (Str × Addr)),(∀x∈names,x.2=.free->∃c,env.cells.lookup x.1=some c) ->
  (forIn names acc λ(x:Str × Cg) (cs:List (Str × Addr))=>(do if x.2 == .free then pure (BZ ((x.1,<-cellOf env x.1)::cs)) else pure (BZ cs):Sem (ForInStep (List (Str × Addr)))))=pure (xU env.cells names acc):=by
  intro names;induction names with
  |nil=>intro acc _;rfl
  |cons p r ih=>
   obtain⟨x,k⟩:=p;intro acc hh;rw[D5];by_cases hk:k=.free
   . subst hk
     obtain⟨c,hc⟩:=hh (x,.free) (Ao ..) rfl;have e:cellOf env x=pure c:=by unfold cellOf;rw[hc]
     have e2:xU env.cells ((x,.free)::r) acc=xU env.cells r ((x,c)::acc):=by show xU env.cells r ((x,(env.cells.lookup x).getD 0)::acc)=_;rw[hc];rfl
     rw[e2];simp only[show ((Ay == Ay)=true) from rfl,if_true,e,C8];exact ih _ λy hy=>hh y (Ac _ hy)
   . have hb:(k == Ay)=false:=by simpa using hk
     have e2:xU env.cells ((x,k)::r) acc=xU env.cells r acc:=by
      show xU env.cells r (if k == .free then _ else acc)=_
      rw[hb];rfl
     rw[e2];simp only[hb,A2,if_false,C8];exact ih _ λy hy=>hh y (Ac _ hy)
 unfold FQ;have:=key lsc.names [] h;simpa using this
theorem tW:∀{names} {acc} {x} {b},(x,b)∈xU cells names acc->(x,b)∈acc\/((x,Ay)∈names/\b=(cells.lookup x).getD 0)
 |[],_,_,_,h=>.inl h
 |(y,k)::r,acc,x,b,h=>by
  rcases tW (names:=r) h with z|z
  . by_cases hk:k=.free
    . subst hk
      rcases As.mp z with z|z
      . cases z;exact .inr ⟨Ao ..,rfl⟩
      . exact .inl z
    . have hb:(k == Ay)=false:=by simpa using hk
      rw[hb]at z;exact .inl z
  . exact .inr ⟨Ac _ z.1,z.2⟩
theorem qe:∀{names} {acc} {x} {b},(x,b)∈acc->(x,b)∈xU cells names acc
 |[],_,_,_,h=>h
 |(y,k)::r,acc,x,b,h=>qe (names:=r) (by
  split
  . exact Ac _ h
  . exact h)
theorem wX:∀{names} {acc} {x},(x,Ay)∈names->(x,(cells.lookup x).getD 0)∈xU cells names acc
 |(y,k)::r,acc,x,h=>by
  rcases As.mp h with z|z
  . cases z;exact qe (names:=r) (Ao ..)
  . exact wX (names:=r) z
theorem lookup_mem{α:Type}{l:List (Str × α)}{b}(h:(x,b)∈l):∃c,l.lookup x=some c:=by
 cases e:l.lookup x with
 |some c=>exact⟨c,rfl⟩
 |none=>
  rw[Fm]at e;have:=e _ h;simp at this
end M
end
section
namespace L2
open PySem PySem.Spec PyProof.Rows
def W2(tabs:List Addr)(H:Hp):Prop:=∀b,H b=none\/(∃o xs,H b=some (.d o (.b xs)))\/(b∈tabs/\H b=some (.g #[]))
theorem iH{K}{tabs:List Addr}
 (KX:K.In s₁.heap) (hns:s₁.heap.Ns AI mg) (hb:s₁.heap.Ns EW mb) (hbb:∀x:Str,x≠"__name__"->mb x=BW x) (hlim:s₁.heap.NoLimit) (hg:s₁.gens=#[])
 (ha:s₁.heap.get? a=some {cls:=.type "list",data:=.seq vs.toArray}) (hi:IntsAre vs ns) (hl:ns.length<=Aq) (hr:y9 k callerA)
 (ht:∀b∈tabs,s₁.heap.get? b=some (Ef #[])/\K.lookup b=none/\FA s₁.heap b)
 (F:∀base:Heap,K.In base->base.Ns AI mg->uY P w K mg base CX k fa fd [x] sp) (hbind:∀s u,BindsTo s fd ⟨[u],[]⟩ [(x,u)])
 (hsp:∀H:Hp,(∀b∈tabs,H b=some (.g #[]))->SqL K H a (ns.map V.d)->sp [.c a] H (λv _=>v=.f true) λ_ _ _=>False)
 (hCX:∀H e s',CX [] H s₁ (λ_ _ _=>False) e s'->False) :
 codeAny (model P w) callerA (.call (.ref fa) ⟨[.ref a],[]⟩) (λr s'=>r=.ok (.ret (.bool true))/\OldK s₁.heap s'.heap/\s'.os=s₁.os/\AllBare s'.gens) s₁:=by
 have rv:=pN hi;have lenV:=hi.length;have nat:a ∉ tabs:=λz=>by have:=(ht a z).1;rw[ha]at this;cases this
 have core:∀H:Hp,W2 tabs H->(∀b∈tabs,H b=some (.g #[]))->SqL K H a (ns.map V.d)->HOk P w H s₁.heap->(∀b,H b≠none->b=a\/b∈tabs)->(H a≠none->K.lookup a=none) ->
  codeAny (model P w) callerA (.call (.ref fa) ⟨[.ref a],[]⟩) (λr s'=>r=.ok (.ret (.bool true))/\OldK s₁.heap s'.heap/\s'.os=s₁.os/\AllBare s'.gens) s₁:=by
  intro H hO hT hS hok hA hK;have ua:∀{b:Addr} {o:Obj},s₁.heap.get? b=some o->H b=none->(pj s₁.heap H).get? b=some o:=λe n=>fY e n;have noA:∀{b:Addr} {o:Obj} {es:Array Fo} {ep:Nat},s₁.heap.get? b=some o->o.data=.dict es ep->H b=none:=λ{b o es ep} e d=>by
   cases q:H b with
   |none=>rfl
   |some u=>
    rcases hA b (by rw[q];simp) with e'|e'
    . subst e'
      rw[ha]at e;cases e;have d':Data.seq vs.toArray _=Data.dict es ep:=d;cases d'
    . rw[(ht b e').1]at e;cases e
      have d':Data.fields #[]=Data.dict es ep:=d;cases d'
  have nsK:∀{b:Addr} {m:Str->Option Value},s₁.heap.Ns b m->(pj s₁.heap H).Ns b m:=λ{b m} ⟨o,es,ep,e,d,r⟩=>⟨o,es,ep,ua e (noA e d),d,r⟩;have hKb:K.In (pj s₁.heap H):=λb o e=>ua (KX b o e) (by
   cases q:H b with
   |none=>rfl
   |some u=>
    rcases hA b (by rw[q];simp) with e'|e'
    . subst e'
      rw[hK (by rw[q];simp)]at e;cases e
    . rw[(ht b e').2.1]at e;cases e)
  have hM:Mod K mg (pj s₁.heap H):=⟨hKb,nsK hns,⟨mb,nsK hb,hbb⟩,let ⟨mc,h1,h2⟩:=hlim;⟨mc,nsK h1,h2⟩⟩;have e0:mZ P w K mg (pj s₁.heap H) callerA [] s₁ H:=⟨rfl,hM,λb o e=>aM e,Dg (j4 _ _),trivial,λb hb=>absurd (show b∈([]:List Addr) from hb) (by simp),hok,.of_eq hg⟩
  refine CA ((F _ hKb (nsK hns)).a callerA [] s₁ H ⟨[.ref a],[]⟩ [.ref a] [.c a] _ _ hr e0 (hbind s₁ (.ref a)) (.cons rfl .nil) (hsp H hT hS)) λr s' h=>?_;cases r with
  |error e=>exact(hCX H e s' h).elim
  |ok fl=>
   cases fl with
   |next=>exact Aw h
   |brk=>exact Aw h
   |cont=>exact Aw h
   |ret u=>
    obtain⟨v,H',os,bare,un,hok',r',q⟩:=h;have q':v=.f true:=q;subst q';obtain rfl:u=EV true:=r';have all:∀b o,s₁.heap.get? b=some o->asItWas s₁.heap s'.heap b o:=λb o e=>by
     cases q:H b with
     |none=>exact .inl (un.f b o e q (by intro z;exact absurd (show b∈([]:List Addr) from z) (by simp)) (by simp))
     |some u=>
      rcases hO b with z|⟨ob,xs,z⟩|⟨z1,z⟩
      . rw[q]at z;cases z
      . have z2:=un.g b ob _ z
        obtain⟨e1,_⟩:=hok b _ z;obtain⟨e2,_⟩:=hok' b _ z2;rw[e]at e1;cases e1;exact .inl e2
      . obtain⟨more,z2⟩:=un.j b _ z
        have e2:s'.heap.get? b=some (Ef (#[]++more)):=hok' b _ z2;obtain⟨t1,_,t3⟩:=ht b z1;rw[e]at t1;cases t1;exact .inr (.inl ⟨t3,rfl,#[],more,rfl,e2⟩)
    exact⟨rfl,⟨all,λb o e=>by
     rcases all b o e with z|⟨_,_,_,_,_,z⟩|⟨_,_,⟨o',_,_,z,_⟩,_⟩
     . exact⟨_,z⟩
     . exact⟨_,z⟩
     . exact⟨_,z⟩⟩,os,bare⟩
 cases hk:K.lookup a with
 |some o=>
  have e:=KX a o hk;rw[ha]at e;cases e;refine core (λb=>if b∈tabs then some (.g #[]) else none) (λb=>?_) (λb hb=>if_pos hb) (.inr ⟨_,vs.toArray,_,hk,rfl,rfl,rfl,by rw[Ag,lenV];exact hl,by simpa using rv⟩) (λb u z=>?_) (λb z=>?_) λz=>?_
  . by_cases hb:b∈tabs
    . exact .inr (.inr ⟨hb,if_pos hb⟩)
    . exact .inl (if_neg hb)
  . by_cases hb:b∈tabs
    . have z':=(if_pos hb).symm.trans z
      cases z';exact(ht b hb).1
    . have z':=(if_neg hb).symm.trans z
      cases z'
  . by_cases hb:b∈tabs
    . exact .inr hb
    . exact absurd (if_neg hb) z
  . exact absurd (if_neg nat) z
 |none=>
  refine core (λb=>if b=a then some (.d {cls:=.type "list",data:=.seq vs.toArray} (.b (ns.map V.d))) else if b∈tabs then some (.g #[]) else none) (λb=>?_) (λb hb=>(if_neg (λz=>nat (by rw[<-z];exact hb))).trans (if_pos hb)) (.inl (.inr ⟨{cls:=.type "list",data:=.seq vs.toArray},if_pos rfl⟩)) (λb u z=>?_) (λb z=>?_) λ_=>hk
  . by_cases hb:b=a
    . exact .inr (.inl ⟨_,_,if_pos hb⟩)
    . by_cases hb2:b∈tabs
      . exact .inr (.inr ⟨hb2,(if_neg hb).trans (if_pos hb2)⟩)
      . exact .inl ((if_neg hb).trans (if_neg hb2))
  . by_cases hb:b=a
    . have z':=(if_pos hb).symm.trans z
      cases z';subst hb;exact⟨ha,by rw[Ad];exact hl,vs,_,rv,ha⟩
    . by_cases hb2:b∈tabs
      . have z':=((if_neg hb).trans (if_pos hb2)).symm.trans z
        cases z';exact(ht b hb2).1
      . have z':=((if_neg hb).trans (if_neg hb2)).symm.trans z
        cases z'
  . by_cases hb:b=a
    . exact .inl hb
    . by_cases hb2:b∈tabs
      . exact .inr hb2
      . exact absurd ((if_neg hb).trans (if_neg hb2)) z
end L2
end
section
namespace M
open PySem
noncomputable def rY(sc:Scope)(x:Str):Bool:=decide (sc.names.lookup x=some .local)||decide (sc.names.lookup x=some .cell)||decide (sc.names.lookup x=some .free)
noncomputable def xW(sc:Scope)(x:Str):Bool:=decide (sc.names.lookup x=some .globalImplicit)
noncomputable def xt:List Str:=["len","all","any","tuple","list","sorted","repr","max","min","sum","int","isinstance","divmod","str","bool","dict","set","range","enumerate","zip"]
noncomputable def U0(y:Str)(n:String):Bool:=(decide (y="int")&&decide (n="int"))||(decide (y="bool")&&decide (n="bool"))||(decide (y="str")&&decide (n="str"))||(decide (y="list")&&decide (n="list"))||(decide (y="tuple")&&decide (n="tuple"))||(decide (y="dict")&&decide (n="dict"))
noncomputable def vC:Val->Option Const
 |.g=>some .none
 |.e b=>some (.bool b)
 |.c i=>some (.int i)
 |.m x=>some (.str x)
 |_=>none
def VE(v:Val)(e:Expr):Bool:=bP e λc _ _=>decide (vC v=some c)
def eSd(e:Expr)(k:Str->DM->Str->List Expr->Scope->Bool):Bool:=eCN e λx xs=>l1 xs λl=>Yi l λa b lsc _=>eCN b λy ys=>k x a y ys lsc
theorem bT(h:eSd e k=true):∃x a y ys lsc p1 p2 p3 p4 p5,e=.Call (.Name x p1) [.Lambda a (.Call (.Name y p2) ys [] p3) lsc p4] [] p5/\k x a y ys lsc=true:=by obtain⟨x,p1,xs,p5,rfl,h1⟩:=yf h;obtain⟨l,rfl,h2⟩:=yN h1;obtain⟨a,b,lsc,p4,rfl,h3⟩:=nE h2;obtain⟨y,p2,ys,p3,rfl,h4⟩:=yf h3;exact⟨x,a,y,ys,lsc,p1,p2,p3,p4,p5,rfl,h4⟩
noncomputable def uJ(a:DM):Bool:=a.posonlyargs.isEmpty&&a.args.isEmpty&&a.vararg.isNone&&a.kwonlyargs.isEmpty&&a.kw_defaults.isEmpty&&a.kwarg.isNone&&a.defaults.isEmpty
noncomputable def vD(sc lsc:Scope):Bool:=decide (lsc.kind=.function)&&!lsc.isCoroutine&&!lsc.isGenerator&&lsc.names.all (λy=>decide (y.2=.globalImplicit)||(decide (y.2=.free)&&(decide (sc.names.lookup y.1=some .cell)||decide (sc.names.lookup y.1=some .free))))&&sc.names.any (λy=>decide (sc.names.lookup y.1=some .cell))
noncomputable def okV:Bool:=false
noncomputable def Tw:Exs->Bool
 |.a (.e _) _=>true
 |_=>false
mutual
noncomputable def sim:Ex->Bool
 |.g _|.e _|.F _=>true
 |.j m _ a b=>!m&&sim a&&sim b
 |.D a=>sim a
 |.y es=>vm es
 |.w m es=>!m&&vm es
 |.z a b=>sim a&&sim b
 |_=>false
noncomputable def vm:Exs->Bool
 |.c=>true
 |.a e es=>sim e&&vm es
end
def ckA(sc:Scope)(f:Str)(q:List Expr->Bool)(e:Expr):Bool:=eCN e λx xs=>decide (x=f)&&xW sc x&&!(x == ("__debug__":Str))&&q xs&&zc xs
def ckB(sc:Scope)(N:List Str)(f:Str)(ver:Nat)(es:Exs)(q:Scope->List Expr->Bool)(e:Expr):Bool:=eSd e λx a y ys lsc=>decide (x=L2.yQ (decide (ver=101)))&&xW sc x&&uJ a&&vD sc lsc&&decide (y=f)&&xW lsc y&&!(y == ("__debug__":Str))&&vm es&&q lsc ys&&zc ys&&!ys.isEmpty&&decide (("!":Str)∈N)
def ckV(sc:Scope)(N:List Str)(ver:Nat)(es:Exs)(q:Scope->List Expr->Bool)(e:Expr):Bool:=(okV&&Tw es)&&eSd e λx a y ys lsc=>decide (x=L2.yQ (decide (ver=301)))&&xW sc x&&uJ a&&vD sc lsc&&vm es&&q lsc (.Name y default::ys)&&zc ys&&!ys.isEmpty&&decide (("!":Str)∈N)&&decide (ver≠200)
mutual
noncomputable def ck(sc:Scope)(N:List Str):Ex->Expr->Bool
 |.g v,e=>VE v e
 |.e i,e=>(eName e λx _=>decide (N[i]?=some x)&&rY sc x&&!(x == ("__debug__":Str))&&!(x == ("__classdict__":Str)))
 |.F y,e=>(eName e λx _=>decide (x=y)&&xW sc x&&!(x == ("__debug__":Str)))
 |.J y n,e=>(eName e λx _=>decide (x=y)&&xW sc x&&U0 y n)
 |.j _ op a b,e=>(VH e λl o r _=>(okB op&&decide (o=op.op))&&ck sc N a l&&ck sc N b r)
 |.D a,e=>(eOp .USub e λx=>ck sc N a x)
 |.E a,e=>(eOp .Not e λx=>ck sc N a x)
 |.r op a b,e=>(eC1 e λl o r=>(okC op&&decide (o=op.op))&&ck sc N a l&&ck sc N b r&&plain r)
 |.s op op' a b c,e=>(eC2 e λl o o' r r'=>(okC op&&decide (o=op.op))&&(okC op'&&decide (o'=op'.op))&&ck sc N a l&&ck sc N b r&&ck sc N c r'&&plain r')
 |.u a es,e=>(eBl .And e λx xs=>ck sc N a x&&ckL sc N es xs)
 |.H _ _,_=>false
 |.G _ _ _,_=>false
 |.y es,e=>(fM e λxs _ _=>ckL sc N es xs&&zc xs)
 |.w _ es,e=>(Yj e λxs _=>ckL sc N es xs&&zc xs)
 |.A,e=>(eD0 e)
 |.B _,e=>(eD0 e)
 |.I _ _,_=>false
 |.h f ver es,e=>if ver<100 then ckA sc f (λxs=>ckL sc N es xs) e else if ver<200 then ckB sc N f ver es (λl ys=>ckL l N es ys) e else ckV sc N ver es (λl ys=>ckL l N es ys) e
 |.l f _ es,e=>(eCN e λx xs=>lc xs λy ys=>(okF f&&decide (x=f.nm))&&xW sc x&&ckL sc N es (y::ys)&&zc (y::ys))
 |.C _ _,_=>false
 |.K f _ o es,e=>(eMt e λob x ap y cp=>decide (x=f.nm)&&ck sc N o ob&&ckL sc N es [y]&&plain y&&sZ ob&&(ap.endLine == cp.line)&&okM f)
 |.z a b,e=>(bU e λl r _=>ck sc N a l&&ck sc N b r&&plain r)
 |.L _ a lo hi st,e=>(eSS e λl x y z=>ck sc N a l&&ckO sc N lo x&&ckO sc N hi y&&ckO sc N st z)
 |.q _ N' fr elt t it ifs,e=>(eG1 e λx tg iter fs csc=>L2.vR sc N N' csc fr&&decide N'.Nodup&&ckT csc N' t tg&&ckI sc N it iter tg&&qO csc N' ifs fs&&ck csc N' elt x&&plain iter)
 |.p _ N' fr elt t it ifs t2 it2 ifs2,e=>(eG2 e λx tg iter fs tg2 iter2 fs2 csc=>L2.vR sc N N' csc fr&&decide N'.Nodup&&ckT csc N' t tg&&ckI sc N it iter tg&&qO csc N' ifs fs&&ckT csc N' t2 tg2&&ckI csc N' it2 iter2 tg2&&qO csc N' ifs2 fs2&&ck csc N' elt x&&plain iter&&plain iter2)
 |.k _ _ _ _,_=>false
noncomputable def ckL(sc:Scope)(N:List Str):Exs->List Expr->Bool
 |.c,es=>es.isEmpty
 |.a a as,es=>(lc es λe es=>ck sc N a e&&ckL sc N as es)
noncomputable def ckO(sc:Scope)(N:List Str):OEx->Option Expr->Bool
 |.b,e=>e.isNone
 |.a a,e=>(o1 e λe=>ck sc N a e)
noncomputable def ckC(sc:Scope)(N:List Str):Cn->Expr->Bool
 |.a a,e=>ck sc N a e&&(plainT e||decide (e.ctorIdx=15))
 |.b c,e=>(eOp .Not e λx=>ckC sc N c x)
 |.d c cs,e=>(eBl .And e λx xs=>ckC sc N c x&&qO sc N cs xs)
 |.f c cs,e=>(eBl .Or e λx xs=>ckC sc N c x&&qO sc N cs xs)
noncomputable def qO(sc:Scope)(N:List Str):Cns->List Expr->Bool
 |.a,es=>es.isEmpty
 |.b a as,es=>(lc es λe es=>ckC sc N a e&&qO sc N as es)
noncomputable def ckI(sc:Scope)(N:List Str):Itb->Expr->Expr->Bool
 |.h a,e,_=>ck sc N a e
 |.d a,e,_=>(eCN e λx xs=>l1 xs λy=>decide (x="range")&&xW sc x&&ck sc N a y&&plain y)
 |.f a b,e,_=>(eCN e λx xs=>lc xs λy ys=>l1 ys λz=>decide (x="range")&&xW sc x&&ck sc N a y&&ck sc N b z&&plain y&&plain z)
 |.g a b c,e,_=>(eCN e λx xs=>lc xs λy ys=>lc ys λz zs=>l1 zs λu=>decide (x="range")&&xW sc x&&ck sc N a y&&ck sc N b z&&ck sc N c u&&plain y&&plain z&&plain u)
 |.i _,_,_=>false
 |.j _ _,_,_=>false
end
structure Ok(T:Tbl)(n:Nat)(sc:Scope)(N:List Str)(X:L2.Cx):Prop where
 c:X.i=true
 d:L2.y9 n X.A
 a:Scp sc N X
 p:∀f v F,T.d f v=some F->Callee T n X f v F
 k:∀x v,T.b x=some v->∃u xv,X.d x=some u/\L2.RelV xv u/\∀ρ H,RD X.K X.d ρ H v xv
 g:∀x∈xt,X.d x=none
 xe:X.j=λ_ _=>False
 i:∀f v,100<=v->T.d f v=none
 l:∀m,n=m+1->(∃b,T.c b=true)->Sd T X.f X.w X.K X.d X.h m
 j:(∃b,T.c b=true)->(∃x,sc.names.lookup x=some .cell)->("!":Str)∈N->Cod T X
theorem qh(S:Scp sc N X)(h:L2.vR sc N N' csc fr=true):L2.zf X N' csc fr:=by
 unfold L2.vR at h;simp only[cf,AJ,An,decide_eq_true_eq,Cy]at h;obtain⟨⟨⟨⟨⟨⟨⟨a1,a2⟩,a3⟩,a4⟩,a5⟩,a6⟩,a7⟩,a8⟩:=h;refine⟨a1,λx h1 h2=>(a2 _ h1).elim (λz=>z rfl) λz=>z _ h2 rfl,λx hx hk=>?_,λx hx hk=>?_,a5,λi j x e1 e2=>?_,λx e1 e2=>?_⟩
 . rcases a3 x hx with z|z
   . exact absurd hk z
   . exact z
 . rcases a4 x hx with z|z
   . exact absurd hk z
   . exact S.f x.1 z
 . have hi:i<N'.length:=(Am.mp e1).1
   have q:=a6 i hi;rw[e1,e2]at q;simp only[cf,decide_eq_true_eq,Bh]at q;obtain⟨q1,y,q2,q3,q4⟩:=q;refine⟨by rw[S.a];exact q1,?_⟩
   have:y=(x,Ay):=Prod.ext q3 q4;rw[<-this];exact q2
 . rcases a7 (x,.free) e2 with z|z
   . exact z rfl
   . exact z e1
theorem wO(h:sc.names.lookup x=some .local):(relabel sc env).names.lookup x=some .local:=lookup_relabel_local h
theorem lu(h:sc.names.lookup x=some .globalImplicit):(relabel sc env).names.lookup x=some .globalImplicit:=by
 have key:∀(names:List (Str × Cg)),names.lookup x=some .globalImplicit->(names.map λ(n,k)=>if (k == Ay&&env.scope.kind == .function&&env.kindOf n == some .cell) then (n,A9) else (n,k)).lookup x=some .globalImplicit:=by
  intro names;induction names with
  |nil=>intro h;simp at h
  |cons p r ih=>
   obtain⟨n,k⟩:=p;intro h;rw[A4];dsimp only;cases hx:(x == n) with
   |true=>
    rw[Al,hx]at h;cases h;have e:(Dt == Ay)=false:=rfl;rw[e];simp only[Cc,A2,if_false,Al,hx]
   |false=>
    rw[Al,hx]at h;have:=ih h;split<;>simpa only[Al,hx] using this
 exact key sc.names h
theorem Scp.comp(S:Scp sc N X)(hc:L2.zf X N' csc fr)(nd:N'.Nodup)C s0 H0 ex:Scp csc N' (X.comp N' csc C s0 H0 ex):=by
 refine⟨rfl,nd,λx h=>?_,λx h=>?_,λx h=>?_,λx h=>?_⟩
 . rcases h with h|h|h
   . exact .inl (wO h)
   . exact .inr (.inl (L2.w9 h))
   . exact(L2.tF hc.a h).elim (λz=>.inr (.inl z)) λz=>.inr (.inr z)
 . rcases h with h|h
   . exact⟨.inl (wO h),.inr (wO h)⟩
   . exact⟨.inr (L2.w9 h),.inl (Bh.mpr ⟨_,AK h,decide_eq_true rfl⟩)⟩
 . exact lu h
 . rcases h with h|h
   . exact .inl (L2.w9 h)
   . exact L2.tF hc.a h
theorem Callee.comp(c:Callee T n X f v F)N' csc C s0 H0 ex:Callee T n (X.comp N' csc C s0 H0 ex) f v F:=⟨c.a⟩
theorem Ok.comp(o:Ok T n sc N X)(hc:L2.zf X N' csc fr)(nd:N'.Nodup)(hck:L2.vR sc N N' csc fr=true)C s0 H0 ex:Ok T n csc N' (X.comp N' csc C s0 H0 ex):=
 ⟨o.c,o.d,o.a.comp hc nd C s0 H0 ex,λf v F h=>(o.p f v F h).comp N' csc C s0 H0 ex,o.k,o.g,rfl,o.i,o.l,λhmd _ h=>by
  unfold L2.vR at hck;simp only[cf,Bh,An,decide_eq_true_eq]at hck;rcases hck.2 with z|⟨z1,y,_,z2⟩
  . exact absurd h z
  . exact o.j hmd ⟨y.1,z2⟩ z1⟩
end M
end
section
namespace M
open PySem
section
variable {T:Tbl}{n:Nat}
def JE(T:Tbl)(n:Nat)(a:Ex):Prop:=∀(sc:Scope) (N:List Str) (X:L2.Cx) (e:Expr),Ok T n sc N X->ck sc N a e=true->∀env s,L2.PE X e (tV X.K X.d env s (evE (zB T n) T.b env a s))
def JL(T:Tbl)(n:Nat)(a:Exs):Prop:=∀(sc:Scope) (N:List Str) (X:L2.Cx) (es:List Expr),Ok T n sc N X->ckL sc N a es=true ->
 (zc es=true->∀env s,L2.PA X es (tVs X.K X.d env s (zV (zB T n) T.b env a s))) /\
 (∀e es' pos,es=e::es'->∀env s,L2.PE X (.BoolOp .And es pos) (tV X.K X.d env s (sI (zB T n) T.b env a s))) /\
 (∀e es' pos,es=e::es'->∀env s,L2.PE X (.BoolOp .Or es pos) (tV X.K X.d env s (nG (zB T n) T.b env a s))) /\
 (∀y,es=[y]->plain y=true->∃b,a=.a b .c/\∀env s,L2.PE X y (tV X.K X.d env s (evE (zB T n) T.b env b s)))
def JO(T:Tbl)(n:Nat)(a:OEx):Prop:=∀(sc:Scope) (N:List Str) (X:L2.Cx) (e:Option Expr),Ok T n sc N X->ckO sc N a e=true->(∀env s,L2.PO X e (tO X.K X.d env s (evO (zB T n) T.b env a s))) /\
 ((e=none/\∀env s1,evO (zB T n) T.b env a s1=.e none s1)\/∃e',e=some e'/\∀env s1 s2,evO (zB T n) T.b env a s1≠.e none s2)
def JC(T:Tbl)(n:Nat)(a:Cn):Prop:=∀(sc:Scope) (N:List Str) (X:L2.Cx) (e:Expr),Ok T n sc N X->ckC sc N a e=true->∀env s,L2.PT X e (tT X.K X.d env s (evT (zB T n) T.b env a s))
def JCs(T:Tbl)(n:Nat)(a:Cns):Prop:=∀(sc:Scope) (N:List Str) (X:L2.Cx) (es:List Expr),Ok T n sc N X->qO sc N a es=true ->
 (∀pos env s,L2.PW X (.BoolOp .And es pos) (tT X.K X.d env s (xF (zB T n) T.b env a s)))/\(∀pos env s,L2.PW X (.BoolOp .Or es pos) (tT X.K X.d env s (vY (zB T n) T.b env a s)))/\L2.PTs X es (uTs X.K X.d (zB T n) T.b a)
def JI(T:Tbl)(n:Nat)(a:Itb):Prop:=∀(sc:Scope) (N:List Str) (X:L2.Cx) (e tg:Expr),Ok T n sc N X->ckI sc N a e tg=true->∀env s,L2.PI X tg e (tI (K:=X.K) (mg:=X.d) env s (yS (zB T n) T.b env a s))
theorem eB:JE T n (.g v):=by
 intro sc N X e o h env s;show L2.PE X e (tV X.K X.d env s (.e v s));replace h:=rK h;obtain⟨c,k,p,rfl,h⟩:=h;have h:=of_decide_eq_true h;cases v with
 |g=>cases h;exact zT L2.WD λσ H Q ⟨ρ,hr,er,w⟩=>zN hr .s w
 |e b=>cases h;exact zT L2.dQ λσ H Q ⟨ρ,hr,er,w⟩=>zN hr (.j _) w
 |c i=>cases h;exact zT L2.dh λσ H Q ⟨ρ,hr,er,w⟩=>zN hr (.l _) w
 |m x=>cases h;exact zT L2.tx λσ H Q ⟨ρ,hr,er,w⟩=>zN hr (.D _) w
 |_=>cases h
theorem eE:JE T n (.e i):=by
 intro sc N X e o h env s;replace h:=yI h;obtain⟨x,p,rfl,h⟩:=h;simp only[cf,decide_eq_true_eq,rY,An,AD]at h;obtain⟨⟨⟨h1,h2⟩,h3⟩,h4⟩:=h;have hv:L2.Vis X.a.scope x:=o.a.c x (by rcases h2 with (z|z)|z;exact .inl z;exact .inr (.inl z);exact .inr (.inr z))
 show L2.PE X _ (tV X.K X.d env s (match env[i]? with|some (some v)=>.e v s|_=>.d))
 refine zT (L2.wK (i:=i) (by rw[o.a.a];exact h1) hv h3 h4) λσ H Q ⟨ρ,hr,er,w⟩=>?_
 split at w
 . rename_i v e
   obtain⟨x',h5,h6⟩:=er.a i v e;exact⟨x',h5,zN hr h6 w⟩
 . exact w.elim
theorem Zp:JE T n (.F y):=by
 intro sc N X e o h env s;replace h:=yI h;obtain⟨x,p,rfl,h⟩:=h;simp only[cf,decide_eq_true_eq,xW,AD]at h;obtain⟨⟨h1,h2⟩,h3⟩:=h;subst h1;show L2.PE X _ (tV X.K X.d env s (match T.b x with|some v=>.e v s|dS=>.d))
 cases hv:T.b x with
 |none=>exact zK (zF rfl)
 |some v=>
  obtain⟨u,xv,e1,e2,e3⟩:=o.k x v hv;exact zT (L2.ah (o.a.b x h2) e1 e2 h3) λσ H Q ⟨ρ,hr,er,w⟩=>zN hr (e3 ρ H) w
theorem Vg:JE T n (.J y m):=by
 intro sc N X e o h env s;replace h:=yI h;obtain⟨x,p,rfl,h⟩:=h;simp only[cf,decide_eq_true_eq,xW]at h;obtain⟨⟨h1,h2⟩,h3⟩:=h;subst h1;show L2.PE X _ (tV X.K X.d env s (.e (.t m) s));have key:x∈xt/\BW x=some (.type m)/\x≠"__name__"/\(x == ("__debug__":Str))=false:=by
  unfold U0 at h3;simp only[An,cf,decide_eq_true_eq]at h3;rcases h3 with ((((⟨rfl,rfl⟩|⟨rfl,rfl⟩)|⟨rfl,rfl⟩)|⟨rfl,rfl⟩)|⟨rfl,rfl⟩)|⟨rfl,rfl⟩
  . exact⟨by decide,PyProof.Rows.boot_int,by decide,by decide⟩
  . exact⟨by decide,PyProof.Rows.boot_bool,by decide,by decide⟩
  . exact⟨by decide,PyProof.Rows.boot_str,by decide,by decide⟩
  . exact⟨by decide,PyProof.Rows.boot_list,by decide,by decide⟩
  . exact⟨by decide,Fj,by decide,by decide⟩
  . exact⟨by decide,PyProof.Rows.boot_dict,by decide,by decide⟩
 exact zT (L2.UM (o.a.b x h2) (o.g x key.1) key.2.1 key.2.2.1 key.2.2.2) λσ H Q ⟨ρ,hr,er,w⟩=>zN hr (.J _) w
theorem bz:JE T n (.B t):=by
 intro sc N X e o h env s;obtain⟨p,rfl⟩:=kj h;show L2.PE X _ (tV X.K X.d env s (.e (.q s.length) (s++[if t then .f [] else .e []])))
 cases t with
 |true=>exact zT L2.de λσ H Q ⟨ρ,hr,er,w⟩ p hp=>w _ _ _ (Ext.own hr hp _) (hr.wJ hp ⟨[],L2.zM,rfl,.d⟩) (.A (sg hr p) (by rw[L2.zM];decide))
 |false=>exact zT L2.da λσ H Q ⟨ρ,hr,er,w⟩ p hp=>w _ _ _ (Ext.own hr hp _) (hr.wJ hp ⟨[],L2.zM,rfl,.d⟩) (.A (sg hr p) (by rw[L2.zM];decide))
theorem bx:JE T n .A:=by intro sc N X e o h env s;obtain⟨p,rfl⟩:=kj h;show L2.PE X _ (tV X.K X.d env s (.e .p s));exact zT (L2.af λpins σ H s I=>I.big) λσ H Q ⟨ρ,hr,er,w⟩ p hp=>w _ _ _ (Ext.new hr hp _) (hr.more hp _) (.B (hr.new hp) L2.zM)
theorem rG(h:zU op x y s=.e v s'):∃b,v=.e b:=by unfold zU at h;split at h<;>(split at h<;>first|(cases h;exact⟨_,rfl⟩)|cases h|(split at h<;>first|(cases h;exact⟨_,rfl⟩)|cases h|(split at h<;>first|(cases h;exact⟨_,rfl⟩)|cases h|(split at h<;>first|(cases h;exact⟨_,rfl⟩)|cases h))))
theorem uV{o:Out Val}(hb:∀v s',o=.e v s'->∃b,v=.e b)(w:yV K mg (λ_ _ a b=>a=b) ρ H o.truth Q):yV K mg (RD K mg) ρ H o λx H'=>∃k,x=.f k/\Q k H':=by
 cases o with
 |e v s1=>
  obtain⟨b,rfl⟩:=hb v s1 rfl;intro ρ1 x H1 x1 hr1 r1;cases r1;exact⟨b,rfl,w _ _ _ x1 hr1 rfl⟩
 |g _ _ _=>exact w
 |d=>exact w
theorem XU{f2:Sto->Out Val}(k1:okC op=true)(hr0:L2.y9 k X.A)(h1:L2.PE X a (tV X.K X.d env s o))(h2:∀s1,L2.PE X b (tV X.K X.d env s1 (f2 s1)))(hm:plain b=true) :
 L2.PT X (.Compare a [op.op] [b] pos) (tT X.K X.d env s (o.bind λx s1=>(f2 s1).bind λy s2=>zU op x y s2).truth):=by
 cases o with
 |e v s1=>
  have h2':=h2 s1;show L2.PT X _ (tT X.K X.d env s ((f2 s1).bind λy s2=>zU op v y s2).truth);cases hb:f2 s1 with
  |e w s2=>
   rw[hb]at h2';exact vj (L2.sq (w6 hr0 op k1) h1 h2' (yq hm)) λσ H Q ⟨ρ,hr,er,wt⟩=>⟨ρ,hr,er,λρ1 x H1 x1 hr1 r1=>⟨ρ1,hr1,er.mono x1,λρ2 y H2 x2 hr2 r2=>⟨ρ2,s2,v,w,hr2,r1.mono x2,r2,uV (λ_ _ h=>rG h) (wt.mono (x1.trans hr1 x2) hr2)⟩⟩⟩
  |g _ _ _=>exact yE (zF rfl)
  |d=>exact yE (zF rfl)
 |g _ _ _=>exact yE (zF rfl)
 |d=>exact yE (zF rfl)
theorem eI{X:L2.Cx}{env:Env}{s:Sto}{a b c:Expr}{op op':Cop}{o:Out Val}{f2 f3:Sto->Out Val}{k:Nat}{pos:Pos}(k1:okC op=true)(k2:okC op'=true)(hr0:L2.y9 k X.A)(h1:L2.PE X a (tV X.K X.d env s o))(h2:∀s1,L2.PE X b (tV X.K X.d env s1 (f2 s1)))(h3:∀s1,L2.PE X c (tV X.K X.d env s1 (f3 s1)))(hm:plain c=true) :
 L2.PT X (.Compare a [op.op,op'.op] [b,c] pos) (tT X.K X.d env s (o.bind λx s1=>(f2 s1).bind λy s2=>(zU op x y s2).bind λr s3=>match r with
  |.e true=>(f3 s3).bind λz s4=>zU op' y z s4
  |.e false=>.e (.e false) s3
  |_=>.d).truth):=by
 cases o with
 |e v s1=>
  have h2':=h2 s1;show L2.PT X _ (tT X.K X.d env s ((f2 s1).bind _).truth);cases hb:f2 s1 with
  |e w s2=>
   rw[hb]at h2';show L2.PT X _ (tT X.K X.d env s ((zU op v w s2).bind _).truth);cases hc:zU op v w s2 with
   |e r s3=>
    cases r with
    |e t=>
     have h3':=h3 s3;have rule:=L2.dz (pos:=pos) (w6 hr0 op k1) (w6 hr0 op' k2) h1 h2' h3' (show F2 [op.op,op'.op] [b,c]=false from yq hm);refine vj rule λσ H Q ⟨ρ,hr,er,wt⟩=>⟨ρ,hr,er,λρ1 x H1 x1 hr1 r1=>⟨ρ1,hr1,er.mono x1,λρ2 y H2 x2 hr2 r2=>⟨ρ2,s2,v,w,hr2,r1.mono x2,r2,?_⟩⟩⟩;rw[hc];intro ρ3 z H3 x3 hr3 r3;cases r3;refine⟨t,rfl,?_⟩;have xx:=(x1.trans hr1 x2).trans hr2 x3;have wt':=wt.mono xx hr3;cases t with
     |true=>
      rw[if_pos rfl];refine⟨ρ3,hr3,er.mono xx,?_⟩;have wt2:yV X.K X.d (λ_ _ a b=>a=b) ρ3 H3 ((f3 s3).bind λz s4=>zU op' w z s4).truth Q:=wt';cases hz:f3 s3 with
      |e u s4=>
       rw[hz]at wt2;exact λρ4 q H4 x4 hr4 r4=>⟨ρ4,s4,w,u,hr4,(r2.mono x3).mono x4,r4,uV (λ_ _ h=>rG h) (wt2.mono x4 hr4)⟩
      |g _ _ _=>rw[hz]at wt2;exact wt2
      |d=>rw[hz]at wt2;exact wt2
     |false=>
      rw[if_neg Ae];exact⟨false,rfl,wt' _ _ _ Ext.refl hr3 rfl⟩
    |_=>exact yE (zF rfl)
   |g _ _ _=>exact yE (zF rfl)
   |d=>exact yE (zF rfl)
  |g _ _ _=>exact yE (zF rfl)
  |d=>exact yE (zF rfl)
 |g _ _ _=>exact yE (zF rfl)
 |d=>exact yE (zF rfl)
theorem XH(ja:JE T n a)(jb:JE T n b):JC T n (.a (.r op a b)):=by intro sc N X e o h env s;replace h:=sU (zJ h).1;obtain⟨_,_,_,_,rfl,h1⟩:=h;simp only[cf,decide_eq_true_eq]at h1;obtain⟨⟨⟨⟨k1,rfl⟩,h3⟩,h4⟩,h5⟩:=h1;exact XU k1 o.d (ja _ _ _ _ o h3 env s) (λs1=>jb _ _ _ _ o h4 env s1) h5
theorem fv(ja:JE T n a)(jb:JE T n b)(jc:JE T n c):JC T n (.a (.s op op' a b c)):=by intro sc N X e o h env s;replace h:=ki (zJ h).1;obtain⟨_,_,_,_,_,_,rfl,h1⟩:=h;simp only[cf,decide_eq_true_eq]at h1;obtain⟨⟨⟨⟨⟨⟨k1,rfl⟩,k2,rfl⟩,h3⟩,h4⟩,h5⟩,h6⟩:=h1;exact eI k1 k2 o.d (ja _ _ _ _ o h3 env s) (λs1=>jb _ _ _ _ o h4 env s1) (λs1=>jc _ _ _ _ o h5 env s1) h6
noncomputable def Zm:Ex->Bool
 |.r ..|.s ..=>true
 |_=>false
theorem gu{os}(h:ck sc N a (.Compare l os rs p)=true):Zm a=true:=by
 cases a with
 |r _ _ _=>rfl
 |s _ _ _ _ _=>rfl
 |h f v es=>
  replace h:(if v<100 then ckA sc f (λxs=>ckL sc N es xs) (.Compare l os rs p) else if v<200 then ckB sc N f v es (λl ys=>ckL l N es ys) (.Compare l os rs p) else ckV sc N v es (λl ys=>ckL l N es ys) (.Compare l os rs p))=true:=h
  split at h
  . cases h
  . split at h
    . cases h
    . exact absurd (show false=true from (zJ h).2) Ae
 |_=>cases h
theorem gy{e:Expr}(h:e.ctorIdx=15):∃l os rs p,e=.Compare l os rs p:=EN (motive_1:=λe=>∃l os rs p,e=Expr.Compare l os rs p) e h λl os rs p=>⟨l,os,rs,p,rfl⟩
theorem z8(ja:JE T n a)(hn:Zm a=false):JC T n (.a a):=by
 intro sc N X e o h env s;obtain⟨h1,h2⟩:=zJ h;have je:=ja sc N X e o h1 env s;rcases (An _ _).mp h2 with h2|h2
 . exact XX h2 je
 . obtain⟨l,os,rs,p,rfl⟩:=gy (of_decide_eq_true h2)
   rw[gu h1]at hn;cases hn
end
end M
end
section
namespace M
open PySem
section
variable {T:Tbl}{n:Nat}
theorem fj(ja:JE T n a)(jb:JE T n b):JE T n (.j m op a b):=by intro sc N X e o h env s;replace h:=nA h;obtain⟨l,o1,r,p,rfl,h⟩:=h;simp only[cf,decide_eq_true_eq]at h;obtain⟨⟨⟨k1,rfl⟩,h1⟩,h2⟩:=h;exact YO (ja _ _ _ _ o h1 env s) (λs1=>jb _ _ _ _ o h2 env s1) λta tb pa pb=>L2.ny (dB m op k1) pa pb
theorem fo(ja:JE T n a):JE T n (.D a):=by intro sc N X e o h env s;replace h:=sV h;obtain⟨x,p,rfl,h⟩:=h;exact XJ (ja _ _ _ _ o h env s)
theorem Y8(jl:JL T n es):JE T n (.y es):=by intro sc N X e o h env s;replace h:=vV h;obtain⟨xs,k,p,rfl,h⟩:=h;simp only[cf]at h;exact m9 ((jl _ _ _ _ o h.1).1 h.2 env s)
theorem Y6(jl:JL T n es):JE T n (.w m es):=by intro sc N X e o h env s;replace h:=rL h;obtain⟨xs,p,rfl,h⟩:=h;simp only[cf]at h;exact eC ((jl _ _ _ _ o h.1).1 h.2 env s)
theorem Zo(ja:JE T n a)(jb:JE T n b):JE T n (.z a b):=by intro sc N X e o h env s;replace h:=rM h;obtain⟨l,r,p,rfl,h⟩:=h;simp only[cf]at h;exact YO (ja _ _ _ _ o h.1.1 env s) (λs1=>jb _ _ _ _ o h.1.2 env s1) λta tb pa pb=>L2.Zz VY pa pb (dt h.2)
end
section
variable {Φ Φ':Calls}{G:Str->Option Val}{env:Env}
mutual
theorem t8:∀(a:Ex) (s:Sto),sim a=true->evE Φ G env a s=evE Φ' G env a s
 |.g _,_,_=>rfl
 |.e _,_,_=>rfl
 |.F _,_,_=>rfl
 |.j m op a b,s,h=>by
  simp only[sim,cf]at h;show (evE Φ G env a s).bind _=(evE Φ' G env a s).bind _;rw[t8 a s h.1.2];exact congrArg _ (funext λx=>funext λs1=>by rw[t8 b s1 h.2])
 |.D a,s,h=>by
  simp only[sim]at h;show (evE Φ G env a s).bind _=(evE Φ' G env a s).bind _;rw[t8 a s h]
 |.y es,s,h=>by
  simp only[sim]at h;show (zV Φ G env es s).bind _=(zV Φ' G env es s).bind _;rw[tH es s h]
 |.w m es,s,h=>by
  simp only[sim,cf]at h;show (zV Φ G env es s).bind _=(zV Φ' G env es s).bind _;rw[tH es s h.2]
 |.z a b,s,h=>by
  simp only[sim,cf]at h;show (evE Φ G env a s).bind _=(evE Φ' G env a s).bind _;rw[t8 a s h.1];exact congrArg _ (funext λx=>funext λs1=>by rw[t8 b s1 h.2])
 |.J _ _,_,h=>by cases h
 |.E _,_,h=>by cases h
 |.r _ _ _,_,h=>by cases h
 |.s _ _ _ _ _,_,h=>by cases h
 |.u _ _,_,h=>by cases h
 |.H _ _,_,h=>by cases h
 |.G _ _ _,_,h=>by cases h
 |.A,_,h=>by cases h
 |.h _ _ _,_,h=>by cases h
 |.l _ _ _,_,h=>by cases h
 |.C _ _,_,h=>by cases h
 |.K _ _ _ _,_,h=>by cases h
 |.L _ _ _ _ _,_,h=>by cases h
 |.q _ _ _ _ _ _ _,_,h=>by cases h
 |.p _ _ _ _ _ _ _ _ _ _,_,h=>by cases h
 |.k _ _ _ _,_,h=>by cases h
 |.B _,_,h=>by cases h
 |.I _ _,_,h=>by cases h
theorem tH:∀(es:Exs) (s:Sto),vm es=true->zV Φ G env es s=zV Φ' G env es s
 |.c,_,_=>rfl
 |.a e es,s,h=>by simp only[vm,cf]at h;show (evE Φ G env e s).bind _=(evE Φ' G env e s).bind _;rw[t8 e s h.1];exact congrArg _ (funext λx=>funext λs1=>by rw[tH es s1 h.2])
end
theorem rk(h:newList false vs s=.e v s'):s'=s:=by simp only[newList,A2,if_false]at h;cases h;rfl
theorem gY(h:binOp false op x y s=.e v s'):s'=s:=by unfold binOp at h;split at h<;>(repeat' split at h)<;>first|exact rk h|(cases h;rfl)|cases h
theorem bc(h:wI x y s=.e v s'):s'=s:=by
 unfold wI at h;split at h
 . split at h
   . split at h
     . cases h;rfl
     . cases h
   . cases h
 . cases h
theorem zk{o:Out α}{f}{b:β}(h:o.bind f=.e b s):∃a s1,o=.e a s1/\f a s1=.e b s:=by
 cases o with
 |e a s1=>exact⟨a,s1,rfl,h⟩
 |g _ _ _=>cases h
 |d=>cases h
mutual
theorem t9:∀(a:Ex) (s s':Sto) (v:Val),sim a=true->evE Φ G env a s=.e v s'->s'=s
 |.g _,_,_,_,_,h=>by cases h;rfl
 |.e i,s,s',v,_,h=>by
  have key:∀o:Option (Option Val),(match o with|some (some v)=>Out.e v s|_=>.d)=.e v s'->s'=s:=λo h=>by
   cases o with
   |none=>cases h
   |some o=>cases o with
    |none=>cases h
    |some w=>cases h;rfl
  exact key _ h
 |.F x,s,s',v,_,h=>by
  have key:∀o:Option Val,(match o with|some v=>Out.e v s|dS=>.d)=.e v s'->s'=s:=λo h=>by
   cases o with
   |none=>cases h
   |some w=>cases h;rfl
  exact key _ h
 |.j m op a b,s,s',v,z,h=>by
  simp only[sim,cf,AD]at z;obtain⟨⟨rfl,z1⟩,z2⟩:=z;obtain⟨x,s1,e1,h⟩:=zk h;obtain⟨y,s2,e2,h⟩:=zk h;rw[gY h,t9 b _ _ _ z2 e2,t9 a _ _ _ z1 e1]
 |.D a,s,s',v,z,h=>by
  simp only[sim]at z;obtain⟨x,s1,e1,h⟩:=zk h;rw[<-t9 a _ _ _ z e1];split at h
  . cases h;rfl
  . cases h
 |.y es,s,s',v,z,h=>by
  simp only[sim]at z;obtain⟨x,s1,e1,h⟩:=zk h;rw[<-tJ es _ _ _ z e1];split at h
  . cases h;rfl
  . cases h
 |.w m es,s,s',v,z,h=>by
  simp only[sim,cf,AD]at z;obtain⟨rfl,z⟩:=z;obtain⟨x,s1,e1,h⟩:=zk h;rw[<-tJ es _ _ _ z e1];split at h
  . exact rk h
  . cases h
 |.z a b,s,s',v,z,h=>by
  simp only[sim,cf]at z;obtain⟨x,s1,e1,h⟩:=zk h;obtain⟨y,s2,e2,h⟩:=zk h;rw[bc h,t9 b _ _ _ z.2 e2,t9 a _ _ _ z.1 e1]
 |.J _ _,_,_,_,h,_=>by cases h
 |.E _,_,_,_,h,_=>by cases h
 |.r _ _ _,_,_,_,h,_=>by cases h
 |.s _ _ _ _ _,_,_,_,h,_=>by cases h
 |.u _ _,_,_,_,h,_=>by cases h
 |.H _ _,_,_,_,h,_=>by cases h
 |.G _ _ _,_,_,_,h,_=>by cases h
 |.A,_,_,_,h,_=>by cases h
 |.h _ _ _,_,_,_,h,_=>by cases h
 |.l _ _ _,_,_,_,h,_=>by cases h
 |.C _ _,_,_,_,h,_=>by cases h
 |.K _ _ _ _,_,_,_,h,_=>by cases h
 |.L _ _ _ _ _,_,_,_,h,_=>by cases h
 |.q _ _ _ _ _ _ _,_,_,_,h,_=>by cases h
 |.p _ _ _ _ _ _ _ _ _ _,_,_,_,h,_=>by cases h
 |.k _ _ _ _,_,_,_,h,_=>by cases h
 |.B _,_,_,_,h,_=>by cases h
 |.I _ _,_,_,_,h,_=>by cases h
theorem tJ:∀(es:Exs) (s s':Sto) (vs:List Val),vm es=true->zV Φ G env es s=.e vs s'->s'=s
 |.c,_,_,_,_,h=>by cases h;rfl
 |.a e es,s,s',vs,z,h=>by simp only[vm,cf]at z;obtain⟨x,s1,e1,h⟩:=zk h;obtain⟨y,s2,e2,h⟩:=zk h;cases h;rw[tJ es _ _ _ z.2 e2,t9 e _ _ _ z.1 e1]
end
end
section
variable {T:Tbl}{n:Nat}
mutual
theorem tZ:∀(a:Ex),sim a=true->JE T n a
 |.g _,_=>eB
 |.e _,_=>eE
 |.F _,_=>Zp
 |.j m op a b,h=>by
  simp only[sim,cf]at h;exact fj (tZ a h.1.2) (tZ b h.2)
 |.D a,h=>fo (tZ a (by simpa only[sim] using h))
 |.y es,h=>by
  simp only[sim]at h;intro sc N X e o hc env s;replace hc:=vV hc;obtain⟨xs,k,p,rfl,hc⟩:=hc;simp only[cf]at hc;exact m9 (oJ es h _ _ _ _ o hc.1 hc.2 env s)
 |.w m es,h=>by
  simp only[sim,cf]at h;intro sc N X e o hc env s;replace hc:=rL hc;obtain⟨xs,p,rfl,hc⟩:=hc;simp only[cf]at hc;exact eC (oJ es h.2 _ _ _ _ o hc.1 hc.2 env s)
 |.z a b,h=>by
  simp only[sim,cf]at h;exact Zo (tZ a h.1) (tZ b h.2)
 |.J _ _,h=>by cases h
 |.E _,h=>by cases h
 |.r _ _ _,h=>by cases h
 |.s _ _ _ _ _,h=>by cases h
 |.u _ _,h=>by cases h
 |.H _ _,h=>by cases h
 |.G _ _ _,h=>by cases h
 |.A,h=>by cases h
 |.h _ _ _,h=>by cases h
 |.l _ _ _,h=>by cases h
 |.C _ _,h=>by cases h
 |.K _ _ _ _,h=>by cases h
 |.L _ _ _ _ _,h=>by cases h
 |.q _ _ _ _ _ _ _,h=>by cases h
 |.p _ _ _ _ _ _ _ _ _ _,h=>by cases h
 |.k _ _ _ _,h=>by cases h
 |.B _,h=>by cases h
 |.I _ _,h=>by cases h
theorem oJ:∀(es:Exs),vm es=true->∀(sc:Scope) (N:List Str) (X:L2.Cx) (xs:List Expr),Ok T n sc N X->ckL sc N es xs=true->zc xs=true->∀env s,L2.PA X xs (tVs X.K X.d env s (zV (zB T n) T.b env es s))
 |.c,_=>λsc N X xs o h hp env s=>by
  cases AN.mp h;exact jD
 |.a e es,hs=>λsc N X xs o h hp env s=>by simp only[vm,cf]at hs;replace h:=z0 h;obtain⟨y,ys,rfl,h⟩:=h;rw[zc,cf]at hp;exact nO hp.1 (tZ e hs.1 _ _ _ _ o (zJ h).1 env s) λs1=>oJ es hs.2 _ _ _ _ o (zJ h).2 hp.2 env s1
end
end
end M
end
section
namespace M
open PySem PySem.W PyProof.Rows
theorem lW(h:L2.PA X.nox es t):L2.PA X es t:=λpos pins s σ H Q I hw=>
 AX (h pos pins s σ H Q (I.wA _) hw) (λ_ _ ⟨vs,H',I',r,q⟩=>⟨vs,H',I'.yt,r,q⟩) λ_ _ z=>Aw z
theorem qv(h:uJ a=true):a=L2.noArgs:=by obtain⟨po,ar,va,ko,kd,kw,df⟩:=a;simp only[uJ,cf,AN,BV]at h;obtain⟨⟨⟨⟨⟨⟨rfl,rfl⟩,rfl⟩,rfl⟩,rfl⟩,rfl⟩,rfl⟩:=h;rfl
theorem cB(r:L2.y9 (m+1) A)e1 e2:L2.y9 m ((A.deeper e1).deeper e2):=
 ⟨r.a,by have:=r.c;show A.depth+1+1+3*m+5<_;omega,by have:=r.b;show A.units+3+3+16*m+200<_;omega,r.d⟩
theorem nN(h:rY sc x=true):L2.Vis sc x:=by
 simp only[rY,An,decide_eq_true_eq]at h;rcases h with (h|h)|h
 . exact .inl h
 . exact .inr (.inl h)
 . exact .inr (.inr h)
theorem dU{ds}{i:Nat}(F:L2.uY X.f X.w X.K X.d X.h CX k f fd ps sp)(hr:L2.y9 k X.A)(hN:X.N[i]?=some x)(hv:L2.Vis X.a.scope x)(hk:BP X.K (.ref f)=true)(hb:L2.Binds X.K fd ps ds)(hd:L2.Vals dvs ds)(hx:L2.Passes CX X E)
 (ha:L2.PA X (e::es) t) (hdb:(x == ("__debug__":Str))=false) (hcd:(x == ("__classdict__":Str))=false) (he:AF (e::es) X.a=(false,eval e X.a)::AF es X.a) (hpl:(backTo pos (AF es X.a)).any (·.1)=false) :
 L2.PE X (.Call (.Name x p) (e::es) [] pos) (λσ H Q=>σ[i]?=some (some (.c f))/\L2.jX sp dvs E t σ H Q):=by
 intro pins s σ H Q I ⟨h0,h⟩;refine By (L2.thn (L2.wK hN hv hdb hcd pins s σ H (λv H2=>v=L2.V.c f/\H2=H) I ⟨_,h0,rfl,rfl⟩) λu s2 ⟨v,H2,I2,r,hv2,hH2⟩=>?_);subst hv2 hH2;cases r;refine Cq (h₀:=X.h) I2.B.i.a hk (L2.thn (ha pos pins s2 σ H2 _ I2 h) λus s1 ⟨vs,H1,I1,r,q⟩=>⟨I1.kIn,?_⟩) he hpl;exact L2.lx F hr hb hd hx I1 r q
section
variable {T:Tbl}{n:Nat}{sc lsc:Scope}{N:List Str}{X:L2.Cx}
def Cal(lsc:Scope)(N:List Str)(env:Env)(y f:Str):Prop:=(y=f/\lsc.names.lookup y=some .globalImplicit/\(y == ("__debug__":Str))=false) \/
 ∃i:Nat,N[i]?=some y/\rY lsc y=true/\(y == ("__debug__":Str))=false/\(y == ("__classdict__":Str))=false/\env[i]?=some (some (.u f))
theorem pF
 (o:Ok T (m+1) sc0 N0 X) (nd:N.Nodup) (nmk:∀x∈lsc.names,x.2=.globalImplicit\/x.2=.free) (h8:vm es=true) (h9:ckL lsc N es ys=true) (h10:zc ys=true) (h11:ys.isEmpty=false) (hcal:Cal lsc N env y f) (ho:zV (zB T m) T.b env es s=.e vs s) (hmd:T.c md=true)
 (I:L2.Inv X pins σq H s0) (L:L2.qY X.g s0.heap H lf c2 qual (.Call (.Name y p2) ys [] p3) lsc cl pm ctv N σ) (hr:HR X.K X.d ρ s H) (er:ER X.K X.d ρ H env σ) (wt:yV X.K X.d (RD X.K X.d) ρ H (sM T md (zB T m f 0 vs s) (ze T m f 0 vs s)) Q) (hf:X.d (L2.yQ md)=some (.ref fS)) :
 wpAny (model X.f X.w) X.A (call (.ref fS) [.ref lf]) (L2.EP X pins σq Q) X.j s0:=by
 have sd:=o.l m rfl ⟨md,hmd⟩;obtain⟨kx,cs,ws,pre,hue,hhue,KF,SF,CF,RF⟩:=sd.a.a;obtain⟨fS',SF'⟩:=SF md hmd;obtain rfl:fS'=fS:=by obtain⟨_,_,z,_⟩:=id SF'.a;rw[hf]at z;cases z;rfl
 cases hfn:T.d f 0 with
 |none=>
  exfalso;have h1:zB T m f 0 vs s=.d:=by
   cases m with
   |zero=>rfl
   |succ m=>simp only[zB,hfn];cases nH vs<;>rfl
  have h2:ze T m f 0 vs s=dS:=by
   cases m with
   |zero=>rfl
   |succ m=>simp only[ze,hfn]
  rw[h1,h2]at wt;exact wt
 |some F=>
  obtain⟨fa2,fd2,e1,e2,e3,e4,e5⟩:=(sd.b m (Ab _)).a f 0 F hfn;refine DZ (CA (L2.cO (EE:=λcls H2=>∃(cc:Str) (as:List Val) (s':Sto) (ρ2:Own) (C:Addr),((∀v s1,zB T m f 0 vs s≠.e v s1)/\ze T m f 0 vs s=some (cc,as,s'))/\Ext ρ H ρ2 H2/\HR X.K X.d ρ2 s' H2/\X.d cc=some (.ref C)/\cls=.ref C)
   (Q:=Q) (tb:=λσ1 H1 Q1=>(∀i:Nat,env[i]?=some (some (.u f))->σ1[i]?=some (some (.c fa2)))/\L2.jX (spX T X.K X.d m f 0) [] (λcls _ H2=>∃(cc:Str) (as:List Val) (s':Sto) (ρ2:Own) (C:Addr),((∀v s1,zB T m f 0 vs s≠.e v s1)/\ze T m f 0 vs s=some (cc,as,s'))/\Ext ρ H ρ2 H2/\HR X.K X.d ρ2 s' H2/\X.d cc=some (.ref C)/\cls=.ref C) (tVs X.K X.d env s (zV (zB T m) T.b env es s)) σ1 H1 Q1)
   I.vX o.d.a (by have:=o.d.c;omega) SF' KF hhue L (λvX s' H2=>?_) ?_ λcls H2 hEE=>?_) λr s' hres=>?_)
  . cases ys with
    |nil=>cases h11
    |cons y1 ys=>
     have hp2:=h10;rw[zc,cf]at hp2;have okL:Ok T m lsc N (L2.rJ (L2.CXE X.f X.w) X.f X.w X.K X.d X.h N qual lsc lf (.ref c2) cl (X.A.deeper vX) (vX::X.g) s' H2 (λcls _ H2=>∃(cc:Str) (as:List Val) (s':Sto) (ρ2:Own) (C:Addr),((∀v s1,zB T m f 0 vs s≠.e v s1)/\ze T m f 0 vs s=some (cc,as,s'))/\Ext ρ H ρ2 H2/\HR X.K X.d ρ2 s' H2/\X.d cc=some (.ref C)/\cls=.ref C)).nox:=by
      refine⟨rfl,cB o.d _ _,⟨rfl,nd,λx hx=>hx,λx hx=>?_,λx hx=>hx,λx hx=>hx⟩,λf' v' F' hf'=>?_,o.k,o.g,rfl,o.i,λm' hm' hmd'=>⟨sd.a,λj hj=>sd.b j (by omega)⟩,λ_ ⟨x,hx⟩ _=>?_⟩
      . exfalso
        rcases hx with hx|hx
        . rcases nmk _ (AK hx) with z|z<;>cases z
        . rcases nmk _ (AK hx) with z|z<;>cases z
      . obtain⟨fa3,fd3,y1,y2,y3,y4,y5⟩:=(sd.b m (Ab _)).a f' v' F' hf'
        exact⟨⟨fa3,fd3,y1,y2,y3,y4⟩⟩
      . exfalso
        rcases nmk _ (AK hx) with z|z<;>cases z
     have hpa:=lW (oJ es h8 lsc N _ _ okL h9 h10 env s);rcases hcal with⟨rfl,h6,h7⟩|⟨i,c1,c2,c3,c4,c5⟩
     . exact zT (L2.oN e5 (cB o.d _ _) h6 e1 e2 e3 .nil L2.r8 hpa h7 (L2.zd (zR hp2.1)) (yr hp2.2)) λσ H Q h=>h.2
     . exact zT (dU e5 (cB o.d _ _) c1 (nN c2) e2 e3 .nil L2.r8 hpa c3 c4 (L2.zd (zR hp2.1)) (yr hp2.2)) λσ H Q h=>⟨h.1 i c5,h.2⟩
  . refine Aa (λi he=>?_) ⟨ρ,hr,er,?_⟩
    . obtain⟨x,hx,r⟩:=er.a i _ he
      cases r with
      |I e=>rw[e1]at e;cases e;exact hx
    rw[ho];intro ρ1 xs H1 x1 hr1 r1;refine⟨ρ1,s,vs,hr1,by rw[AY];exact r1,?_⟩
    cases hres:zB T m f 0 vs s with
    |e v s'=>
     rw[hres]at wt;refine .inl λρ2 x H2 x2 hr2 r2=>?_;have X2:=x1.trans hr1 x2;cases md with
     |true=>exact wt ρ2 x H2 X2 hr2 r2
     |false=>exact wt ρ2 _ H2 X2 hr2 (.D _)
    |g _ _ _=>
     rw[hres]at wt;cases hx:ze T m f 0 vs s with
     |none=>rw[hx]at wt;exact wt.elim
     |some r=>
      obtain⟨cc,as,s'⟩:=r;exact .inr λρ2 H2 x2 hr2 C hC=>⟨cc,as,s',ρ2,C,⟨zF rfl,rfl⟩,x1.trans hr1 x2,hr2,hC,rfl⟩
    |d=>
     rw[hres]at wt;cases hx:ze T m f 0 vs s with
     |none=>rw[hx]at wt;exact wt.elim
     |some r=>
      obtain⟨cc,as,s'⟩:=r;exact .inr λρ2 H2 x2 hr2 C hC=>⟨cc,as,s',ρ2,C,⟨zF rfl,rfl⟩,x1.trans hr1 x2,hr2,hC,rfl⟩
  . obtain⟨cc,as,s',ρ2,C,⟨hno,hexc⟩,x2,hr2,hC,rfl⟩:=hEE
    have wt:yV X.K X.d (RD X.K X.d) ρ H (match T.f.lookup cc with|some w=>.e (.m w) s'|dS=>.d) Q:=by
     rw[hexc]at wt;cases hn:zB T m f 0 vs s with
     |e v s1=>exact absurd hn (hno v s1)
     |g _ _ _=>rw[hn]at wt;exact wt
     |d=>rw[hn]at wt;exact wt
    cases hw:T.f.lookup cc with
    |none=>rw[hw]at wt;exact wt.elim
    |some w=>
     rw[hw]at wt;obtain⟨C',i,x,c1,c2,c3,c4,c5,c6,c7⟩:=CF cc w hw;rw[hC]at c1;cases c1;refine⟨C,cc,i,x,rfl,c2,c3,c4,c5,λ_=>by rw[<-c6];exact c7,λH3 sm=>?_⟩
     obtain⟨hr3,x3⟩:=hr2.Ui sm;have:=wt ρ2 (.e w) H3 (x2.trans hr2 x3) hr3 (.D w);rw[<-c6];exact this
  . cases r with
    |error e=>exact Aw hres
    |ok fl=>
     cases fl with
     |ret u=>exact I.after hres
     |next=>exact Aw hres
     |brk=>exact Aw hres
     |cont=>exact Aw hres
theorem i9(o:Ok T (m+1) sc N X)(h2:sc.names.lookup (L2.yQ md)=some .globalImplicit)(h3:uJ a=true)(h4:vD sc lsc=true)
 (h8:vm es=true) (h9:ckL lsc N es ys=true) (h10:zc ys=true) (h11:ys.isEmpty=false) (h12:("!":Str)∈N) env s (hcal:Cal lsc N env y f) (ho:zV (zB T m) T.b env es s=.e vs s) (htb:zl T.e s=true) (hmd:T.c md=true) :
 L2.PE X (.Call (.Name (L2.yQ md) p1) [.Lambda a (.Call (.Name y p2) ys [] p3) lsc p4] [] p5) (tV X.K X.d env s (sM T md (zB T m f 0 vs s) (ze T m f 0 vs s))):=by
 obtain rfl:=qv h3;intro pins s0 σ H Q I ⟨ρ,hr,er,wt⟩;have sd:=o.l m rfl ⟨md,hmd⟩;obtain⟨kx,cs,ws,pre,hue,hhue,KF,SF,CF,RF⟩:=sd.a.a;obtain⟨fS,SF'⟩:=SF md hmd;obtain⟨stS,fdS,hmS,FnS,_⟩:=id SF'.a;simp only[vD,cf,decide_eq_true_eq,AD,AJ,Bh,An]at h4;obtain⟨⟨⟨⟨k1,k2⟩,k3⟩,k4⟩,⟨x0,hx0,hx0f⟩⟩:=h4;have fcell:∀x∈lsc.names,x.2=.free->sc.names.lookup x.1=some .cell\/sc.names.lookup x.1=some .free:=λx hx hf=>by
  rcases k4 x hx with z|z
  . rw[hf]at z;cases z
  . exact z.2
 obtain⟨g,hg,fa,c,ob,fd,q1,q2,q3,q4,q5,q6⟩:=o.j ⟨md,hmd⟩ ⟨x0.1,hx0f⟩ h12;obtain⟨j,hj⟩:=rV htb hg;obtain⟨P,hPo,tr⟩:=hr.m j _ hj;obtain⟨ps,hP,tok,among,fa',c',o',fd',w1,w2,w3,w4,w5⟩:=id tr;rw[q1]at w1;cases w1;rw[q2]at w2;cases w2;rw[q3]at w3;cases w3;rw[q4]at w4;cases w4;have hq:X.a.qual++("<lambda>":Str)=eQ g:=by rw[q6];rfl
 have cellOf':∀x,(x,Ay)∈lsc.names->∃b,X.a.cells.lookup x=some b:=λx hx=>I.B.p x (o.a.f x (fcell _ hx rfl));have clk:∀x b,(xU X.a.cells lsc.names []).lookup x=some b->(x,Ay)∈lsc.names/\X.a.cells.lookup x=some b:=λx b e=>by
  rcases tW (AK e) with z|⟨z1,z2⟩
  . cases z
  . obtain⟨b',hb'⟩:=cellOf' x z1
    rw[hb']at z2;exact⟨z1,by rw[hb',z2];rfl⟩
 have hdbg:(L2.yQ md == ("__debug__":Str))=false:=by cases md<;>decide
 refine By (L2.xj I (o.a.b _ h2) hmS ?_ hdbg);refine Cq (h₀:=X.h) I.B.i.a FnS.b ?_;show wpAny _ _ (spliced ((false,eval (.Lambda L2.noArgs (.Call (.Name y p2) ys [] p3) lsc p4) X.a)::backTo p5 (AF [] X.a))) _ _ s0;refine Calls.spliced_cons (L2.nQ (P:=P) (ps:=ps) (c:=c) I rfl (kY λx hx hf=>cellOf' x.1 (by rw[<-hf];exact hx)) q5 (w5 _ I.kIn) hP tok (sd.a.bm _ I.B.i.a) (λcv hcv=>?_) λlf c2 ctv H' h' tk I' lamh ⟨nl,_,nf,cdr⟩ obj cr=>Calls.spliced_nil ⟨I'.kIn,?_⟩)
 . obtain⟨b,ob',vb,tb,z1,_,z3,z4,z5⟩:=among _ cv hcv
   exact⟨b,ob',vb,tb,z1,z3,z4,by rw[hq];exact z5⟩
 rw[hq]at lamh;obtain⟨hr',X0⟩:=hr.lam hj hPo tr hP lamh;have L:L2.qY X.g h' H' lf c2 (X.a.qual++("<lambda>":Str)) (.Call (.Name y p2) ys [] p3) lsc (xU X.a.cells lsc.names []) ((X.d "__name__").getD .none) ctv N σ:=by
  refine⟨obj,.inl nl,nf,cdr,λx y b z1 z2=>I.B.r x y b (clk x b z1).2 (clk y b z2).2,λx hx=>lookup_mem (wX (AK hx)),λx b e=>?_,λi x v z1 z2 z3=>?_,by rw[<-o.a.a];exact I'.P,k1,k2,k3,λx hx=>?_⟩
  . obtain⟨y1,y2⟩:=clk x b e
    exact⟨I'.G x b y2,I'.D x b y2⟩
  . have hm3:=AK z3
    have hcl:=fcell _ hm3 rfl;obtain⟨mm,hn,hl⟩:=I'.M;obtain⟨u,ru,lk⟩:=hl i x v (by rw[o.a.a];exact z1) z2 (o.a.c x (.inr hcl))
    rcases lk with⟨y,_⟩|⟨_,b,y2,y3⟩
    . rcases o.a.f x hcl with y'|y'
      . rw[y]at y';cases y'
      . rw[y]at y';cases y'
    . obtain⟨b',hb'⟩:=lookup_mem (wX (cells:=X.a.cells) (acc:=[]) hm3)
      have:=(clk x b' hb').2;rw[y2]at this;cases this;exact⟨u,b,ru,hb',y3⟩
  . rcases k4 x hx with z|z
    . rw[z];exact⟨nofun,nofun⟩
    . rw[z.1];exact⟨nofun,nofun⟩
 exact pF o o.a.d (λx hx=>(k4 x hx).imp id And.left) h8 h9 h10 h11 hcal ho hmd I' L hr' (er.mono X0) (wt.mono X0 hr') hmS
theorem b9(o:Ok T n sc N X)(hver:¬ver<100)(hver2:ver<200)(h2:sc.names.lookup (L2.yQ (decide (ver=101)))=some .globalImplicit)(h3:uJ a=true)(h4:vD sc lsc=true)(h6:lsc.names.lookup f=some .globalImplicit)
 (h7:(f == ("__debug__":Str))=false) (h8:vm es=true) (h9:ckL lsc N es ys=true) (h10:zc ys=true) (h11:ys.isEmpty=false) (h12:("!":Str)∈N) env s :
 L2.PE X (.Call (.Name (L2.yQ (decide (ver=101))) p1) [.Lambda a (.Call (.Name f p2) ys [] p3) lsc p4] [] p5) (tV X.K X.d env s (evE (zB T n) T.b env (.h f ver es) s)):=by
 show L2.PE X _ (tV X.K X.d env s ((zV (zB T n) T.b env es s).bind λvs s1=>zB T n f ver vs s1));cases n with
 |zero=>
  refine zK λv s' e=>?_;obtain⟨_,_,_,z⟩:=zk e;cases z
 |succ m=>
  rw[tH (Φ':=zB T m) es s h8];cases ho:zV (zB T m) T.b env es s with
  |g _ _ _=>exact zK (zF rfl)
  |d=>exact zK (zF rfl)
  |e vs s1=>
   obtain rfl:s=s1:=(tJ es _ _ _ h8 ho).symm;rw[zL];have hcall:zB T (m+1) f ver vs s=if ((decide (ver=100)&&T.c false)||(decide (ver=101)&&T.c true))&&zl T.e s then sM T (decide (ver=101)) (zB T m f 0 vs s) (ze T m f 0 vs s) else .d:=by
    simp only[zB,o.i f ver (by omega)]
    rw[decide_eq_false (show ¬ver=200 by omega),decide_eq_false (show ¬ver=300 by omega),decide_eq_false (show ¬ver=301 by omega)]
    congr 1;cases nH vs<;>rfl
   rw[hcall];by_cases hcond:(((decide (ver=100)&&T.c false)||(decide (ver=101)&&T.c true))&&zl T.e s)=true
   case neg=>rw[if_neg hcond];exact zK (zF rfl)
   rw[if_pos hcond];rw[cf]at hcond;obtain⟨hmd0,htb⟩:=hcond;have hmd:T.c (decide (ver=101))=true:=by
    simp only[An,cf,decide_eq_true_eq]at hmd0;rcases hmd0 with⟨z1,z2⟩|⟨z1,z2⟩
    . rw[decide_eq_false (by omega)];exact z2
    . rw[decide_eq_true z1];exact z2
   exact i9 o h2 h3 h4 h8 h9 h10 h11 h12 env s (.inl ⟨rfl,h6,h7⟩) ho htb hmd
end
end M
end
section
namespace L2
open PySem PySem.W PySem.Spec PyProof PyProof.Rows
theorem Inv.YN(I:Inv X pins σ H s)(hn:H a=none)(he:s.heap.get? a=some oe)(h0:X.l.heap.objs.size<=a)(hp:∀p∈X.n++pins,p.1≠a)(nL:X.a.locals≠a)(nC:∀x c,X.a.cells.lookup x=some c->c≠a):Inv X pins σ (upd H a (.d oe (.e 0))) s:=by
 have ne:∀b,H b≠none->b≠a:=λb n z=>n (by rw[z];exact hn)
 have ob:∀b u,H b=some u->upd H a (.d oe (.e 0)) b=some u:=λb u e=>by rw[zH (ne b (by rw[e];exact nofun))];exact e
 refine⟨I.B,I.R,I.F,⟨I.j.f,I.j.i,λb o e n hx=>?_,I.j.c,λb xs e=>ob _ _ (I.j.l b xs e),λb o u e=>ob _ _ (I.j.g b o u e),λb ps e=>?_⟩,I.M,I.G,?_,λx c e=>?_,λp hp'=>?_,λb u e=>?_,I.P⟩
 . rw[zH (λz=>by rw[z]at e;exact absurd (Ap (Aj e) h0) (A8 _))];exact I.j.d b o e n hx
 . obtain⟨more,q⟩:=I.j.j b ps e
   exact⟨more,ob _ _ q⟩
 . rw[zH nL];exact I.J
 . rw[zH (nC x c e)];exact I.D x c e
 . obtain⟨z1,z2,z3⟩:=I.O p hp'
   exact⟨z1,by rw[zH (hp p hp')];exact z2,z3⟩
 . by_cases z:b=a
   . subst z
     rw[zM]at e;cases e;exact⟨he,oe,he⟩
   . rw[zH z]at e
     exact(I.C b u e).qT (λ_ _ _ q=>q) (λc q=>ob _ _ q) λc xs q=>ob _ _ q
end L2
namespace M
open PySem PySem.W PyProof.Rows
def su(X:L2.Cx)(H:L2.Hp)(lf:Addr)(body:Expr)(lsc:Scope):Prop:=∃(c:Addr) (ctv:Value),H lf=some (.d (kla_obj "<lambda>" (X.a.qual++("<lambda>":Str)) L2.noArgs body lsc (xU X.a.cells lsc.names []) ((X.d "__name__").getD .none) c ctv) (.e 0))/\lf ∉ L2.frs X.g /\
 ∃(o:Obj) (vs:Array Value) (t:Tok),H c=some (.d o (.e 0))/\o.data=.fields vs/\vs[1]?=some (.str (X.a.qual++("<lambda>":Str)) t)
def Frz(H H':L2.Hp):Prop:=∀a o u,H a=some (.d o u)->H' a=some (.d o u)
theorem su.keep(l:su X H lf body lsc)(k:Frz H H'):su X H' lf body lsc:=by obtain⟨c,ctv,h1,h2,o,vs,t,h3,h4⟩:=l;exact⟨c,ctv,k _ _ _ h1,h2,o,vs,t,k _ _ _ h3,h4⟩
section
variable {K:KF}{mg:Str->Option Value}{ρ ρ':Own}{H H':L2.Hp}{s:Sto}
theorem HR.Vt(hr:HR K mg ρ s H)(e:H a=some (.d o u)):a ∉ ρ.o:=λhm=>by
 obtain⟨i,hi,e1⟩:=Bs hm;have hs:i<s.length:=by rw[<-hr.f];exact hi
 obtain⟨b,e2,r⟩:=hr.m i _ (Ak hs);rw[Ak hi,e1]at e2;cases e2;have:=r.hk;rw[e]at this;cases this
theorem HR.frz(hr:HR K mg ρ s H)(x:Ext ρ H ρ' H'):Frz H H':=λa o u e=>x.c a _ e (hr.Vt e)
theorem ER.put(er:ER K mg ρ H env σ):ER K mg ρ H (env.set i dS) (σ.set i v):=by
 refine⟨by rw[AL,AL];exact er.b,λj w e=>?_⟩
 by_cases z:i=j
 . subst z
   rw[List.getElem?_set]at e;split at e
   . split at e<;>cases e
   . rename_i h;exact absurd rfl h
 . rw[AO z]at e ⊢
   exact er.a j w e
end
section
variable {T:Tbl}{n:Nat}{sc lsc:Scope}{N:List Str}{X:L2.Cx}
theorem di(o:Ok T (m+1) sc N X)(hmd:T.c false=true)(h4:vD sc lsc=true)(h12:("!":Str)∈N) :
 L2.PE X (.Lambda L2.noArgs body lsc p4) (λσ H Q=>∃ρ s,HR X.K X.d ρ s H/\zl T.e s=true/\∀lf H',Ext ρ H ρ H'->HR X.K X.d ρ s H'->su X H' lf body lsc->Q (.c lf) H'):=by
 intro pins s0 σ H Q I ⟨ρ,s,hr,htb,wt⟩;have sd:=o.l m rfl ⟨_,hmd⟩;simp only[vD,cf,decide_eq_true_eq,AD,AJ,Bh,An]at h4;obtain⟨⟨⟨⟨k1,k2⟩,k3⟩,k4⟩,⟨x0,hx0,hx0f⟩⟩:=h4;have fcell:∀x∈lsc.names,x.2=.free->sc.names.lookup x.1=some .cell\/sc.names.lookup x.1=some .free:=λx hx hf=>by
  rcases k4 x hx with z|z
  . rw[hf]at z;cases z
  . exact z.2
 obtain⟨g,hg,fa,c,ob,fd,q1,q2,q3,q4,q5,q6⟩:=o.j ⟨_,hmd⟩ ⟨x0.1,hx0f⟩ h12;obtain⟨j,hj⟩:=rV htb hg;obtain⟨P,hPo,tr⟩:=hr.m j _ hj;obtain⟨ps,hP,tok,among,fa',c',o',fd',w1,w2,w3,w4,w5⟩:=id tr;rw[q1]at w1;cases w1;rw[q2]at w2;cases w2;rw[q3]at w3;cases w3;rw[q4]at w4;cases w4;have hq:X.a.qual++("<lambda>":Str)=eQ g:=by rw[q6];rfl
 have cellOf':∀x,(x,Ay)∈lsc.names->∃b,X.a.cells.lookup x=some b:=λx hx=>I.B.p x (o.a.f x (fcell _ hx rfl));refine L2.nQ (P:=P) (ps:=ps) (c:=c) I rfl (kY λx hx hf=>cellOf' x.1 (by rw[<-hf];exact hx)) q5 (w5 _ I.kIn) hP tok (sd.a.bm _ I.B.i.a) (λcv hcv=>?_) λlf c2 ctv H' h' tk I' lamh ⟨nl,hsz,nf,cdr⟩ obj cr=>?_
 . obtain⟨b,ob',vb,tb,z1,_,z3,z4,z5⟩:=among _ cv hcv
   exact⟨b,ob',vb,tb,z1,z3,z4,by rw[hq];exact z5⟩
 have lamh':L2.YH H P ps p4 (eQ g) c2 H':=by rw[<-hq];exact lamh
 obtain⟨hr',X0⟩:=hr.lam hj hPo tr hP lamh';have hlt:∀b (u:Obj),s0.heap.get? b=some u->b≠lf:=λb u e z=>by rw[z]at e;exact absurd (Ap (Aj e) hsz) (A8 _)
 obtain⟨oc,vs,t,z1,z2,z3⟩:=cdr;refine⟨.c lf,_,I'.YN nl obj (Az I.sz hsz) (λp hp=>hlt _ _ (I.O p hp).1) (λz=>?_) (λx b e z=>?_),rfl,wt lf _ (X0.trans hr' (Ext.new hr' nl _)) (hr'.more nl _) ⟨c2,ctv,L2.zM,nf,oc,vs,t,?_,z2,z3⟩⟩
 . obtain⟨mm,⟨oo,_,_,e,_⟩,_⟩:=I.M
   exact hlt _ _ e z
 . obtain⟨v,oo,e2,_⟩:=I.G x b e
   exact hlt _ _ e2 z
 . rw[L2.zH (L2.zO z1 nl)];exact z1
theorem su.at(o:Ok T n sc N X)(l:su X H lf body lsc)(h4:vD sc lsc=true)(I0:L2.Inv X pins0 σ H0 s0)(f0:∀b∈ex,L2.v5 X pins0 H0 b)
 (I:L2.Inv (X.comp N' csc C s0 H0 ex) pins σ' H s1):∃c ctv,L2.qY X.g s1.heap H lf c (X.a.qual++("<lambda>":Str)) body lsc (xU X.a.cells lsc.names []) ((X.d "__name__").getD .none) ctv N σ:=by
 obtain⟨c,ctv,h1,h2,h3⟩:=l;simp only[vD,cf,decide_eq_true_eq,AD,AJ,Bh,An]at h4;obtain⟨⟨⟨⟨k1,k2⟩,k3⟩,k4⟩,_⟩:=h4;have fcell:∀x∈lsc.names,x.2=.free->sc.names.lookup x.1=some .cell\/sc.names.lookup x.1=some .free:=λx hx hf=>by
  rcases k4 x hx with z|z
  . rw[hf]at z;cases z
  . exact z.2
 have cellOf':∀x,(x,Ay)∈lsc.names->∃b,X.a.cells.lookup x=some b:=λx hx=>I0.B.p x (o.a.f x (fcell _ hx rfl));have clk:∀x b,(xU X.a.cells lsc.names []).lookup x=some b->(x,Ay)∈lsc.names/\X.a.cells.lookup x=some b:=λx b e=>by
  rcases tW (AK e) with z|⟨z1,z2⟩
  . cases z
  . obtain⟨b',hb'⟩:=cellOf' x z1
    rw[hb']at z2;exact⟨z1,by rw[hb',z2];rfl⟩
 have un:L2.Un (L2.frs X.g) ex H0 H s0.heap s1.heap:=I.j;have nex:∀x b,X.a.cells.lookup x=some b->b ∉ ex:=λx b e hb=>(f0 b hb).2.2.2.2.1 x b e rfl;have cell2:∀x b v,X.a.cells.lookup x=some b->s0.heap.IsCell b v->s1.heap.IsCell b v:=λx b v hx ⟨ob,e,d⟩=>by
  have n:=I0.D x b hx;by_cases f:b∈L2.frs X.g
  . obtain⟨sl,e1⟩:=un.i b ob e n f (nex x b hx)
    exact⟨_,e1,d⟩
  . exact⟨ob,un.f b ob e n f (nex x b hx),d⟩
 refine⟨c,ctv,(I.C lf _ h1).1,.inr h1,h2,h3,λx y b z1 z2=>I0.B.r x y b (clk x b z1).2 (clk y b z2).2,λx hx=>lookup_mem (wX (AK hx)),λx b e=>?_,λi x v z1 z2 z3=>?_,by rw[<-o.a.a];exact I0.P,k1,k2,k3,λx hx=>?_⟩
 . obtain⟨y1,y2⟩:=clk x b e
   obtain⟨v,z⟩:=I0.G x b y2;obtain⟨ob,eo,_⟩:=id z;exact⟨⟨v,cell2 x b v y2 z⟩,un.d b ob eo (I0.D x b y2) (nex x b y2)⟩
 . have hm3:=AK z3
   have hcl:=fcell _ hm3 rfl;obtain⟨mm,hn,hl⟩:=I0.M;obtain⟨u,ru,lk⟩:=hl i x v (by rw[o.a.a];exact z1) z2 (o.a.c x (.inr hcl))
   rcases lk with⟨y,_⟩|⟨_,b,y2,y3⟩
   . rcases o.a.f x hcl with y'|y'
     . rw[y]at y';cases y'
     . rw[y]at y';cases y'
   . obtain⟨b',hb'⟩:=lookup_mem (wX (cells:=X.a.cells) (acc:=[]) hm3)
     have:=(clk x b' hb').2;rw[y2]at this;cases this;exact⟨u,b,ru,hb',cell2 x b _ y2 y3⟩
 . rcases k4 x hx with z|z
   . rw[z];exact⟨nofun,nofun⟩
   . rw[z.1];exact⟨nofun,nofun⟩
end
end M
end
section
namespace M
open PySem
section
variable {T:Tbl}{n:Nat}
theorem Y7(ja:JE T n a):JE T n (.E a):=by intro sc N X e o h env s;replace h:=sV h;obtain⟨x,p,rfl,h⟩:=h;exact XM (ja _ _ _ _ o h env s)
theorem Y5(ja:JE T n a)(jb:JE T n b):JE T n (.r op a b):=by intro sc N X e o h env s;replace h:=sU h;obtain⟨l,o1,r,p,rfl,h⟩:=h;simp only[cf,decide_eq_true_eq]at h;obtain⟨⟨⟨⟨k1,rfl⟩,h1⟩,h2⟩,h3⟩:=h;exact YO (ja _ _ _ _ o h1 env s) (λs1=>jb _ _ _ _ o h2 env s1) λta tb pa pb=>L2.oO (w6 o.d op k1) pa pb (yq h3)
theorem fk(ja:JE T n a)(jb:JE T n b)(jc:JE T n c):JE T n (.s op op' a b c):=by intro sc N X e o h env s;replace h:=ki h;obtain⟨l,o1,o2,r,r2,p,rfl,h⟩:=h;simp only[cf,decide_eq_true_eq]at h;obtain⟨⟨⟨⟨⟨⟨k1,rfl⟩,k2,rfl⟩,h3⟩,h4⟩,h5⟩,h6⟩:=h;exact eA k1 k2 o.d (ja _ _ _ _ o h3 env s) (λs1=>jb _ _ _ _ o h4 env s1) (λs1=>jc _ _ _ _ o h5 env s1) h6
theorem Yz(ja:JE T n a)(jl:JL T n es):JE T n (.u a es):=by
 intro sc N X e o h env s;replace h:=sT h;obtain⟨x,xs,pos,rfl,h⟩:=h;simp only[cf]at h;obtain⟨h1,h2⟩:=h;cases es with
 |c=>
  cases AN.mp h2;exact L2.lX (ja _ _ _ _ o h1 env s)
 |a b es'=>
  cases xs with
  |nil=>cases h2
  |cons y ys=>exact fw (ja _ _ _ _ o h1 env s) λs1=>(jl _ _ _ _ o h2).2.1 y ys pos rfl env s1
theorem mj(hv:ver<100)(h:T.d f ver=none)vs s:zB T n f ver vs s=.d:=by
 cases n with
 |zero=>rfl
 |succ n=>
  have h1:decide (ver=100)=false:=decide_eq_false (by omega)
  have h2:decide (ver=101)=false:=decide_eq_false (by omega)
  have h3:decide (ver=200)=false:=decide_eq_false (by omega)
  have h4:decide (ver=300)=false:=decide_eq_false (by omega)
  have h5:decide (ver=301)=false:=decide_eq_false (by omega)
  simp only[zB,h,h1,h2,h3,h4,h5,Cc,Bool.or_self,A2,if_false];cases nH vs<;>rfl
theorem bh(jl:JL T n es):JE T n (.h f ver es):=by
 intro sc N X e o h env s;replace h:(if ver<100 then ckA sc f (λxs=>ckL sc N es xs) e else if ver<200 then ckB sc N f ver es (λl ys=>ckL l N es ys) e else ckV sc N ver es (λl ys=>ckL l N es ys) e)=true:=h
 split at h
 . rename_i hver
   replace h:=yf h;obtain⟨x,p,xs,pos,rfl,h⟩:=h;simp only[cf,decide_eq_true_eq,xW,AD]at h;obtain⟨⟨⟨⟨rfl,h2⟩,h3⟩,h4⟩,h5⟩:=h;show L2.PE X _ (tV X.K X.d env s ((zV (zB T n) T.b env es s).bind λvs s1=>zB T n x ver vs s1));cases hf:T.d x ver with
   |none=>
    refine zK λv s' e=>?_;cases hv:zV (zB T n) T.b env es s with
    |e vs s1=>rw[hv]at e;simp only[zL,mj hver hf]at e;cases e
    |g _ _ _=>rw[hv]at e;cases e
    |d=>rw[hv]at e;cases e
   |some F=>
    have C:=o.p x ver F hf;cases xs with
    |nil=>
     cases es with
     |c=>exact fz C o.d (o.a.b x h2) h3
     |a _ _=>cases h4
    |cons y ys=>exact bw C o.d (o.a.b x h2) h3 h5 (by simp) ((jl _ _ _ _ o h4).1 h5 env s)
 . rename_i hver
   split at h
   . rename_i hver2
     replace h:=bT h;obtain⟨x,a,y,ys,lsc,p1,p2,p3,p4,p5,rfl,h⟩:=h;simp only[cf,decide_eq_true_eq,xW,AD]at h;obtain⟨⟨⟨⟨⟨⟨⟨⟨⟨⟨⟨rfl,h2⟩,h3⟩,h4⟩,rfl⟩,h6⟩,h7⟩,h8⟩,h9⟩,h10⟩,h11⟩,h12⟩:=h;exact b9 o hver hver2 h2 h3 h4 h6 h7 h8 h9 h10 h11 h12 env s
   . exact absurd (zJ (zJ h).1).1 Ae
theorem gW(f:Bf):f.nm∈xt:=by cases f<;>decide
theorem Y0(jl:JL T n es):JE T n (.l f m es):=by intro sc N X e o h env s;replace h:=yf h;obtain⟨x,p,xs,pos,rfl,h⟩:=h;replace h:=z0 h;obtain⟨y,ys,rfl,h⟩:=h;simp only[cf,decide_eq_true_eq,xW]at h;obtain⟨⟨⟨⟨k1,rfl⟩,h2⟩,h3⟩,h4⟩:=h;exact XI k1 o.c o.d (o.a.b _ h2) (o.g _ (gW f)) h4 ((jl _ _ _ _ o h3).1 h4 env s)
theorem bp(ja:JE T n a)(jl:JL T n es):JE T n (.K f m a es):=by intro sc N X e o h env s;replace h:=km h;obtain⟨ob,x,ap,y,cp,rfl,h⟩:=h;simp only[cf,decide_eq_true_eq]at h;obtain⟨⟨⟨⟨⟨⟨rfl,h1⟩,h2⟩,h3⟩,h4⟩,h5⟩,hm⟩:=h;obtain⟨b,rfl,jb⟩:=(jl _ _ _ _ o h2).2.2.2 y rfl h3;exact eD hm h4 h3 h5 (ja _ _ _ _ o h1 env s) λs1=>jb env s1
theorem Va(ja:JE T n a)(j1:JO T n lo)(j2:JO T n hi)(j3:JO T n st):JE T n (.L m a lo hi st):=by
 intro sc N X e o h env s;replace h:=bS h;obtain⟨l1,x1,y1,z1,p1,p2,rfl,h⟩:=h;simp only[cf]at h;obtain⟨⟨⟨h1,h2⟩,h3⟩,h4⟩:=h;obtain⟨p3,q3⟩:=j3 _ _ _ _ o h4;refine Vf (ja _ _ _ _ o h1 env s) (λs1=>(j1 _ _ _ _ o h2).1 env s1) (λs1=>(j2 _ _ _ _ o h3).1 env s1) (λs1=>p3 env s1) ?_;rcases q3 with⟨e1,e2⟩|⟨e',e1,e2⟩
 . exact .inl ⟨e1,λs1=>e2 env s1⟩
 . exact .inr ⟨e',e1,λs1 s2=>e2 env s1 s2⟩
theorem bj(je:JE T n elt)(ji:JI T n it)(jc:JCs T n ifs):JE T n (.q m N' fr elt t it ifs):=by
 intro sc N X e o h env s;replace h:=ug h;obtain⟨x,tg,iter,fs,csc,cpos,rfl,h⟩:=h;simp only[cf,decide_eq_true_eq]at h;obtain⟨⟨⟨⟨⟨⟨h1,h2⟩,h3⟩,h4⟩,h5⟩,h6⟩,h7⟩:=h;have S:=qh o.a h1;have oc:=o.comp S h2 h1;obtain⟨g,pg,tg'⟩:∃g,(∀C s0 H0 ex,L2.PG (X.comp N' csc C s0 H0 ex) tg g)/\tP X.K X.d t g:=by
  cases t with
  |a i=>
   cases tg with
   |Name y p=>
    simp only[ckT,cf,An,decide_eq_true_eq]at h3;exact⟨_,λC s0 H0 ex=>sJ (oc C s0 H0 ex).a h3.1 h3.2,tK⟩
   |_=>cases h3
  |b is=>
   cases tg with
   |Tuple es k p=>
    simp only[ckT,cf,decide_eq_true_eq]at h3;refine⟨_,λC s0 H0 ex=>?_,x9 (is:=is)⟩;obtain⟨a,b,c⟩:=yh (oc C s0 H0 ex).a h3.1;exact L2.vi (X:=X.comp N' csc C s0 H0 ex) o.c a b c
   |_=>cases h3
 have rule:L2.PE X (.ListComp x [⟨tg,iter,fs,0⟩] csc cpos) (L2.wc fr (uI X.K X.d (zB T n) T.b it) g (uTs X.K X.d (zB T n) T.b ifs) λacc=>L2.vH acc (uE X.K X.d (zB T n) T.b elt)):=
  L2.si o.c S (lZ λenv s=>ji _ _ _ _ _ o h4 env s) pg (λC s0 H0 ex=>(jc _ _ _ _ (oc C s0 H0 ex) h5).2.2) (λC s0 H0 ex=>iq (X:=X.comp N' csc C s0 H0 ex) λenv s=>je _ _ _ _ (oc C s0 H0 ex) h6 env s) (zm h7)
 refine zT rule λσ H Q hq=>vt (env:=env) (s:=s) (chk:=false) (m:=m) (body:=uD (zB T n) T.b elt ifs) tg' wG (λacc ρ0 H0 hn=>qJ hn) ?_ λ_ r s1 p s2 hl=>?_
 . simp only[A2,false_implies,if_true];exact hq
 . have:=sD hl
   simpa using this
theorem fm(je:JE T n elt)(ji:JI T n it)(jc:JCs T n ifs)(ji2:JI T n it2)(jc2:JCs T n ifs2):JE T n (.p m N' fr elt t it ifs t2 it2 ifs2):=by
 intro sc N X e o h env s;replace h:=kl h;obtain⟨x,tg,iter,fs,tg2,iter2,fs2,csc,cpos,rfl,h⟩:=h;simp only[cf,decide_eq_true_eq]at h;obtain⟨⟨⟨⟨⟨⟨⟨⟨⟨⟨h1,h2⟩,h3⟩,h4⟩,h5⟩,h6⟩,h7⟩,h8⟩,h9⟩,h10⟩,h11⟩:=h;have S:=qh o.a h1;have oc:=o.comp S h2 h1;have tgt:∀(t:Tgt) (tg:Expr),ckT csc N' t tg=true->∃g,(∀C s0 H0 ex,L2.PG (X.comp N' csc C s0 H0 ex) tg g)/\tP X.K X.d t g:=by
  intro t tg h3;cases t with
  |a i=>
   cases tg with
   |Name y p=>
    simp only[ckT,cf,An,decide_eq_true_eq]at h3;exact⟨_,λC s0 H0 ex=>sJ (oc C s0 H0 ex).a h3.1 h3.2,tK⟩
   |_=>cases h3
  |b is=>
   cases tg with
   |Tuple es k p=>
    simp only[ckT,cf,decide_eq_true_eq]at h3;refine⟨_,λC s0 H0 ex=>?_,x9 (is:=is)⟩;obtain⟨a,b,c⟩:=yh (oc C s0 H0 ex).a h3.1;exact L2.vi (X:=X.comp N' csc C s0 H0 ex) o.c a b c
   |_=>cases h3
 obtain⟨g,pg,tg'⟩:=tgt t tg h3;obtain⟨g2,pg2,tg2'⟩:=tgt t2 tg2 h6;have rule:=L2.nu (cpos:=cpos) (elt:=x) (ifs:=fs) (ifs2:=fs2) (ts:=uTs X.K X.d (zB T n) T.b ifs) (ts2:=uTs X.K X.d (zB T n) T.b ifs2) (wi2:=uI X.K X.d (zB T n) T.b it2) (te:=uE X.K X.d (zB T n) T.b elt) o.c S (lZ (tg:=tg) λenv s=>ji _ _ _ _ _ o h4 env s) pg (λC s0 H0 ex=>(jc _ _ _ _ (oc C s0 H0 ex) h5).2.2)
  (λC s0 H0 ex=>lZ (X:=X.comp N' csc C s0 H0 ex) (tg:=tg2) λenv s=>ji2 _ _ _ _ _ (oc C s0 H0 ex) h7 env s) pg2 (λC s0 H0 ex=>(jc2 _ _ _ _ (oc C s0 H0 ex) h8).2.2)
  (λC s0 H0 ex=>iq (X:=X.comp N' csc C s0 H0 ex) λenv s=>je _ _ _ _ (oc C s0 H0 ex) h9 env s) (zm h10) (λenv=>zm h11)
 refine zT rule λσ H Q hq=>vt (env:=env) (s:=s) (chk:=true) (m:=m) (body:=sC (zB T n) T.b elt ifs t2 it2 ifs2) tg' tL (λacc ρ0 H0 hn=>pM hn tg2') ?_ λz=>by cases z
 simp only[true_implies];exact hq
theorem XA:JL T n .c:=by intro sc N X es o h;cases AN.mp h;exact⟨λ_ env s=>jD,⟨λe es' pos z=>(nomatch z),⟨λe es' pos z=>(nomatch z),λy z=>(nomatch z)⟩⟩⟩
theorem bq(ja:JE T n a)(jl:JL T n as):JL T n (.a a as):=by
 intro sc N X es o h;replace h:=z0 h;obtain⟨e,es,rfl,h⟩:=h;simp only[cf]at h;obtain⟨h1,h2⟩:=h;obtain⟨l1,l2,l3,l4⟩:=jl _ _ _ _ o h2;refine⟨λhp env s=>?_,λe' es' pos z env s=>?_,λe' es' pos z env s=>?_,λy z hp=>?_⟩
 . rw[zc,cf]at hp
   exact nO hp.1 (ja _ _ _ _ o h1 env s) λs1=>l1 hp.2 env s1
 . cases as with
   |c=>
    cases AN.mp h2;exact L2.lX (ja _ _ _ _ o h1 env s)
   |a b as'=>
    cases es with
    |nil=>cases h2
    |cons y ys=>exact fw (ja _ _ _ _ o h1 env s) λs1=>l2 y ys pos rfl env s1
 . cases as with
   |c=>
    cases AN.mp h2;exact L2.lX (ja _ _ _ _ o h1 env s)
   |a b as'=>
    cases es with
    |nil=>cases h2
    |cons y ys=>exact Ve (ja _ _ _ _ o h1 env s) λs1=>l3 y ys pos rfl env s1
 . cases z
   cases as with
   |c=>exact⟨a,rfl,λenv s=>ja _ _ _ _ o h1 env s⟩
   |a _ _=>cases h2
theorem Vb:JO T n .b:=by intro sc N X e o h;cases BV.mp h;exact⟨λenv s=>Vh,.inl ⟨rfl,λenv s1=>rfl⟩⟩
theorem XB(ja:JE T n a):JO T n (.a a):=by
 intro sc N X e o h;replace h:=tu h;obtain⟨e1,rfl,h⟩:=h;refine⟨λenv s=>XO (ja _ _ _ _ o h env s),.inr ⟨_,rfl,λenv s1 s2 z=>?_⟩⟩;have z':((evE (zB T n) T.b env a s1).bind λv s1=>match v with|.c i=>.e (some i) s1|_=>.d)=.e none s2:=z
 cases hv:evE (zB T n) T.b env a s1 with
 |e v s3=>rw[hv]at z';cases v<;>cases z'
 |g _ _ _=>rw[hv]at z';cases z'
 |d=>rw[hv]at z';cases z'
theorem Yy(jc:JC T n c):JC T n (.b c):=by intro sc N X e o h env s;replace h:=sV h;obtain⟨x1,p1,rfl,h⟩:=h;exact XW (jc _ _ _ _ o h env s)
theorem Yx(jc:JC T n c)(jcs:JCs T n cs):JC T n (.d c cs):=by intro sc N X e o h env s;replace h:=sT h;obtain⟨x1,xs1,p1,rfl,h⟩:=h;simp only[cf]at h;exact(eJ (jc _ _ _ _ o h.1 env s) λs1=>(jcs _ _ _ _ o h.2).1 _ env s1).pt
theorem VZ(jc:JC T n c)(jcs:JCs T n cs):JC T n (.f c cs):=by intro sc N X e o h env s;replace h:=sT h;obtain⟨x1,xs1,p1,rfl,h⟩:=h;simp only[cf]at h;exact(Zq (jc _ _ _ _ o h.1 env s) λs1=>(jcs _ _ _ _ o h.2).2.1 _ env s1).pt
theorem bg:JCs T n .a:=by intro sc N X es o h;cases AN.mp h;exact⟨λpos env s=>lB,λpos env s=>iF,.b⟩
theorem fi(jc:JC T n c)(jcs:JCs T n cs):JCs T n (.b c cs):=by intro sc N X es o h;replace h:=z0 h;obtain⟨e1,es1,rfl,h⟩:=h;simp only[cf]at h;obtain⟨a,b,d⟩:=jcs _ _ _ _ o h.2;exact⟨λpos env s=>eJ (jc _ _ _ _ o h.1 env s) λs1=>a pos env s1,λpos env s=>Zq (jc _ _ _ _ o h.1 env s) λs1=>b pos env s1,.a (Tc λenv s=>jc _ _ _ _ o h.1 env s) d⟩
theorem Y9(ja:JE T n a):JI T n (.h a):=λsc N X e tg o h env s=>XN (ja _ _ _ _ o h env s)
theorem j7(ja:JE T n a):JI T n (.d a):=by intro sc N X e tg o h env s;replace h:=yf h;obtain⟨x1,p1,xs1,p2,rfl,h⟩:=h;replace h:=yN h;obtain⟨y1,rfl,h⟩:=h;simp only[cf,decide_eq_true_eq,xW]at h;obtain⟨⟨⟨rfl,h1⟩,h2⟩,h3⟩:=h;exact iC h3 (o.a.b _ h1) (o.g _ (by decide)) (ja _ _ _ _ o h2 env s)
theorem j8(ja:JE T n a)(jb:JE T n b):JI T n (.f a b):=by intro sc N X e tg o h env s;replace h:=yf h;obtain⟨x1,p1,xs1,p2,rfl,h⟩:=h;replace h:=eO h;obtain⟨y1,y2,rfl,h⟩:=h;simp only[cf,decide_eq_true_eq,xW]at h;obtain⟨⟨⟨⟨⟨rfl,h1⟩,h2⟩,h3⟩,h4⟩,h5⟩:=h;exact iD h4 h5 (o.a.b _ h1) (o.g _ (by decide)) (ja _ _ _ _ o h2 env s) λs1=>jb _ _ _ _ o h3 env s1
theorem j9(ja:JE T n a)(jb:JE T n b)(jc:JE T n c):JI T n (.g a b c):=by intro sc N X e tg o h env s;obtain⟨x1,p1,xs1,p2,rfl,h1⟩:=yf h;obtain⟨y1,ys,rfl,h2⟩:=z0 h1;obtain⟨y2,zs,rfl,h3⟩:=z0 h2;obtain⟨y3,rfl,h4⟩:=yN h3;simp only[cf,decide_eq_true_eq,xW]at h4;obtain⟨⟨⟨⟨⟨⟨⟨rfl,g1⟩,g2⟩,g3⟩,g4⟩,g5⟩,g6⟩,g7⟩:=h4;exact iE g5 g6 g7 (o.a.b _ g1) (o.g _ (by decide)) (ja _ _ _ _ o g2 env s) (λs1=>jb _ _ _ _ o g3 env s1) λs1=>jc _ _ _ _ o g4 env s1
end
section
variable (T:Tbl)(n:Nat)
mutual
theorem jE:∀a:Ex,JE T n a
 |.g _=>eB
 |.e _=>eE
 |.F _=>Zp
 |.J _ _=>Vg
 |.j _ _ a b=>fj (jE a) (jE b)
 |.D a=>fo (jE a)
 |.E a=>Y7 (jE a)
 |.r _ a b=>Y5 (jE a) (jE b)
 |.s _ _ a b c=>fk (jE a) (jE b) (jE c)
 |.u a es=>Yz (jE a) (jL es)
 |.H _ _=>λsc N X e o h=>by cases h
 |.G _ _ _=>λsc N X e o h=>by cases h
 |.y es=>Y8 (jL es)
 |.w _ es=>Y6 (jL es)
 |.A=>bx
 |.B _=>bz
 |.I _ _=>λsc N X e o h=>by cases h
 |.h _ _ es=>bh (jL es)
 |.l _ _ es=>Y0 (jL es)
 |.C _ _=>λsc N X e o h=>by cases h
 |.K _ _ a es=>bp (jE a) (jL es)
 |.z a b=>Zo (jE a) (jE b)
 |.L _ a lo hi st=>Va (jE a) (jO lo) (jO hi) (jO st)
 |.q _ _ _ elt _ it ifs=>bj (jE elt) (jI it) (jCs ifs)
 |.p _ _ _ elt _ it ifs _ it2 ifs2=>fm (jE elt) (jI it) (jCs ifs) (jI it2) (jCs ifs2)
 |.k _ _ _ _=>λsc N X e o h=>by cases h
theorem jL:∀a:Exs,JL T n a
 |.c=>XA
 |.a a as=>bq (jE a) (jL as)
theorem jO:∀a:OEx,JO T n a
 |.b=>Vb
 |.a a=>XB (jE a)
theorem jC:∀a:Cn,JC T n a
 |.a (.r _ a b)=>XH (jE a) (jE b)
 |.a (.s _ _ a b c)=>fv (jE a) (jE b) (jE c)
 |.a (.g v)=>z8 (jE (.g v)) rfl
 |.a (.e v)=>z8 (jE (.e v)) rfl
 |.a (.F v)=>z8 (jE (.F v)) rfl
 |.a (.J v w)=>z8 (jE (.J v w)) rfl
 |.a (.j m o a b)=>z8 (jE (.j m o a b)) rfl
 |.a (.D a)=>z8 (jE (.D a)) rfl
 |.a (.E a)=>z8 (jE (.E a)) rfl
 |.a (.u a b)=>z8 (jE (.u a b)) rfl
 |.a (.H a b)=>z8 (jE (.H a b)) rfl
 |.a (.G a b c)=>z8 (jE (.G a b c)) rfl
 |.a (.y a)=>z8 (jE (.y a)) rfl
 |.a (.w m a)=>z8 (jE (.w m a)) rfl
 |.a .A=>z8 (jE .A) rfl
 |.a (.B t)=>z8 (jE (.B t)) rfl
 |.a (.I a b)=>z8 (jE (.I a b)) rfl
 |.a (.h a b c)=>z8 (jE (.h a b c)) rfl
 |.a (.l a b c)=>z8 (jE (.l a b c)) rfl
 |.a (.C a b)=>z8 (jE (.C a b)) rfl
 |.a (.K a b c d)=>z8 (jE (.K a b c d)) rfl
 |.a (.z a b)=>z8 (jE (.z a b)) rfl
 |.a (.L a b c d e)=>z8 (jE (.L a b c d e)) rfl
 |.a (.q a b c d e f g)=>z8 (jE (.q a b c d e f g)) rfl
 |.a (.p a b c d e f g h i j)=>z8 (jE (.p a b c d e f g h i j)) rfl
 |.a (.k a b c d)=>z8 (jE (.k a b c d)) rfl
 |.b c=>Yy (jC c)
 |.d c cs=>Yx (jC c) (jCs cs)
 |.f c cs=>VZ (jC c) (jCs cs)
theorem jCs:∀a:Cns,JCs T n a
 |.a=>bg
 |.b c cs=>fi (jC c) (jCs cs)
theorem jI:∀a:Itb,JI T n a
 |.h a=>Y9 (jE a)
 |.d a=>j7 (jE a)
 |.f a b=>j8 (jE a) (jE b)
 |.i _=>λsc N X e tg o h=>by cases h
 |.g a b c=>j9 (jE a) (jE b) (jE c)
 |.j _ _=>λsc N X e tg o h=>by cases h
end
end
end M
end
section
namespace M
open PySem
section
variable (K:KF)(mg:Str->Option Value)
def uB(ρ:Own)(H:L2.Hp)(o:Out Fl)(D:L2.Ends):Prop:=
 match o with
 |.e (.a e) s'=>∀ρ' H' σ',Ext ρ H ρ' H'->HR K mg ρ' s' H'->ER K mg ρ' H' e σ'->D.a σ' H'
 |.e (.c e) s'=>∀ρ' H' σ',Ext ρ H ρ' H'->HR K mg ρ' s' H'->ER K mg ρ' H' e σ'->D.c σ' H'
 |.e (.d e) s'=>∀ρ' H' σ',Ext ρ H ρ' H'->HR K mg ρ' s' H'->ER K mg ρ' H' e σ'->D.d σ' H'
 |.e (.b v) s'=>∀ρ' H' x,Ext ρ H ρ' H'->HR K mg ρ' s' H'->RD K mg ρ' H' v x->D.b x H'
 |_=>False
def tSt(env:Env)(s:Sto)(o:Out Fl):L2.TS:=λD σ H=>∃ρ,HR K mg ρ s H/\ER K mg ρ H env σ/\uB K mg ρ H o D
end
section
variable {K:KF}{mg:Str->Option Value}{ρ ρ':Own}{H H':L2.Hp}
theorem uB.mono(w:uB K mg ρ H o D)(x:Ext ρ H ρ' H')(h:HR K mg ρ' s1 H'):uB K mg ρ' H' o D:=by
 cases o with
 |e fl s'=>
  cases fl with
  |a e=>exact λρ2 H2 σ2 x2 h2 r2=>w ρ2 H2 σ2 (x.trans h x2) h2 r2
  |c e=>exact λρ2 H2 σ2 x2 h2 r2=>w ρ2 H2 σ2 (x.trans h x2) h2 r2
  |d e=>exact λρ2 H2 σ2 x2 h2 r2=>w ρ2 H2 σ2 (x.trans h x2) h2 r2
  |b v=>exact λρ2 H2 y x2 h2 r2=>w ρ2 H2 y (x.trans h x2) h2 r2
 |g _ _ _=>exact w
 |d=>exact w
end
noncomputable def vv:Expr->Bool
 |.ListComp ..|.SetComp ..|.DictComp ..=>false
 |_=>true
theorem vo(h:vv e=true):DP e t l env=pure false:=by cases e<;>first|rfl|cases h
theorem vz:DF [.Tuple ts k p] e l env=pure false:=by cases e<;>rfl
theorem hU:DF [.Subscript o i p] e l env=pure false:=by cases e<;>rfl
noncomputable def notTuple:Expr->Bool
 |.Tuple ..=>false
 |_=>true
theorem l7(h:notTuple e=true):BF [.Tuple ts k p] e env=pure none:=by
 cases e<;>first|(cases h;done)|rfl
theorem mO:BF [.Subscript o i p] e env=pure none:=by cases e<;>rfl
noncomputable def Z6(sc:Scope)(ts vs:List Expr):Bool:=
 match ts with
 |[.Name x px,.Name y py]=>decide (sc.names.lookup x=some .local)&&decide (sc.names.lookup y=some .local)&&(px.line == py.line)&&decide (x≠y)&&!(vs.all (EF 8))&&!(vs.all (Eg 8))
 |[.Name x px,.Name y py,.Name z pz]=>decide (sc.names.lookup x=some .local)&&decide (sc.names.lookup y=some .local)&&decide (sc.names.lookup z=some .local)&&(px.line == py.line)&&(px.line == pz.line)&&decide (x≠y)&&decide (x≠z)&&decide (y≠z)&&!(vs.all (EF 8))&&!(vs.all (Eg 8))
 |_=>false
noncomputable def YE(sc:Scope)(ts:List Expr):Bool:=ts.any (λ|.Name x _=>decide (sc.names.lookup x≠some .local)|_=>false)||decide (3<ts.length)
theorem rl{vs:List Expr}(h:zc vs=true):(vs.any λ|.Starred ..=>true|_=>false)=false:=by
 induction vs with
 |nil=>rfl
 |cons v vs ih=>
  rw[zc,cf]at h;rw[List.any_cons,ih h.2];cases v<;>first|rfl|(have z:=h.1;cases z)
theorem mP(hb:env.blockKind=.function)(hx:env.kindOf x=some .local)(hy:env.kindOf y=some .local)(hl:(px.line == py.line)=true)(hne:x≠y)(hp:zc [a,b]=true)
 (hf:[a,b].all (EF 8)=false) (hc:[a,b].all (Eg 8)=false):BF [.Tuple [.Name x px,.Name y py] kt pt] (.Tuple [a,b] k2 pt2) env=pure (some [x,y]):=by
 have hs:=rl hp;have hl':(py.line == px.line)=true:=by rw[beq_iff_eq]at hl ⊢;exact hl.symm
 unfold BF;have e1:([x,y].eraseDups.length != [x,y].length)=false:=by
  have:(y == x)=false:=by simpa using Bv hne
  simp[List.eraseDups_cons,this]
 simp only[AM,Cp,hb,hf,hs,hc,hx,hy,hl',List.head?_cons,CV,Option.getD_some,A3,List.filterMap_nil,beq_self_eq_true,EG,if_true];have hpos:(DS x px).pos.line=px.line:=rfl;refine(if_neg (by decide)).trans ((if_neg (λz=>Ae (hs.symm.trans z))).trans ?_)
 simp only[hpos,beq_self_eq_true,hl',EG,if_true,e1,AM,Cp,bne_self_eq_false,Bool.or_self,A2,if_false];exact if_neg (λz=>Ae (e1.symm.trans (by rw[Bool.false_or]at z;exact z)))
theorem qU(hb:env.blockKind=.function)(hx:env.kindOf x=some .local)(hy:env.kindOf y=some .local)(hz:env.kindOf z=some .local)(hl:(px.line == py.line)=true)(hl2:(px.line == pz.line)=true)
 (hne:x≠y) (hne2:x≠z) (hne3:y≠z) (hp:zc [a,b,c]=true) (hf:[a,b,c].all (EF 8)=false) (hc:[a,b,c].all (Eg 8)=false):BF [.Tuple [.Name x px,.Name y py,.Name z pz] kt pt] (.Tuple [a,b,c] k2 pt2) env=pure (some [x,y,z]):=by
 have hs:=rl hp;have hl':(py.line == px.line)=true:=by rw[beq_iff_eq]at hl ⊢;exact hl.symm
 have hl2':(pz.line == px.line)=true:=by rw[beq_iff_eq]at hl2 ⊢;exact hl2.symm
 unfold BF;have e1:([x,y,z].eraseDups.length != [x,y,z].length)=false:=by
  have h1:(y == x)=false:=by simpa using Bv hne
  have h2:(z == x)=false:=by simpa using Bv hne2
  have h3:(z == y)=false:=by simpa using Bv hne3
  simp[List.eraseDups_cons,h1,h2,h3]
 simp only[AM,Cp,hb,hf,hs,hc,hx,hy,hz,hl',hl2',List.head?_cons,CV,Option.getD_some,A3,List.filterMap_nil,beq_self_eq_true,EG,if_true];have hpos:(DS x px).pos.line=px.line:=rfl;refine(if_neg (by decide)).trans ((if_neg (λz=>Ae (hs.symm.trans z))).trans ?_)
 simp only[hpos,beq_self_eq_true,hl',hl2',EG,if_true,e1,AM,Cp,bne_self_eq_false,Bool.or_self,A2,if_false];exact if_neg (λz=>Ae (e1.symm.trans (by rw[Bool.false_or]at z;exact z)))
theorem uh{α β:Type}{f:α->Option β}:∀{l:List α},(∃a∈l,f a=none)->(l.filterMap f).length<l.length
 |[],⟨a,h,_⟩=>by cases h
 |b::l,⟨a,h,e⟩=>by
  rw[A3];have hle:=Fe f l;rcases As.mp h with z|z
  . subst z;rw[e];simp only[AM];omega
  . have:=uh ⟨a,z,e⟩
    cases f b with
    |none=>simp only[AM];omega
    |some _=>simp only[AM];omega
theorem gB(h:(∃x p,DS x p∈ts/\env.kindOf x≠some .local)\/3<ts.length):BF [.Tuple ts kt pt] (.Tuple vs k2 pt2) env=pure none:=by
 unfold BF;simp only[];split
 . rfl
 . rename_i h1
   split
   . rfl
   . rw[if_pos]
     rcases h with⟨x,p,hm,hk⟩|h
     . rw[An]
       left;rw[bne_iff_ne];refine AG (uh ⟨_,hm,?_⟩);have:(env.kindOf x == some .local)=false:=by simpa using hk
       simp only[this,Cc,A2,if_false]
     . exfalso
       apply h1;have:(ts.length == 2||ts.length == 3)=false:=by rw[D8];constructor<;>(rw[beq_eq_false_iff_ne];omega)
       rw[this];rfl
theorem l6(h:plain i=true)v:assign (.Subscript o i p) env v=(do
 let ov <-holding [v] (eval o env);let iv <-holding [v,ov] (eval i env)
 standAt p
 holding [v,ov,iv] (setItem ov iv v)
 release [v,ov,iv] []):=by
 cases i<;>first|rfl|cases h
section
variable {X:L2.Cx}{env:Env}{s:Sto}
theorem xX{t:L2.TS}(h:∀D σ H,¬t D σ H):L2.PS X st t:=λpins s σ H D I q=>(h D σ H q).elim
theorem Wi(h:∀v s',o≠.e v s'):¬tSt X.K X.d env s o D σ H:=by
 rintro ⟨ρ,_,_,w⟩;cases o with
 |e v s'=>exact h v s' rfl
 |g _ _ _=>exact w
 |d=>exact w
theorem zP(h:∀v s',o≠.e v s'):L2.PS X st (tSt X.K X.d env s o):=xX λ_ _ _=>Wi h
theorem aA(hn:vv e=true)(h:L2.PE X e (tV X.K X.d env s o)):L2.PS X (.Expr e pos) (tSt X.K X.d env s (o.bind λ_ s1=>.e (.a env) s1)):=by
 cases o with
 |e v s1=>exact yY (L2.sj h (vo hn)) λD σ H ⟨ρ,hr,er,w⟩=>⟨ρ,hr,er,λρ1 x H1 x1 hr1 r1=>w ρ1 H1 σ x1 hr1 (er.mono x1)⟩
 |g _ _ _=>exact zP (zF rfl)
 |d=>exact zP (zF rfl)
theorem XS(h:L2.PE X e (tV X.K X.d env s o)):L2.PS X (.Return (some e) pos) (tSt X.K X.d env s (o.bind λv s1=>.e (.b v) s1)):=by
 cases o with
 |e v s1=>exact yY (L2.wL h) λD σ H ⟨ρ,hr,er,w⟩=>⟨ρ,hr,er,λρ1 x H1 x1 hr1 r1=>w ρ1 H1 x x1 hr1 r1⟩
 |g _ _ _=>exact zP (zF rfl)
 |d=>exact zP (zF rfl)
theorem lA(rule:L2.PS X st (L2.v9 te (L2.xG i)))(h:∀σ H Q,tV X.K X.d env s o σ H Q->te σ H Q):L2.PS X st (tSt X.K X.d env s (o.bind λv s1=>.e (.a (env.set i (some v))) s1)):=by
 cases o with
 |e v s1=>exact yY rule λD σ H ⟨ρ,hr,er,w⟩=>h _ _ _ ⟨ρ,hr,er,λρ1 x H1 x1 hr1 r1=>w ρ1 H1 _ x1 hr1 ((er.mono x1).set i r1)⟩
 |g _ _ _=>exact zP (zF rfl)
 |d=>exact zP (zF rfl)
theorem jF{t:Tgt}{g:L2.TG}{o:Out Val}{st:Stmt}{te:L2.TE}(TG:tP X.K X.d t g)(rule:L2.PS X st (L2.v9 te g))(h:∀σ H Q,tV X.K X.d env s o σ H Q->te σ H Q) :
 L2.PS X st (tSt X.K X.d env s (o.bind λv s1=>match yc t v env with|some env'=>.e (.a env') s1|dS=>.d)):=by
 cases o with
 |e v s1=>
  show L2.PS X st (tSt X.K X.d env s (match yc t v env with|some env'=>.e (.a env') s1|dS=>.d))
  cases hb:yc t v env with
  |none=>exact zP (zF rfl)
  |some env'=>exact yY rule λD σ H ⟨ρ,hr,er,w⟩=>h _ _ _ ⟨ρ,hr,er,λρ1 x H1 x1 hr1 r1=>TG ρ1 s1 H1 v x env env' σ _ hr1 r1 (er.mono x1) hb λσ' er'=>w ρ1 H1 σ' x1 hr1 er'⟩
 |g _ _ _=>exact zP (zF rfl)
 |d=>exact zP (zF rfl)
theorem eG{a i e:Expr}{o:Out Val}{f2 f3:Sto->Out Val}{p pos:Pos}(hi0:plain i=true)(h1:L2.PE X e (tV X.K X.d env s o))(h2:∀s1,L2.PE X a (tV X.K X.d env s1 (f2 s1)))(h3:∀s1,L2.PE X i (tV X.K X.d env s1 (f3 s1))) :
 L2.PS X (.Assign [.Subscript a i p] e pos) (tSt X.K X.d env s (o.bind λv s1=>(f2 s1).bind λx s2=>(f3 s2).bind λy s3=>match x,y with
  |.j r,.c k=>(match s3[r]? with
   |some (.c vs)=>(match L2.ixN vs.length k with|some j=>.e (.a env) (upd s3 r (vs.set j v))|dS=>.d)
   |_=>.d)
  |_,_=>.d)):=by
 cases o with
 |e v s1=>
  have h2':=h2 s1;simp only[zL];cases hb:f2 s1 with
  |e x s2=>
   rw[hb]at h2';have h3':=h3 s2;simp only[zL];cases hc:f3 s2 with
   |e y s3=>
    rw[hc]at h3';simp only[zL];have rule:L2.PS X (.Assign [.Subscript a i p] e pos) (L2.v9 _ (L2.VN _ _ L2.Z2)):=L2.lg h1 (L2.WJ h2' h3' L2.set_list (l6 hi0)) hU mO;cases x with
    |j r=>
     cases y with
     |c k=>
      simp only[];cases hs:s3[r]? with
      |none=>exact zP (zF rfl)
      |some cl=>
       cases cl with
       |e _=>exact zP (zF rfl)
       |f _=>exact zP (zF rfl)
       |d _=>exact zP (zF rfl)
       |c vs=>
        simp only[];cases hj:L2.ixN vs.length k with
        |none=>exact zP (zF rfl)
        |some j=>
         refine yY rule λD σ H ⟨ρ,hr,er,w⟩=>⟨ρ,hr,er,λρ1 xv H1 x1 hr1 r1=>⟨ρ1,hr1,er.mono x1,λρ2 xo H2 x2 hr2 r2=>⟨ρ2,hr2,(er.mono x1).mono x2,λρ3 xi H3 x3 hr3 r3=>?_⟩⟩⟩;cases r3;have r2':=r2.mono x3;cases r2' with
         |C e0 _=>
          obtain⟨b',xs,e1,e2,q⟩:=hr3.obj r _ hs;rw[e0]at e1;cases e1;have xx:=(x1.trans hr1 x2).trans hr2 x3;refine⟨_,xs,k,j,rfl,rfl,e2,by rw[<-q.length];exact hj,?_⟩
          exact w ρ3 _ σ (xx.trans hr3 (Ext.write hr3 e0 e2 _)) (hr3.write e0 e2 (RDs.set ((r1.mono x2).mono x3) j q)) ((er.mono xx).mono (Ext.write hr3 e0 e2 _))
     |_=>exact zP (zF rfl)
    |_=>exact zP (zF rfl)
   |g _ _ _=>exact zP (zF rfl)
   |d=>exact zP (zF rfl)
  |g _ _ _=>exact zP (zF rfl)
  |d=>exact zP (zF rfl)
 |g _ _ _=>exact zP (zF rfl)
 |d=>exact zP (zF rfl)
end
end M
end
section
namespace M
open PySem
section
variable {X:L2.Cx}{env:Env}{s:Sto}
theorem aB(rule:L2.PS X st (L2.Uw i j ta))(h:∀σ H Q,tVs X.K X.d env s o σ H Q->ta σ H Q) :
 L2.PS X st (tSt X.K X.d env s (o.bind λvs s1=>if vs.length=[i,j].length then .e (.a (([i,j].zip vs).foldl (λe p=>e.set p.1 (some p.2)) env)) s1 else .d)):=by
 cases o with
 |e vs s1=>
  show L2.PS X st (tSt X.K X.d env s (if vs.length=[i,j].length then .e (.a (([i,j].zip vs).foldl (λe p=>e.set p.1 (some p.2)) env)) s1 else .d))
  match vs with
  |[v,w]=>
   refine yY rule λD σ H ⟨ρ,hr,er,wt⟩=>h _ _ _ ⟨ρ,hr,er,λρ1 xs H1 x1 hr1 r1=>?_⟩;obtain⟨x,y,rfl,rx,ry⟩:=i3 r1;exact⟨x,y,rfl,wt ρ1 H1 _ x1 hr1 (((er.mono x1).set i rx).set j ry)⟩
  |[]=>exact zP (zF rfl)
  |[_]=>exact zP (zF rfl)
  |_::_::_::r=>exact zP (λ_ _ e=>by simp at e)
 |g _ _ _=>exact zP (zF rfl)
 |d=>exact zP (zF rfl)
theorem Tn(r:RDs K mg ρ H [v,w,z] xs):∃x y t,xs=[x,y,t]/\RD K mg ρ H v x/\RD K mg ρ H w y/\RD K mg ρ H z t:=by
 cases r with
 |a r1 r2=>
  obtain⟨y,t,rfl,r3,r4⟩:=i3 r2;exact⟨_,_,_,rfl,r1,r3,r4⟩
theorem aC(rule:L2.PS X st (L2.Z9 i j k ta))(h:∀σ H Q,tVs X.K X.d env s o σ H Q->ta σ H Q) :
 L2.PS X st (tSt X.K X.d env s (o.bind λvs s1=>if vs.length=[i,j,k].length then .e (.a (([i,j,k].zip vs).foldl (λe p=>e.set p.1 (some p.2)) env)) s1 else .d)):=by
 cases o with
 |e vs s1=>
  show L2.PS X st (tSt X.K X.d env s (if vs.length=[i,j,k].length then .e (.a (([i,j,k].zip vs).foldl (λe p=>e.set p.1 (some p.2)) env)) s1 else .d))
  match vs with
  |[v,w,z]=>
   refine yY rule λD σ H ⟨ρ,hr,er,wt⟩=>h _ _ _ ⟨ρ,hr,er,λρ1 xs H1 x1 hr1 r1=>?_⟩;obtain⟨x,y,t,rfl,rx,ry,rt⟩:=Tn r1;exact⟨x,y,t,rfl,wt ρ1 H1 _ x1 hr1 ((((er.mono x1).set i rx).set j ry).set k rt)⟩
  |[]=>exact zP (zF rfl)
  |[_]=>exact zP (zF rfl)
  |[_,_]=>exact zP (zF rfl)
  |_::_::_::_::r=>exact zP (λ_ _ e=>by simp at e)
 |g _ _ _=>exact zP (zF rfl)
 |d=>exact zP (zF rfl)
def uSs(K:KF)(mg:Str->Option Value)(Φ:Calls)(G:Str->Option Val)(b:Sms):L2.TS:=λD σ H=>∃env s,tSt K mg env s (zX Φ G env b s) D σ H
theorem Vj{f2 f3:Sto->Out Fl}(hc:L2.PT X c (tT X.K X.d env s o))(ha:L2.PSs X a ta)(hb:L2.PSs X b tb)(ia:∀s1 D σ H,tSt X.K X.d env s1 (f2 s1) D σ H->ta D σ H)(ib:∀s1 D σ H,tSt X.K X.d env s1 (f3 s1) D σ H->tb D σ H) :
 L2.PS X (.If c a b pos) (tSt X.K X.d env s (o.bind λt s1=>if t then f2 s1 else f3 s1)):=by
 cases o with
 |e v s1=>
  refine yY (L2.qz hc ha hb) λD σ H ⟨ρ,hr,er,wt⟩=>⟨ρ,hr,er,λρ1 x H1 x1 hr1 r1=>?_⟩;have wt':=wt.mono x1 hr1;cases r1;cases v with
  |true=>exact L2.rZ (ia s1 D σ H1 ⟨ρ1,hr1,er.mono x1,wt'⟩)
  |false=>exact L2.uq (ib s1 D σ H1 ⟨ρ1,hr1,er.mono x1,wt'⟩)
 |g _ _ _=>exact zP (zF rfl)
 |d=>exact zP (zF rfl)
theorem fR{body:Env->Sto->Out Fl}{tb:L2.TS}(W:Walk K mg ρ H r J)(TG:tP K mg t g)(hb:∀env s D σ H,tSt K mg env s (body env s) D σ H->tb D σ H)
 (hr:HR K mg ρ s H) (er:ER K mg ρ H env σ) (w:uB K mg ρ H (yz r t body r.a env s) D):L2.pA J g tb D σ H:=by
 refine rP (n:=r.a.length) (λi σ2 H2=>∃ρ2 s2 env2,HR K mg ρ2 s2 H2/\ER K mg ρ2 H2 env2 σ2/\Ext ρ H ρ2 H2/\yz r t body (r.a.drop i) env2 s2=yz r t body r.a env s) ⟨ρ,s,env,hr,er,Ext.refl,by rw[Ee]⟩ ?_ ?_
 . rintro σ2 H2 ⟨ρ2,s2,env2,hr2,er2,x2,h2⟩
   rw[Fg,yz]at h2;split at h2
   . rename_i ho
     rw[<-h2]at w;exact⟨W.a ρ2 H2 s2 _ x2.mv hr2 ho rfl,w ρ2 H2 σ2 x2 hr2 er2⟩
   . rw[<-h2]at w;exact w.elim
 . rintro i σ2 H2 hi ⟨ρ2,s2,env2,hr2,er2,x2,h2⟩
   rw[C1 hi,yz]at h2;split at h2
   . rename_i ho
     obtain⟨hgo,hy⟩:=W.c ρ2 H2 s2 i (r.a[i]) x2.mv hr2 ho (Ak hi);refine⟨hgo,λx H3 y=>?_⟩;obtain⟨hH,rx⟩:=hy x H3 y;split at h2
     . rw[<-h2]at w;exact w.elim
     . rename_i env' he
       have C3:HR K mg ρ2 s2 H3/\Ext ρ2 H2 ρ2 H3:=by
        rcases hH with e|⟨q,o,hq,e⟩
        . subst e;exact⟨hr2,Ext.refl⟩
        . subst e;exact⟨hr2.more hq o,Ext.new hr2 hq o⟩
       have x3:=x2.trans hr2 C3.2;refine TG ρ2 s2 H3 _ x env2 env' σ2 _ C3.1 rx (er2.mono C3.2) he λσ4 er4=>hb env' s2 _ σ4 H3 ⟨ρ2,C3.1,er4,?_⟩;cases hc:body env' s2 with
       |e fl s5=>
        rw[hc]at h2;simp only[zL]at h2;cases fl with
        |a e=>exact λρ5 H5 σ5 x5 hr5 er5=>⟨ρ5,s5,e,hr5,er5,x3.trans C3.1 x5,h2⟩
        |d e=>exact λρ5 H5 σ5 x5 hr5 er5=>⟨ρ5,s5,e,hr5,er5,x3.trans C3.1 x5,h2⟩
        |c e=>
         simp only[]at h2;rw[<-h2]at w;exact λρ5 H5 σ5 x5 hr5 er5=>w ρ5 H5 σ5 (x3.trans C3.1 x5) hr5 er5
        |b v=>
         simp only[]at h2;rw[<-h2]at w;exact λρ5 H5 y5 x5 hr5 r5=>w ρ5 H5 y5 (x3.trans C3.1 x5) hr5 r5
       |g _ _ _=>rw[hc]at h2;simp only[gZ]at h2;rw[<-h2]at w;exact w.elim
       |d=>rw[hc]at h2;simp only[rD]at h2;rw[<-h2]at w;exact w.elim
   . rw[<-h2]at w;exact w.elim
theorem XQ(hx:X.j=λ_ _=>False)(hc:X.i=true)(hp:plain iter=true)(hi:∀env s,L2.PI X tg iter (tI (K:=X.K) (mg:=X.d) env s (yS Φ G env it s)))(hg:L2.PG X tg g)(TG:tP X.K X.d t g)
 (hb:L2.PSs X body (uSs X.K X.d Φ G b)):L2.PS X (.For tg iter body [] pos) (tSt X.K X.d env s ((yS Φ G env it s).bind λr s1=>yz r t (λe s'=>zX Φ G e b s') r.a env s1)):=by
 have hpass:PassesOwn (model X.f X.w) X.A X.a X.j:=by rw[hx];exact PassesOwn.never
 refine yY (L2.WN hpass hc (lZ hi) hg hb (zm hp)) λD σ H ⟨ρ,hr,er,w⟩=>⟨env,s,ρ,hr,er,?_⟩;cases hv:yS Φ G env it s with
 |e r s1=>
  rw[hv]at w;exact λρ1 H1 J x1 hr1 W=>fR W TG (λenv s D σ H h=>⟨env,s,h⟩) hr1 (er.mono x1) (w.mono x1 hr1)
 |g _ _ _=>rw[hv]at w;exact w.elim
 |d=>rw[hv]at w;exact w.elim
theorem aD:L2.PSs X [] (tSt X.K X.d env s (.e (.a env) s)):=xQ L2.sk λD σ H ⟨ρ,hr,er,w⟩=>w ρ H σ Ext.refl hr er
theorem eH{st:Stmt}{rest:List Stmt}{o:Out Fl}{f:Env->Sto->Out Fl}{tr:L2.TS}(h1:L2.PS X st (tSt X.K X.d env s o))(h2:L2.PSs X rest tr)(i2:∀env s D σ H,tSt X.K X.d env s (f env s) D σ H->tr D σ H) :
 L2.PSs X (st::rest) (tSt X.K X.d env s (o.bind λfl s1=>match fl with|.a e=>f e s1|fl=>.e fl s1)):=by
 refine xQ (L2.zx h1 h2) λD σ H ⟨ρ,hr,er,w⟩=>⟨ρ,hr,er,?_⟩;cases o with
 |e fl s1=>
  simp only[zL]at w;cases fl with
  |a e=>exact λρ1 H1 σ1 x1 hr1 er1=>i2 e s1 D σ1 H1 ⟨ρ1,hr1,er1,w.mono x1 hr1⟩
  |c e=>exact w
  |d e=>exact w
  |b v=>exact w
 |g _ _ _=>exact w.elim
 |d=>exact w.elim
end
end M
end
section
namespace M
open PySem PySem.W PyProof.Rows
def mq(sc:Scope)(N:List Str)(e:Ex)(l:Expr):Bool:=match e with
 |.h f ver es=>decide (ver=100)&&Yi l λa b lsc _=>eCN b λy ys=>uJ a&&vD sc lsc&&decide (y=f)&&xW lsc y&&!(y == ("__debug__":Str))&&vm es&&ckL lsc N es ys&&zc ys&&!ys.isEmpty&&decide (("!":Str)∈N)
 |_=>false
theorem oA(h:mq sc N e l=true):∃f es ys lsc p2 p3 p4,e=.h f 100 es/\l=.Lambda L2.noArgs (.Call (.Name f p2) ys [] p3) lsc p4/\vD sc lsc=true/\lsc.names.lookup f=some .globalImplicit/\(f == ("__debug__":Str))=false /\
 vm es=true/\ckL lsc N es ys=true/\zc ys=true/\ys.isEmpty=false/\("!":Str)∈N:=by
 cases e with
 |h f ver es=>
  obtain⟨g0,g1⟩:=zJ (show (decide (ver=100)&&_)=true from h);obtain⟨a,b,lsc,p4,rfl,g2⟩:=nE g1;obtain⟨y,p2,ys,p3,rfl,g3⟩:=yf g2;obtain rfl:=of_decide_eq_true g0;simp only[cf,decide_eq_true_eq,AD,xW]at g3;obtain⟨⟨⟨⟨⟨⟨⟨⟨⟨h1,h2⟩,rfl⟩,h4⟩,h5⟩,h6⟩,h7⟩,h8⟩,h9⟩,h10⟩:=g3;rw[qv h1];exact⟨y,es,ys,lsc,p2,p3,p4,rfl,rfl,h2,h4,h5,h6,h7,h8,h9,h10⟩
 |_=>cases h
def gr(sc:Scope)(N:List Str)(i:Nat):Exs->List Stmt->(List Stmt->Bool)->Bool
 |.c,ss,k=>k ss
 |.a e es,ss,k=>lc ss λt ts=>(WW t λy _=>eMt y λob nm ap z cp=>ck sc N (.e i) ob&&sZ ob&&decide (nm="append")&&(ap.endLine == cp.line)&&mq sc N e z)&&gr sc N i es ts k
def YV(sc:Scope)(N:List Str)(i:Nat)(e:Expr):Bool:=eG1 e λx tg iter fs csc=>eName tg λc _=>L2.vR sc N [c] csc [none]&&(decide (csc.names.lookup c=some .local)||decide (csc.names.lookup c=some .cell))&&ck sc N (.e i) iter&&fs.isEmpty&&eCN x λy ys=>decide (y=L2.yQ false)&&xW csc y&&l1 ys λz=>eName z λc' _=>decide (c'=c)&&!(c == ("__debug__":Str))&&!(c == ("__classdict__":Str))&&plain iter
noncomputable def Exs.app:Exs->Exs->Exs
 |.c,b=>b
 |.a e es,b=>.a e (es.app b)
noncomputable def Exs.len:Exs->Nat
 |.c=>0
 |.a _ es=>es.len+1
theorem kQ:∀a:Exs,a.app .c=a
 |.c=>rfl
 |.a e es=>by rw[Exs.app,kQ es]
theorem oq e b:∀a:Exs,a.app (.a e b)=(a.app (.a e .c)).app b
 |.c=>rfl
 |.a f es=>by rw[Exs.app,oq e b es];rfl
section
variable {T:Tbl}{n:Nat}{sc:Scope}{N:List Str}{X:L2.Cx}
def jg(X:L2.Cx)(H:L2.Hp)(lf:Addr)(l:Expr):Prop:=∃a body lsc p,l=.Lambda a body lsc p/\su X H lf body lsc
def vO(sc:Scope)(N:List Str)(X:L2.Cx)(H:L2.Hp):Exs->List Addr->Prop
 |.c,[]=>True
 |.a e es,lf::r=>(∃l,mq sc N e l=true/\jg X H lf l)/\vO sc N X H es r
 |_,_=>False
theorem jg.keep(h:jg X H lf l)(k:Frz H H'):jg X H' lf l:=by obtain⟨a,b,c,p,e,q⟩:=h;exact⟨a,b,c,p,e,q.keep k⟩
theorem vO.keep(k:Frz H H'):∀{L} {r},vO sc N X H L r->vO sc N X H' L r
 |.c,[],_=>AE
 |.c,_::_,h=>h.elim
 |.a _ _,[],h=>h.elim
 |.a e es,lf::r,h=>by obtain⟨⟨l,h1,h2⟩,h3⟩:=h;exact⟨⟨l,h1,h2.keep k⟩,vO.keep k h3⟩
theorem vO.snoc(h1:mq sc N e l=true)(h2:jg X H lf l):∀{L} {r},vO sc N X H L r->vO sc N X H (L.app (.a e .c)) (r++[lf])
 |.c,[],_=>⟨⟨l,h1,h2⟩,AE⟩
 |.c,_::_,h=>h.elim
 |.a _ _,[],h=>h.elim
 |.a e es,lf::r,h=>⟨h.1,vO.snoc h1 h2 h.2⟩
theorem vO.len:∀{L} {r},vO sc N X H L r->r.length=L.len
 |.c,[],_=>rfl
 |.c,_::_,h=>h.elim
 |.a _ _,[],h=>h.elim
 |.a e es,lf::r,h=>by rw[AM,vO.len h.2];rfl
theorem jW(no:∀f v,100<=v->T.d f v=none)(h8:vm es=true)(h:evE (zB T n) T.b env (.h f 100 es) s=.e v s') :
 ∃m vs,n=m+1/\zV (zB T m) T.b env es s=.e vs s/\zl T.e s=true/\T.c false=true/\sM T false (zB T m f 0 vs s) (ze T m f 0 vs s)=.e v s':=by
 obtain⟨vs,s1,e1,h⟩:=zk (show ((zV (zB T n) T.b env es s).bind λvs s1=>zB T n f 100 vs s1)=.e v s' from h);cases n with
 |zero=>cases h
 |succ m=>
  rw[tH (Φ':=zB T m) es s h8]at e1;obtain rfl:s=s1:=(tJ es _ _ _ h8 e1).symm;have hcall:∀ver,ver=100->zB T (m+1) f ver vs s=if (T.c false)&&zl T.e s then sM T false (zB T m f 0 vs s) (ze T m f 0 vs s) else .d:=λver hv=>by
   simp only[zB,no f ver (by omega)]
   rw[decide_eq_true hv,decide_eq_false (show ¬ver=101 by omega),decide_eq_false (show ¬ver=200 by omega),decide_eq_false (show ¬ver=300 by omega),decide_eq_false (show ¬ver=301 by omega)]
   simp only[Bool.true_and,Cc,Bool.or_false];congr 1;cases nH vs<;>rfl
  rw[hcall 100 rfl]at h;split at h
  . rename_i hc
    rw[cf]at hc;exact⟨m,vs,rfl,e1,hc.2,hc.1,h⟩
  . cases h
def teS(T:Tbl)(n:Nat)(sc:Scope)(N:List Str)(X:L2.Cx)(env:Env)(σ:L2.St):L2.TE:=λσ' H' Q=>∃(lf:Addr) (e:Ex) (l:Expr) (s:Sto) (ρ:Own) (v:Val) (s2:Sto),σ'[0]?=some (some (.c lf))/\mq sc N e l=true/\jg X H' lf l/\HR X.K X.d ρ s H'/\ER X.K X.d ρ H' env σ /\
 evE (zB T n) T.b env e s=.e v s2/\yV X.K X.d (RD X.K X.d) ρ H' (.e v s2) Q
theorem dj(o:Ok T n sc N X)(oc:Ok T n csc [cx] (X.comp [cx] csc C s0 H0 ex))(h2:csc.names.lookup (L2.yQ false)=some .globalImplicit)
 (hv:csc.names.lookup cx=some .local\/csc.names.lookup cx=some .cell) (hd1:(cx == ("__debug__":Str))=false) (hd2:(cx == ("__classdict__":Str))=false) (I0:L2.Inv X pins0 σ H0 s0) (f0:∀b∈ex,L2.v5 X pins0 H0 b) :
 L2.PE (X.comp [cx] csc C s0 H0 ex) (.Call (.Name (L2.yQ false) p1) [.Name cx p2] [] p5) (teS T n sc N X env σ):=by
 intro pins s1 σ1 H1 Q I ⟨lf,e,l,s,ρ,v,s2,h0,hck,⟨a,body,lsc,p,hl,hin⟩,hr,er,hev,wt⟩;obtain⟨f,es,ys,lsc',p2',p3,p4,rfl,hl2,h4,h6,h7,h8,h9,h10,h11,h12⟩:=oA hck;rw[hl2]at hl;cases hl;obtain⟨m,vs,rfl,ho,htb,hmd,hsd⟩:=jW o.i h8 hev;have sd:=o.l m rfl ⟨_,hmd⟩;obtain⟨kx,cs,ws,pre,hue,hhue,KF,SF,CF,RF⟩:=sd.a.a;obtain⟨fS,SF'⟩:=SF false hmd;obtain⟨stS,fdS,hmS,FnS,_⟩:=id SF'.a;refine By (L2.xj I (oc.a.b _ h2) hmS ?_ (by decide))
 have hpa:L2.PA (X.comp [cx] csc C s0 H0 ex) [.Name cx p2] (L2.wj (L2.vK 0) L2.sR):=L2.yo (L2.wK rfl (oc.a.c cx (hv.imp id .inl)) hd1 hd2) L2.yl;refine Cq (h₀:=X.h) I.B.i.a FnS.b (L2.thn (hpa p5 pins s1 σ1 H1 (λvs H1'=>vs=[L2.V.c lf]/\H1'=H1) I ⟨_,h0,rfl,rfl⟩) λus s1' ⟨vs',H1',I1,r,hvs,hH⟩=>⟨I1.kIn,?_⟩);subst hvs hH;obtain⟨c,ctv,L⟩:=hin.at o h4 I0 f0 I1;have hus:us=[.ref lf]:=by
  cases r with
  |cons r1 r2=>cases r2;cases r1;rfl
 rw[hus];simp only[vD,cf,decide_eq_true_eq,AD,AJ,Bh,An]at h4;exact pF oc o.a.d (λx hx=>(h4.1.2 x hx).imp id And.left) h8 h9 h10 h11 (.inl ⟨rfl,h6,h7⟩) ho hmd I1 L hr er (by rw[hsd];exact wt) hmS
theorem jt(hr:HR X.K X.d ρ s H)(er:ER X.K X.d ρ H env σ)(np:p ∉ ρ.o)(hp:σ[i]?=some (some (.c p)))(hl:H p=some (.b (lfs.map L2.V.c)))(hz:lfs.length<=zS)
 (ls:vO sc N X H L lfs) (hev:zV (zB T n) T.b env L s=.e vs s1) (wt:yV X.K X.d (RD X.K X.d) ρ H (.e (.h vs) s1) Q):L2.wc [none] (L2.Zl X.K (L2.vK i)) (L2.xG 0) [] (λacc=>L2.vH acc (teS T n sc N X env σ)) σ H Q:=by
 refine⟨_,hp,p,rfl,⟨_,L2.SqL.of hl⟩,λacc hacc=>?_⟩;refine rP (n:=lfs.length) (λj σ' H'=>∃ρ' s' Lr lr done vr,Lp acc ρ H ρ' H'/\HR X.K X.d ρ' s' H'/\(∃ys,H' acc=some (.b ys)/\RDs X.K X.d ρ' H' done ys)/\lfs.drop j=lr/\vO sc N X H' Lr lr/\σ'.length=1/\done.length=j/\zV (zB T n) T.b env Lr s'=.e vr s1/\done++vr=vs)
  ⟨ρ.hide acc,s,L,lfs,[],vs,Lp.start hr hacc _,hr.hide hacc,⟨[],L2.zM,.d⟩,Ee,ls.keep λa o u e=>by rw[L2.zH (L2.zO e hacc)];exact e,rfl,rfl,hev,rfl⟩ ?_ ?_
 . rintro σ' H' ⟨ρ',s',Lr,lr,done,vr,lp,hr',⟨ys,e1,e2⟩,hd,hls,hσ,hdl,he,hv⟩
   have hp':=lp.c p _ hl np;refine⟨⟨_,L2.SqL.of hp',by rw[Ad];exact Ab _⟩,?_⟩
   rw[Fg]at hd;subst hd;cases Lr with
   |a _ _=>exact hls.elim
   |c=>
    cases he;rw[AY]at hv;subst hv;exact lp.done hr hacc hr' e1 e2 (m:=false) wt
 . rintro j σ' H' hj ⟨ρ',s',Lr,lr,done,vr,lp,hr',⟨ys,e1,e2⟩,hd,hls,hσ,hdl,he,hv⟩
   have hp':=lp.c p _ hl np;rw[C1 hj]at hd;subst hd;cases Lr with
   |c=>exact hls.elim
   |a e es=>
    obtain⟨⟨l,hck,hin⟩,hls⟩:=hls;obtain⟨v,s2,ev,he⟩:=zk he;obtain⟨vr',s3,er',he⟩:=zk he;cases he;have hx:(lfs.map L2.V.c)[j]?=some (.c lfs[j]):=by rw[A5,Ak hj];rfl
    refine⟨⟨_,_,L2.SqL.of hp',hx⟩,?_⟩;rintro x H'' ⟨rfl,hy⟩;have:=hy _ (L2.SqL.of hp');rw[hx]at this;cases this;have ers:ER X.K X.d ρ' H'' env σ:=⟨er.b,λk w e'=>by obtain⟨u,z1,z2⟩:=er.a k w e';exact⟨u,z1,RD.mv (lp.mv hacc) z2⟩⟩
    show teS T n sc N X env σ _ _ _;refine⟨lfs[j],e,l,s',ρ',v,s2,by rw[Ar (by omega)],hck,hin,hr',ers,ev,λρ2 y H2 x2 hr2 r2=>?_⟩
    have lp2:=lp.step hr' x2;have e3:H2 acc=some (.b ys):=x2.c _ _ e1 (hr'.d acc lp.here).2;have e4:=e2.mono x2;have mv2:=sW (H1:=H2) hr2 lp2.here (.b (ys++[y]));refine⟨ys,e3,by rw[<-e2.length,hdl,AS];have:zS=16777216:=rfl;omega,ρ2,s2,es,_,done++[v],vr',lp2.emit hr2 hacc _,hr2.emit lp2.here,⟨_,L2.zM,RDs.mv mv2 (e4.append (.a r2 .d))⟩,rfl,?_,by rw[AL];exact hσ,by rw[Av,hdl];rfl,er',by rw[Bk];exact hv⟩
    refine(hls.keep (hr'.frz x2)).keep λa o u e'=>?_;rw[L2.zH (λz=>by rw[z,e3]at e';cases e')];exact e'
theorem ZV(h:ck sc N (.e i) e=true):∃x p,e=.Name x p/\N[i]?=some x/\rY sc x=true/\(x == ("__debug__":Str))=false/\(x == ("__classdict__":Str))=false:=by obtain⟨x,p,rfl,g⟩:=yI (show (eName e λx _=>decide (N[i]?=some x)&&rY sc x&&!(x == ("__debug__":Str))&&!(x == ("__classdict__":Str)))=true from h);simp only[cf,decide_eq_true_eq,AD]at g;exact⟨x,p,rfl,g.1.1.1,g.1.1.2,g.1.2,g.2⟩
theorem Z0(o:Ok T n sc N X)(h:ck sc N (.e i) e=true):L2.PE X e (L2.vK i):=by obtain⟨x,p,rfl,h1,h2,h3,h4⟩:=ZV h;exact L2.wK (by rw[o.a.a];exact h1) (o.a.c x (nN h2)) h3 h4
def tCm(sc:Scope)(N:List Str)(X:L2.Cx)(i:Nat)(L:Exs)(env:Env)(s:Sto)(W:Own->L2.Hp->Prop)(σ:L2.St)(H:L2.Hp):Prop:=∃ρ p lfs,HR X.K X.d ρ s H/\ER X.K X.d ρ H env σ/\p ∉ ρ.o/\σ[i]?=some (some (.c p))/\H p=some (.b (lfs.map L2.V.c))/\vO sc N X H L lfs/\W ρ H
theorem dY(o:Ok T n sc N X)(h:YV sc N i e=true)(hev:zV (zB T n) T.b env L s=.e vs s1)(hz:L.len<=1000) :
 L2.PE X e (λσ H Q=>tCm sc N X i L env s (λρ H=>yV X.K X.d (RD X.K X.d) ρ H (.e (.h vs) s1) Q) σ H):=by
 obtain⟨x,tg,iter,fs,csc,cpos,rfl,a1⟩:=ug h;obtain⟨c,pc,rfl,a2⟩:=yI a1;obtain⟨a3,a4⟩:=zJ a2;obtain⟨y,p1,ys,p5,rfl,a5⟩:=yf a4;obtain⟨a6,a7⟩:=zJ a5;obtain⟨z,rfl,a8⟩:=yN a7;obtain⟨c',p2,rfl,a9⟩:=yI a8;simp only[cf,decide_eq_true_eq,An,xW,AD]at a3 a6 a9;obtain⟨⟨⟨h1,h2⟩,h3⟩,h4⟩:=a3;obtain⟨rfl,h6⟩:=a6;obtain⟨⟨⟨rfl,g1⟩,g2⟩,g3⟩:=a9;cases AN.mp h4;have S:=qh o.a h1;have oc:=o.comp S (by simp) h1
 refine zT (L2.dZ (tp:=λσ acc=>L2.vH acc (teS T n sc N X env σ)) o.c S (L2.oP (Z0 o h3)) (L2.cm _ _ _ _ _ _) (λC s0 H0 ex=>sJ (i:=0) (oc C s0 H0 ex).a rfl h2) (λC s0 H0 ex=>.b) (λσ C s0 H0 ex acc ⟨pins',I0,f0⟩=>L2.u0 (dj o (oc C s0 H0 ex) h6 h2 g1 g2 I0 f0)) (zm g3)) ?_;rintro σ H Q ⟨ρ,p,lfs,hr,er,np,hp,hl,hls,w⟩;exact jt hr er np hp hl (by rw[hls.len];have:zS=16777216:=rfl;omega) hls hev w
def Af(sc:Scope)(N:List Str)(X:L2.Cx)(i:Nat)(L:Exs)(env:Env)(s:Sto)(O:Out Fl)(Lr:Exs):L2.TS:=λD σ H=>∃ρ0 H0 ρ p lfs L1,HR X.K X.d ρ0 s H0/\H0 p=none/\Lp p ρ0 H0 ρ H/\HR X.K X.d ρ s H/\ER X.K X.d ρ H env σ/\σ[i]?=some (some (.c p))/\H p=some (.b (lfs.map L2.V.c)) /\
 vO sc N X H L1 lfs/\L1.app Lr=L/\uB X.K X.d ρ0 H0 O D
theorem kP b:∀a:Exs,(a.app b).len=a.len+b.len
 |.c=>(Nat.zero_add _).symm
 |.a e es=>by rw[Exs.app,Exs.len,kP b es,Exs.len];omega
theorem kr(h:H p=some (.b xs)):Frz H (L2.upd H p (.b ys)):=λa o u e=>by rw[L2.zH (λz=>by rw[z,h]at e;cases e)];exact e
theorem gT(o:Ok T (m+1) sc N X)(htb:zl T.e s=true)(hmd:T.c false=true)(hz:L.len<=1000){k:List Stmt->Bool}(hk:∀ss,k ss=true->L2.PSs X ss (Af sc N X i L env s O .c)) :
 ∀Lr ss,gr sc N i Lr ss k=true->L2.PSs X ss (Af sc N X i L env s O Lr)
 |.c,ss,h=>hk ss h
 |.a e es,ss,h=>by
  obtain⟨t,ts,rfl,a1⟩:=z0 h;obtain⟨a2,h2⟩:=zJ a1;obtain⟨y,pos,rfl,a3⟩:=qC a2;obtain⟨ob,nm,ap,z,cp,rfl,a4⟩:=km a3;obtain⟨a5,hlm⟩:=zJ a4;simp only[cf,decide_eq_true_eq]at a5;obtain⟨⟨⟨g1,g2⟩,rfl⟩,g3⟩:=a5;obtain⟨f,fs,ys,lsc,p2,p3,p4,he,rfl,h4,h6,h7,h8,h9,h10,h11,h12⟩:=oA hlm;refine xQ (L2.zx (L2.sj (L2.qw (es:=[]) (Z0 o g1) (di o hmd h4 h12) (ua g2) rfl g3)) (gT o htb hmd hz hk es ts h2)) ?_;rintro D σ H ⟨ρ0,H0,ρ,p,lfs,L1,hr0,hn0,lp,hr,er,hp,hl,hls,happ,w⟩;refine⟨_,hp,.inl ⟨rfl,_,.of hl⟩,ρ,s,hr,htb,λlf H' x hr' hin=>?_⟩;have lp':=lp.step hr x;have hl':H' p=some (.b (lfs.map L2.V.c)):=x.c _ _ hl (hr.d p lp.here).2;have mv:=sW (H1:=H') hr' lp'.here (.b (lfs.map L2.V.c++[.c lf]));have hln:lfs.length=L1.len:=hls.len;have hlt:L1.len<1000:=by have:=kP (.a e es) L1;rw[happ]at this;have:(Exs.a e es).len=es.len+1:=rfl;omega
  refine⟨p,lfs.map L2.V.c,.c lf,rfl,rfl,hl',by rw[Ad,AS];omega,ρ0,H0,ρ,p,lfs++[lf],L1.app (.a e .c),hr0,hn0,lp'.emit hr' hn0 _,hr'.emit lp'.here,⟨er.b,λj v e'=>?_⟩,hp,by rw[C0];exact L2.zM,?_,by rw[<-oq];exact happ,w⟩
  . obtain⟨u,z1,z2⟩:=(er.mono x).a j v e'
    exact⟨u,z1,RD.mv mv z2⟩
  . exact vO.snoc hlm ⟨_,_,_,_,rfl,hin.keep (kr hl')⟩ ((hls.keep (hr.frz x)).keep (kr hl'))
theorem bE(h:Af sc N X i L env s O .c D σ H):tCm sc N X i L env s (λρ H=>uB X.K X.d ρ H O D) σ H:=by
 obtain⟨ρ0,H0,ρ,p,lfs,L1,hr0,hn0,lp,hr,er,hp,hl,hls,happ,w⟩:=h;rw[kQ]at happ;subst happ;have mv:Mv ρ H ⟨ρ.o,ρ0.h⟩ H:=⟨λa u e n=>⟨e,n.1,λz=>n.2 (by rw[lp.d];exact Ac _ z)⟩,λi a e=>e,λ_ _=>rfl⟩
 have hr1:HR X.K X.d ⟨ρ.o,ρ0.h⟩ s H:=⟨hr.f,hr.v,λi ws e=>by obtain⟨a,e1,t⟩:=hr.m i ws e;exact⟨a,e1,t.mv mv rfl⟩,λa hm=>hr.d a (by rw[lp.d];exact Ac _ hm)⟩
 exact⟨⟨ρ.o,ρ0.h⟩,p,lfs,hr1,⟨er.b,λj v e=>by obtain⟨u,z1,z2⟩:=er.a j v e;exact⟨u,z1,RD.mv mv z2⟩⟩,(hr.d p lp.here).2,hp,hl,hls,w.mono ⟨lp.f,rfl,lp.c,lp.g⟩ hr1⟩
theorem Xk(o:Ok T (m+1) sc N X)(htb:zl T.e s=true)(hmd:T.c false=true)(hlm:mq sc N e l=true)(hi:N[i]?=some x)(hx:sc.names.lookup x=some .local\/sc.names.lookup x=some .cell)
 (hrest:L2.PSs X rest (Af sc N X i (.a e es) (env.set i dS) s O es)):L2.PSs X (.Assign [.Name x px] (.List [l] lp) pos::rest) (tSt X.K X.d env s O):=by
 obtain⟨f,fs,ys,lsc,p2,p3,p4,he,rfl,h4,h6,h7,h8,h9,h10,h11,h12⟩:=oA hlm;obtain⟨l1,l2⟩:=o.a.e x hx;have hN:X.N.Nodup:=by rw[o.a.a];exact o.a.d
 have hi':X.N[i]?=some x:=by rw[o.a.a];exact hi
 intro pins s0 σ H D I ⟨ρ,hr,er,w⟩;have hiσ:i<σ.length:=by rw[I.P];exact(Am.mp hi').1
 refine L2.zx (L2.wM hN hi' l1 (L2.tw (L2.yo (di o hmd h4 h12) L2.yl rfl)) (vo rfl) l2) hrest pins s0 σ H D I ⟨ρ,s,hr,htb,λlf H' x' hr' hin=>⟨by rw[AS];simp,λp hp=>?_⟩⟩
 refine⟨ρ,H',ρ.hide p,p,[lf],.a e .c,hr',hp,Lp.start hr' hp _,hr'.hide hp,?_,?_,L2.zM,⟨⟨_,hlm,_,_,_,_,rfl,hin.keep λa o' u e'=>by rw[L2.zH (L2.zO e' hp)];exact e'⟩,AE⟩,rfl,w.mono x' hr'⟩
 . refine ER.put ⟨er.b,λj v e'=>?_⟩
   obtain⟨u,z1,z2⟩:=(er.mono x').a j v e';exact⟨u,z1,RD.mv (sX hr' hp _) z2⟩
 . show (σ.set i (some (L2.V.c p)))[i]?=_
   rw[Ar hiσ]
mutual
noncomputable def okE(i:Nat):Ex->Bool
 |.g _|.F _=>true
 |.e j=>decide (j≠i)
 |.y es=>aN i es
 |.w _ es=>aN i es
 |.j _ _ a b=>okE i a&&okE i b
 |.r _ a b=>okE i a&&okE i b
 |.q _ _ fr _ _ it _=>okI i it&&decide ((some i) ∉ fr)
 |_=>false
noncomputable def aN(i:Nat):Exs->Bool
 |.c=>true
 |.a e es=>okE i e&&aN i es
noncomputable def okI(i:Nat):Itb->Bool
 |.h e=>okE i e
 |_=>false
end
structure Agr(i:Nat)(w:Nat × Option Val × Option Val)(e e':Env):Prop where
 c:e.length=w.1
 d:e'.length=w.1
 b:∀j,j≠i->e[j]?=e'[j]?
 a1:i<w.1->e[i]?=some w.2.1
 a2:i<w.1->e'[i]?=some w.2.2
section
variable {Φ:Calls}{G:Str->Option Val}{i:Nat}{w:Nat × Option Val × Option Val}{e e':Env}
theorem lz(a:Agr i w e e')(h:(some i) ∉ fr):zZ fr e=zZ fr e':=by
 unfold zZ;refine CU λo ho=>?_;cases o with
 |none=>rfl
 |some j=>show (e[j]?).join=(e'[j]?).join;rw[a.b j λz=>h (by rw[<-z];exact ho)]
mutual
theorem vg(a:Agr i w e e'):∀(x:Ex) (s:Sto),okE i x=true->evE Φ G e x s=evE Φ G e' x s
 |.g _,_,_=>rfl
 |.F _,_,_=>rfl
 |.e j,s,h=>by
  have:=a.b j (of_decide_eq_true h);show (match e[j]? with|some (some v)=>Out.e v s|_=>.d)=(match e'[j]? with|some (some v)=>Out.e v s|_=>.d)
  rw[this]
 |.y es,s,h=>by
  show (zV Φ G e es s).bind _=(zV Φ G e' es s).bind _;rw[oG a es s h]
 |.w m es,s,h=>by
  show (zV Φ G e es s).bind _=(zV Φ G e' es s).bind _;rw[oG a es s h]
 |.j m op x y,s,h=>by
  obtain⟨h1,h2⟩:=zJ h;show (evE Φ G e x s).bind _=(evE Φ G e' x s).bind _;rw[vg a x s h1];exact congrArg _ (funext λu=>funext λs1=>by rw[vg a y s1 h2])
 |.r op x y,s,h=>by
  obtain⟨h1,h2⟩:=zJ h;show (evE Φ G e x s).bind _=(evE Φ G e' x s).bind _;rw[vg a x s h1];exact congrArg _ (funext λu=>funext λs1=>by rw[vg a y s1 h2])
 |.q m N fr elt t it ifs,s,h=>by
  obtain⟨h1,h2⟩:=zJ h;show (yS Φ G e it s).bind _=(yS Φ G e' it s).bind _;rw[et a it s h1,lz a (of_decide_eq_true h2)]
 |.D _,_,h=>by cases h
 |.z _ _,_,h=>by cases h
 |.J _ _,_,h=>by cases h
 |.E _,_,h=>by cases h
 |.s _ _ _ _ _,_,h=>by cases h
 |.u _ _,_,h=>by cases h
 |.H _ _,_,h=>by cases h
 |.G _ _ _,_,h=>by cases h
 |.A,_,h=>by cases h
 |.h _ _ _,_,h=>by cases h
 |.l _ _ _,_,h=>by cases h
 |.C _ _,_,h=>by cases h
 |.K _ _ _ _,_,h=>by cases h
 |.L _ _ _ _ _,_,h=>by cases h
 |.p _ _ _ _ _ _ _ _ _ _,_,h=>by cases h
 |.k _ _ _ _,_,h=>by cases h
 |.B _,_,h=>by cases h
 |.I _ _,_,h=>by cases h
theorem oG(a:Agr i w e e'):∀(xs:Exs) (s:Sto),aN i xs=true->zV Φ G e xs s=zV Φ G e' xs s
 |.c,_,_=>rfl
 |.a x xs,s,h=>by obtain⟨h1,h2⟩:=zJ h;show (evE Φ G e x s).bind _=(evE Φ G e' x s).bind _;rw[vg a x s h1];exact congrArg _ (funext λu=>funext λs1=>by rw[oG a xs s1 h2])
theorem et(a:Agr i w e e'):∀(x:Itb) (s:Sto),okI i x=true->yS Φ G e x s=yS Φ G e' x s
 |.h x,s,h=>by
  show (evE Φ G e x s).bind _=(evE Φ G e' x s).bind _;rw[vg a x s h]
 |.d _,_,h=>by cases h
 |.f _ _,_,h=>by cases h
 |.i _,_,h=>by cases h
 |.j _ _,_,h=>by cases h
 |.g _ _ _,_,h=>by cases h
end
theorem Agr.set(a:Agr i w e e')(h:j≠i)v:Agr i w (e.set j v) (e'.set j v):=by
 refine⟨by rw[AL];exact a.c,by rw[AL];exact a.d,λk hk=>?_,λhl=>by rw[AO h];exact a.a1 hl,λhl=>by rw[AO h];exact a.a2 hl⟩
 by_cases z:j=k
 . subst z
   by_cases hj:j<e.length
   . rw[Ar hj,Ar (by rw[a.d,<-a.c];exact hj)]
   . rw[BS (by rw[AL];omega),BS (by rw[AL,a.d,<-a.c];omega)]
 . rw[AO z,AO z];exact a.b k hk
def U9(i:Nat)(w:Nat × Option Val × Option Val):Fl->Fl->Prop
 |.a e,.a e'=>Agr i w e e'
 |.c e,.c e'=>Agr i w e e'
 |.d e,.d e'=>Agr i w e e'
 |.b v,.b v'=>v=v'
 |_,_=>False
def om(i:Nat)(w:Nat × Option Val × Option Val)(o o':Out Fl):Prop:=match o with
 |.e fl s=>∃fl',o'=.e fl' s/\U9 i w fl fl'
 |_=>True
mutual
noncomputable def okS(i:Nat):Sm->Bool
 |.f e=>okE i e
 |.g (.a c) a .f=>okE i c&&aO i a
 |.l (.a j) it b=>decide (j≠i)&&okI i it&&aO i b
 |_=>false
noncomputable def aO(i:Nat):Sms->Bool
 |.f=>true
 |.e c cs=>okS i c&&aO i cs
 |.g ..=>false
end
theorem rB(hj:j≠i){body:Env->Sto->Out Fl}(hb:∀e e' s,Agr i w e e'->om i w (body e s) (body e' s)):∀xs e e' s,Agr i w e e'->om i w (yz r (.a j) body xs e s) (yz r (.a j) body xs e' s)
 |[],e,e',s,a=>by
  rw[yz,yz];by_cases h:r.ok s
  . rw[if_pos h,if_pos h];exact⟨.a e',rfl,a⟩
  . rw[if_neg h,if_neg h];exact AE
 |x::xs,e,e',s,a=>by
  rw[yz,yz];by_cases h:r.ok s
  . rw[if_pos h,if_pos h]
    have hbt:∀e:Env,yc (.a j) x e=some (e.set j (some x)):=λ_=>rfl;rw[hbt,hbt];have q:=hb _ _ s (a.set hj (some x));simp only[];cases ho:body (e.set j (some x)) s with
    |e fl s1=>
     rw[ho]at q;obtain⟨fl',h2,a2⟩:=q;rw[h2];cases fl with
     |a e1=>cases fl' with
      |a e2=>exact rB hj hb xs e1 e2 s1 a2
      |_=>exact a2.elim
     |d e1=>cases fl' with
      |d e2=>exact rB hj hb xs e1 e2 s1 a2
      |_=>exact a2.elim
     |c e1=>cases fl' with
      |c e2=>exact⟨.a e2,rfl,a2⟩
      |_=>exact a2.elim
     |b v=>cases fl' with
      |b v'=>exact⟨.b v',rfl,a2⟩
      |_=>exact a2.elim
    |g _ _ _=>exact AE
    |d=>exact AE
  . rw[if_neg h,if_neg h];exact AE
mutual
theorem eu:∀(c:Sm) (e e':Env) (s:Sto),okS i c=true->Agr i w e e'->om i w (exS Φ G e c s) (exS Φ G e' c s)
 |.f x,e,e',s,h,a=>by
  show om i w ((evE Φ G e x s).bind λv s1=>.e (.b v) s1) ((evE Φ G e' x s).bind λv s1=>.e (.b v) s1);rw[vg a x s h];cases evE Φ G e' x s with
  |e v s1=>exact⟨.b v,rfl,rfl⟩
  |g _ _ _=>exact AE
  |d=>exact AE
 |.g (.a x) b .f,e,e',s,h,a=>by
  obtain⟨h1,h2⟩:=zJ h;show om i w (((evE Φ G e x s).truth).bind λt s1=>if t then zX Φ G e b s1 else .e (.a e) s1) (((evE Φ G e' x s).truth).bind λt s1=>if t then zX Φ G e' b s1 else .e (.a e') s1)
  rw[vg a x s h1];cases (evE Φ G e' x s).truth with
  |e t s1=>
   cases t with
   |true=>exact oH b e e' s1 h2 a
   |false=>exact⟨.a e',rfl,a⟩
  |g _ _ _=>exact AE
  |d=>exact AE
 |.l (.a j) it b,e,e',s,h,a=>by
  obtain⟨h1,h2⟩:=zJ h;obtain⟨h0,h1⟩:=zJ h1;show om i w ((yS Φ G e it s).bind λr s1=>yz r (.a j) (λe s'=>zX Φ G e b s') r.a e s1) ((yS Φ G e' it s).bind λr s1=>yz r (.a j) (λe s'=>zX Φ G e b s') r.a e' s1);rw[et a it s h1];cases yS Φ G e' it s with
  |e r s1=>exact rB (of_decide_eq_true h0) (λe e' s a=>oH b e e' s h2 a) r.a e e' s1 a
  |g _ _ _=>exact AE
  |d=>exact AE
 |.g (.a _) _ (.e _ _),_,_,_,h,_=>by cases h
 |.g (.a _) _ (.g _ _ _ _ _ _ _ _),_,_,_,h,_=>by cases h
 |.g (.b _) _ _,_,_,_,h,_=>by cases h
 |.g (.d _ _) _ _,_,_,_,h,_=>by cases h
 |.g (.f _ _) _ _,_,_,_,h,_=>by cases h
 |.l (.b _) _ _,_,_,_,h,_=>by cases h
 |.d _,_,_,_,h,_=>by cases h
 |.s,_,_,_,h,_=>by cases h
 |.k _ _,_,_,_,h,_=>by cases h
 |.m _ _,_,_,_,h,_=>by cases h
 |.p _ _,_,_,_,h,_=>by cases h
 |.w _ _ _,_,_,_,h,_=>by cases h
 |.h _ _ _,_,_,_,h,_=>by cases h
 |.n _ _,_,_,_,h,_=>by cases h
 |.r,_,_,_,h,_=>by cases h
 |.v,_,_,_,h,_=>by cases h
 |.q,_,_,_,h,_=>by cases h
 |.j _,_,_,_,h,_=>by cases h
 |.u _ _ _,_,_,_,h,_=>by cases h
theorem oH:∀(c:Sms) (e e':Env) (s:Sto),aO i c=true->Agr i w e e'->om i w (zX Φ G e c s) (zX Φ G e' c s)
 |.f,e,e',s,_,a=>⟨.a e',rfl,a⟩
 |.g _ _ _ _ _ _ _ _,_,_,_,h,_=>by cases h
 |.e c cs,e,e',s,h,a=>by
  obtain⟨h1,h2⟩:=zJ h;have q:=eu c e e' s h1 a;show om i w ((exS Φ G e c s).bind λfl s1=>match fl with|.a e=>zX Φ G e cs s1|fl=>.e fl s1) ((exS Φ G e' c s).bind λfl s1=>match fl with|.a e=>zX Φ G e cs s1|fl=>.e fl s1)
  cases ho:exS Φ G e c s with
  |e fl s1=>
   rw[ho]at q;obtain⟨fl',h3,a2⟩:=q;rw[h3];cases fl with
   |a e1=>cases fl' with
    |a e2=>exact oH cs e1 e2 s1 h2 a2
    |_=>exact a2.elim
   |d e1=>cases fl' with
    |d e2=>exact⟨.d e2,rfl,a2⟩
    |_=>exact a2.elim
   |c e1=>cases fl' with
    |c e2=>exact⟨.c e2,rfl,a2⟩
    |_=>exact a2.elim
   |b v=>cases fl' with
    |b v'=>exact⟨.b v',rfl,a2⟩
    |_=>exact a2.elim
  |g _ _ _=>exact AE
  |d=>exact AE
end
theorem qj:∀{l} {s s'},x8 s=x8 s'->zl l s'=true->zl l s=true
 |[],_,_,_,_=>rfl
 |x::l,s,[],h,h'=>by cases h'
 |x::l,s,c'::s',h,h'=>by
  cases c' with
  |d y=>
   cases s with
   |nil=>cases h
   |cons c s=>
    cases c with
    |d z=>
     have h:z::x8 s=y::x8 s':=h;injection h with h1 h2
     obtain⟨g1,g2⟩:=zJ (show (decide (x=y)&&zl l s')=true from h');show (decide (x=z)&&zl l s)=true;rw[h1,g1,qj h2 g2];rfl
    |_=>cases h
  |_=>cases h'
end
end
end M
end
section
namespace M
open PySem
def cS(c:Const)(k:Str->Bool):Bool:=el c.ctorIdx 5 λh=>Const.str.elim (motive:=λ_=>Bool) c h k
theorem YS(h:cS c k=true):∃x,c=.str x/\k x=true:=by obtain⟨hc,h⟩:=z6 h;obtain⟨x,rfl⟩:∃x,c=.str x:=Const.str.elim (motive:=λc=>∃x,c=Const.str x) c hc λx=>⟨x,rfl⟩;exact⟨x,rfl,h⟩
def eS(e:Expr):Bool:=bP e λc _ _=>cS c λx=>decide (x.length<=1000)
theorem mx(h:eS e=true):∃x k p,e=.Constant (.str x) k p/\x.length<=1000:=by obtain⟨c,k,p,rfl,h1⟩:=rK h;obtain⟨x,rfl,h2⟩:=YS h1;exact⟨x,k,p,rfl,of_decide_eq_true h2⟩
def eF(e:Expr)(k:Expr->Bool):Bool:=VJ e λu c s _=>decide (c=-1)&&s.isNone&&k u
theorem fJ(h:eF e k=true):∃u p,e=.FormattedValue u (-1) none p/\k u=true:=by obtain⟨u,c,s,p,rfl,h1⟩:=fK h;obtain⟨h2,h3⟩:=zJ h1;rw[of_decide_eq_true (zJ h2).1,BV.mp (zJ h2).2];exact⟨u,p,rfl,h3⟩
def eFs(e:Expr)(k:Expr->Expr->Bool):Bool:=eJn e λxs _=>lc xs λc1 xs=>lc xs λf1 xs=>lc xs λc2 xs=>lc xs λf2 xs=>l1 xs λc3=>(eS c1&&(eS c2&&eS c3))&&eF f1 λu=>eF f2 λv=>k u v
theorem bQ(h:eFs e k=true):∃u v c1 c2 c3 k1 k2 k3 p1 p2 p3 p4 p5 pos,e=.JoinedStr [.Constant (.str c1) k1 p1,.FormattedValue u (-1) none p2,.Constant (.str c2) k2 p3,.FormattedValue v (-1) none p4,.Constant (.str c3) k3 p5] pos/\c1.length<=1000/\c2.length<=1000/\c3.length<=1000/\k u v=true:=by obtain⟨xs,pos,rfl,h1⟩:=bR h;obtain⟨a1,xs,rfl,h2⟩:=z0 h1;obtain⟨a2,xs,rfl,h3⟩:=z0 h2;obtain⟨a3,xs,rfl,h4⟩:=z0 h3;obtain⟨a4,xs,rfl,h5⟩:=z0 h4;obtain⟨a5,rfl,h6⟩:=yN h5;obtain⟨h7,h8⟩:=zJ h6;obtain⟨c1,k1,p1,rfl,z1⟩:=mx (zJ h7).1;obtain⟨c2,k2,p3,rfl,z2⟩:=mx (zJ (zJ h7).2).1;obtain⟨c3,k3,p5,rfl,z3⟩:=mx (zJ (zJ h7).2).2;obtain⟨u,p2,rfl,h9⟩:=fJ h8;obtain⟨v,p4,rfl,h10⟩:=fJ h9;exact⟨u,v,c1,c2,c3,k1,k2,k3,p1,p2,p3,p4,p5,pos,rfl,z1,z2,z3,h10⟩
def TH(sc:Scope)(N:List Str)(es:Exs)(a:Expr):Bool:=eFs a λu v=>ckL sc N es [u,v]
def bJ(sc:Scope)(N:List Str)(i:Nat)(d:Ex)(op:CmpOp)(e:Expr):Bool:=eC1 e λl o r=>YV sc N i l&&decide (o=op)&&ck sc N d r&&plain r&&okC .a&&okC .b
noncomputable def Yq:Cns->Bool
 |.a=>true
 |_=>false
def YW(sc:Scope)(N:List Str)(i:Nat)(d:Ex)(o:Cns)(t:Expr):Bool:=if Yq o then bJ sc N i d .NotEq t else eBl .Or t λa as=>bJ sc N i d .NotEq a&&qO sc N o as
def YX(sc:Scope)(N:List Str)(i:Nat)(L:Exs)(ss:List Stmt)(k:List Stmt->Bool):Bool:=match L with
 |.c=>false
 |.a e es=>lc ss λt1 ts=>(i8 t1 λtg v _=>l1 tg λq=>eName q λx _=>decide (N[i]?=some x)&&(decide (sc.names.lookup x=some .local)||decide (sc.names.lookup x=some .cell))&&Yj v λls _=>l1 ls λl=>mq sc N e l)&&gr sc N i es ts k
def kW(sc:Scope)(N:List Str)(i k:Nat)(d:Ex)(o:Cns)(kb:List Stmt->Bool)(fin:Stmt):Bool:=if k=0 then a0 fin λq _=>o1 q λx=>YV sc N i x else if k=1 then a0 fin λq _=>o1 q λx=>bJ sc N i d .Eq x
 else sIf fin λt x y _=>y.isEmpty&&kb x&&YW sc N i d o t
mutual
noncomputable def ckS(sc:Scope)(N:List Str):Sm->Stmt->Bool
 |.d e,st=>(WW st λx _=>ck sc N e x&&vv x)
 |.f e,st=>(a0 st λq _=>o1 q λx=>ck sc N e x)
 |.s,_=>false
 |.k i e,st=>(i8 st λts v _=>l1 ts λt=>eName t λx _=>decide (N[i]?=some x)&&(decide (sc.names.lookup x=some .local)||decide (sc.names.lookup x=some .cell))&&ck sc N e v)
 |.m is e,st=>(i8 st λt0 v _=>l1 t0 λt=>fM t λts _ _=>yD sc N is ts&&ck sc N e v&&notTuple v)
 |.p is es,st=>(i8 st λt0 v _=>l1 t0 λt=>fM t λts _ _=>fM v λvs _ _=>yD sc N is ts&&ckL sc N es vs&&zc vs&&decide (is.length<=8)&&decide is.Nodup&&decide (ts.length=vs.length)&&(Z6 sc ts vs||YE sc ts))
 |.w _ _ _,_=>false
 |.u _ _ _,_=>false
 |.h o i e,st=>(i8 st λts v _=>l1 ts λt=>bU t λa b _=>ck sc N o a&&ck sc N i b&&ck sc N e v&&plain b)
 |.g c a b,st=>(sIf st λt x y _=>ckC sc N c t&&ud sc N a x&&ud sc N b y)
 |.l t it b,st=>(Uh st λtg iter body els _=>els.isEmpty&&(ckT sc N t tg&&ckI sc N it iter tg&&ud sc N b body&&plain iter))
 |.n _ _,_=>false
 |.r,_=>false
 |.v,_=>false
 |.q,_=>false
 |.j e,st=>(match e with
  |.h c _ es=>(sRs st λq b _=>b.isNone&&o1 q λq=>eCN q λx xs=>l1 xs λa=>decide (x=c)&&xW sc x&&!(x == ("__debug__":Str))&&((ckL sc N es [a]&&plain a)||TH sc N es a))
  |.g _=>true
  |_=>false)
noncomputable def ud(sc:Scope)(N:List Str):Sms->List Stmt->Bool
 |.f,ss=>ss.isEmpty
 |.e c cs,ss=>(lc ss λt ts=>ckS sc N c t&&ud sc N cs ts)
 |.g i L .f k d o b cs,ss=>decide (L.len<=1000)&&YX sc N i L ss λss=>lc ss λfin rest=>kW sc N i k d o (λx=>ud sc N b x) fin&&ud sc N cs rest
 |.g i L (.e c .f) k d o b cs,ss=>decide (L.len<=1000)&&YX sc N i L ss λss=>lc ss λt ts=>(ckS sc N c t&&okS i c)&&lc ts λfin rest=>kW sc N i k d o (λx=>ud sc N b x) fin&&ud sc N cs rest
 |.g ..,_=>false
end
structure OkF(T:Tbl)(n:Nat)(sc:Scope)(N:List Str)(X:L2.Cx):Prop where
 a:Ok T n sc N X
 b:X.a.scope=sc
 bk:X.a.blockKind=.function
section
variable {T:Tbl}{n:Nat}
def JS(T:Tbl)(n:Nat)(a:Sm):Prop:=∀(sc:Scope) (N:List Str) (X:L2.Cx) (st:Stmt),OkF T n sc N X->ckS sc N a st=true->∀env s,L2.PS X st (tSt X.K X.d env s (exS (zB T n) T.b env a s))
def JSs(T:Tbl)(n:Nat)(a:Sms):Prop:=∀(sc:Scope) (N:List Str) (X:L2.Cx) (st:List Stmt),OkF T n sc N X->ud sc N a st=true->∀env s,L2.PSs X st (tSt X.K X.d env s (zX (zB T n) T.b env a s))
theorem q0(h:∀env s,L2.PSs X st (tSt X.K X.d env s (zX Φ G env b s))):L2.PSs X st (uSs X.K X.d Φ G b):=λpins s σ H D I ⟨env,t,q⟩=>h env t pins s σ H D I q
theorem bt:JS T n (.d e):=by intro sc N X st o h env s;replace h:=qC h;obtain⟨x1,p1,rfl,h⟩:=h;simp only[cf]at h;exact aA h.2 (jE T n e _ _ _ _ o.a h.1 env s)
theorem XG:JS T n (.f e):=by intro sc N X st o h env s;replace h:=tG h;obtain⟨q1,p1,rfl,h⟩:=h;replace h:=tu h;obtain⟨x1,rfl,h⟩:=h;exact XS (jE T n e _ _ _ _ o.a h env s)
theorem uU:∃b,DP (.ListComp elt gens csc cpos) (some (.Name y py)) l env=pure b:=⟨_,rfl⟩
noncomputable def bb:Ex->Bool
 |.q ..|.p ..=>true
 |_=>false
theorem nW(h:ck sc N a e=true)(ha:bb a=false):vv e=true:=by
 have no:∀{e:Expr},ck sc N a e=true->e.ctorIdx=8\/e.ctorIdx=9\/e.ctorIdx=10->False:=λ{e} h hc=>by
  have key:(∃x g c p,e=.ListComp x g c p)\/(∃x g c p,e=.SetComp x g c p)\/∃k x g c p,e=.DictComp k x g c p:=by
   rcases hc with hc|hc|hc
   . exact .inl (Em (motive_1:=λe=>∃x g c p,e=Expr.ListComp x g c p) e hc λx g c p=>⟨x,g,c,p,rfl⟩)
   . exact .inr (.inl (Expr.SetComp.elim (motive_1:=λe=>∃x g c p,e=Expr.SetComp x g c p) e hc λx g c p=>⟨x,g,c,p,rfl⟩))
   . exact .inr (.inr (Expr.DictComp.elim (motive_1:=λe=>∃k x g c p,e=Expr.DictComp k x g c p) e hc λk x g c p=>⟨k,x,g,c,p,rfl⟩))
  rcases key with⟨x,g,c,p,rfl⟩|⟨x,g,c,p,rfl⟩|⟨k,x,g,c,p,rfl⟩ <;>
  . cases a with
    |q _ _ _ _ _ _ _=>cases ha
    |p _ _ _ _ _ _ _ _ _ _=>cases ha
    |h f v es=>
     have h:(if v<100 then _ else if v<200 then _ else _)=true:=h
     split at h
     . cases h
     . split at h
       . cases h
       . exact absurd (show false=true from (zJ h).2) Ae
    |_=>cases h
 cases e with
 |ListComp _ _ _ _=>exact(no h (.inl rfl)).elim
 |SetComp _ _ _ _=>exact(no h (.inr (.inl rfl))).elim
 |DictComp _ _ _ _ _=>exact(no h (.inr (.inr rfl))).elim
 |_=>rfl
theorem XD:JS T n (.k i e):=by
 intro sc N X st o h env s;replace h:=we h;obtain⟨ts1,v,pos,rfl,h⟩:=h;replace h:=yN h;obtain⟨t1,rfl,h⟩:=h;replace h:=yI h;obtain⟨x,px,rfl,h⟩:=h;simp only[cf,decide_eq_true_eq,An]at h;obtain⟨⟨h1,h2⟩,h3⟩:=h;obtain⟨l1,l2⟩:=o.a.a.e x h2;have hN:X.N.Nodup:=by rw[o.a.a.a];exact o.a.a.d
 have hi:X.N[i]?=some x:=by rw[o.a.a.a];exact h1
 by_cases hn:vv v=true
 . exact lA (L2.wM hN hi l1 (jE T n e _ _ _ _ o.a h3 env s) (vo hn) l2) λσ H Q q=>q
 . -- a comprehension
   cases e with
   |q m N' fr elt t it ifs=>
    replace h3:=ug h3;obtain⟨x',tg,iter,fs,csc,cpos,rfl,h3⟩:=h3;simp only[cf,decide_eq_true_eq]at h3;obtain⟨⟨⟨⟨⟨⟨c1,c2⟩,c3⟩,c4⟩,c5⟩,c6⟩,c7⟩:=h3;have S:=qh o.a.a c1;have oc:=o.a.comp S c2 c1;obtain⟨g,pg,tg'⟩:∃g,(∀C s0 H0 ex,L2.PG (X.comp N' csc C s0 H0 ex) tg g)/\tP X.K X.d t g:=by
     cases t with
     |a i=>
      cases tg with
      |Name y p=>
       simp only[ckT,cf,An,decide_eq_true_eq]at c3;exact⟨_,λC s0 H0 ex=>sJ (oc C s0 H0 ex).a c3.1 c3.2,tK⟩
      |_=>cases c3
     |b is=>
      cases tg with
      |Tuple es k p=>
       simp only[ckT,cf,decide_eq_true_eq]at c3;refine⟨_,λC s0 H0 ex=>?_,x9 (is:=is)⟩;obtain⟨a,b,c⟩:=yh (oc C s0 H0 ex).a c3.1;exact L2.vi (X:=X.comp N' csc C s0 H0 ex) o.a.c a b c
      |_=>cases c3
    have hpi:L2.PI X tg iter (uI X.K X.d (zB T n) T.b it):=lZ λenv s=>jI T n it _ _ _ _ _ o.a c4 env s;have hts:∀C s0 H0 ex,L2.PTs (X.comp N' csc C s0 H0 ex) fs (uTs X.K X.d (zB T n) T.b ifs):=λC s0 H0 ex=>(jCs T n ifs _ _ _ _ (oc C s0 H0 ex) c5).2.2;have hel:∀C s0 H0 ex,L2.PE (X.comp N' csc C s0 H0 ex) x' (uE X.K X.d (zB T n) T.b elt):=λC s0 H0 ex=>iq (X:=X.comp N' csc C s0 H0 ex) λenv s=>jE T n elt _ _ _ _ (oc C s0 H0 ex) c6 env s;have rule:L2.PS X (.Assign [.Name x px] (.ListComp x' [⟨tg,iter,fs,0⟩] csc cpos) pos) (L2.v9 (L2.wc fr (uI X.K X.d (zB T n) T.b it) g (uTs X.K X.d (zB T n) T.b ifs) λacc=>L2.vH acc (uE X.K X.d (zB T n) T.b elt)) (L2.xG i)):=by
     obtain⟨b,hb⟩:=uU (elt:=x') (gens:=[⟨tg,iter,fs,0⟩]) (csc:=csc) (cpos:=cpos) (y:=x) (py:=px) (l:=pos.line) (env:=X.a);cases b with
     |true=>exact L2.jQ o.a.c S hpi pg hts hel hN hi l1 hb l2 (zm c7)
     |false=>exact L2.wM hN hi l1 (L2.si o.a.c S hpi pg hts hel (zm c7)) hb l2
    refine lA (o:=evE (zB T n) T.b env (.q m N' fr elt t it ifs) s) rule λσ H Q hq=>vt (env:=env) (s:=s) (chk:=false) (m:=m) (body:=uD (zB T n) T.b elt ifs) tg' wG (λacc ρ0 H0 hn=>qJ hn) ?_ λ_ r s1 p s2 hl=>?_
    . simp only[A2,false_implies,if_true];exact hq
    . have:=sD hl
      simpa using this
   |p m N' fr elt t it ifs t2 it2 ifs2=>
    replace h3:=kl h3;obtain⟨x',tg,iter,fs,tg2,iter2,fs2,csc,cpos,rfl,h3⟩:=h3;simp only[cf,decide_eq_true_eq]at h3;obtain⟨⟨⟨⟨⟨⟨⟨⟨⟨⟨c1,c2⟩,c3⟩,c4⟩,c5⟩,c6⟩,c7⟩,c8⟩,c9⟩,c10⟩,c11⟩:=h3;have S:=qh o.a.a c1;have oc:=o.a.comp S c2 c1;have tgt:∀(t:Tgt) (tg:Expr),ckT csc N' t tg=true->∃g,(∀C s0 H0 ex,L2.PG (X.comp N' csc C s0 H0 ex) tg g)/\tP X.K X.d t g:=by
     intro t tg c3;cases t with
     |a i=>
      cases tg with
      |Name y p=>
       simp only[ckT,cf,An,decide_eq_true_eq]at c3;exact⟨_,λC s0 H0 ex=>sJ (oc C s0 H0 ex).a c3.1 c3.2,tK⟩
      |_=>cases c3
     |b is=>
      cases tg with
      |Tuple es k p=>
       simp only[ckT,cf,decide_eq_true_eq]at c3;refine⟨_,λC s0 H0 ex=>?_,x9 (is:=is)⟩;obtain⟨a,b,c⟩:=yh (oc C s0 H0 ex).a c3.1;exact L2.vi (X:=X.comp N' csc C s0 H0 ex) o.a.c a b c
      |_=>cases c3
    obtain⟨g,pg,tg'⟩:=tgt t tg c3;obtain⟨g2,pg2,tg2'⟩:=tgt t2 tg2 c6;have hpi:L2.PI X tg iter (uI X.K X.d (zB T n) T.b it):=lZ λenv s=>jI T n it _ _ _ _ _ o.a c4 env s;have hts:∀C s0 H0 ex,L2.PTs (X.comp N' csc C s0 H0 ex) fs (uTs X.K X.d (zB T n) T.b ifs):=λC s0 H0 ex=>(jCs T n ifs _ _ _ _ (oc C s0 H0 ex) c5).2.2;have hpi2:∀C s0 H0 ex,L2.PI (X.comp N' csc C s0 H0 ex) tg2 iter2 (uI X.K X.d (zB T n) T.b it2):=λC s0 H0 ex=>lZ (X:=X.comp N' csc C s0 H0 ex) λenv s=>jI T n it2 _ _ _ _ _ (oc C s0 H0 ex) c7 env s;have hts2:∀C s0 H0 ex,L2.PTs (X.comp N' csc C s0 H0 ex) fs2 (uTs X.K X.d (zB T n) T.b ifs2):=λC s0 H0 ex=>(jCs T n ifs2 _ _ _ _ (oc C s0 H0 ex) c8).2.2;have hel:∀C s0 H0 ex,L2.PE (X.comp N' csc C s0 H0 ex) x' (uE X.K X.d (zB T n) T.b elt):=λC s0 H0 ex=>iq (X:=X.comp N' csc C s0 H0 ex) λenv s=>jE T n elt _ _ _ _ (oc C s0 H0 ex) c9 env s;have rule:L2.PS X (.Assign [.Name x px] (.ListComp x' [⟨tg,iter,fs,0⟩,⟨tg2,iter2,fs2,0⟩] csc cpos) pos) (L2.v9 (L2.wc fr (uI X.K X.d (zB T n) T.b it) g (uTs X.K X.d (zB T n) T.b ifs) λacc=>L2.qF (uI X.K X.d (zB T n) T.b it2) g2 (uTs X.K X.d (zB T n) T.b ifs2) (L2.vH acc (uE X.K X.d (zB T n) T.b elt))) (L2.xG i)):=by
     obtain⟨b,hb⟩:=uU (elt:=x') (gens:=[⟨tg,iter,fs,0⟩,⟨tg2,iter2,fs2,0⟩]) (csc:=csc) (cpos:=cpos) (y:=x) (py:=px) (l:=pos.line) (env:=X.a);cases b with
     |true=>exact L2.dy o.a.c S hpi pg hts hpi2 pg2 hts2 hel hN hi l1 hb l2 (zm c10) (λenv=>zm c11)
     |false=>exact L2.wM hN hi l1 (L2.nu o.a.c S hpi pg hts hpi2 pg2 hts2 hel (zm c10) (λenv=>zm c11)) hb l2
    refine lA (o:=evE (zB T n) T.b env (.p m N' fr elt t it ifs t2 it2 ifs2) s) rule λσ H Q hq=>vt (env:=env) (s:=s) (chk:=true) (m:=m) (body:=sC (zB T n) T.b elt ifs t2 it2 ifs2) tg' tL (λacc ρ0 H0 hn=>pM hn tg2') ?_ λz=>by cases z
    simp only[true_implies];exact hq
   |_=>exact absurd (nW h3 rfl) hn
theorem br:JS T n (.m is e):=by intro sc N X st o h env s;replace h:=we h;obtain⟨ts1,v,pos,rfl,h⟩:=h;replace h:=yN h;obtain⟨t1,rfl,h⟩:=h;replace h:=vV h;obtain⟨ts,k,p,rfl,h⟩:=h;simp only[cf]at h;obtain⟨⟨h1,h2⟩,h3⟩:=h;obtain⟨a,b,c⟩:=yh o.a.a h1;exact jF (t:=.b is) x9 (L2.lg (jE T n e _ _ _ _ o.a h2 env s) (L2.vi o.a.c a b c) vz (l7 h3)) λσ H Q q=>q
theorem XF:JS T n (.p is es):=by
 intro sc N X st o h env s;replace h:=we h;obtain⟨ts1,v,pos,rfl,h⟩:=h;replace h:=yN h;obtain⟨t1,rfl,h⟩:=h;replace h:=vV h;obtain⟨ts,k,p,rfl,h⟩:=h;replace h:=vV h;obtain⟨vs,k2,p2,rfl,h⟩:=h;simp only[cf,decide_eq_true_eq,An]at h;obtain⟨⟨⟨⟨⟨⟨h1,h2⟩,h3⟩,h4⟩,h5⟩,h6⟩,h7⟩:=h;have hes:=(jL T n es _ _ _ _ o.a h2).1 h3 env s;have hN:X.N.Nodup:=by rw[o.a.a.a];exact o.a.a.d
 have kind:∀x,X.a.kindOf x=sc.names.lookup x:=λx=>by show X.a.scope.names.lookup x=_;rw[o.b]
 rcases h7 with h7|h7
 . unfold Z6 at h7
   split at h7
   . rename_i x px y py
     simp only[cf,decide_eq_true_eq,AD]at h7;obtain⟨⟨⟨⟨⟨q1,q2⟩,q3⟩,q4⟩,q5⟩,q6⟩:=h7
     match is,h1,h5 with
     |[i,j],h1,h5=>
      simp only[yD,cf,decide_eq_true_eq,An]at h1;obtain⟨⟨i1,i2⟩,⟨j1,j2⟩,_⟩:=h1
      match vs,h6 with
      |[a,b],_=>
       have hij:i≠j:=by rw[BI]at h5;exact λz=>h5.1 (by rw[z];exact Bp.mpr rfl)
       exact aB (L2.WO o.a.c hN (by rw[o.a.a.a];exact i1) (by rw[o.a.a.a];exact j1) hij (by rw[o.b];exact q1) (by rw[o.b];exact q2) hes
        (mP o.bk (by rw[kind];exact q1) (by rw[kind];exact q2) q3 q4 h3 q5 q6) vz) λσ H Q q=>q
     |[],h1,_=>exact absurd h1 (by simp[yD])
     |[_],h1,_=>exact absurd h1 (by simp[yD])
     |_::_::_::_,h1,_=>exact absurd h1 (by simp[yD])
   . rename_i x px y py z pz
     simp only[cf,decide_eq_true_eq,AD]at h7;obtain⟨⟨⟨⟨⟨⟨⟨⟨⟨q1,q2⟩,q3⟩,q4⟩,q5⟩,q6⟩,q7⟩,q8⟩,q9⟩,q10⟩:=h7
     match is,h1,h5 with
     |[i,j,l],h1,h5=>
      simp only[yD,cf,decide_eq_true_eq,An]at h1;obtain⟨⟨i1,i2⟩,⟨j1,j2⟩,⟨l1,l2⟩,_⟩:=h1
      match vs,h6 with
      |[a,b,c],_=>
       simp only[BI,As,BO,or_false,not_or]at h5;exact aC (L2.aq o.a.c hN (by rw[o.a.a.a];exact i1) (by rw[o.a.a.a];exact j1) (by rw[o.a.a.a];exact l1) h5.1.1 h5.1.2 h5.2.1 (by rw[o.b];exact q1) (by rw[o.b];exact q2) (by rw[o.b];exact q3) hes
        (qU o.bk (by rw[kind];exact q1) (by rw[kind];exact q2) (by rw[kind];exact q3) q4 q5 q6 q7 q8 h3 q9 q10) vz) λσ H Q q=>q
     |[],h1,_=>exact absurd h1 (by simp[yD])
     |[_],h1,_=>exact absurd h1 (by simp[yD])
     |[_,_],h1,_=>exact absurd h1 (by simp[yD])
     |_::_::_::_::_,h1,_=>exact absurd h1 (by simp[yD])
   . cases h7
 . have hun:(∃x p,DS x p∈ts/\X.a.kindOf x≠some .local)\/3<ts.length:=by
    unfold YE at h7;simp only[An,decide_eq_true_eq,Bh]at h7;rcases h7 with⟨e,hm,he⟩|h7
    . cases e with
      |Name x px=>
       simp only[decide_eq_true_eq]at he;exact .inl ⟨x,px,hm,by rw[kind];exact he⟩
      |_=>cases he
    . exact .inr h7
   obtain⟨a,b,c⟩:=yh o.a.a h1;have rule:=jF (t:=.b is) (env:=env) (s:=s) x9 (L2.lg (pos:=pos) (m9 (k:=k2) (pos:=p2) hes) (L2.vi (k:=k) (pos:=p) o.a.c a b c) vz (gB hun)) λσ H Q q=>q;have e:((zV (zB T n) T.b env es s).bind λvs s1=>if vs.length=is.length then (.e:Fl->Sto->Out Fl) (.a ((is.zip vs).foldl (λe p=>e.set p.1 (some p.2)) env)) s1 else .d)=(((zV (zB T n) T.b env es s).bind λvs s1=>if vs.length<=zS then (.e:Val->Sto->Out Val) (.f vs) s1 else .d).bind λv s1=>match yc (.b is) v env with|some env'=>(.e:Fl->Sto->Out Fl) (.a env') s1|dS=>.d):=by
    cases zV (zB T n) T.b env es s with
    |e ws s1=>
     simp only[zL];by_cases hl:ws.length=is.length
     . have hz:ws.length<=zS:=by rw[hl];exact Az h4 (by decide)
       simp only[if_pos hl,if_pos hz,zL,yc]
     . rw[if_neg hl]
       by_cases hz:ws.length<=zS
       . simp only[if_neg hl,if_pos hz,zL,yc]
       . simp only[if_neg hz,rD]
    |g _ _ _=>rfl
    |d=>rfl
   show L2.PS X _ (tSt X.K X.d env s ((zV (zB T n) T.b env es s).bind λvs s1=>if vs.length=is.length then .e (.a ((is.zip vs).foldl (λe p=>e.set p.1 (some p.2)) env)) s1 else .d))
   rw[e];exact rule
theorem ft:JS T n (.h a i e):=by intro sc N X st o h env s;replace h:=we h;obtain⟨ts1,v,pos,rfl,h⟩:=h;replace h:=yN h;obtain⟨t1,rfl,h⟩:=h;replace h:=rM h;obtain⟨a1,b1,p1,rfl,h⟩:=h;simp only[cf]at h;exact eG h.2 (jE T n e _ _ _ _ o.a h.1.2 env s) (λs1=>jE T n a _ _ _ _ o.a h.1.1.1 env s1) λs1=>jE T n i _ _ _ _ o.a h.1.1.2 env s1
theorem Vc(ja:JSs T n a)(jb:JSs T n b):JS T n (.g c a b):=by intro sc N X st o h env s;replace h:=oV h;obtain⟨t1,x1,y1,p1,rfl,h⟩:=h;simp only[cf]at h;exact Vj (jC T n c _ _ _ _ o.a h.1.1 env s) (q0 λenv s=>ja _ _ _ _ o h.1.2 env s) (q0 λenv s=>jb _ _ _ _ o h.2 env s) (λs1 D σ H q=>⟨env,s1,q⟩) λs1 D σ H q=>⟨env,s1,q⟩
theorem XE(jb:JSs T n b):JS T n (.l t it b):=by intro sc N X st o h env s;replace h:=cK h;obtain⟨tg1,i1,b1,e1,p1,rfl,h⟩:=h;obtain⟨h0,hh⟩:=zJ h;cases AN.mp h0;clear h;have h:=hh;simp only[cf]at h;obtain⟨g,pg,tg⟩:=UP o.a.a o.a.c h.1.1.1;exact XQ o.a.xe o.a.c h.2 (λenv s=>jI T n it _ _ _ _ _ o.a h.1.1.2 env s) pg tg (q0 λenv s=>jb _ _ _ _ o h.1.2 env s)
theorem fq:JS T n (.j e):=λsc N X st o h env s=>zP (zF rfl)
theorem bu:JSs T n .f:=by intro sc N X st o h env s;cases AN.mp h;exact aD
theorem fu(jc:JS T n c)(jcs:JSs T n cs):JSs T n (.e c cs):=by intro sc N X st o h env s;replace h:=z0 h;obtain⟨t1,ts1,rfl,h⟩:=h;simp only[cf]at h;exact eH (f:=λe s=>zX (zB T n) T.b e cs s) (jc _ _ _ _ o h.1 env s) (q0 λenv s=>jcs _ _ _ _ o h.2 env s) λenv s D σ H q=>⟨env,s,q⟩
section
variable {sc:Scope}{N:List Str}{X:L2.Cx}{i:Nat}{L:Exs}{env:Env}{s s1:Sto}{vs:List Val}{d:Ex}
theorem dW(o:Ok T n sc N X)(hop:op=.a\/op=.b)(h:bJ sc N i d op.op x=true)(hev:zV (zB T n) T.b env L s=.e vs s1)(hz:L.len<=1000)(hd:evE (zB T n) T.b env d s1=.e w s2) :
 L2.PE X x (λσ H Q=>tCm sc N X i L env s (λρ H=>yV X.K X.d (RD X.K X.d) ρ H (zU op (.h vs) w s2) Q) σ H) /\
 L2.PT X x (λσ H Q=>tCm sc N X i L env s (λρ H=>yV X.K X.d (λ_ _ a b=>a=b) ρ H ((zU op (.h vs) w s2).truth) Q) σ H):=by
 obtain⟨l,o1,r,p,rfl,a1⟩:=sU h;simp only[cf,decide_eq_true_eq]at a1;obtain⟨⟨⟨⟨⟨h1,rfl⟩,h2⟩,h3⟩,h4⟩,h5⟩:=a1;have hok:okC op=true:=by rcases hop with rfl|rfl;exact h4;exact h5
 have pd:=jE T n d _ _ _ _ o h2 env s1;rw[hd]at pd;constructor
 . refine zT (L2.oO (w6 (X:=X) o.d op hok) (dY o h1 hev hz) pd (yq h3)) ?_
   rintro σ H Q ⟨ρ,p,lfs,hr,er,np,hp,hl,hls,wt⟩;exact⟨ρ,p,lfs,hr,er,np,hp,hl,hls,λρ1 x H1 x1 hr1 r1=>⟨ρ1,hr1,er.mono x1,λρ2 y H2 x2 hr2 r2=>⟨ρ2,s2,.h vs,w,hr2,r1.mono x2,r2,wt.mono (x1.trans hr1 x2) hr2⟩⟩⟩
 . refine vj (L2.sq (w6 (X:=X) o.d op hok) (dY o h1 hev hz) pd (yq h3)) ?_
   rintro σ H Q ⟨ρ,p,lfs,hr,er,np,hp,hl,hls,wt⟩;exact⟨ρ,p,lfs,hr,er,np,hp,hl,hls,λρ1 x H1 x1 hr1 r1=>⟨ρ1,hr1,er.mono x1,λρ2 y H2 x2 hr2 r2=>⟨ρ2,s2,.h vs,w,hr2,r1.mono x2,r2,uV (λ_ _ h=>rG h) (wt.mono (x1.trans hr1 x2) hr2)⟩⟩⟩
theorem UQ(o:Ok T n sc N X)(h:YW sc N i d oo t=true)(hev:zV (zB T n) T.b env L s=.e vs s1)(hz:L.len<=1000)
 (ht:((evE (zB T n) T.b env d s1).bind λy s2=>((zU .b (.h vs) y s2).truth).bind λr s3=>if r then .e true s3 else vY (zB T n) T.b env oo s3)=.e r s3) :
 L2.PT X t (λσ H Q=>tCm sc N X i L env s (λρ H=>∀ρ' H',Ext ρ H ρ' H'->HR X.K X.d ρ' s3 H'->Q r H') σ H):=by
 obtain⟨w,s2,hd,ht⟩:=zk ht;obtain⟨c,s4,hc,ht⟩:=zk ht;unfold YW at h;split at h
 . have hn:oo=.a:=by cases oo with|a=>rfl|b _ _=>rename_i z;cases z
   subst hn;refine vj (dW (op:=.b) o (.inr rfl) h hev hz hd).2 ?_;rintro σ H Q ⟨ρ,p,lfs,hr,er,np,hp,hl,hls,wt⟩;refine⟨ρ,p,lfs,hr,er,np,hp,hl,hls,?_⟩;rw[hc];intro ρ1 x H1 x1 hr1 r1;cases r1;cases c with
   |true=>cases ht;exact wt ρ1 H1 x1 hr1
   |false=>cases ht;exact wt ρ1 H1 x1 hr1
 . obtain⟨a,as,p,rfl,h⟩:=sT h
   obtain⟨h1,h2⟩:=zJ h;have p1:=(dW (op:=.b) o (.inr rfl) h1 hev hz hd).2;rw[hc]at p1;have p2:=(jCs T n oo _ _ _ _ o h2).2.1 p env s4;refine L2.PW.pt λwh pins sh σ H Q I h=>?_;obtain⟨ρ,p,lfs,hr,er,np,hp,hl,hls,wt⟩:=h;refine PyProof.Rows.isTrue_or (L2.thn (p1 pins sh σ H (λb H1=>if b=true then Q true H1 else tT X.K X.d env s4 (vY (zB T n) T.b env oo s4) σ H1 Q) I ⟨ρ,p,lfs,hr,er,np,hp,hl,hls,λρ1 x H1 x1 hr1 r1=>?_⟩) λb s' ⟨H1,I1,q1⟩=>?_)
   . cases r1
     cases c with
     |true=>cases ht;exact L2.rZ (wt ρ1 H1 x1 hr1)
     |false=>
      refine L2.uq ⟨ρ1,hr1,er.mono x1,?_⟩;rw[show vY (zB T n) T.b env oo s4=.e r s3 from ht];intro ρ2 x H2 x2 hr2 r2;cases r2;exact wt ρ2 H2 (x1.trans hr1 x2) hr2
   . cases b with
     |true=>exact⟨H1,I1,q1⟩
     |false=>exact p2 wh pins s' σ H1 Q I1 q1
end
def pf(T:Tbl)(n:Nat)(e0:Env)(L:Exs)(k:Nat)(d:Ex)(oo:Cns)(b cs:Sms)(s0:Sto):Out Fl:=(zV (zB T n) T.b e0 L s0).bind λvs s1=>if k=0 then .e (.b (.h vs)) s1 else
 if k=1 then (evE (zB T n) T.b e0 d s1).bind λy s2=>(zU .a (.h vs) y s2).bind λr s3=>.e (.b r) s3
 else ((evE (zB T n) T.b e0 d s1).bind λy s2=>((zU .b (.h vs) y s2).truth).bind λr s3=>if r then .e true s3 else vY (zB T n) T.b e0 oo s3).bind λr s3=>
  (if r then zX (zB T n) T.b e0 b s3 else .e (.a e0) s3).bind λfl s4=>match fl with
 |.a e=>zX (zB T n) T.b e cs s4
 |fl=>.e fl s4
theorem fQ(jb:JSs T n b)(jcs:JSs T n cs)(o:OkF T n sc N X)(hz:L.len<=1000)(hss:(lc ss λfin rest=>kW sc N i k d oo (λx=>ud sc N b x) fin&&ud sc N cs rest)=true) :
 L2.PSs X ss (λD σ H=>tCm sc N X i L e0 s0 (λρ H=>uB X.K X.d ρ H (pf T n e0 L k d oo b cs s0) D) σ H):=by
 generalize hO:pf T n e0 L k d oo b cs s0=O;unfold pf at hO;cases hev:zV (zB T n) T.b e0 L s0 with
 |g _ _ _=>rw[hev]at hO;subst hO;exact λpins s0 σ H D I ⟨_,_,_,_,_,_,_,_,_,z⟩=>z.elim
 |d=>rw[hev]at hO;subst hO;exact λpins s0 σ H D I ⟨_,_,_,_,_,_,_,_,_,z⟩=>z.elim
 |e vs s1=>
  rw[hev,zL]at hO;obtain⟨fin,rest,rfl,b1⟩:=z0 hss;obtain⟨b2,b3⟩:=zJ b1;unfold kW at b2;by_cases k0:k=0
  . rw[if_pos k0]at b2 hO
    subst hO;obtain⟨q,pq,rfl,b4⟩:=tG b2;obtain⟨y,rfl,b5⟩:=tu b4;refine xQ (L2.zx (L2.wL (dY o.a b5 hev hz)) (u:=λ_ _ _=>False) λ_ _ _ _ _ _ z=>z.elim) λD σ H hq=>?_;obtain⟨ρ,p,lfs,hr,er,np,hp,hl,hls,w⟩:=hq;exact⟨ρ,p,lfs,hr,er,np,hp,hl,hls,λρ1 x H1 x1 hr1 r1=>w ρ1 H1 x x1 hr1 r1⟩
  . rw[if_neg k0]at b2 hO
    by_cases k1:k=1
    . rw[if_pos k1]at b2 hO
      obtain⟨q,pq,rfl,b4⟩:=tG b2;obtain⟨y,rfl,b5⟩:=tu b4;cases hd:evE (zB T n) T.b e0 d s1 with
      |g _ _ _=>rw[hd]at hO;subst hO;exact λpins s0 σ H D I ⟨_,_,_,_,_,_,_,_,_,z⟩=>z.elim
      |d=>rw[hd]at hO;subst hO;exact λpins s0 σ H D I ⟨_,_,_,_,_,_,_,_,_,z⟩=>z.elim
      |e w0 s2=>
       rw[hd,zL]at hO;refine xQ (L2.zx (L2.wL (dW (op:=.a) o.a (.inl rfl) b5 hev hz hd).1) (u:=λ_ _ _=>False) λ_ _ _ _ _ _ z=>z.elim) λD σ H hq=>?_;obtain⟨ρ,p,lfs,hr,er,np,hp,hl,hls,w⟩:=hq;refine⟨ρ,p,lfs,hr,er,np,hp,hl,hls,?_⟩;cases hc:zU .a (.h vs) w0 s2 with
       |g _ _ _=>rw[hc]at hO;subst hO;exact w.elim
       |d=>rw[hc]at hO;subst hO;exact w.elim
       |e r s3=>
        rw[hc]at hO;subst hO;exact λρ1 x H1 x1 hr1 r1=>w ρ1 H1 x x1 hr1 r1
    . rw[if_neg k1]at b2 hO
      obtain⟨t,xb,yb,pq,rfl,b4⟩:=oV b2;obtain⟨b5,b6⟩:=zJ b4;obtain⟨b7,b8⟩:=zJ b5;cases AN.mp b7;generalize hT:((evE (zB T n) T.b e0 d s1).bind λy s2=>((zU .b (.h vs) y s2).truth).bind λr s3=>if r then .e true s3 else vY (zB T n) T.b e0 oo s3)=OT at hO
      cases OT with
      |g _ _ _=>subst hO;exact λpins s0 σ H D I ⟨_,_,_,_,_,_,_,_,_,z⟩=>z.elim
      |d=>subst hO;exact λpins s0 σ H D I ⟨_,_,_,_,_,_,_,_,_,z⟩=>z.elim
      |e r s3=>
       rw[zL]at hO;have pt:=UQ o.a b6 hev hz hT;refine xQ (L2.zx (L2.qz pt (q0 λenv s=>jb _ _ _ _ o b8 env s) L2.sk) (q0 λenv s=>jcs _ _ _ _ o b3 env s)) λD σ H hq=>?_;obtain⟨ρ,p,lfs,hr,er,np,hp,hl,hls,w⟩:=hq;refine⟨ρ,p,lfs,hr,er,np,hp,hl,hls,λρ1 H1 x1 hr1=>?_⟩;have w1:=w.mono x1 hr1;cases r with
       |false=>
        refine L2.uq ?_;rw[<-hO]at w1;exact⟨_,s3,ρ1,hr1,er.mono x1,w1⟩
       |true=>
        refine L2.rZ ⟨_,s3,ρ1,hr1,er.mono x1,?_⟩;rw[<-hO]at w1;rw[if_pos rfl]at w1;cases hb:zX (zB T n) T.b e0 b s3 with
        |g _ _ _=>rw[hb]at w1;exact w1
        |d=>rw[hb]at w1;exact w1
        |e fl s4=>
         rw[hb,zL]at w1;cases fl with
         |a e'=>exact λρ2 H2 σ2 x2 hr2 er2=>⟨e',s4,ρ2,hr2,er2,w1.mono x2 hr2⟩
         |c e'=>exact w1
         |d e'=>exact w1
         |b v'=>exact w1
theorem qp(o:OkF T n sc N X)(hz:L.len<=1000)(h:YX sc N i L st kk=true)(hev:zV (zB T n) T.b e0 L s0=.e vs s1)(htb:x8 s=x8 s0)
 (hk:∀ss,kk ss=true->L2.PSs X ss (λD σ H=>tCm sc N X i L (env.set i dS) s (λρ H=>uB X.K X.d ρ H O D) σ H)):L2.PSs X st (tSt X.K X.d env s O):=by
 cases L with
 |c=>cases h
 |a e es=>
  obtain⟨t1,ts,rfl,a1⟩:=z0 (show (lc st _)=true from h);obtain⟨a2,a3⟩:=zJ a1;obtain⟨tg,v,pos,rfl,a4⟩:=we a2;obtain⟨q,rfl,a5⟩:=yN a4;obtain⟨x,px,rfl,a6⟩:=yI a5;obtain⟨a7,a8⟩:=zJ a6;obtain⟨ls,lp,rfl,a9⟩:=rL a8;obtain⟨l,rfl,hlm⟩:=yN a9;simp only[cf,decide_eq_true_eq,An]at a7;obtain⟨f,fs,ys,lsc,p2,p3,p4,he,_,h4,h6,h7,h8,_⟩:=oA hlm;obtain⟨v0,sx,ev0,_⟩:=zk hev;rw[he]at ev0;obtain⟨m,us,rfl,_,ht,hmd,_⟩:=jW o.a.i h8 ev0;have ht:=qj htb ht;exact Xk o.a ht hmd hlm a7.1 a7.2 (gT o.a ht hmd hz (λss hss=>xQ (hk ss hss) λD σ H hq=>bE hq) es ts a3)
theorem iA(jb:JSs T n b)(jcs:JSs T n cs):JSs T n (.g i L .f k d oo b cs):=by
 intro sc N X st o h env s;obtain⟨hz,h⟩:=zJ h;have hz:=of_decide_eq_true hz;rw[show zX (zB T n) T.b env (.g i L .f k d oo b cs) s=pf T n (env.set i dS) L k d oo b cs s from if_pos rfl];cases hev:zV (zB T n) T.b (env.set i dS) L s with
 |g _ _ _=>rw[show pf T n (env.set i dS) L k d oo b cs s=_ from congrArg (λx=>Out.bind x _) hev];exact λpins s0 σ H D I ⟨_,_,_,z⟩=>z.elim
 |d=>rw[show pf T n (env.set i dS) L k d oo b cs s=_ from congrArg (λx=>Out.bind x _) hev];exact λpins s0 σ H D I ⟨_,_,_,z⟩=>z.elim
 |e vs s1=>exact qp o hz h hev rfl λss hss=>fQ jb jcs o hz hss
theorem iB(jc:JS T n c)(jb:JSs T n b)(jcs:JSs T n cs):JSs T n (.g i L (.e c .f) k d oo b cs):=by
 intro sc N X st o h env s;obtain⟨hz,h⟩:=zJ h;have hz:=of_decide_eq_true hz;generalize hO:zX (zB T n) T.b env (.g i L (.e c .f) k d oo b cs) s=O;have no:∀O:Out Fl,O=.d->L2.PSs X st (tSt X.K X.d env s O):=λO hO=>by subst hO;exact λpins s0 σ H D I ⟨_,_,_,z⟩=>z.elim
 have hO':((zX (zB T n) T.b (env.set i dS) (.e c .f) s).bind λfl s0=>match fl with
  |.a e0=>if x8 s=x8 s0 then pf T n e0 L k d oo b cs s0 else .d
  |_=>.d)=O:=hO
 have hm:zX (zB T n) T.b (env.set i dS) (.e c .f) s=((exS (zB T n) T.b (env.set i dS) c s).bind λfl s1=>match fl with|.a e=>.e (.a e) s1|fl=>.e fl s1):=rfl
 rw[hm]at hO';cases hc:exS (zB T n) T.b (env.set i dS) c s with
 |g _ _ _=>rw[hc]at hO';subst hO';exact λpins s0 σ H D I ⟨_,_,_,z⟩=>z.elim
 |d=>rw[hc]at hO';exact no O hO'.symm
 |e fl s0=>
  rw[hc,zL]at hO';cases fl with
  |c e=>exact no O hO'.symm
  |d e=>exact no O hO'.symm
  |b v=>exact no O hO'.symm
  |a e0=>
   rw[zL]at hO';simp only[]at hO';by_cases htb:x8 s=x8 s0
   case neg=>rw[if_neg htb]at hO';exact no O hO'.symm
   rw[if_pos htb]at hO';cases hev:zV (zB T n) T.b e0 L s0 with
   |g _ _ _=>rw[show pf T n e0 L k d oo b cs s0=_ from congrArg (λx=>Out.bind x _) hev]at hO';subst hO';exact λpins s0 σ H D I ⟨_,_,_,z⟩=>z.elim
   |d=>rw[show pf T n e0 L k d oo b cs s0=_ from congrArg (λx=>Out.bind x _) hev]at hO';exact no O hO'.symm
   |e vs s1=>
    refine qp o hz h hev htb λss hss=>?_;obtain⟨t,ts,rfl,b1⟩:=z0 hss;obtain⟨b2,b3⟩:=zJ b1;obtain⟨b4,b5⟩:=zJ b2;intro pins sh σ H D I ⟨ρ,p,lfs,hr,er,np,hp,hl,hls,w⟩
    -- the rows between are run with the list's address in the name
    have hi:∀hi:i<env.length,((env.set i dS).set i (some (.s p 0)))[i]?=some (some (.s p 0)):=λhi=>by rw[Ar (by rw[AL];exact hi)]
    have ag:Agr i (env.length,dS,some (.s p 0)) (env.set i dS) ((env.set i dS).set i (some (.s p 0))):=⟨AL ..,by rw[AL,AL],λj hj=>(AO (λz=>hj z.symm)).symm,λhl=>Ar hl,hi⟩
    have q:=eu (Φ:=zB T n) (G:=T.b) c _ _ s b5 ag;rw[hc]at q;obtain⟨fl',hc',a2⟩:=q;cases fl' with
    |c _=>exact a2.elim
    |d _=>exact a2.elim
    |b _=>exact a2.elim
    |a e1=>
     have pc:=jc _ _ _ _ o b4 ((env.set i dS).set i (some (.s p 0))) s;rw[hc']at pc;have er1:ER X.K X.d ρ H ((env.set i dS).set i (some (.s p 0))) σ:=by
      refine⟨by rw[AL];exact er.b,λj v e=>?_⟩
      by_cases z:i=j
      . subst z
        by_cases hl:i<env.length
        . rw[hi hl]at e;cases e
          exact⟨_,hp,.F _ _⟩
        . rw[BS (by rw[AL,AL];omega)]at e;cases e
      . rw[AO z]at e;exact er.a j v e
     refine L2.zx pc (fQ (e0:=e0) (s0:=s0) jb jcs o hz b3) pins sh σ H D I ⟨ρ,hr,er1,λρ1 H1 σ1 x1 hr1 er2=>?_⟩;have np1:p ∉ ρ1.o:=by
      obtain⟨new,e1,hn⟩:=x1.d;rw[e1];intro hm;rcases A1.mp hm with z|z
      . exact np z
      . rw[hn p z]at hl;cases hl
     have hiσ:i<env.length:=by have:=(Am.mp hp).1;rw[<-er.b,AL]at this;exact this
     obtain⟨y,hy,ry⟩:=er2.a i _ (a2.a2 hiσ);cases ry;refine⟨ρ1,p,lfs,hr1,⟨by rw[a2.c,<-a2.d];exact er2.b,λj v e=>?_⟩,np1,hy,x1.c _ _ hl np,hls.keep (hr.frz x1),?_⟩
     . by_cases z:j=i
       . subst z
         rw[a2.a1 hiσ]at e;cases e
       . rw[a2.b j z]at e;exact er2.a j v e
     . rw[hO'];exact w.mono x1 hr1
end
section
variable (T:Tbl)(n:Nat)
mutual
theorem jS:∀a:Sm,JS T n a
 |.d _=>bt
 |.f _=>XG
 |.s=>λsc N X e o h=>by cases h
 |.k _ _=>XD
 |.m _ _=>br
 |.p _ _=>XF
 |.w _ _ _=>λsc N X e o h=>by cases h
 |.h _ _ _=>ft
 |.u _ _ _=>λsc N X e o h=>by cases h
 |.g _ a b=>Vc (jSs a) (jSs b)
 |.l _ _ b=>XE (jSs b)
 |.n _ _=>λsc N X e o h=>by cases h
 |.r=>λsc N X e o h=>by cases h
 |.v=>λsc N X e o h=>by cases h
 |.q=>λsc N X e o h=>by cases h
 |.j _=>fq
theorem jSs:∀a:Sms,JSs T n a
 |.f=>bu
 |.e c cs=>fu (jS c) (jSs cs)
 |.g _ _ .f _ _ _ b cs=>iA (jSs b) (jSs cs)
 |.g _ _ (.e c .f) _ _ _ b cs=>iB (jS c) (jSs b) (jSs cs)
 |.g _ _ (.e _ (.e _ _)) _ _ _ _ _=>λsc N X st o h=>by cases h
 |.g _ _ (.e _ (.g ..)) _ _ _ _ _=>λsc N X st o h=>by cases h
 |.g _ _ (.g ..) _ _ _ _ _=>λsc N X st o h=>by cases h
end
end
end M
end
section
namespace M
open PySem
structure OkX(T:Tbl)(n:Nat)(sc:Scope)(N:List Str)(X:L2.Cx)(E:L2.XK):Prop where
 a:OkF T n sc N X.nox
 ps:L2.Passes (L2.CXE X.f X.w) X E
 xr:∀C H,E (.ref C) none H->L2.XR X C H
 lv:Lv T X.f X.w X.K X.d X.h n
 b:∀c,(T.f.lookup c).isSome=true->∃C D,X.d c=some (.ref C)/\L2.ClsAt X.h C (.ref D::L2.veM)/\L2.ClsAt X.h D L2.veM
section
variable (K:KF)(mg:Str->Option Value)(E:L2.XK)
def tX(env:Env)(s:Sto)(x:sP):L2.TS:=λ_ σ H=>∃ρ,HR K mg ρ s H/\ER K mg ρ H env σ/\qL K mg ρ H x E
def tXe(env:Env)(s:Sto)(x:sP):L2.TE:=λσ H _=>∃ρ,HR K mg ρ s H/\ER K mg ρ H env σ/\qL K mg ρ H x E
end
theorem qL.mono(h:qL K mg ρ H x E)(e:Ext ρ H ρ' H')(hr:HR K mg ρ' s H'):qL K mg ρ' H' x E:=by
 cases x with
 |none=>exact h
 |some r=>
  obtain⟨c,as,s'⟩:=r;exact λρ2 H2 x2 hr2 C hC=>h ρ2 H2 (e.trans hr x2) hr2 C hC
noncomputable abbrev wx(T:Tbl):Str->Bool:=λc=>(T.f.lookup c).isSome
section
variable {T:Tbl}{n:Nat}{sc:Scope}{N:List Str}{X:L2.Cx}{E:L2.XK}
theorem zb:¬tXe X.K X.d E env s dS σ H Q:=λ⟨_,_,_,z⟩=>z
theorem yn:¬tX X.K X.d E env s dS D σ H:=λ⟨_,_,_,z⟩=>z
theorem rE(h:T.d f v=dS)vs s:ze T n f v vs s=dS:=by
 cases n with
 |zero=>rfl
 |succ n=>simp only[ze,h]
theorem fA(o:OkX T n sc N X E)(h:(L2.vR sc N N' csc fr&&decide N'.Nodup&&ckT csc N' t tg&&ckI sc N it iter tg&&qO csc N' ifs fs&&ck csc N' elt x&&plain iter)=true) :
 ∃(S:L2.zf X N' csc fr) (oc:∀C s0 H0 ex,Ok T n csc N' (X.comp N' csc C s0 H0 ex)) (g:L2.TG),(∀C s0 H0 ex,L2.PG (X.comp N' csc C s0 H0 ex) tg g)/\ckI sc N it iter tg=true/\qO csc N' ifs fs=true/\ck csc N' elt x=true/\plain iter=true:=by
 simp only[cf,decide_eq_true_eq]at h;obtain⟨⟨⟨⟨⟨⟨h1,h2⟩,h3⟩,h4⟩,h5⟩,h6⟩,h7⟩:=h;have S:=qh o.a.a.a h1;have oc:=o.a.a.comp S h2 h1;refine⟨⟨S.b,S.e,S.a,S.d,S.g,S.f,S.h⟩,oc,?_⟩;cases t with
 |a i=>
  cases tg with
  |Name y p=>
   simp only[ckT,cf,An,decide_eq_true_eq]at h3;exact⟨_,λC s0 H0 ex=>sJ (oc C s0 H0 ex).a h3.1 h3.2,h4,h5,h6,h7⟩
  |_=>cases h3
 |b is=>
  cases tg with
  |Tuple es k p=>
   simp only[ckT,cf,decide_eq_true_eq]at h3;refine⟨L2.Yo X.K is.length (rT is),λC s0 H0 ex=>?_,h4,h5,h6,h7⟩;obtain⟨a,b,c⟩:=yh (oc C s0 H0 ex).a h3.1;exact L2.vi (X:=X.comp N' csc C s0 H0 ex) o.a.a.c a b c
  |_=>cases h3
mutual
theorem jxE(o:OkX T n sc N X E):∀(a:Ex) (e:Expr),ck sc N a e=true->∀env s,L2.PE X e (tXe X.K X.d E env s (xE (zB T n) (ze T n) T.b env a s))
 |.h f v es,e,h=>λenv s=>by
  replace h:(if v<100 then ckA sc f (λxs=>ckL sc N es xs) e else if v<200 then ckB sc N f v es (λl ys=>ckL l N es ys) e else ckV sc N v es (λl ys=>ckL l N es ys) e)=true:=h
  split at h
  . replace h:=yf h
    obtain⟨x,p,xs,pos,rfl,h⟩:=h;simp only[cf,decide_eq_true_eq,xW,AD]at h;obtain⟨⟨⟨⟨rfl,h2⟩,h3⟩,h4⟩,h5⟩:=h;simp only[xE];cases hv:zV (zB T n) T.b env es s with
    |g _ _ _=>exact yU λ_ _ _=>zb
    |d=>exact yU λ_ _ _=>zb
    |e vs s1=>
     simp only[];cases hf:T.d x v with
     |none=>rw[rE hf];exact yU λ_ _ _=>zb
     |some F=>
      obtain⟨fa,fd,e1,e2,e3,e4,e5⟩:=o.lv.a x v F hf;have hp:=(jL T n es _ _ _ _ o.a.a h4).1 h5 env s;rw[hv]at hp;have hp:=lW hp;cases xs with
      |nil=>
       cases es with
       |a _ _=>cases h4
       |c=>
        cases hv;exact zT (L2.nt e5 o.a.a.d (o.a.a.a.b x h2) e1 e2 e3 .nil o.ps h3) λσ H Q ⟨ρ,hr,er,w⟩=>⟨ρ,_,[],hr,.d,.inr w⟩
      |cons y ys=>
       rw[zc,cf]at h5;refine zT (L2.oN e5 o.a.a.d (o.a.a.a.b x h2) e1 e2 e3 .nil o.ps hp h3 (L2.zd (zR h5.1)) (yr h5.2)) λσ H Q ⟨ρ,hr,er,w⟩=>⟨ρ,hr,er,λρ1 zs H1 x1 hr1 r1=>?_⟩;show spX T X.K X.d n x v (zs++[]) H1 Q E;rw[AY];exact⟨ρ1,s1,vs,hr1,r1,.inr (w.mono x1 hr1)⟩
  . rename_i hver
    have hx:xE (zB T n) (ze T n) T.b env (.h f v es) s=dS:=by
     simp only[xE];cases zV (zB T n) T.b env es s with
     |e vs s1=>exact rE (o.a.a.i f v (by omega)) _ _
     |_=>rfl
    rw[hx];exact yU λ_ _ _=>zb
 |.r op a b,e,h=>λenv s=>by
  replace h:=sU h;obtain⟨l1,o1,r1,p1,rfl,h⟩:=h;simp only[cf,decide_eq_true_eq]at h;obtain⟨⟨⟨⟨k1,rfl⟩,h1⟩,h2⟩,h3⟩:=h;simp only[xE];exact zT (L2.oO (w6 (X:=X) o.a.a.d op k1) (jxE o a _ h1 env s) (L2.PE.nox (jE T n b _ _ _ _ o.a.a h2 env s)) (yq h3)) λσ H Q z=>z
 |.g _,_,_=>λ_ _=>yU λ_ _ _=>zb
 |.e _,_,_=>λ_ _=>yU λ_ _ _=>zb
 |.F _,_,_=>λ_ _=>yU λ_ _ _=>zb
 |.J _ _,_,_=>λ_ _=>yU λ_ _ _=>zb
 |.j m op a b,e,h=>λenv s=>by
  replace h:=nA h;obtain⟨l1,o1,r1,p1,rfl,h⟩:=h;simp only[cf,decide_eq_true_eq]at h;obtain⟨⟨⟨k1,rfl⟩,h1⟩,h2⟩:=h;simp only[xE];exact zT (L2.ny (dB (X:=X) m op k1) (jxE o a _ h1 env s) (L2.PE.nox (jE T n b _ _ _ _ o.a.a h2 env s))) λσ H Q z=>z
 |.D _,_,_=>λ_ _=>yU λ_ _ _=>zb
 |.E _,_,_=>λ_ _=>yU λ_ _ _=>zb
 |.s _ _ _ _ _,_,_=>λ_ _=>yU λ_ _ _=>zb
 |.u _ _,_,_=>λ_ _=>yU λ_ _ _=>zb
 |.H _ _,_,_=>λ_ _=>yU λ_ _ _=>zb
 |.G _ _ _,_,_=>λ_ _=>yU λ_ _ _=>zb
 |.y _,_,_=>λ_ _=>yU λ_ _ _=>zb
 |.w _ _,_,_=>λ_ _=>yU λ_ _ _=>zb
 |.A,_,_=>λ_ _=>yU λ_ _ _=>zb
 |.l f m es,e,h=>λenv s=>by
  replace h:=yf h;obtain⟨x,p,xs,pos,rfl,h⟩:=h;replace h:=z0 h;obtain⟨y,ys,rfl,h⟩:=h;simp only[cf,decide_eq_true_eq,xW]at h;obtain⟨⟨⟨⟨k1,rfl⟩,h2⟩,h3⟩,h4⟩:=h;simp only[xE];have hpa:=jxL o es (y::ys) h3 h4 env s;rw[zc,cf]at h4;have bo:=f.boot;have hg:=o.a.a.a.b _ h2;have hm:=o.a.a.g _ (gW f);have st:=L2.zd (es:=ys) (env:=X.a) (zR h4.1);have hn:=yr (pos:=pos) (env:=X.a) h4.2;cases f with
  |e=>exact zT (L2.y0 (r:=λ_ _ _=>False) (λ_ _ _ _ _ _ _ _ _ z=>Aw z) hg hm bo hpa (by decide) (by decide) st hn) λσ H Q z=>z
  |k=>exact zT (L2.y0 (r:=λ_ _ _=>False) (λ_ _ _ _ _ _ _ _ _ z=>Aw z) hg hm bo hpa (by decide) (by decide) st hn) λσ H Q z=>z
  |o=>exact zT (L2.y0 (r:=λ_ _ _=>False) (λ_ _ _ _ _ _ _ _ _ z=>Aw z) hg hm bo hpa (by decide) (by decide) st hn) λσ H Q z=>z
  |p=>exact zT (L2.y0 (r:=λ_ _ _=>False) (λ_ _ _ _ _ _ _ _ _ z=>Aw z) hg hm bo hpa (by decide) (by decide) st hn) λσ H Q z=>z
  |_=>exact zT (L2.u6 (r:=λ_ _ _=>False) (λ_ _ _ _ _ _ _ _ _ z=>Aw z) hg hm bo hpa (by decide) (by decide) st hn) λσ H Q z=>z
 |.C _ _,_,_=>λ_ _=>yU λ_ _ _=>zb
 |.K _ _ _ _,_,_=>λ_ _=>yU λ_ _ _=>zb
 |.z _ _,_,_=>λ_ _=>yU λ_ _ _=>zb
 |.L _ _ _ _ _,_,_=>λ_ _=>yU λ_ _ _=>zb
 |.q m N' fr elt t it ifs,e,h=>λenv s=>by
  replace h:=ug h;obtain⟨x,tg,iter,fs,csc,cpos,rfl,h⟩:=h;obtain⟨S,oc,g,pg,h4,h5,h6,h7⟩:=fA o h;simp only[xE];have hel:∀C s0 H0 ex,L2.PE (X.comp N' csc C s0 H0 ex) x (uE X.K X.d (zB T n) T.b elt):=λC s0 H0 ex=>iq (X:=X.comp N' csc C s0 H0 ex) λenv s=>jE T n elt _ _ _ _ (oc C s0 H0 ex) h6 env s;have hts:∀C s0 H0 ex,L2.PTs (X.comp N' csc C s0 H0 ex) fs (uTs X.K X.d (zB T n) T.b ifs):=λC s0 H0 ex=>(jCs T n ifs _ _ _ _ (oc C s0 H0 ex) h5).2.2;exact zT (L2.si o.a.a.c S (jxI o it tg iter h4 env s) pg hts hel (zm h7)) λσ H Q z=>z
 |.p _ _ _ _ _ _ _ _ _ _,_,_=>λ_ _=>yU λ_ _ _=>zb
 |.k _ _ _ _,_,_=>λ_ _=>yU λ_ _ _=>zb
 |.B _,_,_=>λ_ _=>yU λ_ _ _=>zb
 |.I _ _,_,_=>λ_ _=>yU λ_ _ _=>zb
theorem jxL(o:OkX T n sc N X E):∀(as:Exs) (es:List Expr),ckL sc N as es=true->zc es=true->∀env s,L2.PA X es (λσ H _=>tXe X.K X.d E env s (xL (zB T n) (ze T n) T.b env as s) σ H λ_ _=>False)
 |.c,_,_=>λ_ _ _=>λ_ _ _ _ _ _ _ z=>(zb z).elim
 |.a a as,es,h=>λhp env s=>by
  replace h:=z0 h;obtain⟨e,es,rfl,h⟩:=h;obtain⟨h1,h2⟩:=zJ h;cases as with
  |a _ _=>exact λ_ _ _ _ _ _ _ z=>(zb z).elim
  |c=>
   cases AN.mp h2;simp only[xL];exact λpos pins s0 σ H Q I z=>L2.yo (jxE o a e h1 env s) L2.yl (L2.zd (zR (by rw[zc,cf]at hp;exact hp.1))) pos pins s0 σ H Q I z
theorem jxI(o:OkX T n sc N X E):∀(it:Itb) (tg e:Expr),ckI sc N it e tg=true->∀env s,L2.PI X tg e (λσ H _=>tXe X.K X.d E env s (xI (zB T n) (ze T n) T.b env it s) σ H λ_ _=>False)
 |.h a,tg,e,h=>λenv s pins s0 σ H R I z=>by
  simp only[xI]at z;exact AX (jxE o a e h env s pins s0 σ H (λ_ _=>False) I z) (λv s1 ⟨_,_,_,_,q⟩=>q.elim) λ_ _ q=>q
 |.d _,_,_,_=>λ_ _ _ _ _ _ _ _ z=>(zb z).elim
 |.f _ _,_,_,_=>λ_ _ _ _ _ _ _ _ z=>(zb z).elim
 |.i _,_,_,_=>λ_ _ _ _ _ _ _ _ z=>(zb z).elim
 |.j _ _,_,_,_=>λ_ _ _ _ _ _ _ _ z=>(zb z).elim
 |.g _ _ _,_,_,_=>λ_ _ _ _ _ _ _ _ z=>(zb z).elim
end
theorem jxT(o:OkX T n sc N X E):∀c e,ckC sc N c e=true->∀env s,L2.PT X e (λσ H _=>tXe X.K X.d E env s (xT (zB T n) (ze T n) T.b env c s) σ H λ_ _=>False)
 |.a a,e,h=>λenv s=>by
  obtain⟨h1,h2⟩:=zJ h;cases a with
  |h f v es=>
   simp only[xT];rcases (An _ _).mp h2 with h2|h2
   . exact vj (L2.mC (jxE o (.h f v es) e h1 env s) (qx h2)) λσ H Q z=>z
   . exfalso
     obtain⟨l,os,rs,p,rfl⟩:=gy (of_decide_eq_true h2);cases gu h1
  |_=>exact jR λ_ _ _=>zb
 |.b c,e,h=>λenv s=>by
  replace h:=sV h;obtain⟨x,p,rfl,h⟩:=h;simp only[xT];exact vj (L2.lh (jxT o c _ h env s)) λσ H Q z=>z
 |.d _ _,_,_=>λ_ _=>jR λ_ _ _=>zb
 |.f _ _,_,_=>λ_ _=>jR λ_ _ _=>zb
theorem jK(h:qr vs=true):(∃x,vs=[.m x])\/∃i j:Int,vs=[.c i,.c j]/\i.natAbs<2 ^ 64/\j.natAbs<2 ^ 64:=by
 unfold qr at h;split at h
 . exact .inl ⟨_,rfl⟩
 . rw[cf,decide_eq_true_eq,decide_eq_true_eq]at h
   exact .inr ⟨_,_,rfl,h⟩
 . cases h
theorem eK(o:OkX T n sc N X E)(h:ckS sc N (.j e) st=true)env s:L2.PS X st (tX X.K X.d E env s (xS (wx T) (zB T n) (ze T n) T.b env (.j e) s)):=by
 cases e with
 |h c v es=>
  replace h:=ZA h;obtain⟨q,b,pos,rfl,h⟩:=h;obtain⟨h0,hh⟩:=zJ h;cases BV.mp h0;replace h:=tu hh;obtain⟨q,rfl,h⟩:=h;replace h:=yf h;obtain⟨x,np,xs,cpos,rfl,h⟩:=h;replace h:=yN h;obtain⟨a,rfl,h⟩:=h;simp only[cf,decide_eq_true_eq,xW,AD,An]at h;obtain⟨⟨⟨rfl,h2⟩,h3⟩,h4⟩:=h;simp only[xS];cases hv:zV (zB T n) T.b env es s with
  |g _ _ _=>exact xX λ_ _ _=>yn
  |d=>exact xX λ_ _ _=>yn
  |e vs s1=>
   simp only[];by_cases hm:(qr vs&&(T.f.lookup x).isSome)=true
   case neg=>rw[if_neg hm];exact xX λ_ _ _=>yn
   rw[if_pos hm];rw[cf]at hm;obtain⟨C,D,m1,m2,m3⟩:=o.b x hm.2;rcases h4 with⟨h4,h5⟩|h4
   . have hp:=(jL T n es _ _ _ _ o.a.a h4).1 (by rw[zc,zc,Bool.and_true];exact h5) env s
     rw[hv]at hp;refine yY (L2.mB o.a.a.d.a (o.a.a.a.b x h2) m1 m2 m3 (lW hp) h3 (L2.zd (zR h5)) rfl) λD' σ H ⟨ρ,hr,er,w⟩=>⟨ρ,hr,er,λρ1 xs H1 x1 hr1 r1=>⟨?_,o.xr C H1 (w ρ1 H1 x1 hr1 C m1)⟩⟩;rw[<-r1.length,AS];rcases jK hm.1 with⟨x,rfl⟩|⟨i,j,rfl,_⟩
     . simp
     . simp
   . replace h4:=bQ h4
     obtain⟨u,v',c1,c2,c3,k1,k2,k3,p1,p2,p3,p4,p5,pos',rfl,z1,z2,z3,h4⟩:=h4;obtain⟨e1,e2,rfl,h41,h42⟩:∃e1 e2,es=.a e1 (.a e2 .c)/\ck sc N e1 u=true/\ck sc N e2 v'=true:=by
      cases es with
      |c=>cases h4
      |a e1 es=>
       obtain⟨q1,q2⟩:=zJ h4;cases es with
       |c=>cases q2
       |a e2 es=>
        obtain⟨q3,q4⟩:=zJ q2;cases es with
        |c=>exact⟨e1,e2,rfl,q1,q3⟩
        |a _ _=>cases q4
     obtain⟨v1,s2,q1,hv⟩:=zk hv;obtain⟨vs',s3,q2,hv⟩:=zk hv;obtain⟨v2,s4,q3,q2⟩:=zk q2;cases q2;cases hv;have pe:=L2.UK (c1:=c1) (c2:=c2) (c3:=c3) (k1:=k1) (k2:=k2) (k3:=k3) (p1:=p1) (p2:=p2) (p3:=p3) (p4:=p4) (p5:=p5) (pos:=pos') (L2.PE.nox (jE T n e1 _ _ _ _ o.a.a h41 env s)) (L2.PE.nox (jE T n e2 _ _ _ _ o.a.a h42 env s2)) z1 z2 z3;rcases jK hm.1 with⟨x,z⟩|⟨i,j,z,hi,hj⟩
     . cases z
     . cases z
       rw[q1,q3]at pe;refine yY (L2.mB o.a.a.d.a (o.a.a.a.b x h2) m1 m2 m3 (L2.yo pe L2.yl) h3 rfl rfl) λD' σ H ⟨ρ,hr,er,w⟩=>⟨ρ,hr,er,λρ1 y1 H1 x1 hr1 r1=>?_⟩;cases r1;refine⟨i,rfl,hi,ρ1,hr1,er.mono x1,λρ2 y2 H2 x2 hr2 r2=>?_⟩;cases r2;exact⟨j,rfl,hj,λz=>⟨by rw[AS];simp,o.xr C H2 (w ρ2 H2 (x1.trans hr1 x2) hr2 C m1)⟩⟩
 |_=>exact xX λ_ _ _=>yn
theorem XY(o:OkX T n sc N X E)(h:ckS sc N (.k i e) st=true)env s:L2.PS X st (tX X.K X.d E env s (xE (zB T n) (ze T n) T.b env e s)):=by
 replace h:=we h;obtain⟨ts1,v,pos,rfl,h⟩:=h;replace h:=yN h;obtain⟨t1,rfl,h⟩:=h;replace h:=yI h;obtain⟨x,px,rfl,h⟩:=h;simp only[cf,decide_eq_true_eq,An]at h;obtain⟨⟨h1,h2⟩,h3⟩:=h;obtain⟨l1,l2⟩:=o.a.a.a.e x h2;have hN:X.N.Nodup:=by have:=o.a.a.a.a;rw[show X.N=N from this];exact o.a.a.a.d
 have hi:X.N[i]?=some x:=by have:=o.a.a.a.a;rw[show X.N=N from this];exact h1
 by_cases hn:vv v=true
 . exact yY (L2.wM hN hi l1 (jxE o e _ h3 env s) (vo hn) l2) λD σ H z=>z
 . cases e with
   |h _ _ _=>exact absurd (nW h3 rfl) hn
   |r _ _ _=>exact absurd (nW h3 rfl) hn
   |j _ _ _ _=>exact absurd (nW h3 rfl) hn
   |l _ _ _=>exact absurd (nW h3 rfl) hn
   |q m N' fr elt t it ifs=>
    replace h3:=ug h3;obtain⟨x',tg,iter,fs,csc,cpos,rfl,h3⟩:=h3;obtain⟨S,oc,g,pg,c4,c5,c6,c7⟩:=fA o h3;have hts:∀C s0 H0 ex,L2.PTs (X.comp N' csc C s0 H0 ex) fs (uTs X.K X.d (zB T n) T.b ifs):=λC s0 H0 ex=>(jCs T n ifs _ _ _ _ (oc C s0 H0 ex) c5).2.2;have hel:∀C s0 H0 ex,L2.PE (X.comp N' csc C s0 H0 ex) x' (uE X.K X.d (zB T n) T.b elt):=λC s0 H0 ex=>iq (X:=X.comp N' csc C s0 H0 ex) λenv s=>jE T n elt _ _ _ _ (oc C s0 H0 ex) c6 env s;obtain⟨b,hb⟩:=uU (elt:=x') (gens:=[⟨tg,iter,fs,0⟩]) (csc:=csc) (cpos:=cpos) (y:=x) (py:=px) (l:=pos.line) (env:=X.a);simp only[xE];cases b with
    |true=>exact yY (L2.jQ o.a.a.c S (jxI o it tg iter c4 env s) pg hts hel hN hi l1 hb l2 (zm c7)) λD σ H z=>z
    |false=>exact yY (L2.wM hN hi l1 (L2.si o.a.a.c S (jxI o it tg iter c4 env s) pg hts hel (zm c7)) hb l2) λD σ H z=>z
   |_=>exact xX λ_ _ _=>yn
def uX(T:Tbl)(n:Nat)(X:L2.Cx)(E:L2.XK)(b:Sms):L2.TS:=λD σ H=>∃env s,tX X.K X.d E env s (xSs (wx T) (zB T n) (ze T n) T.b env b s) D σ H
mutual
theorem jxS(o:OkX T n sc N X E):∀(a:Sm) (st:Stmt),ckS sc N a st=true->∀env s,L2.PS X st (tX X.K X.d E env s (xS (wx T) (zB T n) (ze T n) T.b env a s))
 |.d e,st,h=>λenv s=>by
  replace h:=qC h;obtain⟨x1,p1,rfl,h⟩:=h;simp only[cf]at h;simp only[xS];exact yY (L2.sj (jxE o e _ h.1 env s) (vo h.2)) λD σ H z=>z
 |.f e,st,h=>λenv s=>by
  replace h:=tG h;obtain⟨q1,p1,rfl,h⟩:=h;replace h:=tu h;obtain⟨x1,rfl,h⟩:=h;simp only[xS];exact yY (L2.wL (jxE o e _ h env s)) λD σ H z=>z
 |.k i e,st,h=>λenv s=>by simp only[xS];exact XY o h env s
 |.j e,st,h=>λenv s=>eK o h env s
 |.g c a b,st,h=>λenv s=>by
  replace h:=oV h;obtain⟨t1,x1,y1,p1,rfl,h⟩:=h;simp only[cf]at h;have pc:=L2.PT.nox (jC T n c _ _ _ _ o.a.a h.1.1 env s);have pn:∀{ss:List Stmt},L2.PSs X ss (λ_ _ _=>False):=λpins s0 σ H D I q=>q.elim;simp only[xS];cases hc:evT (zB T n) T.b env c s with
  |g _ _ _=>exact yY (L2.qz (jxT o c _ h.1.1 env s) pn pn) λD σ H z=>z
  |d=>exact yY (L2.qz (jxT o c _ h.1.1 env s) pn pn) λD σ H z=>z
  |e t s1=>
   rw[hc]at pc;have pa:L2.PSs X _ (uX T n X E a):=λpins s0 σ H D I ⟨env',s',q⟩=>aE o a _ h.1.2 env' s' pins s0 σ H D I q;have pb:L2.PSs X _ (uX T n X E b):=λpins s0 σ H D I ⟨env',s',q⟩=>aE o b _ h.2 env' s' pins s0 σ H D I q;refine yY (L2.qz pc pa pb) λD σ H ⟨ρ,hr,er,w⟩=>⟨ρ,hr,er,λρ1 t' H1 x1 hr1 ht=>?_⟩;cases ht;simp only[]at w;cases t with
   |true=>exact L2.rZ ⟨env,s1,ρ1,hr1,er.mono x1,qL.mono w x1 hr1⟩
   |false=>exact L2.uq ⟨env,s1,ρ1,hr1,er.mono x1,qL.mono w x1 hr1⟩
 |.s,_,_=>λ_ _=>xX λ_ _ _=>yn
 |.m _ _,_,_=>λ_ _=>xX λ_ _ _=>yn
 |.p _ _,_,_=>λ_ _=>xX λ_ _ _=>yn
 |.w _ _ _,_,_=>λ_ _=>xX λ_ _ _=>yn
 |.h _ _ _,_,_=>λ_ _=>xX λ_ _ _=>yn
 |.l _ _ _,_,_=>λ_ _=>xX λ_ _ _=>yn
 |.n _ _,_,_=>λ_ _=>xX λ_ _ _=>yn
 |.r,_,_=>λ_ _=>xX λ_ _ _=>yn
 |.v,_,_=>λ_ _=>xX λ_ _ _=>yn
 |.q,_,_=>λ_ _=>xX λ_ _ _=>yn
 |.u _ _ _,_,_=>λ_ _=>xX λ_ _ _=>yn
theorem aE(o:OkX T n sc N X E):∀(b:Sms) (st:List Stmt),ud sc N b st=true->∀env s,L2.PSs X st (tX X.K X.d E env s (xSs (wx T) (zB T n) (ze T n) T.b env b s))
 |.f,_,_=>λ_ _=>λpins s0 σ H D I q=>(yn q).elim
 |.e c cs,st,h=>λenv s=>by
  replace h:=z0 h;obtain⟨t0,ts,rfl,h⟩:=h;rw[cf]at h;simp only[xSs];have no:L2.PSs X ts (λ_ _ _=>False):=λpins s0 σ H D I q=>q.elim;cases hc:exS (zB T n) T.b env c s with
  |g _ _ _=>exact xQ (L2.zx (jxS o c _ h.1 env s) no) λD σ H z=>z
  |d=>exact xQ (L2.zx (jxS o c _ h.1 env s) no) λD σ H z=>z
  |e fl s1=>
   simp only[];cases fl with
   |a e=>
    have p1:=jS T n c _ _ _ _ o.a h.1 env s;rw[hc]at p1;have p1':L2.PS X t0 (tSt X.K X.d env s (.e (.a e) s1)):=λpins s0 σ H D I q=>AX (p1 pins s0 σ H D (I.wA _) q) (λ_ _ z=>z.yt) λ_ _ z=>Aw z;have p2:L2.PSs X ts (uX T n X E cs):=λpins s0 σ H D I ⟨env',s',q⟩=>aE o cs _ h.2 env' s' pins s0 σ H D I q;refine xQ (L2.zx p1' p2) λD σ H ⟨ρ,hr,er,w⟩=>⟨ρ,hr,er,λρ1 H1 σ1 x1 hr1 er1=>?_⟩;exact⟨e,s1,ρ1,hr1,er1,qL.mono w x1 hr1⟩
   |b _=>exact λpins s0 σ H D I q=>(yn q).elim
   |c _=>exact λpins s0 σ H D I q=>(yn q).elim
   |d _=>exact λpins s0 σ H D I q=>(yn q).elim
 |.g _ _ _ _ _ _ _ _,_,_=>λ_ _=>λpins s0 σ H D I q=>(yn q).elim
end
end
end M
end
section
namespace M
open PySem
mutual
noncomputable def pB(n:Nat):Val->Bool
 |.j i|.q i=>decide (i<n)
 |.f vs=>wN n vs
 |.h vs=>wN n vs
 |.g|.e _|.c _|.m _|.p|.o _|.r _|.u _|.t _|.s _ _=>true
noncomputable def wN(n:Nat):List Val->Bool
 |[]=>true
 |v::vs=>pB n v&&wN n vs
end
mutual
theorem tE{n:Nat}{v:Val}(h:v.noRef=true):pB n v=true:=by
 cases v with
 |j _=>cases h
 |q _=>cases h
 |f vs=>exact wd (vs:=vs) h
 |h vs=>exact wd (vs:=vs) h
 |_=>rfl
theorem wd{n:Nat}{vs:List Val}(h:zq vs=true):wN n vs=true:=by
 cases vs with
 |nil=>rfl
 |cons v vs=>
  rw[zq,cf]at h;rw[wN,tE h.1,wd h.2];rfl
end
section
variable {K:KF}{mg:Str->Option Value}
mutual
theorem RD.refs{ρ:Own}{H:L2.Hp}{v:Val}{x:L2.V}(q:RD K mg ρ H v x):pB ρ.o.length v=true:=by
 cases q with
 |m _ _ r=>exact RDs.refs r
 |E _ _ r=>exact RDs.refs r
 |C e _=>exact decide_eq_true (Am.mp e).1
 |A e _=>exact decide_eq_true (Am.mp e).1
 |_=>rfl
theorem RDs.refs{ρ:Own}{H:L2.Hp}{v:List Val}{x:List L2.V}(q:RDs K mg ρ H v x):wN ρ.o.length v=true:=by
 cases q with
 |d=>rfl
 |a r rs=>rw[wN,RD.refs r,RDs.refs rs];rfl
end
structure Cut(ρ ρ':Own):Prop where
 b:∃new,ρ'.o=ρ.o++new
 d:ρ'.h=ρ.h
theorem Cut.no(c:Cut ρ ρ')(n:ρ'.no a):ρ.no a:=by obtain⟨new,e⟩:=c.b;exact⟨λh=>n.1 (by rw[e];exact Bl _ h),by rw[<-c.d];exact n.2⟩
mutual
theorem RD.v8{ρ ρ':Own}{H:L2.Hp}(c:Cut ρ ρ'){v:Val}{x:L2.V}(q:RD K mg ρ' H v x)(h:pB ρ.o.length v=true):RD K mg ρ H v x:=by
 have at':∀{i:Nat} {a:Addr},ρ'.o[i]?=some a->decide (i<ρ.o.length)=true->ρ.o[i]?=some a:=λ{i a} e h=>by obtain⟨new,e'⟩:=c.b;rw[e',AQ (of_decide_eq_true h)]at e;exact e
 cases q with
 |s=>exact .s
 |j b=>exact .j b
 |l i=>exact .l i
 |D t=>exact .D t
 |m n e r=>exact .m (c.no n) e (RDs.v8 c r h)
 |E n e r=>exact .E (c.no n) e (RDs.v8 c r h)
 |B n e=>exact .B (c.no n) e
 |p g=>exact .p g
 |G g=>
  refine .G ?_;rcases g with⟨n,g⟩|g
  . exact .inl ⟨c.no n,g⟩
  . exact .inr g
 |C e k=>exact .C (at' e h) k
 |A e k=>exact .A (at' e h) k
 |I e=>exact .I e
 |J n=>exact .J n
 |F a k=>exact .F a k
theorem RDs.v8{ρ ρ':Own}{H:L2.Hp}(c:Cut ρ ρ'){v:List Val}{x:List L2.V}(q:RDs K mg ρ' H v x)(h:wN ρ.o.length v=true):RDs K mg ρ H v x:=by
 cases q with
 |d=>exact .d
 |a r rs=>
  rw[wN,cf]at h;exact .a (RD.v8 c r h.1) (RDs.v8 c rs h.2)
end
noncomputable def pX:Cel->List Val
 |.c vs=>vs
 |.e kvs=>kvs.map (·.2)
 |.f kvs=>kvs.map (·.2)
 |.d _=>[]
theorem CR.vals(h:CR K mg ρ H a c):∃xs,RDs K mg ρ H (pX c) xs:=by
 cases c with
 |c vs=>obtain⟨xs,_,r⟩:=h;exact⟨_,r⟩
 |e kvs=>obtain⟨xs,_,_,r⟩:=h;exact⟨_,r⟩
 |f kvs=>obtain⟨xs,_,_,r⟩:=h;exact⟨_,r⟩
 |d x=>exact⟨[],.d⟩
theorem jr(h:c.noRef=true):zq (pX c)=true:=by cases c<;>first|exact h|rfl
theorem CR.v8(c:Cut ρ ρ')(h:CR K mg ρ' H a o)(hb:wN ρ.o.length (pX o)=true):CR K mg ρ H a o:=by
 cases o with
 |c vs=>obtain⟨xs,e,r⟩:=h;exact⟨xs,e,RDs.v8 c r hb⟩
 |e kvs=>obtain⟨xs,e,k,r⟩:=h;exact⟨xs,e,k,RDs.v8 c r hb⟩
 |f kvs=>obtain⟨xs,e,k,r⟩:=h;exact⟨xs,e,k,RDs.v8 c r hb⟩
 |d y=>
  obtain⟨ps,e1,k,r,g⟩:=h;refine⟨ps,e1,k,λpos cv hc=>?_,g⟩;obtain⟨a,o,vs,t,q1,q2,q3,q4⟩:=r pos cv hc;exact⟨a,o,vs,t,q1,c.no q2,q3,q4⟩
theorem oK{α β:Type}:∀{a b:List (α × β)},a.map (·.1)=b.map (·.1)->a.map (·.2)=b.map (·.2)->a=b
 |[],[],_,_=>rfl
 |[],_::_,h,_=>by cases h
 |_::_,[],h,_=>by cases h
 |x::xs,y::ys,h1,h2=>by
  rw[A4,A4]at h1 h2;injection h1 with a1 a2
  injection h2 with b1 b2
  rw[oK a2 b2,Prod.ext a1 b1]
theorem nh:∀{s s'} {i} {o'},xw s s'=true->i<s.length->s'[i]?=some o'->o'.noRef=true\/s[i]?=some o'
 |[],_,_,_,_,h,_=>by cases h
 |o::r,[],_,_,h,_,_=>by cases h
 |o::r,o'::r',0,q,h,_,e=>by
  rw[xw,cf,An]at h;simp only[List.getElem?_cons_zero,Du]at e;subst e;rcases h.1 with z|z
  . exact .inl z
  . right
    cases o' with
    |c a=>cases o with
     |c b=>simp only[Cel.beq]at z;rw[ub z];rfl
     |_=>cases z
    |e a=>cases o with
     |e b=>simp only[Cel.beq,cf,decide_eq_true_eq]at z;rw[oK z.1 (ub z.2)];rfl
     |_=>cases z
    |f a=>cases o with
     |f b=>simp only[Cel.beq,cf,decide_eq_true_eq]at z;rw[oK z.1 (ub z.2)];rfl
     |_=>cases z
    |d a=>cases o with
     |d b=>simp only[Cel.beq,decide_eq_true_eq]at z;rw[z];rfl
     |_=>cases z
 |o::r,o'::r',i+1,q,h,hi,e=>by
  rw[xw,cf]at h;have:=nh (i:=i) h.2 (by simpa using hi) (by simpa using e)
  simpa using this
noncomputable def WK:Val->Bool
 |.j _|.q _|.f _=>false
 |.g|.e _|.c _|.m _|.p|.o _|.r _|.u _|.t _|.h _|.s _ _=>true
theorem bY{n:Nat}{s:Sto}{k i:Nat}:wD n s k (.j i)=if i<n then some (Val.j i) else match s[i]? with
 |some (.c vs)=>if zq vs then some (.h vs) else dS
 |_=>dS:=by cases k<;>rfl
theorem fU:wD n s k (.q i)=if i<n then some (Val.q i) else dS:=by cases k<;>rfl
theorem fV(h:WK v=true):wD n s k v=if v.noRef then some v else dS:=by
 cases v with
 |j _=>cases h
 |q _=>cases h
 |f _=>cases h
 |_=>cases k<;>rfl
theorem bX:uj n s k []=some []:=by cases k<;>rfl
mutual
theorem rS{ρ ρ':Own}{H:L2.Hp}{s:Sto}(c:Cut ρ ρ')(hr:HR K mg ρ' s H){k:Nat}{v v':Val}{x:L2.V}(r:RD K mg ρ' H v x)(h:wD ρ.o.length s k v=some v'):RD K mg ρ H v' x:=by
 have sv:∀{w:Val},RD K mg ρ' H w x->(if w.noRef then some w else dS)=some v'->RD K mg ρ H v' x:=λ{w} r h=>by
  split at h
  . rename_i hn;cases h;exact RD.v8 c r (tE hn)
  . cases h
 cases v with
 |j i=>
  rw[bY]at h;cases r with
  |C e hkd=>
   by_cases hi:i<ρ.o.length
   . rw[if_pos hi]at h
     cases h;exact RD.v8 c (.C e hkd) (by rw[pB];exact decide_eq_true hi)
   . rw[if_neg hi]at h
     split at h
     . rename_i vs hs
       split at h
       . rename_i hn
         cases h;obtain⟨a,xs,e1,e2,q⟩:=hr.obj i vs hs;rw[e]at e1;cases e1;obtain⟨new,e'⟩:=c.b;have hm:=AR e;refine .E ⟨λhm'=>?_,λhh=>?_⟩ e2 (RDs.v8 c q (wd hn))
         . obtain⟨j,hj,ej⟩:=Bs hm'
           have ej':ρ'.o[j]?=ρ'.o[i]?:=by rw[e,e',AQ hj,Ak hj,ej]
           have:=ee hr.v e (ej'.trans e);exact hi (this▸hj)
         . exact(hr.d _ (by rw[c.d];exact hh)).2 hm
       . cases h
     . cases h
 |q i=>
  rw[fU]at h;split at h
  . rename_i hi
    cases h;exact RD.v8 c r (by rw[pB];exact decide_eq_true hi)
  . cases h
 |f vs=>
  cases k with
  |zero=>exact sv r h
  |succ k=>
   rw[wD,BC]at h;obtain⟨ws,h1,rfl⟩:=h;cases r with
   |m n e q=>exact .m (c.no n) e (rR c hr q h1)
 |_=>exact sv r ((fV rfl).symm.trans h)
theorem rR{ρ ρ':Own}{H:L2.Hp}{s:Sto}(c:Cut ρ ρ')(hr:HR K mg ρ' s H){k:Nat}{v v':List Val}{x:List L2.V}(r:RDs K mg ρ' H v x)(h:uj ρ.o.length s k v=some v'):RDs K mg ρ H v' x:=by
 cases r with
 |d=>rw[bX]at h;cases h;exact .d
 |@a v _ vs _ r1 r2=>
  cases k with
  |zero=>cases h
  |succ k=>
   rw[uj]at h;split at h
   . rename_i a b ha hb
     cases h;refine .a ?_ (rR c hr r2 hb);by_cases hn:v.noRef=true
     . rw[if_pos hn]at ha;cases ha;exact RD.v8 c r1 (tE hn)
     . rw[if_neg hn]at ha;exact rS c hr r1 ha
   . cases h
end
theorem nS(h0:HR K mg ρ s H)(w:yV K mg (RD K mg) ρ H (leave F s v s1) Q)(X:Ext ρ H ρ' H')(hr:HR K mg ρ' s1 H')(r:RD K mg ρ' H' v x):Q x H':=by
 unfold leave at w;by_cases hk:F.c=true
 . rw[if_pos hk]at w;exact w ρ' x H' X hr r
 . rw[if_neg hk]at w
   by_cases ho:xw s s1=true
   . rw[if_pos ho]at w
     have c:Cut ρ ρ':=⟨by obtain⟨new,e,_⟩:=X.d;exact⟨new,e⟩,X.f⟩
     cases hf:freeze s.length s1 v with
     |none=>rw[hf]at w;exact w.elim
     |some v'=>
      rw[hf]at w;have hlen:s.length<=s1.length:=by obtain⟨new,e,_⟩:=X.d;rw[<-h0.f,<-hr.f,e,Av];omega
      refine w ρ x H' ⟨⟨[],by simp,λa ha=>by cases ha⟩,rfl,X.c,X.g⟩ ⟨?_,h0.v,λi vs e=>?_,λa ha=>?_⟩ ?_
      . rw[CD,h0.f];omega
      . have hi:i<s.length:=by have:=(Am.mp e).1;rw[CD]at this;omega
        rw[E4 hi]at e;obtain⟨a,e1,q⟩:=hr.m i vs e;have e3:ρ.o[i]?=some a:=by
         obtain⟨new,e',_⟩:=X.d;rw[e',AQ (by rw[h0.f];exact hi)]at e1
         exact e1
        refine⟨a,e3,q.v8 c ?_⟩;rcases nh ho hi e with z|z
        . exact wd (jr z)
        . obtain⟨b,_,q'⟩:=h0.m i vs z
          obtain⟨xs,q2⟩:=q'.vals;exact RDs.refs q2
      . obtain⟨z,n⟩:=hr.d a (by rw[X.f];exact ha)
        exact⟨z,(h0.d a ha).2⟩
      . unfold freeze at hf
        by_cases hn:v.noRef=true
        . rw[if_pos hn]at hf;cases hf;exact RD.v8 c r (tE hn)
        . rw[if_neg hn,<-h0.f]at hf
          exact rS c hr r hf
   . rw[if_neg ho]at w;exact w.elim
theorem mM(r:RDs K mg ρ H args vs):ER K mg ρ H (za N args) (L2.start N vs):=by
 refine⟨by unfold za L2.start;rw[Av,Av,Ad,Ad,DR,DR,r.length],λi v e=>?_⟩
 unfold za at e;unfold L2.start;by_cases hi:i<args.length
 . rw[AQ (by simpa using hi),A5]at e
   rw[AQ (by rw[Ad,<-r.length];exact hi),A5]
   cases ha:args[i]? with
   |none=>rw[ha]at e;cases e
   |some a=>
    rw[ha]at e;have:a=v:=AW (AW e);subst this;obtain⟨x,h1,h2⟩:=r.get ha;exact⟨x,by rw[h1];rfl,h2⟩
 . rw[BB (by simpa using hi),Dp]at e
   split at e<;>cases e
end
noncomputable def argNames(a:DM):Option (List Str):=
 if a.posonlyargs.isEmpty&&a.vararg.isNone&&a.kwonlyargs.isEmpty&&a.kw_defaults.isEmpty&&a.kwarg.isNone&&a.defaults.isEmpty then some (a.args.map (·.arg)) else none
def js(st:Stmt)(F:Fn):Bool:=
 match st with
 |.FunctionDef _ args body _ _ _ sc _ _ _=>decide (argNames args=some F.b)&&decide (sc.kind=.function)&&!sc.isCoroutine&&!sc.isGenerator&&decide F.N.Nodup&&decide (F.N.take F.b.length=F.b) &&
  F.b.all (λx=>decide (sc.names.lookup x=some .local)||decide (sc.names.lookup x=some .cell))&&sc.names.all (λy=>decide (y.2≠.free))&&ud sc F.N F.a body
 |_=>false
theorem lH:∀{ps:List Str} {us:List Value},ps.Nodup->us.length=ps.length->ps.filterMap (λn=>((ps.zip us).lookup n).map (n,·))=ps.zip us:=by
 have key:∀(ps qs:List Str) (us ws:List Value),(qs++ps).Nodup->us.length=ps.length->ws.length=qs.length->ps.filterMap (λn=>(((qs++ps).zip (ws++us)).lookup n).map (n,·))=ps.zip us:=by
  intro ps;induction ps with
  |nil=>intro qs us ws _ _ _;rfl
  |cons p ps ih=>
   intro qs us ws nd h1 h2;cases us with
   |nil=>cases h1
   |cons u us=>
    have hl:((qs++p::ps).zip (ws++u::us)).lookup p=some u:=by
     rw[List.zip_append h2.symm];have:∀(qs:List Str) (ws:List Value),p ∉ qs->((qs.zip ws)++(p::ps).zip (u::us)).lookup p=some u:=by
      intro qs;induction qs with
      |nil=>intro ws _;simp
      |cons q qs ih2=>
       intro ws hn;cases ws with
       |nil=>simp
       |cons w ws=>
        have hpq:(p == q)=false:=by
         have:p≠q:=λz=>hn (by rw[z];exact Ao)
         simpa using this
        rw[List.zip_cons_cons,List.cons_append,Al,hpq];exact ih2 ws λz=>hn (Ac _ z)
     refine this qs ws λz=>?_;rw[EU]at nd;exact nd.2.2 p z p Ao rfl
    rw[A3,hl];have:=ih (qs++[p]) us (ws++[u]) (by simpa using nd) (by simpa using h1) (by simp[h2])
    rw[Bk,Bk]at this;exact congrArg ((p,u)::·) this
 intro ps us nd h;simpa using key ps [] us [] (by simpa using nd) h rfl
theorem lookup_some:∀{ps:List Str} {us:List Value},us.length=ps.length->∀n∈ps,((ps.zip us).lookup n).isNone=false
 |[],_,_,n,h=>by cases h
 |p::ps,[],h,_,_=>by cases h
 |p::ps,u::us,h,n,hn=>by
  rw[List.zip_cons_cons,Al];cases hb:(n == p) with
  |true=>rfl
  |false=>
   have:n≠p:=by simpa using hb
   rcases As.mp hn with z|z
   . exact absurd z this
   . exact lookup_some (by simpa using h) n z
theorem uc(h:argNames a=some ps)(nd:ps.Nodup)us(hl:us.length=ps.length) :
 FN (BA x qual a body sc .none kV doc pm an cdv ct) ⟨us,[]⟩=pure (ps.zip us):=by
 unfold argNames at h;split at h
 . rename_i hc
   simp only[cf,AN,BV]at hc;obtain⟨⟨⟨⟨⟨h1,h2⟩,h3⟩,h4⟩,h5⟩,h6⟩:=hc;cases h;obtain⟨po,ar,va,ko,kd,kw,df⟩:=a;simp only at h1 h2 h3 h4 h5 h6 hl nd ⊢;subst h1 h2 h3 h4 h5 h6;have hm:((ar.map (·.arg)).take ((ar.map (·.arg)).length-0)).filter (λn=>(((ar.map (·.arg)).zip us).lookup n).isNone)=[]:=by rw[List.filter_eq_nil_iff];intro n hn;rw[lookup_some hl n (List.mem_of_mem_take hn)];decide
   unfold FN;have hd:seqItems? DV=pure none:=rfl;have hg:¬(us.length > (ar.map (·.arg)).length/\True):=by rintro ⟨z,_⟩;omega
   simp only[BA,CB,CY,AY,FI,C8,hd,E7,List.toList_toArray,Cp,List.drop_nil,Nat.sub_zero,Option.isNone_none,Bool.and_true];rw[if_neg (by rw[Ad]at hl;simp;omega)]
   have hm':(List.filter (λn=>(List.lookup n ((FR (λx=>x.arg) ar).zip us)).isNone) (List.take (FR (λx=>x.arg) ar).length (FR (λx=>x.arg) ar)))=[]:=hm;rw[hm',if_neg (by decide),List.zip_nil_right,FI,C8,if_neg (by decide),lH nd hl]
 . cases h
def sF(K:KF)(x:Str)(st:Stmt):Prop:=∃f fd,Bu K AI x=some (some (.ref f))/\L2.Fun K x x st f fd
theorem Yd(a:Bu K AI x=some (some (.ref f)))
 (l:K.lookup f=some ⟨oc,od,.func (BA x x (L2.xP st) (L2.yW st) (L2.zG st) .none kV doc pm an cdv ct),osl⟩) (c:BG K cdv x=true) (k:BP K (.ref f)=true):sF K x st:=
 ⟨f,_,a,L2.Yn l c k⟩
section
variable {P:Program}{w:World}{K:KF}{mg:Str->Option Value}{base:Heap}{T:Tbl}
structure Top(T:Tbl)(K:KF)(mg:Str->Option Value):Prop where
 a:∀f v F,T.d f v=some F->∃st fa fd,mg f=some (.ref fa)/\L2.Fun K f f st fa fd/\js st F=true/\((∃b,T.c b=true)->("!":Str)∈F.N->f∈T.e)
 d:∀x v,T.b x=some v->∃u xv,mg x=some u/\L2.RelV xv u/\∀ρ H,RD K mg ρ H v xv
 c:∀x∈xt,mg x=none
 no:∀f v,100<=v->T.d f v=none
 sc:(T.f≠[]\/∃b,T.c b=true)->Sc T K mg
theorem wm(h:js st F=true):argNames (L2.xP st)=some F.b/\L2.wC F.N F.b (L2.zG st)/\ud (L2.zG st) F.N F.a (L2.yW st)=true:=by
 unfold js at h;split at h
 . simp only[cf,decide_eq_true_eq,AD,AJ,An]at h
   obtain⟨⟨⟨⟨⟨⟨⟨⟨h1,h2⟩,h3⟩,h4⟩,h5⟩,h6⟩,h7⟩,h8⟩,h9⟩:=h;exact⟨h1,⟨h2,h3,h4,h5,h6,h7,h8⟩,h9⟩
 . cases h
theorem ez(top:Top T K mg)(IH:∀j,j<=n->Lv T P w K mg base j){F:Fn}(p2:L2.wC F.N F.b (L2.zG st))
 (hm:mg f=some (.ref fa)) (hk:K.lookup fa=some ⟨oc,od,.func (BA f f (L2.xP st) (L2.yW st) (L2.zG st) .none kV doc pm an cdv ct),osl⟩) (hcd:BG K cdv f=true) (htb:(∃b,T.c b=true)->("!":Str)∈F.N->f∈T.e)
       (hr:L2.y9 n (A.deeper (PyProof.Rows.envOfC f (L2.zG st) s.heap.objs.size fa cdv))):OkF T n (L2.zG st) F.N (L2.xV CX P w K mg base F.N f (L2.zG st) fa cdv A outer s H E).nox:=by
 refine⟨⟨rfl,hr,⟨rfl,p2.b,λx hx=>hx,λx hx=>⟨hx,.inl rfl⟩,λx hx=>hx,λx hx=>hx⟩,λg v' G hg=>?_,top.d,top.c,rfl,top.no,λm hm hmd=>⟨top.sc (.inr hmd),λj hj=>IH j (by omega)⟩,λhmd _ hx=>?_⟩,rfl,?_⟩
 . obtain⟨ga,gd,q1,q2,q3,q4,q5⟩:=(IH n (Ab _)).a g v' G hg
   exact⟨ga,gd,q1,q2,q3,q4⟩
 . have:∃c,cdv=.ref c:=by
    unfold BG at hcd;split at hcd
    . exact⟨_,rfl⟩
    . cases hcd
   obtain⟨c,rfl⟩:=this;exact⟨f,htb hmd hx,fa,c,_,_,hm,hk,rfl,rfl,rfl,rfl⟩
 . show (if (L2.zG st).kind.isAnnotationScope then ScopeKind.function else (L2.zG st).kind)=.function
   rw[p2.a];rfl
theorem Zh(top:Top T K mg)(IH:∀j,j<=n->Lv T P w K mg base j)(h:T.d f v=some F)(hm:mg f=some (.ref fa))(e2:L2.Fun K f f st fa fd)(e3:js st F=true)
 (htb:(∃b,T.c b=true)->("!":Str)∈F.N->f∈T.e):L2.uY P w K mg base L2.CX0 (n+1) fa fd F.b (spN T K mg (n+1) f v):=by
 obtain⟨p1,p2,p3⟩:=wm e3;have hcall:∀(vs:List Val) (s:Sto),zB T (n+1) f v vs s=run T (zB T n) F vs s:=λvs s=>by simp only[zB,h]
 obtain⟨oc,od,kV,doc,pm,an,cdv,ct,osl,rfl,lk,hcd⟩:=e2.a;refine L2.Zg lk hcd p2 (λvs H Q E q=>?_) λA outer s H vs Q E hr q=>?_
 . obtain⟨ρ,t,as,_,r,z⟩:=q
   rw[hcall]at z;unfold run at z;split at z
   . rename_i hl;rw[<-r.length];exact hl
   . exact z.elim
 . obtain⟨ρ,t,as,h0,r,z⟩:=q
   rw[hcall]at z;unfold run at z;have hl:as.length=F.b.length:=by
    by_cases hl:as.length=F.b.length
    . exact hl
    . rw[if_neg hl]at z;exact z.elim
   rw[if_pos hl]at z;have okf:=ez (CX:=L2.CX0) (P:=P) (w:=w) (base:=base) (outer:=outer) (s:=s) (H:=H) (E:=E) top IH p2 hm lk hcd htb hr;refine⟨_,(jSs T n F.a (L2.zG st) F.N _ (L2.yW st) okf p3 (za F.N as) t).nox,ρ,h0,mM r,?_⟩;show uB K mg ρ H (zX (zB T n) T.b (za F.N as) F.a t) _;cases hx:zX (zB T n) T.b (za F.N as) F.a t with
   |e fl s1=>
    rw[hx]at z;cases fl with
    |a e=>exact λρ1 H1 σ1 x1 hr1 er1=>nS h0 z x1 hr1 .s
    |b v'=>exact λρ1 H1 x x1 hr1 r1=>nS h0 z x1 hr1 r1
    |c e=>exact z.elim
    |d e=>exact z.elim
   |g _ _ _=>rw[hx]at z;exact z.elim
   |d=>rw[hx]at z;exact z.elim
theorem TJ(top:Top T K mg)(hB:K.In base)(IH:∀j,j<=n->Lv T P w K mg base j)(h:T.d f v=some F)(hm:mg f=some (.ref fa))(e2:L2.Fun K f f st fa fd)(e3:js st F=true)
 (htb:(∃b,T.c b=true)->("!":Str)∈F.N->f∈T.e):L2.uY P w K mg base (L2.CXE P w) (n+1) fa fd F.b (λvs H Q E=>∃ρ s args,HR K mg ρ s H/\RDs K mg ρ H args vs/\qL K mg ρ H (ze T (n+1) f v args s) E):=by
 obtain⟨p1,p2,p3⟩:=wm e3;have hcall:∀(vs:List Val) (s:Sto),ze T (n+1) f v vs s=if vs.length=F.b.length then xSs (wx T) (zB T n) (ze T n) T.b (za F.N vs) F.a s else dS:=λvs s=>by simp only[ze,h]
 obtain⟨oc,od,kV,doc,pm,an,cdv,ct,osl,rfl,lk,hcd⟩:=e2.a;refine L2.Zg lk hcd p2 (λvs H Q E q=>?_) λA outer s H vs Q E hr q=>?_
 . obtain⟨ρ,t,as,_,r,z⟩:=q
   rw[hcall]at z;split at z
   . rename_i hl;rw[<-r.length];exact hl
   . exact z.elim
 . obtain⟨ρ,t,as,h0,r,z⟩:=q
   rw[hcall]at z;have hl:as.length=F.b.length:=by
    by_cases hl:as.length=F.b.length
    . exact hl
    . rw[if_neg hl]at z;exact z.elim
   rw[if_pos hl]at z;have okf:=ez (CX:=L2.CXE P w) (P:=P) (w:=w) (base:=base) (outer:=outer) (s:=s) (H:=H) (E:=E) top IH p2 hm lk hcd htb hr;have okx:OkX T n (L2.zG st) F.N (L2.xV (L2.CXE P w) P w K mg base F.N f (L2.zG st) fa cdv A outer s H E) E:=by
    refine⟨okf,L2.ij,λC H hE=>L2.ZX hE,IH n (Ab _),λc hc=>?_⟩;have hne:T.f≠[]:=λz=>by rw[z]at hc;cases hc
    obtain⟨_,_,_,_,hue,_,_,_,_,RF⟩:=(top.sc (.inl hne)).a;obtain⟨w',hw⟩:=BX.mp hc;obtain⟨C,q1,q2,q3⟩:=RF c w' hw base hB;exact⟨C,hue,q1,q2,q3⟩
   exact⟨_,aE okx F.a (L2.yW st) p3 (za F.N as) t,ρ,h0,mM r,z⟩
theorem Xh(top:Top T K mg)(hB:K.In base):∀n j,j<=n->Lv T P w K mg base j:=by
 have step:∀n,(∀j,j<n->Lv T P w K mg base j)->Lv T P w K mg base n:=λn IH=>⟨λf v F hf=>by
  obtain⟨st,fa,fd,q1,q2,q3,q4⟩:=top.a f v F hf;obtain⟨r1,r2,r3⟩:=wm q3;have nd:F.b.Nodup:=by rw[<-r2.c];exact r2.b.sublist (EJ _ _)
  have hb:L2.Binds K fd F.b []:=q2.binds λkV doc pm an cdv ct us hl=>uc r1 nd us hl;cases n with
  |zero=>
   refine⟨fa,fd,q1,q2.b,hb,⟨λvs H Q E q=>?_,λA outer s H args us vs Q E _ _ _ _ q=>?_⟩,⟨λvs H Q E q=>?_,λA outer s H args us vs Q E _ _ _ _ q=>?_⟩⟩
   . obtain⟨ρ,t,as,_,_,z⟩:=q;exact z.elim
   . obtain⟨ρ,t,as,_,_,z⟩:=q;exact z.elim
   . obtain⟨ρ,t,as,_,_,z|z⟩:=q<;>exact z.elim
   . obtain⟨ρ,t,as,_,_,z|z⟩:=q<;>exact z.elim
  |succ n=>
   have IH':∀j,j<=n->Lv T P w K mg base j:=λj hj=>IH j (by omega)
   have a:=Zh (P:=P) (w:=w) (base:=base) top IH' hf q1 q2 q3 q4;have b:=TJ (P:=P) (w:=w) (base:=base) top hB IH' hf q1 q2 q3 q4;refine⟨fa,fd,q1,q2.b,hb,a,⟨λvs H Q E q=>?_,λA outer s H args us vs Q E h1 h2 h3 h4 q=>?_⟩⟩
   . obtain⟨ρ,t,as,x1,x2,z|z⟩:=q
     . exact a.b vs H Q E ⟨ρ,t,as,x1,x2,z⟩
     . exact b.b vs H Q E ⟨ρ,t,as,x1,x2,z⟩
   . obtain⟨ρ,t,as,x1,x2,z|z⟩:=q
     . refine CA (a.a A outer s H args us vs Q E h1 h2 h3 h4 ⟨ρ,t,as,x1,x2,z⟩) λr s' hq=>?_
       cases r with
       |error e=>exact Aw hq
       |ok fl=>cases fl<;>exact hq
     . exact b.a A outer s H args us vs Q E h1 h2 h3 h4 ⟨ρ,t,as,x1,x2,z⟩⟩
 intro n;induction n with
 |zero=>intro j hj;exact step j λi hi=>absurd hi (by omega)
 |succ n ih=>
  intro j hj;by_cases h:j<=n
  . exact ih j h
  . have:j=n+1:=by omega
    subst this;exact step _ λi hi=>ih i (by omega)
end
end M
end
section
namespace M
open PySem Hd
def jf(K:KF)(x:Str):Val->Prop
 |.c i=>∃t,Bu K AI x=some (some (.int i t))
 |.m y=>∃t,Bu K AI x=some (some (.str y t))
 |.o ns=>∃a,Bu K AI x=some (some (.ref a))/\KT K a (ns.map L2.V.d)
 |_=>False
noncomputable def glO(fnL:List ((Str × Nat) × Fn))(glL:List (Str × Val))(x:Str):Option Val:=match glL.lookup x with
 |some v=>some v
 |dS=>match fnL.lookup (x,0) with
  |some _=>some (.u x)
  |dS=>dS
def kC(fnL:List ((Str × Nat) × Fn))(glL:List (Str × Val))(tb:List Str)(xc:List (Str × Str))(md:Bool->Bool):Tbl:=⟨λf v=>fnL.lookup (f,v),glO fnL glL,tb,xc,md⟩
def pJ(fnL:List ((Str × Nat) × Fn))(D:List (Str × Stmt)):Bool:=fnL.all λp=>decide (p.1.2<100)&&match D.lookup p.1.1 with|some st=>js st p.2|none=>false
theorem xB{α β:Type} [BEq α] [LawfulBEq α]:∀{l:List (α × β)} {a:α} {b:β},l.lookup a=some b->(a,b)∈l
 |[],_,_,h=>by cases h
 |(c,d)::l,a,b,h=>by
  rw[Al]at h;cases hb:(a == c) with
  |true=>rw[hb]at h;cases h;rw[BR hb];exact Ao
  |false=>rw[hb]at h;exact Ac _ (xB h)
theorem Wo(X:K.In h)(G:h.Ns AI mg)(hd:∀p∈D,sF K p.1 p.2)(hg:∀p∈glL,jf K p.1 p.2)(hb:∀x∈xt,Bu K AI x=some none)
 (hc:pJ fnL D=true)    (htb:(∃b,md b=true)->fnL.all (λp=>!decide (("!":Str)∈p.2.N)||decide (p.1.1∈tb))=true) (sc:(xc≠[]\/∃b,md b=true)->Sc (kC fnL glL tb xc md) K mg):Top (kC fnL glL tb xc md) K mg:=by
 refine⟨λf v F e=>?_,λx v e=>?_,λx hx=>PySem.W.mg_none_of X G (hb x hx),λf v hv=>?_,sc⟩
 . have hm:((f,v),F)∈fnL:=xB e
   unfold pJ at hc;rw[AJ]at hc;have h1:=hc _ hm;rw[cf]at h1;have h1:=h1.2;split at h1
   . rename_i st hs
     obtain⟨fa,fd,a,F'⟩:=hd _ (xB hs);refine⟨st,fa,fd,CO X G a,F',h1,λhmd hN=>?_⟩;have:=AJ.mp (htb hmd) _ hm;simp only[An,AD,decide_eq_false_iff_not,decide_eq_true_eq]at this;exact this.resolve_left λz=>z hN
   . cases h1
 case refine_3=>
  show fnL.lookup (f,v)=none;cases e:fnL.lookup (f,v) with
  |none=>rfl
  |some F=>
   have hm:((f,v),F)∈fnL:=xB e;unfold pJ at hc;rw[AJ]at hc;have h1:=hc _ hm;rw[cf,decide_eq_true_eq]at h1;have h2:v<100:=h1.1;omega
 . have e:glO fnL glL x=some v:=e
   unfold glO at e;split at e
   case h_2=>
    split at e
    . rename_i F hF
      cases e;unfold pJ at hc;rw[AJ]at hc;have h1:=hc _ (xB hF);rw[cf]at h1;have h1:=h1.2;split at h1
      . rename_i st hs
        obtain⟨fa,fd,a,F'⟩:=hd _ (xB hs);exact⟨_,.c fa,CO X G a,rfl,λρ H=>.I (CO X G a)⟩
      . cases h1
    . cases e
   rename_i v' e';cases e;have hm:(x,v)∈glL:=xB e';have h1:=hg _ hm;cases v with
   |c i=>
    obtain⟨t,a⟩:=h1;exact⟨_,.d i,CO X G a,⟨t,rfl⟩,λρ H=>.l i⟩
   |m y=>
    obtain⟨t,a⟩:=h1;exact⟨_,.e y,CO X G a,⟨t,rfl⟩,λρ H=>.D y⟩
   |o ns=>
    obtain⟨a,h2,h3⟩:=h1;exact⟨_,.c a,CO X G h2,rfl,λρ H=>.p h3⟩
   |_=>exact h1.elim
theorem int_mk(a:Bu K AI x=some (some (.int i t))):jf K x (.c i):=⟨t,a⟩
theorem str_mk(a:Bu K AI x=some (some (.str y t))):jf K x (.m y):=⟨t,a⟩
theorem rW:∀{us} {ns},nJ us=some ns->L2.Vals (ns.map L2.V.d) us
 |[],_,h=>by cases h;exact .nil
 |u::us,ns,h=>by
  cases u with
  |int i t=>
   simp only[nJ,BC]at h;obtain⟨ms,h1,rfl⟩:=h;exact .cons ⟨t,rfl⟩ (rW h1)
  |_=>cases h
theorem bM(h:Bu K AI x=some (some (.ref a)))
 (l:K.lookup a=some ⟨.type "tuple",od,.seq us.toArray n,sl⟩) (hz:us.length<=1000) (hi:nJ us=some ns):jf K x (.o ns):=
 ⟨a,h,_,us.toArray,n,l,rfl,rfl,by rw[Ag,AS];omega,by simpa using rW hi⟩
structure W5(T:Tbl)(K:KF)(mg:Str->Option Value)(h:Heap)(tabs:List Addr):Prop where
 nd:tabs.Nodup
 b:tabs.length=T.e.length
 a:∀(i:Nat) (g:Str),T.e[i]?=some g->∃P,tabs[i]?=some P/\h.get? P=some (Ef #[])/\K.lookup P=none/\FA h P /\
  ∃(fa c:Addr) (o:Obj) (fd:BH),mg g=some (.ref fa)/\K.lookup fa=some o/\o.data=.func fd/\fd.code=.ref c/\∀h':Heap,K.In h'->PySem.W.CodeHd h' c P
def Up(K:KF)(tabs:List Addr):L2.Sp:=λvs H Q _=>∃(a:Addr) (ns:List Int),vs=[.c a]/\(∀b∈tabs,H b=some (.g #[]))/\L2.SqL K H a (ns.map L2.V.d)/\ns.length<=63/\∀H',Q (.f true) H'
theorem walk{l:PySem.W.OpenLaw}(hn:l.most=some 63)(hdf:d.params.defaults=[])(hr:L2.y9 n callerA)
 (hY:∀w h,YP w h->K.In h) (hF:T.d d.name 0=some F) (hx:F.b=[x])
 (TOP:∀w s₀ mg mb h,PySem.W.Ground q loose [] XP w s₀ mg mb h->K.In h->Top T K mg/\∃tabs,W5 T K mg h tabs)
 (HL:∀ns:List Int,ns.length<=63->∃s',zB T n d.name 0 [.r ns] (T.e.map .d)=.e (.e true) s') :
 PySem.W.WalkO q loose XP YP l.row.toRowW d [] (λf vs=>PySem.call f vs):=by
 refine Att.ou hn hdf λw s₀ s₁ mg mb fa o pm cd doc a vs ns G Y ho hd hcd hmg hobj hints hlen hg=>?_;have KX:=hY w _ Y;obtain⟨top,tabs,TE⟩:=TOP w s₀ mg mb _ G KX;obtain⟨st,fa',fd',e1,e2,e3,e4⟩:=top.a _ _ _ hF;obtain⟨p1,p2,p3⟩:=wm e3;have nd:F.b.Nodup:=by rw[<-p2.c];exact p2.b.sublist (EJ _ _)
 rw[e1]at hmg;cases hmg;cases n with
 |zero=>
  obtain⟨s',hs⟩:=HL [] (by decide)
  cases hs
 |succ n=>
  have htab:∀b∈tabs,s₁.heap.get? b=some (Ef #[])/\K.lookup b=none/\FA s₁.heap b:=λb hb=>by
   obtain⟨i,hi,e⟩:=Bs hb;obtain⟨P,q1,q2,q3,q4,_⟩:=TE.a i _ (Ak (by rw[<-TE.b];exact hi))
   rw[Ak hi,e]at q1;cases q1;exact⟨q2,q3,q4⟩
  refine L2.iH (CX:=L2.CX0) (k:=n+1) (fd:=fd') (x:=x) (sp:=Up K tabs) (tabs:=tabs) KX G.T.g G.T.b G.T.builtins G.T.nolimit hg hobj hints (Az hlen (by decide)) hr htab (λbase kb nb=>?_) (λs u=>?_) (λH hT hS=>⟨a,ns,rfl,hT,hS,hlen,λ_=>rfl⟩) λ_ _ _ z=>z
  . have f4:=Zh (P:=l.prog) (w:=w) (base:=base) top (λj hj=>Xh top kb n j hj) hF e1 e2 e3 e4
    rw[hx]at f4;refine f4.imp λvs H Q E ⟨a,ns,e,hT,hS,hl,hq⟩=>?_;subst e;obtain⟨s',hs⟩:=HL ns hl;refine⟨⟨tabs,[]⟩,T.e.map .d,[.r ns],⟨by rw[Ad];exact TE.b,TE.nd,λi c z=>?_,λa z=>by cases z⟩,.a (.G ?_) .d,?_⟩
    . rw[A5]at z
      cases hg:T.e[i]? with
      |none=>rw[hg]at z;cases z
      |some g=>
       rw[hg]at z;cases z;obtain⟨P,q1,q2,q3,q4,fn⟩:=TE.a i g hg;exact⟨P,q1,#[],hT P (AR q1),AE,λpos cv hc=>(nomatch hc),fn⟩
    . rcases hS with hS|hS
      . refine .inl ⟨⟨λhm=>?_,by simp⟩,hS⟩
        have:=hT a hm;rcases hS with z|⟨o,z⟩<;>(rw[this]at z;cases z)
      . exact .inr hS
    . rw[hs]
      intro ρ' x' H' _ _ r;cases r;exact hq H'
  . obtain⟨oc,od,kV,doc,pm,an,cdv,ct,osl,e,_⟩:=e2.a
    subst e;refine .of_eq ?_;have:=uc (x:=d.name) (qual:=d.name) (body:=L2.yW st) (sc:=L2.zG st) (kV:=kV) (doc:=doc) (pm:=pm) (cdv:=cdv) (ct:=ct) (an:=an) p1 nd [u] (by rw[hx];rfl)
    rw[hx]at this;exact this
end M
end
section
namespace F
open PySem M
noncomputable def yC:Fn:=⟨["_law_script","_law_k"],["_law_script","_law_k"],false,(.e (.g (.a (.r .i (.e 1) (.l .h false (.a (.e 0) .c)))) (.e (.f (.z (.e 0) (.e 1))) .f) .f) (.e (.f (.g (.c 0))) .f))⟩
noncomputable def yd:Fn:=⟨["_law_pen_here","_law_many","_law_left","_law_found","_law_mixed"],["_law_pen_here","_law_many"],false,(.e (.g (.a (.r .h (.z (.e 0) (.g (.c 0))) (.g (.c 0)))) (.e (.m [2,3] (.l .b false (.a (.z (.e 0) (.g (.c 0))) (.a (.e 1) .c)))) (.e (.h (.e 0) (.g (.c 0)) (.e 2)) (.e (.f (.e 3)) .f))) .f) (.e (.h (.e 0) (.g (.c 1)) (.j false .d (.j false .a (.j false .b (.z (.e 0) (.g (.c 1))) (.g (.c 48271))) (.g (.c 30269))) (.g (.c 2147483629)))) (.e (.k 4 (.j false .d (.j false .a (.j false .a (.j false .b (.z (.e 0) (.g (.c 1))) (.z (.e 0) (.g (.c 1)))) (.j false .b (.g (.c 40692)) (.z (.e 0) (.g (.c 1))))) (.g (.c 7))) (.g (.c 2147483587)))) (.e (.f (.j false .d (.j false .e (.e 4) (.g (.c 64))) (.e 1))) .f))))⟩
noncomputable def yJ:Fn:=⟨["_law_cell","_law_left"],["_law_cell"],true,(.e (.k 1 (.l .i false (.a (.e 0) (.a (.j false .c (.g (.c 0)) (.e 0)) .c)))) (.e (.f (.w true (.a (.j false .b (.e 1) (.l .o false (.a (.r .j (.e 1) (.j false .f (.g (.c 10)) (.g (.c 18)))) .c))) (.a (.j false .d (.e 1) (.g (.c 2147483629))) .c)))) .f))⟩
noncomputable def yZ:Fn:=⟨["_law_row","_law_size"],["_law_row","_law_size"],false,(.e (.f (.q false ["_law_k","_law_row"] [none,some 0] (.j false .a (.z (.e 1) (.g (.c 0))) (.j false .b (.e 0) (.z (.e 1) (.g (.c 1))))) (.a 0) (.d (.e 1)) .a)) .f)⟩
noncomputable def yv:Fn:=⟨["_law_length","_law_size","_law_found","_law_first","_law_step"],["_law_length","_law_size"],false,(.e (.k 2 (.w true .c)) (.e (.l (.a 3) (.d (.e 0)) (.e (.l (.a 4) (.f (.g (.c 1)) (.e 0)) (.e (.g (.a (.r .i (.j false .a (.e 3) (.j false .b (.j false .c (.e 1) (.g (.c 1))) (.e 4))) (.e 0))) (.e (.d (.K .a false (.e 2) (.a (.y (.a (.e 3) (.a (.e 4) .c))) .c))) .f) .f) .f)) .f)) (.e (.f (.e 2)) .f)))⟩
noncomputable def xJ:Fn:=⟨["thing","least","most"],["thing","least","most"],false,(.e (.f (.u (.l .j false (.a (.e 0) (.a (.J "int" "int") .c))) (.a (.E (.l .j false (.a (.e 0) (.a (.J "bool" "bool") .c)))) (.a (.s .g .g (.e 1) (.e 0) (.e 2)) .c)))) .f)⟩
noncomputable def yw:Fn:=⟨["length","first","size"],["length","first","size"],false,(.e (.f (.j false .e (.j false .c (.j false .c (.e 0) (.g (.c 1))) (.e 1)) (.j false .c (.e 2) (.g (.c 1))))) .f)⟩
noncomputable def zj:Fn:=⟨["thing"],["thing"],false,(.e (.d (.h "need_whole" 0 (.a (.e 0) (.a (.g (.c 0)) (.a (.F "MOST_PLACES") .c))))) .f)⟩
noncomputable def yA:Fn:=⟨["thing"],["thing"],false,(.e (.d (.h "need_whole" 0 (.a (.e 0) (.a (.F "LEAST_SIZE") (.a (.F "MOST_SIZE") .c))))) .f)⟩
noncomputable def zv:Fn:=⟨["thing","least","most"],["thing","least","most"],false,(.e (.g (.b (.a (.h "is_whole" 0 (.a (.e 0) (.a (.e 1) (.a (.e 2) .c)))))) (.e (.j (.h "NoNumber" 0 (.a (.e 1) (.a (.e 2) .c)))) .f) .f) .f)⟩
end F
end
section
namespace M
open PySem L2
noncomputable def vJ(n s f:Nat):List (Nat × Nat):=(Ax ((n-1-f)/(s-1))).map λj=>(f,j+1)
def zp(n s:Nat):List (Nat × Nat):=(Ax n).flatMap (vJ n s)
theorem cE n s f:(vJ n s f).length=(n-1-f)/(s-1):=by unfold vJ;rw[Ad,Bt]
theorem ay n s f:(vJ n s f).length<=n:=by rw[cE];have:=Fu (n-1-f) (s-1);omega
theorem ph n s:∀i,((Ax i).flatMap (vJ n s)).length<=i*n
 |0=>by simp
 |i+1=>by
  rw[Fv,List.flatMap_append,Av];have h1:=ph n s i;have h2:=ay n s i;have e:List.flatMap (vJ n s) [i]=vJ n s i:=by simp
  rw[e,Nat.succ_mul];omega
theorem iO(hs:2<=s)(h:r∈zp n s):0<r.2/\r.1+r.2*(s-1)<n:=by
 unfold zp vJ at h;obtain⟨f,hf,h⟩:=List.mem_flatMap.mp h;obtain⟨j,hj,rfl⟩:=BL.mp h;rw[Cy]at hf hj;have:(j+1)*(s-1)<=n-1-f:=(Nat.le_div_iff_mul_le (by omega)).mp hj
 refine⟨Nat.succ_pos _,?_⟩;show f+(j+1)*(s-1)<n;omega
noncomputable def Xj(ns:List Int)(f d s:Nat):Bool:=(Ax s).all λk=>decide (ns[f+k*d]?=ns[f]?)
theorem Yp{n z i j:Nat}(hi:i<n)(hz:2<=z):((0+(i:Int))+((z:Int)-1)*(1+(j:Int))<(n:Int))↔j<(n-1-i)/(z-1):=by
 have e:((z:Int)-1)*(1+(j:Int))=(((j+1)*(z-1):Nat):Int):=by rw[Int.natCast_mul,Int.mul_comm];congr 1<;>omega
 rw[e];have:(j+1)<=(n-1-i)/(z-1)↔(j+1)*(z-1)<=n-1-i:=Nat.le_div_iff_mul_le (by omega)
 omega
noncomputable def TK(z p:Nat)(r:Nat × Nat):Bool:=(Ax z).any λk=>decide (r.1+k*r.2=p)
def atP(n z p:Nat):List (Nat × Nat):=(zp n z).filter (TK z p)
noncomputable def toI(r:Nat × Nat):Int × Int:=(r.1,r.2)
noncomputable def putL(ns:List Int)(p:Nat)(h:Int):List Int:=ns.take p++h::ns.drop (p+1)
def TC(ns:List Int)(z p:Nat)(h:Int):List (Nat × Nat):=(atP ns.length z p).filter λr=>Xj (putL ns p h) r.1 r.2 z
noncomputable def Um(zs:List Int)(h:Nat):Nat:=(zs.getD h 0).toNat
def V0(zs ns:List Int)(p:Nat):List Nat:=(Ax zs.length).filter λh=>(TC ns (Um zs h) p h).isEmpty
noncomputable def xC(f d z:Nat):List Int:=(Ax z).map λk=>((f+k*d:Nat):Int)
end M
end
section
namespace M
open PySem
def Out.post{α:Type}(o:Out α)(P:α->Sto->Prop):Prop:=∃a s,o=.e a s/\P a s
theorem zC{α:Type}{a:α}{s:Sto}{P:α->Sto->Prop}:(Out.e a s).post P↔P a s:=
 ⟨λ⟨_,_,e,h⟩=>(by cases e;exact h),λh=>⟨a,s,rfl,h⟩⟩
theorem zI{o:Out α}{f}{P:β->Sto->Prop}:(o.bind f).post P↔o.post λa s=>(f a s).post P:=by
 cases o with
 |e a s=>exact(zC (P:=λa s=>(f a s).post P)).symm
 |g c as s=>exact⟨λ⟨_,_,e,_⟩=>(by cases e),λ⟨_,_,e,_⟩=>(by cases e)⟩
 |d=>exact⟨λ⟨_,_,e,_⟩=>(by cases e),λ⟨_,_,e,_⟩=>(by cases e)⟩
theorem zW{o:Out α}{P Q}(h:o.post P)(i:∀a s,P a s->Q a s):o.post Q:=by obtain⟨a,s,e,h⟩:=h;exact⟨a,s,e,i a s h⟩
theorem zu{o:Out α}{P Q}(h:∀a s,P a s↔Q a s):o.post P↔o.post Q:=⟨λk=>zW k λa s=>(h a s).mp,λk=>zW k λa s=>(h a s).mpr⟩
theorem zY{α:Type}{P:α->Sto->Prop}:(Out.d:Out α).post P↔False:=⟨λ⟨_,_,e,_⟩=>(by cases e),Aw⟩
theorem xD{α:Type}{c:Prop} [Decidable c] {a b:Out α}{P:α->Sto->Prop}:(if c then a else b).post P↔if c then a.post P else b.post P:=by split<;>exact Cf
theorem post_eq{o:Out α}{a}:o=.e a s↔o.post λx t=>x=a/\t=s:=⟨λh=>⟨a,s,h,rfl,rfl⟩,λ⟨_,_,h,e1,e2⟩=>(by rw[h,e1,e2])⟩
section
variable {Φ:Calls}{G:Str->Option Val}{env:Env}{s:Sto}
theorem V9{v:Val}{P:Val->Sto->Prop}:(evE Φ G env (.g v) s).post P↔P v s:=zC
theorem Zx{i:Nat}{P:Val->Sto->Prop}:(evE Φ G env (.e i) s).post P↔∃v,env[i]?=some (some v)/\P v s:=by
 show (match env[i]? with|some (some v)=>Out.e v s|_=>.d).post P↔_
 split
 . rename_i v e
   refine zC.trans ⟨λh=>⟨_,e,h⟩,λ⟨u,h1,h2⟩=>?_⟩;rw[e]at h1;cases h1;exact h2
 . rename_i hn
   exact⟨λ⟨_,_,e,_⟩=>(by cases e),λ⟨u,h1,h2⟩=>absurd h1 (hn u)⟩
theorem V7{x:Str}{P:Val->Sto->Prop}:(evE Φ G env (.F x) s).post P↔∃v,G x=some v/\P v s:=by
 show (match G x with|some v=>Out.e v s|dS=>.d).post P↔_
 split
 . rename_i v e
   refine zC.trans ⟨λh=>⟨_,e,h⟩,λ⟨u,h1,h2⟩=>?_⟩;rw[e]at h1;cases h1;exact h2
 . rename_i e
   exact⟨λ⟨_,_,e,_⟩=>(by cases e),λ⟨u,h1,h2⟩=>(by rw[e]at h1;cases h1)⟩
theorem TZ{x:Str}{n:String}{P:Val->Sto->Prop}:(evE Φ G env (.J x n) s).post P↔P (.t n) s:=zC
theorem V2{m:Bool}{op:Bop}{a b:Ex}{P:Val->Sto->Prop}:(evE Φ G env (.j m op a b) s).post P↔(evE Φ G env a s).post λx s1=>(evE Φ G env b s1).post λy s2=>(binOp m op x y s2).post P:=by show (Out.bind _ _).post P↔_;simp only[zI]
theorem UB{a:Ex}{P:Val->Sto->Prop}:(evE Φ G env (.D a) s).post P↔(evE Φ G env a s).post λx s1=>∃i,x=.c i/\P (.c (-i)) s1:=by show (Out.bind _ _).post P↔_;simp only[zI];exact zu λx s1=>by cases x<;>simp[zC,zY]
theorem UC{a:Ex}{P:Val->Sto->Prop}:(evE Φ G env (.E a) s).post P↔(evE Φ G env a s).post λx s1=>∃b,x=.e b/\P (.e !b) s1:=by show (Out.bind _ _).post P↔_;simp only[zI];exact zu λx s1=>by cases x<;>simp[zC,zY]
theorem V5{op:Cop}{a b:Ex}{P:Val->Sto->Prop}:(evE Φ G env (.r op a b) s).post P↔(evE Φ G env a s).post λx s1=>(evE Φ G env b s1).post λy s2=>(zU op x y s2).post P:=by show (Out.bind _ _).post P↔_;simp only[zI]
theorem aX{op op':Cop}{a b c:Ex}{P:Val->Sto->Prop}:(evE Φ G env (.s op op' a b c) s).post P↔(evE Φ G env a s).post λx s1=>(evE Φ G env b s1).post λy s2=>(zU op x y s2).post λr s3=>∃t,r=.e t/\if t=true then (evE Φ G env c s3).post λz s4=>(zU op' y z s4).post P else P (.e false) s3:=by
 show (Out.bind _ _).post P↔_;simp only[zI];refine zu λx s1=>zu λy s2=>zu λr s3=>?_;cases r with
 |e t=>cases t<;>simp[zC,zY,zI]
 |_=>simp[zY]
theorem V1{a b:Ex}{es:Exs}{P:Val->Sto->Prop}:(evE Φ G env (.u a (.a b es)) s).post P↔(evE Φ G env a s).post λx s1=>∃t,x=.e t/\if t=true then (sI Φ G env (.a b es) s1).post P else P (.e false) s1:=by
 show (Out.bind _ _).post P↔_;simp only[zI];refine zu λx s1=>?_;cases x with
 |e t=>cases t<;>simp[zC,zY]
 |_=>simp[zY]
theorem Xr{a:Ex}{P:Val->Sto->Prop}:(sI Φ G env (.a a .c) s).post P↔(evE Φ G env a s).post P:=Cf
theorem Xs{a b:Ex}{es:Exs}{P:Val->Sto->Prop}:(sI Φ G env (.a a (.a b es)) s).post P↔(evE Φ G env a s).post λx s1=>∃t,x=.e t/\if t=true then (sI Φ G env (.a b es) s1).post P else P (.e false) s1:=by
 show ((evE Φ G env a s).bind λx s1=>match x with
  |.e true=>sI Φ G env (.a b es) s1
  |.e false=>.e (.e false) s1
  |_=>.d).post P↔_
 simp only[zI];refine zu λx s1=>?_;cases x with
 |e t=>cases t<;>simp[zC,zY]
 |_=>simp[zY]
theorem TX{a b:Ex}{es:Exs}{P:Val->Sto->Prop}:(evE Φ G env (.H a (.a b es)) s).post P↔(evE Φ G env a s).post λx s1=>∃t,truth s1 x=some t/\if t=true then P x s1 else (nG Φ G env (.a b es) s1).post P:=by
 show (Out.bind _ _).post P↔_;simp only[zI];refine zu λx s1=>?_;cases truth s1 x with
 |some t=>cases t<;>simp[zC,zY]
 |none=>simp[zY]
theorem UD{a:Ex}{P:Val->Sto->Prop}:(nG Φ G env (.a a .c) s).post P↔(evE Φ G env a s).post P:=Cf
theorem UE{a b:Ex}{es:Exs}{P:Val->Sto->Prop}:(nG Φ G env (.a a (.a b es)) s).post P↔(evE Φ G env a s).post λx s1=>∃t,truth s1 x=some t/\if t=true then P x s1 else (nG Φ G env (.a b es) s1).post P:=by
 show ((evE Φ G env a s).bind λx s1=>match truth s1 x with
  |some false=>nG Φ G env (.a b es) s1
  |some true=>.e x s1
  |dS=>.d).post P↔_
 simp only[zI];refine zu λx s1=>?_;cases truth s1 x with
 |some t=>cases t<;>simp[zC,zY]
 |none=>simp[zY]
theorem V8{c:Cn}{a b:Ex}{P:Val->Sto->Prop}:(evE Φ G env (.G c a b) s).post P↔(evT Φ G env c s).post λt s1=>if t=true then (evE Φ G env a s1).post P else (evE Φ G env b s1).post P:=by show (Out.bind _ _).post P↔_;simp only[zI,xD]
theorem UH{es:Exs}{P:Val->Sto->Prop}:(evE Φ G env (.y es) s).post P↔(zV Φ G env es s).post λvs s1=>(if vs.length<=zS then Out.e (Val.f vs) s1 else .d).post P:=by show (Out.bind _ _).post P↔_;simp only[zI]
theorem UA{m:Bool}{es:Exs}{P:Val->Sto->Prop}:(evE Φ G env (.w m es) s).post P↔(zV Φ G env es s).post λvs s1=>(if vs.length<=zS then newList m vs s1 else .d).post P:=by show (Out.bind _ _).post P↔_;simp only[zI]
theorem Xu{f:Str}{v:Nat}{es:Exs}{P:Val->Sto->Prop}:(evE Φ G env (.h f v es) s).post P↔(zV Φ G env es s).post λvs s1=>(Φ f v vs s1).post P:=by show (Out.bind _ _).post P↔_;simp only[zI]
theorem V3{f:Bf}{m:Bool}{es:Exs}{P:Val->Sto->Prop}:(evE Φ G env (.l f m es) s).post P↔(zV Φ G env es s).post λvs s1=>(blt f m vs s1).post P:=by show (Out.bind _ _).post P↔_;simp only[zI]
theorem Xz{f:Mf}{m:Bool}{o:Ex}{es:Exs}{P:Val->Sto->Prop}:(evE Φ G env (.K f m o es) s).post P↔(evE Φ G env o s).post λx s1=>(zV Φ G env es s1).post λvs s2=>(xk f x vs s2).post P:=by show (Out.bind _ _).post P↔_;simp only[zI]
theorem dJ{m:Bool}{a b c:Ex}{P:Val->Sto->Prop}:(evE Φ G env (.k m a b c) s).post P↔(evE Φ G env a s).post λx s1=>(evE Φ G env b s1).post λy s2=>(evE Φ G env c s2).post λz s3=>(Vp m x y z s3).post P:=by show (Out.bind _ _).post P↔_;simp only[zI]
theorem TV{a b:Ex}{P:Val->Sto->Prop}:(evE Φ G env (.z a b) s).post P↔(evE Φ G env a s).post λx s1=>(evE Φ G env b s1).post λy s2=>(wI x y s2).post P:=by show (Out.bind _ _).post P↔_;simp only[zI]
theorem TY{m:Bool}{a:Ex}{lo hi st:OEx}{P:Val->Sto->Prop}:(evE Φ G env (.L m a lo hi st) s).post P↔(evE Φ G env a s).post λx s1=>(evO Φ G env lo s1).post λl s2=>(evO Φ G env hi s2).post λh s3=>(evO Φ G env st s3).post λc s4=>(mL m x l h c s4).post P:=by show (Out.bind _ _).post P↔_;simp only[zI]
theorem X3{P:Option Int->Sto->Prop}:(evO Φ G env .b s).post P↔P none s:=zC
theorem X4{e:Ex}{P:Option Int->Sto->Prop}:(evO Φ G env (.a e) s).post P↔(evE Φ G env e s).post λv s1=>∃i,v=.c i/\P (some i) s1:=by show (Out.bind _ _).post P↔_;simp only[zI];exact zu λx s1=>by cases x<;>simp[zC,zY]
theorem jN{P:List Val->Sto->Prop}:(zV Φ G env .c s).post P↔P [] s:=zC
theorem dH{e:Ex}{es:Exs}{P:List Val->Sto->Prop}:(zV Φ G env (.a e es) s).post P↔(evE Φ G env e s).post λv s1=>(zV Φ G env es s1).post λvs s2=>P (v::vs) s2:=by show (Out.bind _ _).post P↔_;simp only[zI,zC]
theorem Zw{e:Ex}{P:Bool->Sto->Prop}:(evT Φ G env (.a e) s).post P↔(evE Φ G env e s).post λv s1=>∃b,truth s1 v=some b/\P b s1:=by
 show (Out.bind (evE Φ G env e s) _).post P↔_;simp only[zI];refine⟨λh=>zW h λv s1 h=>?_,λh=>zW h λv s1 h=>?_⟩
 . split at h
   . rename_i b e;exact⟨b,e,zC.mp h⟩
   . obtain⟨_,_,e,_⟩:=h;cases e
 . obtain⟨b,e,h⟩:=h
   rw[e];exact zC.mpr h
theorem X8{c:Cn}{P:Bool->Sto->Prop}:(evT Φ G env (.b c) s).post P↔(evT Φ G env c s).post λb s1=>P (!b) s1:=by show (Out.bind _ _).post P↔_;simp only[zI,zC]
theorem X7{c:Cn}{cs:Cns}{P:Bool->Sto->Prop}:(evT Φ G env (.d c cs) s).post P↔(evT Φ G env c s).post λb s1=>if b=true then (xF Φ G env cs s1).post P else P false s1:=by show (Out.bind _ _).post P↔_;simp only[zI,xD,zC]
theorem UG{c:Cn}{cs:Cns}{P:Bool->Sto->Prop}:(evT Φ G env (.f c cs) s).post P↔(evT Φ G env c s).post λb s1=>if b=true then P true s1 else (vY Φ G env cs s1).post P:=by show (Out.bind _ _).post P↔_;simp only[zI,xD,zC]
theorem uy{P:Bool->Sto->Prop}:(xF Φ G env .a s).post P↔P true s:=zC
theorem aa{P:Bool->Sto->Prop}:(vY Φ G env .a s).post P↔P false s:=zC
theorem dO{c:Cn}{cs:Cns}{P:Bool->Sto->Prop}:(xF Φ G env (.b c cs) s).post P↔(evT Φ G env c s).post λb s1=>if b=true then (xF Φ G env cs s1).post P else P false s1:=by show (Out.bind _ _).post P↔_;simp only[zI,xD,zC]
theorem dM{c:Cn}{cs:Cns}{P:Bool->Sto->Prop}:(vY Φ G env (.b c cs) s).post P↔(evT Φ G env c s).post λb s1=>if b=true then P true s1 else (vY Φ G env cs s1).post P:=by show (Out.bind _ _).post P↔_;simp only[zI,xD,zC]
theorem Xy{e:Ex}{P:Src->Sto->Prop}:(yS Φ G env (.h e) s).post P↔(evE Φ G env e s).post λv s1=>∃r,srcOf s1 v=some r/\P r s1:=by
 show (Out.bind _ _).post P↔_;simp only[zI];refine⟨λh=>zW h λv s1 h=>?_,λh=>zW h λv s1 h=>?_⟩
 . split at h
   . rename_i b e;exact⟨b,e,zC.mp h⟩
   . obtain⟨_,_,e,_⟩:=h;cases e
 . obtain⟨b,e,h⟩:=h
   rw[e];exact zC.mpr h
theorem nj{a:Ex}{P:Src->Sto->Prop}:(yS Φ G env (.d a) s).post P↔(evE Φ G env a s).post λx s1=>∃j,x=.c j/\(-(2 ^ 62)<=j/\j<=zS)/\P ⟨yH 0 j.toNat,dS⟩ s1:=by
 show (Out.bind _ _).post P↔_;simp only[zI];refine⟨λh=>zW h λv s1 h=>?_,λh=>zW h λv s1 h=>?_⟩
 . split at h
   . rw[xD]at h
     split at h
     . rename_i j z;exact⟨_,rfl,z,zC.mp h⟩
     . obtain⟨_,_,e,_⟩:=h;cases e
   . obtain⟨_,_,e,_⟩:=h;cases e
 . obtain⟨j,rfl,z,h⟩:=h
   simp only[if_pos z];exact zC.mpr h
theorem nk{a b:Ex}{P:Src->Sto->Prop}:(yS Φ G env (.f a b) s).post P↔(evE Φ G env a s).post λx s1=>(evE Φ G env b s1).post λy s2=>∃i j,x=.c i/\y=.c j/\(-(2 ^ 62)<=i/\i<2 ^ 62∧-(2 ^ 62)<=j/\j<2 ^ 62/\j-i<=zS)/\P ⟨yH i (j-i).toNat,dS⟩ s2:=by
 show (Out.bind _ _).post P↔_;simp only[zI];refine⟨λh=>zW h λv s1 h=>zW h λw s2 h=>?_,λh=>zW h λv s1 h=>zW h λw s2 h=>?_⟩
 . split at h
   . rw[xD]at h
     split at h
     . rename_i z;exact⟨_,_,rfl,rfl,z,zC.mp h⟩
     . obtain⟨_,_,e,_⟩:=h;cases e
   . obtain⟨_,_,e,_⟩:=h;cases e
 . obtain⟨i,j,rfl,rfl,z,h⟩:=h
   simp only[if_pos z];exact zC.mpr h
theorem Xw{a:Ex}{P:Src->Sto->Prop}:(yS Φ G env (.i a) s).post P↔(evE Φ G env a s).post λx s1=>∃vs,(x=.f vs\/x=.h vs)/\P ⟨kn 0 vs,dS⟩ s1:=by
 show (Out.bind _ _).post P↔_;simp only[zI];refine⟨λh=>zW h λv s1 h=>?_,λh=>zW h λv s1 h=>?_⟩
 . split at h
   . exact⟨_,.inl rfl,zC.mp h⟩
   . exact⟨_,.inr rfl,zC.mp h⟩
   . obtain⟨_,_,e,_⟩:=h;cases e
 . obtain⟨j,rfl|rfl,h⟩:=h<;>exact zC.mpr h
theorem dI{e:Ex}{P:Fl->Sto->Prop}:(exS Φ G env (.d e) s).post P↔(evE Φ G env e s).post λ_ s1=>P (.a env) s1:=by show (Out.bind _ _).post P↔_;simp only[zI,zC]
theorem Zv{e:Ex}{P:Fl->Sto->Prop}:(exS Φ G env (.f e) s).post P↔(evE Φ G env e s).post λv s1=>P (.b v) s1:=by show (Out.bind _ _).post P↔_;simp only[zI,zC]
theorem X6{P:Fl->Sto->Prop}:(exS Φ G env .s s).post P↔P (.b .g) s:=zC
theorem Zu{i:Nat}{e:Ex}{P:Fl->Sto->Prop}:(exS Φ G env (.k i e) s).post P↔(evE Φ G env e s).post λv s1=>P (.a (env.set i (some v))) s1:=by show (Out.bind _ _).post P↔_;simp only[zI,zC]
theorem dF{is:List Nat}{e:Ex}{P:Fl->Sto->Prop}:(exS Φ G env (.m is e) s).post P↔(evE Φ G env e s).post λv s1=>∃env',yc (.b is) v env=some env'/\P (.a env') s1:=by
 show (Out.bind _ _).post P↔_;simp only[zI];refine⟨λh=>zW h λv s1 h=>?_,λh=>zW h λv s1 h=>?_⟩
 . split at h
   . rename_i b e;exact⟨b,e,zC.mp h⟩
   . obtain⟨_,_,e,_⟩:=h;cases e
 . obtain⟨b,e,h⟩:=h
   rw[e];exact zC.mpr h
theorem jP{is:List Nat}{es:Exs}{P:Fl->Sto->Prop}:(exS Φ G env (.p is es) s).post P↔(zV Φ G env es s).post λvs s1=>(if vs.length=is.length then Out.e (Fl.a ((is.zip vs).foldl (λe p=>e.set p.1 (some p.2)) env)) s1 else .d).post P:=by show (Out.bind _ _).post P↔_;simp only[zI]
theorem aZ{o i e:Ex}{P:Fl->Sto->Prop}:(exS Φ G env (.h o i e) s).post P↔(evE Φ G env e s).post λv s1=>(evE Φ G env o s1).post λx s2=>(evE Φ G env i s2).post λy s3=>∃r k vs j,x=.j r/\y=.c k/\s3[r]?=some (.c vs)/\L2.ixN vs.length k=some j/\P (.a env) (upd s3 r (vs.set j v)):=by
 show (Out.bind _ _).post P↔_;simp only[zI];refine zu λv s1=>zu λx s2=>zu λy s3=>⟨λh=>?_,λ⟨r,k,vs,j,h1,h2,h3,h4,h5⟩=>?_⟩
 . split at h
   . split at h
     . rename_i e3
       split at h
       . rename_i e4;exact⟨_,_,_,_,rfl,rfl,e3,e4,zC.mp h⟩
       . exact(zY.mp h).elim
     . exact(zY.mp h).elim
   . exact(zY.mp h).elim
 . subst h1;subst h2
   simp only[h3,h4];exact zC.mpr h5
theorem Xx{c:Cn}{a b:Sms}{P:Fl->Sto->Prop}:(exS Φ G env (.g c a b) s).post P↔(evT Φ G env c s).post λt s1=>if t=true then (zX Φ G env a s1).post P else (zX Φ G env b s1).post P:=by show (Out.bind _ _).post P↔_;simp only[zI,xD]
theorem X5{P:Fl->Sto->Prop}:(exS Φ G env .r s).post P↔P (.a env) s:=zC
theorem V4{P:Fl->Sto->Prop}:(exS Φ G env .v s).post P↔P (.c env) s:=zC
theorem Xv{P:Fl->Sto->Prop}:(exS Φ G env .q s).post P↔P (.d env) s:=zC
theorem lV{P:Fl->Sto->Prop}:(zX Φ G env .f s).post P↔P (.a env) s:=zC
def qI(Φ:Calls)(G:Str->Option Val)(cs:Sms)(P:Fl->Sto->Prop):Fl->Sto->Prop
 |.a e,s1=>(zX Φ G e cs s1).post P
 |fl,s1=>P fl s1
theorem yX{c:Sm}{cs:Sms}{P:Fl->Sto->Prop}:(zX Φ G env (.e c cs) s).post P↔(exS Φ G env c s).post (qI Φ G cs P):=by
 show (Out.bind _ _).post P↔_;simp only[zI];have:∀fl s1,(match fl with|.a e=>zX Φ G e cs s1|fl=>Out.e fl s1:Out Fl).post P↔qI Φ G cs P fl s1:=λfl s1=>by
  cases fl with
  |a e=>exact Cf
  |_=>exact zC
 exact⟨λh=>zW h λfl s1 h=>(this fl s1).mp h,λh=>zW h λfl s1 h=>(this fl s1).mpr h⟩
theorem ZQ{cs:Sms}{P:Fl->Sto->Prop}{e:Env}:qI Φ G cs P (.a e) s↔(zX Φ G e cs s).post P:=Cf
theorem ZR{cs:Sms}{P:Fl->Sto->Prop}{v:Val}:qI Φ G cs P (.b v) s↔P (.b v) s:=Cf
theorem ZO{cs:Sms}{P:Fl->Sto->Prop}{v:Env}:qI Φ G cs P (.c v) s↔P (.c v) s:=Cf
theorem ZP{cs:Sms}{P:Fl->Sto->Prop}{v:Env}:qI Φ G cs P (.d v) s↔P (.d v) s:=Cf
theorem wq{I:Env->Prop}(hr:r.ok s=true):∀xs,(∀x∈xs,∀e acc,I e->∃e1 e2,yc t x e=some e1/\body e1 s acc=.e (acc++g x,e2) s/\I e2)->∀e acc,I e->∃e',I e'/\yj r t body xs e s acc=.e (acc++xs.flatMap g,e') s
 |[],_,e,acc,h0=>⟨e,h0,by simp[yj,hr]⟩
 |x::xs,h,e,acc,h0=>by obtain⟨e1,e2,h1,h2,h3⟩:=h x (.head _) e acc h0;obtain⟨e',h4,h5⟩:=wq hr xs (λy hy=>h y (.tail _ hy)) e2 (acc++g x) h3;refine⟨e',h4,?_⟩;simp only[yj,hr,if_true,h1,h2,zL,h5,List.flatMap_cons,Bk]
theorem dG(I:Env->Prop)g
 (h:(yS Φ G env it s).post λr s1=>r.ok s1=true/\I (zZ fr env)/\(∀x∈r.a,∀e,I e->∃e1,yc t x e=some e1/\I e1/\(xF Φ G e1 ifs s1).post λb s2=>s2=s1/\if b=true then (evE Φ G e1 elt s1).post (λv s2=>s2=s1/\g x=[v]) else g x=[])/\(newList m (r.a.flatMap g) s1).post P) :
 (evE Φ G env (.q m N fr elt t it ifs) s).post P:=by
 obtain⟨r,s1,ei,h1,h2,h3,h4⟩:=h;obtain⟨e',_,h5⟩:=wq (I:=I) (g:=g) (body:=λe s' acc=>(xF Φ G e ifs s').bind λb s2=>if b then (evE Φ G e elt s2).bind λv s3=>.e (acc++[v],e) s3 else .e (acc,e) s2) h1 r.a (λx hx e acc he=>by
  obtain⟨e1,k1,k2,b,s2,k3,rfl,k4⟩:=h3 x hx e he;refine⟨e1,e1,k1,?_,k2⟩;rw[k3,zL];cases b with
  |true=>
   rw[if_pos rfl]at k4 ⊢;obtain⟨v,s3,kw,rfl,kv⟩:=k4;rw[kw,zL,kv]
  |false=>
   rw[if_neg Ae]at k4 ⊢;rw[k4,AY]) (zZ fr env) [] h2
 show (Out.bind (yS Φ G env it s) _).post P;rw[ei,zL];rw[h5,zL];exact h4
def Small(l:List Val):Prop:=l.length<=zS
theorem aY(I:Env->Prop)g(J:Val->Env->Prop)(g2:Val->Val->List Val)
 (h:(yS Φ G env it s).post λr s1=>r.ok s1=true/\I (zZ fr env)/\(∀x∈r.a,∀e,I e->∃e1,yc t x e=some e1/\(xF Φ G e1 ifs s1).post λb s2=>s2=s1/\if b=true then (yS Φ G e1 it2 s1).post (λr2 s2=>s2=s1/\r2.ok s1=true/\J x e1/\(∀e,J x e->I e)/\g x=r2.a.flatMap (g2 x)/\∀y∈r2.a,∀e,J x e->∃e2,yc t2 y e=some e2/\J x e2/\(xF Φ G e2 ifs2 s1).post λb s2=>s2=s1/\if b=true then (evE Φ G e2 elt s1).post (λv s2=>s2=s1/\g2 x y=[v]) else g2 x y=[]) else g x=[]/\I e1)/\Small (r.a.flatMap g)/\(newList m (r.a.flatMap g) s1).post P) :
 (evE Φ G env (.p m N fr elt t it ifs t2 it2 ifs2) s).post P:=by
 obtain⟨r,s1,ei,h1,h2,h3,hl,h4⟩:=h;obtain⟨e',_,h5⟩:=wq (I:=I) (g:=g) (body:=λe s' acc=>(xF Φ G e ifs s').bind λb s2=>if b then (yS Φ G e it2 s2).bind λr2 s3=>
        yj r2 t2 (λe' s4 acc'=>(xF Φ G e' ifs2 s4).bind λb' s5=>if b' then (evE Φ G e' elt s5).bind λv s6=>.e (acc'++[v],e') s6 else .e (acc',e') s5) r2.a e s3 acc
  else .e (acc,e) s2) h1 r.a (λx hx e acc he=>by
  obtain⟨e1,k1,b,s2,k3,rfl,k4⟩:=h3 x hx e he;cases b with
  |true=>
   rw[if_pos rfl]at k4;obtain⟨r2,s3,k5,rfl,k6,k7,k8,k9,k10⟩:=k4;obtain⟨e2,k11,k12⟩:=wq (I:=J x) (g:=g2 x) (body:=λe' s4 acc'=>(xF Φ G e' ifs2 s4).bind λb' s5=>if b' then (evE Φ G e' elt s5).bind λv s6=>.e (acc'++[v],e') s6 else .e (acc',e') s5) k6 r2.a (λy hy e acc he=>by
    obtain⟨e1,k1,k2,b,s2,k3,rfl,k4⟩:=k10 y hy e he;refine⟨e1,e1,k1,?_,k2⟩;rw[k3,zL];cases b with
    |true=>
     rw[if_pos rfl]at k4 ⊢;obtain⟨v,s3,kw,rfl,kv⟩:=k4;rw[kw,zL,kv]
    |false=>
     rw[if_neg Ae]at k4 ⊢;rw[k4,AY]) e1 acc k7
   refine⟨e1,e2,k1,?_,k8 _ k11⟩;rw[k3,zL,if_pos rfl,k5,zL,k12,k9]
  |false=>
   rw[if_neg Ae]at k4;refine⟨e1,e1,k1,?_,k4.2⟩;rw[k3,zL,if_neg Ae,k4.1,AY]) (zZ fr env) [] h2
 show (Out.bind (yS Φ G env it s) _).post P;rw[ei,zL];rw[h5,zL];simp only[CY];rw[if_pos (show (r.a.flatMap g).length<=zS from hl)];exact h4
theorem tj(Q:List Val->Env->Sto->Prop)(R:Fl->Sto->Prop){r:Src}{t:Tgt}{body:Env->Sto->Out Fl}(h0:∀e s,Q [] e s->R (.a e) s):∀(xs:List Val),(∀rest e s,Q rest e s->r.ok s=true)->(∀x rest e s,Q (x::rest) e s->∃e1,yc t x e=some e1/\(body e1 s).post λfl s2=>match fl with|.a e=>Q rest e s2|.d e=>Q rest e s2|.c e=>R (.a e) s2|.b v=>R (.b v) s2)->∀e s,Q xs e s->(yz r t body xs e s).post R
 |[],hk,_,e,s,q=>by
  simp only[yz,hk _ _ _ q,if_true];exact zC.mpr (h0 _ _ q)
 |x::xs,hk,h,e,s,q=>by
  obtain⟨e1,h2,h3⟩:=h x xs e s q;simp only[yz,hk _ _ _ q,if_true,h2,zI];refine zW h3 λfl s2 q=>?_;cases fl with
  |a e=>exact tj Q R h0 xs hk h e s2 q
  |d e=>exact tj Q R h0 xs hk h e s2 q
  |c e=>exact zC.mpr q
  |b v=>exact zC.mpr q
def pH(Q:Env->Sto->Prop)(R:Fl->Sto->Prop):Fl->Sto->Prop
 |.a e,s=>Q e s
 |.d e,s=>Q e s
 |.c e,s=>R (.a e) s
 |.b v,s=>R (.b v) s
theorem ZI{Q:Env->Sto->Prop}{R:Fl->Sto->Prop}{e:Env}:pH Q R (.a e) s↔Q e s:=Cf
theorem ZH{Q:Env->Sto->Prop}{R:Fl->Sto->Prop}{e:Env}:pH Q R (.d e) s↔Q e s:=Cf
theorem ZG{Q:Env->Sto->Prop}{R:Fl->Sto->Prop}{e:Env}:pH Q R (.c e) s↔R (.a e) s:=Cf
theorem ZJ{Q:Env->Sto->Prop}{R:Fl->Sto->Prop}{v:Val}:pH Q R (.b v) s↔R (.b v) s:=Cf
theorem V6(Q:List Val->Env->Sto->Prop)
 (h:(yS Φ G env it s).post λr s1=>Q r.a env s1/\(∀rest e s,Q rest e s->r.ok s=true)/\(∀x rest e s,Q (x::rest) e s->∃e1,yc t x e=some e1/\(zX Φ G e1 b s).post (pH (Q rest) R))/\∀e s,Q [] e s->R (.a e) s) :
 (exS Φ G env (.l t it b) s).post R:=by
 obtain⟨r,s1,ei,h1,h2,h3,h4⟩:=h;show (Out.bind (yS Φ G env it s) _).post R;rw[ei,zL];refine tj Q R h4 r.a h2 (λx rest e s q=>?_) _ _ h1;obtain⟨e1,k1,k2⟩:=h3 x rest e s q;refine⟨e1,k1,zW k2 λfl s2 k=>?_⟩;cases fl<;>exact k
theorem oI(Q:List Val->Env->Sto->Prop)xs(hi:yS Φ G env it s=.e ⟨xs,dS⟩ s1)(h0:Q xs env s1)
 (h1:∀x rest e s,Q (x::rest) e s->∃e1,yc t x e=some e1/\(zX Φ G e1 b s).post (pH (Q rest) R)) (h2:∀e s,Q [] e s->R (.a e) s) :
 (exS Φ G env (.l t it b) s).post R:=V6 Q ⟨_,_,hi,h0,λ_ _ _ _=>rfl,h1,h2⟩
theorem jM(I:Env->Prop)g xs(hi:yS Φ G env it s=.e ⟨xs,dS⟩ s1)(h0:I (zZ fr env))
 (h1:∀x∈xs,∀e,I e->∃e1,yc t x e=some e1/\I e1/\(xF Φ G e1 ifs s1).post λb s2=>s2=s1/\if b=true then (evE Φ G e1 elt s1).post (λv s2=>s2=s1/\g x=[v]) else g x=[]) (h2:(newList m (xs.flatMap g) s1).post P) :
 (evE Φ G env (.q m N fr elt t it ifs) s).post P:=dG I g ⟨_,_,hi,rfl,h0,h1,h2⟩
end
theorem ZT{s:Sto}:truth s .g=some false:=rfl
theorem wF{s:Sto}{b:Bool}:truth s (.e b)=some b:=rfl
theorem Wq{s:Sto}{i:Int}:truth s (.c i)=some (i != 0):=rfl
theorem Ws{s:Sto}{vs:List Val}:truth s (.f vs)=some !vs.isEmpty:=rfl
theorem Wr{s:Sto}{vs:List Val}:truth s (.h vs)=some !vs.isEmpty:=rfl
theorem Wd{s:Sto}{vs:List Val}:srcOf s (.f vs)=some ⟨vs,dS⟩:=rfl
theorem Wc{s:Sto}{vs:List Val}:srcOf s (.h vs)=some ⟨vs,dS⟩:=rfl
theorem ZF{s:Sto}{ns:List Int}:srcOf s (.o ns)=some ⟨ns.map .c,dS⟩:=rfl
theorem cU{s:Sto}{xs:List Val}:Src.ok ⟨xs,dS⟩ s=true:=rfl
theorem VC{i:Nat}{v:Val}{env:Env}:yc (.a i) v env=some (env.set i (some v)):=rfl
theorem YR{is:List Nat}{vs:List Val}{env:Env}:yc (.b is) (.f vs) env=if vs.length=is.length then some ((is.zip vs).foldl (λe p=>e.set p.1 (some p.2)) env) else dS:=rfl
theorem gc vs:tS vs vs=true:=vq vs
theorem ox(c:Cel):c.beq c=true:=by cases c<;>simp[Cel.beq,gc]
theorem wa:∀s t,xw s (s++t)=true
 |[],_=>rfl
 |c::r,t=>by simp[xw,ox c,wa r t]
theorem lO s:xw s s=true:=by have:=wa s [];rwa [AY]at this
theorem rn:∀s t i c,c.noRef=true->xw s (s.set i c++t)=true
 |[],_,_,_,_=>by simp[xw]
 |_::r,t,0,c,h=>by simp[xw,h,wa r t]
 |o::r,t,i+1,c,h=>by simp[xw,ox o,rn r t i c h]
theorem iT s t i vs(h:zq vs=true):xw s (s.set i (.c vs)++t)=true:=rn s t i _ h
theorem se:Val.g.noRef=true:=by rw[Val.noRef]
theorem vx{b:Bool}:(Val.e b).noRef=true:=by rw[Val.noRef]
theorem wz{b:Int}:(Val.c b).noRef=true:=by rw[Val.noRef]
theorem eh{b:Str}:(Val.m b).noRef=true:=by rw[Val.noRef]
theorem lN{vs:List Val}:(Val.f vs).noRef=zq vs:=by rw[Val.noRef]
theorem lM{vs:List Val}:(Val.h vs).noRef=zq vs:=by rw[Val.noRef]
theorem ux:zq []=true:=by rw[zq]
theorem wZ{v:Val}{vs:List Val}:zq (v::vs)=(v.noRef&&zq vs):=by rw[zq]
theorem vf:∀ns:List Int,zq (ns.map .c)=true
 |[]=>rfl
 |_::ns=>by simp[zq,Val.noRef,vf ns]
theorem uQ:∀zs:List (Int × Int),zq (zs.map prV)=true
 |[]=>rfl
 |_::zs=>by simp[zq,Val.noRef,prV,uQ zs]
def z9(k:Bool)(s0:Sto)(v:Val)(s:Sto):Out Val:=
 if k then .e v s
 else if xw s0 s then (match freeze s0.length s v with|some v'=>.e v' (s.take s0.length)|dS=>.d) else .d
theorem nR{s0 s:Sto}{v:Val}:z9 true s0 v s=.e v s:=rfl
theorem uO{k:Bool}{s:Sto}{v:Val}(h:v.noRef=true):z9 k s v s=.e v s:=by
 unfold z9;cases k
 . simp[lO,freeze,h]
 . rfl
theorem lE(h:v.noRef=true):z9 false s v (s++t)=.e v s:=by unfold z9;simp[wa,freeze,h]
theorem lF(h:v.noRef=true)(hv:zq vs=true):z9 false s v (s.set i (.c vs)++t)=.e v (s.set i (.c vs)):=by
 unfold z9;have e:s.length=(s.set i (.c vs)).length:=by rw[AL]
 simp only[iT s t i vs hv,freeze,h,if_true,A2,if_false,e,List.take_left']
theorem lD(hi:i ≥ s.length)(hl:(s++t)[i]?=some (.c vs))(h:zq vs=true):z9 false s (.j i) (s++t)=.e (.h vs) s:=by
 unfold z9;have:¬i<s.length:=by omega
 simp[wa,freeze,Val.noRef,wD,this,hl,h]
def fin(k:Bool)(s:Sto)(P:Val->Sto->Prop):Fl->Sto->Prop
 |.a _,s1=>(z9 k s .g s1).post P
 |.b v,s1=>(z9 k s v s1).post P
 |_,_=>False
theorem Yl{k:Bool}{s s1:Sto}{P:Val->Sto->Prop}{e:Env}:fin k s P (.a e) s1↔(z9 k s .g s1).post P:=Cf
theorem Ym{k:Bool}{s s1:Sto}{P:Val->Sto->Prop}{v:Val}:fin k s P (.b v) s1↔(z9 k s v s1).post P:=Cf
theorem wb{T:Tbl}{Φ:Calls}{N ps:List Str}{k:Bool}{b:Sms}{vs:List Val}{s:Sto}{P:Val->Sto->Prop}:(run T Φ ⟨N,ps,k,b⟩ vs s).post P↔vs.length=ps.length/\(zX Φ T.b (za N vs) b s).post (fin k s P):=by
 unfold run;by_cases hl:vs.length=ps.length
 . rw[if_pos hl,zI]
   refine⟨λh=>⟨hl,zW h λfl s1 h=>?_⟩,λh=>zW h.2 λfl s1 h=>?_⟩
   . cases fl<;>first|exact h|exact(zY.mp h).elim
   . cases fl<;>first|exact h|exact h.elim
 . rw[if_neg hl]
   exact⟨λh=>(zY.mp h).elim,λh=>absurd h.1 hl⟩
theorem zh(h:T.d f v=some F)vs s:zB T (n+1) f v vs s=run T (zB T n) F vs s:=by simp only[zB,h]
theorem gf(h:T.d f v=some F)(hl:vs.length=F.b.length)s:ze T (n+1) f v vs s=xSs (λc=>(T.f.lookup c).isSome) (zB T n) (ze T n) T.b (za F.N vs) F.a s:=by simp only[ze,h];rw[if_pos hl]
def At(T:Tbl)(k:Nat)(C:Calls->Prop):Prop:=∀n,k<=n->C (zB T n)
def EVl:=Aa @V9 <| Aa @Zx <| Aa @V7 <| Aa @TZ <| Aa @V2 <| Aa @UB <| Aa @UC <| Aa @V5 <| Aa @aX <| Aa @V1 <| Aa @Xr <| Aa @Xs <| Aa @TX <| Aa @UD <| Aa @UE <| Aa @V8 <| Aa @UH <| Aa @UA <| Aa @Xu <| Aa @V3 <| Aa @Xz <| Aa @dJ <| Aa @TV <| Aa @TY <| Aa @X3 <| Aa @X4 <| Aa @jN <| Aa @dH <| Aa @Zw <| Aa @X8 <| Aa @X7 <| Aa @UG <| Aa @uy <| Aa @aa <| Aa @dO <| Aa @dM <| Aa @Xy <| Aa @nj <| Aa @nk <| Aa @Xw <| Aa @dI <| Aa @Zv <| Aa @X6 <| Aa @Zu <| Aa @dF <| Aa @jP <| Aa @aZ <| Aa @Xx <| Aa @X5 <| Aa @V4 <| Aa @Xv <| Aa @lV <| Aa @yX <| Aa @ZQ <| Aa @ZR <| Aa @ZO <| Aa @ZP <| Aa @ZI <| Aa @ZH <| Aa @ZG <| Aa @ZJ <| Aa @zC <| Aa @xD <| Aa @zY <| Aa @ZT <| Aa @wF <| Aa @Wq <| Aa @Ws <| Aa @Wr <| Aa @Wd <| Aa @Wc <| Aa @ZF <| Aa @cU <| Aa @VC <| Aa @YR <| Aa @wb <| Aa @Yl <| Aa @Ym <| Aa @nR <| Aa @uO <| Aa @se <| Aa @vx <| Aa @wz <| Aa @eh <| Aa @lN <| Aa @lM <| Aa @ux <| Aa @wZ <| Aa @vf <| @uQ
end M
end
section
namespace M
open PySem
theorem bnd{o:Out α}{a}{f}{r:Out β}(h:o=.e a s)(k:f a s=r):o.bind f=r:=by rw[h];exact k
section
variable {Φ:Calls}{G:Str->Option Val}{env:Env}{s s1 s2 s3 s4:Sto}
theorem zQ:evE Φ G env (.g v) s=.e v s:=rfl
theorem zD(h:env[i]?=some (some v)):evE Φ G env (.e i) s=.e v s:=post_eq.mpr (Zx.mpr ⟨v,h,rfl,rfl⟩)
theorem cz:evE Φ G env (.J x n) s=.e (.t n) s:=rfl
theorem kJ(h:G x=some v):evE Φ G env (.F x) s=.e v s:=post_eq.mpr (V7.mpr ⟨v,h,rfl,rfl⟩)
theorem Ww(h1:evE Φ G env a s=.e (.e false) s1):evE Φ G env (.u a (.a b es)) s=.e (.e false) s1:=bnd h1 rfl
theorem Wx(h1:evE Φ G env a s=.e (.e true) s1)(h2:evE Φ G env b s1=.e (.e false) s2):evE Φ G env (.u a (.a b (.a c es))) s=.e (.e false) s2:=bnd h1 (show (evE Φ G env b s1).bind _=_ from bnd h2 rfl)
theorem cy(h1:evE Φ G env a s=.e (.e true) s1)(h2:evE Φ G env b s1=.e (.e true) s2)(h3:evE Φ G env c s2=r):evE Φ G env (.u a (.a b (.a c .c))) s=r:=bnd h1 (show (evE Φ G env b s1).bind _=_ from bnd h2 h3)
theorem U2(h:evE Φ G env a s=.e (.c i) s1):evE Φ G env (.D a) s=.e (.c (-i)) s1:=bnd h rfl
theorem yR(h1:evE Φ G env a s=.e x s1)(h2:evE Φ G env b s1=.e y s2)(h3:binOp m op x y s2=r):evE Φ G env (.j m op a b) s=r:=bnd h1 (bnd h2 h3)
theorem sO(h1:evE Φ G env a s=.e x s1)(h2:evE Φ G env b s1=.e y s2)(h3:zU op x y s2=r):evE Φ G env (.r op a b) s=r:=bnd h1 (bnd h2 h3)
theorem mV(h1:evE Φ G env a s=.e x s1)(h2:evE Φ G env b s1=.e y s2)(h3:wI x y s2=r):evE Φ G env (.z a b) s=r:=bnd h1 (bnd h2 h3)
theorem zE:zV Φ G env .c s=.e [] s:=rfl
theorem zA(h1:evE Φ G env e s=.e v s1)(h2:zV Φ G env es s1=.e vs s2):zV Φ G env (.a e es) s=.e (v::vs) s2:=bnd h1 (bnd h2 rfl)
theorem vy{P:List Val->Sto->Prop}(h:evE Φ G env e s=.e v s1)(k:(zV Φ G env es s1).post λvs s2=>P (v::vs) s2):(zV Φ G env (.a e es) s).post P:=dH.mpr (by rw[h];exact zC.mpr k)
theorem qK(h:zV Φ G env es s=.e vs s1)(hl:vs.length<=zS):evE Φ G env (.y es) s=.e (.f vs) s1:=bnd h (if_pos hl)
theorem pO(h:zV Φ G env es s=.e vs s1)(hl:vs.length<=zS):evE Φ G env (.w false es) s=.e (.h vs) s1:=bnd h (if_pos hl)
theorem xg(h:zV Φ G env es s=.e vs s1)(k:blt f m vs s1=r):evE Φ G env (.l f m es) s=r:=bnd h k
theorem x_call(h:zV Φ G env es s=.e vs s1)(k:Φ f v vs s1=r):evE Φ G env (.h f v es) s=r:=bnd h k
theorem pE(h:evE Φ G env e s=.e v s1)(k:(zX Φ G (env.set i (some v)) cs s1).post P):(zX Φ G env (.e (.k i e) cs) s).post P:=yX.mpr (Zu.mpr (by rw[h];exact zC.mpr k))
theorem WY(h:evE Φ G env e s=.e v s1)(hb:yc (.b is) v env=some env')(k:(zX Φ G env' cs s1).post P):(zX Φ G env (.e (.m is e) cs) s).post P:=yX.mpr (dF.mpr (by rw[h];exact zC.mpr ⟨env',hb,k⟩))
theorem yi(h:evE Φ G env e s=.e v s1)(k:(zX Φ G env cs s1).post P):(zX Φ G env (.e (.d e) cs) s).post P:=yX.mpr (dI.mpr (by rw[h];exact zC.mpr k))
theorem vG(h:evE Φ G env e s=.e v s1)(k:P (.b v) s1):(zX Φ G env (.e (.f e) cs) s).post P:=yX.mpr (Zv.mpr (by rw[h];exact zC.mpr k))
theorem qG(h:evE Φ G env e s=.e v s1)(k:truth s1 v=some b):evT Φ G env (.a e) s=.e b s1:=post_eq.mpr (Zw.mpr (by rw[h];exact zC.mpr ⟨_,k,rfl,rfl⟩))
theorem YB(h:evT Φ G env c s=.e b s1):evT Φ G env (.b c) s=.e (!b) s1:=bnd h rfl
theorem Ts(h:evT Φ G env c s=.e false s1)(k:vY Φ G env cs s1=.e b s2):evT Φ G env (.f c cs) s=.e b s2:=bnd h k
theorem Wn:vY Φ G env .a s=.e false s:=rfl
theorem ZS(h:evT Φ G env c s=.e false s1)(k:vY Φ G env cs s1=.e b s2):vY Φ G env (.b c cs) s=.e b s2:=bnd h k
theorem mK(h:evT Φ G env c s=.e false s1)(k:(zX Φ G env cs s1).post P):(zX Φ G env (.e (.g c a .f) cs) s).post P:=yX.mpr (Xx.mpr (by rw[h];refine zC.mpr ?_;rw[if_neg Ae];exact lV.mpr k))
theorem Z3(h:evT Φ G env c s=.e true s1)(k:(zX Φ G env a s1).post (qI Φ G cs P)):(zX Φ G env (.e (.g c a b) cs) s).post P:=yX.mpr (Xx.mpr (by rw[h];refine zC.mpr ?_;rw[if_pos rfl];exact k))
theorem YF(h:evE Φ G env a s=.e (.e b) s1):evE Φ G env (.E a) s=.e (.e !b) s1:=bnd h rfl
theorem sL(k:P (.a env) s):(zX Φ G env .f s).post P:=lV.mpr k
theorem oM{is:List Nat}{vs:List Val}{P:Fl->Sto->Prop}(hl:vs.length=is.length)(k:P (.a ((is.zip vs).foldl (λe p=>e.set p.1 (some p.2)) env)) s):(if vs.length=is.length then Out.e (Fl.a ((is.zip vs).foldl (λe p=>e.set p.1 (some p.2)) env)) s else .d).post P:=by rw[if_pos hl];exact zC.mpr k
theorem kz{k:Nat}(h:evE Φ G env e s=.e (.c (k:Int)) s1)(hk:k<=zS):yS Φ G env (.d e) s=.e ⟨yH 0 k,none⟩ s1:=by rw[post_eq];refine nj.mpr ?_;rw[h];exact zC.mpr ⟨_,rfl,⟨by omega,by omega⟩,by rw[Cw],rfl⟩
theorem Zn{i j:Nat}(h:evE Φ G env a s=.e (.c (i:Int)) s1)(h':evE Φ G env b s1=.e (.c (j:Int)) s2)(hi:i<=1000)(hj:j<=1000):yS Φ G env (.f a b) s=.e ⟨yH i (j-i),none⟩ s2:=by rw[post_eq];refine nk.mpr ?_;rw[h];refine zC.mpr ?_;rw[h'];exact zC.mpr ⟨_,_,rfl,rfl,⟨by omega,by omega,by omega,by omega,by unfold zS;omega⟩,by congr 2;omega,rfl⟩
theorem jV(he:evE Φ G env e s=.e v s1)(ho:evE Φ G env o s1=.e (.j r) s1)(hi:evE Φ G env i s1=.e (.c k) s1)(hs:s1[r]?=some (.c vs))(hj:L2.ixN vs.length k=some j)
 (q:(zX Φ G env cs (s1.set r (.c (vs.set j v)))).post P):(zX Φ G env (.e (.h o i e) cs) s).post P:=by
 have e0:exS Φ G env (.h o i e) s=.e (.a env) (s1.set r (.c (vs.set j v))):=by show ((evE Φ G env e s).bind _)=_;rw[he,zL,ho,zL,hi,zL];simp only[hs,hj];rfl
 refine yX.mpr ?_;rw[e0];exact zC.mpr q
end
theorem vW(h:v.noRef=true):(z9 false s v s).post λx t=>x=v/\t=s:=by rw[uO h];exact zC.mpr ⟨rfl,rfl⟩
end M
end
section
namespace M
open PySem
noncomputable def zr(l m:Int):Val->Bool
 |.c i=>decide (l<=i)&&decide (i<=m)
 |_=>false
theorem gF(h1:l<=i)(h2:i<=m):zr l m (.c i)=true:=by simp[zr,h1,h2]
def mY(Φ:Calls):Prop:=∀(v:Val) (l m:Int) (s:Sto),kindOf v≠none->Φ "is_whole" 0 [v,.c l,.c m] s=.e (.e (zr l m v)) s
def xn(Φ:Calls):Prop:=∀(i l m:Int) (s:Sto),l<=i->i<=m->Φ "need_whole" 0 [.c i,.c l,.c m] s=.e .g s
def wR(Φ:Calls):Prop:=∀(i:Int) (s:Sto),2<=i->i<=8->Φ "need_size" 0 [.c i] s=.e .g s
def wB(Φ:Calls):Prop:=∀(i:Int) (s:Sto),0<=i->i<=40->Φ "need_length" 0 [.c i] s=.e .g s
def kL(Φ:Calls):Prop:=∀(n i z:Nat) (s:Sto),i<n->2<=z->z<=8->Φ "most_step" 0 [.c n,.c i,.c z] s=.e (.c ((n-1-i)/(z-1):Nat)) s
theorem eP:blt .h m [.r ns] s=.e (.c ns.length) s:=by simp[blt,xa]
theorem le_int:zU .g (.c a) (.c b) s=.e (.e (decide (a<=b))) s:=rfl
theorem lt_int:zU .i (.c a) (.c b) s=.e (.e (decide (a<b))) s:=rfl
theorem ge_int:zU .j (.c a) (.c b) s=.e (.e (decide (b<=a))) s:=rfl
theorem gt_int:zU .h (.c a) (.c b) s=.e (.e (decide (b<a))) s:=rfl
theorem kq{α β:Type}(f:α->β)(xs:List α):xs.flatMap (λx=>[f x])=xs.map f:=by
 induction xs with
 |nil=>rfl
 |cons x xs ih=>simp[ih]
theorem qN:binOp m .a (.c i) (.c j) s=.e (.c (i+j)) s:=by simp only[binOp]
theorem mh:binOp m .c (.c i) (.c j) s=.e (.c (i-j)) s:=by simp only[binOp]
theorem kU(h:-1000000<=i/\i<=1000000):binOp m .b (.c i) (.c j) s=.e (.c (i*j)) s:=by simp only[binOp];rw[if_pos (.inl (by omega))]
theorem gb(h:-1000000<=j/\j<=1000000):binOp m .b (.c i) (.c j) s=.e (.c (i*j)) s:=by simp only[binOp];rw[if_pos (.inr (by omega))]
section
variable {T:Tbl}{Φ:Calls}{s:Sto}
theorem fg(h:kindOf v=some a)(h':td n=some c):blt .j m [v,.t n] s=.e (.e (a.sub c)) s:=by simp only[blt];rw[h,h']
theorem XZ(h:kindOf v=some a):(∃i,v=.c i)\/(∃b,v=.e b)\/(a.sub .b=false/\∀l m,zr l m v=false):=by
 cases v with
 |c i=>exact .inl ⟨i,rfl⟩
 |e b=>exact .inr (.inl ⟨b,rfl⟩)
 |_=>cases h<;>exact .inr (.inr ⟨rfl,λ_ _=>rfl⟩)
theorem aF(h:kindOf v≠none):∃a,kindOf v=some a:=Option.ne_none_iff_exists'.mp h
theorem i7(hk:kindOf v≠none):run T Φ F.xJ [v,.c l,.c m] s=.e (.e (zr l m v)) s:=by
 obtain⟨a,ha⟩:=aF hk;have e1:=fg (m:=false) (s:=s) ha (show td "int"=some .b from rfl);have e2:=fg (m:=false) (s:=s) ha (show td "bool"=some .i from rfl);have end':∀{b:Bool},b=zr l m v->(z9 false s (.e b) s).post λx t=>x=.e (zr l m v)/\t=s:=λ{b} e=>by rw[uO vx,e];exact zC.mpr ⟨rfl,rfl⟩
 rw[post_eq,F.xJ,wb];refine⟨rfl,?_⟩;show (zX Φ T.b [some v,some (.c l),some (.c m)] _ s).post _;rcases XZ ha with⟨i,rfl⟩|⟨b,rfl⟩|⟨h1,h2⟩
 . cases ha
   have hc:evE Φ T.b [some (.c i),some (.c l),some (.c m)] (.s .g .g (.e 1) (.e 0) (.e 2)) s=.e (.e (zr l m (.c i))) s:=by
    refine bnd (zD rfl) (bnd (zD rfl) (bnd le_int ?_));show (match Val.e (decide (l<=i)) with
     |.e true=>(evE Φ T.b [some (.c i),some (.c l),some (.c m)] (.e 2) s).bind λz s4=>zU .g (.c i) z s4
     |.e false=>.e (.e false) s
     |_=>.d)=Out.e (.e (decide (l<=i)&&decide (i<=m))) s
    cases decide (l<=i) with
    |true=>exact bnd (zD rfl) le_int
    |false=>rfl
   exact vG (cy (xg (zA (zD rfl) (zA cz zE)) e1) (YF (xg (zA (zD rfl) (zA cz zE)) e2)) hc) (end' rfl)
 . cases ha
   exact vG (Wx (xg (zA (zD rfl) (zA cz zE)) e1) (YF (xg (zA (zD rfl) (zA cz zE)) e2))) (end' rfl)
 . rw[h1]at e1
   exact vG (Ww (xg (zA (zD rfl) (zA cz zE)) e1)) (end' (h2 _ _).symm)
theorem qQ(c:mY Φ)(h1:l<=i)(h2:i<=m):run T Φ F.zv [.c i,.c l,.c m] s=.e .g s:=by rw[post_eq];simp[F.zv,EVl,za,zZ,c (.c i) l m s (by simp[kindOf]),gF h1 h2]
theorem cI{n i z:Nat}(h1:i<n)(h2:2<=z)(h3:z<=8):run T Φ F.yw [.c n,.c i,.c z] s=.e (.c ((n-1-i)/(z-1):Nat)) s:=by
 rw[post_eq];have a1:(0:Int)<(z:Int)-1/\(z:Int)-1<1073741824:=by omega
 have a2:((n:Int)-1-(i:Int))/((z:Int)-1)=(((n-1-i)/(z-1):Nat):Int):=by rw[Int.natCast_ediv];congr 1<;>omega
 simp[F.yw,EVl,za,zZ,binOp];refine⟨by omega,?_⟩
 rw[a2];simp
end
end M
end
section
namespace M
open PySem
noncomputable def yF(r:Nat × Nat):Val:=.f [.c r.1,.c r.2]
theorem uu(h:x∈yH lo n):∃k:Nat,k<n/\x=.c (lo+k):=by unfold yH at h;obtain⟨k,h1,rfl⟩:=BL.mp h;exact⟨k,Cy.mp h1,rfl⟩
theorem fh{k:Nat}(h:vs[k]?=some v):wI (.f vs) (.c k) s=.e v s:=by simp[wI,xa,L2.sS h]
end M
end
section
namespace M
open PySem
noncomputable abbrev tpI(ns:List Int):Val:=.f (ns.map .c)
end M
end
section
namespace M
open PySem
theorem nX(rs:List (Nat × Nat)):zq (rs.map yF)=true:=by have:=uQ (rs.map toI);rw[Ck]at this;exact this
end M
end
section
namespace M
open PySem
noncomputable def u7(a b:Int):Cel:=.c [.c a,.c b]
def vP(s:Sto)(p:Nat):Prop:=∃a b,s[p]?=some (u7 a b)/\0<=b/\b<2147483629
def xR(s:Sto)(p:Nat)(s':Sto):Prop:=∃a b,s'=s.set p (u7 a b)/\0<=b/\b<2147483629
theorem vP.lt(h:vP s p):p<s.length:=by obtain⟨a,b,h,_⟩:=h;exact(Am.mp h).1
theorem xR.at_(h:xR s p s')(hp:p<s.length):vP s' p:=by obtain⟨a,b,rfl,h1⟩:=h;exact⟨a,b,Ar hp,h1⟩
theorem xR.trans(h:xR s p s1)(k:xR s1 p s2):xR s p s2:=by obtain⟨a,b,rfl,h1⟩:=h;obtain⟨c,d,rfl,h2⟩:=k;exact⟨c,d,by rw[List.set_set],h2⟩
theorem iJ(h:xR s p s')(hv:v.noRef=true):z9 false s v (s'++t)=.e v s':=by obtain⟨a,b,rfl,_⟩:=h;exact lF hv rfl
theorem uN(h:xR s p s')(hv:v.noRef=true):z9 false s v s'=.e v s':=by
 have:=iJ (t:=[]) h hv
 rwa [AY]at this
theorem bmod(h:0<j):binOp m .d (.c i) (.c j) s=.e (.c (i%j)) s:=by simp only[binOp];rw[if_pos h]
theorem bdiv(h:0<j/\j<1073741824):binOp m .e (.c i) (.c j) s=.e (.c (i/j)) s:=by simp only[binOp];rw[if_pos h]
theorem Ys{k:Nat}(h:vs[k]?=some v):wI (.h vs) (.c k) s=.e v s:=by simp[wI,xa,L2.sS h]
theorem Yt{i k:Nat}(hs:s[i]?=some (.c vs))(h:vs[k]?=some v):wI (.j i) (.c k) s=.e v s:=by simp[wI,xa,hs,L2.sS h]
section
variable {T:Tbl}{Φ:Calls}{s:Sto}
def ZY(Φ:Calls):Prop:=∀(ns:List Int) (k:Nat) (s:Sto),∃c,Φ "_law_cell_at" 0 [.r ns,.c k] s=.e (.c c) s
def Wz(Φ:Calls):Prop:=∀(c:Int) (s:Sto),∃a b,Φ "_law_pen" 1 [.c c] s=.e (.j s.length) (s++[u7 a b])/\0<=b/\b<2147483629
def gH(Φ:Calls):Prop:=∀(p:Nat) (m:Int) (s:Sto),vP s p->0<m->m<1000000->(Φ "_law_draw" 0 [.j p,.c m] s).post λv s'=>∃r:Nat,v=.c r/\(r:Int)<m/\xR s p s'
theorem cG ns(k:Nat):∃c,run T Φ F.yC [.r ns,.c k] s=.e (.c c) s:=by
 by_cases h:k<ns.length
 . refine⟨ns[k],?_⟩
   rw[post_eq];have h':(k:Int)<ns.length:=by omega
   have e:(ns.map Val.c)[k]?=some (.c ns[k]):=by rw[A5,Ak h];rfl
   have c1:wI (.r ns) (.c k) s=.e (.c ns[k]) s:=by simp[wI,xa,L2.sS e]
   simp[F.yC,EVl,za,zZ,eP,lt_int,h',h,c1]
 . refine⟨0,?_⟩
   rw[post_eq];have h':¬(k:Int)<ns.length:=by omega
   simp[F.yC,EVl,za,zZ,eP,lt_int,h',h]
theorem az c:∃a b,run T Φ F.yJ [.c c] s=.e (.j s.length) (s++[u7 a b])/\0<=b/\b<2147483629:=by
 have key:(run T Φ F.yJ [.c c] s).post λv s'=>∃a b,v=.j s.length/\s'=s++[u7 a b]/\0<=b/\b<2147483629:=by
  have c1:∀(i:Int) (b:Bool),binOp false .b (.c i) (.c (if b then 1 else 0)) s=.e (.c (i*(if b then 1 else 0))) s:=λi b=>gb (by cases b<;>simp)
  have c2:∀i:Int,binOp false .d (.c i) (.c 2147483629) s=.e (.c (i%2147483629)) s:=λi=>by simp[binOp]
  have c3:binOp false .f (.c 10) (.c 18) s=.e (.c (10 ^ 18)) s:=by simp[binOp]
  simp[F.yJ,EVl,za,zZ,mh,blt];simp[EVl,za,zZ,c1,c2,c3,ge_int,blt,zS,newList,u7];rw[gb (by split<;>omega)]
  simp only[zC];rw[bmod (by omega)]
  simp only[zC];exact⟨trivial,_,_,⟨trivial,rfl,rfl⟩,Fw _ (by omega),Ep _ (by omega)⟩
 obtain⟨v,s',h,a,b,rfl,rfl,h1⟩:=key;exact⟨a,b,h,h1⟩
theorem cH(hp:vP s p)(h0:0<m)(h1:m<1000000):(run T Φ F.yd [.j p,.c m] s).post λv s'=>∃r:Nat,v=.c r/\(r:Int)<m/\xR s p s':=by
 have hpl:=hp.lt;obtain⟨a,b,hs,hb,hb1⟩:=hp;have ix:∀{s:Sto} {a b:Int} {k:Nat} {v:Val},s[p]?=some (u7 a b)->[Val.c a,.c b][k]?=some v->wI (.j p) (.c k) s=.e v s:=λh h'=>Yt h h';have fin':∀{x:Int} {s':Sto},xR s p s'->(z9 false s (.c (x%m)) s').post λv s'=>∃r:Nat,v=.c r/\(r:Int)<m/\xR s p s':=λ{x s'} t=>by
  rw[uN t wz];have h3:=Fw x (show m≠0 by omega)
  have h4:=Ep x h0;exact zC.mpr ⟨(x%m).toNat,by congr 1;omega,by omega,t⟩
 rw[F.yd,wb];refine⟨rfl,?_⟩;show (zX Φ T.b [some (.j p),some (.c m),none,none,none] _ s).post _;have tc:evT Φ T.b [some (.j p),some (.c m),none,none,none] (.a (.r .h (.z (.e 0) (.g (.c 0))) (.g (.c 0)))) s=.e (decide (0<a)) s:=qG (sO (mV (zD rfl) zQ (ix (k:=0) hs rfl)) zQ gt_int) wF;cases hd:decide (0<a) with
 |true=>
  rw[hd]at tc;refine Z3 tc (WY (env':=[some (.j p),some (.c m),some (.c (a/m)),some (.c (a%m)),none]) (xg (zA (mV (zD rfl) zQ (ix (k:=0) hs rfl)) (zA (zD rfl) zE)) (show blt .b false [.c a,.c m] s=.e (.f [.c (a/m),.c (a%m)]) s by simp only[blt];rw[if_pos ⟨h0,by omega⟩])) rfl ?_)
  exact jV (j:=0) (zD rfl) (zD rfl) zQ hs rfl (vG (zD rfl) (fin' ⟨a/m,b,rfl,hb,hb1⟩))
 |false=>
  rw[hd]at tc;refine mK tc ?_;refine jV (j:=1) (yR (yR (yR (mV (zD rfl) zQ (ix (k:=1) hs rfl)) zQ (gb (by omega))) zQ qN) zQ (bmod (by omega))) (zD rfl) zQ hs rfl ?_
  generalize hx:(b*48271+30269)%2147483629=x;have x0:0<=x:=by rw[<-hx];exact Fw _ (by omega)
  have x1:x<2147483629:=by rw[<-hx];exact Ep _ (by omega)
  have hs':(s.set p (u7 a x))[p]?=some (u7 a x):=Ar hpl;show (zX Φ T.b [some (.j p),some (.c m),none,none,none] _ (s.set p (u7 a x))).post _;refine pE (yR (yR (yR (yR (mV (zD rfl) zQ (ix (k:=1) hs' rfl)) (mV (zD rfl) zQ (ix (k:=1) hs' rfl)) (show binOp false .b (.c x) (.c x) _=_ by simp only[binOp];rw[if_pos (.inl (by omega))])) (yR zQ (mV (zD rfl) zQ (ix (k:=1) hs' rfl)) (kU (by omega))) qN) zQ qN) zQ (bmod (by omega))) ?_
  exact vG (yR (yR (zD rfl) zQ (bdiv ⟨by omega,by omega⟩)) (zD rfl) (bmod h0)) (fin' ⟨a,x,rfl,x0,x1⟩)
end
end M
end
section
namespace M
open PySem
theorem iK(h:zq vs=true):z9 false s (.j s.length) (s++[.c vs])=.e (.h vs) s:=lD (Ab _) (by simp) h
theorem kR(h:vs.length<zS):xk .a (.j s.length) [y] (s++[.c vs])=.e .g (s++[.c (vs++[y])]):=by simp[xk,h,upd]
section
variable {T:Tbl}{Φ:Calls}{s:Sto}
theorem ax lo n:(yH lo n).length=n:=by unfold yH;rw[Ad,Bt]
def gI(Φ:Calls):Prop:=∀(n z:Nat) (s:Sto),n<=40->2<=z->z<=8->Φ "_law_rows" 0 [.c n,.c z] s=.e (.h ((zp n z).map yF)) s
def kM(Φ:Calls):Prop:=∀(r:Nat × Nat) (z:Nat) (s:Sto),z<=8->r.2<=1000->Φ "_law_places" 0 [yF r,.c z] s=.e (.h ((xC r.1 r.2 z).map .c)) s
theorem ly{z:Nat}(hz:z<=8)(hr:r.2<=1000):run T Φ F.yZ [yF r,.c z] s=.e (.h ((xC r.1 r.2 z).map .c)) s:=by
 rw[post_eq];simp[F.yZ,EVl,za,zZ];refine dG (λe=>∃o,e=[o,some (yF r)]) (λx=>match x with|.c k=>[.c (r.1+k*r.2)]|_=>[]) ?_
 simp[EVl,za,zZ];refine⟨by unfold zS;omega,?_,?_⟩
 . intro x hx
   obtain⟨k,hk,rfl⟩:=uu hx;have c0:wI (yF r) (.c 0) s=.e (.c r.1) s:=fh (k:=0) rfl;have c1:wI (yF r) (.c 1) s=.e (.c r.2) s:=fh (k:=1) rfl;rw[c0];simp only[zC];rw[c1];simp only[zC];rw[kU (by omega)];simp[EVl,za,zZ,qN]
 . have:(yH 0 z).flatMap (λx=>match x with|.c k=>[Val.c (r.1+k*r.2)]|_=>[])=(xC r.1 r.2 z).map .c:=by unfold yH xC;rw[CJ,Ck,<-kq];congr 1;funext k;simp
   rw[this];simp[EVl,za,zZ,newList]
theorem d9 lo k:yH lo (k+1)=.c lo::yH (lo+1) k:=by
 unfold yH;rw[DB,A4,Ck];congr 1
 . simp
 . refine CU λj _=>?_
   show Val.c (lo+((j+1:Nat):Int))=Val.c (lo+1+(j:Int));congr 1;omega
theorem pD(h:x::rest=yH lo k):∃k',k=k'+1/\x=.c lo/\rest=yH (lo+1) k':=by
 cases k with
 |zero=>simp[yH]at h
 |succ k=>
  rw[d9]at h;injection h with h1 h2
  exact⟨k,rfl,h1,h2⟩
theorem jU(h:[]=yH lo k):k=0:=by have:=congrArg Ei h;rw[ax]at this;exact this.symm
theorem filter_lt(h:K<=m):(Ax m).filter (λj=>decide (j<K))=Ax K:=by
 obtain⟨t,rfl⟩:=Nat.exists_eq_add_of_le h;rw[List.range_add,List.filter_append,List.filter_eq_self.mpr (λa ha=>by simpa using ha)]
 rw[List.filter_eq_nil_iff.mpr,AY];intro a ha;obtain⟨j,_,rfl⟩:=BL.mp ha;simp
theorem i5{n z:Nat}(hn:n<=40)(hz:2<=z)(hz8:z<=8):run T Φ F.yv [.c n,.c z] s=.e (.h ((zp n z).map yF)) s:=by
 rw[post_eq,F.yv,wb];refine⟨rfl,?_⟩;show (zX Φ T.b [some (.c n),some (.c z),none,none,none] _ s).post _;refine pE (v:=.j s.length) (s1:=s++[.c []]) (bnd zE rfl) ?_;refine yX.mpr (oI (λrest e s'=>∃i o3 o4,i<=n/\rest=yH i (n-i)/\e=[some (.c n),some (.c z),some (.j s.length),o3,o4]/\s'=s++[.c (((Ax i).flatMap (vJ n z)).map yF)]) (yH 0 n) (s1:=s++[.c []]) (kz (zD rfl) (by unfold zS;omega)) ⟨0,_,_,by omega,rfl,rfl,rfl⟩ ?_ ?_)
 . rintro x rest e s' ⟨i,o3,o4,hi,hr,rfl,rfl⟩
   obtain⟨k,hk,rfl,rfl⟩:=pD hr;refine⟨_,rfl,?_⟩;have hK:(n-1-i)/(z-1)<=n-1:=Az (Fu _ _) (by omega)
   have hrow:vJ n z i=(Ax ((n-1-i)/(z-1))).map λj=>(i,j+1):=rfl;generalize hKd:(n-1-i)/(z-1)=K at *;refine yX.mpr (oI (λrest e s'=>∃j o4,j<=n-1/\rest=yH (1+(j:Int)) (n-1-j)/\e=[some (.c n),some (.c z),some (.j s.length),some (.c i),o4]/\s'=s++[.c (((Ax i).flatMap (vJ n z)++((Ax j).filter λj=>decide (j<K)).map λj=>(i,j+1)).map yF)]) (yH ((1:Nat):Int) (n-1)) (s1:=s++[.c (((Ax i).flatMap (vJ n z)).map yF)]) (Zn (i:=1) zQ (zD rfl) (by omega) (by omega)) ⟨0,_,by omega,rfl,rfl,by rw[List.range_zero,Fx,CB,AY]⟩ ?_ ?_)
   . rintro x rest e s' ⟨j,o4,hj,hr,rfl,rfl⟩
     obtain⟨k',hk',rfl,rfl⟩:=pD hr;refine⟨_,rfl,?_⟩;have hlen:((Ax i).flatMap (vJ n z)).length<=i*n:=ph n z i;have hin:i*n<=40*40:=Dk (by omega) hn
     have hfl:((Ax j).filter λj=>decide (j<K)).length<=j:=by
      have:=List.length_filter_le (λj=>decide (j<K)) (Ax j)
      rwa [Bt]at this
     have key:((i:Int)+((z:Int)-1)*(1+(j:Int))<(n:Int))↔j<K:=by
      have:=Yp (n:=n) (z:=z) (i:=i) (j:=j) (by omega) hz
      rw[hKd]at this
      rwa [Dh]at this
     have er:(Ax (j+1)).filter (λj=>decide (j<K))=(Ax j).filter (λj=>decide (j<K))++if j<K then [j] else []:=by
      rw[Fv,List.filter_append];congr 1;by_cases h:j<K
      . rw[if_pos h,Fh,if_pos (decide_eq_true h),Fx]
      . rw[if_neg h,Fh,if_neg (by rw[decide_eq_false h];exact Ae),Fx]
     have tt:∀S:Sto,evT Φ T.b [some (.c (n:Int)),some (.c (z:Int)),some (.j s.length),some (.c (i:Int)),some (.c (1+(j:Int)))] (.a (.r .i (.j false .a (.e 3) (.j false .b (.j false .c (.e 1) (.g (.c 1))) (.e 4))) (.e 0))) S=.e (decide ((i:Int)+((z:Int)-1)*(1+(j:Int))<(n:Int))) S:=λS=>qG (sO (yR (zD rfl) (yR (yR (zD rfl) zQ mh) (zD rfl) (kU (by omega))) qN) (zD rfl) lt_int) wF
     by_cases h:j<K
     . have ht:=tt (s++[.c (((Ax i).flatMap (vJ n z)++((Ax j).filter λj=>decide (j<K)).map λj=>(i,j+1)).map yF)])
       rw[decide_eq_true (key.mpr h)]at ht;refine Z3 ht (yi (bnd (zD rfl) (bnd (zA (qK (zA (zD rfl) (zA (zD rfl) zE)) (show 2<=zS by unfold zS;omega)) zE) (kR (by rw[Ad,Av,Ad];unfold zS;omega)))) (sL (sL ⟨j+1,_,by omega,by congr 1<;>omega,rfl,?_⟩)))
       have hm:∀(A:List (Nat × Nat)) (F:List Nat),(A++(F++[j]).map λj=>(i,j+1)).map yF=(A++F.map λj=>(i,j+1)).map yF++[Val.f [.c (i:Int),.c ((j+1:Nat):Int)]]:=λA F=>by rw[C0 (l₁:=F),<-Bk,C0];rfl
       rw[er,if_pos h,hm,show (1:Int)+(j:Int)=((j+1:Nat):Int) by omega]
     . have ht:=tt (s++[.c (((Ax i).flatMap (vJ n z)++((Ax j).filter λj=>decide (j<K)).map λj=>(i,j+1)).map yF)])
       rw[decide_eq_false λq=>h (key.mp q)]at ht;refine mK ht (sL ⟨j+1,_,by omega,by congr 1<;>omega,rfl,?_⟩)
       rw[er,if_neg h,AY]
   . rintro e s' ⟨j,o4,hj,hr,rfl,rfl⟩
     have:=jU hr;have hj:j=n-1:=by omega
     subst hj;rw[filter_lt hK];refine sL ⟨i+1,_,_,by omega,by congr 1<;>omega,rfl,?_⟩
     rw[Fv,List.flatMap_append,List.flatMap_singleton,hrow]
 . rintro e s' ⟨i,o3,o4,hi,hr,rfl,rfl⟩
   have:=jU hr;have hi:i=n:=by omega
   subst hi;refine vG (zD rfl) ?_;show (z9 false s _ _).post _;rw[iK (nX _)];exact zC.mpr ⟨rfl,rfl⟩
end
end M
end
section
namespace M
open PySem
noncomputable def Tz(bad:Int->Bool):Val->List Val
 |.c x=>if bad x then [.c x] else []
 |_=>[]
section
variable {Φ:Calls}{G:Str->Option Val}{env:Env}{s:Sto}
noncomputable def WV(f:Nat->Int):Val->List Val
 |.c k=>[.c (f k.toNat)]
 |_=>[]
theorem cA:(yH 0 n).flatMap (WV f)=((Ax n).map f).map .c:=by
 unfold yH;rw[CJ,Ck];have:(λ(k:Nat)=>WV f (.c (0+(k:Int))))=λk=>[(Val.c∘f) k]:=by funext k;show [Val.c (f (0+(k:Int)).toNat)]=_;rw[Dh,Cw];rfl
 rw[this,kq]
theorem U3(hi:yS Φ G env it s=.e ⟨yH 0 n,none⟩ s)(h0:zZ fr env=none::e0)(h:∀k (o:Option Val),k<n->evE Φ G (some (.c k)::e0) elt s=.e (.c (f k)) s)(hl:n<=zS):evE Φ G env (.q false N fr elt (.a 0) it .a) s=.e (.h (((Ax n).map f).map .c)) s:=by
 rw[post_eq];refine jM (λe=>∃o,e=o::e0) (WV f) (yH 0 n) (s1:=s) hi ⟨none,h0⟩ ?_ ?_
 . rintro x hx e ⟨o,rfl⟩
   obtain⟨k,hk,rfl⟩:=uu hx;refine⟨_,rfl,⟨_,rfl⟩,uy.mpr ⟨rfl,?_⟩⟩;rw[if_pos rfl,Dh];show (evE Φ G (some (.c (k:Int))::e0) elt s).post _;rw[h k none hk];refine zC.mpr ⟨rfl,?_⟩;show [Val.c (f (k:Int).toNat)]=_;rw[Cw]
 . rw[cA]
   exact zC.mpr ⟨rfl,rfl⟩
end
end M
end
section
namespace M
open PySem
noncomputable def i4(r:Nat × Nat):PyData:=.tuple [.int r.1,.int r.2]
theorem tv(L:L2.sy k w d)(hk:k<=50)(hw:w<=300000)(hd:d.hasDict=false):vh d=true:=by
 have:=L.a;have:=L.f;unfold vh;rw[L.c,L.b,hd,decide_eq_true (show d.depth<=50 by omega),decide_eq_true (show d.weight<=300000 by omega)]
 rfl
theorem eU(h:r.1<=1000/\r.2<=1000):L2.sy 1 202 (i4 r):=by
 have:=L2.rg (k:=0) (w:=100) (n:=2) (ds:=[.int (r.1:Int),.int (r.2:Int)]) (λd hd=>by
  simp only[As,BO,or_false]at hd;rcases hd with e|e
  . rw[e];exact L2.ur (by omega) (by omega)
  . rw[e];exact L2.ur (by omega) (by omega)) (Ab 2)
 exact this
theorem lL r:(i4 r).hasDict=false:=by show Eh (.tuple [.int r.1,.int r.2])=false;simp[Eh,ES]
theorem kh:∀rs:List (Nat × Nat),ds (rs.map yF)=rs.map i4
 |[]=>by rw[CB,ds];rfl
 |r::rs=>by rw[A4,ds,kh rs,yF,Val.d,ds,ds,ds,Val.d,Val.d];rfl
theorem kg:∀ks:List Int,ds (ks.map .c)=ks.map FU
 |[]=>by rw[CB,ds];rfl
 |k::ks=>by rw[A4,ds,kg ks,Val.d];rfl
theorem qo:∀rs:List (Nat × Nat),vI (rs.map yF)=true
 |[]=>by rw[CB,vI]
 |r::rs=>by rw[A4,vI,qo rs,yF,Val.isR,vI,vI,vI,Val.isR,Val.isR];rfl
theorem qm:∀ks:List Int,vI (ks.map .c)=true
 |[]=>by rw[CB,vI]
 |k::ks=>by rw[A4,vI,qm ks,Val.isR];rfl
theorem pC{rs:List (Nat × Nat)}(hx:zt s x=.h (rs.map yF))(h1:rs.length<=1000)(h2:∀r∈rs,r.1<=1000/\r.2<=1000):blt .a m [x] s=.e (.m (PyData.list (rs.map i4)).shown) s:=by
 have hd:(Val.h (rs.map yF)).d=.list (rs.map i4):=by rw[Val.d,kh]
 have hr:(Val.h (rs.map yF)).isR=true:=by rw[Val.isR];exact qo rs
 have ok:vh (.list (rs.map i4))=true:=tv (L2.iI (n:=1000) (k:=1) (w:=202) (λd hd=>by obtain⟨r,hr,rfl⟩:=BL.mp hd;exact eU (h2 r hr)) (by rw[Ad];exact h1)) (by decide) (by decide) (by rw[Eh];exact L2.tm λd hd=>by obtain⟨r,hr,rfl⟩:=BL.mp hd;exact lL r)
 simp only[blt];rw[hx,hd,hr,ok];rfl
theorem aw(h1:ks.length<=1000)(h2:∀k∈ks,0<=k/\k<=100000):blt .a m [tpI ks] s=.e (.m (PyData.tuple (ks.map FU)).shown) s:=by
 have hd:(Val.f (ks.map .c)).d=.tuple (ks.map FU):=by rw[Val.d,kg]
 have hr:(Val.f (ks.map .c)).isR=true:=by rw[Val.isR];exact qm ks
 have ok:vh (.tuple (ks.map FU))=true:=tv (L2.rg (n:=1000) (k:=0) (w:=100) (λd hd=>by obtain⟨r,hr,rfl⟩:=BL.mp hd;exact L2.ur (by have:=h2 r hr;omega) (by have:=h2 r hr;omega)) (by rw[Ad];exact h1)) (by decide) (by decide) (by rw[Eh];exact L2.tm λd hd=>by obtain⟨r,hr,rfl⟩:=BL.mp hd;rfl)
 have hx:zt s (tpI ks)=.f (ks.map .c):=by show Val.f ((ks.map Val.c).map (yk s))=_;rw[Ck];rfl
 simp only[blt];rw[hx,hd,hr,ok];rfl
theorem max2:blt .i m [.c i,.c j] s=.e (.c (if j > i then j else i)) s:=rfl
theorem min2:blt .l m [.c i,.c j] s=.e (.c (if j<i then j else i)) s:=rfl
theorem fP{K:Nat}(h0:env[0]?=some (some (.r ns)))(hK:K<=100) :
 yS Φ G env (.d (.l .i false (.a (.g (.c 1)) (.a (.l .l false (.a (.l .h false (.a (.e 0) .c)) (.a (.g (.c K)) .c))) .c)))) s=.e ⟨yH 0 (max 1 (min ns.length K)),none⟩ s:=by
 rw[post_eq];simp only[EVl,za,zZ];refine⟨_,h0,?_⟩;rw[eP];simp only[zC];rw[min2];simp only[zC];rw[max2];simp only[zC];have e:(if (if (K:Int)<(ns.length:Int) then (K:Int) else (ns.length:Int)) > 1 then (if (K:Int)<(ns.length:Int) then (K:Int) else (ns.length:Int)) else 1)=((max 1 (min ns.length K):Nat):Int):=by split<;>split<;>omega
 rw[e];refine⟨_,rfl,⟨by omega,by unfold zS;omega⟩,?_⟩
 simp
end M
end
section
namespace M
open PySem
def endOf(ms:List Int)(st:List (Nat × Nat)):List Int:=st.foldl (λms q=>putL ms q.1 q.2) ms
def SO(zs:List Int):List Int->List (Nat × Nat)->Prop
 |_,[]=>True
 |ms,(p,h)::st=>ms[p]?=some (-1)/\V0 zs ms p=[h]/\SO zs (putL ms p h) st
theorem SO.append:∀{st st'} {ms},SO zs ms st->SO zs (endOf ms st) st'->SO zs ms (st++st')
 |[],_,_,_,h=>h
 |(p,h)::st,st',ms,⟨a,b,c⟩,d=>⟨a,b,SO.append c d⟩
end M
end
section
namespace M
open PySem
structure Th(k w:Nat)(v:Val):Prop where
 nr:v.noRef=true
 kd:kindOf v≠none
 r:v.isR=true
 lf:L2.sy k w v.d
 nd:v.d.hasDict=false
 dr:∀s,yk s v=v
theorem Wm(h1:-(10 ^ 30)<i)(h2:i<10 ^ 30):Th 0 100 (.c i):=⟨wz,nofun,by rw[Val.isR],by rw[Val.d];exact L2.ur h1 h2,by rw[Val.d];rfl,λ_=>rfl⟩
end M
end
section
namespace M
open PySem
theorem mU:zr l m (.c i)=(decide (l<=i)&&decide (i<=m)):=rfl
end M
end
section
namespace F75
open PySem M
noncomputable def yd:Fn:=⟨["_law_pen_here","_law_bound","_law_found","_law_stir"],["_law_pen_here","_law_bound"],false,(.e (.g (.d (.a (.r .a (.z (.e 0) (.g (.c 1))) (.g (.c 1)))) (.b (.a (.r .h (.z (.e 0) (.g (.c 0))) (.g (.c 0)))) .a)) (.e (.k 2 (.j false .d (.z (.e 0) (.g (.c 0))) (.e 1))) (.e (.h (.e 0) (.g (.c 0)) (.j false .e (.z (.e 0) (.g (.c 0))) (.e 1))) (.e (.f (.e 2)) .f))) .f) (.e (.h (.e 0) (.g (.c 2)) (.j false .a (.z (.e 0) (.g (.c 2))) (.g (.c 1)))) (.e (.k 3 (.j false .d (.j false .b (.j false .a (.z (.e 0) (.g (.c 3))) (.g (.c 17))) (.j false .a (.g (.c 69621)) (.j false .b (.g (.c 2)) (.z (.e 0) (.g (.c 2)))))) (.g (.c 2147483647)))) (.e (.k 3 (.j false .d (.j false .a (.j false .a (.j false .b (.e 3) (.e 3)) (.j false .b (.g (.c 40503)) (.z (.e 0) (.g (.c 2))))) (.g (.c 5))) (.g (.c 2147483629)))) (.e (.f (.j false .d (.j false .e (.j false .d (.j false .b (.e 3) (.g (.c 48271))) (.g (.c 2147483647))) (.g (.c 32))) (.e 1))) .f)))))⟩
noncomputable def yJ:Fn:=⟨["_law_cell"],["_law_cell"],true,(.e (.f (.w true (.a (.e 0) (.a (.l .o false (.a (.r .j (.e 0) (.j false .f (.g (.c 10)) (.g (.c 18)))) .c)) (.a (.g (.c 0)) (.a (.j false .d (.e 0) (.g (.c 1000000007))) .c)))))) .f)⟩
noncomputable def ya:Fn:=⟨["length","size"],["length","size"],false,(.e (.d (.h "need_length" 0 (.a (.e 0) .c))) (.e (.d (.h "need_size" 0 (.a (.e 1) .c))) (.e (.f (.p false ["first","step","length","size"] [none,none,some 0,some 1] (.y (.a (.e 0) (.a (.e 1) .c))) (.a 0) (.d (.e 0)) .a (.a 1) (.f (.g (.c 1)) (.j false .a (.h "most_step" 0 (.a (.e 2) (.a (.e 0) (.a (.e 3) .c)))) (.g (.c 1)))) .a)) .f)))⟩
end F75
end
section
namespace M
open PySem
noncomputable def UO(a b c d:Int):Cel:=.c [.c a,.c b,.c c,.c d]
def U6(s:Sto)(p:Nat):Prop:=∃a b c d,s[p]?=some (UO a b c d)/\0<=d/\d<1000000007
def W3(s:Sto)(p:Nat)(s':Sto):Prop:=∃a b c d,s'=s.set p (UO a b c d)/\0<=d/\d<1000000007
theorem W3.at_(h:W3 s p s')(hp:p<s.length):U6 s' p:=by obtain⟨a,b,c,d,rfl,h1⟩:=h;exact⟨a,b,c,d,Ar hp,h1⟩
end M
end
section
namespace M
open PySem
theorem nZ:∀{vs},(∀v∈vs,v.noRef=true)->zq vs=true
 |[],_=>ux
 |v::vs,h=>by rw[wZ,h v (.head _),nZ λw hw=>h w (.tail _ hw)];rfl
noncomputable def Zi(st:List Int):List Nat:=(Ax st.length).filter λp=>decide (st[p]?=some 0)
section
variable {T:Tbl}{Φ:Calls}{s:Sto}
def riG(n z:Nat):Val->List Val
 |.c f=>(vJ n z f.toNat).map yF
 |_=>[]
end
end M
end
section
namespace M
open PySem
theorem fT:∀st,(Zi st).length=st.count 0
 |[]=>rfl
 |a::st=>by
  have ih:=fT st;unfold Zi at ih ⊢;rw[AM,DB,Fh,List.filter_map,List.count_cons];have e:((λp=>decide ((a::st)[p]?=some 0))∘Nat.succ)=λp=>decide (st[p]?=some 0):=by funext p;rfl
  rw[e];have e0:decide ((a::st)[0]?=some 0)=(a == 0):=by
   show decide (some a=some 0)=(a == 0);by_cases h:a=0
   . subst h;rfl
   . rw[decide_eq_false (λq=>h (AW q))];simp[h]
  rw[e0];cases a == 0 with
  |true=>simp[ih]
  |false=>simp[ih]
theorem nK:∀ns:List Int,intsOf (ns.map .c)=some ns
 |[]=>rfl
 |n::ns=>by show (intsOf (ns.map .c)).map _=_;rw[nK ns];rfl
end M
end
section
namespace F14
open PySem M
noncomputable def yK:Fn:=⟨["thing"],["thing"],false,(.e (.d (.h "need_whole" 0 (.a (.e 0) (.a (.g (.c 0)) (.a (.F "MOST_PLACES") .c))))) .f)⟩
noncomputable def yT:Fn:=⟨["thing"],["thing"],false,(.e (.d (.h "need_whole" 0 (.a (.e 0) (.a (.g (.c 1)) (.a (.F "MOST_PLACES") .c))))) .f)⟩
end F14
end
section
namespace M
open PySem
theorem Xi ns:(tpI ns).noRef=true:=vf ns
section
variable {T:Tbl}{Φ:Calls}{s:Sto}
def sr(Φ:Calls):Prop:=∀(i:Int) (s:Sto),0<=i->i<=40->Φ "need_first" 0 [.c i] s=.e .g s
def qV(Φ:Calls):Prop:=∀(i:Int) (s:Sto),1<=i->i<=40->Φ "need_step" 0 [.c i] s=.e .g s
end
end M
end
section
namespace F08
open PySem M
noncomputable def zo:Fn:=⟨["first","step","size"],["first","step","size"],false,(.e (.d (.h "need_first" 0 (.a (.e 0) .c))) (.e (.d (.h "need_step" 0 (.a (.e 1) .c))) (.e (.d (.h "need_size" 0 (.a (.e 2) .c))) (.e (.f (.l .e false (.a (.q false ["at","first","step"] [none,some 0,some 1] (.j false .a (.e 1) (.j false .b (.e 2) (.e 0))) (.a 0) (.d (.e 2)) .a) .c))) .f))))⟩
end F08
end
section
namespace M
open PySem
theorem aJ(rs:List (Nat × Nat)):(Val.h (rs.map yF)).noRef=true:=by rw[lM];exact nZ λv hv=>by obtain⟨r,_,rfl⟩:=BL.mp hv;rw[yF,lN,wZ,wZ,ux,wz,wz];rfl
section
variable {T:Tbl}{Φ:Calls}{s:Sto}
def qW(Φ:Calls):Prop:=∀(f d z:Nat) (s:Sto),f<=40->1<=d->d<=40->2<=z->z<=8->Φ "places_of" 0 [.c f,.c d,.c z] s=.e (tpI (xC f d z)) s
theorem oU(c1:sr Φ)(c2:qV Φ)(c3:wR Φ){f d z:Nat}(h1:f<=40)(h2:1<=d)(h3:d<=40)(h4:2<=z)(h5:z<=8):run T Φ F08.zo [.c f,.c d,.c z] s=.e (tpI (xC f d z)) s:=by
 have hL:z<=zS:=Az h5 (by decide)
 rw[post_eq,F08.zo,wb];refine⟨rfl,?_⟩;show (zX Φ T.b [some (.c f),some (.c d),some (.c z)] _ s).post _;refine yi (x_call (zA (zD rfl) zE) (c1 f s (by omega) (by omega))) (yi (x_call (zA (zD rfl) zE) (c2 d s (by omega) (by omega))) (yi (x_call (zA (zD rfl) zE) (c3 z s (by omega) (by omega))) (vG (xg (zA (U3 (n:=z) (f:=λk=>((f+k*d:Nat):Int)) (kz (zD rfl) hL) rfl (λk o hk=>?_) hL) zE) rfl) (vW (Xi _)))))
 have e:(f:Int)+(d:Int)*(k:Int)=((f+k*d:Nat):Int):=by rw[Int.natCast_add,Int.natCast_mul,Int.mul_comm]
 exact yR (zD rfl) (yR (zD rfl) (zD rfl) (kU (by omega))) (by rw[qN,e])
end
end M
end
section
namespace M
open PySem
section
variable {W:Str->Bool}{Φ:Calls}{Ψ:xK}{G:Str->Option Val}{env:Env}{s s1:Sto}
theorem lC(h:exS Φ G env c s=.e (.a e) s1):zX Φ G env (.e c cs) s=zX Φ G e cs s1:=bnd h rfl
theorem uL(h:exS Φ G env c s=.d):zX Φ G env (.e c cs) s=.d:=by show (exS Φ G env c s).bind _=_;rw[h];rfl
theorem TM(h:evT Φ G env c s=.e true s1)(k:zX Φ G env a s1=.d):exS Φ G env (.g c a b) s=.d:=bnd h k
theorem jG:exS Φ G env (.j e) s=.d:=rfl
theorem rd(h:evE Φ G env e s=.d):exS Φ G env (.d e) s=.d:=by show (evE Φ G env e s).bind _=_;rw[h];rfl
theorem pv(h:evE Φ G env e s=.e v s1):exS Φ G env (.d e) s=.e (.a env) s1:=bnd h rfl
theorem lj(h:exS Φ G env c s=.e (.a e) s1):xSs W Φ Ψ G env (.e c cs) s=xSs W Φ Ψ G e cs s1:=by simp only[xSs,h]
theorem uS(h:exS Φ G env c s=.d):xSs W Φ Ψ G env (.e c cs) s=xS W Φ Ψ G env c s:=by simp only[xSs,h]
theorem Td(h:evT Φ G env c s=.e true s1):xS W Φ Ψ G env (.g c a b) s=xSs W Φ Ψ G env a s1:=by simp only[xS,h,if_true]
theorem qB(h:zV Φ G env es s=.e vs s1):xS W Φ Ψ G env (.d (.h f v es)) s=Ψ f v vs s1:=by simp only[xS,xE,h]
theorem au(h:zV Φ G env es s=.e vs s1)(k:(qr vs&&W c)=true):xS W Φ Ψ G env (.j (.h c v es)) s=some (c,vs,s1):=by simp only[xS,h];rw[if_pos k]
theorem xm(hl:vs.length=F.b.length)(h:zX Φ T.b (za F.N vs) F.a s=.d):run T Φ F vs s=.d:=by unfold run;rw[if_pos hl,h];rfl
end
def Rz(Φ:Calls)(Ψ:xK)(f:Str)(vs:List Val)(s:Sto)(c:Str):Prop:=Φ f 0 vs s=.d/\∃as,Ψ f 0 vs s=some (c,as,s)
theorem vB(h:Rz (zB T n) (ze T n) f vs s c)(h1:T.d f 100=none)(h2:T.c false=true)(h3:zl T.e s=true)(h4:T.f.lookup c=some w):zB T (n+1) f 100 vs s=.e (.m w) s:=by obtain⟨a,as,b⟩:=h;simp only[zB,h1,a,b,h2,h3,h4,sM];rfl
section
variable {T:Tbl}{Φ:Calls}{Ψ:xK}{s:Sto}
def gQ(Φ:Calls)(Ψ:xK):Prop:=∀(v:Val) (l m:Int) (s:Sto),kindOf v≠none->zr l m v=false->l.natAbs<2 ^ 64->m.natAbs<2 ^ 64->Rz Φ Ψ "need_whole" [v,.c l,.c m] s "NoNumber"
def W8(Φ:Calls)(Ψ:xK):Prop:=∀(v:Val) (s:Sto),kindOf v≠none->zr 2 8 v=false->Rz Φ Ψ "need_size" [v] s "NoNumber"
def bD(Φ:Calls)(Ψ:xK):Prop:=∀(v:Val) (s:Sto),kindOf v≠none->zr 0 40 v=false->Rz Φ Ψ "need_length" [v] s "NoNumber"
theorem gU(c:mY Φ)(hW:(T.f.lookup ("NoNumber":Str)).isSome=true)(hk:kindOf v≠none)(hw:zr l m v=false)(hl:l.natAbs<2 ^ 64)(hm:m.natAbs<2 ^ 64) :
 run T Φ F.zv [v,.c l,.c m] s=.d/\xSs (λc=>(T.f.lookup c).isSome) Φ Ψ T.b (za F.zv.N [v,.c l,.c m]) F.zv.a s=some (("NoNumber":Str),[Val.c l,Val.c m],s):=by
 have ht:evT Φ T.b [some v,some (.c l),some (.c m)] (.b (.a (.h "is_whole" 0 (.a (.e 0) (.a (.e 1) (.a (.e 2) .c)))))) s=.e true s:=by have hc:=c v l m s hk;rw[hw]at hc;exact YB (b:=false) (qG (x_call (zA (zD rfl) (zA (zD rfl) (zA (zD rfl) zE))) hc) wF)
 have hs:=TM (b:=.f) ht (uL (cs:=.f) (jG (e:=.h "NoNumber" 0 (.a (.e 1) (.a (.e 2) .c)))));refine⟨xm rfl (uL hs),(uS hs).trans ((Td ht).trans ((uS jG).trans (au (zA (zD rfl) (zA (zD rfl) zE)) ?_)))⟩;rw[hW];simp[qr,hl,hm]
theorem gV(g1:T.b "LEAST_SIZE"=some (.c 2))(g2:T.b "MOST_SIZE"=some (.c 8))(c:gQ Φ Ψ)(hk:kindOf v≠none)(hw:zr 2 8 v=false) :
 run T Φ F.yA [v] s=.d/\∃as,xSs (λc=>(T.f.lookup c).isSome) Φ Ψ T.b (za F.yA.N [v]) F.yA.a s=some (("NoNumber":Str),as,s):=by
 obtain⟨a,as,b⟩:=c v 2 8 s hk hw (by decide) (by decide)
 have he:zV Φ T.b [some v] (.a (.e 0) (.a (.F "LEAST_SIZE") (.a (.F "MOST_SIZE") .c))) s=.e [v,.c 2,.c 8] s:=zA (zD rfl) (zA (kJ g1) (zA (kJ g2) zE));have hs:=rd (x_call he a);exact⟨xm rfl (uL hs),as,(uS hs).trans ((qB he).trans b)⟩
theorem mf(g:T.b "MOST_PLACES"=some (.c 40))(c:gQ Φ Ψ)(hk:kindOf v≠none)(hw:zr 0 40 v=false) :
 run T Φ F.zj [v] s=.d/\∃as,xSs (λc=>(T.f.lookup c).isSome) Φ Ψ T.b (za F.zj.N [v]) F.zj.a s=some (("NoNumber":Str),as,s):=by
 obtain⟨a,as,b⟩:=c v 0 40 s hk hw (by decide) (by decide)
 have he:zV Φ T.b [some v] (.a (.e 0) (.a (.g (.c 0)) (.a (.F "MOST_PLACES") .c))) s=.e [v,.c 0,.c 40] s:=zA (zD rfl) (zA zQ (zA (kJ g) zE));have hs:=rd (x_call he a);exact⟨xm rfl (uL hs),as,(uS hs).trans ((qB he).trans b)⟩
theorem aP(g1:T.b "LEAST_SIZE"=some (.c 2))(g2:T.b "MOST_SIZE"=some (.c 8))(c:xn Φ)(h1:2<=i)(h2:i<=8):run T Φ F.yA [.c i] s=.e .g s:=by rw[post_eq];simp[F.yA,EVl,za,zZ,g1,g2,c i 2 8 s h1 h2]
theorem iU(g:T.b "MOST_PLACES"=some (.c 40))(c:xn Φ)(h1:0<=i)(h2:i<=40):run T Φ F.zj [.c i] s=.e .g s:=by rw[post_eq];simp[F.zj,EVl,za,zZ,g,c i 0 40 s h1 h2]
end
end M
end
section
namespace M
open PySem
theorem xl:∀{tb} {s},zl tb s=true↔∃r,s=tb.map Cel.d++r
 |[],s=>⟨λ_=>⟨s,rfl⟩,λ_=>rfl⟩
 |x::tb,s=>by
  constructor
  . intro h
    cases s with
    |nil=>cases h
    |cons c r=>
     cases c with
     |d y=>
      have h':(decide (x=y)&&zl tb r)=true:=h;rw[cf,decide_eq_true_eq]at h';obtain⟨r',e⟩:=xl.mp h'.2;exact⟨r',by rw[h'.1,e];rfl⟩
     |_=>cases h
  . rintro ⟨r,rfl⟩
    show (decide (x=x)&&zl tb (tb.map Cel.d++r))=true;rw[decide_eq_true rfl,xl.mpr ⟨r,rfl⟩];rfl
theorem jd(h:zl tb s=true):zl tb (s++t)=true:=by obtain⟨r,rfl⟩:=xl.mp h;exact xl.mpr ⟨r++t,Bk ..⟩
theorem ZN(h:zl tb s=true)(hp:tb.length<=p):zl tb (s.set p c)=true:=by obtain⟨r,rfl⟩:=xl.mp h;refine xl.mpr ⟨r.set (p-tb.length) c,?_⟩;rw[List.set_append_right _ _ (by rw[Ad];exact hp),Ad]
theorem ZM(h:zl tb s=true):tb.length<=s.length:=by obtain⟨r,rfl⟩:=xl.mp h;rw[Av,Ad];omega
theorem iL(hs:zl tb s=true)(h:v.noRef=true):z9 false (tb.map Cel.d) v s=.e v (tb.map Cel.d):=by obtain⟨r,rfl⟩:=xl.mp hs;exact lE h
def RzF(T:Tbl)(Φ:Calls)(Ψ:xK)(F:Fn)(vs:List Val)(s:Sto)(c:Str):Prop:=run T Φ F vs s=.d/\∃as,xSs (λc=>(T.f.lookup c).isSome) Φ Ψ T.b (za F.N vs) F.a s=some (c,as,s)
theorem RzF.up(h:RzF T (zB T n) (ze T n) F vs s c)(hf:T.d f 0=some F)(hl:vs.length=F.b.length):Rz (zB T (n+1)) (ze T (n+1)) f vs s c:=by obtain⟨a,as,b⟩:=h;exact⟨by rw[zh hf];exact a,as,by rw[gf hf hl];exact b⟩
section
variable {T:Tbl}{Φ:Calls}{Ψ:xK}{s:Sto}
theorem wU(hb:F.a=.e (.d (.h f 0 es)) cs)(hl:vs.length=F.b.length)(he:zV Φ T.b (za F.N vs) es s=.e ws s)(h:Rz Φ Ψ f ws s c):RzF T Φ Ψ F vs s c:=by obtain⟨a,as,b⟩:=h;have hs:=rd (x_call he a);refine⟨xm hl (by rw[hb];exact uL hs),as,by rw[hb];exact(uS hs).trans ((qB he).trans b)⟩
theorem uG(hb:F.a=.e (.d (.h f 0 es)) (.e (.d (.h g 0 es2)) cs))(hl:vs.length=F.b.length)(he:zV Φ T.b (za F.N vs) es s=.e ws s)(h1:Φ f 0 ws s=.e v s)(he2:zV Φ T.b (za F.N vs) es2 s=.e ys s)(h:Rz Φ Ψ g ys s c):RzF T Φ Ψ F vs s c:=by obtain⟨a,as,b⟩:=h;have hs:=rd (x_call he2 a);have hn:=pv (x_call he h1);refine⟨xm hl (by rw[hb];exact(lC hn).trans (uL hs)),as,by rw[hb];exact(lj hn).trans ((uS hs).trans ((qB he2).trans b))⟩
end
end M
end
section
namespace M
open PySem
noncomputable def kS:Int:=100000000000000000000000000000
theorem gX:binOp m .f (.c 10) (.c 29) s=.e (.c kS) s:=by
 simp only[binOp];rw[if_pos (by decide)]
 congr 2
end M
end
section
namespace F02
open PySem M
noncomputable def yu:Fn:=⟨["_law_pen_here","_law_least","_law_limit","_law_odd"],["_law_pen_here","_law_least","_law_limit"],false,(.e (.k 3 (.w false (.a (.j false .c (.e 1) (.g (.c 1))) (.a (.j false .a (.e 2) (.g (.c 1))) (.a (.g (.e true)) (.a (.g .g) (.a (.l .p false (.a (.e 1) .c)) (.a (.y (.a (.e 1) .c)) (.a (.w false (.a (.e 1) .c)) (.a .A (.a (.j false .f (.g (.c 10)) (.g (.c 29))) (.a (.j false .c (.e 1) (.j false .f (.g (.c 10)) (.g (.c 29)))) .c)))))))))))) (.e (.f (.z (.j false .a (.e 3) (.w false (.a (.g (.e false)) .c))) (.h "_law_draw" 0 (.a (.e 0) (.a (.g (.c 11)) .c))))) .f))⟩
noncomputable def zg:Fn:=⟨["_law_pen_here","_law_length","_law_size","_law_none_here","_law_less","_law_calls","!"],["_law_pen_here","_law_length","_law_size"],false,(.e (.p [3,4] (.a (.h "_law_none" 0 (.a (.e 0) (.a (.g (.c 0)) (.a (.g (.c 40)) .c)))) (.a (.h "_law_none" 0 (.a (.e 0) (.a (.g (.c 2)) (.a (.g (.c 8)) .c)))) .c))) (.g 5 (.a (.h "rows_in" 100 (.a (.e 3) (.a (.e 2) .c))) (.a (.h "rows_in" 100 (.a (.e 1) (.a (.e 4) .c))) (.a (.h "rows_many" 100 (.a (.e 3) (.a (.e 4) .c))) (.a (.h "rows_many" 100 (.a (.e 3) (.a (.e 2) .c))) (.a (.h "rows_many" 100 (.a (.e 1) (.a (.e 4) .c))) (.a (.h "places_of" 100 (.a (.e 3) (.a (.g (.c 1)) (.a (.e 2) .c)))) (.a (.h "places_of" 100 (.a (.g (.c 40)) (.a (.e 3) (.a (.e 2) .c)))) (.a (.h "places_of" 100 (.a (.g (.c 0)) (.a (.g (.c 0)) (.a (.e 2) .c)))) (.a (.h "places_of" 100 (.a (.g (.c 0)) (.a (.g (.c 40)) (.a (.e 4) .c)))) .c))))))))) .f 1 (.j false .b (.w false (.a (.g (.m "number")) .c)) (.g (.c 9))) .a .f .f))⟩
noncomputable def yx:Fn:=⟨["length","size"],["length","size"],true,(.e (.d (.h "need_length" 0 (.a (.e 0) .c))) (.e (.d (.h "need_size" 0 (.a (.e 1) .c))) (.e (.f (.p true ["first","step","length","size"] [none,none,some 0,some 1] (.y (.a (.e 0) (.a (.e 1) .c))) (.a 0) (.d (.e 0)) .a (.a 1) (.f (.g (.c 1)) (.j false .a (.h "most_step" 0 (.a (.e 2) (.a (.e 0) (.a (.e 3) .c)))) (.g (.c 1)))) .a)) .f)))⟩
noncomputable def yB:Fn:=⟨["length","size"],["length","size"],false,(.e (.d (.h "need_length" 0 (.a (.e 0) .c))) (.e (.d (.h "need_size" 0 (.a (.e 1) .c))) (.e (.f (.l .q false (.a (.q false ["span","length"] [none,some 0] (.j false .c (.e 1) (.e 0)) (.a 0) (.g (.j false .c (.e 1) (.g (.c 1))) (.e 0) (.j false .c (.e 1) (.g (.c 1)))) .a) .c))) .f)))⟩
end F02
end
section
namespace M
open PySem
section
variable {Φ:Calls}{G:Str->Option Val}{env:Env}{s:Sto}
theorem ZC(h1:zV Φ G (env.set i none) L s=.e vs s)(h2:evE Φ G (env.set i none) d s=.e y s)(h3:zU .a (.h vs) y s=.e r s)(h:P (.b r) s):(zX Φ G env (.g i L .f 1 d o b cs) s).post P:=by
 have e:zX Φ G env (.g i L .f 1 d o b cs) s=.e (.b r) s:=by
  show (if x8 s=x8 s then _ else _)=_
  rw[if_pos rfl];exact bnd h1 (bnd h2 (bnd h3 rfl))
 rw[e];exact zC.mpr h
theorem VX(ha:evE Φ G env a s=.e (.c i) s)(hb:evE Φ G env b s=.e (.c j) s)(hc:evE Φ G env c s=.e (.c k) s)(h:0<=i/\i<=1000/\0<=j/\j<=1000/\1<=k/\k<=1000):yS Φ G env (.g a b c) s=.e ⟨vk i k (AH i j k).toNat,none⟩ s:=
 bnd ha (bnd hb (bnd hc (if_pos h)))
end
section
variable {T:Tbl}{Φ:Calls}{Ψ:xK}{s:Sto}
theorem jh(hb:F.a=.e (.d (.h f 0 es)) (.e (.d (.h g 0 es2)) (.e (.d (.h f3 0 es3)) cs)))(hl:vs.length=F.b.length)(he:zV Φ T.b (za F.N vs) es s=.e ws s)(h1:Φ f 0 ws s=.e v s)(he2:zV Φ T.b (za F.N vs) es2 s=.e ys s)(h2:Φ g 0 ys s=.e v2 s)(he3:zV Φ T.b (za F.N vs) es3 s=.e us s)(h:Rz Φ Ψ f3 us s c):RzF T Φ Ψ F vs s c:=by obtain⟨a,as,b⟩:=h;have hs:=rd (x_call he3 a);have hn:=pv (x_call he h1);have hn2:=pv (x_call he2 h2);refine⟨xm hl (by rw[hb];exact(lC hn).trans ((lC hn2).trans (uL hs))),as,by rw[hb];exact(lj hn).trans ((lj hn2).trans ((uS hs).trans ((qB he3).trans b)))⟩
def YM(Φ:Calls)(Ψ:xK):Prop:=∀(v:Val) (s:Sto),kindOf v≠none->zr 0 40 v=false->Rz Φ Ψ "need_first" [v] s "NoNumber"
def W9(Φ:Calls)(Ψ:xK):Prop:=∀(v:Val) (s:Sto),kindOf v≠none->zr 1 40 v=false->Rz Φ Ψ "need_step" [v] s "NoNumber"
noncomputable def Ug(m:Bool):Ex:=.p m ["first","step","length","size"] [none,none,some 0,some 1] (.y (.a (.e 0) (.a (.e 1) .c))) (.a 0) (.d (.e 0)) .a (.a 1) (.f (.g (.c 1)) (.j false .a (.h "most_step" 0 (.a (.e 2) (.a (.e 0) (.a (.e 3) .c)))) (.g (.c 1)))) .a
theorem mG(cM:kL Φ)(hn:n<=40)(hz:2<=z)(hz8:z<=8)(hv:newList m ((zp n z).map yF) s=.e v s1):evE Φ T.b [some (.c n),some (.c z)] (Ug m) s=.e v s1:=by
 have hfl:(yH 0 n).flatMap (riG n z)=(zp n z).map yF:=by unfold yH zp;rw[CJ,List.map_flatMap];congr 1;funext a;rw[Dh];rfl
 have hlen:((zp n z).map yF).length<=zS:=by rw[Ad];have h1:=ph n z n;have h2:n*n<=40*40:=Dk hn hn;unfold zp zS;omega
 rw[post_eq];refine aY (λe=>∃o1 o2,e=[o1,o2,some (.c n),some (.c z)]) (riG n z) (λx e=>∃o2,e=[some x,o2,some (.c n),some (.c z)]) (λx y=>[.f [x,y]]) ⟨_,_,kz (zD rfl) (by unfold zS;omega),rfl,⟨_,_,rfl⟩,?_,?_,?_⟩
 . rintro x hx e ⟨o1,o2,rfl⟩
   obtain⟨a,ha,rfl⟩:=uu hx;have hq:(n-1-a)/(z-1)<=40:=Az (Fu _ _) (by omega)
   refine⟨_,rfl,uy.mpr ⟨rfl,?_⟩⟩;rw[if_pos rfl];have c4:Φ "most_step" 0 [.c n,.c (0+(a:Int)),.c z] s=.e (.c ((n-1-a)/(z-1):Nat)) s:=by rw[Dh];exact cM n a z s ha hz hz8
   refine⟨_,_,Zn (i:=1) (j:=(n-1-a)/(z-1)+1) zQ (yR (x_call (zA (zD rfl) (zA (zD rfl) (zA (zD rfl) zE))) c4) zQ qN) (by omega) (by omega),rfl,rfl,⟨_,rfl⟩,?_,?_,?_⟩
   . rintro e ⟨o,rfl⟩;exact⟨_,_,rfl⟩
   . show (vJ n z (0+(a:Int)).toNat).map yF=_
     rw[Dh,Cw];unfold vJ yH;rw[Ck,CJ];rw[show (λ(k:Nat)=>[Val.f [.c (a:Int),.c (((1:Nat):Int)+(k:Int))]])=λk=>[(λ(k:Nat)=>Val.f [.c (a:Int),.c (((1:Nat):Int)+(k:Int))]) k] from rfl,kq];refine CU λj _=>?_;show Val.f [.c (a:Int),.c ((j+1:Nat):Int)]=_;rw[show ((j+1:Nat):Int)=((1:Nat):Int)+(j:Int) by omega]
   . rintro y hy e ⟨o,rfl⟩
     obtain⟨d,hd,rfl⟩:=uu hy;refine⟨_,rfl,⟨_,rfl⟩,uy.mpr ⟨rfl,?_⟩⟩;rw[if_pos rfl];show (evE Φ T.b [some (.c (0+(a:Int))),some (.c (((1:Nat):Int)+(d:Int))),some (.c n),some (.c z)] _ s).post _;rw[qK (zA (zD rfl) (zA (zD rfl) zE)) (show 2<=zS by unfold zS;omega)]
     exact zC.mpr ⟨rfl,rfl⟩
 . show Small ((yH 0 n).flatMap _)
   rw[hfl];exact hlen
 . show (newList m ((yH 0 n).flatMap _) s).post _
   rw[hfl,hv];exact zC.mpr ⟨rfl,rfl⟩
theorem mI(cL:wB Φ)(cS:wR Φ)(cM:kL Φ){n z:Nat}(hn:n<=40)(hz:2<=z)(hz8:z<=8):run T Φ F75.ya [.c n,.c z] s=.e (.h ((zp n z).map yF)) s:=by rw[post_eq,F75.ya,wb];refine⟨rfl,?_⟩;show (zX Φ T.b [some (.c n),some (.c z)] _ s).post _;exact yi (x_call (zA (zD rfl) zE) (cL n s (by omega) (by omega))) (yi (x_call (zA (zD rfl) zE) (cS z s (by omega) (by omega))) (vG (mG cM hn hz hz8 rfl) (vW (aJ _))))
def oj(Φ:Calls):Prop:=∀(n z:Nat) (s:Sto),n<=40->2<=z->z<=8->Φ "rows_in" 1 [.c n,.c z] s=.e (.j s.length) (s++[.c ((zp n z).map yF)])
theorem mJ(cL:wB Φ)(cS:wR Φ)(cM:kL Φ){n z:Nat}(hn:n<=40)(hz:2<=z)(hz8:z<=8):run T Φ F02.yx [.c n,.c z] s=.e (.j s.length) (s++[.c ((zp n z).map yF)]):=by rw[post_eq,F02.yx,wb];refine⟨rfl,?_⟩;show (zX Φ T.b [some (.c n),some (.c z)] _ s).post _;exact yi (x_call (zA (zD rfl) zE) (cL n s (by omega) (by omega))) (yi (x_call (zA (zD rfl) zE) (cS z s (by omega) (by omega))) (vG (mG cM hn hz hz8 rfl) (zC.mpr ⟨rfl,rfl⟩)))
noncomputable def nT(n z:Nat):List Int:=(Ax (AH ((z:Int)-1) n ((z:Int)-1)).toNat).map λ(k:Nat)=>(n:Int)-(((z:Int)-1)+k*((z:Int)-1))
theorem eZ:∀n<41,∀z<9,2<=z->L2.qE (nT n z)=true/\(nT n z).sum=(zp n z).length:=by decide +kernel
def gJ(Φ:Calls):Prop:=∀(n z:Nat) (s:Sto),n<=40->2<=z->z<=8->Φ "rows_many" 0 [.c n,.c z] s=.e (.c (zp n z).length) s
theorem ZK(hs:L2.qE ws=true):blt .q false [.h (ws.map .c)] s=.e (.c ws.sum) s:=by
 show (match M.intsOf (ws.map .c) with|some ns=>if L2.qE ns then Out.e (Val.c ns.sum) s else .d|dS=>.d)=_
 rw[nK];show (if L2.qE ws then Out.e (Val.c ws.sum) s else .d)=_
 rw[hs];rfl
theorem i6(cL:wB Φ)(cS:wR Φ){n z:Nat}(hn:n<=40)(hz:2<=z)(hz8:z<=8):run T Φ F02.yB [.c n,.c z] s=.e (.c (zp n z).length) s:=by
 obtain⟨h1,h2⟩:=eZ n (by omega) z (by omega) hz
 have hc:evE Φ T.b [some (.c n),some (.c z)] (.q false ["span","length"] [none,some 0] (.j false .c (.e 1) (.e 0)) (.a 0) (.g (.j false .c (.e 1) (.g (.c 1))) (.e 0) (.j false .c (.e 1) (.g (.c 1)))) .a) s=.e (.h ((nT n z).map .c)) s:=by
  rw[post_eq];refine jM (λe=>∃o,e=[o,some (.c n)]) (λv=>match v with|.c i=>[.c ((n:Int)-i)]|_=>[]) _ (s1:=s) (VX (yR (zD rfl) zQ mh) (zD rfl) (yR (zD rfl) zQ mh) (by omega)) ⟨none,rfl⟩ ?_ ?_
  . rintro v hv e ⟨o,rfl⟩
    obtain⟨k,_,rfl⟩:=BL.mp (show v∈(Ax _).map _ from hv);refine⟨_,rfl,⟨_,rfl⟩,uy.mpr ⟨rfl,?_⟩⟩;rw[if_pos rfl];show (evE Φ T.b [some (.c (((z:Int)-1)+(k:Int)*((z:Int)-1))),some (.c n)] _ s).post _;rw[yR (zD rfl) (zD rfl) mh];exact zC.mpr ⟨rfl,rfl⟩
  . have e:(vk ((z:Int)-1) ((z:Int)-1) (AH ((z:Int)-1) n ((z:Int)-1)).toNat).flatMap (λv=>match v with|.c i=>[Val.c ((n:Int)-i)]|_=>[])=(nT n z).map .c:=by unfold vk nT;rw[CJ,Ck];exact kq ..
    rw[e];exact zC.mpr ⟨rfl,rfl⟩
 rw[post_eq,F02.yB,wb];refine⟨rfl,?_⟩;show (zX Φ T.b [some (.c n),some (.c z)] _ s).post _;refine yi (x_call (zA (zD rfl) zE) (cL n s (by omega) (by omega))) (yi (x_call (zA (zD rfl) zE) (cS z s (by omega) (by omega))) (vG (xg (zA hc zE) (ZK h1)) ?_))
 rw[h2];exact vW wz
theorem ey(g:T.b "MOST_PLACES"=some (.c 40))(c:xn Φ)(h1:0<=i)(h2:i<=40):run T Φ F14.yK [.c i] s=.e .g s:=by rw[post_eq,F14.yK,wb];refine⟨rfl,?_⟩;show (zX Φ T.b [some (.c i)] _ s).post _;exact yi (x_call (zA (zD rfl) (zA zQ (zA (kJ g) zE))) (c i 0 40 s h1 h2)) (sL (vW se))
theorem aQ(g:T.b "MOST_PLACES"=some (.c 40))(c:xn Φ)(h1:1<=i)(h2:i<=40):run T Φ F14.yT [.c i] s=.e .g s:=by rw[post_eq,F14.yT,wb];refine⟨rfl,?_⟩;show (zX Φ T.b [some (.c i)] _ s).post _;exact yi (x_call (zA (zD rfl) (zA zQ (zA (kJ g) zE))) (c i 1 40 s h1 h2)) (sL (vW se))
end
end M
end
section
namespace M
open PySem Hd
def fW(h:Heap)(a:Addr):Option Obj:=(h.get? a).bind λo=>if xH o then none else some o
theorem bZ(e:h.get? a=some o)(n:xH o=false):fW h a=some o:=by unfold fW;rw[e];show (if xH o=true then none else some o)=some o;rw[n];rfl
theorem ku(e:fW h a=some o):h.get? a=some o/\xH o=false:=by
 unfold fW at e;obtain⟨o',e1,e2⟩:=Dn.mp e;split at e2
 . cases e2
 . rename_i z
   cases e2;exact⟨e1,by simpa using z⟩
def zy(h:Heap):KF:=(Ax h.objs.size).filterMap λa=>(fW h a).map λo=>(a,o)
theorem sY{g:Addr->Option Obj}:∀{l:List Addr},a∈l->(l.filterMap λb=>(g b).map λo=>(b,o)).lookup a=g a
 |b::r,hm=>by
  rw[A3];by_cases e:a=b
  . subst e
    cases hg:g a with
    |none=>
     show (r.filterMap _).lookup a=none;by_cases m:a∈r
     . rw[sY m,hg]
     . exact Fm.mpr λp hp=>by
        obtain⟨c,hc,e⟩:=B4.mp hp;obtain⟨o,_,rfl⟩:=BC.mp e;have z:a≠c:=λz=>m (by rw[z];exact hc)
        simpa using z
    |some o=>show (List.lookup a ((a,o)::_))=_;rw[Al,beq_self_eq_true]
  . have m:a∈r:=(As.mp hm).resolve_left e
    cases hg:g b with
    |none=>exact sY m
    |some o=>
     show (List.lookup a ((b,o)::_))=_;rw[Al,beq_false_of_ne e];exact sY m
theorem z7 o(e:h.get? a=some o)(n:xH o=false):(zy h).lookup a=some o:=by rw[<-bZ e n];exact sY (Cy.mpr (Aj e))
theorem ui:(zy h).In h:=λa o e=>by obtain⟨c,_,e⟩:=B4.mp (xB e);obtain⟨o',e1,e2⟩:=BC.mp e;cases e2;exact(ku e1).1
theorem jy(e:(zy h).lookup a=some o):xH o=false:=by obtain⟨c,_,e⟩:=B4.mp (xB e);obtain⟨o',e1,e2⟩:=BC.mp e;cases e2;exact(ku e1).2
theorem tq(e:nsH h x=some v):Bu (zy h) AI x=some v:=by
 unfold nsH at e;split at e
 . rename_i o ho
   have hn:xH o=false:=by
    unfold Bu at e;rw[Al,beq_self_eq_true]at e;dsimp only at e;split at e
    . rename_i hd;cases hd;unfold xH;simp
    . cases e
   unfold Bu at e ⊢;rw[z7 o ho hn];rw[Al,beq_self_eq_true]at e;exact e
 . cases e
theorem g9(e:g8 h cd x=true):BG (zy h) cd x=true:=by
 unfold g8 at e;split at e
 . split at e
   . rename_i c o ho
     rw[cf,AD]at e;obtain⟨hn,e⟩:=e;unfold BG at e ⊢;dsimp only at e ⊢;rw[Al,beq_self_eq_true]at e;rw[z7 o ho hn];exact e
   . cases e
 . cases e
theorem args_eq st:args st=L2.xP st/\body st=L2.yW st/\scope st=L2.zG st:=by cases st<;>exact⟨rfl,rfl,rfl⟩
theorem Ye(e:aK h p.1=ZU p):sF (zy h) p.1 p.2:=by
 obtain⟨a1,a2,a3⟩:=args_eq p.2;unfold ZU at e;rw[a1,a2,a3]at e;unfold aK at e;split at e
 . rename_i f hf
   split at e
   . rename_i oc od fd osl ho
     split at e
     . rename_i hc
       have e':=AW e;obtain⟨n,q,ps,b,sc,g,cl,df,kw,dc,pm,an,cd,ct,bl⟩:=fd;injection e' with e1 e2 e3 e4 e5 e6 e7 e8 _ _ _ _ _ _ e9
       subst e1 e2 e3 e4 e5 e6 e7 e8 e9;exact Yd (tq hf) (z7 _ ho (by unfold xH;simp)) (g9 hc) (by unfold BP;dsimp only;rw[z7 _ ho (by unfold xH;simp)])
     . cases e
   . cases e
 . cases e
noncomputable def gv:G->Val
 |.a i=>.c i
 |.c x=>.m x
 |.b ns=>.o ns
theorem VO(e:glB h x v=true):jf (zy h) x (gv v):=by
 cases v with
 |a i=>
  unfold glB at e;dsimp only at e;split at e
  . rename_i hn;have:=of_decide_eq_true e;subst this;exact int_mk (tq hn)
  . cases e
 |c y=>
  unfold glB at e;dsimp only at e;split at e
  . rename_i hn;have:=of_decide_eq_true e;subst this;exact str_mk (tq hn)
  . cases e
 |b ns=>
  unfold glB at e;dsimp only at e;split at e
  . rename_i hn
    split at e
    . rename_i n od us k sl ho
      obtain⟨e1,e3⟩:=D9.mp e;obtain⟨e1,e2⟩:=D9.mp e1;have:=of_decide_eq_true e1;subst this;exact bM (us:=us.toList) (tq hn) (z7 _ ho rfl) (of_decide_eq_true e2) (of_decide_eq_true e3)
    . cases e
  . cases e
theorem Zb(e:blB h x=true):Bu (zy h) AI x=some none:=by
 unfold blB at e;split at e
 . rename_i hn;exact tq hn
 . cases e
theorem kf:∀{D:List (Str × Stmt)},(D.map λp=>aK h p.1)=D.map ZU->∀p∈D,sF (zy h) p.1 p.2
 |p::D,e,q,hq=>by
  rw[A4,A4]at e;obtain⟨e1,e2⟩:=List.cons.inj e;rcases As.mp hq with rfl|hq
  . exact Ye e1
  . exact kf e2 q hq
end M
end
section
namespace M
open PySem Hd PySem.W
noncomputable def scB(N ps:List Str)(sc:Scope):Bool:=decide (sc.kind=.function)&&!sc.isCoroutine&&!sc.isGenerator&&decide N.Nodup&&decide (N.take ps.length=ps)&&ps.all (λx=>decide (sc.names.lookup x=some .local)||decide (sc.names.lookup x=some .cell))&&sc.names.all (λy=>decide (y.2≠.free))
theorem cR(h:scB N ps sc=true):L2.wC N ps sc:=by unfold scB at h;simp only[cf,decide_eq_true_eq,AD,AJ,An]at h;obtain⟨⟨⟨⟨⟨⟨h1,h2⟩,h3⟩,h4⟩,h5⟩,h6⟩,h7⟩:=h;exact⟨h1,h2,h3,h4,h5,h6,h7⟩
noncomputable def lkB(sc:Scope)(l:List (Str × Cg)):Bool:=l.all λp=>decide (sc.names.lookup p.1=some p.2)
structure ma(st:Stmt)(cs ws:List Str)(pre:Option Str):Prop where
 b:argNames (L2.xP st)=some [("_law_e":Str)]
 c:scB L2.kN ["_law_e"] (L2.zG st)=true
 sh:L2.gL (L2.zG st) cs ws pre (L2.yW st)
 a:lkB (L2.zG st) [("_law_e",.local),("_law_marks",.local),("_law_words",.local),("isinstance",.globalImplicit),("ValueError",.globalImplicit)]=true
structure pQ(m:Bool)(kx:Str)(st:Stmt):Prop where
 b:argNames (L2.xP st)=some [("_law_call":Str)]
 c:scB (L2.xY m) ["_law_call"] (L2.zG st)=true
 sh:L2.gN m kx (L2.yW st)
 a:lkB (L2.zG st) ((("_law_call":Str),NameKind.local)::(("_law_e":Str),NameKind.local)::(("HueError":Str),Dt)::(kx,Dt)::if m then [] else [(("_law_word":Str),NameKind.local)])=true
noncomputable def wsB(cs ws:List Str)(pre:Option Str):Bool:=decide cs.Nodup&&decide (cs.length<=100)&&decide (ws.length<=100)&&ws.all (λw=>decide (w.length<=100))&&(match pre with|none=>true|some x=>decide (x.length<=100))
def xcB(rz cs ws:List Str)(pre:Option Str)(xc:List (Str × Str)):Bool:=xc.all λp=>decide (p.1∈rz)&&(Ax cs.length).any λi=>decide (cs[i]?=some p.1)&&(match ws[i]? with|some x=>decide (p.2=L2.ans pre x)|none=>false)&&decide (p.2≠"great")
def dD(q:Program)(c:Str):Bool:=(PyProof.Rows.ownsOf q).any λo=>decide (o.name=c)&&(o.bm == Hd.veM)&&(o.newId == "ValueError.__new__")
section
variable {h0 h:Heap}{mg:Str->Option Value}
theorem gR(e:adH h0 x=some a):nsIn (zy h0) AI x=some (some (.ref a)):=by
 unfold adH at e;split at e
 . rename_i hn;cases e;exact tq hn
 . cases e
theorem gx(hm:p∈YZ h0 x):h0.get? p.1=some p.2/\xH p.2=false:=by
 unfold YZ at hm;split at hm
 . split at hm
   . rename_i a o ho
     split at hm
     . rename_i cd hcd
       rcases As.mp hm with z|z
       . subst z
         refine⟨ho,?_⟩;unfold xH;rw[hcd];simp
       . split at z
         . rename_i n hn
           split at z
           . cases z
           . rename_i hz
             rw[Bp]at z;subst z;exact⟨hn,by simpa using hz⟩
         . cases z
     . cases hm
   . cases hm
 . cases hm
theorem jH:∀{xs},p∈kcH h0 xs->h0.get? p.1=some p.2/\xH p.2=false
 |[],hm=>by cases hm
 |x::xs,hm=>by
  rcases A1.mp hm with z|z
  . exact gx z
  . exact jH z
theorem jJ:L2.qM (kcH h0 xs) (zy h0):=λa o e=>by obtain⟨e1,e2⟩:=jH (xB e);exact z7 o e1 e2
theorem ZW(h:bA K C=true):L2.rA K C:=by unfold bA at h;simp only[cf,beq_iff_eq]at h;obtain⟨⟨⟨⟨⟨h1,h2⟩,h3⟩,h4⟩,h5⟩,h6⟩:=h;exact⟨h1,h2,h3,h4,h5,h6⟩
theorem oz(T:Fi q loose mean mg mb h)(KX:(zy h0).In h)(KB:(zy h0).In base)(ho:dD q c=true)(hm:mg c=some (.ref C))(hb:ed h0 C bm=true):L2.ClsAt base C bm:=by
 unfold dD at ho;rw[Bh]at ho;obtain⟨o,hmem,ho⟩:=ho;simp only[cf,decide_eq_true_eq,beq_iff_eq]at ho;obtain⟨⟨o1,o2⟩,o3⟩:=ho;obtain⟨C',O,_⟩:=T.own o hmem;have hb':=O.bound;rw[o1,hm]at hb';cases hb';obtain⟨bm',N,nm,qq,bs,hdct,sn,sub,ab,col,dd,k0,k1,k2,k3,k5,mN,hC,hN,hq,_⟩:=O.obj;rw[o3]at hC;unfold ed at hb;split at hb
 . rename_i ob hob
   split at hb
   . rename_i cd hcd
     rw[cf,beq_iff_eq]at hb;obtain⟨hb1,hb2⟩:=hb;have hk:=z7 ob hob (by unfold xH;rw[hcd];simp)
     have e1:=KX _ _ hk;rw[hC]at e1;cases e1;cases hcd;obtain⟨_,rfl⟩:=List.cons.inj hb1;split at hb2
     . rename_i n hn
       have hkN:=z7 n hn (by simpa using hb2)
       obtain⟨on,es,ep,f1,f2,f3⟩:=hN;rw[KX _ _ hkN]at f1;cases f1;exact⟨nm,qq,N,bs,hdct,sn,sub,ab,col,dd,k0,k1,k2,k3,k5,mN,KB _ _ hk,⟨n,es,ep,KB _ _ hkN,f2,f3⟩,hq _ (.head _)⟩
     . cases hb2
   . cases hb
 . cases hb
theorem Uj(sst:Bool->Stmt)(TT:Fi q loose mean mg mb h)(KX:(zy h0).In h)(ob:oF X h0=true)
 (hD:sF (zy h0) kx kst) (hS:∀b,T.c b=true->sF (zy h0) (L2.yQ b) (sst b)/\pQ b kx (sst b)) (hK:ma kst X.a ws pre) (hb:∀x∈xt,nsIn (zy h0) AI x=some none) (hkd:(kx == ("__debug__":Str))=false)
 (hws:wsB X.a ws pre=true) (hxc:xcB X.c X.a ws pre T.f=true) (m6:((("HueError":Str))::X.c).all (λc=>dD q c)=true):Sc T (zy h0) mg:=by
 unfold oF at ob;split at ob
 . cases ob
 . rename_i hue hhue
   simp only[cf,AJ,decide_eq_true_eq]at ob;obtain⟨⟨⟨⟨⟨x1,x2⟩,x3⟩,x4⟩,x5⟩,x6⟩:=ob;have mghue:=mg_of KX TT.g (gR hhue);have adm:∀c a,adH h0 c=some a->mg c=some (.ref a):=λc a e=>mg_of KX TT.g (gR e);simp only[wsB,cf,decide_eq_true_eq,AJ]at hws;obtain⟨⟨⟨⟨w1,w2⟩,w3⟩,w4⟩,w5⟩:=hws;have lkk:∀{sc:Scope} {l:List (Str × Cg)} {x:Str} {k:Cg},lkB sc l=true->(x,k)∈l->sc.names.lookup x=some k:=λ{sc l x k} hh hm=>of_decide_eq_true (AJ.mp hh _ hm);have KFn:L2.pP (zy h0) mg kx X.a ws pre:=by
    obtain⟨f,fd,a1,a2⟩:=hD;refine⟨⟨kst,f,fd,mg_of KX TT.g a1,a2,cR hK.c,a2.binds λkV doc pm an cdv ct us hl=>uc hK.b (by decide) us hl,hK.sh,lkk hK.a (by simp),lkk hK.a (by simp),lkk hK.a (by simp),lkk hK.a (by simp),lkk hK.a (by simp)⟩,λc hc=>?_,mg_none_of KX TT.g (hb _ (by decide)),mg_none_of KX TT.g (Zb x2),w1,w2,w3,λw hw=>w4 w hw,λx hx=>?_⟩
    . obtain⟨a,e⟩:=BX.mp (x1 c hc)
      exact⟨a,adm c a e⟩
    . subst hx;exact of_decide_eq_true w5
   have raised:∀c∈X.c,∃C,mg c=some (.ref C)/\(∃Kc,L2.qM Kc (zy h0)/\exmOne Kc (.ref C) (.ref hue)=some true)/\L2.Named (zy h0) mg X.a C c/\ed h0 C (.ref hue::Hd.veM)=true:=λc hc=>by
    have z:=x3 c hc;split at z
    . cases z
    . rename_i C hC
      simp only[cf,AJ,beq_iff_eq]at z;obtain⟨⟨⟨⟨z1,z2⟩,z3⟩,z4⟩,z5⟩:=z;refine⟨C,adm c C hC,⟨_,jJ,z2⟩,⟨_,jJ,ZW z1,λd hd=>?_,z4⟩,z5⟩;obtain⟨a,e⟩:=BX.mp (x1 d hd);have:=z3 d hd;rw[e]at this;rw[L2.gS (adm d a e)];exact this
   have xcf:∀c w,T.f.lookup c=some w->c∈X.c/\∃(i:Nat) (x:Str),X.a[i]?=some c/\ws[i]?=some x/\w=L2.ans pre x/\w≠"great":=λc w e=>by
    have z:=AJ.mp hxc _ (xB e);simp only[cf,decide_eq_true_eq,Bh]at z;obtain⟨z1,i,_,⟨z2,z3⟩,z4⟩:=z;split at z3
    . rename_i x hx
      exact⟨z1,i,x,z2,hx,of_decide_eq_true z3,z4⟩
    . cases z3
   have hw:=AJ.mp m6;refine⟨⟨kx,X.a,ws,pre,hue,mghue,KFn,λb hbm=>?_,λc w e=>?_,λc w e base KB=>?_⟩,λbase KB=>?_⟩
   . obtain⟨⟨f,fd,a1,a2⟩,SS⟩:=hS b hbm
     refine⟨f,⟨⟨sst b,fd,mg_of KX TT.g a1,a2,cR SS.c,a2.binds λkV doc pm an cdv ct us hl=>uc SS.b (by decide) us hl,SS.sh,lkk SS.a (by simp),lkk SS.a (by simp),λhbf=>lkk SS.a (by subst hbf;simp),lkk SS.a (by simp),lkk SS.a (by simp)⟩,hkd⟩⟩
   . obtain⟨y1,i,x,y2,y3,y4,y5⟩:=xcf c w e
     obtain⟨C,r1,r2,r3,_⟩:=raised c y1;exact⟨C,i,x,r1,r2,r3,y2,y3,y4,y5⟩
   . obtain⟨y1,_⟩:=xcf c w e
     obtain⟨C,r1,_,_,r4⟩:=raised c y1;exact⟨C,r1,oz TT KX KB (hw c (Ac _ y1)) r1 r4,oz TT KX KB (hw _ (Ao ..)) mghue x4⟩
   . obtain⟨bm,obj,b1,b2,b3,b4,b5,b6⟩:=TT.bmain
     unfold bmB at x5;split at x5
     . rename_i b hbb
       have:=adm _ _ hbb;rw[b1]at this;cases this;split at x5
       . rename_i o hob
         have hk:=z7 o hob (by simpa using x5)
         have e1:=KX _ _ hk;rw[b3]at e1;cases e1;exact⟨bm,obj,b1,b2,KB _ _ hk,b4,b5,b6⟩
       . cases x5
     . cases x5
theorem tab_of{D:List (Str × Stmt)}(TT:Fi q loose mean mg mb h)(KX:(zy h0).In h)(ob:oF X h0=true)(htb:T.e=X.b)
 (hd:∀p∈D,sF (zy h0) p.1 p.2) (m7:X.b.all (λg=>(Ed q).any (λd=>decide (d.name=g))&&(D.lookup g).isSome)=true):∃tabs,W5 T (zy h0) mg h tabs:=by
 have nd:(X.b.map (kB h0)).Nodup:=by
  unfold oF at ob;split at ob
  . cases ob
  . simp only[cf,decide_eq_true_eq]at ob
    exact ob.2
 have one:∀g∈X.b,∃P,kB h0 g=some P/\h.get? P=some (tabObj #[])/\(zy h0).lookup P=none/\FA h P/\∃(fa c:Addr) (o:Obj) (fd:BH),mg g=some (.ref fa)/\(zy h0).lookup fa=some o/\o.data=.func fd/\fd.code=.ref c/\∀h':Heap,(zy h0).In h'->CodeHd h' c P:=λg hg=>by
  have z:=AJ.mp m7 g hg;rw[cf,Bh]at z;obtain⟨⟨d,d1,d2⟩,z2⟩:=z;have d2:=of_decide_eq_true d2;obtain⟨st,hst⟩:=BX.mp z2;obtain⟨fa,fd,a1,a2⟩:=hd _ (xB hst);obtain⟨oc,od,kV,doc,pm,an,cdv,ct,osl,rfl,lk,hcd⟩:=a2.a;have hmg:=mg_of KX TT.g a1;obtain⟨a',o',fd',c,P,t1,t2,t3,t4,t5,t6⟩:=TT.tab d d1;rw[d2,hmg]at t1;cases t1;rw[KX _ _ lk]at t2;cases t2;cases t3;have hcdv:cdv=.ref c:=t4;subst hcdv;have hkc:∃occ,(zy h0).lookup c=some occ:=by
   unfold codeIn at hcd;dsimp only at hcd;split at hcd
   . rename_i hh;exact⟨_,hh⟩
   . cases hcd
  obtain⟨occ,hkc⟩:=hkc;obtain⟨⟨oT,vsT,u1,u2,u3,u4⟩,u5⟩:=id t6;rw[KX _ _ hkc]at u1;cases u1;refine⟨P,?_,u5,?_,t6.isCodeTable,fa,c,_,_,hmg,lk,rfl,rfl,λh' K'=>?_⟩
  . have g1:adH h0 g=some fa:=by
     unfold adH;have a1':nsIn (zy h0) AI g=some (some (.ref fa)):=a1;unfold nsH;unfold nsIn at a1';split at a1'
     . rename_i c1 d1 es n1 s1 hmn
       have:=ui _ _ hmn;rw[this];dsimp only;unfold nsIn;rw[Al,beq_self_eq_true];dsimp only;rw[a1']
     . cases a1'
    unfold kB;rw[g1];dsimp only;rw[ui _ _ lk];dsimp only;rw[ui _ _ hkc];dsimp only;rw[u3];dsimp only;rw[u4]
  . cases e:(zy h0).lookup P with
    |none=>rfl
    |some o=>
     have n1:=jy e;have e2:=KX _ _ e;rw[u5]at e2;cases e2;cases n1
  . obtain⟨o2,vs2,file,tf,flags,tg,inF,text,tt,v1,v2,v3⟩:=CodeHd.of t5 t6
    rw[KX _ _ hkc]at v1;cases v1;exact⟨_,vs2,file,tf,flags,tg,inF,text,tt,K' _ _ hkc,v2,v3⟩
 have hmap:X.b.map (kB h0)=(X.b.map λg=>(kB h0 g).getD 0).map some:=by rw[Ck];refine CU λg hg=>?_;obtain⟨P,e,_⟩:=one g hg;simp[e]
 refine⟨X.b.map λg=>(kB h0 g).getD 0,?_,by rw[htb,Ad],λi g hi=>?_⟩
 . rw[hmap]at nd
   exact(List.pairwise_map.mp nd).imp λhne z=>hne (by rw[z])
 . rw[htb]at hi
   obtain⟨P,e,r⟩:=one g (AR hi);refine⟨P,?_,r⟩;rw[A5,hi];simp[e]
end
def gO(D:List (Str × Stmt))(glL:List (Str × Val))(X:XT)(K:KF)(h:Heap):Prop:=K.In h/\(∀p∈D,sF K p.1 p.2)/\(∀p∈glL,jf K p.1 p.2)/\(∀x∈xt,nsIn K AI x=some none)/\∃h0,K=zy h0/\oF X h0=true
theorem cQ(e:(ek D gl s,oF X s.heap)=(cn D,true)):∃K,gO D (gl.map λp=>(p.1,gv p.2)) X K s.heap:=by obtain⟨e0,eX⟩:=Prod.mk.inj e;obtain⟨e1,e2⟩:=Prod.mk.inj e0;obtain⟨e2,e3⟩:=D9.mp e2;exact⟨zy s.heap,ui,kf e1,λp hp=>(by obtain⟨p',h1,rfl⟩:=BL.mp hp;exact VO (AJ.mp e2 p' h1)),λx hx=>Zb (AJ.mp e3 x hx),s.heap,rfl,eX⟩
theorem YY{l:PySem.W.OpenLaw}(sst:Bool->Stmt)
 (WZ:l.wellSaid=true) (left:PySem.W.LeftO l.row.prog q [] (λs=>Er l.row.records s) (λz=>(ek D gl z,oF X z.heap)) (λ_=>(cn D,true)) N) (hgl:glL=gl.map λp=>(p.1,gv p.2))
 (fX:PySem.W.defOf q l.row.name=some (d,[])) (hp:l.row.prog.theDef l.row.name=some (d.params,d.body,d.scope)) (hk:PySem.W.kwWritten? d.params.kwonlyargs d.params.kw_defaults=some [])
 (hwr:(!l.row.writes||l.row.records.isEmpty)=true) (ok:(PySem.W.chainsOk q&&PySem.W.opensWell l.row.prog&&(PySem.W.frees l.row.toRowW&&l.row.within.isEmpty))=true) (hb:l.row.prog.bare) (hw:l.row.toRowW.promised)
 (hn:l.most=some 63) (hdf:d.params.defaults=[]) (hr:L2.y9 n callerA) (hF:(kC fnL glL tb xc md).d d.name 0=some F) (hx:F.b=[x]) (hc:pJ fnL D=true)
 (htb:tb=X.b) (htb2:fnL.all (λp=>!decide (("!":Str)∈p.2.N)||decide (p.1.1∈tb))=true) (hkx:D.lookup kx=some kst) (hK:ma kst X.a ws pre) (hS:∀b,md b=true->D.lookup (L2.yQ b)=some (sst b)/\pQ b kx (sst b)) (hkd:(kx == ("__debug__":Str))=false)
 (hws:wsB X.a ws pre=true) (hxc:xcB X.c X.a ws pre xc=true) (m6:((("HueError":Str))::X.c).all (λc=>dD q c)=true) (m7:X.b.all (λg=>(Ed q).any (λd=>decide (d.name=g))&&(D.lookup g).isSome)=true)
 (HL:∀ns:List Int,ns.length<=63->∃s',zB (kC fnL glL tb xc md) n d.name 0 [.r ns] (tb.map .d)=.e (.e true) s'):l.Holds:=by
 refine PySem.W.holds_law WZ λsaid'=>PySem.W.holds_open (q:=q) (loose:=[]) (Xt:=λs=>Er l.row.records s) (XP:=λ_ _=>True) (YP:=λ_ h=>∃K,gO D glL X K h) left (λw s e=>hgl▸cQ e)
  (λw h h' ⟨K,a,b⟩ k=>⟨K,a.keeps k,b⟩) (λ_ _=>trivial) (λ_ _ _ _ _=>trivial) fX hp hk (λs e=>PySem.W.recFacts_of e) hwr said' ok hb hw ?_
 intro w s₀ s₁ mg mb G ⟨K,Y⟩;obtain⟨Y1,Y2,Y3,Y4,h0,rfl,ob⟩:=id Y;refine walk (l:=l) (q:=q) (loose:=[]) (XP:=λ_ _=>True) (YP:=λ_ h=>gO D glL X (zy h0) h) (d:=d) (K:=zy h0) (T:=kC fnL glL tb xc md) hn hdf hr (λ_ _ y=>y.1) hF hx (λw s₀ mg mb h G KX=>⟨?_,?_⟩) HL w s₀ s₁ mg mb G Y
 . exact Wo KX G.T.g Y2 Y3 Y4 hc (λ_=>htb2) λ_=>Uj sst G.T KX ob (Y2 _ (xB hkx)) (λb hbm=>⟨Y2 _ (xB (hS b hbm).1),(hS b hbm).2⟩) hK Y4 hkd hws hxc m6
 . exact tab_of G.T KX ob htb Y2 m7
end M
end
section
namespace P02
open PySem M
noncomputable def yC:Fn:=F.yC
noncomputable def yd:Fn:=F.yd
noncomputable def yu:Fn:=F02.yu
noncomputable def yJ:Fn:=F.yJ
noncomputable def yZ:Fn:=F.yZ
noncomputable def zg:Fn:=F02.zg
noncomputable def yv:Fn:=F.yv
noncomputable def xJ:Fn:=F.xJ
noncomputable def qX:Fn:=⟨["_law_script","_law_k","_law_pen_here","_law_length","_law_size","_law_first","_law_step","_law_due","_law_turn","_law_found"],["_law_script"],false,(.e (.l (.a 1) (.d (.l .i false (.a (.g (.c 1)) (.a (.l .l false (.a (.l .h false (.a (.e 0) .c)) (.a (.g (.c 5)) .c))) .c)))) (.e (.k 2 (.h "_law_pen" 1 (.a (.h "_law_cell_at" 0 (.a (.e 0) (.a (.e 1) .c))) .c))) (.e (.p [3,4] (.a (.h "_law_draw" 0 (.a (.e 2) (.a (.g (.c 41)) .c))) (.a (.j false .a (.g (.c 2)) (.h "_law_draw" 0 (.a (.e 2) (.a (.g (.c 7)) .c)))) .c))) (.e (.p [5,6] (.a (.h "_law_draw" 0 (.a (.e 2) (.a (.g (.c 41)) .c))) (.a (.j false .a (.g (.c 1)) (.h "_law_draw" 0 (.a (.e 2) (.a (.g (.c 40)) .c)))) .c))) (.e (.k 7 (.h "_law_rows" 0 (.a (.e 3) (.a (.e 4) .c)))) (.e (.l (.a 8) (.d (.g (.c 2))) (.e (.k 9 (.h "rows_in" 1 (.a (.e 3) (.a (.e 4) .c)))) (.e (.g (.f (.a (.r .b (.l .a false (.a (.e 9) .c)) (.l .a false (.a (.e 7) .c)))) (.b (.a (.r .b (.l .a false (.a (.h "rows_many" 0 (.a (.e 3) (.a (.e 4) .c))) .c)) (.l .a false (.a (.l .h false (.a (.e 7) .c)) .c)))) .a)) (.e (.f (.g (.e false))) .f) .f) (.e (.d (.K .a false (.e 9) (.a (.y (.a (.g (.c 0)) (.a (.g (.c 1)) .c))) .c))) .f)))) (.e (.g (.a (.r .b (.l .a false (.a (.h "places_of" 0 (.a (.e 5) (.a (.e 6) (.a (.e 4) .c)))) .c)) (.l .a false (.a (.l .e false (.a (.h "_law_places" 0 (.a (.y (.a (.e 5) (.a (.e 6) .c))) (.a (.e 4) .c))) .c)) .c)))) (.e (.f (.g (.e false))) .f) .f) (.e (.g (.b (.a (.h "_law_refused_right" 0 (.a (.e 2) (.a (.e 3) (.a (.e 4) .c)))))) (.e (.f (.g (.e false))) .f) .f) .f)))))))) (.e (.f (.u (.r .a (.h "rows_in" 0 (.a (.g (.c 0)) (.a (.g (.c 2)) .c))) (.w false .c)) (.a (.r .a (.h "rows_in" 0 (.a (.g (.c 2)) (.a (.g (.c 2)) .c))) (.w false (.a (.y (.a (.g (.c 0)) (.a (.g (.c 1)) .c))) .c))) (.a (.r .a (.z (.h "rows_in" 0 (.a (.g (.c 40)) (.a (.g (.c 8)) .c))) (.D (.g (.c 1)))) (.y (.a (.g (.c 32)) (.a (.g (.c 1)) .c)))) .c)))) .f))⟩
noncomputable def yw:Fn:=F.yw
noncomputable def yK:Fn:=F14.yK
noncomputable def zj:Fn:=F.zj
noncomputable def yA:Fn:=F.yA
noncomputable def yT:Fn:=F14.yT
noncomputable def zv:Fn:=F.zv
noncomputable def zo:Fn:=F08.zo
noncomputable def ya:Fn:=F75.ya
noncomputable def yx:Fn:=F02.yx
noncomputable def yB:Fn:=F02.yB
def fnL:List ((Str × Nat) × Fn):=((("_law_cell_at":Str),(0:Nat)),yC)::((("_law_draw":Str),(0:Nat)),yd)::((("_law_none":Str),(0:Nat)),yu)::((("_law_pen":Str),(1:Nat)),yJ)::((("_law_places":Str),(0:Nat)),yZ)::((("_law_refused_right":Str),(0:Nat)),zg)::((("_law_rows":Str),(0:Nat)),yv)::((("is_whole":Str),(0:Nat)),xJ)::((("law":Str),(0:Nat)),qX)::((("most_step":Str),(0:Nat)),yw)::((("need_first":Str),(0:Nat)),yK)::((("need_length":Str),(0:Nat)),zj)::((("need_size":Str),(0:Nat)),yA)::((("need_step":Str),(0:Nat)),yT)::((("need_whole":Str),(0:Nat)),zv)::((("places_of":Str),(0:Nat)),zo)::((("rows_in":Str),(0:Nat)),ya)::((("rows_in":Str),(1:Nat)),yx)::((("rows_many":Str),(0:Nat)),yB)::[]
noncomputable def glL:List (Str × Val):=[("MOST_PLACES",.c 40),("LEAST_SIZE",.c 2),("MOST_SIZE",.c 8)]
noncomputable def tb:List Str:=["_law_refused_right"]
noncomputable def xc:List (Str × Str):=[("NoNumber","number")]
noncomputable def md:Bool->Bool:=λb=>!b
def T:Tbl:=kC fnL glL tb xc md
set_option maxHeartbeats 0 in
theorem Wk:pJ fnL D=true:=by decide +kernel
end P02
end
section
namespace P02
open PySem M
theorem oD:zU .b (.m x) (.m x) s=.e (.e false) s:=by simp[zU]
theorem Tx(h:zr 0 40 v=false):zr 1 40 v=false:=by
 cases v with
 |c i=>
  rw[mU]at h ⊢;rw[Bool.and_eq_false_iff]at h ⊢;rcases h with h|h
  . exact .inl (decide_eq_false (by have:=of_decide_eq_false h;omega))
  . exact .inr h
 |_=>rfl
structure CSd(Φ:Calls):Prop where
 a:∀f∈([("rows_in":Str),"rows_many"]:List Str),∀(v u:Val) (s:Sto),zl tb s=true->kindOf v≠none->zr 0 40 v=false->Φ f 100 [v,u] s=.e (.m "number") s
 b:∀f∈([("rows_in":Str),"rows_many"]:List Str),∀(n:Nat) (u:Val) (s:Sto),zl tb s=true->n<=40->kindOf u≠none->zr 2 8 u=false->Φ f 100 [.c n,u] s=.e (.m "number") s
 p1:∀(v u t:Val) (s:Sto),zl tb s=true->kindOf v≠none->zr 0 40 v=false->Φ "places_of" 100 [v,u,t] s=.e (.m "number") s
 p2:∀(i:Int) (v u:Val) (s:Sto),zl tb s=true->0<=i->i<=40->kindOf v≠none->zr 1 40 v=false->Φ "places_of" 100 [.c i,v,u] s=.e (.m "number") s
 p3:∀(i j:Int) (v:Val) (s:Sto),zl tb s=true->0<=i->i<=40->1<=j->j<=40->kindOf v≠none->zr 2 8 v=false->Φ "places_of" 100 [.c i,.c j,v] s=.e (.m "number") s
def lm(l m:Int):Prop:=(l=0/\m=40)\/(l=2/\m=8)
def ZZ(Φ:Calls):Prop:=∀(p:Nat) (l m:Int) (s:Sto),vP s p->lm l m->(Φ "_law_none" 0 [.j p,.c l,.c m] s).post λv s'=>kindOf v≠none/\zr l m v=false/\xR s p s'
def W0(Φ:Calls):Prop:=∀(p n z:Nat) (s:Sto),zl tb s=true->tb.length<=p->vP s p->n<=40->2<=z->z<=8->(Φ "_law_refused_right" 0 [.j p,.c n,.c z] s).post λv s'=>v=.e true/\xR s p s'
def iR(l m:Int):List Val:=[.c (l-1),.c (m+1),.e true,.g,.m (E3 l),.f [.c l],.h [.c l],.p,.c kS,.c (l-kS),.e false]
theorem aL(h:lm l m):∀v∈iR l m,kindOf v≠none/\zr l m v=false/\v.noRef=true:=λv hv=>by
 have i:∀{i:Int},¬(l<=i/\i<=m)->kindOf (.c i)≠none/\zr l m (.c i)=false/\(Val.c i).noRef=true:=λ{i} hi=>⟨nofun,by
  rw[mU,Bool.and_eq_false_iff];by_cases h1:l<=i
  . exact .inr (decide_eq_false λh2=>hi ⟨h1,h2⟩)
  . exact .inl (decide_eq_false h1),wz⟩
 have hb:kS=100000000000000000000000000000:=rfl;have hl:0<=l/\l<=2/\m<=40:=by rcases h with⟨rfl,rfl⟩|⟨rfl,rfl⟩<;>omega
 simp only[iR,As,BO,or_false]at hv;rcases hv with rfl|rfl|rfl|rfl|rfl|rfl|rfl|rfl|rfl|rfl|rfl
 . exact i (by omega)
 . exact i (by omega)
 . exact⟨nofun,rfl,vx⟩
 . exact⟨nofun,rfl,se⟩
 . exact⟨nofun,rfl,eh⟩
 . exact⟨nofun,rfl,by rw[lN,wZ,ux,wz];rfl⟩
 . exact⟨nofun,rfl,by rw[lM,wZ,ux,wz];rfl⟩
 . exact⟨nofun,rfl,by rw[Val.noRef]⟩
 . exact i (by omega)
 . exact i (by omega)
 . exact⟨nofun,rfl,vx⟩
theorem mz(h:nF (.h vs) (.h ws)=some true):zU .a (.h vs) (.h ws) s=.e (.e true) s:=by simp only[zU,zt,yk,h]
theorem oZ(h:zl tb s=true)(hp:tb.length<=p)(t:xR s p s'):zl tb s'=true:=by obtain⟨a,b,rfl,_⟩:=t;exact ZN h hp
section
variable {Φ:Calls}{s:Sto}
theorem cJ(cD:gH Φ)(hp:vP s p)(h:lm l m):(run T Φ F02.yu [.j p,.c l,.c m] s).post λv s'=>kindOf v≠none/\zr l m v=false/\xR s p s':=by
 have L1:1<=zS:=by decide
 have hst:blt .p false [.c l] s=.e (.m (E3 l)) s:=by
  rcases h with⟨rfl,_⟩|⟨rfl,_⟩<;>(simp only[blt];rw[if_pos (by decide)])
 obtain⟨_,s1,hd,k,rfl,hk,t1⟩:=cD p 11 s hp (by omega) (by omega)
 have hk':k<(iR l m).length:=by show k<11;omega
 have hu:=aL h _ (CI hk');have hix:wI (.h (iR l m)) (.c k) s1=.e (iR l m)[k] s1:=Ys (Ak hk');rw[F02.yu,wb];refine⟨rfl,?_⟩;show (zX Φ T.b [some (.j p),some (.c l),some (.c m),none] _ s).post _;refine pE (pO (zA (yR (zD rfl) zQ mh) (zA (yR (zD rfl) zQ qN) (zA zQ (zA zQ (zA (xg (zA (zD rfl) zE) hst) (zA (qK (zA (zD rfl) zE) L1) (zA (pO (zA (zD rfl) zE) L1) (zA rfl (zA (yR zQ zQ gX) (zA (yR (zD rfl) (yR zQ zQ gX) mh) zE)))))))))) (show 10<=zS by decide)) ?_
 refine vG (mV (yR (zD rfl) (pO (zA zQ zE) L1) rfl) (x_call (zA (zD rfl) (zA zQ zE)) hd) hix) ?_;generalize (iR l m)[k]=u at hu;show (z9 false s u s1).post _;rw[uN t1 hu.2.2];exact zC.mpr ⟨hu.1,hu.2.1,t1⟩
theorem mH(cN:ZZ Φ)(c:CSd Φ){p n z:Nat}(hs:zl tb s=true)(hpl:tb.length<=p)(hp:vP s p)(hn:n<=40)(hz:2<=z)(hz8:z<=8):(run T Φ F02.zg [.j p,.c n,.c z] s).post λv s'=>v=.e true/\xR s p s':=by
 have L1:1<=zS:=by decide
 obtain⟨v,s1,hd1,hk1,hw1,t1⟩:=cN p 0 40 s hp (.inl ⟨rfl,rfl⟩);obtain⟨u,s2,hd2,hk2,hw2,t2⟩:=cN p 2 8 s1 (t1.at_ hp.lt) (.inr ⟨rfl,rfl⟩);have tt:=t1.trans t2;have hZ:=oZ hs hpl tt;rw[F02.zg,wb];refine⟨rfl,?_⟩;show (zX Φ T.b [some (.j p),some (.c n),some (.c z),none,none,none,none] _ s).post _;refine yX.mpr (jP.mpr (vy (x_call (zA (zD rfl) (zA zQ (zA zQ zE))) hd1) (vy (x_call (zA (zD rfl) (zA zQ (zA zQ zE))) hd2) (jN.mpr (oM rfl ?_)))));show (zX Φ T.b [some (.j p),some (.c n),some (.c z),some v,some u,none,none] _ s2).post _;have i1:("rows_in":Str)∈([("rows_in":Str),"rows_many"]:List Str):=.head _;have i2:("rows_many":Str)∈([("rows_in":Str),"rows_many"]:List Str):=.tail _ (.head _);refine ZC (vs:=AA 9 (.m "number")) (r:=.e true) (zA (x_call (zA (zD rfl) (zA (zD rfl) zE)) (c.a _ i1 v _ s2 hZ hk1 hw1)) (zA (x_call (zA (zD rfl) (zA (zD rfl) zE)) (c.b _ i1 n u s2 hZ hn hk2 hw2)) (zA (x_call (zA (zD rfl) (zA (zD rfl) zE)) (c.a _ i2 v _ s2 hZ hk1 hw1)) (zA (x_call (zA (zD rfl) (zA (zD rfl) zE)) (c.a _ i2 v _ s2 hZ hk1 hw1)) (zA (x_call (zA (zD rfl) (zA (zD rfl) zE)) (c.b _ i2 n u s2 hZ hn hk2 hw2))
  (zA (x_call (zA (zD rfl) (zA zQ (zA (zD rfl) zE))) (c.p1 v _ _ s2 hZ hk1 hw1)) (zA (x_call (zA zQ (zA (zD rfl) (zA (zD rfl) zE))) (c.p2 40 v _ s2 hZ (by decide) (by decide) hk1 (Tx hw1))) (zA (x_call (zA zQ (zA zQ (zA (zD rfl) zE))) (c.p2 0 (.c 0) _ s2 hZ (by decide) (by decide) nofun rfl)) (zA (x_call (zA zQ (zA zQ (zA (zD rfl) zE))) (c.p3 0 40 u s2 hZ (by decide) (by decide) (by decide) (by decide) hk2 hw2)) zE)))))))))
  (yR (pO (zA zQ zE) L1) zQ rfl) (mz (by decide +kernel)) ?_
 show (z9 false s (.e true) s2).post _;rw[uN tt vx];exact zC.mpr ⟨rfl,tt⟩
structure Cs(Φ:Calls):Prop where
 e:ZY Φ
 h:Wz Φ
 a:gH Φ
 d:gI Φ
 b:kM Φ
 c:∀(n z:Nat) (s:Sto),n<=40->2<=z->z<=8->Φ "rows_in" 0 [.c n,.c z] s=.e (.h ((zp n z).map yF)) s
 g:oj Φ
 f:gJ Φ
 i:qW Φ
 rf:W0 Φ
theorem Yr:∀s,wI (.h ((zp 40 8).map yF)) (.c (-1)) s=.e (.f [.c 32,.c 1]) s:=λs=>by
 have h:(zp 40 8).length=95/\(zp 40 8)[94]?=some (32,1):=by decide +kernel
 simp only[wI,xa,L2.atI];rw[Ad,h.1];show (match ((zp 40 8).map yF)[94]? with|some v=>Out.e v s|none=>.d)=_
 rw[A5,h.2];rfl
theorem d7{n:Nat}(h:n<=2000):blt .a false [.c n] s=.e (.m (Val.c (n:Int)).d.shown) s:=by
 have t:=Wm (i:=(n:Int)) (by omega) (by omega)
 show (if ((Val.c (n:Int)).isR&&vh (Val.c (n:Int)).d)=true then Out.e (Val.m (Val.c (n:Int)).d.shown) s else Out.d)=_
 rw[t.r,tv t.lf (by decide) (by decide) t.nd]
 rfl
abbrev en(ns:List Int)(o1 o2 o3 o4 o5 o6 o7 o8 o9:Option Val):M.Env:=[some (.r ns),o1,o2,o3,o4,o5,o6,o7,o8,o9]
theorem eT(c:Cs Φ)ns:(run T Φ qX [.r ns] (tb.map .d)).post λv _=>v=.e true:=by
 have L1:1<=zS:=by decide
 have L2':2<=zS:=by decide
 rw[qX,wb];refine⟨rfl,?_⟩;show (zX Φ T.b (en ns none none none none none none none none none) _ (tb.map .d)).post _;refine yX.mpr (oI (λrest e s'=>(∃o1 o2 o3 o4 o5 o6 o7 o8 o9,e=en ns o1 o2 o3 o4 o5 o6 o7 o8 o9)/\zl tb s'=true/\∀x∈rest,∃k:Nat,x=.c k) (yH 0 (max 1 (min ns.length 5))) (s1:=tb.map .d) (fP (K:=5) rfl (by omega)) ⟨⟨_,_,_,_,_,_,_,_,_,rfl⟩,xl.mpr ⟨[],by rw[AY]⟩,λx hx=>?_⟩ ?_ ?_)
 . obtain⟨k,_,rfl⟩:=uu hx
   exact⟨k,by congr 1;omega⟩
 . rintro x rest e s' ⟨⟨o1,o2,o3,o4,o5,o6,o7,o8,o9,rfl⟩,hZ,hr⟩
   obtain⟨k,rfl⟩:=hr x (.head _);refine⟨_,rfl,?_⟩;obtain⟨cv,hcell⟩:=c.e ns k s';obtain⟨pa,pb,hpen,hb⟩:=c.h cv s';refine pE (x_call (zA (x_call (zA (zD rfl) (zA (zD rfl) zE)) hcell) zE) hpen) ?_;have hP:vP (s'++[u7 pa pb]) s'.length:=⟨pa,pb,by simp,hb⟩
   have hZ1:zl tb (s'++[u7 pa pb])=true:=jd hZ;have hpl:tb.length<=s'.length:=ZM hZ;show (zX Φ T.b (en ns (some (.c k)) (some (.j s'.length)) o3 o4 o5 o6 o7 o8 o9) _ (s'++[u7 pa pb])).post _;generalize s'++[u7 pa pb]=s1 at hP hZ1;generalize s'.length=p at hP hpl;obtain⟨_,s2,hd2,n,rfl,hn,t2⟩:=c.a p 41 s1 hP (by omega) (by omega)
   obtain⟨_,s3,hd3,q,rfl,hq,t3⟩:=c.a p 7 s2 (t2.at_ hP.lt) (by omega) (by omega)
   have t23:=t2.trans t3;obtain⟨_,s4,hd4,f,rfl,hf,t4⟩:=c.a p 41 s3 (t23.at_ hP.lt) (by omega) (by omega)
   have t24:=t23.trans t4;obtain⟨_,s5,hd5,g,rfl,hg,t5⟩:=c.a p 40 s4 (t24.at_ hP.lt) (by omega) (by omega)
   have t25:=t24.trans t5;have hP5:=t25.at_ hP.lt;have hZ5:=oZ hZ1 hpl t25;obtain⟨z,hz,hz2,hz8⟩:∃z:Nat,(2:Int)+(q:Int)=(z:Int)/\2<=z/\z<=8:=⟨2+q,by omega,by omega,by omega⟩
   obtain⟨d,hd,hd1,hd40⟩:∃d:Nat,(1:Int)+(g:Int)=(d:Int)/\1<=d/\d<=40:=⟨1+g,by omega,by omega,by omega⟩
   have hn40:n<=40:=by omega
   have hf40:f<=40:=by omega
   refine yX.mpr (jP.mpr (vy (x_call (zA (zD rfl) (zA zQ zE)) hd2) (vy (yR zQ (x_call (zA (zD rfl) (zA zQ zE)) hd3) qN) (jN.mpr (oM rfl ?_)))));refine yX.mpr (jP.mpr (vy (x_call (zA (zD rfl) (zA zQ zE)) hd4) (vy (yR zQ (x_call (zA (zD rfl) (zA zQ zE)) hd5) qN) (jN.mpr (oM rfl ?_)))));rw[hz,hd];show (zX Φ T.b (en ns (some (.c k)) (some (.j p)) (some (.c n)) (some (.c z)) (some (.c f)) (some (.c d)) o7 o8 o9) _ s5).post _;refine pE (x_call (zA (zD rfl) (zA (zD rfl) zE)) (c.d n z s5 hn40 hz2 hz8)) ?_;have h1600:(zp n z).length<=1000:=by
    have:∀n<41,∀z<9,2<=z->(zp n z).length<=1000:=by decide +kernel
    exact this n (by omega) z (by omega) hz2
   have hrows:∀r∈zp n z,r.1<=1000/\r.2<=1000:=λr hr=>by
    obtain⟨m1,m2⟩:=iO hz2 hr;have:=Nat.le_mul_of_pos_right r.2 (show 0<z-1 by omega)
    omega
   refine yX.mpr (oI (λrest3 e s6=>(∃o8 o9,e=en ns (some (.c k)) (some (.j p)) (some (.c n)) (some (.c z)) (some (.c f)) (some (.c d)) (some (.h ((zp n z).map yF))) o8 o9)/\zl tb s6=true/\vP s6 p) (yH 0 2) (s1:=s5) (kz (k:=2) zQ (by decide)) ⟨⟨_,_,rfl⟩,hZ5,hP5⟩ ?_ ?_)
   . rintro y rest3 e s6 ⟨⟨o8,o9,rfl⟩,hZ6,hP6⟩
     refine⟨_,rfl,?_⟩;refine pE (x_call (zA (zD rfl) (zA (zD rfl) zE)) (c.g n z s6 hn40 hz2 hz8)) ?_;show (zX Φ T.b (en ns (some (.c k)) (some (.j p)) (some (.c n)) (some (.c z)) (some (.c f)) (some (.c d)) (some (.h ((zp n z).map yF))) (some y) (some (.j s6.length))) _ (s6++[.c ((zp n z).map yF)])).post _;have hr1:=pC (m:=false) (x:=.j s6.length) (s:=s6++[.c ((zp n z).map yF)]) (rs:=zp n z) (by simp[zt,yk]) h1600 hrows
     have hr2:=pC (m:=false) (x:=.h ((zp n z).map yF)) (s:=s6++[.c ((zp n z).map yF)]) (rs:=zp n z) rfl h1600 hrows;have hl:blt .h false [.h ((zp n z).map yF)] (s6++[.c ((zp n z).map yF)])=.e (.c ((zp n z).length:Nat)) (s6++[.c ((zp n z).map yF)]):=by show Out.e (Val.c (((zp n z).map yF).length:Nat)) _=_;rw[Ad]
     refine mK (Ts (qG (sO (xg (zA (zD rfl) zE) hr1) (xg (zA (zD rfl) zE) hr2) oD) wF) (ZS (qG (sO (xg (zA (x_call (zA (zD rfl) (zA (zD rfl) zE)) (c.f n z _ hn40 hz2 hz8)) zE) (d7 (by omega))) (xg (zA (xg (zA (zD rfl) zE) hl) zE) (d7 (by omega))) oD) wF) Wn)) ?_
     refine yi (bnd (zD rfl) (bnd (zA (qK (zA zQ (zA zQ zE)) L2') zE) (kR (by rw[Ad];unfold zS;omega)))) (sL ⟨⟨_,_,rfl⟩,jd hZ6,?_⟩)
     obtain⟨a,b,h1,h2⟩:=hP6;exact⟨a,b,by rw[AQ (Am.mp h1).1];exact h1,h2⟩
   . rintro e s6 ⟨⟨o8,o9,rfl⟩,hZ6,hP6⟩
     have hpl':blt .e false [.h ((xC f d z).map .c)] s6=.e (tpI (xC f d z)) s6:=rfl;have hrep:=aw (m:=false) (s:=s6) (ks:=xC f d z) (by unfold xC;rw[Ad,Bt];omega) (λi hi=>by
      unfold xC at hi;obtain⟨j,hj,rfl⟩:=BL.mp hi;have hj:=Cy.mp hj;have:=Dk (show j<=8 by omega) hd40
      omega)
     refine mK (qG (sO (xg (zA (x_call (zA (zD rfl) (zA (zD rfl) (zA (zD rfl) zE))) (c.i f d z s6 hf40 hd1 hd40 hz2 hz8)) zE) hrep) (xg (zA (xg (zA (x_call (zA (qK (zA (zD rfl) (zA (zD rfl) zE)) L2') (zA (zD rfl) zE)) (c.b (f,d) z s6 hz8 (by show d<=1000;omega))) zE) hpl') zE) hrep) oD) wF) ?_
     obtain⟨_,s7,hrf,rfl,t7⟩:=c.rf p n z s6 hZ6 hpl hP6 hn40 hz2 hz8;exact mK (YB (b:=true) (qG (x_call (zA (zD rfl) (zA (zD rfl) (zA (zD rfl) zE))) hrf) wF)) (sL ⟨⟨_,_,_,_,_,_,_,_,_,rfl⟩,oZ hZ6 hpl t7,λx hx=>hr x (.tail _ hx)⟩)
 . rintro e s' ⟨⟨o1,o2,o3,o4,o5,o6,o7,o8,o9,rfl⟩,hZ,_⟩
   refine vG (v:=.e true) (s1:=s') (cy (sO (x_call (zA zQ (zA zQ zE)) (c.c 0 2 s' (by decide) (by decide) (by decide))) (pO zE (show 0<=zS by decide)) (mz (by decide +kernel))) (sO (x_call (zA zQ (zA zQ zE)) (c.c 2 2 s' (by decide) (by decide) (by decide))) (pO (zA (qK (zA zQ (zA zQ zE)) L2') zE) L1) (mz (by decide +kernel))) (sO (mV (x_call (zA zQ (zA zQ zE)) (c.c 40 8 s' (by decide) (by decide) (by decide))) (U2 zQ) (Yr s')) (qK (zA zQ (zA zQ zE)) L2') ?_)) ?_
   . have h:nF (.f [.c 32,.c 1]) (.f [.c 32,.c 1])=some true:=by decide +kernel
     show (match nF (zt s' (.f [.c 32,.c 1])) (zt s' (.f [.c 32,.c 1])) with|some b=>Out.e (Val.e b) s'|none=>.d)=_
     rw[show zt s' (.f [.c 32,.c 1])=.f [.c 32,.c 1] from rfl,h]
   . show (z9 false (tb.map .d) (.e true) s').post _
     rw[iL hZ vx];exact zC.mpr rfl
end
theorem cs:At T 6 Cs:=λn hn=>by
 obtain⟨n,rfl⟩:∃m,n=m+6:=⟨n-6,by omega⟩
 have whole:∀m,mY (zB T (m+1)):=λm v l k s h=>by rw[zh (F:=F.xJ) rfl];exact i7 h
 have needWhole:∀m,xn (zB T (m+2)):=λm i l k s h1 h2=>by rw[zh (F:=F.zv) rfl];exact qQ (whole m) h1 h2
 have needLength:∀m,wB (zB T (m+3)):=λm i s h1 h2=>by rw[zh (F:=F.zj) rfl];exact iU rfl (needWhole m) h1 h2
 have needSize:∀m,wR (zB T (m+3)):=λm i s h1 h2=>by rw[zh (F:=F.yA) rfl];exact aP rfl rfl (needWhole m) h1 h2
 have needFirst:∀m,sr (zB T (m+3)):=λm i s h1 h2=>by rw[zh (F:=F14.yK) rfl];exact ey rfl (needWhole m) h1 h2
 have needStep:∀m,qV (zB T (m+3)):=λm i s h1 h2=>by rw[zh (F:=F14.yT) rfl];exact aQ rfl (needWhole m) h1 h2
 have xNeed:∀m,gQ (zB T (m+2)) (ze T (m+2)):=λm v l k s h1 h2 h3 h4=>RzF.up (F:=F.zv) (let ⟨a,b⟩:=gU (T:=T) (Ψ:=ze T (m+1)) (s:=s) (whole m) rfl h1 h2 h3 h4;⟨a,_,b⟩) rfl rfl;have xSize:∀m,W8 (zB T (m+3)) (ze T (m+3)):=λm v s h1 h2=>RzF.up (F:=F.yA) (gV rfl rfl (xNeed m) h1 h2) rfl rfl;have xLength:∀m,bD (zB T (m+3)) (ze T (m+3)):=λm v s h1 h2=>RzF.up (F:=F.zj) (mf rfl (xNeed m) h1 h2) rfl rfl;have xFirst:∀m,YM (zB T (m+3)) (ze T (m+3)):=λm v s h1 h2=>RzF.up (F:=F14.yK) (wU (F:=F14.yK) rfl rfl (zA (zD rfl) (zA zQ (zA (kJ rfl) zE))) (xNeed m v 0 40 s h1 h2 (by decide) (by decide))) rfl rfl
 have xStep:∀m,W9 (zB T (m+3)) (ze T (m+3)):=λm v s h1 h2=>RzF.up (F:=F14.yT) (wU (F:=F14.yT) rfl rfl (zA (zD rfl) (zA zQ (zA (kJ rfl) zE))) (xNeed m v 1 40 s h1 h2 (by decide) (by decide))) rfl rfl
 have most:∀m,kL (zB T (m+1)):=λm a b d s h1 h2 h3=>by rw[zh (F:=F.yw) rfl];exact cI h1 h2 h3
 have rin:∀m (a b:Nat) (s:Sto),a<=40->2<=b->b<=8->zB T (m+4) "rows_in" 0 [.c a,.c b] s=.e (.h ((zp a b).map yF)) s:=λm a b s h1 h2 h3=>by rw[zh (F:=F75.ya) rfl];exact mI (needLength m) (needSize m) (most (m+2)) h1 h2 h3
 have rin1:∀m,oj (zB T (m+4)):=λm a b s h1 h2 h3=>by rw[zh (F:=F02.yx) rfl];exact mJ (needLength m) (needSize m) (most (m+2)) h1 h2 h3
 have many:∀m,gJ (zB T (m+4)):=λm a b s h1 h2 h3=>by rw[zh (F:=F02.yB) rfl];exact i6 (needLength m) (needSize m) h1 h2 h3
 have pof:∀m,qW (zB T (m+4)):=λm f d z s h1 h2 h3 h4 h5=>by rw[zh (F:=F08.zo) rfl];exact oU (needFirst m) (needStep m) (needSize m) h1 h2 h3 h4 h5
 have sd:∀m,CSd (zB T (m+5)):=λm=>by
  have two:∀f∈([("rows_in":Str),"rows_many"]:List Str),f="rows_in"\/f="rows_many":=λf hf=>by simpa using hf
  refine⟨λf hf v u s hs h1 h2=>?_,λf hf n u s hs hn h1 h2=>?_,λv u t s hs h1 h2=>vB (RzF.up (n:=m+3) (F:=F08.zo) (wU (F:=F08.zo) rfl rfl (zA (zD rfl) zE) (xFirst m v s h1 h2)) rfl rfl) rfl rfl hs rfl,
   λi v u s hs hi hi2 h1 h2=>vB (RzF.up (n:=m+3) (F:=F08.zo) (uG (F:=F08.zo) rfl rfl (zA (zD rfl) zE) (needFirst m i s hi hi2) (zA (zD rfl) zE) (xStep m v s h1 h2)) rfl rfl) rfl rfl hs rfl,
   λi j v s hs hi hi2 hj hj2 h1 h2=>vB (RzF.up (n:=m+3) (F:=F08.zo) (jh (F:=F08.zo) rfl rfl (zA (zD rfl) zE) (needFirst m i s hi hi2) (zA (zD rfl) zE) (needStep m j s hj hj2) (zA (zD rfl) zE) (xSize m v s h1 h2)) rfl rfl) rfl rfl hs rfl⟩
  . rcases two f hf with rfl|rfl
    . exact vB (RzF.up (n:=m+3) (F:=F75.ya) (wU (F:=F75.ya) rfl rfl (zA (zD rfl) zE) (xLength m v s h1 h2)) rfl rfl) rfl rfl hs rfl
    . exact vB (RzF.up (n:=m+3) (F:=F02.yB) (wU (F:=F02.yB) rfl rfl (zA (zD rfl) zE) (xLength m v s h1 h2)) rfl rfl) rfl rfl hs rfl
  . rcases two f hf with rfl|rfl
    . exact vB (RzF.up (n:=m+3) (F:=F75.ya) (uG (F:=F75.ya) rfl rfl (zA (zD rfl) zE) (needLength m n s (by omega) (by omega)) (zA (zD rfl) zE) (xSize m u s h1 h2)) rfl rfl) rfl rfl hs rfl
    . exact vB (RzF.up (n:=m+3) (F:=F02.yB) (uG (F:=F02.yB) rfl rfl (zA (zD rfl) zE) (needLength m n s (by omega) (by omega)) (zA (zD rfl) zE) (xSize m u s h1 h2)) rfl rfl) rfl rfl hs rfl
 have cell:∀m,ZY (zB T (m+1)):=λm ns k s=>by obtain⟨c,h⟩:=cG (T:=T) (Φ:=zB T m) (s:=s) ns k;exact⟨c,by rw[zh (F:=F.yC) rfl];exact h⟩
 have pen:∀m,Wz (zB T (m+1)):=λm c s=>by obtain⟨a,b,h,h2⟩:=az (T:=T) (Φ:=zB T m) (s:=s) c;exact⟨a,b,by rw[zh (F:=F.yJ) rfl];exact h,h2⟩
 have draw:∀m,gH (zB T (m+1)):=λm p k s h1 h2 h3=>by rw[zh (F:=F.yd) rfl];exact cH h1 h2 h3
 have non:∀m,ZZ (zB T (m+2)):=λm p l k s h1 h2=>by rw[zh (F:=F02.yu) rfl];exact cJ (draw m) h1 h2
 have lrows:∀m,gI (zB T (m+1)):=λm a b s h1 h2 h3=>by rw[zh (F:=F.yv) rfl];exact i5 h1 h2 h3
 have places:∀m,kM (zB T (m+1)):=λm r z s h1 h2=>by rw[zh (F:=F.yZ) rfl];exact ly h1 h2
 have rf:∀m,W0 (zB T (m+6)):=λm p a b s h1 h2 h3 h4 h5 h6=>by rw[zh (F:=F02.zg) rfl];exact mH (non (m+3)) (sd m) h1 h2 h3 h4 h5 h6
 exact⟨cell (n+5),pen (n+5),draw (n+5),lrows (n+5),places (n+5),rin (n+2),rin1 (n+2),many (n+2),pof (n+2),rf n⟩
theorem Xf ns:∃s',zB T 7 "law" 0 [.r ns] (tb.map .d)=.e (.e true) s':=by
 obtain⟨v,s',h,rfl⟩:=eT (cs 6 (by omega)) ns
 exact⟨s',by rw[zh (F:=qX) rfl];exact h⟩
end P02
end
section
open PySem PySem.W PyProof.Rows
theorem P02.hx:P02.qX.b=[("_law_script":Str)]:=by kernel_rfl
theorem P02.hF:(M.kC P02.fnL P02.glL P02.tb P02.xc P02.md).d P02.dd.name 0=some P02.qX:=by kernel_rfl
theorem P02.hgl:P02.glL=P02.gl.map λp=>(p.1,M.gv p.2):=by kernel_rfl
def P02.ws1:List Str:=["strip","sizes","number","place","hue","draft","paper","fit","lot"]
def P02.ws2:List Str:=["ring","round","stand","text","deed","line","great"]
theorem P02.kst:M.ma (P02.top 39) P02.X.a (P02.ws1++P02.ws2) none:=by
 refine⟨by kernel_rfl,by decide +kernel,?_,by decide +kernel⟩
 exact⟨P02.X.a.take 4,(P02.X.a.drop 4).take 4,(P02.X.a.drop 8).take 4,P02.X.a.drop 12,P02.ws1,P02.ws2,_,_,_,_,_,_,_,_,_,_,_,_,_,_,_,_,_,_,_,_,_,_,_,_,_,_,_,_,_,_,_,_,_,_,_,_,_,_,_,_,_,_,_,_,_,_,_,_,_,_,_,_,_,_,default,default,_,_,_,_,0,rfl,rfl,rfl,by decide +kernel,rfl,rfl⟩
theorem P02.To:M.pQ false "_law_class" (P02.top 40):=⟨by kernel_rfl,by decide +kernel,⟨_,_,_,_,_,_,_,_,_,_,_,_,_,_,_,_,_,_,_,_,_,_,rfl⟩,by decide +kernel⟩
theorem P02.hS:∀b,P02.md b=true->P02.D.lookup (L2.yQ b)=some ((λb=>match b with|true=>P02.top 0|false=>P02.top 40) b)/\M.pQ b "_law_class" ((λb=>match b with|true=>P02.top 0|false=>P02.top 40) b)
 |false,_=>⟨rfl,P02.To⟩|true,h=>by cases h
theorem P02.m6:((("HueError":Str))::P02.X.c).all (λc=>M.dD P02.q c)=true:=by decide +kernel
theorem P02.m7:P02.X.b.all (λg=>(Ed P02.q).any (λd=>decide (d.name=g))&&(P02.D.lookup g).isSome)=true:=by decide +kernel
theorem PySem.Challenge.cw_evenhues_k02_even_rows_holds : PySem.Challenge.rw_evenhues_k02_even_rows.Holds := by
 exact M.YY (n:=7) _ P02.WZ P02.left P02.hgl P02.fX P02.hp P02.hk P02.hwr P02.ok P02.bare P02.hw (by kernel_rfl) P02.hdf ⟨rfl,by decide,by decide,rfl⟩ P02.hF P02.hx P02.Wk rfl (by decide +kernel) rfl P02.kst P02.hS rfl (by decide +kernel) (by decide +kernel) P02.m6 P02.m7 (λns _=>P02.Xf ns)
end
end
