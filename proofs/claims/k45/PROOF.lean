import PyProof.Rows.All
import KE.KFromBytes
import KE.KIsAll
import KE.KMinKey
import KE.KSortTup
import KE.KItem
import KE.KLam
import KE.KTryMore
import PySem.Challenge.RW_evenhues_k45_kinds
set_option backward.eqns.nonrecursive false
set_option genSizeOf false
set_option genSizeOfSpec false
set_option bootstrap.genMatcherCode false
set_option Elab.async false
set_option linter.all false
set_option maxRecDepth 100000
local macro_rules|`(tactic|omega)=>`(tactic|lia)
local macro_rules|`(⋯)=>`(by omega)
set_option maxHeartbeats 4000000
set_option autoImplicit true
set_option relaxedAutoImplicit true
noncomputable section
def byG{G:Prop}(h:∀p:Prop,(G->p)->p):G:=h G id
open And renaming intro->Af
open Array renaming length_toList->Aw,getD_eq_getD_getElem?->AG,getElem?_eq_getElem->AN,getElem?_eq_some_iff->AY,toList_append->Bd,getElem?_toList->Bj,perm_iff_toList_perm->CI,size_setIfInBounds->C6,toList_push->C9,toList_extract->DM,size_extract->D9,toList_inj->EE,toList_reverse->EH,getElem?_empty->EI,getElem?_eq_none->FI,mem_toList_iff->F6,replicate->Gj,toList_setIfInBounds->GW,eraseIdxIfInBounds->Hr,getD->Io
open Bool renaming and_eq_true->ub,false_ne_true->Ag,false_eq_true->Au,not_eq_true'->A8,or_eq_true->Bc,eq_iff_iff->BV,false_and->Em,or_eq_false_iff->EJ,not_true->EU,and_self->FO,and_eq_true_iff->Gn,and_true->GY,eq_false_iff->G8,and_false->Ie,not_false->Ig,false_or->IA
open Classical renaming byContradiction->E8
open Eq renaming trans->Hj
open False renaming elim->Dn
open ForInStep renaming yield->CZ
open Iff renaming rfl->DT
open Int renaming le_trans->Bh,toNat_natCast->BC,le_refl->Cr,fdiv_eq_ediv_of_nonneg->EK,fmod_eq_emod_of_nonneg->EL,natCast_mul->E9,le_of_lt->Fg,lt_or_eq_of_le->GL,emod_lt_of_pos->GO,natCast_ediv->Hz,emod_nonneg->HW,not_lt->Ip
open LawfulBEq renaming eq_of_beq->CA
open LawfulMonad renaming pure_bind->F0,bind_assoc->Il
open List renaming getElem?_eq_getElem->dS,length_map->Aa,getD_eq_getElem?_getD->Ab,size_toArray->Ae,range->Ah,length_cons->Aj,append_assoc->Ak,mem_range->Al,getElem?_map->Am,length_append->Aq,mem_cons->Ar,getElem?_eq_some_iff->As,mem_cons_of_mem->Ay,mem_singleton->Az,map_cons->AB,lookup_cons->AD,mem_cons_self->AE,mem_of_getElem?->AF,mem_map->AO,mem_append->AQ,append_nil->AR,replicate->AU,getElem?_append_left->AW,getElem?_append_right->AX,mem_append_right->AZ,length_range->A0,all_eq_true->A5,take_append_drop->A7,filterMap_cons->Ba,nodup_cons->Bb,mem_append_left->Bl,drop_eq_getElem_cons->Bo,isEmpty_iff->Br,mem_of_mem_take->Bt,getElem_of_mem->Bx,pairwise_iff_getElem->By,length_take->Bz,getElem_mem->BB,getElem?_set_self->BD,length_singleton->BE,not_mem_nil->BG,map_map->BI,take_of_length_le->BJ,flatMap_cons->BQ,length_nil->BW,pairwise_cons->BX,mem_of_mem_drop->BY,length_drop->B0,nodup_range->B1,getElem?_take_of_lt->B7,getElem?_set_ne->Ce,drop_of_length_le->Ci,pairwise_map->Cj,replicate_succ->CB,getElem?_range->CC,map_congr_left->CD,perm_ext_iff_of_nodup->CK,cons_append->CL,any_eq_true->CM,filterMap_map->CO,getElem?_drop->CP,getElem?_eq_none->CQ,getElem?_eq_none_iff->CU,extract_eq_drop_take->CV,map_append->C7,take_sublist->C8,getElem_drop->Dc,getElem_take->Dd,all_cons->Df,drop_zero->Dk,mem_flatMap->Dm,idxOf_lt_length_of_mem->Ds,length_set->Dv,nil_append->Dw,any_cons->Dz,flatten_cons->DF,nodup_append->DG,pairwise_append->DL,getElem?_of_mem->DN,drop_drop->DR,mem_filter->D0,mem_filterMap->D3,getElem_idxOf->D7,length_replicate->En,map_nil->Eo,take_succ->Ep,perm_append_comm->Er,take_take->Es,getElem?_toArray->Et,getElem_inj->Ew,foldl->EA,countP_cons->ED,ext_getElem->EG,nodup_iff_pairwise_ne->ET,length_pos_iff->EW,length_reverse->EY,forIn_cons->E2,forIn_nil->Ft,pairwise_singleton->Fw,getElem?_cons_succ->Fx,length->FE,range_succ_eq_map->FF,set_comm->FL,toList_toArray->Gr,map_eq_flatMap->Gu,nodup_nil->Gz,map->GC,take_add->GV,drop_sublist->G7,ext_getElem?->G9,length_filterMap_le->Hn,zipIdx_cons->Hq,perm_middle->Hs,isEmpty_nil->Hv,drop_length->Hy,flatMap_map->HB,map_flatMap->HC,sublist_append_left->HD,getElem?_replicate->HE,length_eq_zero_iff->HG,of_mem_zip->HK,foldl_cons->HM,Perm->HQ,drop_take->Ic
open List.Pairwise renaming imp_of_mem->Fp,nil->G4
open List.Perm renaming refl->Eu,eq_of_pairwise->Fm
open List.cons renaming injEq->Dx
open Nat renaming le_refl->Ac,le_trans->Ao,ne_of_lt->Ax,lt_of_lt_of_le->AL,zero_le->AS,lt_succ_of_lt->Bu,lt_of_succ_lt->B3,lt_irrefl->B5,mul_comm->B8,le_of_eq->Ca,lt_of_le_of_ne->Cc,zero_add->Cp,lt_succ_self->CN,lt_of_le_of_lt->CT,not_lt_zero->C4,le_add_right->Dl,le_succ->Dp,lt_or_ge->Dt,mul_le_mul_right->DK,mul_le_mul->DQ,pos_of_ne_zero->D6,eq_zero_of_not_pos->Eg,lt_trichotomy->Ei,le_of_lt->Ek,ne_of_gt->El,min_le_right->Ez,succ_le_succ->EC,add_le_add_left->EX,min_eq_left->E6,add_zero->Fh,sub_self->Fi,succ_pos->Fj,add_sub_cancel_left->Fv,le_of_lt_succ->FC,one_pos->FH,lt_of_sub_eq_succ->F2,lt_iff_add_one_le->F4,le_div_iff_mul_le->F5,lt_trans->F9,le_add_left->Gf,sub_lt->Gg,le_antisymm->Gh,sub_le->Hc,mod_lt->He,sub_zero->Hk,add_mul->HX
open Ne renaming symm->B6
open Option renaming none->pn,map_eq_some_iff->AJ,getD_some->EF,bind_eq_some_iff->Fy,isNone_iff_eq_none->Hg,getD_none->Hh,map_some->HV
open Option.some renaming inj->AK
open Prod renaming ext->Fc
open PyProof renaming noPylong_small->FD
open PyProof.Rows renaming wpS_bind->Ai,wpS_pure->Av,pendingOf->AV,slot_tuple_getitem->Bg,wpS_forRange->BH,callWith_type1->Cz,wpS_modify->CJ,get?_update_seq->C0,wpS_mono->C1,assignInOrder_cons->Dr,listUpdate_at->DC,SortKind->DE,boot_sorted->DX,seqEpoch_at->Ef,failedOf->Ff,boot_list->FG,tupleItemsOf_->FN,wpS_lift->FV,boot_min->F3,entry_list_sort->Gb,list_sort_plain->Gd,entry_tuple_getitem->Gp,kindOf->Gq,slot_list_sort->Gx,args_list_sort->Gy,args_tuple_getitem->GG,subscriptTail->GR,assignInOrder_nil->G1,listItems_at->Ho,boot_tuple->HH,Subscript_->Ik
open PyProof.Rows.F renaming plain_set_update_loop->Du,entry_set_update_loop->Fq
open PyProof.Rows.SortSt renaming mk'->Ge
open PySem renaming wpAny_bind->dm,wpAny_pure->zO,sizeLine->AH,foldedSetIterable->AM,sizeLine_eq->A1,Spec->A3,wpAny_holding->A6,starEach->Be,letOwnedTupleGo->Bk,wpAny_newObj_type->Bm,SetTable->Bn,mainGlobals->Bq,wpAny_call_entry->BA,wpAny_standAt->BK,wpAny_rule->BM,compareOp->BO,sliceBounds->BP,SetTable->BR,wpAny_mono->BU,binaryOp->BZ,wpAny_setState_of->B4,wpAny_callSpecial?_slot->Cd,wpAny_askSetting->Cf,wpAny_field->Cg,swappedStores->Cq,call_meets->Ct,wpAny_truthy_bool->Cw,compTurn->Cy,sysModules->CW,mem_of_lookup->Dg,bootBuiltins->Dq,Comprehension->DA,wpAny_newList->DB,assignEach->DI,wpAny_binaryOp_repeat_ref->DJ,cellsFrom->DP,wpAny_seqItems->DS,wpAny_typeOf->DV,foldedForSure->DY,wpAny_Call_Name_kw->D4,typeIs_int->D5,wpAny_setField_rec->D8,IsTupleKey->Ea,codeAny_builtin->Eb,FuncData->Ec,wpAny_of_eq->Ee,wpAny_pyIter_list->Eh,ofAClassStatement->Ej,bindName->Ey,attributeBase->EN,wpAny_attempt->ES,wpAny_passesOwn->EZ,codeAny_of_tree->E3,wpAny_loadPart'->E4,inplaceOp->Fb,wpAny_comprehension_free->Fe,wpAny_bindName->Fs,wpAny_newTuple->Fu,assignInOrder->FJ,swapsWithSole->FK,noFill_tuple_add->FQ,compPost->FU,swapsWith->FY,builtinLookup_eq_fast->F1,codeAny_mono->F7,wpAny_setEntries_of->Gs,NameKind->Gv,newFunctionEnv->Gw,constantsAlone->GB,hashByValue->GD,wpAny_pyIter_tuple->GF,compStart->GJ,seq_tuple_add->GQ,comprehension->GS,plainId_quiet->GX,wpAny_sequenceKey->G2,slot_list_getitem->G3,setsByText->Hf,wpAny_getItem_list_slice->Hi,wpAny_isInstance->Ht,wpAny_forIn_list->Hu,noteFrame->HN,theWindowsPlace->HP,pickOrder->HS,typeLookup_type->HU,isSubtype_type->Ih,wpAny_setField->Ii,behindInMarks->Iu,wpAny_notedAt->Iw,wpAny_onRaise->Iy,setSearchFrom->Iz,lastMarks->IC,slicePick->ID,putSet_of->IE
open PySem.Around renaming under_plainId->DO
open PySem.AutoSeq1 renaming idx_int->Hl
open PySem.Builtin.Frozenset renaming addrOf->Hw
open PySem.Builtin.List renaming listTooLong->Fd,listExtendWith->GN,listSameRef->Hx
open PySem.Builtin.Range renaming rangeSize->A4
open PySem.Builtin.Slice renaming sliceAdjust->Bi,slicePlaces->B2,sliceApplied->Dy,sliceFields->Hb
open PySem.Builtin.SmallTypes renaming ownedTupleIsFree->Cu,nextOf->E7,ownedTupleHandOut->Fo
open PySem.Builtin.Tuple renaming tupleExact->BL,tupleItemsOf->EM,tupleTooMany->EO,tupleIsExact->GU
open PySem.Calls renaming call_function_entry->E5,Name_function_global->GP
open PySem.Expr renaming Name->FZ,Attribute->H9,Subscript->Ia,Constant->Iv
open PySem.Expr.Compare renaming elim->G5
open PySem.Expr.ListComp renaming elim->GI
open PySem.Expr.SetComp renaming elim->Ha
open PySem.F renaming args_tuple_add_2->Co,entry_tuple_add->Cv,slot_tuple_add->CH,slot_int_rmul->CY,called_set->DW,slot_tuple_mul->EB,args_int_rmul_2->Fz,slot_int_index->FR,entry_int_rmul->FT,fills_int_mul->F8,slot_zip_next->Gi,args_tuple_mul_2->GK,entry_tuple_mul->G6,plainAttrs_list->HF
open PySem.Flow renaming next->IB
open PySem.Heap renaming get?_push_of_some->xd,lt_size->An,get?_push_size->AA,get?_update_ne->BN,size_push->B9,get?_update_self->Cm,SameBut->CG,get?_update_other->Ed,get?_push_ne->FA
open PySem.Heap.IsSliceOf renaming new->GH
open PySem.Heap.SameBut renaming update->Dh
open PySem.NameKind renaming free->A9,cell->BF
open PySem.Obj renaming mapSeq->A2,putSet->Gk
open PySem.Paired renaming length->Ir
open PySem.PyData renaming eqv->Ck,eqvAll->FP,depthAll->Ga,int->Gm,weightAll->Hm,depth->HA,canLay0->Ij
open PySem.SeqAt renaming EqAt->Bv
open PySem.Stmt renaming AugAssign->Ib
open PySem.Str renaming ofString->DU
open PySem.Value renaming none->Ad,ref->Bp,int->De,type->DH,bool->DZ,isInt_shape->GZ,str->HI
open PySem.W renaming Frag->AI,nsIn->BS,kia_one->Cb,fnOf->CF,codeIn->Di,keepIn->Dj,mg_of->EV,tabObj->GA,methodObj->G0,instObj->HJ,lookIn->HY,kitOne->HZ,recOk->Iq
open PySem.Walks renaming list->Im
open Sum renaming inl->FW,inr->FX
open True renaming intro->Bw
section
namespace Hd
open PySem
inductive G where
 |a (i:Int)|c (x:Str)|b (ns:List Int)
noncomputable def args(s:Stmt):Arguments:=match s with
 |.FunctionDef _ a _ _ _ _ _ _ _ _=>a
 |_=>{posonlyargs:=[],args:=[],vararg:=none,kwonlyargs:=[],kw_defaults:=[],kwarg:=none,defaults:=[]}
noncomputable def body(s:Stmt):List Stmt:=match s with
 |.FunctionDef _ _ b _ _ _ _ _ _ _=>b
 |_=>[]
noncomputable def scope(s:Stmt):Scope:=match s with
 |.FunctionDef _ _ _ _ _ _ sc _ _ _=>sc
 |_=>{kind:=.function,names:=[],isGenerator:=false,isCoroutine:=false}
noncomputable def posOf(s:Stmt):Pos:=match s with
 |.FunctionDef _ _ _ _ _ _ _ _ _ p=>p
 |_=>⟨0,0,0,0⟩
def WW(x:Str)(st:Stmt):DefRec:=⟨x,args st,body st,scope st,posOf st⟩
noncomputable def Rf:List Str:=["len","all","any","tuple","list","sorted","repr","max","min","sum","int","isinstance","divmod","str","bool","dict","set","range","enumerate","zip"]
noncomputable def mF:List Value->Option (List Int)
 |[]=>some []
 |.int i _::r=>(mF r).map (i::·)
 |_=>none
noncomputable def nsH(h:Heap)(x:Str):Option (Option Value):=match h.get? Bq with
 |some o=>BS [(Bq,o)] Bq x
 |none=>none
noncomputable def U4(fd:Ec):Ec:={fd with kwdefaults:=.none,doc:=.none,pyModule:=.none,annotations:=none,code:=.none,closureTuple:=.none}
noncomputable def uH(o:Obj):Bool:=(match o.cls with|.none=>true|_=>false)&&(match o.data with|.fields _=>true|_=>false)
def dF(h:Heap)(N:Value)(x:Str):Bool:=match N with
 |.ref c=>(match h.get? c with
  |some o=>!uH o&&Di [(c,o)] (.ref c) x
  |none=>false)
 |_=>false
def YW(h:Heap)(x:Str):Option Ec:=match nsH h x with
 |some (some (.ref f))=>(match h.get? f with
  |some ⟨_,_,.func fd,_⟩=>if dF h fd.code x then some (U4 fd) else none
  |_=>none)
 |_=>none
def XQ(p:Str × Stmt):Option Ec:=some (CF p.1 p.1 (args p.2) (body p.2) (scope p.2) .none .none .none .none none .none .none)
def glB(h:Heap)(x:Str):G->Bool
 |.a i=>(match nsH h x with|some (some (.int j _))=>decide (i=j)|_=>false)
 |.c y=>(match nsH h x with|some (some (.str z _))=>decide (y=z)|_=>false)
 |.b ns=>(match nsH h x with
  |some (some (.ref a))=>(match h.get? a with
   |some ⟨.type n,_,.seq us _,_⟩=>decide (n="tuple")&&decide (us.toList.length<=1000)&&decide (mF us.toList=some ns)
   |_=>false)
  |_=>false)
def blB(h:Heap)(x:Str):Bool:=match nsH h x with|some none=>true|_=>false
def Vj(D:List (Str × Stmt))(gl:List (Str × G))(s:Shared):List (Option Ec) × Bool:=(D.map λp=>YW s.heap p.1,gl.all (λp=>glB s.heap p.1 p.2)&&Rf.all λx=>blB s.heap x)
def Uq(D:List (Str × Stmt)):List (Option Ec) × Bool:=(D.map XQ,true)
end Hd
end
section
set_option maxHeartbeats 0
open PySem PySem.W PyProof.Rows
namespace P45
noncomputable def top(i:Nat):Stmt:=PySem.Challenge.pw_evenhues_k45_kinds.main.body.getD i (.Pass ⟨0,0,0,0⟩)
def D:List (Str × Stmt):=(("is_whole":Str),top 9)::(("are_wholes":Str),top 10)::(("need_whole":Str),top 11)::(("need_length":Str),top 12)::(("are_sizes":Str),top 15)::(("need_sizes":Str),top 16)::(("product_of":Str),top 19)::(("need_small_sizes":Str),top 20)::(("may_follow":Str),top 21)::(("grown":Str),top 22)::(("all_strips":Str),top 23)::(("exchanges":Str),top 25)::(("alike_to":Str),top 26)::(("kinds":Str),top 27)::(("_law_cell_at":Str),top 29)::(("_law_pen":Str),top 30)::(("_law_draw":Str),top 31)::(("_law_small":Str),top 32)::(("_law_grown":Str),top 33)::(("_law_ended":Str),top 34)::(("_law_orders":Str),top 35)::(("_law_alike":Str),top 36)::(("law":Str),top 37)::[]
noncomputable def gl:List (Str × Hd.G):=[("MOST_PLACES",.a 40),("LEAST_SIZE",.a 2),("MOST_SIZE",.a 8),("HUES",.b [0,1,2,3]),("MOST_PRODUCT",.a 12)]
def q:Program:={PySem.Challenge.pw_evenhues_k45_kinds with main:={PySem.Challenge.pw_evenhues_k45_kinds.main with body:=[1,2,3,4,6,7,8,9,10,11,12,13,15,16,18,19,20,21,22,23,25,26,27,29,30,31,32,33,34,35,36,37].map top}}
def dd:DefRec:=Hd.WW "law" (top 37)
def left:PySem.W.LeftO PySem.Challenge.rw_evenhues_k45_kinds.row.prog q [] (λs=>Iq PySem.Challenge.rw_evenhues_k45_kinds.row.records s) (Hd.Vj D gl) (λ_=>Hd.Uq D) 100000:=by
 intro w
 kernel_rfl
def US:PySem.Challenge.rw_evenhues_k45_kinds.wellSaid=true:=by kernel_rfl
def Wn:PySem.W.defOf q PySem.Challenge.rw_evenhues_k45_kinds.row.name=some (dd,[]):=by kernel_rfl
def hp:PySem.Challenge.rw_evenhues_k45_kinds.row.prog.theDef PySem.Challenge.rw_evenhues_k45_kinds.row.name=some (dd.params,dd.body,dd.scope):=by kernel_rfl
def hk:PySem.W.kwWritten? dd.params.kwonlyargs dd.params.kw_defaults=some []:=by kernel_rfl
def hwr:(!PySem.Challenge.rw_evenhues_k45_kinds.row.writes||PySem.Challenge.rw_evenhues_k45_kinds.row.records.isEmpty)=true:=by kernel_rfl
def ok:(PySem.W.chainsOk q&&PySem.W.opensWell PySem.Challenge.rw_evenhues_k45_kinds.row.prog&&(PySem.W.frees PySem.Challenge.rw_evenhues_k45_kinds.row.toRowW&&PySem.Challenge.rw_evenhues_k45_kinds.row.within.isEmpty))=true:=by kernel_rfl
def hdf:dd.params.defaults=[]:=by kernel_rfl
theorem bare:PySem.Challenge.rw_evenhues_k45_kinds.row.prog.bare:=⟨rfl,rfl,rfl,rfl,rfl,by decide +kernel⟩
def hw:PySem.Challenge.rw_evenhues_k45_kinds.row.toRowW.promised:=by w_witness2
end P45
end
section
namespace L2
open PySem PySem.Spec PyProof.Rows
abbrev Key:=Sum Int Str
noncomputable def Xo:Key->Value->Bool
 |.inl k,v=>Value.isInt k v
 |.inr x,v=>Value.isStrOf x v
noncomputable def Rp(w:World):Key->Int
 |.inl k=>hashInt k
 |.inr x=>hashStr w x
def yP:∀{k} {v},Xo k v=true->(∃i t,k=FW i/\v=De i t)\/(∃x t,k=FX x/\v=HI x t)
 |.inl i,v,h=>by
  obtain⟨t,e⟩:=GZ (k:=i) (v:=v) h;exact .inl ⟨i,t,rfl,e⟩
 |.inr x,v,h=>by obtain⟨t,e⟩:=Value.isStrOf_shape (x:=x) (v:=v) h;exact .inr ⟨x,t,rfl,e⟩
def VV a b:decide ((FW a:Key)=FW b)=(a == b):=by
 by_cases e:a=b
 . subst e;simp
 . have h:¬(FW a:Key)=FW b:=λq=>e (FW.inj q)
   rw[decide_eq_false h];exact(beq_eq_false_iff_ne.mpr e).symm
def VY a b:decide ((FX a:Key)=FX b)=decide (a=b):=by
 by_cases e:a=b
 . subst e;simp
 . have h:¬(FX a:Key)=FX b:=λq=>e (FX.inj q)
   rw[decide_eq_false h,decide_eq_false e]
def VW a b:decide ((FW a:Key)=FX b)=false:=decide_eq_false (λq=>nomatch q)
def VX a b:decide ((FX a:Key)=FW b)=false:=decide_eq_false (λq=>nomatch q)
def oq(prog:Program)(w:World):PySem.KeyKind prog w Key where
 is:=Xo
 hash:=Rp w
 inj:=λv a b S R=>by
  rcases yP S with⟨i,t,rfl,rfl⟩|⟨x,t,rfl,rfl⟩
  . rcases yP R with⟨j,u,rfl,e⟩|⟨y,u,rfl,e⟩
    . injection e with e1 _;rw[e1]
    . exact nomatch e
  . rcases yP R with⟨j,u,rfl,e⟩|⟨y,u,rfl,e⟩
    . exact nomatch e
    . injection e with e1 _;rw[e1]
 byValue:=λk v h=>by
  rcases yP h with⟨i,t,rfl,rfl⟩|⟨x,t,rfl,rfl⟩<;>rfl
 pyHash:=λN h=>by
  rcases yP N with⟨i,t,rfl,rfl⟩|⟨x,t,rfl,rfl⟩
  . exact wpAny_pyHash_int h
  . exact wpAny_pyHash_str h
 eqBool:=λhu N h=>by
  rcases yP hu with⟨i,t,rfl,rfl⟩|⟨x,t,rfl,rfl⟩
  . rcases yP N with⟨j,u,rfl,rfl⟩|⟨y,u,rfl,rfl⟩
    . rw[VV]at h;exact wpAny_eqBool_int h
    . rw[VW]at h;exact Bv.int_str i t y u _ _ _ _ h
  . rcases yP N with⟨j,u,rfl,rfl⟩|⟨y,u,rfl,rfl⟩
    . rw[VX]at h;exact Bv.str_int x t j u _ _ _ _ h
    . rw[VY]at h;exact wpAny_eqBool_str h
 «strs»:=λk x t v h=>by
  rcases yP h with⟨i,u,rfl,e⟩|⟨y,u,rfl,e⟩
  . exact nomatch e
  . injection e with e1 _
    subst e1;cases v<;>rfl
inductive V where
 |g|f (b:Bool)|d (i:Int)|e (x:Str)|h (b:Array UInt8)|j (b:UInt64)|c (a:Addr)|k (n:String)
 deriving DecidableEq
def RelV:V->Value->Prop
 |.g,u=>u=Ad
 |.f b,u=>u=DZ b
 |.d i,u=>∃t,u=De i t
 |.e x,u=>∃t,u=HI x t
 |.h b,u=>∃t,u=Value.bytes b t
 |.j b,u=>∃t,u=Value.float b t
 |.c a,u=>u=Bp a
 |.k n,u=>u=DH n
abbrev Vals:List V->List Value->Prop:=Paired RelV
theorem Vals.length(r:Vals xs us):xs.length=us.length:=Ir r
theorem Vals.get:∀{xs} {us} {i:Nat} {x},Vals xs us->xs[i]?=some x->∃u,us[i]?=some u/\RelV x u
 |_,_,_,_,.nil,e=>by simp at e
 |_,_,0,_,.cons r _,e=>by simp at e;subst e;exact⟨_,rfl,r⟩
 |_,_,i+1,x,.cons _ t,e=>by
  obtain⟨u,R,N⟩:=Vals.get (i:=i) (x:=x) t (by simpa using e)
  exact⟨u,by simpa using R,N⟩
theorem Vals.set(r:RelV x u):∀{xs} {us} i,Vals xs us->Vals (xs.set i x) (us.set i u)
 |_,_,_,.nil=>.nil
 |_,_,0,.cons _ t=>.cons r t
 |_,_,i+1,.cons q t=>.cons q (Vals.set r i t)
theorem Vals.append:∀{xs ys} {us ws},Vals xs us->Vals ys ws->Vals (xs++ys) (us++ws)
 |_,_,_,_,.nil,s=>s
 |_,_,_,_,.cons r t,s=>.cons r (Vals.append t s)
theorem Vals.take:∀{xs} {us} n,Vals xs us->Vals (xs.take n) (us.take n)
 |_,_,0,_=>.nil
 |_,_,_+1,.nil=>.nil
 |_,_,n+1,.cons r t=>.cons r (Vals.take n t)
theorem Vals.drop:∀{xs} {us} n,Vals xs us->Vals (xs.drop n) (us.drop n)
 |_,_,0,r=>r
 |_,_,_+1,.nil=>.nil
 |_,_,n+1,.cons _ t=>Vals.drop n t
def Vals.none_of:∀{xs} {us} {i:Nat},Vals xs us->xs[i]?=none->us[i]?=none:=λ{xs us i} r e=>by have R:=r.length;have N:xs.length<=i:=CU.mp e;exact CU.mpr ⋯
def WI:Option V->Option Value->Prop
 |some v,some u=>RelV v u
 |none,none=>True
 |_,_=>False
def KV{κ:Type}:List (κ × V)->List (κ × Value)->Prop:=Paired λ(p:κ × V) (q:κ × Value)=>p.1=q.1/\RelV p.2 q.2
noncomputable def kV:Key->V
 |.inl i=>.d i
 |.inr x=>.e x
inductive HO where
 /-- a list -/
 |b (xs:List V)
 /-- a tuple (never changes) -/
 |c (xs:List V)
 /-- a dict whose keys are ints and texts;one whose keys are tuples of ints and texts (the empty one is both) -/
 |j (kvs:List (Key × V))|k (kvs:List (List Key × V))
 /-- a set of ints: its members,its size -/
 |m (S:Int->Bool) (n:Nat)
 /-- an instance of the class at C,its dict at dx,its attributes -/
 |l (C dx:Addr) (fs:List (Str × V))
 /-- the dict of the instance at x -/
 |e (x:Addr)
 /-- the dict of an exception -/
 |r (fs:List (Str × V))
 /-- a bound method,f of x -/
 |p (f x:Addr)
 /-- a range object lo,lo+1,.. below hi -/
 |q (lo hi:Int)
 /-- a thing that is known to the object (the script;a dict while a loop walks it): read,never written while it is so -/
 |g (o:Obj) (u:HO)
 /-- a code object's table -/
 |d (ps:Array Value)
 /-- any other thing,by what is true of its one object (a def of one's own: vR a S n:=HO.ext λh=>..) -/
 |i (φ:Heap->Prop)
abbrev Hp:=Addr->Option HO
def ug(h:Heap)(a:Addr)(items:Array Value):Prop:=∃o,h.get? a=some o/\o.cls=.type "tuple"/\∃n,o.data=.seq items n/\o.dict=none
def ug.tup{h:Heap}{a:Addr}{items:Array Value}(x:ug h a items):IsTup h a items:=let ⟨o,e,c,n,d,_⟩:=x;⟨o,e,c,n,d⟩
def ug.lt(x:ug h a items):a<h.objs.size:=let ⟨_,e,_⟩:=x;An e
def ug.new(h:Heap)items:ug (h.push {cls:=.type "tuple",data:=.seq items}) h.objs.size items:=⟨_,AA _ rfl,rfl,_,rfl,rfl⟩
noncomputable def upd(H:Hp)(a:Addr)(o:HO):Hp:=λb=>if b=a then some o else H b
def zd:upd H a o a=some o:=by unfold upd;rw[if_pos rfl]
def zP(h:b≠a):upd H a o b=H b:=by unfold upd;rw[if_neg h]
def zR{H:Hp}(h:H a=some o)(h':H b=none):a≠b:=by intro e;subst e;rw[h]at h';cases h'
section
variable (P:Program)(w:World)
def z8(H:Hp)(h:Heap)(a:Addr):HO->Prop
 |.b xs=>xs.length<=AH/\∃(its:List Value) (n:Nat),Vals xs its/\h.get? a=some {cls:=.type "list",data:=.seq its.toArray n}
 |.c xs=>xs.length<=AH/\∃its:List Value,Vals xs its/\ug h a its.toArray
 |.j kvs=>kvs.length<=AH/\(a == CW)=false/\∃vs,KV kvs vs/\h.DictOf (oq P w) a vs
 |.k kvs=>kvs.length<=AH/\(a == CW)=false/\∃xs:List (List Key × Addr × Value),
  Paired (λ(p:List Key × V) (q:List Key × Addr × Value)=>p.1=q.1/\H q.2.1=some (.c (p.1.map kV))/\RelV p.2 q.2.2) kvs xs /\
  ∃o es ep,h.get? a=some o/\o.ExactDict/\o.data=.dict es ep/\es.toList=xs.map (entryOfKey (tupleKind (oq P w)))/\(xs.map (·.1)).Nodup
 |.m S n=>h.SetOf (intKind P w) a S n
 |.l C dx fs=>H dx=some (.e a)/\fs.length<=1000/\dx≠a/\h.get? a=some (HJ C dx) /\
  ∃mA,h.Ns1 dx mA/\(∀f,WI (fs.lookup f) (mA f))/\PySem.Within mA (fs.map (·.1))
 |.e _=>∃o,h.get? a=some o
 |.r fs=>∃mA,h.Ns1 a mA/\∀f,WI (fs.lookup f) (mA f)
 |.q lo hi=>∃t u v,h.get? a=some {cls:=.type "range",data:=.fields #[.int lo t,.int hi u,.int 1 v]}
 |.g o u=>h.get? a=some o/\z8 H h a u
 |.d ps=>h.get? a=some {cls:=.none,data:=.fields ps}
 |.p f x=>h.get? a=some (G0 (.ref f) (.ref x))
 |.i φ=>φ h/\(∃o,h.get? a=some o)/\∀R N:Heap,φ R->(∀o,R.get? a=some o->N.get? a=some o)->φ N
def HOk(H:Hp)(h:Heap):Prop:=∀a o,H a=some o->z8 P w H h a o
end
theorem z8.lt(x:z8 P w H h a o):a<h.objs.size:=by
 cases o with
 |b xs=>obtain⟨_,_,_,_,e⟩:=x;exact An e
 |c xs=>obtain⟨_,_,_,p⟩:=x;exact p.lt
 |j N=>obtain⟨_,_,_,_,o,_,_,e,_⟩:=x;exact An e
 |k N=>obtain⟨_,_,_,_,o,_,_,e,_⟩:=x;exact An e
 |m S n=>obtain⟨o,_,_,_,e,_⟩:=x;exact An e
 |l C W fs=>obtain⟨_,_,_,e,_⟩:=x;exact An e
 |e y=>obtain⟨_,e⟩:=x;exact An e
 |r fs=>obtain⟨_,⟨_,_,_,e,_⟩,_⟩:=x;exact An e
 |q lo hi=>obtain⟨_,_,_,e⟩:=x;exact An e
 |g U u=>obtain⟨e,_⟩:=x;exact An e
 |d ps=>exact An (show h.get? a=some _ from x)
 |p f y=>exact An (show h.get? a=some _ from x)
 |i R=>obtain⟨_,⟨_,e⟩,_⟩:=x;exact An e
theorem Paired.T5:∀{l₁} {l₂},Paired F l₁ l₂->(∀a b,F a b->G a b)->Paired G l₁ l₂
 |_,_,.nil,_=>.nil
 |_,_,.cons r t,f=>.cons (f _ _ r) (Paired.T5 t f)
def z8.eC(x:z8 P w H h a o)(k:∀b u,(b=a\/H b=some (.e a))->h.get? b=some u->h'.get? b=some u)
 (X:∀b,H b=some (.e a)->H' b=some (.e a)) (W:∀b xs,H b=some (.c xs)->H' b=some (.c xs)):z8 P w H' h' a o:=by
 induction o with
 |b xs=>obtain⟨z,its,n,r,e⟩:=x;exact⟨z,its,n,r,k _ _ (.inl rfl) e⟩
 |c xs=>obtain⟨z,its,r,N,e,c⟩:=x;exact⟨z,its,r,N,k _ _ (.inl rfl) e,c⟩
 |j R=>obtain⟨z,y,vs,r,N,es,ep,e,c⟩:=x;exact⟨z,y,vs,r,N,es,ep,k _ _ (.inl rfl) e,c⟩
 |k R=>
  obtain⟨z,y,xs,r,N,es,ep,e,c⟩:=x;exact⟨z,y,xs,Paired.T5 r λp q z=>⟨z.1,W _ _ z.2.1,z.2.2⟩,N,es,ep,k _ _ (.inl rfl) e,c⟩
 |m S n=>obtain⟨N,es,ep,t,e,c⟩:=x;exact⟨N,es,ep,t,k _ _ (.inl rfl) e,c⟩
 |l C dx fs=>
  obtain⟨d,z,ne,e,mA,⟨od,es,ep,Y,c⟩,r⟩:=x;exact⟨X _ d,z,ne,k _ _ (.inl rfl) e,mA,⟨od,es,ep,k _ _ (.inr d) Y,c⟩,r⟩
 |e y=>obtain⟨N,e⟩:=x;exact⟨N,k _ _ (.inl rfl) e⟩
 |r fs=>obtain⟨mA,⟨od,es,ep,e,c⟩,r⟩:=x;exact⟨mA,⟨od,es,ep,k _ _ (.inl rfl) e,c⟩,r⟩
 |q lo hi=>obtain⟨t,u,v,e⟩:=x;exact⟨t,u,v,k _ _ (.inl rfl) e⟩
 |g N u U=>obtain⟨e,q⟩:=x;exact⟨k _ _ (.inl rfl) e,U q⟩
 |d ps=>
  have e:h.get? a=some {cls:=.none,data:=.fields ps}:=x;show h'.get? a=some {cls:=.none,data:=.fields ps};exact k a _ (.inl rfl) e
 |p f y=>
  have e:h.get? a=some (G0 (.ref f) (.ref y)):=x;show h'.get? a=some (G0 (.ref f) (.ref y));exact k a _ (.inl rfl) e
 |i Z=>obtain⟨p,⟨o,e⟩,st⟩:=x;exact⟨st _ _ p λo q=>k _ _ (.inl rfl) q,⟨o,k _ _ (.inl rfl) e⟩,st⟩
theorem HOk.lt(x:HOk P w H h)(e:H a=some o):a<h.objs.size:=(x a o e).lt
def HOk.fresh(x:HOk P w H h)(e:h.objs.size<=a):H a=none:=by
 cases q:H a with
 |none=>rfl
 |some u=>exact absurd (AL (x.lt q) e) (B5 _)
def HOk.kept(x:HOk P w H h)(k:∀b u,h.get? b=some u->h'.get? b=some u):HOk P w H h':=λa o e=>
 (x a o e).eC (λb u _ q=>k b u q) (λ_ q=>q) λ_ _ q=>q
def HOk.laid(x:HOk P w H h)(k:∀b u,h.get? b=some u->h'.get? b=some u)(hp:h.objs.size<=a)(new:z8 P w (upd H a o) h' a o):HOk P w (upd H a o) h':=λb u e=>by
 have N:=x.fresh hp;by_cases hb:b=a
 . subst hb;rw[zd]at e;cases e;exact new
 . rw[zP hb]at e
   exact(x b u e).eC (λc v _ q=>k c v q) (λc q=>by rw[zP (zR q N)];exact q) λc xs q=>by rw[zP (zR q N)];exact q
def Rd(H:Hp)(a:Addr)(u:HO):Prop:=H a=some u\/∃o,H a=some (.g o u)
def Rd.ok(r:Rd H a u)(x:HOk P w H h):z8 P w H h a u:=by
 rcases r with r|⟨o,r⟩
 . exact x a u r
 . obtain⟨_,q⟩:=x a _ r
   exact q
def Mut:Option HO->Prop
 |some (.b _)=>True
 |some (.j _)=>True
 |some (.k _)=>True
 |some (.m _ _)=>True
 |some (.l _ _ _)=>True
 |some (.i _)=>True
 |_=>False
def HOk.write(ok:HOk P w H h)(S:Mut (H x))(he:e=x\/H e=some (.e x))(k:∀b u,b≠e->h.get? b=some u->h'.get? b=some u)(W:∃u,h'.get? e=some u)
 (new:z8 P w (upd H x o') h' x o'):HOk P w (upd H x o') h':=λb u q=>by
 have N:∀c y,H c=some (.e y)->c≠x:=λc y r z=>by subst z;rw[r]at S;exact S
 have R:∀c xs,H c=some (.c xs)->c≠x:=λc xs r z=>by subst z;rw[r]at S;exact S
 by_cases hb:b=x
 . subst hb;rw[zd]at q;cases q;exact new
 . rw[zP hb]at q
   by_cases hbe:b=e
   . have X:H b=some (.e x):=by
      rcases he with z|z
      . exact absurd (hbe.trans z) hb
      . rw[hbe];exact z
     rw[q]at X;cases X;obtain⟨v,Y⟩:=W;exact⟨v,by rw[hbe];exact Y⟩
   . refine(ok b u q).eC (λc v U r=>k c v ?_ r) (λc r=>by rw[zP (N c b r)];exact r) λc xs r=>by rw[zP (R c xs r)];exact r
     rcases U with rfl|U
     . exact hbe
     . rintro rfl
       rcases he with z|z
       . exact N c b U z
       . rw[U]at z;cases z;exact hb rfl
structure Un(fs ex:List Addr)(H H':Hp)(h h':Heap):Prop where
 d:∀b o,h.get? b=some o->H b=none->b ∉ fs->b ∉ ex->h'.get? b=some o
 i:∀b o,h.get? b=some o->H b=none->b∈fs->b ∉ ex->∃sl,h'.get? b=some {o with slots:=sl}
 c:∀b o,h.get? b=some o->H b=none->b ∉ ex->H' b=none
 f:∀b o,h.get? b=some o->b ∉ ex->∃o',h'.get? b=some o'
 l:∀b xs,H b=some (.c xs)->H' b=some (.c xs)
 g:∀b o u,H b=some (.g o u)->H' b=some (.g o u)
 j:∀b ps,H b=some (.d ps)->∃more,H' b=some (.d (ps++more))
def Un.any(u:Un fs ex H H1 h h1)(q:h.get? b=some ob)(n:H b=none)(hx:b ∉ ex):∃N,h1.get? b=some {ob with slots:=N}:=by
 by_cases hb:b∈fs
 . exact u.i b ob q n hb hx
 . exact⟨ob.slots,u.d b ob q n hb hx⟩
def Un.kept(k:∀b u,h.get? b=some u->h'.get? b=some u):Un fs ex H H h h':=
 ⟨λb N q _ _ _=>k b N q,λb N q _ _ _=>⟨N.slots,k b N q⟩,λ_ _ _ n _=>n,λb N q _=>⟨N,k b N q⟩,λ_ _ q=>q,λ_ _ _ q=>q,λ_ ps q=>⟨#[],by rw[q];simp⟩⟩
def Un.refl:Un fs ex H H h h:=Un.kept λ_ _ q=>q
def Un.laid(k:∀b u,h.get? b=some u->h'.get? b=some u)(hp:h.objs.size<=a)(N:H a=none):Un fs ex H (upd H a o) h h' where
 d:=λb u q _ _ _=>k b u q
 i:=λb u q _ _ _=>⟨u.slots,k b u q⟩
 c:=λb u q n _=>by rw[zP (Ax (AL (An q) hp))];exact n
 f:=λb u q _=>⟨u,k b u q⟩
 l:=λb xs q=>by rw[zP (zR q N)];exact q
 g:=λb u xs q=>by rw[zP (zR q N)];exact q
 j:=λb ps q=>⟨#[],by rw[zP (zR q N),q];simp⟩
def Un.write(N:Mut (H x))(he:e=x\/H e=some (.e x))(k:∀b u,b≠e->h.get? b=some u->h'.get? b=some u)(S:∃u,h'.get? e=some u):Un fs ex H (upd H x o) h h':=by
 have hx:∀b,H b=none->b≠x:=λb n z=>by subst z;rw[n]at N;exact N
 have U:∀b,H b=none->b≠e:=λb n z=>by
  subst z;rcases he with r|r
  . exact hx b n r
  . rw[n]at r;cases r
 have R:∀b u,H b=some u->¬Mut (some u)->b≠x:=λb u q nm z=>by subst z;rw[q]at N;exact nm N
 refine⟨λb u q n _ _=>k b u (U b n) q,λb u q n _ _=>⟨u.slots,k b u (U b n) q⟩,λb u q n _=>by rw[zP (hx b n)];exact n,λb u q _=>?_,
  λb xs q=>by rw[zP (R b _ q λz=>z)];exact q,λb u xs q=>by rw[zP (R b _ q λz=>z)];exact q,λb ps q=>⟨#[],by rw[zP (R b _ q λz=>z),q];simp⟩⟩
 by_cases hbe:b=e
 . subst hbe;exact S
 . exact⟨u,k b u hbe q⟩
noncomputable def trk(h:Heap)(H:Hp):List Addr:=(Ah h.objs.size).filter λa=>(H a).isSome
def oV(h:Heap)(H:Hp):Heap:=PySem.W.hideAll h (trk h H)
def gg h H:(oV h H).objs.size=h.objs.size:=PySem.W.hideAll_size _ _
def d8(e:h.get? b=some o)(n:H b=none):(oV h H).get? b=some o:=
 PySem.W.hideAll_get _ e λN=>by have q:(H b).isSome=true:=(D0.mp N).2;rw[n]at q;simp at q
def YX(e:(oV h H).get? b=some o):h.get? b=some o/\H b=none:=by
 have N:h.get? b=some o:=PySem.W.of_hideAll (trk h H) e;refine⟨N,?_⟩;cases q:H b with
 |none=>rfl
 |some x=>
  have R:b∈trk h H:=D0.mpr ⟨Al.mpr (An N),by simp[q]⟩
  have z:(oV h H).get? b=none:=PySem.W.hideAll_none (trk h H) R;rw[z]at e;cases e
structure Mod(K:AI)(mg:Str->Option Value)(base:Heap):Prop where
 c:K.In base
 a:base.Ns Bq mg
 d:∃mb,base.Ns builtinsNs mb/\∀x:Str,x≠"__name__"->mb x=Dq x
 b:base.NoLimit
structure Cx where
 f:Program
 w:World
 K:AI
 d:Str->Option Value
 i:Heap
 A:Around
 N:List Str
 l:Shared
 r:Hp
 a:Env
 k:List Env
 j:List Env
 n:List Addr
 m:Str->Bool
 g:Bool
 q:List (Addr × Obj)
 h:Value->Shared->Prop
noncomputable def frs(l:List Env):List Addr:=l.filterMap (·.frame)
abbrev Cx.fs(X:Cx):List Addr:=frs X.k
def Vis(sc:Scope)(x:Str):Prop:=sc.names.lookup x=some .local\/sc.names.lookup x=some .cell\/sc.names.lookup x=some .free
def Loc(sc:Scope)(x:Str):Prop:=sc.names.lookup x=some .local\/sc.names.lookup x=some .cell
def Look(env:Env)(h:Heap)(m:Str->Option Value)(x:Str)(u:Value):Prop:=
 (env.kindOf x=some .local/\m x=some u)\/((env.kindOf x=some .cell\/env.kindOf x=some .free)/\∃c,env.cells.lookup x=some c/\h.IsCell c (some u))
structure Cx.Ok(X:Cx):Prop where
 u:Mod X.K X.d X.i
 d:X.a.scope.kind=.function
 s:X.a.globals=Bq
 G:X.a.builtins=builtinsNs
 g:X.l.heap.objs.size<=X.a.locals
 L:∀x y c,X.a.cells.lookup x=some c->X.a.cells.lookup y=some c->x=y
 J:∀x,(X.a.kindOf x=some .cell\/X.a.kindOf x=some .free)->∃c,X.a.cells.lookup x=some c
 D:∀x c,X.m x=true->X.a.cells.lookup x=some c->X.l.heap.objs.size<=c
 l:X.g=true->X.A.handled=none
 m:X.A.frames=some X.j
 M:X.j=X.k\/(X.j=X.a::X.k/\X.a.frame=some X.a.locals)
 H:∀b∈X.n,b≠X.a.locals/\∀x c,X.a.cells.lookup x=some c->c≠b
 O:∀b o,X.i.get? b=some o->X.l.heap.get? b=some o/\X.r b=none
 B:X.i.objs.size<=X.l.heap.objs.size
 w:∀b o,X.i.get? b=some o->b ∉ X.n
 r:∀b∈X.n,b ∉ X.fs
 P:X.l.heap.FunFrames X.i X.k
 I:∀b∈X.fs,X.r b=none
structure Inv(X:Cx)(pins:List (Addr × Obj))(σ:List (Option V))(H:Hp)(s:Shared):Prop where
 y:X.Ok
 R:s.os=X.l.os
 G:AllBare s.gens
 B:Un X.fs X.n X.r H X.l.heap s.heap
 M:∃m,s.heap.Ns X.a.locals m/\∀(i:Nat) (x:Str) (v:V),X.N[i]?=some x->σ[i]?=some (some v)->Vis X.a.scope x->∃u,RelV v u/\Look X.a s.heap m x u
 C:∀x c,X.a.cells.lookup x=some c->∃v,s.heap.IsCell c v
 F:H X.a.locals=none
 J:∀x c,X.a.cells.lookup x=some c->H c=none
 O:∀p∈X.q++pins,s.heap.get? p.1=some p.2/\H p.1=none/\p.1≠X.a.locals/\p.1 ∉ X.fs/\∀v,p.2.data≠.cell v
 j:HOk X.f X.w H s.heap
 P:σ.length=X.N.length
def Cx.Ok.Ru{X:Cx}(ok:X.Ok)(e:X.i.get? b=some o):b ∉ X.fs:=λN=>by have:=(ok.P.mem N).1;rw[e]at this;cases this
def Inv.bs(I:Inv X pins σ H s):∀b o,X.i.get? b=some o->s.heap.get? b=some o/\H b=none:=λb o e=>
 ⟨I.B.d b o (I.y.O b o e).1 (I.y.O b o e).2 (I.y.Ru e) (I.y.w b o e),I.B.c b o (I.y.O b o e).1 (I.y.O b o e).2 (I.y.w b o e)⟩
def Inv.bk(I:Inv X pins σ H s):∀b o,X.i.get? b=some o->s.heap.get? b=some o:=λb o e=>(I.bs b o e).1
def Inv.mod(I:Inv X pins σ H s):Mod X.K X.d X.i:=I.y.u
def Inv.kIn(I:Inv X pins σ H s):X.K.In s.heap:=I.y.u.c.keeps I.bk
theorem Inv.lt(I:Inv X pins σ H s):X.a.locals<s.heap.objs.size:=let ⟨_,N,_⟩:=I.M;N.lt
def Inv.sz(I:Inv X pins σ H s):X.l.heap.objs.size<=s.heap.objs.size:=Ao I.y.g (Ek I.lt)
def Inv.Rv(I:Inv X pins σ H s)(h:s.heap.objs.size<=a):a ∉ X.fs:=λR=>by obtain⟨_,o,N,_⟩:=I.y.P.mem R;exact absurd (AL (An N) (Ao I.sz h)) (B5 _)
def Inv.cne(I:Inv X pins σ H s):∀x c,X.a.cells.lookup x=some c->c≠X.a.locals:=λx c e z=>by obtain⟨v,o,S,hd⟩:=I.C x c e;obtain⟨m,⟨U,es,ep,N,R,_⟩,_⟩:=I.M;rw[z,N]at S;cases S;rw[R]at hd;cases hd
def Inv.rq(I:Inv X pins σ H s):s.heap.FunFrames X.i X.k:=by
 have all:∀(l:List Env),(∀b∈frs l,b∈X.fs)->X.l.heap.FunFrames X.i l->s.heap.FunFrames X.i l:=by
  intro l;induction l with
  |nil=>intro _ _;trivial
  |cons env r U=>
   intro hs hl;obtain⟨hk,⟨L,o,N,Z,Y,hd⟩,W⟩:=hl;have S:L∈X.fs:=hs L (by unfold frs;rw[Ba,N];exact AE)
   obtain⟨sl,e⟩:=I.B.i L o Y (I.y.I L S) S λz=>I.y.r L z S;exact⟨hk,⟨L,_,N,Z,e,hd⟩,U (λb R=>hs b (by unfold frs;rw[Ba,N];exact Ay _ R)) W⟩
 exact all X.k (λ_ R=>R) I.y.P
def Inv.stack(I:Inv X pins σ H s):s.heap.FunFrames X.i X.j:=by
 rcases I.y.M with e|⟨e,R⟩
 . rw[e];exact I.rq
 . rw[e]
   obtain⟨m,N,_⟩:=I.M;refine .cons (by rw[I.y.d];decide) R N ?_ I.rq
   exact Heap.get?_none_of_le (Ao I.y.B I.y.g)
def Inv.jU(I:Inv X pins σ H s):∀b∈frs X.j,b∈X.a.locals::X.fs:=λb N=>by
 rcases I.y.M with e|⟨e,R⟩
 . rw[e]at N;exact Ay _ N
 . rw[e]at N
   unfold frs at N;rw[Ba,R]at N;exact N
def Inv.gG(I:Inv X pins σ H s):∀b∈frs X.j,H b=none:=λb N=>by
 rcases Ar.mp (I.jU b N) with e|N
 . rw[e];exact I.F
 . obtain⟨_,o,R,_⟩:=I.y.P.mem N
   exact I.B.c b o R (I.y.I b N) λz=>I.y.r b z N
def Inv.step{ch:List Addr}(I:Inv X pins σ H s)
 (S:∀b∈ch,(b∈X.n\/X.l.heap.objs.size<=b)/\b≠X.a.locals/\(∀x c,X.a.cells.lookup x=some c->c≠b)/\∀p∈X.q++pins,p.1≠b)
 (keep:∀b o,b≠X.a.locals->b ∉ X.fs->b ∉ ch->s.heap.get? b=some o->H b=none->h'.get? b=some o)
 (Z:∀b o,b≠X.a.locals->b∈X.fs->b ∉ ch->s.heap.get? b=some o->H b=none->∃sl,h'.get? b=some {o with slots:=sl}) (free:∀b o,b ∉ ch->s.heap.get? b=some o->H b=none->H' b=none)
 (there:∀b o,b ∉ ch->s.heap.get? b=some o->∃o',h'.get? b=some o')
 (si:∀b xs,H b=some (.c xs)->H' b=some (.c xs)) (frzs:∀b o u,H b=some (.g o u)->H' b=some (.g o u)) (tbls:∀b ps,H b=some (.d ps)->∃more,H' b=some (.d (ps++more)))
 (ns:∀m,s.heap.Ns X.a.locals m->h'.Ns X.a.locals m) (hok:HOk X.f X.w H' h') (hg:AllBare g') :
 Inv X pins σ H' {s with heap:=h',gens:=g',drawn:=d',toks:=t'}:=by
 have neL:∀b o,X.l.heap.get? b=some o->b≠X.a.locals:=λb o e=>Ax (AL (An e) I.y.g);have W:∀b o,X.l.heap.get? b=some o->b ∉ X.n->b ∉ ch:=λb o e hx hb=>by
  rcases (S b hb).1 with z|z
  . exact hx z
  . exact absurd (AL (An e) z) (B5 _)
 have U:∀x c,X.a.cells.lookup x=some c->∀v,s.heap.IsCell c v->h'.IsCell c v:=λx c e v ⟨o,ho,hd⟩=>by
  have N:c ∉ ch:=λz=>(S c z).2.2.1 x c e rfl;by_cases hc:c∈X.fs
  . obtain⟨sl,q⟩:=Z c o (I.cne x c e) hc N ho (I.J x c e)
    exact⟨_,q,hd⟩
  . exact⟨o,keep c o (I.cne x c e) hc N ho (I.J x c e),hd⟩
 refine⟨I.y,I.R,hg,⟨λb o e n hb hx=>?_,λb o e n hb hx=>?_,λb o e n hx=>?_,λb o e hx=>?_,λb xs e=>si b xs (I.B.l b xs e),λb o xs e=>frzs b o xs (I.B.g b o xs e),λb ps e=>?_⟩,?_,λx c e=>?_,?_,λx c e=>?_,λp hp=>?_,hok,I.P⟩
 . exact keep b o (neL b o e) hb (W b o e hx) (I.B.d b o e n hb hx) (I.B.c b o e n hx)
 . obtain⟨sl,Y⟩:=I.B.i b o e n hb hx
   obtain⟨sl',e2⟩:=Z b _ (neL b o e) hb (W b o e hx) Y (I.B.c b o e n hx);exact⟨sl',e2⟩
 . obtain⟨o',Y⟩:=I.B.f b o e hx
   exact free b o' (W b o e hx) Y (I.B.c b o e n hx)
 . obtain⟨o',Y⟩:=I.B.f b o e hx
   exact there b o' (W b o e hx) Y
 . obtain⟨m1,Y⟩:=I.B.j b ps e
   obtain⟨m2,e2⟩:=tbls b _ Y;exact⟨m1++m2,by rw[e2,Array.append_assoc]⟩
 . obtain⟨m,hn,hl⟩:=I.M
   refine⟨m,ns m hn,λi x v Y e2 e3=>?_⟩;obtain⟨u,r,l⟩:=hl i x v Y e2 e3;refine⟨u,r,?_⟩;rcases l with l|⟨k,c,e,z⟩
   . exact .inl l
   . exact .inr ⟨k,c,e,U x c e _ z⟩
 . obtain⟨v,z⟩:=I.C x c e
   exact⟨v,U x c e v z⟩
 . obtain⟨m,⟨o,_,_,ho,_⟩,_⟩:=I.M
   exact free _ o (λz=>(S _ z).2.1 rfl) ho I.F
 . obtain⟨v,o,ho,hd⟩:=I.C x c e
   exact free c o (λz=>(S c z).2.2.1 x c e rfl) ho (I.J x c e)
 . obtain⟨e,n,ne,nf,d⟩:=I.O p hp
   have N:p.1 ∉ ch:=λz=>(S p.1 z).2.2.2 p hp rfl;exact⟨keep p.1 p.2 ne nf N e n,free p.1 p.2 N e n,ne,nf,d⟩
def Inv.un(I:Inv X pins σ H s)(u:Un X.fs [] H H' s.heap h')(R:HOk X.f X.w H' h'):Inv X pins σ H' {s with heap:=h',toks:=t'}:=by
 obtain⟨m,⟨o,es,ep,Y,r⟩,_⟩:=id I.M;obtain⟨sl,hL⟩:=u.any Y I.F (by simp)
 exact I.step (g':=s.gens) (d':=s.drawn) (ch:=[]) (λ_ z=>nomatch z) (λb o _ S _ e n=>u.d b o e n S (by simp)) (λb o _ S _ e n=>u.i b o e n S (by simp)) (λb o _ e n=>u.c b o e n (by simp)) (λb o _ e=>u.f b o e (by simp)) u.l u.g u.j (λm' hm=>by obtain⟨o',U,W,N,Z⟩:=hm;rw[Y]at N;cases N;exact⟨_,U,W,hL,Z⟩) R I.G
def Inv.call(I:Inv X pins σ H s)(u:Un (frs X.j) ch H H' s.heap h')(U:HOk X.f X.w H' h')(hg:AllBare g')
 (S:∀b∈ch,(b∈X.n\/X.l.heap.objs.size<=b)/\b≠X.a.locals/\(∀x c,X.a.cells.lookup x=some c->c≠b)/\∀p∈X.q++pins,p.1≠b) :
 Inv X pins σ H' {s with heap:=h',gens:=g',drawn:=d',toks:=t'}:=by
 obtain⟨m,⟨o,es,ep,ho,r⟩,_⟩:=id I.M;obtain⟨sl,W⟩:=u.any ho I.F λz=>(S _ z).2.1 rfl;exact I.step (ch:=ch) S (λb o W hb N e n=>u.d b o e n (λz=>(Ar.mp (I.jU b z)).elim W hb) N) (λb o _ _ N e n=>u.any e n N) (λb o N e n=>u.c b o e n N) (λb o N e=>u.f b o e N) u.l u.g u.j (λm' hm=>by obtain⟨o',Y,Z,R,r'⟩:=hm;rw[ho]at R;cases R;exact⟨_,Y,Z,W,r'⟩) U hg
def Inv.turned(I:Inv X pins σ H s)(k:∀b o,b≠it->s.heap.get? b=some o->h'.get? b=some o)(W:H it=none)(S:it≠X.a.locals)
 (h1:it∈X.n\/X.l.heap.objs.size<=it) (h2:∀x c,X.a.cells.lookup x=some c->c≠it) (h3:∀p∈X.q++pins,p.1≠it):Inv X pins σ H {s with heap:=h',toks:=t'}:=by
 have R:∀b u,H b=some u->b≠it:=λb u e z=>by rw[z,W]at e;cases e
 refine I.step (g':=s.gens) (d':=s.drawn) (ch:=[it]) (λb Z=>?_) (λb o _ _ N e _=>k b o (λz=>N (by simp[z])) e) (λb o _ _ N e _=>⟨o.slots,k b o (λz=>N (by simp[z])) e⟩) (λ_ _ _ _ n=>n)
  (λb o N e=>⟨o,k b o (λz=>N (by simp[z])) e⟩) (λ_ _ e=>e) (λ_ _ _ e=>e) (λb ps e=>⟨#[],by rw[e];simp⟩) (λm Y=>?_) (λb u e=>?_) I.G
 . have e:b=it:=by simpa using Z
   subst e;exact⟨h1,S,h2,h3⟩
 . obtain⟨o,es,ep,U,r⟩:=Y
   exact⟨o,es,ep,k _ o (B6 S) U,r⟩
 . refine(I.j b u e).eC (λc v N q=>k c v ?_ q) (λ_ q=>q) λ_ _ q=>q
   rcases N with z|z
   . rw[z];exact R b u e
   . exact R c _ z
def Inv.tok(I:Inv X pins σ H s)t:Inv X pins σ H {s with toks:=t}:=I.un (h':=s.heap) (t':=t) Un.refl I.j
theorem Inv.kept(I:Inv X pins σ H s)(k:∀b u,s.heap.get? b=some u->h'.get? b=some u):Inv X pins σ H {s with heap:=h',toks:=t'}:=I.un (Un.kept k) (I.j.kept k)
theorem Inv.laid(I:Inv X pins σ H s)(k:∀b u,s.heap.get? b=some u->h'.get? b=some u)(hp:s.heap.objs.size<=a)(new:z8 X.f X.w (upd H a o) h' a o) :
 Inv X pins σ (upd H a o) {s with heap:=h',toks:=t'}:=I.un (Un.laid k hp (I.j.fresh hp)) (I.j.laid k hp new)
theorem Inv.write(I:Inv X pins σ H s)(R:Mut (H x))(he:e=x\/H e=some (.e x))(k:∀b u,b≠e->s.heap.get? b=some u->h'.get? b=some u)(N:∃u,h'.get? e=some u)
 (new:z8 X.f X.w (upd H x o) h' x o):Inv X pins σ (upd H x o) {s with heap:=h',toks:=t'}:=I.un (Un.write R he k N) (I.j.write R he k N new)
def Inv.i7{N:List (Addr × Obj)}(I:Inv X pins σ H s)(h:∀p∈N,s.heap.get? p.1=some p.2/\H p.1=none/\p.1≠X.a.locals/\p.1 ∉ X.fs/\∀v,p.2.data≠.cell v):Inv X N σ H s:=
 ⟨I.y,I.R,I.G,I.B,I.M,I.C,I.F,I.J,λp hp=>(AQ.mp hp).elim (λz=>I.O p (Bl _ z)) (h p),I.j,I.P⟩
def mX{N:List Str}(R:N.Nodup){i j:Nat}(a:N[i]?=some x)(b:N[j]?=some x):i=j:=by obtain⟨X,U⟩:=As.mp a;obtain⟨W,S⟩:=As.mp b;exact(Ew R).mp (U.trans S.symm)
def p5{Q:Unit->Shared->Prop}(I:Inv X pins σ H s)(hN:X.N.Nodup)(hi:X.N[i]?=some x)(hx:Loc X.a.scope x)(r:RelV v u)
 (h:∀s',Inv X pins (σ.set i (some v)) H s'->(∃a,CG a s.heap s'.heap/\(a=X.a.locals\/X.a.cells.lookup x=some a))->Q () s') (hf:X.m x=true\/X.a.scope.names.lookup x=some .local:=by first|exact .inl rfl|exact .inr rfl|assumption):wpAny M A (storeName X.a x u) Q E s:=by
 obtain⟨m,hn,hl⟩:=id I.M;have hcls:(X.a.scope.kind == .class||(X.a.scope.kind == .module&&X.a.locals != X.a.globals))=false:=by rw[I.y.d];rfl
 have hiσ:i<σ.length:=by rw[I.P];exact(As.mp hi).1
 have cne:=I.cne;have S:∀{a:Addr} {h':Heap},(∃o,s.heap.get? a=some o/\H a=none)->CG a s.heap h'->HOk X.f X.w H h':=λ{a h'} ha hs b ob e=>by
  obtain⟨_,_,Y⟩:=ha;refine(I.j b ob e).eC (λc w' W q=>(hs.2 c ?_).trans q) (λ_ q=>q) λ_ _ q=>q;rintro rfl;rcases W with rfl|W
  . rw[Y]at e;cases e
  . rw[Y]at W;cases W
 rcases hx with hk|hk
 . refine wpAny_storeName_local hk hn (λh' hn' hs=>?_) hcls
   obtain⟨oL,_,_,hoL,_⟩:=id hn;refine h _ ⟨I.y,I.R,I.G,⟨λb o e n hb hx=>?_,λb o e n hb hx=>?_,I.B.c,λb o e hx=>?_,I.B.l,I.B.g,I.B.j⟩,⟨_,hn',λj y v' U Z e3=>?_⟩,λy c e=>?_,I.F,I.J,λp hp=>?_,S ⟨oL,hoL,I.F⟩ hs,by simpa using I.P⟩ ⟨_,hs,.inl rfl⟩
   . exact(hs.2 b (Ax (AL (An e) I.y.g))).trans (I.B.d b o e n hb hx)
   . obtain⟨sl,U⟩:=I.B.i b o e n hb hx
     exact⟨sl,(hs.2 b (Ax (AL (An e) I.y.g))).trans U⟩
   . obtain⟨o',U⟩:=I.B.f b o e hx
     exact⟨o',(hs.2 b (Ax (AL (An e) I.y.g))).trans U⟩
   . by_cases hj:j=i
     . subst hj
       rw[hi]at U;cases U;rw[BD hiσ]at Z;cases Z;exact⟨u,r,.inl ⟨hk,by simp⟩⟩
     . rw[Ce (B6 hj)]at Z
       obtain⟨u',r',q⟩:=hl j y v' U Z e3;refine⟨u',r',?_⟩;rcases q with⟨k,e⟩|⟨k,c,e,z⟩
       . refine .inl ⟨k,?_⟩
         have:y≠x:=λe=>hj (mX hN U (e▸hi));simp[this,e]
       . exact .inr ⟨k,c,e,z.sameBut hs (cne y c e)⟩
   . obtain⟨w',z⟩:=I.C y c e
     exact⟨w',z.sameBut hs (cne y c e)⟩
   . obtain⟨e,n,ne,nf,d⟩:=I.O p hp
     exact⟨(hs.2 p.1 ne).trans e,n,ne,nf,d⟩
 . have hfn:X.m x=true:=by
    rcases hf with z|z
    . exact z
    . rw[z]at hk;cases hk
   obtain⟨c,W⟩:=I.y.J x (.inl hk);obtain⟨w',z⟩:=I.C x c W;refine wpAny_storeName_cell I.y.d hk W z (λh' hc' hs=>?_);obtain⟨oc,hoc,hocd⟩:=id z;refine h {s with heap:=h'} ⟨I.y,I.R,I.G,⟨λb o e n hb hx=>?_,λb o e n hb hx=>?_,I.B.c,λb o e hx=>?_,I.B.l,I.B.g,I.B.j⟩,⟨m,hn.sameBut hs (B6 (cne x c W)),λj y v' U Z e3=>?_⟩,λy c' e=>?_,I.F,I.J,λp hp=>?_,S ⟨oc,hoc,I.J x c W⟩ hs,by simpa using I.P⟩ ⟨c,hs,.inr W⟩
   . exact(hs.2 b (Ax (AL (An e) (I.y.D x c hfn W)))).trans (I.B.d b o e n hb hx)
   . obtain⟨sl,U⟩:=I.B.i b o e n hb hx
     exact⟨sl,(hs.2 b (Ax (AL (An e) (I.y.D x c hfn W)))).trans U⟩
   . obtain⟨o',U⟩:=I.B.f b o e hx
     exact⟨o',(hs.2 b (Ax (AL (An e) (I.y.D x c hfn W)))).trans U⟩
   . by_cases hj:j=i
     . subst hj
       rw[hi]at U;cases U;rw[BD hiσ]at Z;cases Z;exact⟨u,r,.inr ⟨.inl hk,c,W,hc'⟩⟩
     . rw[Ce (B6 hj)]at Z
       obtain⟨u',r',q⟩:=hl j y v' U Z e3;refine⟨u',r',?_⟩;rcases q with q|⟨k,c',e,z'⟩
       . exact .inl q
       . refine .inr ⟨k,c',e,z'.sameBut hs ?_⟩
         rintro rfl;exact hj (mX hN U (I.y.L _ _ _ e W▸hi))
   . by_cases hcc:c'=c
     . subst hcc;exact⟨_,hc'⟩
     . obtain⟨w2,z2⟩:=I.C y c' e
       exact⟨w2,z2.sameBut hs hcc⟩
   . obtain⟨e,n,ne,nf,d⟩:=I.O p hp
     refine⟨(hs.2 p.1 ?_).trans e,n,ne,nf,d⟩;intro q;rw[q,hoc]at e;have q':oc=p.2:=AK e;exact d w' (by rw[<-q'];exact hocd)
def xT{Q:Unit->Shared->Prop}(I:Inv X pins σ H s)(S:X.N.Nodup)(hi:X.N[i]?=some x)(hx:Loc X.a.scope x)(r:RelV v u)
 (h:∀s',Inv X pins (σ.set i (some v)) H s'->Q () s') (R:X.m x=true\/X.a.scope.names.lookup x=some .local:=by first|exact .inl rfl|exact .inr rfl|assumption):wpAny M A (storeName X.a x u) Q E s:=
 p5 I S hi hx r (λs' U _=>h s' U) R
def Inv.Xc(I:Inv X pins σ H s)(U:s'.os=s.os)(u:Un (frs X.j) ch H H' s.heap s'.heap)(N:HOk X.f X.w H' s'.heap)(W:AllBare s'.gens)
 (R:∀b∈ch,(b∈X.n\/X.l.heap.objs.size<=b)/\b≠X.a.locals/\(∀x c,X.a.cells.lookup x=some c->c≠b)/\∀p∈X.q++pins,p.1≠b):Inv X pins σ H' s':=by
 obtain⟨h',g',d',t',S⟩:=s';have e:S=s.os:=U;subst e;exact I.call (g':=g') (t':=t') (d':=d') u N W R
abbrev XK:=Value->Option Addr->Hp->Prop
abbrev St:=List (Option V)
abbrev VK:=V->Hp->Prop
abbrev TE:=St->Hp->VK->Prop
abbrev TT:=St->Hp->(Bool->Hp->Prop)->Prop
abbrev TA:=St->Hp->(List V->Hp->Prop)->Prop
structure Ends where
 a:St->Hp->Prop
 d:VK
 b:St->Hp->Prop:=λ_ _=>False
 c:St->Hp->Prop:=λ_ _=>False
abbrev TS:=Ends->St->Hp->Prop
def EP(X:Cx)(pins:List (Addr × Obj))(σ:St)(Q:VK)(u:Value)(s':Shared):Prop:=∃v H',Inv X pins σ H' s'/\RelV v u/\Q v H'
def TP(X:Cx)(pins:List (Addr × Obj))(σ:St)(Q:Bool->Hp->Prop)(b:Bool)(s':Shared):Prop:=∃H',Inv X pins σ H' s'/\Q b H'
def AP(X:Cx)(pins:List (Addr × Obj))(σ:St)(Q:List V->Hp->Prop)(us:List Value)(s':Shared):Prop:=∃vs H',Inv X pins σ H' s'/\Vals vs us/\Q vs H'
def SP(X:Cx)(pins:List (Addr × Obj))(D:Ends)(f:Flow)(s':Shared):Prop:=
 match f with
 |.next=>∃N H',Inv X pins N H' s'/\D.a N H'
 |.brk=>∃N H',Inv X pins N H' s'/\D.b N H'
 |.cont=>∃N H',Inv X pins N H' s'/\D.c N H'
 |.ret u=>∃v N H',Inv X pins N H' s'/\RelV v u/\D.d v H'
def PE(X:Cx)(e:Expr)(t:TE):Prop:=
 ∀(pins:List (Addr × Obj)) (s:Shared) (σ:St) (H:Hp) (Q:VK),Inv X pins σ H s->t σ H Q->wpAny (model X.f X.w) X.A (eval e X.a) (EP X pins σ Q) X.h s
def PT(X:Cx)(e:Expr)(t:TT):Prop:=
 ∀(pins:List (Addr × Obj)) (s:Shared) (σ:St) (H:Hp) (Q:Bool->Hp->Prop),Inv X pins σ H s->t σ H Q->wpAny (model X.f X.w) X.A (isTrue e X.a (eval e X.a)) (TP X pins σ Q) X.h s
def PW(X:Cx)(e:Expr)(t:TT):Prop:=
 ∀(N:Sem Value) (pins:List (Addr × Obj)) (s:Shared) (σ:St) (H:Hp) (Q:Bool->Hp->Prop),Inv X pins σ H s->t σ H Q->wpAny (model X.f X.w) X.A (isTrue e X.a N) (TP X pins σ Q) X.h s
def PW.pt(h:PW X e t):PT X e t:=h _
def PA(X:Cx)(es:List Expr)(t:TA):Prop:=
 ∀(pos:Pos) (pins:List (Addr × Obj)) (s:Shared) (σ:St) (H:Hp) (Q:List V->Hp->Prop),Inv X pins σ H s->t σ H Q->wpAny (model X.f X.w) X.A (spliced (backTo pos (Be es X.a))) (AP X pins σ Q) X.h s
def PS(X:Cx)(st:Stmt)(t:TS):Prop:=
 ∀(pins:List (Addr × Obj)) (s:Shared) (σ:St) (H:Hp) (D:Ends),Inv X pins σ H s->t D σ H->wpAny (model X.f X.w) X.A (exec st X.a) (SP X pins D) X.h s
def PSs(X:Cx)(st:List Stmt)(t:TS):Prop:=
 ∀(pins:List (Addr × Obj)) (s:Shared) (σ:St) (H:Hp) (D:Ends),Inv X pins σ H s->t D σ H->wpAny (model X.f X.w) X.A (execs st X.a) (SP X pins D) X.h s
def thn(h:wpAny M A t Q E s)(N:∀a s,Q a s->Q' a s):wpAny M A t Q' E s:=BU h N λ_ _ x=>x
section
variable {X:Cx}
def bin(ha:PE X a ta)(hb:PE X b tb){R:V->V->Hp->Prop}(I:Inv X pins σ H s)(h:ta σ H λx H1=>tb σ H1 λy H2=>R x y H2)
  {Q} {f:Value->Value->Sem α}
 (hf:∀v u s2 x y H2,Inv X pins σ H2 s2->RelV x v->RelV y u->R x y H2->wpAny (model X.f X.w) X.A (f v u) Q X.h s2) :
 wpAny (model X.f X.w) X.A (eval a X.a) (λv S=>wpAny (model X.f X.w) X.A (eval b X.a) (λu N=>wpAny (model X.f X.w) X.A (f v u) Q X.h N) X.h S) X.h s:=by
 refine thn (ha pins s σ H _ I h) λv s1 U=>?_;obtain⟨x,H1,I1,Y,q1⟩:=U;refine thn (hb pins s1 σ H1 _ I1 q1) λu s2 U=>?_;obtain⟨y,H2,I2,W,Z⟩:=U;exact hf v u s2 x y H2 I2 Y W Z
def QL(i:Nat):TE:=λσ H Q=>∃v,σ[i]?=some (some v)/\Q v H
def tC(v:V):TE:=λ_ H Q=>Q v H
def UH(hN:X.N[i]?=some x)(W:Vis X.a.scope x)(hd:(x == ("__debug__":Str))=false:=by decide)(S:(x == ("__classdict__":Str))=false:=by decide):PE X (.Name x pos) (QL i):=by
 intro pins s σ H Q I h;obtain⟨v,e,h⟩:=h;obtain⟨m,Y,hl⟩:=I.M;obtain⟨u,r,l⟩:=hl i x v hN e W;have fin:EP X pins σ Q u s:=⟨v,H,I,r,h⟩;rcases l with⟨hk,Z⟩|⟨hk,c,U,R⟩
 . exact wpAny_Name (wpAny_loadName_local I.y.d hk Y Z fin) hd
 . rcases hk with hk|hk
   . exact wpAny_Name (wpAny_loadName_cell I.y.d hk U R fin) hd
   . exact wpAny_Name (wpAny_loadName_free I.y.d hk U R fin S) hd
def V9{i j pos}:PE X (.Constant (.int i) j pos) (tC (.d i)):=λ_ _ _ H _ I h=>wpAny_Constant_int ⟨.d i,H,I.tok _,⟨_,rfl⟩,h⟩
def Sb{b j pos}:PE X (.Constant (.bool b) j pos) (tC (.f b)):=λ_ _ _ H _ I h=>Constant_bool ⟨.f b,H,I,rfl,h⟩
def UB{j pos}:PE X (.Constant .none j pos) (tC .g):=λ_ _ _ H _ I h=>Constant_none ⟨.g,H,I,rfl,h⟩
def UE{x j pos}:PE X (.Constant (.str x) j pos) (tC (.e x)):=λ_ _ _ H _ I h=>Calls.Constant_str ⟨.e x,H,I.tok _,⟨_,rfl⟩,h⟩
def Gl(X:Cx)(x:Str):Prop:=X.a.kindOf x=some .globalImplicit
def oZ(I:Inv X pins σ H s)(R:Gl X x)(N:X.d x=some u)(h:Q u s)
 (hd:(x == ("__debug__":Str))=false:=by decide):wpAny (model X.f X.w) X.A (eval (.Name x pos) X.a) Q E s:=
 GP I.y.d R (Calls.loadGlobal_global (by rw[I.y.s];exact I.mod.a.keeps I.bk) N h) hd
def uU(I:Inv X pins σ H s)(U:Gl X x)(S:X.d x=none)(N:Dq x=some u)(h:Q u s)
 (R:x≠"__name__":=by decide) (hd:(x == ("__debug__":Str))=false:=by decide):wpAny (model X.f X.w) X.A (eval (.Name x pos) X.a) Q E s:=by
 obtain⟨Z,Y,W⟩:=I.mod.d;exact GP I.y.d U (Calls.loadGlobal_builtin (by rw[I.y.s];exact I.mod.a.keeps I.bk) S (by rw[I.y.G];exact Y.keeps I.bk) ((W x R).trans N) h) hd
def Yr(R:Gl X x)(N:X.d x=some u)(r:RelV v u)(hd:(x == ("__debug__":Str))=false:=by decide):PE X (.Name x pos) (tC v):=
 λ_ _ _ H _ I h=>oZ I R N ⟨v,H,I,r,h⟩ hd
def Yo(U:Gl X x)(S:X.d x=none)(N:Dq x=some u)(r:RelV v u)(R:x≠"__name__":=by decide)(hd:(x == ("__debug__":Str))=false:=by decide):PE X (.Name x pos) (tC v):=
 λ_ _ _ H _ I h=>uU I U S N ⟨v,H,I,r,h⟩ R hd
variable {a b:Expr}{ta tb:TE}{pos:Pos}
variable {tA tB':TT}{rest:List Expr}
def QG(t:TT):TT:=λσ H Q=>t σ H λc H1=>Q (!c) H1
def UN(N:PT X a tA):PT X (.UnaryOp .Not a pos) (QG tA):=by intro pins s σ H Q I h;exact isTrue_not (N pins s σ H (λc H1=>Q (!c) H1) I h)
def RG(ta tb:TE):TE:=λσ H Q=>ta σ H λx H1=>∃c,x=.f c/\if c=true then tb σ H1 Q else Q (.f false) H1
def RJ(ta:TE):TE:=λσ H Q=>ta σ H λx H1=>∃c,x=.f c/\Q (.f (!c)) H1
def kn{op}(h:PE X a t):PE X (.BoolOp op [a] pos) t:=λpins s σ H Q I hw=>BoolOp_one (h pins s σ H Q I hw)
def V8(W:PE X a ta)(U:PE X (.BoolOp .And (b::rest) pos) tb):PE X (.BoolOp .And (a::b::rest) pos) (RG ta tb):=by
 intro pins s σ H Q I h;refine BoolOp_and (thn (W pins s σ H _ I h) λv s1 R=>?_);obtain⟨x,H1,I1,S,N⟩:=R;obtain⟨c,rfl,N⟩:=N;cases S;refine Cw ?_;cases c with
 |true=>exact U pins s1 σ H1 Q I1 N
 |false=>exact⟨.f false,H1,I1,rfl,N⟩
def UC(U:PE X a ta):PE X (.UnaryOp .Not a pos) (RJ ta):=by intro pins s σ H Q I h;refine UnaryOp_ (thn (U pins s σ H _ I h) λv s1 R=>?_);obtain⟨x,H1,I1,S,N⟩:=R;obtain⟨c,rfl,N⟩:=N;cases S;exact not_of (Cw ⟨.f (!c),H1,I1,rfl,N⟩)
end
def SqL(K:AI)(H:Hp)(a:Addr)(xs:List V):Prop:=
 Rd H a (.b xs) \/
  ∃(o:Obj) (its:Array Value) (n:Nat),K.lookup a=some o/\o.cls=.type "list"/\o.dict=none/\o.data=.seq its n/\its.size<=AH/\Vals xs its.toList
def SqT(K:AI)(H:Hp)(a:Addr)(xs:List V):Prop:=
 Rd H a (.c xs) \/
  ∃(o:Obj) (its:Array Value) (n:Nat),K.lookup a=some o/\o.cls=.type "tuple"/\o.data=.seq its n/\its.size<=AH/\Vals xs its.toList
noncomputable def Rc:Value->Option V
 |.none=>some .g
 |.bool b=>some (.f b)
 |.int i _=>some (.d i)
 |.str x _=>some (.e x)
 |.bytes b _=>some (.h b)
 |.float b _=>some (.j b)
 |.ref a=>some (.c a)
 |.type n=>some (.k n)
 |_=>none
def RelV.abs(r:RelV x u):Rc u=some x:=by
 cases x with
 |g=>cases r;rfl
 |f _=>cases r;rfl
 |d _=>obtain⟨t,rfl⟩:=r;rfl
 |e _=>obtain⟨t,rfl⟩:=r;rfl
 |h _=>obtain⟨t,rfl⟩:=r;rfl
 |j _=>obtain⟨t,rfl⟩:=r;rfl
 |c _=>cases r;rfl
 |k _=>cases r;rfl
def RelV.inj(r:RelV x u)(q:RelV y u):x=y:=AK (r.abs.symm.trans q.abs)
theorem Vals.inj:∀{xs ys} {us},Vals xs us->Vals ys us->xs=ys
 |_,_,_,.nil,.nil=>rfl
 |_,_,_,.cons r t,.cons r' t'=>by rw[r.inj r',Vals.inj t t']
def SqL.of{K}(h:H a=some (.b xs)):SqL K H a xs:=.inl (.inl h)
def SqT.of{K}(h:H a=some (.c xs)):SqT K H a xs:=.inl (.inl h)
def Inv.list(I:Inv X pins σ H s)(h:SqL X.K H a xs):∃its:List Value,Vals xs its/\PlainL s.heap a its.toArray/\xs.length<=AH:=by
 rcases h with h|⟨o,its,n,hk,N,hd,hs,R,r⟩
 . obtain⟨z,its,n,r,e⟩:=h.ok I.j
   exact⟨its,r,⟨_,n,e,rfl,rfl,rfl⟩,z⟩
 . refine⟨its.toList,r,⟨o,n,I.kIn a o hk,N,hd,by simpa using hs⟩,?_⟩
   have e:=r.length;simp only[Aw]at e;omega
def Inv.tuple(I:Inv X pins σ H s)(h:SqT X.K H a xs):∃its:List Value,Vals xs its/\IsTup s.heap a its.toArray/\xs.length<=AH:=by
 rcases h with h|⟨o,its,n,hk,N,hs,R,r⟩
 . obtain⟨z,its,r,p⟩:=h.ok I.j
   exact⟨its,r,p.tup,z⟩
 . refine⟨its.toList,r,⟨o,I.kIn a o hk,N,n,by simpa using hs⟩,?_⟩
   have e:=r.length;simp only[Aw]at e;omega
def Inv.bA(I:Inv X pins σ H s)(h:SqL X.K H a xs)(h':SqL X.K H a ys):xs=ys:=by
 obtain⟨its,r,⟨o,n,e,_,_,d⟩,_⟩:=I.list h;obtain⟨its',R,⟨S,U,N,_,_,d'⟩,_⟩:=I.list h';rw[e]at N;cases N;rw[d]at d';injection d' with d1 _
 have:its=its':=by simpa using congrArg Array.toList d1
 subst this;exact r.inj R
def Inv.eH(I:Inv X pins σ H s)(h:SqT X.K H a xs)(h':SqT X.K H a ys):xs=ys:=by
 obtain⟨its,r,⟨o,e,_,n,d⟩,_⟩:=I.tuple h;obtain⟨its',R,⟨S,N,_,U,d'⟩,_⟩:=I.tuple h';rw[e]at N;cases N;rw[d]at d';injection d' with d1 _
 have:its=its':=by simpa using congrArg Array.toList d1
 subst this;exact r.inj R
noncomputable abbrev Cx.qy(X:Cx)(E:Value->Shared->Prop):Cx:={X with h:=E}
abbrev Cx.nox(X:Cx):Cx:=X.qy λ_ _=>False
theorem Cx.Ok.qy{X:Cx}(ok:X.Ok)E:(X.qy E).Ok:=
 ⟨ok.u,ok.d,ok.s,ok.G,ok.g,ok.L,ok.J,ok.D,ok.l,ok.m,ok.M,ok.H,ok.O,ok.B,ok.w,ok.r,ok.P,ok.I⟩
def Cx.Ok.vo{X:Cx}(ok:(X.qy E).Ok):X.Ok:=
 ⟨ok.u,ok.d,ok.s,ok.G,ok.g,ok.L,ok.J,ok.D,ok.l,ok.m,ok.M,ok.H,ok.O,ok.B,ok.w,ok.r,ok.P,ok.I⟩
theorem Inv.qy(I:Inv X pins σ H s)E:Inv (X.qy E) pins σ H s:=⟨I.y.qy E,I.R,I.G,I.B,I.M,I.C,I.F,I.J,I.O,I.j,I.P⟩
theorem Inv.vo(I:Inv (X.qy E) pins σ H s):Inv X pins σ H s:=⟨I.y.vo,I.R,I.G,I.B,I.M,I.C,I.F,I.J,I.O,I.j,I.P⟩
theorem SP.vo(h:SP (X.qy E) pins D f s'):SP X pins D f s':=by
 cases f with
 |next=>obtain⟨N,H',I,q⟩:=h;exact⟨N,H',I.vo,q⟩
 |brk=>obtain⟨N,H',I,q⟩:=h;exact⟨N,H',I.vo,q⟩
 |cont=>obtain⟨N,H',I,q⟩:=h;exact⟨N,H',I.vo,q⟩
 |ret u=>obtain⟨v,N,H',I,r,q⟩:=h;exact⟨v,N,H',I.vo,r,q⟩
theorem PSs.nox{st}(h:PSs X.nox st t):PSs X st t:=λpins s σ H D I hw=>
 BU (h pins s σ H D (I.qy _) hw) (λ_ _ q=>q.vo) λ_ _ z=>Dn z
section
variable {X:Cx}{st:Stmt}{rest:List Stmt}{t u:TS}{e:Expr}{te:TE}{pos:Pos}
def RI:TS:=λD σ H=>D.a σ H
def QJ(t u:TS):TS:=λD σ H=>t {D with a:=u D} σ H
def Y0:PSs X [] RI:=λ_ _ σ H _ I h=>wpAny_execs_nil ⟨σ,H,I,h⟩
def aE(S:PS X st t)(R:PSs X rest u):PSs X (st::rest) (QJ t u):=by
 intro pins s σ H D I h;refine wpAny_execs_cons (thn (S pins s σ H {D with a:=u D} I h) λf s1 q=>?_)
 cases f with
 |next=>
  obtain⟨N,H',U,q⟩:=q;exact R pins s1 N H' D U q
 |ret v=>exact q
 |brk=>exact q
 |cont=>exact q
def Inv.quiet(I:Inv X pins σ H s):interactive X.a=false:=by simp[interactive,I.y.d]
def RH(te:TE):TS:=λD σ H=>te σ H λ_ H1=>D.a σ H1
def Yy(he:PE X e te)(hs:FY e none pos.line X.a=pure false:=by rfl):PS X (.Expr e pos) (RH te):=by intro pins s σ H D I h;exact wpAny_Expr_any (thn (he pins s σ H _ I h) λv s1 ⟨x,H1,I1,r1,q1⟩=>⟨σ,H1,I1,q1⟩) I.quiet hs
def QI(te:TE):TS:=λD σ H=>te σ H D.d
def UM(he:PE X e te):PS X (.Return (some e) pos) (QI te):=by intro pins s σ H D I h;exact wpAny_Return_some (thn (he pins s σ H _ I h) λv s1 ⟨x,H1,I1,r1,q1⟩=>⟨x,σ,H1,I1,r1,q1⟩)
def QE(c:TT)(t u:TS):TS:=λD σ H=>c σ H λb H1=>if b=true then t D σ H1 else u D σ H1
def Sj(S:PT X c tc)(W:PSs X a t)(U:PSs X b u):PS X (.If c a b pos) (QE tc t u):=by
 intro pins s σ H D I h;refine wpAny_If (thn (S pins s σ H _ I h) λd s1 R=>?_);obtain⟨H1,I1,N⟩:=R;cases d with
 |true=>exact W pins s1 σ H1 D I1 N
 |false=>exact U pins s1 σ H1 D I1 N
end
abbrev TG:=V->St->Hp->(St->Hp->Prop)->Prop
abbrev TGs:=List V->St->Hp->(St->Hp->Prop)->Prop
def PG(X:Cx)(N:Expr)(t:TG):Prop:=
 ∀(pins:List (Addr × Obj)) (s:Shared) (σ:St) (H:Hp) (v:V) (u:Value) (Q:St->Hp->Prop),Inv X pins σ H s->RelV v u->t v σ H Q ->
  wpAny (model X.f X.w) X.A (assign N X.a u) (λ_ s'=>∃R H',Inv X pins R H' s'/\Q R H') X.h s
def PGs(X:Cx)(ts:List Expr)(t:TGs):Prop:=
 ∀(pins:List (Addr × Obj)) (s:Shared) (σ:St) (H:Hp) (vs:List V) (us:List Value) (Q:St->Hp->Prop),Inv X pins σ H s->Vals vs us->t vs σ H Q ->
  wpAny (model X.f X.w) X.A (FJ ((DI ts X.a).map (·.2)) us) (λ_ s'=>∃N H',Inv X pins N H' s'/\Q N H') X.h s
abbrev WK:=V->V->V->Hp->(Hp->Prop)->Prop
def U2(X:Cx)(t:WK):Prop:=
 ∀(pins:List (Addr × Obj)) (s:Shared) (σ:St) (H:Hp) (o i v:V) (N R u:Value) (Q:Hp->Prop),Inv X pins σ H s->RelV o N->RelV i R->RelV v u->t o i v H Q ->
  wpAny (model X.f X.w) X.A (setItem N R u) (λ_ s'=>∃H',Inv X pins σ H' s'/\Q H') X.h s
abbrev TIp:=V->V->Hp->VK->Prop
def PIp(X:Cx)(op:Operator)(t:TIp):Prop:=
 ∀(pins:List (Addr × Obj)) (s:Shared) (σ:St) (H:Hp) (x y:V) (v u:Value) (Q:VK),Inv X pins σ H s->RelV x v->RelV y u->t x y H Q ->
  wpAny (model X.f X.w) X.A (Fb op v u) (EP X pins σ Q) X.h s
section
variable {X:Cx}{pos:Pos}
def vY(i:Nat):TG:=λv σ H Q=>Q (σ.set i (some v)) H
def Ys(S:X.N.Nodup)(hi:X.N[i]?=some x)(hx:Loc X.a.scope x)(R:X.m x=true\/X.a.scope.names.lookup x=some .local:=by first|exact .inl rfl|exact .inr rfl|assumption):PG X (.Name x pos) (vY i):=by intro pins s σ H v u Q I r h;exact wpAny_assign_Name (xT I S hi hx r (λs' U=>⟨_,H,U,h⟩) R)
def TU:TGs:=λvs σ H Q=>vs=[]/\Q σ H
def Xi(t:TG)(u:TGs):TGs:=λvs σ H Q=>∃v r,vs=v::r/\t v σ H λN H'=>u r N H' Q
def Yt:PGs X [] TU:=by intro pins s σ H vs us Q I r h;obtain⟨e,h⟩:=h;subst e;cases r;exact G1 ⟨σ,H,I,h⟩
def bx{e:Expr}{es:List Expr}{t:TG}{u:TGs}(Y:PG X e t)(W:PGs X es u)
 (hs:(DI (e::es) X.a).map (·.2)=assign e X.a::(DI es X.a).map (·.2):=by rfl):PGs X (e::es) (Xi t u):=by
 intro pins s σ H vs us Q I r h;obtain⟨v,vr,Z,h⟩:=h;subst Z;cases r with
 |cons r S=>
  rw[hs];refine Dr (thn (Y pins s σ H _ _ _ I r h) λ_ s1 R=>?_);obtain⟨N,H1,I1,U⟩:=R;exact W pins s1 N H1 _ _ Q I1 S U
def TY(K:AI)(n:Nat)(t:TGs):TG:=λv σ H Q=>∃a xs,v=.c a/\SqT K H a xs/\xs.length=n/\t xs σ H Q
def nC(Z:X.g=true)(h:PGs X es t)
 (W:(DI es X.a).length=n:=by rfl) (N:(DI es X.a).findIdx? (·.1)=none:=by rfl):PG X (.Tuple es k pos) (TY X.K n t):=by
 intro pins s σ H v u Q I r hw;obtain⟨a,xs,e1,U,Y,hw⟩:=hw;subst e1;cases r;obtain⟨its,R,S,hz⟩:=I.tuple U;refine assign_Tuple_tuple (I.y.l Z) S (by simp[W,<-Y,R.length]) N λh' hx=>?_
 have I1:Inv X pins σ H {s with heap:=h'}:=I.kept (t':=s.toks) λb o e=>hx b o (Ax (An e)) e
 exact h pins _ σ H xs _ Q I1 (by simpa using R) hw
def TX(to N:TE)(t:WK):TG:=λv σ H Q=>to σ H λo H1=>N σ H1 λi H2=>t o i v H2 λR=>Q σ R
def UI(ho:PE X o to)(hi:PE X i ti)(hs:U2 X t)
 (ha:∀v,assign (.Subscript o i pos) X.a v=(do
  let N <-holding [v] (eval o X.a);let S <-holding [v,N] (eval i X.a)
  standAt pos
  holding [v,N,S] (setItem N S v)
  release [v,N,S] []):=by intro _;rfl):PG X (.Subscript o i pos) (TX to ti t):=by
 intro pins s σ H v u Q I r h;rw[ha];refine dm (A6 (thn (ho pins s σ H _ I h) λN s1 R=>?_));obtain⟨x,H1,I1,W,q1⟩:=R;refine dm (A6 (thn (hi pins s1 σ H1 _ I1 q1) λS s2 R=>?_));obtain⟨y,H2,I2,U,Z⟩:=R;refine dm (BK (dm (A6 (thn (hs pins s2 σ H2 x y v N S u _ I2 W U r Z) λ_ s3 R=>?_))));obtain⟨H3,I3,Y⟩:=R;exact wpAny_release ⟨σ,H3,I3,Y⟩
def qx(te:TE)(g:TG):TS:=λD σ H=>te σ H λx H1=>g x σ H1 D.a
def jB(he:PE X e te)(U:PG X tg g)(hs:FK [tg] e pos.line X.a=pure false:=by rfl)(hw:Cq [tg] e X.a=pure none:=by rfl)
 (W:(DI [tg] X.a).map (·.2)=[assign tg X.a]:=by rfl):PS X (.Assign [tg] e pos) (qx te g):=by
 intro pins s σ H D I h;refine wpAny_Assign_stores (thn (he pins s σ H _ I h) λv s1 N=>?_) hs hw;obtain⟨x,H1,I1,R,S⟩:=N;rw[W];exact thn (U pins s1 σ H1 x v _ I1 R S) λ_ s2 q=>q
def jD(Y:X.N.Nodup)(hi:X.N[i]?=some x)(hx:Loc X.a.scope x)(he:PE X e te)(hs:FY e (some (.Name x pos')) pos.line X.a=pure false:=by rfl)(W:X.m x=true\/X.a.scope.names.lookup x=some .local:=by first|exact .inl rfl|exact .inr rfl|assumption) :
 PS X (.Assign [.Name x pos'] e pos) (qx te (vY i)):=by
 intro pins s σ H D I h;refine wpAny_Assign_Name (thn (he pins s σ H _ I h) λv s1 R=>?_) hs;obtain⟨y,H1,I1,S,U⟩:=R;exact xT I1 Y hi hx S (λs2 I2=>⟨_,H1,I2,U⟩) W
def RL(i j:Nat)(ta:TA):TS:=λD σ H=>ta σ H λvs H1=>∃v w,vs=[v,w]/\D.a ((σ.set i (some v)).set j (some w)) H1
def UL{kt k2 pt2}(hc:X.g=true)(hN:X.N.Nodup)(hi:X.N[i]?=some x)(hj:X.N[j]?=some y)(Z:i≠j)
 (hx:X.a.scope.names.lookup x=some .local) (hy:X.a.scope.names.lookup y=some .local) (ha:PA X [a,b] ta)
 (hw:Cq [.Tuple [.Name x px,.Name y py] kt pt] (.Tuple [a,b] k2 pt2) X.a=pure (some [x,y]))
 (hs:FK [.Tuple [.Name x px,.Name y py] kt pt] (.Tuple [a,b] k2 pt2) pos.line X.a=pure false:=by rfl) :
 PS X (.Assign [.Tuple [.Name x px,.Name y py] kt pt] (.Tuple [a,b] k2 pt2) pos) (RL i j ta):=by
 intro pins s σ H D I h;rw[exec_Assign_arm];refine dm (BK ?_);rw[hs];refine dm (zO ?_);rw[if_neg (by decide)]
 refine dm (Tuple_ (thn (ha _ pins s σ H _ I h) λus s1 zn=>?_));obtain⟨vs,H1,I1,r1,W⟩:=zn;obtain⟨v,w,e1,W⟩:=W;subst e1;obtain⟨S,R,rfl,rv,U⟩:∃S R,us=[S,R]/\RelV v S/\RelV w R:=by
  cases r1 with
  |cons p q=>
   cases q with
   |cons p' q'=>
    cases q';exact⟨_,_,rfl,p,p'⟩
 refine Bm ?_ (by show 2<=AH;decide)
 have I2:Inv X pins σ H1 {s1 with heap:=s1.heap.push {cls:=.type "tuple",data:=.seq [S,R].toArray}}:=I1.kept (t':=s1.toks) λb o e=>xd _ e
 rw[hw];refine dm (zO ?_);show wpAny (model X.f X.w) X.A (do rule "assign.swapped-stores";let items <-unpackItems (.ref s1.heap.objs.size) 2 none;FJ [λv=>Ey X.a y v,λv=>Ey X.a x v] items.reverse;pure IB) _ _ _
 refine dm (BM (dm (unpackItems_tuple (items:=#[S,R]) (I.y.l hc) (IsTup.new s1.heap _) λh' Y=>?_)));have I3:=I2.kept (h':=h') (t':=s1.toks) λb o e=>Y b o (Ax (An e)) e;show wpAny _ _ (FJ [λv=>Ey X.a y v,λv=>Ey X.a x v] [R,S] >>= λ_=>pure IB) _ _ _;refine dm (Dr (Fs (xT I3 hN hj (.inl hy) U (λs2 I4=>?_) (.inr hy))));refine Dr (Fs (xT I4 hN hi (.inl hx) rv (λs3 I5=>G1 (zO ?_)) (.inr hx)));rw[FL _ _ (B6 Z)]at I5;exact⟨_,H1,I5,W⟩
def QB(i:Nat)(te:TE)(N:TIp):TS:=λD σ H=>∃x,σ[i]?=some (some x)/\te σ H λy H1=>N x y H1 λz H2=>D.a (σ.set i (some z)) H2
def aC(hN:X.N.Nodup)(hi:X.N[i]?=some x)(hx:Loc X.a.scope x)(he:PE X e te)(ho:PIp X op ti)(hf:X.m x=true\/X.a.scope.names.lookup x=some .local:=by first|exact .inl rfl|exact .inr rfl|assumption) :
 PS X (.AugAssign (.Name x pos') op e pos) (QB i te ti):=by
 intro pins s σ H D I h;obtain⟨v,e1,h⟩:=h;obtain⟨m,hn,hl⟩:=I.M;have Y:Vis X.a.scope x:=by rcases hx with k|k;exact .inl k;exact .inr (.inl k)
 obtain⟨u,r,l⟩:=hl i x v hi e1 Y;refine wpAny_AugAssign_Name ?_;have Z:wpAny (model X.f X.w) X.A (eval e X.a) (λw U=>wpAny (model X.f X.w) X.A (Fb op u w) (λr S=>wpAny (model X.f X.w) X.A (storeName X.a x r) (λ_=>SP X pins D .next) X.h S) X.h U) X.h s:=by refine thn (he pins s σ H _ I h) λw s1 W=>?_;obtain⟨y,H1,I1,r1,q1⟩:=W;refine thn (ho pins s1 σ H1 v y u w _ I1 r r1 q1) λz s2 W=>?_;obtain⟨zv,H2,I2,r2,q2⟩:=W;exact xT I2 hN hi hx r2 (λs3 I3=>⟨_,H2,I3,q2⟩) hf
 rcases l with⟨hk,hm⟩|⟨hk,c,hc,R⟩
 . exact wpAny_loadName_local I.y.d hk hn hm Z
 . rcases hk with hk|hk
   . exact wpAny_loadName_cell I.y.d hk hc R Z
   . rcases hx with k|k
     . have:X.a.scope.names.lookup x=some .free:=hk
       rw[k]at this;cases this
     . have:X.a.scope.names.lookup x=some .free:=hk
       rw[k]at this;cases this
end
structure It where
 c:Nat->Hp->Prop
 b:Nat->Hp->V->Hp->Prop
 a:Nat->Hp->Prop
def vQ(X:Cx)(pins:List (Addr × Obj))(H:Hp)(b:Addr):Prop:=
 H b=none/\b≠X.a.locals/\b ∉ X.fs/\(b∈X.n\/X.l.heap.objs.size<=b)/\(∀x c,X.a.cells.lookup x=some c->c≠b)/\∀p∈X.q++pins,p.1≠b
def Inv.Wi(I:Inv X pins σ H s)(N:s.heap.objs.size<=b)(R:H' b=none):vQ X pins H' b:=by
 refine⟨R,El (AL I.lt N),I.Rv N,.inr (Ao I.sz N),λx c e z=>?_,λp hp z=>?_⟩
 . obtain⟨v,q⟩:=I.C x c e
   exact absurd (AL q.lt (by rw[z];exact N)) (B5 _)
 . exact absurd (AL (An (I.O p hp).1) (by rw[z];exact N)) (B5 _)
structure Turn(P:Program)(w:World)(K:AI)(tg:Expr)(J:It)(fp:List Addr)(it:Addr)(tn:Nat->Heap->Prop):Prop where
 g:it∈fp
 c:∀i h,tn i h->∀b∈fp,∃o,h.get? b=some o/\∀v,o.data≠.cell v
 a:∀i h h',tn i h->(∀b∈fp,∀o,h.get? b=some o->h'.get? b=some o)->tn i h'
 f:∀(X:Cx),X.f=P->X.w=w->X.K=K->X.g=true->∀(i:Nat) (pins:List (Addr × Obj)) (s:Shared) (σ:St) (H:Hp) (E:Value->Shared->Prop),Inv X pins σ H s->(∀b∈fp,vQ X pins H b)->tn i s.heap->J.c i H ->
  wpAny (model P w) X.A (pyNext (.ref it)) (λr s1=>∃u,r=some u /\
   wpAny (model P w) X.A (Bk tg (.ref it) u) (λ_ s2=>∃x H',Inv X pins σ H' s2/\RelV x u/\J.b i H x H'/\tn (i+1) s2.heap/\∀b∈fp,H' b=none) E s1) E s
 e:∀(X:Cx),X.f=P->X.w=w->X.K=K->X.g=true->∀(i:Nat) (pins:List (Addr × Obj)) (s:Shared) (σ:St) (H:Hp) (E:Value->Shared->Prop),Inv X pins σ H s->(∀b∈fp,vQ X pins H b)->tn i s.heap->J.a i H ->
  wpAny (model P w) X.A (pyNext (.ref it)) (λr s1=>r=none/\Inv X pins σ H s1) E s
 d:∀(A:Around) (i:Nat) (s:Shared) (Q:Value->Shared->Prop) (E:Value->Shared->Prop),tn i s.heap->Q (.ref it) s->wpAny (model P w) A (pyIter (.ref it)) Q E s
abbrev TI:=St->Hp->(It->Hp->Prop)->Prop
def PIE(X:Cx)(pins:List (Addr × Obj))(σ:St)(tg:Expr)(R:It->Hp->Prop)(N:Value)(s2:Shared):Prop:=
 ∃(it:Addr) (fp:List Addr) (tn:Nat->Heap->Prop) (J:It) (H':Hp),N=.ref it/\Inv X pins σ H' s2/\Turn X.f X.w X.K tg J fp it tn/\tn 0 s2.heap/\(∀b∈fp,vQ X pins H' b)/\R J H'
def PI(X:Cx)(tg iter:Expr)(wi:TI):Prop:=
 ∀(pins:List (Addr × Obj)) (s:Shared) (σ:St) (H:Hp) (R:It->Hp->Prop),Inv X pins σ H s->wi σ H R ->
  wpAny (model X.f X.w) X.A (eval iter X.a) (λv s1=>wpAny (model X.f X.w) X.A (pyIter v) (PIE X pins σ tg R) X.h s1) X.h s
def dy(R:s.heap.get? it=some o)(U:o.cls=.type n)(hd:o.data=.fields vs)
 (S:["enumerate","zip","dict_itemiterator","dict_reverseitemiterator","odict_iterator","itertools.zip_longest","itertools.pairwise"].contains n=false) (N:Q () s):wpAny M A (Bk tg (.ref it) u) Q E s:=by
 unfold Bk;cases tg<;>first
  |exact zO N
  |(cases u<;>first
   |exact zO N
   |(refine dm (wpAny_load R ?_)
     rw[U,hd];show wpAny M A (if (["enumerate","zip","dict_itemiterator","dict_reverseitemiterator","odict_iterator","itertools.zip_longest","itertools.pairwise"].contains n&&vs[0]? == some (rawInt _))=true then _ else _) Q E s
     rw[if_neg (by intro h;rw[S,Em]at h;cases h)]
     exact zO N))
noncomputable def Itl(K:AI)(a:Addr):It:=
 ⟨λi H=>∃xs x,SqL K H a xs/\xs[i]?=some x,λi H x H'=>H'=H/\∀xs,SqL K H a xs->xs[i]?=some x,λi H=>∃xs,SqL K H a xs/\xs.length<=i⟩
noncomputable def Itt(K:AI)(a:Addr):It:=
 ⟨λi H=>∃xs x,SqT K H a xs/\xs[i]?=some x,λi H x H'=>H'=H/\∀xs,SqT K H a xs->xs[i]?=some x,λi H=>∃xs,SqT K H a xs/\xs.length<=i⟩
noncomputable def Itr(lo:Int)(n:Nat):It:=⟨λi _=>i<n,λi H x H'=>H'=H/\x=.d (lo+i),λi _=>n<=i⟩
def eI{K}a it:Turn P w K tg (Itl K a) [it] it (λi h=>h.IsListIter it a i) where
 g:=by simp
 c:=λi h st b N=>by
  have e:b=it:=by simpa using N
  subst e;obtain⟨o,e,c,d⟩:=st;exact⟨o,e,λv z=>by rw[d]at z;cases z⟩
 a:=λi h h' st k=>st.at λo e=>k it (by simp) o e
 f:=by
  intro X Y hw Z hc i pins s σ H E I S st W;subst Y hw Z;obtain⟨xs,x,R,hx⟩:=W;obtain⟨its,U,p,hz⟩:=I.list R;obtain⟨u,hu,ru⟩:=U.get hx;obtain⟨f0,f1,f2,f3,f4,f5⟩:=S it (by simp)
  refine wpAny_pyNext_list_item st p.isList (x:=u) (by simpa using hu) λh' st' sb=>?_
  have I1:Inv X pins σ H {s with heap:=h'}:=I.turned (t':=s.toks) (λb o N e=>(sb.2 b N).trans e) f0 f1 f3 f4 f5
  obtain⟨o,e,c,d⟩:=id st';exact⟨u,rfl,dy (s:={s with heap:=h'}) e c d (by decide) ⟨x,H,I1,ru,⟨rfl,λys hy=>by rw[I.bA hy R];exact hx⟩,st',λb N=>(S b N).1⟩⟩
 e:=by
  intro X Y hw Z hc i pins s σ H E I S st W;subst Y hw Z;obtain⟨xs,R,hx⟩:=W;obtain⟨its,U,p,hz⟩:=I.list R;obtain⟨f0,f1,f2,f3,f4,f5⟩:=S it (by simp)
  have hl:=U.length;exact wpAny_pyNext_list_end (I.y.l hc) st p.isList (by simp;omega) λh' eb=>⟨rfl,I.turned (t':=s.toks) (λb o N e=>eb b o N e) f0 f1 f3 f4 f5⟩
 d:=λ_ _ _ _ _ st h=>wpAny_pyIter_listiter st h
def jh{K}a it:Turn P w K tg (Itt K a) [it] it (λi h=>h.IsTupleIter it a i) where
 g:=by simp
 c:=λi h st b R=>by
  have e:b=it:=by simpa using R
  subst e;refine byG λS N=>?_;obtain⟨o,e,c,d⟩:=st;refine N ?_;exact⟨o,e,λv z=>by rw[d]at z;cases z⟩
 a:=λi h h' st k=>st.at λo e=>k it (by simp) o e
 f:=by
  intro X hP hw hK hc i pins s σ H E I W st Z;subst hP hw hK;refine byG λS N=>?_;obtain⟨xs,x,U,hx⟩:=Z;refine N ?_;refine byG λS N=>?_;obtain⟨its,Y,p,hz⟩:=I.tuple U;refine N ?_;obtain⟨u,hu,ru⟩:=Y.get hx;refine byG λS N=>?_;obtain⟨f0,f1,f2,f3,f4,f5⟩:=W it (by simp)
  refine N ?_;refine wpAny_pyNext_tuple_item st (show s.heap.IsTuple a its.toArray from p) (x:=u) (by simpa using hu) λh' st' sb=>?_
  have I1:Inv X pins σ H {s with heap:=h'}:=I.turned (t':=s.toks) (λb o R e=>(sb.2 b R).trans e) f0 f1 f3 f4 f5
  refine byG λS N=>?_;obtain⟨o,e,c,d⟩:=id st';refine N ?_;exact⟨u,rfl,dy (s:={s with heap:=h'}) e c d (by decide) ⟨x,H,I1,ru,⟨rfl,λys hy=>by rw[I.eH hy U];exact hx⟩,st',λb R=>(W b R).1⟩⟩
 e:=by
  intro X hP hw hK hc i pins s σ H E I W st Z;subst hP hw hK;obtain⟨xs,U,hx⟩:=Z;refine byG λS N=>?_;obtain⟨its,Y,p,hz⟩:=I.tuple U;refine N ?_;refine byG λS N=>?_;obtain⟨f0,f1,f2,f3,f4,f5⟩:=W it (by simp)
  refine N ?_;have hl:=Y.length;exact wpAny_pyNext_tuple_end (I.y.l hc) st (show s.heap.IsTuple a its.toArray from p) (by simp;omega) λh' eb=>⟨rfl,I.turned (t':=s.toks) (λb o R e=>eb b o R e) f0 f1 f3 f4 f5⟩
 d:=λ_ _ _ _ _ st h=>wpAny_pyIter_tupleiter st h
def jg{K}it lo n:Turn P w K tg (Itr lo n) [it] it (λi h=>IsRangeIter h it (lo+(i:Nat)*1) ((n:Int)-(i:Nat)) 1) where
 g:=by simp
 c:=λi h st b N=>by
  have e:b=it:=by simpa using N
  subst e;exact⟨_,st,λv z=>by have z':Data.fields _=Data.cell v:=z;cases z'⟩
 a:=λi h h' st k=>k it (by simp) _ st
 f:=by
  intro X Z hw hK Y i pins s σ H E I S st U;subst Z hw hK;refine byG λpi R=>?_;obtain⟨f0,f1,f2,f3,f4,f5⟩:=S it (by simp)
  refine R ?_;have W:=Walks.range (prog:=X.f) (w:=X.w) (I.y.l Y) it lo 1 n;refine W.item i s _ _ U st λv h' tk hv st' kk=>?_;obtain⟨t,rfl⟩:=hv;have I1:Inv X pins σ H {s with heap:=h',toks:=tk}:=I.turned (λb o N e=>kk b o (by simpa using N) e) f0 f1 f3 f4 f5
  refine⟨_,rfl,dy (s:={s with heap:=h',toks:=tk}) (n:="range_iterator") st' rfl rfl (by decide) ⟨.d (lo+i),H,I1,⟨t,?_⟩,⟨rfl,rfl⟩,st',λb N=>(S b N).1⟩⟩
  rw[Int.mul_one]
 e:=by
  intro X Z hw hK Y i pins s σ H E I S st U;subst Z hw hK;refine byG λpi R=>?_;obtain⟨f0,f1,f2,f3,f4,f5⟩:=S it (by simp)
  refine R ?_;exact wpAny_pyNext_range_end (I.y.l Y) st (by have:n<=i:=U;omega) λh' eb=>⟨rfl,I.turned (t':=s.toks) (λb o N e=>eb b o N e) f0 f1 f3 f4 f5⟩
 d:=λ_ _ _ _ _ st h=>wpAny_pyIter_rangeiter st h
section
variable {X:Cx}{tg:Expr}
def Tb(K:AI)(tl:TE):TI:=λσ H R=>tl σ H λx H1=>∃a,x=.c a/\(∃xs,SqL K H1 a xs)/\R (Itl K a) H1
def Rl(K:AI)(tl:TE):TI:=λσ H R=>tl σ H λx H1=>∃a,x=.c a/\(∃xs,SqT K H1 a xs)/\R (Itt K a) H1
def i5(Y:PE X l tl):PI X tg l (Tb X.K tl):=by
 intro pins s σ H R I h;refine thn (Y pins s σ H _ I h) λv s1 N=>?_;obtain⟨x,H1,I1,S,U⟩:=N;obtain⟨a,e,⟨xs,W⟩,q⟩:=U;subst e;cases S;obtain⟨its,rv,p,hz⟩:=I1.list W;refine Eh p.isList ?_;refine⟨s1.heap.objs.size,[s1.heap.objs.size],_,_,H1,rfl,I1.kept (t':=s1.toks) λb o e=>xd _ e,eI a _,⟨_,AA _ rfl,rfl,rfl⟩,λb Z=>?_,q⟩;have e:b=s1.heap.objs.size:=by simpa using Z
 subst e;exact I1.Wi (Ac _) (I1.j.fresh (Ac _))
def bz(Y:PE X l tl):PI X tg l (Rl X.K tl):=by
 intro pins s σ H R I h;refine thn (Y pins s σ H _ I h) λv s1 N=>?_;obtain⟨x,H1,I1,S,U⟩:=N;obtain⟨a,e,⟨xs,W⟩,q⟩:=U;subst e;cases S;obtain⟨its,rv,p,hz⟩:=I1.tuple W;refine GF (show s1.heap.IsTuple a its.toArray from p) ?_;refine⟨s1.heap.objs.size,[s1.heap.objs.size],_,_,H1,rfl,I1.kept (t':=s1.toks) λb o e=>xd _ e,jh a _,⟨_,AA _ rfl,rfl,rfl⟩,λb Z=>?_,q⟩;have e:b=s1.heap.objs.size:=by simpa using Z
 subst e;exact I1.Wi (Ac _) (I1.j.fresh (Ac _))
def lB{lo hi}(I:Inv X pins σ H s)(Y:-(2 ^ 62)<=lo)(W:lo<2 ^ 62)(U:-(2 ^ 62)<=hi)(S:hi<2 ^ 62)
 (q:R (Itr lo (hi-lo).toNat) H):wpAny (model X.f X.w) X.A (pyIter (.ref s.heap.objs.size)) (PIE X pins σ tg R) E {s with heap:=s.heap.push {cls:=.type "range",data:=.fields #[.int lo t,.int hi u,.int 1 v]},toks:=tk}:=by
 refine wpAny_pyIter_range (IsRange.new ..) (small_one Y W U S) ?_;have I1:Inv X pins σ H {s with heap:=s.heap.push {cls:=.type "range",data:=.fields #[.int lo t,.int hi u,.int 1 v]},toks:=tk}:=I.kept λb o e=>xd _ e
 refine⟨(s.heap.push {cls:=.type "range",data:=.fields #[.int lo t,.int hi u,.int 1 v]}).objs.size,[(s.heap.push {cls:=.type "range",data:=.fields #[.int lo t,.int hi u,.int 1 v]}).objs.size],_,_,H,rfl,
  I1.kept (t':=tk) λb o e=>xd _ e,jg _ lo (hi-lo).toNat,?_,λb N=>?_,q⟩
 . have e1:lo+((0:Nat):Int)*1=lo:=by simp
   have Z:(((hi-lo).toNat:Nat):Int)-((0:Nat):Int)=A4 lo hi 1:=by rw[rangeSize_one];split<;>omega
   show IsRangeIter _ _ (lo+((0:Nat):Int)*1) ((((hi-lo).toNat:Nat):Int)-((0:Nat):Int)) 1;rw[e1,Z];exact AA _ rfl
 . have e:b=(s.heap.push {cls:=.type "range",data:=.fields #[.int lo t,.int hi u,.int 1 v]}).objs.size:=by simpa using N
   subst e;exact I1.Wi (Ac _) (I1.j.fresh (Ac _))
def Tc(ta:TA):TI:=λσ H R=>ta σ H λvs H1=>∃j:Int,vs=[.d j]∧-(2 ^ 62)<=j/\j<2 ^ 62/\R (Itr 0 j.toNat) H1
def Td(ta:TA):TI:=λσ H R=>ta σ H λvs H1=>∃i j:Int,vs=[.d i,.d j]/\(-(2 ^ 62)<=i/\i<2 ^ 62∧-(2 ^ 62)<=j/\j<2 ^ 62)/\R (Itr i (j-i).toNat) H1
def ff(hg:Gl X "range")(Z:X.d "range"=none)(ha:PA X [a] ta)(hs:Be [a] X.a=[(false,eval a X.a)]:=by rfl):PI X tg (.Call (.Name "range" p) [a] [] pos) (Tc ta):=by
 intro pins s σ H R I h;refine Call_ (uU I hg Z boot_range (Cz (thn (ha pos pins s σ H _ I h) λus s1 S=>?_) hs rfl));obtain⟨vs,H1,I1,W,N⟩:=S;obtain⟨j,e,N,Y,q⟩:=N;subst e;cases W with
 |cons r U=>
  cases U;obtain⟨t,rfl⟩:=r;exact call_range_1 (lB I1 ⋯ ⋯ N Y (by simpa using q))
def fh(hg:Gl X "range")(hm:X.d "range"=none)(ha:PA X [a,b] ta)(hs:Be [a,b] X.a=[(false,eval a X.a),(false,eval b X.a)]:=by rfl)(N:Be [b] X.a=[(false,eval b X.a)]:=by rfl) :
 PI X tg (.Call (.Name "range" p) [a,b] [] pos) (Td ta):=by
 intro pins s σ H R I h;refine Call_ (uU I hg hm boot_range (Cz (thn (ha pos pins s σ H _ I h) λus s1 ⟨vs,H1,I1,r1,U⟩=>?_) (by rw[hs,N]) (by rw[N];rfl)))
 obtain⟨i,j,e,⟨U,q2,Z,Y⟩,q⟩:=U;subst e;cases r1 with
 |cons r S=>
  cases S with
  |cons W S=>
   cases S;obtain⟨t,rfl⟩:=r;obtain⟨t',rfl⟩:=W;exact call_range_2 (lB I1 U q2 Z Y q)
def QD(wi:TI)(g:TG)(tb:TS):TS:=λD σ H=>wi σ H λJ H1=>∃W:Nat->Nat->St->Hp->Prop,(∃m,W 0 m σ H1)/\∀i m σ H,W i m σ H ->
 (J.a i H/\D.a σ H)\/(J.c i H/\∃N:St->Hp->Prop,(∀R H',N R H'->∃U,U<m/\W (i+1) U R H')/\∀x H',J.b i H x H'->g x σ H' λS H2=>tb {D with a:=N,c:=N,b:=D.a} S H2)
noncomputable def sE(fp:List Addr)(h:Heap):List (Addr × Obj):=fp.filterMap λb=>(h.get? b).map λo=>(b,o)
def xH(N:b∈fp)(e:h.get? b=some o):(b,o)∈sE fp h:=D3.mpr ⟨b,N,by rw[e];rfl⟩
def fL(hp:p∈sE fp h):p.1∈fp/\h.get? p.1=some p.2:=by
 obtain⟨b,N,e⟩:=D3.mp hp;cases q:h.get? b with
 |none=>rw[q]at e;cases e
 |some o=>
  rw[q]at e;have R:(b,o)=p:=AK e;subst R;exact⟨N,q⟩
def Inv.pinned(I:Inv X pins σ H s)(U:∀b∈fp,vQ X pins H b)(S:∀b∈fp,∃o,s.heap.get? b=some o/\∀v,o.data≠.cell v):Inv X (pins++sE fp s.heap) σ H s:=
 I.i7 λp hp=>(AQ.mp hp).elim (λz=>I.O p (AZ _ z)) λz=>by obtain⟨N,e⟩:=fL z;obtain⟨Y,W,f2,_⟩:=U p.1 N;obtain⟨o,R,d⟩:=S p.1 N;rw[e]at R;cases R;exact⟨e,Y,W,f2,d⟩
def Inv.vn(I:Inv X (pins++pl) σ H s):Inv X pins σ H s:=I.i7 λp hp=>I.O p (AZ _ (Bl _ hp))
def UK(hp:PassesOwn (model X.f X.w) X.A X.a X.h)(hc:X.g=true)(hi:PI X tg iter wi)(hg:PG X tg g)(Z:PSs X body tb)
 (hs:∀x,AM iter X.a x=pure x:=by intro _;rfl):PS X (.For tg iter body [] pos) (QD wi g tb):=by
 intro pins s σ H D I h;refine wpAny_For (thn (hi pins s σ H _ I h) λv s1 h1=>thn h1 λitv s2 h2=>?_) hs;refine byG λpi gqa=>?_;obtain⟨it,fp,tn,J,H2,e,I2,T,st2,f2,W,⟨m0,w0⟩,turn⟩:=h2;refine gqa ?_;subst e
 -- what stays true of the iterator's objects through the loop
 have Y:∀{H':Hp},(∀b∈fp,H' b=none)->∀b∈fp,vQ X pins H' b:=λhn b Z=>⟨hn b Z,(f2 b Z).2⟩;refine codeAny_forLoop_any (λn s'=>∃i U H',Inv X pins U H' s'/\tn i s'.heap/\(∀b∈fp,H' b=none)/\W i n U H') ?_ m0 ⟨0,σ,H2,I2,st2,λb Z=>(f2 b Z).1,w0⟩;rintro n s3 ⟨i,S,H3,I3,st3,fr3,w3⟩;rcases turn i n S H3 w3 with⟨stop,qn⟩|⟨go,N,hN,step⟩
 . refine EZ hp (thn (T.e X rfl rfl rfl hc i pins s3 S H3 X.h I3 (Y fr3) st3 stop) λr s4 zn=>?_)
   obtain⟨hr,I4⟩:=zn;subst hr;exact wpAny_execs_nil ⟨S,H3,I4,qn⟩
 . refine EZ hp (thn (T.f X rfl rfl rfl hc i pins s3 S H3 X.h I3 (Y fr3) st3 go) λr s4 zn=>?_)
   obtain⟨u,hr,h4⟩:=zn;subst hr;refine EZ hp (thn h4 λ_ s5 zn=>?_);refine byG λpi gqa=>?_;obtain⟨x,H5,I5,r5,y5,st5,fr5⟩:=zn;refine gqa ?_;have I5':=I5.pinned (Y fr5) (T.c _ _ st5);refine EZ hp (thn (hg _ s5 S H5 x u _ I5' r5 (step x H5 y5)) λ_ s6 zn=>?_);refine byG λpi gqa=>?_;obtain⟨σ6,H6,I6,q6⟩:=zn;refine gqa ?_;refine EZ hp (thn (Z _ s6 σ6 H6 _ I6 q6) λf s7 q7=>?_);have again:∀{R:St} {H7:Hp},Inv X (pins++sE fp s5.heap) R H7 s7->N R H7->∃m,m<n/\∃i U H',Inv X pins U H' s7/\tn i s7.heap/\(∀b∈fp,H' b=none)/\W i m U H':=λ{R H7} I7 n7=>by obtain⟨m',hm,w7⟩:=hN R H7 n7;refine⟨m',hm,i+1,R,H7,I7.vn,T.a _ _ _ st5 λb Z o e=>(I7.O (b,o) (AZ _ (AZ _ (xH Z e)))).1,λb Z=>?_,w7⟩;obtain⟨o,e,d⟩:=T.c _ _ st5 b Z;exact(I7.O (b,o) (AZ _ (AZ _ (xH Z e)))).2.1
   cases f with
   |next=>obtain⟨R,H7,I7,n7⟩:=q7;exact again I7 n7
   |cont=>obtain⟨R,H7,I7,n7⟩:=q7;exact again I7 n7
   |brk=>obtain⟨R,H7,I7,q7⟩:=q7;exact⟨R,H7,I7.vn,q7⟩
   |ret v=>obtain⟨x7,R,H7,I7,r7,q7⟩:=q7;exact⟨x7,R,H7,I7.vn,r7,q7⟩
end
abbrev R2:=V->V->Hp->VK->Prop
def OpR(X:Cx)(f:Value->Value->Sem Value)(r:R2):Prop:=
 ∀(pins:List (Addr × Obj)) (s:Shared) (σ:St) (H:Hp) (x y:V) (v u:Value) (Q:VK),Inv X pins σ H s->RelV x v->RelV y u->r x y H Q ->
  wpAny (model X.f X.w) X.A (f v u) (EP X pins σ Q) X.h s
def UnR(X:Cx)(f:Value->Sem Value)(r:V->Hp->VK->Prop):Prop:=
 ∀(pins:List (Addr × Obj)) (s:Shared) (σ:St) (H:Hp) (x:V) (v:Value) (Q:VK),Inv X pins σ H s->RelV x v->r x H Q ->
  wpAny (model X.f X.w) X.A (f v) (EP X pins σ Q) X.h s
def yN(X:Cx)(f:Value)(r:List V->Hp->VK->Prop):Prop:=
 ∀(pins:List (Addr × Obj)) (s:Shared) (σ:St) (H:Hp) (xs:List V) (us:List Value) (Q:VK),Inv X pins σ H s->Vals xs us->r xs H Q ->
  wpAny (model X.f X.w) X.A (call f us) (EP X pins σ Q) X.h s
def RZ(X:Cx)(r:V->Hp->(Bool->Hp->Prop)->Prop):Prop:=
 ∀(pins:List (Addr × Obj)) (s:Shared) (σ:St) (H:Hp) (x:V) (v:Value) (Q:Bool->Hp->Prop),Inv X pins σ H s->RelV x v->r x H Q ->
  wpAny (model X.f X.w) X.A (truthy v) (TP X pins σ Q) X.h s
def tOp(r:R2)(ta tb:TE):TE:=λσ H Q=>ta σ H λx H1=>tb σ H1 λy H2=>r x y H2 Q
def tUn(r:V->Hp->VK->Prop)(ta:TE):TE:=λσ H Q=>ta σ H λx H1=>r x H1 Q
def rI(C:Int->Int->Prop)(g:Int->Int->V):R2:=λx y H Q=>∃i j,x=.d i/\y=.d j/\C i j/\Q (g i j) H
def rI0(g:Int->Int->V):R2:=λx y H Q=>∃i j,x=.d i/\y=.d j/\Q (g i j) H
def rU(g:Int->V):V->Hp->VK->Prop:=λx H Q=>∃i,x=.d i/\Q (g i) H
section
variable {X:Cx}{a b c:Expr}{ta tb tc:TE}{pos:Pos}
def WQ(ha:PE X a ta)(hb:PE X b tb){R:V->V->Hp->Prop}(I:Inv X pins σ H s)
 (h:ta σ H λx H1=>tb σ H1 λy H2=>R x y H2)  {f:Value->Value->Sem Value}
 (hf:∀v u s2 x y H2,Inv X pins σ H2 s2->RelV x v->RelV y u->R x y H2->wpAny (model X.f X.w) X.A (f v u) Q X.h s2) :
 wpAny (model X.f X.w) X.A (eval a X.a) (λv S=>wpAny (model X.f X.w) X.A (eval b X.a) (λu N=>wpAny (model X.f X.w) X.A (f v u) Q X.h N) X.h S) X.h s:=by
 refine thn (ha pins s σ H _ I h) λv s1 U=>?_;obtain⟨x,H1,I1,Y,q1⟩:=U;refine thn (hb pins s1 σ H1 _ I1 q1) λu s2 U=>?_;obtain⟨y,H2,I2,W,Z⟩:=U;exact hf v u s2 x y H2 I2 Y W Z
def Sf(S:OpR X (BZ op) r)(W:PE X a ta)(U:PE X b tb):PE X (.BinOp a op b pos) (tOp r ta tb):=by intro pins s σ H Q I h;exact wpAny_BinOp (WQ W U I h λv u s2 x y H2 I2 R N q=>S pins s2 σ H2 x y v u Q I2 R N q)
def Sh(N:UnR X (unaryOp op) r)(R:PE X a ta):PE X (.UnaryOp op a pos) (tUn r ta):=by intro pins s σ H Q I h;exact UnaryOp_ (thn (R pins s σ H _ I h) λv s1 ⟨x,H1,I1,r1,q1⟩=>N pins s1 σ H1 x v Q I1 r1 q1)
def opI{f:Value->Value->Sem Value}{C:Int->Int->Prop}{g:Int->Int->Int}
 (N:∀i j t u (s:Shared) (Q:Value->Shared->Prop) E,C i j->Q (.int (g i j) s.toks) {s with toks:=s.toks+1}->wpAny (model X.f X.w) X.A (f (.int i t) (.int j u)) Q E s) :
 OpR X f (rI C λi j=>.d (g i j)):=by
 intro pins s σ H x y v u Q I S R h;obtain⟨i,j,rfl,rfl,U,q⟩:=h;obtain⟨t,rfl⟩:=S;obtain⟨t',rfl⟩:=R;exact N i j t t' s _ _ U ⟨.d (g i j),H,I.tok _,⟨_,rfl⟩,q⟩
def YZ{f:Value->Value->Sem Value}{g:Int->Int->Int}
 (N:∀i j t u (s:Shared) (Q:Value->Shared->Prop) E,Q (.int (g i j) s.toks) {s with toks:=s.toks+1}->wpAny (model X.f X.w) X.A (f (.int i t) (.int j u)) Q E s) :
 OpR X f (rI0 λi j=>.d (g i j)):=by
 intro pins s σ H x y v u Q I S R h;obtain⟨i,j,rfl,rfl,q⟩:=h;obtain⟨t,rfl⟩:=S;obtain⟨t',rfl⟩:=R;exact N i j t t' s _ _ ⟨.d (g i j),H,I.tok _,⟨_,rfl⟩,q⟩
def YY{f:Value->Value->Sem Value}{g:Int->Int->Bool}
 (N:∀i j t u s (Q:Value->Shared->Prop) E,Q (.bool (g i j)) s->wpAny (model X.f X.w) X.A (f (.int i t) (.int j u)) Q E s) :
 OpR X f (rI0 λi j=>.f (g i j)):=by
 intro pins s σ H x y v u Q I S R h;obtain⟨i,j,rfl,rfl,q⟩:=h;obtain⟨t,rfl⟩:=S;obtain⟨t',rfl⟩:=R;exact N i j t t' s _ _ ⟨.f (g i j),H,I,rfl,q⟩
def WE(i j:Int):Prop:=0<j/\j<1073741824
def RV(i j:Int):Prop:=0<=j/\j<=1000000/\i.natAbs<2 ^ 64
def ZO(i j:Int):Prop:=(-(2 ^ 64)<i/\i<2 ^ 64)\/(-(2 ^ 64)<j/\j<2 ^ 64)
def ZO.ok(h:ZO i j):IntMulOk i j:=by
 rcases h with⟨R,N⟩|⟨R,N⟩
 . exact .of_left (intBits_le_64 R N)
 . exact .of_right (intBits_le_64 R N)
def Vm:OpR X (BZ .Add) (rI0 λi j=>.d (i+j)):=YZ λ_ _ _ _ _ _ _ q=>add_int q
def Vt:OpR X (BZ .Sub) (rI0 λi j=>.d (i-j)):=YZ λ_ _ _ _ _ _ _ q=>sub_int q
def Vq:OpR X (BZ .Mult) (rI ZO λi j=>.d (i*j)):=opI λ_ _ _ _ _ _ _ N q=>mul_int q N.ok
def Yb:OpR X (BZ .FloorDiv) (rI WE λi j=>.d (i/j)):=opI λi j _ _ _ _ _ N q=>by have S:(0:Int)<j:=N.1;have R:j<1073741824:=N.2;exact floordiv_int ⋯ (by rw[EK i ⋯];exact q) (.inl (FD ⋯))
def Vp:OpR X (BZ .Mod) (rI (λ_ j=>0<j) λi j=>.d (i%j)):=opI λi j _ _ _ _ _ N q=>by have R:(0:Int)<j:=N;exact mod_int' ⋯ (by rw[EL i ⋯];exact q)
def Vr:OpR X (BZ .Pow) (rI RV λi j=>.d (i ^ j.toNat)):=opI λ_ _ _ _ _ _ _ N q=>pow_int_small N.1 N.2.1 N.2.2 q
def Zv:OpR X (Fb .Add) (rI0 λi j=>.d (i+j)):=YZ λ_ _ _ _ _ _ _ q=>iadd_int q
def Zy:OpR X (Fb .Sub) (rI0 λi j=>.d (i-j)):=YZ λ_ _ _ _ _ _ _ q=>isub_int q
def Zx:OpR X (Fb .Mult) (rI ZO λi j=>.d (i*j)):=opI λ_ _ _ _ _ _ _ N q=>imul_int q N.ok
def cB:OpR X (Fb .FloorDiv) (rI WE λi j=>.d (i/j)):=opI λi j _ _ _ _ _ N q=>by have S:(0:Int)<j:=N.1;have R:j<1073741824:=N.2;exact ifloordiv_int ⋯ (by rw[EK i ⋯];exact q) (.inl (FD ⋯))
def Zw:OpR X (Fb .Mod) (rI (λ_ j=>0<j) λi j=>.d (i%j)):=opI λi j _ _ _ _ _ N q=>by have R:(0:Int)<j:=N;exact imod_int ⋯ (by rw[EL i ⋯];exact q)
def unI{f:Value->Sem Value}{g:Int->Int}
 (N:∀i t (s:Shared) (Q:Value->Shared->Prop) E,Q (.int (g i) s.toks) {s with toks:=s.toks+1}->wpAny (model X.f X.w) X.A (f (.int i t)) Q E s) :
 UnR X f (rU λi=>.d (g i)):=by
 intro pins s σ H x v Q I R h;obtain⟨i,rfl,q⟩:=h;obtain⟨t,rfl⟩:=R;exact N i t s _ _ ⟨.d (g i),H,I.tok _,⟨_,rfl⟩,q⟩
def Up:UnR X (unaryOp .USub) (rU λi=>.d (-i)):=unI λ_ _ _ _ _ q=>neg_int q
end
noncomputable def S8:V->V->Bool
 |.g,.g=>true|.g,.d _=>true|.d _,.g=>true|.g,.f _=>true|.f _,.g=>true|.g,.e _=>true|.e _,.g=>true
 |.d _,.d _=>true|.f _,.f _=>true|.e _,.e _=>true|.h _,.h _=>true
 |.d _,.e _=>true|.e _,.d _=>true|.f _,.e _=>true|.e _,.f _=>true
 |_,_=>false
def rEq:R2:=λx y H Q=>S8 x y=true/\Q (.f (decide (x=y))) H
def rNe:R2:=λx y H Q=>S8 x y=true/\Q (.f (!decide (x=y))) H
def j7:decide (V.d i=V.d j)=(i == j):=by rw[BV];simp
def dI:decide (V.f i=V.f j)=(i == j):=by rw[BV];simp
def j8:decide (V.e i=V.e j)=(i == j):=by rw[BV];simp
def j6:decide (V.h i=V.h j)=(i.toList == j.toList):=by rw[BV];cases i;cases j;simp
section
variable {X:Cx}{a b c:Expr}{ta tb tc:TE}{pos:Pos}
def zj(I:Inv X pins σ H s)(q:Q (.f k) H)(e:k=k'):EP X pins σ Q (.bool k') s:=by subst e;exact⟨.f k,H,I,rfl,q⟩
def SD:OpR X (BO .Eq) rEq:=by
 intro pins s σ H x y v u Q I R N h;obtain⟨hs,q⟩:=h;cases x with
 |g=>
  cases R;cases y with
  |g=>cases N;exact PySem.EqNone.eq_none_none (zj I q (by simp))
  |f j=>cases N;exact PySem.EqNone.eq_none_bool (zj I q (by simp))
  |d j=>obtain⟨t',rfl⟩:=N;exact PySem.EqNone.eq_none_int (zj I q (by simp))
  |e j=>obtain⟨t',rfl⟩:=N;exact PySem.EqNone.eq_none_str (zj I q (by simp))
  |_=>exact absurd (show false=true from hs) Ag
 |f i=>
  cases R;cases y with
  |g=>cases N;exact PySem.EqNone.eq_bool_none (zj I q (by simp))
  |f j=>cases N;exact eq_bool (zj I q dI)
  |e j=>obtain⟨t',rfl⟩:=N;exact PySem.EqMixed.eq_bool_str (zj I q (by simp))
  |_=>exact absurd (show false=true from hs) Ag
 |d i=>
  obtain⟨t,rfl⟩:=R;cases y with
  |g=>cases N;exact PySem.EqNone.eq_int_none (zj I q (by simp))
  |d j=>obtain⟨t',rfl⟩:=N;exact eq_int (zj I q j7)
  |e j=>obtain⟨t',rfl⟩:=N;exact PySem.EqMixed.eq_int_str (zj I q (by simp))
  |_=>exact absurd (show false=true from hs) Ag
 |e i=>
  obtain⟨t,rfl⟩:=R;cases y with
  |g=>cases N;exact PySem.EqNone.eq_str_none (zj I q (by simp))
  |f j=>cases N;exact PySem.EqMixed.eq_str_bool (zj I q (by simp))
  |d j=>obtain⟨t',rfl⟩:=N;exact PySem.EqMixed.eq_str_int (zj I q (by simp))
  |e j=>obtain⟨t',rfl⟩:=N;exact eq_str (zj I q j8)
  |_=>exact absurd (show false=true from hs) Ag
 |h i=>
  obtain⟨t,rfl⟩:=R;cases y with
  |h j=>obtain⟨t',rfl⟩:=N;exact PySem.W.eq_bytes (zj I q j6)
  |_=>exact absurd (show false=true from hs) Ag
 |_=>cases y<;>exact absurd (show false=true from hs) Ag
def SI:OpR X (BO .NotEq) rNe:=by
 intro pins s σ H x y v u Q I R N h;obtain⟨hs,q⟩:=h;cases x with
 |g=>
  cases R;cases y with
  |g=>cases N;exact PySem.EqNone.ne_none_none (zj I q (by simp))
  |f j=>cases N;exact PySem.EqNone.ne_none_bool (zj I q (by simp))
  |d j=>obtain⟨t',rfl⟩:=N;exact PySem.EqNone.ne_none_int (zj I q (by simp))
  |e j=>obtain⟨t',rfl⟩:=N;exact PySem.EqNone.ne_none_str (zj I q (by simp))
  |_=>exact absurd (show false=true from hs) Ag
 |f i=>
  cases R;cases y with
  |g=>cases N;exact PySem.EqNone.ne_bool_none (zj I q (by simp))
  |f j=>cases N;exact ne_bool (zj I q (congrArg not dI))
  |e j=>obtain⟨t',rfl⟩:=N;exact PySem.EqMixed.ne_bool_str (zj I q (by simp))
  |_=>exact absurd (show false=true from hs) Ag
 |d i=>
  obtain⟨t,rfl⟩:=R;cases y with
  |g=>cases N;exact PySem.EqNone.ne_int_none (zj I q (by simp))
  |d j=>obtain⟨t',rfl⟩:=N;exact ne_int (zj I q (congrArg not j7))
  |e j=>obtain⟨t',rfl⟩:=N;exact PySem.EqMixed.ne_int_str (zj I q (by simp))
  |_=>exact absurd (show false=true from hs) Ag
 |e i=>
  obtain⟨t,rfl⟩:=R;cases y with
  |g=>cases N;exact PySem.EqNone.ne_str_none (zj I q (by simp))
  |f j=>cases N;exact PySem.EqMixed.ne_str_bool (zj I q (by simp))
  |d j=>obtain⟨t',rfl⟩:=N;exact PySem.EqMixed.ne_str_int (zj I q (by simp))
  |e j=>obtain⟨t',rfl⟩:=N;exact ne_str (zj I q (congrArg not j8))
  |_=>exact absurd (show false=true from hs) Ag
 |h i=>
  obtain⟨t,rfl⟩:=R;cases y with
  |h j=>obtain⟨t',rfl⟩:=N;exact PySem.W.ne_bytes (zj I q (congrArg not j6))
  |_=>exact absurd (show false=true from hs) Ag
 |_=>cases y<;>exact absurd (show false=true from hs) Ag
def SH:OpR X (BO .Lt) (rI0 λi j=>.f (decide (i<j))):=YY λ_ _ _ _ _ _ _ q=>lt_int q
def SG:OpR X (BO .LtE) (rI0 λi j=>.f (decide (i<=j))):=YY λ_ _ _ _ _ _ _ q=>le_int q
def SF:OpR X (BO .Gt) (rI0 λi j=>.f (decide (j<i))):=YY λ_ _ _ _ _ _ _ q=>gt_int q
def SE:OpR X (BO .GtE) (rI0 λi j=>.f (decide (j<=i))):=YY λ_ _ _ _ _ _ _ q=>ge_int q
def Yq(S:OpR X (BO op) r)(Y:PE X a ta)(W:PE X b tb)(U:Iu op b=false):PE X (.Compare a [op] [b] pos) (tOp r ta tb):=by intro pins s σ H Q I h;exact wpAny_Compare1 (WQ Y W I h λv u s2 x y H2 I2 R N q=>S pins s2 σ H2 x y v u Q I2 R N q) U
def X5(t:TE):TT:=λσ H Q=>t σ H λx H'=>∃k,x=.f k/\Q k H'
def Y1(N:OpR X (BO op) r)(U:PE X a ta)(S:PE X b tb)(R:Iu op b=false):PT X (.Compare a [op] [b] pos) (X5 (tOp r ta tb)):=by
 intro pins s σ H Q I h;refine wpAny_isTrue_Compare1 (thn (U pins s σ H _ I h) λv s1 ⟨x,H1,I1,r1,q1⟩=>thn (S pins s1 σ H1 _ I1 q1) λu s2 ⟨y,H2,I2,r2,q2⟩=>
  thn (N pins s2 σ H2 x y v u _ I2 r1 r2 q2) λc W ⟨z,H3,I3,r3,k,e,q3⟩=>?_) R
 subst e;cases r3;exact Cw ⟨H3,I3,q3⟩
def ax(r S:R2)(ta tb tc:TE):TE:=λσ H Q=>ta σ H λx H1=>tb σ H1 λy H2=>r x y H2 λz N=>∃k,z=.f k /\
 (if k=true then tc σ N λR U=>S y R U Q else Q (.f false) N)
def bq(W:OpR X (BO op) r)(N:OpR X (BO op') r')(ha:PE X a ta)(hb:PE X b tb)(Z:PE X c tc)
 (Y:IC [op,op'] [b,c]=false:=by with_unfolding_all rfl):PE X (.Compare a [op,op'] [b,c] pos) (ax r r' ta tb tc):=by
 intro pins s σ H Q I h;refine Compare_chain (thn (ha pins s σ H _ I h) λv s1 ⟨x,H1,I1,r1,q1⟩=>chain_link (thn (hb pins s1 σ H1 _ I1 q1) λu s2 ⟨y,H2,I2,r2,q2⟩=>
  thn (W pins s2 σ H2 x y v u _ I2 r1 r2 q2) λd U ⟨z,H3,I3,r3,k,e,q3⟩=>?_)) Y
 subst e;cases r3;refine Cw ?_;cases k with
 |false=>exact ite_ff ⟨.f false,H3,I3,rfl,q3⟩
 |true=>exact ite_tt (chain_last (thn (Z pins U σ H3 _ I3 q3) λR S ⟨z',H4,I4,r4,q4⟩=>N pins S σ H4 y z' u R Q I4 r2 r4 q4))
def aF(ho:OpR X (BO op) r)(N:OpR X (BO op') r')(ha:PE X a ta)(hb:PE X b tb)(hc:PE X c tc)
 (hm:IC [op,op'] [b,c]=false:=by with_unfolding_all rfl):PT X (.Compare a [op,op'] [b,c] pos) (X5 (ax r r' ta tb tc)):=by
 intro pins s σ H Q I h;refine isTrue_chain (thn (ha pins s σ H _ I h) λv s1 ⟨x,H1,I1,r1,q1⟩=>test_link (thn (hb pins s1 σ H1 _ I1 q1) λu s2 ⟨y,H2,I2,r2,q2⟩=>
  thn (ho pins s2 σ H2 x y v u _ I2 r1 r2 q2) λd W ⟨z,H3,I3,r3,k,e,q3⟩=>?_)) hm
 subst e;cases r3;refine Cw ?_;cases k with
 |false=>
  obtain⟨k',e',q'⟩:=q3;cases e';exact ite_ff ⟨H3,I3,q'⟩
 |true=>
  refine ite_tt (test_last (thn (hc pins W σ H3 _ I3 q3) λS U ⟨z',H4,I4,r4,q4⟩=>thn (N pins U σ H4 y z' u S _ I4 r2 r4 q4) λd' s5 R=>?_));obtain⟨z2,H5,I5,Y,k2,e2,Z⟩:=R;subst e2;cases Y;exact Cw ⟨H5,I5,Z⟩
def ZQ(K:AI)(x:V)(H:Hp)(k:Bool):Prop:=
 match x with
 |.g=>k=false
 |.f b=>k=b
 |.d i=>k=(i != 0)
 |.e y=>y.length<=AH/\k=((y.length:Int) != 0)
 |.h y=>y.size<=AH/\k=((y.size:Int) != 0)
 |.c p=>(∃xs,SqL K H p xs/\k=!xs.isEmpty)\/(∃xs,SqT K H p xs/\k=!xs.isEmpty)\/∃N,H p=some (.j N)/\k=!N.isEmpty
 |_=>False
def kF(r:KV kvs vs):(!vs.isEmpty)=!kvs.isEmpty:=by
 cases r<;>rfl
def qA(r:Vals xs its):(!its.toArray.isEmpty)=!xs.isEmpty:=by
 cases r<;>simp
def uV:(AH:Nat)<2 ^ 63:=by rw[A1];decide
def ZC:RZ X (λx H Q=>∃k,ZQ X.K x H k/\Q k H):=by
 intro pins s σ H x v Q I U h;obtain⟨k,e,q⟩:=h;have hl:=uV;have hs:AH=16777216:=A1;cases x with
 |g=>
  cases U;have N:k=false:=e;subst N;exact truthy_none ⟨H,I,q⟩
 |f b=>
  cases U;have N:k=b:=e;subst N;exact Cw ⟨H,I,q⟩
 |d i=>
  obtain⟨t,rfl⟩:=U;have N:k=(i != 0):=e;subst N;exact PySem.P.truthy_int ⟨H,I,q⟩
 |e y=>
  obtain⟨t,rfl⟩:=U;obtain⟨hy,N⟩:y.length<=AH/\k=((y.length:Int) != 0):=e;subst N;exact PySem.P.truthy_str ⋯ ⟨H,I.tok _,q⟩
 |h y=>
  obtain⟨t,rfl⟩:=U;obtain⟨hy,N⟩:y.size<=AH/\k=((y.size:Int) != 0):=e;subst N;exact PySem.W.truthy_bytes ⋯ ⟨H,I.tok _,q⟩
 |c p=>
  cases U;have N:(∃xs,SqL X.K H p xs/\k=!xs.isEmpty)\/(∃xs,SqT X.K H p xs/\k=!xs.isEmpty)\/∃R,H p=some (.j R)/\k=!R.isEmpty:=e;rcases N with⟨xs,hx,N⟩|⟨xs,hx,N⟩|⟨R,hx,N⟩
  . subst N
    obtain⟨its,r,Y,Z⟩:=I.list hx;have S:=r.length;exact wpAny_truthy_list Y.isList (by simp only[Ae];omega) ⟨H,I.tok _,by rw[qA r];exact q⟩
  . subst N
    obtain⟨its,r,Y,Z⟩:=I.tuple hx;have S:=r.length;exact truthy_tuple Y (by simp only[Ae];omega) ⟨H,I.tok _,by rw[qA r];exact q⟩
  . subst N
    obtain⟨Z,hS,vs,r,m⟩:R.length<=AH/\(p == CW)=false/\∃vs,KV R vs/\s.heap.DictOf (oq X.f X.w) p vs:=I.j p _ hx;have S:R.length=vs.length:=Ir r;exact wpAny_truthy_dict hS m ⋯ ⟨H,I.tok _,by rw[kF r];exact q⟩
 |_=>exact(show False from e).elim
def aG(R:PE X a ta)(he:∀N,isTrue a X.a N=(do let v <-N;standAt a.pos;holding [v] (truthy v))) :
 PT X a (λσ H Q=>ta σ H λx H'=>∃k,ZQ X.K x H' k/\Q k H'):=by
 intro pins s σ H Q I h;exact isTrue_plain (thn (R pins s σ H _ I h) λv s1 ⟨x,H1,I1,r1,q1⟩=>ZC pins s1 σ H1 x v Q I1 r1 q1) (he _)
def kY:OpR X (BZ .Add) (λx y H Q=>∃i j,x=.e i/\y=.e j/\i.length+j.length<=AH/\Q (.e (i++j)) H):=by intro pins s σ H x y v u Q I R N h;obtain⟨i,j,rfl,rfl,S,q⟩:=h;obtain⟨t,rfl⟩:=R;obtain⟨t',rfl⟩:=N;exact add_str (λt' tk=>⟨.e (i++j),H,I.tok _,⟨_,rfl⟩,q⟩) S
def vals1(r:Vals [x] us):∃u,us=[u]/\RelV x u:=by
 cases r with
 |cons R N=>cases N;exact⟨_,rfl,R⟩
def vals2(r:Vals [x,y] us):∃u N,us=[u,N]/\RelV x u/\RelV y N:=by
 cases r with
 |cons W U=>
  cases U with
  |cons S R=>cases R;exact⟨_,_,rfl,W,S⟩
def gO(N:X.g=true):yN X (.builtin "max") (λxs H Q=>∃i j,xs=[.d i,.d j]/\Q (.d (if j > i then j else i)) H):=by
 intro pins s σ H xs us Q I r h;obtain⟨i,j,rfl,q⟩:=h;obtain⟨u,R,rfl,⟨t,rfl⟩,⟨t',rfl⟩⟩:=vals2 r;refine max_two_ints (I.y.l N) λh' tk k=>⟨_,H,I.kept k,?_,q⟩;by_cases hj:j > i
 . rw[if_pos hj,if_pos hj];exact⟨_,rfl⟩
 . rw[if_neg hj,if_neg hj];exact⟨_,rfl⟩
def gR(N:X.g=true):yN X (.builtin "min") (λxs H Q=>∃i j,xs=[.d i,.d j]/\Q (.d (if j<i then j else i)) H):=by
 intro pins s σ H xs us Q I r h;obtain⟨i,j,rfl,q⟩:=h;obtain⟨u,R,rfl,⟨t,rfl⟩,⟨t',rfl⟩⟩:=vals2 r;refine min_two_ints (I.y.l N) λh' tk k=>⟨_,H,I.kept k,?_,q⟩;by_cases hj:j<i
 . rw[if_pos hj,if_pos hj];exact⟨_,rfl⟩
 . rw[if_neg hj,if_neg hj];exact⟨_,rfl⟩
def pG:yN X (.type "int") (λxs H Q=>(∃i,xs=[.d i]/\Q (.d i) H)\/∃k,xs=[.f k]/\Q (.d (if k then 1 else 0)) H):=by
 intro pins s σ H xs us Q I r h;rcases h with⟨i,rfl,q⟩|⟨k,rfl,q⟩
 . obtain⟨u,rfl,t,rfl⟩:=vals1 r
   exact call_int_int ⟨.d i,H,I,⟨_,rfl⟩,q⟩
 . obtain⟨u,rfl,N⟩:=vals1 r
   cases N;exact call_int_bool ⟨.d (if k then 1 else 0),H,I.tok _,⟨_,rfl⟩,q⟩
def vW:yN X (.builtin "divmod") (λxs H Q=>∃i j,xs=[.d i,.d j]/\WE i j/\∀p,H p=none->Q (.c p) (upd H p (.c [.d (i/j),.d (i%j)]))):=by
 intro pins s σ H xs us Q I r h;obtain⟨i,j,rfl,⟨U,S⟩,q⟩:=h;obtain⟨u,R,rfl,⟨t,rfl⟩,⟨t',rfl⟩⟩:=vals2 r;refine divmod_int ⋯ ?_ (.inl (FD ⋯))
 rw[EK i ⋯,EL i ⋯]
 have N:H s.heap.objs.size=none:=I.j.fresh (Ac _);refine⟨.c s.heap.objs.size,_,?_,rfl,q _ N⟩;refine I.laid (λb o e=>xd _ e) (Ac _) ⟨by simp only[Aj,BW];rw[A1];decide,[.int (i/j) s.toks,.int (i%j) (s.toks+1)],.cons ⟨_,rfl⟩ (.cons ⟨_,rfl⟩ .nil),?_⟩
 exact⟨_,AA s.heap rfl,rfl,0,rfl,rfl⟩
end
structure WH(h:Heap)(x dx C:Addr)(mA:Str->Option Value):Prop where
 a:h.get? x=some (HJ C dx)
 ns:h.Ns1 dx mA
 ne:dx≠x
def fD{h:Heap}(n:h.Ns1 dx mA):∃od,h.get? dx=some od/\∀name,HY name od=some (mA name):=by
 obtain⟨o,es,ep,S,hd,hk,_,U⟩:=n;refine⟨o,S,λname=>?_⟩;have e:=U name;unfold nsFind findBy at e;rw[<-Array.find?_toList]at e;unfold HY;rw[hd];dsimp only;split
 . rename_i y q
   rw[q]at e;exact congrArg some e
 . rename_i q
   rw[q]at e;have a:es.toList.any (·.refKey)=false:=by rw[List.any_eq_false];intro y R;obtain⟨z,t,N⟩:=hk y (F6.mp R);simp[DictEntry.refKey,N]
   have W:¬es.toList.any (·.refKey)=true:=by rw[a];exact Ag
   rw[if_neg W];exact congrArg some e
def WH.look(I:WH h x dx C mA):∃od,PySem.W.InstAt h x (HJ C dx) C (some od)/\∀name,HY name od=some (mA name):=
 let ⟨od,N,R⟩:=fD I.ns
 ⟨od,⟨I.a,rfl,rfl,N⟩,R⟩
def rC(N:HOk P w H h)(e:H a=some (.l C dx fs)):∃mA,WH h a dx C mA/\(∀f,WI (fs.lookup f) (mA f))/\PySem.Within mA (fs.map (·.1))/\fs.length<=1000/\H dx=some (.e a):=by obtain⟨d,z,ne,R,mA,n,r,q⟩:=(show z8 P w H h a (.l C dx fs) from N a _ e);exact⟨mA,⟨R,n,ne⟩,r,q,z,d⟩
structure Cls(K:AI)(C:Addr):Prop where
 pg:PySem.W.plainGet K C Str.empty=true
 hd:PySem.W.hasDictIn K C=true
 po:PySem.W.plainOver K C=true
 sa:PySem.W.findIn K (.ref C) "__setattr__"=some (some (.builtin "object.__setattr__"))
def Cls.get{K}(c:Cls K C)f:PySem.W.plainGet K C f=true:=c.pg
section
variable {X:Cx}{pins:List (Addr × Obj)}{σ:St}{H:Hp}{s:Shared}{A:Around}{E:Value->Shared->Prop}{Q:Value->Shared->Prop}{c:Value}{b:Bool}
inductive uh(K:AI)(H:Hp):V->Value->Prop where
 |d:uh K H .g (.type "NoneType")
 |bl (x:Bool):uh K H (.f x) (.type "bool")
 |c (i:Int):uh K H (.d i) (.type "int")
 |f (x:Str):uh K H (.e x) (.type "str")
 |h (x:UInt64):uh K H (.j x) (.type "float")
 |b {a:Addr} {xs:List V} (e:H a=some (.b xs)):uh K H (.c a) (.type "list")
 |j {a:Addr} {o:Obj} {xs:List V} (e:H a=some (.g o (.b xs))):uh K H (.c a) (.type "list")
 |g {a:Addr} {xs:List V} (e:H a=some (.c xs)):uh K H (.c a) (.type "tuple")
 |dK {a:Addr} {kvs:List (Key × V)} (e:H a=some (.j kvs)):uh K H (.c a) (.type "dict")
 |dT {a:Addr} {kvs:List (List Key × V)} (e:H a=some (.k kvs)):uh K H (.c a) (.type "dict")
 |k {a C dx:Addr} {fs:List (Str × V)} (e:H a=some (.l C dx fs)) (cl:Cls K C) (ha:PySem.W.findIn K (.ref C) "__class__"=some (some (.builtin "object.__class__")))
  (hn:PySem.W.specialIn K (.builtin "object.__class__") "__get__"=some (some (.builtin "getset_descriptor.__get__"))) (htk:PySem.W.takesIn K (.builtin "object.__class__")=some true)
  (hm:PySem.W.mroIn K C (.type "object")=some true):uh K H (.c a) (.ref C)
def gn(I:Inv X pins σ H s)(N:RelV x u)(ty:uh X.K H x t)(e:HZ X.K t c=some b)(h:∀tk,Q (.bool b) {s with toks:=tk}) :
 wpAny (model X.f X.w) A (call (.builtin "isinstance") [u,c]) Q E s:=by
 cases ty with
 |d=>cases (show u=Ad from N);exact Cb PySem.W.kitx_none I.kIn Bw e (λz=>nomatch z) h
 |bl y=>cases (show u=DZ y from N);exact Cb PySem.W.kitx_bool I.kIn Bw e (λz=>nomatch z) h
 |c i=>obtain⟨t,q⟩:=(show ∃t,u=De i t from N);cases q;exact Cb PySem.W.kitx_int I.kIn Bw e (λz=>nomatch z) h
 |f y=>obtain⟨t,q⟩:=(show ∃t,u=HI y t from N);cases q;exact Cb PySem.W.kitx_str I.kIn Bw e (λz=>nomatch z) h
 |h y=>obtain⟨t,q⟩:=(show ∃t,u=Value.float y t from N);cases q;exact Cb PySem.W.kitx_float I.kIn Bw e (λz=>nomatch z) h
 |@b a xs R=>
  cases (show u=Bp a from N);obtain⟨_,_,n,_,S⟩:=(show z8 X.f X.w H s.heap a (.b xs) from I.j a _ R);exact Cb PySem.W.kitx_list I.kIn ⟨_,S,rfl⟩ e (λz=>nomatch z) h
 |@j a ob xs R=>
  cases (show u=Bp a from N);obtain⟨_,_,_,n,_,S⟩:=(show z8 X.f X.w H s.heap a (.g ob (.b xs)) from I.j a _ R);exact Cb PySem.W.kitx_list I.kIn ⟨_,S,rfl⟩ e (λz=>nomatch z) h
 |@g a xs R=>
  cases (show u=Bp a from N);obtain⟨_,_,_,p⟩:=(show z8 X.f X.w H s.heap a (.c xs) from I.j a _ R);obtain⟨o,S,Y,_⟩:=p;exact Cb PySem.W.kitx_tuple I.kIn ⟨o,S,Y⟩ e (λz=>nomatch z) h
 |@dK a U R=>
  cases (show u=Bp a from N);obtain⟨_,_,vs,_,p⟩:=(show z8 X.f X.w H s.heap a (.j U) from I.j a _ R);obtain⟨o,es,ep,S,Y,_⟩:=p;exact Cb PySem.W.kitx_dict I.kIn ⟨o,S,Y.1⟩ e (λz=>nomatch z) h
 |@dT a U R=>
  cases (show u=Bp a from N);obtain⟨_,_,xs,_,o,es,ep,S,Y,_⟩:=(show z8 X.f X.w H s.heap a (.k U) from I.j a _ R);exact Cb PySem.W.kitx_dict I.kIn ⟨o,S,Y.1⟩ e (λz=>nomatch z) h
 |@k a C dx fs R cl ha hn Z hm=>
  cases (show u=Bp a from N);obtain⟨mA,O,_⟩:=rC I.j R;obtain⟨od,J,_⟩:=O.look;exact Cb (PySem.W.kitx_own (cl.get _) cl.hd ha hn Z hm) I.kIn J e (λz=>nomatch z) h
end
structure xB(k:Nat)(A:Around):Prop where
 hd:A.handled=none
 dp:A.depth+3*k+5<recursionLimit
 a:A.units+16*k+200<cLine
 gd:A.guards=some []
theorem xB.deeper(r:xB (k+1) A)env:xB k (A.deeper env):=
 ⟨r.hd,by have:=r.dp;show A.depth+1+3*k+5<_;omega,by have:=r.a;show A.units+3+16*k+200<_;omega,r.gd⟩
theorem xB.depth(r:xB k A):A.depth<recursionLimit:=by have:=r.dp;omega
def ay:TA:=λ_ H Q=>Q [] H
def lR(ta:TE)(N:TA):TA:=λσ H Q=>ta σ H λx H1=>N σ H1 λxs H2=>Q (x::xs) H2
section
variable {X:Cx}{e:Expr}{es:List Expr}{te:TE}{t:TA}{pos:Pos}
def vH:PA X [] ay:=λ_ _ _ _ H Q I h=>Calls.spliced_nil ⟨[],H,I,.nil,h⟩
def Ym(W:PE X e te)(U:PA X es t)(hs:Be (e::es) X.a=(false,eval e X.a)::Be es X.a:=by rfl):PA X (e::es) (lR te t):=by intro pos pins s σ H Q I h;rw[hs];show wpAny _ _ (spliced ((false,eval e X.a)::backTo pos (Be es X.a))) _ _ s;refine Calls.spliced_cons (thn (W pins s σ H _ I h) λu s1 N=>?_);obtain⟨x,H1,I1,R,S⟩:=N;exact thn (U pos pins s1 σ H1 _ I1 S) λus s2 ⟨xs,H2,I2,r2,q2⟩=>⟨x::xs,H2,I2,.cons R r2,q2⟩
def QK(t:TA):TE:=λσ H Q=>t σ H λxs H1=>xs.length<=AH/\∀p,H1 p=none->Q (.c p) (upd H1 p (.c xs))
def QF(t:TA):TE:=λσ H Q=>t σ H λxs H1=>xs.length<=AH/\∀p,H1 p=none->Q (.c p) (upd H1 p (.b xs))
def UG{x1}(h:PA X es t):PE X (.Tuple es x1 pos) (QK t):=by
 intro pins s σ H Q I N;refine wpAny_Tuple_spliced (thn (h pos pins s σ H _ I N) λus s1 ⟨xs,H1,I1,r,z,q⟩=>⟨by rw[<-r.length];exact z,?_⟩)
 have R:H1 s1.heap.objs.size=none:=I1.j.fresh (Ac _);refine⟨.c s1.heap.objs.size,upd H1 s1.heap.objs.size (.c xs),I1.laid (t':=s1.toks) (λb u e=>xd _ e) (Ac _) ?_,rfl,q _ R⟩;exact⟨z,us,r,⟨_,AA _ rfl,rfl,_,rfl,rfl⟩⟩
def UA(h:PA X es t):PE X (.List es pos) (QF t):=by
 intro pins s σ H Q I N;refine wpAny_List_spliced (thn (h pos pins s σ H _ I N) λus s1 ⟨xs,H1,I1,r,z,q⟩=>⟨by rw[<-r.length];exact z,?_⟩)
 have R:H1 s1.heap.objs.size=none:=I1.j.fresh (Ac _);refine⟨.c s1.heap.objs.size,upd H1 s1.heap.objs.size (.b xs),I1.laid (t':=s1.toks) (λb u e=>xd _ e) (Ac _) ?_,rfl,q _ R⟩;exact⟨z,us,0,r,AA _ rfl⟩
end
abbrev Sp:=List V->Hp->VK->XK->Prop
abbrev CXT:=List Env->Hp->Shared->XK->Value->Shared->Prop
structure ZP(P:Program)(w:World)(K:AI)(mg:Str->Option Value)(base:Heap)(A:Around)(outer:List Env)(s:Shared)(H:Hp):Prop where
 a:A.frames=some outer
 d:Mod K mg base
 f:∀b o,base.get? b=some o->s.heap.get? b=some o/\H b=none
 g:base.objs.size<=s.heap.objs.size
 rq:s.heap.FunFrames base outer
 h:∀b∈frs outer,H b=none
 c:HOk P w H s.heap
 e:AllBare s.gens
def CE(outer:List Env)(P:Program)(w:World)(H:Hp)(s:Shared)(Q:VK)(u:Value)(s':Shared):Prop:=
 ∃v H',s'.os=s.os/\AllBare s'.gens/\Un (frs outer) [] H H' s.heap s'.heap/\HOk P w H' s'.heap/\RelV v u/\Q v H'
def CR(CX:CXT)(outer:List Env)(P:Program)(w:World)(H:Hp)(s:Shared)(Q:VK)(E:XK)(r:Result)(s':Shared):Prop:=
 match r with
 |.ok (.ret u)=>CE outer P w H s Q u s'
 |.ok _=>False
 |.error e=>CX outer H s E e s'
structure rN(P:Program)(w:World)(K:AI)(mg:Str->Option Value)(base:Heap)(CX:CXT)(k:Nat)(f:Addr)(fd:Ec)(ps:List Str)(sp:Sp):Prop where
 b:∀vs H Q E,sp vs H Q E->vs.length=ps.length
 a:∀(A:Around) (outer:List Env) (s:Shared) (H:Hp) (args:Args) (us:List Value) (vs:List V) (Q:VK) (E:XK),xB k A->ZP P w K mg base A outer s H->BindsTo s fd args (ps.zip us)->Vals vs us->sp vs H Q E ->
  codeAny (model P w) A (.call (.ref f) args) (CR CX outer P w H s Q E) s
def rN.imp{K}(F:rN P w K mg base CX k f fd ps sp)
 (h:∀vs H Q E,sp' vs H Q E->sp vs H Q E):rN P w K mg base CX k f fd ps sp':=
 ⟨λvs H Q E q=>F.b vs H Q E (h _ _ _ _ q),λA outer s H args us vs Q E R he S N hs=>F.a A outer s H args us vs Q E R he S N (h _ _ _ _ hs)⟩
def Inv.Rk(I:Inv X pins σ H s):ZP X.f X.w X.K X.d X.i X.A X.j s H:=
 ⟨I.y.m,I.y.u,I.bs,Ao I.y.B I.sz,I.stack,I.gG,I.j,I.G⟩
def Inv.after(I:Inv X pins σ H s)(h:CE X.j X.f X.w H s Q u s'):EP X pins σ Q u s':=by obtain⟨v,H',os,bare,un,R,r,q⟩:=h;obtain⟨S,g,d,t,N⟩:=s';obtain rfl:N=s.os:=os;exact⟨v,H',I.call (h':=S) (g':=g) (d':=d) (t':=t) (ch:=[]) un R bare (λb z=>absurd z (by simp)),r,q⟩
def X2(sp:Sp)(N:List V)(E:XK)(t:TA):TE:=λσ H Q=>t σ H λvs H1=>sp (vs++N) H1 Q E
def Binds(K:AI)(fd:Ec)(ps:List Str)(ds:List Value):Prop:=
 ∀(s:Shared) (us:List Value),K.In s.heap->(us++ds).length=ps.length->BindsTo s fd ⟨us,[]⟩ (ps.zip (us++ds))
def Binds.all{K}(h:∀us:List Value,us.length=ps.length->bindArgs fd ⟨us,[]⟩=pure (ps.zip us)):Binds K fd ps []:=λs us _ N=>by rw[AR]at N ⊢;exact .of_eq (h us N)
def Passes(CX:CXT)(X:Cx)(E:XK):Prop:=∀(pins:List (Addr × Obj)) (σ:St) (H:Hp) (s:Shared) (e:Value) (s':Shared),Inv X pins σ H s->CX X.j H s E e s'->X.h e s'
def aS(F:rN X.f X.w X.K X.d X.i CX k f fd ps sp)(S:xB k X.A)(W:Binds X.K fd ps ds)(hd:Vals dvs ds)(hx:Passes CX X E)
 (I:Inv X pins σ H s) (r:Vals vs us) (h:sp (vs++dvs) H Q E):wpAny (model X.f X.w) X.A (call (.ref f) us) (EP X pins σ Q) X.h s:=by
 have R:Vals (vs++dvs) (us++ds):=r.append hd;have U:(us++ds).length=ps.length:=by rw[<-R.length];exact F.b _ _ _ _ h
 refine wpAny_call (F7 (F.a X.A X.j s H ⟨us,[]⟩ (us++ds) (vs++dvs) Q E S I.Rk (W s us I.kIn U) R h) λr s' N=>?_);cases r with
 |error e=>exact hx pins σ H s e s' I N
 |ok fl=>
  cases fl with
  |ret u=>exact I.after N
  |next=>exact Dn N
  |brk=>exact Dn N
  |cont=>exact Dn N
def Yp(F:rN X.f X.w X.K X.d X.i CX k f fd ps sp)(S:xB k X.A)(Y:Gl X x)(U:X.d x=some (.ref f))(hk:Dj X.K (.ref f)=true)(Z:Binds X.K fd ps ds)(hd:Vals dvs ds)(hx:Passes CX X E)
 (ha:PA X (e::es) t) (R:(x == ("__debug__":Str))=false:=by decide) (he:Be (e::es) X.a=(false,eval e X.a)::Be es X.a:=by rfl) (N:(backTo pos (Be es X.a)).any (·.1)=false:=by rfl) :
 PE X (.Call (.Name x p) (e::es) [] pos) (X2 sp dvs E t):=by
 intro pins s σ H Q I h;refine D4 (oZ I Y U ?_ R);refine PySem.W.callWith_K (h₀:=X.i) I.y.u.c hk (thn (ha pos pins s σ H _ I h) λus s1 ⟨vs,H1,I1,r,q⟩=>⟨I1.kIn,?_⟩) he N;exact aS F S Z hd hx I1 r q
def bp(F:rN X.f X.w X.K X.d X.i CX k f fd ps sp)(R:xB k X.A)(U:Gl X x)(S:X.d x=some (.ref f))(hk:Dj X.K (.ref f)=true)(Y:Binds X.K fd ps ds)(hd:Vals dvs ds)(hx:Passes CX X E)
 (N:(x == ("__debug__":Str))=false:=by decide):PE X (.Call (.Name x p) [] [] pos) (X2 sp dvs E ay):=by
 intro pins s σ H Q I h;refine D4 (oZ I U S ?_ N);exact PySem.W.callWith_K0 I.kIn hk (aS (us:=[]) F R Y hd hx I .nil h)
structure sm(N P:List Str)(sc:Scope):Prop where
 b:sc.kind=.function
 co:sc.isCoroutine=false
 f:sc.isGenerator=false
 d:N.Nodup
 a:N.take P.length=P
 e:∀x∈P,sc.names.lookup x=some .local\/sc.names.lookup x=some .cell
 c:∀y∈sc.names,y.2≠.free
theorem pF{kindOf}:∀{binds} {m},(∀v,(x,v) ∉ binds)->bindL kindOf binds m x=m x
 |[],_,_=>rfl
 |(n,v)::r,m,h=>by
  unfold bindL;rw[pF λw hw=>h w (Ay _ hw)];split
  . have:x≠n:=by rintro rfl;exact h v AE
    simp[this]
  . rfl
theorem pD{kindOf}:∀{binds} {m},(∀v,(x,v) ∉ binds)->bindC kindOf binds m x=m x
 |[],_,_=>rfl
 |(n,v)::r,m,h=>by
  unfold bindC;rw[pD λw hw=>h w (Ay _ hw)];split
  . rfl
  . have:x≠n:=by rintro rfl;exact h v AE
    simp[this]
theorem pE{kindOf}:∀{P:List Str} {vs} {i:Nat} {m},P.Nodup->P[i]?=some x->vs[i]?=some v->kindOf x=some .local ->
 bindL kindOf (P.zip vs) m x=some v
 |[],_,_,_,_,h,_,_=>by simp at h
 |_::_,[],_,_,_,_,h,_=>by simp at h
 |p::P,w::vs,0,m,nd,h1,h2,hk=>by
  simp at h1 h2;subst h1;subst h2;show bindL kindOf ((p,w)::P.zip vs) m p=_;unfold bindL;rw[pF λv N=>(Bb.mp nd).1 (HK N).1,if_pos hk];simp
 |p::P,w::vs,i+1,m,nd,h1,h2,hk=>by show bindL kindOf ((p,w)::P.zip vs) m x=_;unfold bindL;exact pE (i:=i) (Bb.mp nd).2 (by simpa using h1) (by simpa using h2) hk
theorem pC{kindOf}:∀{P:List Str} {vs} {i:Nat} {m},P.Nodup->P[i]?=some x->vs[i]?=some v->kindOf x≠some .local ->
 bindC kindOf (P.zip vs) m x=some v
 |[],_,_,_,_,h,_,_=>by simp at h
 |_::_,[],_,_,_,_,h,_=>by simp at h
 |p::P,w::vs,0,m,nd,h1,h2,hk=>by
  simp at h1 h2;subst h1;subst h2;show bindC kindOf ((p,w)::P.zip vs) m p=_;unfold bindC;rw[pD λv N=>(Bb.mp nd).1 (HK N).1,if_neg hk];simp
 |p::P,w::vs,i+1,m,nd,h1,h2,hk=>by show bindC kindOf ((p,w)::P.zip vs) m x=_;unfold bindC;exact pC (i:=i) (Bb.mp nd).2 (by simpa using h1) (by simpa using h2) hk
noncomputable def start(N:List Str)(vs:List V):St:=vs.map some++AU (N.length-vs.length) none
noncomputable def gX(CX:CXT)(P:Program)(w:World)(K:AI)(mg:Str->Option Value)(base:Heap)(N:List Str)(qual:Str)(scope:Scope)(f:Addr)(S:Value)(A:Around)(outer:List Env)(s:Shared)(H:Hp)(E:XK):Cx where
 f:=P
 w:=w
 K:=K
 d:=mg
 i:=base
 A:=A.deeper (envOfC qual scope s.heap.objs.size f S)
 N:=N
 l:=s
 r:=H
 a:=envOfC qual scope s.heap.objs.size f S
 k:=outer
 j:=envOfC qual scope s.heap.objs.size f S::outer
 n:=[]
 g:=true
 m:=λ_=>true
 q:=[]
 h:=λe s'=>wpAny (model P w) (A.deeper (envOfC qual scope s.heap.objs.size f S)) (leaving (envOfC qual scope s.heap.objs.size f S) e) (λ_ R=>CX outer H s E e R) (λU R=>CX outer H s E U R) s'
def nh{sc:Scope}(h:sc.names.lookup x=some .cell):∃c,(DP n sc.names []).lookup x=some c:=by have q:=PySem.W.cellsFrom_some sc.names n [] (.inl h);exact Option.isSome_iff_exists.mp q
def gj{K}
 (S:sm N ps scope) (hd:A.handled=none) (e0:ZP P w K mg base A outer s H) (hl:vs.length=ps.length) (r:Vals vs us)
 (x:InCallC s s.heap.objs.size (bindL (envOfC qual scope s.heap.objs.size f cd).kindOf (ps.zip us) λ_=>none) (DP (s.heap.objs.size+1) scope.names []) (bindC (envOfC qual scope s.heap.objs.size f cd).kindOf (ps.zip us) λ_=>none) s1) :
 Inv (gX CX P w K mg base N qual scope f cd A outer s H E) [] (start N vs) H s1:=by
 have hpl:ps.length<=N.length:=by have:=congrArg FE S.a;rw[Bz]at this;omega
 obtain⟨Y,tk,rfl,hk⟩:=x.done;have U:∀b:Addr,b ∉ (gX CX P w K mg base N qual scope f cd A outer s H E).n:=λb z=>absurd (show b∈([]:List Addr) from z) (by simp)
 refine⟨⟨e0.d,S.b,rfl,rfl,Ac _,λy z c Y R=>?_,λy W=>?_,λy c _ h=>?_,λ_=>hd,Around.frames_deeper e0.a,.inr ⟨rfl,rfl⟩,λb z=>absurd z (U b),e0.f,e0.g,λb _ _=>U b,λb z=>absurd z (U b),e0.rq,e0.h⟩,
  rfl,e0.e,Un.kept hk,⟨_,x.toInCall.ns,λi y v Y R h3=>?_⟩,λy c h=>⟨_,x.cell y c h⟩,e0.c.fresh (Ac _),λy c h=>?_,λp hp=>absurd (show p∈([]:List (Addr × Obj)) from hp) (by simp),e0.c.kept hk,?_⟩
 . exact name_of_addr x.apart (Dg Y) (Dg R)
 . have W:scope.names.lookup y=some .cell\/scope.names.lookup y=some .free:=W
   rcases W with W|W
   . exact nh W
   . exact absurd rfl (S.c _ (Dg W))
 . exact Ek (x.above y c (Dg h))
 . have hi:i<vs.length:=by
    unfold start at R;by_cases hi:i<vs.length
    . exact hi
    . rw[AX (by simpa using hi)]at R
      rw[HE]at R;split at R<;>cases R
   have ha:vs[i]?=some v:=by
    unfold start at R;rw[AW (by simpa using hi),Am]at R
    cases e:vs[i]? with
    |none=>rw[e]at R;cases R
    |some a=>rw[e]at R;cases R;rfl
   obtain⟨u,hu,Z⟩:=r.get ha;have hp:ps[i]?=some y:=by rw[<-S.a,B7 ⋯];exact Y
   have X:ps.Nodup:=by rw[<-S.a];exact S.d.sublist (C8 _ _)
   refine⟨u,Z,?_⟩;rcases S.e y (AF hp) with k|k
   . exact .inl ⟨k,pE X hp hu k⟩
   . obtain⟨c,e⟩:=nh (n:=s.heap.objs.size+1) k
     refine .inr ⟨.inl k,c,e,?_⟩;have q:=x.cell y c e;rw[pC X hp hu (by show scope.names.lookup y≠_;rw[k];decide)]at q
     exact q
 . exact e0.c.fresh (Ek (x.above y c (Dg h)))
 . unfold start
   show _=N.length;rw[Aq,Aa,En];omega
def TR{K}{dV kV doc pm cdv ct oc}
    (lk:K.lookup f=some ⟨oc,od,.func (CF name qual params body scope dV kV doc pm an cdv ct),osl⟩) (hcd:Di K cdv qual=true) (S:sm N ps scope)
 (Z:∀vs H Q E,sp vs H Q E->vs.length=ps.length)
 (Y:∀A outer s H vs Q E,xB k (A.deeper (envOfC qual scope s.heap.objs.size f cdv))->sp vs H Q E ->
  ∃t,PSs (gX CX P w K mg base N qual scope f cdv A outer s H E) body t/\t {a:=λ_ H'=>Q .g H',d:=Q} (start N vs) H) :
 rN P w K mg base CX (k+1) f (CF name qual params body scope dV kV doc pm an cdv ct) ps sp:=by
 refine⟨Z,λA outer s H args us vs Q E hr e0 hb r hsp=>?_⟩;have hl:=Z _ _ _ _ hsp;have KX:K.In s.heap:=e0.d.c.keeps λb o e=>(e0.f b o e).1;have lim:s.heap.NoLimit:=e0.d.b.keeps λb o e=>(e0.f b o e).1;have X:∀y∈ps.zip us,scope.names.lookup y.1=some .local\/(scope.names.lookup y.1=some .cell/\((DP (s.heap.objs.size+1) scope.names []).lookup y.1).isSome=true):=λ⟨n,v⟩ hy=>by
  rcases S.e n (HK hy).1 with q|q
  . exact .inl q
  . exact .inr ⟨q,PySem.W.cellsFrom_some _ _ _ (.inl q)⟩
 refine codeAny_call_function hr.depth (KX _ _ lk) rfl S.co S.f rfl (PySem.W.codeRec_of KX hcd) (hb _ _ _ _ ?_);refine wpAny_newFunctionEnv_cells S.b X λenv he s1 x=>?_;subst he;refine⟨lim.keeps x.toInCall.keep,codeAny_func ?_⟩;obtain⟨t,ht,hq⟩:=Y A outer s H vs Q E (hr.deeper _) hsp;have I:Inv (gX CX P w K mg base N qual scope f cdv A outer s H E) [] (start N vs) H s1:=gj S hr.hd e0 hl r x;refine BU (ht [] s1 (start N vs) H _ I hq) (λfl s' hs=>?_) λe s' hs=>hs;have fin:∀{U:St} {H':Hp} {v:V} {u:Value},Inv (gX CX P w K mg base N qual scope f cdv A outer s H E) [] U H' s'->RelV v u->Q v H'->CE outer P w H s Q u s':=
  λ{U H' v u} J rv q=>⟨v,H',J.R,J.G,J.B,J.j,rv,q⟩
 cases fl with
 |ret u=>
  obtain⟨v,U,H',J,rv,q⟩:=hs;exact fin J rv q
 |next=>
  obtain⟨U,H',J,q⟩:=hs;exact fin (v:=V.g) (u:=Ad) J rfl q
 |brk=>
  obtain⟨_,_,_,q⟩:=hs;exact Dn q
 |cont=>
  obtain⟨_,_,_,q⟩:=hs;exact Dn q
section
variable {X:Cx}{x:Str}{p pos:Pos}{e:Expr}{es:List Expr}{t:TA}{id T:String}{r:List V->Hp->VK->Prop}
def tCB(r:List V->Hp->VK->Prop)(t:TA):TE:=λσ H Q=>t σ H λvs H1=>r vs H1 Q
def mn(Z:yN X (.builtin id) r)(Y:Gl X x)(W:X.d x=none)(S:Dq x=some (.builtin id))(ha:PA X (e::es) t)(U:x≠"__name__":=by decide)(R:(x == ("__debug__":Str))=false:=by decide)
 (he:Be (e::es) X.a=(false,eval e X.a)::Be es X.a:=by rfl) (N:(backTo pos (Be es X.a)).any (·.1)=false:=by rfl):PE X (.Call (.Name x p) (e::es) [] pos) (tCB r t):=by
 intro pins s σ H Q I h;refine D4 (uU I Y W S ?_ U R);exact PyProof.Rows.callWith_builtin1 (thn (ha pos pins s σ H _ I h) λus s1 ⟨vs,H1,I1,r1,q1⟩=>Z pins s1 σ H1 vs us Q I1 r1 q1) he N
def wu(Z:yN X (.type T) r)(Y:Gl X x)(W:X.d x=none)(S:Dq x=some (.type T))(ha:PA X (e::es) t)(U:x≠"__name__":=by decide)(R:(x == ("__debug__":Str))=false:=by decide)
 (he:Be (e::es) X.a=(false,eval e X.a)::Be es X.a:=by rfl) (N:(backTo pos (Be es X.a)).any (·.1)=false:=by rfl):PE X (.Call (.Name x p) (e::es) [] pos) (tCB r t):=by
 intro pins s σ H Q I h;refine D4 (uU I Y W S ?_ U R);exact Cz (thn (ha pos pins s σ H _ I h) λus s1 ⟨vs,H1,I1,r1,q1⟩=>Z pins s1 σ H1 vs us Q I1 r1 q1) he N
end
end L2
namespace HT
open PySem PyProof.Rows
section
variable {prog:Program}{w:World}{A:Around}{E:Value->Shared->Prop}{s:Shared}
def ZY(ht:IsTup s.heap t vs.toArray)(hb:IsTup s.heap b ws.toArray)(hv:vs≠[])
 (h1:ws=[]->Q (.ref t) s) (h2:ws≠[]->Q (.ref s.heap.objs.size) {s with heap:=s.heap.push {cls:=.type "tuple",data:=.seq (vs++ws).toArray}})
 (Y:vs.length+ws.length<=AH):wpAny (model prog w) A (BZ .Add (.ref t) (.ref b)) Q E s:=by
 obtain⟨⟨cls,dd,data,sl⟩,X,hc,n,hd⟩:=id ht;obtain⟨⟨cls2,W,Z,R⟩,N,U,n2,S⟩:=id hb;simp only at hc hd U S;subst hc hd U S;have e:vs.toArray++ws.toArray=(vs++ws).toArray:=by simp
 by_cases hw:ws=[]
 . exact concat_meets ⟨_,X,rfl⟩ ⟨_,N,rfl⟩ FQ GQ CH Cv (Co _ _)
    (tuple_addW1 t b vs.toArray ws.toArray n n2 dd W sl R (by simpa using hv) (by simp[hw])) ⟨X,N,h1 hw⟩
 . refine concat_meets ⟨_,X,rfl⟩ ⟨_,N,rfl⟩ FQ GQ CH Cv (Co _ _)
    (tuple_addW2 t b vs.toArray ws.toArray n n2 dd W sl R (by simpa using hv) (by simpa using hw) (by rw[Ae,Ae];exact Y)) ⟨X,N,?_⟩
   rw[e];exact h2 hw
noncomputable def sIx(n d:Nat):Option Int->Nat
 |none=>d
 |some v=>if v<0 then (v+(n:Int)).toNat else min v.toNat n
def UQ n d(hd:d<=n)o:sIx n d o<=n:=by
 cases o with
 |none=>exact hd
 |some v=>
  show (if v<0 then (v+(n:Int)).toNat else min v.toNat n)<=n
  by_cases hv:v<0
  . rw[if_pos hv];omega
  . rw[if_neg hv];exact Ez _ _
def j5 v(n d:Nat):(if v<0 then max (v+(n:Int)) 0 else min v (n:Int))=((sIx n d (some v):Nat):Int):=by
 show (if v<0 then max (v+(n:Int)) 0 else min v (n:Int))=(((if v<0 then (v+(n:Int)).toNat else min v.toNat n):Nat):Int)
 by_cases hv:v<0
 . simp only[if_pos hv];omega
 . simp only[if_neg hv];omega
def lZ lo hi(n:Nat):Bi lo hi 1 (n:Int)=(((sIx n 0 lo:Nat):Int),((sIx n n hi:Nat):Int)):=by
 have N:¬((1:Int)<0):=by omega
 unfold Bi;simp only[N,if_false];refine Fc ?_ ?_
 . cases lo with
   |none=>rfl
   |some v=>exact j5 v n 0
 . cases hi with
   |none=>rfl
   |some v=>exact j5 v n n
def ky(i j:Nat):B2 (i:Int) (j:Int) 1=j-i:=by
 unfold B2;have N:(1:Int) > 0:=by omega
 simp only[N,if_true,Int.ediv_one];split<;>omega
def wC(p:IsPart v o)(h:Q o s):wpAny (model prog w) A (Builtin.Slice.slicePartIndex v) Q E s:=by
 cases p with
 |none=>exact slicePart_none h
 |int i t=>exact slicePart_int h
def wz{lo hi}{n:Nat}(hs:s.heap.IsSliceOf sl vl vu .none)(U:IsPart vl lo)(S:IsPart vu hi)
 (h:Q (((sIx n 0 lo:Nat):Int),1,sIx n n hi-sIx n 0 lo) s):wpAny (model prog w) A (Dy (.ref sl) (pure (n:Int))) Q E s:=by
 obtain⟨os,N,W,R⟩:=id hs;unfold Dy Hb;refine dm (dm (Cg N R (x:=vl) rfl (dm (Cg N R (x:=vu) rfl (dm (Cg N R (x:=.none) rfl (zO ?_)))))));refine dm (slicePart_none ?_);show wpAny _ _ (if ((1:Int) == 0)=true then _ else _) _ _ s
 rw[if_neg (by decide)]
 refine dm (wC U (dm (wC S (dm (zO ?_)))));show wpAny _ _ (match Bi lo hi 1 (n:Int) with|(lo,hi)=>pure (lo,(1:Int),B2 lo hi 1)) _ _ s
 rw[lZ lo hi n];show wpAny _ _ (pure (((sIx n 0 lo:Nat):Int),(1:Int),B2 ((sIx n 0 lo:Nat):Int) ((sIx n n hi:Nat):Int) 1)) _ _ s;rw[ky];exact zO h
def b5(xs:Array Value)(i k:Nat):((Ah k).filterMap λ(m:Nat)=>xs[((i:Int)+(m:Int)*1).toNat]?).toArray=((xs.toList.drop i).take k).toArray:=by
 have e:(λ(m:Nat)=>xs[((i:Int)+(m:Int)*1).toNat]?)=λm=>xs[i+m]?:=by
  funext m;have:((i:Int)+(m:Int)*1).toNat=i+m:=by omega
  rw[this]
 rw[e];have:=pick_run xs i k;rw[CO]at this;have N:((λx=>xs[x]?)∘λx=>i+x)=λm=>xs[i+m]?:=rfl;rw[N]at this;rw[this]
def ux{lo hi}(R:IsTup s.heap t items)(hs:s.heap.IsSliceOf sl vl vu .none)(Z:IsPart vl lo)(Y:IsPart vu hi)
 (hw:¬(sIx items.size 0 lo=0/\sIx items.size items.size hi=items.size))
 (h:Q (.ref s.heap.objs.size) {s with heap:=s.heap.push {cls:=.type "tuple",data:=.seq ((items.toList.drop (sIx items.size 0 lo)).take (sIx items.size items.size hi-sIx items.size 0 lo)).toArray}})
 (hsz:items.size<=AH):wpAny (model prog w) A (getItem (.ref t) (.ref sl)) Q E s:=by
 have N:sizeOk (.seq ((items.toList.drop (sIx items.size 0 lo)).take (sIx items.size items.size hi-sIx items.size 0 lo)).toArray):=by show ((items.toList.drop (sIx items.size 0 lo)).take (sIx items.size items.size hi-sIx items.size 0 lo)).toArray.size<=AH;rw[Ae,Bz,B0,Aw];omega
 have hj:sIx items.size items.size hi<=items.size:=UQ _ _ (Ac _) hi;obtain⟨os,S,W,hds⟩:=id hs;have X:s.TypeIs (.ref sl) "slice":=⟨os,S,W⟩;unfold getItem
 try with_reducible refine A6 ?_
 first|refine dm (zO ?_)|skip
 refine dm (G2 R.typeIs (by decide) ?_)
 refine dm (Cd (name:=DU "__getitem__") R.typeIs Bg
  (BA Bg R.typeIs Gp ?_ (GG _ _)))
 show wpAny _ _ (EM (.ref t) >>= _) _ _ s;refine dm (FN R ?_);refine dm (DV X ?_);rw[if_pos (by decide)]
 refine dm (wz hs Z Y ?_);have U:¬((((sIx items.size 0 lo:Nat):Int) == 0&&(1:Int) == 1&&(sIx items.size items.size hi-sIx items.size 0 lo) == items.size)=true):=by intro q;rw[ub,ub]at q;have q1:((sIx items.size 0 lo:Nat):Int)=0:=CA q.1.1;have q2:sIx items.size items.size hi-sIx items.size 0 lo=items.size:=CA q.2;exact hw ⟨⋯,⋯⟩
 show wpAny _ _ (if (((sIx items.size 0 lo:Nat):Int) == 0&&(1:Int) == 1&&(sIx items.size items.size hi-sIx items.size 0 lo) == items.size)=true then _ else _) _ _ s
 rw[if_neg U,b5]
 first
  |exact dm (m:=BL _) (Bm (zO ⟨_,rfl,zO h⟩) N)
  |exact dm (m:=BL _) (Bm (dm (zO (zO ⟨_,rfl,zO h⟩))) N)
  |exact dm (dm (m:=BL _) (Bm (zO (zO ⟨_,rfl,zO h⟩)) N))
  |exact dm (dm (m:=BL _) (Bm (zO ⟨_,rfl,zO h⟩) N))
end
end HT
namespace L2
open PySem PySem.Spec PyProof.Rows
abbrev TO:=St->Hp->(Option Int->Hp->Prop)->Prop
def PO(X:Cx)(e:Option Expr)(t:TO):Prop:=
 ∀(pins:List (Addr × Obj)) (s:Shared) (σ:St) (H:Hp) (Q:Option Int->Hp->Prop),Inv X pins σ H s->t σ H Q ->
  wpAny (model X.f X.w) X.A (evalPart e X.a) (λu s'=>∃o H',Inv X pins σ H' s'/\IsPart u o/\Q o H') X.h s
def XG:TO:=λ_ H Q=>Q none H
def RM(t:TE):TO:=λσ H Q=>t σ H λx H1=>∃i,x=.d i/\Q (some i) H1
section
variable {X:Cx}{e:Expr}{te:TE}{lo hi:Option Expr}{tl th:TO}{pos p2:Pos}
def Yv:PO X none XG:=by intro pins s σ H Q I h;rw[evalPart_none];exact zO ⟨none,H,I,.none,h⟩
def Yw(h:PE X e te):PO X (some e) (RM te):=by intro pins s σ H Q I hw;rw[evalPart_some];refine thn (h pins s σ H _ I hw) λu s1 N=>?_;obtain⟨x,H1,I1,R,S⟩:=N;obtain⟨i,rfl,q⟩:=S;obtain⟨t,rfl⟩:=R;exact⟨some i,H1,I1,.int i t,q⟩
def SlR(X:Cx)(r:V->Option Int->Option Int->Hp->VK->Prop):Prop:=
 ∀(pins:List (Addr × Obj)) (s:Shared) (σ:St) (H:Hp) (x:V) (v R N:Value) (lo hi:Option Int) (S:Addr) (Q:VK),Inv X pins σ H s->RelV x v->s.heap.IsSliceOf S R N .none->IsPart R lo->IsPart N hi->r x lo hi H Q ->
  ∃T id,typeLookup (.type T) "__getitem__"=pure (some (.builtin id))/\s.TypeIs v T/\wpAny (model X.f X.w) X.A (getItem v (.ref S)) (EP X pins σ Q) X.h s
def tSl(r:V->Option Int->Option Int->Hp->VK->Prop)(te:TE)(tl th:TO):TE:=λσ H Q=>te σ H λx H1=>tl σ H1 λl H2=>th σ H2 λu N=>r x l u N Q
def bu(hr:SlR X r)(he:PE X e te)(hl:PO X lo tl)(hu:PO X hi th):PE X (.Subscript e (.Slice lo hi none p2) pos) (tSl r te tl th):=by
 intro pins s σ H Q I h;refine Ik (thn (he pins s σ H _ I h) λv s1 U=>?_);obtain⟨x,H1,I1,Y,q1⟩:=U;refine wpAny_Slice (thn (hl pins s1 σ H1 _ I1 q1) λS s2 ⟨l,H2,I2,pl,q2⟩=>thn (hu pins s2 σ H2 _ I2 q2) λR N U=>?_);obtain⟨u,W,I3,pu,Z⟩:=U;rw[evalPart_none];refine zO ?_;have I4:Inv X pins σ W {N with heap:=N.heap.push {cls:=.type "slice",data:=.fields #[S,R,.none]}}:=I3.kept (t':=N.toks) λb ob q=>xd _ q
 obtain⟨T,id,hT,ht,hg⟩:=hr pins {N with heap:=N.heap.push {cls:=.type "slice",data:=.fields #[S,R,.none]}} σ W x v S R l u N.heap.objs.size Q I4 Y (GH ..) pl pu Z
 show wpAny (model X.f X.w) X.A (GR e (.Slice lo hi none p2) v (.ref N.heap.objs.size)) (EP X pins σ Q) X.h {N with heap:=N.heap.push {cls:=.type "slice",data:=.fields #[S,R,.none]}}
 exact tail_any (ops:=[.ref N.heap.objs.size,v]) ht hT hg (by with_unfolding_all rfl)
def qj(xs:List V)(lo hi:Option Int):List V:=(xs.drop (HT.sIx xs.length 0 lo)).take (HT.sIx xs.length xs.length hi-HT.sIx xs.length 0 lo)
def sR xs lo hi:(qj xs lo hi).length<=xs.length:=by unfold qj;rw[Bz,B0];omega
def R9(K:AI):V->Option Int->Option Int->Hp->VK->Prop:=λx lo hi H Q=>∃a xs,x=.c a/\SqT K H a xs /\
 ¬(HT.sIx xs.length 0 lo=0/\HT.sIx xs.length xs.length hi=xs.length)/\∀p,H p=none->Q (.c p) (upd H p (.c (qj xs lo hi)))
def UT:SlR X (R9 X.K):=by
 intro pins s σ H x v vl Z lo hi sl Q I U hs Y W h;obtain⟨a,xs,rfl,hx,hw,q⟩:=h;cases U;obtain⟨its,r,S,R⟩:=I.tuple hx;have N:its.toArray.size=xs.length:=by rw[Ae];exact r.length.symm
 refine⟨"tuple",_,Bg.lookup,S.typeIs,?_⟩;refine HT.ux S hs Y W (by rw[N];exact hw) ?_ (by rw[N];exact R)
 rw[N];refine⟨.c s.heap.objs.size,_,I.laid (t':=s.toks) (o:=.c (qj xs lo hi)) (λb ob q=>xd _ q) (Ac _) ?_,rfl,q _ (I.j.fresh (Ac _))⟩;exact⟨Ao (sR xs lo hi) R,_,(r.drop (HT.sIx xs.length 0 lo)).take (HT.sIx xs.length xs.length hi-HT.sIx xs.length 0 lo),ug.new _ _⟩
def Sq(K:AI):R2:=λx y H Q=>∃a b xs ys,x=.c a/\y=.c b/\SqT K H a xs/\SqT K H b ys/\xs≠[]/\xs.length+ys.length<=AH /\
 (ys=[]->Q (.c a) H)/\(ys≠[]->∀p,H p=none->Q (.c p) (upd H p (.c (xs++ys))))
def Vals.wO(r:Vals xs us):us=[]↔xs=[]:=by
 cases r with
 |nil=>simp
 |cons _ _=>simp
def Ya:OpR X (BZ .Add) (Sq X.K):=by
 intro pins s σ H x y v u Q I Y W h;obtain⟨a,b,xs,ys,rfl,rfl,ha,hb,hx,U,q1,Z⟩:=h;cases Y;cases W;obtain⟨its,R,p1,_⟩:=I.tuple ha;obtain⟨S,N,p2,_⟩:=I.tuple hb;refine HT.ZY p1 p2 (λz=>hx (R.wO.mp z)) (λz=>⟨.c a,H,I,rfl,q1 (N.wO.mp z)⟩) (λz=>?_) (by rw[<-R.length,<-N.length];exact U)
 refine⟨.c s.heap.objs.size,_,I.laid (t':=s.toks) (o:=.c (xs++ys)) (λb ob q=>xd _ q) (Ac _) ?_,rfl,Z (λw=>z (N.wO.mpr w)) _ (I.j.fresh (Ac _))⟩;exact⟨by rw[Aq];exact U,_,R.append N,ug.new _ _⟩
end
noncomputable def ixN(n:Nat)(i:Int):Option Nat:=if 0<=i then (if i<n then some i.toNat else none) else if -(n:Int)<=i then some (i+n).toNat else none
def atI{N:Type}(xs:List N)(i:Int):Option N:=(ixN xs.length i).bind λj=>xs[j]?
def iR(h:ixN n i=some j):seqIndex? i n=some j/\j<n∧-(n:Int)<=i/\i<n:=by
 unfold ixN at h;by_cases h0:0<=i
 . rw[if_pos h0]at h
   by_cases h1:i<n
   . rw[if_pos h1]at h
     have e:i.toNat=j:=AK h;exact⟨by rw[seqIndex_of h0 h1,e],⋯,⋯,h1⟩
   . rw[if_neg h1]at h;cases h
 . rw[if_neg h0]at h
   by_cases h1:-(n:Int)<=i
   . rw[if_pos h1]at h
     have e:(i+n).toNat=j:=AK h;exact⟨by rw[seqIndex_neg ⋯ h1,e],⋯,h1,⋯⟩
   . rw[if_neg h1]at h;cases h
def oD(h:atI xs i=some v):∃j,seqIndex? i xs.length=some j/\xs[j]?=some v/\j<xs.length∧-(xs.length:Int)<=i/\i<xs.length:=by
 unfold atI at h;cases e:ixN xs.length i with
 |none=>rw[e]at h;cases h
 |some j=>
  rw[e]at h;obtain⟨U,S,R,N⟩:=iR e;exact⟨j,U,h,S,R,N⟩
def rA{xs}{j:Nat}{v:α}(h:xs[j]?=some v):atI xs (j:Int)=some v:=by
 have N:j<xs.length:=(As.mp h).1;have e:ixN xs.length (j:Int)=some j:=by unfold ixN;rw[if_pos ⋯,if_pos ⋯];simp
 unfold atI;rw[e];exact h
def jr(b:Expr):Prop:=∀o i,subscripted b false o i=operate [o,i] (getItem o i)
def IxR(X:Cx)(r:R2):Prop:=
 ∀(R N:Expr) (pins:List (Addr × Obj)) (s:Shared) (σ:St) (H:Hp) (x y:V) (v u:Value) (Q:VK),Inv X pins σ H s->RelV x v->RelV y u->r x y H Q ->
  subscripted N false v u=operate [v,u] (getItem v u)->wpAny (model X.f X.w) X.A (GR R N v u) (EP X pins σ Q) X.h s
def MtR(X:Cx)(id:String)(r:V->List V->Hp->VK->Prop):Prop:=
 ∀(pins:List (Addr × Obj)) (s:Shared) (σ:St) (H:Hp) (x:V) (xs:List V) (v:Value) (us:List Value) (Q:VK),Inv X pins σ H s->RelV x v->Vals xs us->r x xs H Q ->
  wpAny (model X.f X.w) X.A (call (.builtin id) (v::us)) (EP X pins σ Q) X.h s
section
variable {X:Cx}{a b:Expr}{ta tb:TE}{pos:Pos}
def IxR.or(h:IxR X r)(h':IxR X r'):IxR X (λx y H Q=>r x y H Q\/r' x y H Q):=by
 intro N R pins s σ H x y v u Q I U S q hs;rcases q with q|q
 . exact h N R pins s σ H x y v u Q I U S q hs
 . exact h' N R pins s σ H x y v u Q I U S q hs
def Sd(S:IxR X r)(W:PE X a ta)(U:PE X b tb)(hs:jr b):PE X (.Subscript a b pos) (tOp r ta tb):=by intro pins s σ H Q I h;exact Ik (WQ W U I h λv u s2 x y H2 I2 R N q=>S a b pins s2 σ H2 x y v u Q I2 R N q (hs _ _))
def Sr(K:AI):R2:=λx y H Q=>∃p xs i v,x=.c p/\y=.d i/\SqL K H p xs/\atI xs i=some v/\Q v H
def Su(K:AI):R2:=λx y H Q=>∃p xs i v,x=.c p/\y=.d i/\SqT K H p xs/\atI xs i=some v/\Q v H
def Ss:R2:=λx y H Q=>∃z i c,x=.e z/\y=.d i/\z.length<=AH/\atI z.cps.toList i=some c/\Q (.e ⟨#[c]⟩) H
def Z1:IxR X (Sr X.K):=by
 intro R S pins s σ H x y v u Q I rx ry h hs;obtain⟨p,xs,i,z,rfl,rfl,hq,he,q⟩:=h;cases rx;obtain⟨t,rfl⟩:=ry;obtain⟨its,r,W,hz⟩:=I.list hq;obtain⟨j,N,h2,h3,h4,h5⟩:=oD he;obtain⟨w,Z,U⟩:=r.get h2;have hl:=r.length;have hn:=uV;have fin:EP X pins σ Q w s:=⟨z,H,I,U,q⟩;by_cases h0:0<=i
 . have Y:i.toNat=j:=by rw[seqIndex_of h0 h5]at N;exact AK N
   exact item_listR W.isList h0 ⋯ (by rw[Y];simpa using Z) fin hs
 . have Y:(i+(its.toArray.size:Int)).toNat=j:=by
    rw[seqIndex_neg ⋯ h4]at N
    rw[Ae,<-hl];exact AK N
   exact subscriptTail_builtinR (x:=w) W.isList.typeIs G3.lookup
    (wpAny_getItem_list_neg (Q:=λr s'=>r=w/\EP X pins σ Q r s') W.isList ⋯ (by rw[Ae]<;>omega) ⋯ (by rw[Y];simpa using Z) ⟨rfl,fin⟩) hs
def Wu:IxR X (Su X.K):=by
 intro N R pins s σ H x y v u Q I Y W h hs;obtain⟨p,xs,i,z,rfl,rfl,Z,he,q⟩:=h;cases Y;obtain⟨t,rfl⟩:=W;obtain⟨its,r,U,hz⟩:=I.tuple Z;obtain⟨j,h1,h2,h3,h4,h5⟩:=oD he;obtain⟨w,ew,S⟩:=r.get h2;have hl:=r.length;have hn:=uV;have fin:EP X pins σ Q w s:=⟨z,H,I,S,q⟩;exact subscriptTail_builtinR (x:=w) U.typeIs slot_tuple_getitem.lookup
  (getItem_tuple (j:=j) (Q:=λr s'=>r=w/\EP X pins σ Q r s') U ⋯ ⋯ (by rw[Ae,<-hl];exact h1) (by simpa using ew) ⟨rfl,fin⟩) hs
def Wt:IxR X Ss:=by
 intro N R pins s σ H x y v u Q I W U h hs;obtain⟨z,i,c,rfl,rfl,hz,he,q⟩:=h;obtain⟨t,rfl⟩:=W;obtain⟨t',rfl⟩:=U;obtain⟨j,S,h2,h3,h4,Z⟩:=oD he;have Y:z.cps.toList.length=z.length:=by simp[Str.length]
 rw[Y]at S h4 Z;have hn:=uV;exact tail_any (typeIs_str s z t) slot_str_getitem.lookup (getItem_str (c:=c) (by
  have e1:decide (i < -(2 ^ 63:Int))=false:=decide_eq_false ⋯
  have e2:decide (i ≥ 2 ^ 63)=false:=decide_eq_false ⋯
  rw[e1,e2,Bool.or_false]) (by rw[S];simpa using h2) ⟨.e ⟨#[c]⟩,H,I.tok _,⟨_,rfl⟩,q⟩) hs
def rIx(K:AI):R2:=λx y H Q=>Sr K x y H Q\/Su K x y H Q\/Ss x y H Q
def Ws:IxR X (rIx X.K):=Z1.or (Wu.or Wt)
def kQ(its:List Value)n j u:A2 (·.setIfInBounds j u) {cls:=.type "list",data:=.seq its.toArray n}={cls:=.type "list",data:=.seq (its.set j u).toArray n}:=by simp[A2]
def Inv.lst{pins:List (Addr × Obj)}{σ:St}{H:Hp}{s:Shared}{p:Addr}{xs:List V}(I:Inv X pins σ H s)(h:H p=some (.b xs)) :
 ∃(its:List Value) (n:Nat),Vals xs its/\s.heap.get? p=some {cls:=.type "list",data:=.seq its.toArray n}/\xs.length<=AH:=by
 obtain⟨z,its,n,r,e⟩:=I.j p _ h;exact⟨its,n,r,e,z⟩
def Inv.Vd{its its':List Value}(I:Inv X pins σ H s)(h:H p=some (.b xs))
 (S:s.heap.get? p=some {cls:=.type "list",data:=.seq its.toArray n}) (N:f {cls:=.type "list",data:=.seq its.toArray n}={cls:=.type "list",data:=.seq its'.toArray n'}) (r:Vals ys its') (R:ys.length<=AH) t :
 Inv X pins σ (upd H p (.b ys)) {s with heap:=s.heap.update p f,toks:=t}:=by
 have e:(s.heap.update p f).get? p=some {cls:=.type "list",data:=.seq its'.toArray n'}:=by rw[Cm f S (by rw[N]<;>rfl),N]
 refine I.write (x:=p) (e:=p) (by rw[h];trivial) (.inl rfl) (λb u U q=>(Ed _ _ (B6 U)).trans q) ⟨_,e⟩ ?_
 exact⟨R,its',n',r,e⟩
def X0:V->V->V->Hp->(Hp->Prop)->Prop:=λo i v H Q=>∃p xs k j,o=.c p/\i=.d k/\H p=some (.b xs)/\ixN xs.length k=some j/\Q (upd H p (.b (xs.set j v)))
def set_list:U2 X X0:=by
 intro pins s σ H o i v ov iv u Q I ro ri rv h;obtain⟨p,xs,k,j,rfl,rfl,hp,hj,q⟩:=h;cases ro;obtain⟨t,rfl⟩:=ri;obtain⟨its,n,r,R,hz⟩:=I.lst hp;obtain⟨N,h2,Y,U⟩:=iR hj;have S:=r.length;have hn:=uV;have Z:Inv X pins σ (upd H p (.b (xs.set j v))) {s with heap:=s.heap.update p (A2 (·.setIfInBounds j u))}:=
  I.Vd hp R (kQ its n j u) (r.set rv j) (by rw[Dv];exact hz) s.toks
 by_cases h0:0<=k
 . have hk:k.toNat=j:=by rw[seqIndex_of h0 U]at N;exact AK N
   exact PySem.W.ki_setAt R h0 ⋯ (by rw[Ae,<-S];exact U) (by rw[hk];exact⟨_,Z,q⟩)
 . have hk:(k+(its.toArray.size:Int)).toNat=j:=by
    rw[seqIndex_neg ⋯ Y]at N
    rw[Ae,<-S];exact AK N
   exact PySem.W.ki_setBack R ⋯ (by rw[Ae,<-S];exact Y) ⋯ (by rw[hk];exact⟨_,Z,q⟩)
def nI lo hi n:(BP lo hi none n).1=((HT.sIx n 0 lo:Nat):Int)/\(BP lo hi none n).2.1=((HT.sIx n n hi:Nat):Int)/\(BP lo hi none n).2.2=1:=by
 refine⟨?_,?_,rfl⟩
 . cases lo with
   |none=>simp[BP,HT.sIx]
   |some i=>
    simp only[BP,HT.sIx,Hh,show (1:Int) > 0 by decide,if_true]
    by_cases h:i<0
    . simp only[h,if_true]<;>omega
    . simp only[h,if_false]<;>omega
 . cases hi with
   |none=>simp[BP,HT.sIx]
   |some i=>
    simp only[BP,HT.sIx,Hh,show (1:Int) > 0 by decide,if_true]
    by_cases h:i<0
    . simp only[h,if_true]<;>omega
    . simp only[h,if_false]<;>omega
def qv(its:List Value)lo hi:ID its.toArray lo hi none=((its.drop (HT.sIx its.length 0 lo)).take (HT.sIx its.length its.length hi-HT.sIx its.length 0 lo)).toArray:=by obtain⟨S,R,N⟩:=nI lo hi its.toArray.size;unfold ID;rw[S,R,N];simp only[sliceRange_one,pick_run,Ae]<;>rfl
def R8(K:AI):V->Option Int->Option Int->Hp->VK->Prop:=λx lo hi H Q=>∃a xs,x=.c a/\SqL K H a xs/\∀p,H p=none->Q (.c p) (upd H p (.b (qj xs lo hi)))
def Y9:SlR X (R8 X.K):=by
 intro pins s σ H x v vl Z lo hi sl Q I S hs W U h;obtain⟨a,xs,rfl,hx,q⟩:=h;cases S;obtain⟨its,r,R,Y⟩:=I.list hx;have N:=r.length;refine⟨"list",_,G3.lookup,R.isList.typeIs,?_⟩;refine Hi R.isList hs W U .none (by simp) ?_ (by rw[Ae]<;>omega)
 rw[qv,<-N];refine⟨.c s.heap.objs.size,_,I.laid (t':=s.toks) (o:=.b (qj xs lo hi)) (λb ob q=>xd _ q) (Ac _) ?_,rfl,q _ (I.j.fresh (Ac _))⟩;exact⟨Ao (sR xs lo hi) Y,_,0,(r.drop (HT.sIx xs.length 0 lo)).take (HT.sIx xs.length xs.length hi-HT.sIx xs.length 0 lo),AA _ rfl⟩
noncomputable def wm:V->Bool
 |.g=>true
 |.f _=>true
 |.d _=>true
 |.e _=>true
 |_=>false
noncomputable def eqV:V->V->Bool
 |.g,.g=>true
 |.f a,.f b=>a == b
 |.f a,.d b=>(if a then 1 else 0) == b
 |.d a,.f b=>a == (if b then 1 else 0)
 |.d a,.d b=>a == b
 |.e a,.e b=>a == b
 |_,_=>false
def Wd(R:RelV y u)(N:RelV x v)(U:wm y=true)(S:wm x=true):Bv A s u v (eqV y x):=by
 cases y with
 |g=>
  cases R;cases x with
  |g=>cases N;exact Bv.same _
  |f b=>cases N;exact Bv.none_bool b
  |d b=>obtain⟨t,rfl⟩:=N;exact Bv.none_int b t
  |e b=>obtain⟨t,rfl⟩:=N;exact Bv.none_str b t
  |_=>exact absurd (show false=true from S) Ag
 |f a=>
  cases R;cases x with
  |g=>cases N;exact Bv.bool_none a
  |f b=>cases N;exact Bv.bool_bool a b
  |d b=>obtain⟨t,rfl⟩:=N;exact Bv.bool_int a b t
  |e b=>obtain⟨t,rfl⟩:=N;exact Bv.bool_str a b t
  |_=>exact absurd (show false=true from S) Ag
 |d a=>
  obtain⟨t',rfl⟩:=R;cases x with
  |g=>cases N;exact Bv.int_none a t'
  |f b=>cases N;exact Bv.int_bool a t' b
  |d b=>obtain⟨t,rfl⟩:=N;exact Bv.int_int a t' b t
  |e b=>obtain⟨t,rfl⟩:=N;exact Bv.int_str a t' b t
  |_=>exact absurd (show false=true from S) Ag
 |e a=>
  obtain⟨t',rfl⟩:=R;cases x with
  |g=>cases N;exact Bv.str_none a t'
  |f b=>cases N;exact Bv.str_bool a t' b
  |d b=>obtain⟨t,rfl⟩:=N;exact Bv.str_int a t' b t
  |e b=>obtain⟨t,rfl⟩:=N;exact Bv.str_str a t' b t
  |_=>exact absurd (show false=true from S) Ag
 |_=>exact absurd (show false=true from U) Ag
def eqU(x:V)(u:Value):Bool:=match u with
 |.none=>eqV .g x
 |.bool b=>eqV (.f b) x
 |.int i _=>eqV (.d i) x
 |.str z _=>eqV (.e z) x
 |_=>false
def kB(r:RelV y u)(f:wm y=true):eqU x u=eqV y x:=by
 cases y with
 |g=>cases r;rfl
 |f b=>cases r;rfl
 |d i=>obtain⟨t,rfl⟩:=r;rfl
 |e z=>obtain⟨t,rfl⟩:=r;rfl
 |_=>exact absurd (show false=true from f) Ag
theorem oC:∀{xs} {us},Vals xs us->xs.all wm=true->us.any (eqU x)=xs.any λy=>eqV y x
 |_,_,.nil,_=>rfl
 |y::xs,u::us,.cons r t,f=>by rw[Df,ub]at f;rw[Dz,Dz,kB r f.1,oC t f.2]
theorem ve(N:RelV x v)(R:wm x=true):∀{xs} {us},Vals xs us->xs.all wm=true->∀u∈us,Bv A s u v (eqU x u)
 |_,_,.nil,_=>λu hu=>by cases hu
 |y::xs,u::us,.cons r t,f=>λS hu=>by
  rw[Df,ub]at f;rcases Ar.mp hu with rfl|hu
  . rw[kB r f.1];exact Wd r N f.1 R
  . exact ve N R t f.2 S hu
def inV(x:V)(xs:List V):Bool:=xs.any λy=>eqV y x
def rIn(K:AI)(N:Bool):R2:=λx y H Q=>∃p xs,y=.c p/\(SqL K H p xs\/SqT K H p xs)/\wm x=true/\xs.all wm=true/\Q (.f (if N then !inV x xs else inV x xs)) H
def oz:OpR X (BO .NotIn) (rIn X.K true):=by
 intro pins s σ H x y v u Q I S W h;obtain⟨p,xs,rfl,N,U,fs,q⟩:=h;cases W;rcases N with N|N
 . obtain⟨its,r,R,Y⟩:=I.list N
   refine SeqAt.notIn_listAt (eqU x) R.isList (λw hw=>ve S U r fs w (by simpa using hw)) ⟨.f _,H,I,rfl,?_⟩
   rw[show its.toArray.any (eqU x)=its.any (eqU x) by simp,oC r fs]
   exact q
 . obtain⟨its,r,R,Y⟩:=I.tuple N
   refine SeqAt.notIn_tupleAt (eqU x) R (λw hw=>ve S U r fs w (by simpa using hw)) ⟨.f _,H,I,rfl,?_⟩
   rw[show its.toArray.any (eqU x)=its.any (eqU x) by simp,oC r fs]
   exact q
def oF:yN X (.builtin "len") (λxs H Q=>∃p ys,xs=[.c p]/\(SqL X.K H p ys\/SqT X.K H p ys)/\Q (.d ys.length) H):=by
 intro pins s σ H xs us Q I r h;obtain⟨p,ys,rfl,R,q⟩:=h;obtain⟨u,rfl,W⟩:=vals1 r;cases W;have Z:=uV;rcases R with R|R
 . obtain⟨its,S,U,Y⟩:=I.list R
   have N:=S.length;exact Calls.call_len_list U.isList (by simp only[Ae]<;>omega) ⟨.d ys.length,H,I.tok _,⟨s.toks+1,by rw[Ae,N]⟩,q⟩
 . obtain⟨its,S,U,Y⟩:=I.tuple R
   have N:=S.length;exact len_tuple U (by simp only[Ae]<;>omega) ⟨.d ys.length,H,I.tok _,⟨s.toks+1,by rw[Ae,N]⟩,q⟩
def oG:yN X (.builtin "len") (λxs H Q=>∃z,xs=[.e z]/\z.length<=AH/\Q (.d z.length) H):=by intro pins s σ H xs us Q I r h;obtain⟨z,rfl,N,q⟩:=h;obtain⟨u,rfl,t,rfl⟩:=vals1 r;have R:=uV;exact len_str ⋯ ⟨.d z.length,H,I.tok _,⟨_,rfl⟩,q⟩
def uG:yN X (.type "tuple") (λxs H Q=>∃p ys,xs=[.c p]/\((SqL X.K H p ys/\∀l,H l=none->Q (.c l) (upd H l (.c ys)))\/(SqT X.K H p ys/\Q (.c p) H))):=by
 intro pins s σ H xs us Q I r h;obtain⟨p,ys,rfl,h⟩:=h;obtain⟨u,rfl,Y⟩:=vals1 r;cases Y;rcases h with⟨S,q⟩|⟨S,q⟩
 . obtain⟨its,N,R,U⟩:=I.list S
   have W:=N.length;refine call_tuple_list R.isList (λh' kp=>?_) (by simp only[Ae]<;>omega)
   have I1:Inv X pins σ H {s with heap:=h'}:=I.kept (t':=s.toks) kp
   have I2:Inv X pins σ (upd H h'.objs.size (.c ys)) {s with heap:=h'.push {cls:=.type "tuple",data:=.seq its.toArray}}:=
    I1.laid (t':=s.toks) (λb o e=>xd _ e) (Ac _) (show z8 X.f X.w _ _ _ (.c ys) from ⟨U,its,N,ug.new _ _⟩)
   exact⟨.c h'.objs.size,_,I2,rfl,q _ (I1.j.fresh (Ac _))⟩
 . obtain⟨its,N,R,U⟩:=I.tuple S
   exact call_tuple_same R ⟨.c p,H,I,rfl,q⟩
def tyV(K:AI)(T:String)(x:V)(H:Hp):Prop:=match x with
 |.e _=>T="str"
 |.d _=>T="int"
 |.c p=>(T="list"/\∃xs,SqL K H p xs)\/(T="tuple"/\∃o,K.lookup p=some o/\o.cls=.type "tuple"/\o.dict=none) \/
  (T="dict"/\((∃N,H p=some (.j N))\/∃N,H p=some (.k N)))\/(T="set"/\∃S n,H p=some (.m S n))
 |_=>False
def Uo(I:Inv X pins σ H s)(r:RelV x v)(N:tyV X.K T x H) :
 s.TypeIs v T/\∀a,v=.ref a->∃Y,s.heap.get? a=some Y/\Y.dict=none:=by
 cases x with
 |e z=>
  obtain⟨t,rfl⟩:=r;cases (show T="str" from N);exact⟨typeIs_str s z t,λ_ e=>nomatch e⟩
 |d i=>
  obtain⟨t,rfl⟩:=r;cases (show T="int" from N);exact⟨D5 s i t,λ_ e=>nomatch e⟩
 |c p=>
  cases r;rcases N with⟨rfl,xs,Z⟩|⟨rfl,o,hk,hc,hd⟩|⟨rfl,hk⟩|⟨rfl,S,n,hk⟩
  . obtain⟨its,_,W,_⟩:=I.list Z
    refine⟨W.isList.typeIs,λa e=>?_⟩;cases e;obtain⟨o,n,e,c,hd,_⟩:=W;exact⟨o,e,hd⟩
  . refine⟨⟨o,I.kIn p o hk,hc⟩,λa e=>?_⟩
    cases e;exact⟨o,I.kIn _ o hk,hd⟩
  . have z:∃o,s.heap.get? p=some o/\o.ExactDict:=by
     rcases hk with⟨R,hk⟩|⟨R,hk⟩
     . obtain⟨_,_,_,_,o,_,_,e,ex,_⟩:=I.j p _ hk
       exact⟨o,e,ex⟩
     . obtain⟨_,_,_,_,o,_,_,e,ex,_⟩:=I.j p _ hk
       exact⟨o,e,ex⟩
    obtain⟨o,e,ex⟩:=z;refine⟨⟨o,e,ex.1⟩,λa U=>?_⟩;cases U;exact⟨o,e,ex.2.1⟩
  . obtain⟨o,_,_,_,e,ex,_⟩:=I.j p _ hk
    refine⟨⟨o,e,ex.1⟩,λa U=>?_⟩;cases U;exact⟨o,e,ex.2.1⟩
 |_=>exact Dn N
def tBM(K:AI)(T:String)(r:V->List V->Hp->VK->Prop)(to:TE)(t:TA):TE:=λσ H Q=>to σ H λx H1=>tyV K T x H1/\t σ H1 λxs H2=>r x xs H2 Q
variable {o e:Expr}{es:List Expr}{to:TE}{t:TA}{name:Str}{apos cpos:Pos}{T id:String}{r:V->List V->Hp->VK->Prop}
def Xw(pa:PlainAttrs T)(U:Slot T name id)(Y:typeOf (.builtin id)=pure (.type "method_descriptor"))(hm:MtR X id r)(ho:PE X o to)(ha:PA X (e::es) t)
 (S:EN o name X.a (eval o X.a)=eval o X.a:=by rfl)
 (W:((backTo cpos (Be (e::es) X.a)).all (λx=>!x.1)&&(backToKw cpos (keywordEach [] X.a)).all (λx=>x.1.isSome)
  && decide ((e::es).length+([]:List Keyword).length+(if ([]:List Keyword).isEmpty then 0 else 1)<30))=true:=by rfl)
 (R:(apos.endLine == cpos.line)=true:=by rfl) (hs:Be (e::es) X.a=(false,eval e X.a)::Be es X.a:=by rfl) (N:(backTo cpos (Be es X.a)).any (·.1)=false:=by rfl) :
 PE X (.Call (.Attribute o name apos) (e::es) [] cpos) (tBM X.K T r to t):=by
 intro pins s σ H Q I h;refine wpAny_Call_method_late S W R rfl (thn (ho pins s σ H _ I h) λv s1 zn=>?_);obtain⟨x,H1,I1,Z,ty,q1⟩:=zn;obtain⟨h1,h2⟩:=Uo I1 Z ty;refine⟨T,id,pa,U,Y,h1,h2,?_⟩;have hA:=ha cpos pins s1 σ H1 _ I1 q1;rw[hs]at hA ⊢;refine Calls.callWith_builtin (by show (false||(backTo cpos (Be es X.a)).any (·.1))=false;rw[N]<;>rfl) (Calls.evalArgs_plain ?_)
 exact thn hA λus s2 ⟨vs,H2,I2,r2,q2⟩=>hm pins s2 σ H2 x vs v us Q I2 Z r2 q2
/- xs.append(e),list.index on a module's tuple .. are MtR facts of 06m -/
end
def MtM(X:Cx)(id:String)(r:V->List V->Hp->VK->Prop):Prop:=
 ∀(pins:List (Addr × Obj)) (s:Shared) (σ:St) (H:Hp) (x:V) (xs:List V) (v:Value) (us:List Value) (Q:VK),Inv X pins σ H s->RelV x v->Vals xs us->r x xs H Q ->
  wpAny (model X.f X.w) X.A (call (.builtin id) (v::us)) (EP X pins σ Q) X.h s
def Vals.one:∀{x} {us},Vals [x] us->∃u,us=[u]/\RelV x u
 |_,_,.cons r .nil=>⟨_,rfl,r⟩
theorem Vals.rep(h:Vals xs us):∀k:Nat,Vals (AU k xs).flatten (AU k us).flatten
 |0=>.nil
 |k+1=>by rw[CB,CB,DF,DF];exact Vals.append h (Vals.rep h k)
theorem foldl_rep its:∀k (acc:List Value),
 EA (λR N=>R++N) acc.toArray (AU k its.toArray)=(acc++(AU k its).flatten).toArray
 |0,acc=>by simp
 |k+1,acc=>by
  have e:acc.toArray++its.toArray=(acc++its).toArray:=by simp
  have S:(acc++its)++(AU k its).flatten=acc++(AU (k+1) its).flatten:=by rw[CB,DF,Ak]
  rw[<-S,<-foldl_rep its k (acc++its),<-e,CB,HM]
def Inv.Rt{its its':List Value}(I:Inv X pins σ H s)(W:H l=some (.b xs))
 (e:s.heap.get? l=some {cls:=.type "list",data:=.seq its.toArray n}) (S:f its.toArray=its'.toArray) (R:Vals ys its') (N:ys.length<=AH) :
 Inv X pins σ (upd H l (.b ys)) {s with heap:=s.heap.update l (A2 f),toks:=t'}:=by
 have q:=PySem.IsL.update e f;rw[S]at q;refine I.write (x:=l) (e:=l) (by rw[W];exact trivial) (.inl rfl) (λY u U hu=>(Ed s.heap (A2 f) (B6 U)).trans hu) ⟨_,q⟩ ?_
 exact⟨N,its',_,R,q⟩
def Inv.T2(I:Inv X pins σ H s)(R:Vals ys its)(N:ys.length<=AH) :
 Inv X pins σ (upd H s.heap.objs.size (.b ys)) {s with heap:=s.heap.push {cls:=.type "list",data:=.seq its.toArray},toks:=t'}:=
 I.laid (λ_ _ q=>xd _ q) (Ac _) ⟨N,its,0,R,AA _ rfl⟩
theorem Inv.fresh(I:Inv X pins σ H s):H s.heap.objs.size=none:=I.j.fresh (Ac _)
def Inv.YQ(I:Inv X pins σ H s)(N:H l=some (.b xs)):xs.length<=AH/\∃its n,Vals xs its/\xs.length=its.length/\s.heap.get? l=some {cls:=.type "list",data:=.seq its.toArray n}:=by obtain⟨z,its,n,r,e⟩:=I.j l _ N;exact⟨z,its,n,r,r.length,e⟩
def bK(h:n<=AH):Fd n=false:=by unfold Fd;exact decide_eq_false ⋯
section
variable {X:Cx}
def hU:V->List V->Hp->VK->Prop:=λx vs H Q=>∃l xs y,x=.c l/\vs=[y]/\H l=some (.b xs)/\xs.length<AH/\Q .g (upd H l (.b (xs++[y])))
def pT:MtM X "list.append" hU:=by
 intro pins s σ H x vs v us Q I R S h;obtain⟨l,xs,y,rfl,rfl,N,W,q⟩:=h;cases R;obtain⟨u,rfl,U⟩:=S.one;obtain⟨z,its,n,r,Y,e⟩:=I.YQ N;refine Ct F.slot_list_append ⟨_,e,rfl⟩ F.entry_list_append (F.args_list_append_2 _ _) (PySem.list_append l its.toArray n u (by rw[Ae];omega)) ⟨e,?_⟩
 refine⟨.g,_,I.Rt (its':=its++[u]) N e (by simp) (r.append (.cons U .nil)) ?_,rfl,q⟩
 rw[Aq,BE];omega
def R4:R2:=λx y H Q=>∃l b xs zs,x=.c l/\y=.c b/\H l=some (.b xs)/\H b=some (.b zs)/\xs.length+zs.length<=AH/\∀p,H p=none->Q (.c p) (upd H p (.b (xs++zs)))
def Vo:OpR X (BZ .Add) R4:=by
 intro pins s σ H x y v u Q I S R h;obtain⟨l,b,xs,zs,rfl,rfl,Y,Z,hz,q⟩:=h;cases S;cases R;obtain⟨z,its,n,r,hl,e⟩:=I.YQ Y;obtain⟨z2,N,n2,U,W,e2⟩:=I.YQ Z;refine PySem.P.add_list e e2 ?_ (by rw[Ae,Ae];omega)
 have ea:its.toArray++N.toArray=(its++N).toArray:=by simp
 rw[ea];exact⟨.c _,_,I.T2 (t':=s.toks) (r.append U) (by rw[Aq];omega),rfl,q _ I.fresh⟩
def R5:R2:=λx y H Q=>∃l k xs,x=.c l/\y=.d k/\H l=some (.b xs)∧-(2 ^ 63)<=k/\k<2 ^ 63/\xs.length*k.toNat<=AH /\
 ∀p,H p=none->Q (.c p) (upd H p (.b (AU k.toNat xs).flatten))
def len_rep{N:Type}(xs:List N)k:(AU k xs).flatten.length=k*xs.length:=by
 induction k with
 |zero=>simp
 |succ k R=>rw[CB,DF,Aq,R,Nat.succ_mul,Nat.add_comm]
def Vs:OpR X (BZ .Mult) R5:=by
 intro pins s σ H x y v u Q I rx ry h;obtain⟨l,k,xs,rfl,rfl,hH,h1,h2,hz,q⟩:=h;cases rx;obtain⟨t,rfl⟩:=ry;obtain⟨z,its,n,r,hl,e⟩:=I.YQ hH;have S:its.toArray.size*k.toNat<=AH:=by rw[Ae,<-hl];exact hz
 have Y:¬its.toArray.size*k.toNat > (2 ^ 63-1)/8:=by
  have:(AH:Nat)<=(2 ^ 63-1)/8:=by decide
  omega
 have W:¬(!Builtin.List.listFitsIndex k)=true:=by rw[fitsIndex_both h1 h2];exact Ag
 have N:¬Fd (its.toArray.size*k.toNat)=true:=by rw[bK S];exact Ag
 have R:EA (λx1 Z=>x1++Z) #[] (AU (if its.toArray.isEmpty=true then 0 else k.toNat) its.toArray)=(AU k.toNat its).flatten.toArray:=by
  have f0:∀m:Nat,EA (λx1 Z=>x1++Z) #[] (AU m its.toArray)=(AU m its).flatten.toArray:=λm=>by have:=foldl_rep its m [];rw[Dw]at this;exact this
  rw[f0];cases its with
  |nil=>simp
  |cons a r'=>rw[if_neg (by simp)]
 refine DJ (T:="list") (U:="int") (by decide) ⟨_,e,rfl⟩ (λs'=>D5 s' k t) noFill_list_mul F8 CY repeat_list FR.lookup
  (Ct CY (D5 s k t) FT (Fz _ _) (int___rmul___int_list k t l its.toArray n)
   ⟨e,rfl,⟨_,e,rfl⟩,Ct F.slot_list_mul ⟨_,e,rfl⟩ F.entry_list_mul (F.args_list_mul_2 _ _) (AutoListH.list___mul___list_int_3 l its.toArray n k t W Y N) ⟨e,?_⟩⟩)
 rw[R];exact⟨.c _,_,I.T2 (t':=s.toks) (r.rep k.toNat) (by rw[len_rep,B8];exact hz),rfl,q _ I.fresh⟩
end
end L2
namespace Att
open PySem PySem.W PySem.Calls PyProof.Rows
def sg:∀ns vs,WellAll P h vs (ns.map WData.int)->IntsAre vs ns:=by
 intro ns;induction ns with
 |nil=>
  intro vs w;rw[Eo]at w;cases w;exact .nil
 |cons n ns N=>
  intro vs w;rw[AB]at w;cases w with
  |cons a b=>
   cases a;exact .cons _ _ (N _ b)
def fz{l:OpenLaw}(hn:l.most=some n)
 (N:l.row.toRowW.claim.pre args=true) (X:WellAll P h vals args) :
 ∃a vs ns,vals=[Bp a]/\args=[WData.list (ns.map WData.int)]/\h.get? a=some {cls:=.type "list",data:=.seq vs.toArray}/\IntsAre vs ns/\ns.length<=n:=by
 have Y:WShape.hasAll [] args [.list .int]=true:=(pre_splitW N).1;have Z:l.pre.holds [] {args:=args}=true:=(pre_splitW N).2;obtain⟨d,r,rfl,h1,h2⟩:=hasAllW_cons Y;obtain rfl:=hasAllW_nil h2;obtain⟨xs,rfl,h3⟩:=hasW_list h1;obtain⟨ns,rfl⟩:=items_int h3;have R:ns.length<=n:=by
  unfold OpenLaw.pre at Z;have W:(WTm.not (.lt (.lit (.int (n:Int))) (.len (.arg 0)))).holds [] {args:=[.list (ns.map .int)]}=true:=by have W:=(holds_andW Z).1;rw[hn]at W;exact W
  have U:=condW_of W (w_not (w_lt w_lit (w_len_list (w_arg rfl))));rw[Aa]at U;refine Nat.le_of_not_lt λq=>?_;have q':(n:Int)<((ns.length:Nat):Int):=by omega
  first
   |(rw[decide_eq_true q']at U;exact absurd U (by decide))
   |(simp at U;omega)
 cases X with
 |cons w1 w2=>
  cases w2;cases w1 with
  |list ho S=>exact⟨_,_,ns,rfl,rfl,ho,sg ns _ S,R⟩
def fj(l:OpenLaw)args:l.row.toRowW.claim.post args (.bool true) args=true:=
 postW_of (r:=l.row.toRowW) (X:=(true == true))
  (show WShape.has [] (.bool true) .bool=true by first|rfl|decide|simp[WShape.has,WShape.arms,WShape.armsAll])
  (show (WTm.eq .res (.lit (.bool true))).value [] {args:=args,res:=some (.bool true),after:=args}=some (.bool (true == true)) from w_eq_bool (w_res rfl) w_lit) rfl
def nY{l:OpenLaw}
 (hn:l.most=some n) (hdf:d.params.defaults=[])
 (call:∀w R N mg mb Z o pm cd doc a vs ns,
  Ground q loose [] XP w R mg mb N.heap->YP w N.heap ->
  N.heap.get? Z=some o->o.data=.func (docDef d.name d.params d.body d.scope pm cd doc)->N.heap.CodeRec cd d.name->mg d.name=some (.ref Z) ->
  N.heap.get? a=some {cls:=.type "list",data:=.seq vs.toArray}->IntsAre vs ns->ns.length<=n->N.gens=#[] ->
  codeAny (model l.prog w) callerA (.call (.ref Z) ⟨[.ref a],[]⟩) (λr s'=>r=.ok (.ret (.bool true))/\OldK N.heap s'.heap/\s'.os=N.os/\AllBare s'.gens) N) :
 WalkO q loose XP YP l.row.toRowW d [] (λf vs=>PySem.call f vs):=by
 intro w R N mg mb G Y Z o pm cd doc dV kV ho hd hcd hD hmg hg args vals as U hlay hrd hwl hlo;obtain rfl:dV=.none:=Dflts.none hD hdf;obtain rfl:kV=.none:=Dflts.noKw hD;obtain⟨a,vs,ns,rfl,rfl,W,S,X⟩:=fz hn U hwl;refine enter_call (F7 (call w R N mg mb Z o pm cd doc a vs ns G Y ho (fd_plain hd) hcd hmg W S X hg) λr s' hq=>?_);obtain⟨rfl,h2,h3,h4⟩:=hq;exact⟨.inl ⟨.bool true,.bool true,[],rfl,λ_=>rfl,.bool true,fj l _,λ_=>⟨G4,λ_ hm=>(nomatch hm)⟩⟩,h2,h3,h4⟩
end Att
namespace L2
open PySem PySem.Spec PyProof.Rows
theorem p7:∀{vs} {ns},IntsAre vs ns->Vals (ns.map V.d) vs
 |_,_,.nil=>.nil
 |_,_,.cons n t h=>.cons ⟨t,rfl⟩ (p7 h)
end L2
/- THE LAST THEOREM (shape;LID,My.* are yours):
   My.Adr: a structure of the addresses that your layer names (classes,functions);My.Txt K t: a structure (Prop) of the equations over K;
   My.txt_mk:{K} {implicit addresses ..} (e1:nsIn K Bq "law"=some (some (.ref f))) (e2:K.lookup f=some ⟨oc,od,.func (fnOf "law" "law" params body scope dV kV doc pm an cdv ct),sl⟩) (e3:codeIn K cdv "law"=true) ..:∃t,My.Txt K t
(the tactic k_is has no namespace: write k_is) -/
namespace L2
open PySem PySem.Spec PyProof.Rows
noncomputable def wL(s:Stmt):Arguments:=match s with
 |.FunctionDef _ a _ _ _ _ _ _ _ _=>a
 |_=>{posonlyargs:=[],args:=[],vararg:=none,kwonlyargs:=[],kw_defaults:=[],kwarg:=none,defaults:=[]}
noncomputable def xM(s:Stmt):List Stmt:=match s with
 |.FunctionDef _ _ b _ _ _ _ _ _ _=>b
 |_=>[]
noncomputable def z0(s:Stmt):Scope:=match s with
 |.FunctionDef _ _ _ _ _ _ sc _ _ _=>sc
 |_=>{kind:=.function,names:=[],isGenerator:=false,isCoroutine:=false}
abbrev CX0:CXT:=λ_ _ _ _ _ _=>False
abbrev E0:XK:=λ_ _ _=>False
def Xv:Passes CX0 X E0:=λ_ _ _ _ _ _ _ h=>h.elim
structure Fun(K:AI)(x qual:Str)(st:Stmt)(f:Addr)(fd:Ec):Prop where
 a:∃(oc:Value) (od:Option Addr) (kV doc pm:Value) (an:Option Addr) (cdv ct:Value) (osl:Array (Option Value)),
  fd=CF x qual (wL st) (xM st) (z0 st) .none kV doc pm an cdv ct/\K.lookup f=some ⟨oc,od,.func fd,osl⟩/\Di K cdv qual=true
 kp:Dj K (.ref f)=true
def Fun.binds{K:AI}{st}{ps:List Str}(F:Fun K x qual st f fd)
 (h:∀kV doc pm an cdv ct (us:List Value),us.length=ps.length->bindArgs (CF x qual (wL st) (xM st) (z0 st) .none kV doc pm an cdv ct) ⟨us,[]⟩=pure (ps.zip us)):Binds K fd ps []:=by
 obtain⟨oc,od,kV,doc,pm,an,cdv,ct,osl,rfl,lk,N⟩:=F.a;exact .all (h kV doc pm an cdv ct)
def Wk{K:AI}{st}{kV doc pm cdv ct}(l:K.lookup f=some ⟨oc,od,.func (CF x qual (wL st) (xM st) (z0 st) .none kV doc pm an cdv ct),osl⟩)
 (c:Di K cdv qual=true) (k:Dj K (.ref f)=true):Fun K x qual st f (CF x qual (wL st) (xM st) (z0 st) .none kV doc pm an cdv ct):=⟨⟨oc,od,kV,doc,pm,an,cdv,ct,osl,rfl,l,c⟩,k⟩
def mJ{A B:Prop}(h:B):if false=true then A else B:=by rw[if_neg Ag];exact h
def mK{A B:Prop}(h:A):if true=true then A else B:=by rw[if_pos rfl];exact h
def tX(H H':Hp):Prop:=∀b o,H b=some o->H' b=some o
def tX.refl H:tX H H:=λ_ _ h=>h
end L2
end
section
namespace M
open PySem
noncomputable def el(a n:Nat)(f:a=n->Bool):Bool:=if h:a=n then f h else false
def yS(h:el a n f=true):∃N,f N=true:=by
 unfold el at h;by_cases N:a=n
 . rw[dif_pos N]at h;exact⟨N,h⟩
 . rw[dif_neg N]at h;cases h
def Xe(e:Expr)(k:BoolOp->List Expr->Pos->Bool):Bool:=el e.ctorIdx 0 λh=>Expr.BoolOp.elim (motive_1:=λ_=>Bool) e h k
def gY(h:Xe e k=true):∃o xs p,e=.BoolOp o xs p/\k o xs p=true:=by obtain⟨N,h⟩:=yS h;obtain⟨o,xs,p,rfl⟩:∃o xs p,e=.BoolOp o xs p:=Expr.BoolOp.elim (motive_1:=λe=>∃o xs p,e=Expr.BoolOp o xs p) e N λo xs p=>⟨o,xs,p,rfl⟩;exact⟨o,xs,p,rfl,h⟩
def TF(e:Expr)(k:Expr->Operator->Expr->Pos->Bool):Bool:=el e.ctorIdx 2 λh=>Expr.BinOp.elim (motive_1:=λ_=>Bool) e h k
def dW(h:TF e k=true):∃l o r p,e=.BinOp l o r p/\k l o r p=true:=by obtain⟨N,h⟩:=yS h;obtain⟨l,o,r,p,rfl⟩:∃l o r p,e=.BinOp l o r p:=Expr.BinOp.elim (motive_1:=λe=>∃l o r p,e=Expr.BinOp l o r p) e N λl o r p=>⟨l,o,r,p,rfl⟩;exact⟨l,o,r,p,rfl,h⟩
def eUn(e:Expr)(k:UnaryOp->Expr->Pos->Bool):Bool:=el e.ctorIdx 3 λh=>Expr.UnaryOp.elim (motive_1:=λ_=>Bool) e h k
def Zk(h:eUn e k=true):∃o x p,e=.UnaryOp o x p/\k o x p=true:=by obtain⟨N,h⟩:=yS h;obtain⟨o,x,p,rfl⟩:∃o x p,e=.UnaryOp o x p:=Expr.UnaryOp.elim (motive_1:=λe=>∃o x p,e=Expr.UnaryOp o x p) e N λo x p=>⟨o,x,p,rfl⟩;exact⟨o,x,p,rfl,h⟩
def TH(e:Expr)(k:List (Option Expr)->List Expr->Pos->Bool):Bool:=el e.ctorIdx 6 λh=>Expr.Dict.elim (motive_1:=λ_=>Bool) e h k
def dZ(h:TH e k=true):∃ks vs p,e=.Dict ks vs p/\k ks vs p=true:=by obtain⟨N,h⟩:=yS h;obtain⟨ks,vs,p,rfl⟩:∃ks vs p,e=.Dict ks vs p:=Expr.Dict.elim (motive_1:=λe=>∃ks vs p,e=Expr.Dict ks vs p) e N λks vs p=>⟨ks,vs,p,rfl⟩;exact⟨ks,vs,p,rfl,h⟩
def WZ(e:Expr)(k:Expr->List DA->Scope->Pos->Bool):Bool:=el e.ctorIdx 8 λh=>GI (motive_1:=λ_=>Bool) e h k
def nv(h:WZ e k=true):∃x N sc p,e=.ListComp x N sc p/\k x N sc p=true:=by obtain⟨R,h⟩:=yS h;obtain⟨x,N,sc,p,rfl⟩:∃x N sc p,e=.ListComp x N sc p:=GI (motive_1:=λe=>∃x N sc p,e=Expr.ListComp x N sc p) e R λx N sc p=>⟨x,N,sc,p,rfl⟩;exact⟨x,N,sc,p,rfl,h⟩
def Wb(e:Expr)(k:Expr->List CmpOp->List Expr->Pos->Bool):Bool:=el e.ctorIdx 15 λh=>G5 (motive_1:=λ_=>Bool) e h k
def ny(h:Wb e k=true):∃l os N p,e=.Compare l os N p/\k l os N p=true:=by obtain⟨R,h⟩:=yS h;obtain⟨l,os,N,p,rfl⟩:∃l os N p,e=.Compare l os N p:=G5 (motive_1:=λe=>∃l os N p,e=Expr.Compare l os N p) e R λl os N p=>⟨l,os,N,p,rfl⟩;exact⟨l,os,N,p,rfl,h⟩
def dX(e:Expr)(k:Expr->List Expr->List Keyword->Pos->Bool):Bool:=el e.ctorIdx 16 λh=>Expr.Call.elim (motive_1:=λ_=>Bool) e h k
def pK(h:dX e k=true):∃f xs ks p,e=.Call f xs ks p/\k f xs ks p=true:=by obtain⟨N,h⟩:=yS h;obtain⟨f,xs,ks,p,rfl⟩:∃f xs ks p,e=.Call f xs ks p:=Expr.Call.elim (motive_1:=λe=>∃f xs ks p,e=Expr.Call f xs ks p) e N λf xs ks p=>⟨f,xs,ks,p,rfl⟩;exact⟨f,xs,ks,p,rfl,h⟩
def Ri(e:Expr)(k:Expr->Int->Option Expr->Pos->Bool):Bool:=el e.ctorIdx 17 λh=>Expr.FormattedValue.elim (motive_1:=λ_=>Bool) e h k
def eJn(e:Expr)(k:List Expr->Pos->Bool):Bool:=el e.ctorIdx 18 λh=>Expr.JoinedStr.elim (motive_1:=λ_=>Bool) e h k
def Wa(e:Expr)(k:Const->Nat->Pos->Bool):Bool:=el e.ctorIdx 19 λh=>Iv.elim (motive_1:=λ_=>Bool) e h k
def dY(h:Wa e k=true):∃c n p,e=.Constant c n p/\k c n p=true:=by obtain⟨N,h⟩:=yS h;obtain⟨c,n,p,rfl⟩:∃c n p,e=.Constant c n p:=Iv.elim (motive_1:=λe=>∃c n p,e=Iv c n p) e N λc n p=>⟨c,n,p,rfl⟩;exact⟨c,n,p,rfl,h⟩
def TC(e:Expr)(k:Expr->Str->Pos->Bool):Bool:=el e.ctorIdx 20 λh=>H9.elim (motive_1:=λ_=>Bool) e h k
def dU(h:TC e k=true):∃o x p,e=.Attribute o x p/\k o x p=true:=by obtain⟨N,h⟩:=yS h;obtain⟨o,x,p,rfl⟩:∃o x p,e=.Attribute o x p:=H9.elim (motive_1:=λe=>∃o x p,e=H9 o x p) e N λo x p=>⟨o,x,p,rfl⟩;exact⟨o,x,p,rfl,h⟩
def Zj(e:Expr)(k:Expr->Expr->Pos->Bool):Bool:=el e.ctorIdx 21 λh=>Ia.elim (motive_1:=λ_=>Bool) e h k
def rg(h:Zj e k=true):∃l r p,e=.Subscript l r p/\k l r p=true:=by obtain⟨N,h⟩:=yS h;obtain⟨l,r,p,rfl⟩:∃l r p,e=.Subscript l r p:=Ia.elim (motive_1:=λe=>∃l r p,e=Ia l r p) e N λl r p=>⟨l,r,p,rfl⟩;exact⟨l,r,p,rfl,h⟩
def eName(e:Expr)(k:Str->Pos->Bool):Bool:=el e.ctorIdx 23 λh=>FZ.elim (motive_1:=λ_=>Bool) e h k
def yo(h:eName e k=true):∃x p,e=.Name x p/\k x p=true:=by obtain⟨N,h⟩:=yS h;obtain⟨x,p,rfl⟩:∃x p,e=.Name x p:=FZ.elim (motive_1:=λe=>∃x p,e=FZ x p) e N λx p=>⟨x,p,rfl⟩;exact⟨x,p,rfl,h⟩
def TJ(e:Expr)(k:List Expr->Pos->Bool):Bool:=el e.ctorIdx 24 λh=>Expr.List.elim (motive_1:=λ_=>Bool) e h k
def da(h:TJ e k=true):∃xs p,e=.List xs p/\k xs p=true:=by obtain⟨N,h⟩:=yS h;obtain⟨xs,p,rfl⟩:∃xs p,e=.List xs p:=Expr.List.elim (motive_1:=λe=>∃xs p,e=Expr.List xs p) e N λxs p=>⟨xs,p,rfl⟩;exact⟨xs,p,rfl,h⟩
def dg(e:Expr)(k:List Expr->Nat->Pos->Bool):Bool:=el e.ctorIdx 25 λh=>Expr.Tuple.elim (motive_1:=λ_=>Bool) e h k
def uq(h:dg e k=true):∃xs n p,e=.Tuple xs n p/\k xs n p=true:=by obtain⟨N,h⟩:=yS h;obtain⟨xs,n,p,rfl⟩:∃xs n p,e=.Tuple xs n p:=Expr.Tuple.elim (motive_1:=λe=>∃xs n p,e=Expr.Tuple xs n p) e N λxs n p=>⟨xs,n,p,rfl⟩;exact⟨xs,n,p,rfl,h⟩
def TK(e:Expr)(k:Option Expr->Option Expr->Option Expr->Pos->Bool):Bool:=el e.ctorIdx 26 λh=>Expr.Slice.elim (motive_1:=λ_=>Bool) e h k
def de(h:TK e k=true):∃x y z p,e=.Slice x y z p/\k x y z p=true:=by obtain⟨N,h⟩:=yS h;obtain⟨x,y,z,p,rfl⟩:∃x y z p,e=.Slice x y z p:=Expr.Slice.elim (motive_1:=λe=>∃x y z p,e=Expr.Slice x y z p) e N λx y z p=>⟨x,y,z,p,rfl⟩;exact⟨x,y,z,p,rfl,h⟩
def S7(e:Stmt)(k:Option Expr->Pos->Bool):Bool:=el e.ctorIdx 3 λh=>Stmt.Return.elim (motive_2:=λ_=>Bool) e h k
def ab(h:S7 e k=true):∃o p,e=.Return o p/\k o p=true:=by obtain⟨N,h⟩:=yS h;obtain⟨o,p,rfl⟩:∃o p,e=.Return o p:=Stmt.Return.elim (motive_2:=λe=>∃o p,e=Stmt.Return o p) e N λo p=>⟨o,p,rfl⟩;exact⟨o,p,rfl,h⟩
def aX(e:Stmt)(k:List Expr->Expr->Pos->Bool):Bool:=el e.ctorIdx 5 λh=>Stmt.Assign.elim (motive_2:=λ_=>Bool) e h k
def tP(h:aX e k=true):∃ts v p,e=.Assign ts v p/\k ts v p=true:=by obtain⟨N,h⟩:=yS h;obtain⟨ts,v,p,rfl⟩:∃ts v p,e=.Assign ts v p:=Stmt.Assign.elim (motive_2:=λe=>∃ts v p,e=Stmt.Assign ts v p) e N λts v p=>⟨ts,v,p,rfl⟩;exact⟨ts,v,p,rfl,h⟩
def S4(e:Stmt)(k:Expr->Operator->Expr->Pos->Bool):Bool:=el e.ctorIdx 7 λh=>Ib.elim (motive_2:=λ_=>Bool) e h k
def aY(h:S4 e k=true):∃t o v p,e=.AugAssign t o v p/\k t o v p=true:=by obtain⟨N,h⟩:=yS h;obtain⟨t,o,v,p,rfl⟩:∃t o v p,e=.AugAssign t o v p:=Ib.elim (motive_2:=λe=>∃t o v p,e=Ib t o v p) e N λt o v p=>⟨t,o,v,p,rfl⟩;exact⟨t,o,v,p,rfl,h⟩
def S6(e:Stmt)(k:Expr->Expr->List Stmt->List Stmt->Pos->Bool):Bool:=el e.ctorIdx 9 λh=>Stmt.For.elim (motive_2:=λ_=>Bool) e h k
def aa(h:S6 e k=true):∃t i b c p,e=.For t i b c p/\k t i b c p=true:=by obtain⟨N,h⟩:=yS h;obtain⟨t,i,b,c,p,rfl⟩:∃t i b c p,e=.For t i b c p:=Stmt.For.elim (motive_2:=λe=>∃t i b c p,e=Stmt.For t i b c p) e N λt i b c p=>⟨t,i,b,c,p,rfl⟩;exact⟨t,i,b,c,p,rfl,h⟩
def sIf(e:Stmt)(k:Expr->List Stmt->List Stmt->Pos->Bool):Bool:=el e.ctorIdx 12 λh=>Stmt.If.elim (motive_2:=λ_=>Bool) e h k
def Y7(h:sIf e k=true):∃c a b p,e=.If c a b p/\k c a b p=true:=by obtain⟨N,h⟩:=yS h;obtain⟨c,a,b,p,rfl⟩:∃c a b p,e=.If c a b p:=Stmt.If.elim (motive_2:=λe=>∃c a b p,e=Stmt.If c a b p) e N λc a b p=>⟨c,a,b,p,rfl⟩;exact⟨c,a,b,p,rfl,h⟩
def sRs(e:Stmt)(k:Option Expr->Option Expr->Pos->Bool):Bool:=el e.ctorIdx 16 λh=>Stmt.Raise.elim (motive_2:=λ_=>Bool) e h k
def S5(e:Stmt)(k:Expr->Pos->Bool):Bool:=el e.ctorIdx 24 λh=>Stmt.Expr.elim (motive_2:=λ_=>Bool) e h k
def aZ(h:S5 e k=true):∃x p,e=.Expr x p/\k x p=true:=by obtain⟨N,h⟩:=yS h;obtain⟨x,p,rfl⟩:∃x p,e=.Expr x p:=Stmt.Expr.elim (motive_2:=λe=>∃x p,e=Stmt.Expr x p) e N λx p=>⟨x,p,rfl⟩;exact⟨x,p,rfl,h⟩
noncomputable def l1{N:Type}(xs:List N)(k:N->Bool):Bool:=match xs with
 |[x]=>k x
 |_=>false
def yX(h:l1 xs k=true):∃x,xs=[x]/\k x=true:=by
 cases xs with
 |nil=>cases h
 |cons x xs=>cases xs with
  |nil=>exact⟨x,rfl,h⟩
  |cons _ _=>cases h
noncomputable def lc{N:Type}(xs:List N)(k:N->List N->Bool):Bool:=match xs with
 |x::xs=>k x xs
 |[]=>false
def xF(h:lc xs k=true):∃x ys,xs=x::ys/\k x ys=true:=by
 cases xs with
 |nil=>cases h
 |cons x ys=>exact⟨x,ys,rfl,h⟩
def Va{xs}{k:α->α->Bool}(h:(lc xs λx ys=>l1 ys (k x))=true):∃x y,xs=[x,y]/\k x y=true:=by obtain⟨x,ys,rfl,h⟩:=xF h;obtain⟨y,rfl,h⟩:=yX h;exact⟨x,y,rfl,h⟩
noncomputable def o1{N:Type}(x:Option N)(k:N->Bool):Bool:=match x with
 |some x=>k x
 |none=>false
def bP(h:o1 x k=true):∃y,x=some y/\k y=true:=by
 cases x with
 |none=>cases h
 |some x=>exact⟨x,rfl,h⟩
def yt(h:(a&&b)=true):a=true/\b=true:=by
 cases a with
 |false=>cases h
 |true=>exact⟨rfl,h⟩
def eOp(u:UnaryOp)(e:Expr)(k:Expr->Bool):Bool:=eUn e λo x _=>decide (o=u)&&k x
def oO(h:eOp u e k=true):∃x p,e=.UnaryOp u x p/\k x=true:=by obtain⟨o,x,p,rfl,R⟩:=Zk h;obtain⟨S,N⟩:=yt R;cases of_decide_eq_true S;exact⟨x,p,rfl,N⟩
def eBl(u:BoolOp)(e:Expr)(k:Expr->List Expr->Bool):Bool:=Xe e λo xs _=>decide (o=u)&&lc xs k
def oN(h:eBl u e k=true):∃x xs p,e=.BoolOp u (x::xs) p/\k x xs=true:=by obtain⟨o,xs,p,rfl,S⟩:=gY h;obtain⟨U,R⟩:=yt S;cases of_decide_eq_true U;obtain⟨x,ys,rfl,N⟩:=xF R;exact⟨x,ys,p,rfl,N⟩
def eC1(e:Expr)(k:Expr->CmpOp->Expr->Bool):Bool:=Wb e λl os N _=>l1 os λo=>l1 N λr=>k l o r
def iA(h:eC1 e k=true):∃l o r p,e=.Compare l [o] [r] p/\k l o r=true:=by obtain⟨l,os,N,p,rfl,h⟩:=ny h;obtain⟨o,rfl,h⟩:=yX h;obtain⟨r,rfl,h⟩:=yX h;exact⟨l,o,r,p,rfl,h⟩
def eC2(e:Expr)(k:Expr->CmpOp->CmpOp->Expr->Expr->Bool):Bool:=Wb e λl os N _=>lc os λo os=>l1 os λS=>lc N λr N=>l1 N λR=>k l o S r R
def iB(h:eC2 e k=true):∃l o R r N p,e=.Compare l [o,R] [r,N] p/\k l o R r N=true:=by obtain⟨l,os,S,p,rfl,h⟩:=ny h;obtain⟨o,os,rfl,h⟩:=xF h;obtain⟨R,rfl,h⟩:=yX h;obtain⟨r,S,rfl,h⟩:=xF h;obtain⟨N,rfl,h⟩:=yX h;exact⟨l,o,R,r,N,p,rfl,h⟩
def eD0(e:Expr):Bool:=TH e λks vs _=>ks.isEmpty&&vs.isEmpty
def Zf(h:eD0 e=true):∃p,e=.Dict [] [] p:=by obtain⟨ks,vs,p,rfl,h⟩:=dZ h;obtain⟨R,N⟩:=yt h;rw[Br.mp R,Br.mp N];exact⟨p,rfl⟩
def eCN(e:Expr)(k:Str->List Expr->Bool):Bool:=dX e λf xs ks _=>ks.isEmpty&&eName f λx _=>k x xs
def wM(h:eCN e k=true):∃x p xs pos,e=.Call (.Name x p) xs [] pos/\k x xs=true:=by obtain⟨f,xs,ks,pos,rfl,h⟩:=pK h;obtain⟨N,h⟩:=yt h;obtain⟨x,p,rfl,h⟩:=yo h;rw[Br.mp N];exact⟨x,p,xs,pos,rfl,h⟩
def eMt(e:Expr)(k:Expr->Str->Pos->Expr->Pos->Bool):Bool:=dX e λf xs ks R=>ks.isEmpty&&TC f λN x ap=>l1 xs λy=>k N x ap y R
def Zg(h:eMt e k=true):∃N x ap y R,e=.Call (.Attribute N x ap) [y] [] R/\k N x ap y R=true:=by obtain⟨f,xs,ks,pos,rfl,h⟩:=pK h;obtain⟨S,h⟩:=yt h;obtain⟨N,x,ap,rfl,h⟩:=dU h;obtain⟨y,rfl,h⟩:=yX h;rw[Br.mp S];exact⟨N,x,ap,y,pos,rfl,h⟩
def eSS(e:Expr)(k:Expr->Option Expr->Option Expr->Option Expr->Bool):Bool:=Zj e λl r _=>TK r λx y z _=>k l x y z
def Zh(h:eSS e k=true):∃l x y z p pos,e=.Subscript l (.Slice x y z p) pos/\k l x y z=true:=by obtain⟨l,r,pos,rfl,h⟩:=rg h;obtain⟨x,y,z,p,rfl,h⟩:=de h;exact⟨l,x,y,z,p,pos,rfl,h⟩
noncomputable def gC(g:DA)(k:Expr->Expr->List Expr->Bool):Bool:=decide (g.is_async=0)&&k g.target g.iter g.ifs
def tq(h:gC g k=true):∃t i f,g=⟨t,i,f,0⟩/\k t i f=true:=by obtain⟨t,i,f,a⟩:=g;obtain⟨N,h⟩:=yt h;have N:a=0:=of_decide_eq_true N;subst N;exact⟨t,i,f,rfl,h⟩
def eG1(e:Expr)(k:Expr->Expr->Expr->List Expr->Scope->Bool):Bool:=WZ e λx N sc _=>l1 N λg=>gC g λt i f=>k x t i f sc
def iC(h:eG1 e k=true):∃x t i f sc p,e=.ListComp x [⟨t,i,f,0⟩] sc p/\k x t i f sc=true:=by obtain⟨x,U,sc,p,rfl,S⟩:=nv h;obtain⟨g,rfl,R⟩:=yX S;obtain⟨t,i,f,rfl,N⟩:=tq R;exact⟨x,t,i,f,sc,p,rfl,N⟩
def eG2(e:Expr)(k:Expr->Expr->Expr->List Expr->Expr->Expr->List Expr->Scope->Bool):Bool:=WZ e λx N sc _=>lc N λg N=>l1 N λS=>gC g λt i f=>gC S λR i2 f2=>k x t i f R i2 f2 sc
def iD(h:eG2 e k=true):∃x t i f N i2 f2 sc p,e=.ListComp x [⟨t,i,f,0⟩,⟨N,i2,f2,0⟩] sc p/\k x t i f N i2 f2 sc=true:=by obtain⟨x,Y,sc,p,rfl,X⟩:=nv h;obtain⟨g,Y,rfl,W⟩:=xF X;obtain⟨Z,rfl,U⟩:=yX W;obtain⟨t,i,f,rfl,S⟩:=tq U;obtain⟨N,i2,f2,rfl,R⟩:=tq S;exact⟨x,t,i,f,N,i2,f2,sc,p,rfl,R⟩
end M
end
section
namespace L2
open PySem PySem.Spec PyProof.Rows
noncomputable def vS(cells:List (Str × Addr)):List (Str × Gv)->List (Str × Addr)->List (Str × Addr)
 |[],acc=>acc
 |(n,k)::r,acc=>if k == .free then (match cells.lookup n with|some c=>vS cells r ((n,c)::acc)|none=>vS cells r acc) else vS cells r acc
theorem uQ:∀names acc,(∀x∈names,x.2=.free->∃c,env.cells.lookup x.1=some c) ->
 (forIn names acc λx cs =>(if x.2 == .free then do let a <-cellOf env x.1;pure (CZ ((x.1,a)::cs)) else pure (CZ cs):Sem (ForInStep (List (Str × Addr)))))=pure (vS env.cells names acc)
 |[],acc,_=>rfl
 |(n,k)::r,acc,h=>by
  rw[E2];dsimp only;unfold vS;by_cases hk:(k == A9)=true
  . have S:k=.free:=by simpa using hk
    obtain⟨c,U⟩:=h (n,k) AE S;have R:env.cells.lookup n=some c:=U;have N:cellOf env n=pure c:=by unfold cellOf;rw[R]
    rw[if_pos hk,if_pos hk,N,R,F0,F0];exact uQ r _ λx hx=>h x (Ay _ hx)
  . rw[if_neg hk,if_neg hk,F0]
    exact uQ r _ λx hx=>h x (Ay _ hx)
def wW(h:∀x∈scope.names,x.2=.free->∃c,env.cells.lookup x.1=some c):closureFor scope env=pure (vS env.cells scope.names []):=by
 have e:=uQ (env:=env) scope.names [] h;show (do let cs <-forIn scope.names [] _;pure cs)=_
 refine Hj ?_ e;refine Hj (bind_pure _) ?_;congr 1
theorem uk:∀names acc,(∀x c,acc.lookup x=some c->cells.lookup x=some c)->∀x c,(vS cells names acc).lookup x=some c->cells.lookup x=some c
 |[],acc,h,x,c,e=>h x c e
 |(n,k)::r,acc,h,x,c,e=>by
  unfold vS at e;by_cases hk:(k == A9)=true
  . rw[if_pos hk]at e
    cases hc:cells.lookup n with
    |none=>rw[hc]at e;exact uk r acc h x c e
    |some d=>
     rw[hc]at e;refine uk r _ (λy z q=>?_) x c e;rw[AD]at q;cases hy:(y == n) with
     |true=>rw[hy]at q;have N:y=n:=by simpa using hy
            cases q;rw[N];exact hc
     |false=>rw[hy]at q;exact h y z q
  . rw[if_neg hk]at e;exact uk r acc h x c e
theorem we:∀names acc x c,cells.lookup x=some c->(acc.lookup x=some c\/(x,A9)∈names)->(∀y d,acc.lookup y=some d->cells.lookup y=some d)->(vS cells names acc).lookup x=some c
 |[],acc,x,c,_,h,_=>by
  rcases h with h|h
  . exact h
  . cases h
 |(n,k)::r,acc,x,c,hc,h,ha=>by
  unfold vS;by_cases hk:(k == A9)=true
  . rw[if_pos hk]
    cases hn:cells.lookup n with
    |none=>
     refine we r acc x c hc ?_ ha;rcases h with h|h
     . exact .inl h
     . rcases Ar.mp h with e|e
       . cases e;rw[hn]at hc;cases hc
       . exact .inr e
    |some d=>
     have N:∀y z,((n,d)::acc).lookup y=some z->cells.lookup y=some z:=λy z q=>by
      rw[AD]at q;cases hy:(y == n) with
      |true=>rw[hy]at q;have R:y=n:=by simpa using hy
             cases q;rw[R];exact hn
      |false=>rw[hy]at q;exact ha y z q
     by_cases hx:x=n
     . subst hx
       refine we r _ x c hc (.inl ?_) N;rw[hn]at hc;cases hc;simp[AD]
     . refine we r _ x c hc ?_ N
       rcases h with h|h
       . refine .inl ?_
         have:(x == n)=false:=by simpa using hx
         rw[AD,this];exact h
       . rcases Ar.mp h with e|e
         . cases e;exact absurd rfl hx
         . exact .inr e
  . rw[if_neg hk]
    refine we r acc x c hc ?_ ha;rcases h with h|h
    . exact .inl h
    . rcases Ar.mp h with e|e
      . cases e;exact absurd (by decide) hk
      . exact .inr e
theorem uN:∀names n acc,DP n names acc=DP n names []++acc
 |[],_,_=>rfl
 |(x,k)::r,n,acc=>by
  unfold DP;split
  . rw[uN r (n+1) ((x,n)::acc),uN r (n+1) [(x,n)],Ak];rfl
  . exact uN r n acc
theorem oJ:∀names n {x} {c},(x,c)∈DP n names []->(x,BF)∈names/\n<=c
 |[],_,_,_,h=>by cases h
 |(y,k)::r,n,x,c,h=>by
  unfold DP at h;split at h
  . rename_i hk
    rw[uN]at h;rcases AQ.mp h with h|h
    . obtain⟨N,R⟩:=oJ r (n+1) h
      exact⟨Ay _ N,⋯⟩
    . cases Az.mp h
      have:k=.cell:=by simpa using hk
      rw[this];exact⟨AE,Ac _⟩
  . obtain⟨N,R⟩:=oJ r n h
    exact⟨Ay _ N,R⟩
theorem oI:∀names n {x},(x,BF)∈names->∃c,(x,c)∈DP n names []
 |[],_,_,h=>by cases h
 |(y,k)::r,n,x,h=>by
  unfold DP;rcases Ar.mp h with e|h
  . cases e
    rw[if_pos (by rfl),uN]
    exact⟨n,AZ _ AE⟩
  . split
    . obtain⟨c,N⟩:=oI r (n+1) h
      rw[uN];exact⟨c,Bl _ N⟩
    . exact oI r n h
def bC{l:List (Str × Addr)}:(x,c)∈l->∃d,l.lookup x=some d:=by
 induction l with
 |nil=>intro h;cases h
 |cons p r N=>
  intro h;rw[AD];cases hx:x == p.1 with
  |true=>exact⟨_,rfl⟩
  |false=>
   rcases Ar.mp h with e|h
   . rw[<-e]at hx;simp at hx
   . exact N h
def kM{l m:List (Str × Addr)}{x:Str}:(l++m).lookup x=match l.lookup x with|some c=>some c|none=>m.lookup x:=by
 induction l with
 |nil=>rfl
 |cons p r N=>
  rw[CL,AD,AD];cases hx:x == p.1 with
  |true=>rfl
  |false=>exact N
noncomputable def wH(sc:Scope)(C:Addr):List (Str × Addr):=DP (C+1) sc.names []
def Yf(h:Heap)sc:∃h',CellsOk h' (h.objs.size+1) (wH sc h.objs.size):=by
 have ok:=cellsFrom_ok sc.names (h.push {cls:=.type "dict",data:=.dict #[]}) (h.objs.size+1) [] ⟨λ_ _ N=>(nomatch N),G4⟩ (by rw[B9];exact Ac _)
 rw[B9]at ok;exact⟨_,ok⟩
abbrev Cx.comp(X:Cx)(N:List Str)(sc:Scope)(C:Addr)(s:Shared)(H:Hp)(ex:List Addr):Cx:=
 {X with N:=N,l:=s,r:=H,a:=compEnvC sc (wH sc C++vS X.a.cells sc.names []) C X.a,k:=X.j,n:=ex,m:=λx=>sc.names.any λp=>decide (p=(x,BF)),q:=[],h:=λ_ _=>False}
structure zZ(X:Cx)(N:List Str)(sc:Scope)(fr:List (Option Nat)):Prop where
 b:sc.kind=.function
 e:∀x,(x,BF)∈sc.names->(x,A9)∈sc.names->False
 a:∀x∈sc.names,x.2=.local->sc.names.lookup x.1=some .local
 d:∀x∈sc.names,x.2=.free->X.a.kindOf x.1=some .cell\/X.a.kindOf x.1=some .free
 g:fr.length=N.length
 f:∀(i j:Nat) (x:Str),N[i]?=some x->fr[i]?=some (some j)->X.N[j]?=some x/\(x,A9)∈sc.names
 h:∀x,sc.names.lookup x=some .local->(x,A9)∈sc.names->False
noncomputable def zG(fr:List (Option Nat))(σ:St):St:=fr.map λo=>match o with|some j=>(σ[j]?).join|none=>none
def nG(h:(relabel sc env).names.lookup x=some .cell\/(relabel sc env).names.lookup x=some .free):(x,A9)∈sc.names\/(x,BF)∈sc.names:=by
 have key:∀(names:List (Str × Gv)),((names.map λ(n,k)=>if (k == A9&&env.scope.kind == .function&&env.kindOf n == some .cell) then (n,BF) else (n,k)).lookup x=some .cell \/
  (names.map λ(n,k)=>if (k == A9&&env.scope.kind == .function&&env.kindOf n == some .cell) then (n,BF) else (n,k)).lookup x=some .free)->(x,A9)∈names\/(x,BF)∈names:=by
  intro names;induction names with
  |nil=>intro h;simp at h
  |cons p r S=>
   obtain⟨n,k⟩:=p;intro h;rw[AB]at h;dsimp only at h;by_cases hx:x=n
   . subst hx
     by_cases hf:k=.free
     . subst hf;exact .inl AE
     . have R:(k == A9)=false:=by simpa using hf
       rw[R]at h;simp only[Em,Au,if_false,AD,beq_self_eq_true]at h;rcases h with h|h
       . cases h;exact .inr AE
       . cases h;exact absurd rfl hf
   . have N:(x == n)=false:=by simpa using hx
     have:=S (by split at h<;>simpa only[AD,N] using h)
     exact this.elim (λz=>.inl (Ay _ z)) λz=>.inr (Ay _ z)
 exact key sc.names h
def vJ(h:sc.names.lookup x=some .cell):(relabel sc env).names.lookup x=some .cell:=by
 have key:∀(names:List (Str × Gv)),names.lookup x=some .cell->(names.map λ(n,k)=>if (k == A9&&env.scope.kind == .function&&env.kindOf n == some .cell) then (n,BF) else (n,k)).lookup x=some .cell:=by
  intro names;induction names with
  |nil=>intro h;simp at h
  |cons p r N=>
   obtain⟨n,k⟩:=p;intro h;rw[AB];dsimp only;cases hx:(x == n) with
   |true=>
    rw[AD,hx]at h;cases h;have e:(BF == A9)=false:=rfl;rw[e];simp only[Em,Au,if_false,AD,hx]
   |false=>
    rw[AD,hx]at h;have:=N h;split<;>simpa only[AD,hx] using this
 exact key sc.names h
def tK(R:∀y∈sc.names,y.2=.local->sc.names.lookup y.1=some .local)(h:sc.names.lookup x=some .free) :
 (relabel sc env).names.lookup x=some .cell\/(relabel sc env).names.lookup x=some .free:=by
 have key:∀(names:List (Str × Gv)),names.lookup x=some .free->((names.map λ(n,k)=>if (k == A9&&env.scope.kind == .function&&env.kindOf n == some .cell) then (n,BF) else (n,k)).lookup x=some .cell \/
  (names.map λ(n,k)=>if (k == A9&&env.scope.kind == .function&&env.kindOf n == some .cell) then (n,BF) else (n,k)).lookup x=some .free):=by
  intro names;induction names with
  |nil=>intro h;simp at h
  |cons p r N=>
   obtain⟨n,k⟩:=p;intro h;rw[AB];dsimp only;cases hx:(x == n) with
   |true=>
    rw[AD,hx]at h;cases h;split
    . left;simp only[AD,hx]
    . right;simp only[AD,hx]
   |false=>
    rw[AD,hx]at h;have:=N h;split<;>simpa only[AD,hx] using this
 exact key sc.names h
theorem zZ.cells(S:zZ X N sc fr)(ok:X.Ok):∀x∈sc.names,x.2=.free->∃c,X.a.cells.lookup x.1=some c:=λx hx hk=>ok.J x.1 (S.d x hx hk)
def wd(h:(wH sc C++vS cells sc.names []).lookup x=some c):((wH sc C).lookup x=some c)\/((wH sc C).lookup x=none/\cells.lookup x=some c):=by
 rw[kM]at h;cases ho:(wH sc C).lookup x with
 |some d=>rw[ho]at h;exact .inl h
 |none=>rw[ho]at h;exact .inr ⟨rfl,uk sc.names [] (λx c e=>by simp at e) x c h⟩
def qM(h:(wH sc C).lookup x=some c):@LE.le Nat _ (C+1) c:=(oJ sc.names (C+1) (mem_of_lookup h)).2
def bU(S:zZ X N sc fr)(h:(x,A9)∈sc.names):(wH sc C).lookup x=none:=by
 cases ho:(wH sc C).lookup x with
 |none=>rfl
 |some d=>exact(S.e x (oJ sc.names (C+1) (mem_of_lookup ho)).1 h).elim
def ZZ(I:Inv X pins σ H s)(S:zZ X N sc fr)(hf:∀b∈fp,vQ X pins H b)(hlt:∀b∈fp,b<s.heap.objs.size):(X.comp N sc s.heap.objs.size s H fp).Ok:=by
 obtain⟨h',hok⟩:=Yf s.heap sc;have old:∀x c,X.a.cells.lookup x=some c->@LT.lt Nat _ c s.heap.objs.size:=λx c e=>by obtain⟨v,z⟩:=I.C x c e;exact z.lt
 refine⟨I.y.u,S.b,I.y.s,I.y.G,Ac _,λx y c Z Y=>?_,λx h=>?_,λx c h e=>?_,I.y.l,I.y.m,.inl rfl,λb U=>?_,λb o e=>I.bs b o e,?_,λb o e U=>?_,λb U z=>?_,I.stack,I.gG⟩
 . rcases wd Z with Z|⟨_,Z⟩<;>rcases wd Y with Y|⟨_,Y⟩
   . exact name_of_addr hok.apart (mem_of_lookup Z) (mem_of_lookup Y)
   . exact absurd (AL (old _ _ Y) (Ao (Dp _) (qM Z))) (B5 _)
   . exact absurd (AL (old _ _ Z) (Ao (Dp _) (qM Y))) (B5 _)
   . exact I.y.L x y c Z Y
 . show ∃c,(wH sc s.heap.objs.size++vS X.a.cells sc.names []).lookup x=some c
   rw[kM];rcases nG h with m|m
   . obtain⟨c,hc⟩:=S.cells I.y (x,.free) m rfl
     rw[bU S m];exact⟨c,we sc.names [] x c hc (.inr m) (λy d e=>by simp at e)⟩
   . obtain⟨c,hc⟩:=oI sc.names (s.heap.objs.size+1) m
     obtain⟨d,hd⟩:=bC hc;have R:(wH sc s.heap.objs.size).lookup x=some d:=hd;rw[R];exact⟨d,rfl⟩
 . have m:(x,BF)∈sc.names:=by obtain⟨p,hp,e'⟩:=CM.mp h;rw[<-of_decide_eq_true e'];exact hp
   rcases wd e with e|⟨e,_⟩
   . exact Ao (Dp _) (qM e)
   . obtain⟨c',hc⟩:=oI sc.names (s.heap.objs.size+1) m
     obtain⟨d,hd⟩:=bC hc;have R:(wH sc s.heap.objs.size).lookup x=some d:=hd;rw[R]at e;cases e
 . obtain⟨f0,f1,f2,W,f4,f5⟩:=hf b U
   refine⟨Ax (hlt b U),λx c e=>?_⟩;rcases wd e with e|⟨_,e⟩
   . exact λz=>absurd (AL (z▸hlt b U) (Ao (Dp _) (qM e))) (B5 _)
   . exact f4 x c e
 . exact Ao I.y.B I.sz
 . obtain⟨f0,f1,f2,W,f4,f5⟩:=hf b U
   rcases W with W|W
   . exact I.y.w b o e W
   . exact absurd (AL (An e) (Ao I.y.B W)) (B5 _)
 . obtain⟨f0,f1,f2,W,f4,f5⟩:=hf b U
   rcases Ar.mp (I.jU b z) with e|e
   . exact f1 e
   . exact f2 e
def rY(I:Inv X pins σ H s)(S:zZ X N sc fr)(hf:∀b∈fp,vQ X pins H b)(hlt:∀b∈fp,b<s.heap.objs.size)
 (hns:h'.Ns s.heap.objs.size (λ_=>none)) (k:∀b o,s.heap.get? b=some o->h'.get? b=some o) (W:∀x c,(wH sc s.heap.objs.size).lookup x=some c->h'.IsCell c none):Inv (X.comp N sc s.heap.objs.size s H fp) [] (zG fr σ) H {s with heap:=h',toks:=tk}:=by
 refine⟨ZZ I S hf hlt,rfl,I.G,Un.kept k,⟨_,hns,λi x v e1 e2 U=>?_⟩,λx c e=>?_,I.j.fresh (Ac _),λx c e=>?_,λp hp=>(by simp at hp),I.j.kept k,?_⟩
 . have R:(fr.map λo=>match o with|some j=>(σ[j]?).join|none=>none)[i]?=some (some v):=e2
   rw[Am]at R;cases hfi:fr[i]? with
   |none=>rw[hfi]at R;cases R
   |some o=>
    rw[hfi]at R;cases o with
    |none=>cases R
    |some j=>
     obtain⟨n1,n2⟩:=S.f i j x e1 hfi;have e3':σ[j]?=some (some v):=by
      have q:(σ[j]?).join=some v:=AK R;cases hσ:σ[j]? with
      |none=>rw[hσ]at q;cases q
      |some w=>rw[hσ]at q;cases w with
       |none=>cases q
       |some w'=>have:w'=v:=AK q
                 rw[this]
     have hk:=S.d (x,.free) n2 rfl;obtain⟨m,hn,hl⟩:=I.M;obtain⟨u,r,l⟩:=hl j x v n1 e3' (hk.elim (λz=>.inr (.inl z)) λz=>.inr (.inr z));refine⟨u,r,?_⟩;rcases l with⟨Z,_⟩|⟨_,c,hc,z⟩
     . rcases hk with hk|hk<;>(rw[hk]at Z;cases Z)
     . refine .inr ⟨?_,c,(by show (wH sc s.heap.objs.size++vS X.a.cells sc.names []).lookup x=some c;rw[kM,bU S n2];exact we sc.names [] x c hc (.inr n2) (λy d e=>by simp at e)),?_⟩
       . rcases U with U|U|U
         . -- a local of that name: cannot be,the name is free in the block
           exfalso;have Y:sc.names.lookup x=some .local:=by
            have key:∀(names:List (Str × Gv)),(names.map λ(n,k)=>if (k == A9&&X.a.scope.kind == .function&&X.a.kindOf n == some .cell) then (n,BF) else (n,k)).lookup x=some .local->names.lookup x=some .local:=by
             intro names;induction names with
             |nil=>intro h;simp at h
             |cons p r ih=>
              obtain⟨n,kk⟩:=p;intro h;rw[AB]at h;dsimp only at h;cases hx:(x == n) with
              |true=>
               split at h
               . simp only[AD,hx]at h;cases h
               . simp only[AD,hx]at h ⊢;exact h
              |false=>
               rw[AD,hx];refine ih ?_;split at h<;>simpa only[AD,hx] using h
            exact key sc.names U
           exact S.h x Y n2
         . exact .inl U
         . exact .inr U
       . obtain⟨o,ho,hd⟩:=z
         exact⟨o,k _ _ ho,hd⟩
 . rcases wd e with e|⟨_,e⟩
   . exact⟨none,W x c e⟩
   . obtain⟨v,o,ho,hd⟩:=I.C x c e
     exact⟨v,o,k _ _ ho,hd⟩
 . rcases wd e with e|⟨_,e⟩
   . exact I.j.fresh (Ao (Dp _) (qM e))
   . exact I.J x c e
 . show (fr.map _).length=N.length
   rw[Aa];exact S.g
def nO:List TT->TT
 |[]=>λ_ H Q=>Q true H
 |t::ts=>λσ H Q=>t σ H λc H1=>if c=true then nO ts σ H1 Q else Q false H1
inductive PTs(X:Cx):List Expr->List TT->Prop
 |b:PTs X [] []
 |a {c:Expr} {cs:List Expr} {t:TT} {ts:List TT}:PT X c t->PTs X cs ts->PTs X (c::cs) (t::ts)
theorem sW{X:Cx}(h:Q false s):∀cs:List Expr,
 wpAny (model X.f X.w) X.A (forIn cs false λc r=>if r=true then do let ok <-isTrue c X.a (eval c X.a);pure (CZ ok) else pure (CZ r)) Q E s
 |[]=>zO h
 |c::cs=>by rw[E2];exact dm (zO (sW h cs))
theorem PTs.run:∀{cs} {ts},PTs X cs ts->∀{pins} {s} {σ} {H} {Q},Inv X pins σ H s->nO ts σ H Q ->
 wpAny (model X.f X.w) X.A (forIn cs true λc r=>if r=true then do let ok <-isTrue c X.a (eval c X.a);pure (CZ ok) else pure (CZ r)) (TP X pins σ Q) X.h s
 |_,_,.b,pins,s,σ,H,Q,I,h=>zO ⟨H,I,h⟩
 |_,_,.a hc hs,pins,s,σ,H,Q,I,h=>by
  rw[E2];refine dm (dm (thn (hc pins s σ H _ I h) λc s1 ⟨H1,I1,q1⟩=>zO ?_));cases c with
  |true=>exact hs.run I1 q1
  |false=>exact sW ⟨H1,I1,q1⟩ _
abbrev TB:=(St->Hp->Prop)->St->Hp->Prop
def PB(X:Cx)(B:Sem PUnit)(tb:TB):Prop:=
 ∀(pins:List (Addr × Obj)) (s:Shared) (σ:St) (H:Hp) (R:St->Hp->Prop),Inv X pins σ H s->tb R σ H->wpAny (model X.f X.w) X.A B (λ_ s'=>∃N H',Inv X pins N H' s'/\R N H') X.h s
def tTB(ts:List TT)(tb:TB):TS:=λD σ H=>nO ts σ H λc H1=>if c=true then tb D.a σ H1 else D.a σ H1
def tH(J:It)(g:TG)(tb:TS)(D:Ends)(σ:St)(H:Hp):Prop:=∃W:Nat->Nat->St->Hp->Prop,(∃m,W 0 m σ H)/\∀i m σ H,W i m σ H ->
 (J.a i H/\D.a σ H)\/(J.c i H/\∃N:St->Hp->Prop,(∀R H',N R H'->∃U,U<m/\W (i+1) U R H')/\∀x H',J.b i H x H'->g x σ H' λS H2=>tb {D with a:=N,c:=N,b:=D.a} S H2)
def wg{X:Cx}{elt:Expr}{gens:List DA}{csc:Scope}{cpos:Pos}{d:Nat}{tg:Expr}{p:Pos}{ifs:List Expr}{B:Sem PUnit}{acc:Value}{it:Addr}{fp:List Addr}{tn:Nat->Heap->Prop}{J:It}{g:TG}{ts:List TT}{tb:TB}{D:Ends}
 {pins:List (Addr × Obj)} {σ:St} {H:Hp} {s:Shared} {R:Result->Shared->Prop}
 (heq:Cy (.ListComp elt gens csc cpos) d (.ref it) acc X.a=(do
  standAt p
  match <-pyNext (.ref it) with
  |none=>pure (.done .next)
  |some v=>
   Bk tg (.ref it) v
   assign tg X.a v
   let mut ok:=true
   for c in ifs do
    if ok then ok <-isTrue c X.a (eval c X.a)
   if ok then B
   again (.compLoop (.ListComp elt gens csc cpos) d (.ref it) acc X.a)))
 (hx:X.h=λ_ _=>False) (hc:X.g=true) (T:Turn X.f X.w X.K tg J fp it tn) (hg:PG X tg g) (ht:PTs X ifs ts) (hb:PB X B tb)
 (I:Inv X pins σ H s) (st:tn 0 s.heap) (f:∀b∈fp,vQ X pins H b) (h:tH J g (tTB ts tb) D σ H)
 (hR:∀S H' s',Inv X pins S H' s'->D.a S H'->(∀b∈fp,H' b=none)->R (.ok .next) s') :
 codeAny (model X.f X.w) X.A (.compLoop (.ListComp elt gens csc cpos) d (.ref it) acc X.a) R s:=by
 refine byG λpi U=>?_;obtain⟨W,⟨m0,w0⟩,turn⟩:=h;refine U ?_;have stat:∀{H':Hp},(∀b∈fp,H' b=none)->∀b∈fp,vQ X pins H' b:=λhn b hb=>⟨hn b hb,(f b hb).2⟩;have no:∀{α:Type} {t:Sem α} {Q:α->Shared->Prop} {E':Value->Shared->Prop} {s:Shared},wpAny (model X.f X.w) X.A t Q X.h s->wpAny (model X.f X.w) X.A t Q E' s:=λh=>BU h (λ_ _ q=>q) λ_ _ z=>by rw[hx]at z;exact z.elim
 refine codeAny_loop rfl (λn s'=>∃i S H',Inv X pins S H' s'/\tn i s'.heap/\(∀b∈fp,H' b=none)/\W i n S H') (λn s3 hI=>?_) m0 ⟨0,σ,H,I,st,λb hb=>(f b hb).1,w0⟩;refine byG λpi U=>?_;obtain⟨i,σ3,H3,I3,st3,fr3,w3⟩:=hI;refine U ?_;show wpAny _ _ ((Cy (.ListComp elt gens csc cpos) d (.ref it) acc X.a).onRaise (λx=>do HN x X.a;theTreesLotGoes x)) _ _ s3
 refine wpAny_noted ?_;rw[heq];refine dm (BK (dm ?_));rcases turn i n σ3 H3 w3 with⟨stop,qn⟩|⟨go,N,hN,step⟩
 . refine no (thn (T.e X rfl rfl rfl hc i pins s3 σ3 H3 X.h I3 (stat fr3) st3 stop) λr s4 zn=>?_)
   obtain⟨hr,I4⟩:=zn;subst hr;exact zO (hR σ3 H3 s4 I4 qn fr3)
 . refine no (thn (T.f X rfl rfl rfl hc i pins s3 σ3 H3 X.h I3 (stat fr3) st3 go) λr s4 zn=>?_)
   obtain⟨u,hr,h4⟩:=zn;subst hr;refine dm (no (thn h4 λ_ s5 zn=>?_));refine byG λpi U=>?_;obtain⟨x,H5,I5,r5,y5,st5,fr5⟩:=zn;refine U ?_;have I5':=I5.pinned (stat fr5) (T.c _ _ st5);refine dm (no (thn (hg _ s5 σ3 H5 x u _ I5' r5 (step x H5 y5)) λ_ s6 zn=>?_));refine byG λpi U=>?_;obtain⟨σ6,H6,I6,q6⟩:=zn;refine U ?_;refine dm (no (thn (ht.run I6 q6) λok s7 zn=>?_));obtain⟨H7,I7,q7⟩:=zn;have Y:∀{Z:St} {H7:Hp} {s7:Shared},Inv X (pins++sE fp s5.heap) Z H7 s7->N Z H7->∃m,m<n/\∃i S H',Inv X pins S H' s7/\tn i s7.heap/\(∀b∈fp,H' b=none)/\W i m S H':=λ{Z H7 s7} I7 n7=>by obtain⟨m',hm,w7⟩:=hN Z H7 n7;refine⟨m',hm,i+1,Z,H7,I7.vn,T.a _ _ _ st5 λb hb o e=>(I7.O (b,o) (AZ _ (AZ _ (xH hb e)))).1,λb hb=>?_,w7⟩;obtain⟨o,e,d⟩:=T.c _ _ st5 b hb;exact(I7.O (b,o) (AZ _ (AZ _ (xH hb e)))).2.1
   cases ok with
   |false=>exact zO ⟨rfl,Y I7 q7⟩
   |true=>exact dm (no (thn (hb _ s7 σ6 H7 N I7 q7) λ_ s8 ⟨σ8,H8,I8,n8⟩=>zO ⟨rfl,Y I8 n8⟩))
def sV(acc:Addr)(te:TE):TB:=λN σ H=>te σ H λy H1=>∃ys,H1 acc=some (.b ys)/\ys.length<AH/\N σ (upd H1 acc (.b (ys++[y])))
def rG(he:PE X elt te):PB X (do let _ <-call (.builtin "list.append") [.ref acc,<-eval elt X.a]) (sV acc te):=by intro pins s σ H Y I h;refine dm (thn (he pins s σ H _ I h) λu s1 N=>?_);obtain⟨y,H1,I1,R,ys,W,U,q⟩:=N;refine dm (thn (pT pins s1 σ H1 (.c acc) [y] (.ref acc) [u] (λ_ H'=>Y σ H') I1 rfl (.cons R .nil) ⟨acc,ys,y,rfl,rfl,W,U,q⟩) λ_ s2 N=>?_);obtain⟨_,H2,I2,_,S⟩:=N;exact zO ⟨σ,H2,I2,S⟩
def vh(fr:List (Option Nat))(wi:TI)(g:TG)(ts:List TT)(tb:Addr->TB)(σ:St)(H:Hp)(Q:VK):Prop:=
 wi σ H λJ H1=>∀acc,H1 acc=none->tH J g (tTB ts (tb acc)) ⟨λ_ H'=>Q (.c acc) H',λ_ _=>False,λ_ _=>False,λ_ _=>False⟩ (zG fr σ) (upd H1 acc (.b []))
section
variable {X:Cx}{pins:List (Addr × Obj)}{σ:St}{H:Hp}{s:Shared}{N:List Str}{csc:Scope}{fr:List (Option Nat)}{elt tg iter:Expr}{ifs:List Expr}{rest:List DA}{cpos:Pos}{wi:TI}{g:TG}{ts:List TT}{tb:Addr->TB}
def qd{outer:Env}{Q:Env->Shared->Prop}
 (S:∀h':Heap,h'.Ns s.heap.objs.size (λ_=>none)->(∀b o,s.heap.get? b=some o->h'.get? b=some o)->(∀x c,(wH scope s.heap.objs.size).lookup x=some c->h'.IsCell c none) ->
  Q {scope:=scope,locals:=s.heap.objs.size,globals:=globals,cells:=wH scope s.heap.objs.size++cl,qual:=qual,func:=none,code:=outer.code,frame:=outer.frame,builtins:=outer.builtins} {s with heap:=h'}) :
 wpAny M A (Gw scope globals cl [] qual none .none (some outer)) Q E s:=by
 simp only[Gw,Option.isSome_some,if_true];refine dm (wpAny_alloc ?_);refine dm (wpAny_layCells _ (λname kind cells=>by cases hkc:kind == BF<;>simp[hkc]) _ _ _ _ ?_)
 have ok:=cellsFrom_ok scope.names (s.heap.push {cls:=.type "dict",data:=.dict #[]}) (s.heap.objs.size+1) [] ⟨λ_ _ N=>(nomatch N),G4⟩ (by rw[B9];exact Ac _)
 rw[B9]at ok;rw[show ({s with heap:=s.heap.push {cls:=.type "dict",data:=.dict #[]}}:Shared).heap.objs.size=s.heap.objs.size+1 from B9 ..]
 rw[Ft];refine dm (zO (zO ?_));rw[uN];exact S _ ((Heap.Ns.new s.heap (.type "dict")).keeps (pushCells_keeps _ _)) (λb o e=>pushCells_keeps _ _ b o (xd _ e)) λx c R=>(ok.empty x c (mem_of_lookup R)).1
def pI{use:Option (Value->Sem Unit)}{QQ:Value->Shared->Prop}{Qv:VK}{B:Value->Env->Sem PUnit}{E:Value->Shared->Prop}(hE:E=X.h)(hc:X.g=true)(S:zZ X N csc fr)(hi:PI X tg iter wi)
 (hturn:∀(it:Addr) (acc:Value) (env:Env),Cy (.ListComp elt (⟨tg,iter,ifs,0⟩::rest) csc cpos) 0 (.ref it) acc env=(do
  standAt iter.pos
  match <-pyNext (.ref it) with
  |none=>pure (.done .next)
  |some v=>
   Bk tg (.ref it) v
   assign tg env v
   let mut ok:=true
   for c in ifs do
    if ok then ok <-isTrue c env (eval c env)
   if ok then B acc env
   again (.compLoop (.ListComp elt (⟨tg,iter,ifs,0⟩::rest) csc cpos) 0 (.ref it) acc env)))
 (hg:∀C s0 H0 ex,PG (X.comp N csc C s0 H0 ex) tg g) (ht:∀C s0 H0 ex,PTs (X.comp N csc C s0 H0 ex) ifs ts)
 (U:∀C s0 H0 ex acc,(∃W,Inv X W σ H0 s0/\∀b∈ex,vQ X W H0 b)->PB (X.comp N csc C s0 H0 ex) (B (.ref acc) (X.comp N csc C s0 H0 ex).a) (tb acc))
 (I:Inv X pins σ H s) (h:vh fr wi g ts tb σ H Qv)
 (hfin:∀acc C H' s',Inv X pins σ H' s'->Qv (.c acc) H'->(∃m,s'.heap.Ns C m)->H' C=none->C≠X.a.locals->X.l.heap.objs.size<=C->(∀x c,X.a.cells.lookup x=some c->c≠C)->(∀p∈X.q++pins,p.1≠C) ->
  FU (model X.f X.w) X.A X.h use QQ (.ref acc) C (.ok .next) s') :
 wpAny (model X.f X.w) X.A (eval iter X.a) (λx s₁=>wpAny (model X.f X.w) X.A (pyIter x) (λit s₂=>wpAny (model X.f X.w) X.A (newList []) (λacc s₃=>
  wpAny (model X.f X.w) X.A (Gw csc X.a.globals (vS X.a.cells csc.names []) [] X.a.qual none .none (some X.a)) (λcenv s₄=>
   codeAny (model X.f X.w) X.A (.compStart (.ListComp elt (⟨tg,iter,ifs,0⟩::rest) csc cpos) 0 it acc {cenv with scope:=relabel csc X.a}) (FU (model X.f X.w) X.A E use QQ acc cenv.locals) s₄) E s₃) E s₂) E s₁) E s:=by
 subst hE;refine thn (hi pins s σ H _ I h) λv s1 h1=>thn h1 λitv s2 h2=>?_;refine byG λpi gqa=>?_;obtain⟨it,fp,tn,J,H2,e,I2,T,st2,f2,q2⟩:=h2;refine gqa ?_;subst e;refine Bm ?_;have hfr:H2 s2.heap.objs.size=none:=I2.j.fresh (Ac _);have q3:=q2 s2.heap.objs.size hfr;generalize Y:({s2 with heap:=s2.heap.push {cls:=.type "list",dict:=none,data:=.seq ([]:List Value).toArray}}:Shared)=s3
 have k23:∀b u,s2.heap.get? b=some u->s3.heap.get? b=some u:=λb u e=>by rw[<-Y];exact xd _ e
 have new3:s3.heap.get? s2.heap.objs.size=some {cls:=.type "list",dict:=none,data:=.seq ([]:List Value).toArray}:=by rw[<-Y];exact AA _ rfl
 have I3:Inv X pins σ (upd H2 s2.heap.objs.size (.b [])) s3:=by rw[<-Y];exact I2.laid (t':=s2.toks) (λb u e=>xd _ e) (Ac _) ⟨AS _,[],0,.nil,AA _ rfl⟩
 have lt2:∀b∈fp,b<s2.heap.objs.size:=λb U=>by obtain⟨o,e,_⟩:=T.c _ _ st2 b U;exact An e
 have hsz:s3.heap.objs.size=s2.heap.objs.size+1:=by rw[<-Y];exact B9 ..
 have f3:∀b∈fp,vQ X pins (upd H2 s2.heap.objs.size (.b [])) b:=λb U=>⟨by rw[zP (Ax (lt2 b U))];exact(f2 b U).1,(f2 b U).2⟩
 have lt3:∀b∈fp,b<s3.heap.objs.size:=λb U=>by rw[hsz];exact Bu (lt2 b U)
 refine qd λh4 hns4' k34 own4=>?_;have I4:=rY (tk:=s3.toks) I3 S f3 lt3 hns4' k34 own4;have st4:tn 0 h4:=T.a _ _ _ st2 λb U o e=>k34 b o (k23 b o e);have f4:∀b∈fp,vQ (X.comp N csc s3.heap.objs.size s3 (upd H2 s2.heap.objs.size (.b [])) fp) [] (upd H2 s2.heap.objs.size (.b [])) b:=λb U=>by have ok:=I4.y;obtain⟨g1,g2⟩:=ok.H b U;exact⟨(f3 b U).1,g1,ok.r b U,.inl U,g2,λp hp=>by simp at hp⟩
 have fin:∀σ' H' s',Inv (X.comp N csc s3.heap.objs.size s3 (upd H2 s2.heap.objs.size (.b [])) fp) [] σ' H' s'->Qv (.c s2.heap.objs.size) H'->(∀b∈fp,H' b=none) ->
  FU (model X.f X.w) X.A X.h use QQ (.ref s2.heap.objs.size) s3.heap.objs.size (.ok .next) s':=λσ' H' s' I' q' _=>by
  have IX:Inv X pins σ H' s':=I3.Xc I'.R I'.B I'.j I'.G λb U=>by refine byG λpi gqa=>?_;obtain⟨g0,g1,g2,g3,g4,g5⟩:=f3 b U;refine gqa ?_;exact⟨g3,g1,g4,g5⟩
  obtain⟨m,hn,_⟩:=I'.M;refine hfin _ _ H' s' IX q' ⟨m,hn⟩ I'.F (El I3.lt) I3.sz (λx c e=>?_) λp hp=>?_
  . obtain⟨w',z⟩:=I3.C x c e
    exact Ax z.lt
  . exact Ax (An (I3.O p hp).1)
 have Z:codeAny (model X.f X.w) X.A (.compLoop (.ListComp elt (⟨tg,iter,ifs,0⟩::rest) csc cpos) 0 (.ref it) (.ref s2.heap.objs.size) (compEnvC csc (wH csc s3.heap.objs.size++vS X.a.cells csc.names []) s3.heap.objs.size X.a))
  (FU (model X.f X.w) X.A X.h use QQ (.ref s2.heap.objs.size) s3.heap.objs.size) {s3 with heap:=h4}:=
  wg (X:=X.comp N csc s3.heap.objs.size s3 (upd H2 s2.heap.objs.size (.b [])) fp) (hturn it _ _) rfl hc T (hg _ _ _ _) (ht _ _ _ _) (U _ _ _ _ _ ⟨pins,I3,f3⟩) I4 st4 f4 q3 fin
 exact codeAny_compStart_list Z (T.d X.A 0 _ _ _ st4 Z)
def mw{B:Value->Env->Sem PUnit}(hc:X.g=true)(S:zZ X N csc fr)(hi:PI X tg iter wi)
 (U:∀(it:Addr) (acc:Value) (env:Env),Cy (.ListComp elt (⟨tg,iter,ifs,0⟩::rest) csc cpos) 0 (.ref it) acc env=(do
  standAt iter.pos
  match <-pyNext (.ref it) with
  |none=>pure (.done .next)
  |some v=>
   Bk tg (.ref it) v
   assign tg env v
   let mut ok:=true
   for c in ifs do
    if ok then ok <-isTrue c env (eval c env)
   if ok then B acc env
   again (.compLoop (.ListComp elt (⟨tg,iter,ifs,0⟩::rest) csc cpos) 0 (.ref it) acc env)))
 (hg:∀C R H0 ex,PG (X.comp N csc C R H0 ex) tg g) (ht:∀C R H0 ex,PTs (X.comp N csc C R H0 ex) ifs ts)
 (hb:∀C R H0 ex acc,PB (X.comp N csc C R H0 ex) (B (.ref acc) (X.comp N csc C R H0 ex).a) (tb acc))
 (hs:∀x,AM iter X.a x=pure x:=by intro _;rfl) :
 PE X (.ListComp elt (⟨tg,iter,ifs,0⟩::rest) csc cpos) (vh fr wi g ts tb):=by
 intro pins s σ H Q I h;rw[eval_ListComp];refine Fe (use:=none) rfl hs (wW (S.cells I.y)) S.b S.a ?_;refine pI (use:=none) rfl hc S hi U hg ht (λC R H0 ex acc _=>hb C R H0 ex acc) I h λacc C H' s' I' q' Y hC hL h0 Z W=>?_;obtain⟨m,Y⟩:=Y;refine⟨m,Y,λh' sb=>⟨.c acc,H',?_,rfl,q'⟩⟩;exact I'.turned (t':=s'.toks) (λb o hb e=>(sb.2 b hb).trans e) hC (B6 (B6 hL)) (.inr h0) Z W
def m7{B:Value->Env->Sem PUnit}{y:Str}{py R:Pos}{i:Nat}(hc:X.g=true)(S:zZ X N csc fr)(hi:PI X tg iter wi)
 (W:∀(it:Addr) (acc:Value) (env:Env),Cy (.ListComp elt (⟨tg,iter,ifs,0⟩::rest) csc cpos) 0 (.ref it) acc env=(do
  standAt iter.pos
  match <-pyNext (.ref it) with
  |none=>pure (.done .next)
  |some v=>
   Bk tg (.ref it) v
   assign tg env v
   let mut ok:=true
   for c in ifs do
    if ok then ok <-isTrue c env (eval c env)
   if ok then B acc env
   again (.compLoop (.ListComp elt (⟨tg,iter,ifs,0⟩::rest) csc cpos) 0 (.ref it) acc env)))
 (hg:∀C U H0 ex,PG (X.comp N csc C U H0 ex) tg g) (ht:∀C U H0 ex,PTs (X.comp N csc C U H0 ex) ifs ts)
 (hb:∀C U H0 ex acc,PB (X.comp N csc C U H0 ex) (B (.ref acc) (X.comp N csc C U H0 ex).a) (tb acc))
 (hN:X.N.Nodup) (hy:X.N[i]?=some y) (hx:Loc X.a.scope y)
 (hsw:FY (.ListComp elt (⟨tg,iter,ifs,0⟩::rest) csc cpos) (some (.Name y py)) R.line X.a=pure true:=by rfl)
 (hf:X.m y=true\/X.a.scope.names.lookup y=some .local:=by first|exact .inl rfl|exact .inr rfl|assumption)
 (hs:∀x,AM iter X.a x=pure x:=by intro _;rfl) :
 PS X (.Assign [.Name y py] (.ListComp elt (⟨tg,iter,ifs,0⟩::rest) csc cpos) R) (qx (vh fr wi g ts tb) (vY i)):=by
 intro pins s σ H D I h;rw[exec_Assign_Name_used _ _ _ _ hsw];refine dm (BK (dm ?_));show wpAny _ X.A (do let _ <-GS (.ListComp elt (⟨tg,iter,ifs,0⟩::rest) csc cpos) csc X.a _ (newList []) false (eval iter X.a) (some (assign (.Name y py) X.a))) _ _ s
 refine dm (BU (Fe (use:=some (assign (.Name y py) X.a)) (Q:=λ_ s'=>SP X pins D .next s') rfl hs (wW (S.cells I.y)) S.b S.a ?_) (λ_ s' hq=>zO (zO hq)) λ_ _ e=>e);refine pI (use:=some (assign (.Name y py) X.a)) rfl hc S hi W hg ht (λC U H0 ex acc _=>hb C U H0 ex acc) I h λacc C H' s' I' q' hn hC hL h0 Y hpn=>?_;obtain⟨m,hn⟩:=hn;show wpAny _ X.A (assign (.Name y py) X.a (.ref acc)) _ _ _;refine wpAny_assign_Name (p5 I' hN hy hx (show RelV (.c acc) (.ref acc) from rfl) (λs2 I2 zn=>?_) hf);obtain⟨a,sb,Z⟩:=zn;have haC:C≠a:=by
  rcases Z with Z|Z
  . rw[Z];exact hL
  . exact B6 (Y y a Z)
 refine⟨m,hn.sameBut sb haC,λh' sb'=>⟨_,H',?_,q'⟩⟩;exact I2.turned (t':=s2.toks) (λb o hb e=>(sb'.2 b hb).trans e) hC hL (.inr h0) Y hpn
def X7(elt tg iter:Expr)(ifs:List Expr)(csc:Scope)(cpos:Pos)(it:Addr)(acc:Value)(env:Env) :
 Cy (.ListComp elt [⟨tg,iter,ifs,0⟩] csc cpos) 0 (.ref it) acc env=(do
  standAt iter.pos
  match <-pyNext (.ref it) with
  |none=>pure (.done .next)
  |some v=>
   Bk tg (.ref it) v
   assign tg env v
   let mut ok:=true
   for c in ifs do
    if ok then ok <-isTrue c env (eval c env)
   if ok then (do let _ <-call (.builtin "list.append") [acc,<-eval elt env])
   again (.compLoop (.ListComp elt [⟨tg,iter,ifs,0⟩] csc cpos) 0 (.ref it) acc env)):=by rfl
def X8(elt tg iter:Expr)(ifs:List Expr)(R N:Expr)(ifs2:List Expr)(csc:Scope)(cpos:Pos)(it:Addr)(acc:Value)(env:Env) :
 Cy (.ListComp elt [⟨tg,iter,ifs,0⟩,⟨R,N,ifs2,0⟩] csc cpos) 0 (.ref it) acc env=(do
  standAt iter.pos
  match <-pyNext (.ref it) with
  |none=>pure (.done .next)
  |some v=>
   Bk tg (.ref it) v
   assign tg env v
   let mut ok:=true
   for c in ifs do
    if ok then ok <-isTrue c env (eval c env)
   if ok then (do
    let x <-eval N env
    standAt N.pos
    let x <-AM N env x;let _ <-runOwn (.compStart (.ListComp elt [⟨tg,iter,ifs,0⟩,⟨R,N,ifs2,0⟩] csc cpos) 1 (<-holding [x] (pyIter x)) acc env) env)
   again (.compLoop (.ListComp elt [⟨tg,iter,ifs,0⟩,⟨R,N,ifs2,0⟩] csc cpos) 0 (.ref it) acc env)):=by
 have e:Cy (.ListComp elt [⟨tg,iter,ifs,0⟩,⟨R,N,ifs2,0⟩] csc cpos) 0 (.ref it) acc env=(do
  standAt iter.pos
  match <-pyNext (.ref it) with
  |none=>pure (.done .next)
  |some v=>
   Bk tg (.ref it) v
   assign tg env v
   let mut ok:=true
   for c in ifs do
    if ok then ok <-isTrue c env (eval c env)
   if ok then
    let x <-eval N env
    standAt N.pos
    let x <-AM N env x;let _ <-runOwn (.compStart (.ListComp elt [⟨tg,iter,ifs,0⟩,⟨R,N,ifs2,0⟩] csc cpos) 1 (<-holding [x] (pyIter x)) acc env) env
   again (.compLoop (.ListComp elt [⟨tg,iter,ifs,0⟩,⟨R,N,ifs2,0⟩] csc cpos) 0 (.ref it) acc env)):=by rfl
 rw[e];simp only[Il,F0]
def Ul(elt tg iter:Expr)(ifs:List Expr)(R N:Expr)(ifs2:List Expr)(csc:Scope)(cpos:Pos)(it:Addr)(acc:Value)(env:Env) :
 Cy (.ListComp elt [⟨tg,iter,ifs,0⟩,⟨R,N,ifs2,0⟩] csc cpos) 1 (.ref it) acc env=(do
  standAt N.pos
  match <-pyNext (.ref it) with
  |none=>pure (.done .next)
  |some v=>
   Bk R (.ref it) v
   assign R env v
   let mut ok:=true
   for c in ifs2 do
    if ok then ok <-isTrue c env (eval c env)
   if ok then (do let _ <-call (.builtin "list.append") [acc,<-eval elt env])
   again (.compLoop (.ListComp elt [⟨tg,iter,ifs,0⟩,⟨R,N,ifs2,0⟩] csc cpos) 1 (.ref it) acc env)):=by rfl
end
def l9
 (h0:codeAny (model prog w) A (.compLoop (.ListComp elt [⟨tg,iter,ifs,0⟩,⟨tg2,iter2,ifs2,0⟩] csc cpos) 1 it acc env) R s)
 (h:wpAny (model prog w) A (pyIter it) (λN s'=>codeAny (model prog w) A (.compLoop (.ListComp elt [⟨tg,iter,ifs,0⟩,⟨tg2,iter2,ifs2,0⟩] csc cpos) 1 N acc env) R s')
  (notedBy (model prog w) A env λx s'=>R (.error x) s') s) :
 codeAny (model prog w) A (.compStart (.ListComp elt [⟨tg,iter,ifs,0⟩,⟨tg2,iter2,ifs2,0⟩] csc cpos) 1 it acc env) R s:=by
 refine E3 ?_;show wpAny _ _ ((GJ (.ListComp elt [⟨tg,iter,ifs,0⟩,⟨tg2,iter2,ifs2,0⟩] csc cpos) 1 it acc env).onRaise (λx=>do HN x env;standAt HP)) _ _ s
 refine Iw ?_;unfold GJ;show wpAny _ _ (ask >>= _) _ _ s;refine dm (Cf (wpAny_ite ?_));split
 . first
    |exact dm (zO (zO (Af rfl h0)))
    |exact zO (Af rfl h0)
 . first
    |exact dm (BM (dm (BK (dm (BU h (λN s' h'=>zO (Af rfl h')) λ_ _ x=>x)))))
    |(refine dm (BM ?_);show wpAny _ _ (standAt iter2.pos >>= _) _ _ s;exact dm (BK (dm (BU h (λN s' h'=>zO (Af rfl h')) λ_ _ x=>x))))
def uc(wi:TI)(g:TG)(ts:List TT)(tb:TB):TB:=λN σ H=>wi σ H λJ H1=>tH J g (tTB ts tb) ⟨N,λ_ _=>False,λ_ _=>False,λ_ _=>False⟩ σ H1
def ml
 (hx:X.h=λ_ _=>False) (hc:X.g=true) (hi:PI X tg2 iter2 wi) (hg:PG X tg2 g) (ht:PTs X ifs2 ts) (hb:PB X (do let _ <-call (.builtin "list.append") [.ref acc,<-eval elt X.a]) tb)
 (hs:∀x,AM iter2 X.a x=pure x:=by intro _;rfl) :
 PB X (do
       let x <-eval iter2 X.a
       standAt iter2.pos
       let x <-AM iter2 X.a x;let _ <-runOwn (.compStart (.ListComp elt [⟨tg,iter,ifs,0⟩,⟨tg2,iter2,ifs2,0⟩] csc cpos) 1 (<-holding [x] (pyIter x)) (.ref acc) X.a) X.a) (uc wi g ts tb):=by
 intro pins s σ H Nx I h;refine dm (thn (hi pins s σ H _ I h) λv s1 h1=>dm (BK (dm (Ee (hs v) (dm (A6 (thn h1 λZ s2 h2=>?_)))))));refine byG λpi U=>?_;obtain⟨it,fp,tn,J,H2,e,I2,T,S,f2,W⟩:=h2;refine U ?_;subst e;refine dm (wpAny_runOwn ?_);have R:codeAny (model X.f X.w) X.A (.compLoop (.ListComp elt [⟨tg,iter,ifs,0⟩,⟨tg2,iter2,ifs2,0⟩] csc cpos) 1 (.ref it) (.ref acc) X.a)
  (λr s'=>match r with|.ok f=>wpAny (model X.f X.w) X.A (pure PUnit.unit:Sem PUnit) (λ_ s'=>∃N H',Inv X pins N H' s'/\Nx N H') X.h s'|.error e=>cameBackBy (model X.f X.w) X.A X.a X.h e s') s2:=
  wg (Ul ..) hx hc T hg ht hb I2 S f2 W λN H' s' I' Y _=>zO ⟨N,H',I',Y⟩
 exact l9 R (T.d X.A 0 _ _ _ S R)
def i4(Y:X.g=true)(S:zZ X N csc fr)(hi:PI X tg iter wi)(W:∀C R H0 ex,PG (X.comp N csc C R H0 ex) tg g)(U:∀C R H0 ex,PTs (X.comp N csc C R H0 ex) ifs ts)
 (he:∀C R H0 ex,PE (X.comp N csc C R H0 ex) elt te) (hs:∀x,AM iter X.a x=pure x:=by intro _;rfl) :
 PE X (.ListComp elt [⟨tg,iter,ifs,0⟩] csc cpos) (vh fr wi g ts λacc=>sV acc te):=
 mw Y S hi (B:=λacc env=>(do let _ <-call (.builtin "list.append") [acc,<-eval elt env])) (X7 elt tg iter ifs csc cpos) W U (λC R H0 ex acc=>rG (he C R H0 ex)) hs
def Yx(hc:X.g=true)(S:zZ X N csc fr)(hi:PI X tg iter wi)(Z:∀C R H0 ex,PG (X.comp N csc C R H0 ex) tg g)(Y:∀C R H0 ex,PTs (X.comp N csc C R H0 ex) ifs ts)
 (he:∀C R H0 ex,PE (X.comp N csc C R H0 ex) elt te) (hN:X.N.Nodup) (W:X.N[i]?=some y) (hx:Loc X.a.scope y)
 (U:FY (.ListComp elt [⟨tg,iter,ifs,0⟩] csc cpos) (some (.Name y py)) spos.line X.a=pure true:=by rfl)
 (hf:X.m y=true\/X.a.scope.names.lookup y=some .local:=by first|exact .inl rfl|exact .inr rfl|assumption)
 (hs:∀x,AM iter X.a x=pure x:=by intro _;rfl) :
 PS X (.Assign [.Name y py] (.ListComp elt [⟨tg,iter,ifs,0⟩] csc cpos) spos) (qx (vh fr wi g ts λacc=>sV acc te) (vY i)):=
 m7 hc S hi (B:=λacc env=>(do let _ <-call (.builtin "list.append") [acc,<-eval elt env])) (X7 elt tg iter ifs csc cpos) Z Y (λC R H0 ex acc=>rG (he C R H0 ex)) hN W hx U hf hs
def mq(hc:X.g=true)(S:zZ X N csc fr)(hi:PI X tg iter wi)(hg:∀C R H0 ex,PG (X.comp N csc C R H0 ex) tg g)(ht:∀C R H0 ex,PTs (X.comp N csc C R H0 ex) ifs ts)
 (Y:∀C R H0 ex,PI (X.comp N csc C R H0 ex) tg2 iter2 wi2) (Z:∀C R H0 ex,PG (X.comp N csc C R H0 ex) tg2 g2) (U:∀C R H0 ex,PTs (X.comp N csc C R H0 ex) ifs2 ts2)
 (he:∀C R H0 ex,PE (X.comp N csc C R H0 ex) elt te) (hs:∀x,AM iter X.a x=pure x:=by intro _;rfl)
 (W:∀env x,AM iter2 env x=pure x:=by intro _ _;rfl) :
 PE X (.ListComp elt [⟨tg,iter,ifs,0⟩,⟨tg2,iter2,ifs2,0⟩] csc cpos) (vh fr wi g ts λacc=>uc wi2 g2 ts2 (sV acc te)):=
 mw hc S hi (B:=λacc env=>(do
         let x <-eval iter2 env
         standAt iter2.pos
         let x <-AM iter2 env x;let _ <-runOwn (.compStart (.ListComp elt [⟨tg,iter,ifs,0⟩,⟨tg2,iter2,ifs2,0⟩] csc cpos) 1 (<-holding [x] (pyIter x)) acc env) env)) (X8 elt tg iter ifs tg2 iter2 ifs2 csc cpos) hg ht
  (λC R H0 ex acc=>ml rfl hc (Y C R H0 ex) (Z C R H0 ex) (U C R H0 ex) (rG (he C R H0 ex)) (W _)) hs
def rT:yN X (.builtin "isinstance") (λxs H Q=>∃x c t b,xs=[x,.k c]/\uh X.K H x (.type t)/\HZ X.K (.type t) (.type c)=some b/\Q (.f b) H):=by intro pins s σ H xs us Q I r h;obtain⟨x,c,t,b,rfl,R,e,q⟩:=h;obtain⟨u,N,rfl,S,U⟩:=vals2 r;cases (show N=DH c from U);exact gn I S R e λtk=>⟨.f b,H,I.tok _,rfl,q⟩
inductive Kd where
 |e|i|b|g|d|h|f
 deriving DecidableEq
noncomputable def Kd.nm:Kd->String
 |.e=>"NoneType"|.i=>"bool"|.b=>"int"|.g=>"str"|.d=>"list"|.h=>"tuple"|.f=>"dict"
noncomputable def Kd.sub(a c:Kd):Bool:=decide (a=c)||(decide (a=.i)&&decide (c=.b))
def VZ K(a c:Kd)(N:c≠.e):HZ K (.type a.nm) (.type c.nm)=some (a.sub c):=by
 cases c with
 |e=>exact absurd rfl N
 |i=>cases a<;>rfl
 |b=>cases a<;>rfl
 |g=>cases a<;>rfl
 |d=>cases a<;>rfl
 |h=>cases a<;>rfl
 |f=>cases a<;>rfl
def all_range:∀(bs:List Bool),((Ah bs.length).all λi=>bs.getD i false)=bs.all id:=by
 intro bs;induction bs with
 |nil=>rfl
 |cons b bs N=>
  rw[Aj,FF,Df,Df,List.all_map];exact congrArg (b&&·) (Hj (by congr 1) N)
theorem Vals.bools:∀{bs:List Bool} {us},Vals (bs.map V.f) us->us=bs.map DZ
 |[],us,r=>by cases r;rfl
 |b::bs,us,r=>by
  rw[AB]at r;cases r with
  |cons R N=>
   cases (show _=DZ b from R);rw[Vals.bools N,AB]
def rS(hc:X.g=true):yN X (.builtin "all") (λxs H Q=>∃(a:Addr) (bs:List Bool),xs=[.c a]/\SqL X.K H a (bs.map V.f)/\Q (.f (bs.all id)) H):=by
 intro pins s σ H xs us Q I r h;obtain⟨a,bs,rfl,ha,q⟩:=h;obtain⟨u,rfl,ru⟩:=vals1 r;cases ru;obtain⟨its,rv,W,hz⟩:=I.list ha;have R:=rv.bools;have Z:a<s.heap.objs.size:=by obtain⟨o,S,_⟩:=W.isList;exact An S
 refine call_all_walk (Eh W.isList ?_);refine⟨s.heap.objs.size,_,_,_,_,_,λi=>bs.getD i false,rfl,Im (A:=X.A.in1) (I.y.l hc) s.heap.objs.size a (Ax Z) its.toArray,⟨⟨_,AA _ rfl,rfl,rfl⟩,?_⟩,?_,λh' tk hk=>?_⟩
 . obtain⟨o,S,Y,n,hd⟩:=W.isList
   exact⟨o,xd _ S,Y,n,hd⟩
 . intro i v s' Q' E' hv hq
   have N:(bs.map DZ)[i]?=some v:=by rw[<-R];simpa using hv
   rw[Am]at N;cases hb:bs[i]? with
   |none=>rw[hb]at N;cases N
   |some b=>
    rw[hb]at N;have:v=DZ b:=(AK N).symm;subst this;have e:bs.getD i false=b:=by rw[Ab,hb];rfl
    have U:Q' (bs.getD i false) s':=hq;rw[e]at U;exact Cw U
 . have e:(Ah its.toArray.size).all (λi=>bs.getD i false)=bs.all id:=by rw[Ae,R,Aa];exact all_range bs
   rw[e];refine⟨.f (bs.all id),H,I.kept λb o S=>hk b o ?_ (xd _ S),rfl,q⟩;simpa using Ax (An S)
def ae(h:H p=none)o:tX H (upd H p o):=λb u q=>by rw[zP (zR q h)];exact q
def sO(H:Hp)(ys:List V)(Q:VK):Prop:=∀p H',tX H H'->H' p=some (.c ys)->Q (.c p) H'
def sO.new(g:sO H ys Q):∀p,H p=none->Q (.c p) (upd H p (.c ys)):=λp hp=>g p _ (ae hp _) zd
def R6:V->Option Int->Option Int->Hp->VK->Prop:=λx lo hi H Q=>∃a xs,x=.c a/\H a=some (.c xs)/\sO H (qj xs lo hi) Q
def Xz:R2:=λx y H Q=>∃a b xs ys,x=.c a/\y=.c b/\H a=some (.c xs)/\H b=some (.c ys)/\xs.length+ys.length<=AH/\sO H (xs++ys) Q
def Sv:R2:=λx y H Q=>∃a k xs,x=.c a/\y=.d k/\H a=some (.c xs)/\2<=k/\k<=1000/\xs≠[]/\xs.length<=1000/\sO H (AU k.toNat xs).flatten Q
def gW{lo hi}(R:IsTup s.heap t items)(hs:s.heap.IsSliceOf sl vl vu .none)(Y:IsPart vl lo)(X:IsPart vu hi)
 (h0:HT.sIx items.size 0 lo=0) (h1:HT.sIx items.size items.size hi=items.size) (h:Q (.ref t) s):wpAny (model prog w) A (getItem (.ref t) (.ref sl)) Q E s:=by
 obtain⟨os,S,U,Z⟩:=id hs;have W:s.TypeIs (.ref sl) "slice":=⟨os,S,U⟩;unfold getItem
 try with_reducible refine A6 ?_
 first|refine dm (zO ?_)|skip
 refine dm (G2 R.typeIs (by decide) ?_)
 refine dm (Cd (name:=DU "__getitem__") R.typeIs Bg
  (BA Bg R.typeIs Gp ?_ (GG _ _)))
 show wpAny _ _ (EM (.ref t) >>= _) _ _ s;refine dm (FN R ?_);refine dm (DV W ?_);rw[if_pos (by decide)]
 refine dm (HT.wz hs Y X ?_);have N:(((HT.sIx items.size 0 lo:Nat):Int) == 0&&(1:Int) == 1&&(HT.sIx items.size items.size hi-HT.sIx items.size 0 lo) == items.size)=true:=by rw[h0,h1];simp
 show wpAny _ _ (if (((HT.sIx items.size 0 lo:Nat):Int) == 0&&(1:Int) == 1&&(HT.sIx items.size items.size hi-HT.sIx items.size 0 lo) == items.size)=true then _ else _) _ _ s
 rw[if_pos N];unfold GU;refine dm (dm (DV R.typeIs (zO ?_)));rw[if_pos (by decide)]
 exact dm (BM (zO ⟨_,rfl,zO h⟩))
def XA:SlR X R6:=by
 intro pins s σ H x v Z Y lo hi sl Q I R hs U S h;obtain⟨a,xs,rfl,hx,g⟩:=h;by_cases hw:HT.sIx xs.length 0 lo=0/\HT.sIx xs.length xs.length hi=xs.length
 . cases R
   obtain⟨its,r,W,hz⟩:=I.tuple (.inl (.inl hx));have N:its.toArray.size=xs.length:=by rw[Ae];exact r.length.symm
   refine⟨"tuple",_,Bg.lookup,W.typeIs,?_⟩;refine gW W hs U S (by rw[N];exact hw.1) (by rw[N];exact hw.2) ⟨.c a,H,I,rfl,g a H (tX.refl H) ?_⟩
   rw[hx];unfold qj;rw[hw.1,hw.2,Dk,Hk,List.take_length]
 . exact UT pins s σ H (.c a) v Z Y lo hi sl Q I R hs U S ⟨a,xs,rfl,.inl (.inl hx),hw,g.new⟩
def bT:OpR X (BZ .Add) Xz:=by
 intro pins s σ H x y v u Q I rx ry h;obtain⟨a,b,xs,ys,rfl,rfl,Z,Y,hz,g⟩:=h;by_cases hx:xs=[]
 . cases rx
   cases ry;subst hx;obtain⟨its,r1,p1,_⟩:=I.tuple (.inl (.inl Z));obtain⟨N,r2,p2,_⟩:=I.tuple (.inl (.inl Y));cases r1;obtain⟨⟨cls,dd,data,sl⟩,ho,hc,n,hd⟩:=id p1;obtain⟨⟨cls2,dd2,data2,W⟩,R,U,n2,S⟩:=id p2;simp only at hc hd U S;subst hc hd U S;exact concat_meets ⟨_,ho,rfl⟩ ⟨_,R,rfl⟩ FQ GQ CH Cv (Co _ _)
    (tuple_addW0 a b #[] N.toArray n n2 dd dd2 sl W rfl) ⟨ho,R,⟨.c b,H,I,rfl,g b H (tX.refl H) Y⟩⟩
 . refine Ya pins s σ H (.c a) (.c b) v u Q I rx ry ⟨a,b,xs,ys,rfl,rfl,.inl (.inl Z),.inl (.inl Y),hx,hz,λe=>?_,λ_=>g.new⟩
   subst e;rw[AR]at g;exact g a H (tX.refl H) Z
def xI:fillsNumberSlot (.type "tuple") "mul"=pure false:=
 PySem.fillsNumberSlot_seq (id:="tuple.__mul__") (r:=some (.builtin "tuple.__rmul__")) EB.lookup (by decide +kernel) F.slot_tuple_rmul.lookup (by decide +kernel)
def vK:seqRepeat? (.type "tuple")=pure (some (.builtin "tuple.__mul__")):=by
 unfold seqRepeat?;rw[PySem.seqSlot_of (T:="tuple") (name:="__mul__") (id:="tuple.__mul__") EB.lookup (by decide +kernel),PySem.seqSlot_of (T:="tuple") (name:="__rmul__") (id:="tuple.__rmul__") F.slot_tuple_rmul.lookup (by decide +kernel)]
 rfl
def xy a t l items n dd sl :
 Meets (Builtin.«int.__rmul__» ⟨[.int a t,.ref l],[]⟩) (λ_ R s=>s.heap.get? l=some {cls:=.type "tuple",dict:=dd,data:=.seq items n,slots:=sl}/\R (.ok (.ret Value.notImplemented)) s):=
 .of_wp λprog w A R s h=>by obtain⟨hp,g,d,tk,os⟩:=s;obtain⟨N,h⟩:=h;wp_walk;exact⟨_,rfl,h⟩
def jf l items n x u dd sl(h1:2<=x)(h2:x<=1000)(W:¬items.isEmpty=true)(h4:items.size<=1000) :
 Meets (Builtin.«tuple.__mul__» ⟨[.ref l,.int x u],[]⟩) (λ_ R s=>s.heap.get? l=some {cls:=.type "tuple",dict:=dd,data:=.seq items n,slots:=sl} /\
  R (.ok (.ret (Bp s.heap.objs.size))) {s with heap:=s.heap.push {cls:=DH "tuple",data:=Data.seq (EA (λS N=>S++N) #[] (AU x.toNat items))},toks:=s.toks}):=
 .of_wp λprog w A R s h=>by
  obtain⟨hp,g,d,tk,os⟩:=s;obtain⟨Y,h⟩:=h;have f1:=Hl;have c1:¬((decide (x < -(2 ^ 63))||decide (x ≥ 2 ^ 63))=true):=by simp;omega
  have c2:¬((items.isEmpty||x == 1)=true):=by simp at W ⊢;exact⟨W,⋯⟩
  have c3:¬((decide (x<=0)||items.isEmpty)=true):=by simp at W ⊢;exact⟨⋯,W⟩
  have X:(items.size:Int)*x<=1000*1000:=Int.mul_le_mul ⋯ h2 ⋯ ⋯
  have c4:¬((items.size:Int)*x > (2 ^ 63-1)/8):=by omega
  have Z:AH=16777216:=A1;have c5:¬(EO ((items.size:Int)*x)=true):=by unfold EO;rw[Z];simp only[decide_eq_true_eq];omega
  have hn:(EA (λS N=>S++N) #[] (AU x.toNat items)).size=x.toNat*items.size:=by have e:=foldl_rep items.toList x.toNat [];simp only[Array.toArray_toList,Dw]at e;rw[e,Ae,len_rep,Aw]
  have U:sizeOk (.seq (EA (λS N=>S++N) #[] (AU x.toNat items))):=by
   show (EA (λS N=>S++N) #[] (AU x.toNat items)).size<=AH;rw[hn,Z];have:x.toNat*items.size<=1000*1000:=DQ ⋯ h4
   omega
  wp_walk using E4 Y
  rw[if_neg c1];refine dm (FN (items:=items) ⟨_,Y,rfl,n,rfl⟩ ?_);rw[if_neg c2];show wpAny _ _ (if (decide (x<=0)||items.isEmpty)=true then _ else _) _ _ _
  rw[if_neg c3];show wpAny _ _ (if (items.size:Int)*x > (2 ^ 63-1)/8 then _ else _) _ _ _
  rw[if_neg c4];show wpAny _ _ (if EO ((items.size:Int)*x)=true then _ else _) _ _ _
  rw[if_neg c5];exact dm (m:=BL _) (Bm (zO ⟨_,rfl,h⟩) U)
def Yd:OpR X (BZ .Mult) Sv:=by
 intro pins s σ H x y v u Q I rx Z h;obtain⟨a,k,xs,rfl,rfl,ha,h1,h2,h3,Y,g⟩:=h;cases rx;obtain⟨t,rfl⟩:=Z;obtain⟨its,r,p1,_⟩:=I.tuple (.inl (.inl ha));obtain⟨⟨cls,dd,data,S⟩,N,W,n,hd⟩:=id p1;simp only at W hd;subst W hd;have hl:=r.length;have R:¬its.toArray.isEmpty=true:=by simp;intro e;exact h3 (r.wO.mp e)
 refine DJ (T:="tuple") (U:="int") (by decide) ⟨_,N,rfl⟩ (λs'=>D5 s' k t) xI F8 CY vK FR.lookup
  (Ct CY (D5 s k t) FT (Fz _ _) (xy k t a its.toArray n dd S)
   ⟨N,rfl,⟨_,N,rfl⟩,Ct EB ⟨_,N,rfl⟩ G6 (GK _ _) (jf a its.toArray n k t dd S h1 h2 R (by rw[Ae,<-hl];exact Y)) ⟨N,?_⟩⟩)
 have e:=foldl_rep its k.toNat [];rw[Dw]at e;have hz:(AU k.toNat xs).flatten.length<=AH:=by
  rw[len_rep,A1];have:k.toNat*xs.length<=1000*1000:=DQ ⋯ Y
  omega
 refine⟨.c s.heap.objs.size,_,I.laid (t':=s.toks) (o:=.c (AU k.toNat xs).flatten) (λb ob q=>xd _ q) (Ac _) ⟨hz,(AU k.toNat its).flatten,r.rep k.toNat,?_⟩,rfl,g.new _ (I.j.fresh (Ac _))⟩;rw[show (#[]:Array Value)=([]:List Value).toArray from rfl,e];exact ug.new _ _
section
variable {X:Cx}{pos:Pos}
def X3(i j k:Nat)(ta:TA):TS:=λD σ H=>ta σ H λvs H1=>∃v w z,vs=[v,w,z]/\D.a (((σ.set i (some v)).set j (some w)).set k (some z)) H1
def vals3(r:Vals [x,y,z] us):∃S R N,us=[S,R,N]/\RelV x S/\RelV y R/\RelV z N:=by
 cases r with
 |cons r1 Z=>
  cases Z with
  |cons Y X=>
   cases X with
   |cons W U=>cases U;exact⟨_,_,_,rfl,r1,Y,W⟩
def Yz{kt k2 pt2}(hc:X.g=true)(hN:X.N.Nodup)(hi:X.N[i]?=some x)(hj:X.N[j]?=some y)(hk:X.N[k]?=some z)(hij:i≠j)(hik:i≠k)(hjk:j≠k)
 (hx:X.a.scope.names.lookup x=some .local) (hy:X.a.scope.names.lookup y=some .local) (hz:X.a.scope.names.lookup z=some .local) (ha:PA X [a,b,c] ta)
 (hw:Cq [.Tuple [.Name x px,.Name y py,.Name z pz] kt pt] (.Tuple [a,b,c] k2 pt2) X.a=pure (some [x,y,z]))
 (hs:FK [.Tuple [.Name x px,.Name y py,.Name z pz] kt pt] (.Tuple [a,b,c] k2 pt2) pos.line X.a=pure false:=by rfl) :
 PS X (.Assign [.Tuple [.Name x px,.Name y py,.Name z pz] kt pt] (.Tuple [a,b,c] k2 pt2) pos) (X3 i j k ta):=by
 intro pins s σ H D I h;rw[exec_Assign_arm];refine dm (BK ?_);rw[hs];refine dm (zO ?_);rw[if_neg (by decide)]
 refine dm (Tuple_ (thn (ha _ pins s σ H _ I h) λus s1 zn=>?_));refine byG λpi R=>?_;obtain⟨vs,H1,I1,r1,Z⟩:=zn;refine R ?_;refine byG λpi R=>?_;obtain⟨v,w,zz,e1,Z⟩:=Z;refine R ?_;subst e1;refine byG λpi R=>?_;obtain⟨W,U,S,rfl,rv,Y,rz⟩:=vals3 r1;refine R ?_;refine Bm ?_ (by show 3<=AH;decide)
 have I2:Inv X pins σ H1 {s1 with heap:=s1.heap.push {cls:=.type "tuple",data:=.seq [W,U,S].toArray}}:=I1.kept (t':=s1.toks) λb o e=>xd _ e
 rw[hw];refine dm (zO ?_);show wpAny (model X.f X.w) X.A (do rule "assign.swapped-stores";let items <-unpackItems (.ref s1.heap.objs.size) 3 none;FJ [λv=>Ey X.a z v,λv=>Ey X.a y v,λv=>Ey X.a x v] items.reverse;pure IB) _ _ _
 refine dm (BM (dm (unpackItems_tuple (items:=#[W,U,S]) (I.y.l hc) (IsTup.new s1.heap _) λh' hx'=>?_)));have I3:=I2.kept (h':=h') (t':=s1.toks) λb o e=>hx' b o (Ax (An e)) e;show wpAny _ _ (FJ [λv=>Ey X.a z v,λv=>Ey X.a y v,λv=>Ey X.a x v] [S,U,W] >>= λ_=>pure IB) _ _ _;refine dm (Dr (Fs (xT I3 hN hk (.inl hz) rz (λs2 I4=>?_) (.inr hz))));refine Dr (Fs (xT I4 hN hj (.inl hy) Y (λs3 I5=>?_) (.inr hy)));refine Dr (Fs (xT I5 hN hi (.inl hx) rv (λs4 I6=>G1 (zO ?_)) (.inr hx)));refine⟨_,H1,?_,Z⟩;have e:((σ.set k (some zz)).set j (some w)).set i (some v)=((σ.set i (some v)).set j (some w)).set k (some zz):=by rw[FL _ _ (B6 hij),FL _ _ (B6 hik),FL _ _ (B6 hjk)]
 rw[<-e];exact I6
end
mutual
inductive DD(H:Hp)(p:Addr):V->PyData->Prop
 |non:DD H p .g .none
 |bl (b:Bool):DD H p (.f b) (.bool b)
 |int (i:Int):DD H p (.d i) (.int i)
 |str (x:Str):DD H p (.e x) (.str x)
 |lst {a:Addr} {xs:List V} {ds:List PyData}:H a=some (.b xs)->a≠p->DDs H p xs ds->DD H p (.c a) (.list ds)
 |tup {a:Addr} {xs:List V} {ds:List PyData}:H a=some (.c xs)->a≠p->DDs H p xs ds->DD H p (.c a) (.tuple ds)
 |dct {a:Addr}:H a=some (.j [])->a≠p->DD H p (.c a) (.dict [])
inductive DDs(H:Hp)(p:Addr):List V->List PyData->Prop
 |b:DDs H p [] []
 |a {x:V} {xs:List V} {d:PyData} {ds:List PyData}:DD H p x d->DDs H p xs ds->DDs H p (x::xs) (d::ds)
end
theorem DDs.length:∀{vs} {ds},DDs H p vs ds->vs.length=ds.length
 |_,_,.b=>rfl
 |_,_,.a _ rs=>by rw[Aj,Aj,rs.length]
theorem DDs.append:∀{vs ws} {ds es},DDs H p vs ds->DDs H p ws es->DDs H p (vs++ws) (ds++es)
 |_,_,_,_,.b,r=>r
 |_,_,_,_,.a r rs,q=>.a r (rs.append q)
mutual
noncomputable def y4:PyData->Bool
 |.none|.bool _|.int _|.str _=>false
 |.list _=>true
 |.tuple xs=>xD xs
 |.dict _=>false
noncomputable def xD:List PyData->Bool
 |[]=>false
 |x::xs=>y4 x||xD xs
end
structure Xa(d:PyData):Prop where
 sh:d.showable=true
 a:d.hasDict=true->y4 d=false
 dp:d.depth<=50
 ln:d.shown.length<=AH
structure qe(k w:Nat)(d:PyData):Prop where
 c:d.showable=true
 b:d.leavesShort 40=true
 a:d.depth<=k
 f:d.weight<=w
def cy(X:-(10 ^ 30)<i)(U:i<10 ^ 30):qe 0 100 (.int i):=by
 have S:i.natAbs<10 ^ 30:=by omega
 have R:i.natAbs<2 ^ 100:=F9 S (by decide)
 have N:i.natAbs≠0->i.natAbs.log2<100:=λz=>(Nat.log2_lt z).mpr R;refine⟨?_,?_,AS _,?_⟩
 . show decide (i.natAbs.log2<1920)=true
   by_cases z:i.natAbs=0
   . rw[z];decide
   . exact decide_eq_true (F9 (N z) (by decide))
 . show decide ((PyData.shown (.int i)).length<=40)=true
   refine decide_eq_true ?_;show (DU (toString i)).length<=40;by_cases z:0<=i
   . exact Ao (toString_length_le z (k:=30) (by decide) U) (by decide)
   . have e:=len_text_negI (n:=i) ⋯
     have Y:=toString_length_le (v:=0-i) (k:=30) ⋯ (by decide) ⋯
     omega
 . show (if i == 0 then 0 else i.natAbs.log2+1)<=100
   split
   . exact AS _
   . rename_i z
     have W:i≠0:=by simpa using z
     exact N ⋯
theorem vA:∀{ds},(∀d∈ds,d.showable=true)->PyData.showableAll ds=true
 |[],_=>rfl
 |d::ds,h=>by rw[PyData.showableAll,h d AE,vA λx hx=>h x (Ay _ hx)];rfl
theorem tZ:∀{ds},(∀d∈ds,d.leavesShort 40=true)->PyData.leavesShortAll 40 ds=true
 |[],_=>rfl
 |d::ds,h=>by rw[PyData.leavesShortAll,h d AE,tZ λx hx=>h x (Ay _ hx)];rfl
theorem tY:∀{ds},(∀d∈ds,d.depth<=k)->Ga ds<=k
 |[],_=>AS _
 |d::ds,h=>by rw[Ga];exact Nat.max_le.mpr ⟨h d AE,tY λx hx=>h x (Ay _ hx)⟩
theorem uL:∀{ds},(∀d∈ds,d.weight<=w)->Hm ds<=ds.length*(w+1)
 |[],_=>by simp[Hm]
 |d::ds,h=>by rw[Hm,Aj,Nat.succ_mul];have R:=h d AE;have N:=uL λx hx=>h x (Ay _ hx);omega
def kJ(h:∀d∈ds,qe k w d)(N:ds.length<=n):qe (k+1) (n*(w+1)) (.tuple ds):=by refine⟨vA λd hd=>(h d hd).c,tZ λd hd=>(h d hd).b,EC (tY λd hd=>(h d hd).a),?_⟩;exact Ao (uL λd hd=>(h d hd).f) (DK _ N)
def fB(h:∀d∈ds,qe k w d)(N:ds.length<=n):qe (k+1) (n*(w+1)) (.list ds):=by refine⟨vA λd hd=>(h d hd).c,tZ λd hd=>(h d hd).b,EC (tY λd hd=>(h d hd).a),?_⟩;exact Ao (uL λd hd=>(h d hd).f) (DK _ N)
def qe.RA(h:qe k w d)(hk:k<=50)(hw:w<=300000)(N:d.hasDict=true->y4 d=false):Xa d:=by
 refine⟨h.c,N,Ao h.a hk,?_⟩;have e:=PyData.shown_le 40 (by decide) d h.b
 have R:=h.f;rw[A1];have:(40+2)*d.weight<=42*300000:=Nat.mul_le_mul_left _ (Ao R hw);omega
theorem t8:∀{ds},(∀d∈ds,d.hasDict=false)->PyData.hasDictAll ds=false
 |[],_=>rfl
 |d::ds,h=>by rw[PyData.hasDictAll,h d AE,t8 λx hx=>h x (Ay _ hx)];rfl
section
variable {X:Cx}{pos:Pos}
def Sg(U:Gl X x)(S:X.d x=none)(N:Dq x=some (.type n))(R:x≠"__name__":=by decide)(hd:(x == ("__debug__":Str))=false:=by decide):PE X (.Name x pos) (tC (.k n)):=
 Yo U S N (show RelV (.k n) (.type n) from rfl) R hd
noncomputable def noStar:Expr->Bool
 |.Starred ..=>false
 |_=>true
def yF(h:noStar e=true):Be (e::es) env=(false,eval e env)::Be es env:=by
 cases e<;>first|rfl|cases h
def pac(R:PE X e te)(N:PA X es t)(hs:noStar e=true:=by rfl):PA X (e::es) (lR te t):=Ym R N (yF hs)
noncomputable def uO(R:Scope)(S N:List Str)(csc:Scope)(fr:List (Option Nat)):Bool:=
 decide (csc.kind=.function)&&csc.names.all (λx=>decide (x.2≠.cell)||csc.names.all λy=>decide (y≠(x.1,A9)))&&csc.names.all (λx=>decide (x.2≠.local)||decide (csc.names.lookup x.1=some .local)) &&
 csc.names.all (λx=>decide (x.2≠.free)||(decide (R.names.lookup x.1=some .cell)||decide (R.names.lookup x.1=some .free)))&&decide (fr.length=N.length) &&
 (Ah N.length).all (λi=>match fr[i]?,N[i]? with|some (some j),some x=>decide (S[j]?=some x)&&csc.names.any (λy=>decide (y.1=x)&&decide (y.2=.free))|_,_=>true) &&
 csc.names.all (λx=>decide (x.2≠.free)||decide (csc.names.lookup x.1≠some .local))&&(decide (("!":Str) ∉ N)||(decide (("!":Str)∈S)&&R.names.any (λy=>decide (R.names.lookup y.1=some .cell))))
end
noncomputable def zr{N:Type}(xs:List N)(lo st:Int)(n:Nat):List N:=(Ah n).filterMap λ(k:Nat)=>xs[(lo+(k:Int)*st).toNat]?
theorem Vals.pick(r:Vals xs us):∀(is:List Nat),Vals (is.filterMap λi=>xs[i]?) (is.filterMap λi=>us[i]?)
 |[]=>.nil
 |i::is=>by
  rw[Ba,Ba];cases hx:xs[i]? with
  |none=>rw[r.none_of hx];exact Vals.pick r is
  |some x=>
   obtain⟨u,hu,N⟩:=r.get hx;rw[hu];exact .cons N (Vals.pick r is)
theorem Vals.zr{xs:List V}{us:List Value}(r:Vals xs us)(lo st:Int)(n:Nat):Vals (zr xs lo st n) (L2.zr us lo st n):=by have h:=r.pick ((Ah n).map λ(k:Nat)=>(lo+(k:Int)*st).toNat);rw[CO,CO]at h;exact h
def mz(xs:List α)lo st n:(zr xs lo st n).length<=n:=by have:=Hn (λ(k:Nat)=>xs[(lo+(k:Int)*st).toNat]?) (Ah n);rw[A0]at this;exact this
noncomputable def yT(n:Nat)(lo hi:Option Int)(st:Int):Int × Nat:=((Bi lo hi st (n:Int)).1,B2 (Bi lo hi st (n:Int)).1 (Bi lo hi st (n:Int)).2 st)
def qu{lo hi}{st}{n:Nat}(hs:s.heap.IsSliceOf sl vl vu vc)(U:IsPart vl lo)(S:IsPart vu hi)(W:IsPart vc (some st))(h0:st≠0)
 (h:Q ((yT n lo hi st).1,st,(yT n lo hi st).2) s):wpAny (model prog w) A (Dy (.ref sl) (pure (n:Int))) Q E s:=by
 obtain⟨os,N,X,R⟩:=id hs;unfold Dy Hb;refine dm (dm (Cg N R (x:=vl) rfl (dm (Cg N R (x:=vu) rfl (dm (Cg N R (x:=vc) rfl (zO ?_)))))));refine dm (HT.wC W ?_);show wpAny _ _ (if (st == 0)=true then _ else _) _ _ s
 rw[if_neg (by simpa using h0)]
 exact dm (HT.wC U (dm (HT.wC S (dm (zO (zO h))))))
def ZD{lo hi}{st}(S:IsTup s.heap t items)(hs:s.heap.IsSliceOf sl vl vu vc)(pl:IsPart vl lo)(pu:IsPart vu hi)(pc:IsPart vc (some st))(h0:st≠0)
 (X:(yT items.size lo hi st).1=0->st=1->(yT items.size lo hi st).2=items.size->Q (.ref t) s)
 (U:Q (.ref s.heap.objs.size) {s with heap:=s.heap.push {cls:=.type "tuple",data:=.seq (zr items.toList (yT items.size lo hi st).1 st (yT items.size lo hi st).2).toArray}})
 (W:(yT items.size lo hi st).2<=AH):wpAny (model prog w) A (getItem (.ref t) (.ref sl)) Q E s:=by
 obtain⟨os,Y,Z,hds⟩:=id hs;have hTs:s.TypeIs (.ref sl) "slice":=⟨os,Y,Z⟩;have N:sizeOk (.seq (zr items.toList (yT items.size lo hi st).1 st (yT items.size lo hi st).2).toArray):=by show (zr items.toList (yT items.size lo hi st).1 st (yT items.size lo hi st).2).toArray.size<=AH;rw[Ae];exact Ao (mz _ _ _ _) W
 have R:((Ah (yT items.size lo hi st).2).filterMap λ(k:Nat)=>items[((yT items.size lo hi st).1+(k:Int)*st).toNat]?).toArray=(zr items.toList (yT items.size lo hi st).1 st (yT items.size lo hi st).2).toArray:=by unfold zr;simp only[Bj]
 unfold getItem
 try with_reducible refine A6 ?_
 first|refine dm (zO ?_)|skip
 refine dm (G2 S.typeIs (by decide) ?_)
 refine dm (Cd (name:=DU "__getitem__") S.typeIs Bg
  (BA Bg S.typeIs Gp ?_ (GG _ _)))
 show wpAny _ _ (EM (.ref t) >>= _) _ _ s;refine dm (FN S ?_);refine dm (DV hTs ?_);rw[if_pos (by decide)]
 refine dm (qu (n:=items.size) hs pl pu pc h0 ?_);by_cases hw:((yT items.size lo hi st).1 == 0&&st == 1&&(yT items.size lo hi st).2 == items.size)=true
 . show wpAny _ _ (if ((yT items.size lo hi st).1 == 0&&st == 1&&(yT items.size lo hi st).2 == items.size)=true then _ else _) _ _ s
   rw[if_pos hw];simp only[ub,beq_iff_eq]at hw;unfold GU;refine dm (dm (DV S.typeIs (zO ?_)));rw[if_pos (by decide)]
   exact dm (BM (zO ⟨_,rfl,zO (X hw.1.1 hw.1.2 hw.2)⟩))
 . show wpAny _ _ (if ((yT items.size lo hi st).1 == 0&&st == 1&&(yT items.size lo hi st).2 == items.size)=true then _ else _) _ _ s
   rw[if_neg hw,R]
   first
    |exact dm (m:=BL _) (Bm (zO ⟨_,rfl,zO U⟩) N)
    |exact dm (dm (m:=BL _) (Bm (zO ⟨_,rfl,zO U⟩) N))
theorem m5{N:Type}:∀xs:List N,(Ah xs.length).filterMap (λk=>xs[k]?)=xs
 |[]=>rfl
 |x::xs=>by
  rw[Aj,FF,Ba,CO];show x::_=_;refine congrArg (x::·) (Hj ?_ (m5 xs))
  congr 1
def kx(xs:List α):zr xs 0 1 xs.length=xs:=by
 unfold zr;have e:(λ(k:Nat)=>xs[(0+(k:Int)*1).toNat]?)=λk=>xs[k]?:=by funext k;rw[show (0+(k:Int)*1).toNat=k by omega]
 rw[e];exact m5 xs
def R7:V->Option Int->Option Int->Option Int->Hp->VK->Prop:=λx lo hi st H Q=>∃a xs c,x=.c a/\H a=some (.c xs)/\st=some c/\c≠0/\(yT xs.length lo hi c).2<=AH/\sO H (zr xs (yT xs.length lo hi c).1 c (yT xs.length lo hi c).2) Q
def RN(r:V->Option Int->Option Int->Option Int->Hp->VK->Prop)(te:TE)(tl th tc:TO):TE:=λσ H Q=>te σ H λx H1=>tl σ H1 λl H2=>th σ H2 λu R=>tc σ R λc N=>r x l u c N Q
def fc{lo hi}{st}(he:PE X e te)(hl:PO X lo tl)(hu:PO X hi th)(hc:PO X (some st) tc):PE X (.Subscript e (.Slice lo hi (some st) p2) pos) (RN R7 te tl th tc):=by
 intro pins s σ H Q I h;refine Ik (thn (he pins s σ H _ I h) λv s1 Y=>?_);obtain⟨x,H1,I1,r1,q1⟩:=Y;refine wpAny_Slice (thn (hl pins s1 σ H1 _ I1 q1) λvl s2 ⟨l,H2,I2,pl,q2⟩=>thn (hu pins s2 σ H2 _ I2 q2) λvu s3 ⟨u,H3,I3,pu,q3⟩=>thn (hc pins s3 σ H3 _ I3 q3) λvc R Y=>?_);obtain⟨c,W,I4,pc,q4⟩:=Y;obtain⟨a,xs,Z,rfl,hx,ec,h0,S,g⟩:=q4;subst ec;cases r1;have U:Inv X pins σ W {R with heap:=R.heap.push {cls:=.type "slice",data:=.fields #[vl,vu,vc]}}:=I4.kept (t':=R.toks) λb ob q=>xd _ q
 obtain⟨its,r,ht,hz⟩:=U.tuple (.inl (.inl hx));have N:its.toArray.size=xs.length:=by rw[Ae];exact r.length.symm
 show wpAny (model X.f X.w) X.A (GR e (.Slice lo hi (some st) p2) (.ref a) (.ref R.heap.objs.size)) (EP X pins σ Q) X.h {R with heap:=R.heap.push {cls:=.type "slice",data:=.fields #[vl,vu,vc]}}
 refine tail_any (ops:=[.ref a,.ref R.heap.objs.size]) ht.typeIs Bg.lookup (ZD ht (GH ..) pl pu pc h0 (λz1 z2 z3=>?_) ?_ (by rw[N];exact S)) (by with_unfolding_all rfl)
 . refine⟨.c a,W,U,rfl,g a W (tX.refl W) ?_⟩
   rw[N]at z1 z3;rw[hx,z1,z3,z2,kx]
 . rw[N]
   refine⟨.c _,_,U.laid (t':=R.toks) (o:=.c (zr xs (yT xs.length l u Z).1 Z (yT xs.length l u Z).2)) (λb ob q=>xd _ q) (Ac _) ?_,rfl,g.new _ (U.j.fresh (Ac _))⟩;refine⟨Ao (mz _ _ _ _) S,_,r.zr _ _ _,?_⟩;exact ug.new _ _
end L2
end
section
namespace L2
open PySem PyProof.Rows
section
variable {X:Cx}
noncomputable def vO(d:Int):List Int->Int
 |[]=>d
 |n::ns=>ns.foldl (λa b=>if b > a then b else a) n
theorem rk:∀(ns:List Int) a,a<=ns.foldl (λa b=>if b > a then b else a) a/\(∀x∈ns,x<=ns.foldl (λa b=>if b > a then b else a) a)/\(ns.foldl (λa b=>if b > a then b else a) a=a\/ns.foldl (λa b=>if b > a then b else a) a∈ns)
 |[],a=>⟨Cr _,λ_ h=>(nomatch h),.inl rfl⟩
 |n::ns,a=>by
  obtain⟨S,U,N⟩:=rk ns (if n > a then n else a)
  show a<=ns.foldl _ (if n > a then n else a)/\_
  have R:a<=(if n > a then n else a)/\n<=(if n > a then n else a):=by split<;>omega
  refine⟨Bh R.1 S,λx hx=>?_,?_⟩
  . rcases Ar.mp hx with e|hx
    . rw[e];exact Bh R.2 S
    . exact U x hx
  . rcases N with N|N
    . show ns.foldl _ (if n > a then n else a)=a\/ns.foldl _ (if n > a then n else a)∈n::ns
      rw[N];split
      . exact .inr (AE ..)
      . exact .inl rfl
    . exact .inr (Ay _ N)
def kR(h:ns≠[]):vO d ns∈ns/\∀x∈ns,x<=vO d ns:=by
 cases ns with
 |nil=>exact absurd rfl h
 |cons n ns=>
  obtain⟨S,R,N⟩:=rk ns n;refine⟨?_,λx hx=>?_⟩
  . rcases N with N|N
    . show ns.foldl _ n∈_;rw[N];exact AE ..
    . exact Ay _ N
  . rcases Ar.mp hx with e|hx
    . rw[e];exact S
    . exact R x hx
def mQ(R:M∈ns)(S:∀x∈ns,x<=M):vO d ns=M:=by
 have N:ns≠[]:=λe=>by rw[e]at R;exact nomatch R
 obtain⟨a,b⟩:=kR (d:=d) N;exact Int.le_antisymm (S _ a) (b _ R)
theorem Vals.ints:∀{ns:List Int} {us},Vals (ns.map V.d) us->∀{i:Nat} {v},us[i]?=some v->∃t,v=.int (ns.getD i 0) t
 |[],_,.nil,_,_,h=>by cases h
 |n::ns,_,.cons r rs,0,v,h=>by
  obtain⟨t,e⟩:=r;have:v=.int n t:=(AK h).symm.trans e;exact⟨t,this⟩
 |n::ns,_,.cons r rs,i+1,v,h=>by have:=Vals.ints rs (i:=i) (v:=v) h;exact this
end
end L2
end
section
namespace L2
open PySem PyProof PyProof.Rows
section
variable {X:Cx}
def jd l items n u dd sl :
 Meets (Builtin.«tuple.__mul__» ⟨[.ref l,.int 1 u],[]⟩) (λ_ R s=>s.heap.get? l=some {cls:=.type "tuple",dict:=dd,data:=.seq items n,slots:=sl}/\R (.ok (.ret (Bp l))) s):=
 .of_wp λprog w A R s h=>by
  obtain⟨hp,g,d,tk,os⟩:=s;obtain⟨N,h⟩:=h;have S:=Hl;have W:¬((decide ((1:Int) < -(2 ^ 63))||decide ((1:Int) ≥ 2 ^ 63))=true):=by decide
  have U:((items.isEmpty||((1:Int) == 1))=true):=by simp
  wp_walk using E4 N
  exact⟨_,rfl,h⟩
def jZ l items n x u dd sl(U:x<=0)(Z:-1000<=x)(S:¬items.isEmpty=true) :
 Meets (Builtin.«tuple.__mul__» ⟨[.ref l,.int x u],[]⟩) (λ_ R s=>s.heap.get? l=some {cls:=.type "tuple",dict:=dd,data:=.seq items n,slots:=sl} /\
  R (.ok (.ret (Bp s.heap.objs.size))) {s with heap:=s.heap.push {cls:=DH "tuple",data:=Data.seq #[]},toks:=s.toks}):=
 .of_wp λprog w A R s h=>by
  obtain⟨hp,g,d,tk,os⟩:=s;obtain⟨N,h⟩:=h;have f1:=Hl;have Y:¬((decide (x < -(2 ^ 63))||decide (x ≥ 2 ^ 63))=true):=by simp;omega
  have X:¬((items.isEmpty||x == 1)=true):=by simp at S ⊢;exact⟨S,⋯⟩
  have W:((decide (x<=0)||items.isEmpty)=true):=by simp;exact .inl U
  wp_walk using E4 N
  rw[if_neg Y];refine dm (FN (items:=items) ⟨_,N,rfl,n,rfl⟩ ?_);rw[if_neg X];show wpAny _ _ (if (decide (x<=0)||items.isEmpty)=true then _ else _) _ _ _
  rw[if_pos W];exact dm (m:=BL _) (Bm (zO ⟨_,rfl,h⟩))
def Sw:R2:=λx y H Q=>∃a k xs,x=.c a/\y=.d k/\H a=some (.c xs)∧-1000<=k/\k<=1000/\xs≠[]/\xs.length<=1000/\sO H (AU k.toNat xs).flatten Q
def Yc:OpR X (BZ .Mult) Sw:=by
 intro pins s σ H x y v u Q I Z Y h;obtain⟨a,k,xs,rfl,rfl,W,h1,h2,h3,h4,g⟩:=h;by_cases hk2:2<=k
 . exact Yd pins s σ H _ _ v u Q I Z Y ⟨a,k,xs,rfl,rfl,W,hk2,h2,h3,h4,g⟩
 cases Z;obtain⟨t,rfl⟩:=Y;obtain⟨its,r,p1,_⟩:=I.tuple (.inl (.inl W));obtain⟨⟨cls,dd,data,R⟩,N,hc,n,hd⟩:=id p1;simp only at hc hd;subst hc hd;by_cases hk1:k=1
 . subst hk1
   refine DJ (T:="tuple") (U:="int") (by decide) ⟨_,N,rfl⟩ (λs'=>D5 s' 1 t) xI F8 CY vK FR.lookup
    (Ct CY (D5 s 1 t) FT (Fz _ _) (xy 1 t a its.toArray n dd R)
     ⟨N,rfl,⟨_,N,rfl⟩,Ct EB ⟨_,N,rfl⟩ G6 (GK _ _) (jd a its.toArray n t dd R) ⟨N,?_⟩⟩)
   refine⟨.c a,H,I,rfl,g a H (tX.refl H) ?_⟩;rw[W];simp
 . have S:¬its.toArray.isEmpty=true:=by simp;intro e;exact h3 (r.wO.mp e)
   have e0:k.toNat=0:=by omega
   refine DJ (T:="tuple") (U:="int") (by decide) ⟨_,N,rfl⟩ (λs'=>D5 s' k t) xI F8 CY vK FR.lookup
    (Ct CY (D5 s k t) FT (Fz _ _) (xy k t a its.toArray n dd R)
     ⟨N,rfl,⟨_,N,rfl⟩,Ct EB ⟨_,N,rfl⟩ G6 (GK _ _) (jZ a its.toArray n k t dd R ⋯ h1 S) ⟨N,?_⟩⟩)
   rw[e0]at g;refine⟨.c s.heap.objs.size,_,I.laid (t':=s.toks) (o:=.c []) (λb ob q=>xd _ q) (Ac _) ⟨AS _,[],.nil,ug.new _ _⟩,rfl,g.new _ (I.j.fresh (Ac _))⟩
noncomputable def xJ(a b c:Int):List Int:=(Ah (A4 a b c).toNat).map λ(i:Nat)=>a+(i:Int)*c
theorem pN:∀{ns:List Int} {us},ns.length=us.length->(∀(i:Nat) v,us[i]?=some v->∃t,v=.int (ns.getD i 0) t)->Vals (ns.map V.d) us
 |[],[],_,_=>.nil
 |[],_::_,h,_=>by cases h
 |_::_,[],h,_=>by cases h
 |n::ns,u::us,h,hv=>.cons (by obtain⟨t,e⟩:=hv 0 u rfl;exact⟨t,e⟩) (pN (Nat.succ.inj h) λi v e=>hv (i+1) v e)
def nF a b c(N:0<c):0<=A4 a b c:=by
 unfold A4;rw[if_pos N];split
 . have:=Int.ediv_nonneg (a:=b-a-1) (b:=c) ⋯ ⋯;omega
 . omega
def qm{x y:Str}(R:X.g=true)(hx:x="list")(hy:y="range")(hg:Gl X x)(hm:X.d x=none)(hg2:Gl X y)(Z:X.d y=none)(ha:PA X [a] ta)
 (hs:Be [a] X.a=[(false,eval a X.a)]:=by rfl) :
 PE X (.Call (.Name x p) [.Call (.Name y p2) [a] [] pos2] [] pos) (λσ H Q=>ta σ H λvs H1=>∃j:Int,vs=[.d j]∧-(2 ^ 30)<=j/\j<=2 ^ 30/\(A4 0 j 1)<=1000/\∀l,H1 l=none->Q (.c l) (upd H1 l (.b ((xJ 0 j 1).map V.d)))):=by
 intro pins s σ H Q I h;subst hx hy;refine D4 (uU I hg hm FG ?_ (by decide) (by decide))
 refine Cz (PyProof.Rows.spliced_more (Call_ (uU I hg2 Z boot_range (Cz (thn (ha pos2 pins s σ H _ I h) λus s1 zn=>?_) hs rfl) (by decide) (by decide))))
 obtain⟨vs,H1,I1,r1,q1⟩:=zn;obtain⟨j,rfl,j0,j1,hz,q⟩:=q1;cases r1 with
 |cons r rr=>
  cases rr;obtain⟨t,rfl⟩:=r;have hn0:=nF 0 j 1 ⋯
  refine call_range_1 ?_;refine PyProof.Rows.spliced_none ?_;have I2:Inv X pins σ H1 {s1 with heap:=s1.heap.push {cls:=.type "range",data:=.fields #[.int 0 s1.toks,.int j t,.int 1 (s1.toks+1)]},toks:=s1.toks+1+1}:=I1.kept λb o e=>xd _ e
  refine call_list_range (n:=(A4 0 j 1).toNat) (I1.y.l R) (IsRange.new ..) ?_ ⋯ ⋯ λh' tk N c' kp e hit=>?_
  . unfold Builtin.Range.small
    rw[if_pos ⋯]
    simp only[Builtin.Range.rangeFitsLong,ub,Bc,decide_eq_true_eq,beq_iff_eq];omega
  . obtain⟨Y,W⟩:=hit
    have hl:(xJ 0 j 1).length=N.toList.length:=by unfold xJ;rw[Aa,A0];simpa using Y.symm
    have hv:Vals ((xJ 0 j 1).map V.d) N.toList:=by
     refine pN hl λm v hm=>?_;have S:N[m]?=some v:=by simpa using hm
     obtain⟨t,e⟩:=W m v S;have hlt:m<(A4 0 j 1).toNat:=by have:=(AY.mp S).1;omega
     refine⟨t,?_⟩;rw[e];congr 1;unfold xJ;rw[Ab,Am,CC hlt];rfl
    have U:((xJ 0 j 1).map V.d).length<=AH:=by unfold xJ;rw[Aa,Aa,A0,A1];omega
    exact⟨.c _,_,I2.laid (t':=tk) (o:=.b ((xJ 0 j 1).map V.d)) kp (Ac _) ⟨U,N.toList,c',hv,by simpa using e⟩,rfl,q _ (I2.j.fresh (Ac _))⟩
end
end L2
end
section
namespace L2
open PySem PyProof PyProof.Rows
section
variable {X:Cx}
theorem tm:∀{xs} {us},Vals xs us->xs.all wm=true->us.countP (eqU x)=xs.countP λy=>eqV y x
 |_,_,.nil,_=>rfl
 |y::ys,u::us,.cons r rs,h=>by rw[Df,ub]at h;rw[ED,ED,tm rs h.2,kB r h.1]
def nE(K:AI)(tup:Bool):V->List V->Hp->VK->Prop:=λx vs H Q=>∃t xs y,x=.c t/\vs=[y]/\(if tup=true then SqT K H t xs else SqL K H t xs)/\wm y=true/\xs.all wm=true/\Q (.d (xs.countP λz=>eqV z y:Nat)) H
def fI:MtR X "tuple.count" (nE X.K true):=by
 intro pins s σ H x xs v us Q I U Y h;obtain⟨t,ys,y,rfl,rfl,ht,fy,fs,q⟩:=h;cases U;obtain⟨u,rfl,W⟩:=vals1 Y;obtain⟨its,r,Z,_⟩:=I.tuple ht;obtain⟨⟨cls,dd,data,S⟩,N,R,n,hd⟩:=id Z;simp only at R hd;subst R hd;refine Ct F.slot_tuple_count ⟨_,N,rfl⟩ F.entry_tuple_count (F.args_tuple_count_2 _ _) (SeqAt.tuple_countAt t its.toArray n dd S u (eqU y)) ⟨N,λw hw=>ve W fy r fs w (by simpa using hw),?_⟩
 rw[show its.toArray.toList=its from rfl,tm r fs];exact⟨.d _,H,I.tok _,⟨s.toks,rfl⟩,q⟩
def fH:MtR X "list.count" (nE X.K false):=by
 intro pins s σ H x xs v us Q I U Y h;obtain⟨t,ys,y,rfl,rfl,ht,fy,fs,q⟩:=h;cases U;obtain⟨u,rfl,W⟩:=vals1 Y;obtain⟨its,r,Z,_⟩:=I.list ht;obtain⟨⟨cls,dd,data,S⟩,N,R,n,hd⟩:=id Z.isList;simp only at R hd;subst R hd;refine Ct F.slot_list_count ⟨_,N,rfl⟩ F.entry_list_count (F.args_list_count_2 _ _) (SeqAt.list_countAt t its.toArray n dd S u (eqU y)) ⟨N,λw hw=>ve W fy r fs w (by simpa using hw),?_⟩
 rw[show its.toArray.toList=its from rfl,tm r fs];exact⟨.d _,H,I.tok _,⟨s.toks,rfl⟩,q⟩
noncomputable def vg(d:Int):List Int->Int
 |[]=>d
 |n::ns=>ns.foldl (λa b=>if b<a then b else a) n
theorem rl:∀(ns:List Int) a,ns.foldl (λa b=>if b<a then b else a) a<=a/\(∀x∈ns,ns.foldl (λa b=>if b<a then b else a) a<=x)/\(ns.foldl (λa b=>if b<a then b else a) a=a\/ns.foldl (λa b=>if b<a then b else a) a∈ns)
 |[],a=>⟨Cr _,λ_ h=>(nomatch h),.inl rfl⟩
 |n::ns,a=>by
  obtain⟨S,U,N⟩:=rl ns (if n<a then n else a)
  show ns.foldl _ (if n<a then n else a)<=a/\_
  have R:(if n<a then n else a)<=a/\(if n<a then n else a)<=n:=by split<;>omega
  refine⟨Bh S R.1,λx hx=>?_,?_⟩
  . rcases Ar.mp hx with e|hx
    . rw[e];exact Bh S R.2
    . exact U x hx
  . rcases N with N|N
    . show ns.foldl _ (if n<a then n else a)=a\/ns.foldl _ (if n<a then n else a)∈n::ns
      rw[N];split
      . exact .inr (AE ..)
      . exact .inl rfl
    . exact .inr (Ay _ N)
def kT(h:ns≠[]):vg d ns∈ns/\∀x∈ns,vg d ns<=x:=by
 cases ns with
 |nil=>exact absurd rfl h
 |cons n ns=>
  obtain⟨S,R,N⟩:=rl ns n;refine⟨?_,λx hx=>?_⟩
  . rcases N with N|N
    . show ns.foldl _ n∈_;rw[N];exact AE ..
    . exact Ay _ N
  . rcases Ar.mp hx with e|hx
    . rw[e];exact S
    . exact R x hx
def mU(R:M∈ns)(S:∀x∈ns,M<=x):vg d ns=M:=by
 have N:ns≠[]:=λe=>by rw[e]at R;exact nomatch R
 obtain⟨a,b⟩:=kT (d:=d) N;exact Int.le_antisymm (b _ R) (S _ a)
def Xy(K:AI)(g:List Int->Int):List V->Hp->VK->Prop:=λxs H Q=>∃(a:Addr) (ns:List Int),xs=[.c a]/\SqL K H a (ns.map V.d)/\ns≠[]/\Q (.d (g ns)) H
def gP(hc:X.g=true):yN X (.builtin "max") (Xy X.K (vO 0)):=by
 intro pins s σ H xs us Q I r h;obtain⟨a,ns,rfl,ha,Y,q⟩:=h;obtain⟨u,rfl,ru⟩:=vals1 r;cases ru;obtain⟨its,rv,W,hz⟩:=I.list ha;have R:=rv.length;have U:a<s.heap.objs.size:=by obtain⟨o,N,_⟩:=W.isList;exact An N
 have hl:its.toArray.size=ns.length:=by rw[Ae,<-R,Aa]
 have hpos:0<ns.length:=EW.mpr Y;have S:∀(i:Nat) (v:Value),its.toArray[i]?=some v->∃t,v=.int (ns.getD i 0) t:=λi v hv=>rv.ints (by simpa using hv)
 refine call_max_walk (Eh W.isList ?_);refine⟨s.heap.objs.size,_,_,_,_,_,_,rfl,Im (A:=X.A.in1) (I.y.l hc) s.heap.objs.size a (Ax U) its.toArray,⟨⟨_,AA _ rfl,rfl,rfl⟩,?_⟩,λb hb=>?_,⋯,CmpOf.ints_gt (λi=>ns.getD i 0) S,λv h' tk hP hk=>?_⟩
 . obtain⟨o,N,Z,n,hd⟩:=W.isList
   exact⟨o,xd _ N,Z,n,hd⟩
 . rw[B9]
   simp only[Ar,BG,or_false]at hb;rcases hb with e|e
   . rw[e];exact CN _
   . rw[e];exact Bu U
 . obtain⟨t,rfl⟩:=S _ _ hP
   obtain⟨b1,b2⟩:=argBest_gt (λi=>ns.getD i 0) (its.toArray.size-1);have e:vO 0 ns=ns.getD (argBest (λi j=>decide (ns.getD i 0 > ns.getD j 0)) (its.toArray.size-1)) 0:=by
    refine mQ ?_ λx hx=>?_
    . have:argBest (λi j=>decide (ns.getD i 0 > ns.getD j 0)) (its.toArray.size-1)<ns.length:=by omega
      rw[Ab,dS this];exact BB this
    . obtain⟨i,hi,rfl⟩:=Bx hx
      have:=b2 i ⋯
      simpa [Ab,dS hi] using this
   refine⟨.d (vO 0 ns),H,I.kept λb o N=>hk b o ?_ (xd _ N),⟨t,by rw[e]⟩,q⟩
   simpa using Ax (An N)
def gS(hc:X.g=true):yN X (.builtin "min") (Xy X.K (vg 0)):=by
 intro pins s σ H xs us Q I r h;obtain⟨a,ns,rfl,ha,Y,q⟩:=h;obtain⟨u,rfl,ru⟩:=vals1 r;cases ru;obtain⟨its,rv,W,hz⟩:=I.list ha;have R:=rv.length;have U:a<s.heap.objs.size:=by obtain⟨o,N,_⟩:=W.isList;exact An N
 have hl:its.toArray.size=ns.length:=by rw[Ae,<-R,Aa]
 have hpos:0<ns.length:=EW.mpr Y;have S:∀(i:Nat) (v:Value),its.toArray[i]?=some v->∃t,v=.int (ns.getD i 0) t:=λi v hv=>rv.ints (by simpa using hv)
 refine call_min_walk (Eh W.isList ?_);refine⟨s.heap.objs.size,_,_,_,_,_,_,rfl,Im (A:=X.A.in1) (I.y.l hc) s.heap.objs.size a (Ax U) its.toArray,⟨⟨_,AA _ rfl,rfl,rfl⟩,?_⟩,λb hb=>?_,⋯,CmpOf.ints_lt (λi=>ns.getD i 0) S,λv h' tk hP hk=>?_⟩
 . obtain⟨o,N,Z,n,hd⟩:=W.isList
   exact⟨o,xd _ N,Z,n,hd⟩
 . rw[B9]
   simp only[Ar,BG,or_false]at hb;rcases hb with e|e
   . rw[e];exact CN _
   . rw[e];exact Bu U
 . obtain⟨t,rfl⟩:=S _ _ hP
   obtain⟨b1,b2⟩:=argBest_lt (λi=>ns.getD i 0) (its.toArray.size-1);have e:vg 0 ns=ns.getD (argBest (λi j=>decide (ns.getD i 0<ns.getD j 0)) (its.toArray.size-1)) 0:=by
    refine mU ?_ λx hx=>?_
    . have:argBest (λi j=>decide (ns.getD i 0<ns.getD j 0)) (its.toArray.size-1)<ns.length:=by omega
      rw[Ab,dS this];exact BB this
    . obtain⟨i,hi,rfl⟩:=Bx hx
      have:=b2 i ⋯
      simpa [Ab,dS hi] using this
   refine⟨.d (vg 0 ns),H,I.kept λb o N=>hk b o ?_ (xd _ N),⟨t,by rw[e]⟩,q⟩
   simpa using Ax (An N)
def fW{o e:Expr}{to te:TE}{apos cpos:Pos}{es:List Expr}(W:PE X o to)(he:PE X e te)(R:EN o "append" X.a (eval o X.a)=eval o X.a:=by rfl)(S:noStar e=true:=by rfl)(N:(apos.endLine == cpos.line)=true:=by rfl) :
 PE X (.Call (.Attribute o "append" apos) [e] [] cpos) (tBM X.K "list" hU to (lR te ay)):=by
 have U:Be [e] X.a=(false,eval e X.a)::Be [] X.a:=yF S;refine Xw HF PySem.F.slot_list_append PySem.F.type_list_append pT W (pac he vH S) R ?_ N U rfl;rw[U];rfl
def fZ(W:PE X o to)(he:PE X e te)(R:EN o "count" X.a (eval o X.a)=eval o X.a:=by rfl)(S:noStar e=true:=by rfl)(N:(apos.endLine == cpos.line)=true:=by rfl) :
 PE X (.Call (.Attribute o "count" apos) [e] [] cpos) (tBM X.K "list" (nE X.K false) to (lR te ay)):=by
 have U:Be [e] X.a=(false,eval e X.a)::Be [] X.a:=yF S;refine Xw HF PySem.F.slot_list_count PySem.F.type_list_count fH W (pac he vH S) R ?_ N U rfl;rw[U];rfl
def QC(r:V->List V->Hp->VK->Prop)(to:TE)(t:TA):TE:=λσ H Q=>to σ H λx H1=>(∃a xs,x=.c a/\H1 a=some (.c xs))/\t σ H1 λxs H2=>r x xs H2 Q
def fb(ho:PE X o to)(he:PE X e te)(R:EN o "count" X.a (eval o X.a)=eval o X.a:=by rfl)(S:noStar e=true:=by rfl)(N:(apos.endLine == cpos.line)=true:=by rfl) :
 PE X (.Call (.Attribute o "count" apos) [e] [] cpos) (QC (nE X.K true) to (lR te ay)):=by
 have U:Be [e] X.a=(false,eval e X.a)::Be [] X.a:=yF S;intro pins s σ H Q I h;refine wpAny_Call_method_late R (by rw[U];rfl) N rfl (thn (ho pins s σ H _ I h) λv s1 ⟨x,H1,I1,r1,ty,q1⟩=>?_)
 obtain⟨a,xs,rfl,hx⟩:=ty;cases r1;obtain⟨z,its,rv,W,Z,c1,n,d1,nd⟩:=(show z8 X.f X.w H1 s1.heap a (.c xs) from I1.j a _ hx);refine⟨"tuple",_,PySem.F.plainAttrs_tuple,PySem.F.slot_tuple_count,PySem.F.type_tuple_count,⟨W,Z,c1⟩,λb hb=>?_,?_⟩
 . cases hb;exact⟨W,Z,nd⟩
 have Y:=(pac he vH S:PA X [e] _) cpos pins s1 σ H1 _ I1 q1;rw[U]at Y ⊢;refine Calls.callWith_builtin rfl (Calls.evalArgs_plain ?_);exact thn Y λus s2 ⟨vs,H2,I2,r2,q2⟩=>fI pins s2 σ H2 (.c a) vs _ us Q I2 rfl r2 q2
end
end L2
namespace L2
open PySem
end L2
end
section
namespace L2
open PySem PySem.W PySem.Calls PyProof PyProof.Rows
def RW(K:AI)(H:Hp)(ys:List V)(zs:List (Int × Int)):Prop:=ys.length=zs.length/\∀(i:Nat) (z:Int × Int),zs[i]?=some z->∃b,ys[i]?=some (V.c b)/\SqT K H b [.d z.1,.d z.2]
noncomputable def yg(z:Int × Int):Int:=z.1*1000+z.2
def dE(R:0<=a.2/\a.2<1000)(N:0<=b.2/\b.2<1000):yg a<yg b↔a.1<b.1\/a.1=b.1/\a.2<b.2:=by unfold yg;omega
def pH(U:0<=a.2/\a.2<1000)(S:0<=b.2/\b.2<1000)(e:yg a=yg b):a=b:=by
 unfold yg at e;have R:a.1=b.1:=by omega
 have N:a.2=b.2:=by omega
 exact Fc R N
def nJ{vs:List Value}(hl:s.heap.IsList l vs.toArray)(h2:vs.length<2)
 (h:∀h' c,(∀b o,s.heap.get? b=some o->h'.get? b=some o)->h'.get? (s.heap.objs.size+1)=some (seqObj "list" vs.toArray c)->Q (.ref (s.heap.objs.size+1)) {s with heap:=h'}) :
 wpAny (model prog w) A (call (.builtin "sorted") [.ref l]) Q E s:=by
 refine E5 kind_sorted plain_sorted entry_sorted (args_sorted1 _) ?_;unfold Builtin.«sorted»;refine dm (m:=checkCount "sorted" 1 1 _) (zO ?_);refine dm (collect_list hl ?_ (by rw[A1];omega))
 refine dm (DB ?_ (by rw[A1];omega))
 have S:((s.heap.push (seqObj "list" #[] 0)).update s.heap.objs.size (A2 (·++vs.toArray))).objs.size=s.heap.objs.size+1:=by rw[Heap.size_update,size_push']
 have N:(((s.heap.push (seqObj "list" #[] 0)).update s.heap.objs.size (A2 (·++vs.toArray))).push (seqObj "list" vs.toArray 0)).get? (s.heap.objs.size+1)=some (seqObj "list" vs.toArray 0):=by rw[<-S];exact AA _ rfl
 have keep:∀b o,s.heap.get? b=some o->(((s.heap.push (seqObj "list" #[] 0)).update s.heap.objs.size (A2 (·++vs.toArray))).push (seqObj "list" vs.toArray 0)).get? b=some o:=λb o q=>by
  have R:b<s.heap.objs.size:=An q;rw[FA _ _ _ (by rw[S];exact Ax (Bu R)),BN _ _ _ _ (Ax R),FA _ _ _ (Ax R)]
  exact q
 show wpAny _ _ _ _ _ {s with heap:=((s.heap.push (seqObj "list" #[] 0)).update s.heap.objs.size (A2 (·++vs.toArray))).push (seqObj "list" vs.toArray 0)}
 rw[S];generalize hg:((s.heap.push (seqObj "list" #[] 0)).update s.heap.objs.size (A2 (·++vs.toArray))).push (seqObj "list" vs.toArray 0)=g at N keep ⊢
 refine dm (A6 (BA Gx ⟨_,N,rfl⟩ Gb ?body (Gy _)))
 case body=>
  have ha:s.heap.objs.size+1<g.objs.size:=An N;rw[Gd];refine dm (Ho N rfl ?_);refine dm (DC N rfl ?_ (by rw[Ae,A1];omega) (AS _))
  obtain⟨Z,X⟩:∃Z,(g.update (s.heap.objs.size+1) (A2 λ_=>(#[]:Array Value))).get? (s.heap.objs.size+1)=some (seqObj "list" #[] Z):=⟨_,C0 N λ_=>#[]⟩;refine dm (Ef X rfl ?_);refine dm (Fu ?_ (by show vs.length<=_;rw[A1];omega))
  refine dm (DB ?_ (AS _));refine A6 ?_;have U:(((g.update (s.heap.objs.size+1) (A2 λ_=>(#[]:Array Value))).push (seqObj "tuple" vs.toArray 0)).push (seqObj "list" #[] 0)).get? (s.heap.objs.size+1)=some (seqObj "list" #[] Z):=
   xd _ (xd _ X)
  show wpAny (model prog w) _ _ _ _ {s with heap:=((g.update (s.heap.objs.size+1) (A2 λ_=>(#[]:Array Value))).push (seqObj "tuple" vs.toArray 0)).push (seqObj "list" #[] 0)}
  dsimp only;have Y:vs.toArray.size<2:=by rw[Ae];exact h2
  rw[if_pos Y,if_pos Y];refine dm (zO ?_);rw[StateT.run_pure];refine dm (zO ?_);dsimp only;refine dm (Ef U rfl ?_);have W:(arrOf (Ge general' (vs.toArray.zip vs.toArray) #[] 7 none)).map (·.2)=vs.toArray:=by
   show (vs.toArray.zip vs.toArray).map (·.2)=vs.toArray
   apply EE.mp;simp[List.map_snd_zip]
  rw[W];refine dm (DC U rfl ?_ (AS _) (by rw[Ae,A1];omega))
  simp only[bne_self_eq_false,Au,if_false];refine zO ⟨_,rfl,zO ⟨_,rfl,?_⟩⟩;have hc:=C0 U λ_=>vs.toArray;refine h _ _ (λb o e=>?_) hc;have R:b<s.heap.objs.size:=An e;have hb:b≠s.heap.objs.size+1:=Ax (Bu R);rw[BN _ _ _ _ hb];refine xd _ (xd _ ?_);rw[BN _ _ _ _ hb];exact keep b o e
def z8.got(x:z8 P w H h a o):∃u,h.get? a=some u:=by
 cases o with
 |b xs=>obtain⟨_,_,_,_,e⟩:=x;exact⟨_,e⟩
 |c xs=>obtain⟨_,_,_,_,e,_⟩:=x;exact⟨_,e⟩
 |j N=>obtain⟨_,_,_,_,o,_,_,e,_⟩:=x;exact⟨_,e⟩
 |k N=>obtain⟨_,_,_,_,o,_,_,e,_⟩:=x;exact⟨_,e⟩
 |m S n=>obtain⟨o,_,_,_,e,_⟩:=x;exact⟨_,e⟩
 |l C W fs=>obtain⟨_,_,_,e,_⟩:=x;exact⟨_,e⟩
 |e y=>exact x
 |r fs=>obtain⟨_,⟨_,_,_,e,_⟩,_⟩:=x;exact⟨_,e⟩
 |q lo hi=>obtain⟨_,_,_,e⟩:=x;exact⟨_,e⟩
 |g U u=>obtain⟨e,_⟩:=x;exact⟨_,e⟩
 |d ps=>exact⟨_,x⟩
 |p f y=>exact⟨_,x⟩
 |i R=>exact x.2.1
theorem p8(r:Vals ys its):∀(l:List Nat),(∀i∈l,i<ys.length)->Vals (l.map λi=>ys.getD i .g) (l.map λi=>its.getD i Ad)
 |[],_=>.nil
 |i::l,h=>by
  have hi:i<ys.length:=h i (.head _);obtain⟨u,e,N⟩:=r.get (i:=i) (x:=ys[i]) (by simp[hi])
  refine .cons ?_ (p8 r l λj R=>h j (.tail _ R));show RelV (ys.getD i .g) (its.getD i Ad);rw[Ab,Ab,e];simp only[dS hi,EF];exact N
def uA{N:Type}(d:N){zs}{l:List Nat}(h:l.Perm (Ah zs.length)):(l.map λi=>zs.getD i d).Perm zs:=by
 have e:(Ah zs.length).map (λi=>zs.getD i d)=zs:=by
  apply EG
  . simp
  . intro i S R
    simp[dS R]
 exact(h.map _).trans (.of_eq e)
def Inv.ll(I:Inv X pins σ H s)(Z:ys.length<=AH)(r:Vals ys its)(W:s.heap.get? D=none)(keep:∀b o,b≠X.a.locals->s.heap.get? b=some o->h'.get? b=some o)
 (ns:∀m,s.heap.Ns X.a.locals m->h'.Ns X.a.locals m) (e:h'.get? D=some {cls:=.type "list",data:=.seq its.toArray c}):H D=none/\Inv X pins σ (upd H D (.b ys)) {s with heap:=h'}:=by
 have U:H D=none:=by
  cases q:H D with
  |none=>rfl
  |some o=>
   obtain⟨u,hu⟩:=z8.got (I.j D o q);rw[W]at hu;cases hu
 have ne:∀b o,H b=some o->b≠D:=λb o q z=>by rw[z,U]at q;cases q
 have N:∀b o,s.heap.get? b=some o->b≠D:=λb o q z=>by rw[z,W]at q;cases q
 refine⟨U,I.step (g':=s.gens) (d':=s.drawn) (t':=s.toks) (ch:=[]) (λ_ z=>nomatch z) (λb o S _ _ q _=>keep b o S q) (λb o S _ _ q _=>⟨o.slots,keep b o S q⟩) (λb o _ q n=>?_) (λb o _ q=>?_) (λb xs q=>?_) (λb o u q=>?_) (λb ps q=>?_) ns (λb o q=>?_) I.G⟩
 . rw[zP (N b o q)];exact n
 . by_cases hb:b=X.a.locals
   . subst hb
     obtain⟨m,hm,_⟩:=I.M;obtain⟨Y,_,_,R,_⟩:=ns m hm;exact⟨Y,R⟩
   . exact⟨o,keep b o hb q⟩
 . rw[zP (ne b _ q)];exact q
 . rw[zP (ne b _ q)];exact q
 . exact⟨#[],by rw[zP (ne b _ q),q];simp⟩
 . by_cases hb:b=D
   . subst hb
     rw[zd]at q;cases q;exact⟨Z,its,c,r,e⟩
   . rw[zP hb]at q
     refine(I.j b o q).eC (λx u hx hu=>keep x u ?_ hu) (λx hx=>by rw[zP (ne x _ hx)];exact hx) (λx xs hx=>by rw[zP (ne x _ hx)];exact hx)
     rcases hx with rfl|hx
     . intro z;rw[z,I.F]at q;cases q
     . intro z;rw[z,I.F]at hx;cases hx
end L2
end
section
namespace L2
open PySem PySem.W PySem.Calls PyProof PyProof.Rows Att
def v9{N:Type}{zs}(d:N):(Ah zs.length).map (λi=>zs.getD i d)=zs:=by
 apply EG
 . simp
 . intro i S R
   simp[dS R]
theorem qR:∀{l R:List (Int × Int)},l.Pairwise (λa b=>yg a<yg b)->R.Pairwise (λa b=>yg a<yg b)->(∀x,x∈l↔x∈R)->l=R
 |[],[],_,_,_=>rfl
 |[],y::t',_,_,h=>by have:=(h y).mpr (.head _);cases this
 |x::t,[],_,_,h=>by have:=(h x).mp (.head _);cases this
 |x::t,y::t',h1,h2,h=>by
  rw[BX]at h1 h2;have S:x=y:=by
   rcases Ar.mp ((h x).mp (.head _)) with e|m
   . exact e
   . rcases Ar.mp ((h y).mpr (.head _)) with e|N
     . exact e.symm
     . have a:=h2.1 x m
       have b:=h1.1 y N;omega
  subst S;congr 1;refine qR h1.2 h2.2 λa=>⟨λm=>?_,λm=>?_⟩
  . rcases Ar.mp ((h a).mp (.tail _ m)) with e|N
    . have:=h1.1 a m
      rw[e]at this;omega
    . exact N
  . rcases Ar.mp ((h a).mpr (.tail _ m)) with e|N
    . have:=h2.1 a m
      rw[e]at this;omega
    . exact N
end L2
end
section
namespace L2
open PySem PySem.W PySem.Calls PyProof PyProof.Rows
noncomputable def ql:List Int->List Int->Bool
 |x::xs,y::ys=>if x=y then ql xs ys else decide (x<y)
 |_,_=>false
inductive vV:List Value->List Int->Prop
 |b:vV [] []
 |a {i:Int} {t:Tok} {us:List Value} {ns:List Int}:vV us ns->vV (.int i t::us) (i::ns)
theorem Xk:∀{ns} {us},Vals (ns.map V.d) us->vV us ns
 |[],_,.nil=>.b
 |n::ns,_,.cons r rs=>by obtain⟨t,rfl⟩:=(show ∃t,_=De n t from r);exact .a (Xk rs)
def ZR(K:AI)(H:Hp)(ys:List V)(zs:List (List Int)):Prop:=ys.length=zs.length/\∀(i:Nat) (z:List Int),zs[i]?=some z->∃b,ys[i]?=some (V.c b)/\SqT K H b (z.map V.d)
def TV(h:Heap)(its:List Value)(zs:List (List Int)):Prop:=
 its.length=zs.length/\∀(i:Nat) (z:List Int),zs[i]?=some z->∃b o n us,its[i]?=some (Bp b)/\h.get? b=some o/\o.cls=.type "tuple"/\o.data=.seq (List.toArray us) n/\vV us z
def ZR.tv(I:Inv X pins σ H s)(h:ZR X.K H ys zs)(r:Vals ys its):TV s.heap its zs:=by
 refine⟨by rw[<-r.length];exact h.1,λi z e=>?_⟩
 obtain⟨b,e1,Z⟩:=h.2 i z e;obtain⟨u,Y,R⟩:=r.get e1;obtain⟨us,S,⟨o,U,W,n,hd⟩,_⟩:=I.tuple Z;have N:u=Bp b:=R;subst N;exact⟨b,o,n,us,Y,U,W,hd,Xk S⟩
theorem TV.si:∀{its} {zs},TV h its zs->(∀z∈zs,z≠[])->∃fs,KatTups h its fs/\fs.length=its.length/\∀v∈fs,∃i t,v=De i t
 |[],[],_,_=>⟨[],KatTups.nil,rfl,λ_ x=>nomatch x⟩
 |[],_::_,⟨l,_⟩,_=>by cases l
 |_::_,[],⟨l,_⟩,_=>by cases l
 |v::its,z::zs,⟨l,f⟩,hn=>by
  obtain⟨b,o,n,us,e,Y,Z,hd,W⟩:=f 0 z rfl;have e':v=Bp b:=by simpa using e
  subst e';obtain⟨fs,k,S,U⟩:=TV.si (h:=h) (its:=its) (zs:=zs) ⟨by simpa using l,λi N e=>by simpa using f (i+1) N (by simpa using e)⟩ λN X=>hn N (.tail _ X)
  cases W with
  |b=>exact absurd rfl (hn [] (.head _))
  |@a i t us ns r=>
   refine⟨De i t::fs,KatTups.cons Y Z hd (by simp) k,by simp[S],λv R=>?_⟩
   rcases Ar.mp R with rfl|R
   . exact⟨_,_,rfl⟩
   . exact U v R
def vz(h:vV us ns):us.length=ns.length:=by
 induction h with
 |b=>rfl
 |a _ N=>simp[N]
end L2
end
section
namespace L2.Tim
open PySem PySem.W PySem.Calls PyProof PyProof.Rows
section
variable {prog:Program}{w:World}{A:Around}{E:Value->Shared->Prop}{s:Shared}{κ:DE}{a₀:Array Keyed}{key:Keyed->Int}
noncomputable def kk(key:Keyed->Int)(a:Array Keyed)(i:Nat):Int:=key (a.getD i (Ad,Ad))
def SIn(key:Keyed->Int)(a:Array Keyed)(lo n:Nat):Prop:=∀i j,i<=j->j<n->kk key a (lo+i)<=kk key a (lo+j)
def NIn(key:Keyed->Int)(a:Array Keyed)(lo n:Nat):Prop:=∀i j,i<=j->j<n->kk key a (lo+j)<=kk key a (lo+i)
def Pre(lo:Nat)(a b:Array Keyed):Prop:=∀i,i<lo->b[i]?=a[i]?
def Pre.refl{lo}:Pre lo a a:=λ_ _=>rfl
theorem Pre.trans{lo}(h:Pre lo a b)(k:Pre lo b c):Pre lo a c:=λi hi=>(k i hi).trans (h i hi)
structure Bs(κ:DE)(a₀:Array Keyed)(st:SortSt):Prop where
 c:kindOf st=κ
 a:(arrOf st).Perm a₀
 b:Ff st=none
theorem Bs.size{st}(h:Bs κ a₀ st):(arrOf st).size=a₀.size:=h.a.size_eq
def Bs.set{st}(h:Bs κ a₀ st)(hp:xs.Perm (arrOf st)):Bs κ a₀ (setArr st xs):=⟨h.c,hp.trans h.a,h.b⟩
def sY(prog:Program)(w:World)(A:Around)(E:Value->Shared->Prop)(s:Shared)(κ:DE)(a₀:Array Keyed)(key:Keyed->Int):Prop:=
 ∀(x y:Keyed) (st:SortSt) (Q:Option Bool->SortSt->Prop),x∈a₀.toList->y∈a₀.toList->kindOf st=κ->Q (some (decide (key x<key y))) st->wpS (model prog w) A E s (lt' x y) Q st
def y6(h:a[i]?=b[j]?):kk key a i=kk key b j:=by unfold kk;rw[AG,AG,h]
def Bs.at{st}(h:Bs κ a₀ st)(hi:i<a₀.size):∃x,(arrOf st)[i]?=some x/\x∈a₀.toList/\kk key (arrOf st) i=key x:=by
 have N:i<(arrOf st).size:=by rw[h.size];exact hi
 refine⟨(arrOf st)[i],by simp[N],?_,?_⟩
 . exact(CI.mp h.a).mem_iff.mp (by simp)
 . unfold kk;simp[Io,N]
def zm{st}(h:arr[i]?=some x)(q:Q x st):wpS (model prog w) A E s (elem' arr i) Q st:=by rw[elem'_eq,h];exact Av q
def lU(L:sY prog w A E s κ a₀ key){st}(N:Bs κ a₀ st)(hi:i<a₀.size)(X:j<a₀.size)
 (h:Q (some (decide (kk key (arrOf st) i<kk key (arrOf st) j))) st):wpS (model prog w) A E s (ltAt' i j) Q st:=by
 obtain⟨x,Z,S,W⟩:=N.at (key:=key) hi;obtain⟨y,Y,R,U⟩:=N.at (key:=key) X;rw[ltAt'_eq];refine Ai (wpS_get ?_);refine Ai (zm Z (Ai (zm Y ?_)));rw[W,U]at h;exact L x y st Q S R N.c h
def pQ(N:j<=xs.size)k:kk key (mirror xs i j ((j-i)/2)) k=if i<=k/\k<j then kk key xs (i+j-1-k) else kk key xs k:=by
 have e:=getElem?_mirror_all (i:=i) N k;by_cases h1:i<=k/\k<j
 . rw[if_pos h1]at e ⊢;exact y6 e
 . rw[if_neg h1]at e ⊢;exact y6 e
def jA{lo i j}(N:j<=xs.size)(hi:lo<=i):Pre lo xs (mirror xs i j ((j-i)/2)):=λk hk=>by rw[getElem?_mirror_all (i:=i) N k,if_neg ⋯]
def pP(hs:src<xs.size)(hd:d<=src)k:kk key (bubble xs src d) k=if k=src-d then kk key xs src else if src-d<k/\k<=src then kk key xs (k-1) else kk key xs k:=by
 have e:=getElem?_bubble hs d hd k;by_cases h1:k=src-d
 . rw[if_pos h1]at e ⊢;exact y6 e
 . rw[if_neg h1]at e ⊢
   by_cases h2:src-d<k/\k<=src
   . rw[if_pos h2]at e ⊢;exact y6 e
   . rw[if_neg h2]at e ⊢;exact y6 e
def Us{st}(h:Q () (setArr st (mirror (arrOf st) i j ((j-i)/2)))):wpS (model prog w) A E s (reverseSlice' i j) Q st:=by rw[reverseSlice'_eq];exact CJ h
def Ur(L:sY prog w A E s κ a₀ key){st}{lo n ok}(hn:lo+n<=a₀.size)(hok:ok<=n)(hB:Bs κ a₀ st)(hs:SIn key (arrOf st) lo ok)
 (h:∀st',Bs κ a₀ st'->Pre lo (arrOf st) (arrOf st')->AV st'=AV st->SIn key (arrOf st') lo n->Q true st'):wpS (model prog w) A E s (binarySort' lo n ok) Q st:=by
 rw[binarySort'_eq];refine Ai (C1 (BH (I:=λk c st'=>c=(none,())/\Bs κ a₀ st'/\Pre lo (arrOf st) (arrOf st')/\AV st'=AV st/\SIn key (arrOf st') lo (min k n))
  (Q:=λc st'=>c=(none,())/\Bs κ a₀ st'/\Pre lo (arrOf st) (arrOf st')/\AV st'=AV st/\SIn key (arrOf st') lo n) ?step ?fin ?init) ?post)
 case post=>
  rintro c st' ⟨rfl,W,hp,X,R⟩;exact Av (h st' W hp X R)
 case init=>
  refine⟨rfl,hB,.refl,rfl,λi j hij hj=>?_⟩;by_cases h1:ok=0
  . have:i=j:=by omega
    subst this;exact Cr _
  . exact hs i j hij ⋯
 case fin=>
  rintro c st' ⟨hc,W,hp,X,R⟩;refine⟨hc,W,hp,X,?_⟩
  rwa [show min (max (max ok 1) n) n=n by omega]at R
 case step=>
  rintro k c st' hak hkn ⟨rfl,W,hp,X,R⟩;rw[show min k n=k by omega]at R
  have hk:lo+k<a₀.size:=by omega
  refine Ai (C1 (BH (I:=λx c N=>N=st'/\∃l r,c=(none,l,r)/\l<=r/\r<=k/\r-l<=k-x /\
   (∀i,i<l->kk key (arrOf st') (lo+i)<=kk key (arrOf st') (lo+k))/\(∀i,r<=i->i<k->kk key (arrOf st') (lo+k)<kk key (arrOf st') (lo+i)))
   (Q:=λc N=>N=st'/\∃l r,c=(none,l,r)/\l<=k /\
    (∀i,i<l->kk key (arrOf st') (lo+i)<=kk key (arrOf st') (lo+k))/\(∀i,l<=i->i<k->kk key (arrOf st') (lo+k)<kk key (arrOf st') (lo+i))) ?istep ?ifin ?iinit) ?ipost)
  case iinit=>exact⟨rfl,0,k,rfl,⋯,⋯,⋯,λi hi=>⋯,λi h1 h2=>⋯⟩
  case ifin=>
   rintro c N ⟨rfl,l,r,rfl,hlr,Y,hm,S,U⟩;have:l=r:=by omega
   subst this;exact⟨rfl,l,l,rfl,Y,S,U⟩
  case istep=>
   rintro x c N _ hxk ⟨rfl,l,r,rfl,hlr,Y,hm,S,U⟩;dsimp only;by_cases hge:l ≥ r
   . rw[if_pos hge]
     have:l=r:=by omega
     subst this;exact Av ⟨rfl,l,l,rfl,Y,S,U⟩
   . rw[if_neg hge]
     refine Ai (lU L W hk ⋯ ?_)
     by_cases hless:kk key (arrOf N) (lo+k)<kk key (arrOf N) (lo+(l+r)/2)
     . simp only[hless,decide_true,if_true]
       refine Av ⟨rfl,l,(l+r)/2,rfl,⋯,⋯,⋯,S,λi h1 h2=>?_⟩
       exact Int.lt_of_lt_of_le hless (R _ _ h1 h2)
     . simp only[hless,decide_false,Au,if_false]
       refine Av ⟨rfl,(l+r)/2+1,r,rfl,⋯,⋯,⋯,λi h1=>?_,U⟩
       exact Bh (R i ((l+r)/2) ⋯ ⋯) (Ip.mp hless)
  case ipost=>
   rintro c N ⟨rfl,l,r,rfl,hlk,S,U⟩;show wpS _ _ _ _ (do moveDown' (lo+k) (lo+l);pure (CZ (none,()))) _ _
   rw[moveDown'_eq];have Z:lo+k<(arrOf N).size:=by rw[W.size];exact hk
   refine Ai (CJ (Av ⟨rfl,W.set (bubble_perm _ _ _),hp.trans λi hi=>?_,X,?_⟩))
   . show (bubble (arrOf N) (lo+k) (lo+k-(lo+l)))[i]?=_
     rw[getElem?_bubble Z _ ⋯,if_neg ⋯,if_neg ⋯]
   rw[show min (k+1) n=k+1 by omega]
   intro i j hij hj;show kk key (bubble (arrOf N) (lo+k) (lo+k-(lo+l))) (lo+i)<=kk key (bubble (arrOf N) (lo+k) (lo+k-(lo+l))) (lo+j);rw[pP Z ⋯,pP Z ⋯,show lo+k-(lo+k-(lo+l))=lo+l by omega]
   have e1:lo+i-1=lo+(i-1)\/i=0:=by omega
   have e2:lo+j-1=lo+(j-1)\/j=0:=by omega
   repeat' split
   all_goals first
    |(exfalso;omega)
    |exact Cr _
    |(rcases e1 with e1|e1<;>rcases e2 with e2|e2<;>first|(exfalso;omega)|(simp only[e1,e2];first|exact Cr _|exact S _ ⋯|exact Fg (U _ ⋯ ⋯)|exact R _ _ ⋯ ⋯))
    |exact S _ ⋯
    |exact Fg (U _ ⋯ ⋯)
    |exact R _ _ ⋯ ⋯
end
section
variable {prog:Program}{w:World}{A:Around}{E:Value->Shared->Prop}{s:Shared}{κ:DE}{a₀:Array Keyed}{key:Keyed->Int}
def Dis(key:Keyed->Int)(a₀:Array Keyed):Prop:=∀a:Array Keyed,a.Perm a₀->∀i j,i<a₀.size->j<a₀.size->i≠j->kk key a i≠kk key a j
def ZH(L:sY prog w A E s κ a₀ key)(D:Dis key a₀){st}{lo nrem}(hn:lo+nrem<=a₀.size)(h1:1<=nrem)(W:Bs κ a₀ st)
 (h:∀m st',Bs κ a₀ st'->Pre lo (arrOf st) (arrOf st')->AV st'=AV st->1<=m->m<=nrem->SIn key (arrOf st') lo m->Q (some m) st') :
 wpS (model prog w) A E s (countRun' lo nrem) Q st:=by
 rw[countRun'_eq];have asc:∀(a:Nat) (R:SortSt) (Q':Option (Option Nat) × Nat->SortSt->Prop) (body:Nat->Option (Option Nat) × Nat->StateT SortSt Sem (ForInStep (Option (Option Nat) × Nat))),1<=a->a<=nrem->Bs κ a₀ R->SIn key (arrOf R) lo a ->
  (∀i c,body i c=(do
   let __x <-ltAt' (lo+c.snd) (lo+c.snd-1)
   match __x with
   |some U=>if U=true then pure (ForInStep.done (none,c.snd)) else pure (CZ (none,c.snd+1))
   |_=>pure (ForInStep.done (some none,c.snd)))) ->
  (∀n,a<=n->n<=nrem->SIn key (arrOf R) lo n->(n=nrem\/kk key (arrOf R) (lo+n)<kk key (arrOf R) (lo+n-1))->Q' (none,n) R) ->
  wpS (model prog w) A E s (forIn [a:nrem] ((none,a):Option (Option Nat) × Nat) body) Q' R:=by
  intro a R Q' body ha han hB1 hs1 hb hq;refine BH (I:=λx c st'=>st'=R/\c=(none,x)/\SIn key (arrOf R) lo x) ?step ?fin ⟨rfl,rfl,hs1⟩
  case fin=>
   rintro c st' ⟨rfl,rfl,N⟩;rw[show max a nrem=nrem by omega]at N ⊢
   exact hq nrem han (Ac _) N (.inl rfl)
  case step=>
   rintro x c st' hax hxn ⟨rfl,rfl,N⟩;rw[hb];dsimp only;refine Ai (lU L hB1 ⋯ ⋯ ?_)
   by_cases hless:kk key (arrOf st') (lo+x)<kk key (arrOf st') (lo+x-1)
   . simp only[hless,decide_true,if_true]
     exact Av (hq x hax ⋯ N (.inr hless))
   . simp only[hless,decide_false,Au,if_false]
     refine Av ⟨rfl,rfl,λi j S hj=>?_⟩;by_cases hjx:j<x
     . exact N i j S hjx
     . have hj':j=x:=by omega
       subst hj';by_cases hi':i=j
       . subst hi';exact Cr _
       . rw[show lo+j-1=lo+(j-1) by omega]at hless
         exact Bh (N i (j-1) ⋯ ⋯) (Ip.mp hless)
 refine Ai (asc 1 st _ _ (Ac _) h1 W (λi j S hj=>by cases (show i=j by omega);exact Cr _) (λi c=>rfl) λn hn1 hn2 Y hor=>?_)
 dsimp only;by_cases hnn:n=nrem
 . rw[if_pos (by simpa using hnn)]
   exact Av (h n st W .refl rfl hn1 hn2 Y)
 . rw[if_neg (by simpa using hnn)]
   have hlt:kk key (arrOf st) (lo+n)<kk key (arrOf st) (lo+n-1):=hor.resolve_left hnn;by_cases hgt:n > 1
   . rw[if_pos hgt]
     refine Ai (lU L W ⋯ ⋯ ?_)
     have Z:kk key (arrOf st) lo<kk key (arrOf st) (lo+n-1):=by
      have a1:=Y 0 (n-1) ⋯ ⋯
      rw[Fh,show lo+(n-1)=lo+n-1 by omega]at a1
      have a2:=D _ W.a lo (lo+n-1) ⋯ ⋯ ⋯
      omega
     simp only[Z,decide_true,if_true];exact Av (h n st W .refl rfl hn1 hn2 Y)
   . rw[if_neg hgt]
     have hn1':n=1:=by omega
     subst hn1';refine Ai (FV (BM ⟨rfl,?_⟩));refine Ai (C1 (BH (I:=λx c st'=>st'=st/\c=(none,x,0)/\NIn key (arrOf st) lo x) (Q:=λc st'=>st'=st/\∃m,2<=m/\m<=nrem/\c=(none,m,0)/\NIn key (arrOf st) lo m) ?step ?fin ⟨rfl,rfl,?_⟩) ?post)
     case fin=>
      rintro c st' ⟨rfl,rfl,N⟩;exact⟨rfl,max (1+1) nrem,⋯,⋯,rfl,N⟩
     case step=>
      rintro x c st' hax hxn ⟨rfl,rfl,N⟩;dsimp only;refine Ai (lU L W ⋯ ⋯ ?_)
      by_cases hless:kk key (arrOf st') (lo+x)<kk key (arrOf st') (lo+x-1)
      . simp only[hless,decide_true,if_true]
        rw[if_neg ⋯]
        refine Av ⟨rfl,rfl,λi j S hj=>?_⟩;by_cases hjx:j<x
        . exact N i j S hjx
        . have hj':j=x:=by omega
          subst hj';by_cases hi':i=j
          . subst hi';exact Cr _
          . rw[show lo+j-1=lo+(j-1) by omega]at hless
            exact Bh (Fg hless) (N i (j-1) ⋯ ⋯)
      . simp only[hless,decide_false,Au,if_false]
        refine Ai (lU L W ⋯ ⋯ ?_)
        have hl:kk key (arrOf st') (lo+x-1)<kk key (arrOf st') (lo+x):=by
         have:=D _ W.a (lo+x) (lo+x-1) ⋯ ⋯ ⋯
         omega
        simp only[hl,decide_true,if_true];exact Av ⟨rfl,x,⋯,⋯,rfl,N⟩
     . intro i j S hj
       by_cases hi':i=j
       . subst hi';exact Cr _
       . have hi0:i=0:=by omega
         have hj1:j=1:=by omega
         subst hi0;subst hj1;rw[show lo+1-1=lo+0 by omega]at hlt
         exact Fg hlt
     case post=>
      rintro c st' ⟨rfl,m,hm2,hmn,rfl,N⟩;dsimp only;rw[if_neg ⋯]
      refine Ai (Us ?_);have X:lo+m<=(arrOf st').size:=by rw[W.size];omega
      have hB':=W.set (mirror_perm (arrOf st') lo (lo+m) ((lo+m-lo)/2));refine Ai (asc m _ _ _ ⋯ hmn hB' ?_ (λi c=>rfl) λk hk1 hk2 hsk _=>?_)
      . intro i j S hj
        show kk key (mirror (arrOf st') lo (lo+m) ((lo+m-lo)/2)) (lo+i)<=kk key (mirror (arrOf st') lo (lo+m) ((lo+m-lo)/2)) (lo+j);rw[pQ X,pQ X,if_pos ⋯,if_pos ⋯]
        have:=N (m-1-j) (m-1-i) ⋯ ⋯
        rwa [show lo+(m-1-j)=lo+(lo+m)-1-(lo+j) by omega,show lo+(m-1-i)=lo+(lo+m)-1-(lo+i) by omega]at this
      . exact Av (h k _ hB' (jA X (Ac _)) rfl ⋯ hk2 hsk)
end
section
variable {prog:Program}{w:World}{A:Around}{E:Value->Shared->Prop}{s:Shared}{κ:DE}{a₀:Array Keyed}{key:Keyed->Int}
noncomputable def iM:Bool->Keyed->Array Keyed->Nat->Nat->Nat->StateT SortSt Sem (Option Nat):=sortPriv% PySem.Builtin.gallop
def Cut(a₀:Array Keyed)(key:Keyed->Int)(left:Bool)(x:Keyed)(arr:Array Keyed)(base n k0:Nat):Prop:=
 ∀i,i<n->∃y,arr[base+i]?=some y/\y∈a₀.toList/\(if left=true then decide (key y<key x) else !decide (key x<key y))=decide (i<k0)
def w5(L:sY prog w A E s κ a₀ key)(U:Cut a₀ key left x arr base n k0)(hx:x∈a₀.toList){st:SortSt}(hk:kindOf st=κ)(hi:i<n)(h:Q (some (decide (i<k0))) st)
  (S:m=(elem' arr (base+i) >>= λy=>if left=true then lt' y x else lt' x y >>= λr=>pure (r.map (!·)))):wpS (model prog w) A E s m Q st:=by
 obtain⟨y,W,R,N⟩:=U i hi;rw[S];refine Ai (zm W ?_);cases left with
 |true=>
  rw[if_pos rfl]at N ⊢;refine L y x st _ R hx hk ?_;rw[N];exact h
 |false=>
  rw[if_neg Ag]at N ⊢;refine Ai (L x y st _ hx R hk (Av ?_));show Q (some (!decide (key x<key y))) st;rw[N];exact h
def oA{st}{body:Nat->Option (Option Nat) × Nat × Nat->StateT SortSt Sem (ForInStep (Option (Option Nat) × Nat × Nat))}
 (U:∀i lo hi (N:ForInStep (Option (Option Nat) × Nat × Nat)->SortSt->Prop),lo ≥ hi->N (.done (none,lo,hi)) st->wpS (model prog w) A E s (body i (none,lo,hi)) N st)
 (S:∀i lo hi (N:ForInStep (Option (Option Nat) × Nat × Nat)->SortSt->Prop),lo<hi->hi<=n->N (if lo+(hi-lo)/2<k0 then .yield (none,lo+(hi-lo)/2+1,hi) else .yield (none,lo,lo+(hi-lo)/2)) st->wpS (model prog w) A E s (body i (none,lo,hi)) N st)
 {lo hi} (a1:lo<=k0) (a2:k0<=hi) (Z:hi<=n) {Q:Option (Option Nat) × Nat × Nat->SortSt->Prop} (q:∀l,Q (none,l,k0) st):wpS (model prog w) A E s (forIn [:n] ((none,lo,hi):Option (Option Nat) × Nat × Nat) body) Q st:=by
 refine BH (I:=λx c st'=>st'=st/\∃lo hi,c=(none,lo,hi)/\lo<=k0/\k0<=hi/\hi<=n/\hi-lo<=n-x) ?step ?fin ⟨rfl,lo,hi,rfl,a1,a2,Z,⋯⟩
 case fin=>
  rintro c st' ⟨rfl,lo,hi,rfl,Y,X,R,W⟩;have:hi=k0:=by omega
  subst this;exact q lo
 case step=>
  rintro x c st' _ hx ⟨rfl,lo,hi,rfl,Y,X,R,W⟩;by_cases hge:lo ≥ hi
  . refine U x lo hi _ hge ?_
    have:hi=k0:=by omega
    subst this;exact q lo
  . refine S x lo hi _ ⋯ R ?_
    by_cases hm:lo+(hi-lo)/2<k0
    . rw[if_pos hm]
      exact⟨rfl,_,_,rfl,⋯,⋯,⋯,⋯⟩
    . rw[if_neg hm]
      exact⟨rfl,_,_,rfl,⋯,⋯,⋯,⋯⟩
def xu(L:sY prog w A E s κ a₀ key)(hh:hint<n)(h0:k0<=n)(W:Cut a₀ key left x arr base n k0)(hx:x∈a₀.toList){st:SortSt}(hk:kindOf st=κ)(h:Q (some k0) st) :
 wpS (model prog w) A E s (iM left x arr base n hint) Q st:=by
 unfold iM;refine Ai (w5 L W hx hk hh ?_ rfl);by_cases hr:hint<k0
 . rw[decide_eq_true hr]
   dsimp only;rw[if_pos rfl];refine Ai (C1 (BH (I:=λy c st'=>st'=st/\∃N o,c=(none,N,o)/\N<o/\hint+N<k0/\y<o) (Q:=λc st'=>st'=st/\∃N o,c=(none,N,o)/\hint+N<k0/\k0<=hint+min o (n-hint)) ?step ?fin ⟨rfl,0,1,rfl,⋯,⋯,⋯⟩) ?post)
   case fin=>
    rintro c st' ⟨rfl,N,o,rfl,U,S,X⟩;exact⟨rfl,N,o,rfl,S,⋯⟩
   case step=>
    rintro y c st' _ Z ⟨rfl,N,o,rfl,U,S,X⟩;dsimp only;by_cases R:o ≥ n-hint
    . rw[if_pos R]
      exact Av ⟨rfl,N,o,rfl,S,⋯⟩
    . rw[if_neg R]
      refine Ai (w5 L W hx hk (show hint+o<n by omega) ?_ rfl)
      by_cases hm:hint+o<k0
      . rw[decide_eq_true hm]
        dsimp only;rw[if_neg (by simp)]
        exact Av ⟨rfl,o,2*o+1,rfl,⋯,hm,⋯⟩
      . rw[decide_eq_false hm]
        dsimp only;rw[if_pos (by simp)]
        exact Av ⟨rfl,N,o,rfl,S,⋯⟩
   case post=>
    rintro c st' ⟨rfl,N,o,rfl,U,S⟩;dsimp only;refine Ai (oA (n:=n) (k0:=k0) (λi lo hi Y R q=>?_) (λi lo hi Y hl hn q=>?_) ⋯ S ⋯ λl=>Av h)
    . dsimp only
      rw[if_pos R];exact Av q
    . dsimp only
      rw[if_neg ⋯]
      refine Ai (w5 L W hx hk (show lo+(hi-lo)/2<n by omega) ?_ rfl)
      by_cases hm:lo+(hi-lo)/2<k0
      . rw[decide_eq_true hm];rw[if_pos hm]at q
        dsimp only;rw[if_pos rfl];exact Av q
      . rw[decide_eq_false hm];rw[if_neg hm]at q
        dsimp only;rw[if_neg Ag];exact Av q
 . rw[decide_eq_false hr]
   dsimp only;rw[if_neg Ag];refine Ai (C1 (BH (I:=λy c st'=>st'=st/\∃N o,c=(none,N,o)/\N<o/\k0<=hint-N/\y<o/\N<=hint) (Q:=λc st'=>st'=st/\∃N o,c=(none,N,o)/\k0<=hint-N/\hint+1-min o (hint+1)<=k0) ?step ?fin ⟨rfl,0,1,rfl,⋯,⋯,⋯,⋯⟩) ?post)
   case fin=>
    rintro c st' ⟨rfl,N,o,rfl,U,S,X,b4⟩;exact⟨rfl,N,o,rfl,S,⋯⟩
   case step=>
    rintro y c st' _ Z ⟨rfl,N,o,rfl,U,S,X,b4⟩;dsimp only;by_cases R:o ≥ hint+1
    . rw[if_pos R]
      exact Av ⟨rfl,N,o,rfl,S,⋯⟩
    . rw[if_neg R]
      refine Ai (w5 L W hx hk (show hint-o<n by omega) ?_ rfl)
      by_cases hm:hint-o<k0
      . rw[decide_eq_true hm]
        dsimp only;rw[if_pos rfl];exact Av ⟨rfl,N,o,rfl,S,⋯⟩
      . rw[decide_eq_false hm]
        dsimp only;rw[if_neg Ag];exact Av ⟨rfl,o,2*o+1,rfl,⋯,⋯,⋯,⋯⟩
   case post=>
    rintro c st' ⟨rfl,N,o,rfl,U,S⟩;dsimp only;refine Ai (oA (n:=n) (k0:=k0) (λi lo hi Y R q=>?_) (λi lo hi Y hl hn q=>?_) S U ⋯ λl=>Av h)
    . dsimp only
      rw[if_pos R];exact Av q
    . dsimp only
      rw[if_neg ⋯]
      refine Ai (w5 L W hx hk (show lo+(hi-lo)/2<n by omega) ?_ rfl)
      by_cases hm:lo+(hi-lo)/2<k0
      . rw[decide_eq_true hm];rw[if_pos hm]at q
        dsimp only;rw[if_pos rfl];exact Av q
      . rw[decide_eq_false hm];rw[if_neg hm]at q
        dsimp only;rw[if_neg Ag];exact Av q
end
section
variable {prog:Program}{w:World}{A:Around}{E:Value->Shared->Prop}{s:Shared}{κ:DE}{a₀:Array Keyed}{key:Keyed->Int}
def Srt(key:Keyed->Int)(l:List Keyed):Prop:=l.Pairwise λx y=>key x<=key y
def nL(S:Srt key (o++(p++q)))(U:Srt key (o++r))(h:∀u∈p,∀v∈r,key u<=key v):Srt key ((o++p)++r):=by
 unfold Srt at *;rw[DL]at S U ⊢;have W:=DL.mp S.2.1;refine⟨DL.mpr ⟨S.1,W.1,λa N b R=>S.2.2 a N b (Bl _ R)⟩,U.2.1,λa N b R=>?_⟩;rcases AQ.mp N with N|N
 . exact U.2.2 a N b R
 . exact h a N b R
structure Mg(key:Keyed->Int)(X Y:List Keyed)(out:Array Keyed)(ia ib:Nat):Prop where
 d:Srt key (out.toList++X.drop ia)
 f:Srt key (out.toList++Y.drop ib)
 c:out.toList.Perm (X.take ia++Y.take ib)
def Mg.pY(h:Mg key X Y out ia ib)(S:Y[ib]?=some y)(hx:∀u∈X.drop ia,key y<=key u):Mg key X Y (out.push y) ia (ib+1):=by
 obtain⟨R,e⟩:=As.mp S;have Z:Y.drop ib=[y]++Y.drop (ib+1):=by rw[Bo R,e];rfl
 have W:Y.take (ib+1)=Y.take ib++[y]:=by rw[Ep,S];rfl
 have N:=h.f;rw[Z]at N;refine⟨?_,?_,?_⟩
 . rw[C9]
   exact nL N h.d λu hu v U=>by rw[Az.mp hu];exact hx v U
 . rw[C9,Ak];exact N
 . rw[C9,W,<-Ak]
   exact h.c.append_right _
def Mg.pS(h:Mg key X Y out ia ib)(W:X.drop ia=mid++X.drop (ia+k))(U:X.take (ia+k)=X.take ia++mid)(S:∀u∈mid,∀v∈Y.drop ib,key u<=key v)(R:out'.toList=out.toList++mid):Mg key X Y out' (ia+k) ib:=by
 have N:=h.d;rw[W]at N;refine⟨?_,?_,?_⟩
 . rw[R,Ak];exact N
 . rw[R];exact nL N h.f S
 . rw[R,U]
   refine(h.c.append_right mid).trans ?_;rw[Ak,Ak];exact(Er).append_left _
def Mg.mV(h:Mg key X Y out ia ib)(W:Y.drop ib=mid++Y.drop (ib+k))(U:Y.take (ib+k)=Y.take ib++mid)(S:∀u∈mid,∀v∈X.drop ia,key u<=key v)(R:out'.toList=out.toList++mid):Mg key X Y out' ia (ib+k):=by
 have N:=h.f;rw[W]at N;refine⟨?_,?_,?_⟩
 . rw[R];exact nL N h.d S
 . rw[R,Ak];exact N
 . rw[R,U,<-Ak]
   exact h.c.append_right mid
def Mg.pushX(h:Mg key X Y out ia ib)(hx:X[ia]?=some x)(R:∀u∈Y.drop ib,key x<=key u):Mg key X Y (out.push x) (ia+1) ib:=by obtain⟨N,e⟩:=As.mp hx;refine h.pS (mid:=[x]) (by rw[Bo N,e];rfl) (by rw[Ep,hx];rfl) (λu hu v S=>by rw[Az.mp hu];exact R v S) (C9)
structure Res(key:Keyed->Int)(X Y:List Keyed)(r:Array Keyed):Prop where
 b:Srt key r.toList
 a:r.toList.Perm (X++Y)
def Mg.se(h:Mg key X Y out ia ib)(R:Y.length<=ib)(N:r.toList=out.toList++X.drop ia):Res key X Y r:=by
 refine⟨by rw[N];exact h.d,?_⟩
 have:=h.c;rw[BJ R]at this;rw[N];refine(this.append_right _).trans ?_;rw[Ak];refine(Er.append_left _).trans ?_;rw[<-Ak,A7]
def Mg.qk(h:Mg key X Y out ia ib)(S:∀u∈Y,∀v∈X.drop ia,key u<=key v)(R:r.toList=out.toList++Y.drop ib++X.drop ia):Res key X Y r:=by
 have m:=h.mV (k:=Y.length) (mid:=Y.drop ib) (by rw[Ci (show Y.length<=ib+Y.length by omega),AR]) (by rw[BJ ⋯,A7]) (λu hu v N=>S u (BY hu) v N) (out':=(out.toList++Y.drop ib).toArray) rfl
 exact m.se ⋯ R
def xR(h:Srt key l)(hx:l[i]?=some x):∀u∈l.drop i,key x<=key u:=λu hu=>by
 obtain⟨N,e⟩:=As.mp hx;rw[Bo N,e]at hu;rcases Ar.mp hu with rfl|hu
 . exact Cr _
 . obtain⟨j,R,rfl⟩:=Bx hu
   rw[Dc];rw[<-e];rw[B0]at R;exact By.mp h i (i+1+j) N ⋯ ⋯
def zX [Decidable c] {m1 m2}{Q:α->SortSt->Prop}{st}(R:c->wpS (model prog w) A E s m1 Q st)(N:¬c->wpS (model prog w) A E s m2 Q st):wpS (model prog w) A E s (if c then m1 else m2) Q st:=by
 by_cases h:c
 . rw[if_pos h];exact R h
 . rw[if_neg h];exact N h
structure Sm(st st':SortSt):Prop where
 d:kindOf st'=kindOf st
 g:arrOf st'=arrOf st
 f:AV st'=AV st
 e:Ff st'=Ff st
def Sm.refl{st}:Sm st st:=⟨rfl,rfl,rfl,rfl⟩
theorem Sm.trans(h:Sm a b)(k:Sm b c):Sm a c:=⟨k.d.trans h.d,k.g.trans h.g,k.f.trans h.f,k.e.trans h.e⟩
def Mg.TL(h:Mg key X Y out ia ib)(R:X.length<=ia)(N:r.toList=out.toList++Y.drop ib):Res key X Y r:=by
 refine⟨by rw[N];exact h.f,?_⟩
 have:=h.c;rw[BJ R]at this;rw[N];refine(this.append_right _).trans ?_;rw[Ak,A7]
def vy{a:Array Keyed}:(a.extract i).toList=a.toList.drop i:=by rw[DM,CV];exact BJ (by rw[B0,Aw];exact Ac _)
def oQ{a:Array Keyed}:(a.extract i (i+k)).toList=(a.toList.drop i).take k:=by rw[DM,CV,Fv]
def uR{l:List Keyed}:l.drop i=(l.drop i).take k++l.drop (i+k):=by rw[<-DR,A7]
def Mg.Wl{a b out:Array Keyed}(h:Mg key a.toList b.toList out ia ib)(N:∀u∈(a.toList.drop ia).take k,∀v∈b.toList.drop ib,key u<=key v):Mg key a.toList b.toList (out++a.extract ia (ia+k)) (ia+k) ib:=
 h.pS uR GV N (by rw[Bd,oQ])
def Mg.Wm{a b out:Array Keyed}(h:Mg key a.toList b.toList out ia ib)(N:∀u∈(b.toList.drop ib).take k,∀v∈a.toList.drop ia,key u<=key v):Mg key a.toList b.toList (out++b.extract ib (ib+k)) ia (ib+k):=
 h.mV uR GV N (by rw[Bd,oQ])
theorem nu left x:∀{l},Srt key l->∃k0,k0<=l.length/\∀i (hi:i<l.length),(if left=true then decide (key l[i]<key x) else !decide (key x<key l[i]))=decide (i<k0)
 |[],_=>⟨0,Ac _,λi hi=>absurd hi (C4 _)⟩
 |y::t,h=>by
  unfold Srt at h;rw[BX]at h;by_cases hp:(if left=true then decide (key y<key x) else !decide (key x<key y))=true
  . obtain⟨k0,S,R⟩:=nu left x (l:=t) h.2
    refine⟨k0+1,by rw[Aj];omega,λi hi=>?_⟩
    cases i with
    |zero=>rw[show decide (0<k0+1)=true from decide_eq_true ⋯];exact hp
    |succ i=>
     rw[Aj]at hi;have:=R i ⋯
     rw[List.getElem_cons_succ,this];exact decide_eq_decide.mpr ⋯
  . refine⟨0,AS _,λi hi=>?_⟩
    rw[decide_eq_false (C4 _)];have N:key y<=key (y::t)[i]:=by
     cases i with
     |zero=>exact Cr _
     |succ i=>
      rw[Aj]at hi;exact h.1 _ (BB _)
    cases left with
    |true=>
     simp only[if_true,decide_eq_true_eq]at hp ⊢;exact decide_eq_false ⋯
    |false=>
     simp only[Au,if_false,A8,decide_eq_false_iff_not]at hp ⊢;rw[Bool.not_eq_false',decide_eq_true_eq];omega
def um{arr:Array Keyed}(W:base+n<=arr.size)(hs:Srt key ((arr.toList.drop base).take n))(S:∀u∈(arr.toList.drop base).take n,u∈a₀.toList) :
 ∃k0,k0<=n/\Cut a₀ key left x arr base n k0/\(∀u∈(arr.toList.drop base).take k0,key u<=key x)/\∀u∈((arr.toList.drop base).take n).drop k0,key x<=key u:=by
 have U:((arr.toList.drop base).take n).length=n:=by rw[Bz,B0,Aw];omega
 obtain⟨k0,R,N⟩:=nu (key:=key) left x hs;rw[U]at R;have g:∀i (hi:i<((arr.toList.drop base).take n).length),arr[base+i]?=some ((arr.toList.drop base).take n)[i]:=λi hi=>by rw[Dd,Dc,<-Bj,dS]
 refine⟨k0,R,λi hi=>⟨((arr.toList.drop base).take n)[i]'⋯,g i ⋯,S _ (BB _),N i ⋯⟩,λu hu=>?_,λu hu=>?_⟩
 . have e:(arr.toList.drop base).take k0=((arr.toList.drop base).take n).take k0:=by rw[Es,E6 R]
   rw[e]at hu;obtain⟨i,hi,rfl⟩:=Bx hu;rw[Bz]at hi;rw[Dd];have:=N i ⋯
   rw[decide_eq_true (show i<k0 by omega)]at this
   cases left with
   |true=>simp only[if_true,decide_eq_true_eq]at this;omega
   |false=>simp only[Au,if_false,A8,decide_eq_false_iff_not]at this;omega
 . obtain⟨i,hi,rfl⟩:=Bx hu
   rw[B0]at hi;rw[Dc];have:=N (k0+i) ⋯
   rw[decide_eq_false (show ¬k0+i<k0 by omega)]at this
   cases left with
   |true=>simp only[if_true,decide_eq_false_iff_not]at this;omega
   |false=>simp only[Au,if_false,Bool.not_eq_false',decide_eq_true_eq]at this;omega
def nt{arr:Array Keyed}(X:base<=arr.size)(hs:Srt key arr.toList)(R:∀u∈arr.toList,u∈a₀.toList) :
 ∃k0,k0<=arr.size-base/\Cut a₀ key left x arr base (arr.size-base) k0/\(∀u∈(arr.toList.drop base).take k0,key u<=key x)/\∀u∈arr.toList.drop (base+k0),key x<=key u:=by
 have e:(arr.toList.drop base).take (arr.size-base)=arr.toList.drop base:=BJ (by rw[B0,Aw];exact Ac _)
 obtain⟨k0,W,U,S,N⟩:=um (a₀:=a₀) (key:=key) (left:=left) (x:=x) (arr:=arr) (base:=base) (n:=arr.size-base) ⋯ (by rw[e];exact hs.sublist (G7 _ _)) (by rw[e];exact λu hu=>R u (BY hu))
 rw[e,DR]at N;exact⟨k0,W,U,S,N⟩
def yU{a:Array Keyed}(h:i<a.size):a[i]?=some (a.getD i (Ad,Ad))/\a.toList[i]?=some (a.getD i (Ad,Ad))/\a.getD i (Ad,Ad)∈a.toList:=by
 have e:a.getD i (Ad,Ad)=a[i]:=by simp[Io,h]
 rw[e];exact⟨by simp[h],by simp[h],by simp⟩
noncomputable def uJ:Nat->StateT SortSt Sem Unit:=sortPriv% PySem.Builtin.setMinGallop
def gK{st}{Q:Unit->SortSt->Prop}(h:∀N,Sm st N->Q () N):wpS (model prog w) A E s (uJ g) Q st:=by unfold uJ;exact CJ (h _ ⟨rfl,rfl,rfl,rfl⟩)
noncomputable def mT:Array Keyed->Array Keyed->StateT SortSt Sem (Array Keyed):=sortPriv% PySem.Builtin.mergeLo
structure LoI(key:Keyed->Int)(a b:Array Keyed)(c:Option (Array Keyed))(out:Array Keyed)(ia ib x:Nat):Prop where
 i:c=none
 g:Mg key a.toList b.toList out ia ib
 e:ia+1<a.size
 d:ib<b.size
 f:x<=ia+ib
def LoI.mono(h:LoI key a b c out ia ib x)(k:x'<=x):LoI key a b c out ia ib x':=⟨h.i,h.g,h.e,h.d,Ao k h.f⟩
inductive LoQ(key:Keyed->Int)(a b:Array Keyed)(c:Option (Array Keyed))(out:Array Keyed)(ia ib x:Nat):Prop where
 |d (r:Array Keyed) (h:c=some r) (hr:Res key a.toList b.toList r):LoQ key a b c out ia ib x
 |e (h:LoI key a b c out ia ib x):LoQ key a b c out ia ib x
def yC{i j:Nat}(h:(i == j)=true):i=j:=CA h
def yQ{i j:Nat}(h:¬(i == j)=true):i≠j:=λe=>h (beq_iff_eq.mpr e)
def lt2(h:k<=n-i)(h':i+1<n)(e:i+k+1≠n)(N:i+k≠n):i+k+1<n:=by omega
def lt3{i k n:Nat}(h:k<=n-i)(h':i<n)(e:i+k≠n):i+k<n:=by omega
def RS(L:sY prog w A E s κ a₀ key)(ha:0<a.size)(hb:0<b.size)(ma:∀x∈a.toList,x∈a₀.toList)(mb:∀x∈b.toList,x∈a₀.toList)(sa:Srt key a.toList)(sb:Srt key b.toList)
 (h1:∀u∈a.toList,key (b.getD 0 (Ad,Ad))<=key u) (h2:∀u∈b.toList,key u<=key (a.getD (a.size-1) (Ad,Ad))) {st:SortSt} (hk:kindOf st=κ)  (q:∀r st',Sm st st'->Res key a.toList b.toList r->Q r st') :
 wpS (model prog w) A E s (mT a b) Q st:=by
 have S:∀{i:Nat},i+1=a.size->∀u∈b.toList,∀v∈a.toList.drop i,key u<=key v:=λ{i} hi u hu v hv=>by
  have gl:=yU (show i<a.size by omega)
  have:a.toList.drop i=[a.getD i (Ad,Ad)]:=by obtain⟨hlt,e⟩:=As.mp gl.2.1;rw[Bo hlt,e,Ci (by rw[Aw];omega)]
  rw[this,Az]at hv;rw[hv,show i=a.size-1 by omega]
  exact h2 u hu
 have xq:∀{out:Array Keyed} {i j:Nat},b.size<=j->(out++a.extract i++b.extract j).toList=out.toList++a.toList.drop i:=λ{out i j} hj=>by rw[Bd,Bd,vy,vy,Ci (show b.toList.length<=j by rw[Aw];exact hj),AR]
 have Y:∀{out:Array Keyed} {i j:Nat},(out++b.extract j++a.extract i).toList=out.toList++b.toList.drop j++a.toList.drop i:=λ{out i j}=>by rw[Bd,Bd,vy,vy]
 have se:∀{out:Array Keyed} {i j:Nat},Mg key a.toList b.toList out i j->j=b.size->Res key a.toList b.toList (out++a.extract i++b.extract j):=λ{out i j} h e=>h.se (by rw[Aw,e];exact Ac _) (xq (Ca e.symm))
 have endA0:∀{out:Array Keyed} {i j:Nat},i=a.size->(out++a.extract i++b.extract j).toList=out.toList++b.toList.drop j:=λ{out i j} hj=>by rw[Bd,Bd,vy,vy,Ci (show a.toList.length<=i by rw[Aw,hj];exact Ac _),AR]
 have gb0:=yU hb;have J0:Mg key a.toList b.toList #[b.getD 0 (Ad,Ad)] 0 1:=by have:Mg key a.toList b.toList #[] 0 0:=⟨sa,sb,.refl _⟩;exact this.pY gb0.2.1 h1
 unfold mT;refine Ai (FV (BM ⟨rfl,?_⟩));refine Ai (zm gb0.1 ?_);refine zX (λe1=>Av (q _ _ .refl (se J0 (yC e1)))) λe1=>?_;refine zX (λe2=>Av (q _ _ .refl (J0.qk (S (yC e2)) Y))) λe2=>?_;refine Ai (wpS_get ?_);refine Ai (C1 (BH (I:=λx c st'=>Sm st st'/\LoI key a b c.1 c.2.1 c.2.2.1 c.2.2.2.1 (x+1)) (Q:=λc st'=>Sm st st'/\∃r,c.1=some r/\Res key a.toList b.toList r) ?step ?fin ⟨.refl,⟨rfl,J0,Cc ha (yQ e2),Cc hb (yQ e1),Ac _⟩⟩) ?post)
 case fin=>
  intro c st' h;have h1:=h.2.e;have h2:=h.2.d;have h3:=h.2.f;omega
 case post=>
  rintro ⟨X,c⟩ st' ⟨hS,r,hr,hR⟩;cases hr;exact Av (q r _ hS hR)
 case step=>
  rintro x c st' _ hx ⟨hS,I⟩;refine Ai (C1 (BH (I:=λy c' R=>Sm st R/\LoI key a b c'.1 c'.2.1 c'.2.2.1 c'.2.2.2.1 (c.2.2.1+c.2.2.2.1+y)) (Q:=λc' R=>Sm st R/\LoQ key a b c'.1 c'.2.1 c'.2.2.1 c'.2.2.2.1 (c.2.2.1+c.2.2.2.1+1)) ?istep ?ifin ⟨hS,⟨rfl,I.g,I.e,I.d,Ac _⟩⟩) ?ipost)
  case ifin=>exact λc R h=>⟨h.1,.e (h.2.mono (EX (Ao ha (Ao (Dl _ _) (Nat.le_max_right _ _))) _))⟩
  case istep=>
   rintro y c' R _ hy ⟨N,W⟩;have gx:=yU (B3 W.e);have gy:=yU W.d;refine Ai (zm gy.1 (Ai (zm gx.1 (Ai (L _ _ _ _ (mb _ gy.2.2) (ma _ gx.2.2) (N.d.trans hk) ?_)))));refine zX (λhlt=>Ai (zm gy.1 ?_)) (λhlt=>Ai (zm gx.1 ?_))
   . have J2:=W.g.pY gy.2.1 λu hu=>Bh (Fg (of_decide_eq_true hlt)) (xR sa gx.2.1 u hu)
     refine zX (λe3=>Av ⟨N,.d _ rfl (se J2 (yC e3))⟩) λe3=>?_;have I2:LoI key a b none _ _ _ (c.2.2.1+c.2.2.2.1+(y+1)):=⟨rfl,J2,W.e,Cc W.d (yQ e3),EC W.f⟩;exact zX (λ_=>Av ⟨N,.e (I2.mono (EX (Gf 1 y) _))⟩) λ_=>Av ⟨N,I2⟩
   . have J2:=W.g.pushX gx.2.1 λu hu=>Bh (Ip.mp (of_decide_eq_false (G8.mpr hlt))) (xR sb gy.2.1 u hu)
     refine zX (λe3=>Av ⟨N,.d _ rfl (J2.qk (S (yC e3)) Y)⟩) λe3=>?_;have I2:LoI key a b none _ _ _ (c.2.2.1+c.2.2.2.1+(y+1)):=⟨rfl,J2,Cc W.e (yQ e3),W.d,Ao (EC W.f) (Ca (Nat.add_right_comm _ _ 1))⟩;exact zX (λ_=>Av ⟨N,.e (I2.mono (EX (Gf 1 y) _))⟩) λ_=>Av ⟨N,I2⟩
  case ipost=>
   rintro ⟨X,c'⟩ R ⟨N,hQ⟩;cases hQ with
   |d r hr hR=>cases hr;exact Av ⟨N,r,rfl,hR⟩
   |e W=>
    have hc:=W.i;cases hc;refine Ai (FV (BM ⟨rfl,?_⟩));refine Ai (C1 (BH (I:=λy X Z=>Sm st Z/\LoI key a b X.1 X.2.1 X.2.2.1 X.2.2.2.1 (c.2.2.1+c.2.2.2.1+1)) (Q:=λX Z=>Sm st Z/\LoQ key a b X.1 X.2.1 X.2.2.1 X.2.2.2.1 (c.2.2.1+c.2.2.2.1+1)) ?gstep (λc Z h=>⟨h.1,.e h.2⟩) ⟨N,⟨rfl,W.g,W.e,W.d,W.f⟩⟩) ?gpost)
    case gpost=>
     rintro ⟨c2,c3⟩ Z ⟨hS3,hQ⟩;cases hQ with
     |d r hr hR=>cases hr;exact Av ⟨hS3,r,rfl,hR⟩
     |e I3=>
      have hc:=I3.i;cases hc;exact Ai (CJ (Av ⟨hS3.trans ⟨rfl,rfl,rfl,rfl⟩,⟨rfl,I3.g,I3.e,I3.d,Ao (EC I.f) I3.f⟩⟩))
    case gstep=>
     rintro y X st1 _ hy ⟨Sm1,I1⟩;have gy:=yU I1.d;have la:=I1.e
     extract_lets s1 out s2 ia s3 ib s4 mg s5 ac bc ib1 jp mg1
     refine have hjp:∀g st2,Sm st st2->wpS (model prog w) A E s (jp () g) _ st2:=?_;zX (λ_=>hjp _ _ Sm1) λ_=>hjp _ _ Sm1;intro g st0 Sm0;refine Ai (gK λst2 Sm2=>?_);have U:=Sm0.trans Sm2;obtain⟨k,d1,d2,d3,d4⟩:=nt (a₀:=a₀) (key:=key) (left:=false) (x:=b.getD ib (Ad,Ad)) (arr:=a) (base:=ia) (Ek (B3 la)) sa ma;refine Ai (zm gy.1 (Ai (xu L (Nat.sub_pos_of_lt (B3 la)) d1 d2 (mb _ gy.2.2) (U.d.trans hk) ?_)));clear_value jp;dsimp -zeta only
     extract_lets ak jp2 out1 ia1
     have J1:=I1.g.Wl (k:=k) λu hu v hv=>Bh (d3 u hu) (xR sb gy.2.1 v hv);have gl:c.2.2.1+c.2.2.2.1+1<=ia+ib:=I1.f;refine have h2:∀out ia,Mg key a.toList b.toList out ia ib->ia+1<a.size->(∀u∈a.toList.drop ia,key (b.getD ib (Ad,Ad))<=key u)->c.2.2.1+c.2.2.2.1+1<=ia+ib->wpS (model prog w) A E s (jp2 () out ia) _ st2:=?_
      zX (λ_=>zX (λe=>Av ⟨U,.d _ rfl (J1.qk (S (yC e)) Y)⟩) λe=>zX (λe'=>Av ⟨U,.d _ rfl (J1.TL (by rw[Aw];exact Ca (yC e').symm) (endA0 (yC e')))⟩) λe'=>h2 _ _ J1 (lt2 d1 la (yQ e) (yQ e')) d4 (Ao gl (Nat.add_le_add_right (Dl _ _) _)))
       λhk=>h2 _ _ I1.g la (by rw[Eg hk]at d4;exact d4) gl
     intro out0 ia0 J la0 d5 gl0;have J2:=J.pY gy.2.1 d5;have gx:=yU (B3 la0);refine Ai (zm gy.1 (zX (λe=>Av ⟨U,.d _ rfl (se J2 (yC e))⟩) λe=>Ai (zm gx.1 ?_)));have lb1:ib+1<b.size:=Cc I1.d (yQ e);obtain⟨k1,X,c2,c3,c4⟩:=nt (a₀:=a₀) (key:=key) (left:=true) (x:=a.getD ia0 (Ad,Ad)) (arr:=b) (base:=ib+1) (Ek lb1) sb mb;refine Ai (xu L (Nat.sub_pos_of_lt lb1) X c2 (ma _ gx.2.2) (U.d.trans hk) ?_);clear_value jp2;dsimp -zeta only
     extract_lets bk ia3 jp3 out3 ib3
     have J3:=J2.Wm (k:=k1) λu hu v hv=>Bh (c3 u hu) (xR sa gx.2.1 v hv);refine have h3:∀out ib',Mg key a.toList b.toList out ia0 ib'->ib'<b.size->(∀u∈b.toList.drop ib',key (a.getD ia0 (Ad,Ad))<=key u)->ib<=ib'->wpS (model prog w) A E s (jp3 () out ib') _ st2:=?_
      zX (λ_=>zX (λe=>Av ⟨U,.d _ rfl (se J3 (yC e))⟩) λe=>h3 _ _ J3 (lt3 X lb1 (yQ e)) c4 (Ao (Dp _) (Dl _ _)))
       λhk=>h3 _ _ J2 lb1 (by rw[Eg hk]at c4;exact c4) (Dp _)
     intro out4 ib4 J' lb4 d6 g4;have J4:=J'.pushX gx.2.1 d6;refine Ai (zm gx.1 (zX (λe=>Av ⟨U,.d _ rfl (J4.qk (S (yC e)) Y)⟩) λe=>?_));have I4:LoI key a b none _ _ _ (c.2.2.1+c.2.2.2.1+1):=⟨rfl,J4,Cc la0 (yQ e),lb4,Ao gl0 (Nat.add_le_add (Dp _) g4)⟩;exact zX (λ_=>Av ⟨U,.e I4⟩) λ_=>Av ⟨U,I4⟩
end
section
variable {prog:Program}{w:World}{A:Around}{E:Value->Shared->Prop}{s:Shared}{κ:DE}{a₀:Array Keyed}{key:Keyed->Int}
structure Mh(key:Keyed->Int)(X Y:List Keyed)(out:Array Keyed)(na nb:Nat):Prop where
 d:Srt key (X.take na++out.toList.reverse)
 e:Srt key (Y.take nb++out.toList.reverse)
 c:out.toList.reverse.Perm (X.drop na++Y.drop nb)
def lN(S:Srt key ((p++q)++o))(R:Srt key (r++o))(h:∀u∈r,∀v∈q,key u<=key v):Srt key (r++(q++o)):=by
 unfold Srt at *;rw[Ak]at S;rw[DL]at S R ⊢;refine⟨R.1,S.2.1,λa U b N=>?_⟩;rcases AQ.mp N with N|N
 . exact h a U b N
 . exact R.2.2 a U b N
def Mh.pS(h:Mh key X Y out na nb)(U:X.take na=X.take na'++mid)(hd:X.drop na'=mid++X.drop na)(S:∀u∈Y.take nb,∀v∈mid,key u<=key v)(R:out'.toList.reverse=mid++out.toList.reverse):Mh key X Y out' na' nb:=by
 have N:=h.d;rw[U]at N;refine⟨?_,?_,?_⟩
 . rw[R,<-Ak];exact N
 . rw[R];exact lN N h.e S
 . rw[R,hd,Ak];exact h.c.append_left _
def Mh.mV(h:Mh key X Y out na nb)(U:Y.take nb=Y.take nb'++mid)(hd:Y.drop nb'=mid++Y.drop nb)(S:∀u∈X.take na,∀v∈mid,key u<=key v)(R:out'.toList.reverse=mid++out.toList.reverse):Mh key X Y out' na nb':=by
 have N:=h.e;rw[U]at N;refine⟨?_,?_,?_⟩
 . rw[R];exact lN N h.d S
 . rw[R,<-Ak];exact N
 . rw[R,hd]
   refine(h.c.append_left mid).trans ?_;rw[<-Ak,<-Ak];exact Er.append_right _
def m8{out:Array Keyed}:(out.push x).toList.reverse=[x]++out.toList.reverse:=by rw[C9,List.reverse_append];rfl
def uC{X:List Keyed}(h0:0<na)(hx:X[na-1]?=some x):X.take na=X.take (na-1)++[x]/\X.drop (na-1)=[x]++X.drop na:=by
 obtain⟨N,e⟩:=As.mp hx;refine⟨?_,?_⟩
 . have:=Ep (l:=X) (i:=na-1)
   rw[show na-1+1=na by omega,hx]at this
   exact this
 . rw[Bo N,e,show na-1+1=na by omega];rfl
def Mh.pushX(h:Mh key X Y out na nb)(h0:0<na)(hx:X[na-1]?=some x)(N:∀u∈Y.take nb,key u<=key x):Mh key X Y (out.push x) (na-1) nb:=
 h.pS (uC h0 hx).1 (uC h0 hx).2 (λu hu v R=>by rw[Az.mp R];exact N u hu) m8
def Mh.pY(h:Mh key X Y out na nb)(h0:0<nb)(R:Y[nb-1]?=some y)(N:∀u∈X.take na,key u<=key y):Mh key X Y (out.push y) na (nb-1):=
 h.mV (uC h0 R).1 (uC h0 R).2 (λu hu v S=>by rw[Az.mp S];exact N u hu) m8
def jz{out a:Array Keyed}:(out++(a.extract i n).reverse).toList.reverse=(a.toList.take n).drop i++out.toList.reverse:=by rw[Bd,EH,List.reverse_append,List.reverse_reverse,DM,CV,<-Ic]
def wF{X:List Keyed}(h:i<=n):X.take n=X.take i++(X.take n).drop i/\X.drop i=(X.take n).drop i++X.drop n:=by
 refine⟨?_,?_⟩
 . have:=(A7 i (X.take n)).symm
   rwa [Es,E6 h]at this
 . have:X.drop n=(X.drop i).drop (n-i):=by rw[DR];congr 1;omega
   rw[Ic,this,A7]
def Mh.Wl{a b out:Array Keyed}(h:Mh key a.toList b.toList out na nb)(hk:k<=na)(N:∀u∈b.toList.take nb,∀v∈(a.toList.take na).drop k,key u<=key v):Mh key a.toList b.toList (out++(a.extract k na).reverse) k nb:=
 h.pS (wF hk).1 (wF hk).2 N jz
def Mh.Wm{a b out:Array Keyed}(h:Mh key a.toList b.toList out na nb)(hk:k<=nb)(N:∀u∈a.toList.take na,∀v∈(b.toList.take nb).drop k,key u<=key v):Mh key a.toList b.toList (out++(b.extract k nb).reverse) na k:=
 h.mV (wF hk).1 (wF hk).2 N jz
def Mh.qk(h:Mh key X Y out na nb)(h0:na=0)(N:r.toList=Y.take nb++out.toList.reverse):Res key X Y r:=by
 subst h0;refine⟨by rw[N];exact h.e,?_⟩
 rw[N];refine(h.c.append_left _).trans ?_;rw[Dk,<-Ak];refine(Er.append_right _).trans ?_;rw[Ak,A7]
def Mh.TM(h:Mh key X Y out na nb)(h0:nb=0)(N:r.toList=X.take na++out.toList.reverse):Res key X Y r:=by
 subst h0;refine⟨by rw[N];exact h.d,?_⟩
 rw[N];refine(h.c.append_left _).trans ?_;rw[Dk,<-Ak,A7]
def Mh.se(h:Mh key X Y out na nb)(S:∀u∈Y.take nb,∀v∈X,key u<=key v)(R:r.toList=Y.take nb++X.take na++out.toList.reverse):Res key X Y r:=by
 have m:=h.pS (na':=0) (mid:=X.take na) (by simp) (by rw[Dk,A7]) (λu hu v N=>S u hu v (Bt N)) (out':=(X.take na++out.toList.reverse).reverse.toArray) (by simp)
 refine m.qk rfl ?_;rw[R];simp
def xS(h:Srt key l)(hx:l[i]?=some x):∀u∈l.take (i+1),key u<=key x:=λu hu=>by
 obtain⟨N,e⟩:=As.mp hx;obtain⟨j,R,rfl⟩:=Bx hu;rw[Bz]at R;rw[Dd,<-e];by_cases hji:j=i
 . subst hji;exact Cr _
 . exact By.mp h j i ⋯ N ⋯
def wj{a:Array Keyed}:(a.extract 0 n).toList=a.toList.take n:=by rw[DM,CV,Dk,Hk]
noncomputable def mS:Array Keyed->Array Keyed->StateT SortSt Sem (Array Keyed):=sortPriv% PySem.Builtin.mergeHi
def le0(h:0<m):m-1+n+(0+1)<=m+n:=by omega
def le1(h:0<m)(h':m+n+y<=t):m-1+n+(y+1)<=t:=by omega
def le2(h:1<n)(h':m+n+y<=t):m+(n-1)+(y+1)<=t:=by omega
def le3(h:m+1<=t)(h':t+(x+1)<=u):m+(x+1+1)<=u:=by omega
def le4(h:m'<=m)(h':n'<=n-1)(g:m+n+1<=t):m'-1+n'+1<=t:=by omega
def gt1(h:1<n)(h':n-1≠1):1<n-1:=by omega
def i8{l:List Keyed}(h:0<n)(hu:u∈l.take n):u∈l.take (n-1+1):=by rwa [Nat.sub_add_cancel h]
structure HiI(key:Keyed->Int)(a b:Array Keyed)(c:Option (Array Keyed))(na nb:Nat)(out:Array Keyed)(x t:Nat):Prop where
 l:c=none
 i:Mh key a.toList b.toList out na nb
 e:0<na
 d:1<nb
 j:na<=a.size
 f:nb<=b.size
 g:na+nb+x<=t
def HiI.mono(h:HiI key a b c na nb out x t)(k:x'<=x):HiI key a b c na nb out x' t:=⟨h.l,h.i,h.e,h.d,h.j,h.f,Ao (EX k _) h.g⟩
inductive HiQ(key:Keyed->Int)(a b:Array Keyed)(c:Option (Array Keyed))(na nb:Nat)(out:Array Keyed)(x t:Nat):Prop where
 |d (r:Array Keyed) (h:c=some r) (hr:Res key a.toList b.toList r):HiQ key a b c na nb out x t
 |e (h:HiI key a b c na nb out x t):HiQ key a b c na nb out x t
def RR(L:sY prog w A E s κ a₀ key)(ha:0<a.size)(hb:0<b.size)(ma:∀x∈a.toList,x∈a₀.toList)(mb:∀x∈b.toList,x∈a₀.toList)(sa:Srt key a.toList)(sb:Srt key b.toList)
 (h1:∀u∈a.toList,key (b.getD 0 (Ad,Ad))<=key u) (h2:∀u∈b.toList,key u<=key (a.getD (a.size-1) (Ad,Ad))) {st:SortSt} (hk:kindOf st=κ)  (q:∀r st',Sm st st'->Res key a.toList b.toList r->Q r st') :
 wpS (model prog w) A E s (mS a b) Q st:=by
 have gb0:=yU hb;have R:∀{n:Nat},n<=1->∀u∈b.toList.take n,∀v∈a.toList,key u<=key v:=λ{n} hn u hu v hv=>by
  have hu:u∈b.toList.take 1:=Bt (i:=n) (by rwa [Es,E6 hn])
  have e:b.toList.take 1=[b.getD 0 (Ad,Ad)]:=by have:=Ep (l:=b.toList) (i:=0);rw[gb0.2.1]at this;exact this
  rw[e,Az]at hu;rw[hu];exact h1 v hv
 have Z:∀{out:Array Keyed} {n m:Nat},n=0->(a.extract 0 n++b.extract 0 m++out.reverse).toList=b.toList.take m++out.toList.reverse:=λ{out n m} hn=>by subst hn;rw[Bd,Bd,wj,wj,EH,List.take_zero,Dw]
 have endZ:∀{out:Array Keyed} {n m:Nat},m=0->(a.extract 0 n++b.extract 0 m++out.reverse).toList=a.toList.take n++out.toList.reverse:=λ{out n m} hn=>by subst hn;rw[Bd,Bd,wj,wj,EH,List.take_zero,AR]
 have Y:∀{out:Array Keyed} {n m:Nat},(b.extract 0 m++a.extract 0 n++out.reverse).toList=b.toList.take m++a.toList.take n++out.toList.reverse:=λ{out n m}=>by rw[Bd,Bd,wj,wj,EH]
 have ga0:=yU (show a.size-1<a.size by omega)
 have J0:Mh key a.toList b.toList #[a.getD (a.size-1) (Ad,Ad)] (a.size-1) b.size:=by
  have:Mh key a.toList b.toList #[] a.size b.size:=by
   have ea:a.toList.take a.size=a.toList:=BJ (by rw[Aw];exact Ac _)
   have eb:b.toList.take b.size=b.toList:=BJ (by rw[Aw];exact Ac _)
   refine⟨?_,?_,?_⟩
   . rw[ea];simpa using sa
   . rw[eb];simpa using sb
   . rw[Ci (by rw[Aw];exact Ac _),Ci (by rw[Aw];exact Ac _)];exact .refl _
  exact this.pushX ha ga0.2.1 λu hu=>h2 u (Bt hu)
 unfold mS;refine Ai (FV (BM ⟨rfl,?_⟩));refine Ai (zm ga0.1 ?_);refine zX (λe1=>Av (q _ _ .refl (J0.qk (yC e1) (Z (yC e1))))) λe1=>?_;refine zX (λe2=>Av (q _ _ .refl (J0.se (R (Ca (yC e2))) Y))) λe2=>?_;refine Ai (wpS_get ?_);refine Ai (C1 (BH (I:=λx c st'=>Sm st st'/\HiI key a b c.1 c.2.1 c.2.2.1 c.2.2.2.1 (x+1) (a.size+b.size)) (Q:=λc st'=>Sm st st'/\∃r,c.1=some r/\Res key a.toList b.toList r) ?step ?fin ⟨.refl,⟨rfl,J0,D6 (yQ e1),Cc hb (yQ e2).symm,Hc _ _,Ac _,le0 ha⟩⟩) ?post)
 case fin=>
  intro c st' h;have h3:=h.2.g;omega
 case post=>
  rintro ⟨X,c⟩ st' ⟨hS,r,hr,hR⟩;cases hr;exact Av (q r _ hS hR)
 case step=>
  rintro x c st' _ hx ⟨hS,I⟩;refine Ai (C1 (BH (I:=λy c' U=>Sm st U/\HiI key a b c'.1 c'.2.1 c'.2.2.1 c'.2.2.2.1 y (c.2.1+c.2.2.1)) (Q:=λc' U=>Sm st U/\HiQ key a b c'.1 c'.2.1 c'.2.2.1 c'.2.2.2.1 1 (c.2.1+c.2.2.1)) ?istep ?ifin ⟨hS,⟨rfl,I.i,I.e,I.d,I.j,I.f,Ac _⟩⟩) ?ipost)
  case ifin=>exact λc U h=>⟨h.1,.e (h.2.mono (Ao ha (Ao (Dl _ _) (Nat.le_max_right _ _))))⟩
  case istep=>
   rintro y c' U _ hy ⟨S,N⟩;have gx:=yU (AL (Gg N.e FH) N.j);have gy:=yU (AL (Gg (B3 N.d) FH) N.f);refine Ai (zm gy.1 (Ai (zm gx.1 (Ai (L _ _ _ _ (mb _ gy.2.2) (ma _ gx.2.2) (S.d.trans hk) ?_)))));refine zX (λhlt=>Ai (zm gx.1 ?_)) (λhlt=>Ai (zm gy.1 ?_))
   . have J2:=N.i.pushX N.e gx.2.1 λu hu=>Bh (xS sb gy.2.1 u (i8 (B3 N.d) hu)) (Fg (of_decide_eq_true hlt))
     refine zX (λe3=>Av ⟨S,.d _ rfl (J2.qk (yC e3) (Z (yC e3)))⟩) λe3=>?_;have I2:HiI key a b none _ _ _ (y+1) (c.2.1+c.2.2.1):=⟨rfl,J2,D6 (yQ e3),N.d,Ao (Hc _ _) N.j,N.f,le1 N.e N.g⟩;exact zX (λ_=>Av ⟨S,.e (I2.mono (Gf 1 y))⟩) λ_=>Av ⟨S,I2⟩
   . have J2:=N.i.pY (B3 N.d) gy.2.1 λu hu=>Bh (xS sa gx.2.1 u (i8 N.e hu)) (Ip.mp (of_decide_eq_false (G8.mpr hlt)))
     refine zX (λe3=>Av ⟨S,.d _ rfl (J2.se (R (Ca (yC e3))) Y)⟩) λe3=>?_;have I2:HiI key a b none _ _ _ (y+1) (c.2.1+c.2.2.1):=⟨rfl,J2,N.e,gt1 N.d (yQ e3),N.j,Ao (Hc _ _) N.f,le2 N.d N.g⟩;exact zX (λ_=>Av ⟨S,.e (I2.mono (Gf 1 y))⟩) λ_=>Av ⟨S,I2⟩
  case ipost=>
   rintro ⟨X,c'⟩ U ⟨S,hQ⟩;cases hQ with
   |d r hr hR=>cases hr;exact Av ⟨S,r,rfl,hR⟩
   |e N=>
    have hc:=N.l;cases hc;refine Ai (FV (BM ⟨rfl,?_⟩));refine Ai (C1 (BH (I:=λy X st3=>Sm st st3/\HiI key a b X.1 X.2.1 X.2.2.1 X.2.2.2.1 1 (c.2.1+c.2.2.1)) (Q:=λX st3=>Sm st st3/\HiQ key a b X.1 X.2.1 X.2.2.1 X.2.2.2.1 1 (c.2.1+c.2.2.1)) ?gstep (λc st3 h=>⟨h.1,.e h.2⟩) ⟨S,⟨rfl,N.i,N.e,N.d,N.j,N.f,N.g⟩⟩) ?gpost)
    case gpost=>
     rintro ⟨c2,c3⟩ st3 ⟨hS3,hQ⟩;cases hQ with
     |d r hr hR=>cases hr;exact Av ⟨hS3,r,rfl,hR⟩
     |e I3=>
      have hc:=I3.l;cases hc;exact Ai (CJ (Av ⟨hS3.trans ⟨rfl,rfl,rfl,rfl⟩,⟨rfl,I3.i,I3.e,I3.d,I3.j,I3.f,le3 I3.g I.g⟩⟩))
    case gstep=>
     rintro y X st1 _ hy ⟨Sm1,I1⟩;have gy:=yU (AL (Gg (B3 I1.d) FH) I1.f)
     extract_lets s1 na s2 nb s3 out s4 mg s5 ac bc nb1 jp mg1
     have gl:na+nb+1<=c.2.1+c.2.2.1:=I1.g;have la:0<na:=I1.e;have lb:0<nb:=B3 I1.d;have ua:na<=a.size:=I1.j;refine have hjp:∀g st2,Sm st st2->wpS (model prog w) A E s (jp () g) _ st2:=?_;zX (λ_=>hjp _ _ Sm1) λ_=>hjp _ _ Sm1;intro g st0 Sm0;refine Ai (gK λst2 Sm2=>?_);have W:=Sm0.trans Sm2;obtain⟨k,d1,d2,d3,d4⟩:=um (a₀:=a₀) (key:=key) (left:=false) (x:=b.getD (nb-1) (Ad,Ad)) (arr:=a) (base:=0) (n:=na) (Ao (Ca (Cp _)) ua) (sa.sublist (C8 _ _)) (λu hu=>ma u (Bt hu));refine Ai (zm gy.1 (Ai (xu L (Gg la FH) d1 d2 (mb _ gy.2.2) (W.d.trans hk) ?_)));clear_value jp;dsimp -zeta only
     extract_lets kk ak jp2 out1 na1
     have J1:=I1.i.Wl d1 λu hu v hv=>Bh (xS sb gy.2.1 u (i8 lb hu)) (d4 v hv);refine have h2:∀na' out,Mh key a.toList b.toList out na' nb->0<na'->(∀u∈a.toList.take na',key u<=key (b.getD (nb-1) (Ad,Ad)))->na'<=na->wpS (model prog w) A E s (jp2 () na' out) _ st2:=?_
      zX (λ_=>zX (λe=>Av ⟨W,.d _ rfl (J1.qk (yC e) (Z (yC e)))⟩) λe=>h2 _ _ J1 (D6 (yQ e)) d3 d1)
       λhk=>h2 _ _ I1.i la (Gh d1 (Nat.le_of_sub_eq_zero (Eg hk))▸d3) (Ac _)
     intro na0 out0 J la0 d5 g0;have J2:=J.pY lb gy.2.1 d5;have gx:=yU (AL (Gg la0 FH) (Ao g0 ua));refine Ai (zm gy.1 (zX (λe=>Av ⟨W,.d _ rfl (J2.se (R (Ca (yC e))) Y)⟩) λe=>Ai (zm gx.1 ?_)));have lb1:1<nb-1:=gt1 I1.d (yQ e);have ub1:nb-1<=b.size:=Ao (Hc _ _) I1.f;obtain⟨k1,X,c2,c3,c4⟩:=um (a₀:=a₀) (key:=key) (left:=true) (x:=a.getD (na0-1) (Ad,Ad)) (arr:=b) (base:=0) (n:=nb-1) (Ao (Ca (Cp _)) ub1) (sb.sublist (C8 _ _)) (λu hu=>mb u (Bt hu));refine Ai (xu L (Gg (B3 lb1) FH) X c2 (ma _ gx.2.2) (W.d.trans hk) ?_);clear_value jp2;dsimp -zeta only
     extract_lets kk1 bk na3 jp3 out3 nb3
     have J3:=J2.Wm X λu hu v hv=>Bh (xS sa gx.2.1 u (i8 la0 hu)) (c4 v hv);refine have h3:∀nb' out,Mh key a.toList b.toList out na0 nb'->1<nb'->(∀u∈b.toList.take nb',key u<=key (a.getD (na0-1) (Ad,Ad)))->nb'<=nb-1->wpS (model prog w) A E s (jp3 () nb' out) _ st2:=?_
      zX (λ_=>zX (λe=>Av ⟨W,.d _ rfl (J3.se (R (Ca (yC e))) Y)⟩) λe=>zX (λe'=>Av ⟨W,.d _ rfl (J3.TM (yC e') (endZ (yC e')))⟩) λe'=>h3 _ _ J3 (Cc (D6 (yQ e')) (yQ e).symm) c3 X)
       λhk=>h3 _ _ J2 lb1 ((congrArg (λn=>∀u∈b.toList.take n,key u<=key (a.getD (na0-1) (Ad,Ad))) (Gh X (Nat.le_of_sub_eq_zero (Eg hk)))).mp c3) (Ac _)
     intro nb4 out4 J' lb4 d6 g4;have J4:=J'.pushX la0 gx.2.1 d6;refine Ai (zm gx.1 (zX (λe=>Av ⟨W,.d _ rfl (J4.qk (yC e) (Z (yC e)))⟩) λe=>?_));have I4:HiI key a b none _ _ _ 1 (c.2.1+c.2.2.1):=⟨rfl,J4,D6 (yQ e),lb4,Ao (Hc _ _) (Ao g0 ua),Ao g4 ub1,le4 g0 g4 gl⟩;exact zX (λ_=>Av ⟨W,.e I4⟩) λ_=>Av ⟨W,I4⟩
end
def XR{x}{Q}{st}(h:Q ⟨⟩ x):wpS M A E s (set x:StateT σ Sem PUnit) Q st:=by unfold wpS;rw[StateT.run_set];exact zO ⟨rfl,h⟩
def oY h:kk key a i=key (a.toList[i]'(by rw[Aw];exact h)):=by unfold kk;congr 1;simp[Io,h]
def xt{a:Array Keyed}{lo n}(h:lo+n<=a.size):((a.toList.drop lo).take n).length=n:=by rw[Bz,B0,Aw];omega
def aq{lo n}(h:lo+n<=a.size)(hs:SIn key a lo n):Srt key ((a.toList.drop lo).take n):=by
 unfold Srt;rw[By];intro i j hi N R;rw[xt h]at hi N;have U:=oY (key:=key) (a:=a) (i:=lo+i) ⋯
 have S:=oY (key:=key) (a:=a) (i:=lo+j) ⋯
 rw[Dd,Dc,Dd,Dc,<-U,<-S];exact hs i j ⋯ N
def bR{lo n}(h:lo+n<=a.size)(hs:Srt key ((a.toList.drop lo).take n)):SIn key a lo n:=λi j N U=>by
 by_cases e:i=j
 . subst e;exact Cr _
 . have:=By.mp hs i j (by rw[xt h];omega) (by rw[xt h];omega) ⋯
   have S:=oY (key:=key) (a:=a) (i:=lo+i) ⋯
   have R:=oY (key:=key) (a:=a) (i:=lo+j) ⋯
   rw[Dd,Dc,Dd,Dc,<-S,<-R]at this;exact this
theorem m9 o:∀m j (a:Array Keyed),o+j+m.length<=a.size->((m.zipIdx j).foldl (λa p=>a.setIfInBounds (o+p.2) p.1) a).toList=a.toList.take (o+j)++m++a.toList.drop (o+j+m.length)
 |[],j,a,_=>by simp
 |x::t,j,a,h=>by
  rw[Aj]at h;rw[Hq,HM,m9 o t (j+1) _ (by rw[C6];omega)]
  have N:o+j<a.toList.length:=by rw[Aw];omega
  show ((a.setIfInBounds (o+j) x).toList.take (o+(j+1))++t)++_=_;rw[GW];have S:(a.toList.set (o+j) x).take (o+(j+1))=a.toList.take (o+j)++[x]:=by rw[show o+(j+1)=(o+j)+1 by omega,Ep,List.take_set_of_le (Ac _),BD N];rfl
  have R:(a.toList.set (o+j) x).drop (o+(j+1)+t.length)=a.toList.drop (o+j+(x::t).length):=by rw[List.drop_set_of_lt ⋯,Aj];congr 1;omega
  rw[S,R,Ak,Ak,Ak];rfl
def aw{a R:Array Keyed}(U:sa+n<=a.size)(S:M.Perm ((a.toList.drop sa).take n))(e:R.toList=a.toList.take sa++M++a.toList.drop (sa+n)):R.Perm a/\(R.toList.drop sa).take n=M/\∀j,j<sa\/sa+n<=j->R[j]?=a[j]?:=by
 have Y:M.length=n:=by rw[S.length_eq,xt U]
 have X:(a.toList.take sa).length=sa:=by rw[Bz,Aw];omega
 refine⟨?_,?_,λj N=>?_⟩
 . rw[CI,e]
   have W:a.toList=a.toList.take sa++(a.toList.drop sa).take n++a.toList.drop (sa+n):=by rw[Ak,<-uR,A7]
   refine HQ.trans ?_ (.of_eq W.symm);exact(S.append_left _).append_right _
 . rw[e,Ak,List.drop_append_of_le_length ⋯,Ci ⋯,Dw,List.take_append_of_le_length ⋯,BJ ⋯]
 . rw[<-Bj,<-Bj,e,Ak]
   rcases N with N|N
   . rw[AW ⋯,B7 N]
   . rw[AX ⋯,AX ⋯,CP]
     congr 1;omega
def nK(R:Srt key l)(N:Srt key m)(h:∀u∈l,∀v∈m,key u<=key v):Srt key (l++m):=DL.mpr ⟨R,N,h⟩
def kS(L:sY prog w A E s κ a₀ key){st}(hB:Bs κ a₀ st)(h1:(AV st)[i]?=some (sa,na,p1))(h2:(AV st)[i+1]?=some (sb,nb,p2))(hs:sb=sa+na)(ha:0<na)(hb:0<nb)(hz:sb+nb<=a₀.size)(sA:SIn key (arrOf st) sa na)(sB:SIn key (arrOf st) sb nb)
 (h:∀st',Bs κ a₀ st'->AV st'=((AV st).setIfInBounds i (sa,na+nb,p1)).eraseIdxIfInBounds (i+1)->SIn key (arrOf st') sa (na+nb)->(∀j,j<sa\/sa+(na+nb)<=j->(arrOf st')[j]?=(arrOf st)[j]?)->Q true st') :
 wpS (model prog w) A E s (mergeAt' i) Q st:=by
 subst hs;have hsz:=hB.size;have mem:∀x∈(arrOf st).toList,x∈a₀.toList:=λx hx=>(CI.mp hB.a).mem_iff.mp hx;have W:=hB.c;have hfl:=hB.b;have hpm:=hB.a;cases st with
 |mk kd a pd mg fl=>
 dsimp only[arrOf,AV,Gq,Ff]at *;have srA:=aq ⋯ sA
 have srB:=aq ⋯ sB
 have gb:=yU (a:=a) (i:=sa+na) ⋯
 have gl:=yU (a:=a) (i:=sa+na-1) ⋯
 obtain⟨k,d1,d2,d3,d4⟩:=um (a₀:=a₀) (key:=key) (left:=false) (x:=a.getD (sa+na) (Ad,Ad)) (arr:=a) (base:=sa) (n:=na) ⋯ srA (λu hu=>mem u (BY (Bt hu)))
 obtain⟨U,c1,c2,c3,c4⟩:=um (a₀:=a₀) (key:=key) (left:=true) (x:=a.getD (sa+na-1) (Ad,Ad)) (arr:=a) (base:=sa+na) (n:=nb) ⋯ srB (λu hu=>mem u (BY (Bt hu)))
 -- the two runs as lists
 have hAB:(a.toList.drop sa).take (na+nb)=(a.toList.drop sa).take na++(a.toList.drop (sa+na)).take nb:=by rw[GV,DR]
 have fst:∀u∈(a.toList.drop (sa+na)).take nb,key (a.getD (sa+na) (Ad,Ad))<=key u:=λu hu=>by
  have e0:((a.toList.drop (sa+na)).take nb)[0]?=some (a.getD (sa+na) (Ad,Ad)):=by rw[B7 hb,CP,Fh];exact gb.2.1
  exact xR srB e0 u hu
 have lst:∀u∈(a.toList.drop sa).take na,key u<=key (a.getD (sa+na-1) (Ad,Ad)):=λu hu=>by
  have e0:((a.toList.drop sa).take na)[na-1]?=some (a.getD (sa+na-1) (Ad,Ad)):=by rw[B7 ⋯,CP,show sa+(na-1)=sa+na-1 by omega];exact gl.2.1
  exact xS srA e0 u (by rw[show na-1+1=na by omega,Es,Nat.min_self];exact hu)
 have Z:(∀u∈(a.toList.drop sa).take na,∀v∈(a.toList.drop (sa+na)).take nb,key u<=key v)->SIn key a sa (na+nb):=λhh=>bR ⋯ (by rw[hAB];exact nK srA srB hh)
 unfold mergeAt';refine Ai (wpS_get ?_);dsimp only;rw[h1,h2];dsimp only;refine Ai (XR ?_);refine Ai (zm gb.1 (Ai (xu L ha d1 d2 (mem _ gb.2.2) W ?_)));dsimp only;by_cases e1:na-k=0
 . rw[if_pos (by simpa using e1)]
   refine Av (h _ ⟨W,hpm,hfl⟩ rfl (Z λu hu v Y=>?_) λj _=>rfl);rw[show na=k by omega]at hu
   exact Bh (d3 u hu) (fst v Y)
 . rw[if_neg (by simpa using e1)]
   rw[show sa+k+(na-k)-1=sa+na-1 by omega]
   refine Ai (zm gl.1 (Ai (xu L (show nb-1<nb by omega) c1 c2 (mem _ gl.2.2) W ?_)))
   dsimp only;by_cases e2:U=0
   . rw[if_pos (by simpa using e2)]
     refine Av (h _ ⟨W,hpm,hfl⟩ rfl (Z λu hu v Y=>?_) λj _=>rfl);rw[e2,Dk]at c4;exact Bh (lst u hu) (c4 v Y)
   . rw[if_neg (by simpa using e2)]
     have ex:(a.extract (sa+k) (sa+na)).toList=((a.toList.drop sa).take na).drop k:=by rw[DM,CV,Ic,DR,show sa+na-(sa+k)=na-k by omega]
     have ey:(a.extract (sa+na) (sa+na+U)).toList=(a.toList.drop (sa+na)).take U:=oQ;have eyy:(a.toList.drop (sa+na)).take U=((a.toList.drop (sa+na)).take nb).take U:=by rw[Es,E6 c1]
     have lx:(a.extract (sa+k) (sa+na)).size=na-k:=by rw[<-Aw,ex,B0,xt ⋯]
     have ly:(a.extract (sa+na) (sa+na+U)).size=U:=by rw[<-Aw,ey,xt ⋯]
     have y0:(a.extract (sa+na) (sa+na+U)).getD 0 (Ad,Ad)=a.getD (sa+na) (Ad,Ad):=by
      have:=(yU (a:=a.extract (sa+na) (sa+na+U)) (i:=0) ⋯).2.1
      rw[ey,B7 ⋯,CP,Fh,gb.2.1]at this
      exact(AK this).symm
     have xl:(a.extract (sa+k) (sa+na)).getD ((a.extract (sa+k) (sa+na)).size-1) (Ad,Ad)=a.getD (sa+na-1) (Ad,Ad):=by
      have:=(yU (a:=a.extract (sa+k) (sa+na)) (i:=(a.extract (sa+k) (sa+na)).size-1) ⋯).2.1
      rw[lx]at this ⊢;rw[ex,CP,B7 ⋯,CP,show sa+(k+(na-k-1))=sa+na-1 by omega,gl.2.1]at this
      exact(AK this).symm
     have fin:∀(r:Array Keyed) (N:SortSt),Sm (Ge kd a ((pd.setIfInBounds i (sa,na+nb,p1)).eraseIdxIfInBounds (i+1)) mg fl) N->Res key (a.extract (sa+k) (sa+na)).toList (a.extract (sa+na) (sa+na+U)).toList r ->
      Q (Ff N).isNone (Ge (Gq N) (r.toList.zipIdx.foldl (λa p=>a.setIfInBounds (sa+k+p.2) p.1) (arrOf N)) (AV N) (gallopOf N) (Ff N)):=λr N S R=>by
      have f1:=S.e;have f2:=S.g;have f3:=S.f;have f4:=S.d;dsimp only[arrOf,AV,Gq,Ff]at f1 f2 f3 f4;have hrl:r.toList.length=na-k+U:=by rw[R.a.length_eq,Aq,Aw,Aw,lx,ly]
      have pl:=m9 (sa+k) r.toList 0 a ⋯
      rw[Fh,hrl,show sa+k+(na-k+U)=sa+na+U by omega]at pl
      have sp:a.toList.take (sa+k)=a.toList.take sa++(a.toList.drop sa).take k:=GV;have sq:a.toList.drop (sa+na+U)=((a.toList.drop (sa+na)).take nb).drop U++a.toList.drop (sa+(na+nb)):=by have:=(wF (X:=a.toList.drop (sa+na)) c1).2;rw[DR,DR]at this;rw[this];congr 2;omega
      rw[sp,sq]at pl;have pl2:(r.toList.zipIdx.foldl (λa p=>a.setIfInBounds (sa+k+p.2) p.1) a).toList=a.toList.take sa++((a.toList.drop sa).take k++r.toList++((a.toList.drop (sa+na)).take nb).drop U)++a.toList.drop (sa+(na+nb)):=by rw[pl];simp only[Ak]
      have rp:=R.a;rw[ex,ey,eyy]at rp;have ekk:(a.toList.drop sa).take k=((a.toList.drop sa).take na).take k:=by rw[Es,E6 d1]
      have hMp:((a.toList.drop sa).take k++r.toList++((a.toList.drop (sa+na)).take nb).drop U).Perm ((a.toList.drop sa).take (na+nb)):=by rw[hAB];refine((rp.append_left _).append_right _).trans ?_;rw[ekk,<-Ak,A7,Ak,A7]
      obtain⟨w1,w2,w3⟩:=aw (n:=na+nb) ⋯ hMp pl2
      have hsrt:Srt key ((a.toList.drop sa).take k++r.toList++((a.toList.drop (sa+na)).take nb).drop U):=by
       have inr:∀u∈r.toList,u∈((a.toList.drop sa).take na).drop k\/u∈((a.toList.drop (sa+na)).take nb).take U:=λu hu=>AQ.mp (rp.mem_iff.mp hu);refine nK (nK (by rw[ekk];exact srA.sublist (C8 _ _)) R.b λu hu v Y=>?_) (srB.sublist (G7 _ _)) λu hu v Y=>?_
       . rcases inr v Y with Y|Y
         . exact Bh (d3 u hu) (d4 v Y)
         . exact Bh (d3 u hu) (fst v (Bt Y))
       . rcases AQ.mp hu with hu|hu
         . exact Bh (d3 u hu) (fst v (BY Y))
         . rcases inr u hu with hu|hu
           . exact Bh (lst u (BY hu)) (c4 v Y)
           . rw[<-eyy]at hu
             exact Bh (c3 u hu) (c4 v Y)
      have f0:Ff N=none:=f1.trans hfl;have q0:(Ff N).isNone=true:=by rw[f0];rfl
      rw[q0];refine h _ ⟨f4.trans W,?_,f0⟩ f3 ?_ ?_
      . show (r.toList.zipIdx.foldl _ (arrOf N)).Perm a₀
        rw[show arrOf N=a from f2];exact w1.trans hpm
      . show SIn key (r.toList.zipIdx.foldl _ (arrOf N)) sa (na+nb)
        rw[show arrOf N=a from f2];exact bR (by rw[w1.size_eq];omega) (by rw[w2];exact hsrt)
      . show ∀j,_->(r.toList.zipIdx.foldl _ (arrOf N))[j]?=_
        rw[show arrOf N=a from f2];exact w3
     have mx:∀x∈(a.extract (sa+k) (sa+na)).toList,x∈a₀.toList:=λx hx=>mem x (by rw[ex]at hx;exact BY (Bt (BY hx)))
     have my:∀x∈(a.extract (sa+na) (sa+na+U)).toList,x∈a₀.toList:=λx hx=>mem x (by rw[ey]at hx;exact BY (Bt hx))
     have sx:Srt key (a.extract (sa+k) (sa+na)).toList:=by rw[ex];exact srA.sublist (G7 _ _)
     have sy:Srt key (a.extract (sa+na) (sa+na+U)).toList:=by rw[ey,eyy];exact srB.sublist (C8 _ _)
     have hx1:∀u∈(a.extract (sa+k) (sa+na)).toList,key ((a.extract (sa+na) (sa+na+U)).getD 0 (Ad,Ad))<=key u:=by rw[y0,ex];exact d4
     have hy1:∀u∈(a.extract (sa+na) (sa+na+U)).toList,key u<=key ((a.extract (sa+k) (sa+na)).getD ((a.extract (sa+k) (sa+na)).size-1) (Ad,Ad)):=by rw[xl,ey];exact c3
     refine zX (λ_=>?_) λ_=>?_
     . exact Ai (RS L ⋯ ⋯ mx my sx sy hx1 hy1 W λr N S R=>Ai (CJ (Ai (wpS_get (Av (fin r N S R))))))
     . exact Ai (RR L ⋯ ⋯ mx my sx sy hx1 hy1 W λr N S R=>Ai (CJ (Ai (wpS_get (Av (fin r N S R))))))
section
variable {prog:Program}{w:World}{A:Around}{E:Value->Shared->Prop}{s:Shared}{κ:DE}{a₀:Array Keyed}{key:Keyed->Int}
def Runs(key:Keyed->Int)(a:Array Keyed):Nat->List (Nat × Nat × Nat)->Nat->Prop
 |st,[],fin=>st=fin
 |st,(x,n,_)::r,fin=>x=st/\0<n/\SIn key a x n/\Runs key a (st+n) r fin
theorem tM:∀{l r} {st fin},Runs key a st (l++r) fin↔∃m,Runs key a st l m/\Runs key a m r fin
 |[],r,st,fin=>⟨λh=>⟨st,rfl,h⟩,λ⟨m,h1,h2⟩=>by cases h1;exact h2⟩
 |(x,n,p)::l,r,st,fin=>by show (x=st/\0<n/\SIn key a x n/\Runs key a (st+n) (l++r) fin)↔_;rw[tM (l:=l)];exact⟨λ⟨h1,h2,h3,m,h4,h5⟩=>⟨m,⟨h1,h2,h3,h4⟩,h5⟩,λ⟨m,⟨h1,h2,h3,h4⟩,h5⟩=>⟨h1,h2,h3,m,h4,h5⟩⟩
theorem tN:∀{l} {st fin},Runs key a st l fin->st+l.length<=fin
 |[],st,fin,h=>by cases h;exact Ac _
 |(x,n,p)::l,st,fin,h=>by have:=tN h.2.2.2;have:=h.2.1;rw[Aj];omega
theorem wB:∀{l} {st fin},(∀j,st<=j->j<fin->b[j]?=a[j]?)->Runs key a st l fin->Runs key b st l fin
 |[],st,fin,_,h=>h
 |(x,n,p)::l,st,fin,hc,h=>by
  have U:=tN h.2.2.2;refine⟨h.1,h.2.1,λi j N R=>?_,wB (λj W S=>hc j ⋯ S) h.2.2.2⟩
  have hx:=h.1;rw[y6 (hc (x+i) ⋯ ⋯),y6 (hc (x+j) ⋯ ⋯)]
  exact h.2.2.1 i j N R
structure Rn(κ:DE)(a₀:Array Keyed)(key:Keyed->Int)(lo:Nat)(st:SortSt):Prop where
 b:Bs κ a₀ st
 a:Runs key (arrOf st) 0 (AV st).toList lo
def pj{lo n}(h:∀j,lo<=j->b[j]?=a[j]?)(hs:SIn key a lo n):SIn key b lo n:=λi j N R=>by rw[y6 (h (lo+i) ⋯),y6 (h (lo+j) ⋯)];exact hs i j N R
theorem ph:∀{l l'} {st fin},l.map (λx=>(x.1,x.2.1))=l'.map (λx=>(x.1,x.2.1))->Runs key a st l fin->Runs key a st l' fin
 |[],[],st,fin,_,h=>h
 |[],_::_,st,fin,e,h=>by cases e
 |_::_,[],st,fin,e,h=>by cases e
 |(x,n,p)::l,(x',n',p')::l',st,fin,e,h=>by
  rw[AB,AB]at e;injection e with e1 e2
  injection e1 with e3 e4
  dsimp only at e3 e4;subst e3 e4;exact⟨h.1,h.2.1,h.2.2.1,ph e2 h.2.2.2⟩
def rH{st}{lo n}(h:Rn κ a₀ key lo st)(hs:SIn key (arrOf st) lo n)(N:0<n):Rn κ a₀ key (lo+n) (setPending st ((AV st).push (lo,n,0))):=by refine⟨⟨h.b.c,h.b.a,h.b.b⟩,?_⟩;show Runs key (arrOf st) 0 ((AV st).push (lo,n,0)).toList (lo+n);rw[C9,tM];exact⟨lo,h.a,rfl,N,hs,rfl⟩
def aA{st}{lo k pw}(h:Rn κ a₀ key lo st):Rn κ a₀ key lo (setPending st ((AV st).modify k λx=>(x.1,x.2.1,pw))):=by
 refine⟨⟨h.b.c,h.b.a,h.b.b⟩,?_⟩;show Runs key (arrOf st) 0 ((AV st).modify k λx=>(x.1,x.2.1,pw)).toList lo;refine ph ?_ h.a;rw[Array.toList_modify];refine G9 λi=>?_;rw[Am,Am,List.getElem?_modify];cases (AV st).toList[i]? with
 |none=>rfl
 |some v=>
  show some (v.1,v.2.1)=some ((if k=i then (v.1,v.2.1,pw) else v).1,(if k=i then (v.1,v.2.1,pw) else v).2.1)
  split<;>rfl
def cG [Decidable c] (R:a+1<n)(N:b+1<n):(if c then a else b)+1<n:=by
 by_cases h:c
 . rw[if_pos h];exact R
 . rw[if_neg h];exact N
def UX{N:Type}{l:List N}(h:i+1<l.length):∃l1 x y R,l=l1++x::y::R/\l1.length=i:=by
 refine⟨l.take i,l[i],l[i+1],l.drop (i+2),?_,by rw[Bz];omega⟩
 rw[<-Bo,<-Bo,A7]
def qG(L:sY prog w A E s κ a₀ key){st}{i lo}(h:Rn κ a₀ key lo st)(hlo:lo<=a₀.size)(hi:i+1<(AV st).size)
 (q:∀st',Rn κ a₀ key lo st'->(AV st').size+1=(AV st).size->(∀j,lo<=j->(arrOf st')[j]?=(arrOf st)[j]?)->Q true st'):wpS (model prog w) A E s (mergeAt' i) Q st:=by
 obtain⟨l1,⟨R,S,Z⟩,⟨xb,nb,pb⟩,l2,el,N⟩:=UX (l:=(AV st).toList) (i:=i) (by rw[Aw];exact hi)
 have hr:=h.a;rw[el,tM]at hr;obtain⟨m,Y,ea,ha,sA,eb,hb,sB,X⟩:=hr;subst ea;subst eb;have hr2:=tN X;have hr1:=tN Y;have g1:(AV st)[i]?=some (R,S,Z):=by rw[<-Bj,el,AX ⋯,N,Fi];rfl
 have g2:(AV st)[i+1]?=some (R+S,nb,pb):=by rw[<-Bj,el,AX ⋯,N,Fv];rfl
 refine kS L h.b g1 g2 rfl ha hb ⋯ sA sB λst' W hp hs hk=>q st' ⟨W,?_⟩ ?_ λj U=>hk j (.inr ⋯)
 . have ep:(AV st').toList=l1++(R,S+nb,Z)::l2:=by
    rw[hp,Hr,dif_pos (by rw[C6];exact hi),Array.toList_eraseIdx,GW,el]
    rw[List.set_append_right _ _ ⋯,N,Fi,List.set_cons_zero,List.eraseIdx_append_of_length_le ⋯,N,Fv]
    rfl
   rw[ep,tM];refine⟨R,wB (λj _ U=>hk j (.inl U)) Y,rfl,⋯,hs,?_⟩
   rw[<-Nat.add_assoc];exact wB (λj U _=>hk j (.inr ⋯)) X
 . rw[hp,Hr,dif_pos (by rw[C6];exact hi),Array.size_eraseIdx,C6]
   omega
def gA(L:sY prog w A E s κ a₀ key)(D:Dis key a₀){st}(hB:Bs κ a₀ st)(hp:AV st=#[])(h2:2<=a₀.size)
 (q:∀st',Bs κ a₀ st'->SIn key (arrOf st') 0 a₀.size->Q () st'):wpS (model prog w) A E s sortRuns' Q st:=by
 rw[sortRuns'_eq];refine Ai (wpS_get ?_);dsimp only;rw[hB.size];generalize minRun' a₀.size a₀.size 0=mr;refine Ai (C1 (BH (I:=λx c st'=>∃lo,c=(none,lo)/\x<=lo/\lo<=a₀.size/\Rn κ a₀ key lo st') (Q:=λc st'=>c=(none,a₀.size)/\Rn κ a₀ key a₀.size st') ?step ?fin ⟨0,rfl,Ac _,AS _,hB,by rw[hp];rfl⟩) ?post)
 case fin=>
  rintro c st' ⟨lo,rfl,X,h2,Y⟩;have:lo=a₀.size:=by omega
  subst this;exact⟨rfl,Y⟩
 case step=>
  rintro x c st' _ hx ⟨lo,rfl,X,hlo,Y⟩;dsimp only;by_cases hge:lo ≥ a₀.size
  . rw[if_pos hge]
    have:lo=a₀.size:=by omega
    subst this;exact Av ⟨rfl,Y⟩
  . rw[if_neg hge]
    refine Ai (ZH L D ⋯ ⋯ Y.b λm st2 hB2 pre2 pe2 m1 m2 s2=>?_)
    dsimp only;have hR2:Rn κ a₀ key lo st2:=⟨hB2,by rw[pe2];exact wB (λj _ hj=>pre2 j hj) Y.a⟩
    by_cases hm:m<mr
    . rw[if_pos hm]
      refine Ai (FV (BM ⟨rfl,?_⟩));refine Ai (Ur L (show lo+min (a₀.size-lo) mr<=a₀.size by omega) ⋯ hB2 s2 λst3 hB3 pre3 pe3 s3=>?_)
      rw[if_neg (by simp)]
      have hR3:Rn κ a₀ key lo st3:=⟨hB3,by rw[pe3];exact wB (λj _ hj=>pre3 j hj) hR2.a⟩
      refine Ai (wpS_get ?_);cases hbk:(AV st3).back? with
      |none=>
       dsimp only;exact Ai (CJ (Av ⟨lo+min (a₀.size-lo) mr,rfl,⋯,⋯,rH hR3 s3 ⋯⟩))
      |some v=>
       obtain⟨s1,n1,p1⟩:=v;dsimp only;refine Ai (C1 (BH (I:=λy c N=>c=(none,())/\Rn κ a₀ key lo N/\SIn key (arrOf N) lo (min (a₀.size-lo) mr)) (Q:=λc N=>c=(none,())/\Rn κ a₀ key lo N/\SIn key (arrOf N) lo (min (a₀.size-lo) mr)) (λy c N _ _ U=>?_) (λc N U=>U) ⟨rfl,hR3,s3⟩) ?_)
       . obtain⟨rfl,R,S⟩:=U
         refine Ai (wpS_get ?_);by_cases hp1:(AV N).size > 1
         . rw[if_pos hp1,getElem?_pos (AV N) ((AV N).size-2) ⋯]
           dsimp only;refine zX (λ_=>Av ⟨rfl,R,S⟩) λ_=>Ai (qG L R ⋯ ⋯ λst5 W _ Z=>?_)
           rw[if_neg (by simp)]
           exact Av ⟨rfl,W,pj (λj hj=>Z j hj) S⟩
         . rw[if_neg hp1]
           exact Av ⟨rfl,R,S⟩
       . rintro c N ⟨rfl,R,S⟩
         dsimp only;exact Ai (CJ (Ai (CJ (Av ⟨lo+min (a₀.size-lo) mr,rfl,⋯,⋯,rH (aA R) S ⋯⟩))))
    . rw[if_neg hm]
      refine Ai (wpS_get ?_);cases hbk:(AV st2).back? with
      |none=>
       dsimp only;exact Ai (CJ (Av ⟨lo+m,rfl,⋯,⋯,rH hR2 s2 ⋯⟩))
      |some v=>
       obtain⟨s1,n1,p1⟩:=v;dsimp only;refine Ai (C1 (BH (I:=λy c N=>c=(none,())/\Rn κ a₀ key lo N/\SIn key (arrOf N) lo (m)) (Q:=λc N=>c=(none,())/\Rn κ a₀ key lo N/\SIn key (arrOf N) lo (m)) (λy c N _ _ U=>?_) (λc N U=>U) ⟨rfl,hR2,s2⟩) ?_)
       . obtain⟨rfl,R,S⟩:=U
         refine Ai (wpS_get ?_);by_cases hp1:(AV N).size > 1
         . rw[if_pos hp1,getElem?_pos (AV N) ((AV N).size-2) ⋯]
           dsimp only;refine zX (λ_=>Av ⟨rfl,R,S⟩) λ_=>Ai (qG L R ⋯ ⋯ λst5 W _ Z=>?_)
           rw[if_neg (by simp)]
           exact Av ⟨rfl,W,pj (λj hj=>Z j hj) S⟩
         . rw[if_neg hp1]
           exact Av ⟨rfl,R,S⟩
       . rintro c N ⟨rfl,R,S⟩
         dsimp only;exact Ai (CJ (Ai (CJ (Av ⟨lo+m,rfl,⋯,⋯,rH (aA R) S ⋯⟩))))
 case post=>
  rintro c st' ⟨rfl,Y⟩;dsimp only;have hle:=tN Y.a;rw[Aw]at hle;refine Ai (C1 (BH (I:=λx c N=>c=(none,())/\Rn κ a₀ key a₀.size N/\((AV N).size<=1\/(AV N).size+x<=a₀.size)) (Q:=λc N=>c=(none,())/\Rn κ a₀ key a₀.size N/\(AV N).size<=1) (λy c N _ _ U=>?_) (λc N U=>⟨U.1,U.2.1,by have:=U.2.2;omega⟩) ⟨rfl,Y,.inr ⋯⟩) ?_)
  . obtain⟨rfl,R,S⟩:=U
    refine Ai (wpS_get ?_);refine zX (λX=>Av ⟨rfl,R,X⟩) λX=>Ai (qG L R (Ac _) (cG ⋯ ⋯) λst5 W hz5 _=>?_)
    rw[if_neg (by simp)]
    exact Av ⟨rfl,W,.inr ⋯⟩
  . rintro c N ⟨rfl,R,X⟩
    refine Av (q N R.b ?_);have hr:=R.a;rw[<-Aw]at X
    match hl:(AV N).toList,hr,X with
    |[],hr,_=>exact absurd (show 0=a₀.size from hr) ⋯
    |[(x,n,p)],hr,_=>
     obtain⟨rfl,_,hs,he⟩:=hr;have he':0+n=a₀.size:=he;rw[<-he',Cp];exact hs
    |_::_::_,_,X=>rw[Aj,Aj]at X;omega
end
end L2.Tim
end
section
namespace L2
open PySem PySem.W PySem.Calls PyProof PyProof.Rows
noncomputable def yv:List Int->List Int->Bool
 |x::xs,y::ys=>if x=y then yv xs ys else decide (x<y)
 |[],_::_=>true
 |_,[]=>false
noncomputable def cz(d:Bool):List Int->List Int->Bool
 |x::xs,y::ys=>if x=y then cz d xs ys else decide (x<y)
 |_,_=>d
theorem oa:∀xs ys:List Int,cz (decide (xs.length<ys.length)) xs ys=yv xs ys
 |[],[]=>rfl
 |[],_::_=>decide_eq_true (Fj _)
 |_::_,[]=>rfl
 |x::xs,y::ys=>by have:=oa xs ys;have e:decide ((x::xs).length<(y::ys).length)=decide (xs.length<ys.length):=decide_eq_decide.mpr Nat.add_lt_add_iff_right;unfold cz yv;rw[e,this]
theorem uW{S R:Type}{f}:∀{l} {N:List R},N.Perm (l.map f)->∃m:List S,m.Perm l/\m.map f=N
 |[],N,h=>⟨[],.refl _,(List.perm_nil.mp h).symm⟩
 |a::t,N,h=>by
  obtain⟨s,r,rfl⟩:=List.append_of_mem (h.mem_iff.mpr (.head _));obtain⟨m,Y,X⟩:=uW (l:=t) (List.perm_cons (f a) |>.mp ((Hs.symm).trans h))
  obtain⟨W,U,rfl,rfl,rfl⟩:=List.map_eq_append_iff.mp X;exact⟨W++a::U,Hs.trans (Y.cons a),by rw[C7,AB]⟩
section
variable {prog:Program}{w:World}{A:Around}{E:Value->Shared->Prop}{κ:DE}{s:Shared}
theorem qF:∀{us vs} {xs ys} i,vV us xs->vV vs ys->Q (cz d xs ys) s->KatLex prog w A true d Q (us.zip vs) i s
 |_,_,_,_,i,.b,.b,h=>h
 |_,_,_,_,i,.b,.a _,h=>h
 |_,_,_,_,i,.a _,.b,h=>h
 |_,_,_,_,i,.a (i:=a) (t:=t) (us:=us) (ns:=xs) r,.a (i:=b) (t:=u) (us:=vs) (ns:=ys) r',h=>by
  show KatLex prog w A true d Q ((De a t,De b u)::us.zip vs) i s;unfold cz at h;refine kat_cons (wpAny_eqBool_int (kat_go (λe=>?_) λe=>?_))
  . rw[if_pos (of_decide_eq_true e)]at h
    exact kat_yes (qF (i+1) r r' h)
  . rw[if_neg (of_decide_eq_false e)]at h
    refine kat_no ?_;cases i with
    |zero=>exact oneLt_int h
    |succ i=>exact kat_one _ _ (lt_int h)
noncomputable def itm(vs:List Value)(i:Nat):Keyed:=(vs.getD i Ad,vs.getD i Ad)
def rD vs:(vs.toArray.zip vs.toArray).toList=(Ah vs.length).map (itm vs):=by
 rw[Array.toList_zip];apply EG
 . simp
 . intro i R N
   have hi:i<vs.length:=by simpa using N
   simp[itm,Ab,dS hi]
def aj{key:Keyed->Int}(hl:s.heap.IsList l vs.toArray)(h2:2<=vs.length)(hz:vs.length<=16777216)
 (kind:∀h' (Q':DE->Shared->Prop),(∀b o,s.heap.get? b=some o->h'.get? b=some o)->Q' κ {s with heap:=h'}->wpAny (model prog w) A.in1.in1 (keyKind' vs.toArray) Q' (λ_ _=>False) {s with heap:=h'})
 (ask:∀h' i j C,(∀b o,s.heap.get? b=some o->h'.get? b=some o)->i<vs.length->j<vs.length->C (decide (key (itm vs i)<key (itm vs j))) {s with heap:=h'}->wpAny (model prog w) A.in1.in1 (keyLt' κ (vs.getD i Ad) (vs.getD j Ad)) C (λ_ _=>False) {s with heap:=h'})
 (dis:∀i j,i<vs.length->j<vs.length->key (itm vs i)=key (itm vs j)->i=j)
 (h:∀h' c (ix:List Nat),(∀b o,s.heap.get? b=some o->h'.get? b=some o)->ix.Perm (Ah vs.length)->ix.Pairwise (λi j=>key (itm vs i)<key (itm vs j)) ->
  h'.get? (s.heap.objs.size+1)=some (seqObj "list" (ix.map λi=>vs.getD i Ad).toArray c)->Q (.ref (s.heap.objs.size+1)) {s with heap:=h'}) :
 wpAny (model prog w) A (call (.builtin "sorted") [.ref l]) Q E s:=by
 have hs0:(vs.toArray.zip vs.toArray).size=vs.length:=by simp
 have un:∀{a:Array Keyed},a.Perm (vs.toArray.zip vs.toArray)->∃ix:List Nat,ix.Perm (Ah vs.length)/\ix.map (itm vs)=a.toList:=λ{a} hp=>uW (by rw[<-rD];exact CI.mp hp)
 have N:∀{a:Array Keyed} {ix:List Nat} (i:Nat) (hi:i<ix.length),ix.map (itm vs)=a.toList->Tim.kk key a i=key (itm vs ix[i]):=λ{a ix} i hi e=>by unfold Tim.kk;rw[AG,<-Bj,<-e,Am,dS hi];rfl
 have ixl:∀{ix:List Nat},ix.Perm (Ah vs.length)->ix.length=vs.length:=λhp=>by rw[hp.length_eq,A0]
 have Y:∀{ix:List Nat},ix.Perm (Ah vs.length)->∀i (hi:i<ix.length),ix[i]<vs.length:=λhp i hi=>Al.mp (hp.mem_iff.mp (BB hi));have hD:Tim.Dis key (vs.toArray.zip vs.toArray):=λa hp i j hi hj hij e=>by obtain⟨ix,W,p2⟩:=un hp;rw[hs0,<-ixl W]at hi hj;rw[N i hi p2,N j hj p2]at e;exact hij ((Ew (W.nodup_iff.mpr B1)).mp (dis _ _ (Y W i hi) (Y W j hj) e))
 refine E5 kind_sorted plain_sorted entry_sorted (args_sorted1 _) ?_;unfold Builtin.«sorted»;refine dm (m:=checkCount "sorted" 1 1 _) (zO ?_);refine dm (collect_list hl ?_ (by rw[A1];omega))
 refine dm (DB ?_ (by rw[A1];omega))
 have hsz:((s.heap.push (seqObj "list" #[] 0)).update s.heap.objs.size (A2 (·++vs.toArray))).objs.size=s.heap.objs.size+1:=by rw[Heap.size_update,size_push']
 have X:(((s.heap.push (seqObj "list" #[] 0)).update s.heap.objs.size (A2 (·++vs.toArray))).push (seqObj "list" vs.toArray 0)).get? (s.heap.objs.size+1)=some (seqObj "list" vs.toArray 0):=by rw[<-hsz];exact AA _ rfl
 have keep:∀b o,s.heap.get? b=some o->(((s.heap.push (seqObj "list" #[] 0)).update s.heap.objs.size (A2 (·++vs.toArray))).push (seqObj "list" vs.toArray 0)).get? b=some o:=λb o q=>by
  have S:b<s.heap.objs.size:=An q;rw[FA _ _ _ (by rw[hsz];exact Ax (Bu S)),BN _ _ _ _ (Ax S),FA _ _ _ (Ax S)]
  exact q
 show wpAny _ _ _ _ _ {s with heap:=((s.heap.push (seqObj "list" #[] 0)).update s.heap.objs.size (A2 (·++vs.toArray))).push (seqObj "list" vs.toArray 0)}
 rw[hsz];generalize hg:((s.heap.push (seqObj "list" #[] 0)).update s.heap.objs.size (A2 (·++vs.toArray))).push (seqObj "list" vs.toArray 0)=g at X keep ⊢
 refine dm (A6 (BA Gx ⟨_,X,rfl⟩ Gb ?body (Gy _)))
 case body=>
  rw[Gd];refine dm (Ho X rfl ?_);refine dm (DC X rfl ?_ (by rw[Ae,A1];omega) (AS _))
  obtain⟨e1,ho1⟩:∃e1,(g.update (s.heap.objs.size+1) (A2 λ_=>(#[]:Array Value))).get? (s.heap.objs.size+1)=some (seqObj "list" #[] e1):=⟨_,C0 X λ_=>#[]⟩;refine dm (Ef ho1 rfl ?_);refine dm (Fu ?_ (by show vs.length<=_;rw[A1];omega))
  refine dm (DB ?_ (AS _));refine A6 ?_;have R:∀b o,s.heap.get? b=some o->(((g.update (s.heap.objs.size+1) (A2 λ_=>(#[]:Array Value))).push (seqObj "tuple" vs.toArray 0)).push (seqObj "list" #[] 0)).get? b=some o:=λb o e=>by have S:b<s.heap.objs.size:=An e;refine xd _ (xd _ ?_);rw[BN _ _ _ _ (Ax (Bu S))];exact keep b o e
  have Z:(((g.update (s.heap.objs.size+1) (A2 λ_=>(#[]:Array Value))).push (seqObj "tuple" vs.toArray 0)).push (seqObj "list" #[] 0)).get? (s.heap.objs.size+1)=some (seqObj "list" #[] e1):=
   xd _ (xd _ ho1)
  show wpAny (model prog w) _ _ _ _ {s with heap:=((g.update (s.heap.objs.size+1) (A2 λ_=>(#[]:Array Value))).push (seqObj "tuple" vs.toArray 0)).push (seqObj "list" #[] 0)}
  generalize ((g.update (s.heap.objs.size+1) (A2 λ_=>(#[]:Array Value))).push (seqObj "tuple" vs.toArray 0)).push (seqObj "list" #[] 0)=g6 at Z R ⊢;dsimp only;have h2':¬vs.toArray.size<2:=by rw[Ae];omega
  rw[if_neg h2',if_neg h2'];refine dm (BU (kind g6 (λU s'=>U=κ/\s'={s with heap:=g6}) R ⟨rfl,rfl⟩) (λU s' hk=>?_) λ_ _ x=>x.elim)
  obtain⟨rfl,rfl⟩:=hk;have L:Tim.sY prog w A.in1.in1 (λ_ _=>False) {s with heap:=g6} U (vs.toArray.zip vs.toArray) key:=λx y st Q' hx hy hk hq=>by
   rw[rD]at hx hy;obtain⟨i,hi,rfl⟩:=AO.mp hx;obtain⟨j,hj,rfl⟩:=AO.mp hy;rw[lt'_eq];refine Ai (wpS_get ?_);rw[hk];refine Ai (FV (ES (BU (ask g6 i j (λc s'=>s'={s with heap:=g6}/\c=decide (key (itm vs i)<key (itm vs j))) R (Al.mp hi) (Al.mp hj) ⟨rfl,rfl⟩) (λc s' hc=>?_) λ_ _ hF=>hF.elim)))
   obtain⟨rfl,rfl⟩:=hc;exact⟨rfl,Av hq⟩
  refine dm (BU (Tim.gA L hD (st:=Ge U (vs.toArray.zip vs.toArray) #[] 7 none) (Q:=λ_ st'=>Tim.Bs U (vs.toArray.zip vs.toArray) st'/\Tim.SIn key (arrOf st') 0 (vs.toArray.zip vs.toArray).size) ⟨rfl,.refl _,rfl⟩ rfl (by rw[hs0];exact h2) λst' a b=>⟨a,b⟩) ?_ λ_ _ x=>x.elim)
  rintro ⟨⟨⟩,st'⟩ s' ⟨rfl,hB,hS⟩;dsimp only at hB hS ⊢;obtain⟨ix,W,p2⟩:=un hB.a;have hout:(arrOf st').map (·.2)=(ix.map λi=>vs.getD i Ad).toArray:=by apply EE.mp;rw[Array.toList_map,<-p2,BI];rfl
  have hixl:(ix.map λi=>vs.getD i Ad).toArray.size<=AH:=by rw[Ae,Aa,ixl W,A1];omega
  rw[show (arrOf st').map (·.2)=_ from hout]
  refine dm (Ef Z rfl ?_);refine dm (DC Z rfl ?_ (AS _) (Nat.le_succ_of_le hixl));rw[hB.b];simp only[bne_self_eq_false,Au,if_false];refine zO ⟨_,rfl,zO ⟨_,rfl,?_⟩⟩;refine h _ _ ix (λb o e=>?_) W (By.mpr λi j hi hj hij=>?_) (C0 Z λ_=>(ix.map λi=>vs.getD i Ad).toArray)
  . have S:b<s.heap.objs.size:=An e
    rw[BN _ _ _ _ (Ax (Bu S))];exact R b o e
  . have:=hS i j (Ek hij) (by rw[hs0,<-ixl W];exact hj)
    rw[Cp,Cp,N i hi p2,N j hj p2]at this;rcases GL this with z|z
    . exact z
    . have:=(Ew (W.nodup_iff.mpr B1)).mp (dis _ _ (Y W i hi) (Y W j hj) z)
      exact absurd this (Ax hij)
end
def gi:∀{a b},vV us a->vV us b->a=b:=by
 induction us with
 |nil=>intro a b h k;cases h;cases k;rfl
 |cons u us N=>
  intro a b h k;cases h with
  |a h=>
   cases k with
   |a k=>rw[N h k]
noncomputable def keyOf(its:List Value)(zs:List (List Int))(K:List Int->Int)(x:Keyed):Int:=
 open Classical in K (zs.getD (its.findIdx λv=>decide (v=x.1)) [])
def yZ{K}(tv:TV h its zs)(hz:zs[i]?=some z):keyOf its zs K (itm its i)=K z:=by
 classical
 obtain⟨b,o,n,us,Y,f2,f3,f4,f5⟩:=tv.2 i z hz;have Z:its.getD i Ad=.ref b:=by rw[Ab,Y];rfl
 have S:its.findIdx (λv=>decide (v=its.getD i Ad))<its.length:=List.findIdx_lt_length_of_exists ⟨.ref b,AF Y,by rw[Z];exact decide_eq_true rfl⟩
 have hp:=List.findIdx_getElem (w:=S);have hj:=of_decide_eq_true hp;have N:its.findIdx (λv=>decide (v=its.getD i Ad))<zs.length:=by rw[<-tv.1];exact S
 obtain⟨b',o',n',U,X,W,g3,R,g5⟩:=tv.2 _ _ (dS N);have e2:Bp b'=.ref b:=by rw[dS S]at X;rw[<-Z,<-hj];exact(AK X).symm
 cases e2;rw[f2]at W;cases W;rw[f4]at R;injection R with R
 have R:=EE.mpr R;have R:us=U:=R;subst R;unfold keyOf;show K (zs.getD (its.findIdx λv=>decide (v=its.getD i Ad)) [])=K z;rw[Ab,dS N,EF,gi g5 f5]
def TV.up(tv:TV h its zs)(keep:∀b o,h.get? b=some o->h'.get? b=some o):TV h' its zs:=⟨tv.1,λi z e=>by obtain⟨b,o,n,us,R,f2,N⟩:=tv.2 i z e;exact⟨b,o,n,us,R,keep _ _ f2,N⟩⟩
def rV:yN X (.builtin "sorted") (λxs H Q=>∃p ys zs,∃K:List Int->Int,xs=[.c p]/\SqL X.K H p ys/\ZR X.K H ys zs/\(zs.length<2\/∀z∈zs,z≠[])/\zs.Nodup/\(∀a∈zs,∀b∈zs,yv a b=decide (K a<K b))/\(∀a∈zs,∀b∈zs,K a=K b->a=b) /\
 ∀l (ix:List Nat),H l=none->ix.Perm (Ah zs.length)->(ix.map λi=>zs.getD i []).Pairwise (λa b=>K a<K b)->Q (.c l) (upd H l (.b (ix.map λi=>ys.getD i .g)))):=by
 intro pins s σ H xs us Q I r h;obtain⟨p,ys,zs,K,rfl,hq,hP,N,hnd,hK,hKi,q⟩:=h;obtain⟨u,rfl,rx⟩:=vals1 r;cases rx;obtain⟨its,rv,pl,hz⟩:=I.list hq;have hlen:=rv.length;have hl:s.heap.IsList p its.toArray:=pl.isList;have tv:=hP.tv I rv;have hn:its.length=zs.length:=tv.1;have hD:s.heap.get? (s.heap.objs.size+1)=none:=Heap.get?_none_of_le (Dp _);by_cases h2:its.length<2
 . refine nJ hl h2 λh' c keep e=>?_
   obtain⟨R,I'⟩:=I.ll (h':=h') hz rv hD (λb o _ e=>keep b o e) (λm ⟨o,es,ep,ho,r⟩=>⟨o,es,ep,keep _ o ho,r⟩) e;have ey:(Ah zs.length).map (λi=>ys.getD i .g)=ys:=by rw[<-hn,<-hlen];exact v9 _
   have:=q _ (Ah zs.length) R (.refl _) (by
    rw[v9]
    match zs,show zs.length<2 by omega with
    |[],_=>exact .nil
    |[_],_=>exact Fw _ _)
   rw[ey]at this;exact⟨V.c _,_,I',rfl,this⟩
 . have N:∀z∈zs,z≠[]:=N.resolve_left ⋯
   have hzl:its.length<=16777216:=by rw[A1]at hz;omega
   have Y:∀{i:Nat},i<its.length->∃z,zs[i]?=some z/\zs.getD i []=z/\z∈zs:=λ{i} hi=>by rw[hn]at hi;exact⟨zs[i],dS hi,by rw[Ab,dS hi];rfl,BB hi⟩
   refine aj (κ:=tuples' true) (key:=keyOf its zs K) hl ⋯ hzl (λh' Q' keep hq'=>?_) (λh' i j C keep hi hj hc=>?_) (λi j hi hj e=>?_) λh' c ix keep hp hw e=>?_
   . obtain⟨fs,kt,kl,ki⟩:=(tv.up keep).si N
     refine kat_kind (s:={s with heap:=h'}) (T:=.type "int") kt ⋯ (λv hv=>?_) rfl hq'
     obtain⟨i,t,rfl⟩:=ki v hv;exact Looks.of_pure rfl
   . obtain⟨z,W,a2,a3⟩:=Y hi
     obtain⟨Z,U,b2,b3⟩:=Y hj;rw[yZ tv W,yZ tv U,<-hK z a3 Z b3,<-oa]at hc;obtain⟨b,o,n,us,f1,f2,f3,f4,f5⟩:=(tv.up keep).2 i z W;obtain⟨b',o',n',us',f1',f2',f3',f4',f5'⟩:=(tv.up keep).2 j Z U;rw[Ab,Ab,f1,f1'];refine kat_lt (s:={s with heap:=h'}) f2 f4 f2' f4' ?_
     rw[Ae,Ae,vz f5,vz f5'];exact qF (s:={s with heap:=h'}) 0 f5 f5' hc
   . obtain⟨z,W,a2,a3⟩:=Y hi
     obtain⟨Z,U,b2,b3⟩:=Y hj;rw[yZ tv W,yZ tv U]at e;have ez:=hKi z a3 Z b3 e;subst ez;exact(List.getElem?_inj ⋯ hnd).mp (W.trans U.symm)
   . have S:∀i∈ix,i<its.length:=λi hi=>Al.mp (hp.mem_iff.mp hi)
     obtain⟨R,I'⟩:=I.ll (h':=h') (ys:=ix.map λi=>ys.getD i .g) (by rw[Aa,hp.length_eq,A0];omega) (p8 rv ix λi hi=>by have:=S i hi;omega) hD (λb o _ e=>keep b o e) (λm ⟨o,es,ep,ho,r⟩=>⟨o,es,ep,keep _ o ho,r⟩) e
     refine⟨V.c _,_,I',rfl,q _ ix R (by rw[<-hn];exact hp) ?_⟩
     rw[Cj];refine hw.imp_of_mem λ{i j} hi hj w=>?_;obtain⟨z,W,a2,a3⟩:=Y (S i hi);obtain⟨Z,U,b2,b3⟩:=Y (S j hj);rw[yZ tv W,yZ tv U]at w;rw[a2,b2];exact w
theorem qE:∀a:List Int,yv a a=false
 |[]=>rfl
 |x::xs=>by unfold yv;rw[if_pos rfl];exact qE xs
theorem mO:∀{a b},yv a b=false->a≠b->yv b a=true
 |[],[],_,h=>absurd rfl h
 |[],_::_,h,_=>by cases h
 |_::_,[],_,_=>rfl
 |x::xs,y::ys,h,n=>by
  unfold yv at h ⊢;by_cases e:x=y
  . subst e
    rw[if_pos rfl]at h ⊢;exact mO h λe=>n (by rw[e])
  . rw[if_neg e]at h
    rw[if_neg (λz=>e z.symm)];have:=of_decide_eq_false h;exact decide_eq_true ⋯
theorem og:∀{a b c},yv a b=true->yv b c=true->yv a c=true
 |[],[],_,h,_=>by cases h
 |_::_,[],_,h,_=>by cases h
 |_,_::_,[],_,h=>by cases h
 |[],_::_,_::_,_,_=>rfl
 |x::xs,y::ys,z::zs,h,k=>by
  unfold yv at h k ⊢;by_cases e:x=y
  . subst e
    rw[if_pos rfl]at h;by_cases e':x=z
    . rw[if_pos e']at k ⊢;exact og h k
    . rw[if_neg e']at k ⊢;exact k
  . rw[if_neg e]at h
    have h:=of_decide_eq_true h;by_cases e':y=z
    . subst e'
      rw[if_neg e];exact decide_eq_true h
    . rw[if_neg e']at k
      have k:=of_decide_eq_true k;rw[if_neg ⋯]
      exact decide_eq_true ⋯
def gh(z:List Int):List (List Int)->List (List Int)
 |[]=>[z]
 |y::ys=>if yv y z then y::gh z ys else z::y::ys
def zk:List (List Int)->List (List Int)
 |[]=>[]
 |z::zs=>gh z (zk zs)
theorem tw z:∀l,(gh z l).Perm (z::l)
 |[]=>.refl _
 |y::ys=>by
  unfold gh;by_cases h:yv y z=true
  . rw[if_pos h];exact((tw z ys).cons y).trans (.swap z y ys)
  . rw[if_neg h]
theorem zc:∀l,(zk l).Perm l
 |[]=>.refl _
 |z::zs=>(tw z _).trans ((zc zs).cons z)
theorem iQ z:∀l,z ∉ l->l.Pairwise (λa b=>yv a b=true)->(gh z l).Pairwise (λa b=>yv a b=true)
 |[],_,_=>Fw _ _
 |y::ys,hz,h=>by
  rw[BX]at h;rw[Ar,not_or]at hz;unfold gh;by_cases e:yv y z=true
  . rw[if_pos e]
    refine BX.mpr ⟨λa N=>?_,iQ z ys hz.2 h.2⟩;rcases Ar.mp ((tw z ys).mem_iff.mp N) with q|q
    . rw[q];exact e
    . exact h.1 a q
  . rw[if_neg e]
    have e:=mO (G8.mpr e) λq=>hz.1 q.symm;refine BX.mpr ⟨λa N=>?_,BX.mpr h⟩;rcases Ar.mp N with q|q
    . rw[q];exact e
    . exact og e (h.1 a q)
theorem xQ:∀{l},l.Nodup->(zk l).Pairwise (λa b=>yv a b=true)
 |[],_=>.nil
 |z::zs,h=>by rw[Bb]at h;exact iQ z _ (λq=>h.1 ((zc zs).mem_iff.mp q)) (xQ h.2)
def v7(h:yv a b=true):yv b a=false:=by
 cases e:yv b a with
 |false=>rfl
 |true=>rw[<-qE a];exact(og h e).symm
def qW(S:zs.Nodup)(W:a∈zs)(U:b∈zs):yv a b=decide (((zk zs).idxOf a:Int)<(zk zs).idxOf b):=by
 have hs:=xQ S;have i1:=Ds ((zc zs).mem_iff.mpr W);have i2:=Ds ((zc zs).mem_iff.mpr U);have R:=D7 i1;have N:=D7 i2;rcases Ei ((zk zs).idxOf a) ((zk zs).idxOf b) with h|h|h
 . have:=By.mp hs _ _ i1 i2 h
   rw[R,N]at this;rw[this];exact(decide_eq_true ⋯).symm
 . have:a=b:=by rw[<-R,<-N];exact getElem_congr_idx h
   rw[this,qE];exact(decide_eq_false ⋯).symm
 . have:=By.mp hs _ _ i2 i1 h
   rw[R,N]at this;rw[v7 this];exact(decide_eq_false ⋯).symm
def lL(R:a∈zs)(N:b∈zs)(h:((zk zs).idxOf a:Int)=(zk zs).idxOf b):a=b:=by have i1:=Ds ((zc zs).mem_iff.mpr R);have i2:=Ds ((zc zs).mem_iff.mpr N);rw[<-D7 i1,<-D7 i2];exact getElem_congr_idx ⋯
def qU(N:zs.Nodup)(hp:l.Perm zs)(h:l.Pairwise λa b=>((zk zs).idxOf a:Int)<(zk zs).idxOf b):l=zk zs:=by
 refine Fm (le:=λa b=>yv a b=true) (λa b _ _ h k=>?_) (h.imp_of_mem λ{a b} ha hb w=>?_) (xQ N) (hp.trans (zc zs).symm)
 . rw[v7 h]at k;cases k
 . rw[qW N (hp.mem_iff.mp ha) (hp.mem_iff.mp hb)];exact decide_eq_true w
noncomputable def plI(z:Int × Int):List Int:=[z.1,z.2]
def cu:List Int->Int
 |[a,b]=>yg (a,b)
 |_=>0
def iT(R:0<=a.2/\a.2<1000)(N:0<=b.2/\b.2<1000):yv (plI a) (plI b)=decide (cu (plI a)<cu (plI b)):=by
 rw[show cu (plI a)=yg a from rfl,show cu (plI b)=yg b from rfl,decide_eq_decide.mpr (dE R N)];unfold plI yv yv yv;by_cases h1:a.1=b.1
 . rw[if_pos h1]
   by_cases h2:a.2=b.2
   . rw[if_pos h2];exact(decide_eq_false ⋯).symm
   . rw[if_neg h2];exact decide_eq_decide.mpr ⋯
 . rw[if_neg h1];exact decide_eq_decide.mpr ⋯
def Yu(h:plI a=plI b):a=b:=by
 unfold plI at h;injection h with h1 h2
 injection h2 with h2 _
 exact Fc h1 h2
end L2
end
section
namespace L2
open PySem PyProof.Rows
def aD(hc:X.g=true)(S:zZ X N csc fr)(hi:PI X tg iter wi)(hg:∀C R H0 ex,PG (X.comp N csc C R H0 ex) tg g)(ht:∀C R H0 ex,PTs (X.comp N csc C R H0 ex) ifs ts)
 (Z:∀C R H0 ex,PI (X.comp N csc C R H0 ex) tg2 iter2 wi2) (hg2:∀C R H0 ex,PG (X.comp N csc C R H0 ex) tg2 g2) (U:∀C R H0 ex,PTs (X.comp N csc C R H0 ex) ifs2 ts2)
 (he:∀C R H0 ex,PE (X.comp N csc C R H0 ex) elt te) (hN:X.N.Nodup) (hy:X.N[i]?=some y) (hx:Loc X.a.scope y)
 (W:FY (.ListComp elt [⟨tg,iter,ifs,0⟩,⟨tg2,iter2,ifs2,0⟩] csc cpos) (some (.Name y py)) spos.line X.a=pure true:=by rfl)
 (hf:X.m y=true\/X.a.scope.names.lookup y=some .local:=by first|exact .inl rfl|exact .inr rfl|assumption)
 (hs:∀x,AM iter X.a x=pure x:=by intro _;rfl)
 (Y:∀env x,AM iter2 env x=pure x:=by intro _ _;rfl) :
 PS X (.Assign [.Name y py] (.ListComp elt [⟨tg,iter,ifs,0⟩,⟨tg2,iter2,ifs2,0⟩] csc cpos) spos) (qx (vh fr wi g ts λacc=>uc wi2 g2 ts2 (sV acc te)) (vY i)):=
 m7 hc S hi (B:=λacc env=>(do
         let x <-eval iter2 env
         standAt iter2.pos
         let x <-AM iter2 env x;let _ <-runOwn (.compStart (.ListComp elt [⟨tg,iter,ifs,0⟩,⟨tg2,iter2,ifs2,0⟩] csc cpos) 1 (<-holding [x] (pyIter x)) acc env) env)) (X8 elt tg iter ifs tg2 iter2 ifs2 csc cpos) hg ht
  (λC R H0 ex acc=>ml rfl hc (Z C R H0 ex) (hg2 C R H0 ex) (U C R H0 ex) (rG (he C R H0 ex)) (Y _)) hN hy hx W hf hs
end L2
end
section
namespace L2
open PySem PySem.Calls PyProof PyProof.Rows
structure Ap(z TI TO i1 i2:Addr)(fp1 fp2:List Addr):Prop where
 zI:z≠TI
 a:z≠TO
 z1:z≠i1
 z2:z≠i2
 IO:TI≠TO
 I1:TI≠i1
 I2:TI≠i2
 O1:TO≠i1
 O2:TO≠i2
 ii:i1≠i2
 b:z ∉ fp1
 zg:z ∉ fp2
 Of:TO ∉ fp1
 Og:TO ∉ fp2
 c:i2 ∉ fp1
 ig:i1 ∉ fp2
section
variable {prog:Program}{w:World}{A:Around}{E:Value->Shared->Prop}{s:Shared}
variable {z TI TO i1 i2:Addr}{fp1 fp2:List Addr}{n1 n2:Nat}{P1 P2:Nat->Value->Prop}{S1 S2:Nat->Heap->Prop}
def ZM{Q:Value->Shared->Prop}(D:Ap z TI TO i1 i2 fp1 fp2)(D1:Draws prog w A i1 fp1 n1 P1 S1)(D2:Draws prog w A i2 fp2 n2 P2 S2)
 (W:IsZip s.heap z TI TO .none) (hI:IsPair s.heap TI (.ref i1) (.ref i2)) (hO:IsPair s.heap TO a b) (s1:S1 k1 s.heap) (s2:S2 k2 s.heap) (l1:k1<n1) (l2:k2<n2)
 (hQ:∀x y h' tk,P1 k1 x->P2 k2 y->IsZip h' z TI TO (rawInt s.heap.objs.size)->IsPair h' TI (.ref i1) (.ref i2)->IsPair h' TO x y->S1 (k1+1) h'->S2 (k2+1) h'->IsPair h' s.heap.objs.size x y->(∀c o,c≠z->c≠TO->c≠i1->c≠i2->s.heap.get? c=some o->h'.get? c=some o) ->
  Q (.ref s.heap.objs.size) {s with heap:=h',toks:=tk}):wpAny (model prog w) A (Builtin.«zip.__next__» ⟨[.ref z],[]⟩) (λfin s'=>∃v,fin=.done (.ret v)/\Q v s') E s:=by
 show wpAny _ _ (field (.ref z) 2 >>= _) _ _ _;refine dm (Cg W rfl (x:=.bool false) rfl ?_);show wpAny _ _ (field (.ref z) 3 >>= _) _ _ _;refine dm (Cg W rfl (x:=.ref TI) rfl (dm (DS hI rfl ?_)));show wpAny _ _ (Cu (.ref z) >>= _) _ _ _;unfold Cu;refine dm (dm (Cg W rfl (x:=.none) rfl (zO ?_)));simp only[if_true];refine dm (BM (dm (Cg W rfl (x:=.ref TO) rfl (dm (D8 W (by simp) λha za ea=>?_)))))
 have za:IsZip ha z TI TO .ellipsis:=za;have ka:∀c o,c≠z->s.heap.get? c=some o->ha.get? c=some o:=λc o n e=>ea.extBut _ _ n e;have yQ:∀{p q:Addr} {l:List Addr},p∈l->q ∉ l->p≠q:=λhp hq e=>hq (e▸hp);refine dm ?_;simp only[Hq,List.zipIdx_nil,E2,Ft];refine dm (dm (Iy ?_));show wpAny _ _ (E7 (.ref i1) >>= _) _ _ _;refine dm (D1.item k1 _ _ _ l1 (D1.frame k1 _ _ s1 λc X o e=>ka c o (yQ X D.b) e) λx hb tb px sb eb=>zO ?_);have kb:∀c o,c≠i1->ha.get? c=some o->hb.get? c=some o:=λc o n e=>eb.extBut _ _ n e;have ob:IsPair hb TO a b:=kb _ _ D.O1 (ka _ _ D.a.symm hO);refine dm (DS ob rfl (dm (wpAny_updateSeq_pair ob λX oc ec=>?_)));have oc:IsPair X TO x b:=oc;have kc:∀c o,c≠TO->hb.get? c=some o->X.get? c=some o:=λc o n e=>ec.extBut _ _ n e;refine dm (wpAny_letGo (zO ?_));refine dm (dm (Iy ?_));show wpAny _ _ (E7 (.ref i2) >>= _) _ _ _;refine dm (D2.item k2 _ _ _ l2 (D2.frame k2 _ _ s2 λc N o e=>kc c o (yQ N D.Og) (kb c o (yQ N D.ig) (ka c o (yQ N D.zg) e))) λy hd td py sd ed=>zO ?_);have kd:∀c o,c≠i2->X.get? c=some o->hd.get? c=some o:=λc o n e=>ed.extBut _ _ n e;have od:IsPair hd TO x b:=kd _ _ D.O2 oc;refine dm (DS od rfl (dm (wpAny_updateSeq_pair od λhe Z ee=>?_)));have Z:IsPair he TO x y:=Z;have ke:∀c o,c≠TO->hd.get? c=some o->he.get? c=some o:=λc o n e=>ee.extBut _ _ n e;refine dm (wpAny_letGo (zO (zO (dm (DS Z rfl (dm (Fu ?_)))))));have sz:he.objs.size=s.heap.objs.size:=by rw[ee.1,ed.1,ec.1,eb.1,ea.1]
 have ze:IsZip he z TI TO .ellipsis:=ke _ _ D.a (kd _ _ D.z2 (kc _ _ D.a (kb _ _ D.z1 za)));have U:∀c o,c≠z->c≠TO->c≠i1->c≠i2->s.heap.get? c=some o->he.get? c=some o:=λc o n1 n2 n3 n4 e=>ke c o n2 (kd c o n4 (kc c o n2 (kb c o n3 (ka c o n1 e))));show wpAny _ _ (Fo (.ref z) (.ref he.objs.size) >>= _) _ _ _;unfold Fo;have zf:IsZip (he.push {cls:=.type "tuple",data:=.seq #[x,y]}) z TI TO .ellipsis:=xd _ ze;refine dm (dm (D8 zf (by simp) λhg zg eg=>?_))
 have zg:IsZip hg z TI TO (rawInt he.objs.size):=zg;refine D8 zg (by simp) λR Y eh=>?_
 have Y:IsZip R z TI TO (rawInt he.objs.size):=Y;have up:∀c o,c≠z->he.get? c=some o->R.get? c=some o:=λc o n e=>eh.extBut _ _ n (eg.extBut _ _ n (xd _ e));have S:z<he.objs.size:=An ze;have th:IsPair R he.objs.size x y:=eh.extBut _ _ (El S) (eg.extBut _ _ (El S) (AA _ rfl));have s1h:S1 (k1+1) R:=D1.frame _ _ _ sb λc N o e=>up c o (yQ N D.b) (ke c o (yQ N D.Of) (kd c o (yQ N D.c) (kc c o (yQ N D.Of) e)));have s2h:S2 (k2+1) R:=D2.frame _ _ _ sd λc N o e=>up c o (yQ N D.zg) (ke c o (yQ N D.Og) e);rw[sz]at Y th;refine zO ⟨_,rfl,?_⟩;show Q (.ref he.objs.size) _;rw[sz];exact hQ x y R _ px py Y (up _ _ D.zI.symm (U _ _ D.zI.symm D.IO D.I1 D.I2 hI)) (up _ _ D.a.symm Z) s1h s2h th λc o n1 n2 n3 n4 e=>up c o n1 (U c o n1 n2 n3 n4 e)
def XT{a b:Value}{Q:Fin->Shared->Prop}(D:Ap z TI TO i1 i2 fp1 fp2)(D1:Draws prog w A i1 fp1 n1 P1 S1)
 (N:IsZip s.heap z TI TO .none) (hI:IsPair s.heap TI (.ref i1) (.ref i2)) (hO:IsPair s.heap TO a b) (s1:S1 n1 s.heap)
 (hE:∀h' e,(∀c o,c≠z->c≠TO->c≠i1->c≠i2->s.heap.get? c=some o->h'.get? c=some o)->(∃o,h'.get? e=some o/\o.cls=.type "StopIteration")->E (.ref e) {s with heap:=h'}):wpAny (model prog w) A (Builtin.«zip.__next__» ⟨[.ref z],[]⟩) Q E s:=by
 show wpAny _ _ (field (.ref z) 2 >>= _) _ _ _;refine dm (Cg N rfl (x:=.bool false) rfl ?_);show wpAny _ _ (field (.ref z) 3 >>= _) _ _ _;refine dm (Cg N rfl (x:=.ref TI) rfl (dm (DS hI rfl ?_)));show wpAny _ _ (Cu (.ref z) >>= _) _ _ _;unfold Cu;refine dm (dm (Cg N rfl (x:=.none) rfl (zO ?_)));simp only[if_true];refine dm (BM (dm (Cg N rfl (x:=.ref TO) rfl (dm (D8 N (by simp) λY R ea=>?_)))))
 have R:IsZip Y z TI TO .ellipsis:=R;have X:∀c o,c≠z->s.heap.get? c=some o->Y.get? c=some o:=λc o n e=>ea.extBut _ _ n e;refine dm ?_;simp only[Hq,List.zipIdx_nil,E2,Ft];refine dm (dm (Iy ?_));show wpAny _ _ (E7 (.ref i1) >>= _) _ _ _;refine dm (D1.done _ _ _ (D1.frame n1 _ _ s1 λc S o e=>X c o (λq=>D.b (q▸S)) e) λhb e eb he=>?_);obtain⟨oe,U,Z⟩:=he;have W:IsZip hb z TI TO .ellipsis:=eb _ _ D.z1 R;have ez:e≠z:=λq=>by rw[q,W]at U;cases U;simp at Z
 exact D8 W (by simp) λS _ ec=>hE S e (λc o c1 _ c3 _ q=>ec.extBut _ _ c1 (eb _ _ c3 (X _ _ c1 q))) ⟨oe,ec.extBut _ _ ez U,Z⟩
def next_item(D:Ap z TI TO i1 i2 fp1 fp2)(D1:Draws prog w A.in1 i1 fp1 n1 P1 S1)(D2:Draws prog w A.in1 i2 fp2 n2 P2 S2)
 (N:IsZip s.heap z TI TO .none) (hI:IsPair s.heap TI (.ref i1) (.ref i2)) (hO:IsPair s.heap TO a b) (s1:S1 k1 s.heap) (s2:S2 k2 s.heap) (l1:k1<n1) (l2:k2<n2)
 (hQ:∀x y h' tk,P1 k1 x->P2 k2 y->IsZip h' z TI TO (rawInt s.heap.objs.size)->IsPair h' TI (.ref i1) (.ref i2)->IsPair h' TO x y->S1 (k1+1) h'->S2 (k2+1) h'->IsPair h' s.heap.objs.size x y->(∀c o,c≠z->c≠TO->c≠i1->c≠i2->s.heap.get? c=some o->h'.get? c=some o) ->
  Q (some (.ref s.heap.objs.size)) {s with heap:=h',toks:=tk}):wpAny (model prog w) A (pyNext (.ref z)) Q E s:=by
 have R:s.TypeIs (.ref z) "zip":=⟨_,N,rfl⟩;unfold pyNext;exact dm (ES (Cd (name:=DU "__next__") R Gi (BA Gi R F.entry_zip_next
  (ZM D D1 D2 N hI hO s1 s2 l1 l2 λx y h' tk q1 q2 q3 Z Y X W U S=>zO (hQ x y h' tk q1 q2 q3 Z Y X W U S)) (F.args_zip_next_1 _))))
def next_end{a b:Value}{Q:Option Value->Shared->Prop}(D:Ap z TI TO i1 i2 fp1 fp2)(Z:Draws prog w A.in1 i1 fp1 n1 P1 S1)
 (N:IsZip s.heap z TI TO .none) (Y:IsPair s.heap TI (.ref i1) (.ref i2)) (X:IsPair s.heap TO a b) (s1:S1 n1 s.heap)
 (W:∀h',(∀c o,c≠z->c≠TO->c≠i1->c≠i2->s.heap.get? c=some o->h'.get? c=some o)->Q none {s with heap:=h'}):wpAny (model prog w) A (pyNext (.ref z)) Q E s:=by
 have R:s.TypeIs (.ref z) "zip":=⟨_,N,rfl⟩;unfold pyNext;refine dm (ES (Cd (name:=DU "__next__") R Gi (BA Gi R F.entry_zip_next
  (XT D Z N Y X s1 λh' e hk he=>?_) (F.args_zip_next_1 _))))
 obtain⟨o,S,U⟩:=he;exact dm (Ht (T:="StopIteration") (b:=true) ⟨o,S,U⟩ isSubtype_stop (zO (W _ hk)))
end
def eV(R:a<n)(N:b<n):Ap (n+4) (n+2) (n+3) n (n+1) [n,a] [n+1,b]:=by
 have f:∀{c x y:Nat},c≠x->c≠y->¬(c∈([x,y]:List Nat)):=λh k m=>by
  rcases Ar.mp m with e|m
  . exact h e
  . exact k (Az.mp m)
 exact⟨show n+4≠n+2 by omega,show n+4≠n+3 by omega,show n+4≠n by omega,show n+4≠n+1 by omega,show n+2≠n+3 by omega,show n+2≠n by omega,show n+2≠n+1 by omega,show n+3≠n by omega,show n+3≠n+1 by omega,show n≠n+1 by omega,
  f ⋯ ⋯,f ⋯ ⋯,f ⋯ ⋯,f ⋯ ⋯,f ⋯ ⋯,f ⋯ ⋯⟩
end L2
end
section
namespace L2
open PySem PyProof.Rows
noncomputable def intsOf:List Expr->Option (List Int)
 |[]=>some []
 |.Constant (.int i) _ _::es=>(intsOf es).map λr=>i::r
 |.UnaryOp .USub (.Constant (.int i) _ _) _::es=>(intsOf es).map λr=>-i::r
 |_=>none
section
variable {X:Cx}{a b:Expr}{rest:List Expr}{ta tb:TE}{pos:Pos}
def QH(K:AI)(ta tb:TE):TE:=λσ H Q=>ta σ H λx H1=>∃c,ZQ K x H1 c/\if c=true then Q x H1 else tb σ H1 Q
def UD(Z:PE X a ta)(Y:PE X (.BoolOp .Or (b::rest) pos) tb):PE X (.BoolOp .Or (a::b::rest) pos) (QH X.K ta tb):=by
 intro pins s σ H Q I h;refine BoolOp_or (thn (Z pins s σ H _ I h) λv s1 N=>?_);obtain⟨x,H1,I1,R,c,W,U⟩:=N;refine thn (ZC pins s1 σ H1 x v (λk H2=>if k=true then Q x H2 else tb σ H2 Q) I1 R ⟨c,W,U⟩) λk s2 N=>?_
 obtain⟨H2,I2,S⟩:=N;cases k with
 |false=>exact Y pins s2 σ H2 Q I2 S
 |true=>exact⟨x,H2,I2,R,S⟩
end
noncomputable def vX(n:Nat)(lo hi:Option Int)(c:Int):Int × Nat:=((BP lo hi (some c) n).1,(if c > 0 then (if (BP lo hi (some c) n).1<(BP lo hi (some c) n).2.1 then ((BP lo hi (some c) n).2.1-(BP lo hi (some c) n).1+c-1)/c else 0) else (if (BP lo hi (some c) n).1 > (BP lo hi (some c) n).2.1 then ((BP lo hi (some c) n).1-(BP lo hi (some c) n).2.1-c-1)/(-c) else 0):Int).toNat)
def vj its lo hi c:ID its.toArray lo hi (some c)=(zr its (vX its.length lo hi c).1 c (vX its.length lo hi c).2).toArray:=by unfold ID sliceRange zr vX;rw[CO];refine congrArg List.toArray ?_;have e:(BP lo hi (some c) its.toArray.size).2.2=c:=rfl;rw[e];simp only[Ae];refine congrArg (λf=>List.filterMap f _) ?_;funext k;show its.toArray[_]?=_;rw[Et,Int.mul_comm]
def Sx(K:AI):V->Option Int->Option Int->Option Int->Hp->VK->Prop:=λx lo hi st H Q=>∃a xs c,x=.c a/\SqL K H a xs/\st=some c/\c≠0/\∀p,H p=none->Q (.c p) (upd H p (.b (zr xs (vX xs.length lo hi c).1 c (vX xs.length lo hi c).2)))
def kq{lo hi}{st}(he:PE X e te)(hl:PO X lo tl)(hu:PO X hi th)(hc:PO X (some st) tc):PE X (.Subscript e (.Slice lo hi (some st) p2) pos) (RN (Sx X.K) te tl th tc):=by
 intro pins s σ H Q I h;refine Ik (thn (he pins s σ H _ I h) λv s1 W=>?_);obtain⟨x,H1,I1,r1,q1⟩:=W;refine wpAny_Slice (thn (hl pins s1 σ H1 _ I1 q1) λvl s2 ⟨l,H2,I2,pl,q2⟩=>thn (hu pins s2 σ H2 _ I2 q2) λZ s3 ⟨u,H3,I3,pu,q3⟩=>thn (hc pins s3 σ H3 _ I3 q3) λvc R W=>?_);obtain⟨c,H4,I4,pc,q4⟩:=W;obtain⟨a,xs,N,rfl,hx,ec,h0,g⟩:=q4;subst ec;cases r1;have Y:Inv X pins σ H4 {R with heap:=R.heap.push {cls:=.type "slice",data:=.fields #[vl,Z,vc]}}:=I4.kept (t':=R.toks) λb ob q=>xd _ q
 obtain⟨its,r,ht,hz⟩:=Y.list hx;have S:=r.length;show wpAny (model X.f X.w) X.A (GR e (.Slice lo hi (some st) p2) (.ref a) (.ref R.heap.objs.size)) (EP X pins σ Q) X.h {R with heap:=R.heap.push {cls:=.type "slice",data:=.fields #[vl,Z,vc]}}
 refine tail_any (ops:=[.ref a,.ref R.heap.objs.size]) ht.isList.typeIs G3.lookup (Hi ht.isList (GH ..) pl pu pc (λz=>h0 (AK z)) ?_ (by rw[Ae]<;>omega)) (by with_unfolding_all rfl)
 rw[vj,<-S];refine⟨.c _,_,Y.laid (t':=R.toks) (o:=.b (zr xs (vX xs.length l u N).1 N (vX xs.length l u N).2)) (λb ob q=>xd _ q) (Ac _) ?_,rfl,g _ (Y.j.fresh (Ac _))⟩;have rp:=r.zr (vX xs.length l u N).1 N (vX xs.length l u N).2;have U:(zr xs (vX xs.length l u N).1 N (vX xs.length l u N).2).length<=xs.length:=by have:=slicePick_size_le its.toArray l u (some N);rw[vj,Ae,Ae,<-S,<-rp.length]at this;exact this
 exact⟨Ao U hz,_,0,rp,AA _ rfl⟩
end L2
end
section
namespace L2
open PySem PyProof PyProof.Rows
section
variable {X:Cx}
noncomputable def Tv(z:Str)(ys:List Str):Str:=Txt.join z ys
end
end L2
end
section
namespace L2
open PySem PySem.Spec PyProof PyProof.Rows
def mW:typeLookup (.type "tuple") (dunderI "add")=(pure none:Sem (Option Value)):=rfl
section
variable {X:Cx}
def gm:OpR X (Fb .Add) Xz:=by
 intro pins s σ H x y v u Q I rx ry h;obtain⟨a,b,xs,ys,rfl,rfl,ha,hb,hz,g⟩:=h;cases rx;cases ry;obtain⟨its,r1,p1,_⟩:=I.tuple (.inl (.inl ha));obtain⟨N,Z,p2,_⟩:=I.tuple (.inl (.inl hb));obtain⟨⟨cls,dd,data,sl⟩,ho,hc,n,hd⟩:=id p1;obtain⟨⟨cls2,U,data2,S⟩,R,Y,n2,W⟩:=id p2;simp only at hc hd Y W;subst hc hd Y W;have e:its.toArray++N.toArray=(its++N).toArray:=by simp
 have tA:s.TypeIs (.ref a) "tuple":=⟨_,ho,rfl⟩;have tB:s.TypeIs (.ref b) "tuple":=⟨_,R,rfl⟩;refine inplaceOp_concat tA tB mW FQ GQ ?_;by_cases hx:xs=[]
 . subst hx
   cases r1;exact Ct CH tA Cv (Co _ _) (tuple_addW0 a b #[] N.toArray n n2 dd U sl S rfl) ⟨ho,R,⟨.c b,H,I,rfl,g b H (tX.refl H) hb⟩⟩
 . have hv:its≠[]:=λz=>hx (r1.wO.mp z)
   by_cases hy:ys=[]
   . have hw:N=[]:=Z.wO.mpr hy
     subst hy;rw[AR]at g;exact Ct CH tA Cv (Co _ _) (tuple_addW1 a b its.toArray N.toArray n n2 dd U sl S (by simpa using hv) (by simp[hw])) ⟨ho,R,⟨.c a,H,I,rfl,g a H (tX.refl H) ha⟩⟩
   . have hw:N≠[]:=λz=>hy (Z.wO.mp z)
     refine Ct CH tA Cv (Co _ _) (tuple_addW2 a b its.toArray N.toArray n n2 dd U sl S (by simpa using hv) (by simpa using hw) (by rw[Ae,Ae,<-r1.length,<-Z.length];exact hz)) ⟨ho,R,?_⟩
     rw[e];refine⟨.c s.heap.objs.size,_,I.laid (t':=s.toks) (o:=.c (xs++ys)) (λb ob q=>xd _ q) (Ac _) ?_,rfl,g.new _ (I.j.fresh (Ac _))⟩;exact⟨by rw[Aq];exact hz,_,r1.append Z,ug.new _ _⟩
noncomputable def RE(ns:List Int):Bool:=decide (ns.length<=1000)&&ns.all λn=>decide (-1000000<=n)&&decide (n<=1000000)
end
end L2
end
section
namespace L2
open PySem PySem.W PySem.Calls PyProof PyProof.Rows
open AutoSeq1 (wpAny_loadPart')
open SeqAt
section
variable {X:Cx}
def aI(K:AI)(g:List Int->Int):List V->Hp->VK->Prop:=λxs H Q=>∃(a:Addr) (ns:List Int),xs=[.c a]/\SqT K H a (ns.map V.d)/\ns≠[]/\Q (.d (g ns)) H
def gQ(hc:X.g=true):yN X (.builtin "max") (aI X.K (vO 0)):=by
 intro pins s σ H xs us Q I r h;obtain⟨a,ns,rfl,ha,Y,q⟩:=h;obtain⟨u,rfl,ru⟩:=vals1 r;cases ru;obtain⟨its,rv,W,hz⟩:=I.tuple ha;have R:=rv.length;have U:a<s.heap.objs.size:=by obtain⟨o,N,_⟩:=id W;exact An N
 have hl:its.toArray.size=ns.length:=by rw[Ae,<-R,Aa]
 have hpos:0<ns.length:=EW.mpr Y;have S:∀(i:Nat) (v:Value),its.toArray[i]?=some v->∃t,v=.int (ns.getD i 0) t:=λi v hv=>rv.ints (by simpa using hv)
 refine call_max_walk (GF W ?_);refine⟨s.heap.objs.size,_,_,_,_,_,_,rfl,Walks.tuple (A:=X.A.in1) (I.y.l hc) s.heap.objs.size a (Ax U) its.toArray,⟨⟨_,AA _ rfl,rfl,rfl⟩,?_⟩,λb hb=>?_,⋯,CmpOf.ints_gt (λi=>ns.getD i 0) S,λv h' tk hP hk=>?_⟩
 . obtain⟨o,N,Z,n,hd⟩:=id W
   exact⟨o,xd _ N,Z,n,hd⟩
 . rw[B9]
   simp only[Ar,BG,or_false]at hb;rcases hb with e|e
   . rw[e];exact CN _
   . rw[e];exact Bu U
 . obtain⟨t,rfl⟩:=S _ _ hP
   obtain⟨b1,b2⟩:=argBest_gt (λi=>ns.getD i 0) (its.toArray.size-1);have e:vO 0 ns=ns.getD (argBest (λi j=>decide (ns.getD i 0 > ns.getD j 0)) (its.toArray.size-1)) 0:=by
    refine mQ ?_ λx hx=>?_
    . have:argBest (λi j=>decide (ns.getD i 0 > ns.getD j 0)) (its.toArray.size-1)<ns.length:=by omega
      rw[Ab,dS this];exact BB this
    . obtain⟨i,hi,rfl⟩:=Bx hx
      have:=b2 i ⋯
      simpa [Ab,dS hi] using this
   refine⟨.d (vO 0 ns),H,I.kept λb o N=>hk b o ?_ (xd _ N),⟨t,by rw[e]⟩,q⟩
   simpa using Ax (An N)
def lr(hc:X.g=true):yN X (.builtin "min") (aI X.K (vg 0)):=by
 intro pins s σ H xs us Q I r h;obtain⟨a,ns,rfl,ha,Y,q⟩:=h;obtain⟨u,rfl,ru⟩:=vals1 r;cases ru;obtain⟨its,rv,W,hz⟩:=I.tuple ha;have R:=rv.length;have U:a<s.heap.objs.size:=by obtain⟨o,N,_⟩:=id W;exact An N
 have hl:its.toArray.size=ns.length:=by rw[Ae,<-R,Aa]
 have hpos:0<ns.length:=EW.mpr Y;have S:∀(i:Nat) (v:Value),its.toArray[i]?=some v->∃t,v=.int (ns.getD i 0) t:=λi v hv=>rv.ints (by simpa using hv)
 refine call_min_walk (GF W ?_);refine⟨s.heap.objs.size,_,_,_,_,_,_,rfl,Walks.tuple (A:=X.A.in1) (I.y.l hc) s.heap.objs.size a (Ax U) its.toArray,⟨⟨_,AA _ rfl,rfl,rfl⟩,?_⟩,λb hb=>?_,⋯,CmpOf.ints_lt (λi=>ns.getD i 0) S,λv h' tk hP hk=>?_⟩
 . obtain⟨o,N,Z,n,hd⟩:=id W
   exact⟨o,xd _ N,Z,n,hd⟩
 . rw[B9]
   simp only[Ar,BG,or_false]at hb;rcases hb with e|e
   . rw[e];exact CN _
   . rw[e];exact Bu U
 . obtain⟨t,rfl⟩:=S _ _ hP
   obtain⟨b1,b2⟩:=argBest_lt (λi=>ns.getD i 0) (its.toArray.size-1);have e:vg 0 ns=ns.getD (argBest (λi j=>decide (ns.getD i 0<ns.getD j 0)) (its.toArray.size-1)) 0:=by
    refine mU ?_ λx hx=>?_
    . have:argBest (λi j=>decide (ns.getD i 0<ns.getD j 0)) (its.toArray.size-1)<ns.length:=by omega
      rw[Ab,dS this];exact BB this
    . obtain⟨i,hi,rfl⟩:=Bx hx
      have:=b2 i ⋯
      simpa [Ab,dS hi] using this
   refine⟨.d (vg 0 ns),H,I.kept λb o N=>hk b o ?_ (xd _ N),⟨t,by rw[e]⟩,q⟩
   simpa using Ax (An N)
end
end L2
end
section
namespace L2
open PySem PySem.W PySem.Calls PyProof PyProof.Rows
open AutoSeq1 (wpAny_loadPart')
open SeqAt
noncomputable def Tz:List Int->List Int->Bool
 |[],[]=>false
 |[],_::_=>true
 |_::_,[]=>false
 |x::xs,y::ys=>if x=y then Tz xs ys else decide (x<y)
end L2
namespace L2
open PySem PySem.W PySem.Calls PyProof PyProof.Rows
def T6:List (List Int)->List Int
 |[]=>[]
 |z::t=>t.foldl (λm y=>if Tz y m then y else m) z
end L2
end
section
namespace L2
open PySem PySem.W PySem.Calls PyProof PyProof.Rows
noncomputable def dN(ns:List Int):Nat:=(firstMet (λi=>ns.getD i 0) ns.length).length
end L2
end
section
namespace M.St
open PySem PySem.SetTable
def uK(xs:Array Nat):Prop:=∀i j,i<j->j<xs.size->xs.getD i 0<xs.getD j 0
theorem rQ(h:uK xs):∀N lo hi,hi-lo<=N->lo<=hi->hi<=xs.size->(∀i<lo,xs.getD i 0<j)->(∀i,hi<=i->i<xs.size->j<=xs.getD i 0) ->
 below.go xs j N lo hi<=xs.size/\(∀i<below.go xs j N lo hi,xs.getD i 0<j)/\∀i,below.go xs j N lo hi<=i->i<xs.size->j<=xs.getD i 0
 |0,lo,hi,hf,hl,hs,h1,h2=>by
  obtain rfl:lo=hi:=by omega
  exact⟨hs,h1,h2⟩
 |N+1,lo,hi,hf,hl,hs,h1,h2=>by
  unfold below.go;by_cases hlt:lo<hi
  . rw[if_pos hlt]
    simp only[];rw[show xs.getD ((lo+hi)/2) j=xs.getD ((lo+hi)/2) 0 by unfold Io;rw[dif_pos ⋯,dif_pos ⋯]]
    by_cases hm:xs.getD ((lo+hi)/2) 0<j
    . rw[if_pos hm]
      refine rQ h N _ _ ⋯ ⋯ hs (λi S=>?_) h2
      rcases Dt i ((lo+hi)/2) with q|q
      . exact F9 (h i _ q ⋯) hm
      . rwa [show i=(lo+hi)/2 by omega]
    . rw[if_neg hm]
      refine rQ h N _ _ ⋯ ⋯ ⋯ h1 λi U R=>?_
      rcases Dt ((lo+hi)/2) i with q|q
      . have:=h _ i q R
        omega
      . rw[show i=(lo+hi)/2 by omega];omega
  . rw[if_neg hlt]
    obtain rfl:lo=hi:=by omega
    exact⟨hs,h1,h2⟩
def uM(h:uK xs)j:below xs j<=xs.size/\(∀i<below xs j,xs.getD i 0<j)/\∀i,below xs j<=i->i<xs.size->j<=xs.getD i 0:=
 rQ h xs.size 0 xs.size ⋯ (AS _) (Ac _) (λi hi=>⋯) (λi R N=>⋯)
def below_at(h:uK xs)(e:xs[i]?=some j):below xs j=i:=by
 obtain⟨W,R,N⟩:=uM h j;obtain⟨hi,U⟩:=AY.mp e;have S:xs.getD i 0=j:=by rw[AG,e];rfl
 rcases Ei (below xs j) i with q|q|q
 . have z:=N _ (Ac _) ⋯
   have:=h _ _ q hi;omega
 . exact q
 . have:=R i q
   omega
def w4{t:BR}(h:uK t.place)(e:t.place[i]?=some j):t.slot j=.live i:=by unfold slot;simp only[below_at h e,e,beq_self_eq_true,if_true]
def qS{t:BR}(e:t.slot j=.live i):t.place[i]?=some j:=by
 unfold slot at e;simp only[]at e;split at e
 . rename_i q
   injection e with e
   subst e;exact beq_iff_eq.mp q
 . split at e<;>cases e
noncomputable def adv(mask:Nat)(p:Probe):Probe:=advance ⟨mask,#[],#[],0,true,0,true⟩ p
noncomputable def xW(mask:Nat)(h:Int):Probe:=probeStart ⟨mask,#[],#[],0,true,0,true⟩ h
noncomputable def it(m i:Nat):Nat:=(i*5+1)%(m+1)
def itn(m:Nat):Nat->Nat->Nat
 |0,i=>i
 |n+1,i=>itn m n (it m i)
theorem u4:∀a b i,itn m (a+b) i=itn m b (itn m a i)
 |0,b,i=>by rw[Cp];rfl
 |a+1,b,i=>by rw[Nat.succ_add];exact u4 a b (it m i)
def orb(m:Nat):Nat->Nat->List Nat
 |0,_=>[]
 |f+1,i=>i::orb m f (it m i)
theorem ip:∀{f i},b∈orb m f i->∃n,n<f/\itn m n i=b
 |f+1,i,h=>by
  rcases Ar.mp h with rfl|h
  . exact⟨0,Fj _,rfl⟩
  . obtain⟨n,R,N⟩:=ip h
    exact⟨n+1,⋯,N⟩
def wN(m:Nat):Bool:=(Ah (m+1)).all (λb=>(orb m (m+1) 0).contains b)&&itn m (m+1) 0 == 0
def mC(h:wN m=true)(S:a<=m)(R:b<=m):∃n,n<=m/\itn m n a=b:=by
 unfold wN at h;rw[ub,A5]at h;obtain⟨U,N⟩:=h;have N:=beq_iff_eq.mp N;have g:∀b,b<=m->∃n,n<m+1/\itn m n 0=b:=λb R=>ip (List.contains_iff_mem.mp (U b (Al.mpr ⋯)))
 obtain⟨x,X,rfl⟩:=g a S;obtain⟨y,W,rfl⟩:=g b R;rcases Dt y x with q|q
 . refine⟨m+1-x+y,⋯,?_⟩
   rw[<-u4,show x+(m+1-x+y)=(m+1)+y by omega,u4,N]
 . refine⟨y-x,⋯,?_⟩
   rw[<-u4,show x+(y-x)=y by omega]
def Xh:wN 7=true:=by decide +kernel
def Wj:wN 31=true:=by decide +kernel
def Zq:wN 127=true:=by decide +kernel
def Zr:wN 511=true:=by decide +kernel
noncomputable def lp(m:Nat)(x:Nat × Nat):Nat × Nat:=leap m x.1 x.2
def lpn(m:Nat):Nat->Nat × Nat->Nat × Nat
 |0,x=>x
 |n+1,x=>lp m (lpn m n x)
theorem oj:∀n,(lpn m n x).2=x.2/32 ^ n
 |0=>(Nat.div_one _).symm
 |n+1=>by show (lpn m n x).2/32=_;rw[oj n,Nat.div_div_eq_div_mul,<-Nat.pow_succ]
theorem oh(h0:(lpn m n0 x).2=0):∀n,lpn m (n0+n) x=(itn m n (lpn m n0 x).1,0)
 |0=>by rw[Fh];exact Fc rfl h0
 |n+1=>by
  have e:itn m (n+1) (lpn m n0 x).1=it m (itn m n (lpn m n0 x).1):=by rw[u4];rfl
  show lp m (lpn m (n0+n) x)=_;rw[oh h0 n,e];simp[lp,leap,it]
def jy h:bits h<2 ^ 64:=by unfold bits;omega
def kP(hx:x.1<=m):∀n,(lpn m n x).1<=m
 |0=>hx
 |n+1=>FC (He _ (Fj m))
noncomputable def atP(m:Nat)(x:Nat × Nat):Probe:={j:=x.1,more:=runEnd m x.1-x.1,i:=x.1,perturb:=x.2,dummy:=none}
def wV(m:Nat):Nat->Probe->Probe
 |0,p=>p
 |n+1,p=>wV m n (adv m p)
theorem wb:∀a b p,wV m (a+b) p=wV m b (wV m a p)
 |0,b,p=>by rw[Cp];rfl
 |a+1,b,p=>by rw[Nat.succ_add];exact wb a b (adv m p)
theorem nH:∀k p,p.more=k->p.dummy=none->wV m (k+1) p=atP m (lp m (p.i,p.perturb))
 |0,p,h,hd=>by
  show adv m p=_;unfold adv advance;rw[if_neg ⋯]
  obtain⟨j,R,i,N,S⟩:=p;subst hd;rfl
 |k+1,p,h,hd=>by
  have e:adv m p={p with j:=p.j+1,more:=p.more-1}:=by unfold adv advance;rw[if_pos ⋯]
  show wV m (k+1) (adv m p)=_;rw[nH k (adv m p) (by rw[e];show p.more-1=k;omega) (by rw[e];exact hd),e]
def UP:runEnd m i-i<=9:=by unfold runEnd;split<;>omega
theorem jx:∀n,∃k,k<=10*n/\wV m k (atP m x)=atP m (lpn m n x)
 |0=>⟨0,Ac _,rfl⟩
 |n+1=>by
  obtain⟨k,R,N⟩:=jx (m:=m) (x:=x) n;have r:=UP (m:=m) (i:=(lpn m n x).1);refine⟨k+(runEnd m (lpn m n x).1-(lpn m n x).1+1),⋯,?_⟩
  rw[wb,N];exact nH _ (atP m (lpn m n x)) rfl rfl
def bD(U:wN m=true)h(S:j<=m):∃k,k<10*turns m/\(wV m k (xW m h)).j=j:=by
 have N:(lpn m 13 (bits h%(m+1),bits h)).2=0:=by rw[oj];exact Nat.div_eq_of_lt (AL (jy h) (by decide))
 obtain⟨n,n1,n2⟩:=mC U (kP (x:=(bits h%(m+1),bits h)) (FC (He _ (Fj m))) 13) S;obtain⟨k,W,R⟩:=jx (m:=m) (x:=(bits h%(m+1),bits h)) (13+n);refine⟨k,by unfold turns;omega,?_⟩
 rw[show xW m h=atP m (bits h%(m+1),bits h) from rfl,R,oh N,n2];rfl
abbrev lk(t:BR)(h:Int)(k:Nat):Probe:=wV t.mask k (xW t.mask h)
def gM:(adv m p).dummy=p.dummy:=by unfold adv advance;split<;>rfl
theorem rP:∀k p,(wV m k p).dummy=p.dummy
 |0,_=>rfl
 |k+1,p=>(rP k (adv m p)).trans gM
def bB:(lk t h k).dummy=none:=(rP k _).trans rfl
def iW:t.advance (lk t h k)=lk t h (k+1):=by show adv t.mask (wV t.mask k (xW t.mask h))=_;rw[show lk t h (k+1)=wV t.mask (k+1) (xW t.mask h) from rfl,wb];rfl
theorem mD(hd:∀j,t.slot j≠.dummy):∀N k0 K,k0<=K->K<k0+N->t.slot (lk t h K).j=.empty ->
 ∃k,k0<=k/\k<=K/\(∀R,k0<=R->R<k->∃i,t.slot (lk t h R).j=.live i/\at_ i≠h) /\
  ((t.slot (lk t h k).j=.empty/\probe.go t at_ h N (lk t h k0)=some (.empty (lk t h k).j none)) \/
   ∃i,t.slot (lk t h k).j=.live i/\at_ i=h/\probe.go t at_ h N (lk t h k0)=some (.candidate (lk t h k).j i (lk t h (k+1))))
 |0,k0,K,h1,h2,_=>by omega
 |N+1,k0,K,h1,h2,he=>by
  unfold probe.go;cases hs:t.slot (lk t h k0).j with
  |empty=>exact⟨k0,Ac _,h1,λR U S=>⋯,.inl ⟨hs,by simp only[];rw[bB]⟩⟩
  |dummy=>exact absurd hs (hd _)
  |live i=>
   simp only[];by_cases ha:at_ i=h
   . rw[if_pos (beq_iff_eq.mpr ha)]
     exact⟨k0,Ac _,h1,λR U S=>⋯,.inr ⟨i,hs,ha,by rw[iW]⟩⟩
   . rw[if_neg λz=>ha (beq_iff_eq.mp z),iW]
     have Z:k0≠K:=λe=>by rw[e,he]at hs;cases hs
     obtain⟨k,k1,Y,X,W⟩:=mD hd N (k0+1) K ⋯ ⋯ he
     refine⟨k,⋯,Y,λR U S=>?_,W⟩
     rcases Dt k0 R with q|q
     . exact X R q S
     . rw[show R=k0 by omega];exact⟨i,hs,ha⟩
structure Ok(hs:List Int)(t:BR):Prop where
 d:t.place.size=hs.length
 c:uK t.place
 g:t.dummies=#[]
 le:∀(i j:Nat),t.place[i]?=some j->j<=t.mask
 fl:t.place.size<=t.mask
 l:wN t.mask=true
 m:∀(i j:Nat) (h:Int),t.place[i]?=some j->hs[i]?=some h->∃k,(lk t h k).j=j/\∀k'<k,∃i',t.slot (lk t h k').j=.live i'
def Ok.ir(o:Ok hs t)j:t.slot j≠.dummy:=λe=>by
 unfold slot at e;simp only[]at e;split at e
 . cases e
 . split at e
   . rename_i q
     rw[o.g]at q;unfold has at q;have:=beq_iff_eq.mp q;rw[EI]at this;cases this
   . cases e
theorem u7{N:Type} [BEq N] [LawfulBEq N]:∀{l m:List N},l.Nodup->(∀x∈l,x∈m)->l.length<=m.length
 |[],_,_,_=>AS _
 |a::t,m,hn,hs=>by rw[Bb]at hn;have R:=hs a (.head _);have:=u7 (l:=t) (m:=m.erase a) hn.2 λx hx=>(List.mem_erase_of_ne λ(e:x=a)=>hn.1 (e▸hx)).mpr (hs x (.tail _ hx));rw[List.length_erase_of_mem R]at this;have:=List.length_pos_of_mem R;rw[Aj];omega
def Ok.free(o:Ok hs t):∃j,j<=t.mask/\t.slot j=.empty:=by
 refine E8 λno=>?_;have all:∀j,j<t.mask+1->∃i,i<t.place.size/\t.place[i]?=some j:=λj S=>by
  cases hs':t.slot j with
  |empty=>exact absurd ⟨j,⋯,hs'⟩ no
  |dummy=>exact absurd hs' (o.ir j)
  |live i=>
   have:=qS hs';exact⟨i,(AY.mp this).1,this⟩
 have key:∀n,n<=t.mask+1->n<=t.place.size:=λn U=>by
  have N:(Ah n).length<=t.place.toList.length:=by
   have R:(Ah n).Nodup:=B1;exact u7 R λj S=>by
    obtain⟨i,_,e⟩:=all j (by have:=Al.mp S;omega)
    exact F6.mpr (Array.mem_of_getElem? e)
  rw[A0,Aw]at N;exact N
 have:=key (t.mask+1) (Ac _);have:=o.fl;omega
def Ok.meets(o:Ok hs t)(at_:Nat->Int)h:∃K,K<10*turns t.mask/\t.slot (lk t h K).j=.empty:=by obtain⟨j,U,S⟩:=o.free;obtain⟨K,R,N⟩:=bD o.l h U;exact⟨K,R,by rw[show (lk t h K).j=j from N];exact S⟩
def rC(hp:p<=xs.size)i:(insertAt xs p x)[i]?=if i<p then xs[i]? else if i=p then some x else xs[i-1]?:=by
 unfold insertAt;have N:((xs.extract 0 p).push x).size=p+1:=by rw[Array.size_push,D9];omega
 rw[Array.getElem?_append,N];by_cases h1:i<p
 . rw[if_pos ⋯,if_pos h1,Array.getElem?_push,if_neg (by rw[D9];omega),Array.getElem?_extract,if_pos ⋯,Cp]
 . rw[if_neg h1]
   by_cases h2:i=p
   . rw[if_pos ⋯,if_pos h2,Array.getElem?_push,if_pos (by rw[D9];omega)]
   . rw[if_neg ⋯,if_neg h2,Array.getElem?_extract]
     by_cases h3:i-1<xs.size
     . rw[if_pos ⋯];congr 1;omega
     . rw[if_neg ⋯,FI ⋯]
def r0(hp:p<=xs.size):(insertAt xs p x).size=xs.size+1:=by unfold insertAt;rw[Array.size_append,Array.size_push,D9,D9];omega
def mE{N:Type}{xs:List N}{x}(hp:p<=xs.length)i:(xs.take p++x::xs.drop p)[i]?=if i<p then xs[i]? else if i=p then some x else xs[i-1]?:=by
 have R:(xs.take p).length=p:=by rw[Bz];omega
 by_cases h1:i<p
 . rw[if_pos h1,AW ⋯,List.getElem?_take,if_pos h1]
 . rw[if_neg h1,AX ⋯,R]
   by_cases h2:i=p
   . rw[if_pos h2,show i-p=0 by omega];rfl
   . rw[if_neg h2,show i-p=(i-p-1)+1 by omega,Fx,CP];congr 1;omega
def tL:uK xs↔∀(i j a b:Nat),i<j->xs[i]?=some a->xs[j]?=some b->a<b:=by
 constructor
 . intro h i j a b N U S
   obtain⟨l1,Y⟩:=AY.mp U;obtain⟨W,X⟩:=AY.mp S;have:=h i j N W;rw[AG,AG,U,S]at this;exact this
 . intro h i j N R
   rw[AG,AG,AN (show i<xs.size by omega),AN R]
   exact h i j _ _ N (AN _) (AN R)
theorem Ok.put(o:Ok hs t)(he:t.slot (lk t h k).j=.empty)(hj:(lk t h k).j<=t.mask)(hw:∀Y<k,∃i,t.slot (lk t h Y).j=.live i)(hf:t.place.size+1<=t.mask) :
 (t.put (lk t h k).j).2<=hs.length/\Ok (hs.take (t.put (lk t h k).j).2++h::hs.drop (t.put (lk t h k).j).2) (t.put (lk t h k).j).1:=by
 generalize hjj:(lk t h k).j=j at he hj;obtain⟨b0,b1,b2⟩:=uM o.c j;have hnot:∀i:Nat,t.place[i]?≠some j:=λi e=>by rw[w4 o.c e]at he;cases he
 have e2:(t.put j).2=below t.place j:=rfl;have e1:(t.put j).1={t with place:=insertAt t.place (below t.place j) j}:=by
  unfold BR.put;have:has t.dummies j=false:=by rw[o.g];unfold has;rw[EI];rfl
  simp only[this,Au,if_false]
 rw[e2,e1];generalize hp:below t.place j=p at b0 b1 b2;have hpl:p<=hs.length:=by rw[<-o.d];exact b0
 have hg:∀i:Nat,(insertAt t.place p j)[i]?=if i<p then t.place[i]? else if i=p then some j else t.place[i-1]?:=rC b0
 have hgd:∀{i a:Nat},t.place[i]?=some a->t.place.getD i 0=a:=λ{i a} e=>by rw[AG,e];rfl
 have lo:∀{i a:Nat},i<p->t.place[i]?=some a->a<j:=λ{i a} q e=>by have:=b1 i q;rwa [hgd e]at this
 have hi:∀{i a:Nat},p<=i->t.place[i]?=some a->j<a:=λ{i a} q e=>by have:=b2 i q (AY.mp e).1;rw[hgd e]at this;exact Cc this λz=>hnot i (z▸e)
 have W:∀{X:Nat},(∃i,t.slot X=.live i)->∃i,({t with place:=insertAt t.place p j}:BR).place[i]?=some X:=λ{X} ⟨i,e⟩=>by
  have e:=qS e;rcases Dt i p with q|q
  . exact⟨i,by show (insertAt t.place p j)[i]?=_;rw[hg,if_pos q];exact e⟩
  . exact⟨i+1,by show (insertAt t.place p j)[i+1]?=_;rw[hg,if_neg ⋯,if_neg ⋯,Nat.add_sub_cancel];exact e⟩
 have hr:uK (insertAt t.place p j):=tL.mpr λi N a b hii U R=>by
  rw[hg]at U R;by_cases q1:i<p
  . rw[if_pos q1]at U
    have la:=lo q1 U;by_cases q2:N<p
    . rw[if_pos q2]at R
      exact tL.mp o.c i N a b hii U R
    . rw[if_neg q2]at R
      by_cases q3:N=p
      . rw[if_pos q3]at R
        cases R;exact la
      . rw[if_neg q3]at R
        have:=hi (show p<=N-1 by omega) R
        omega
  . rw[if_neg q1]at U
    rw[if_neg ⋯,if_neg ⋯]at R
    by_cases q3:i=p
    . rw[if_pos q3]at U
      cases U;exact hi (show p<=N-1 by omega) R
    . rw[if_neg q3]at U
      exact tL.mp o.c (i-1) (N-1) a b ⋯ U R
 refine⟨hpl,?_,hr,o.g,λi a e=>?_,?_,o.l,λi X hh e S=>?_⟩
 . show (insertAt t.place p j).size=_
   rw[r0 b0,o.d,Aq,Aj,Bz,B0];omega
 . have e:(insertAt t.place p j)[i]?=some a:=e
   rw[hg]at e;by_cases q1:i<p
   . rw[if_pos q1]at e;exact o.le _ _ e
   . rw[if_neg q1]at e
     by_cases q3:i=p
     . rw[if_pos q3]at e;cases e;exact hj
     . rw[if_neg q3]at e;exact o.le _ _ e
 . show (insertAt t.place p j).size<=t.mask
   rw[r0 b0];exact hf
 . have e:(insertAt t.place p j)[i]?=some X:=e
   rw[hg]at e;rw[mE hpl]at S;have old:∀{i0:Nat},t.place[i0]?=some X->hs[i0]?=some hh->∃k,(lk t hh k).j=X/\∀Y<k,∃N,({t with place:=insertAt t.place p j}:BR).slot (lk t hh Y).j=.live N:=λ{i0} e S=>by obtain⟨k,k1,k2⟩:=o.m i0 X hh e S;refine⟨k,k1,λY Z=>?_⟩;obtain⟨N,z⟩:=W (k2 Y Z);exact⟨N,w4 hr z⟩
   by_cases q1:i<p
   . rw[if_pos q1]at e S;exact old e S
   . rw[if_neg q1]at e S
     by_cases q3:i=p
     . rw[if_pos q3]at e S
       cases e;cases S;refine⟨k,hjj,λY Z=>?_⟩;obtain⟨N,z⟩:=W (hw Y Z);exact⟨N,w4 hr z⟩
     . rw[if_neg q3]at e S;exact old e S
theorem d9:∀k,k<=runEnd m y.1-y.1->wV m k (atP m y)={atP m y with j:=y.1+k,more:=runEnd m y.1-y.1-k}
 |0,_=>rfl
 |k+1,h=>by
  rw[wb,d9 k ⋯]
  show adv m _=_;unfold adv advance;rw[if_pos (show runEnd m y.1-y.1-k > 0 by omega)]
  rfl
noncomputable def h0(m:Nat)(h:Int):Nat × Nat:=(bits h%(m+1),bits h)
def d7:(h0 m h).1<=m:=FC (He _ (Fj m))
def ZW(S:wN m=true)h(R:j<=m):∃L,L<turns m/\(lpn m L (h0 m h)).1=j:=by
 have N:(lpn m 13 (h0 m h)).2=0:=by rw[oj];exact Nat.div_eq_of_lt (AL (jy h) (by decide))
 obtain⟨n,n1,n2⟩:=mC S (kP (x:=h0 m h) d7 13) R;exact⟨13+n,by unfold turns;omega,by rw[oh N,n2]⟩
def Occ(ow:Array (Option Nat))(j:Nat):Prop:=∃a,ow[j]?=some (some a)
def Fre(ow:Array (Option Nat))(j:Nat):Prop:=ow[j]?=some none
def oT:(ow.getD j (some 0)).isNone=true↔Fre ow j:=by
 unfold Fre;rw[AG];cases ow[j]? with
 |none=>exact Iff.intro (λh=>by cases h) (λh=>by cases h)
 |some x=>cases x<;>simp
def kW(N:j<ow.size):Fre ow j\/Occ ow j:=by
 unfold Fre Occ;rw[AN N];cases ow[j] with
 |none=>exact .inl rfl
 |some a=>exact .inr ⟨a,rfl⟩
def uZ(h:i<=m):runEnd m i<=m/\i<=runEnd m i:=by unfold runEnd;split<;>omega
abbrev lkm(m:Nat)(h:Int)(k:Nat):Probe:=wV m k (xW m h)
theorem iL(hs:ow.size=m+1):∀N L K,lkm m h K=atP m (lpn m L (h0 m h))->(∀R<K,Occ ow (lkm m h R).j)->(∃U,L<=U/\U<L+N/\Fre ow (lpn m U (h0 m h)).1) ->
 ∃k,layClean.free m ow N (lpn m L (h0 m h)).1 (lpn m L (h0 m h)).2=some (lkm m h k).j/\Fre ow (lkm m h k).j/\∀R<k,Occ ow (lkm m h R).j
 |0,L,K,_,_,⟨U,q1,q2,_⟩=>by omega
 |N+1,L,K,hK,hocc,⟨U,q1,q2,q3⟩=>by
  have X:=kP (m:=m) (x:=h0 m h) d7 L;obtain⟨r1,r2⟩:=uZ X;have S:∀k,k<=runEnd m (lpn m L (h0 m h)).1-(lpn m L (h0 m h)).1->(lkm m h (K+k)).j=(lpn m L (h0 m h)).1+k:=λk hk=>by show (wV m (K+k) (xW m h)).j=_;rw[wb,show wV m K (xW m h)=_ from hK,d9 k hk]
  unfold layClean.free;cases hf:(Ah (runEnd m (lpn m L (h0 m h)).1+1-(lpn m L (h0 m h)).1)).find? λk=>(ow.getD ((lpn m L (h0 m h)).1+k) (some 0)).isNone with
  |some k=>
   obtain⟨f1,f2,f3⟩:=List.find?_range_eq_some.mp hf;have f2:=Al.mp f2;refine⟨K+k,by rw[S k ⋯],by rw[S k ⋯];exact oT.mp f1,λR Y=>?_⟩
   rcases Dt R K with q|q
   . exact hocc R q
   . obtain⟨d,rfl⟩:∃d,R=K+d:=⟨R-K,⋯⟩
     rw[S d ⋯]
     have:=f3 d ⋯
     rcases kW (ow:=ow) (j:=(lpn m L (h0 m h)).1+d) ⋯ with z|z
     . rw[oT.mpr z]at this;cases this
     . exact z
  |none=>
   simp only[];have all:=List.find?_eq_none.mp hf;have W:∀k,k<=runEnd m (lpn m L (h0 m h)).1-(lpn m L (h0 m h)).1->Occ ow ((lpn m L (h0 m h)).1+k):=λk hk=>by
    rcases kW (ow:=ow) (j:=(lpn m L (h0 m h)).1+k) ⋯ with z|z
    . exact absurd (oT.mpr z) (all k (Al.mpr ⋯))
    . exact z
   have Z:L≠U:=λe=>by obtain⟨a,z⟩:=W 0 (AS _);rw[<-e]at q3;unfold Fre at q3;rw[Fh,q3]at z;cases z
   refine iL hs N (L+1) (K+(runEnd m (lpn m L (h0 m h)).1-(lpn m L (h0 m h)).1+1)) ?_ (λR Y=>?_) ⟨U,⋯,⋯,q3⟩
   . show wV m _ (xW m h)=_
     rw[wb,show wV m K (xW m h)=_ from hK];exact nH _ (atP m (lpn m L (h0 m h))) rfl rfl
   . rcases Dt R K with q|q
     . exact hocc R q
     . obtain⟨d,rfl⟩:∃d,R=K+d:=⟨R-K,⋯⟩
       rw[S d ⋯]
       exact W d ⋯
structure Lc(m:Nat)(hs:List Int)(ow:Array (Option Nat)):Prop where
 n:ow.size=m+1
 g:∀a:Nat,a<hs.length->∃j:Nat,ow[j]?=some (some a)
 d:∀(j j' a:Nat),ow[j]?=some (some a)->ow[j']?=some (some a)->j=j'
 f:∀(j a:Nat),ow[j]?=some (some a)->a<hs.length
 l:∀(j a:Nat) (h:Int),ow[j]?=some (some a)->hs[a]?=some h->∃k,(lkm m h k).j=j/\∀k'<k,Occ ow (lkm m h k').j
def Lc.start m:Lc m [] (Gj (m+1) none):=by
 have no:∀j a:Nat,(Gj (m+1) (none:Option Nat))[j]?≠some (some a):=λj a e=>by
  rw[Array.getElem?_replicate]at e;split at e
  . cases e
  . cases e
 exact⟨Array.size_replicate,λa h=>absurd h (C4 _),λj N a e=>absurd e (no _ _),λj a e=>absurd e (no _ _),λj a h e=>absurd e (no _ _)⟩
def Lc.f7(c:Lc m hs ow)(W:hs.length<=m):∃j:Nat,j<=m/\Fre ow j:=by
 refine E8 λno=>?_;have all:∀j:Nat,j<m+1->∃a,ow[j]?=some (some a):=λj N=>by
  rcases kW (ow:=ow) (j:=j) (by rw[c.n];exact N) with z|z
  . exact absurd ⟨j,⋯,z⟩ no
  . exact z
 have hw:∀j:Nat,j<m+1->ow[j]?=some (some ((ow.getD j none).getD 0)):=λj N=>by obtain⟨a,e⟩:=all j N;rw[AG,e];rfl
 have R:((Ah (m+1)).map λj=>(ow.getD j none).getD 0).Nodup:=by rw[ET,Cj];refine Fp (λ{a b} ha hb hab e=>?_) B1;have S:=hw a (Al.mp ha);have U:=hw b (Al.mp hb);rw[e]at S;exact hab (c.d _ _ _ S U)
 have:=u7 (m:=Ah hs.length) R λx hx=>by obtain⟨j,N,rfl⟩:=AO.mp hx;exact Al.mpr (c.f _ _ (hw j (Al.mp N)))
 rw[Aa,A0,A0]at this;omega
def Lc.step(c:Lc m hs ow)(hf:wN m=true)(hn:hs.length<=m)h :
 ∃j,layClean.free m ow (turns m) (bits h%(m+1)) (bits h)=some j/\Lc m (hs++[h]) (ow.setIfInBounds j (some hs.length)):=by
 obtain⟨j0,q1,q2⟩:=c.f7 hn;obtain⟨L,l1,l2⟩:=ZW hf h q1;obtain⟨k,f1,f2,f3⟩:=iL (ow:=ow) (h:=h) c.n (turns m) 0 0 rfl (λX R=>⋯) ⟨L,AS _,⋯,by rw[l2];exact q2⟩
 generalize Z:(lkm m h k).j=j at f1 f2;have hj:j<ow.size:=(AY.mp f2).1;have W:∀i:Nat,(ow.setIfInBounds j (some hs.length))[i]?=if j=i then some (some hs.length) else ow[i]?:=λi=>by
  rw[Array.getElem?_setIfInBounds];split
  . first|rfl|rw[if_pos hj]
  . rfl
 have U:∀{i:Nat},Occ ow i->Occ (ow.setIfInBounds j (some hs.length)) i:=λ{i} ⟨a,e⟩=>by
  by_cases q:j=i
  . exact⟨_,by rw[W,if_pos q]⟩
  . exact⟨a,by rw[W,if_neg q];exact e⟩
 have N:∀{i a:Nat},(ow.setIfInBounds j (some hs.length))[i]?=some (some a)->(j=i/\a=hs.length)\/(j≠i/\ow[i]?=some (some a)):=λ{i a} e=>by
  rw[W]at e;by_cases q:j=i
  . rw[if_pos q]at e
    exact .inl ⟨q,by cases e;rfl⟩
  . rw[if_neg q]at e
    exact .inr ⟨q,e⟩
 refine⟨j,f1,by rw[C6];exact c.n,λa ha=>?_,λi i' a e S=>?_,λi a e=>?_,λi a hh e Y=>?_⟩
 . rw[Aq,BE]at ha
   by_cases q:a=hs.length
   . exact⟨j,by rw[W,if_pos rfl,q]⟩
   . obtain⟨i,e⟩:=c.g a ⋯
     exact⟨i,by rw[W,if_neg λz=>by subst z;unfold Fre at f2;rw[f2]at e;cases e];exact e⟩
 . rcases N e with⟨rfl,rfl⟩|⟨_,e⟩
   . rcases N S with⟨rfl,_⟩|⟨_,S⟩
     . rfl
     . have:=c.f _ _ S;omega
   . rcases N S with⟨rfl,rfl⟩|⟨_,S⟩
     . have:=c.f _ _ e;omega
     . exact c.d _ _ _ e S
 . rw[Aq,BE]
   rcases N e with⟨_,rfl⟩|⟨_,e⟩
   . omega
   . have:=c.f _ _ e;omega
 . rcases N e with⟨rfl,rfl⟩|⟨_,e⟩
   . rw[AX (Ac _),Fi]at Y
     cases Y;exact⟨k,Z,λX R=>U (f3 X R)⟩
   . rw[AW (c.f _ _ e)]at Y
     obtain⟨k1,p1,p2⟩:=c.l i a hh e Y;exact⟨k1,p1,λX R=>U (p2 X R)⟩
theorem ni(R:wN m=true):∀rest hs ow,Lc m hs ow->hs.length+rest.length<=m ->
 ∃N,rest.foldl (init:=some (ow,hs.length)) (λacc h=>do
  let (owner,k) <-acc;let j <-layClean.free m owner (turns m) (bits h%(m+1)) (bits h)
  pure (owner.setIfInBounds j (some k),k+1))=some (N,(hs++rest).length)/\Lc m (hs++rest) N
 |[],hs,ow,c,_=>⟨ow,by rw[AR];rfl,by rw[AR];exact c⟩
 |h::rest,hs,ow,c,hn=>by
  rw[Aj]at hn;obtain⟨j,W,X⟩:=c.step R ⋯ h
  obtain⟨N,S,U⟩:=ni R rest (hs++[h]) _ X (by rw[Aq,BE];omega)
  refine⟨N,?_,by rw[Ak]at U;exact U⟩
  rw[HM];rw[Aq,BE,Ak]at S;show EA _ (Option.bind (layClean.free m ow (turns m) (bits h%(m+1)) (bits h)) λj=>some (ow.setIfInBounds j (some hs.length),hs.length+1)) rest=_;rw[W];exact S
def mL(N:wN m=true)(R:hs.length<=m):∃ow,layClean m hs.toArray=some ow/\Lc m hs ow:=by
 obtain⟨ow,e,c⟩:=ni N hs [] _ (Lc.start m) (by rw[BW];omega)
 refine⟨ow,?_,c⟩;unfold layClean;rw[List.foldl_toArray];rw[show (some (Gj (m+1) (none:Option Nat),0))=some (Gj (m+1) none,([]:List Int).length) from rfl,e];rfl
noncomputable def pairs(m:Nat)(ow:Array (Option Nat)):List (Nat × Nat):=(Ah (m+1)).filterMap λj=>(ow.getD j none).map (j,·)
def fG(hs:ow.size=m+1):(j,a)∈pairs m ow↔ow[j]?=some (some a):=by
 unfold pairs;rw[D3];constructor
 . rintro ⟨U,X,R⟩
   rw[AG]at R;obtain⟨Y,N,S⟩:=AJ.mp R;cases S;cases h3:ow[j]? with
   |none=>rw[h3]at N;cases N
   |some o=>rw[h3]at N;rw[show o=some a from N]
 . intro h
   have W:=(AY.mp h).1;exact⟨j,Al.mpr ⋯,by rw[AG,h];rfl⟩
def km:(pairs m ow).Pairwise λx y=>x.1<y.1:=by unfold pairs;rw[List.pairwise_filterMap];refine List.Pairwise.imp (λ{a b} hab x hx y hy=>?_) List.pairwise_lt_range;obtain⟨_,_,rfl⟩:=AJ.mp hx;obtain⟨_,_,rfl⟩:=AJ.mp hy;exact hab
def YL(hf:wN m=true){hs:List Int}(hn:hs.length<=m)fg mv ld pl:∃t R,laid m fg mv ld pl hs.toArray=some (t,R)/\t.mask=m/\t.finger=fg/\t.moves=mv/\t.led=ld/\t.plain=pl /\
 R.toList.Perm (Ah hs.length)/\Ok (R.toList.map λa=>hs.getD a 0) t:=by
 obtain⟨ow,e,c⟩:=mL hf hn;have hp:=km (m:=m) (ow:=ow);have N:=λ(j a:Nat)=>fG (m:=m) (ow:=ow) c.n (j:=j) (a:=a);refine⟨{mask:=m,place:=((pairs m ow).map (·.1)).toArray,dummies:=#[],finger:=fg,led:=ld,moves:=mv,plain:=pl},((pairs m ow).map (·.2)).toArray,?_,rfl,rfl,rfl,rfl,rfl,?_,?_⟩
 . unfold laid
   rw[e];rfl
 . rw[Gr]
   refine(CK ?_ B1).mpr λa=>?_
   . rw[ET,Cj]
     refine Fp (λ{x y} hx hy hxy e=>?_) hp;have W:=(N x.1 x.2).mp hx;have e2:=(N y.1 y.2).mp hy;rw[e]at W;have:=c.d _ _ _ W e2;omega
   . rw[AO,Al]
     constructor
     . rintro ⟨x,hx,rfl⟩
       exact c.f _ _ ((N x.1 x.2).mp hx)
     . intro S
       obtain⟨j,e⟩:=c.g a S;exact⟨(j,a),(N j a).mpr e,rfl⟩
 . rw[Gr]
   generalize hP:pairs m ow=P at hp N;have U:∀(i j:Nat),((P.map (·.1)).toArray)[i]?=some j->∃a,P[i]?=some (j,a):=λi j e=>by rw[Et,Am]at e;obtain⟨x,W,rfl⟩:=AJ.mp e;exact⟨x.2,W⟩
   have hr:uK (P.map (·.1)).toArray:=tL.mpr λi j a b hij S hb=>by obtain⟨x,S⟩:=U i a S;obtain⟨y,hb⟩:=U j b hb;obtain⟨l1,g1⟩:=As.mp S;obtain⟨l2,g2⟩:=As.mp hb;have:=By.mp hp i j l1 l2 hij;rw[g1,g2]at this;exact this
   have own:∀{i j a:Nat},P[i]?=some (j,a)->ow[j]?=some (some a):=λ{i j a} e=>(N j a).mp (AF e);have Y:P.length<=m:=by
    have Z:(P.map (·.2)).Nodup:=by rw[ET,Cj];refine Fp (λ{x y} hx hy hxy e=>?_) hp;have W:=(N x.1 x.2).mp hx;have e2:=(N y.1 y.2).mp hy;rw[e]at W;have:=c.d _ _ _ W e2;omega
    have:=u7 (m:=Ah hs.length) Z λa S=>by obtain⟨x,hx,rfl⟩:=AO.mp S;exact Al.mpr (c.f _ _ ((N x.1 x.2).mp hx))
    rw[Aa,A0]at this;omega
   refine⟨?_,hr,rfl,λi j e=>?_,?_,hf,λi j h e X=>?_⟩
   . show ((P.map (·.1)).toArray).size=_
     rw[Ae,Aa,Aa,Aa]
   . obtain⟨a,e⟩:=U i j e
     have:=(AY.mp (own e)).1;have:=c.n;show j<=m;omega
   . show ((P.map (·.1)).toArray).size<=m
     rw[Ae,Aa];exact Y
   . obtain⟨a,e⟩:=U i j e
     rw[Am,Am,e]at X;have X:hs.getD a 0=h:=AK X;have S:=c.f _ _ (own e);obtain⟨k,k1,k2⟩:=c.l j a h (own e) (by rw[Ab,dS S]at X;rw[dS S];exact congrArg some X)
     refine⟨k,k1,λk' hk'=>?_⟩;obtain⟨a',z⟩:=k2 k' hk';obtain⟨i',hi'⟩:=DN ((N _ a').mpr z);exact⟨i',w4 hr (by show ((P.map (·.1)).toArray)[i']?=_;rw[Et,Am,hi'];rfl)⟩
structure xY(prog:Program)(w:World)(K:Type) [DecidableEq K] extends HeapKind prog w K where
 f:∀{A:Around} {E:Value->Shared->Prop} {s:Shared} {k:K} {a:Addr} {Q:Bool->Shared->Prop},is s.heap k a->Q false s->wpAny (model prog w) A (Ej 8 (.ref a)) Q E s
 g:∀{A:Around} {E:Value->Shared->Prop} {s:Shared} {k:K} {a:Addr} {Q:Bool->Shared->Prop},is s.heap k a->Q true s->wpAny (model prog w) A (GD 8 (.ref a)) Q E s
 e:∀{h h':Heap} {k:K} {a d:Addr} {o:Obj} {es ep t},is h k a->h.get? d=some o->o.data=.set es ep t->CG d h h'->is h' k a
 i:∀{h h':Heap} {k:K} {a:Addr},is h k a->(∀b o,h.get? b=some o->h'.get? b=some o)->is h' k a
section
variable {prog:Program}{w:World}{K:Type} [DecidableEq K] (κ:xY prog w K)
def xA(h:Heap)(ks:List K)(es:Array (Int × Value)):Prop:=es.size=ks.length/\∀(i:Nat) (k:K),ks[i]?=some k->∃b,es[i]?=some (κ.hash k,.ref b)/\κ.is h k b
variable {κ}
variable {A:Around}{E:Value->Shared->Prop}{s:Shared}
def xA.get(x:xA κ h ks es){i:Nat}(he:es[i]?=some e):∃k b,ks[i]?=some k/\e=(κ.hash k,.ref b)/\κ.is h k b:=by
 have hi:=(AY.mp he).1;have hk:i<ks.length:=by rw[<-x.1];exact hi
 obtain⟨b,N,R⟩:=x.2 i _ (dS hk);rw[he]at N;exact⟨_,b,dS hk,AK N,R⟩
def bL(hk:κ.is s.heap k x):∀ys {Q},(∀y∈ys,∃b S,y=.ref b/\κ.is s.heap S b)->Q false s->wpAny (model prog w) A (searchCouldBeSeen (.ref x) ys) Q E s:=by
 intro ys Q U Z;unfold searchCouldBeSeen;refine dm ?_;refine Hu _ (λrest r s'=>r.1=none/\s'=s/\∀y∈rest,∃b S,y=.ref b/\κ.is s.heap S b) _ ?_ ?_ _ _ ⟨rfl,rfl,U⟩
 . rintro v rest r s' ⟨W,rfl,R⟩
   obtain⟨b,S,rfl,X⟩:=R v AE;have N:∀y∈rest,∃b S,y=.ref b/\κ.is s'.heap S b:=λy Y=>R y (Ay _ Y);dsimp only;split
   . exact zO ⟨rfl,rfl,N⟩
   . refine dm (κ.quiet hk ?_)
     simp only[EU,Au,if_false];refine dm (κ.quiet X ?_);simp only[EU,Au,if_false];refine dm (κ.f hk ?_);simp only[Au,if_false];refine dm (κ.f X ?_);simp only[Au,if_false];exact zO ⟨rfl,rfl,N⟩
 . rintro ⟨r1,r2⟩ s' ⟨W,rfl,_⟩
   simp only at W;subst W;exact zO Z
def U0(ks:List K)(t:BR)(h:Int)(k:K)(k0:Nat):Prop:=∀i:Nat,ks[i]?=some k->∃ix,k0<=ix/\t.slot (lk t h ix).j=.live i/\∀N<ix,∃R,t.slot (lk t h N).j=.live R
theorem sU(ho:s.heap.get? a=some o)(hd:o.data=.set es ep t)(hf:t.fits es.size=true)(Z:xA κ s.heap ks es)(hok:Ok (ks.map κ.hash) t)(hg:t.gaveWay=false)(hr:κ.room A)(hk:κ.is s.heap k x)
  (hK:K0<10*turns t.mask) (he:t.slot (lk t (κ.hash k) K0).j=.empty):∀S k0 st,k0<=K0->K0-k0<S->st.getD (t.probeStart (κ.hash k))=lk t (κ.hash k) k0->U0 ks t (κ.hash k) k k0->(∀N<k0,∃i,t.slot (lk t (κ.hash k) N).j=.live i) ->
 ∀{Q},(k∈ks->Q (.there none) s)->(k ∉ ks->∀kk,t.slot (lk t (κ.hash k) kk).j=.empty->(∀N<kk,∃i,t.slot (lk t (κ.hash k) N).j=.live i)->Q (.free (lk t (κ.hash k) kk).j false) s) ->
  wpAny (model prog w) A (Iz a (.ref x) (κ.hash k) true S st) Q E s
 |0,k0,st,_,h2,_,_,_,_,_,_=>by omega
 |S+1,k0,st,h1,h2,hst,hfr,hlv,Q,q1,q2=>by
  have R:∀{i:Nat} {W:K},ks[i]?=some W->(es[i]?.map (·.1)).getD 0=κ.hash W:=λ{i W} e=>by obtain⟨b,e1,_⟩:=Z.2 i W e;rw[e1];rfl
  obtain⟨kk,m1,m2,m3,m4⟩:=mD (t:=t) (at_:=λi=>(es[i]?.map (·.1)).getD 0) (h:=κ.hash k) hok.ir (10*turns t.mask) k0 K0 h1 ⋯ he
  have hlv':∀N<kk,∃i,t.slot (lk t (κ.hash k) N).j=.live i:=λN hk'=>by
   rcases Dt N k0 with q|q
   . exact hlv N q
   . obtain⟨i,z,_⟩:=m3 N q hk'
     exact⟨i,z⟩
  unfold Iz;refine dm (B4 ho hd hf ?_);dsimp only;rw[hg,hst];simp only[Au,if_false];rcases m4 with⟨z,hp⟩|⟨i,z,hi,hp⟩
  . have U:∀f:Nat->Int,f=(λi=>(es[i]?.map (·.1)).getD 0)->t.probe f (κ.hash k) (lk t (κ.hash k) k0)=some (.empty (lk t (κ.hash k) kk).j none):=λf e=>by rw[e];exact hp
    rw[U]
    rotate_left
    . rfl
    dsimp only;refine zO (q2 (λhm=>?_) kk z hlv');obtain⟨i0,e0⟩:=DN hm;obtain⟨ix,x1,x2,x3⟩:=hfr i0 e0;have hlt:ix<kk:=by
     rcases Ei ix kk with q|q|q
     . exact q
     . rw[q,z]at x2;cases x2
     . obtain⟨i',y⟩:=x3 kk q
       rw[z]at y;cases y
    obtain⟨i',y1,y2⟩:=m3 ix x1 hlt;rw[x2]at y1;cases y1;exact y2 (R e0)
  . have U:∀f:Nat->Int,f=(λi=>(es[i]?.map (·.1)).getD 0)->t.probe f (κ.hash k) (lk t (κ.hash k) k0)=some (.candidate (lk t (κ.hash k) kk).j i (lk t (κ.hash k) (kk+1))):=λf e=>by rw[e];exact hp
    rw[U]
    rotate_left
    . rfl
    dsimp only;have hpl:=qS z;have hie:i<es.size:=by have:=(AY.mp hpl).1;simp only[BR.fits,ub,beq_iff_eq]at hf;omega
    obtain⟨W,b,e1,e2,hb⟩:=Z.get (AN hie);have X:∀y∈((es.filter (·.1 == κ.hash k)).toList.map (·.2)),∃b N,y=Bp b/\κ.is s.heap N b:=λy hy=>by obtain⟨e,he',rfl⟩:=AO.mp hy;have:=(Array.mem_filter.mp (F6.mp he')).1;obtain⟨j,ej⟩:=Array.getElem?_of_mem this;obtain⟨N,b',_,rfl,hb'⟩:=Z.get ej;exact⟨b',N,rfl,hb'⟩
    have g1:W=k->Q (.there none) s:=λe=>by subst e;exact q1 (AF e1)
    have g2:W≠k->wpAny (model prog w) A (Iz a (.ref x) (κ.hash k) true S (some (lk t (κ.hash k) (kk+1)))) Q E s:=λhne=>by
     have hkK:kk≠K0:=λe=>by rw[e,he]at z;cases z
     refine sU ho hd hf Z hok hg hr hk hK he S (kk+1) (some (lk t (κ.hash k) (kk+1))) ⋯ ⋯ rfl (λi0 e0=>?_) (λN hk'=>?_) q1 q2
     . obtain⟨ix,x1,x2,x3⟩:=hfr i0 e0
       refine⟨ix,?_,x2,x3⟩;rcases Ei ix kk with q|q|q
       . obtain⟨i',y1,y2⟩:=m3 ix x1 q
         rw[x2]at y1;cases y1;exact absurd (R e0) y2
       . rw[q,z]at x2
         cases x2;rw[e0]at e1;exact absurd (AK e1).symm hne
       . exact q
     . rcases Dt N kk with q|q
       . exact hlv' N q
       . rw[show N=kk by omega];exact⟨i,z⟩
    have Y:es[i]?=some (κ.hash W,Bp b):=by rw[AN hie,e2]
    have hsm:t.sameMemory t.moves t.mask=some true:=by unfold sameMemory;rw[if_pos (beq_self_eq_true _)]
    have hss:isSame (.ref b) (.ref b)=pure true:=by unfold isSame;exact if_pos (beq_self_eq_true b)
    split
    . refine dm (bL hk _ X ?_)
      simp only[Au,if_false];rw[Y];dsimp only;refine dm (A6 (κ.eqBool hr hb hk ?_));refine dm (B4 ho hd hf ?_);dsimp only;by_cases hkk:W=k
      . rw[decide_eq_true hkk]
        exact zO (g1 hkk)
      . rw[decide_eq_false hkk]
        simp only[Ie,Au,if_false];rw[hsm];dsimp only;rw[if_pos rfl,z];dsimp only;rw[Y];dsimp only;refine dm (Ee hss ?_);refine dm (zO ?_);exact g2 hkk
    . rw[Y]
      dsimp only;refine dm (A6 (κ.eqBool hr hb hk ?_));refine dm (B4 ho hd hf ?_);dsimp only;by_cases hkk:W=k
      . rw[decide_eq_true hkk]
        exact zO (g1 hkk)
      . rw[decide_eq_false hkk]
        simp only[Ie,Au,if_false];rw[hsm];dsimp only;rw[if_pos rfl,z];dsimp only;rw[Y];dsimp only;refine dm (Ee hss ?_);refine dm (zO ?_);exact g2 hkk
end
noncomputable def maskOf(n:Nat):Nat:=if n<5 then 7 else if n<19 then 31 else if n<77 then 127 else 511
def pR(h:n<=306):n*5<maskOf n*3:=by
 unfold maskOf;split
 . omega
 . split
   . omega
   . split<;>omega
def fE n:wN (maskOf n)=true:=by
 unfold maskOf;split
 . exact Xh
 . split
   . exact Wj
   . split
     . exact Zq
     . exact Zr
def bH n:maskOf n%2=1:=by
 unfold maskOf;split
 . rfl
 . split
   . rfl
   . split<;>rfl
def iZ n:maskOf n<=511:=by
 unfold maskOf;split
 . omega
 . split
   . omega
   . split<;>omega
def fF(h:n+1<=306):((n+1)*5<maskOf n*3/\maskOf (n+1)=maskOf n)\/((n+1)*5 ≥ maskOf n*3/\sizeAbove (grown (n+1))-1=maskOf (n+1)/\sizeAbove (grown (n+1))<=512):=by
 by_cases h5:n=4
 . subst h5;exact .inr ⟨by decide,by decide,by decide⟩
 by_cases h19:n=18
 . subst h19;exact .inr ⟨by decide,by decide,by decide⟩
 by_cases h77:n=76
 . subst h77;exact .inr ⟨by decide,by decide,by decide⟩
 refine .inl ⟨?_,?_⟩
 . unfold maskOf
   split
   . omega
   . split
     . omega
     . split<;>omega
 . unfold maskOf
   by_cases a:n<5
   . rw[if_pos a,if_pos ⋯]
   . rw[if_neg a,if_neg ⋯]
     by_cases b:n<19
     . rw[if_pos b,if_pos ⋯]
     . rw[if_neg b,if_neg ⋯]
       by_cases c:n<77
       . rw[if_pos c,if_pos ⋯]
       . rw[if_neg c,if_neg ⋯]
section
variable {prog:Program}{w:World}{K:Type} [DecidableEq K] (κ:xY prog w K)
def yu(N:Bool)(h:Heap)(a:Addr)(ks:List K):Prop:=
 ∃o es ep t,h.get? a=some o/\o.ExactSet/\o.data=.set es ep t/\xA κ h ks es/\ks.Nodup/\Ok (ks.map κ.hash) t/\t.plain=true/\t.led=N/\t.mask=maskOf ks.length/\ks.length<=306
variable {κ}
variable {A:Around}{E:Value->Shared->Prop}{s:Shared}
def fits_of(R:xA κ h ks es)(N:Ok (ks.map κ.hash) t):t.fits es.size=true:=by have S:=N.d;have U:=N.fl;rw[Aa]at S;simp only[BR.fits,BR.fill,N.g,ub,beq_iff_eq,decide_eq_true_eq];exact⟨by rw[S,R.1],by show t.place.size+0<=t.mask;omega⟩
def xA.keeps{N ep0 t0}(x:xA κ h ks es)(R:h.get? a=some o)(hd:o.data=.set N ep0 t0)(hs:CG a h h'):xA κ h' ks es:=⟨x.1,λi k e=>by obtain⟨b,U,S⟩:=x.2 i k e;exact⟨b,U,κ.e S R hd hs⟩⟩
def xA.put(x:xA κ h ks es)(hp:p<=ks.length)(S:κ.is h k b):xA κ h (ks.take p++k::ks.drop p) (insertAt es p (κ.hash k,.ref b)):=by
 have N:p<=es.size:=by rw[x.1];exact hp
 refine⟨?_,λi R e=>?_⟩
 . rw[r0 N,x.1,Aq,Aj,Bz,B0];omega
 . rw[mE hp]at e
   rw[rC N];by_cases h1:i<p
   . rw[if_pos h1]at e ⊢;exact x.2 i R e
   . rw[if_neg h1]at e ⊢
     by_cases h2:i=p
     . rw[if_pos h2]at e ⊢
       cases e;exact⟨b,rfl,S⟩
     . rw[if_neg h2]at e ⊢;exact x.2 _ R e
def aH{ks:List K}{p:Nat}{k:K}:(ks.take p++k::ks.drop p).Perm (k::ks):=by refine Hs.trans ?_;rw[A7]
noncomputable def X1(es:Array (Int × Value))(laid:Option (BR × Array Nat)):Sem (Array (Int × Value) × BR):=do
 let some (t,order):=laid|unsupported "internal:set-table-without-room"
 let N:=order.filterMap (es[·]?)
 if N.size != es.size then unsupported "internal:set-table-lost-an-element"
 pure (N,t)
theorem tp{es:Array (Int × Value)}:∀{l:List Nat},(∀a∈l,a<es.size)->l.filterMap (λa=>es[a]?)=l.map λa=>es.getD a (0,.none)
 |[],_=>rfl
 |a::l,h=>by have N:=h a (.head _);rw[Ba,AN N];simp only[];rw[tp λb R=>h b (.tail _ R),AB,AG,AN N];rfl
def Sy{a:Addr}{o:Obj}{es:Array (Int × Value)}{ep:Nat}{t:BR}{ks:List K}{k0:K}{R:Nat}(ho:s.heap.get? a=some o)(hex:o.ExactSet)(hd:o.data=.set es ep t)(S:xA κ s.heap ks es)(hnd:ks.Nodup)(hok:Ok (ks.map κ.hash) t)(hpl:t.plain=true)
 (hm:sizeAbove R-1=maskOf ks.length) (hm2:sizeAbove R<=512) (hn:ks.length<=306) {Q:Unit->Shared->Prop} (h:∀h' Y,CG a s.heap h'->yu κ t.led h' a Y->Y.Perm ks->Q () {s with heap:=h'}):wpAny (model prog w) A (setRelay a R) Q E s:=by
 have hf:=fits_of S hok;have hr:=pR hn;have hle:=iZ ks.length;have hmp:es.map (·.1)=(ks.map κ.hash).toArray:=by
  apply Array.ext_getElem?;intro i;rw[Array.getElem?_map,show ((ks.map κ.hash).toArray)[i]?=(ks.map κ.hash)[i]? from by simp,Am]
  cases e:ks[i]? with
  |none=>
   rw[FI (by rw[S.1];exact CU.mp e)];rfl
  |some k=>
   obtain⟨b,e1,_⟩:=S.2 i k e;rw[e1];rfl
 obtain⟨t',N,l1,l2,l3,l4,l5,l6,l7,l8⟩:=YL (fE ks.length) (hs:=ks.map κ.hash) (by rw[Aa];omega) t.finger (t.movedTo (maskOf ks.length)) t.led t.plain
 rw[Aa]at l7;have X:∀x∈N.toList,x<ks.length:=λx hx=>Al.mp (l7.mem_iff.mp hx);have hol:N.toList.length=ks.length:=by rw[l7.length_eq,A0]
 have hes:(N.filterMap (es[·]?)).toList=N.toList.map λx=>es.getD x (0,.none):=by rw[Array.toList_filterMap];exact tp λx hx=>by rw[S.1];exact X x hx
 have hks:(N.toList.map λx=>ks[x]?.getD k0).map κ.hash=N.toList.map λx=>(ks.map κ.hash).getD x 0:=by rw[BI];refine CD λx hx=>?_;have:=X x hx;rw[Ab,Am,dS this];show κ.hash (ks[x]?.getD k0)=_;rw[dS this];rfl
 have U:(N.toList.map λx=>ks[x]?.getD k0).Perm ks:=by
  refine(l7.map _).trans (HQ.of_eq ?_);apply G9;intro i;rw[Am];by_cases hi:i<ks.length
  . rw[CC hi,dS hi]
    show some (ks[i]?.getD k0)=_;rw[dS hi];rfl
  . rw[CQ (by omega:ks.length<=i),CQ (by rw[A0];omega)];rfl
 have W:xA κ s.heap (N.toList.map λx=>ks[x]?.getD k0) (N.filterMap (es[·]?)):=by
  refine⟨by rw[<-Aw,hes,Aa,Aa],λi k e=>?_⟩
  rw[Am]at e;obtain⟨x,e1,rfl⟩:=AJ.mp e;have hx:=X x (AF e1);obtain⟨b,q1,q2⟩:=S.2 x _ (dS hx);rw[dS hx];refine⟨b,?_,q2⟩;rw[<-Bj,hes,Am,e1];show some (es.getD x (0,.none))=_;rw[AG,q1];rfl
 unfold setRelay;refine dm (B4 ho hd hf ?_);dsimp only;rw[if_neg (by rw[A1];omega)]
 refine dm ?_;show wpAny (model prog w) A (X1 es (t.relaid (es.map (·.1)) R)) _ E s
 have hrl:t.relaid (es.map (·.1)) R=some (t',N):=by unfold BR.relaid;rw[hm,hmp];exact l1
 unfold X1;rw[hrl];dsimp only;have Z:(N.filterMap (es[·]?)).size=es.size:=by rw[W.1,Aa,hol,S.1]
 rw[if_neg (by rw[Z];simp)]
 refine zO ?_;refine wpAny_storeSet_of ho hd (h _ _ (Dh s.heap a _) ?_ U) (by rw[Z,S.1,A1];omega)
 have hg:(s.heap.update a (Gk (N.filterMap (es[·]?)) t')).get? a=some {o with data:=.set (N.filterMap (es[·]?)) (ep+1) t'}:=by
  have:=Cm (Gk (N.filterMap (es[·]?)) t') ho (by rw[IE _ _ hd];rfl)
  rw[IE _ _ hd]at this;exact this
 refine⟨_,_,_,t',hg,hex,rfl,W.keeps ho hd (Dh s.heap a _),U.nodup_iff.mpr hnd,by rw[hks];exact l8,by rw[l6];exact hpl,l5,by rw[l2,U.length_eq],by rw[U.length_eq];exact hn⟩
end
def WL(S:p.j+p.more<=m)(R:p.i<=m):(adv m p).j+(adv m p).more<=m/\(adv m p).i<=m:=by
 unfold adv advance;split
 . refine⟨?_,R⟩
   show p.j+1+(p.more-1)<=m;omega
 . have N:(leap m p.i p.perturb).1<=m:=FC (He _ (Fj m))
   have:=uZ N;refine⟨?_,N⟩;show (leap m p.i p.perturb).1+(runEnd m (leap m p.i p.perturb).1-(leap m p.i p.perturb).1)<=m;omega
def T1 k:(lk t h k).j<=t.mask:=by
 have key:∀(k:Nat) (p:Probe),p.j+p.more<=t.mask->p.i<=t.mask->(wV t.mask k p).j+(wV t.mask k p).more<=t.mask:=λk=>by
  induction k with
  |zero=>exact λp N _=>N
  |succ k R=>
   intro p N S;have:=WL N S;exact R (adv t.mask p) this.1 this.2
 have h0:(h0 t.mask h).1<=t.mask:=d7;have U:=uZ h0;have:=key k (xW t.mask h) (by show (M.St.h0 t.mask h).1+(runEnd t.mask (M.St.h0 t.mask h).1-(M.St.h0 t.mask h).1)<=t.mask;omega) h0
 show (wV t.mask k (xW t.mask h)).j<=t.mask;omega
section
variable {prog:Program}{w:World}{K:Type} [DecidableEq K] {κ:xY prog w K}
variable {A:Around}{E:Value->Shared->Prop}{s:Shared}
def rO(hS:yu κ ld s.heap a ks)(hr:κ.room A)(hk:κ.is s.heap k x)(hn:ks.length+1<=306)
 (h:∀h' S,CG a s.heap h'->yu κ ld h' a S->(if k∈ks then S=ks else S.Perm (k::ks))->Q (!decide (k∈ks)) {s with heap:=h'}):wpAny (model prog w) A (setAddHashed a (.ref x) (κ.hash k)) Q E s:=by
 have hS0:=hS;obtain⟨o,es,ep,t,ho,hex,hd,hel,hnd,X,hpl,hld,Z,hle⟩:=hS;have hf:=fits_of hel X;have hroom:=pR hle;have hodd:=bH ks.length;have hm511:=iZ ks.length;have hsz:=X.d;rw[Aa]at hsz;have hg:t.gaveWay=false:=by unfold BR.gaveWay;rw[Z,hodd];rfl
 obtain⟨K0,hK,he⟩:=X.meets (λ_=>0) (κ.hash k);have hfr:U0 ks t (κ.hash k) k 0:=λi e=>by
  have hi:i<t.place.size:=by rw[hsz];exact(As.mp e).1
  obtain⟨kk,p1,p2⟩:=X.m i _ (κ.hash k) (AN hi) (by rw[Am,e];rfl)
  exact⟨kk,AS _,by rw[p1];exact w4 X.c (AN hi),p2⟩
 have hturn:10*turns t.mask<=10*526:=by unfold turns;omega
 unfold setAddHashed setAddHashedIn;refine A6 (dm (B4 ho hd hf ?_));dsimp only;rw[show byScan (.ref x) es=false from rfl];simp only[Au,if_false];refine dm ?_;unfold setSearch;refine sU ho hd hf hel X hg hr hk hK he 100000 0 none (AS _) ⋯ rfl hfr (λk' hk'=>absurd hk' (C4 _)) (λhm=>?_) (λhm kk hz hlv=>?_)
 . dsimp only
   refine zO ?_;have:=h s.heap ks (CG.refl a s.heap) hS0 (by rw[if_pos hm])
   rw[decide_eq_true hm]at this;exact this
 . dsimp only
   refine dm (B4 ho hd hf ?_);dsimp only;obtain⟨hp,R⟩:=X.put hz (T1 kk) hlv (by rw[hsz,Z];omega)
   rw[Aa]at hp;generalize hpt:t.put (lk t (κ.hash k) kk).j=PT at hp R;have hpt1:PT.1.plain=t.plain/\PT.1.mask=t.mask/\PT.1.led=t.led:=by rw[<-hpt];exact⟨rfl,rfl,rfl⟩
   obtain⟨Y,p⟩:=PT;dsimp only at hp R hpt1 ⊢;obtain⟨pl1,mk1,ld1⟩:=hpt1;rw[show (ks.map κ.hash).take p++κ.hash k::(ks.map κ.hash).drop p=(ks.take p++k::ks.drop p).map κ.hash by rw[C7,AB,List.map_take,List.map_drop]]at R
   have hel1:=hel.put hp hk;have W:=aH (ks:=ks) (p:=p) (k:=k);have hnd1:(ks.take p++k::ks.drop p).Nodup:=W.nodup_iff.mpr (Bb.mpr ⟨hm,hnd⟩);have N:(ks.take p++k::ks.drop p).length=ks.length+1:=W.length_eq;generalize ks.take p++k::ks.drop p=ks1 at *;generalize insertAt es p (κ.hash k,Bp x)=U at *;have hes1:U.size=ks.length+1:=by rw[hel1.1,N]
   have hf1:=fits_of hel1 R;have sb:=Dh s.heap a (Gk U Y);have hgt:(s.heap.update a (Gk U Y)).get? a=some {o with data:=.set U (ep+1) Y}:=by
    have:=Cm (Gk U Y) ho (by rw[IE _ _ hd];rfl)
    rw[IE _ _ hd]at this;exact this
   have hel2:=hel1.keeps ho hd sb;have fill1:Y.fill=ks.length+1:=by unfold BR.fill;rw[R.g,R.d,Aa,N];rfl
   rw[pl1,hpl];simp only[if_true];refine dm (κ.g hk ?_);simp only[if_true];refine dm (wpAny_storeSet_of ho hd ?_ (by rw[hes1,A1];omega))
   have fin:∀h' S,CG a (s.heap.update a (Gk U Y)) h'->yu κ ld h' a S->S.Perm ks1->Q true {s with heap:=h'}:=λh' S sb' st pm=>by
    have:=h h' S (sb.trans sb') st (by rw[if_neg hm];exact pm.trans W)
    rw[decide_eq_false hm]at this;exact this
   rcases fF hn with⟨n1,n2⟩|⟨n1,n2,n3⟩
   . have hnf:Y.tooFull=false:=by unfold BR.tooFull;rw[fill1,mk1,Z];exact decide_eq_false ⋯
     rw[hnf];simp only[Ie,Au,if_false];exact zO (fin _ ks1 (CG.refl a _) ⟨_,U,ep+1,Y,hgt,hex,rfl,hel2,hnd1,R,by rw[pl1];exact hpl,by rw[ld1];exact hld,by rw[mk1,Z,N,n2],by rw[N];exact hn⟩ (Eu _))
   . have hnf:Y.tooFull=true:=by unfold BR.tooFull;rw[fill1,mk1,Z];exact decide_eq_true ⋯
     rw[hnf];simp only[Ig,FO,if_true];have hw:grown (es.size+1)=grown (ks.length+1):=by rw[hel.1]
     rw[hw];refine dm ?_;refine Sy (k0:=k) (t:=Y) (ks:=ks1) (o:={o with data:=.set U (ep+1) Y}) (ep:=ep+1) hgt hex rfl hel2 hnd1 R (by rw[pl1];exact hpl) (by rw[N];exact n2) n3 (by rw[N];exact hn) λh' S sb' st pm=>?_
     rw[ld1,hld]at st;exact zO (fin h' S sb' st pm)
end
noncomputable def zy(w:World):Bool:=w.params.followText "set-order"
def mZ ld:Ok [] (BR.fresh 0 0 ld):=by
 refine⟨rfl,λi j _ N=>absurd N (C4 _),rfl,λi j e=>?_,AS _,Xh,λi j h e=>?_⟩
 . have e:(#[]:Array Nat)[i]?=some j:=e
   rw[EI]at e;cases e
 . have e:(#[]:Array Nat)[i]?=some j:=e
   rw[EI]at e;cases e
theorem rj{N:Type}:∀{l:List N} {i} (h:i<l.length),(l[i]::l.eraseIdx i).Perm l
 |a::l,0,_=>Eu _
 |a::l,i+1,h=>by rw[List.eraseIdx_cons_succ,List.getElem_cons_succ];exact(HQ.swap _ _ _).trans ((rj (l:=l) (i:=i) (by rw[Aj]at h;omega)).cons a)
theorem i6:∀N k (left:List α) out,left.length=N->(HS.go next N k left out).toList.Perm (out.toList++left)
 |0,k,left,out,h=>by
  rw[HG.mp h,AR];unfold HS.go;exact Eu _
 |N+1,k,left,out,h=>by
  unfold HS.go;have R:next k%left.length<left.length:=He _ ⋯
  rw[dS R];dsimp only;refine(i6 N (k+1) _ _ (by rw[List.length_eraseIdx_of_lt R];omega)).trans ?_
  rw[C9,Ak];refine HQ.append_left _ ?_;exact rj R
def uA:(HS next xs).toList.Perm xs.toList:=by unfold HS;refine(i6 xs.size 0 xs.toList #[] Aw).trans ?_;exact Eu _
section
variable {prog:Program}{w:World}{K:Type} [DecidableEq K] {κ:xY prog w K}
variable {A:Around}{E:Value->Shared->Prop}{s:Shared}
def YS(h:∀o,yu κ (!zy w) (s.heap.push o) s.heap.objs.size []->Q (.ref s.heap.objs.size) {s with heap:=s.heap.push o}):wpAny (model prog w) A (newSet (.type "set")) Q E s:=by unfold newSet Hf;refine dm (dm (Cf (zO ?_)));dsimp only;simp only[newObj];exact dm (wpAny_alloc (zO (h _ ⟨_,#[],0,_,AA _ rfl,⟨rfl,rfl,rfl⟩,rfl,⟨rfl,λi k e=>by cases e⟩,Gz,mZ _,rfl,rfl,rfl,AS _⟩)))
def xA.perm(x:xA κ h ks es)(p:es'.toList.Perm es.toList):∃N:List K,N.Perm ks/\xA κ h N es':=by
 -- entries with their keys
 have key:∀{l W:List (Int × Value)},l.Perm W->∀ks:List K,(ks.length=W.length/\∀(i:Nat) (k:K),ks[i]?=some k->∃b,W[i]?=some (κ.hash k,Bp b)/\κ.is h k b)->∃N:List K,N.Perm ks/\N.length=l.length/\∀(i:Nat) (k:K),N[i]?=some k->∃b,l[i]?=some (κ.hash k,Bp b)/\κ.is h k b:=by
  intro l W p;induction p with
  |nil=>intro ks hk;exact⟨ks,Eu _,hk.1,hk.2⟩
  |@cons a l1 l2 _ ih=>
   intro ks hk;cases ks with
   |nil=>have:=hk.1;simp at this
   |cons k ks=>
    obtain⟨N,U,p2,S⟩:=ih ks ⟨by simpa using hk.1,λi R e=>hk.2 (i+1) R e⟩
    refine⟨k::N,U.cons _,by rw[Aj,Aj,p2],λi R e=>?_⟩
    cases i with
    |zero=>exact hk.2 0 R e
    |succ i=>exact S i R e
  |swap a b l1=>
   intro ks hk;cases ks with
   |nil=>have:=hk.1;simp at this
   |cons k ks=>
    cases ks with
    |nil=>have:=hk.1;simp at this
    |cons X ks=>
     refine⟨X::k::ks,HQ.swap _ _ _,hk.1,λi R e=>?_⟩;cases i with
     |zero=>exact hk.2 1 R e
     |succ i=>
      cases i with
      |zero=>exact hk.2 0 R e
      |succ i=>exact hk.2 (i+2) R e
  |trans _ _ Z Y=>
   intro ks hk;obtain⟨X,U,p2,S⟩:=Y ks hk;obtain⟨k3,q1,q2,q3⟩:=Z X ⟨p2,S⟩;exact⟨k3,q1.trans U,q2,q3⟩
 obtain⟨N,U,p2,S⟩:=key p ks ⟨by rw[Aw];exact x.1.symm,λi k e=>by obtain⟨b,h1,h2⟩:=x.2 i k e;exact⟨b,by rw[Bj];exact h1,h2⟩⟩
 exact⟨N,U,by rw[<-Aw];exact p2.symm,λi k e=>by obtain⟨b,h1,h2⟩:=S i k e;exact⟨b,by rw[<-Bj];exact h1,h2⟩⟩
end
section
variable {prog:Program}{w:World}
variable {A:Around}{E:Value->Shared->Prop}{s:Shared}
theorem items_int:∀{ks} {vs},ItemsAre (intKind prog w) ks vs->∀v∈vs,∃i t,v=.int i t
 |_,_,.cons (k:=k) h1 h2,v,N=>by
  rcases Ar.mp N with rfl|N
  . obtain⟨t,rfl⟩:=GZ h1
    exact⟨_,t,rfl⟩
  . exact items_int h2 v N
def XN(hk:Ea (intKind prog w) s.heap ks a)(h:Q false s):wpAny (model prog w) A (Ej 8 (.ref a)) Q E s:=by
 have W:=hk.typeIs;obtain⟨o,items,n,U,_,hd,hi⟩:=hk;unfold Ej;refine dm (DV W ?_);dsimp only;refine dm (zO ?_);simp only[EU,Au,if_false];refine dm (DS U hd ?_);dsimp only;refine dm ?_;show wpAny _ _ (forIn items _ _) _ _ s;rw[<-Array.forIn_toList];refine Hu _ (λrest r s'=>r.1=none/\s'=s/\∀v∈rest,∃i t,v=De i t) _ ?_ ?_ _ _ ⟨rfl,rfl,items_int hi⟩
 . rintro v rest r s' ⟨S,rfl,N⟩
   obtain⟨i,t,rfl⟩:=N v AE;refine dm (Ee (show Ej 7 (.int i t)=pure false by unfold Ej;rfl) ?_)
   simp only[Au,if_false];exact zO ⟨rfl,rfl,λu R=>N u (Ay _ R)⟩
 . rintro ⟨Y,X⟩ s' ⟨S,rfl,_⟩
   simp only at S;subst S;exact zO h
def XM(hk:Ea (intKind prog w) s.heap ks a)(h:Q true s):wpAny (model prog w) A (GD 8 (.ref a)) Q E s:=by
 have W:=hk.typeIs;obtain⟨o,items,n,U,_,hd,hi⟩:=hk;unfold GD;refine dm (wpAny_specialOf W F.slot_tuple_hash.lookup ?_);dsimp only;refine dm (DS U hd ?_);dsimp only[EF];refine dm ?_;show wpAny _ _ (forIn items _ _) _ _ s;rw[<-Array.forIn_toList];refine Hu _ (λrest r s'=>r.1=none/\s'=s/\∀v∈rest,∃i t,v=De i t) _ ?_ ?_ _ _ ⟨rfl,rfl,items_int hi⟩
 . rintro v rest r s' ⟨S,rfl,N⟩
   obtain⟨i,t,rfl⟩:=N v AE;refine dm (Ee (show GD 7 (.int i t)=pure true by unfold GD;rfl) ?_)
   simp only[EU,Au,if_false];exact zO ⟨rfl,rfl,λu R=>N u (Ay _ R)⟩
 . rintro ⟨Y,X⟩ s' ⟨S,rfl,_⟩
   simp only at S;subst S;exact zO h
def eG{es ep t}(x:Ea (intKind prog w) h ks a)(W:h.get? d=some o)(hd:o.data=.set es ep t)(hs:CG d h h'):Ea (intKind prog w) h' ks a:=by
 obtain⟨U,items,n,R,X,N,hi⟩:=x;have S:a≠d:=by rintro rfl;obtain rfl:U=o:=AK (R.symm.trans W);rw[hd]at N;exact nomatch N
 exact⟨U,items,n,(hs.2 a S).trans R,X,N,hi⟩
noncomputable def tupS(prog:Program)(w:World):xY prog w (List Int):={tupleKind (intKind prog w) with f:=λhk h=>XN hk h,g:=λhk h=>XM hk h,e:=λx N hd hs=>eG x N hd hs,i:=λx k=>let ⟨o,items,n,N,R,hd,hi⟩:=x;⟨o,items,n,k _ _ N,R,hd,hi⟩}
end
section
variable {prog:Program}{w:World}{K:Type} [DecidableEq K] {κ:xY prog w K}
variable {A:Around}{E:Value->Shared->Prop}{s:Shared}
noncomputable def x6(t:BR)(i:Nat):Nat:=match i with
 |0=>0
 |i+1=>t.place.getD i 0+1
def lj(h:uK t.place)(hi:i<=t.place.size):below t.place (x6 t i)=i:=by
 obtain⟨S,N,R⟩:=uM h (x6 t i);cases i with
 |zero=>
  rcases Nat.eq_zero_or_pos (below t.place (x6 t 0)) with q|q
  . exact q
  . have:=N 0 q
    exact absurd this (C4 _)
 |succ i=>
  rcases Ei (below t.place (x6 t (i+1))) (i+1) with q|q|q
  . have z:=R i ⋯ ⋯
    have z:t.place.getD i 0+1<=t.place.getD i 0:=z;omega
  . exact q
  . have z:=N (i+1) q
    have z:t.place.getD (i+1) 0<t.place.getD i 0+1:=z;have:=h i (i+1) ⋯ ⋯
    omega
def f6(hS:yu κ (!zy w) s.heap a ks):∃(W:Array (Int × Value)) (R:List K) (sl:Nat->Nat) (o:Obj) (es:Array (Int × Value)) (ep:Nat) (t:BR),s.heap.get? a=some o/\o.data=.set es ep t/\o.ExactSet/\es.size=ks.length/\t.fits es.size=true/\sl 0=0/\R.Perm ks/\xA κ s.heap R W/\W.size=ks.length /\
 ∀A' s' i E' Q,s'.heap.get? a=some o->i<=ks.length->Q ((W[i]?).map λe=>(e.2,sl (i+1))) s'->wpAny (model prog w) A' (setNext a (sl i) i ep) Q E' s':=by
 have hS0:=hS;obtain⟨o,es,ep,t,ho,hex,hd,N,hnd,Y,hpl,hld,hmk,hle⟩:=hS;have hf:=fits_of N Y;have Z:t.place.size=ks.length:=by rw[Y.d,Aa]
 cases hb:zy w with
 |true=>
  have X:(model prog w).w.params.followText "set-order"=true:=hb;obtain⟨R,p1,p2⟩:=N.perm (uA (next:=w.params.setOrder a ep) (xs:=es))
  refine⟨_,R,λ_=>0,o,es,ep,t,ho,hd,hex,N.1,hf,rfl,p1,p2,by rw[p2.1,p1.length_eq],λA' s' i E' Q U hi S=>?_⟩
  unfold setNext Hf;refine dm (B4 U hd hf ?_);dsimp only;refine dm (dm (Cf (zO ?_)));dsimp only;rw[if_pos X];rw[if_neg (by simp)]
  refine dm ?_;unfold setWalk Hf;refine dm (B4 U hd hf ?_);dsimp only;refine dm (dm (Cf (zO ?_)));dsimp only;rw[if_pos X];refine dm (Cf (zO ?_));exact zO S
 |false=>
  have X:¬(model prog w).w.params.followText "set-order"=true:=λz=>by rw[show zy w=true from z]at hb;cases hb
  have hled:t.led=true:=by rw[hld,hb];rfl
  refine⟨es,ks,x6 t,o,es,ep,t,ho,hd,hex,N.1,hf,rfl,Eu _,N,N.1,λA' s' i E' Q U hi S=>?_⟩;unfold setNext Hf;refine dm (B4 U hd hf ?_);dsimp only;refine dm (dm (Cf (zO ?_)));dsimp only;rw[if_neg X];show wpAny (model prog w) A' (if (!t.plain&&decide (es.size > 1))=true then _ else (do
   (if (!t.led&&!es.isEmpty)=true then unsupported "set:maker-not-led" else pure ())
   _)) Q E' s'
  rw[hpl,hled];simp only[EU,Em,Au,if_false];refine dm (zO ?_);rw[lj Y.c (by rw[Z];exact hi)]
  cases he:es[i]? with
  |none=>
   rw[he]at S;exact zO S
  |some e=>
   have hip:i<t.place.size:=by rw[Z,<-N.1];exact(AY.mp he).1
   rw[he]at S;rw[AN hip];have hn:x6 t (i+1)=t.place[i]+1:=by show t.place.getD i 0+1=_;rw[AG,AN hip];rfl
   obtain⟨x,y⟩:=e;have S:Q (some (y,x6 t (i+1))) s':=S;rw[hn]at S;exact zO S
end
def z7:Slot "set_iterator" "__next__" "set_iterator.__next__":=
 .of (owner:="set_iterator") (n:="__next__") (by rw[HU,F1];kernel_rfl) (by decide +kernel) (by decide +kernel) (by decide +kernel)
  (by first|exact .inl (by decide +kernel)|exact .inr (by decide +kernel)) (by rw[Ih];kernel_rfl)
def xw:entryFor table "set_iterator.__next__"=some Builtin.«set_iterator.__next__»:=entryFor_of_fast (by kernel_rfl)
def wK a:argsOk "set_iterator.__next__" ⟨[a],[]⟩:=by unfold argsOk;kernel_rfl
def yw(h:Heap)(it a:Addr)(N i n ep:Nat):Prop:=∃o,h.get? it=some o/\o.cls=.type "set_iterator"/\o.data=.fields #[.int N 0,.int i 0,.ref a,.int n 0,.int ep 0]
def yw.typeIs{s:Shared}{it a}(x:yw s.heap it a sl i n ep):s.TypeIs (.ref it) "set_iterator":=let ⟨o,N,R,_⟩:=x;⟨o,N,R⟩
def next_item{it a}(R:yw s.heap it a sl i n ep)(Z:s.heap.get? a=some o)(hd:o.data=.set es ep t)(hf:t.fits es.size=true)(hn:es.size=n)
 (hx:∀A' E' Y,Y (some (x,sl')) s->wpAny (model prog w) A' (setNext a sl i ep) Y E' s)
 (hQ:∀h',yw h' it a sl' (i+1) n ep->CG it s.heap h'->Q (some x) {s with heap:=h'}):wpAny (model prog w) A (pyNext (.ref it)) Q E s:=by
 obtain⟨oi,N,hc,S⟩:=id R;unfold pyNext;refine dm (ES (Cd (name:=DU "__next__") R.typeIs z7
  (BA z7 R.typeIs xw ?_ (wK _))))
 show wpAny _ _ (fieldsOf (.ref it) >>= _) _ _ s;refine dm (wpAny_fieldsOf N S ?_);dsimp only;refine dm (Gs Z hd hf ?_);rw[if_neg (by rw[hn];simp)]
 show wpAny _ _ (setNext a (sl:Int).toNat (i:Int).toNat (ep:Int).toNat >>= _) _ _ s;rw[BC,BC,BC];refine dm (hx _ _ _ ?_);dsimp only;refine dm (Ii N S (by simp) ?_)
 have U:=Obj.data_mapFields S (·.setIfInBounds 0 (rawInt sl'))
 have W:=Cm (Obj.mapFields (·.setIfInBounds 0 (rawInt sl'))) N (Obj.isFreed_of_fields U)
 refine dm (Ii W U (by simp) ?_)
 refine zO ⟨x,rfl,zO (hQ _ ?_ ((Dh ..).trans (Dh ..)))⟩;have X:=Obj.data_mapFields U (·.setIfInBounds 1 (rawInt (i+1)))
 exact⟨_,Cm _ W (Obj.isFreed_of_fields X),(Obj.cls_mapFields ..).trans ((Obj.cls_mapFields ..).trans hc),by
  rw[X];simp[rawInt]⟩
def slot_set_iter:Slot "set" "__iter__" "set.__iter__":=
 .of (owner:="set") (n:="__iter__") (by rw[HU,F1];kernel_rfl) (by decide +kernel) (by decide +kernel) (by decide +kernel)
  (by first|exact .inl (by decide +kernel)|exact .inr (by decide +kernel)) (by rw[Ih];kernel_rfl)
def rh:entryFor table "set.__iter__"=some Builtin.«frozenset.__iter__»:=
 entryFor_alias (id':="frozenset.__iter__") (by kernel_rfl) rfl (by decide +kernel) (by kernel_rfl)
def qf a:argsOk "set.__iter__" ⟨[a],[]⟩:=by unfold argsOk;kernel_rfl
def wR:Slot "set_iterator" "__iter__" "set_iterator.__iter__":=
 .of (owner:="set_iterator") (n:="__iter__") (by rw[HU,F1];kernel_rfl) (by decide +kernel) (by decide +kernel) (by decide +kernel)
  (by first|exact .inl (by decide +kernel)|exact .inr (by decide +kernel)) (by rw[Ih];kernel_rfl)
def uS:entryFor table "set_iterator.__iter__"=some Builtin.«dict_keyiterator.__iter__»:=
 entryFor_alias (id':="dict_keyiterator.__iter__") (by kernel_rfl) rfl (by decide +kernel) (by kernel_rfl)
def ui a:argsOk "set_iterator.__iter__" ⟨[a],[]⟩:=by unfold argsOk;kernel_rfl
def next_end{it a}(Y:A.handled=none)(N:yw s.heap it a sl i n ep)(W:s.heap.get? a=some o)(hd:o.data=.set es ep t)(Z:t.fits es.size=true)(X:es.size=n)
 (hx:∀A' E' U,U none s->wpAny (model prog w) A' (setNext a sl i ep) U E' s)
 (hQ:∀h',Heap.ExtBut it s.heap h'->Q none {s with heap:=h'}):wpAny (model prog w) A (pyNext (.ref it)) Q E s:=by
 obtain⟨oi,R,hc,S⟩:=id N;unfold pyNext;refine dm (ES (Cd (name:=DU "__next__") N.typeIs z7
  (BA z7 N.typeIs xw ?_ (wK _))))
 show wpAny _ _ (fieldsOf (.ref it) >>= _) _ _ s;refine dm (wpAny_fieldsOf R S ?_);dsimp only;refine dm (Gs W hd Z ?_);rw[if_neg (by rw[X];simp)]
 show wpAny _ _ (setNext a (sl:Int).toNat (i:Int).toNat (ep:Int).toNat >>= _) _ _ s;rw[BC,BC,BC];refine dm (hx _ _ _ ?_);dsimp only;refine dm (Ii R S (by simp) ?_)
 show wpAny _ _ (newExc (.type "StopIteration") [] >>= _) _ _ _;refine dm ?_;simp only[newExc,newTuple];refine dm (Bm ?_ (by size_fits))
 refine dm (m:=firstArgMember _ _) (Ee (a:=Ad) (by first|rfl|(simp only[firstArgMember];rfl)) ?_)
 refine Bm ?_ (by size_fits)
 simp only[raiseNew];refine dm (wpAny_handled ?_);rw[show A.in1.handled=none from Y];refine dm (zO (wpAny_throw ?_));refine dm (Ht (T:="StopIteration") (b:=true) ⟨_,AA _ rfl,rfl⟩ isSubtype_stop ?_);exact zO (hQ _ (((Dh ..).extBut.push _).push _))
def cH [DecidableEq K] {κ:xY prog w K}{ks}(hS:yu κ (!zy w) s.heap a ks)
 (hQ:∀o es ep t,s.heap.get? a=some o->o.data=.set es ep t->Q (.ref s.heap.objs.size) {s with heap:=s.heap.push {cls:=.type "set_iterator",data:=.fields #[.int (0:Nat) 0,.int (0:Nat) 0,.ref a,.int (ks.length:Nat) 0,.int (ep:Nat) 0]}}) :
 wpAny (model prog w) A (pyIter (.ref a)) Q E s:=by
 obtain⟨o,es,ep,t,N,X,hd,R,hnd,U,S,hld,hmk,hle⟩:=hS;have W:=fits_of R U;have Z:s.TypeIs (.ref a) "set":=⟨o,N,X.1⟩;refine wpAny_pyIter_slot Z slot_set_iter (BA slot_set_iter Z rh ?_ (qf _));unfold Builtin.«frozenset.__iter__» Builtin.Frozenset.slot0 slotArgs;simp only[Hv,EU,Au,↓reduceIte,Il,BW,bne_self_eq_false];unfold Hw Builtin.Frozenset.sizeOf;refine dm (zO ?_)
 try dsimp only
 refine dm (zO ?_);refine dm (dm (Gs N hd W (zO ?_)));refine dm ?_;unfold setDrawn Hf;refine dm (B4 N hd W ?_);dsimp only;refine dm (dm (Cf (zO ?_)));dsimp only;refine zO ?_;have Y:∀b:Bool,(b&&(!t.plain&&decide (es.size > 1)))=false:=λb=>by rw[S];cases b<;>rfl
 show wpAny _ _ (if (!(model prog w).w.params.followText "set-order"&&(!t.plain&&decide (es.size > 1)))=true then _ else _) _ _ s
 rw[Y,if_neg Ag];refine dm (zO ?_);refine dm (wpAny_setEpoch_of N hd W ?_);refine dm (Bm (zO ⟨_,rfl,"set_iterator",_,⟨_,AA _ rfl,rfl⟩,z7.lookup,?_⟩));have:=hQ o es ep t N hd;rw[<-R.1]at this;exact this
def gp{it a}(N:yw s.heap it a sl i n ep)(R:Q (.ref it) s):wpAny (model prog w) A (pyIter (.ref it)) Q E s:=by refine wpAny_pyIter_slot N.typeIs wR (BA wR N.typeIs uS ?_ (ui _));exact zO ⟨_,rfl,"set_iterator",_,N.typeIs,z7.lookup,R⟩
def eL{s:Shared} [DecidableEq K] {κ:xY prog w K}{a it}{ks}(hh:A.handled=none)(hne:a≠it)(hS:yu κ (!zy w) s.heap a ks):∃(W:Array (Int × Value)) (N:List K) (S:Nat->Nat) (o:Obj) (es:Array (Int × Value)) (ep:Nat) (t:BR),s.heap.get? a=some o/\o.data=.set es ep t/\S 0=0/\N.Perm ks/\xA κ s.heap N W/\W.size=ks.length /\
 Walks prog w A it [it,a] [it] ks.length (λi v=>∃e,W[i]?=some e/\e.2=v) (λi h=>yw h it a (S i) i ks.length ep/\h.get? a=some o):=by
 obtain⟨W,N,S,o,es,ep,t,ho,hd,hex,Y,hf,h0,hp,hel,hW,nx⟩:=f6 hS;refine⟨W,N,S,o,es,ep,t,ho,hd,h0,hp,hel,hW,⟨λb R=>by simp at R;simp[R],λi h h' st hk=>⟨?_,hk a (by simp) _ st.2⟩,λi s1 Q E1 hi st Z=>?_,λs1 Q E1 st Z=>?_,λi s1 Q E1 st Z=>gp st.1 Z⟩⟩
 . obtain⟨oi,x1,x2,x3⟩:=st.1
   exact⟨oi,hk it (by simp) _ x1,x2,x3⟩
 . have X:i<W.size:=by rw[hW];exact hi
   refine next_item (x:=W[i].2) (sl':=S (i+1)) st.1 st.2 hd hf Y (λA' E' Q' hq=>?_) λh' U sb=>?_
   . have:=nx A' s1 i E' Q' st.2 ⋯
     rw[AN X]at this;exact this hq
   . exact Z _ h' s1.toks ⟨_,AN X,rfl⟩ ⟨U,(sb.2 a hne).trans st.2⟩ λb o' R e=>sb.extBut b o' (λh=>R (by simp[h])) e
 . refine next_end hh st.1 st.2 hd hf Y (λA' E' Q' hq=>?_) λh' eb=>Z h' s1.toks λb o' R e=>eb b o' (λh=>R (by simp[h])) e
   have:=nx A' s1 ks.length E' Q' st.2 (Ac _);rw[FI (by rw[hW];exact Ac _)]at this
   exact this hq
end M.St
end
section
set_option maxHeartbeats 400000
namespace M.St
open PySem PySem.SetTable
section
variable {prog:Program}{w:World}{K:Type} [DecidableEq K] {κ:xY prog w K}
variable {A:Around}{E:Value->Shared->Prop}{s:Shared}
def yu.ext{h h':Heap}(x:yu κ ld h a ks)(k:∀b o,h.get? b=some o->h'.get? b=some o):yu κ ld h' a ks:=by
 obtain⟨o,es,ep,t,U,R,hd,N,r⟩:=x;exact⟨o,es,ep,t,k _ _ U,R,hd,⟨N.1,λi S e=>by obtain⟨b,X,W⟩:=N.2 i S e;exact⟨b,X,κ.i W k⟩⟩,r⟩
def yu.typeIs(x:yu κ ld s.heap a ks):s.TypeIs (.ref a) "set":=by obtain⟨o,es,ep,t,R,N,_⟩:=x;exact⟨o,R,N.1⟩
def yu.lt(x:yu κ ld h a ks):a<h.objs.size:=by obtain⟨o,es,ep,t,N,_⟩:=x;exact An N
def nk(hh:A.handled=none)(hS:yu κ (!zy w) s.heap a ks)
 (hQ:∀s' (Y:List K) (acc:List Value),Y.Perm ks->acc.length=ks.length->(∀(i:Nat) k,Y[i]?=some k->∃b,acc[i]?=some (.ref b)/\κ.is s.heap k b)->Moved [] (λx y=>y=x) s s'->Q acc s'):wpAny (model prog w) A (collect (.ref a)) Q E s:=by
 have hlt:@LT.lt Nat _ a s.heap.objs.size:=hS.lt;have hn306:ks.length<=306:=by obtain⟨_,_,_,_,_,_,_,_,_,_,_,_,_,h⟩:=hS;exact h
 unfold collect;refine dm (wpAny_runValue (Eb F.entry_proto_collect ?_));rw[DO F.plain_proto_collect _];show wpAny _ A.in1 (newList [] >>= λl=>again (.builtin "list.__iadd__" ⟨[l,.ref a],[]⟩)) _ _ s;refine dm (Bm ?_);refine zO ⟨GX F.plain_list_iadd _,Eb F.entry_list_iadd ?_⟩;rw[DO F.plain_list_iadd _];have hS1:=hS.ext (h':=s.heap.push {cls:=.type "list",data:=.seq ([]:List Value).toArray}) λb o e=>xd _ e;have hSI:s.heap.objs.size≠a:=El hlt;show wpAny _ A.in1 (GN (.ref s.heap.objs.size) (.ref a) (.ref s.heap.objs.size)) _ _ _;unfold GN;refine dm (DV (s:={s with heap:=s.heap.push {cls:=.type "list",data:=.seq ([]:List Value).toArray}}) hS1.typeIs ?_)
 have h1:Hx (.ref s.heap.objs.size) (.ref a)=false:=by simp[Hx,hSI]
 have h2:(DH "set" == DH "list")=false:=by decide
 have h3:(DH "set" == DH "tuple")=false:=by decide
 simp only[h1,h2,h3,Bool.or_false,Au,if_false];refine dm (cH (s:={s with heap:=s.heap.push {cls:=.type "list",data:=.seq ([]:List Value).toArray}}) hS1 λo es ep t ho hd=>?_)
 have hS2:=hS1.ext (h':=(s.heap.push {cls:=.type "list",data:=.seq ([]:List Value).toArray}).push {cls:=.type "set_iterator",data:=.fields #[.int (0:Nat) 0,.int (0:Nat) 0,.ref a,.int (ks.length:Nat) 0,.int (ep:Nat) 0]}) λb o e=>xd _ e;have hsz:(s.heap.push {cls:=.type "list",data:=.seq ([]:List Value).toArray}).objs.size=s.heap.objs.size+1:=by simp[Heap.push]
 have hne:a≠(s.heap.push {cls:=.type "list",data:=.seq ([]:List Value).toArray}).objs.size:=by rw[hsz];exact Ax (Bu hlt)
 generalize S:(s.heap.push {cls:=.type "list",data:=.seq ([]:List Value).toArray}).objs.size=it at hne ⊢;obtain⟨W,Y,sl,o',es',ep',t',ho',hd',h0,hp,hel,hW,wk⟩:=eL (A:=A.in1) (s:=s) (it:=it) hh hne hS;have eo:o'=o:=AK ((xd _ ho').symm.trans ho);subst eo;rw[hd]at hd';obtain⟨rfl,rfl,rfl⟩:es=es'/\ep=ep'/\t=t':=by cases hd';exact⟨rfl,rfl,rfl⟩
 have hT2:Shared.TypeIs {s with heap:=(s.heap.push {cls:=.type "list",data:=.seq ([]:List Value).toArray}).push {cls:=.type "set_iterator",data:=.fields #[.int (0:Nat) 0,.int (0:Nat) 0,.ref a,.int (ks.length:Nat) 0,.int (ep:Nat) 0]}} (.ref a) "set":=hS2.typeIs
 refine dm (A6 ?_);unfold Builtin.List.listLengthHint;refine dm (wpAny_specialOf hT2 F.slot_set_len.lookup ?_)
 wp_delta
 refine dm (Ht (T:="set") (b:=true) hT2 sub_set_self ?_);show wpAny _ _ (typeOf (Bp a) >>= _) _ _ _;refine dm (DV hT2 ?_);refine zO ?_;rw[if_pos (by decide)]
 refine dm (BM ?_);have R:((s.heap.push {cls:=.type "list",data:=.seq ([]:List Value).toArray}).push {cls:=.type "set_iterator",data:=.fields #[.int (0:Nat) 0,.int (0:Nat) 0,.ref a,.int (ks.length:Nat) 0,.int (ep:Nat) 0]}).get? s.heap.objs.size=some {cls:=.type "list",data:=.seq ([]:List Value).toArray}:=xd _ (AA _ rfl);have hI0:((s.heap.push {cls:=.type "list",data:=.seq ([]:List Value).toArray}).push {cls:=.type "set_iterator",data:=.fields #[.int (0:Nat) 0,.int (0:Nat) 0,.ref a,.int (ks.length:Nat) 0,.int (ep:Nat) 0]}).get? it=some {cls:=.type "set_iterator",data:=.fields #[.int (0:Nat) 0,.int (0:Nat) 0,.ref a,.int (ks.length:Nat) 0,.int (ep:Nat) 0]}:=by rw[<-S];exact AA _ rfl
 have hSf:s.heap.objs.size ∉ [it,a]:=by
  intro h;simp only[Ar,BG,or_false]at h;rcases h with h|h
  . rw[<-S,hsz]at h;exact absurd h (Ax (CN _))
  . exact hSI h
 refine dm ?_;show wpAny _ A.in1 (updateSeq s.heap.objs.size (·.push .none) >>= λ_=>updateSeq s.heap.objs.size (·.pop)) _ _ _
 refine dm (wpAny_updateSeq R rfl ?_);have N:=Cm (A2 (·.push Ad)) R rfl
 refine wpAny_updateSeq N rfl ?_;have hS₃:=Cm (A2 (·.pop)) N rfl
 have oth:∀(h:Heap) b o,b≠s.heap.objs.size->h.get? b=some o->((h.update s.heap.objs.size (A2 (·.push Ad))).update s.heap.objs.size (A2 (·.pop))).get? b=some o:=
  λh b o hb e=>(Ed _ _ (B6 hb)).trans ((Ed _ _ (B6 hb)).trans e)
 have hI3:=oth _ it _ (λh=>hSf (by rw[<-h];exact AE)) hI0
 have ho3:=oth _ a _ (λh=>hSI h.symm) (xd {cls:=.type "set_iterator",data:=.fields #[.int (0:Nat) 0,.int (0:Nat) 0,.ref a,.int (ks.length:Nat) 0,.int (ep:Nat) 0]} (xd {cls:=.type "list",data:=.seq ([]:List Value).toArray} ho'));have st0:yw _ it a (sl 0) 0 ks.length ep/\_:=⟨⟨_,hI3,rfl,by rw[h0]⟩,ho3⟩
 clear hI0 R N;refine zO ⟨GX F.plain_extend_loop _,codeAny_extend_loopS wk.toS (Ao hn306 (by decide)) _ hSf _ ks.length 0 _ _ _ rfl (AS _) st0 hS₃ (ItemsOf.nil _) λs' X c' hm hS' U=>?_⟩
 show wpAny _ A (load s.heap.objs.size >>= _) _ _ s';refine dm (wpAny_load hS' ?_);refine zO (hQ s' Y X.toList hp (by simpa using U.1) (λi k e=>?_) ?_)
 . obtain⟨b,e1,e2⟩:=hel.2 i k e
   have hi:i<X.size:=by rw[U.1,<-hW];exact(AY.mp e1).1
   obtain⟨e',w1,w2⟩:=U.2 i X[i] (AN hi);rw[e1]at w1;cases w1;refine⟨b,?_,?_⟩
   . rw[Bj,AN hi,<-w2]
   . exact e2
 . refine⟨λb o hb e=>?_,hm.gens,hm.drawn,hm.os,hm.toks⟩
   have e3:=oth _ b o (Ax (An e)) (xd {cls:=.type "set_iterator",data:=.fields #[.int (0:Nat) 0,.int (0:Nat) 0,.ref a,.int (ks.length:Nat) 0,.int (ep:Nat) 0]} (xd {cls:=.type "list",data:=.seq ([]:List Value).toArray} e));refine hm.heap b o (λh=>?_) e3;have Z:=An e;simp only[Ar,BG,or_false]at h;rcases h with h|h
   . rw[h]at Z;exact B5 _ Z
   . rw[h,<-S,hsz]at Z;exact absurd (F9 (CN _) Z) (B5 _)
end
end M.St
end
section
set_option maxHeartbeats 1000000
namespace L2
open PySem PySem.W PySem.Calls PyProof PyProof.Rows
section
variable {prog:Program}{w:World}{A:Around}{E:Value->Shared->Prop}{s:Shared}
def lY(prog:Program)(w:World)(A:Around)(vs:List Value)(Q:Value->Shared->Prop)(s:Shared):Prop:=∃(κ:DE) (key:Keyed->Int),2<=vs.length/\vs.length<=16777216 /\
 (∀h' (N:DE->Shared->Prop),(∀b o,s.heap.get? b=some o->h'.get? b=some o)->N κ {s with heap:=h'}->wpAny (model prog w) A.in1.in1 (keyKind' vs.toArray) N (λ_ _=>False) {s with heap:=h'}) /\
 (∀h' i j C,(∀b o,s.heap.get? b=some o->h'.get? b=some o)->i<vs.length->j<vs.length->C (decide (key (itm vs i)<key (itm vs j))) {s with heap:=h'}->wpAny (model prog w) A.in1.in1 (keyLt' κ (vs.getD i Ad) (vs.getD j Ad)) C (λ_ _=>False) {s with heap:=h'}) /\
 (∀i j,i<vs.length->j<vs.length->key (itm vs i)=key (itm vs j)->i=j) /\
 (∀(h':Heap) (c:Nat) (ix:List Nat),(∀b o,s.heap.get? b=some o->h'.get? b=some o)->ix.Perm (Ah vs.length)->ix.Pairwise (λi j=>key (itm vs i)<key (itm vs j)) ->
  h'.get? s.heap.objs.size=some (seqObj "list" (ix.map λi=>vs.getD i Ad).toArray c)->Q (.ref s.heap.objs.size) {s with heap:=h'})
def lX(vs:List Value)(Q:Value->Shared->Prop)(s:Shared):Prop:=vs.length<2 /\
 ∀(h':Heap) (c:Nat),(∀b o,s.heap.get? b=some o->h'.get? b=some o)->h'.get? s.heap.objs.size=some (seqObj "list" vs.toArray c)->Q (.ref s.heap.objs.size) {s with heap:=h'}
def jX(hs:lX vs Q s):wpAny (model prog w) A.in1 (newList vs >>= λl=>holding [l] (call (.builtin "list.sort") [l]) >>= λ_=>ret l) (λfin s'=>∃v,fin=Fin.done (Flow.ret v)/\Q v s') E s:=by
 obtain⟨h2,h⟩:=hs;refine dm (DB ?_ (by rw[A1];omega))
 have N:(s.heap.push (seqObj "list" vs.toArray 0)).get? (s.heap.objs.size)=some (seqObj "list" vs.toArray 0):=AA _ rfl;have keep:∀b o,s.heap.get? b=some o->(s.heap.push (seqObj "list" vs.toArray 0)).get? b=some o:=λb o q=>xd _ q;show wpAny _ _ _ _ _ {s with heap:=s.heap.push (seqObj "list" vs.toArray 0)}
 generalize hg:s.heap.push (seqObj "list" vs.toArray 0)=g at N keep ⊢;refine dm (A6 (BA Gx ⟨_,N,rfl⟩ Gb ?body (Gy _)))
 case body=>
  have ha:s.heap.objs.size<g.objs.size:=An N;rw[Gd];refine dm (Ho N rfl ?_);refine dm (DC N rfl ?_ (by rw[Ae,A1];omega) (AS _))
  obtain⟨Y,U⟩:∃Y,(g.update (s.heap.objs.size) (A2 λ_=>(#[]:Array Value))).get? (s.heap.objs.size)=some (seqObj "list" #[] Y):=⟨_,C0 N λ_=>#[]⟩;refine dm (Ef U rfl ?_);refine dm (Fu ?_ (by show vs.length<=_;rw[A1];omega))
  refine dm (DB ?_ (AS _));refine A6 ?_;have R:(((g.update (s.heap.objs.size) (A2 λ_=>(#[]:Array Value))).push (seqObj "tuple" vs.toArray 0)).push (seqObj "list" #[] 0)).get? (s.heap.objs.size)=some (seqObj "list" #[] Y):=
   xd _ (xd _ U)
  show wpAny (model prog w) _ _ _ _ {s with heap:=((g.update (s.heap.objs.size) (A2 λ_=>(#[]:Array Value))).push (seqObj "tuple" vs.toArray 0)).push (seqObj "list" #[] 0)}
  dsimp only;have W:vs.toArray.size<2:=by rw[Ae];exact h2
  rw[if_pos W,if_pos W];refine dm (zO ?_);rw[StateT.run_pure];refine dm (zO ?_);dsimp only;refine dm (Ef R rfl ?_);have S:(arrOf (Ge general' (vs.toArray.zip vs.toArray) #[] 7 none)).map (·.2)=vs.toArray:=by
   show (vs.toArray.zip vs.toArray).map (·.2)=vs.toArray
   apply EE.mp;simp[List.map_snd_zip]
  rw[S];refine dm (DC R rfl ?_ (AS _) (by rw[Ae,A1];omega))
  simp only[bne_self_eq_false,Au,if_false];refine zO ⟨_,rfl,zO ⟨_,rfl,?_⟩⟩;have hc:=C0 R λ_=>vs.toArray;refine h _ _ (λb o e=>?_) hc;have X:b<s.heap.objs.size:=An e;have Z:b≠s.heap.objs.size:=Ax X;rw[BN _ _ _ _ Z];refine xd _ (xd _ ?_);rw[BN _ _ _ _ Z];exact keep b o e
def eE(hs:lY prog w A vs Q s):wpAny (model prog w) A.in1 (newList vs >>= λl=>holding [l] (call (.builtin "list.sort") [l]) >>= λ_=>ret l) (λfin s'=>∃v,fin=Fin.done (Flow.ret v)/\Q v s') E s:=by
 obtain⟨κ,key,h2,hz,kind,ask,dis,h⟩:=hs;have hs0:(vs.toArray.zip vs.toArray).size=vs.length:=by simp
 have un:∀{a:Array Keyed},a.Perm (vs.toArray.zip vs.toArray)->∃ix:List Nat,ix.Perm (Ah vs.length)/\ix.map (itm vs)=a.toList:=λ{a} hp=>uW (by rw[<-rD];exact CI.mp hp)
 have N:∀{a:Array Keyed} {ix:List Nat} (i:Nat) (hi:i<ix.length),ix.map (itm vs)=a.toList->Tim.kk key a i=key (itm vs ix[i]):=λ{a ix} i hi e=>by unfold Tim.kk;rw[AG,<-Bj,<-e,Am,dS hi];rfl
 have ixl:∀{ix:List Nat},ix.Perm (Ah vs.length)->ix.length=vs.length:=λhp=>by rw[hp.length_eq,A0]
 have X:∀{ix:List Nat},ix.Perm (Ah vs.length)->∀i (hi:i<ix.length),ix[i]<vs.length:=λhp i hi=>Al.mp (hp.mem_iff.mp (BB hi));have hD:Tim.Dis key (vs.toArray.zip vs.toArray):=λa hp i j hi Z hij e=>by obtain⟨ix,U,p2⟩:=un hp;rw[hs0,<-ixl U]at hi Z;rw[N i hi p2,N j Z p2]at e;exact hij ((Ew (U.nodup_iff.mpr B1)).mp (dis _ _ (X U i hi) (X U j Z) e))
 refine dm (DB ?_ (by rw[A1];omega))
 have W:(s.heap.push (seqObj "list" vs.toArray 0)).get? (s.heap.objs.size)=some (seqObj "list" vs.toArray 0):=AA _ rfl;have keep:∀b o,s.heap.get? b=some o->(s.heap.push (seqObj "list" vs.toArray 0)).get? b=some o:=λb o q=>xd _ q;show wpAny _ _ _ _ _ {s with heap:=s.heap.push (seqObj "list" vs.toArray 0)}
 generalize hg:s.heap.push (seqObj "list" vs.toArray 0)=g at W keep ⊢;refine dm (A6 (BA Gx ⟨_,W,rfl⟩ Gb ?body (Gy _)))
 case body=>
  rw[Gd];refine dm (Ho W rfl ?_);refine dm (DC W rfl ?_ (by rw[Ae,A1];omega) (AS _))
  obtain⟨e1,ho1⟩:∃e1,(g.update (s.heap.objs.size) (A2 λ_=>(#[]:Array Value))).get? (s.heap.objs.size)=some (seqObj "list" #[] e1):=⟨_,C0 W λ_=>#[]⟩;refine dm (Ef ho1 rfl ?_);refine dm (Fu ?_ (by show vs.length<=_;rw[A1];omega))
  refine dm (DB ?_ (AS _));refine A6 ?_;have R:∀b o,s.heap.get? b=some o->(((g.update (s.heap.objs.size) (A2 λ_=>(#[]:Array Value))).push (seqObj "tuple" vs.toArray 0)).push (seqObj "list" #[] 0)).get? b=some o:=λb o e=>by have hlt:b<s.heap.objs.size:=An e;refine xd _ (xd _ ?_);rw[BN _ _ _ _ (Ax hlt)];exact keep b o e
  have Y:(((g.update (s.heap.objs.size) (A2 λ_=>(#[]:Array Value))).push (seqObj "tuple" vs.toArray 0)).push (seqObj "list" #[] 0)).get? (s.heap.objs.size)=some (seqObj "list" #[] e1):=
   xd _ (xd _ ho1)
  show wpAny (model prog w) _ _ _ _ {s with heap:=((g.update (s.heap.objs.size) (A2 λ_=>(#[]:Array Value))).push (seqObj "tuple" vs.toArray 0)).push (seqObj "list" #[] 0)}
  generalize ((g.update (s.heap.objs.size) (A2 λ_=>(#[]:Array Value))).push (seqObj "tuple" vs.toArray 0)).push (seqObj "list" #[] 0)=g6 at Y R ⊢;dsimp only;have h2':¬vs.toArray.size<2:=by rw[Ae];omega
  rw[if_neg h2',if_neg h2'];refine dm (BU (kind g6 (λS s'=>S=κ/\s'={s with heap:=g6}) R ⟨rfl,rfl⟩) (λS s' hk=>?_) λ_ _ x=>x.elim)
  obtain⟨rfl,rfl⟩:=hk;have L:Tim.sY prog w A.in1.in1 (λ_ _=>False) {s with heap:=g6} S (vs.toArray.zip vs.toArray) key:=λx y st Q' hx hy hk hq=>by
   rw[rD]at hx hy;obtain⟨i,hi,rfl⟩:=AO.mp hx;obtain⟨j,Z,rfl⟩:=AO.mp hy;rw[lt'_eq];refine Ai (wpS_get ?_);rw[hk];refine Ai (FV (ES (BU (ask g6 i j (λc s'=>s'={s with heap:=g6}/\c=decide (key (itm vs i)<key (itm vs j))) R (Al.mp hi) (Al.mp Z) ⟨rfl,rfl⟩) (λc s' hc=>?_) λ_ _ hF=>hF.elim)))
   obtain⟨rfl,rfl⟩:=hc;exact⟨rfl,Av hq⟩
  refine dm (BU (Tim.gA L hD (st:=Ge S (vs.toArray.zip vs.toArray) #[] 7 none) (Q:=λ_ st'=>Tim.Bs S (vs.toArray.zip vs.toArray) st'/\Tim.SIn key (arrOf st') 0 (vs.toArray.zip vs.toArray).size) ⟨rfl,.refl _,rfl⟩ rfl (by rw[hs0];exact h2) λst' a b=>⟨a,b⟩) ?_ λ_ _ x=>x.elim)
  rintro ⟨⟨⟩,st'⟩ s' ⟨rfl,hB,hS⟩;dsimp only at hB hS ⊢;obtain⟨ix,U,p2⟩:=un hB.a;have hout:(arrOf st').map (·.2)=(ix.map λi=>vs.getD i Ad).toArray:=by apply EE.mp;rw[Array.toList_map,<-p2,BI];rfl
  have hixl:(ix.map λi=>vs.getD i Ad).toArray.size<=AH:=by rw[Ae,Aa,ixl U,A1];omega
  rw[show (arrOf st').map (·.2)=_ from hout]
  refine dm (Ef Y rfl ?_);refine dm (DC Y rfl ?_ (AS _) (Nat.le_succ_of_le hixl));rw[hB.b];simp only[bne_self_eq_false,Au,if_false];refine zO ⟨_,rfl,zO ⟨_,rfl,?_⟩⟩;refine h _ _ ix (λb o e=>?_) U (By.mpr λi j hi Z hij=>?_) (C0 Y λ_=>(ix.map λi=>vs.getD i Ad).toArray)
  . have hlt:b<s.heap.objs.size:=An e
    rw[BN _ _ _ _ (Ax hlt)];exact R b o e
  . have:=hS i j (Ek hij) (by rw[hs0,<-ixl U];exact Z)
    rw[Cp,Cp,N i hi p2,N j Z p2]at this;rcases GL this with z|z
    . exact z
    . have:=(Ew (U.nodup_iff.mpr B1)).mp (dis _ _ (X U i hi) (X U j Z) z)
      exact absurd this (Ax hij)
def f9(N:∀P R,(∀vs s1,lX vs Q s1\/lY prog w A vs Q s1->P vs s1)->wpAny (model prog w) A.in1 (collect v) P R s) :
 wpAny (model prog w) A (call (.builtin "sorted") [v]) Q E s:=by
 refine E5 kind_sorted plain_sorted entry_sorted (args_sorted1 _) ?_;unfold Builtin.«sorted»;refine dm (m:=checkCount "sorted" 1 1 _) (zO ?_);exact dm (N _ _ λvs s1 hs=>hs.elim jX eE)
end
end L2
end
section
set_option maxHeartbeats 1000000
namespace L2
open PySem PySem.W PySem.Calls PyProof PyProof.Rows
theorem uy:∀{k} {us},ItemsAre (intKind prog w) k us->vV us k
 |_,_,.nil=>.b
 |_,_,.cons h r=>by obtain⟨t,rfl⟩:=GZ h;exact .a (uy r)
end L2
end
section
set_option maxHeartbeats 1000000
namespace M.St
open PySem PySem.SetTable
section
variable {prog:Program}{w:World}{K:Type} [DecidableEq K] (κ:xY prog w K)
def vR(N:Bool)(ks:List K)(bs:List Addr)(a:Addr)(h:Heap):Prop:=
 ∃o es ep t,h.get? a=some o/\o.ExactSet/\o.data=.set es ep t/\es.size=ks.length/\bs.length=ks.length/\(∀(i:Nat) (k:K) (b:Addr),ks[i]?=some k->bs[i]?=some b->es[i]?=some (κ.hash k,.ref b))/\ks.Nodup/\Ok (ks.map κ.hash) t/\t.plain=true/\t.led=N/\t.mask=maskOf ks.length/\ks.length<=306
def jt(h:Heap)(ks:List K)(bs:List Addr):Prop:=∀(i:Nat) (k:K) (b:Addr),ks[i]?=some k->bs[i]?=some b->κ.is h k b
variable {κ}
def yu.split(x:yu κ ld h a ks):∃bs,vR κ ld ks bs a h/\jt κ h ks bs:=by
 obtain⟨o,es,ep,t,X,U,hd,R,r⟩:=x;have at_:∀{i:Nat} {k:K},ks[i]?=some k->∃b,es[i]?=some (κ.hash k,.ref b)/\κ.is h k b:=λ{i k} e=>R.2 i k e;have N:∀{i:Nat} {k:K} {b:Addr},ks[i]?=some k->(es.toList.map λe=>match e.2 with|.ref b=>b|_=>0)[i]?=some b->es[i]?=some (κ.hash k,.ref b)/\κ.is h k b:=λ{i k b} e S=>by
  obtain⟨Z,W,Y⟩:=at_ e;rw[Am,Bj,W]at S;have:Z=b:=by simpa using S
  subst this;exact⟨W,Y⟩
 exact⟨es.toList.map λe=>match e.2 with|.ref b=>b|_=>0,⟨o,es,ep,t,X,U,hd,R.1,by rw[Aa,Aw];exact R.1,λi k b e S=>(N e S).1,r⟩,λi k b e S=>(N e S).2⟩
def vR.join(x:vR κ ld ks bs a h)(y:jt κ h ks bs):yu κ ld h a ks:=by
 obtain⟨o,es,ep,t,R,N,hd,hs,S,he,r⟩:=x;refine⟨o,es,ep,t,R,N,hd,⟨hs,λi k e=>?_⟩,r⟩;have hi:i<bs.length:=by rw[S];exact(As.mp e).1
 exact⟨bs[i],he i k _ e (dS hi),y i k _ e (dS hi)⟩
def vR.keep:∀R N:Heap,vR κ ld ks bs a R->(∀o,R.get? a=some o->N.get? a=some o)->vR κ ld ks bs a N:=by rintro R N ⟨o,es,ep,t,S,r⟩ k;exact⟨o,es,ep,t,k o S,r⟩
def vR.got(x:vR κ ld ks bs a h):∃o,h.get? a=some o:=let ⟨o,_,_,_,N,_⟩:=x;⟨o,N⟩
end
end M.St
namespace L2
open PySem
def jP [DecidableEq K] {κ:M.St.xY P w K}{ks}(x:M.St.vR κ ld ks bs a h):z8 P w H h a (.i (M.St.vR κ ld ks bs a)):=
 ⟨x,x.got,M.St.vR.keep⟩
end L2
end
section
set_option maxHeartbeats 1000000
namespace M.St
open PySem
noncomputable def xY.vp{prog:Program}{w:World}{K:Type} [DecidableEq K] (κ:xY prog w K)(G:K->Addr->Prop):xY prog w K where
 is:=λh k a=>κ.is h k a/\G k a
 hash:=κ.hash
 draws:=κ.draws
 room:=κ.room
 inj:=λx y=>κ.inj x.1 y.1
 keeps:=λx a b c=>⟨κ.keeps x.1 a b c,x.2⟩
 pyHash:=λr x h=>κ.pyHash r x.1 h
 eqBool:=λr x y h=>κ.eqBool r x.1 y.1 h
 quiet:=λx h=>κ.quiet x.1 h
 f:=λx h=>κ.f x.1 h
 g:=λx h=>κ.g x.1 h
 e:=λx a b c=>⟨κ.e x.1 a b c,x.2⟩
 i:=λx k=>⟨κ.i x.1 k,x.2⟩
end M.St
namespace L2
open PySem PySem.W PySem.Calls PyProof PyProof.Rows
section
variable {prog:Program}{w:World}{A:Around}{E:Value->Shared->Prop}{s:Shared}
def GAt(G:List Int->Addr->Prop)(its:List Value)(zs:List (List Int)):Prop:=∀(i:Nat) (z:List Int),zs[i]?=some z->∃b,its[i]?=some (.ref b)/\G z b
def eA{Q:Value->Shared->Prop}(tv:TV s.heap vs zs)(tg:GAt G vs zs)(N:zs.Perm ks)(R:ks.Nodup)(W:ks.length<2\/∀z∈ks,z≠[])(hz:vs.length<=16777216)
 (h:∀(h':Heap) c its,(∀b o,s.heap.get? b=some o->h'.get? b=some o)->TV h' its (zk ks)->GAt G its (zk ks)->h'.get? s.heap.objs.size=some (seqObj "list" its.toArray c)->Q (.ref s.heap.objs.size) {s with heap:=h'}):lX vs Q s\/lY prog w A vs Q s:=by
 have hn:vs.length=zs.length:=tv.1;have hl:=N.length_eq;have hnd':zs.Nodup:=N.nodup_iff.mpr R;have pick:∀(h':Heap) (ix:List Nat),(∀b o,s.heap.get? b=some o->h'.get? b=some o)->ix.Perm (Ah zs.length)->(ix.map λi=>zs.getD i [])=zk ks->TV h' (ix.map λi=>vs.getD i Ad) (zk ks)/\GAt G (ix.map λi=>vs.getD i Ad) (zk ks):=λh' ix keep hp e=>by
  rw[<-e];have U:∀(i:Nat) (z:List Int),(ix.map λi=>zs.getD i [])[i]?=some z->∃j,zs[j]?=some z/\(ix.map λi=>vs.getD i Ad)[i]?=some (vs.getD j Ad):=λi z hi=>by
   rw[Am]at hi;obtain⟨j,S,ez⟩:=AJ.mp hi;have hjl:j<zs.length:=Al.mp (hp.mem_iff.mp (AF S));refine⟨j,by rw[<-ez,Ab,dS hjl];rfl,?_⟩
   rw[Am,S];rfl
  refine⟨⟨by rw[Aa,Aa],λi z hi=>?_⟩,λi z hi=>?_⟩
  rotate_left
  . obtain⟨j,X,ej⟩:=U i z hi
    obtain⟨b,f1,f2⟩:=tg j z X;exact⟨b,by rw[ej,Ab,f1];rfl,f2⟩
  obtain⟨j,X,ej⟩:=U i z hi;obtain⟨b,o,n,us,f1,f2,f3⟩:=(tv.up keep).2 j z X;exact⟨b,o,n,us,by rw[ej,Ab,f1];rfl,f2,f3⟩
 by_cases h2:vs.length<2
 . refine .inl ⟨h2,λh' c keep e=>?_⟩
   have e1:(Ah zs.length).map (λi=>zs.getD i [])=zk ks:=by
    rw[v9];refine qU R N ?_
    match zs,show zs.length<2 by omega with
    |[],_=>exact .nil
    |[_],_=>exact Fw _ _
   have:=pick h' (Ah zs.length) keep (.refl _) e1;rw[<-hn,v9]at this;exact h h' c vs keep this.1 this.2 e
 . have W:∀z∈zs,z≠[]:=λz hz=>W.resolve_left ⋯ z (N.mem_iff.mp hz)
   have gz:∀{i:Nat},i<vs.length->∃z,zs[i]?=some z/\zs.getD i []=z/\z∈ks:=λ{i} hi=>by rw[hn]at hi;exact⟨zs[i],dS hi,by rw[Ab,dS hi];rfl,N.mem_iff.mp (BB hi)⟩
   refine .inr ⟨tuples' true,keyOf vs zs (λa=>((zk ks).idxOf a:Int)),⋯,hz,λh' Q' keep hq'=>?_,λh' i j C keep hi S hc=>?_,λi j hi S e=>?_,λh' c ix keep hp hw e=>?_⟩
   . obtain⟨fs,kt,kl,ki⟩:=(tv.up keep).si W
     refine kat_kind (s:={s with heap:=h'}) (T:=.type "int") kt ⋯ (λv hv=>?_) rfl hq'
     obtain⟨i,t,rfl⟩:=ki v hv;exact Looks.of_pure rfl
   . obtain⟨z,Z,a2,a3⟩:=gz hi
     obtain⟨z',Y,b2,b3⟩:=gz S;rw[yZ tv Z,yZ tv Y,<-qW R a3 b3,<-oa]at hc;obtain⟨b,o,n,us,f1,f2,f3,f4,f5⟩:=(tv.up keep).2 i z Z;obtain⟨b',o',n',us',f1',f2',f3',f4',f5'⟩:=(tv.up keep).2 j z' Y;rw[Ab,Ab,f1,f1'];refine kat_lt (s:={s with heap:=h'}) f2 f4 f2' f4' ?_
     rw[Ae,Ae,vz f5,vz f5'];exact qF (s:={s with heap:=h'}) 0 f5 f5' hc
   . obtain⟨z,Z,a2,a3⟩:=gz hi
     obtain⟨z',Y,b2,b3⟩:=gz S;rw[yZ tv Z,yZ tv Y]at e;have ez:=lL a3 b3 e;subst ez;exact(List.getElem?_inj ⋯ hnd').mp (Z.trans Y.symm)
   . have pk:(ix.map λi=>zs.getD i [])=zk ks:=?_
     . exact h h' c _ keep (pick h' ix keep (by rw[<-hn];exact hp) pk).1 (pick h' ix keep (by rw[<-hn];exact hp) pk).2 e
     have hlt:∀i∈ix,i<vs.length:=λi hi=>Al.mp (hp.mem_iff.mp hi);refine qU R ((uA [] (by rw[<-hn];exact hp)).trans N) ?_
     rw[Cj];refine hw.imp_of_mem λ{i j} hi S w=>?_;obtain⟨z,Z,a2,a3⟩:=gz (hlt i hi);obtain⟨z',Y,b2,b3⟩:=gz (hlt j S);rw[yZ tv Z,yZ tv Y]at w;rw[a2,b2];exact w
def lM(hh:A.handled=none)(hS:M.St.yu ((M.St.tupS prog w).vp G) (!M.St.zy w) s.heap a ks)(W:ks.length<2\/∀z∈ks,z≠[])
 (hQ:∀s2 l c its,Moved [] (λx y=>y=x) s s2->TV s2.heap its (zk ks)->GAt G its (zk ks)->s2.heap.get? l=some (seqObj "list" its.toArray c)->s.heap.get? l=none->Q (.ref l) s2) :
 wpAny (model prog w) A (call (.builtin "sorted") [.ref a]) Q E s:=by
 have Y:=hS;obtain⟨_,_,_,_,_,_,_,_,X,_,_,_,_,hle⟩:=Y;refine f9 λP E' hP=>M.St.nk (A:=A.in1) hh hS λs1 U acc hp R S N=>hP _ _ ?_;refine eA (G:=G) (zs:=U) ⟨by rw[R,hp.length_eq],λi z e=>?_⟩ (λi z e=>?_) hp X W ⋯ λh' c its keep tv tg e=>?_
 . obtain⟨b,Z,⟨o,items,n,ho,hc,hd,hi⟩,_⟩:=S i z e
   exact⟨b,o,n,items.toList,Z,N.heap b o (λh=>nomatch h) ho,hc,hd,uy hi⟩
 . obtain⟨b,Z,_,g⟩:=S i z e
   exact⟨b,Z,g⟩
 . refine hQ _ _ c its ⟨λb o hb e=>keep b o (N.heap b o hb e),N.gens,N.drawn,N.os,N.toks⟩ tv tg e ?_
   cases e0:s.heap.get? s1.heap.objs.size with
   |none=>rfl
   |some o=>exact absurd (An (N.heap _ _ (λh=>nomatch h) e0)) (B5 _)
end
end L2
end
section
set_option maxHeartbeats 1000000
namespace L2
open PySem PySem.W PySem.Calls PyProof PyProof.Rows
section
variable {X:Cx}{pins:List (Addr × Obj)}{σ:St}{H:Hp}{s:Shared}
theorem u0:∀{k} {us},Vals (k.map V.d) us->ItemsAre (intKind P w) k us
 |[],_,.nil=>.nil
 |i::k,_,.cons r rs=>by obtain⟨t,rfl⟩:=(show ∃t,_=De i t from r);exact .cons (by show Value.isInt i (.int i t)=true;simp[Value.isInt]) (u0 rs)
def SqS(X:Cx)(H:Hp)(p:Addr)(ks:List (List Int))(bs:List Addr):Prop:=
 H p=some (.i (M.St.vR (M.St.tupS X.f X.w) (!M.St.zy X.w) ks bs p))/\∀(i:Nat) (k:List Int) (b:Addr),ks[i]?=some k->bs[i]?=some b->SqT X.K H b (k.map V.d)
def SqS.setG(I:Inv X pins σ H s)(x:SqS X H p ks bs)(g:∀(i:Nat) k b,ks[i]?=some k->bs[i]?=some b->G k b):M.St.yu ((M.St.tupS X.f X.w).vp G) (!M.St.zy X.w) s.heap p ks:=by obtain⟨e,q⟩:=x;have ok:M.St.vR (M.St.tupS X.f X.w) (!M.St.zy X.w) ks bs p s.heap:=(I.j p _ e).1;refine M.St.vR.join (κ:=(M.St.tupS X.f X.w).vp G) (bs:=bs) ok λi k b R N=>⟨?_,g i k b R N⟩;obtain⟨its,r,⟨o,S,U,n,hd⟩,_⟩:=I.tuple (q i k b R N);exact⟨o,its.toArray,n,S,U,hd,u0 r⟩
theorem gJ:∀{its} {zs},its.length=zs.length->GAt G its zs->∃cs:List Addr,cs.length=zs.length/\Vals (cs.map V.c) its/\∀(i:Nat) z,zs[i]?=some z->∃b,cs[i]?=some b/\G z b
 |[],[],_,_=>⟨[],rfl,.nil,λi z e=>by simp at e⟩
 |v::its,z::zs,l,g=>by
  obtain⟨b,e,X⟩:=g 0 z rfl;have Y:v=.ref b:=by simpa using e
  subst Y;obtain⟨cs,W,U,S⟩:=gJ (its:=its) (zs:=zs) (by simpa using l) λi z e=>by simpa using g (i+1) z (by simpa using e)
  refine⟨b::cs,by rw[Aj,Aj,W],.cons rfl U,λi R N=>?_⟩
  cases i with
  |zero=>exact⟨b,rfl,by simp at N;exact N▸X⟩
  |succ i=>simpa using S i R (by simpa using N)
def lu(hc:X.g=true):yN X (.builtin "sorted") (λxs H Q=>∃p ks bs,xs=[.c p]/\SqS X H p ks bs/\(ks.length<2\/∀z∈ks,z≠[]) /\
 ∀l (cs:List Addr),H l=none->cs.length=(zk ks).length->(∀(i:Nat) z,(zk ks)[i]?=some z->∃b,cs[i]?=some b/\∃j:Nat,ks[j]?=some z/\bs[j]?=some b)->Q (.c l) (upd H l (.b (cs.map V.c)))):=by
 intro pins s σ H xs us Q I r h;obtain⟨p,ks,bs,rfl,hq,Y,q⟩:=h;obtain⟨u,rfl,rx⟩:=vals1 r;cases rx;have hS:=hq.setG (G:=λz b=>∃j:Nat,ks[j]?=some z/\bs[j]?=some b) I λi k b e1 e2=>⟨i,e1,e2⟩;have h306:ks.length<=306:=by obtain⟨_,_,_,_,_,_,_,_,_,_,_,_,_,hle⟩:=hS;exact hle
 refine lM (I.y.l hc) hS Y λs2 l c its hm tv tg e hl=>?_;obtain⟨cs,c1,c2,c3⟩:=gJ tv.1 tg;have N:(zk ks).length=ks.length:=(zc ks).length_eq;obtain⟨h2,g2,d2,t2,o2⟩:=s2;obtain⟨k1,W,U,S,k5⟩:=hm;have W:g2=s.gens:=W;have U:d2=s.drawn:=U;have S:o2=s.os:=S;subst W U S;have keep:∀b o,s.heap.get? b=some o->h2.get? b=some o:=λb o z=>k1 b o (λh=>nomatch h) z
 obtain⟨Z,J⟩:=I.ll (h':=h2) (ys:=cs.map V.c) (by rw[Aa,c1,N,A1];omega) c2 hl (λb o _ z=>keep b o z) (λm ⟨o,es,ep,ho,r⟩=>⟨o,es,ep,keep _ o ho,r⟩) e
 exact⟨V.c l,_,⟨J.y,J.R,J.G,J.B,J.M,J.C,J.F,J.J,J.O,J.j,J.P⟩,rfl,q l cs Z c1 c3⟩
end
end L2
end
section
set_option maxHeartbeats 1000000
namespace L2
open PySem PySem.W PySem.Calls PyProof PyProof.Rows
section
variable {X:Cx}{pins:List (Addr × Obj)}{σ:St}{H:Hp}{s:Shared}
noncomputable abbrev yj(X:Cx)(p:Addr)(ks:List (List Int))(bs:List Addr):HO:=.i (M.St.vR (M.St.tupS X.f X.w) (!M.St.zy X.w) ks bs p)
def XC(e:H p=some (.i N))(h:SqT X.K H b xs):SqT X.K (upd H p (.i ψ)) b xs:=by
 rcases h with h|h
 . refine .inl ?_
   have nb:∀c u,H c=some u->(∀N,u≠.i N)->upd H p (.i ψ) c=some u:=λc u z R=>by rw[zP (λq=>by rw[q,e]at z;cases z;exact R _ rfl)];exact z
   rcases h with h|⟨o,h⟩
   . exact .inl (nb _ _ h λ_ z=>nomatch z)
   . exact .inr ⟨o,nb _ _ h λ_ z=>nomatch z⟩
 . exact .inr h
def eM(k:List Int)(ks N:List (List Int)):Prop:=(k∈ks->N=ks)/\(k ∉ ks->N.Perm (k::ks))
def Each(G:List Int->Addr->Prop)(ks:List (List Int))(bs:List Addr):Prop:=∀(i:Nat) (k:List Int) (b:Addr),ks[i]?=some k->bs[i]?=some b->G k b
def eR G(I:Inv X pins σ H s)(hu:A.units<cLine)(Y:SqS X H p ks bs)(hg:Each G ks bs)(hk:SqT X.K H b (k.map V.d))(gk:G k b)(hn:ks.length+1<=306)
 (h:∀bl s' N R,Inv X pins σ (upd H p (yj X p N R)) s'->SqS X (upd H p (yj X p N R)) p N R->Each G N R->eM k ks N->Q bl s'):wpAny (model X.f X.w) A (setAdd p (.ref b)) Q E s:=by
 have hS:=Y.setG (G:=λk b=>SqT X.K H b (k.map V.d)/\G k b) I λi k b U S=>⟨Y.2 i k b U S,hg i k b U S⟩;obtain⟨its,r,⟨o,ho,hc,n,hd⟩,_⟩:=I.tuple hk;have hi:Ea (intKind X.f X.w) s.heap k b:=⟨o,its.toArray,n,ho,hc,hd,u0 r⟩;unfold setAdd;refine A6 (dm (wpAny_pyHash_tuple hu hi ?_));refine M.St.rO (κ:=(M.St.tupS X.f X.w).vp λk b=>SqT X.K H b (k.map V.d)/\G k b) (s:={s with toks:=s.toks+(k.length+1)}) hS hu ⟨hi,hk,gk⟩ hn λh' N sb st pm=>?_
 obtain⟨R,so,ta⟩:=st.split;have W:M.St.vR (M.St.tupS X.f X.w) (!M.St.zy X.w) N R p h':=so;exact h _ _ N R (I.write (x:=p) (e:=p) (t':=s.toks+(k.length+1)) (by rw[Y.1];trivial) (.inl rfl) (λc u hc z=>(sb.2 c hc).trans z) W.got (jP W)) ⟨zd,λi z c U S=>XC Y.1 (ta i z c U S).2.1⟩ (λi z c U S=>(ta i z c U S).2.2) ⟨λZ=>by rw[if_pos Z]at pm;exact pm,λZ=>by rw[if_neg Z]at pm;exact pm⟩
end
end L2
end
section
set_option maxHeartbeats 1000000
namespace L2
open PySem PySem.W PySem.Calls PyProof PyProof.Rows
def bJ(I:Inv X pins σ H s)
 (h:∀h',(∀b u,s.heap.get? b=some u->h'.get? b=some u)->H s.heap.objs.size=none->h'.objs.size=s.heap.objs.size+1->Inv X pins σ (upd H s.heap.objs.size (yj X s.heap.objs.size [] [])) {s with heap:=h'}->SqS X (upd H s.heap.objs.size (yj X s.heap.objs.size [] [])) s.heap.objs.size [] [] ->
  Q (.ref s.heap.objs.size) {s with heap:=h'}):wpAny (model X.f X.w) X.A (newSet (.type "set")) Q E s:=by
 refine M.St.YS (κ:=M.St.tupS X.f X.w) λo st=>?_;obtain⟨bs,N,_⟩:=st.split;obtain⟨_,_,_,_,_,_,_,_,R,_⟩:=id N;obtain rfl:bs=[]:=List.eq_nil_of_length_eq_zero R;exact h _ (λb u e=>xd _ e) (I.j.fresh (Ac _)) (B9 ..) (I.laid (t':=s.toks) (λb u e=>xd _ e) (Ac _) (jP N)) ⟨zd,λi k b e=>by simp at e⟩
end L2
end
section
set_option maxHeartbeats 1000000
namespace L2
open PySem PySem.W PySem.Calls PyProof PyProof.Rows
def gN(hu:X.A.in1.units<cLine):yN X (.builtin "set.add") (λxs H Q=>∃p b ks bs k,∃G:List Int->Addr->Prop,xs=[.c p,.c b]/\SqS X H p ks bs/\Each G ks bs/\SqT X.K H b (k.map V.d)/\G k b/\ks.length+1<=306 /\
 ∀N R,SqS X (upd H p (yj X p N R)) p N R->Each G N R->eM k ks N->Q .g (upd H p (yj X p N R))):=by
 intro pins s σ H xs us Q I r h;obtain⟨p,b,ks,bs,k,G,rfl,W,Y,hk,gk,hn,q⟩:=h;obtain⟨u,v,rfl,rx,Z⟩:∃u v,us=[u,v]/\RelV (.c p) u/\RelV (.c b) v:=by
  cases r with
  |cons r1 r=>
   cases r with
   |cons r2 r=>
    cases r;exact⟨_,_,rfl,r1,r2⟩
 cases rx;cases Z;have hT:s.TypeIs (.ref p) "set":=(W.setG (G:=G) I Y).typeIs;refine BA F.slot_set_add hT F.entry_set_add ?_ (F.args_set_add_2 _ _);unfold Builtin.«set.add» Builtin.Frozenset.oneOther;simp only[Hv,Il];unfold Hw;refine dm (zO ?_)
 try dsimp only
 refine dm (zO ?_)
 try dsimp only
 refine dm (eR G I hu W Y hk gk hn λbl s' N R I' S U h1=>?_);show wpAny _ _ (ret Ad) _ _ _;exact zO ⟨_,rfl,V.g,_,I',rfl,q N R S U h1⟩
end L2
end
section
set_option maxHeartbeats 1000000
namespace L2
open PySem PySem.Spec PySem.W PyProof PyProof.Rows
def rW{X:Cx}{elt:Expr}{gens:List DA}{csc:Scope}{cpos:Pos}{d:Nat}{tg:Expr}{p:Pos}{ifs:List Expr}{B:Sem PUnit}{acc:Value}{it:Addr}{fp:List Addr}{tn:Nat->Heap->Prop}{J:It}{g:TG}{ts:List TT}{tb:TB}{D:Ends}
 {pins:List (Addr × Obj)} {σ:St} {H:Hp} {s:Shared} {R:Result->Shared->Prop}
 (heq:Cy (.SetComp elt gens csc cpos) d (.ref it) acc X.a=(do
  standAt p
  match <-pyNext (.ref it) with
  |none=>pure (.done .next)
  |some v=>
   Bk tg (.ref it) v
   assign tg X.a v
   let mut ok:=true
   for c in ifs do
    if ok then ok <-isTrue c X.a (eval c X.a)
   if ok then B
   again (.compLoop (.SetComp elt gens csc cpos) d (.ref it) acc X.a)))
 (hx:X.h=λ_ _=>False) (hc:X.g=true) (T:Turn X.f X.w X.K tg J fp it tn) (hg:PG X tg g) (ht:PTs X ifs ts) (hb:PB X B tb)
 (I:Inv X pins σ H s) (st:tn 0 s.heap) (f:∀b∈fp,vQ X pins H b) (h:tH J g (tTB ts tb) D σ H)
 (hR:∀S H' s',Inv X pins S H' s'->D.a S H'->(∀b∈fp,H' b=none)->R (.ok .next) s') :
 codeAny (model X.f X.w) X.A (.compLoop (.SetComp elt gens csc cpos) d (.ref it) acc X.a) R s:=by
 obtain⟨W,⟨m0,w0⟩,turn⟩:=h;have stat:∀{H':Hp},(∀b∈fp,H' b=none)->∀b∈fp,vQ X pins H' b:=λhn b hb=>⟨hn b hb,(f b hb).2⟩;have no:∀{α:Type} {t:Sem α} {Q:α->Shared->Prop} {E':Value->Shared->Prop} {s:Shared},wpAny (model X.f X.w) X.A t Q X.h s->wpAny (model X.f X.w) X.A t Q E' s:=λh=>BU h (λ_ _ q=>q) λ_ _ z=>by rw[hx]at z;exact z.elim
 refine codeAny_loop rfl (λn s'=>∃i S H',Inv X pins S H' s'/\tn i s'.heap/\(∀b∈fp,H' b=none)/\W i n S H') (λn s3 hI=>?_) m0 ⟨0,σ,H,I,st,λb hb=>(f b hb).1,w0⟩;obtain⟨i,Z,H3,I3,st3,fr3,w3⟩:=hI;show wpAny _ _ ((Cy (.SetComp elt gens csc cpos) d (.ref it) acc X.a).onRaise (λx=>do HN x X.a;theTreesLotGoes x)) _ _ s3
 refine wpAny_noted ?_;rw[heq];refine dm (BK (dm ?_));rcases turn i n Z H3 w3 with⟨stop,qn⟩|⟨go,N,hN,step⟩
 . refine no (thn (T.e X rfl rfl rfl hc i pins s3 Z H3 X.h I3 (stat fr3) st3 stop) λr s4 zn=>?_)
   obtain⟨hr,I4⟩:=zn;subst hr;exact zO (hR Z H3 s4 I4 qn fr3)
 . refine no (thn (T.f X rfl rfl rfl hc i pins s3 Z H3 X.h I3 (stat fr3) st3 go) λr s4 zn=>?_)
   obtain⟨u,hr,h4⟩:=zn;subst hr;refine dm (no (thn h4 λ_ s5 zn=>?_));obtain⟨x,H5,I5,r5,y5,st5,fr5⟩:=zn;have I5':=I5.pinned (stat fr5) (T.c _ _ st5);refine dm (no (thn (hg _ s5 Z H5 x u _ I5' r5 (step x H5 y5)) λ_ s6 zn=>?_));obtain⟨σ6,H6,I6,q6⟩:=zn;refine dm (no (thn (ht.run I6 q6) λok s7 zn=>?_));obtain⟨H7,I7,q7⟩:=zn;have U:∀{Y:St} {H7:Hp} {s7:Shared},Inv X (pins++sE fp s5.heap) Y H7 s7->N Y H7->∃m,m<n/\∃i S H',Inv X pins S H' s7/\tn i s7.heap/\(∀b∈fp,H' b=none)/\W i m S H':=λ{Y H7 s7} I7 n7=>by obtain⟨m',hm,w7⟩:=hN Y H7 n7;refine⟨m',hm,i+1,Y,H7,I7.vn,T.a _ _ _ st5 λb hb o e=>(I7.O (b,o) (AZ _ (AZ _ (xH hb e)))).1,λb hb=>?_,w7⟩;obtain⟨o,e,d⟩:=T.c _ _ st5 b hb;exact(I7.O (b,o) (AZ _ (AZ _ (xH hb e)))).2.1
   cases ok with
   |false=>exact zO ⟨rfl,U I7 q7⟩
   |true=>exact dm (no (thn (hb _ s7 σ6 H7 N I7 q7) λ_ s8 ⟨σ8,H8,I8,n8⟩=>zO ⟨rfl,U I8 n8⟩))
def Te(X:Cx)(acc:Addr)(S:St->Hp->Prop)(σ:St)(y:V)(H1:Hp):Prop:=∃b ks bs k,∃G:List Int->Addr->Prop,y=.c b/\SqS X H1 acc ks bs/\Each G ks bs/\SqT X.K H1 b (k.map V.d)/\G k b/\ks.length+1<=306 /\
 ∀N R,SqS X (upd H1 acc (yj X acc N R)) acc N R->Each G N R->eM k ks N->S σ (upd H1 acc (yj X acc N R))
def nN(X:Cx)(acc:Addr)(te:TE):TB:=λN σ H=>te σ H (Te X acc N σ)
def mj(hu:X.A.in1.units<cLine)(he:PE X elt te):PB X (do let v <-eval elt X.a;standAt elt.pos;let _ <-call (.builtin "set.add") [.ref acc,v]) (nN X acc te):=by intro pins s σ H Nx I h;refine dm (thn (he pins s σ H _ I h) λu s1 N=>?_);obtain⟨y,H1,I1,R,b,ks,bs,k,G,e,U,Y,hk,Z,W,q⟩:=N;subst e;refine dm (BK (dm (thn (gN hu pins s1 σ H1 [.c acc,.c b] [.ref acc,u] (λ_ H'=>Nx σ H') I1 (.cons rfl (.cons R .nil)) ⟨acc,b,ks,bs,k,G,rfl,U,Y,hk,Z,W,q⟩) λ_ s2 N=>?_)));obtain⟨_,H2,I2,_,S⟩:=N;exact zO ⟨σ,H2,I2,S⟩
end L2
end
section
set_option maxHeartbeats 1000000
namespace L2
open PySem PySem.Spec PySem.W PyProof.Rows
def vT
 (h0:codeAny (model prog w) A (.compLoop (.SetComp elt (⟨target,iter,ifs,0⟩::rest) scope pos) 0 it acc env) R s)
 (h:wpAny (model prog w) A (pyIter it) (λN s'=>codeAny (model prog w) A (.compLoop (.SetComp elt (⟨target,iter,ifs,0⟩::rest) scope pos) 0 N acc env) R s')
  (notedBy (model prog w) A env λx s'=>R (.error x) s') s) :
 codeAny (model prog w) A (.compStart (.SetComp elt (⟨target,iter,ifs,0⟩::rest) scope pos) 0 it acc env) R s:=by
 refine E3 ?_;show wpAny _ _ ((GJ (.SetComp elt (⟨target,iter,ifs,0⟩::rest) scope pos) 0 it acc env).onRaise (λx=>do HN x env;standAt HP)) _ _ s
 refine Iw ?_;unfold GJ;show wpAny _ _ (ask >>= _) _ _ s;refine dm (Cf (wpAny_ite ?_));split
 . first
    |exact dm (zO (zO (Af rfl h0)))
    |exact zO (Af rfl h0)
 . first
    |exact dm (BM (dm (BK (dm (BU h (λN s' h'=>zO (Af rfl h')) λ_ _ x=>x)))))
    |(refine dm (BM ?_);show wpAny _ _ (standAt iter.pos >>= _) _ _ s;exact dm (BK (dm (BU h (λN s' h'=>zO (Af rfl h')) λ_ _ x=>x))))
def sF(X:Cx)(fr:List (Option Nat))(wi:TI)(g:TG)(ts:List TT)(tb:Addr->TB)(σ:St)(H:Hp)(Q:VK):Prop:=
 wi σ H λJ H1=>∀acc,H1 acc=none->SqS X (upd H1 acc (yj X acc [] [])) acc [] []->tH J g (tTB ts (tb acc)) ⟨λ_ H'=>Q (.c acc) H',λ_ _=>False,λ_ _=>False,λ_ _=>False⟩ (zG fr σ) (upd H1 acc (yj X acc [] []))
section
variable {X:Cx}{pins:List (Addr × Obj)}{σ:St}{H:Hp}{s:Shared}{N:List Str}{csc:Scope}{fr:List (Option Nat)}{elt tg iter:Expr}{ifs:List Expr}{rest:List DA}{cpos:Pos}{wi:TI}{g:TG}{ts:List TT}{tb:Addr->TB}
def kA{use:Option (Value->Sem Unit)}{QQ:Value->Shared->Prop}{Qv:VK}{B:Value->Env->Sem PUnit}{E:Value->Shared->Prop}(hE:E=X.h)(hc:X.g=true)(S:zZ X N csc fr)(hi:PI X tg iter wi)
 (hturn:∀(it:Addr) (acc:Value) (env:Env),Cy (.SetComp elt (⟨tg,iter,ifs,0⟩::rest) csc cpos) 0 (.ref it) acc env=(do
  standAt iter.pos
  match <-pyNext (.ref it) with
  |none=>pure (.done .next)
  |some v=>
   Bk tg (.ref it) v
   assign tg env v
   let mut ok:=true
   for c in ifs do
    if ok then ok <-isTrue c env (eval c env)
   if ok then B acc env
   again (.compLoop (.SetComp elt (⟨tg,iter,ifs,0⟩::rest) csc cpos) 0 (.ref it) acc env)))
 (hg:∀C s0 H0 ex,PG (X.comp N csc C s0 H0 ex) tg g) (ht:∀C s0 H0 ex,PTs (X.comp N csc C s0 H0 ex) ifs ts)
 (U:∀C s0 H0 ex acc,(∃W,Inv X W σ H0 s0/\∀b∈ex,vQ X W H0 b)->PB (X.comp N csc C s0 H0 ex) (B (.ref acc) (X.comp N csc C s0 H0 ex).a) (tb acc))
 (I:Inv X pins σ H s) (h:sF X fr wi g ts tb σ H Qv)
 (hfin:∀acc C H' s',Inv X pins σ H' s'->Qv (.c acc) H'->(∃m,s'.heap.Ns C m)->H' C=none->C≠X.a.locals->X.l.heap.objs.size<=C->(∀x c,X.a.cells.lookup x=some c->c≠C)->(∀p∈X.q++pins,p.1≠C) ->
  FU (model X.f X.w) X.A X.h use QQ (.ref acc) C (.ok .next) s') :
 wpAny (model X.f X.w) X.A (eval iter X.a) (λx s₁=>wpAny (model X.f X.w) X.A (pyIter x) (λit s₂=>wpAny (model X.f X.w) X.A (newSet (.type "set")) (λacc s₃=>
  wpAny (model X.f X.w) X.A (Gw csc X.a.globals (vS X.a.cells csc.names []) [] X.a.qual none .none (some X.a)) (λZ s₄=>
   codeAny (model X.f X.w) X.A (.compStart (.SetComp elt (⟨tg,iter,ifs,0⟩::rest) csc cpos) 0 it acc {Z with scope:=relabel csc X.a}) (FU (model X.f X.w) X.A E use QQ acc Z.locals) s₄) E s₃) E s₂) E s₁) E s:=by
 subst hE;refine thn (hi pins s σ H _ I h) λv s1 h1=>thn h1 λitv s2 h2=>?_;obtain⟨it,fp,tn,J,H2,e,I2,T,st2,f2,q2⟩:=h2;subst e;refine bJ I2 λh3 k23 hfr hsz I3 hq3=>?_;have q3:=q2 s2.heap.objs.size hfr hq3;generalize hs3:({s2 with heap:=h3}:Shared)=s3 at I3
 have hh3:s3.heap=h3:=by rw[<-hs3]
 rw[<-hh3]at k23 hsz;have lt2:∀b∈fp,b<s2.heap.objs.size:=λb U=>by obtain⟨o,e,_⟩:=T.c _ _ st2 b U;exact An e
 have f3:∀b∈fp,vQ X pins (upd H2 s2.heap.objs.size (yj X s2.heap.objs.size [] [])) b:=λb U=>⟨by rw[zP (Ax (lt2 b U))];exact(f2 b U).1,(f2 b U).2⟩
 have lt3:∀b∈fp,b<s3.heap.objs.size:=λb U=>by rw[hsz];exact Bu (lt2 b U)
 refine qd λh4 hns4' k34 own4=>?_;have I4:=rY (tk:=s3.toks) I3 S f3 lt3 hns4' k34 own4;have st4:tn 0 h4:=T.a _ _ _ st2 λb U o e=>k34 b o (k23 b o e);have f4:∀b∈fp,vQ (X.comp N csc s3.heap.objs.size s3 (upd H2 s2.heap.objs.size (yj X s2.heap.objs.size [] [])) fp) [] (upd H2 s2.heap.objs.size (yj X s2.heap.objs.size [] [])) b:=λb U=>by have ok:=I4.y;obtain⟨g1,g2⟩:=ok.H b U;exact⟨(f3 b U).1,g1,ok.r b U,.inl U,g2,λp hp=>by simp at hp⟩
 have fin:∀σ' H' s',Inv (X.comp N csc s3.heap.objs.size s3 (upd H2 s2.heap.objs.size (yj X s2.heap.objs.size [] [])) fp) [] σ' H' s'->Qv (.c s2.heap.objs.size) H'->(∀b∈fp,H' b=none) ->
  FU (model X.f X.w) X.A X.h use QQ (.ref s2.heap.objs.size) s3.heap.objs.size (.ok .next) s':=λσ' H' s' I' q' _=>by
  have IX:Inv X pins σ H' s':=I3.Xc I'.R I'.B I'.j I'.G λb U=>by obtain⟨g0,g1,g2,g3,g4,g5⟩:=f3 b U;exact⟨g3,g1,g4,g5⟩
  obtain⟨m,hn,_⟩:=I'.M;refine hfin _ _ H' s' IX q' ⟨m,hn⟩ I'.F (El I3.lt) I3.sz (λx c e=>?_) λp hp=>?_
  . obtain⟨w',z⟩:=I3.C x c e
    exact Ax z.lt
  . exact Ax (An (I3.O p hp).1)
 have Y:codeAny (model X.f X.w) X.A (.compLoop (.SetComp elt (⟨tg,iter,ifs,0⟩::rest) csc cpos) 0 (.ref it) (.ref s2.heap.objs.size) (compEnvC csc (wH csc s3.heap.objs.size++vS X.a.cells csc.names []) s3.heap.objs.size X.a))
  (FU (model X.f X.w) X.A X.h use QQ (.ref s2.heap.objs.size) s3.heap.objs.size) {s3 with heap:=h4}:=
  rW (X:=X.comp N csc s3.heap.objs.size s3 (upd H2 s2.heap.objs.size (yj X s2.heap.objs.size [] [])) fp) (hturn it _ _) rfl hc T (hg _ _ _ _) (ht _ _ _ _) (U _ _ _ _ _ ⟨pins,I3,f3⟩) I4 st4 f4 q3 fin
 exact vT Y (T.d X.A 0 _ _ _ st4 Y)
end
end L2
end
section
set_option maxHeartbeats 1000000
namespace L2
open PySem PySem.Spec PySem.W PyProof.Rows
section
variable {X:Cx}{pins:List (Addr × Obj)}{σ:St}{H:Hp}{s:Shared}{N:List Str}{csc:Scope}{fr:List (Option Nat)}{elt tg iter:Expr}{ifs:List Expr}{rest:List DA}{cpos:Pos}{wi:TI}{g:TG}{ts:List TT}{tb:Addr->TB}
def pX{B:Value->Env->Sem PUnit}(hc:X.g=true)(S:zZ X N csc fr)(hi:PI X tg iter wi)
 (U:∀(it:Addr) (acc:Value) (env:Env),Cy (.SetComp elt (⟨tg,iter,ifs,0⟩::rest) csc cpos) 0 (.ref it) acc env=(do
  standAt iter.pos
  match <-pyNext (.ref it) with
  |none=>pure (.done .next)
  |some v=>
   Bk tg (.ref it) v
   assign tg env v
   let mut ok:=true
   for c in ifs do
    if ok then ok <-isTrue c env (eval c env)
   if ok then B acc env
   again (.compLoop (.SetComp elt (⟨tg,iter,ifs,0⟩::rest) csc cpos) 0 (.ref it) acc env)))
 (hg:∀C R H0 ex,PG (X.comp N csc C R H0 ex) tg g) (ht:∀C R H0 ex,PTs (X.comp N csc C R H0 ex) ifs ts)
 (hb:∀C R H0 ex acc,PB (X.comp N csc C R H0 ex) (B (.ref acc) (X.comp N csc C R H0 ex).a) (tb acc))
 (hs:∀x,AM iter X.a x=pure x:=by intro _;rfl) :
 PE X (.SetComp elt (⟨tg,iter,ifs,0⟩::rest) csc cpos) (sF X fr wi g ts tb):=by
 intro pins s σ H Q I h;rw[arm_eval_SetComp];dsimp only;refine Fe (use:=none) rfl hs (wW (S.cells I.y)) S.b S.a ?_;refine kA (use:=none) rfl hc S hi U hg ht (λC R H0 ex acc _=>hb C R H0 ex acc) I h λacc C H' s' I' q' Y hC hL h0 Z W=>?_;obtain⟨m,Y⟩:=Y;refine⟨m,Y,λh' sb=>⟨.c acc,H',?_,rfl,q'⟩⟩;exact I'.turned (t':=s'.toks) (λb o hb e=>(sb.2 b hb).trans e) hC (B6 (B6 hL)) (.inr h0) Z W
def Uk(elt tg iter:Expr)(ifs:List Expr)(csc:Scope)(cpos:Pos)(it:Addr)(acc:Value)(env:Env) :
 Cy (.SetComp elt [⟨tg,iter,ifs,0⟩] csc cpos) 0 (.ref it) acc env=(do
  standAt iter.pos
  match <-pyNext (.ref it) with
  |none=>pure (.done .next)
  |some v=>
   Bk tg (.ref it) v
   assign tg env v
   let mut ok:=true
   for c in ifs do
    if ok then ok <-isTrue c env (eval c env)
   if ok then (do let v <-eval elt env;standAt elt.pos;let _ <-call (.builtin "set.add") [acc,v])
   again (.compLoop (.SetComp elt [⟨tg,iter,ifs,0⟩] csc cpos) 0 (.ref it) acc env)):=by rfl
def fX(hu:X.A.in1.units<cLine)(Z:∀C R H0 ex,(X.comp N csc C R H0 ex).A=X.A)(Y:X.g=true)(S:zZ X N csc fr)(hi:PI X tg iter wi)(W:∀C R H0 ex,PG (X.comp N csc C R H0 ex) tg g)(U:∀C R H0 ex,PTs (X.comp N csc C R H0 ex) ifs ts)
 (he:∀C R H0 ex,PE (X.comp N csc C R H0 ex) elt te) (hs:∀x,AM iter X.a x=pure x:=by intro _;rfl) :
 PE X (.SetComp elt [⟨tg,iter,ifs,0⟩] csc cpos) (sF X fr wi g ts λacc=>nN X acc te):=
 pX (B:=λacc env=>do let v <-eval elt env;standAt elt.pos;let _ <-call (.builtin "set.add") [acc,v]) Y S hi (λit acc env=>Uk elt tg iter ifs csc cpos it acc env) W U
  (λC R H0 ex acc=>mj (X:=X.comp N csc C R H0 ex) (by rw[Z];exact hu) (he C R H0 ex)) hs
end
end L2
end
section
namespace M.St
open PySem PySem.SetTable
def yu.at [DecidableEq K] {κ:xY prog w K}{h h':Heap}{ks}(x:yu κ ld h a ks)(e:∀o,h.get? a=some o->h'.get? a=some o)(k:∀k b,k∈ks->κ.is h k b->κ.is h' k b):yu κ ld h' a ks:=by
 obtain⟨o,es,ep,t,U,R,hd,N,r⟩:=x;exact⟨o,es,ep,t,e o U,R,hd,⟨N.1,λi S e=>by obtain⟨b,X,W⟩:=N.2 i S e;exact⟨b,X,k S b (AF e) W⟩⟩,r⟩
def yu.weak [DecidableEq K] {κ:xY prog w K}{ks}{G S:K->Addr->Prop}(x:yu (κ.vp G) ld h a ks)(g:∀k b,G k b->S k b):yu (κ.vp S) ld h a ks:=by
 obtain⟨o,es,ep,t,W,R,hd,N,r⟩:=x;exact⟨o,es,ep,t,W,R,hd,⟨N.1,λi U e=>by obtain⟨b,Z,Y,X⟩:=N.2 i U e;exact⟨b,Z,Y,g _ _ X⟩⟩,r⟩
def nQ{prog:Program}{w:World}{A:Around}{R:Result->Shared->Prop}{I:Addr}{fp X:List Addr}{Γ:Array GenState->Array GenState->Prop}{n:Nat}{P:Nat->Value->Prop}{St:Nat->Shared->Prop}{G:List Int->Addr->Prop}{zs:List (List Int)}(W:WalksS prog w A.in1 I fp X Γ n P St)S(hSf:S ∉ fp)(hu:A.units+4<cLine)(hP:∀i v,P i v->∃z b,zs[i]?=some z/\v=.ref b/\b ∉ S::X/\G z b)(hz:zs.length=n)(hm:∀L:List (List Int),L.Nodup->(∀z∈L,z∈zs)->L.length<306) :
 ∀k i s ks,n-i=k->i<=n->St i s->yu ((tupS prog w).vp λz b=>G z b/\b ∉ S::X) (!zy w) s.heap S ks->(∀z,z∈ks↔z∈zs.take i) ->
  (∀i z b,zs[i]?=some z->P i (.ref b)->Ea (intKind prog w) s.heap z b) ->
  (∀s' Y,Moved (S::X) Γ s s'->yu ((tupS prog w).vp λz b=>G z b/\b ∉ S::X) (!zy w) s'.heap S Y->(∀z,z∈Y↔z∈zs)->R (.ok (.ret .none)) s') ->
  codeAny (model prog w) A (.builtin "set.update.loop" ⟨[.ref S,.ref I],[]⟩) R s:=by
 have hSw:S ∉ X:=λh=>hSf (W.sub _ h);have hsub:∀b∈X,b∈S::X:=λb hb=>Ay _ hb;have key:∀{h h':Heap} {z:List Int} {b:Addr},(∀c o,c ∉ X->h.get? c=some o->h'.get? c=some o)->b ∉ S::X->Ea (intKind prog w) h z b->Ea (intKind prog w) h' z b:=λ{h h' z b} k nb ⟨o,items,m,ho,r⟩=>⟨o,items,m,k b o (λq=>nb (Ay _ q)) ho,r⟩;intro k;induction k with
 |zero=>
  intro i s ks hk hi hst hS Z hT hR;have e:i=n:=by omega
  subst e;refine Eb Fq ?_;rw[DO Du _];show wpAny _ A.in1 (pyNext (.ref I) >>= _) _ _ s;refine dm (W.done s _ _ hst λs' N=>?_);show wpAny _ A.in1 (ret Ad) _ _ s';refine zO (hR s' ks (N.mono hsub) (hS.at (λo ho=>N.heap S o hSw ho) λz b _ hb=>⟨key (λc o U=>N.heap c o U) hb.2.2 hb.1,hb.2⟩) λz=>?_);rw[Z z,BJ ⋯]
 |succ k ih=>
  intro i s ks hk hi hst hS Z hT hR;have hlt:i<n:=by omega
  refine Eb Fq ?_;rw[DO Du _];show wpAny _ A.in1 (pyNext (.ref I) >>= _) _ _ s;refine dm (W.item i s _ _ hlt hst λv s' hv hst' N=>?_);obtain⟨z,b,ez,rfl,nb,gz⟩:=hP i v hv;have kz:=key (λc o U=>N.heap c o U) nb (hT i z b ez hv);have hS':=hS.at (h':=s'.heap) (λo ho=>N.heap S o hSw ho) λz b _ hb=>⟨key (λc o U=>N.heap c o U) hb.2.2 hb.1,hb.2⟩;have hn:ks.length+1<=306:=by obtain⟨_,_,_,_,_,_,_,_,hnd,_⟩:=hS;exact hm ks hnd λy hy=>Bt ((Z y).mp hy)
  have hu1:A.in1.units<cLine:=by simp only[Around.in1_units];omega
  show wpAny _ A.in1 (holding [Bp b] (setAdd S (.ref b)) >>= _) _ _ s';refine dm (A6 ?_);unfold setAdd;refine A6 (dm (wpAny_pyHash_tuple hu1 kz ?_));refine rO (κ:=(tupS prog w).vp λz b=>G z b/\b ∉ S::X) (s:={s' with toks:=s'.toks+(z.length+1)}) hS' hu1 ⟨kz,gz,nb⟩ hn λh' Y sb st pm=>?_
  have hin':∀y,y∈Y↔y∈zs.take (i+1):=λy=>by
   rw[Ep,ez,AQ];simp only[Option.toList_some,Az];rw[<-Z y];split at pm
   . rename_i hm1;subst pm
     exact⟨.inl,λh=>h.elim id λe=>e▸hm1⟩
   . rw[pm.mem_iff,Ar];exact Or.comm
  have bne:∀{c:Addr},c ∉ S::X->c≠S:=λh e=>h (e▸AE);refine zO ⟨GX Du _,ih (i+1) _ Y ⋯ hlt (W.frame _ s' _ _ hst' (Dl _ _) λc U o e=>?_) st hin' (λj y c e U=>?_) λs'' ks'' hm'' hS'' hin''=>?_⟩
  . exact(sb.2 c (λh:c=S=>hSf (by rw[<-h];exact U))).trans e
  . obtain⟨y',c',e1,e2,e3,_⟩:=hP j _ U
    cases e2;obtain⟨o,items,m,ho,r⟩:=key (λc o U=>N.heap c o U) e3 (hT j y c e U);exact⟨o,items,m,(sb.2 c (bne e3)).trans ho,r⟩
  . refine hR s'' ks'' (Moved.trans W.gtrans ((N.mono hsub).then_heap (Dl _ _) λc o U e=>?_) hm'') hS'' hin''
    exact(sb.2 c (bne U)).trans e
def qi a
 (h:Q₁ (.ref s.heap.objs.size) {s with heap:=s.heap.push {cls:=.type "set",dict:=none,data:=.set #[] 0 (.fresh 0 0 (!zy w))}}) :
 codeAny (model prog w) A (.call (.builtin "set.__new__") ⟨[.type "set",a],[]⟩) (wants Q₁ E) s:=by
 refine E3 ?_;show wpAny _ A.in1 (do checkBuiltinCall "set.__new__" ⟨[.type "set",a],[]⟩;again (.builtin "set.__new__" ⟨[.type "set",a],[]⟩)) _ _ s
 refine dm (Ee (F.newCall_set_1 a) (zO ⟨GX F.plain_set_new _,Eb F.entry_set_new ?_⟩));rw[DO F.plain_set_new _];unfold Builtin.«set.__new__» Builtin.Frozenset.newClass;have N:=sub_set_self;obtain⟨hp,g,d,tk,os⟩:=s;dsimp only
 wp_walk
 refine Cf (zO ?_);dsimp only;simp only[newObj];refine dm (wpAny_alloc (zO ?_));exact zO h
def qg{zs:List (List Int)}
 (hh:A.handled=none) (hu:A.units+40<cLine) (hl:s.heap.IsList l items) (hz:zs.length=items.size) (hi:∀(i:Nat) z,zs[i]?=some z->∃b,items[i]?=some (.ref b)/\Ea (intKind prog w) s.heap z b/\G z b) (hm:∀L:List (List Int),L.Nodup->(∀z∈L,z∈zs)->L.length<306)
 (h:∀h' tk ks,yu ((tupS prog w).vp G) (!zy w) h' s.heap.objs.size ks->(∀z,z∈ks↔z∈zs)->(∀b o,b<s.heap.objs.size->s.heap.get? b=some o->h'.get? b=some o)->Q (.ref s.heap.objs.size) {s with heap:=h',toks:=tk}) :
 wpAny (model prog w) A (call (.type "set") [.ref l]) Q E s:=by
 obtain⟨c,tl,hmro⟩:=DW.mro;have hmade:=DW.made;have hsub:=DW.sub;refine wpAny_call (E3 ?_);show wpAny _ _ (callAny (.type "set") _) _ _ _;refine zO ⟨Code.quiet_builtin _ (by decide +kernel),Eb F.entry_type_call ?_⟩
 rw[Around.under_plain (weight_type_call_type "set" [.ref l] []) rfl];have h1:=DW.notType;have h2:=DW.canCreate;have hct:=F.typeCall_set_1 (.ref l)
 repeat (any_goals (first|assumption|wp_step))
 refine F7 (qi (.ref l) (E:=E) (Q₁:=λobj Z=>obj=.ref s.heap.objs.size/\Z={s with heap:=s.heap.push {cls:=.type "set",dict:=none,data:=.set #[] 0 (.fresh 0 0 (!zy w))}}) ⟨rfl,rfl⟩) λr Z hr=>?_
 cases r with
 |error e=>exact hr
 |ok fl=>
  cases fl with
  |ret obj=>
   obtain⟨rfl,rfl⟩:=hr;have hS:(s.heap.push {cls:=.type "set",dict:=none,data:=.set #[] 0 (.fresh 0 0 (!zy w))}).get? s.heap.objs.size=some {cls:=.type "set",dict:=none,data:=.set #[] 0 (.fresh 0 0 (!zy w))}:=AA _ rfl;have hT:Shared.TypeIs {s with heap:=s.heap.push {cls:=.type "set",dict:=none,data:=.set #[] 0 (.fresh 0 0 (!zy w))}} (.ref s.heap.objs.size) "set":=⟨_,hS,rfl⟩
   have hli:=DW.init.lookup;have hbi:=DW.init.bind (.ref s.heap.objs.size)
   repeat (any_goals (first|assumption|wp_step))
   refine F7 (codeAny_call_builtin (R:=wants (λr Y=>r=.none/\∃h' tk ks,Y={s with heap:=h',toks:=tk} /\
    yu ((tupS prog w).vp G) (!zy w) h' s.heap.objs.size ks/\(∀z,z∈ks↔z∈zs) /\
    (∀b o,b<s.heap.objs.size->s.heap.get? b=some o->h'.get? b=some o)) E) DW.init.plain F.entry_set_init (check_set_init_1 hT ?_)) λr₂ Y N=>?_
   . obtain⟨ol,hol,hcl,nl,hdl⟩:=hl
     obtain⟨ocls,odict,odata,W⟩:=ol;simp only at hcl hdl;subst hcl;subst hdl;have hol':(s.heap.push {cls:=.type "set",dict:=none,data:=.set #[] 0 (.fresh 0 0 (!zy w))}).get? l=some {cls:=.type "list",dict:=odict,data:=.seq items nl,slots:=W}:=xd _ hol;have hsls:=F.sub_list_set;have hslf:=F.sub_list_frozenset;have hne:(DH "list" == DH "dict")=false:=by decide
     have hl1:(s.heap.push {cls:=.type "set",dict:=none,data:=.set #[] 0 (.fresh 0 0 (!zy w))}).IsList l items:=⟨_,hol',rfl,nl,rfl⟩;unfold Builtin.«set.__init__» noKeywords Builtin.Frozenset.updateFrom;generalize hPI:pyIter=PI
     wp_walk
     subst hPI;refine Eh hl1 ?_;refine dm (wpAny_runValue ?_);have hlS:@LT.lt Nat _ l s.heap.objs.size:=An hol;have hh3:A.in1.in1.in1.handled=none:=by simp[hh]
     generalize hit:(s.heap.push {cls:=.type "set",dict:=none,data:=.set #[] 0 (.fresh 0 0 (!zy w))}).objs.size=it;have S:it=s.heap.objs.size+1:=by rw[<-hit,B9]
     have hneI:l≠it:=Ax (by rw[S];exact Bu hlS)
     have hSf:s.heap.objs.size ∉ [it,l]:=by simp only[Ar,BG,or_false,not_or];exact⟨Ax (by rw[S];exact CN _),El hlS⟩
     have two:∀{b:Addr},@LT.lt Nat _ b s.heap.objs.size->b ∉ [s.heap.objs.size,it]:=λ{b} hb=>by simp only[Ar,BG,or_false,not_or];exact⟨Ax hb,Ax (by rw[S];exact Bu hb)⟩
     have hval:∀(i:Nat) (v:Value),items[i]?=some v->∃z b,zs[i]?=some z/\v=.ref b/\b ∉ [s.heap.objs.size,it]/\G z b:=λi v hv=>by
      have hil:i<zs.length:=by rw[hz];exact(AY.mp hv).1
      obtain⟨b,e1,⟨o,its,m,ho,_⟩,g⟩:=hi i _ (dS hil);rw[hv]at e1;exact⟨_,b,dS hil,AK e1,two (An ho),g⟩
     refine nQ (G:=G) (zs:=zs) ((Im hh3 _ l hneI items).toS) s.heap.objs.size hSf (by simp only[Around.in1_units];omega) hval hz hm (items.size-0) 0 _ [] ⋯ (AS _)
      ⟨⟨_,by rw[<-hit];exact AA _ rfl,rfl,rfl⟩,(hl1.push _)⟩ ?hS0 (λz=>by simp) (λi z b e hb=>?hT0) ?hR
     case hS0=>
      exact⟨_,#[],0,_,xd _ hS,⟨rfl,rfl,rfl⟩,rfl,⟨rfl,λi k e=>by cases e⟩,Gz,mZ _,rfl,rfl,rfl,AS _⟩
     case hT0=>
      obtain⟨b',e1,⟨o,its,m,ho,r⟩,_⟩:=hi i z e;rw[show items[i]?=some (.ref b) from hb]at e1;cases e1;exact⟨o,its,m,xd _ (xd _ ho),r⟩
     case hR=>
      intro s' ks' X hS' U;obtain⟨h',g',d',tk',os'⟩:=s';have eg:g'=s.gens:=X.gens;have ed:d'=s.drawn:=X.drawn;have eo:os'=s.os:=X.os;subst eg;subst ed;subst eo;show wpAny _ _ _ _ _ _;refine zO ?_;show wpAny _ _ (ret Ad) _ _ _;refine zO ⟨rfl,h',tk',ks',rfl,hS'.weak (λ_ _ g=>g.1),U,λb o hb e=>?_⟩;exact X.heap b o (two hb) (xd _ (xd _ e))
   . cases r₂ with
     |error e=>exact N
     |ok fl₂=>
      cases fl₂ with
      |ret r=>
       obtain⟨rfl,h',tk,ks,rfl,hS',U,hk'⟩:=N
       repeat (any_goals (first|assumption|wp_step))
       exact h _ _ _ hS' U hk'
      |_=>exact N.elim
  |_=>exact hr.elim
end M.St
end
section
namespace L2
open PySem PySem.Spec PySem.W PySem.Calls PyProof PyProof.Rows
def gT(hc:X.g=true)(hu:X.A.units+40<cLine):yN X (.type "set") (λxs H Q=>∃p,∃cs:List Addr,∃zs:List (List Int),∃G:List Int->Addr->Prop,xs=[.c p]/\SqL X.K H p (cs.map V.c)/\cs.length=zs.length/\Each G zs cs/\(∀(i:Nat) z c,zs[i]?=some z->cs[i]?=some c->SqT X.K H c (z.map V.d)) /\
 (∀L:List (List Int),L.Nodup->(∀z∈L,z∈zs)->L.length<306) /\
 ∀l ks bs,H l=none->SqS X (upd H l (yj X l ks bs)) l ks bs->Each G ks bs->ks.Nodup->(∀z,z∈ks↔z∈zs)->Q (.c l) (upd H l (yj X l ks bs))):=by
 intro pins s σ H xs us Q I r h;obtain⟨p,cs,zs,G,rfl,hq,hl,hg,ht,hm,q⟩:=h;obtain⟨u,rfl,rx⟩:=vals1 r;cases rx;obtain⟨its,rv,pl,hz⟩:=I.list hq;have R:=rv.length;rw[Aa]at R;refine M.St.qg (G:=λz b=>SqT X.K H b (z.map V.d)/\G z b) (zs:=zs) (I.y.l hc) hu pl.isList (by rw[Ae];omega) (λi z e=>?_) hm λh' tk ks hS Y kp=>?_
 . have hi:i<cs.length:=by rw[hl];exact(As.mp e).1
   have ec:cs[i]?=some cs[i]:=dS hi;have sq:=ht i z _ e ec;obtain⟨its',r',⟨o,ho,Z,n,hd⟩,_⟩:=I.tuple sq;obtain⟨v,U,S⟩:=rv.get (i:=i) (x:=V.c cs[i]) (by rw[Am,ec];rfl)
   cases S;exact⟨cs[i],by rw[Et];exact U,⟨o,its'.toArray,n,ho,Z,hd,u0 r'⟩,sq,hg i z _ e ec⟩
 . obtain⟨bs,so,ta⟩:=hS.split
   have N:M.St.vR (M.St.tupS X.f X.w) (!M.St.zy X.w) ks bs s.heap.objs.size h':=so;have fr:=I.j.fresh (Ac s.heap.objs.size);refine⟨.c _,_,I.laid (t':=tk) (o:=yj X s.heap.objs.size ks bs) (λb o e=>kp b o (An e) e) (Ac _) (jP N),rfl,q _ ks bs fr ⟨zd,λi k b U S=>?_⟩ (λi k b U S=>(ta i k b U S).2.2) ?_ Y⟩
   . rcases (ta i k b U S).2.1 with h|h
     . refine .inl ?_
       rcases h with h|⟨o,h⟩
       . exact .inl (by rw[zP (zR h fr)];exact h)
       . exact .inr ⟨o,by rw[zP (zR h fr)];exact h⟩
     . exact .inr h
   . obtain⟨_,_,_,_,_,_,_,_,_,_,W,_⟩:=N
     exact W
def nq
 (h0:codeAny (model prog w) A (.compLoop (.SetComp elt [⟨tg,iter,ifs,0⟩,⟨tg2,iter2,ifs2,0⟩] csc cpos) 1 it acc env) R s)
 (h:wpAny (model prog w) A (pyIter it) (λN s'=>codeAny (model prog w) A (.compLoop (.SetComp elt [⟨tg,iter,ifs,0⟩,⟨tg2,iter2,ifs2,0⟩] csc cpos) 1 N acc env) R s')
  (notedBy (model prog w) A env λx s'=>R (.error x) s') s) :
 codeAny (model prog w) A (.compStart (.SetComp elt [⟨tg,iter,ifs,0⟩,⟨tg2,iter2,ifs2,0⟩] csc cpos) 1 it acc env) R s:=by
 refine E3 ?_;show wpAny _ _ ((GJ (.SetComp elt [⟨tg,iter,ifs,0⟩,⟨tg2,iter2,ifs2,0⟩] csc cpos) 1 it acc env).onRaise (λx=>do HN x env;standAt HP)) _ _ s
 refine Iw ?_;unfold GJ;show wpAny _ _ (ask >>= _) _ _ s;refine dm (Cf (wpAny_ite ?_));split
 . first
    |exact dm (zO (zO (Af rfl h0)))
    |exact zO (Af rfl h0)
 . first
    |exact dm (BM (dm (BK (dm (BU h (λN s' h'=>zO (Af rfl h')) λ_ _ x=>x)))))
    |(refine dm (BM ?_);show wpAny _ _ (standAt iter2.pos >>= _) _ _ s;exact dm (BK (dm (BU h (λN s' h'=>zO (Af rfl h')) λ_ _ x=>x))))
def Um(elt tg iter:Expr)(ifs:List Expr)(R N:Expr)(ifs2:List Expr)(csc:Scope)(cpos:Pos)(it:Addr)(acc:Value)(env:Env) :
 Cy (.SetComp elt [⟨tg,iter,ifs,0⟩,⟨R,N,ifs2,0⟩] csc cpos) 0 (.ref it) acc env=(do
  standAt iter.pos
  match <-pyNext (.ref it) with
  |none=>pure (.done .next)
  |some v=>
   Bk tg (.ref it) v
   assign tg env v
   let mut ok:=true
   for c in ifs do
    if ok then ok <-isTrue c env (eval c env)
   if ok then (do
    let x <-eval N env
    standAt N.pos
    let x <-AM N env x;let _ <-runOwn (.compStart (.SetComp elt [⟨tg,iter,ifs,0⟩,⟨R,N,ifs2,0⟩] csc cpos) 1 (<-holding [x] (pyIter x)) acc env) env)
   again (.compLoop (.SetComp elt [⟨tg,iter,ifs,0⟩,⟨R,N,ifs2,0⟩] csc cpos) 0 (.ref it) acc env)):=by
 have e:Cy (.SetComp elt [⟨tg,iter,ifs,0⟩,⟨R,N,ifs2,0⟩] csc cpos) 0 (.ref it) acc env=(do
  standAt iter.pos
  match <-pyNext (.ref it) with
  |none=>pure (.done .next)
  |some v=>
   Bk tg (.ref it) v
   assign tg env v
   let mut ok:=true
   for c in ifs do
    if ok then ok <-isTrue c env (eval c env)
   if ok then
    let x <-eval N env
    standAt N.pos
    let x <-AM N env x;let _ <-runOwn (.compStart (.SetComp elt [⟨tg,iter,ifs,0⟩,⟨R,N,ifs2,0⟩] csc cpos) 1 (<-holding [x] (pyIter x)) acc env) env
   again (.compLoop (.SetComp elt [⟨tg,iter,ifs,0⟩,⟨R,N,ifs2,0⟩] csc cpos) 0 (.ref it) acc env)):=by rfl
 rw[e];simp only[Il,F0]
def XO(elt tg iter:Expr)(ifs:List Expr)(R N:Expr)(ifs2:List Expr)(csc:Scope)(cpos:Pos)(it:Addr)(acc:Value)(env:Env) :
 Cy (.SetComp elt [⟨tg,iter,ifs,0⟩,⟨R,N,ifs2,0⟩] csc cpos) 1 (.ref it) acc env=(do
  standAt N.pos
  match <-pyNext (.ref it) with
  |none=>pure (.done .next)
  |some v=>
   Bk R (.ref it) v
   assign R env v
   let mut ok:=true
   for c in ifs2 do
    if ok then ok <-isTrue c env (eval c env)
   if ok then (do let v <-eval elt env;standAt elt.pos;let _ <-call (.builtin "set.add") [acc,v])
   again (.compLoop (.SetComp elt [⟨tg,iter,ifs,0⟩,⟨R,N,ifs2,0⟩] csc cpos) 1 (.ref it) acc env)):=by rfl
def fV
 (hx:X.h=λ_ _=>False) (hc:X.g=true) (hi:PI X tg2 iter2 wi) (hg:PG X tg2 g) (Z:PTs X ifs2 ts) (hb:PB X (do let v <-eval elt X.a;standAt elt.pos;let _ <-call (.builtin "set.add") [.ref acc,v]) tb)
 (hs:∀x,AM iter2 X.a x=pure x:=by intro _;rfl) :
 PB X (do
       let x <-eval iter2 X.a
       standAt iter2.pos
       let x <-AM iter2 X.a x;let _ <-runOwn (.compStart (.SetComp elt [⟨tg,iter,ifs,0⟩,⟨tg2,iter2,ifs2,0⟩] csc cpos) 1 (<-holding [x] (pyIter x)) (.ref acc) X.a) X.a) (uc wi g ts tb):=by
 intro pins s σ H Nx I h;refine dm (thn (hi pins s σ H _ I h) λv s1 h1=>dm (BK (dm (Ee (hs v) (dm (A6 (thn h1 λY s2 h2=>?_)))))));obtain⟨it,fp,tn,J,H2,e,I2,T,S,f2,U⟩:=h2;subst e;refine dm (wpAny_runOwn ?_);have R:codeAny (model X.f X.w) X.A (.compLoop (.SetComp elt [⟨tg,iter,ifs,0⟩,⟨tg2,iter2,ifs2,0⟩] csc cpos) 1 (.ref it) (.ref acc) X.a)
  (λr s'=>match r with|.ok f=>wpAny (model X.f X.w) X.A (pure PUnit.unit:Sem PUnit) (λ_ s'=>∃N H',Inv X pins N H' s'/\Nx N H') X.h s'|.error e=>cameBackBy (model X.f X.w) X.A X.a X.h e s') s2:=
  rW (XO ..) hx hc T hg Z hb I2 S f2 U λN H' s' I' W _=>zO ⟨N,H',I',W⟩
 exact nq R (T.d X.A 0 _ _ _ S R)
def fY(hu:X.A.in1.units<cLine)(hc:X.g=true)(S:zZ X N csc fr)(hi:PI X tg iter wi)(hg:∀C R H0 ex,PG (X.comp N csc C R H0 ex) tg g)(ht:∀C R H0 ex,PTs (X.comp N csc C R H0 ex) ifs ts)
 (Y:∀C R H0 ex,PI (X.comp N csc C R H0 ex) tg2 iter2 wi2) (Z:∀C R H0 ex,PG (X.comp N csc C R H0 ex) tg2 g2) (U:∀C R H0 ex,PTs (X.comp N csc C R H0 ex) ifs2 ts2)
 (he:∀C R H0 ex,PE (X.comp N csc C R H0 ex) elt te) (hs:∀x,AM iter X.a x=pure x:=by intro _;rfl)
 (W:∀env x,AM iter2 env x=pure x:=by intro _ _;rfl) :
 PE X (.SetComp elt [⟨tg,iter,ifs,0⟩,⟨tg2,iter2,ifs2,0⟩] csc cpos) (sF X fr wi g ts λacc=>uc wi2 g2 ts2 (nN X acc te)):=
 pX hc S hi (B:=λacc env=>(do
         let x <-eval iter2 env
         standAt iter2.pos
         let x <-AM iter2 env x;let _ <-runOwn (.compStart (.SetComp elt [⟨tg,iter,ifs,0⟩,⟨tg2,iter2,ifs2,0⟩] csc cpos) 1 (<-holding [x] (pyIter x)) acc env) env)) (Um elt tg iter ifs tg2 iter2 ifs2 csc cpos) hg ht
  (λC R H0 ex acc=>fV rfl hc (Y C R H0 ex) (Z C R H0 ex) (U C R H0 ex) (mj (X:=X.comp N csc C R H0 ex) hu (he C R H0 ex)) (W _)) hs
end L2
end
section
namespace M
open PySem
inductive Val where
 |h|e (b:Bool)|c (i:Int)|m (x:Str)
 |g (vs:List Val)|f (vs:List Val)|p
 |o (ns:List Int)|r (ns:List Int)
 |j (i:Nat)|u (x:Str)|t (n:String)|q (i:Nat)
 /-- the k-th lambda of a list of lambdas,at the address a -/
 |s (a k:Nat)
 deriving Inhabited
inductive Cel where
 |c (vs:List Val)
 |d (kvs:List (Str × Val))
 |e (kvs:List (List Int × Val))
 /-- the table of the codes that lie within the def x -/
 |f (x:Str)
 deriving Inhabited
abbrev Sto:=List Cel
abbrev Env:=List (Option Val)
inductive Out(α:Type) where
 |e (a:α) (s:Sto)
 |g (c:Str) (args:List Val) (s:Sto)
 |d
noncomputable def Out.bind{R N:Type}(o:Out R)(f:R->Sto->Out N):Out N:=
 match o with
 |.e a s=>f a s
 |.g c as s=>.g c as s
 |.d=>.d
@[simp] def zJ a s(f:α->Sto->Out β):(Out.e a s).bind f=f a s:=rfl
@[simp] def rR(f:α->Sto->Out β):(Out.d:Out α).bind f=.d:=rfl
@[simp] def eX c as s(f:α->Sto->Out β):(Out.g c as s:Out α).bind f=.g c as s:=rfl
mutual
noncomputable def Val.isD:Val->Bool
 |.h|.e _|.c _=>true
 |.m x=>PyData.strOk x
 |.g vs=>vb vs
 |.f vs=>vb vs
 |.p|.o _|.r _|.j _|.u _|.t _|.q _|.s _ _=>false
noncomputable def vb:List Val->Bool
 |[]=>true
 |v::vs=>v.isD&&vb vs
end
mutual
noncomputable def Val.isR:Val->Bool
 |.h|.e _|.c _|.m _|.p=>true
 |.g vs=>uz vs
 |.f vs=>uz vs
 |.o _|.r _|.j _|.u _|.t _|.q _|.s _ _=>false
noncomputable def uz:List Val->Bool
 |[]=>true
 |v::vs=>v.isR&&uz vs
end
mutual
noncomputable def Val.d:Val->PyData
 |.h=>.none
 |.e b=>.bool b
 |.c i=>.int i
 |.m x=>.str x
 |.g vs=>.tuple (ds vs)
 |.f vs=>.list (ds vs)
 |.p=>.dict []
 |.o _|.r _|.j _|.u _|.t _|.q _|.s _ _=>.none
noncomputable def ds:List Val->List PyData
 |[]=>[]
 |v::vs=>v.d::ds vs
end
mutual
noncomputable def Val.noRef:Val->Bool
 |.j _|.q _=>false
 |.g vs=>z6 vs
 |.f vs=>z6 vs
 |.h|.e _|.c _|.m _|.p|.o _|.r _|.u _|.t _|.s _ _=>true
noncomputable def z6:List Val->Bool
 |[]=>true
 |v::vs=>v.noRef&&z6 vs
end
def Cel.noRef:Cel->Bool
 |.c vs=>z6 vs
 |.d kvs=>z6 (kvs.map (·.2))
 |.e kvs=>z6 (kvs.map (·.2))
 |.f _=>true
mutual
noncomputable def Val.beq:Val->Val->Bool
 |.h,.h=>true
 |.e a,.e b=>a == b
 |.c a,.c b=>a == b
 |.m a,.m b=>a == b
 |.g a,.g b=>tj a b
 |.f a,.f b=>tj a b
 |.p,.p=>true
 |.o a,.o b=>a == b
 |.r a,.r b=>a == b
 |.j a,.j b=>a == b
 |.u a,.u b=>a == b
 |.t a,.t b=>a == b
 |.q a,.q b=>a == b
 |.s a k,.s b l=>a == b&&k == l
 |_,_=>false
noncomputable def tj:List Val->List Val->Bool
 |[],[]=>true
 |a::as,b::bs=>a.beq b&&tj as bs
 |_,_=>false
end
def Cel.beq:Cel->Cel->Bool
 |.c a,.c b=>tj a b
 |.d a,.d b=>decide (a.map (·.1)=b.map (·.1))&&tj (a.map (·.2)) (b.map (·.2))
 |.e a,.e b=>decide (a.map (·.1)=b.map (·.1))&&tj (a.map (·.2)) (b.map (·.2))
 |.f a,.f b=>decide (a=b)
 |_,_=>false
def x9:Sto->Sto->Bool
 |[],_=>true
 |o::r,o'::r'=>(o'.noRef||o'.beq o)&&x9 r r'
 |_::_,[]=>false
mutual
noncomputable def vB(N:Nat)(s:Sto):Nat->Val->Option Val
 |_,.q i=>if i<N then some (.q i) else pn
 |_,.j i=>if i<N then some (.j i) else match s[i]? with
  |some (.c vs)=>if z6 vs then some (.f vs) else pn
  |_=>pn
 |k+1,.g vs=>(uw N s k vs).map .g
 |_,v=>if v.noRef then some v else pn
noncomputable def uw(N:Nat)(s:Sto):Nat->List Val->Option (List Val)
 |_,[]=>some []
 |0,_::_=>pn
 |k+1,v::vs=>match (if v.noRef then some v else vB N s k v),uw N s k vs with
  |some v',some vs'=>some (v'::vs')
  |_,_=>pn
end
def freeze(N:Nat)(s:Sto)(v:Val):Option Val:=if v.noRef then some v else vB N s 20 v
inductive Bop|a|e|b|c|d|g|h|i|f
 deriving DecidableEq
inductive Cop|b|g|l|e|h|j|m|f|i|a|k|c|d
 deriving DecidableEq
inductive Bf|a|p|q|d|l|b|h|j|k|s|o|i|c|r|e|n|g|m
 deriving DecidableEq
inductive Mf|a|b|c|f|d|e
 deriving DecidableEq
inductive Tgt
 |a (i:Nat)
 |b (is:List Nat)
mutual
inductive Ex
 |g (v:Val)|e (i:Nat)|I (x:Str)|O (x:Str) (n:String)
 |h (m:Bool) (op:Bop) (a b:Ex)|D (a:Ex)|G (a:Ex)
 |q (op:Cop) (a b:Ex)|y (op op':Cop) (a b c:Ex)
 |z (a:Ex) (es:Exs)|M (a:Ex) (es:Exs)|L (c:Cn) (a b:Ex)
 |k (es:Exs)|u (m:Bool) (es:Exs)|H
 |j (f:Str) (ver:Nat) (es:Exs)|l (f:Bf) (m:Bool) (es:Exs)|J (a d:Ex)
 |P (f:Mf) (m:Bool) (o:Ex) (es:Exs)
 |s (a b:Ex)|K (m:Bool) (a:Ex) (lo hi st:OEx)
 |p (m:Bool) (N:List Str) (fr:List (Option Nat)) (elt:Ex) (t:Tgt) (it:Itb) (ifs:Cns)
 |w (m:Bool) (N:List Str) (fr:List (Option Nat)) (elt:Ex) (t:Tgt) (it:Itb) (ifs:Cns) (t2:Tgt) (it2:Itb) (ifs2:Cns)
 |r (m:Bool) (a b c:Ex)
 |F (t:Bool)|Q (a b:Ex)
 /-- a set GS: only what is walked is known of it -/
 |E (a:Ex)
 /-- sorted(set(a));sorted of a set GS -/
 |C (m:Bool) (a:Ex)
 |B (m:Bool) (N:List Str) (fr:List (Option Nat)) (elt:Ex) (t:Tgt) (it:Itb) (ifs:Cns)
 |A (m:Bool) (N:List Str) (fr:List (Option Nat)) (elt:Ex) (t:Tgt) (it:Itb) (ifs:Cns) (t2:Tgt) (it2:Itb) (ifs2:Cns)
inductive Exs
 |b|a (e:Ex) (es:Exs)
inductive OEx
 |b|a (e:Ex)
inductive Cn
 |a (e:Ex)|d (c:Cn)|b (c:Cn) (cs:Cns)|f (c:Cn) (cs:Cns)
inductive Cns
 |a|b (c:Cn) (cs:Cns)
inductive Itb
 |f (e:Ex)|d (a:Ex)|g (a b:Ex)|i (e:Ex)|j (a b:Ex)|h (a b c:Ex)
end
mutual
inductive Sm
 |m (e:Ex)|f (e:Ex)|v|d (i:Nat) (e:Ex)|p (is:List Nat) (e:Ex)|q (is:List Nat) (es:Exs)
 |w (i:Nat) (op:Bop) (e:Ex)|l (o i e:Ex)
 |j (c:Cn) (a b:Sms)|g (t:Tgt) (it:Itb) (b:Sms)|r (c:Cn) (b:Sms)
 |u|y|s|n (e:Ex)|x (o i e:Ex)
inductive Sms
 |f|e (s:Sm) (ss:Sms)
 /-- x=[lambda: ..];x.append(lambda: ..) ..;mid;then a row with [_law_said(c) for c in x];k: 0 it is returned,1 it is returned whether it is d,2 if it is not d (or o): b -/
 |g (i:Nat) (L:Exs) (mid:Sms) (k:Nat) (d:Ex) (o:Cns) (b cs:Sms)
end
structure Fn where
 N:List Str
 a:List Str
 c:Bool
 b:Sms
abbrev Calls:=Str->Nat->List Val->Sto->Out Val
noncomputable def zN:Nat:=16777216
noncomputable def newList(m:Bool)(vs:List Val)(s:Sto):Out Val:=if m then .e (.j s.length) (s++[.c vs]) else .e (.f vs) s
noncomputable def y9(s:Sto):Val->Option (List Val)
 |.g vs=>some vs
 |.f vs=>some vs
 |.o ns=>some (ns.map .c)
 |.r ns=>some (ns.map .c)
 |.j i=>match s[i]? with
  |some (.c vs)=>some vs
  |_=>pn
 |_=>pn
noncomputable def yL(s:Sto):Val->Option (List Val)
 |.f vs=>some vs
 |.j i=>match s[i]? with
  |some (.c vs)=>some vs
  |_=>pn
 |_=>pn
def truth(s:Sto):Val->Option Bool
 |.h=>some false
 |.e b=>some b
 |.c i=>some (i != 0)
 |.m x=>if x.length<=zN then some ((x.length:Int) != 0) else pn
 |.g vs=>some !vs.isEmpty
 |.f vs=>some !vs.isEmpty
 |.p=>some false
 |.j i=>match s[i]? with
  |some (.c vs)=>some !vs.isEmpty
  |_=>pn
 |_=>pn
def Out.truth(o:Out Val):Out Bool:=o.bind λv s=>match M.truth s v with
 |some b=>.e b s
 |pn=>.d
noncomputable def yr(s:Sto):Val->Val
 |.j i=>match s[i]? with
  |some (.c vs)=>.f vs
  |_=>.j i
 |v=>v
def zw(s:Sto):Val->Val
 |.g vs=>.g (vs.map (yr s))
 |v=>yr s v
def t9(d:PyData):Bool:=d.showable&&d.leavesShort 40&&decide (d.depth<=50)&&decide (d.weight<=300000)&&(!d.hasDict||!L2.y4 d)
noncomputable def flat:Val->Bool
 |.h|.e _|.c _|.m _=>true
 |_=>false
noncomputable def eqF:Val->Val->Bool
 |.h,.h=>true
 |.e a,.e b=>a == b
 |.e a,.c b=>(if a then 1 else 0) == b
 |.c a,.e b=>a == (if b then 1 else 0)
 |.c a,.c b=>a == b
 |.m a,.m b=>a == b
 |_,_=>false
def nz(a b:Val):Option Bool:=if a.isD&&b.isD&&decide (b.d.depth<=60) then some (Ck a.d b.d) else pn
noncomputable def intsOf:List Val->Option (List Int)
 |[]=>some []
 |.c i::vs=>(intsOf vs).map (i::·)
 |_=>pn
noncomputable def Val.isN:Val->Bool
 |.h=>true
 |_=>false
def inD(x:Val)(vs:List Val):Bool:=x.isD&&vb vs&&decide (x.d.depth<=60)
noncomputable def Ze{κ:Type} [DecidableEq κ]:List (κ × Val)->κ->Option Val
 |[],_=>pn
 |p::r,k=>if p.1=k then some p.2 else Ze r k
def U9{κ:Type} [DecidableEq κ] (N:List (κ × Val))(k:κ)(v:Val):List (κ × Val):=
 if (Ze N k).isSome then N.map (λp=>if p.1=k then (p.1,v) else p) else N++[(k,v)]
noncomputable def Xd(s:Sto):Val->Option (Nat × Cel)
 |.q i=>(s[i]?).map λc=>(i,c)
 |_=>pn
def WS:Cel->Val->Option (Option Val)
 |.d kvs,.m k=>some (Ze kvs k)
 |.e kvs,.g vs=>(intsOf vs).map λk=>Ze kvs k
 |_,_=>pn
def WT:Cel->Val->Val->Option Cel
 |.d kvs,.m k,v=>if kvs.length<zN then some (.d (U9 kvs k v)) else pn
 |.e kvs,.g vs,v=>(intsOf vs).bind λk=>if kvs.length<zN then some (.e (U9 kvs k v)) else pn
 |_,_,_=>pn
def getD(d y:Val)(s:Sto):Option (Option Val):=(Xd s d).bind λc=>WS c.2 y
def ixD(d y:Val)(s:Sto):Out Val:=match getD d y s with
 |some (some v)=>.e v s
 |_=>.d
def putD(d y v:Val)(s:Sto):Option Sto:=(Xd s d).bind λc=>(WT c.2 y v).map λN=>s.set c.1 N
noncomputable def strsOf:List Val->Option (List Str)
 |[]=>some []
 |.m x::vs=>(strsOf vs).map (x::·)
 |_=>pn
def zQ(op:Cop)(x y:Val)(s:Sto):Out Val:=
 match op with
 |.b=>match x,y with
  |.m a,.m b=>.e (.e (decide (a=b))) s
  |.g a,.o ns=>match nz (zw s (.g a)) (.g (ns.map .c)) with|some b=>.e (.e b) s|pn=>.d
  |_,_=>match nz (zw s x) (zw s y) with|some b=>.e (.e b) s|pn=>.d
 |.g=>match x,y with
  |.m a,.m b=>.e (.e !(decide (a=b))) s
  |_,_=>match nz (zw s x) (zw s y) with|some b=>.e (.e !b) s|pn=>.d
 |.m=>match y with|.h=>.e (.e x.isN) s|.e b=>(match x with|.e a=>.e (.e (decide (a=b))) s|_=>.d)|_=>.d
 |.f=>match y with|.h=>.e (.e !x.isN) s|.e b=>(match x with|.e a=>.e (.e !(decide (a=b))) s|_=>.d)|_=>.d
 |.i=>match y9 s y with
  |some vs=>if flat x&&vs.all flat then .e (.e (vs.any λz=>eqF z x)) s else if inD x vs then .e (.e (vs.any λz=>Ck z.d x.d)) s else .d
  |pn=>.d
 |.a=>match y9 s y with
  |some vs=>if flat x&&vs.all flat then .e (.e !(vs.any λz=>eqF z x)) s else if inD x vs then .e (.e !(vs.any λz=>Ck z.d x.d)) s else .d
  |pn=>.d
 |.k=>match getD y x s with|some o=>.e (.e o.isSome) s|pn=>.d
 |.c=>match getD y x s with|some o=>.e (.e !o.isSome) s|pn=>.d
 |.d=>match x with
  |.p=>(match y9 s y with
   |some vs=>(match M.intsOf vs with|some _=>.e (.e true) s|pn=>.d)
   |pn=>.d)
  |_=>(match y9 s y with
   |some vs=>if flat x&&vs.all flat then .e (.e !(vs.any λz=>eqF z x)) s else if inD x vs then .e (.e !(vs.any λz=>Ck z.d x.d)) s else .d
   |pn=>.d)
 |.l=>match x,y with|.c i,.c j=>.e (.e (decide (i<j))) s|_,_=>.d
 |.e=>match x,y with|.c i,.c j=>.e (.e (decide (i<=j))) s|_,_=>.d
 |.h=>match x,y with|.c i,.c j=>.e (.e (decide (j<i))) s|_,_=>.d
 |.j=>match x,y with|.c i,.c j=>.e (.e (decide (j<=i))) s|_,_=>.d
def binOp(m:Bool)(op:Bop)(x y:Val)(s:Sto):Out Val:=
 match op with
 |.a=>match x,y with
  |.c i,.c j=>.e (.c (i+j)) s
  |.m a,.m b=>if a.length+b.length<=zN then .e (.m (a++b)) s else .d
  |.g a,.g b=>if a.length+b.length<=zN then .e (.g (a++b)) s else .d
  |_,_=>match yL s x,yL s y with
   |some a,some b=>if a.length+b.length<=zN then newList m (a++b) s else .d
   |_,_=>.d
 |.e=>match x,y with|.c i,.c j=>.e (.c (i-j)) s|_,_=>.d
 |.b=>match x,y with
  |.c i,.c j=>if (-(2 ^ 64)<i/\i<2 ^ 64)\/(-(2 ^ 64)<j/\j<2 ^ 64) then .e (.c (i*j)) s else .d
  |.g a,.c k=>if -1000<=k/\k<=1000/\a≠[]/\a.length<=1000 then .e (.g (AU k.toNat a).flatten) s else .d
  |_,.c k=>match yL s x with
   |some a=>if -1000<=k/\k<=1000/\a.length*k.toNat<=zN then newList m (AU k.toNat a).flatten s else .d
   |pn=>.d
  |_,_=>.d
 |.c=>match x,y with|.c i,.c j=>if 0<j/\j<1073741824 then .e (.c (i/j)) s else .d|_,_=>.d
 |.d=>match x,y with|.c i,.c j=>if 0<j then .e (.c (i%j)) s else .d|_,_=>.d
 |.g=>match x,y with|.c i,.c j=>if 0<=j/\j<=1000000/\i.natAbs<2 ^ 64 then .e (.c (i ^ j.toNat)) s else .d|_,_=>.d
 |.h=>match x,y with|.c i,.c j=>if 0<=j/\j<=1000000/\i.natAbs<2 ^ 64 then .e (.c (i*2 ^ j.toNat)) s else .d|_,_=>.d
 |.i=>match x,y with|.c i,.c j=>if 0<=j then .e (.c (i/2 ^ j.toNat)) s else .d|_,_=>.d
 |.f=>match x,y with|.c i,.c j=>.e (.c (Builtin.bitAnd i j)) s|_,_=>.d
noncomputable def kindOf:Val->Option L2.Kd
 |.h=>some .e
 |.e _=>some .i
 |.c _=>some .b
 |.m _=>some .g
 |.g _=>some .h
 |.f _=>some .d
 |.p=>some .f
 |.j _=>some .d
 |_=>pn
noncomputable def t6:String->Option L2.Kd
 |"bool"=>some .i
 |"int"=>some .b
 |"str"=>some .g
 |"list"=>some .d
 |"tuple"=>some .h
 |"dict"=>some .f
 |_=>pn
noncomputable def boolsOf:List Val->Option (List Bool)
 |[]=>some []
 |.e b::vs=>(boolsOf vs).map (b::·)
 |_=>pn
noncomputable def pairsOf:List Val->Option (List (Int × Int))
 |[]=>some []
 |.g [.c a,.c b]::vs=>(pairsOf vs).map ((a,b)::·)
 |_=>pn
noncomputable def prV(z:Int × Int):Val:=.g [.c z.1,.c z.2]
def kE(z:Int × Int):List (Int × Int)->List (Int × Int)
 |[]=>[z]
 |y::ys=>if L2.yg z<=L2.yg y then z::y::ys else y::kE z ys
def tQ:List (Int × Int)->List (Int × Int)
 |[]=>[]
 |z::zs=>kE z (tQ zs)
def yE:List Val->Option (List (List Int))
 |[]=>some []
 |.g a::vs=>match intsOf a,yE vs with
  |some z,some zs=>some (z::zs)
  |_,_=>pn
 |_=>pn
noncomputable def tpV(z:List Int):Val:=.g (z.map .c)
noncomputable def tpS(x:Str)(z:List Int):Val:=.g (.m x::z.map .c)
def X6(x:Str):List Val->Option (List (List Int))
 |[]=>some []
 |.g (.m y::a)::vs=>if y=x then (match intsOf a,X6 x vs with
  |some z,some zs=>some (z::zs)
  |_,_=>pn) else pn
 |_=>pn
noncomputable def Xj:List Val->Str
 |.g (.m x::_)::_=>x
 |_=>""
def sH(m:Bool)(vs:List Val)(s:Sto):Out Val:=match yE vs with
 |some zs=>if zs.Nodup/\(zs.length<2\/∀z∈zs,z≠[]) then newList m ((L2.zk zs).map tpV) s else .d
 |pn=>.d
noncomputable def nub:List (List Int)->List (List Int)
 |[]=>[]
 |z::zs=>if z∈zs then nub zs else z::nub zs
def setOk(vs:List Val):Option (List (List Int)):=(yE vs).bind λzs=>if (nub zs).length<306 then some (nub zs) else pn
def wD(m:Bool)(vs:List Val)(s:Sto):Out Val:=match setOk vs with
 |some zs=>if zs.length<2\/∀z∈zs,z≠[] then newList m ((L2.zk zs).map tpV) s else .d
 |pn=>.d
def gF(m:Bool)(v:Val)(s:Sto):Out Val:=match yL s v with
 |some vs=>wD m vs s
 |pn=>.d
def S0(zs:List (List Int)):Bool:=decide (zs.length<2)||match zs with
 |[]=>true
 |z::_=>decide (0<z.length)&&zs.all (λy=>decide (y.length=z.length))&&(Ah (zs.length-1)).all λi=>!L2.ql (zs.getD (i+1) []) (zs.getD i [])
def UO(m:Bool)(vs:List Val)(s:Sto):Out Val:=match yE vs with
 |some zs=>if S0 zs then newList m vs s else .d
 |pn=>.d
noncomputable def insI(z:Int):List Int->List Int
 |[]=>[z]
 |y::ys=>if z<=y then z::y::ys else y::insI z ys
def sortI:List Int->List Int
 |[]=>[]
 |z::zs=>insI z (sortI zs)
def blt(f:Bf)(m:Bool)(xs:List Val)(s:Sto):Out Val:=
 match f with
 |.a=>match xs with
  |[.m x]=>if x.length<=zN then .e (.c x.length) s else .d
  |[x]=>match y9 s x with|some vs=>.e (.c vs.length) s|pn=>.d
  |_=>.d
 |.p=>match xs with
  |[x]=>match yL s x with|some vs=>(match boolsOf vs with|some bs=>.e (.e (bs.all id)) s|pn=>.d)|pn=>.d
  |_=>.d
 |.q=>match xs with
  |[x]=>match yL s x with|some vs=>(match boolsOf vs with|some bs=>.e (.e (bs.any id)) s|pn=>.d)|pn=>.d
  |_=>.d
 |.d=>match xs with
  |[.g vs]=>.e (.g vs) s
  |[x]=>match yL s x with|some vs=>.e (.g vs) s|pn=>.d
  |_=>.d
 |.l=>match xs with
  |[x]=>match y9 s x with|some vs=>newList m vs s|pn=>.d
  |_=>.d
 |.h=>match xs with
  |[x]=>if (zw s x).isR&&t9 (zw s x).d then .e (.m (zw s x).d.shown) s else .d
  |_=>.d
 |.j=>match xs with
  |[.c i,.c j]=>.e (.c (if j > i then j else i)) s
  |[.g vs]=>(match M.intsOf vs with|some ns=>if ns≠[] then .e (.c (L2.vO 0 ns)) s else .d|pn=>.d)
  |[x]=>match yL s x with|some vs=>(match M.intsOf vs with|some ns=>if ns≠[] then .e (.c (L2.vO 0 ns)) s else .d|pn=>.d)|pn=>.d
  |_=>.d
 |.k=>match xs with
  |[.c i,.c j]=>.e (.c (if j<i then j else i)) s
  |[.g vs]=>(match M.intsOf vs with|some ns=>if ns≠[] then .e (.c (L2.vg 0 ns)) s else .d|pn=>.d)
  |[x]=>match yL s x with|some vs=>(match M.intsOf vs with|some ns=>if ns≠[] then .e (.c (L2.vg 0 ns)) s else .d|pn=>.d)|pn=>.d
  |_=>.d
 |.o=>match xs with
  |[.c i]=>.e (.c i) s
  |[.e b]=>.e (.c (if b then 1 else 0)) s
  |_=>.d
 |.i=>match xs with
  |[x,.t n]=>match kindOf x,t6 n with|some a,some c=>.e (.e (a.sub c)) s|_,_=>.d
  |_=>.d
 |.c=>match xs with
  |[.c i,.c j]=>if 0<j/\j<1073741824 then .e (.g [.c (i/j),.c (i%j)]) s else .d
  |_=>.d
 |.r=>match xs with
  |[.c i]=>if i.natAbs.log2<1920 then .e (.m (toString i)) s else .d
  |_=>.d
 |.s=>match xs with
  |[x]=>match yL s x with|some vs=>(match M.intsOf vs with|some ns=>if L2.RE ns then .e (.c ns.sum) s else .d|pn=>.d)|pn=>.d
  |_=>.d
 |.b=>match xs with
  |[x]=>match yL s x with
   |some vs=>(match pairsOf vs with
    |some zs=>if zs.Nodup/\∀z∈zs,0<=z.2/\z.2<1000 then newList m ((tQ zs).map prV) s else sH m vs s
    |pn=>sH m vs s)
   |pn=>.d
  |_=>.d
 |.n=>match xs with
  |[x]=>match yL s x with|some vs=>(match yE vs with|some zs=>if zs≠[] then .e (tpV (L2.T6 zs)) s else .d|pn=>.d)|pn=>.d
  |_=>.d
 |.m=>match xs with
  |[x]=>match yL s x with|some vs=>(match X6 (Xj vs) vs with|some zs=>if zs≠[] then .e (tpS (Xj vs) (L2.T6 zs)) s else .d|pn=>.d)|pn=>.d
  |_=>.d
 |.g=>match xs with
  |[x]=>match yL s x with|some vs=>UO m vs s|pn=>.d
  |_=>.d
 |.e=>match xs with
  |[x]=>match y9 s x with|some vs=>(match M.intsOf vs with|some ns=>if ns.length<64 then newList m ((sortI ns).map .c) s else .d|pn=>.d)|pn=>.d
  |_=>.d
def mxD(x y:Val)(s:Sto):Out Val:=match y with
 |.c k=>(match yL s x with|some vs=>(match M.intsOf vs with|some ns=>.e (.c (L2.vO k ns)) s|pn=>.d)|pn=>.d)
 |_=>.d
noncomputable def upd(s:Sto)(i:Nat)(vs:List Val):Sto:=s.set i (.c vs)
def xP(f:Mf)(o:Val)(xs:List Val)(s:Sto):Out Val:=
 match f with
 |.a=>match o,xs with
  |.g vs,[y]=>if flat y&&vs.all flat then .e (.c (vs.countP λz=>eqF z y:Nat)) s else .d
  |_,[y]=>match yL s o with|some vs=>if flat y&&vs.all flat then .e (.c (vs.countP λz=>eqF z y:Nat)) s else .d|pn=>.d
  |_,_=>.d
 |.b=>match o,xs with
  |.j i,[y]=>match s[i]? with|some (.c vs)=>if vs.length<zN then .e .h (upd s i (vs++[y])) else .d|_=>.d
  |_,_=>.d
 |.c=>match o,xs with
  |.j i,[y]=>match s[i]?,yL s y with|some (.c vs),some ws=>if vs.length+ws.length<=zN then .e .h (upd s i (vs++ws)) else .d|_,_=>.d
  |_,_=>.d
 |.f=>match o,xs with
  |.j i,[.c k]=>(match s[i]? with
   |some (.c vs)=>if -(2 ^ 63)<=k/\k<2 ^ 63 then (match seqIndex? k vs.length with
    |some j=>(match vs[j]? with|some y=>.e y (upd s i (vs.eraseIdx j))|pn=>.d)
    |pn=>.d) else .d
   |_=>.d)
  |.j i,[]=>(match s[i]? with
   |some (.c vs)=>(match vs[vs.length-1]? with|some y=>.e y (upd s i (vs.take (vs.length-1)))|pn=>.d)
   |_=>.d)
  |_,_=>.d
 |.d=>match o,xs with
  |.g vs,[y]=>if flat y&&vs.all flat then (match vs.findIdx? λz=>eqF z y with|some j=>.e (.c (j:Nat)) s|pn=>.d) else .d
  |_,_=>.d
 |.e=>match o,xs with
  |.m z,[y]=>(match yL s y with
   |some vs=>(match strsOf vs with|some ys=>if (ys.map (·.length)).sum+ys.length*z.length<=16777216 then .e (.m (L2.Tv z ys)) s else .d|pn=>.d)
   |pn=>.d)
  |_,_=>.d
def vU(a b:Val)(s:Sto):Out Val:=
 match b with
 |.c i=>match y9 s a with|some vs=>(match L2.atI vs i with|some v=>.e v s|pn=>.d)|pn=>.d
 |_=>.d
def Zb{N:Type}(xs:List N)(lo hi:Option Int):List N:=(xs.drop (HT.sIx xs.length 0 lo)).take (HT.sIx xs.length xs.length hi-HT.sIx xs.length 0 lo)
def sG(m:Bool)(a:Val)(lo hi st:Option Int)(s:Sto):Out Val:=
 match a,st with
 |.g vs,pn=>.e (.g (Zb vs lo hi)) s
 |.g vs,some c=>if c≠0/\(L2.yT vs.length lo hi c).2<=zN then .e (.g (L2.zr vs (L2.yT vs.length lo hi c).1 c (L2.yT vs.length lo hi c).2)) s else .d
 |_,pn=>match yL s a with|some vs=>newList m (Zb vs lo hi) s|pn=>.d
 |_,some c=>match yL s a with|some vs=>if c≠0 then newList m (L2.zr vs (L2.vX vs.length lo hi c).1 c (L2.vX vs.length lo hi c).2) s else .d|pn=>.d
def YO(m:Bool)(x y z:Val)(s:Sto):Out Val:=match x,y,z with
 |.c i,.c j,.c k=>if -(2 ^ 30)<=i/\i<=2 ^ 30∧-(2 ^ 30)<=j/\j<=2 ^ 30/\0<k/\k<=2 ^ 29/\A4 i j k<=1000 then newList m ((L2.xJ i j k).map .c) s else .d
 |.h,y,.m _=>(match y9 s y with|some vs=>(match M.intsOf vs with|some ns=>if ns.length<=1000 then .e (.c (L2.dN ns:Nat)) s else .d|pn=>.d)|pn=>.d)
 |.c i,.c j,.e _=>if -(2 ^ 30)<=i/\i<=2 ^ 30∧-(2 ^ 30)<=j/\j<=2 ^ 30/\A4 i j 1<=1000 then newList m ((L2.xJ i j 1).map .c) s else .d
 |.c i,.c j,.h=>if -(2 ^ 30)<=i/\i<=2 ^ 30∧-(2 ^ 30)<=j/\j<=2 ^ 30/\A4 i j 1<=1000 then .e (.g ((L2.xJ i j 1).map .c)) s else .d
 |_,_,_=>.d
noncomputable def z9(t:Tgt)(v:Val)(env:Env):Option Env:=
 match t with
 |.a i=>some (env.set i (some v))
 |.b is=>match v with
  |.g vs=>if vs.length=is.length then some ((is.zip vs).foldl (λe p=>e.set p.1 (some p.2)) env) else pn
  |_=>pn
structure Src where
 a:List Val
 b:Option Nat
def Src.ok(r:Src)(s:Sto):Bool:=match r.b with
 |pn=>true
 |some i=>match s[i]? with
  |some (.c vs)=>tj vs r.a
  |_=>false
noncomputable def RU:List Val->List Val->List Val
 |v::vs,w::ws=>.g [v,w]::RU vs ws
 |_,_=>[]
noncomputable def iG(n:Nat):List Val->List Val
 |[]=>[]
 |v::vs=>.g [.c n,v]::iG (n+1) vs
noncomputable def srcOf(s:Sto):Val->Option Src
 |.g vs=>some ⟨vs,pn⟩
 |.f vs=>some ⟨vs,pn⟩
 |.o ns=>some ⟨ns.map .c,pn⟩
 |.j i=>match s[i]? with
  |some (.c vs)=>some ⟨vs,some i⟩
  |_=>pn
 |_=>pn
noncomputable def S3(lo c:Int)(n:Nat):List Val:=(Ah n).map λ(k:Nat)=>Val.c (lo+k*c)
def R3(x y z:Val)(s:Sto):Out Src:=match x,y,z with
 |.c i,.c j,.c k=>if 0<=i/\i<=1000/\0<=j/\j<=1000/\1<=k/\k<=1000 then .e ⟨S3 i k (A4 i j k).toNat,pn⟩ s else .d
 |_,_,_=>.d
noncomputable def yR(lo:Int)(n:Nat):List Val:=(Ah n).map λ(k:Nat)=>Val.c (lo+k)
def z5(r:Src)(t:Tgt)(body:Env->Sto->List Val->Out (List Val × Env)):List Val->Env->Sto->List Val->Out (List Val × Env)
 |[],env,s,acc=>if r.ok s then .e (acc,env) s else .d
 |x::xs,env,s,acc=>if r.ok s then match z9 t x env with
    |pn=>.d
    |some env'=>(body env' s acc).bind λp s'=>z5 r t body xs p.2 s' p.1
  else .d
noncomputable def zG(fr:List (Option Nat))(env:Env):Env:=fr.map λo=>match o with|some j=>(env[j]?).join|pn=>pn
inductive Fl
 |a (env:Env)|c (env:Env)|d (env:Env)|b (v:Val)
def vN(r:Src)(t:Tgt)(body:Env->Sto->Out Fl):List Val->Env->Sto->Out Fl
 |[],env,s=>if r.ok s then .e (.a env) s else .d
 |x::xs,env,s=>if r.ok s then match z9 t x env with
    |pn=>.d
    |some env'=>(body env' s).bind λfl s'=>match fl with
     |.a e=>vN r t body xs e s'
     |.d e=>vN r t body xs e s'
     |.c e=>.e (.a e) s'
     |.b v=>.e (.b v) s'
  else .d
def bG(c:Env->Sto->Out Bool)(body:Env->Sto->Out Fl):Nat->Env->Sto->Out Fl
 |0,_,_=>.d
 |n+1,env,s=>(c env s).bind λb s1=>if b then (body env s1).bind λfl s2=>match fl with
    |.a e=>bG c body n e s2
    |.d e=>bG c body n e s2
    |.c e=>.e (.a e) s2
    |.b v=>.e (.b v) s2
  else .e (.a env) s1
noncomputable def U3:Nat:=100000
noncomputable def a0:Sto->List Str
 |.f x::r=>x::a0 r
 |_=>[]
section
variable (Φ:Calls)(G:Str->Option Val)
mutual
noncomputable def evE(env:Env):Ex->Sto->Out Val
 |.g v,s=>.e v s
 |.e i,s=>match env[i]? with|some (some v)=>.e v s|_=>.d
 |.I x,s=>match G x with|some v=>.e v s|pn=>.d
 |.O _ n,s=>.e (.t n) s
 |.h m op a b,s=>(evE env a s).bind λx s1=>(evE env b s1).bind λy s2=>binOp m op x y s2
 |.D a,s=>(evE env a s).bind λx s1=>match x with|.c i=>.e (.c (-i)) s1|_=>.d
 |.G a,s=>(evE env a s).bind λx s1=>match x with|.e b=>.e (.e !b) s1|_=>.d
 |.q op a b,s=>(evE env a s).bind λx s1=>(evE env b s1).bind λy s2=>zQ op x y s2
 |.y op op' a b c,s=>(evE env a s).bind λx s1=>(evE env b s1).bind λy s2=>(zQ op x y s2).bind λr R=>match r with
  |.e true=>(evE env c R).bind λz U=>zQ op' y z U
  |.e false=>.e (.e false) R
  |_=>.d
 |.z a es,s=>match es with
  |.b=>evE env a s
  |.a _ _=>(evE env a s).bind λx s1=>match x with
   |.e true=>sS env es s1
   |.e false=>.e (.e false) s1
   |_=>.d
 |.M a es,s=>match es with
  |.b=>evE env a s
  |.a _ _=>(evE env a s).bind λx s1=>match truth s1 x with
   |some false=>n5 env es s1
   |some true=>.e x s1
   |pn=>.d
 |.L c a b,s=>(evT env c s).bind λt s1=>if t then evE env a s1 else evE env b s1
 |.k es,s=>(yp env es s).bind λvs s1=>if vs.length<=zN then .e (.g vs) s1 else .d
 |.u m es,s=>(yp env es s).bind λvs s1=>if vs.length<=zN then newList m vs s1 else .d
 |.H,s=>.e .p s
 |.j f ver es,s=>(yp env es s).bind λvs s1=>Φ f ver vs s1
 |.l f m es,s=>(yp env es s).bind λvs s1=>blt f m vs s1
 |.J a d,s=>(evE env a s).bind λx s1=>(evE env d s1).bind λy s2=>mxD x y s2
 |.P f _ o es,s=>(evE env o s).bind λx s1=>(yp env es s1).bind λvs s2=>xP f x vs s2
 |.s a b,s=>(evE env a s).bind λx s1=>(evE env b s1).bind λy s2=>vU x y s2
 |.K m a lo hi st,s=>(evE env a s).bind λx s1=>(evO env lo s1).bind λl s2=>(evO env hi s2).bind λh R=>(evO env st R).bind λc U=>sG m x l h c U
 |.p m _ fr elt t it ifs,s=>(zo env it s).bind λr s1=>
  (z5 r t (λe s' acc=>(yD e ifs s').bind λb s2=>if b then (evE e elt s2).bind λv R=>.e (acc++[v],e) R else .e (acc,e) s2) r.a (zG fr env) s1 []).bind λp s2=>newList m p.1 s2
 |.w m _ fr elt t it ifs t2 it2 ifs2,s=>(zo env it s).bind λr s1=>
  (z5 r t (λe s' acc=>(yD e ifs s').bind λb s2=>if b then (zo e it2 s2).bind λX R=>
      z5 X t2 (λS U N=>(yD S ifs2 U).bind λZ W=>if Z then (evE S elt W).bind λv Y=>.e (N++[v],S) Y else .e (N,S) W) X.a e R acc
   else .e (acc,e) s2) r.a (zG fr env) s1 []).bind λp s2=>if p.1.length<=zN then newList m p.1 s2 else .d
 |.F t,s=>.e (.q s.length) (s++[if t then .e [] else .d []])
 |.Q a b,s=>(evE env a s).bind λx s1=>(evE env b s1).bind λy s2=>ixD x y s2
 |.E _,_=>.d
 |.C m a,s=>(evE env a s).bind λx s1=>gF m x s1
 |.B m _ fr elt t it ifs,s=>(zo env it s).bind λr s1=>
  (z5 r t (λe s' acc=>(yD e ifs s').bind λb s2=>if b then (evE e elt s2).bind λv R=>.e (acc++[v],e) R else .e (acc,e) s2) r.a (zG fr env) s1 []).bind λp s2=>wD m p.1 s2
 |.A m _ fr elt t it ifs t2 it2 ifs2,s=>(zo env it s).bind λr s1=>
  (z5 r t (λe s' acc=>(yD e ifs s').bind λb s2=>if b then (zo e it2 s2).bind λX R=>
      z5 X t2 (λS U N=>(yD S ifs2 U).bind λZ W=>if Z then (evE S elt W).bind λv Y=>.e (N++[v],S) Y else .e (N,S) W) X.a e R acc
   else .e (acc,e) s2) r.a (zG fr env) s1 []).bind λp s2=>wD m p.1 s2
 |.r m a b c,s=>(evE env a s).bind λx s1=>(evE env b s1).bind λy s2=>(evE env c s2).bind λz R=>YO m x y z R
noncomputable def sS(env:Env):Exs->Sto->Out Val
 |.b,_=>.d
 |.a a es,s=>match es with
  |.b=>evE env a s
  |.a _ _=>(evE env a s).bind λx s1=>match x with
   |.e true=>sS env es s1
   |.e false=>.e (.e false) s1
   |_=>.d
noncomputable def n5(env:Env):Exs->Sto->Out Val
 |.b,_=>.d
 |.a a es,s=>match es with
  |.b=>evE env a s
  |.a _ _=>(evE env a s).bind λx s1=>match truth s1 x with
   |some false=>n5 env es s1
   |some true=>.e x s1
   |pn=>.d
noncomputable def yp(env:Env):Exs->Sto->Out (List Val)
 |.b,s=>.e [] s
 |.a e es,s=>(evE env e s).bind λv s1=>(yp env es s1).bind λvs s2=>.e (v::vs) s2
noncomputable def evO(env:Env):OEx->Sto->Out (Option Int)
 |.b,s=>.e pn s
 |.a e,s=>(evE env e s).bind λv s1=>match v with|.c i=>.e (some i) s1|_=>.d
/-- a test -/
noncomputable def evT(env:Env):Cn->Sto->Out Bool
 |.a e,s=>(evE env e s).truth
 |.d a,s=>(evT env a s).bind λb s1=>.e (!b) s1
 |.b a es,s=>(evT env a s).bind λb s1=>if b then yD env es s1 else .e false s1
 |.f a es,s=>(evT env a s).bind λb s1=>if b then .e true s1 else n6 env es s1
noncomputable def yD(env:Env):Cns->Sto->Out Bool
 |.a,s=>.e true s
 |.b a es,s=>(evT env a s).bind λb s1=>if b then yD env es s1 else .e false s1
noncomputable def n6(env:Env):Cns->Sto->Out Bool
 |.a,s=>.e false s
 |.b a es,s=>(evT env a s).bind λb s1=>if b then .e true s1 else n6 env es s1
noncomputable def zo(env:Env):Itb->Sto->Out Src
 |.f e,s=>(evE env e s).bind λv s1=>match srcOf s1 v with|some r=>.e r s1|pn=>.d
 |.d a,s=>(evE env a s).bind λx s1=>match x with
  |.c j=>if -(2 ^ 62)<=j/\j<=zN then .e ⟨yR 0 j.toNat,pn⟩ s1 else .d
  |_=>.d
 |.g a b,s=>(evE env a s).bind λx s1=>(evE env b s1).bind λy s2=>match x,y with
  |.c i,.c j=>if -(2 ^ 62)<=i/\i<2 ^ 62∧-(2 ^ 62)<=j/\j<2 ^ 62/\j-i<=zN then .e ⟨yR i (j-i).toNat,pn⟩ s2 else .d
  |_,_=>.d
 |.h a b c,s=>(evE env a s).bind λx s1=>(evE env b s1).bind λy s2=>(evE env c s2).bind λz N=>R3 x y z N
 |.i e,s=>(evE env e s).bind λv s1=>match v with
  |.g vs=>.e ⟨iG 0 vs,pn⟩ s1
  |.f vs=>.e ⟨iG 0 vs,pn⟩ s1
  |_=>.d
 |.j a b,s=>(evE env a s).bind λx s1=>(evE env b s1).bind λy s2=>match x,y with
  |.g vs,.g ws=>if ws.length<=vs.length then .e ⟨RU vs ws,pn⟩ s2 else .d
  |_,_=>.d
end
mutual
noncomputable def exS(env:Env):Sm->Sto->Out Fl
 |.m e,s=>(evE Φ G env e s).bind λ_ s1=>.e (.a env) s1
 |.f e,s=>(evE Φ G env e s).bind λv s1=>.e (.b v) s1
 |.v,s=>.e (.b .h) s
 |.d i e,s=>(evE Φ G env e s).bind λv s1=>.e (.a (env.set i (some v))) s1
 |.p is e,s=>(evE Φ G env e s).bind λv s1=>match z9 (.b is) v env with|some env'=>.e (.a env') s1|pn=>.d
 |.q is es,s=>(yp Φ G env es s).bind λvs s1=>if vs.length=is.length then .e (.a ((is.zip vs).foldl (λe p=>e.set p.1 (some p.2)) env)) s1 else .d
 |.w i op e,s=>match env[i]? with
  |some (some (.c x))=>(evE Φ G env e s).bind λv s1=>match v with
   |.c y=>(binOp false op (.c x) (.c y) s1).bind λz s2=>.e (.a (env.set i (some z))) s2
   |_=>.d
  |some (some (.g x))=>if op=.a then (evE Φ G env e s).bind λv s1=>match v with
   |.g y=>(binOp false .a (.g x) (.g y) s1).bind λz s2=>.e (.a (env.set i (some z))) s2
   |_=>.d
   else .d
  |_=>.d
 |.l o i e,s=>(evE Φ G env e s).bind λv s1=>(evE Φ G env o s1).bind λx s2=>(evE Φ G env i s2).bind λy N=>match x,y with
  |.j r,.c k=>(match N[r]? with
   |some (.c vs)=>(match L2.ixN vs.length k with|some j=>.e (.a env) (upd N r (vs.set j v))|pn=>.d)
   |_=>.d)
  |_,_=>.d
 |.j c a b,s=>(evT Φ G env c s).bind λt s1=>if t then zp env a s1 else zp env b s1
 |.g t it b,s=>(zo Φ G env it s).bind λr s1=>vN r t (λe s'=>zp e b s') r.a env s1
 |.r c b,s=>bG (λe s'=>evT Φ G e c s') (λe s'=>zp e b s') U3 env s
 |.u,s=>.e (.a env) s
 |.y,s=>.e (.c env) s
 |.s,s=>.e (.d env) s
 |.n _,_=>.d
 |.x o i e,s=>(evE Φ G env e s).bind λv s1=>(evE Φ G env o s1).bind λx s2=>(evE Φ G env i s2).bind λy N=>match putD x y v N with|some R=>.e (.a env) R|pn=>.d
noncomputable def zp(env:Env):Sms->Sto->Out Fl
 |.f,s=>.e (.a env) s
 |.e c cs,s=>(exS env c s).bind λfl s1=>match fl with
  |.a e=>zp e cs s1
  |fl=>.e fl s1
 |.g i L mid k d o b cs,s=>(zp (env.set i pn) mid s).bind λfl S=>match fl with
  |.a e0=>if a0 s=a0 S then (yp Φ G e0 L S).bind λvs s1=>if k=0 then .e (.b (.f vs)) s1 else
   if k=1 then (evE Φ G e0 d s1).bind λy s2=>(zQ .b (.f vs) y s2).bind λr N=>.e (.b r) N
   else ((evE Φ G e0 d s1).bind λy s2=>((zQ .g (.f vs) y s2).truth).bind λr N=>if r then .e true N else n6 Φ G e0 o N).bind λr N=>
    (if r then zp e0 b N else .e (.a e0) N).bind λfl R=>match fl with
   |.a e=>zp e cs R
   |fl=>.e fl R
   else .d
  |_=>.d
end
end
abbrev Rb:=Option (Str × List Val × Sto)
abbrev Ra:=Str->Nat->List Val->Sto->Rb
noncomputable def zT(N:List Str)(vs:List Val):Env:=vs.map some++AU (N.length-vs.length) pn
def leave(F:Fn)(N:Sto)(v:Val)(s:Sto):Out Val:=
 if F.c then .e v s
 else if x9 N s then (match freeze N.length s v with|some R=>.e R (s.take N.length)|pn=>.d) else .d
structure Tbl where
 c:Str->Nat->Option Fn
 b:Str->Option Val
 /-- the defs whose tables the store holds,from its start -/
 d:List Str:=[]
 /-- the classes of exceptions,and what the law's def says of each -/
 xc:List (Str × Str):=[]
 /-- which of the law's two defs that try a call is there -/
 e:Bool->Bool:=λ_=>false
def run(T:Tbl)(Φ:Calls)(F:Fn)(vs:List Val)(s:Sto):Out Val:=
 if vs.length=F.a.length then (zp Φ T.b (zT F.N vs) F.b s).bind λfl s1=>match fl with
  |.a _=>leave F s .h s1
  |.b v=>leave F s v s1
  |_=>.d
 else .d
def zD(T:Tbl):Nat->Calls
 |0=>λ_ _ _ _=>.d
 |n+1=>λf ver vs s=>match T.c f ver with|some F=>run T (zD T n) F vs s|pn=>.d
abbrev KF:=AI
structure Own where
 o:List Addr
 h:List Addr
def Own.no(ρ:Own)(a:Addr):Prop:=a ∉ ρ.o/\a ∉ ρ.h
def KT(K:KF)(a:Addr)(xs:List L2.V):Prop:=∃(o:Obj) (its:Array Value) (n:Nat),K.lookup a=some o/\o.cls=.type "tuple"/\o.data=.seq its n/\its.size<=AH/\L2.Vals xs its.toList
def SC(K:KF)(ρ:Own)(H:L2.Hp)(a:Addr)(xs:List L2.V):Prop:=(ρ.no a/\L2.Rd H a (.b xs)) \/
 ∃(o:Obj) (its:Array Value) (n:Nat),K.lookup a=some o/\o.cls=.type "list"/\o.dict=none/\o.data=.seq its n/\its.size<=AH/\L2.Vals xs its.toList
noncomputable def hk:Option L2.HO->Nat
 |some (.b _)=>1
 |some (.j _)=>2
 |some (.k _)=>3
 |some (.d _)=>4
 |_=>0
mutual
inductive RD(K:KF)(mg:Str->Option Value)(ρ:Own)(H:L2.Hp):Val->L2.V->Prop
 |s:RD K mg ρ H .h .g
 |j (b:Bool):RD K mg ρ H (.e b) (.f b)
 |l (i:Int):RD K mg ρ H (.c i) (.d i)
 |E (x:Str):RD K mg ρ H (.m x) (.e x)
 |m {a:Addr} {vs:List Val} {xs:List L2.V}:ρ.no a->H a=some (.c xs)->RDs K mg ρ H vs xs->RD K mg ρ H (.g vs) (.c a)
 |D {a:Addr} {vs:List Val} {xs:List L2.V}:ρ.no a->H a=some (.b xs)->RDs K mg ρ H vs xs->RD K mg ρ H (.f vs) (.c a)
 |B {a:Addr}:ρ.no a->H a=some (.j [])->RD K mg ρ H .p (.c a)
 |p {a:Addr} {ns:List Int}:KT K a (ns.map L2.V.d)->RD K mg ρ H (.o ns) (.c a)
 |F {a:Addr} {ns:List Int}:SC K ρ H a (ns.map L2.V.d)->RD K mg ρ H (.r ns) (.c a)
 |C {a:Addr} {i:Nat}:ρ.o[i]?=some a->hk (H a)=1->RD K mg ρ H (.j i) (.c a)
 |A {a:Addr} {i:Nat}:ρ.o[i]?=some a->1<hk (H a)->RD K mg ρ H (.q i) (.c a)
 |I {x:Str} {f:Addr}:mg x=some (.ref f)->RD K mg ρ H (.u x) (.c f)
 |J (n:String):RD K mg ρ H (.t n) (.k n)
 |G (a k:Nat):RD K mg ρ H (.s a k) (.c a)
inductive RDs(K:KF)(mg:Str->Option Value)(ρ:Own)(H:L2.Hp):List Val->List L2.V->Prop
 |d:RDs K mg ρ H [] []
 |a {v:Val} {x:L2.V} {vs:List Val} {xs:List L2.V}:RD K mg ρ H v x->RDs K mg ρ H vs xs->RDs K mg ρ H (v::vs) (x::xs)
end
noncomputable def Rq(x:Str):Str:=(x++(".<locals>.":Str))++("<lambda>":Str)
def RY(K:KF)(mg:Str->Option Value)(ρ:Own)(H:L2.Hp)(P:Addr)(x:Str):Prop:=∃ps,H P=some (.d ps)/\TriplesOk ps.toList /\
 (∀(pos:Pos) (R:Value),codeAmong pos ps.toList=some R->∃(c:Addr) (o:Obj) (vs:Array Value) (t:Tok),R=.ref c/\ρ.no c/\H c=some (.g o (.e 0))/\o.data=.fields vs/\vs[1]?=some (.str (Rq x) t)) /\
 ∃(N c:Addr) (o:Obj) (fd:Ec),mg x=some (.ref N)/\K.lookup N=some o/\o.data=.func fd/\fd.code=.ref c/\∀h:Heap,K.In h->PySem.W.CodeHd h c P
def CR(K:KF)(mg:Str->Option Value)(ρ:Own)(H:L2.Hp)(a:Addr):Cel->Prop
 |.c vs=>∃xs,H a=some (.b xs)/\RDs K mg ρ H vs xs
 |.d kvs=>∃N,H a=some (.j N)/\N.map (·.1)=kvs.map (λp=>FX p.1)/\RDs K mg ρ H (kvs.map (·.2)) (N.map (·.2))
 |.e kvs=>∃N,H a=some (.k N)/\N.map (·.1)=kvs.map (λp=>p.1.map FW)/\RDs K mg ρ H (kvs.map (·.2)) (N.map (·.2))
 |.f x=>RY K mg ρ H a x
inductive Hid
 |b (xs:List L2.V)|a (φ:Heap->Prop)
noncomputable def Hid.o:Hid->L2.HO
 |.b xs=>.b xs
 |.a φ=>.i φ
structure HR(K:KF)(mg:Str->Option Value)(ρ:Own)(s:Sto)(H:L2.Hp):Prop where
 f:ρ.o.length=s.length
 l:ρ.o.Nodup
 g:∀(i:Nat) (c:Cel),s[i]?=some c->∃a:Addr,ρ.o[i]?=some a/\CR K mg ρ H a c
 d:∀a∈ρ.h,(∃o:Hid,H a=some o.o)/\a ∉ ρ.o
structure Ext(ρ:Own)(H:L2.Hp)(ρ':Own)(H':L2.Hp):Prop where
 d:∃new:List Addr,ρ'.o=ρ.o++new/\∀a∈new,H a=none
 f:ρ'.h=ρ.h
 c:∀(a:Addr) (o:L2.HO),H a=some o->a ∉ ρ.o->H' a=some o
 g:∀a∈ρ.o,hk (H' a)=hk (H a)
structure ER(K:KF)(mg:Str->Option Value)(ρ:Own)(H:L2.Hp)(env:Env)(σ:L2.St):Prop where
 b:env.length=σ.length
 a:∀(i:Nat) (v:Val),env[i]?=some (some v)->∃x:L2.V,σ[i]?=some (some x)/\RD K mg ρ H v x
section
variable {K:KF}{mg:Str->Option Value}{ρ ρ' ρ'':Own}{H H' H'':L2.Hp}{s s':Sto}
def HR.obj(h:HR K mg ρ s H)(i:Nat)vs(e:s[i]?=some (Cel.c vs)):∃(a:Addr) (xs:List L2.V),ρ.o[i]?=some a/\H a=some (.b xs)/\RDs K mg ρ H vs xs:=by refine byG λU N=>?_;obtain⟨a,S,xs,R,r⟩:=h.g i _ e;refine N ?_;exact⟨a,xs,S,R,r⟩
def CR.there(h:CR K mg ρ H a c):∃o,H a=some o:=by
 cases c with
 |c vs=>obtain⟨xs,e,_⟩:=h;exact⟨_,e⟩
 |d N=>obtain⟨xs,e,_⟩:=h;exact⟨_,e⟩
 |e N=>obtain⟨xs,e,_⟩:=h;exact⟨_,e⟩
 |f x=>obtain⟨ps,e,_⟩:=h;exact⟨_,e⟩
theorem CR.hk{a:Addr}{c:Cel}(h:CR K mg ρ H a c):0<hk (H a):=by
 cases c with
 |c vs=>obtain⟨xs,e,_⟩:=h;rw[e];exact CN 0
 |d N=>obtain⟨xs,e,_⟩:=h;rw[e];exact F2 rfl
 |e N=>obtain⟨xs,e,_⟩:=h;rw[e];exact F2 rfl
 |f x=>obtain⟨ps,e,_⟩:=h;rw[e];exact F2 rfl
def HR.trk(h:HR K mg ρ s H)(R:a∈ρ.o):∃o,H a=some o:=by
 obtain⟨i,hi,e⟩:=Bx R;have hs:i<s.length:=by rw[<-h.f];exact hi
 obtain⟨b,N,S⟩:=h.g i _ (dS hs);rw[dS hi,e]at N;cases N;exact S.there
def kD(h:hk (H a)=1):∃xs,H a=some (.b xs):=by
 cases e:H a with
 |none=>rw[e]at h;cases h
 |some o=>
  rw[e]at h;cases o with
  |b xs=>exact⟨xs,rfl⟩
  |_=>cases h
def HR.new(h:HR K mg ρ s H)(hp:H p=none):ρ.no p:=by
 refine⟨λN=>?_,λN=>?_⟩
 . obtain⟨xs,e⟩:=h.trk N
   rw[hp]at e;cases e
 . obtain⟨⟨xs,e⟩,_⟩:=h.d p N
   rw[hp]at e;cases e
def Ext.refl:Ext ρ H ρ H:=⟨⟨[],by simp,λa N=>by cases N⟩,rfl,λa o e _=>e,λ_ _=>rfl⟩
def Ext.SA(x:Ext ρ H ρ' H')(e:H a=some o)(n:ρ.no a):ρ'.no a:=by
 obtain⟨new,S,R⟩:=x.d;refine⟨?_,by rw[x.f];exact n.2⟩
 rw[S];intro N;rcases AQ.mp N with N|N
 . exact n.1 N
 . rw[R a N]at e;cases e
def Ext.get(x:Ext ρ H ρ' H'){i:Nat}(e:ρ.o[i]?=some a):ρ'.o[i]?=some a:=by obtain⟨new,N,R⟩:=x.d;have hi:i<ρ.o.length:=(As.mp e).1;rw[N,AW hi];exact e
theorem Ext.trans(x:Ext ρ H ρ' H')(h:HR K mg ρ' s H')(y:Ext ρ' H' ρ'' H''):Ext ρ H ρ'' H'':=by
 obtain⟨new,W,X⟩:=x.d;obtain⟨S,Y,U⟩:=y.d;refine⟨⟨new++S,by rw[Y,W,Ak],λa N=>?_⟩,y.f.trans x.f,λa o e n=>y.c a o (x.c a o e n) ?_,λa N=>(y.g a (by rw[W];exact Bl _ N)).trans (x.g a N)⟩
 . rcases AQ.mp N with N|N
   . exact X a N
   . cases q:H a with
     |none=>rfl
     |some o=>
      by_cases R:a∈ρ.o
      . obtain⟨xs,e⟩:=h.trk (a:=a) (by rw[W];exact Bl _ R)
        rw[U a N]at e;cases e
      . have:=x.c a o q R
        rw[U a N]at this;cases this
 . rw[W]
   intro R;rcases AQ.mp R with R|R
   . exact n R
   . rw[X a R]at e;cases e
def SC.sql(h:SC K ρ H a xs):L2.SqL K H a xs:=by
 rcases h with⟨_,h⟩|h
 . exact .inl h
 . exact .inr h
def KT.sqt(h:KT K a xs):L2.SqT K H a xs:=.inr h
structure Mv(ρ:Own)(H:L2.Hp)(ρ':Own)(H':L2.Hp):Prop where
 b:∀(a:Addr) (o:L2.HO),H a=some o->ρ.no a->H' a=some o/\ρ'.no a
 c:∀(i:Nat) (a:Addr),ρ.o[i]?=some a->ρ'.o[i]?=some a
 d:∀a∈ρ.o,hk (H' a)=hk (H a)
def Ext.mv(x:Ext ρ H ρ' H'):Mv ρ H ρ' H':=⟨λa o e n=>⟨x.c a o e n.1,x.SA e n⟩,λi a e=>x.get e,x.g⟩
def SC.mv(x:Mv ρ H ρ' H')(h:SC K ρ H a xs):SC K ρ' H' a xs:=by
 rcases h with⟨n,h|⟨o,h⟩⟩|h
 . exact .inl ⟨(x.b _ _ h n).2,.inl (x.b _ _ h n).1⟩
 . exact .inl ⟨(x.b _ _ h n).2,.inr ⟨o,(x.b _ _ h n).1⟩⟩
 . exact .inr h
end
mutual
theorem RD.mv{K:KF}{mg:Str->Option Value}{ρ ρ':Own}{H H':L2.Hp}(x:Mv ρ H ρ' H'){v:Val}{u:L2.V}(q:RD K mg ρ H v u):RD K mg ρ' H' v u:=by
 cases q with
 |s=>exact .s
 |j b=>exact .j b
 |l i=>exact .l i
 |E t=>exact .E t
 |m n e r=>exact .m (x.b _ _ e n).2 (x.b _ _ e n).1 (RDs.mv x r)
 |D n e r=>exact .D (x.b _ _ e n).2 (x.b _ _ e n).1 (RDs.mv x r)
 |B n e=>exact .B (x.b _ _ e n).2 (x.b _ _ e n).1
 |p h=>exact .p h
 |F h=>exact .F (h.mv x)
 |C e k=>exact .C (x.c _ _ e) ((x.d _ (AF e)).trans k)
 |A e k=>exact .A (x.c _ _ e) (by rw[x.d _ (AF e)];exact k)
 |G a k=>exact .G a k
 |I e=>exact .I e
 |J n=>exact .J n
theorem RDs.mv{K:KF}{mg:Str->Option Value}{ρ ρ':Own}{H H':L2.Hp}(x:Mv ρ H ρ' H'){vs:List Val}{us:List L2.V}(q:RDs K mg ρ H vs us):RDs K mg ρ' H' vs us:=by
 cases q with
 |d=>exact .d
 |a r N=>exact .a (RD.mv x r) (RDs.mv x N)
end
theorem CR.mv(x:Mv ρ H ρ' H')(e:H' a=H a)(h:CR K mg ρ H a c):CR K mg ρ' H' a c:=by
 cases c with
 |c vs=>obtain⟨xs,N,r⟩:=h;exact⟨xs,e.trans N,RDs.mv x r⟩
 |d R=>obtain⟨xs,N,k,r⟩:=h;exact⟨xs,e.trans N,k,RDs.mv x r⟩
 |e R=>obtain⟨xs,N,k,r⟩:=h;exact⟨xs,e.trans N,k,RDs.mv x r⟩
 |f y=>
  obtain⟨ps,N,k,r,g⟩:=h;refine⟨ps,e.trans N,k,λpos Z Y=>?_,g⟩;obtain⟨c,o,vs,t,X,U,S,W⟩:=r pos Z Y;exact⟨c,o,vs,t,X,(x.b _ _ S U).2,(x.b _ _ S U).1,W⟩
def RD.mono(r:RD K mg ρ H v u)(x:Ext ρ H ρ' H'):RD K mg ρ' H' v u:=RD.mv x.mv r
def RDs.mono(r:RDs K mg ρ H v u)(x:Ext ρ H ρ' H'):RDs K mg ρ' H' v u:=RDs.mv x.mv r
section
variable {K:KF}{mg:Str->Option Value}{ρ ρ' ρ'':Own}{H H' H'':L2.Hp}{s s':Sto}
theorem RDs.length(q:RDs K mg ρ H vs xs):vs.length=xs.length:=by
 cases q with
 |d=>rfl
 |a _ r=>rw[Aj,Aj,r.length]
theorem RDs.get{i:Nat}(q:RDs K mg ρ H vs xs)(e:vs[i]?=some v):∃x,xs[i]?=some x/\RD K mg ρ H v x:=by
 cases q with
 |d=>cases e
 |a r N=>
  cases i with
  |zero=>cases e;exact⟨_,rfl,r⟩
  |succ i=>exact RDs.get (i:=i) N e
theorem RDs.TZ{i:Nat}(q:RDs K mg ρ H vs xs)(e:xs[i]?=some x):∃v,vs[i]?=some v/\RD K mg ρ H v x:=by
 cases q with
 |d=>cases e
 |a r N=>
  cases i with
  |zero=>cases e;exact⟨_,rfl,r⟩
  |succ i=>exact RDs.TZ (i:=i) N e
theorem RDs.append(p:RDs K mg ρ H vs xs)(q:RDs K mg ρ H ws ys):RDs K mg ρ H (vs++ws) (xs++ys):=by
 cases p with
 |d=>exact q
 |a r N=>exact .a r (N.append q)
theorem RDs.take n(q:RDs K mg ρ H vs xs):RDs K mg ρ H (vs.take n) (xs.take n):=by
 cases n with
 |zero=>exact .d
 |succ n=>cases q with
  |d=>exact .d
  |a r N=>exact .a r (N.take n)
theorem RDs.drop n(q:RDs K mg ρ H vs xs):RDs K mg ρ H (vs.drop n) (xs.drop n):=by
 cases n with
 |zero=>exact q
 |succ n=>cases q with
  |d=>exact .d
  |a _ N=>exact N.drop n
theorem RDs.set(r:RD K mg ρ H v x)i(q:RDs K mg ρ H vs xs):RDs K mg ρ H (vs.set i v) (xs.set i x):=by
 cases q with
 |d=>exact .d
 |a q t=>cases i with
  |zero=>exact .a r t
  |succ i=>exact .a q (RDs.set r i t)
theorem RDs.rep(r:RDs K mg ρ H vs xs):∀k:Nat,RDs K mg ρ H (AU k vs).flatten (AU k xs).flatten
 |0=>.d
 |k+1=>by rw[CB,CB,DF,DF];exact r.append (RDs.rep r k)
theorem RDs.pick(r:RDs K mg ρ H vs xs):∀(is:List Nat),RDs K mg ρ H (is.filterMap λi=>vs[i]?) (is.filterMap λi=>xs[i]?)
 |[]=>.d
 |i::is=>by
  rw[Ba,Ba];cases hx:vs[i]? with
  |none=>
   have:xs[i]?=none:=by have R:vs.length<=i:=CU.mp hx;exact CU.mpr (by rw[<-r.length];exact R)
   rw[this];exact RDs.pick r is
  |some v=>
   obtain⟨u,hu,N⟩:=r.get hx;rw[hu];exact .a N (RDs.pick r is)
theorem RDs.zr(r:RDs K mg ρ H vs xs)lo st n:RDs K mg ρ H (L2.zr vs lo st n) (L2.zr xs lo st n):=by have h:=r.pick ((Ah n).map λ(k:Nat)=>(lo+(k:Int)*st).toNat);rw[CO,CO]at h;exact h
theorem RDs.ints:∀(ns:List Int),RDs K mg ρ H (ns.map .c) (ns.map .d)
 |[]=>.d
 |n::ns=>.a (.l n) (RDs.ints ns)
def RDs.cut(r:RDs K mg ρ H vs xs)lo hi:RDs K mg ρ H (Zb vs lo hi) (L2.qj xs lo hi):=by unfold Zb L2.qj;rw[r.length];exact(r.drop _).take _
theorem bI{N:Type}:∀{l:List N} {i j:Nat} {x},l.Nodup->l[i]?=some x->l[j]?=some x->i=j
 |[],_,_,_,_,e,_=>by simp at e
 |a::l,0,0,_,_,_,_=>rfl
 |a::l,0,j+1,x,nd,e1,e2=>by
  simp at e1 e2;subst e1;exact absurd (AF e2) (Bb.mp nd).1
 |a::l,i+1,0,x,nd,e1,e2=>by
  simp at e1 e2;subst e2;exact absurd (AF e1) (Bb.mp nd).1
 |a::l,i+1,j+1,x,nd,e1,e2=>by simp at e1 e2;rw[bI (Bb.mp nd).2 e1 e2]
theorem Ext.new(h:HR K mg ρ s H)(hp:H p=none)o:Ext ρ H ρ (L2.upd H p o):=
 ⟨⟨[],by simp,λa N=>by cases N⟩,rfl,λa u e _=>by rw[L2.zP (L2.zR e hp)];exact e,λa N=>by rw[L2.zP λz=>(h.new hp).1 (by rw[<-z];exact N)]⟩
def HR.more(h:HR K mg ρ s H)(hp:H p=none)o:HR K mg ρ s (L2.upd H p o):=by
 refine⟨h.f,h.l,λi c e=>?_,λa N=>?_⟩
 . obtain⟨a,S,r⟩:=h.g i c e
   obtain⟨u,R⟩:=r.there;exact⟨a,S,r.mv (Ext.new h hp o).mv (L2.zP (L2.zR R hp))⟩
 . obtain⟨⟨xs,e⟩,n⟩:=h.d a N
   exact⟨⟨xs,by rw[L2.zP (L2.zR e hp)];exact e⟩,n⟩
noncomputable def Own.more(ρ:Own)(p:Addr):Own:=⟨ρ.o++[p],ρ.h⟩
def Ext.own(h:HR K mg ρ s H)(hp:H p=none)o:Ext ρ H (ρ.more p) (L2.upd H p o):=
 ⟨⟨[p],rfl,λa N=>by rw[Az.mp N];exact hp⟩,rfl,λa u e _=>by rw[L2.zP (L2.zR e hp)];exact e,λa N=>by rw[L2.zP λz=>(h.new hp).1 (by rw[<-z];exact N)]⟩
def rF(h:HR K mg ρ s H)p:(ρ.more p).o[s.length]?=some p:=by show (ρ.o++[p])[s.length]?=some p;rw[<-h.f,AX (Ac _)];simp
def HR.wH(h:HR K mg ρ s H)(hp:H p=none)(r:CR K mg (ρ.more p) (L2.upd H p o) p c):HR K mg (ρ.more p) (s++[c]) (L2.upd H p o):=by
 have X:=Ext.own h hp o;refine⟨by show (ρ.o++[p]).length=_;rw[Aq,Aq,h.f];rfl,?_,λi U q=>?_,λa S=>?_⟩
 . show (ρ.o++[p]).Nodup
   rw[DG];exact⟨h.l,by simp,λa S b W=>by rw[Az.mp W];intro z;subst z;exact(h.new hp).1 S⟩
 . by_cases hi:i<s.length
   . rw[AW hi]at q
     obtain⟨a,Z,t⟩:=h.g i U q;obtain⟨u,Y⟩:=t.there;exact⟨a,X.get Z,t.mv X.mv (L2.zP (L2.zR Y hp))⟩
   . have R:i=s.length:=by have:=(As.mp q).1;rw[Aq]at this;simp at this;omega
     subst R;rw[AX (Ac _)]at q;simp at q;subst q;exact⟨p,rF h p,r⟩
 . obtain⟨⟨ys,q⟩,n⟩:=h.d a S
   refine⟨⟨ys,by rw[L2.zP (L2.zR q hp)];exact q⟩,λN=>?_⟩
   rcases AQ.mp N with N|N
   . exact n N
   . rw[Az.mp N,hp]at q;cases q
theorem HR.own(h:HR K mg ρ s H)(hp:H p=none)(r:RDs K mg ρ H vs xs):HR K mg (ρ.more p) (s++[.c vs]) (L2.upd H p (.b xs)):=h.wH hp ⟨xs,L2.zd,r.mono (Ext.own h hp _)⟩
def Ext.nR(h:HR K mg ρ s H){i:Nat}(e:ρ.o[i]?=some a)(k:hk (some o)=hk (H a)):Ext ρ H ρ (L2.upd H a o):=
 ⟨⟨[],by simp,λa N=>by cases N⟩,rfl,λb u q n=>by rw[L2.zP (λz=>n (by rw[z];exact AF e))];exact q,λb R=>by
   by_cases z:b=a
   . subst z;rw[L2.zd];exact k
   . rw[L2.zP z]⟩
def Ext.write(h:HR K mg ρ s H){i:Nat}(e:ρ.o[i]?=some a)(k:H a=some (.b ys))xs:Ext ρ H ρ (L2.upd H a (.b xs)):=Ext.nR h e (by rw[k];rfl)
theorem HR.nR(h:HR K mg ρ s H)(e:ρ.o[i]?=some a)(k:hk (some o)=hk (H a))(r:CR K mg ρ (L2.upd H a o) a c):HR K mg ρ (s.set i c) (L2.upd H a o):=by
 have X:=Ext.nR h e k;refine⟨by rw[Dv];exact h.f,h.l,λj S q=>?_,λb N=>?_⟩
 . skip
   by_cases hij:i=j
   . subst hij
     have hi:i<s.length:=by rw[<-h.f];exact(As.mp e).1
     rw[BD hi]at q;cases q;exact⟨a,e,r⟩
   . rw[Ce hij]at q
     obtain⟨b,R,t⟩:=h.g j S q;refine⟨b,R,t.mv X.mv ?_⟩;have N:b≠a:=by intro z;subst z;exact hij (bI h.l e R)
     rw[L2.zP N]
 . obtain⟨⟨ys,q⟩,n⟩:=h.d b N
   exact⟨⟨ys,by rw[L2.zP (λz=>n (by rw[z];exact AF e))];exact q⟩,n⟩
theorem HR.write(h:HR K mg ρ s H)(e:ρ.o[i]?=some a)(k:H a=some (.b ys))(r:RDs K mg ρ H vs xs):HR K mg ρ (upd s i vs) (L2.upd H a (.b xs)):=
 h.nR e (by rw[k];rfl) ⟨xs,L2.zd,r.mono (Ext.write h e k xs)⟩
theorem ER.mono(x:Ext ρ H ρ' H')(h:ER K mg ρ H env σ):ER K mg ρ' H' env σ:=⟨h.b,λi v e=>by obtain⟨u,R,N⟩:=h.a i v e;exact⟨u,R,N.mono x⟩⟩
theorem ER.set(h:ER K mg ρ H env σ)i(r:RD K mg ρ H v x):ER K mg ρ H (env.set i (some v)) (σ.set i (some x)):=by
 refine⟨by rw[Dv,Dv,h.b],λj w e=>?_⟩
 by_cases hij:i=j
 . subst hij
   by_cases hi:i<env.length
   . rw[BD hi]at e
     cases e;exact⟨x,by rw[BD (by rw[<-h.b];exact hi)],r⟩
   . rw[CQ (by rw[Dv];omega)]at e
     cases e
 . rw[Ce hij]at e
   rw[Ce hij];exact h.a j w e
end
section
variable (K:KF)(mg:Str->Option Value)
def yV{S N:Type}(R:Own->L2.Hp->S->N->Prop)(ρ:Own)(H:L2.Hp)(o:Out S)(Q:N->L2.Hp->Prop):Prop:=
 match o with
 |.e v s'=>∀ρ' x H',Ext ρ H ρ' H'->HR K mg ρ' s' H'->R ρ' H' v x->Q x H'
 |_=>False
def tV(env:Env)(s:Sto)(o:Out Val):L2.TE:=λσ H Q=>∃ρ,HR K mg ρ s H/\ER K mg ρ H env σ/\yV K mg (RD K mg) ρ H o Q
def tVs(env:Env)(s:Sto)(o:Out (List Val)):L2.TA:=λσ H Q=>∃ρ,HR K mg ρ s H/\ER K mg ρ H env σ/\yV K mg (RDs K mg) ρ H o Q
def tT(env:Env)(s:Sto)(o:Out Bool):L2.TT:=λσ H Q=>∃ρ,HR K mg ρ s H/\ER K mg ρ H env σ/\yV K mg (λ_ _ a b=>a=b) ρ H o Q
def tO(env:Env)(s:Sto)(o:Out (Option Int)):L2.TO:=λσ H Q=>∃ρ,HR K mg ρ s H/\ER K mg ρ H env σ/\yV K mg (λ_ _ a b=>a=b) ρ H o Q
end
def zl(h:L2.PE X e t)(i:∀σ H Q,t' σ H Q->t σ H Q):L2.PE X e t':=λpins s σ H Q I q=>h pins s σ H Q I (i σ H Q q)
def nD(h:L2.PT X e t)(i:∀σ H Q,t' σ H Q->t σ H Q):L2.PT X e t':=λpins s σ H Q I q=>h pins s σ H Q I (i σ H Q q)
def bj{t t':L2.TA}(h:L2.PA X es t)(i:∀σ H Q,t' σ H Q->t σ H Q):L2.PA X es t':=λpos pins s σ H Q I q=>h pos pins s σ H Q I (i σ H Q q)
def wA{t t':L2.TS}(h:L2.PS X st t)(i:∀D σ H,t' D σ H->t D σ H):L2.PS X st t':=λpins s σ H D I q=>h pins s σ H D I (i D σ H q)
def i9{t t':L2.TS}(h:L2.PSs X st t)(i:∀D σ H,t' D σ H->t D σ H):L2.PSs X st t':=λpins s σ H D I q=>h pins s σ H D I (i D σ H q)
def Se(h:∀σ H Q,¬t σ H Q):L2.PE X e t:=λpins s σ H Q I q=>(h σ H Q q).elim
def Sn(h:∀σ H Q,¬t σ H Q):L2.PT X e t:=λpins s σ H Q I q=>(h σ H Q q).elim
def So(h:∀σ H Q,¬t σ H Q):L2.PW X e t:=λN pins s σ H Q I q=>(h σ H Q q).elim
def Sa{t:L2.TA}(h:∀σ H Q,¬t σ H Q):L2.PA X es t:=λpos pins s σ H Q I q=>(h σ H Q q).elim
def RO(h:∀v s',o≠.e v s'):¬tV K mg env s o σ H Q:=by
 rintro ⟨ρ,_,_,w⟩;cases o with
 |e v s'=>exact h v s' rfl
 |_=>exact w
def Uc(h:∀v s',o≠.e v s'):¬tVs K mg env s o σ H Q:=by
 rintro ⟨ρ,_,_,w⟩;cases o with
 |e v s'=>exact h v s' rfl
 |_=>exact w
def X4(h:∀v s',o≠.e v s'):¬tT K mg env s o σ H Q:=by
 rintro ⟨ρ,_,_,w⟩;cases o with
 |e v s'=>exact h v s' rfl
 |_=>exact w
def yc:zN=AH:=by rw[A1];rfl
section
variable {K:KF}{mg:Str->Option Value}{ρ ρ':Own}{H H':L2.Hp}{s s':Sto}
def xG(R:HR K mg ρ s H)(r:RD K mg ρ H v x)(e:yL s v=some vs):∃a xs,x=.c a/\H a=some (.b xs)/\RDs K mg ρ H vs xs:=by
 cases r with
 |D n h q=>cases e;exact⟨_,_,rfl,h,q⟩
 |@C a i h _=>
  simp only[yL]at e;split at e
  . rename_i ws hw
    cases e;obtain⟨b,xs,N,S,q⟩:=R.obj i _ hw;rw[h]at N;cases N;exact⟨_,_,rfl,S,q⟩
  . cases e
 |_=>cases e
def jN(R:HR K mg ρ s H)(r:RD K mg ρ H v x)(e:y9 s v=some vs):∃a xs,x=.c a/\(L2.SqL K H a xs\/L2.SqT K H a xs)/\RDs K mg ρ H vs xs:=by
 cases r with
 |D n h q=>cases e;exact⟨_,_,rfl,.inl (.of h),q⟩
 |m n h q=>cases e;exact⟨_,_,rfl,.inr (.of h),q⟩
 |p h=>cases e;exact⟨_,_,rfl,.inr h.sqt,RDs.ints _⟩
 |F h=>cases e;exact⟨_,_,rfl,.inl h.sql,RDs.ints _⟩
 |@C a i h _=>
  simp only[y9]at e;split at e
  . rename_i ws hw
    cases e;obtain⟨b,xs,N,S,q⟩:=R.obj i _ hw;rw[h]at N;cases N;exact⟨_,_,rfl,.inl (.of S),q⟩
  . cases e
 |_=>cases e
mutual
theorem RD.reads{P:Program}{w:World}{h:Heap}(ok:L2.HOk P w H h){v:Val}{x:L2.V}{u:Value}(q:RD K mg ρ H v x)(N:v.isR=true)(r:L2.RelV x u):∃as,Reads h u v.d as/\(L2.y4 v.d=false->CW ∉ as):=by
 cases q with
 |s=>cases (show u=Ad from r);exact⟨[],.none,λ_=>by simp⟩
 |j b=>cases (show u=DZ b from r);exact⟨[],.bool b,λ_=>by simp⟩
 |l i=>obtain⟨t,q⟩:=(show ∃t,u=De i t from r);cases q;exact⟨[],.int i t,λ_=>by simp⟩
 |E x=>obtain⟨t,q⟩:=(show ∃t,u=HI x t from r);cases q;exact⟨[],.str x t,λ_=>by simp⟩
 |@D a vs xs n S U=>
  cases (show u=Bp a from r);obtain⟨z,its,n,R,e⟩:=(show L2.z8 P w H h a (.b xs) from ok a _ S);obtain⟨as,q,_⟩:=RDs.reads ok U (by simpa only[Val.isR] using N) R
  exact⟨a::as,.list e rfl rfl (by simpa using q),λz=>by simp[Val.d,L2.y4]at z⟩
 |@m a vs xs n S U=>
  cases (show u=Bp a from r);obtain⟨z,its,R,o,e,c,n,dd⟩:=(show L2.z8 P w H h a (.c xs) from ok a _ S);obtain⟨as,q,Y⟩:=RDs.reads ok U (by simpa only[Val.isR] using N) R
  exact⟨as,.tuple e c dd.1 (by simpa using q),λz=>Y (by simpa [Val.d,L2.y4] using z)⟩
 |@B a n S=>
  cases (show u=Bp a from r);obtain⟨z,y,vs,R,o,es,ep,e,c,dd,k⟩:=(show L2.z8 P w H h a (.j []) from ok a _ S);cases R;have W:es=#[]:=by
   have X:=k.2.1;cases hl:es.toList with
   |nil=>simpa using hl
   |cons a r=>rw[hl]at X;cases X
  subst W;refine⟨[a]++[],Reads.dict (as:=[]) (bs:=[]) e c.1 dd .nil .nil,λ_=>?_⟩;have:a≠CW:=by simpa using y
  simpa using B6 this
 |p _=>cases N
 |F _=>cases N
 |C _ _=>cases N
 |A _ _=>cases N
 |G _ _=>cases N
 |I _=>cases N
 |J _=>cases N
theorem RDs.reads{P:Program}{w:World}{h:Heap}(ok:L2.HOk P w H h){vs:List Val}{xs:List L2.V}{us:List Value}(p:RDs K mg ρ H vs xs)(R:uz vs=true)(q:L2.Vals xs us):∃as,ReadsAll h us (ds vs) as/\(L2.xD (ds vs)=false->CW ∉ as):=by
 cases p with
 |d=>cases q;exact⟨[],.nil,λ_=>by simp⟩
 |a r S=>
  cases q with
  |cons W U=>
   rw[uz,ub]at R;obtain⟨as,h1,Z⟩:=RD.reads ok r R.1 W;obtain⟨bs,Y,X⟩:=RDs.reads ok S R.2 U;refine⟨as++bs,.cons h1 Y,λz=>?_⟩;rw[ds,L2.xD,EJ]at z;intro N;rcases AQ.mp N with N|N
   . exact Z z.1 N
   . exact X z.2 N
end
def uo(ok:L2.HOk P w H h)(W:HR K mg ρ s H)(N:(yr s v).isR=true)(r:RD K mg ρ H v x)(R:L2.RelV x u) :
 ∃as,Reads h u (yr s v).d as/\(L2.y4 (yr s v).d=false->CW ∉ as):=by
 cases v with
 |j i=>
  cases r with
  |@C a _ e0=>
  simp only[yr]at N ⊢;split at N
  . rename_i ws hw
    obtain⟨b,xs,S,X,q⟩:=W.obj i _ hw;rw[e0]at S;cases S;cases (show u=Bp a from R);obtain⟨z,its,n,U,e⟩:=(show L2.z8 P w H h a (.b xs) from ok a _ X);obtain⟨as,q,_⟩:=RDs.reads ok q (by simpa only[Val.isR] using N) U
    exact⟨a::as,.list e rfl rfl (by simpa using q),λz=>by simp[Val.d,L2.y4]at z⟩
  . cases N
 |_=>exact RD.reads ok r N R
theorem RDs.aK(ok:L2.HOk P w H h)(R:HR K mg ρ s H):∀{vs} {xs} {us},RDs K mg ρ H vs xs->uz (vs.map (yr s))=true->L2.Vals xs us->∃as,ReadsAll h us (ds (vs.map (yr s))) as/\(L2.xD (ds (vs.map (yr s)))=false->CW ∉ as)
 |_,_,_,.d,_,r=>by cases r;exact⟨[],.nil,λ_=>by simp⟩
 |_,_,_,.a r rs,hv,q=>by
  cases q with
  |cons U S=>
   rw[AB,uz,ub]at hv;obtain⟨as,Z,Y⟩:=uo ok R hv.1 r U;obtain⟨bs,X,W⟩:=RDs.aK ok R rs hv.2 S;rw[AB];refine⟨as++bs,.cons Z X,λz=>?_⟩;rw[ds,L2.xD,EJ]at z;intro N;rcases AQ.mp N with N|N
   . exact Y z.1 N
   . exact W z.2 N
def dM{v:Val}(h:∀vs,v≠.g vs):zw s v=yr s v:=by
 cases v<;>first|rfl|exact absurd rfl (h _)
def yx(ok:L2.HOk P w H h)(S:HR K mg ρ s H)(N:(zw s v).isR=true)(r:RD K mg ρ H v x)(R:L2.RelV x u) :
 ∃as,Reads h u (zw s v).d as/\(L2.y4 (zw s v).d=false->CW ∉ as):=by
 cases v with
 |g vs=>
  cases r with
  |@m a _ xs n Y W=>
   cases (show u=Bp a from R);obtain⟨z,its,U,o,e,c,n,dd⟩:=(show L2.z8 P w H h a (.c xs) from ok a _ Y);obtain⟨as,q,X⟩:=RDs.aK ok S W (by simpa only[zw,Val.isR] using N) U
   exact⟨as,.tuple e c dd.1 (by simpa using q),λz=>X (by simpa [zw,Val.d,L2.y4] using z)⟩
 |_=>exact(show _ from by rw[dM (λ_ h=>by cases h)]at N ⊢;exact uo ok S N r R)
mutual
theorem yW:∀{v:Val},v.isD=true->v.isR=true
 |.h,_=>rfl
 |.e _,_=>rfl
 |.c _,_=>rfl
 |.m _,_=>rfl
 |.g vs,h=>by rw[Val.isR];exact vD (by simpa only[Val.isD] using h)
 |.f vs,h=>by rw[Val.isR];exact vD (by simpa only[Val.isD] using h)
 |.p,h=>by cases h
 |.o _,h=>by cases h
 |.r _,h=>by cases h
 |.j _,h=>by cases h
 |.u _,h=>by cases h
 |.t _,h=>by cases h
theorem vD:∀{vs:List Val},vb vs=true->uz vs=true
 |[],_=>rfl
 |v::vs,h=>by rw[vb,ub]at h;rw[uz,yW h.1,vD h.2];rfl
end
mutual
theorem zx:∀{v:Val},v.isD=true->v.d.canLay0=true
 |.h,_=>rfl
 |.e _,_=>rfl
 |.c _,_=>rfl
 |.m _,h=>by simpa only[Val.isD,Val.d,Ij] using h
 |.g vs,h=>by rw[Val.d,Ij];exact xV (by simpa only[Val.isD] using h)
 |.f vs,h=>by rw[Val.d,Ij];exact xV (by simpa only[Val.isD] using h)
 |.p,h=>by cases h
 |.o _,h=>by cases h
 |.r _,h=>by cases h
 |.j _,h=>by cases h
 |.u _,h=>by cases h
 |.t _,h=>by cases h
theorem xV:∀{vs:List Val},vb vs=true->PyData.canLayAll0 (ds vs)=true
 |[],_=>rfl
 |v::vs,h=>by rw[vb,ub]at h;rw[ds,PyData.canLayAll0,zx h.1,xV h.2];rfl
end
def xr(N:HR K mg ρ s H)(r:RDs K mg ρ H vs xs)(w:yV K mg (RD K mg) ρ H (newList m vs s) Q):∀p,H p=none->Q (.c p) (L2.upd H p (.b xs)):=λp hp=>by
 cases m with
 |true=>exact w _ _ _ (Ext.own N hp _) (N.own hp r) (.C (rF N p) (by rw[L2.zd];rfl))
 |false=>exact w _ _ _ (Ext.new N hp _) (N.more hp _) (.D (N.new hp) L2.zd (r.mono (Ext.new N hp _)))
def ot(N:HR K mg ρ s H)(r:RDs K mg ρ H vs xs)(w:yV K mg (RD K mg) ρ H (.e (.g vs) s) Q):∀p,H p=none->Q (.c p) (L2.upd H p (.c xs)):=λp hp=>
 w _ _ _ (Ext.new N hp _) (N.more hp _) (.m (N.new hp) L2.zd (r.mono (Ext.new N hp _)))
def Ext.same(R:HR K mg ρ s H)(e:L2.tX H H'):Ext ρ H ρ H':=⟨⟨[],by simp,λa N=>by cases N⟩,rfl,λa o h _=>e a o h,λa N=>by obtain⟨o,q⟩:=R.trk N;rw[q,e a o q]⟩
theorem HR.same(N:HR K mg ρ s H)(e:L2.tX H H'):HR K mg ρ s H':=⟨N.f,N.l,λi c q=>by
 obtain⟨a,U,r⟩:=N.g i c q;obtain⟨o,R⟩:=r.there;exact⟨a,U,r.mv (Ext.same N e).mv ((e a _ R).trans R.symm)⟩,λa S=>by
 obtain⟨⟨ys,q⟩,n⟩:=N.d a S;exact⟨⟨ys,e a _ q⟩,n⟩⟩
def vZ(R:HR K mg ρ s H)(r:RDs K mg ρ H vs xs)(w:yV K mg (RD K mg) ρ H (.e (.g vs) s) Q):L2.sO H xs Q:=λp H' e h=>by
 have N:=R.same e;refine w _ _ _ (Ext.same R e) N (.m ⟨λS=>?_,λS=>?_⟩ h (r.mono (Ext.same R e)))
 . obtain⟨i,hi,q⟩:=Bx S
   have hs:i<s.length:=by rw[<-N.f];exact hi
   obtain⟨b,U,W⟩:=N.g i _ (dS hs);rw[dS hi,q]at U;cases U;have:=W.hk;rw[h]at this;exact absurd this (B5 0)
 . obtain⟨⟨ys,q⟩,_⟩:=N.d _ S
   rw[h]at q;cases ys<;>cases q
end
section
variable (K:KF)(mg:Str->Option Value)
def rM2(g:Val->Val->Sto->Out Val):L2.R2:=λx y H Q=>∃ρ s v w,HR K mg ρ s H/\RD K mg ρ H v x/\RD K mg ρ H w y/\yV K mg (RD K mg) ρ H (g v w s) Q
def rMc(g:List Val->Sto->Out Val):List L2.V->L2.Hp->L2.VK->Prop:=λxs H Q=>∃ρ s vs,HR K mg ρ s H/\RDs K mg ρ H vs xs/\yV K mg (RD K mg) ρ H (g vs s) Q
end
def zK(N:HR K mg ρ s H)(r:RD K mg ρ H v x)(w:yV K mg (RD K mg) ρ H (.e v s) Q):Q x H:=w _ _ _ Ext.refl N r
def kZ m:L2.OpR X (BZ .Add) (rM2 X.K X.d (binOp m .a)):=by
 intro pins s σ H x y v u Q I W U h;obtain⟨ρ,t,a,b,N,Z,Y,w⟩:=h;simp only[binOp]at w;split at w
 . cases Z;cases Y
   exact L2.Vm pins s σ H _ _ v u Q I W U ⟨_,_,rfl,rfl,zK N (.l _) w⟩
 . split at w
   . rename_i hz
     cases Z;cases Y;exact L2.kY pins s σ H _ _ v u Q I W U ⟨_,_,rfl,rfl,by rw[<-yc];exact hz,zK N (.E _) w⟩
   . exact w.elim
 . split at w
   . rename_i hz
     cases Z with
     |m n1 h1 S=>
      cases Y with
      |m n2 h2 R=>
       refine L2.bT pins s σ H _ _ v u Q I W U ⟨_,_,_,_,rfl,rfl,h1,h2,?_,vZ N (S.append R) w⟩;rw[<-S.length,<-R.length,<-yc];exact hz
   . exact w.elim
 . split at w
   . rename_i ea eb
     split at w
     . rename_i hz
       obtain⟨p1,xs,rfl,h1,S⟩:=xG N Z ea;obtain⟨p2,ys,rfl,h2,R⟩:=xG N Y eb;refine L2.Vo pins s σ H _ _ v u Q I W U ⟨_,_,_,_,rfl,rfl,h1,h2,?_,xr N (S.append R) w⟩;rw[<-S.length,<-R.length,<-yc];exact hz
     . exact w.elim
   . exact w.elim
def kj m:L2.OpR X (BZ .Sub) (rM2 X.K X.d (binOp m .e)):=by
 intro pins s σ H x y v u Q I R N h;obtain⟨ρ,t,a,b,W,U,S,w⟩:=h;simp only[binOp]at w;split at w
 . cases U;cases S
   exact L2.Vt pins s σ H _ _ v u Q I R N ⟨_,_,rfl,rfl,zK W (.l _) w⟩
 . exact w.elim
def kg m:L2.OpR X (BZ .Mult) (rM2 X.K X.d (binOp m .b)):=by
 intro pins s σ H x y v u Q I W U h;obtain⟨ρ,t,a,b,R,Z,Y,w⟩:=h;simp only[binOp]at w;split at w
 . split at w
   . rename_i hz
     cases Z;cases Y;exact L2.Vq pins s σ H _ _ v u Q I W U ⟨_,_,rfl,rfl,hz,zK R (.l _) w⟩
   . exact w.elim
 . split at w
   . rename_i hz
     obtain⟨z1,z2,S,z4⟩:=hz;cases Z with
     |m n1 h1 N=>
      cases Y;refine L2.Yc pins s σ H _ _ v u Q I W U ⟨_,_,_,rfl,rfl,h1,z1,z2,?_,?_,vZ R (N.rep _) w⟩
      . intro e;subst e;cases N;exact S rfl
      . rw[<-N.length];exact z4
   . exact w.elim
 . split at w
   . rename_i ea
     split at w
     . rename_i hz
       obtain⟨z1,z2,S⟩:=hz;obtain⟨p1,xs,rfl,h1,N⟩:=xG R Z ea;cases Y;refine L2.Vs pins s σ H _ _ v u Q I W U ⟨_,_,_,rfl,rfl,h1,⋯,⋯,?_,xr R (N.rep _) w⟩
       rw[<-N.length,<-yc];exact S
     . exact w.elim
   . exact w.elim
 . exact w.elim
def mf m:L2.OpR X (BZ .FloorDiv) (rM2 X.K X.d (binOp m .c)):=by
 intro pins s σ H x y v u Q I R N h;obtain⟨ρ,t,a,b,W,U,S,w⟩:=h;simp only[binOp]at w;split at w
 . split at w
   . rename_i hz
     cases U;cases S;exact L2.Yb pins s σ H _ _ v u Q I R N ⟨_,_,rfl,rfl,hz,zK W (.l _) w⟩
   . exact w.elim
 . exact w.elim
def kf m:L2.OpR X (BZ .Mod) (rM2 X.K X.d (binOp m .d)):=by
 intro pins s σ H x y v u Q I R N h;obtain⟨ρ,t,a,b,W,U,S,w⟩:=h;simp only[binOp]at w;split at w
 . split at w
   . rename_i hz
     cases U;cases S;exact L2.Vp pins s σ H _ _ v u Q I R N ⟨_,_,rfl,rfl,hz,zK W (.l _) w⟩
   . exact w.elim
 . exact w.elim
def kh m:L2.OpR X (BZ .Pow) (rM2 X.K X.d (binOp m .g)):=by
 intro pins s σ H x y v u Q I R N h;obtain⟨ρ,t,a,b,W,U,S,w⟩:=h;simp only[binOp]at w;split at w
 . split at w
   . rename_i hz
     cases U;cases S;exact L2.Vr pins s σ H _ _ v u Q I R N ⟨_,_,rfl,rfl,hz,zK W (.l _) w⟩
   . exact w.elim
 . exact w.elim
end M
end
section
namespace L2
open PySem PyProof PyProof.Rows
section
variable {κ:Type} [DecidableEq κ]
theorem KV.length{N:List (κ × V)}{vs:List (κ × Value)}(r:KV N vs):N.length=vs.length:=Ir r
end
def Inv.big(I:Inv X pins σ H s):CW<s.heap.objs.size:=by have h:Bq<s.heap.objs.size:=(I.mod.a.keeps I.bk).lt;exact F9 (by decide) h
def dP(h:Heap)(N:CW<h.objs.size):z8 P w H (h.push {cls:=.type "dict",data:=.dict #[]}) h.objs.size (.j []):=
 ⟨AS _,beq_eq_false_iff_ne.mpr (B6 (Ax N)),[],.nil,Heap.DictOf.new h⟩
def dR(h:Heap)(N:CW<h.objs.size):z8 P w H (h.push {cls:=.type "dict",data:=.dict #[]}) h.objs.size (.k []):=
 ⟨AS _,beq_eq_false_iff_ne.mpr (B6 (Ax N)),[],.nil,_,#[],0,AA _ rfl,⟨rfl,rfl,rfl⟩,rfl,rfl,Gz⟩
def UZ:TE:=λ_ H Q=>∀p,H p=none->Q (.c p) (upd H p (.j []))
def Ua:TE:=λ_ H Q=>∀p,H p=none->Q (.c p) (upd H p (.k []))
def br:PE X (.Dict [] [] pos) UZ:=λpins s σ H Q I h=>
 wpAny_Dict_empty ⟨.c s.heap.objs.size,_,I.laid (a:=s.heap.objs.size) (o:=.j []) (t':=s.toks) (λ_ _ q=>xd _ q) (Ac _) (dP s.heap I.big),rfl,h _ (I.j.fresh (Ac _))⟩
def bt:PE X (.Dict [] [] pos) Ua:=λpins s σ H Q I h=>
 wpAny_Dict_empty ⟨.c s.heap.objs.size,_,I.laid (a:=s.heap.objs.size) (o:=.k []) (t':=s.toks) (λ_ _ q=>xd _ q) (Ac _) (dR s.heap I.big),rfl,h _ (I.j.fresh (Ac _))⟩
end L2
end
section
namespace M
open PySem
section
variable {K:KF}{mg:Str->Option Value}{ρ ρ':Own}{H H':L2.Hp}{s s':Sto}
theorem RD.flat{v:Val}{x:L2.V}(r:RD K mg ρ H v x)(h:flat v=true):L2.wm x=true:=by
 cases r<;>first|rfl|cases h
theorem RD.eqF(r:RD K mg ρ H v x)(q:RD K mg ρ H w y)(h:M.flat v=true)(h':M.flat w=true):L2.eqV x y=M.eqF v w:=by
 cases r<;>first|(cases h;done)|(cases q<;>first|rfl|(cases h';done))
theorem RDs.flat:∀{vs:List Val} {xs:List L2.V},RDs K mg ρ H vs xs->vs.all flat=true->xs.all L2.wm=true
 |_,_,.d,_=>rfl
 |_,_,.a r rs,h=>by rw[Df,ub]at h;rw[Df,r.flat h.1,rs.flat h.2];rfl
theorem RDs.any(q:RD K mg ρ H w y)(hw:M.flat w=true):∀{vs} {xs},RDs K mg ρ H vs xs->vs.all M.flat=true->(xs.any λz=>L2.eqV z y)=vs.any λz=>M.eqF z w
 |_,_,.d,_=>rfl
 |_,_,.a r rs,h=>by rw[Df,ub]at h;rw[Dz,Dz,r.eqF q h.1 hw,RDs.any q hw rs h.2]
theorem RDs.countP(q:RD K mg ρ H w y)(hw:M.flat w=true):∀{vs} {xs},RDs K mg ρ H vs xs->vs.all M.flat=true->(xs.countP λz=>L2.eqV z y)=vs.countP λz=>M.eqF z w
 |_,_,.d,_=>rfl
 |_,_,.a r rs,h=>by rw[Df,ub]at h;rw[ED,ED,r.eqF q h.1 hw,RDs.countP q hw rs h.2]
theorem RDs.bools:∀{vs} {xs} {bs},RDs K mg ρ H vs xs->boolsOf vs=some bs->xs=bs.map L2.V.f
 |_,_,_,.d,h=>by cases h;rfl
 |_,_,_,.a r rs,h=>by
  cases r with
  |j b=>
   simp only[boolsOf,AJ]at h;obtain⟨S,R,N⟩:=h;subst N;rw[rs.bools R];rfl
  |_=>cases h
theorem RDs.pM:∀{vs} {xs} {ns},RDs K mg ρ H vs xs->intsOf vs=some ns->xs=ns.map L2.V.d
 |_,_,_,.d,h=>by cases h;rfl
 |_,_,_,.a r rs,h=>by
  cases r with
  |l b=>
   simp only[intsOf,AJ]at h;obtain⟨S,R,N⟩:=h;subst N;rw[rs.pM R];rfl
  |_=>cases h
def ZU(r:RDs K mg ρ H vs xs)(h:L2.atI vs i=some v):∃x,L2.atI xs i=some x/\RD K mg ρ H v x:=by unfold L2.atI at h ⊢;rw[<-r.length];obtain⟨j,U,S⟩:=Fy.mp h;obtain⟨x,R,N⟩:=r.get S;exact⟨x,by rw[U];exact R,N⟩
def ZA(S:HR K mg ρ s H)(r:RD K mg ρ H v x)(h:truth s v=some b):L2.ZQ K x H b:=by
 have N:∀{vs:List Val} {xs:List L2.V},RDs K mg ρ H vs xs->vs.isEmpty=xs.isEmpty:=λr=>by cases r<;>rfl
 cases r with
 |s=>cases h;rfl
 |j b=>cases h;rfl
 |l i=>cases h;rfl
 |E x=>
  simp only[truth]at h;split at h
  . cases h
    rename_i q;exact⟨by rw[<-yc];exact q,rfl⟩
  . cases h
 |m n e q=>cases h;exact .inr (.inl ⟨_,.of e,by rw[N q]⟩)
 |D n e q=>cases h;exact .inl ⟨_,.of e,by rw[N q]⟩
 |B n e=>cases h;exact .inr (.inr ⟨_,e,rfl⟩)
 |p _=>cases h
 |F _=>cases h
 |@C a i e _=>
  simp only[truth]at h;split at h
  . rename_i ws hw
    cases h;obtain⟨c,xs,R,U,q⟩:=S.obj i _ hw;rw[e]at R;cases R;exact .inl ⟨_,.of U,by rw[N q]⟩
  . cases h
 |I _=>cases h
 |J _=>cases h
 |A _ _=>cases h
 |G _ _=>cases h
def RQ(N:HR K mg ρ s H)(r:RD K mg ρ H v x)(h:kindOf v=some a):(L2.uh K H x (.type a.nm)):=by
 cases r with
 |s=>cases h;exact .d
 |j b=>cases h;exact .bl b
 |l i=>cases h;exact .c i
 |E x=>cases h;exact .f x
 |m n e q=>cases h;exact .g e
 |D n e q=>cases h;exact .b e
 |B n e=>cases h;exact .dK e
 |C e k=>
  cases h;obtain⟨xs,q⟩:=kD k;exact .b q
 |_=>cases h
def Tx(h:t6 n=some c):n=c.nm/\c≠.e:=by unfold t6 at h;split at h<;>first|(cases h;exact⟨rfl,by decide⟩)|cases h
end
section
variable {X:L2.Cx}{k:Nat}
def T4(h:t9 d=true):L2.Xa d:=by
 unfold t9 at h;simp only[ub,decide_eq_true_eq,Bc,A8]at h;obtain⟨⟨⟨⟨W,U⟩,S⟩,R⟩,N⟩:=h;have L:L2.qe d.depth d.weight d:=⟨W,U,Ac _,Ac _⟩;refine L.RA S R λz=>?_;rcases N with N|N
 . rw[N]at z;cases z
 . exact N
def fO(R:L2.xB k X.A):L2.OpR X (BO .Eq) (rM2 X.K X.d (zQ .b)):=by
 intro pins s σ H x y v u Q I U S h;obtain⟨ρ,t,a,b,N,Y,W,w⟩:=h;simp only[zQ,nz]at w;split at w
 . rename_i p q
   cases Y;cases W;have e:decide (L2.V.e p=L2.V.e q)=decide (p=q):=by rw[BV];simp
   refine L2.SD pins s σ H _ _ v u Q I U S ⟨rfl,?_⟩;rw[e];exact zK N (.j _) w
 . rename_i a ns
   cases W with
   |p g=>
    by_cases hc:((zw t (.g a)).isD&&(Val.g (ns.map .c)).isD&&decide ((Val.g (ns.map .c)).d.depth<=60))=true
    . rw[if_pos hc]at w
      simp only[ub,decide_eq_true_eq]at hc;obtain⟨as,r1,_⟩:=yx I.j N (yW hc.1.1) Y U;obtain⟨its,rv,p1,_⟩:=I.tuple g.sqt;obtain⟨o,ho,hcl,n,hd⟩:=id p1;obtain⟨bs,q,_⟩:=RDs.reads I.j (RDs.ints (K:=X.K) (mg:=X.d) (ρ:=ρ) (H:=H) ns) (yW hc.1.2) rv;have Z:Reads s.heap u (Val.g (ns.map .c)).d bs:=by cases S;exact .tuple ho hcl hd (by simpa using q)
      have hu:=R.a;have hm:=Ez (zw t (.g a)).d.depth (Val.g (ns.map .c)).d.depth;exact SeqAt.compareEq_reads r1 Z (zx hc.1.1) (zx hc.1.2) ⋯ ⟨.f _,H,I,rfl,zK N (.j _) w⟩
    . rw[if_neg hc]at w;exact w.elim
 . by_cases hc:((zw t a).isD&&(zw t b).isD&&decide ((zw t b).d.depth<=60))=true
   . rw[if_pos hc]at w
     simp only[ub,decide_eq_true_eq]at hc;obtain⟨as,r1,_⟩:=yx I.j N (yW hc.1.1) Y U;obtain⟨bs,Z,_⟩:=yx I.j N (yW hc.1.2) W S;have hu:=R.a;have hm:=Ez (zw t a).d.depth (zw t b).d.depth;exact SeqAt.compareEq_reads r1 Z (zx hc.1.1) (zx hc.1.2) ⋯ ⟨.f _,H,I,rfl,zK N (.j _) w⟩
   . rw[if_neg hc]at w;exact w.elim
def fT(R:L2.xB k X.A):L2.OpR X (BO .NotEq) (rM2 X.K X.d (zQ .g)):=by
 intro pins s σ H x y v u Q I U S h;obtain⟨ρ,t,a,b,N,Y,W,w⟩:=h;simp only[zQ,nz]at w;split at w
 . rename_i p q
   cases Y;cases W;have e:decide (L2.V.e p=L2.V.e q)=decide (p=q):=by rw[BV];simp
   refine L2.SI pins s σ H _ _ v u Q I U S ⟨rfl,?_⟩;rw[e];exact zK N (.j _) w
 . by_cases hc:((zw t a).isD&&(zw t b).isD&&decide ((zw t b).d.depth<=60))=true
   . rw[if_pos hc]at w
     simp only[ub,decide_eq_true_eq]at hc;obtain⟨as,r1,_⟩:=yx I.j N (yW hc.1.1) Y U;obtain⟨bs,Z,_⟩:=yx I.j N (yW hc.1.2) W S;have hu:=R.a;have hm:=Ez (zw t a).d.depth (zw t b).d.depth;exact SeqAt.compareNe_reads r1 Z (zx hc.1.1) (zx hc.1.2) ⋯ ⟨.f _,H,I,rfl,zK N (.j _) w⟩
   . rw[if_neg hc]at w;exact w.elim
def RD.isNone(r:RD K mg ρ H v x):decide (x=.g)=v.isN:=by
 cases r<;>first|rfl|exact decide_eq_false (λz=>nomatch z)
theorem r9:∀{vs} {v},vb vs=true->v∈vs->v.isD=true
 |w::vs,v,h,m=>by
  rw[vb,ub]at h;rcases Ar.mp m with rfl|m
  . exact h.1
  . exact r9 h.2 m
def dh{g:Val->Bool}(q:RDs K mg ρ H vs xs)(r:L2.Vals xs its)
 (Z:∀z x w,z∈vs->RD K mg ρ H z x->L2.RelV x w->Bv A s w u (g z)):∃f:Value->Bool,(∀w∈its.toArray,Bv A s w u (f w))/\its.toArray.any f=vs.any g:=by
 classical
 have at_:∀i w,its[i]?=some w->∃z x,vs[i]?=some z/\RD K mg ρ H z x/\L2.RelV x w:=λi w e=>by
  have hi:i<xs.length:=by rw[r.length];exact(As.mp e).1
  have hx:xs[i]?=some xs[i]:=dS hi;obtain⟨w',e',N⟩:=r.get hx;rw[e]at e';cases e';obtain⟨z,X,S⟩:=q.TZ hx;exact⟨z,_,X,S,N⟩
 refine⟨λw=>decide (∃(i:Nat) (z:Val),its[i]?=some w/\vs[i]?=some z/\g z=true),λw hw=>?_,?_⟩
 . obtain⟨i,hi⟩:=DN (by simpa using hw:w∈its)
   by_cases hd:∃(i:Nat) (z:Val),its[i]?=some w/\vs[i]?=some z/\g z=true
   . dsimp only;rw[decide_eq_true hd]
     obtain⟨j,z,X,R,W⟩:=hd;obtain⟨z',x,U,S,N⟩:=at_ j w X;rw[R]at U;cases U;rw[<-W];exact Z z x w (AF R) S N
   . dsimp only;rw[decide_eq_false hd]
     obtain⟨z,x,U,S,N⟩:=at_ i w hi;have Y:g z=false:=by
      cases Y:g z with
      |false=>rfl
      |true=>exact(hd ⟨i,z,hi,U,Y⟩).elim
     rw[<-Y];exact Z z x w (AF U) S N
 . rw[BV,Array.any_toList.symm,CM,CM]
   constructor
   . rintro ⟨w,_,h⟩
     obtain⟨i,z,_,R,W⟩:=of_decide_eq_true h;exact⟨z,AF R,W⟩
   . rintro ⟨z,hz,W⟩
     obtain⟨i,hi⟩:=DN hz;obtain⟨x,X,_⟩:=q.get hi;obtain⟨w,R,_⟩:=r.get X;exact⟨w,AF R,decide_eq_true ⟨i,z,R,hi,W⟩⟩
def eqD(hu:A.units+60<cLine)(ok:L2.HOk P w H s.heap)(X:RD K mg ρ H a x)(W:L2.RelV x v)(R:a.isD=true)(hd:a.d.depth<=60)
 (S:RD K mg ρ H z y) (U:L2.RelV y u) (N:z.isD=true):Bv A s u v (Ck z.d a.d):=by
 obtain⟨as,Z,_⟩:=RD.reads ok X (yW R) W;obtain⟨bs,Y,_⟩:=RD.reads ok S (yW N) U;have hm:=Ez z.d.depth a.d.depth;exact SeqAt.eqAt_reads _ _ _ _ _ _ _ _ Y Z (zx N) (zx R) ⋯
def oy(hr0:L2.xB k X.A):L2.OpR X (BO .NotIn) (rM2 X.K X.d (zQ .a)):=by
 intro pins s σ H x y v u Q I Z ry h;obtain⟨ρ,t,a,b,W,U,rb,w⟩:=h;simp only[zQ]at w;split at w
 . rename_i vs e
   obtain⟨p,xs,rfl,R,q⟩:=jN W rb e;split at w
   . rename_i hf
     rw[ub]at hf;refine L2.oz pins s σ H _ _ v u Q I Z ry ⟨p,xs,rfl,R,U.flat hf.1,q.flat hf.2,?_⟩;simp only[L2.inV,if_true];rw[RDs.any U hf.1 q hf.2];exact zK W (.j _) w
   . split at w
     . rename_i hf
       simp only[inD,ub,decide_eq_true_eq]at hf;have hu:=hr0.a;cases ry;rcases R with R|R
       . obtain⟨its,r,pl,S⟩:=I.list R
         obtain⟨f,f1,f2⟩:=dh (A:=X.A.in1) (s:=s) (u:=v) (g:=λz=>Ck z.d a.d) q r λz x' w' S Y N=>eqD (show X.A.units+1+60<cLine by omega) I.j U Z hf.1.1 hf.2 Y N (r9 hf.1.2 S)
         exact SeqAt.notIn_listAt f pl.isList f1 ⟨.f _,H,I,rfl,by rw[f2];exact zK W (.j _) w⟩
       . obtain⟨its,r,pl,S⟩:=I.tuple R
         obtain⟨f,f1,f2⟩:=dh (A:=X.A.in1) (s:=s) (u:=v) (g:=λz=>Ck z.d a.d) q r λz x' w' S Y N=>eqD (show X.A.units+1+60<cLine by omega) I.j U Z hf.1.1 hf.2 Y N (r9 hf.1.2 S)
         exact SeqAt.notIn_tupleAt f pl f1 ⟨.f _,H,I,rfl,by rw[f2];exact zK W (.j _) w⟩
     . exact w.elim
 . exact w.elim
def fS:L2.OpR X (BO .Lt) (rM2 X.K X.d (zQ .l)):=by
 intro pins s σ H x y v u Q I R N h;obtain⟨ρ,t,a,b,W,U,S,w⟩:=h;simp only[zQ]at w;split at w
 . cases U;cases S
   exact L2.SH pins s σ H _ _ v u Q I R N ⟨_,_,rfl,rfl,zK W (.j _) w⟩
 . exact w.elim
def fR:L2.OpR X (BO .LtE) (rM2 X.K X.d (zQ .e)):=by
 intro pins s σ H x y v u Q I R N h;obtain⟨ρ,t,a,b,W,U,S,w⟩:=h;simp only[zQ]at w;split at w
 . cases U;cases S
   exact L2.SG pins s σ H _ _ v u Q I R N ⟨_,_,rfl,rfl,zK W (.j _) w⟩
 . exact w.elim
def fQ:L2.OpR X (BO .Gt) (rM2 X.K X.d (zQ .h)):=by
 intro pins s σ H x y v u Q I R N h;obtain⟨ρ,t,a,b,W,U,S,w⟩:=h;simp only[zQ]at w;split at w
 . cases U;cases S
   exact L2.SF pins s σ H _ _ v u Q I R N ⟨_,_,rfl,rfl,zK W (.j _) w⟩
 . exact w.elim
def fP:L2.OpR X (BO .GtE) (rM2 X.K X.d (zQ .j)):=by
 intro pins s σ H x y v u Q I R N h;obtain⟨ρ,t,a,b,W,U,S,w⟩:=h;simp only[zQ]at w;split at w
 . cases U;cases S
   exact L2.SE pins s σ H _ _ v u Q I R N ⟨_,_,rfl,rfl,zK W (.j _) w⟩
 . exact w.elim
noncomputable def Cop.op:Cop->CmpOp
 |.b=>.Eq|.g=>.NotEq|.l=>.Lt|.e=>.LtE|.h=>.Gt|.j=>.GtE|.m=>.Is|.f=>.IsNot|.i=>.In|.a=>.NotIn|.k=>.In|.c=>.NotIn|.d=>.NotIn
noncomputable def okC:Cop->Bool
 |.m|.f|.i|.k|.c|.d=>false
 |_=>true
def sC(N:L2.xB k X.A):∀op:Cop,okC op=true->L2.OpR X (BO op.op) (rM2 X.K X.d (zQ op))
 |.b,_=>fO N
 |.g,_=>fT N
 |.l,_=>fS
 |.e,_=>fR
 |.h,_=>fQ
 |.j,_=>fP
 |.m,h=>by cases h
 |.f,h=>by cases h
 |.i,h=>by cases h
 |.a,_=>oy N
 |.k,h=>by cases h
 |.c,h=>by cases h
 |.d,h=>by cases h
noncomputable def Bop.op:Bop->Operator
 |.a=>.Add|.e=>.Sub|.b=>.Mult|.c=>.FloorDiv|.d=>.Mod|.g=>.Pow|.h=>.LShift|.i=>.RShift|.f=>.BitAnd
noncomputable def okB:Bop->Bool
 |.h|.i|.f=>false
 |_=>true
def Vn m:∀op:Bop,okB op=true->L2.OpR X (BZ op.op) (rM2 X.K X.d (binOp m op))
 |.a,_=>kZ m
 |.e,_=>kj m
 |.b,_=>kg m
 |.c,_=>mf m
 |.d,_=>kf m
 |.g,_=>kh m
 |.h,h=>by cases h
 |.i,h=>by cases h
 |.f,h=>by cases h
def Tg:L2.IxR X (rM2 X.K X.d vU):=by
 intro N R pins s σ H x y v u Q I rx ry h hs;obtain⟨ρ,t,a,b,U,ra,rb,w⟩:=h;simp only[vU]at w;split at w
 . split at w
   . rename_i vs e
     split at w
     . rename_i z hz
       obtain⟨p,xs,rfl,S,q⟩:=jN U ra e;cases rb;obtain⟨W,Z,Y⟩:=ZU q hz;refine L2.Ws N R pins s σ H _ _ v u Q I rx ry ?_ hs;rcases S with S|S
       . exact .inl ⟨p,xs,_,W,rfl,rfl,S,Z,zK U Y w⟩
       . exact .inr (.inl ⟨p,xs,_,W,rfl,rfl,S,Z,zK U Y w⟩)
     . exact w.elim
   . exact w.elim
 . exact w.elim
end
noncomputable def Bf.nm:Bf->Str
 |.a=>"len"|.p=>"all"|.q=>"any"|.d=>"tuple"|.l=>"list"|.b=>"sorted"|.h=>"repr"|.j=>"max"|.k=>"min"|.s=>"sum"|.o=>"int"|.i=>"isinstance"|.c=>"divmod"|.r=>"str"|.e=>"sorted"|.n=>"min"|.g=>"sorted"|.m=>"min"
noncomputable def Bf.val:Bf->Value
 |.a=>.builtin "len"|.p=>.builtin "all"|.q=>.builtin "any"|.d=>.type "tuple"|.l=>.type "list"|.b=>.builtin "sorted"|.h=>.builtin "repr"|.j=>.builtin "max"|.k=>.builtin "min"|.s=>.builtin "sum"|.o=>.type "int"
 |.i=>.builtin "isinstance"|.c=>.builtin "divmod"|.r=>.type "str"|.e=>.builtin "sorted"|.n=>.builtin "min"|.g=>.builtin "sorted"|.m=>.builtin "min"
def Bf.boot:∀f:Bf,Dq f.nm=some f.val
 |.a=>boot_len|.p=>PyProof.Rows.boot_all|.q=>PyProof.Rows.boot_any|.d=>HH|.l=>FG|.b=>DX|.h=>PyProof.Rows.boot_repr|.j=>PyProof.Rows.boot_max|.k=>F3
 |.s=>PyProof.Rows.boot_sum|.o=>PyProof.Rows.boot_int|.i=>PyProof.Rows.boot_isinstance|.c=>PyProof.Rows.boot_divmod|.r=>PyProof.Rows.boot_str|.e=>DX|.n=>F3|.g=>DX|.m=>F3
section
variable {X:L2.Cx}{k:Nat}{m:Bool}
def uY(r:RDs K mg ρ H [v] xs):∃x,xs=[x]/\RD K mg ρ H v x:=by
 cases r with
 |a R N=>cases N;exact⟨_,rfl,R⟩
def fk(r:RDs K mg ρ H [v,w] xs):∃x y,xs=[x,y]/\RD K mg ρ H v x/\RD K mg ρ H w y:=by
 cases r with
 |a S R=>
  obtain⟨y,rfl,N⟩:=uY R;exact⟨_,_,rfl,S,N⟩
def eu:L2.yN X (.builtin "len") (rMc X.K X.d (blt .a m)):=by
 intro pins s σ H xs us Q I r h;obtain⟨ρ,t,vs,R,S,w⟩:=h;simp only[blt]at w;split at w
 . split at w
   . rename_i hz
     obtain⟨x,rfl,N⟩:=uY S;cases N;exact L2.oG pins s σ H _ us Q I r ⟨_,rfl,by rw[<-yc];exact hz,zK R (.l _) w⟩
   . exact w.elim
 . split at w
   . rename_i e
     obtain⟨x,rfl,N⟩:=uY S;obtain⟨p,ys,rfl,U,q⟩:=jN R N e;refine L2.oF pins s σ H _ us Q I r ⟨p,ys,rfl,U,?_⟩;rw[<-q.length];exact zK R (.l _) w
   . exact w.elim
 . exact w.elim
theorem rS(W:X.g=true):L2.yN X (.builtin "all") (rMc X.K X.d (blt .p m)):=by
 intro pins s σ H xs us Q I r h;obtain⟨ρ,t,vs,N,U,w⟩:=h;simp only[blt]at w;split at w
 . split at w
   . rename_i e
     split at w
     . rename_i bs eb
       obtain⟨x,rfl,S⟩:=uY U;obtain⟨p,ys,rfl,R,q⟩:=xG N S e;rw[q.bools eb]at R;exact L2.rS W pins s σ H _ us Q I r ⟨p,bs,rfl,.of R,zK N (.j _) w⟩
     . exact w.elim
   . exact w.elim
 . exact w.elim
def lz:L2.yN X (.type "tuple") (rMc X.K X.d (blt .d m)):=by
 intro pins s σ H xs us Q I r h;obtain⟨ρ,t,vs,R,S,w⟩:=h;simp only[blt]at w;split at w
 . obtain⟨x,rfl,N⟩:=uY S
   cases N with
   |m n e q=>exact L2.uG pins s σ H _ us Q I r ⟨_,_,rfl,.inr ⟨.of e,zK R (.m n e q) w⟩⟩
 . split at w
   . rename_i e
     obtain⟨x,rfl,N⟩:=uY S;obtain⟨p,ys,rfl,U,q⟩:=xG R N e;exact L2.uG pins s σ H _ us Q I r ⟨p,ys,rfl,.inl ⟨.of U,ot R q w⟩⟩
   . exact w.elim
 . exact w.elim
def dC(U:L2.xB k X.A):L2.yN X (.builtin "repr") (rMc X.K X.d (blt .h m)):=by
 intro pins s σ H xs us Q I r h;obtain⟨ρ,t,vs,Z,rv,w⟩:=h;simp only[blt]at w;split at w
 . rename_i v
   split at w
   . rename_i hc
     rw[ub]at hc;obtain⟨x,rfl,Y⟩:=uY rv;obtain⟨u,rfl,N⟩:=L2.vals1 r;have S:=T4 hc.2;have q:Q (.e (zw t v).d.shown) H:=zK Z (.E _) w;have fin:∀(W:Tok) (tk:Nat),L2.EP X pins σ Q (.str (zw t v).d.shown W) {s with toks:=tk}:=λ_ tk=>⟨.e _,H,I.tok _,⟨_,rfl⟩,q⟩
     obtain⟨as,R,hs⟩:=yx I.j Z hc.1 Y N;have fr:∀a,u=.ref a->wpAny (model X.f X.w) X.A (call (.builtin "repr") [u]) (L2.EP X pins σ Q) X.h s:=λa e=>by subst e;refine repr_of_reads' R S.sh (λz=>hs (S.a z)) U.gd ?_ (λ_ _ e=>e) (λh' u tk hk=>⟨.e _,H,I.kept hk,⟨_,rfl⟩,q⟩) S.ln;have:=S.dp;have:=U.a;omega
     cases Y with
     |s=>cases (show u=Ad from N);exact PySem.P.repr_of_none (fin _ _)
     |j b=>cases (show u=DZ b from N);exact PySem.P.repr_of_bool (fin _ _)
     |l i=>obtain⟨t',z⟩:=(show ∃t,u=De i t from N);cases z;exact PySem.P.repr_of_int (by simpa [zw,yr,Val.d,PyData.showable] using S.sh) (fin _ _)
     |E x=>obtain⟨t',z⟩:=(show ∃t,u=HI x t from N);cases z;exact PySem.P.repr_of_str (fin _ _) S.ln
     |m _ _ _=>exact fr _ N
     |D _ _ _=>exact fr _ N
     |B _ _=>exact fr _ N
     |C _ _=>exact fr _ N
     |p _=>exact fr _ N
     |F _=>exact fr _ N
     |I _=>exact fr _ N
     |J _=>exact absurd hc.1 (by simp[zw,yr,Val.isR])
     |A _ _=>exact fr _ N
     |G _ _=>exact fr _ N
   . exact w.elim
 . exact w.elim
def dA(U:X.g=true):L2.yN X (.builtin "max") (rMc X.K X.d (blt .j m)):=by
 intro pins s σ H xs us Q I r h;obtain⟨ρ,t,vs,R,S,w⟩:=h;simp only[blt]at w;split at w
 . obtain⟨x,y,rfl,N,Y⟩:=fk S
   cases N;cases Y;exact L2.gO U pins s σ H _ us Q I r ⟨_,_,rfl,zK R (.l _) w⟩
 . split at w
   . rename_i ns en
     split at w
     . rename_i hn
       obtain⟨x,rfl,N⟩:=uY S;cases N with
       |m n e q=>
        rw[q.pM en]at e;exact L2.gQ U pins s σ H _ us Q I r ⟨_,ns,rfl,.of e,hn,zK R (.l _) w⟩
     . exact w.elim
   . exact w.elim
 . split at w
   . rename_i e
     split at w
     . rename_i ns en
       split at w
       . rename_i hn
         obtain⟨x,rfl,N⟩:=uY S;obtain⟨p,ys,rfl,W,q⟩:=xG R N e;rw[q.pM en]at W;exact L2.gP U pins s σ H _ us Q I r ⟨p,ns,rfl,.of W,hn,zK R (.l _) w⟩
       . exact w.elim
     . exact w.elim
   . exact w.elim
 . exact w.elim
def dB(U:X.g=true):L2.yN X (.builtin "min") (rMc X.K X.d (blt .k m)):=by
 intro pins s σ H xs us Q I r h;obtain⟨ρ,t,vs,R,S,w⟩:=h;simp only[blt]at w;split at w
 . obtain⟨x,y,rfl,N,Y⟩:=fk S
   cases N;cases Y;exact L2.gR U pins s σ H _ us Q I r ⟨_,_,rfl,zK R (.l _) w⟩
 . split at w
   . rename_i ns en
     split at w
     . rename_i hn
       obtain⟨x,rfl,N⟩:=uY S;cases N with
       |m n e q=>
        rw[q.pM en]at e;exact L2.lr U pins s σ H _ us Q I r ⟨_,ns,rfl,.of e,hn,zK R (.l _) w⟩
     . exact w.elim
   . exact w.elim
 . split at w
   . rename_i e
     split at w
     . rename_i ns en
       split at w
       . rename_i hn
         obtain⟨x,rfl,N⟩:=uY S;obtain⟨p,ys,rfl,W,q⟩:=xG R N e;rw[q.pM en]at W;exact L2.gS U pins s σ H _ us Q I r ⟨p,ns,rfl,.of W,hn,zK R (.l _) w⟩
       . exact w.elim
     . exact w.elim
   . exact w.elim
 . exact w.elim
def ek:L2.yN X (.type "int") (rMc X.K X.d (blt .o m)):=by
 intro pins s σ H xs us Q I r h;obtain⟨ρ,t,vs,S,R,w⟩:=h;simp only[blt]at w;split at w
 . obtain⟨x,rfl,N⟩:=uY R
   cases N;exact L2.pG pins s σ H _ us Q I r (.inl ⟨_,rfl,zK S (.l _) w⟩)
 . obtain⟨x,rfl,N⟩:=uY R
   cases N;exact L2.pG pins s σ H _ us Q I r (.inr ⟨_,rfl,zK S (.l _) w⟩)
 . exact w.elim
theorem rT:L2.yN X (.builtin "isinstance") (rMc X.K X.d (blt .i m)):=by
 intro pins s σ H xs us Q I r h;obtain⟨ρ,t,vs,N,U,w⟩:=h;simp only[blt]at w;split at w
 . split at w
   . rename_i ea ec
     obtain⟨x,y,rfl,S,R⟩:=fk U;cases R;obtain⟨Y,W⟩:=Tx ec;subst Y;exact L2.rT pins s σ H _ us Q I r ⟨_,_,_,_,rfl,RQ N S ea,L2.VZ X.K _ _ W,zK N (.j _) w⟩
   . exact w.elim
 . exact w.elim
theorem vW:L2.yN X (.builtin "divmod") (rMc X.K X.d (blt .c m)):=by
 intro pins s σ H xs us Q I r h;obtain⟨ρ,t,vs,U,S,w⟩:=h;simp only[blt]at w;split at w
 . split at w
   . rename_i hz
     obtain⟨x,y,rfl,R,N⟩:=fk S;cases R;cases N;exact L2.vW pins s σ H _ us Q I r ⟨_,_,rfl,hz,ot U (.a (.l _) (.a (.l _) .d)) w⟩
   . exact w.elim
 . exact w.elim
theorem tu z:∀l,(kE z l).Perm (z::l)
 |[]=>.refl _
 |y::ys=>by
  unfold kE;split
  . exact .refl _
  . exact((tu z ys).cons y).trans (.swap z y ys)
theorem yk:∀l,(tQ l).Perm l
 |[]=>.refl _
 |z::zs=>(tu z _).trans ((yk zs).cons z)
theorem iP z:∀l,l.Pairwise (λa b=>L2.yg a<=L2.yg b)->(kE z l).Pairwise (λa b=>L2.yg a<=L2.yg b)
 |[],_=>by simp[kE]
 |y::ys,h=>by
  rw[BX]at h;unfold kE;split
  . rename_i hz
    refine BX.mpr ⟨λa N=>?_,BX.mpr h⟩;rcases Ar.mp N with e|e
    . subst e;exact hz
    . exact Bh hz (h.1 a e)
  . rename_i hz
    refine BX.mpr ⟨λa N=>?_,iP z ys h.2⟩;rcases Ar.mp ((tu z ys).mem_iff.mp N) with e|e
    . subst e;omega
    . exact h.1 a e
theorem lJ:∀l,(tQ l).Pairwise (λa b=>L2.yg a<=L2.yg b)
 |[]=>.nil
 |z::zs=>iP z _ (lJ zs)
def lK{l:List (Int × Int)}(nd:l.Nodup)(S:∀z∈l,0<=z.2/\z.2<1000):(tQ l).Pairwise (λa b=>L2.yg a<L2.yg b):=by
 have h1:=lJ l;have Z:(tQ l).Pairwise (·≠·):=(yk l).nodup_iff.mpr nd
 have Y:=h1.and Z;refine Y.imp_of_mem ?_;intro a b X R N;have W:=S a ((yk l).mem_iff.mp X);have U:=S b ((yk l).mem_iff.mp R);rcases GL N.1 with z|z
 . exact z
 . exact absurd (L2.pH W U z) N.2
theorem aB:∀{vs} {xs} {zs},RDs K mg ρ H vs xs->pairsOf vs=some zs->vs=zs.map prV/\L2.RW K H xs zs
 |_,_,_,.d,h=>by cases h;exact⟨rfl,rfl,λi z e=>by simp at e⟩
 |_,_,_,.a (v:=v) (x:=x) (vs:=vs) (xs:=xs) r rs,h=>by
  unfold pairsOf at h;split at h
  . rename_i hv;cases hv
  . rename_i a b ws hv
    cases hv;rw[AJ]at h;obtain⟨S,X,rfl⟩:=h;obtain⟨e1,Z,Y⟩:=aB rs X;refine⟨by rw[e1];rfl,by rw[Aj,Aj,Z],λi z N=>?_⟩
    cases i with
    |zero=>
     simp at N;subst N;cases r with
     |m n e q=>
      cases q with
      |a W R=>
       cases R with
       |a R U=>
        cases W;cases R;cases U;exact⟨_,rfl,.of e⟩
    |succ i=>
     simp only[Fx]at N ⊢;exact Y i z N
  . cases h
theorem aJ(r:RDs K mg ρ H vs xs):∀{ix:List Nat},(∀i∈ix,i<vs.length)->RDs K mg ρ H (ix.map λi=>vs.getD i .h) (ix.map λi=>xs.getD i .g)
 |[],_=>.d
 |i::ix,h=>by have hi:=h i (.head _);obtain⟨x,S,R⟩:=r.get (dS hi);refine .a ?_ (aJ r λj N=>h j (.tail _ N));show RD K mg ρ H (vs.getD i .h) (xs.getD i .g);rw[Ab,dS hi,Ab,S];exact R
theorem a9:∀{vs} {xs} {zs},RDs K mg ρ H vs xs->yE vs=some zs->L2.ZR K H xs zs
 |_,_,_,.d,h=>by cases h;exact⟨rfl,λi z e=>by simp at e⟩
 |_,_,_,.a (v:=v) (x:=x) (vs:=vs) (xs:=xs) r rs,h=>by
  unfold yE at h;split at h
  . rename_i hv;cases hv
  . rename_i a ws hv
    cases hv;split at h
    . rename_i z zs' h1 h2
      cases h;obtain⟨U,S⟩:=a9 rs h2;refine⟨by rw[Aj,Aj,U],λi R N=>?_⟩
      cases i with
      |zero=>
       simp at N;subst N;cases r with
       |m n e q=>exact⟨_,rfl,by rw[q.pM h1]at e;exact .of e⟩
      |succ i=>
       simp only[Fx]at N ⊢;exact S i R N
    . cases h
  . cases h
theorem ints_map:∀{a} {z},intsOf a=some z->a=z.map .c
 |[],_,h=>by cases h;rfl
 |v::vs,z,h=>by
  cases v with
  |c i=>
   obtain⟨n,N,rfl⟩:=AJ.mp (show (intsOf vs).map (i::·)=some z from h)
   rw[ints_map N];rfl
  |_=>cases h
theorem jY:∀{vs} {xs} {zs},RDs K mg ρ H vs xs->yE vs=some zs->vs=zs.map tpV
 |_,_,_,.d,h=>by cases h;rfl
 |_,_,_,.a (v:=v) (x:=x) (vs:=vs) (xs:=xs) r rs,h=>by
  unfold yE at h;split at h
  . rename_i hv;cases hv
  . rename_i a ws hv
    cases hv;split at h
    . rename_i z zs' h1 h2
      cases h;rw[jY rs h2,AB];rw[ints_map h1];rfl
    . cases h
  . cases h
def p0{S:Type}{d}{f}{zs l:List S}{ix:List Nat}(q:RDs K mg ρ H (zs.map f) ys)(hp:ix.Perm (Ah zs.length))(h:(ix.map λi=>zs.getD i d).Perm zs->(ix.map λi=>zs.getD i d)=l):RDs K mg ρ H (l.map f) (ix.map λi=>ys.getD i .g):=by
 have N:∀i∈ix,i<zs.length:=λi hi=>Al.mp (hp.mem_iff.mp hi);have W:(ix.map λi=>zs.getD i d).Perm zs:=L2.uA d hp;have R:=aJ q (ix:=ix) (by rw[Aa];exact N)
 have U:(ix.map λi=>(zs.map f).getD i .h)=l.map f:=by rw[<-h W,BI];refine CD λi hi=>?_;have:=N i hi;show _=f (zs.getD i d);rw[Ab,Am,dS this,Ab,dS this];rfl
 rw[U]at R;exact R
def nc:L2.yN X (.builtin "sorted") (rMc X.K X.d (blt .b m)):=by
 intro pins s σ H xs us Q I r h;obtain⟨ρ,t,vs,hr,W,w⟩:=h;have Y:∀{v:Val} {ws:List Val},RDs X.K X.d ρ H [v] xs->yL t v=some ws->yV X.K X.d (RD X.K X.d) ρ H (sH m ws t) Q->wpAny (model X.f X.w) X.A (call (.builtin "sorted") us) (L2.EP X pins σ Q) X.h s:=λ{v ws} W e w=>by
  unfold sH at w;split at w
  . rename_i zs ez
    split at w
    . rename_i hz
      obtain⟨x,rfl,rx⟩:=uY W;obtain⟨p,ys,rfl,hq,q⟩:=xG hr rx e;refine L2.rV pins s σ H _ us Q I r ⟨p,ys,zs,λa=>((L2.zk zs).idxOf a:Int),rfl,.of hq,a9 q ez,hz.2,hz.1,λa N b R=>L2.qW hz.1 N R,λa N b R=>L2.lL N R,λl ix U hp hw=>xr hr (p0 (jY q ez▸q) hp λZ=>L2.qU hz.1 Z hw) w l U⟩
    . exact w.elim
  . exact w.elim
 simp only[blt]at w;split at w
 . split at w
   . rename_i e
     split at w
     . rename_i zs ez
       split at w
       . rename_i hz
         obtain⟨x,rfl,rx⟩:=uY W;obtain⟨p,ys,rfl,hq,q⟩:=xG hr rx e;obtain⟨ev,pa⟩:=aB q ez;subst ev;have R:∀{a:List Int},a∈zs.map L2.plI->∃z∈zs,L2.plI z=a:=λN=>AO.mp N;refine L2.rV pins s σ H _ us Q I r ⟨p,ys,zs.map L2.plI,L2.cu,rfl,.of hq,⟨by rw[Aa];exact pa.1,λi l U=>?_⟩,.inr λa N=>?_,Cj.mpr (hz.1.imp λn h=>n (L2.Yu h)),λa N b S=>?_,λa N b S h=>?_,λl ix U hp hw=>?_⟩
         . rw[Am]at U
           obtain⟨z,Z,rfl⟩:=AJ.mp U;exact pa.2 i z Z
         . obtain⟨z,_,rfl⟩:=R N;exact List.cons_ne_nil _ _
         . obtain⟨z,h1,rfl⟩:=R N
           obtain⟨z',h2,rfl⟩:=R S;exact L2.iT (hz.2 z h1) (hz.2 z' h2)
         . obtain⟨z,h1,rfl⟩:=R N
           obtain⟨z',h2,rfl⟩:=R S;rw[L2.pH (hz.2 z h1) (hz.2 z' h2) h]
         . rw[Aa]at hp
           refine xr hr (p0 (d:=(0,0)) q hp λZ=>L2.qR ?_ (lK hz.1 hz.2) λx=>Z.mem_iff.trans (yk zs).mem_iff.symm) w l U;rw[Cj]at hw ⊢;refine hw.imp_of_mem λ{i j} hi hj w=>?_;have l1:=Al.mp (hp.mem_iff.mp hi);have l2:=Al.mp (hp.mem_iff.mp hj);rw[Ab,Am,dS l1,Ab,Am,dS l2]at w;rw[Ab,dS l1,Ab,dS l2];exact w
       . exact Y W e w
     . exact Y W e w
   . exact w.elim
 . exact w.elim
noncomputable def okF:Bf->Bool
 |.q|.l|.s|.r|.e|.n|.g|.m=>false
 |_=>true
def ZX(R:X.g=true)(N:L2.xB k X.A):∀f m,okF f=true->L2.yN X f.val (rMc X.K X.d (blt f m))
 |.a,_,_=>eu
 |.p,_,_=>rS R
 |.q,_,h=>by cases h
 |.d,_,_=>lz
 |.l,_,h=>by cases h
 |.b,_,_=>nc
 |.h,_,_=>dC N
 |.j,_,_=>dA R
 |.k,_,_=>dB R
 |.s,_,h=>by cases h
 |.o,_,_=>ek
 |.i,_,_=>rT
 |.c,_,_=>vW
 |.r,_,h=>by cases h
 |.e,_,h=>by cases h
 |.g,_,h=>by cases h
 |.n,_,h=>by cases h
 |.m,_,h=>by cases h
end
noncomputable def Out.isOk{N:Type}:Out N->Bool
 |.e _ _=>true
 |.g _ _ _|.d=>false
def zC{o:Out α}(h:o.isOk=false)v s:o≠.e v s:=λe=>by subst e;cases h
noncomputable def plain:Expr->Bool
 |.Starred ..|.Set ..|.Slice ..=>false
 |_=>true
def zY(h:plain e=true):L2.noStar e=true:=by cases e<;>first|rfl|cases h
def vI(h:plain e=true):Iu op e=false:=by cases e<;>first|rfl|cases h
def b8(h:plain e=true):L2.jr e:=by intro o i;cases e<;>first|rfl|cases h
def zt(h:plain e=true)x:AM e env x=pure x:=by cases e<;>first|rfl|cases h
noncomputable def ou:Expr->Bool
 |.Call (.Name _ _) [] [] _=>false
 |_=>true
def vv(h:ou o=true):EN o name env (eval o env)=eval o env:=by
 unfold EN;split
 . cases h
 . rfl
noncomputable def plainT:Expr->Bool
 |.UnaryOp .Not _ _|.BoolOp ..|.IfExp ..|.Compare ..=>false
 |_=>true
def fi(h:plainT e=true)whole:isTrue e env whole=(do let v <-whole;standAt e.pos;holding [v] (truthy v)):=by
 cases e with
 |UnaryOp op a p=>cases op<;>first|rfl|cases h
 |_=>first|rfl|cases h
def yY:List Expr->Bool
 |[]=>true
 |e::es=>plain e&&yY es
theorem uX:∀{es} {pos} {env},yY es=true->(backTo pos (Be es env)).any (·.1)=false
 |[],_,_,_=>rfl
 |e::es,pos,env,h=>by
  rw[yY,ub]at h;rw[L2.yF (zY h.1)];show (false||(backTo pos (Be es env)).any (·.1))=false
  rw[uX h.2];rfl
def yV.mono(w:yV K mg R ρ H o Q)(x:Ext ρ H ρ' H')(h:HR K mg ρ' s1 H'):yV K mg R ρ' H' o Q:=by
 cases o with
 |e v s'=>exact λρ2 y H2 N U S=>w ρ2 y H2 (x.trans h N) U S
 |_=>exact w
section
variable {X:L2.Cx}{env:Env}{s:Sto}{E a b c:Expr}
def zH{o:Out Val}(h:∀v s',o≠.e v s'):L2.PE X E (tV X.K X.d env s o):=Se λ_ _ _=>RO h
def un1{g:Val->Sto->Out Val}(h:L2.PE X a (tV X.K X.d env s o))(N:∀ta,L2.PE X a ta->L2.PE X E (L2.tUn r ta))
 (op:∀ρ H s1 v x Q,HR X.K X.d ρ s1 H->RD X.K X.d ρ H v x->yV X.K X.d (RD X.K X.d) ρ H (g v s1) Q->r x H Q):L2.PE X E (tV X.K X.d env s (o.bind g)):=by
 cases o with
 |e v s1=>exact zl (N _ h) λσ H Q ⟨ρ,hr,er,w⟩=>⟨ρ,hr,er,λρ1 x H1 S R U=>op ρ1 H1 s1 v x Q R U (w.mono S R)⟩
 |g _ _ _=>exact zH (zC rfl)
 |d=>exact zH (zC rfl)
def WO{f2:Sto->Out Val}(h1:L2.PE X a (tV X.K X.d env s o))(h2:∀s1,L2.PE X b (tV X.K X.d env s1 (f2 s1)))
 (N:∀ta tb,L2.PE X a ta->L2.PE X b tb->L2.PE X E (L2.tOp (rM2 X.K X.d g) ta tb)):L2.PE X E (tV X.K X.d env s (o.bind λx s1=>(f2 s1).bind λy s2=>g x y s2)):=by
 cases o with
 |e v s1=>
  show L2.PE X E (tV X.K X.d env s ((f2 s1).bind λy s2=>g v y s2));have U:=h2 s1;cases hb:f2 s1 with
  |e w s2=>
   rw[hb]at U;exact zl (N _ _ h1 U) λσ H Q ⟨ρ,hr,er,wt⟩=>⟨ρ,hr,er,λρ1 x H1 Y S r1=>⟨ρ1,S,er.mono Y,λρ2 y H2 W R Z=>⟨ρ2,s2,v,w,R,r1.mono W,Z,wt.mono (Y.trans S W) R⟩⟩⟩
  |g _ _ _=>exact zH (zC rfl)
  |d=>exact zH (zC rfl)
 |g _ _ _=>exact zH (zC rfl)
 |d=>exact zH (zC rfl)
def cY{op R:Cop}{o:Out Val}{f2 f3:Sto->Out Val}{k:Nat}{pos:Pos}(k1:okC op=true)(k2:okC R=true)(hr0:L2.xB k X.A)(h1:L2.PE X a (tV X.K X.d env s o))(h2:∀s1,L2.PE X b (tV X.K X.d env s1 (f2 s1)))(h3:∀s1,L2.PE X c (tV X.K X.d env s1 (f3 s1)))(hm:plain c=true) :
 L2.PE X (.Compare a [op.op,R.op] [b,c] pos) (tV X.K X.d env s (o.bind λx s1=>(f2 s1).bind λy s2=>(zQ op x y s2).bind λr U=>match r with
  |.e true=>(f3 U).bind λz Z=>zQ R y z Z
  |.e false=>.e (.e false) U
  |_=>.d)):=by
 cases o with
 |e v s1=>
  have h2':=h2 s1;show L2.PE X _ (tV X.K X.d env s ((f2 s1).bind _));cases hb:f2 s1 with
  |e w s2=>
   rw[hb]at h2';show L2.PE X _ (tV X.K X.d env s ((zQ op v w s2).bind _));cases hc:zQ op v w s2 with
   |e r U=>
    cases r with
    |e t=>
     have h3':=h3 U;have rule:=L2.bq (pos:=pos) (sC hr0 op k1) (sC hr0 R k2) h1 h2' h3' (show IC [op.op,R.op] [b,c]=false from vI hm);refine zl rule λσ H Q ⟨ρ,hr,er,wt⟩=>⟨ρ,hr,er,λρ1 x H1 x1 hr1 r1=>⟨ρ1,hr1,er.mono x1,λρ2 y H2 x2 hr2 r2=>⟨ρ2,s2,v,w,hr2,r1.mono x2,r2,?_⟩⟩⟩;rw[hc];intro W z H3 x3 S r3;cases r3;refine⟨t,rfl,?_⟩;have xx:=(x1.trans hr1 x2).trans hr2 x3;have Y:=wt.mono xx S;cases t with
     |true=>
      rw[if_pos rfl];refine⟨W,S,er.mono xx,?_⟩;have N:yV X.K X.d (RD X.K X.d) W H3 ((f3 U).bind λz Z=>zQ R w z Z) Q:=Y;cases hz:f3 U with
      |e u Z=>
       rw[hz]at N;exact λρ4 q H4 x4 hr4 r4=>⟨ρ4,Z,w,u,hr4,(r2.mono x3).mono x4,r4,N.mono x4 hr4⟩
      |g _ _ _=>rw[hz]at N;exact N
      |d=>rw[hz]at N;exact N
     |false=>
      rw[if_neg Ag];exact zK S (.j false) Y
    |_=>exact zH (zC rfl)
   |g _ _ _=>exact zH (zC rfl)
   |d=>exact zH (zC rfl)
  |g _ _ _=>exact zH (zC rfl)
  |d=>exact zH (zC rfl)
 |g _ _ _=>exact zH (zC rfl)
 |d=>exact zH (zC rfl)
def VI{o:Out Val}{pos:Pos}(h:L2.PE X a (tV X.K X.d env s o)):L2.PE X (.UnaryOp .USub a pos) (tV X.K X.d env s (o.bind λx s1=>match x with|.c i=>.e (.c (-i)) s1|_=>.d)):=by
 refine un1 h (λta q=>L2.Sh L2.Up q) λρ H s1 v x Q N r w=>?_;cases r with
 |l i=>exact⟨i,rfl,zK N (.l _) w⟩
 |_=>exact w.elim
def VJ{o:Out Val}{pos:Pos}(h:L2.PE X a (tV X.K X.d env s o)):L2.PE X (.UnaryOp .Not a pos) (tV X.K X.d env s (o.bind λx s1=>match x with|.e b=>.e (.e !b) s1|_=>.d)):=by
 refine un1 (r:=λx H Q=>∃c,x=.f c/\Q (.f (!c)) H) h (λta q=>L2.UC q) λρ H s1 v x Q N r w=>?_;cases r with
 |j i=>exact⟨i,rfl,zK N (.j _) w⟩
 |_=>exact w.elim
def cW{rest:List Expr}{o:Out Val}{f2:Sto->Out Val}{pos:Pos}(Y:L2.PE X a (tV X.K X.d env s o))(W:∀s1,L2.PE X (.BoolOp .And (b::rest) pos) (tV X.K X.d env s1 (f2 s1))) :
 L2.PE X (.BoolOp .And (a::b::rest) pos) (tV X.K X.d env s (o.bind λx s1=>match x with|.e true=>f2 s1|.e false=>.e (.e false) s1|_=>.d)):=by
 cases o with
 |e v s1=>
  refine zl (L2.V8 Y (W s1)) λσ H Q ⟨ρ,hr,er,wt⟩=>⟨ρ,hr,er,λρ1 x H1 S R U=>?_⟩;have N:=wt.mono S R;cases U with
  |j t=>
   refine⟨t,rfl,?_⟩;cases t with
   |true=>exact L2.mK (⟨ρ1,R,er.mono S,N⟩)
   |false=>exact L2.mJ (zK R (.j _) N)
  |_=>exact N.elim
 |g _ _ _=>exact zH (zC rfl)
 |d=>exact zH (zC rfl)
def Tr{rest:List Expr}{o:Out Val}{f2:Sto->Out Val}{pos:Pos}(Y:L2.PE X a (tV X.K X.d env s o))(W:∀s1,L2.PE X (.BoolOp .Or (b::rest) pos) (tV X.K X.d env s1 (f2 s1))) :
 L2.PE X (.BoolOp .Or (a::b::rest) pos) (tV X.K X.d env s (o.bind λx s1=>match truth s1 x with|some false=>f2 s1|some true=>.e x s1|pn=>.d)):=by
 cases o with
 |e v s1=>
  refine zl (L2.UD Y (W s1)) λσ H Q ⟨ρ,hr,er,wt⟩=>⟨ρ,hr,er,λρ1 x H1 S R U=>?_⟩;have N:yV X.K X.d (RD X.K X.d) ρ1 H1 (match truth s1 v with|some false=>f2 s1|some true=>.e v s1|pn=>.d) Q:=wt.mono S R
  cases ht:truth s1 v with
  |none=>rw[ht]at N;exact N.elim
  |some t=>
   rw[ht]at N;refine⟨t,ZA R U ht,?_⟩;cases t with
   |true=>exact L2.mK (zK R U N)
   |false=>exact L2.mJ (⟨ρ1,R,er.mono S,N⟩)
 |g _ _ _=>exact zH (zC rfl)
 |d=>exact zH (zC rfl)
def tF{o:Out (List Val)}(h:∀v s',o≠.e v s'):L2.PA X es (tVs X.K X.d env s o):=Sa λ_ _ _=>Uc h
def YE:L2.PA X [] (tVs X.K X.d env s (.e [] s)):=bj L2.vH λσ H Q ⟨ρ,hr,er,wt⟩=>wt ρ [] H Ext.refl hr .d
def cg{f2:Sto->Out (List Val)}(hp:plain a=true)(h1:L2.PE X a (tV X.K X.d env s o))(h2:∀s1,L2.PA X es (tVs X.K X.d env s1 (f2 s1))) :
 L2.PA X (a::es) (tVs X.K X.d env s (o.bind λv s1=>(f2 s1).bind λvs s2=>.e (v::vs) s2)):=by
 cases o with
 |e v s1=>
  have R:=h2 s1;show L2.PA X _ (tVs X.K X.d env s ((f2 s1).bind _));cases hb:f2 s1 with
  |e ws s2=>
   rw[hb]at R;exact bj (L2.pac h1 R (zY hp)) λσ H Q ⟨ρ,hr,er,wt⟩=>⟨ρ,hr,er,λρ1 x H1 W N Z=>⟨ρ1,N,er.mono W,λρ2 y H2 U S Y=>wt ρ2 _ H2 (W.trans N U) S (.a (Z.mono U) Y)⟩⟩
  |g _ _ _=>exact tF (zC rfl)
  |d=>exact tF (zC rfl)
 |g _ _ _=>exact tF (zC rfl)
 |d=>exact tF (zC rfl)
def cb(h:L2.PA X es (tVs X.K X.d env s o)):L2.PE X (.Tuple es k pos) (tV X.K X.d env s (o.bind λvs s1=>if vs.length<=zN then .e (.g vs) s1 else .d)):=by
 cases o with
 |e vs s1=>
  refine zl (L2.UG h) λσ H Q ⟨ρ,hr,er,wt⟩=>⟨ρ,hr,er,λρ1 xs H1 U R S=>?_⟩;have N:yV X.K X.d (RD X.K X.d) ρ1 H1 (if vs.length<=zN then .e (.g vs) s1 else .d) Q:=wt.mono U R
  by_cases hz:vs.length<=zN
  . rw[if_pos hz]at N
    exact⟨by rw[<-S.length,<-yc];exact hz,ot R S N⟩
  . rw[if_neg hz]at N;exact N.elim
 |g _ _ _=>exact zH (zC rfl)
 |d=>exact zH (zC rfl)
def VH(h:L2.PA X es (tVs X.K X.d env s o)):L2.PE X (.List es pos) (tV X.K X.d env s (o.bind λvs s1=>if vs.length<=zN then newList m vs s1 else .d)):=by
 cases o with
 |e vs s1=>
  refine zl (L2.UA h) λσ H Q ⟨ρ,hr,er,wt⟩=>⟨ρ,hr,er,λρ1 xs H1 U R S=>?_⟩;have N:yV X.K X.d (RD X.K X.d) ρ1 H1 (if vs.length<=zN then newList m vs s1 else .d) Q:=wt.mono U R
  by_cases hz:vs.length<=zN
  . rw[if_pos hz]at N
    exact⟨by rw[<-S.length,<-yc];exact hz,xr R S N⟩
  . rw[if_neg hz]at N;exact N.elim
 |g _ _ _=>exact zH (zC rfl)
 |d=>exact zH (zC rfl)
def Tp(h:L2.PA X es (tVs X.K X.d env s o))(N:∀t,L2.PA X es t->L2.PE X E (L2.tCB (rMc X.K X.d g) t)):L2.PE X E (tV X.K X.d env s (o.bind g)):=by
 cases o with
 |e vs s1=>exact zl (N _ h) λσ H Q ⟨ρ,hr,er,wt⟩=>⟨ρ,hr,er,λρ1 xs H1 S R U=>⟨ρ1,s1,vs,R,U,wt.mono S R⟩⟩
 |g _ _ _=>exact zH (zC rfl)
 |d=>exact zH (zC rfl)
def VF(k1:okF f=true)(hc:X.g=true)(Z:L2.xB k X.A)(U:L2.Gl X f.nm)(S:X.d f.nm=none)(hp:yY (a::es)=true)(h:L2.PA X (a::es) (tVs X.K X.d env s o)) :
 L2.PE X (.Call (.Name f.nm p) (a::es) [] pos) (tV X.K X.d env s (o.bind (blt f m))):=by
 rw[yY,ub]at hp;refine Tp h λt N=>?_;have W:=ZX hc Z f m k1;have Y:=f.boot;have st:=L2.yF (es:=es) (env:=X.a) (zY hp.1);have R:=uX (pos:=pos) (env:=X.a) hp.2;cases f with
 |d=>exact L2.wu W U S Y N (by decide) (by decide) st R
 |l=>exact L2.wu W U S Y N (by decide) (by decide) st R
 |o=>exact L2.wu W U S Y N (by decide) (by decide) st R
 |r=>exact L2.wu W U S Y N (by decide) (by decide) st R
 |_=>exact L2.mn W U S Y N (by decide) (by decide) st R
def yM{o:Out Bool}(h:∀v s',o≠.e v s'):L2.PT X E (tT X.K X.d env s o):=Sn λ_ _ _=>X4 h
def VT(hp:plainT a=true)(h:L2.PE X a (tV X.K X.d env s o)):L2.PT X a (tT X.K X.d env s o.truth):=by
 cases o with
 |e v s1=>
  refine nD (L2.aG h (fi hp)) λσ H Q ⟨ρ,hr,er,wt⟩=>⟨ρ,hr,er,λρ1 x H1 S R U=>?_⟩;have N:=wt.mono S R;simp only[Out.truth,zJ]at N;cases ht:truth s1 v with
  |none=>rw[ht]at N;exact N.elim
  |some b=>rw[ht]at N;exact⟨b,ZA R U ht,N _ _ _ Ext.refl R rfl⟩
 |g _ _ _=>exact yM (zC rfl)
 |d=>exact yM (zC rfl)
def VS(h:L2.PT X a (tT X.K X.d env s o)):L2.PT X (.UnaryOp .Not a pos) (tT X.K X.d env s (o.bind λb s1=>.e (!b) s1)):=by
 cases o with
 |e v s1=>exact nD (L2.UN h) λσ H Q ⟨ρ,hr,er,wt⟩=>⟨ρ,hr,er,λρ1 x H1 R N S=>by cases S;exact wt _ _ _ R N rfl⟩
 |g _ _ _=>exact yM (zC rfl)
 |d=>exact yM (zC rfl)
def tG{o:Out Bool}(h:∀v s',o≠.e v s'):L2.PW X E (tT X.K X.d env s o):=So λ_ _ _=>X4 h
def kH:L2.PW X (.BoolOp .And [] pos) (tT X.K X.d env s (.e true s)):=λN pins sh σ H Q I ⟨ρ,hr,er,wt⟩=>PyProof.Rows.isTrue_and_nil ⟨H,I,wt _ _ _ Ext.refl hr rfl⟩
def g8:L2.PW X (.BoolOp .Or [] pos) (tT X.K X.d env s (.e false s)):=λN pins sh σ H Q I ⟨ρ,hr,er,wt⟩=>PyProof.Rows.isTrue_or_nil ⟨H,I,wt _ _ _ Ext.refl hr rfl⟩
def cq{f2:Sto->Out Bool}(h1:L2.PT X a (tT X.K X.d env s o))(h2:∀s1,L2.PW X (.BoolOp .And rest pos) (tT X.K X.d env s1 (f2 s1))) :
 L2.PW X (.BoolOp .And (a::rest) pos) (tT X.K X.d env s (o.bind λb s1=>if b then f2 s1 else .e false s1)):=by
 cases o with
 |e v s1=>
  intro Y pins sh σ H Q I h;obtain⟨ρ,hr,U,W⟩:=h;refine PyProof.Rows.isTrue_and (L2.thn (h1 pins sh σ H (λc H1=>if c=true then tT X.K X.d env s1 (f2 s1) σ H1 Q else Q false H1) I ⟨ρ,hr,U,λρ1 x H1 S N Z=>?_⟩) λc s' ⟨H1,I1,q1⟩=>?_)
  . have R:=W.mono S N
    cases Z;cases v with
    |true=>exact L2.mK (⟨ρ1,N,U.mono S,R⟩)
    |false=>exact L2.mJ (R _ _ _ Ext.refl N rfl)
  . cases c with
    |true=>exact h2 s1 Y pins s' σ H1 Q I1 q1
    |false=>exact⟨H1,I1,q1⟩
 |g _ _ _=>exact tG (zC rfl)
 |d=>exact tG (zC rfl)
def Xn{f2:Sto->Out Bool}(h1:L2.PT X a (tT X.K X.d env s o))(h2:∀s1,L2.PW X (.BoolOp .Or rest pos) (tT X.K X.d env s1 (f2 s1))) :
 L2.PW X (.BoolOp .Or (a::rest) pos) (tT X.K X.d env s (o.bind λb s1=>if b then .e true s1 else f2 s1)):=by
 cases o with
 |e v s1=>
  intro Y pins sh σ H Q I h;obtain⟨ρ,hr,U,W⟩:=h;refine PyProof.Rows.isTrue_or (L2.thn (h1 pins sh σ H (λc H1=>if c=true then Q true H1 else tT X.K X.d env s1 (f2 s1) σ H1 Q) I ⟨ρ,hr,U,λρ1 x H1 S N Z=>?_⟩) λc s' ⟨H1,I1,q1⟩=>?_)
  . have R:=W.mono S N
    cases Z;cases v with
    |true=>exact L2.mK (R _ _ _ Ext.refl N rfl)
    |false=>exact L2.mJ (⟨ρ1,N,U.mono S,R⟩)
  . cases c with
    |true=>exact⟨H1,I1,q1⟩
    |false=>exact h2 s1 Y pins s' σ H1 Q I1 q1
 |g _ _ _=>exact tG (zC rfl)
 |d=>exact tG (zC rfl)
end
section
variable {X:L2.Cx}{env:Env}{s:Sto}{E a b c:Expr}
def b9{t t':L2.TO}(h:L2.PO X e t)(i:∀σ H Q,t' σ H Q->t σ H Q):L2.PO X e t':=λpins s σ H Q I q=>h pins s σ H Q I (i σ H Q q)
def RK{o:Out (Option Int)}(h:∀v s',o≠.e v s'):¬tO X.K X.d env s o σ H Q:=by
 rintro ⟨ρ,_,_,w⟩;cases o with
 |e v s'=>exact h v s' rfl
 |_=>exact w
def m6{o:Out (Option Int)}(h:∀v s',o≠.e v s'):L2.PO X e (tO X.K X.d env s o):=λpins sh σ H Q I q=>(RK h q).elim
def Tu:L2.PO X none (tO X.K X.d env s (.e none s)):=b9 L2.Yv λσ H Q ⟨ρ,hr,er,wt⟩=>wt _ _ _ Ext.refl hr rfl
def VN{o:Out Val}(h:L2.PE X a (tV X.K X.d env s o)):L2.PO X (some a) (tO X.K X.d env s (o.bind λv s1=>match v with|.c i=>.e (some i) s1|_=>.d)):=by
 cases o with
 |e v s1=>
  refine b9 (L2.Yw h) λσ H Q ⟨ρ,hr,er,wt⟩=>⟨ρ,hr,er,λρ1 x H1 S R U=>?_⟩;have N:=wt.mono S R;cases U with
  |l i=>exact⟨i,rfl,N _ _ _ Ext.refl R rfl⟩
  |_=>exact N.elim
 |g _ _ _=>exact m6 (zC rfl)
 |d=>exact m6 (zC rfl)
def rMs(K:KF)(mg:Str->Option Value)(m:Bool):L2.V->Option Int->Option Int->L2.Hp->L2.VK->Prop:=λx lo hi H Q=>∃ρ s v,HR K mg ρ s H/\RD K mg ρ H v x/\yV K mg (RD K mg) ρ H (sG m v lo hi none s) Q
def RB m:L2.SlR X (rMs X.K X.d m):=by
 intro pins s σ H x v W U lo hi Y Q I Z hs pl pu h;obtain⟨ρ,t,w,S,R,N⟩:=h;simp only[sG]at N;split at N
 . cases R with
   |m n e q=>exact L2.XA pins s σ H _ v W U lo hi Y Q I Z hs pl pu ⟨_,_,rfl,e,vZ S (q.cut lo hi) N⟩
 . rename_i heq
   cases heq
 . split at N
   . rename_i e
     obtain⟨p,xs,rfl,hq,q⟩:=xG S R e;exact L2.Y9 pins s σ H _ v W U lo hi Y Q I Z hs pl pu ⟨_,_,rfl,.of hq,xr S (q.cut lo hi) N⟩
   . exact N.elim
 . rename_i heq
   cases heq
def Ts{f2 f3 f4:Sto->Out (Option Int)}(h1:L2.PE X a (tV X.K X.d env s o))(h2:∀s1,L2.PO X lo (tO X.K X.d env s1 (f2 s1)))(h3:∀s1,L2.PO X hi (tO X.K X.d env s1 (f3 s1)))
 (h4:∀s1,L2.PO X st (tO X.K X.d env s1 (f4 s1))) (hst:(st=none/\∀s1,f4 s1=.e none s1)\/∃e,st=some e/\∀s1 s2,f4 s1≠.e none s2) :
 L2.PE X (.Subscript a (.Slice lo hi st p2) pos) (tV X.K X.d env s (o.bind λx s1=>(f2 s1).bind λl s2=>(f3 s2).bind λh s3=>(f4 s3).bind λc s4=>sG m x l h c s4)):=by
 cases o with
 |e v s1=>
  have h2':=h2 s1;show L2.PE X _ (tV X.K X.d env s ((f2 s1).bind _));cases hl:f2 s1 with
  |e l s2=>
   rw[hl]at h2';have h3':=h3 s2;show L2.PE X _ (tV X.K X.d env s ((f3 s2).bind _));cases hh:f3 s2 with
   |e h s3=>
    rw[hh]at h3';have h4':=h4 s3;show L2.PE X _ (tV X.K X.d env s ((f4 s3).bind _));rcases hst with⟨rfl,e4⟩|⟨e,rfl,e4⟩
    . rw[e4 s3]
      refine zl (L2.bu (RB m) h1 h2' h3') λσ H Q ⟨ρ,hr,er,wt⟩=>⟨ρ,hr,er,λρ1 x H1 Z W r1=>⟨ρ1,W,er.mono Z,λρ2 y H2 Y U r2=>?_⟩⟩;cases r2;refine⟨ρ2,U,(er.mono Z).mono Y,λρ3 z H3 x3 S r3=>?_⟩;cases r3;exact⟨ρ3,s3,v,S,(r1.mono Y).mono x3,wt.mono ((Z.trans W Y).trans U x3) S⟩
    . cases hc:f4 s3 with
      |e cc s4=>
       rw[hc]at h4';cases cc with
       |none=>exact absurd hc (e4 s3 s4)
       |some R=>
        by_cases hv:∃vs,v=.g vs
        case neg=>
         refine zl (L2.kq h1 h2' h3' h4') λσ H Q ⟨ρ,hr,er,wt⟩=>⟨ρ,hr,er,λρ1 x H1 Z W r1=>⟨ρ1,W,er.mono Z,λρ2 y H2 Y U r2=>?_⟩⟩;cases r2;refine⟨ρ2,U,(er.mono Z).mono Y,λρ3 z H3 x3 S r3=>?_⟩;cases r3;refine⟨ρ3,S,((er.mono Z).mono Y).mono x3,λρ4 z4 H4 x4 hr4 r4=>?_⟩;cases r4;have N:yV X.K X.d (RD X.K X.d) ρ4 H4 (sG m v l h (some R) s4) Q:=wt.mono (((Z.trans W Y).trans U x3).trans S x4) hr4;have em:sG m v l h (some R) s4=(match yL s4 v with|some vs=>if R≠0 then newList m (L2.zr vs (L2.vX vs.length l h R).1 R (L2.vX vs.length l h R).2) s4 else .d|pn=>.d):=by
          cases v with
          |g vs=>exact absurd ⟨vs,rfl⟩ hv
          |_=>rfl
         rw[em]at N;cases hl:yL s4 v with
         |none=>rw[hl]at N;exact N.elim
         |some vs=>
          rw[hl]at N;dsimp only at N;obtain⟨p,xs,rfl,hq,q⟩:=xG hr4 (((r1.mono Y).mono x3).mono x4) hl;by_cases c0:R≠0
          . have wt2:yV X.K X.d (RD X.K X.d) ρ4 H4 (newList m (L2.zr vs (L2.vX vs.length l h R).1 R (L2.vX vs.length l h R).2) s4) Q:=by rwa [if_pos c0]at N
            refine⟨p,xs,R,rfl,.of hq,rfl,c0,?_⟩;rw[<-q.length];exact xr hr4 (q.zr _ _ _) wt2
          . rw[if_neg c0]at N;exact N.elim
        refine zl (L2.fc h1 h2' h3' h4') λσ H Q ⟨ρ,hr,er,wt⟩=>⟨ρ,hr,er,λρ1 x H1 Z W r1=>⟨ρ1,W,er.mono Z,λρ2 y H2 Y U r2=>?_⟩⟩;cases r2;refine⟨ρ2,U,(er.mono Z).mono Y,λρ3 z H3 x3 S r3=>?_⟩;cases r3;refine⟨ρ3,S,((er.mono Z).mono Y).mono x3,λρ4 z4 H4 x4 hr4 r4=>?_⟩;cases r4;have xx:=((Z.trans W Y).trans U x3).trans S x4;have N:yV X.K X.d (RD X.K X.d) ρ4 H4 (sG m v l h (some R) s4) Q:=wt.mono xx hr4;have r:=((r1.mono Y).mono x3).mono x4;cases r with
        |m n e q=>
         change yV X.K X.d (RD X.K X.d) ρ4 H4 (if R≠0/\(L2.yT (FE _) l h R).2<=zN then .e (.g (L2.zr _ (L2.yT (FE _) l h R).1 R (L2.yT (FE _) l h R).2)) s4 else .d) Q at N
         split at N
         . rename_i hz
           have hlen:=q.length;refine⟨_,_,R,rfl,e,rfl,hz.1,by rw[<-hlen,<-yc];exact hz.2,?_⟩
           rw[<-hlen];exact vZ hr4 (q.zr _ _ _) N
         . exact N.elim
        |_=>obtain⟨_,e⟩:=hv;cases e
      |g _ _ _=>exact zH (zC rfl)
      |d=>exact zH (zC rfl)
   |g _ _ _=>exact zH (zC rfl)
   |d=>exact zH (zC rfl)
  |g _ _ _=>exact zH (zC rfl)
  |d=>exact zH (zC rfl)
 |g _ _ _=>exact zH (zC rfl)
 |d=>exact zH (zC rfl)
noncomputable def Mf.nm:Mf->Str
 |.a=>"count"|.b=>"append"|.c=>"extend"|.f=>"pop"|.d=>"index"|.e=>"join"
noncomputable def okM:Mf->Bool
 |.c|.f|.d|.e=>false
 |_=>true
def cZ{f2:Sto->Out Val}(hm:okM f=true)(hs:ou a=true)(hp:plain b=true)(U:(apos.endLine == cpos.line)=true)(h1:L2.PE X a (tV X.K X.d env s o))(h2:∀s1,L2.PE X b (tV X.K X.d env s1 (f2 s1))) :
 L2.PE X (.Call (.Attribute a f.nm apos) [b] [] cpos) (tV X.K X.d env s (o.bind λx s1=>((f2 s1).bind λv s2=>(Out.e [v] s2:Out (List Val))).bind λvs s2=>xP f x vs s2)):=by
 cases o with
 |e v s1=>
  have Z:=h2 s1;show L2.PE X _ (tV X.K X.d env s (((f2 s1).bind λv s2=>(Out.e [v] s2:Out (List Val))).bind λvs s2=>xP f v vs s2));cases hb:f2 s1 with
  |e w s2=>
   rw[hb]at Z;show L2.PE X _ (tV X.K X.d env s (xP f v [w] s2));cases f with
   |a=>
    by_cases hv:∃vs,v=.g vs
    . obtain⟨vs,rfl⟩:=hv
      refine zl (L2.fb h1 Z (vv hs) (zY hp) U) λσ H Q ⟨ρ,hr,er,wt⟩=>⟨ρ,hr,er,λρ1 x H1 x1 S r1=>?_⟩;cases r1 with
      |m n e q=>
       refine⟨⟨_,_,rfl,e⟩,ρ1,S,er.mono x1,λρ2 y H2 W R r2=>?_⟩;have N:yV X.K X.d (RD X.K X.d) ρ2 H2 (xP .a (.g vs) [w] s2) Q:=wt.mono (x1.trans S W) R;simp only[xP]at N;split at N
       . rename_i hf
         rw[ub]at hf;have q2:=q.mono W;refine⟨_,_,y,rfl,rfl,L2.SqT.of (W.c _ _ e n.1),r2.flat hf.1,q2.flat hf.2,?_⟩;rw[RDs.countP r2 hf.1 q2 hf.2];exact zK R (.l _) N
       . exact N.elim
    . refine zl (L2.fZ h1 Z (vv hs) (zY hp) U) λσ H Q ⟨ρ,hr,er,wt⟩=>⟨ρ,hr,er,λρ1 x H1 x1 S r1=>?_⟩
      have N:yV X.K X.d (RD X.K X.d) ρ1 H1 (xP .a v [w] s2) Q:=wt.mono x1 S;have em:xP .a v [w] s2=(match yL s2 v with|some vs=>if M.flat w&&vs.all M.flat then .e (.c (vs.countP λz=>eqF z w:Nat)) s2 else .d|pn=>.d):=by
       cases v with
       |g vs=>exact absurd ⟨vs,rfl⟩ hv
       |_=>rfl
      rw[em]at N;cases hl:yL s2 v with
      |none=>rw[hl]at N;exact N.elim
      |some vs=>
       rw[hl]at N
       -- the receiver is a list already ahead of the argument
       have ty:L2.tyV X.K "list" x H1:=by
        cases r1 with
        |D n e q=>exact .inl ⟨rfl,_,.of e⟩
        |C e k=>
         obtain⟨xs,q⟩:=kD k;exact .inl ⟨rfl,_,.of q⟩
        |_=>cases hl
       refine⟨ty,ρ1,S,er.mono x1,λρ2 y H2 W R r2=>?_⟩;obtain⟨p,xs,rfl,hq,q⟩:=xG R (r1.mono W) hl;have Y:=N.mono W R;simp only at Y;split at Y
       . rename_i hf
         rw[ub]at hf;refine⟨_,_,y,rfl,rfl,L2.SqL.of hq,r2.flat hf.1,q.flat hf.2,?_⟩;rw[RDs.countP r2 hf.1 q hf.2];exact zK R (.l _) Y
       . exact Y.elim
   |b=>
    cases v with
    |j i=>
     refine zl (L2.fW (es:=[]) h1 Z (vv hs) (zY hp) U) λσ H Q ⟨ρ,hr,er,wt⟩=>⟨ρ,hr,er,λρ1 x H1 x1 S r1=>?_⟩;cases r1 with
     |C e k=>
      obtain⟨xs,q⟩:=kD k;refine⟨.inl ⟨rfl,_,.of q⟩,ρ1,S,er.mono x1,λρ2 y H2 W R r2=>?_⟩;have N:yV X.K X.d (RD X.K X.d) ρ2 H2 (xP .b (.j i) [w] s2) Q:=wt.mono (x1.trans S W) R;simp only[xP]at N;split at N
      . rename_i vs hv
        split at N
        . rename_i hz
          obtain⟨b',ys,e1,e2,q2⟩:=R.obj i _ hv;have e':=W.get e;rw[e']at e1;cases e1;refine⟨_,ys,y,rfl,rfl,e2,by rw[<-q2.length,<-yc];exact hz,?_⟩
          exact N _ _ _ (Ext.write R e' e2 _) (R.write e' e2 (q2.append (.a r2 .d))) .s
        . exact N.elim
      . exact N.elim
    |_=>exact zH (zC rfl)
   |c=>cases hm
   |f=>cases hm
   |d=>cases hm
   |e=>cases hm
  |g _ _ _=>exact zH (zC rfl)
  |d=>exact zH (zC rfl)
 |g _ _ _=>exact zH (zC rfl)
 |d=>exact zH (zC rfl)
end
def spN(T:Tbl)(K:KF)(mg:Str->Option Value)(n:Nat)(f:Str)(ver:Nat):L2.Sp:=λvs H Q _=>∃ρ s args,HR K mg ρ s H/\RDs K mg ρ H args vs/\yV K mg (RD K mg) ρ H (zD T n f ver args s) Q
structure Callee(T:Tbl)(n:Nat)(X:L2.Cx)(f:Str)(ver:Nat)(F:Fn):Prop where
 a:∃fa fd,X.d f=some (.ref fa)/\Dj X.K (.ref fa)=true/\L2.Binds X.K fd F.a []/\L2.rN X.f X.w X.K X.d X.i L2.CX0 n fa fd F.a (spN T X.K X.d n f ver)
def cX(C:Callee T n X f ver F)(N:L2.xB n X.A)(S:L2.Gl X f)(hd:(f == ("__debug__":Str))=false):L2.PE X (.Call (.Name f p) [] [] pos) (tV X.K X.d env s (zD T n f ver [] s)):=by obtain⟨Y,fd,R,hk,W,U⟩:=C.a;exact zl (L2.bp U N S R hk W .nil L2.Xv hd) λσ H Q ⟨ρ,hr,er,wt⟩=>⟨ρ,s,[],hr,.d,wt⟩
def YC(C:Callee T n X f ver F)(R:L2.xB n X.A)(Z:L2.Gl X f)(hd:(f == ("__debug__":Str))=false)(hp:yY es=true)(S:es≠[])(h:L2.PA X es (tVs X.K X.d env s o)) :
 L2.PE X (.Call (.Name f p) es [] pos) (tV X.K X.d env s (o.bind (zD T n f ver))):=by
 obtain⟨fa,fd,Y,hk,hb,hf⟩:=C.a;cases o with
 |e vs s1=>
  cases es with
  |nil=>exact absurd rfl S
  |cons e es=>
   rw[yY,ub]at hp;refine zl (L2.Yp hf R Z Y hk hb .nil L2.Xv h hd (L2.yF (zY hp.1)) (uX hp.2)) λσ H Q ⟨ρ,hr,er,wt⟩=>⟨ρ,hr,er,λρ1 xs H1 U N W=>?_⟩;show spN T X.K X.d n f ver (xs++[]) H1 Q L2.E0;rw[AR];exact⟨ρ1,s1,vs,N,W,wt.mono U N⟩
 |g _ _ _=>exact zH (zC rfl)
 |d=>exact zH (zC rfl)
def xC:∀{c} {p},(c=true->p)->cond c p True
 |true,_,h=>h rfl
 |false,_,_=>Bw
def rZ(h:cond c p True)(e:c=true):p:=by subst e;exact h
mutual
theorem U5:∀(a b:Val),cond (a.beq b) (a=b) True
 |.h,b=>by cases b<;>first|exact(rfl:Val.h=Val.h)|exact Bw
 |.e x,b=>by cases b with|e y=>exact xC λh=>congrArg Val.e (CA (show (x == y)=true from h))|_=>exact Bw
 |.c x,b=>by cases b with|c y=>exact xC λh=>congrArg Val.c (CA (show (x == y)=true from h))|_=>exact Bw
 |.m x,b=>by cases b with|m y=>exact xC λh=>congrArg Val.m (CA (show (x == y)=true from h))|_=>exact Bw
 |.g x,b=>by cases b with|g y=>exact xC λh=>congrArg Val.g (rZ (oE x y) h)|_=>exact Bw
 |.f x,b=>by cases b with|f y=>exact xC λh=>congrArg Val.f (rZ (oE x y) h)|_=>exact Bw
 |.p,b=>by cases b<;>first|exact(rfl:Val.p=Val.p)|exact Bw
 |.o x,b=>by cases b with|o y=>exact xC λh=>congrArg Val.o (CA (show (x == y)=true from h))|_=>exact Bw
 |.r x,b=>by cases b with|r y=>exact xC λh=>congrArg Val.r (CA (show (x == y)=true from h))|_=>exact Bw
 |.j x,b=>by cases b with|j y=>exact xC λh=>congrArg Val.j (CA (show (x == y)=true from h))|_=>exact Bw
 |.u x,b=>by cases b with|u y=>exact xC λh=>congrArg Val.u (CA (show (x == y)=true from h))|_=>exact Bw
 |.t x,b=>by cases b with|t y=>exact xC λh=>congrArg Val.t (CA (show (x == y)=true from h))|_=>exact Bw
 |.q x,b=>by cases b with|q y=>exact xC λh=>congrArg Val.q (CA (show (x == y)=true from h))|_=>exact Bw
 |.s x k,b=>by cases b with|s y l=>exact xC λh=>(by rw[show Val.beq (.s x k) (.s y l)=(x == y&&k == l) from rfl,ub]at h;rw[CA h.1,CA h.2])|_=>exact Bw
theorem oE:∀(a b:List Val),cond (tj a b) (a=b) True
 |[],[]=>(rfl:([]:List Val)=[])
 |[],_::_=>Bw
 |_::_,[]=>Bw
 |x::xs,y::ys=>xC λh=>by have h:(x.beq y&&tj xs ys)=true:=h;rw[ub]at h;rw[rZ (U5 x y) h.1,rZ (oE xs ys) h.2]
end
def uj(h:tj a b=true):a=b:=rZ (oE a b) h
mutual
theorem beq_refl:∀a:Val,a.beq a=true
 |.h=>rfl
 |.e x=>(beq_self_eq_true x:(x == x)=true)
 |.c x=>(beq_self_eq_true x:(x == x)=true)
 |.m x=>(beq_self_eq_true x:(x == x)=true)
 |.g x=>vw x
 |.f x=>vw x
 |.p=>rfl
 |.o x=>(beq_self_eq_true x:(x == x)=true)
 |.r x=>(beq_self_eq_true x:(x == x)=true)
 |.j x=>(beq_self_eq_true x:(x == x)=true)
 |.u x=>(beq_self_eq_true x:(x == x)=true)
 |.t x=>(beq_self_eq_true x:(x == x)=true)
 |.q x=>(beq_self_eq_true x:(x == x)=true)
 |.s x k=>(by rw[show Val.beq (.s x k) (.s x k)=(x == x&&k == k) from rfl,beq_self_eq_true,beq_self_eq_true];rfl)
theorem vw:∀a:List Val,tj a a=true
 |[]=>rfl
 |x::xs=>by rw[tj,beq_refl x,vw xs];rfl
end
section
variable {K:KF}{mg:Str->Option Value}
def Mv.refl:Mv ρ H ρ H:=⟨λa o e n=>⟨e,n⟩,λi a e=>e,λ_ _=>rfl⟩
theorem Mv.trans(x:Mv ρ H ρ1 H1)(y:Mv ρ1 H1 ρ2 H2):Mv ρ H ρ2 H2:=
 ⟨λa o e n=>y.b a o (x.b a o e n).1 (x.b a o e n).2,λi a e=>y.c i a (x.c i a e),λa N=>by obtain⟨i,hi⟩:=DN N;exact(y.d a (AF (x.c i a hi))).trans (x.d a N)⟩
structure Walk(K:KF)(mg:Str->Option Value)(ρ:Own)(H:L2.Hp)(r:Src)(J:L2.It):Prop where
 b:r.a.length<=zN
 c:∀(ρ2:Own) (H2:L2.Hp) (s2:Sto) (i:Nat) (v:Val),Mv ρ H ρ2 H2->HR K mg ρ2 s2 H2->r.ok s2=true->r.a[i]?=some v->J.c i H2/\∀x H3,J.b i H2 x H3->(H3=H2\/∃p o,H2 p=none/\H3=L2.upd H2 p o)/\RD K mg ρ2 H3 v x
 a:∀(ρ2:Own) (H2:L2.Hp) (s2:Sto) (i:Nat),Mv ρ H ρ2 H2->HR K mg ρ2 s2 H2->r.ok s2=true->i=r.a.length->J.a i H2
def Walk.mv(w:Walk K mg ρ H r J)(x:Mv ρ H ρ1 H1):Walk K mg ρ1 H1 r J:=
 ⟨w.b,λρ2 H2 s2 i v y=>w.c ρ2 H2 s2 i v (x.trans y),λρ2 H2 s2 i y=>w.a ρ2 H2 s2 i (x.trans y)⟩
def eQ(H:L2.Hp):Prop:=∀a xs,(H a=some (.c xs)\/H a=some (.b xs))->xs.length<=AH
def qQ(h:L2.PI X tg it wi):L2.PI X tg it (λσ H R=>wi σ H λJ H1=>eQ H1->R J H1):=λpins s σ H R I q=>
 L2.thn (h pins s σ H _ I q) λv s1 S=>L2.thn S λN s2 ⟨i,fp,tn,J,H',e,I',T,t0,f,r⟩=>⟨i,fp,tn,J,H',e,I',T,t0,f,r λa xs hx=>by
  rcases hx with hx|hx
  . obtain⟨z,_⟩:=(show L2.z8 X.f X.w H' s2.heap a (.c xs) from I'.j a _ hx);exact z
  . obtain⟨z,_⟩:=(show L2.z8 X.f X.w H' s2.heap a (.b xs) from I'.j a _ hx);exact z⟩
def ZG(U:vs.length<=zN)(n:ρ.no a)(e:H a=some (.c xs))(q:RDs K mg ρ H vs xs):Walk K mg ρ H ⟨vs,none⟩ (L2.Itt K a) where
 b:=U
 c:=λρ2 H2 s2 i v x X _ W=>by have R:=(x.b a _ e n).1;have S:=RDs.mv x q;obtain⟨y,N,Y⟩:=S.get W;refine⟨⟨xs,y,.of R,N⟩,λz Z ⟨e3,h3⟩=>⟨.inl e3,?_⟩⟩;subst e3;have:=h3 xs (.of R);rw[N]at this;cases this;exact Y
 a:=λρ2 H2 s2 i x X _ hi=>⟨xs,.of (x.b a _ e n).1,by rw[<-q.length];exact Ca hi.symm⟩
def ZE(U:vs.length<=zN)(n:ρ.no a)(e:H a=some (.b xs))(q:RDs K mg ρ H vs xs):Walk K mg ρ H ⟨vs,none⟩ (L2.Itl K a) where
 b:=U
 c:=λρ2 H2 s2 i v x X _ W=>by have R:=(x.b a _ e n).1;have S:=RDs.mv x q;obtain⟨y,N,Y⟩:=S.get W;refine⟨⟨xs,y,.of R,N⟩,λz Z ⟨e3,h3⟩=>⟨.inl e3,?_⟩⟩;subst e3;have:=h3 xs (.of R);rw[N]at this;cases this;exact Y
 a:=λρ2 H2 s2 i x X _ hi=>⟨xs,.of (x.b a _ e n).1,by rw[<-q.length];exact Ca hi.symm⟩
def eK{ns:List Int}(k:KT K a (ns.map L2.V.d)):Walk K mg ρ H ⟨ns.map .c,none⟩ (L2.Itt K a) where
 b:=by obtain⟨o,its,n,_,_,_,W,U⟩:=k;have:=U.length;simp only[Aa,Aw]at this;show (ns.map Val.c).length<=_;rw[Aa,yc,this];exact W
 c:=λρ2 H2 s2 i v x S _ R=>by obtain⟨y,N,X⟩:=(RDs.ints (K:=K) (mg:=mg) (ρ:=ρ2) (H:=H2) ns).get R;refine⟨⟨_,y,k.sqt,N⟩,λz Y ⟨e3,h3⟩=>⟨.inl e3,?_⟩⟩;subst e3;have:=h3 _ k.sqt;rw[N]at this;cases this;exact X
 a:=λρ2 H2 s2 i x S _ hi=>⟨_,k.sqt,by rw[Aa];rw[hi];simp⟩
def ZF(X:vs.length<=zN)(e:ρ.o[i0]?=some a):Walk K mg ρ H ⟨vs,some i0⟩ (L2.Itl K a) where
 b:=X
 c:=λρ2 H2 s2 i v x U N Y=>by
  simp only[Src.ok]at N;split at N
  . rename_i ws hw
    cases uj N;obtain⟨b,xs,R,S,q⟩:=U.obj i0 _ hw;rw[x.c _ _ e]at R;cases R;obtain⟨y,W,Z⟩:=q.get Y;refine⟨⟨xs,y,.of S,W⟩,λz H3 ⟨e3,h3⟩=>⟨.inl e3,?_⟩⟩;subst e3;have:=h3 xs (.of S);rw[W]at this;cases this;exact Z
  . cases N
 a:=λρ2 H2 s2 i x U N hi=>by
  simp only[Src.ok]at N;split at N
  . rename_i ws hw
    cases uj N;obtain⟨b,xs,R,S,q⟩:=U.obj i0 _ hw;rw[x.c _ _ e]at R;cases R;exact⟨xs,.of S,by rw[<-q.length];exact Ca hi.symm⟩
  . cases N
def aL:(yR lo n)[i]?=if i<n then some (.c (lo+i)) else none:=by
 unfold yR;rw[Am];by_cases h:i<n
 . rw[if_pos h,CC h];rfl
 . rw[if_neg h,CQ (by rw[A0];omega)];rfl
def lD:(yR lo n).length=n:=by unfold yR;rw[Aa,A0]
def lT(R:n<=zN):Walk K mg ρ H ⟨yR lo n,none⟩ (L2.Itr lo n) where
 b:=by show (yR lo n).length<=_;rw[lD];exact R
 c:=λρ2 H2 s2 i v x U _ S=>by
  have N:(yR lo n)[i]?=some v:=S;rw[aL]at N;split at N
  . rename_i hi
    cases N;refine⟨hi,λz W ⟨e3,h3⟩=>⟨.inl e3,?_⟩⟩;subst h3;exact .l _
  . cases N
 a:=λρ2 H2 s2 i x U _ hi=>by have:i=(yR lo n).length:=hi;rw[lD]at this;exact Ca this.symm
def tI(env:Env)(s:Sto)(o:Out Src):L2.TI:=λσ H R=>∃ρ,HR K mg ρ s H/\ER K mg ρ H env σ/\(match o with
 |.e r s'=>∀ρ' H' J,Ext ρ H ρ' H'->HR K mg ρ' s' H'->Walk K mg ρ' H' r J->R J H'
 |_=>False)
end
section
variable {X:L2.Cx}{env:Env}{s:Sto}{a b tg:Expr}
def sD{t t':L2.TI}(h:L2.PI X tg it t)(i:∀σ H R,t' σ H R->t σ H R):L2.PI X tg it t':=λpins s σ H R I q=>h pins s σ H R I (i σ H R q)
def yi{o:Out Src}(h:∀v s',o≠.e v s'):L2.PI X tg it (tI (K:=X.K) (mg:=X.d) env s o):=λpins sh σ H R I q=>by
 obtain⟨ρ,_,_,w⟩:=q;cases o with
 |e v s'=>exact(h v s' rfl).elim
 |g _ _ _=>exact w.elim
 |d=>exact w.elim
def eQ.of(z:eQ H){a}(q:RDs K mg ρ H vs xs)(h:H a=some (.c xs)\/H a=some (.b xs)):vs.length<=zN:=by rw[q.length,yc];exact z a xs h
def VM{o:Out Val}(h:L2.PE X a (tV X.K X.d env s o)):L2.PI X tg a (tI (K:=X.K) (mg:=X.d) env s (o.bind λv s1=>match srcOf s1 v with|some r=>.e r s1|pn=>.d)):=by
 cases o with
 |e v s1=>
  show L2.PI X tg a (tI (K:=X.K) (mg:=X.d) env s (match srcOf s1 v with|some r=>.e r s1|pn=>.d))
  cases v with
  |g vs=>
   refine sD (qQ (L2.bz h)) λσ H R ⟨ρ,hr,er,w⟩=>⟨ρ,hr,er,λρ1 x H1 S N U=>?_⟩;cases U with
   |m n e q=>exact⟨_,rfl,⟨_,.of e⟩,λz=>w ρ1 H1 _ S N (ZG (z.of q (.inl e)) n e q)⟩
  |f vs=>
   refine sD (qQ (L2.i5 h)) λσ H R ⟨ρ,hr,er,w⟩=>⟨ρ,hr,er,λρ1 x H1 S N U=>?_⟩;cases U with
   |D n e q=>exact⟨_,rfl,⟨_,.of e⟩,λz=>w ρ1 H1 _ S N (ZE (z.of q (.inr e)) n e q)⟩
  |o ns=>
   refine sD (L2.bz h) λσ H R ⟨ρ,hr,er,w⟩=>⟨ρ,hr,er,λρ1 x H1 S N U=>?_⟩;cases U with
   |p k=>exact⟨_,rfl,⟨_,k.sqt⟩,w ρ1 H1 _ S N (eK k)⟩
  |j i=>
   simp only[srcOf];cases hs:s1[i]? with
   |none=>exact yi (zC rfl)
   |some Z=>
    cases Z with
    |c vs=>
     refine sD (qQ (L2.i5 h)) λσ H R ⟨ρ,hr,er,w⟩=>⟨ρ,hr,er,λρ1 x H1 S N U=>?_⟩;cases U with
     |C e=>
      obtain⟨b',xs,Y,W,q⟩:=N.obj i _ hs;rw[e]at Y;cases Y;exact⟨_,rfl,⟨_,.of W⟩,λz=>w ρ1 H1 _ S N (ZF (z.of q (.inr W)) e)⟩
    |_=>exact yi (zC rfl)
  |_=>exact yi (zC rfl)
 |g _ _ _=>exact yi (zC rfl)
 |d=>exact yi (zC rfl)
def gw{o:Out Val}{p pos:Pos}(hp:plain a=true)(Y:L2.Gl X "range")(W:X.d "range"=none)(h:L2.PE X a (tV X.K X.d env s o)) :
 L2.PI X tg (.Call (.Name "range" p) [a] [] pos) (tI (K:=X.K) (mg:=X.d) env s (o.bind λx s1=>match x with
  |.c j=>if -(2 ^ 62)<=j/\j<=zN then .e ⟨yR 0 j.toNat,pn⟩ s1 else .d
  |_=>.d)):=by
 cases o with
 |e v s1=>
  have st:Be [a] X.a=[(false,eval a X.a)]:=L2.yF (zY hp);refine sD (L2.ff Y W (L2.pac h L2.vH (zY hp)) st) λσ H R ⟨ρ,hr,er,w⟩=>⟨ρ,hr,er,λρ1 x H1 S N U=>?_⟩;cases U with
  |l j=>
   simp only[zJ]at w;by_cases hz:-(2 ^ 62)<=j/\j<=zN
   . rw[if_pos hz]at w
     have Z:(zN:Int)<2 ^ 62:=by decide
     exact⟨j,rfl,hz.1,⋯,w ρ1 H1 _ S N (lT ⋯)⟩
   . rw[if_neg hz]at w;exact w.elim
  |_=>exact w.elim
 |g _ _ _=>exact yi (zC rfl)
 |d=>exact yi (zC rfl)
def g7{o:Out Val}{f2:Sto->Out Val}{p pos:Pos}(hp:plain a=true)(U:plain b=true)(hg:L2.Gl X "range")(hm:X.d "range"=none)(h:L2.PE X a (tV X.K X.d env s o))(h2:∀s1,L2.PE X b (tV X.K X.d env s1 (f2 s1))) :
 L2.PI X tg (.Call (.Name "range" p) [a,b] [] pos) (tI (K:=X.K) (mg:=X.d) env s (o.bind λx s1=>(f2 s1).bind λy s2=>match x,y with
  |.c i,.c j=>if -(2 ^ 62)<=i/\i<2 ^ 62∧-(2 ^ 62)<=j/\j<2 ^ 62/\j-i<=zN then .e ⟨yR i (j-i).toNat,pn⟩ s2 else .d
  |_,_=>.d)):=by
 cases o with
 |e v s1=>
  have W:=h2 s1;simp only[zJ];cases hb:f2 s1 with
  |e w s2=>
   rw[hb]at W;have N:Be [b] X.a=[(false,eval b X.a)]:=L2.yF (zY U);have st:Be [a,b] X.a=[(false,eval a X.a),(false,eval b X.a)]:=by rw[L2.yF (zY hp),N]
   refine sD (L2.fh hg hm (L2.pac h (L2.pac W L2.vH (zY U)) (zY hp)) st N) λσ H R ⟨ρ,hr,er,wt⟩=>⟨ρ,hr,er,λρ1 x H1 Z S r1=>⟨ρ1,S,er.mono Z,λρ2 y H2 x2 Y r2=>?_⟩⟩;simp only[zJ]at wt;cases r1 with
   |l i=>
    cases r2 with
    |l j=>
     simp only at wt;by_cases hz:-(2 ^ 62)<=i/\i<2 ^ 62∧-(2 ^ 62)<=j/\j<2 ^ 62/\j-i<=zN
     . rw[if_pos hz]at wt
       exact⟨i,j,rfl,⟨hz.1,hz.2.1,hz.2.2.1,hz.2.2.2.1⟩,wt ρ2 H2 _ (Z.trans S x2) Y (lT ⋯)⟩
     . rw[if_neg hz]at wt;exact wt.elim
    |_=>exact wt.elim
   |_=>exact wt.elim
  |g _ _ _=>exact yi (zC rfl)
  |d=>exact yi (zC rfl)
 |g _ _ _=>exact yi (zC rfl)
 |d=>exact yi (zC rfl)
end
def sZ(K:KF)(mg:Str->Option Value)(t:Tgt)(g:L2.TG):Prop:=∀(ρ:Own) (s:Sto) (H:L2.Hp) (v:Val) (x:L2.V) (env env':Env) (σ:L2.St) (Q:L2.St->L2.Hp->Prop),HR K mg ρ s H->RD K mg ρ H v x->ER K mg ρ H env σ->z9 t v env=some env' ->
 (∀N,ER K mg ρ H env' N->Q N H)->g x σ H Q
def gH:sZ K mg (.a i) (L2.vY i):=λρ s H v x env env' σ Q R r N e q=>by
 cases e;exact q _ (N.set i r)
def oU:List Nat->L2.TGs
 |[]=>L2.TU
 |i::is=>L2.Xi (L2.vY i) (oU is)
theorem pU:∀{is} {vs} {xs} {env} {σ},RDs K mg ρ H vs xs->ER K mg ρ H env σ->vs.length=is.length ->
 (∀N,ER K mg ρ H ((is.zip vs).foldl (λe p=>e.set p.1 (some p.2)) env) N->Q N H)->oU is xs σ H Q
 |[],[],_,env,σ,.d,er,_,q=>⟨rfl,q σ er⟩
 |[],_::_,_,_,_,_,_,h,_=>by cases h
 |_::_,[],_,_,_,_,_,h,_=>by cases h
 |i::is,v::vs,x::xs,env,σ,.a r rs,er,h,q=>⟨x,xs,rfl,pU rs (er.set i r) (by simpa using h) q⟩
def tR:sZ K mg (.b is) (L2.TY K is.length (oU is)):=λρ s H v x env env' σ Q S r R e q=>by
 simp only[z9]at e;split at e
 . split at e
   . rename_i hl
     cases e;cases r with
     |m n e N=>exact⟨_,_,rfl,.of e,by rw[<-N.length];exact hl,pU N R hl q⟩
   . cases e
 . cases e
noncomputable def yz(sc:Scope)(N:List Str):List Nat->List Expr->Bool
 |[],[]=>true
 |i::is,.Name x _::es=>decide (N[i]?=some x)&&(decide (sc.names.lookup x=some .local)||decide (sc.names.lookup x=some .cell))&&yz sc N is es
 |_,_=>false
def ckT(sc:Scope)(N:List Str):Tgt->Expr->Bool
 |.a i,.Name x _=>decide (N[i]?=some x)&&(decide (sc.names.lookup x=some .local)||decide (sc.names.lookup x=some .cell))
 |.b is,.Tuple es _ _=>yz sc N is es&&decide (es≠[])
 |_,_=>false
section
variable {X:L2.Cx}
structure Scp(sc:Scope)(N:List Str)(X:L2.Cx):Prop where
 a:X.N=N
 d:N.Nodup
 e:∀x,sc.names.lookup x=some .local\/sc.names.lookup x=some .cell\/sc.names.lookup x=some .free->L2.Vis X.a.scope x
 c:∀x,sc.names.lookup x=some .local\/sc.names.lookup x=some .cell->L2.Loc X.a.scope x/\(X.m x=true\/X.a.scope.names.lookup x=some .local)
 b:∀x,sc.names.lookup x=some .globalImplicit->L2.Gl X x
 cf:∀x,sc.names.lookup x=some .cell\/sc.names.lookup x=some .free->X.a.kindOf x=some .cell\/X.a.kindOf x=some .free
def bw(S:Scp sc N X)(U:N[i]?=some x)(R:sc.names.lookup x=some .local\/sc.names.lookup x=some .cell):L2.PG X (.Name x p) (L2.vY i):=by obtain⟨a,b⟩:=S.c x R;exact L2.Ys (by rw[S.a];exact S.d) (by rw[S.a];exact U) a b
theorem wx(S:Scp sc N X):∀{is} {es},yz sc N is es=true->L2.PGs X es (oU is)/\(DI es X.a).length=is.length/\(DI es X.a).findIdx? (·.1)=none
 |[],[],_=>⟨L2.Yt,rfl,rfl⟩
 |[],_::_,h=>by cases h
 |_::_,[],h=>by cases h
 |i::is,e::es,h=>by
  cases e with
  |Name x p=>
   simp only[yz,ub,Bc,decide_eq_true_eq]at h;obtain⟨a,b,c⟩:=wx S h.2;refine⟨L2.bx (bw S h.1.1 h.1.2) a,?_,?_⟩
   . show (DI es X.a).length+1=is.length+1
     rw[b]
   . show List.findIdx? (·.1) ((false,assign (.Name x p) X.a)::DI es X.a)=none
     rw[List.findIdx?_cons];simp only[Au,if_false];rw[c];rfl
  |_=>cases h
def Si(S:Scp sc N X)(R:X.g=true)(h:ckT sc N t e=true):∃g,L2.PG X e g/\sZ X.K X.d t g:=by
 cases t with
 |a i=>
  cases e with
  |Name x p=>
   simp only[ckT,ub,Bc,decide_eq_true_eq]at h;exact⟨_,bw S h.1 h.2,gH⟩
  |_=>cases h
 |b is=>
  cases e with
  |Tuple es k p=>
   simp only[ckT,ub,decide_eq_true_eq]at h;obtain⟨a,b,c⟩:=wx S h.1;exact⟨_,L2.nC R a b c,tR⟩
  |_=>cases h
end
structure Lp(acc:Addr)(ρ:Own)(H:L2.Hp)(ρ':Own)(H':L2.Hp):Prop where
 f:∃new:List Addr,ρ'.o=ρ.o++new/\∀a∈new,H a=none
 c:ρ'.h=acc::ρ.h
 d:∀(a:Addr) (o:L2.HO),H a=some o->a ∉ ρ.o->H' a=some o
 g:∀a∈ρ.o,hk (H' a)=hk (H a)
section
variable {K:KF}{mg:Str->Option Value}{ρ ρ1 ρ2:Own}{H H1 H2:L2.Hp}{s s1:Sto}{acc:Addr}
noncomputable def Own.hide(ρ:Own)(acc:Addr):Own:=⟨ρ.o,acc::ρ.h⟩
def oW(R:HR K mg ρ s H)(N:H acc=none)o:Mv ρ H (ρ.hide acc) (L2.upd H acc o):=
 ⟨λa u e n=>⟨by rw[L2.zP (L2.zR e N)];exact e,n.1,λS=>by
  rcases Ar.mp S with z|z
  . exact L2.zR e N z
  . exact n.2 z⟩,λi a e=>e,λa U=>by rw[L2.zP λz=>(R.new N).1 (by rw[<-z];exact U)]⟩
theorem HR.hide(N:HR K mg ρ s H)(R:H acc=none)(o:Hid):HR K mg (ρ.hide acc) s (L2.upd H acc o.o):=by
 refine⟨N.f,N.l,λi c e=>?_,λa S=>?_⟩
 . obtain⟨a,W,q⟩:=N.g i c e
   obtain⟨o,U⟩:=q.there;exact⟨a,W,q.mv (oW N R _) (L2.zP (L2.zR U R))⟩
 . rcases Ar.mp S with z|z
   . subst z;exact⟨⟨o,L2.zd⟩,(N.new R).1⟩
   . obtain⟨⟨ys,e⟩,n⟩:=N.d a z
     exact⟨⟨ys,by rw[L2.zP (L2.zR e R)];exact e⟩,n⟩
def Lp.start(R:HR K mg ρ s H)(N:H acc=none)o:Lp acc ρ H (ρ.hide acc) (L2.upd H acc o):=
 ⟨⟨[],by simp[Own.hide],λa S=>by cases S⟩,rfl,λa u e _=>by rw[L2.zP (L2.zR e N)];exact e,(oW R N o).d⟩
def Lp.step(l:Lp acc ρ H ρ1 H1)(Y:HR K mg ρ1 s1 H1)(x:Ext ρ1 H1 ρ2 H2):Lp acc ρ H ρ2 H2:=by
 obtain⟨new,W,X⟩:=l.f;obtain⟨S,Z,U⟩:=x.d;refine⟨⟨new++S,by rw[Z,W,Ak],λa N=>?_⟩,x.f.trans l.c,λa o e n=>x.c a o (l.d a o e n) ?_,λa N=>(x.g a (by rw[W];exact Bl _ N)).trans (l.g a N)⟩
 . rcases AQ.mp N with N|N
   . exact X a N
   . cases q:H a with
     |none=>rfl
     |some o=>
      by_cases R:a∈ρ.o
      . obtain⟨xs,e⟩:=Y.trk (a:=a) (by rw[W];exact Bl _ R)
        rw[U a N]at e;cases e
      . have:=l.d a o q R
        rw[U a N]at this;cases this
 . rw[W]
   intro R;rcases AQ.mp R with R|R
   . exact n R
   . rw[X a R]at e;cases e
def Lp.emit(l:Lp acc ρ H ρ1 H1)(R:HR K mg ρ1 s1 H1)(S:H acc=none)o:Lp acc ρ H ρ1 (L2.upd H1 acc o):=
 ⟨l.f,l.c,λa u e n=>by rw[L2.zP (L2.zR e S)];exact l.d a u e n,λa N=>by
  obtain⟨new,U,_⟩:=l.f;rw[L2.zP λz=>(R.d acc (by rw[l.c];exact AE)).2 (by rw[<-z,U];exact Bl _ N)]
  exact l.g a N⟩
def Lp.here(l:Lp acc ρ H ρ1 H1):acc∈ρ1.h:=by rw[l.c];exact AE
def rB(R:HR K mg ρ1 s1 H1)(N:acc∈ρ1.h)o:Mv ρ1 H1 ρ1 (L2.upd H1 acc o):=
 ⟨λa u e n=>⟨by rw[L2.zP (λz=>n.2 (by rw[z];exact N))];exact e,n⟩,λi a e=>e,λa h=>by rw[L2.zP λz=>(R.d acc N).2 (by rw[<-z];exact h)]⟩
def HR.emit(N:HR K mg ρ1 s1 H1)(S:acc∈ρ1.h)(o:Hid):HR K mg ρ1 s1 (L2.upd H1 acc o.o):=by
 have R:=(N.d acc S).2;refine⟨N.f,N.l,λi c e=>?_,λa W=>?_⟩
 . obtain⟨a,U,q⟩:=N.g i c e
   exact⟨a,U,q.mv (rB N S _) (L2.zP (λz=>R (by rw[<-z];exact AF U)))⟩
 . obtain⟨⟨ys,e⟩,n⟩:=N.d a W
   by_cases z:a=acc
   . subst z;exact⟨⟨o,L2.zd⟩,n⟩
   . exact⟨⟨ys,by rw[L2.zP z];exact e⟩,n⟩
def Lp.drop(l:Lp acc ρ H ρ1 H1)(N:HR K mg ρ1 s1 H1):Ext ρ H ⟨ρ1.o,ρ.h⟩ H1/\HR K mg ⟨ρ1.o,ρ.h⟩ s1 H1/\Mv ρ1 H1 ⟨ρ1.o,ρ.h⟩ H1:=by
 have mv:Mv ρ1 H1 ⟨ρ1.o,ρ.h⟩ H1:=⟨λa u e n=>⟨e,n.1,λz=>n.2 (by rw[l.c];exact Ay _ z)⟩,λi a e=>e,λ_ _=>rfl⟩
 refine⟨⟨l.f,rfl,l.d,l.g⟩,⟨N.f,N.l,λi R e=>?_,λa S=>?_⟩,mv⟩
 . obtain⟨a,U,t⟩:=N.g i R e
   exact⟨a,U,t.mv mv rfl⟩
 . exact N.d a (by rw[l.c];exact Ay _ S)
def Lp.done(l:Lp acc ρ H ρ1 H1)(h0:HR K mg ρ s H)(hn:H acc=none)(S:HR K mg ρ1 s1 H1)(e:H1 acc=some (.b ys))(q:RDs K mg ρ1 H1 vs ys)(w:yV K mg (RD K mg) ρ H (newList m vs s1) Q):Q (.c acc) H1:=by
 have ha:=l.here;have R:=(S.d acc ha).2;have W:=(h0.new hn).2;cases m with
 |false=>
  obtain⟨x,Y,mv⟩:=l.drop S;exact w ⟨ρ1.o,ρ.h⟩ _ H1 x Y (.D ⟨R,W⟩ e (RDs.mv mv q))
 |true=>
  have mv:Mv ρ1 H1 ⟨ρ1.o++[acc],ρ.h⟩ H1:=by
   refine⟨λa u e n=>⟨e,λN=>?_,λz=>n.2 (by rw[l.c];exact Ay _ z)⟩,λi a e=>?_,λ_ _=>rfl⟩
   . rcases AQ.mp N with N|N
     . exact n.1 N
     . rw[Az.mp N]at n;exact n.2 ha
   . show (ρ1.o++[acc])[i]?=_
     rw[AW (As.mp e).1];exact e
  have rf:(ρ1.o++[acc])[s1.length]?=some acc:=by rw[<-S.f,AX (Ac _)];simp
  refine w ⟨ρ1.o++[acc],ρ.h⟩ _ H1 ⟨?_,rfl,l.d,l.g⟩ ⟨?_,?_,λi ws U=>?_,λa N=>?_⟩ (.C rf (by rw[e];rfl))
  . obtain⟨new,e1,X⟩:=l.f
    refine⟨new++[acc],by show ρ1.o++[acc]=_;rw[e1,Ak],λa N=>?_⟩
    rcases AQ.mp N with N|N
    . exact X a N
    . rw[Az.mp N];exact hn
  . show (ρ1.o++[acc]).length=(s1++[Cel.c vs]).length
    rw[Aq,Aq,S.f];rfl
  . show (ρ1.o++[acc]).Nodup
    rw[DG];exact⟨S.l,by simp,λa ha' b hb=>by rw[Az.mp hb];intro z;subst z;exact R ha'⟩
  . by_cases hi:i<s1.length
    . rw[AW hi]at U
      obtain⟨a,e1,t⟩:=S.g i ws U;exact⟨a,mv.c i a e1,t.mv mv rfl⟩
    . have Z:i=s1.length:=by have:=(As.mp U).1;rw[Aq]at this;simp at this;omega
      subst Z;rw[AX (Ac _)]at U;simp at U;subst U;exact⟨acc,rf,ys,e,RDs.mv mv q⟩
  . obtain⟨x,n⟩:=S.d a (by rw[l.c];exact Ay _ N)
    refine⟨x,λz=>?_⟩;rcases AQ.mp z with z|z
    . exact n z
    . rw[Az.mp z]at N;exact W N
end
section
variable {K:KF}{mg:Str->Option Value}
def mB{J:L2.It}{g:L2.TG}{tb:L2.TS}{D:L2.Ends}(N:Nat->L2.St->L2.Hp->Prop)(h0:N 0 σ H)(hd:∀σ H,N n σ H->J.a n H/\D.a σ H)
 (hs:∀i σ H,i<n->N i σ H->J.c i H/\∀x H',J.b i H x H'->g x σ H' λR H2=>tb {D with a:=N (i+1),c:=N (i+1),b:=D.a} R H2):L2.tH J g tb D σ H:=by
 refine⟨λi m σ H=>m=n-i/\i<=n/\N i σ H,⟨n,by simp,AS _,h0⟩,?_⟩
 rintro i m σ H ⟨rfl,hi,p⟩;by_cases hlt:i<n
 . obtain⟨a,b⟩:=hs i σ H hlt p
   exact .inr ⟨a,N (i+1),λS H' U=>⟨n-(i+1),⋯,rfl,hlt,U⟩,b⟩
 . have e:i=n:=by omega
   subst e;exact .inl (hd σ H p)
structure Acc(K:KF)(mg:Str->Option Value)(acc:Addr) where
 A:Own->L2.Hp->List Val->Prop
 B:List Val->Prop
 d:∀{a b},B (a++b)->B a
 f:∀{ρ H ρ' H' a},A ρ H a->Mv ρ H ρ' H'->H' acc=H acc->A ρ' H' a
 c:∀{ρ H a},A ρ H a->∃o,H acc=some o
def Acc.step(Z:Acc K mg acc)(h:Z.A ρ H a)(N:HR K mg ρ s H)(R:acc∈ρ.h)(x:Ext ρ H ρ' H'):Z.A ρ' H' a:=by obtain⟨o,e⟩:=Z.c h;exact Z.f h x.mv (by rw[x.c _ _ e (N.d acc R).2,e])
structure CS{acc:Addr}(Z:Acc K mg acc)(ρ0:Own)(H0:L2.Hp)(a:List Val)(s:Sto)(env:Env)(ρ:Own)(σ:L2.St)(H:L2.Hp):Prop where
 d:Lp acc ρ0 H0 ρ H
 b:HR K mg ρ s H
 c:ER K mg ρ H env σ
 e:Z.A ρ H a
def Grows(body:Env->Sto->List Val->Out (List Val × Env)):Prop:=∀e s a p s',body e s a=.e p s'->∃b,p.1=a++b
theorem vd(N:Grows body):∀{xs} {env} {s} {a} {p} {s'},z5 r t body xs env s a=.e p s'->∃b,p.1=a++b
 |[],env,s,a,p,s',h=>by
  rw[z5]at h;split at h
  . cases h;exact⟨[],(AR _).symm⟩
  . cases h
 |x::xs,env,s,a,p,s',h=>by
  rw[z5]at h;split at h
  . split at h
    . cases h
    . rename_i env' he
      cases hc:body env' s a with
      |e q s1=>
       rw[hc]at h;obtain⟨b,e⟩:=N _ _ _ _ _ hc;obtain⟨c,R⟩:=vd N h;exact⟨b++c,by rw[R,e,Ak]⟩
      |g _ _ _=>rw[hc]at h;cases h
      |d=>rw[hc]at h;cases h
  . cases h
def BodyOk{acc:Addr}(Z:Acc K mg acc)(ρ0:Own)(H0:L2.Hp)(body:Env->Sto->List Val->Out (List Val × Env))(tb:L2.TS):Prop:=
 ∀(ρ:Own) (s:Sto) (H:L2.Hp) (env:Env) (σ:L2.St) (a:List Val) (p:List Val × Env) (s':Sto) (D:L2.Ends),CS Z ρ0 H0 a s env ρ σ H->body env s a=.e p s'->Z.B p.1 ->
  (∀ρ' H' N,CS Z ρ0 H0 p.1 s' p.2 ρ' N H'->Mv ρ H ρ' H'->D.a N H')->tb D σ H
def wg{Z:Acc K mg acc}
   (W:Walk K mg ρ H r J) (TG:sZ K mg t g) (hg:Grows body) (hb:BodyOk Z ρ0 H0 body tb)
 (C:CS Z ρ0 H0 a s env ρ σ H) (h:z5 r t body r.a env s a=.e p sf) (hz:Z.B p.1) (fin:∀ρ' H' σ',CS Z ρ0 H0 p.1 sf p.2 ρ' σ' H'->Mv ρ H ρ' H'->D.a σ' H'):L2.tH J g tb D σ H:=by
 refine mB (n:=r.a.length) (λi S H2=>∃ρ2 s2 N Y,CS Z ρ0 H0 Y s2 N ρ2 S H2/\Mv ρ H ρ2 H2/\z5 r t body (r.a.drop i) N s2 Y=.e p sf) ⟨ρ,s,env,a,C,Mv.refl,by rw[Dk];exact h⟩ ?_ ?_
 . rintro S H2 ⟨ρ2,s2,N,Y,U,mv,R⟩
   rw[Hy,z5]at R;split at R
   . rename_i ho
     cases R;exact⟨W.a ρ2 H2 _ _ mv U.b ho rfl,fin ρ2 H2 S U mv⟩
   . cases R
 . rintro i S H2 hi ⟨ρ2,s2,N,Y,U,mv,R⟩
   rw[Bo hi,z5]at R;split at R
   . rename_i ho
     obtain⟨hgo,hy⟩:=W.c ρ2 H2 s2 i (r.a[i]) mv U.b ho (dS hi);refine⟨hgo,λx H3 y=>?_⟩;obtain⟨hH,rx⟩:=hy x H3 y;split at R
     . cases R
     . rename_i env' he
       -- the item is there: perhaps a new thing
       have C3:CS Z ρ0 H0 Y s2 N ρ2 S H3/\Mv ρ2 H2 ρ2 H3:=by
        rcases hH with e|⟨q,o,hq,e⟩
        . subst e;exact⟨U,Mv.refl⟩
        . subst e
          have X:=Ext.new U.b hq o;exact⟨⟨U.d.step U.b X,U.b.more hq o,U.c.mono X,Z.step U.e U.b U.d.here X⟩,X.mv⟩
       refine TG ρ2 s2 H3 _ x N env' S _ C3.1.b rx C3.1.c he λσ4 er4=>?_;cases hc:body env' s2 Y with
       |e q s5=>
        rw[hc]at R;obtain⟨b,eb⟩:=vd hg R;exact hb ρ2 s2 H3 env' σ4 Y q s5 _ ⟨C3.1.d,C3.1.b,er4,C3.1.e⟩ hc (Z.d (eb▸hz)) λρ5 H5 σ5 C5 mv5=>⟨ρ5,s5,q.2,q.1,C5,(mv.trans C3.2).trans mv5,R⟩
       |g _ _ _=>rw[hc]at R;cases R
       |d=>rw[hc]at R;cases R
   . cases R
end
section
variable (K:KF)(mg:Str->Option Value)(Φ:Calls)(G:Str->Option Val)
def uE(e:Ex):L2.TE:=λσ H Q=>∃env s,tV K mg env s (evE Φ G env e s) σ H Q
def uT(e:Cn):L2.TT:=λσ H Q=>∃env s,tT K mg env s (evT Φ G env e s) σ H Q
def uI(it:Itb):L2.TI:=λσ H R=>∃env s,tI (K:=K) (mg:=mg) env s (zo Φ G env it s) σ H R
noncomputable def uTs:Cns->List L2.TT
 |.a=>[]
 |.b e es=>uT K mg Φ G e::uTs es
end
section
variable {K:KF}{mg:Str->Option Value}{Φ:Calls}{G:Str->Option Val}
def fe(h:∀env s,L2.PE X E (tV X.K X.d env s (evE Φ G env e s))):L2.PE X E (uE X.K X.d Φ G e):=λpins s σ H Q I ⟨env,t,q⟩=>h env t pins s σ H Q I q
def R1(h:∀env s,L2.PT X E (tT X.K X.d env s (evT Φ G env e s))):L2.PT X E (uT X.K X.d Φ G e):=λpins s σ H Q I ⟨env,t,q⟩=>h env t pins s σ H Q I q
def qo(h:∀env s,L2.PI X tg E (tI (K:=X.K) (mg:=X.d) env s (zo Φ G env it s))):L2.PI X tg E (uI X.K X.d Φ G it):=λpins s σ H Q I ⟨env,t,q⟩=>h env t pins s σ H Q I q
theorem qY:∀{es} {ρ} {s} {H},HR K mg ρ s H->ER K mg ρ H env σ->yD Φ G env es s=.e b s2 ->
 (∀ρ' H',Ext ρ H ρ' H'->HR K mg ρ' s2 H'->Q b H')->L2.nO (uTs K mg Φ G es) σ H Q
 |.a,ρ,s,H,hr,er,h,q=>by
  rw[yD]at h;cases h;exact q ρ H Ext.refl hr
 |.b e es,ρ,s,H,hr,er,h,q=>by
  rw[yD]at h;refine⟨env,s,ρ,hr,er,?_⟩;cases hc:evT Φ G env e s with
  |e c s1=>
   rw[hc]at h;intro ρ1 X H1 R N W;cases W;cases c with
   |true=>exact L2.mK (qY N (er.mono R) h λρ' H' U S=>q ρ' H' (R.trans N U) S)
   |false=>
    simp only[zJ]at h;cases h;exact L2.mJ (q ρ1 H1 R N)
  |g _ _ _=>rw[hc]at h;cases h
  |d=>rw[hc]at h;cases h
def vm(Φ:Calls)(G:Str->Option Val)(elt:Ex)(ifs:Cns):Env->Sto->List Val->Out (List Val × Env):=λe s' acc=>(yD Φ G e ifs s').bind λb s2=>if b then (evE Φ G e elt s2).bind λv N=>.e (acc++[v],e) N else .e (acc,e) s2
def xU:Grows (vm Φ G elt ifs):=by
 intro e s a p s' h;unfold vm at h;cases hc:yD Φ G e ifs s with
 |e b s1=>
  rw[hc]at h;cases b with
  |true=>
   simp only[zJ,if_true]at h;cases hv:evE Φ G e elt s1 with
   |e v s2=>rw[hv]at h;cases h;exact⟨_,rfl⟩
   |g _ _ _=>rw[hv]at h;cases h
   |d=>rw[hv]at h;cases h
  |false=>simp only[zJ]at h;cases h;exact⟨[],(AR _).symm⟩
 |g _ _ _=>rw[hc]at h;cases h
 |d=>rw[hc]at h;cases h
def ZN{acc:Addr}(Z:Acc K mg acc)(N:(L2.St->L2.Hp->Prop)->L2.St->L2.V->L2.Hp->Prop):Prop:=∀{ρ:Own} {s:Sto} {H:L2.Hp} {a:List Val} {v:Val} {y:L2.V} {R:L2.St->L2.Hp->Prop} {σ:L2.St},
 HR K mg ρ s H->acc∈ρ.h->Z.A ρ H a->RD K mg ρ H v y->Z.B (a++[v])->(∀o:Hid,Z.A ρ (L2.upd H acc o.o) (a++[v])->R σ (L2.upd H acc o.o))->N R σ y H
def tU{Z:Acc K mg acc}(hi:ZN Z inn)(hn:H0 acc=none):BodyOk Z ρ0 H0 (vm Φ G elt ifs) (L2.tTB (uTs K mg Φ G ifs) λNx σ H=>uE K mg Φ G elt σ H (inn Nx σ)):=by
 intro ρ s H env σ a p s' D C h hz q;unfold vm at h;cases hc:yD Φ G env ifs s with
 |e b s1=>
  rw[hc]at h;refine qY (ρ:=ρ) (s:=s) C.b C.c hc λρ1 H1 U S=>?_;have X:=Z.step C.e C.b C.d.here U;cases b with
  |true=>
   simp only[zJ,if_true]at h;refine L2.mK ⟨env,s1,ρ1,S,C.c.mono U,?_⟩;cases hv:evE Φ G env elt s1 with
   |e v s2=>
    rw[hv]at h;cases h;intro ρ2 y H2 x2 R r2;have Y:=U.trans S x2;have N:=C.d.step C.b Y;refine hi R N.here (Z.step X S (C.d.step C.b U).here x2) r2 hz λo ac3=>?_;have W:=rB (H1:=H2) R N.here o.o;refine q ρ2 _ σ ⟨N.emit R hn _,R.emit N.here o,⟨C.c.b,λi v' e'=>?_⟩,ac3⟩ (Y.mv.trans W);obtain⟨u,h1,h2⟩:=(C.c.mono Y).a i v' e';exact⟨u,h1,RD.mv W h2⟩
   |g _ _ _=>rw[hv]at h;cases h
   |d=>rw[hv]at h;cases h
  |false=>
   simp only[zJ]at h;cases h;exact L2.mJ (q ρ1 H1 σ ⟨C.d.step C.b U,S,C.c.mono U,X⟩ U.mv)
 |g _ _ _=>rw[hc]at h;cases h
 |d=>rw[hc]at h;cases h
noncomputable def T3(K:KF)(mg:Str->Option Value)(acc:Addr):Acc K mg acc where
 A:=λρ H a=>∃ys,H acc=some (.b ys)/\RDs K mg ρ H a ys
 B:=λa=>a.length<=zN
 d:=λh=>Ao (by rw[Aq];exact Dl _ _) h
 f:=λ⟨ys,e1,e2⟩ x e=>⟨ys,e.trans e1,RDs.mv x e2⟩
 c:=λ⟨_,e,_⟩=>⟨_,e⟩
def Rm(acc:Addr)(N:L2.St->L2.Hp->Prop)(σ:L2.St)(y:L2.V)(H1:L2.Hp):Prop:=∃ys,H1 acc=some (.b ys)/\ys.length<AH/\N σ (L2.upd H1 acc (.b (ys++[y])))
def ju:ZN (T3 K mg acc) (Rm acc):=λ{ρ s H a v y Nx σ} hr ha ⟨ys,e1,e2⟩ r hz q=>by
 have R:ys.length<AH:=by have N:(a++[v]).length<=zN:=hz;rw[Aq,e2.length,yc]at N;simp at N;omega
 exact⟨ys,e1,R,q (.b _) ⟨_,L2.zd,RDs.mv (rB hr ha _) (e2.append (.a r .d))⟩⟩
def ue(Φ:Calls)(G:Str->Option Val)(elt:Ex)(ifs:Cns)(S:Tgt)(N:Itb)(ifs2:Cns):Env->Sto->List Val->Out (List Val × Env):=λe s' acc=>(yD Φ G e ifs s').bind λb s2=>if b then (zo Φ G e N s2).bind λR U=>
 z5 R S (vm Φ G elt ifs2) R.a e U acc
 else .e (acc,e) s2
def vM:Grows (ue Φ G elt ifs t2 it2 ifs2):=by
 intro e s a p s' h;unfold ue at h;cases hc:yD Φ G e ifs s with
 |e b s1=>
  rw[hc]at h;cases b with
  |true=>
   simp only[zJ,if_true]at h;cases hv:zo Φ G e it2 s1 with
   |e v s2=>rw[hv]at h;exact vd xU h
   |g _ _ _=>rw[hv]at h;cases h
   |d=>rw[hv]at h;cases h
  |false=>simp only[zJ]at h;cases h;exact⟨[],(AR _).symm⟩
 |g _ _ _=>rw[hc]at h;cases h
 |d=>rw[hc]at h;cases h
def sL{Z:Acc K mg acc}(hi:ZN Z inn)(hn:H0 acc=none)(TG:sZ K mg t2 g2) :
 BodyOk Z ρ0 H0 (ue Φ G elt ifs t2 it2 ifs2) (L2.tTB (uTs K mg Φ G ifs) (L2.uc (uI K mg Φ G it2) g2 (uTs K mg Φ G ifs2) λNx σ H=>uE K mg Φ G elt σ H (inn Nx σ))):=by
 intro ρ s H env σ a p s' D C h hz q;unfold ue at h;cases hc:yD Φ G env ifs s with
 |e b s1=>
  rw[hc]at h;refine qY (ρ:=ρ) (s:=s) C.b C.c hc λρ1 H1 S N=>?_;have U:=Z.step C.e C.b C.d.here S;have R:=C.d.step C.b S;cases b with
  |true=>
   simp only[zJ,if_true]at h;refine L2.mK ⟨env,s1,ρ1,N,C.c.mono S,?_⟩;cases hv:zo Φ G env it2 s1 with
   |e r2 s2=>
    rw[hv]at h;intro ρ2 H2 J x2 hr2 W;have xx:=S.trans N x2;exact wg W TG xU (tU hi hn) ⟨R.step N x2,hr2,C.c.mono xx,Z.step U N R.here x2⟩ h hz λY H3 X C3 mv3=>q Y H3 X C3 (xx.mv.trans mv3)
   |g _ _ _=>rw[hv]at h;cases h
   |d=>rw[hv]at h;cases h
  |false=>
   simp only[zJ]at h;cases h;exact L2.mJ (q ρ1 H1 σ ⟨R,N,C.c.mono S,U⟩ S.mv)
 |g _ _ _=>rw[hc]at h;cases h
 |d=>rw[hc]at h;cases h
def eB(U:ER K mg ρ H env σ)fr:ER K mg ρ H (zG fr env) (L2.zG fr σ):=by
 refine⟨by unfold zG L2.zG;rw[Aa,Aa],λi v e=>?_⟩
 unfold zG at e;unfold L2.zG;rw[Am]at e ⊢;cases hf:fr[i]? with
 |none=>rw[hf]at e;cases e
 |some o=>
  rw[hf]at e;cases o with
  |none=>cases e
  |some j=>
   have R:(env[j]?).join=some v:=AK e;have W:env[j]?=some (some v):=by
    cases N:env[j]? with
    |none=>rw[N]at R;cases R
    |some w=>rw[N]at R;have:w=some v:=R;rw[this]
   obtain⟨x,N,S⟩:=U.a j v W;refine⟨x,?_,S⟩;show some ((σ[j]?).join)=_;rw[N];rfl
def nr{Z:Acc K mg acc}{D:L2.Ends}(o:Hid)fr(Y:HR K mg ρ s H)(er:ER K mg ρ H env σ)(W:Walk K mg ρ H r J)(N:H acc=none)(TG:sZ K mg t g)(hg:Grows body)
 (hb:BodyOk Z ρ H body tb) (h0:Z.A (ρ.hide acc) (L2.upd H acc o.o) []) (hl:z5 r t body r.a (zG fr env) s []=.e p sf) (hz:Z.B p.1) (fin:∀ρ' H' R,CS Z ρ H p.1 sf p.2 ρ' R H'->D.a R H'):L2.tH J g tb D (L2.zG fr σ) (L2.upd H acc o.o):=by
 have mv:=oW (ρ:=ρ) Y N o.o;have S:=eB er fr;refine wg (ρ0:=ρ) (H0:=H) (W.mv mv) TG hg hb ⟨Lp.start Y N _,Y.hide N o,⟨S.b,λi v e=>?_⟩,h0⟩ hl hz λX H3 U C3 _=>fin X H3 U C3;obtain⟨x,h1,h2⟩:=S.a i v e;exact⟨x,h1,RD.mv mv h2⟩
def vx(TG:sZ K mg t g)(hg:Grows body)
 (hb:∀acc ρ0 H0,H0 acc=none->BodyOk (T3 K mg acc) ρ0 H0 body (L2.tTB ts (tb acc)))    
 (h:tV K mg env s ((zo Φ G env it s).bind λr s1=>(z5 r t body r.a (zG fr env) s1 []).bind λp s2=>if chk=true->p.1.length<=zN then newList m p.1 s2 else .d) σ H Q)
 (S:chk=false->∀r s1 p s2,z5 r t body r.a (zG fr env) s1 []=.e p s2->p.1.length<=r.a.length):L2.vh fr (uI K mg Φ G it) g ts tb σ H Q:=by
 obtain⟨ρ,hr,Z,w⟩:=h;refine⟨env,s,ρ,hr,Z,?_⟩;cases hi:zo Φ G env it s with
 |e r s1=>
  rw[hi]at w;simp only[zJ]at w;intro ρ1 H1 J X R W acc N;cases hl:z5 r t body r.a (zG fr env) s1 [] with
  |e p s2=>
   rw[hl]at w;simp only[zJ]at w;have Y:p.1.length<=zN/\yV K mg (RD K mg) ρ H (newList m p.1 s2) Q:=by
    by_cases hc:chk=true->p.1.length<=zN
    . rw[if_pos hc]at w
      refine⟨?_,w⟩;cases chk with
      |true=>exact hc rfl
      |false=>exact Ao (S rfl r s1 p s2 hl) W.b
    . rw[if_neg hc]at w;exact w.elim
   refine nr (.b []) fr R (Z.mono X) W N TG hg (hb acc ρ1 H1 N) ⟨[],L2.zd,.d⟩ hl Y.1 λρ3 H3 σ3 U=>?_;obtain⟨ys,e1,e2⟩:=U.e;exact U.d.done R N U.b e1 e2 (Y.2.mono X R)
  |g _ _ _=>rw[hl]at w;exact w.elim
  |d=>rw[hl]at w;exact w.elim
 |g _ _ _=>rw[hi]at w;exact w.elim
 |d=>rw[hi]at w;exact w.elim
theorem sM:∀{xs} {env} {s} {a} {p} {s'},z5 r t (vm Φ G elt ifs) xs env s a=.e p s'->p.1.length<=a.length+xs.length
 |[],env,s,a,p,s',h=>by
  rw[z5]at h;split at h
  . cases h;exact Ac _
  . cases h
 |x::xs,env,s,a,p,s',h=>by
  rw[z5]at h;split at h
  . split at h
    . cases h
    . rename_i env' he
      cases hc:vm Φ G elt ifs env' s a with
      |e q s1=>
       rw[hc]at h;have S:=sM h;have R:q.1.length<=a.length+1:=by
        unfold vm at hc;cases h3:yD Φ G env' ifs s with
        |e b s2=>
         rw[h3]at hc;cases b with
         |true=>
          simp only[zJ,if_true]at hc;cases h4:evE Φ G env' elt s2 with
          |e v N=>rw[h4]at hc;cases hc;simp
          |g _ _ _=>rw[h4]at hc;cases hc
          |d=>rw[h4]at hc;cases hc
         |false=>simp only[zJ]at hc;cases hc;exact Dp _
        |g _ _ _=>rw[h3]at hc;cases hc
        |d=>rw[h3]at hc;cases hc
       rw[Aj];omega
      |g _ _ _=>rw[hc]at h;cases h
      |d=>rw[hc]at h;cases h
  . cases h
end
end M
end
section
namespace M
open PySem PySem.W
structure Lv(T:Tbl)(P:Program)(w:World)(K:KF)(mg:Str->Option Value)(base:Heap)(n:Nat):Prop where
 ex:∀f v F,T.c f v=some F->∃fa fd,mg f=some (.ref fa)/\Dj K (.ref fa)=true/\L2.Binds K fd F.a []/\L2.rN P w K mg base L2.CX0 n fa fd F.a (spN T K mg n f v)
end M
end
section
namespace L2
open PySem PySem.Spec PyProof.Rows
def U1(tabs:List Addr)(H:Hp):Prop:=∀b,H b=none\/(∃o xs,H b=some (.g o (.b xs)))\/(b∈tabs/\H b=some (.d #[]))
def fA{K}{tabs:List Addr}
 (KX:K.In s₁.heap) (hns:s₁.heap.Ns Bq mg) (N:s₁.heap.Ns builtinsNs mb) (hbb:∀x:Str,x≠"__name__"->mb x=Dq x) (hlim:s₁.heap.NoLimit) (hg:s₁.gens=#[])
 (ha:s₁.heap.get? a=some {cls:=.type "list",data:=.seq vs.toArray}) (hi:IntsAre vs ns) (hl:ns.length<=AH) (hr:xB k callerA)
 (Z:∀b∈tabs,s₁.heap.get? b=some (GA #[])/\K.lookup b=none/\isCodeTable s₁.heap b)
 (F:∀base:Heap,K.In base->base.Ns Bq mg->rN P w K mg base CX k fa fd [x] sp) (X:∀s u,BindsTo s fd ⟨[u],[]⟩ [(x,u)])
 (hsp:∀H:Hp,(∀b∈tabs,H b=some (.d #[]))->SqL K H a (ns.map V.d)->sp [.c a] H (λv _=>v=.f true) λ_ _ _=>False)
 (hCX:∀H e s',CX [] H s₁ (λ_ _ _=>False) e s'->False) :
 codeAny (model P w) callerA (.call (.ref fa) ⟨[.ref a],[]⟩) (λr s'=>r=.ok (.ret (.bool true))/\OldK s₁.heap s'.heap/\s'.os=s₁.os/\AllBare s'.gens) s₁:=by
 have rv:=p7 hi;have lenV:=hi.length;have nat:a ∉ tabs:=λz=>by have:=(Z a z).1;rw[ha]at this;cases this
 have W:∀H:Hp,U1 tabs H->(∀b∈tabs,H b=some (.d #[]))->SqL K H a (ns.map V.d)->HOk P w H s₁.heap->(∀b,H b≠none->b=a\/b∈tabs)->(H a≠none->K.lookup a=none) ->
  codeAny (model P w) callerA (.call (.ref fa) ⟨[.ref a],[]⟩) (λr s'=>r=.ok (.ret (.bool true))/\OldK s₁.heap s'.heap/\s'.os=s₁.os/\AllBare s'.gens) s₁:=by
  intro H hO hT hS hok hA hK;have vv:∀{b:Addr} {o:Obj},s₁.heap.get? b=some o->H b=none->(oV s₁.heap H).get? b=some o:=λe n=>d8 e n;have noA:∀{b:Addr} {o:Obj} {es:Array DictEntry} {ep:Nat},s₁.heap.get? b=some o->o.data=.dict es ep->H b=none:=λ{b o es ep} e d=>by
   cases q:H b with
   |none=>rfl
   |some u=>
    rcases hA b (by rw[q];simp) with Y|Y
    . subst Y
      rw[ha]at e;cases e;have d':Data.seq vs.toArray _=Data.dict es ep:=d;cases d'
    . rw[(Z b Y).1]at e;cases e
      have d':Data.fields #[]=Data.dict es ep:=d;cases d'
  have S:∀{b:Addr} {m:Str->Option Value},s₁.heap.Ns b m->(oV s₁.heap H).Ns b m:=λ{b m} ⟨o,es,ep,e,d,r⟩=>⟨o,es,ep,vv e (noA e d),d,r⟩;have hKb:K.In (oV s₁.heap H):=λb o e=>vv (KX b o e) (by
   cases q:H b with
   |none=>rfl
   |some u=>
    rcases hA b (by rw[q];simp) with Y|Y
    . subst Y
      rw[hK (by rw[q];simp)]at e;cases e
    . rw[(Z b Y).2.1]at e;cases e)
  have hM:Mod K mg (oV s₁.heap H):=⟨hKb,S hns,⟨mb,S N,hbb⟩,let ⟨mc,h1,h2⟩:=hlim;⟨mc,S h1,h2⟩⟩;have e0:ZP P w K mg (oV s₁.heap H) callerA [] s₁ H:=⟨rfl,hM,λb o e=>YX e,Ca (gg _ _),trivial,λb N=>absurd (show b∈([]:List Addr) from N) (by simp),hok,.of_eq hg⟩
  refine F7 ((F _ hKb (S hns)).a callerA [] s₁ H ⟨[.ref a],[]⟩ [.ref a] [.c a] _ _ hr e0 (X s₁ (.ref a)) (.cons rfl .nil) (hsp H hT hS)) λr s' h=>?_;cases r with
  |error e=>exact(hCX H e s' h).elim
  |ok fl=>
   cases fl with
   |next=>exact Dn h
   |brk=>exact Dn h
   |cont=>exact Dn h
   |ret u=>
    obtain⟨v,H',os,bare,un,U,r',q⟩:=h;have q':v=.f true:=q;subst q';obtain rfl:u=DZ true:=r';have all:∀b o,s₁.heap.get? b=some o->asItWas s₁.heap s'.heap b o:=λb o e=>by
     cases q:H b with
     |none=>exact .inl (un.d b o e q (by intro z;exact absurd (show b∈([]:List Addr) from z) (by simp)) (by simp))
     |some u=>
      rcases hO b with z|⟨ob,xs,z⟩|⟨z1,z⟩
      . rw[q]at z;cases z
      . have z2:=un.g b ob _ z
        obtain⟨e1,_⟩:=hok b _ z;obtain⟨e2,_⟩:=U b _ z2;rw[e]at e1;cases e1;exact .inl e2
      . obtain⟨more,z2⟩:=un.j b _ z
        have e2:s'.heap.get? b=some (GA (#[]++more)):=U b _ z2;obtain⟨t1,_,t3⟩:=Z b z1;rw[e]at t1;cases t1;exact .inr (.inl ⟨t3,rfl,#[],more,rfl,e2⟩)
    exact⟨rfl,⟨all,λb o e=>by
     rcases all b o e with z|⟨_,_,_,_,_,z⟩|⟨_,_,⟨o',_,_,z,_⟩,_⟩
     . exact⟨_,z⟩
     . exact⟨_,z⟩
     . exact⟨_,z⟩⟩,os,bare⟩
 cases hk:K.lookup a with
 |some o=>
  have e:=KX a o hk;rw[ha]at e;cases e;refine W (λb=>if b∈tabs then some (.d #[]) else none) (λb=>?_) (λb N=>if_pos N) (.inr ⟨_,vs.toArray,_,hk,rfl,rfl,rfl,by rw[Ae,lenV];exact hl,by simpa using rv⟩) (λb u z=>?_) (λb z=>?_) λz=>?_
  . by_cases N:b∈tabs
    . exact .inr (.inr ⟨N,if_pos N⟩)
    . exact .inl (if_neg N)
  . by_cases N:b∈tabs
    . have R:=(if_pos N).symm.trans z
      cases R;exact(Z b N).1
    . have R:=(if_neg N).symm.trans z
      cases R
  . by_cases N:b∈tabs
    . exact .inr N
    . exact absurd (if_neg N) z
  . exact absurd (if_neg nat) z
 |none=>
  refine W (λb=>if b=a then some (.g {cls:=.type "list",data:=.seq vs.toArray} (.b (ns.map V.d))) else if b∈tabs then some (.d #[]) else none) (λb=>?_) (λb N=>(if_neg (λz=>nat (by rw[<-z];exact N))).trans (if_pos N)) (.inl (.inr ⟨{cls:=.type "list",data:=.seq vs.toArray},if_pos rfl⟩)) (λb u z=>?_) (λb z=>?_) λ_=>hk
  . by_cases N:b=a
    . exact .inr (.inl ⟨_,_,if_pos N⟩)
    . by_cases hb2:b∈tabs
      . exact .inr (.inr ⟨hb2,(if_neg N).trans (if_pos hb2)⟩)
      . exact .inl ((if_neg N).trans (if_neg hb2))
  . by_cases N:b=a
    . have R:=(if_pos N).symm.trans z
      cases R;subst N;exact⟨ha,by rw[Aa];exact hl,vs,_,rv,ha⟩
    . by_cases hb2:b∈tabs
      . have R:=((if_neg N).trans (if_pos hb2)).symm.trans z
        cases R;exact(Z b hb2).1
      . have R:=((if_neg N).trans (if_neg hb2)).symm.trans z
        cases R
  . by_cases N:b=a
    . exact .inl N
    . by_cases hb2:b∈tabs
      . exact .inr hb2
      . exact absurd ((if_neg N).trans (if_neg hb2)) z
end L2
end
section
namespace M
open PySem
noncomputable def Xm(sc:Scope)(x:Str):Bool:=decide (sc.names.lookup x=some .local)||decide (sc.names.lookup x=some .cell)||decide (sc.names.lookup x=some .free)
noncomputable def wX(sc:Scope)(x:Str):Bool:=decide (sc.names.lookup x=some .globalImplicit)
noncomputable def wc:List Str:=["len","all","any","tuple","list","sorted","repr","max","min","sum","int","isinstance","divmod","str","bool","dict","set","range","enumerate","zip"]
noncomputable def RP(y:Str)(n:String):Bool:=(decide (y="int")&&decide (n="int"))||(decide (y="bool")&&decide (n="bool"))||(decide (y="str")&&decide (n="str"))||(decide (y="list")&&decide (n="list"))||(decide (y="tuple")&&decide (n="tuple"))||(decide (y="dict")&&decide (n="dict"))
noncomputable def vC:Val->Option Const
 |.h=>some .none
 |.e b=>some (.bool b)
 |.c i=>some (.int i)
 |.m x=>some (.str x)
 |_=>none
def U8(v:Val)(e:Expr):Bool:=Wa e λc _ _=>decide (vC v=some c)
noncomputable def isLit:Ex->Int->Bool
 |.g (.c i),j=>decide (i=j)
 |_,_=>false
noncomputable def Ro:Ex->Bool
 |.g (.m _)=>true
 |_=>false
def mH(h:isLit e j=true):e=.g (.c j):=by
 unfold isLit at h;split at h
 . rw[of_decide_eq_true h]
 . cases h
def ckM(f:Mf)(k:Expr->Bool)(l:List Expr->Bool)(e:Expr):Bool:=(eMt e λN x ap y R=>decide (x=f.nm)&&k N&&l [y]&&plain y&&ou N&&(ap.endLine == R.line)&&okM f)
noncomputable def Rj(e:Expr)(k:Expr->Bool):Bool:=match e with
 |.SetComp _ (⟨_,i,_,0⟩::_) _ _=>k i
 |_=>false
def eSC(e:Expr)(k:Expr->List DA->Scope->Pos->Bool):Bool:=el e.ctorIdx 9 λh=>Ha (motive_1:=λ_=>Bool) e h k
def iE(h:eSC e k=true):∃x N sc p,e=.SetComp x N sc p/\k x N sc p=true:=by obtain⟨R,h⟩:=yS h;obtain⟨x,N,sc,p,rfl⟩:∃x N sc p,e=.SetComp x N sc p:=Ha (motive_1:=λe=>∃x N sc p,e=Expr.SetComp x N sc p) e R λx N sc p=>⟨x,N,sc,p,rfl⟩;exact⟨x,N,sc,p,rfl,h⟩
def sG1(e:Expr)(k:Expr->Expr->Expr->List Expr->Scope->Bool):Bool:=eSC e λx N sc _=>l1 N λg=>gC g λt i f=>k x t i f sc
def Y5(h:sG1 e k=true):∃x t i f sc p,e=.SetComp x [⟨t,i,f,0⟩] sc p/\k x t i f sc=true:=by obtain⟨x,U,sc,p,rfl,S⟩:=iE h;obtain⟨g,rfl,R⟩:=yX S;obtain⟨t,i,f,rfl,N⟩:=tq R;exact⟨x,t,i,f,sc,p,rfl,N⟩
def sG2(e:Expr)(k:Expr->Expr->Expr->List Expr->Expr->Expr->List Expr->Scope->Bool):Bool:=eSC e λx N sc _=>lc N λg N=>l1 N λS=>gC g λt i f=>gC S λR i2 f2=>k x t i f R i2 f2 sc
def Y6(h:sG2 e k=true):∃x t i f N i2 f2 sc p,e=.SetComp x [⟨t,i,f,0⟩,⟨N,i2,f2,0⟩] sc p/\k x t i f N i2 f2 sc=true:=by obtain⟨x,Z,sc,p,rfl,X⟩:=iE h;obtain⟨g,Y,rfl,W⟩:=xF X;obtain⟨g2,rfl,U⟩:=yX W;obtain⟨t,i,f,rfl,S⟩:=tq U;obtain⟨N,i2,f2,rfl,R⟩:=tq S;exact⟨x,t,i,f,N,i2,f2,sc,p,rfl,R⟩
def Zi(sc:Scope)(e:Expr)(k:Expr->Bool):Bool:=eCN e λx xs=>l1 xs λy=>(decide (x="sorted")&&wX sc x)&&k y
def rd(h:Zi sc e k=true):∃p y pos,e=.Call (.Name "sorted" p) [y] [] pos/\sc.names.lookup ("sorted":Str)=some .globalImplicit/\k y=true:=by obtain⟨x,p,xs,pos,rfl,U⟩:=wM h;obtain⟨y,rfl,N⟩:=yX U;simp only[ub,decide_eq_true_eq,wX]at N;obtain⟨⟨rfl,S⟩,R⟩:=N;exact⟨p,y,pos,rfl,S,R⟩
noncomputable def stF:Exs->Bool
 |.a (.E _) .b=>true
 |_=>false
noncomputable def T9:Ex->Bool
 |.E _=>false
 |_=>true
def ckA(sc:Scope)(f:Str)(q:List Expr->Bool)(e:Expr):Bool:=eCN e λx xs=>decide (x=f)&&wX sc x&&!(x == ("__debug__":Str))&&q xs&&yY xs
mutual
noncomputable def ck(sc:Scope)(N:List Str):Ex->Expr->Bool
 |.g v,e=>U8 v e
 |.e i,e=>(eName e λx _=>decide (N[i]?=some x)&&Xm sc x&&!(x == ("__debug__":Str))&&!(x == ("__classdict__":Str)))
 |.I y,e=>(eName e λx _=>decide (x=y)&&wX sc x&&!(x == ("__debug__":Str)))
 |.O y n,e=>(eName e λx _=>decide (x=y)&&wX sc x&&RP y n)
 |.h _ op a b,e=>(TF e λl o r _=>(okB op&&decide (o=op.op))&&ck sc N a l&&ck sc N b r)
 |.D a,e=>(eOp .USub e λx=>ck sc N a x)
 |.G a,e=>(eOp .Not e λx=>ck sc N a x)
 |.q op a b,e=>(eC1 e λl o r=>(okC op&&decide (o=op.op))&&ck sc N a l&&ck sc N b r&&plain r)
 |.y op op' a b c,e=>(eC2 e λl o Y r W=>(okC op&&decide (o=op.op))&&(okC op'&&decide (Y=op'.op))&&ck sc N a l&&ck sc N b r&&ck sc N c W&&plain W)
 |.z a es,e=>(eBl .And e λx xs=>ck sc N a x&&ckL sc N es xs)
 |.M _ _,_=>false
 |.L _ _ _,_=>false
 |.k es,e=>(dg e λxs _ _=>ckL sc N es xs&&yY xs)
 |.u _ es,e=>(TJ e λxs _=>ckL sc N es xs&&yY xs)
 |.H,_=>false
 |.F _,e=>(eD0 e)
 |.Q _ _,_=>false
 |.E a,e=>Rj e λi=>ck sc N a i
 |.C _ a,e=>(Zi sc e λy=>eCN y λz zs=>l1 zs λu=>decide (z="set")&&wX sc z&&ck sc N a u&&plain u)
 |.B _ N' fr elt t it ifs,e=>(Zi sc e λy=>sG1 y λx tg iter fs csc=>L2.uO sc N N' csc fr&&decide N'.Nodup&&ckT csc N' t tg&&ckI sc N it iter tg&&qh csc N' ifs fs&&ck csc N' elt x&&plain iter)
 |.A _ N' fr elt t it ifs t2 it2 ifs2,e=>(Zi sc e λy=>sG2 y λx tg iter fs S R U csc=>L2.uO sc N N' csc fr&&decide N'.Nodup&&ckT csc N' t tg&&ckI sc N it iter tg&&qh csc N' ifs fs&&ckT csc N' t2 S&&ckI csc N' it2 R S&&qh csc N' ifs2 U&&ck csc N' elt x&&plain iter&&plain R)
 |.j f ver es,e=>if ver<100 then ckA sc f (λxs=>ckL sc N es xs) e else false
 |.l f _ es,e=>(eCN e λx xs=>lc xs λy ys=>((okF f||stF es)&&decide (x=f.nm))&&wX sc x&&ckL sc N es (y::ys)&&yY (y::ys))
 |.J _ _,_=>false
 |.P f _ o es,e=>ckM f (λX=>ck sc N o X) (λys=>ckL sc N es ys) e
 |.s a b,e=>(Zj e λl r _=>ck sc N a l&&ck sc N b r&&plain r)
 |.K _ a lo hi st,e=>(eSS e λl x y z=>ck sc N a l&&ckO sc N lo x&&ckO sc N hi y&&ckO sc N st z)
 |.p _ N' fr elt t it ifs,e=>(eG1 e λx tg iter fs csc=>L2.uO sc N N' csc fr&&decide N'.Nodup&&ckT csc N' t tg&&ckI sc N it iter tg&&qh csc N' ifs fs&&ck csc N' elt x&&plain iter)
 |.w _ N' fr elt t it ifs t2 it2 ifs2,e=>(eG2 e λx tg iter fs S R U csc=>L2.uO sc N N' csc fr&&decide N'.Nodup&&ckT csc N' t tg&&ckI sc N it iter tg&&qh csc N' ifs fs&&ckT csc N' t2 S&&ckI csc N' it2 R S&&qh csc N' ifs2 U&&ck csc N' elt x&&plain iter&&plain R)
 |.r _ z a w,e=>(eCN e λx xs=>l1 xs λi=>eCN i λy ys=>lc ys λc ds=>if ds.isEmpty then (if Ro w then false else isLit z 0&&isLit w 1&&decide (x="list")&&decide (y="range"))&&wX sc x&&wX sc y&&ck sc N a c&&plain c else false)
noncomputable def ckL(sc:Scope)(N:List Str):Exs->List Expr->Bool
 |.b,es=>es.isEmpty
 |.a a as,es=>(lc es λe es=>ck sc N a e&&ckL sc N as es)
noncomputable def ckO(sc:Scope)(N:List Str):OEx->Option Expr->Bool
 |.b,e=>e.isNone
 |.a a,e=>(o1 e λe=>ck sc N a e)
noncomputable def ckC(sc:Scope)(N:List Str):Cn->Expr->Bool
 |.a a,e=>ck sc N a e&&(plainT e||decide (e.ctorIdx=15))
 |.d c,e=>(eOp .Not e λx=>ckC sc N c x)
 |.b c cs,e=>(eBl .And e λx xs=>ckC sc N c x&&qh sc N cs xs)
 |.f c cs,e=>(eBl .Or e λx xs=>ckC sc N c x&&qh sc N cs xs)
noncomputable def qh(sc:Scope)(N:List Str):Cns->List Expr->Bool
 |.a,es=>es.isEmpty
 |.b a as,es=>(lc es λe es=>ckC sc N a e&&qh sc N as es)
noncomputable def ckI(sc:Scope)(N:List Str):Itb->Expr->Expr->Bool
 |.f a,e,_=>ck sc N a e
 |.d a,e,_=>(eCN e λx xs=>l1 xs λy=>decide (x="range")&&wX sc x&&ck sc N a y&&plain y)
 |.g a b,e,_=>(eCN e λx xs=>lc xs λy ys=>l1 ys λz=>decide (x="range")&&wX sc x&&ck sc N a y&&ck sc N b z&&plain y&&plain z)
 |.h _ _ _,_,_=>false
 |.i _,_,_=>false
 |.j _ _,_,_=>false
end
structure Ok(T:Tbl)(n:Nat)(sc:Scope)(N:List Str)(X:L2.Cx):Prop where
 d:X.g=true
 g:L2.xB n X.A
 c:Scp sc N X
 m:∀f v F,T.c f v=some F->Callee T n X f v F
 r:∀x v,T.b x=some v->∃u xv,X.d x=some u/\L2.RelV xv u/\∀ρ H,RD X.K X.d ρ H v xv
 l:∀x∈wc,X.d x=none
 xe:X.h=λ_ _=>False
 no:∀f v,100<=v->T.c f v=none
def pJ(S:Scp sc N X)(h:L2.uO sc N N' csc fr=true):L2.zZ X N' csc fr:=by
 unfold L2.uO at h;simp only[ub,A5,Bc,decide_eq_true_eq,Al]at h;obtain⟨⟨⟨⟨⟨⟨⟨a1,a2⟩,a3⟩,a4⟩,a5⟩,a6⟩,a7⟩,a8⟩:=h;refine⟨a1,λx h1 h2=>(a2 _ h1).elim (λz=>z rfl) λz=>z _ h2 rfl,λx hx hk=>?_,λx hx hk=>?_,a5,λi j x R U=>?_,λx R U=>?_⟩
 . rcases a3 x hx with z|z
   . exact absurd hk z
   . exact z
 . rcases a4 x hx with z|z
   . exact absurd hk z
   . exact S.cf x.1 z
 . have hi:i<N'.length:=(As.mp R).1
   have q:=a6 i hi;rw[R,U]at q;simp only[ub,decide_eq_true_eq,CM]at q;obtain⟨q1,y,Z,Y,W⟩:=q;refine⟨by rw[S.a];exact q1,?_⟩
   have:y=(x,A9):=Fc Y W;rw[<-this];exact Z
 . rcases a7 (x,.free) U with z|z
   . exact z rfl
   . exact z R
def wa(h:sc.names.lookup x=some .local):(relabel sc env).names.lookup x=some .local:=lookup_relabel_local h
def jF(h:sc.names.lookup x=some .globalImplicit):(relabel sc env).names.lookup x=some .globalImplicit:=by
 have key:∀(names:List (Str × Gv)),names.lookup x=some .globalImplicit->(names.map λ(n,k)=>if (k == A9&&env.scope.kind == .function&&env.kindOf n == some .cell) then (n,BF) else (n,k)).lookup x=some .globalImplicit:=by
  intro names;induction names with
  |nil=>intro h;simp at h
  |cons p r N=>
   obtain⟨n,k⟩:=p;intro h;rw[AB];dsimp only;cases hx:(x == n) with
   |true=>
    rw[AD,hx]at h;cases h;have e:(Gv.globalImplicit == A9)=false:=rfl;rw[e];simp only[Em,Au,if_false,AD,hx]
   |false=>
    rw[AD,hx]at h;have:=N h;split<;>simpa only[AD,hx] using this
 exact key sc.names h
theorem Scp.comp(S:Scp sc N X)(R:L2.zZ X N' csc fr)(nd:N'.Nodup)C s0 H0 ex:Scp csc N' (X.comp N' csc C s0 H0 ex):=by
 refine⟨rfl,nd,λx h=>?_,λx h=>?_,λx h=>?_,λx h=>?_⟩
 . rcases h with h|h|h
   . exact .inl (wa h)
   . exact .inr (.inl (L2.vJ h))
   . exact(L2.tK R.a h).elim (λz=>.inr (.inl z)) λz=>.inr (.inr z)
 . rcases h with h|h
   . exact⟨.inl (wa h),.inr (wa h)⟩
   . exact⟨.inr (L2.vJ h),.inl (CM.mpr ⟨_,Dg h,decide_eq_true rfl⟩)⟩
 . exact jF h
 . rcases h with h|h
   . exact .inl (L2.vJ h)
   . exact L2.tK R.a h
theorem Callee.comp(c:Callee T n X f v F)N' csc C s0 H0 ex:Callee T n (X.comp N' csc C s0 H0 ex) f v F:=⟨c.a⟩
theorem Ok.comp(o:Ok T n sc N X)(S:L2.zZ X N' csc fr)(nd:N'.Nodup)(R:L2.uO sc N N' csc fr=true)C s0 H0 ex:Ok T n csc N' (X.comp N' csc C s0 H0 ex):=
 ⟨o.d,o.g,o.c.comp S nd C s0 H0 ex,λf v F h=>(o.m f v F h).comp N' csc C s0 H0 ex,o.r,o.l,rfl,o.no⟩
section
variable {T:Tbl}{n:Nat}
def JE(T:Tbl)(n:Nat)(a:Ex):Prop:=∀(sc:Scope) (N:List Str) (X:L2.Cx) (e:Expr),Ok T n sc N X->ck sc N a e=true->∀env s,L2.PE X e (tV X.K X.d env s (evE (zD T n) T.b env a s))
def JL(T:Tbl)(n:Nat)(a:Exs):Prop:=∀(sc:Scope) (N:List Str) (X:L2.Cx) (es:List Expr),Ok T n sc N X->ckL sc N a es=true ->
 (yY es=true->∀env s,L2.PA X es (tVs X.K X.d env s (yp (zD T n) T.b env a s))) /\
 (∀e R pos,es=e::R->∀env s,L2.PE X (.BoolOp .And es pos) (tV X.K X.d env s (sS (zD T n) T.b env a s))) /\
 (∀e R pos,es=e::R->∀env s,L2.PE X (.BoolOp .Or es pos) (tV X.K X.d env s (n5 (zD T n) T.b env a s))) /\
 (∀y,es=[y]->plain y=true->∃b,a=.a b .b/\∀env s,L2.PE X y (tV X.K X.d env s (evE (zD T n) T.b env b s)))
def JO(T:Tbl)(n:Nat)(a:OEx):Prop:=∀(sc:Scope) (N:List Str) (X:L2.Cx) (e:Option Expr),Ok T n sc N X->ckO sc N a e=true->(∀env s,L2.PO X e (tO X.K X.d env s (evO (zD T n) T.b env a s))) /\
 ((e=none/\∀env s1,evO (zD T n) T.b env a s1=.e none s1)\/∃R,e=some R/\∀env s1 s2,evO (zD T n) T.b env a s1≠.e none s2)
def JC(T:Tbl)(n:Nat)(a:Cn):Prop:=∀(sc:Scope) (N:List Str) (X:L2.Cx) (e:Expr),Ok T n sc N X->ckC sc N a e=true->∀env s,L2.PT X e (tT X.K X.d env s (evT (zD T n) T.b env a s))
def JCs(T:Tbl)(n:Nat)(a:Cns):Prop:=∀(sc:Scope) (N:List Str) (X:L2.Cx) (es:List Expr),Ok T n sc N X->qh sc N a es=true ->
 (∀pos env s,L2.PW X (.BoolOp .And es pos) (tT X.K X.d env s (yD (zD T n) T.b env a s)))/\(∀pos env s,L2.PW X (.BoolOp .Or es pos) (tT X.K X.d env s (n6 (zD T n) T.b env a s)))/\L2.PTs X es (uTs X.K X.d (zD T n) T.b a)
def JI(T:Tbl)(n:Nat)(a:Itb):Prop:=∀(sc:Scope) (N:List Str) (X:L2.Cx) (e tg:Expr),Ok T n sc N X->ckI sc N a e tg=true->∀env s,L2.PI X tg e (tI (K:=X.K) (mg:=X.d) env s (zo (zD T n) T.b env a s))
def VG:JE T n (.g v):=by
 intro sc N X e o h env s;show L2.PE X e (tV X.K X.d env s (.e v s));replace h:=dY h;obtain⟨c,k,p,rfl,h⟩:=h;have h:=of_decide_eq_true h;cases v with
 |h=>cases h;exact zl L2.UB λσ H Q ⟨ρ,hr,er,w⟩=>zK hr .s w
 |e b=>cases h;exact zl L2.Sb λσ H Q ⟨ρ,hr,er,w⟩=>zK hr (.j _) w
 |c i=>cases h;exact zl L2.V9 λσ H Q ⟨ρ,hr,er,w⟩=>zK hr (.l _) w
 |m x=>cases h;exact zl L2.UE λσ H Q ⟨ρ,hr,er,w⟩=>zK hr (.E _) w
 |_=>cases h
def VL:JE T n (.e i):=by
 intro sc N X e o h env s;replace h:=yo h;obtain⟨x,p,rfl,h⟩:=h;simp only[ub,decide_eq_true_eq,Xm,Bc,A8]at h;obtain⟨⟨⟨h1,h2⟩,Z⟩,Y⟩:=h;have S:L2.Vis X.a.scope x:=o.c.e x (by rcases h2 with (z|z)|z;exact .inl z;exact .inr (.inl z);exact .inr (.inr z))
 show L2.PE X _ (tV X.K X.d env s (match env[i]? with|some (some v)=>.e v s|_=>.d))
 refine zl (L2.UH (i:=i) (by rw[o.c.a];exact h1) S Z Y) λσ H Q ⟨ρ,hr,er,w⟩=>?_
 split at w
 . rename_i v e
   obtain⟨R,W,U⟩:=er.a i v e;exact⟨R,W,zK hr U w⟩
 . exact w.elim
def Tq:JE T n (.I y):=by
 intro sc N X e o h env s;replace h:=yo h;obtain⟨x,p,rfl,h⟩:=h;simp only[ub,decide_eq_true_eq,wX,A8]at h;obtain⟨⟨U,S⟩,R⟩:=h;subst U;show L2.PE X _ (tV X.K X.d env s (match T.b x with|some v=>.e v s|pn=>.d))
 cases hv:T.b x with
 |none=>exact zH (zC rfl)
 |some v=>
  obtain⟨u,xv,Z,Y,W⟩:=o.r x v hv;exact zl (L2.Yr (o.c.b x S) Z Y R) λσ H Q ⟨ρ,hr,er,w⟩=>zK hr (W ρ H) w
def Tt:JE T n (.O y m):=by
 intro sc N X e o h env s;replace h:=yo h;obtain⟨x,p,rfl,h⟩:=h;simp only[ub,decide_eq_true_eq,wX]at h;obtain⟨⟨U,S⟩,R⟩:=h;subst U;show L2.PE X _ (tV X.K X.d env s (.e (.t m) s));have key:x∈wc/\Dq x=some (.type m)/\x≠"__name__"/\(x == ("__debug__":Str))=false:=by
  unfold RP at R;simp only[Bc,ub,decide_eq_true_eq]at R;rcases R with ((((⟨rfl,rfl⟩|⟨rfl,rfl⟩)|⟨rfl,rfl⟩)|⟨rfl,rfl⟩)|⟨rfl,rfl⟩)|⟨rfl,rfl⟩
  . exact⟨by decide,PyProof.Rows.boot_int,by decide,by decide⟩
  . exact⟨by decide,PyProof.Rows.boot_bool,by decide,by decide⟩
  . exact⟨by decide,PyProof.Rows.boot_str,by decide,by decide⟩
  . exact⟨by decide,FG,by decide,by decide⟩
  . exact⟨by decide,HH,by decide,by decide⟩
  . exact⟨by decide,PyProof.Rows.boot_dict,by decide,by decide⟩
 exact zl (L2.Sg (o.c.b x S) (o.l x key.1) key.2.1 key.2.2.1 key.2.2.2) λσ H Q ⟨ρ,hr,er,w⟩=>zK hr (.J _) w
def YD:JE T n (.F t):=by
 intro sc N X e o h env s;obtain⟨p,rfl⟩:=Zf h;show L2.PE X _ (tV X.K X.d env s (.e (.q s.length) (s++[if t then .e [] else .d []])))
 cases t with
 |true=>exact zl L2.bt λσ H Q ⟨ρ,hr,er,w⟩ p hp=>w _ _ _ (Ext.own hr hp _) (hr.wH hp ⟨[],L2.zd,rfl,.d⟩) (.A (rF hr p) (by rw[L2.zd];decide))
 |false=>exact zl L2.br λσ H Q ⟨ρ,hr,er,w⟩ p hp=>w _ _ _ (Ext.own hr hp _) (hr.wH hp ⟨[],L2.zd,rfl,.d⟩) (.A (rF hr p) (by rw[L2.zd];decide))
def nj(h:zQ op x y s=.e v s'):∃b,v=.e b:=by unfold zQ at h;split at h<;>(split at h<;>first|(cases h;exact⟨_,rfl⟩)|cases h|(split at h<;>first|(cases h;exact⟨_,rfl⟩)|cases h|(split at h<;>first|(cases h;exact⟨_,rfl⟩)|cases h|(split at h<;>first|(cases h;exact⟨_,rfl⟩)|cases h))))
def qa{o:Out Val}(U:∀v s',o=.e v s'->∃b,v=.e b)(w:yV K mg (λ_ _ a b=>a=b) ρ H o.truth Q):yV K mg (RD K mg) ρ H o λx H'=>∃k,x=.f k/\Q k H':=by
 cases o with
 |e v s1=>
  obtain⟨b,rfl⟩:=U v s1 rfl;intro ρ1 x H1 R N S;cases S;exact⟨b,rfl,w _ _ _ R N rfl⟩
 |g _ _ _=>exact w
 |d=>exact w
def VR{f2:Sto->Out Val}(k1:okC op=true)(U:L2.xB k X.A)(h1:L2.PE X a (tV X.K X.d env s o))(h2:∀s1,L2.PE X b (tV X.K X.d env s1 (f2 s1)))(hm:plain b=true) :
 L2.PT X (.Compare a [op.op] [b] pos) (tT X.K X.d env s (o.bind λx s1=>(f2 s1).bind λy s2=>zQ op x y s2).truth):=by
 cases o with
 |e v s1=>
  have S:=h2 s1;show L2.PT X _ (tT X.K X.d env s ((f2 s1).bind λy s2=>zQ op v y s2).truth);cases hb:f2 s1 with
  |e w s2=>
   rw[hb]at S;exact nD (L2.Y1 (sC U op k1) h1 S (vI hm)) λσ H Q ⟨ρ,hr,er,wt⟩=>⟨ρ,hr,er,λρ1 x H1 Y R r1=>⟨ρ1,R,er.mono Y,λρ2 y H2 W N Z=>⟨ρ2,s2,v,w,N,r1.mono W,Z,qa (λ_ _ h=>nj h) (wt.mono (Y.trans R W) N)⟩⟩⟩
  |g _ _ _=>exact yM (zC rfl)
  |d=>exact yM (zC rfl)
 |g _ _ _=>exact yM (zC rfl)
 |d=>exact yM (zC rfl)
def cn{X:L2.Cx}{env:Env}{s:Sto}{a b c:Expr}{op R:Cop}{o:Out Val}{f2 f3:Sto->Out Val}{k:Nat}{pos:Pos}(k1:okC op=true)(k2:okC R=true)(hr0:L2.xB k X.A)(h1:L2.PE X a (tV X.K X.d env s o))(h2:∀s1,L2.PE X b (tV X.K X.d env s1 (f2 s1)))(h3:∀s1,L2.PE X c (tV X.K X.d env s1 (f3 s1)))(hm:plain c=true) :
 L2.PT X (.Compare a [op.op,R.op] [b,c] pos) (tT X.K X.d env s (o.bind λx s1=>(f2 s1).bind λy s2=>(zQ op x y s2).bind λr U=>match r with
  |.e true=>(f3 U).bind λz Z=>zQ R y z Z
  |.e false=>.e (.e false) U
  |_=>.d).truth):=by
 cases o with
 |e v s1=>
  have h2':=h2 s1;show L2.PT X _ (tT X.K X.d env s ((f2 s1).bind _).truth);cases hb:f2 s1 with
  |e w s2=>
   rw[hb]at h2';show L2.PT X _ (tT X.K X.d env s ((zQ op v w s2).bind _).truth);cases hc:zQ op v w s2 with
   |e r U=>
    cases r with
    |e t=>
     have h3':=h3 U;have rule:=L2.aF (pos:=pos) (sC hr0 op k1) (sC hr0 R k2) h1 h2' h3' (show IC [op.op,R.op] [b,c]=false from vI hm);refine nD rule λσ H Q ⟨ρ,hr,er,wt⟩=>⟨ρ,hr,er,λρ1 x H1 x1 hr1 r1=>⟨ρ1,hr1,er.mono x1,λρ2 y H2 x2 hr2 r2=>⟨ρ2,s2,v,w,hr2,r1.mono x2,r2,?_⟩⟩⟩;rw[hc];intro W z H3 x3 S r3;cases r3;refine⟨t,rfl,?_⟩;have xx:=(x1.trans hr1 x2).trans hr2 x3;have Y:=wt.mono xx S;cases t with
     |true=>
      rw[if_pos rfl];refine⟨W,S,er.mono xx,?_⟩;have N:yV X.K X.d (λ_ _ a b=>a=b) W H3 ((f3 U).bind λz Z=>zQ R w z Z).truth Q:=Y;cases hz:f3 U with
      |e u Z=>
       rw[hz]at N;exact λρ4 q H4 x4 hr4 r4=>⟨ρ4,Z,w,u,hr4,(r2.mono x3).mono x4,r4,qa (λ_ _ h=>nj h) (N.mono x4 hr4)⟩
      |g _ _ _=>rw[hz]at N;exact N
      |d=>rw[hz]at N;exact N
     |false=>
      rw[if_neg Ag];exact⟨false,rfl,Y _ _ _ Ext.refl S rfl⟩
    |_=>exact yM (zC rfl)
   |g _ _ _=>exact yM (zC rfl)
   |d=>exact yM (zC rfl)
  |g _ _ _=>exact yM (zC rfl)
  |d=>exact yM (zC rfl)
 |g _ _ _=>exact yM (zC rfl)
 |d=>exact yM (zC rfl)
def VE(W:JE T n a)(U:JE T n b):JC T n (.a (.q op a b)):=by intro sc N X e o h env s;replace h:=iA (yt h).1;obtain⟨_,_,_,_,rfl,R⟩:=h;simp only[ub,decide_eq_true_eq]at R;obtain⟨⟨⟨⟨S,rfl⟩,h3⟩,Z⟩,Y⟩:=R;exact VR S o.g (W _ _ _ _ o h3 env s) (λs1=>U _ _ _ _ o Z env s1) Y
def cV(Z:JE T n a)(Y:JE T n b)(W:JE T n c):JC T n (.a (.y op op' a b c)):=by intro sc N X e o h env s;replace h:=iB (yt h).1;obtain⟨_,_,_,_,_,_,rfl,R⟩:=h;simp only[ub,decide_eq_true_eq]at R;obtain⟨⟨⟨⟨⟨⟨U,rfl⟩,S,rfl⟩,h3⟩,h4⟩,h5⟩,h6⟩:=R;exact cn U S o.g (Z _ _ _ _ o h3 env s) (λs1=>Y _ _ _ _ o h4 env s1) (λs1=>W _ _ _ _ o h5 env s1) h6
noncomputable def Xl:Ex->Bool
 |.q ..|.y ..=>true
 |_=>false
def WU{os}(h:ck sc N a (.Compare l os rs p)=true):Xl a=true:=by
 cases a with
 |q _ _ _=>rfl
 |y _ _ _ _ _=>rfl
 |j f v es=>
  replace h:(if v<100 then ckA sc f (λxs=>ckL sc N es xs) (.Compare l os rs p) else false)=true:=h
  split at h
  . cases h
  . cases h
 |_=>cases h
def WV{e:Expr}(h:e.ctorIdx=15):∃l os N p,e=.Compare l os N p:=G5 (motive_1:=λe=>∃l os N p,e=Expr.Compare l os N p) e h λl os N p=>⟨l,os,N,p,rfl⟩
def zq(Y:JE T n a)(S:Xl a=false):JC T n (.a a):=by
 intro sc N X e o h env s;obtain⟨U,R⟩:=yt h;have W:=Y sc N X e o U env s;rcases (Bc _ _).mp R with R|R
 . exact VT R W
 . obtain⟨l,os,Z,p,rfl⟩:=WV (of_decide_eq_true R)
   rw[WU U]at S;cases S
end
def Wy(Y:JE T n a)(W:JE T n b):JE T n (.h m op a b):=by intro sc N X e o h env s;replace h:=dW h;obtain⟨l,o1,r,p,rfl,h⟩:=h;simp only[ub,decide_eq_true_eq]at h;obtain⟨⟨⟨U,rfl⟩,h1⟩,Z⟩:=h;exact WO (Y _ _ _ _ o h1 env s) (λs1=>W _ _ _ _ o Z env s1) λta tb S R=>L2.Sf (Vn m op U) S R
def W3(R:JE T n a):JE T n (.D a):=by intro sc N X e o h env s;replace h:=oO h;obtain⟨x,p,rfl,h⟩:=h;exact VI (R _ _ _ _ o h env s)
def W5(R:JL T n es):JE T n (.k es):=by intro sc N X e o h env s;replace h:=uq h;obtain⟨xs,k,p,rfl,h⟩:=h;simp only[ub]at h;exact cb ((R _ _ _ _ o h.1).1 h.2 env s)
def W2(R:JL T n es):JE T n (.u m es):=by intro sc N X e o h env s;replace h:=da h;obtain⟨xs,p,rfl,h⟩:=h;simp only[ub]at h;exact VH ((R _ _ _ _ o h.1).1 h.2 env s)
def Ti(W:JE T n a)(U:JE T n b):JE T n (.s a b):=by intro sc N X e o h env s;replace h:=rg h;obtain⟨l,r,p,rfl,h⟩:=h;simp only[ub]at h;exact WO (W _ _ _ _ o h.1.1 env s) (λs1=>U _ _ _ _ o h.1.2 env s1) λta tb S R=>L2.Sd Tg S R (b8 h.2)
theorem yq:∀{l},z∈nub l↔z∈l
 |[]=>.rfl
 |y::l=>by
  unfold nub;split
  . rename_i h
    rw[yq,Ar];exact⟨.inr,λq=>q.elim (λe=>e▸h) id⟩
  . rw[Ar,Ar,yq]
theorem x8:∀l:List (List Int),(nub l).Nodup
 |[]=>.nil
 |y::l=>by
  unfold nub;split
  . exact x8 l
  . rename_i h
    exact Bb.mpr ⟨λq=>h (yq.mp q),x8 l⟩
def kU{L l:List (List Int)}(h:L.Nodup)(s:∀z∈L,z∈l):L.length<=(nub l).length:=h.length_le_of_subset λz N=>yq.mpr (s z N)
def bO{L l:List (List Int)}(h:L.Nodup)(s:∀z,z∈L↔z∈l):L.Perm (nub l):=(CK h (x8 l)).mpr λz=>(s z).trans yq.symm
def sJ(N:b.Nodup)(hp:a.Perm b):L2.zk a=L2.zk b:=
 Fm (le:=λa b=>L2.yv a b=true) (λa b _ _ h k=>by rw[L2.v7 h]at k;cases k) (L2.xQ (hp.nodup_iff.mpr N)) (L2.xQ N) ((L2.zc a).trans (hp.trans (L2.zc b).symm))
def lH(h:setOk vs=some l):∃zs,yE vs=some zs/\l=nub zs/\l.length<306:=by
 unfold setOk at h;obtain⟨zs,e,h⟩:=Fy.mp h;split at h
 . cases h;exact⟨zs,e,rfl,by assumption⟩
 . cases h
theorem tS:∀{a b} {zs},yE (a++b)=some zs->∃y w,yE a=some y/\yE b=some w/\zs=y++w
 |[],b,zs,h=>⟨[],zs,rfl,h,rfl⟩
 |v::a,b,zs,h=>by
  cases v with
  |g vs=>
   rw[CL,yE]at h;split at h
   . rename_i z zs' e1 e2
     cases h;obtain⟨y,w,R,N,rfl⟩:=tS e2;exact⟨z::y,w,by rw[yE,e1,R],N,rfl⟩
   . cases h
  |_=>cases h
def lS(h:yE [v]=some w):∃z,v=tpV z/\w=[z]:=by
 cases v with
 |g vs=>
  rw[yE]at h;split at h
  . rename_i z zs' e1 e2
    cases h;cases e2;refine⟨z,?_,rfl⟩;have key:∀{vs:List Val} {z:List Int},intsOf vs=some z->vs=z.map Val.c:=λ{vs}=>by
     induction vs with
     |nil=>intro z e;cases e;rfl
     |cons u us N=>
      intro z e;cases u with
      |c i=>
       rw[intsOf]at e;obtain⟨y,R,rfl⟩:=AJ.mp e;rw[N R];rfl
      |_=>cases e
    rw[key e1];rfl
  . cases h
 |_=>cases h
section
variable {K:KF}{mg:Str->Option Value}
abbrev TG(K:KF)(mg:Str->Option Value)(ρ:Own)(H:L2.Hp)(z:List Int)(b:Addr):Prop:=RD K mg ρ H (tpV z) (.c b)
def TG.sqt(h:TG K mg ρ H z b):L2.SqT K H b (z.map L2.V.d):=by
 have key:∀{v:Val} {x:L2.V},RD K mg ρ H v x->v=tpV z->x=.c b->L2.SqT K H b (z.map L2.V.d):=λ{v x} r e1 e2=>by
  cases r with
  |m n e q=>
   cases e1;cases e2;have:∀{z:List Int} {xs:List L2.V},RDs K mg ρ H (z.map .c) xs->xs=z.map L2.V.d:=λ{z}=>by
    induction z with
    |nil=>intro xs q;cases q;rfl
    |cons i z R=>
     intro xs q;cases q with
     |a r N=>cases r;rw[R N];rfl
   rw[<-this q];exact .of e
  |_=>cases e1
 exact key h rfl rfl
def RD.tgE(h:RD K mg ρ H (tpV z) y):∃b,y=.c b:=by
 have key:∀{v:Val} {x:L2.V},RD K mg ρ H v x->v=tpV z->∃b,x=.c b:=λ{v x} r e=>by
  cases r with
  |m n _ _=>exact⟨_,rfl⟩
  |_=>cases e
 exact key h rfl
theorem hV:∀{vs} {ys} {zs},RDs K mg ρ H vs ys->yE vs=some zs->∃cs:List Addr,ys=cs.map L2.V.c
 |_,_,_,.d,_=>⟨[],rfl⟩
 |_,_,zs,.a (v:=v) (vs:=vs) r rs,h=>by obtain⟨y,w,R,N,_⟩:=tS (a:=[v]) (b:=vs) h;obtain⟨z,rfl,_⟩:=lS R;obtain⟨b,rfl⟩:=r.tgE;obtain⟨cs,rfl⟩:=hV rs N;exact⟨b::cs,rfl⟩
theorem RDs.Xp:∀{vs} {xs},vs.length=xs.length->(∀(i:Nat) v x,vs[i]?=some v->xs[i]?=some x->RD K mg ρ H v x)->RDs K mg ρ H vs xs
 |[],[],_,_=>.d
 |v::vs,x::xs,l,h=>.a (h 0 v x rfl rfl) (RDs.Xp (by simpa using l) λi v x R N=>h (i+1) v x (by simpa using R) (by simpa using N))
end
section
variable {X:L2.Cx}
def ao(e:H p=some (L2.yj X p ks bs))(g:L2.Each (TG X.K X.d ρ H) ks bs):L2.SqS X H p ks bs:=⟨e,λi k b R N=>(g i k b R N).sqt⟩
noncomputable def S9(X:L2.Cx)(acc:Addr):Acc X.K X.d acc where
 A:=λρ H a=>∃zs ks bs,yE a=some zs/\H acc=some (L2.yj X acc ks bs)/\L2.Each (TG X.K X.d ρ H) ks bs/\ks.Nodup/\∀z,z∈ks↔z∈zs
 B:=λa=>∃zs,yE a=some zs/\(nub zs).length<306
 d:=λ{a b} ⟨zs,e,h⟩=>by obtain⟨y,w,N,_,rfl⟩:=tS e;exact⟨y,N,CT (kU (x8 y) λz R=>Bl _ (yq.mp R)) h⟩
 f:=λ⟨zs,ks,bs,N,e2,g,r⟩ x e=>⟨zs,ks,bs,N,e.trans e2,λi k b U S=>RD.mv x (g i k b U S),r⟩
 c:=λ⟨_,_,_,_,e,_⟩=>⟨_,e⟩
def Xb:ZN (S9 X acc) (L2.Te X acc):=λ{ρ s H a v y Nx σ} hr ha ⟨zs,ks,bs,e1,e2,g,nd,mm⟩ r ⟨zs',e3,hz⟩ q=>by
 obtain⟨y',w,Y,e5,rfl⟩:=tS e3;rw[e1]at Y;cases Y;obtain⟨z,rfl,rfl⟩:=lS e5;obtain⟨b,rfl⟩:=r.tgE;have hn:ks.length<306:=CT (kU nd λu hu=>Bl _ ((mm u).mp hu)) hz;refine⟨b,ks,bs,z,TG X.K X.d ρ H,rfl,ao e2 g,g,TG.sqt r,r,hn,λR N W g' Z=>q (.a _) ?_⟩;have mv:=rB hr ha (L2.yj X acc R N);by_cases hm:z∈ks
 . obtain rfl:=Z.1 hm
   refine⟨zs++[z],_,N,e3,W.1,λi k b U S=>RD.mv mv (g' i k b U S),nd,λu=>?_⟩;rw[AQ,Az,mm u];exact⟨.inl,λh=>h.elim id λe=>e▸(mm z).mp hm⟩
 . have p:=Z.2 hm
   refine⟨zs++[z],R,N,e3,W.1,λi k b U S=>RD.mv mv (g' i k b U S),p.nodup_iff.mpr (Bb.mpr ⟨hm,nd⟩),λu=>?_⟩;rw[p.mem_iff,Ar,AQ,Az,mm u];exact Or.comm
def UY(X:L2.Cx)(Q:L2.VK):L2.VK:=λy H=>∃p ks bs,[y]=[.c p]/\L2.SqS X H p ks bs/\(ks.length<2\/∀z∈ks,z≠[]) /\
 ∀(l:Addr) (cs:List Addr),H l=none->cs.length=(L2.zk ks).length->(∀(i:Nat) (z:List Int),(L2.zk ks)[i]?=some z->∃b,cs[i]?=some b/\∃j:Nat,ks[j]?=some z/\bs[j]?=some b)->Q (.c l) (L2.upd H l (.b (cs.map L2.V.c)))
def au(hr:HR X.K X.d ρ s H)(e:H p=some (L2.yj X p ks bs))(g:L2.Each (TG X.K X.d ρ H) ks bs)(nd:ks.Nodup)(S:yE vs=some zs)(mm:∀z,z∈ks↔z∈zs)
 (w:yV X.K X.d (RD X.K X.d) ρ H (wD m vs s) Q):UY X Q (.c p) H:=by
 unfold wD at w;split at w
 . rename_i l el
   obtain⟨Z,R,rfl,_⟩:=lH el;rw[S]at R;cases R;have pm:=bO nd mm;split at w
   . rename_i hne
     refine⟨p,ks,bs,rfl,ao e g,?_,λl cs hl N U=>?_⟩
     . rw[pm.length_eq]
       exact hne.imp id λh z S=>h z (pm.mem_iff.mp S)
     . rw[<-sJ (x8 _) pm]at w
       refine xr hr (RDs.Xp (by rw[Aa,Aa,N]) λi v x R Y=>?_) w l hl
       rw[Am]at R Y;obtain⟨z,h1,rfl⟩:=AJ.mp R;obtain⟨b,h2,rfl⟩:=AJ.mp Y;obtain⟨b',W,j,h4,h5⟩:=U i z h1;rw[h2]at W;cases W;exact g j z b h4 h5
   . exact w.elim
 . exact w.elim
def pv(w:yV X.K X.d (RD X.K X.d) ρ H (wD m vs s) Q):∃zs,yE vs=some zs/\(nub zs).length<306:=by
 unfold wD at w;split at w
 . rename_i l el
   obtain⟨N,R,rfl,h⟩:=lH el;exact⟨N,R,h⟩
 . exact w.elim
def rX(TG:sZ X.K X.d t g)(hg:Grows body)
 (hb:∀acc ρ0 H0,H0 acc=none->BodyOk (S9 X acc) ρ0 H0 body (L2.tTB ts (tb acc)))   
 (h:tV X.K X.d env s ((zo Φ G env it s).bind λr s1=>(z5 r t body r.a (zG fr env) s1 []).bind λp s2=>wD m p.1 s2) σ H Q):L2.sF X fr (uI X.K X.d Φ G it) g ts tb σ H (UY X Q):=by
 obtain⟨ρ,hr,Z,w⟩:=h;refine⟨env,s,ρ,hr,Z,?_⟩;cases hi:zo Φ G env it s with
 |e r s1=>
  rw[hi]at w;simp only[zJ]at w;intro ρ1 H1 J Y R W acc N hq;cases hl:z5 r t body r.a (zG fr env) s1 [] with
  |e p s2=>
   rw[hl]at w;simp only[zJ]at w;refine nr (.a _) fr R (Z.mono Y) W N TG hg (hb acc ρ1 H1 N) ⟨[],[],[],rfl,hq.1,λi k b e=>by simp at e,.nil,λ_=>.rfl⟩ hl (pv w) λρ3 H3 σ3 U=>?_
   obtain⟨zs,ks,bs,e1,e2,g',nd,mm⟩:=U.e;obtain⟨x,S,mv⟩:=U.d.drop U.b;exact au S e2 (λi k b h1 h2=>RD.mv mv (g' i k b h1 h2)) nd e1 mm (w.mono (Y.trans R x) S)
  |g _ _ _=>rw[hl]at w;exact w.elim
  |d=>rw[hl]at w;exact w.elim
 |g _ _ _=>rw[hi]at w;exact w.elim
 |d=>rw[hi]at w;exact w.elim
end
def W4(R:JE T n a):JE T n (.G a):=by intro sc N X e o h env s;replace h:=oO h;obtain⟨x,p,rfl,h⟩:=h;exact VJ (R _ _ _ _ o h env s)
def W0(Y:JE T n a)(W:JE T n b):JE T n (.q op a b):=by intro sc N X e o h env s;replace h:=iA h;obtain⟨l,o1,r,p,rfl,h⟩:=h;simp only[ub,decide_eq_true_eq]at h;obtain⟨⟨⟨⟨U,rfl⟩,h1⟩,h2⟩,Z⟩:=h;exact WO (Y _ _ _ _ o h1 env s) (λs1=>W _ _ _ _ o h2 env s1) λta tb S R=>L2.Yq (sC o.g op U) S R (vI Z)
def cN(Y:JE T n a)(W:JE T n b)(U:JE T n c):JE T n (.y op op' a b c):=by intro sc N X e o h env s;replace h:=iB h;obtain⟨l,o1,o2,r,r2,p,rfl,h⟩:=h;simp only[ub,decide_eq_true_eq]at h;obtain⟨⟨⟨⟨⟨⟨S,rfl⟩,R,rfl⟩,h3⟩,h4⟩,h5⟩,Z⟩:=h;exact cY S R o.g (Y _ _ _ _ o h3 env s) (λs1=>W _ _ _ _ o h4 env s1) (λs1=>U _ _ _ _ o h5 env s1) Z
def Wx(S:JE T n a)(W:JL T n es):JE T n (.z a es):=by
 intro sc N X e o h env s;replace h:=oN h;obtain⟨x,xs,pos,rfl,h⟩:=h;simp only[ub]at h;obtain⟨U,R⟩:=h;cases es with
 |b=>
  cases Br.mp R;exact L2.kn (S _ _ _ _ o U env s)
 |a b Y=>
  cases xs with
  |nil=>cases R
  |cons y ys=>exact cW (S _ _ _ _ o U env s) λs1=>(W _ _ _ _ o R).2.1 y ys pos rfl env s1
def lq(h:T.c f ver=none)vs s:zD T n f ver vs s=.d:=by
 cases n with
 |zero=>rfl
 |succ n=>simp only[zD,h]
def Z3(Y:JL T n es):JE T n (.j f ver es):=by
 intro sc N X e o h env s;replace h:(if ver<100 then ckA sc f (λxs=>ckL sc N es xs) e else false)=true:=h
 split at h
 . rename_i hver
   replace h:=wM h;obtain⟨x,p,xs,pos,rfl,h⟩:=h;simp only[ub,decide_eq_true_eq,wX,A8]at h;obtain⟨⟨⟨⟨rfl,W⟩,U⟩,S⟩,R⟩:=h;show L2.PE X _ (tV X.K X.d env s ((yp (zD T n) T.b env es s).bind λvs s1=>zD T n x ver vs s1));cases hf:T.c x ver with
   |none=>
    refine zH λv s' e=>?_;cases hv:yp (zD T n) T.b env es s with
    |e vs s1=>rw[hv]at e;simp only[zJ,lq hf]at e;cases e
    |g _ _ _=>rw[hv]at e;cases e
    |d=>rw[hv]at e;cases e
   |some F=>
    have C:=o.m x ver F hf;cases xs with
    |nil=>
     cases es with
     |b=>exact cX C o.g (o.c.b x W) U
     |a _ _=>cases S
    |cons y ys=>exact YC C o.g (o.c.b x W) U R (by simp) ((Y _ _ _ _ o S).1 R env s)
 . cases h
def WN(f:Bf):f.nm∈wc:=by cases f<;>decide
def Wz(U:JL T n es):JE T n (.l f m es):=by
 intro sc N X e o h env s;replace h:=wM h;obtain⟨x,p,xs,pos,rfl,h⟩:=h;replace h:=xF h;obtain⟨y,ys,rfl,h⟩:=h;simp only[ub,decide_eq_true_eq,wX]at h;obtain⟨⟨⟨⟨R,rfl⟩,Y⟩,W⟩,S⟩:=h;rcases (Bc _ _).mp R with R|R
 . exact VF R o.d o.g (o.c.b _ Y) (o.l _ (WN f)) S ((U _ _ _ _ o W).1 S env s)
 . unfold stF at R
   split at R
   . exact zH (zC rfl)
   . cases R
def gq(_:JE T n z)(ja:JE T n a):JE T n (.r m z a w):=by
 intro sc N X e o h env s;replace h:=wM h;obtain⟨x,p,xs,pos,rfl,h⟩:=h;replace h:=yX h;obtain⟨i1,rfl,h⟩:=h;replace h:=wM h;obtain⟨y,p2,ys,Z,rfl,h⟩:=h;replace h:=xF h;obtain⟨c,ds,rfl,h⟩:=h;cases ds with
 |nil=>
  simp only[Hv,if_true,ub,wX]at h;obtain⟨⟨⟨⟨hw,Y⟩,W⟩,h5⟩,h6⟩:=h;replace Y:=of_decide_eq_true Y;replace W:=of_decide_eq_true W;split at hw
  case isTrue htx=>cases hw
  simp only[ub,decide_eq_true_eq]at hw;obtain⟨⟨⟨h1,h2⟩,rfl⟩,rfl⟩:=hw;obtain rfl:=mH h1;obtain rfl:=mH h2;have je:=ja _ _ _ _ o h5 env s;show L2.PE X _ (tV X.K X.d env s ((evE (zD T n) T.b env a s).bind λy s2=>YO m (.c 0) y (.c 1) s2));cases ho:evE (zD T n) T.b env a s with
  |e v s1=>
   rw[ho]at je;refine zl (L2.qm o.d rfl rfl (o.c.b _ Y) (o.l _ (by decide)) (o.c.b _ W) (o.l _ (by decide)) (L2.pac je L2.vH (zY h6)) (L2.yF (zY h6))) λσ H Q ⟨ρ,hr,er,w⟩=>⟨ρ,hr,er,λρ1 x H1 x1 S r1=>?_⟩
   have U:=w.mono x1 S;cases r1 with
   |l j=>
    by_cases hc:-(2 ^ 30)<=(0:Int)/\(0:Int)<=2 ^ 30∧-(2 ^ 30)<=j/\j<=2 ^ 30/\(0:Int)<1/\(1:Int)<=2 ^ 29/\A4 0 j 1<=1000
    . have R:yV X.K X.d (RD X.K X.d) ρ1 H1 (if -(2 ^ 30)<=(0:Int)/\(0:Int)<=2 ^ 30∧-(2 ^ 30)<=j/\j<=2 ^ 30/\(0:Int)<1/\(1:Int)<=2 ^ 29/\A4 0 j 1<=1000 then newList m ((L2.xJ 0 j 1).map .c) s1 else .d) Q:=U
      rw[if_pos hc]at R;exact⟨j,rfl,hc.2.2.1,hc.2.2.2.1,hc.2.2.2.2.2.2,xr S (RDs.ints _) R⟩
    . have R:yV X.K X.d (RD X.K X.d) ρ1 H1 (if -(2 ^ 30)<=(0:Int)/\(0:Int)<=2 ^ 30∧-(2 ^ 30)<=j/\j<=2 ^ 30/\(0:Int)<1/\(1:Int)<=2 ^ 29/\A4 0 j 1<=1000 then newList m ((L2.xJ 0 j 1).map .c) s1 else .d) Q:=U
      rw[if_neg hc]at R;exact R.elim
   |_=>exact U.elim
  |g _ _ _=>exact zH (zC rfl)
  |d=>exact zH (zC rfl)
 |cons d ds=>cases h
def Z5(W:JE T n a)(S:JL T n es):JE T n (.P f m a es):=by intro sc N X e o k env s;replace k:ckM f (ck sc N a) (ckL sc N es) e=true:=k;unfold ckM at k;obtain⟨ob,x,ap,y,cp,rfl,h⟩:=Zg k;simp only[ub,decide_eq_true_eq]at h;obtain⟨⟨⟨⟨⟨⟨rfl,h1⟩,h2⟩,R⟩,h4⟩,Z⟩,Y⟩:=h;obtain⟨b,rfl,U⟩:=(S _ _ _ _ o h2).2.2.2 y rfl R;exact cZ Y h4 R Z (W _ _ _ _ o h1 env s) λs1=>U env s1
def Tj(Y:JE T n a)(j1:JO T n lo)(j2:JO T n hi)(Z:JO T n st):JE T n (.K m a lo hi st):=by
 intro sc N X e o h env s;replace h:=Zh h;obtain⟨l1,x1,y1,z1,p1,p2,rfl,h⟩:=h;simp only[ub]at h;obtain⟨⟨⟨h1,h2⟩,h3⟩,h4⟩:=h;obtain⟨W,U⟩:=Z _ _ _ _ o h4;refine Ts (Y _ _ _ _ o h1 env s) (λs1=>(j1 _ _ _ _ o h2).1 env s1) (λs1=>(j2 _ _ _ _ o h3).1 env s1) (λs1=>W env s1) ?_;rcases U with⟨S,R⟩|⟨e',S,R⟩
 . exact .inl ⟨S,λs1=>R env s1⟩
 . exact .inr ⟨e',S,λs1 s2=>R env s1 s2⟩
def ud(o:Ok T n sc N X)(oc:∀C R H0 ex,Ok T n csc N' (X.comp N' csc C R H0 ex))t tg(h:ckT csc N' t tg=true):∃g,(∀C R H0 ex,L2.PG (X.comp N' csc C R H0 ex) tg g)/\sZ X.K X.d t g:=by
 cases t with
 |a i=>
  cases tg with
  |Name y p=>
   simp only[ckT,ub,Bc,decide_eq_true_eq]at h;exact⟨_,λC R H0 ex=>bw (oc C R H0 ex).c h.1 h.2,gH⟩
  |_=>cases h
 |b is=>
  cases tg with
  |Tuple es k p=>
   simp only[ckT,ub,decide_eq_true_eq]at h;refine⟨_,λC R H0 ex=>?_,tR (is:=is)⟩;obtain⟨a,b,c⟩:=wx (oc C R H0 ex).c h.1;exact L2.nC (X:=X.comp N' csc C R H0 ex) o.d a b c
  |_=>cases h
def Z4(je:JE T n elt)(Z:JI T n it)(jc:JCs T n ifs):JE T n (.p m N' fr elt t it ifs):=by
 intro sc N X e o h env s;replace h:=iC h;obtain⟨x,tg,iter,fs,csc,cpos,rfl,h⟩:=h;simp only[ub,decide_eq_true_eq]at h;obtain⟨⟨⟨⟨⟨⟨Y,h2⟩,h3⟩,h4⟩,h5⟩,h6⟩,h7⟩:=h;have S:=pJ o.c Y;have oc:=o.comp S h2 Y;obtain⟨g,pg,W⟩:=ud o oc t tg h3;have R:L2.PE X (.ListComp x [⟨tg,iter,fs,0⟩] csc cpos) (L2.vh fr (uI X.K X.d (zD T n) T.b it) g (uTs X.K X.d (zD T n) T.b ifs) λacc=>L2.sV acc (uE X.K X.d (zD T n) T.b elt)):=
  L2.i4 o.d S (qo λenv s=>Z _ _ _ _ _ o h4 env s) pg (λC U H0 ex=>(jc _ _ _ _ (oc C U H0 ex) h5).2.2) (λC U H0 ex=>fe (X:=X.comp N' csc C U H0 ex) λenv s=>je _ _ _ _ (oc C U H0 ex) h6 env s) (zt h7)
 refine zl R λσ H Q hq=>vx (env:=env) (s:=s) (chk:=false) (m:=m) (body:=vm (zD T n) T.b elt ifs) W xU (λacc ρ0 H0 hn=>tU ju hn) ?_ λ_ r s1 p s2 hl=>?_
 . simp only[Au,false_implies,if_true];exact hq
 . have:=sM hl
   simpa using this
def cP(je:JE T n elt)(ji:JI T n it)(jc:JCs T n ifs)(ji2:JI T n it2)(jc2:JCs T n ifs2):JE T n (.w m N' fr elt t it ifs t2 it2 ifs2):=by
 intro sc N X e o h env s;replace h:=iD h;refine byG λpi U=>?_;obtain⟨x,tg,iter,fs,Z,iter2,fs2,csc,cpos,rfl,h⟩:=h;refine U ?_;simp only[ub,decide_eq_true_eq]at h;refine byG λpi U=>?_;obtain⟨⟨⟨⟨⟨⟨⟨⟨⟨⟨h1,h2⟩,h3⟩,h4⟩,h5⟩,h6⟩,h7⟩,h8⟩,h9⟩,h10⟩,h11⟩:=h;refine U ?_;have S:=pJ o.c h1;have oc:=o.comp S h2 h1;have W:=ud o oc;obtain⟨g,pg,tg'⟩:=W t tg h3;obtain⟨g2,pg2,Y⟩:=W t2 Z h6;have rule:=L2.mq (cpos:=cpos) (elt:=x) (ifs:=fs) (ifs2:=fs2) (ts:=uTs X.K X.d (zD T n) T.b ifs) (ts2:=uTs X.K X.d (zD T n) T.b ifs2) (wi2:=uI X.K X.d (zD T n) T.b it2) (te:=uE X.K X.d (zD T n) T.b elt) o.d S (qo (tg:=tg) λenv s=>ji _ _ _ _ _ o h4 env s) pg (λC R H0 ex=>(jc _ _ _ _ (oc C R H0 ex) h5).2.2)
  (λC R H0 ex=>qo (X:=X.comp N' csc C R H0 ex) (tg:=Z) λenv s=>ji2 _ _ _ _ _ (oc C R H0 ex) h7 env s) pg2 (λC R H0 ex=>(jc2 _ _ _ _ (oc C R H0 ex) h8).2.2)
  (λC R H0 ex=>fe (X:=X.comp N' csc C R H0 ex) λenv s=>je _ _ _ _ (oc C R H0 ex) h9 env s) (zt h10) (λenv=>zt h11)
 refine zl rule λσ H Q hq=>vx (env:=env) (s:=s) (chk:=true) (m:=m) (body:=ue (zD T n) T.b elt ifs t2 it2 ifs2) tg' vM (λacc ρ0 H0 hn=>sL ju hn Y) ?_ λz=>by cases z
 simp only[true_implies];exact hq
def kr(o:Ok T n sc N X)(R:sc.names.lookup ("sorted":Str)=some .globalImplicit)(h:L2.PE X y te)(hs:L2.noStar y=true)(i:∀σ H Q,t' σ H Q->te σ H (UY X Q)):L2.PE X (.Call (.Name "sorted" p) [y] [] pos) t':=
 zl (L2.mn (p:=p) (pos:=pos) (L2.lu o.d) (o.c.b _ R) (o.l _ (by decide)) DX (L2.pac h L2.vH hs) (he:=L2.yF hs)) λσ H Q q=>i σ H Q q
def Z6(je:JE T n elt)(Z:JI T n it)(jc:JCs T n ifs):JE T n (.B m N' fr elt t it ifs):=by
 intro sc N X e o h env s;replace h:=rd h;obtain⟨p,y,pos,rfl,hg,h⟩:=h;replace h:=Y5 h;obtain⟨x,tg,iter,fs,csc,cpos,rfl,h⟩:=h;simp only[ub,decide_eq_true_eq]at h;obtain⟨⟨⟨⟨⟨⟨Y,h2⟩,h3⟩,h4⟩,h5⟩,h6⟩,h7⟩:=h;have S:=pJ o.c Y;have oc:=o.comp S h2 Y;obtain⟨g,pg,W⟩:=ud o oc t tg h3;have hu:X.A.in1.units<cLine:=by have:=o.g.a;show X.A.units+1<cLine;omega
 have R:L2.PE X (.SetComp x [⟨tg,iter,fs,0⟩] csc cpos) (L2.sF X fr (uI X.K X.d (zD T n) T.b it) g (uTs X.K X.d (zD T n) T.b ifs) λacc=>L2.nN X acc (uE X.K X.d (zD T n) T.b elt)):=
  L2.fX hu (λ_ _ _ _=>rfl) o.d S (qo λenv s=>Z _ _ _ _ _ o h4 env s) pg (λC U H0 ex=>(jc _ _ _ _ (oc C U H0 ex) h5).2.2) (λC U H0 ex=>fe (X:=X.comp N' csc C U H0 ex) λenv s=>je _ _ _ _ (oc C U H0 ex) h6 env s) (zt h7)
 exact kr o hg R rfl λσ H Q hq=>rX (env:=env) (s:=s) (m:=m) (body:=vm (zD T n) T.b elt ifs) W xU (λacc ρ0 H0 hn=>tU Xb hn) hq
def cQ(je:JE T n elt)(ji:JI T n it)(jc:JCs T n ifs)(ji2:JI T n it2)(jc2:JCs T n ifs2):JE T n (.A m N' fr elt t it ifs t2 it2 ifs2):=by
 intro sc N X e o h env s;replace h:=rd h;obtain⟨p,y,pos,rfl,hg,h⟩:=h;replace h:=Y6 h;obtain⟨x,tg,iter,fs,W,iter2,fs2,csc,cpos,rfl,h⟩:=h;simp only[ub,decide_eq_true_eq]at h;obtain⟨⟨⟨⟨⟨⟨⟨⟨⟨⟨h1,h2⟩,h3⟩,h4⟩,h5⟩,h6⟩,h7⟩,h8⟩,h9⟩,h10⟩,h11⟩:=h;have S:=pJ o.c h1;have oc:=o.comp S h2 h1;obtain⟨g,pg,Z⟩:=ud o oc t tg h3;obtain⟨g2,pg2,U⟩:=ud o oc t2 W h6;have hu:X.A.in1.units<cLine:=by have:=o.g.a;show X.A.units+1<cLine;omega
 have Y:=L2.fY (cpos:=cpos) (elt:=x) (ifs:=fs) (ifs2:=fs2) (ts:=uTs X.K X.d (zD T n) T.b ifs) (ts2:=uTs X.K X.d (zD T n) T.b ifs2) (wi2:=uI X.K X.d (zD T n) T.b it2) (te:=uE X.K X.d (zD T n) T.b elt) hu o.d S (qo (tg:=tg) λenv s=>ji _ _ _ _ _ o h4 env s) pg (λC R H0 ex=>(jc _ _ _ _ (oc C R H0 ex) h5).2.2)
  (λC R H0 ex=>qo (X:=X.comp N' csc C R H0 ex) (tg:=W) λenv s=>ji2 _ _ _ _ _ (oc C R H0 ex) h7 env s) pg2 (λC R H0 ex=>(jc2 _ _ _ _ (oc C R H0 ex) h8).2.2)
  (λC R H0 ex=>fe (X:=X.comp N' csc C R H0 ex) λenv s=>je _ _ _ _ (oc C R H0 ex) h9 env s) (zt h10) (λenv=>zt h11)
 exact kr o hg Y rfl λσ H Q hq=>rX (env:=env) (s:=s) (m:=m) (body:=ue (zD T n) T.b elt ifs t2 it2 ifs2) Z vM (λacc ρ0 H0 hn=>sL Xb hn U) hq
def Z7(ja:JE T n a):JE T n (.C m a):=by
 intro sc N X e o h env s;replace h:=rd h;obtain⟨p,y,pos,rfl,hg,h⟩:=h;replace h:=wM h;obtain⟨z,p2,zs,W,rfl,h⟩:=h;replace h:=yX h;obtain⟨u,rfl,h⟩:=h;simp only[ub,decide_eq_true_eq,wX]at h;obtain⟨⟨⟨rfl,h1⟩,h2⟩,h3⟩:=h;have je:=ja _ _ _ _ o h2 env s;have hu:X.A.units+40<cLine:=by have:=o.g.a;omega
 show L2.PE X _ (tV X.K X.d env s ((evE (zD T n) T.b env a s).bind λx s1=>gF m x s1));cases ho:evE (zD T n) T.b env a s with
 |e v s1=>
  rw[ho]at je;have S:=L2.wu (p:=p2) (pos:=W) (L2.gT o.d hu) (o.c.b _ h1) (o.l _ (by decide)) PySem.Pv.boot_set (L2.pac je L2.vH (zY h3)) (he:=L2.yF (zY h3))
  refine kr o hg S rfl λσ H Q ⟨ρ,hr,er,w⟩=>⟨ρ,hr,er,λρ1 x H1 x1 R r1=>?_⟩;have U:yV X.K X.d (RD X.K X.d) ρ1 H1 (gF m v s1) Q:=w.mono x1 R;unfold gF at U;split at U
  . rename_i vs hv
    obtain⟨zs,ez,hlt⟩:=pv U;obtain⟨a',ys,rfl,hq,q⟩:=xG R r1 hv;obtain⟨cs,rfl⟩:=hV q ez;have ev:=jY q ez;have gz:L2.Each (TG X.K X.d ρ1 H1) zs cs:=λi z c Z Y=>by
     obtain⟨x',e3,r3⟩:=q.get (i:=i) (v:=tpV z) (by rw[ev,Am,Z];rfl)
     rw[Am,Y]at e3;cases e3;exact r3
    refine⟨a',cs,zs,TG X.K X.d ρ1 H1,rfl,.of hq,?_,gz,λi z c Z Y=>(gz i z c Z Y).sqt,λL nd hL=>CT (kU nd hL) hlt,λl ks bs hl hS g nd mm=>?_⟩
    . have:=q.length
      rw[ev,Aa,Aa]at this;exact this.symm
    . have xx:=Ext.new R hl (L2.yj X l ks bs)
      exact au (R.more hl _) hS.1 (λi k b Z Y=>(g i k b Z Y).mono xx) nd ez mm (U.mono xx (R.more hl _))
  . exact U.elim
 |g _ _ _=>exact zH (zC rfl)
 |d=>exact zH (zC rfl)
def W7:JL T n .b:=by intro sc N X es o h;cases Br.mp h;exact⟨λ_ env s=>YE,⟨λe R pos z=>(nomatch z),⟨λe R pos z=>(nomatch z),λy z=>(nomatch z)⟩⟩⟩
def Z8(R:JE T n a)(jl:JL T n as):JL T n (.a a as):=by
 intro sc N X es o h;replace h:=xF h;obtain⟨e,es,rfl,h⟩:=h;simp only[ub]at h;obtain⟨U,S⟩:=h;obtain⟨l1,l2,Z,l4⟩:=jl _ _ _ _ o S;refine⟨λhp env s=>?_,λe' W pos z env s=>?_,λe' W pos z env s=>?_,λy z hp=>?_⟩
 . rw[yY,ub]at hp
   exact cg hp.1 (R _ _ _ _ o U env s) λs1=>l1 hp.2 env s1
 . cases as with
   |b=>
    cases Br.mp S;exact L2.kn (R _ _ _ _ o U env s)
   |a b Y=>
    cases es with
    |nil=>cases S
    |cons y ys=>exact cW (R _ _ _ _ o U env s) λs1=>l2 y ys pos rfl env s1
 . cases as with
   |b=>
    cases Br.mp S;exact L2.kn (R _ _ _ _ o U env s)
   |a b Y=>
    cases es with
    |nil=>cases S
    |cons y ys=>exact Tr (R _ _ _ _ o U env s) λs1=>Z y ys pos rfl env s1
 . cases z
   cases as with
   |b=>exact⟨a,rfl,λenv s=>R _ _ _ _ o U env s⟩
   |a _ _=>cases S
def Tn:JO T n .b:=by intro sc N X e o h;cases Hg.mp h;exact⟨λenv s=>Tu,.inl ⟨rfl,λenv s1=>rfl⟩⟩
def W8(S:JE T n a):JO T n (.a a):=by
 intro sc N X e o h;replace h:=bP h;obtain⟨W,rfl,h⟩:=h;refine⟨λenv s=>VN (S _ _ _ _ o h env s),.inr ⟨_,rfl,λenv s1 s2 z=>?_⟩⟩;have R:((evE (zD T n) T.b env a s1).bind λv s1=>match v with|.c i=>.e (some i) s1|_=>.d)=.e none s2:=z
 cases hv:evE (zD T n) T.b env a s1 with
 |e v U=>rw[hv]at R;cases v<;>cases R
 |g _ _ _=>rw[hv]at R;cases R
 |d=>rw[hv]at R;cases R
def Ww(R:JC T n c):JC T n (.d c):=by intro sc N X e o h env s;replace h:=oO h;obtain⟨S,U,rfl,h⟩:=h;exact VS (R _ _ _ _ o h env s)
def Wv(U:JC T n c)(R:JCs T n cs):JC T n (.b c cs):=by intro sc N X e o h env s;replace h:=oN h;obtain⟨W,S,Y,rfl,h⟩:=h;simp only[ub]at h;exact(cq (U _ _ _ _ o h.1 env s) λs1=>(R _ _ _ _ o h.2).1 _ env s1).pt
def Th(U:JC T n c)(R:JCs T n cs):JC T n (.f c cs):=by intro sc N X e o h env s;replace h:=oN h;obtain⟨W,S,Y,rfl,h⟩:=h;simp only[ub]at h;exact(Xn (U _ _ _ _ o h.1 env s) λs1=>(R _ _ _ _ o h.2).2.1 _ env s1).pt
def Z2:JCs T n .a:=by intro sc N X es o h;cases Br.mp h;exact⟨λpos env s=>kH,λpos env s=>g8,.b⟩
def cM(S:JC T n c)(R:JCs T n cs):JCs T n (.b c cs):=by intro sc N X es o h;replace h:=xF h;obtain⟨W,U,rfl,h⟩:=h;simp only[ub]at h;obtain⟨a,b,d⟩:=R _ _ _ _ o h.2;exact⟨λpos env s=>cq (S _ _ _ _ o h.1 env s) λs1=>a pos env s1,λpos env s=>Xn (S _ _ _ _ o h.1 env s) λs1=>b pos env s1,.a (R1 λenv s=>S _ _ _ _ o h.1 env s) d⟩
def W6(R:JE T n a):JI T n (.f a):=λsc N X e tg o h env s=>VM (R _ _ _ _ o h env s)
def gr(S:JE T n a):JI T n (.d a):=by intro sc N X e tg o h env s;replace h:=wM h;obtain⟨x1,p1,R,p2,rfl,h⟩:=h;replace h:=yX h;obtain⟨Z,rfl,h⟩:=h;simp only[ub,decide_eq_true_eq,wX]at h;obtain⟨⟨⟨rfl,Y⟩,W⟩,U⟩:=h;exact gw U (o.c.b _ Y) (o.l _ (by decide)) (S _ _ _ _ o W env s)
def gu(U:JE T n a)(S:JE T n b):JI T n (.g a b):=by intro sc N X e tg o h env s;replace h:=wM h;obtain⟨x1,p1,R,p2,rfl,h⟩:=h;replace h:=Va h;obtain⟨y1,y2,rfl,h⟩:=h;simp only[ub,decide_eq_true_eq,wX]at h;obtain⟨⟨⟨⟨⟨rfl,h1⟩,h2⟩,Z⟩,Y⟩,W⟩:=h;exact g7 Y W (o.c.b _ h1) (o.l _ (by decide)) (U _ _ _ _ o h2 env s) λs1=>S _ _ _ _ o Z env s1
section
variable (T:Tbl)(n:Nat)
mutual
theorem jE:∀a:Ex,JE T n a
 |.g _=>VG
 |.e _=>VL
 |.I _=>Tq
 |.O _ _=>Tt
 |.h _ _ a b=>Wy (jE a) (jE b)
 |.D a=>W3 (jE a)
 |.G a=>W4 (jE a)
 |.q _ a b=>W0 (jE a) (jE b)
 |.y _ _ a b c=>cN (jE a) (jE b) (jE c)
 |.z a es=>Wx (jE a) (jL es)
 |.M _ _=>λsc N X e o h=>by cases h
 |.L _ _ _=>λsc N X e o h=>by cases h
 |.k es=>W5 (jL es)
 |.u _ es=>W2 (jL es)
 |.H=>λsc N X e o h=>by cases h
 |.F _=>YD
 |.Q _ _=>λsc N X e o h=>by cases h
 |.E _=>λsc N X e o h env s=>zH (zC rfl)
 |.C _ a=>Z7 (jE a)
 |.B _ _ _ elt _ it ifs=>Z6 (jE elt) (jI it) (jCs ifs)
 |.A _ _ _ elt _ it ifs _ it2 ifs2=>cQ (jE elt) (jI it) (jCs ifs) (jI it2) (jCs ifs2)
 |.j _ _ es=>Z3 (jL es)
 |.l _ _ es=>Wz (jL es)
 |.J _ _=>λsc N X e o h=>by cases h
 |.P _ _ a es=>Z5 (jE a) (jL es)
 |.s a b=>Ti (jE a) (jE b)
 |.K _ a lo hi st=>Tj (jE a) (jO lo) (jO hi) (jO st)
 |.p _ _ _ elt _ it ifs=>Z4 (jE elt) (jI it) (jCs ifs)
 |.w _ _ _ elt _ it ifs _ it2 ifs2=>cP (jE elt) (jI it) (jCs ifs) (jI it2) (jCs ifs2)
 |.r _ z a _=>gq (jE z) (jE a)
theorem jL:∀a:Exs,JL T n a
 |.b=>W7
 |.a a as=>Z8 (jE a) (jL as)
theorem jO:∀a:OEx,JO T n a
 |.b=>Tn
 |.a a=>W8 (jE a)
theorem jC:∀a:Cn,JC T n a
 |.a (.q _ a b)=>VE (jE a) (jE b)
 |.a (.y _ _ a b c)=>cV (jE a) (jE b) (jE c)
 |.a (.g v)=>zq (jE (.g v)) rfl
 |.a (.e v)=>zq (jE (.e v)) rfl
 |.a (.I v)=>zq (jE (.I v)) rfl
 |.a (.O v w)=>zq (jE (.O v w)) rfl
 |.a (.h m o a b)=>zq (jE (.h m o a b)) rfl
 |.a (.D a)=>zq (jE (.D a)) rfl
 |.a (.G a)=>zq (jE (.G a)) rfl
 |.a (.z a b)=>zq (jE (.z a b)) rfl
 |.a (.M a b)=>zq (jE (.M a b)) rfl
 |.a (.L a b c)=>zq (jE (.L a b c)) rfl
 |.a (.k a)=>zq (jE (.k a)) rfl
 |.a (.u m a)=>zq (jE (.u m a)) rfl
 |.a .H=>zq (jE .H) rfl
 |.a (.F t)=>zq (jE (.F t)) rfl
 |.a (.Q a b)=>zq (jE (.Q a b)) rfl
 |.a (.E a)=>zq (jE (.E a)) rfl
 |.a (.C a b)=>zq (jE (.C a b)) rfl
 |.a (.B a b c d e f g)=>zq (jE (.B a b c d e f g)) rfl
 |.a (.A a b c d e f g h i j)=>zq (jE (.A a b c d e f g h i j)) rfl
 |.a (.j a b c)=>zq (jE (.j a b c)) rfl
 |.a (.l a b c)=>zq (jE (.l a b c)) rfl
 |.a (.J a b)=>zq (jE (.J a b)) rfl
 |.a (.P a b c d)=>zq (jE (.P a b c d)) rfl
 |.a (.s a b)=>zq (jE (.s a b)) rfl
 |.a (.K a b c d e)=>zq (jE (.K a b c d e)) rfl
 |.a (.p a b c d e f g)=>zq (jE (.p a b c d e f g)) rfl
 |.a (.w a b c d e f g h i j)=>zq (jE (.w a b c d e f g h i j)) rfl
 |.a (.r a b c d)=>zq (jE (.r a b c d)) rfl
 |.d c=>Ww (jC c)
 |.b c cs=>Wv (jC c) (jCs cs)
 |.f c cs=>Th (jC c) (jCs cs)
theorem jCs:∀a:Cns,JCs T n a
 |.a=>Z2
 |.b c cs=>cM (jC c) (jCs cs)
theorem jI:∀a:Itb,JI T n a
 |.f a=>W6 (jE a)
 |.d a=>gr (jE a)
 |.g a b=>gu (jE a) (jE b)
 |.i _=>λsc N X e tg o h=>by cases h
 |.h _ _ _=>λsc N X e tg o h=>by cases h
 |.j _ _=>λsc N X e tg o h=>by cases h
end
end
section
variable (K:KF)(mg:Str->Option Value)
def pB(ρ:Own)(H:L2.Hp)(o:Out Fl)(D:L2.Ends):Prop:=
 match o with
 |.e (.a e) s'=>∀ρ' H' N,Ext ρ H ρ' H'->HR K mg ρ' s' H'->ER K mg ρ' H' e N->D.a N H'
 |.e (.c e) s'=>∀ρ' H' N,Ext ρ H ρ' H'->HR K mg ρ' s' H'->ER K mg ρ' H' e N->D.b N H'
 |.e (.d e) s'=>∀ρ' H' N,Ext ρ H ρ' H'->HR K mg ρ' s' H'->ER K mg ρ' H' e N->D.c N H'
 |.e (.b v) s'=>∀ρ' H' x,Ext ρ H ρ' H'->HR K mg ρ' s' H'->RD K mg ρ' H' v x->D.d x H'
 |_=>False
def tSt(env:Env)(s:Sto)(o:Out Fl):L2.TS:=λD σ H=>∃ρ,HR K mg ρ s H/\ER K mg ρ H env σ/\pB K mg ρ H o D
end
def pB.mono(w:pB K mg ρ H o D)(x:Ext ρ H ρ' H')(h:HR K mg ρ' s1 H'):pB K mg ρ' H' o D:=by
 cases o with
 |e fl s'=>
  cases fl with
  |a e=>exact λρ2 H2 N R U S=>w ρ2 H2 N (x.trans h R) U S
  |c e=>exact λρ2 H2 N R U S=>w ρ2 H2 N (x.trans h R) U S
  |d e=>exact λρ2 H2 N R U S=>w ρ2 H2 N (x.trans h R) U S
  |b v=>exact λρ2 H2 y R U S=>w ρ2 H2 y (x.trans h R) U S
 |g _ _ _=>exact w
 |d=>exact w
noncomputable def u9:Expr->Bool
 |.ListComp ..|.SetComp ..|.DictComp ..=>false
 |_=>true
def lQ(h:u9 e=true):FY e t l env=pure false:=by cases e<;>first|rfl|cases h
def uB:FK [.Tuple ts k p] e l env=pure false:=by cases e<;>rfl
def eD:FK [.Subscript o i p] e l env=pure false:=by cases e<;>rfl
noncomputable def notTuple:Expr->Bool
 |.Tuple ..=>false
 |_=>true
def jW(h:notTuple e=true):Cq [.Tuple ts k p] e env=pure none:=by
 cases e<;>first|(cases h;done)|rfl
def lO:Cq [.Subscript o i p] e env=pure none:=by cases e<;>rfl
def RF(sc:Scope)(ts vs:List Expr):Bool:=lc ts λt r=>eName t λx N=>lc r λU R=>eName U λy py=>
 if R.isEmpty then decide (sc.names.lookup x=some .local)&&decide (sc.names.lookup y=some .local)&&(N.line == py.line)&&decide (x≠y)&&!(vs.all (DY 8))&&!(vs.all (GB 8))
 else l1 R λS=>eName S λz W=>decide (sc.names.lookup x=some .local)&&decide (sc.names.lookup y=some .local)&&decide (sc.names.lookup z=some .local)&&(N.line == py.line)&&(N.line == W.line)&&decide (x≠y)&&decide (x≠z)&&decide (y≠z)&&!(vs.all (DY 8))&&!(vs.all (GB 8))
noncomputable def X9(sc:Scope)(ts vs:List Expr):Bool:=ts.any (λ|.Name x _=>decide (sc.names.lookup x≠some .local)|_=>false)||(decide (3<ts.length)||vs.all (DY 8))
def qI{vs:List Expr}(h:yY vs=true):(vs.any λ|.Starred ..=>true|_=>false)=false:=by
 induction vs with
 |nil=>rfl
 |cons v vs N=>
  rw[yY,ub]at h;rw[Dz,N h.2];cases v<;>first|rfl|(have z:=h.1;cases z)
def lP(hb:env.blockKind=.function)(hx:env.kindOf x=some .local)(X:env.kindOf y=some .local)(U:(px.line == py.line)=true)(S:x≠y)(hp:yY [a,b]=true)
 (Y:[a,b].all (DY 8)=false) (Z:[a,b].all (GB 8)=false):Cq [.Tuple [.Name x px,.Name y py] kt pt] (.Tuple [a,b] k2 pt2) env=pure (some [x,y]):=by
 have hs:=qI hp;have R:(py.line == px.line)=true:=by rw[beq_iff_eq]at U ⊢;exact U.symm
 unfold Cq;have W:([x,y].eraseDups.length != [x,y].length)=false:=by
  have:(y == x)=false:=by simpa using B6 S
  simp[List.eraseDups_cons,this]
 simp only[Aj,BW,hb,Y,hs,Z,hx,X,R,List.head?_cons,HV,EF,Ba,List.filterMap_nil,beq_self_eq_true,FO,if_true];have N:(FZ x px).pos.line=px.line:=rfl;refine(if_neg (by decide)).trans ((if_neg (λz=>Ag (hs.symm.trans z))).trans ?_)
 simp only[N,beq_self_eq_true,R,FO,if_true,W,Aj,BW,bne_self_eq_false,Bool.or_self,Au,if_false];exact if_neg (λz=>Ag (W.symm.trans (by rw[IA]at z;exact z)))
def qw(hb:env.blockKind=.function)(hx:env.kindOf x=some .local)(hy:env.kindOf y=some .local)(hz:env.kindOf z=some .local)(Z:(px.line == py.line)=true)(W:(px.line == pz.line)=true)
 (Y:x≠y) (U:x≠z) (S:y≠z) (hp:yY [a,b,c]=true) (hf:[a,b,c].all (DY 8)=false) (hc:[a,b,c].all (GB 8)=false):Cq [.Tuple [.Name x px,.Name y py,.Name z pz] kt pt] (.Tuple [a,b,c] k2 pt2) env=pure (some [x,y,z]):=by
 have hs:=qI hp;have X:(py.line == px.line)=true:=by rw[beq_iff_eq]at Z ⊢;exact Z.symm
 have N:(pz.line == px.line)=true:=by rw[beq_iff_eq]at W ⊢;exact W.symm
 unfold Cq;have e1:([x,y,z].eraseDups.length != [x,y,z].length)=false:=by
  have h1:(y == x)=false:=by simpa using B6 Y
  have h2:(z == x)=false:=by simpa using B6 U
  have h3:(z == y)=false:=by simpa using B6 S
  simp[List.eraseDups_cons,h1,h2,h3]
 simp only[Aj,BW,hb,hf,hs,hc,hx,hy,hz,X,N,List.head?_cons,HV,EF,Ba,List.filterMap_nil,beq_self_eq_true,FO,if_true];have R:(FZ x px).pos.line=px.line:=rfl;refine(if_neg (by decide)).trans ((if_neg (λz=>Ag (hs.symm.trans z))).trans ?_)
 simp only[R,beq_self_eq_true,X,N,FO,if_true,e1,Aj,BW,bne_self_eq_false,Bool.or_self,Au,if_false];exact if_neg (λz=>Ag (e1.symm.trans (by rw[IA]at z;exact z)))
theorem uu{N R:Type}{f:N->Option R}:∀{l:List N},(∃a∈l,f a=none)->(l.filterMap f).length<l.length
 |[],⟨a,h,_⟩=>by cases h
 |b::l,⟨a,h,e⟩=>by
  rw[Ba];have S:=Hn f l;rcases Ar.mp h with z|z
  . subst z;rw[e];simp only[Aj];omega
  . have:=uu ⟨a,z,e⟩
    cases f b with
    |none=>simp only[Aj];omega
    |some _=>simp only[Aj];omega
def eJ(h:(∃x p,FZ x p∈ts/\env.kindOf x≠some .local)\/3<ts.length\/vs.all (DY 8)=true):Cq [.Tuple ts kt pt] (.Tuple vs k2 pt2) env=pure none:=by
 unfold Cq;simp only[];split
 . rfl
 . rename_i h1
   split
   . rfl
   . rcases h with⟨x,p,N,hk⟩|h|h
     . rw[if_pos]
       rw[Bc];left;rw[bne_iff_ne];refine Ax (uu ⟨_,N,?_⟩);have:(env.kindOf x == some .local)=false:=by simpa using hk
       simp only[this,Em,Au,if_false]
     . exfalso
       apply h1;have:(ts.length == 2||ts.length == 3)=false:=by rw[EJ];constructor<;>(rw[beq_eq_false_iff_ne];omega)
       rw[this];rfl
     . split
       . rfl
       . first|rfl|rw[if_pos h]
def jV(h:plain i=true)v:assign (.Subscript o i p) env v=(do
 let N <-holding [v] (eval o env);let R <-holding [v,N] (eval i env)
 standAt p
 holding [v,N,R] (setItem N R v)
 release [v,N,R] []):=by
 cases i<;>first|rfl|cases h
section
variable {X:L2.Cx}{env:Env}{s:Sto}
def Sk{t:L2.TS}(h:∀D σ H,¬t D σ H):L2.PS X st t:=λpins s σ H D I q=>(h D σ H q).elim
def Ub(h:∀v s',o≠.e v s'):¬tSt X.K X.d env s o D σ H:=by
 rintro ⟨ρ,_,_,w⟩;cases o with
 |e v s'=>exact h v s' rfl
 |g _ _ _=>exact w
 |d=>exact w
def zL(h:∀v s',o≠.e v s'):L2.PS X st (tSt X.K X.d env s o):=Sk λ_ _ _=>Ub h
def YF(S:u9 e=true)(h:L2.PE X e (tV X.K X.d env s o)):L2.PS X (.Expr e pos) (tSt X.K X.d env s (o.bind λ_ s1=>.e (.a env) s1)):=by
 cases o with
 |e v s1=>exact wA (L2.Yy h (lQ S)) λD σ H ⟨ρ,hr,er,w⟩=>⟨ρ,hr,er,λρ1 x H1 R N U=>w ρ1 H1 σ R N (er.mono R)⟩
 |g _ _ _=>exact zL (zC rfl)
 |d=>exact zL (zC rfl)
def VQ(h:L2.PE X e (tV X.K X.d env s o)):L2.PS X (.Return (some e) pos) (tSt X.K X.d env s (o.bind λv s1=>.e (.b v) s1)):=by
 cases o with
 |e v s1=>exact wA (L2.UM h) λD σ H ⟨ρ,hr,er,w⟩=>⟨ρ,hr,er,λρ1 x H1 R N S=>w ρ1 H1 x R N S⟩
 |g _ _ _=>exact zL (zC rfl)
 |d=>exact zL (zC rfl)
def kG(N:L2.PS X st (L2.qx te (L2.vY i)))(h:∀σ H Q,tV X.K X.d env s o σ H Q->te σ H Q):L2.PS X st (tSt X.K X.d env s (o.bind λv s1=>.e (.a (env.set i (some v))) s1)):=by
 cases o with
 |e v s1=>exact wA N λD σ H ⟨ρ,hr,er,w⟩=>h _ _ _ ⟨ρ,hr,er,λρ1 x H1 S R U=>w ρ1 H1 _ S R ((er.mono S).set i U)⟩
 |g _ _ _=>exact zL (zC rfl)
 |d=>exact zL (zC rfl)
def iS{t:Tgt}{g:L2.TG}{o:Out Val}{st:Stmt}{te:L2.TE}(TG:sZ X.K X.d t g)(N:L2.PS X st (L2.qx te g))(h:∀σ H Q,tV X.K X.d env s o σ H Q->te σ H Q) :
 L2.PS X st (tSt X.K X.d env s (o.bind λv s1=>match z9 t v env with|some env'=>.e (.a env') s1|pn=>.d)):=by
 cases o with
 |e v s1=>
  show L2.PS X st (tSt X.K X.d env s (match z9 t v env with|some env'=>.e (.a env') s1|pn=>.d))
  cases hb:z9 t v env with
  |none=>exact zL (zC rfl)
  |some env'=>exact wA N λD σ H ⟨ρ,hr,er,w⟩=>h _ _ _ ⟨ρ,hr,er,λρ1 x H1 W R Y=>TG ρ1 s1 H1 v x env env' σ _ R Y (er.mono W) hb λS U=>w ρ1 H1 S W R U⟩
 |g _ _ _=>exact zL (zC rfl)
 |d=>exact zL (zC rfl)
def Wq op m:(∃r,L2.PIp X op.op r/\∀i j H Q v s s',binOp m op (.c i) (.c j) s=.e v s'->(∃k:Int,v=.c k/\s'=s/\(Q (.d k) H->r (.d i) (.d j) H Q)))\/(op=.g\/op=.h\/op=.i\/op=.f):=by
 cases op with
 |a=>exact .inl ⟨_,L2.Zv,λi j H Q v s s' h=>by cases h;exact⟨_,rfl,rfl,λq=>⟨i,j,rfl,rfl,q⟩⟩⟩
 |e=>exact .inl ⟨_,L2.Zy,λi j H Q v s s' h=>by cases h;exact⟨_,rfl,rfl,λq=>⟨i,j,rfl,rfl,q⟩⟩⟩
 |b=>exact .inl ⟨_,L2.Zx,λi j H Q v s s' h=>by
  simp only[binOp]at h;split at h
  . rename_i hz;cases h;exact⟨_,rfl,rfl,λq=>⟨i,j,rfl,rfl,hz,q⟩⟩
  . cases h⟩
 |c=>exact .inl ⟨_,L2.cB,λi j H Q v s s' h=>by
  simp only[binOp]at h;split at h
  . rename_i hz;cases h;exact⟨_,rfl,rfl,λq=>⟨i,j,rfl,rfl,hz,q⟩⟩
  . cases h⟩
 |d=>exact .inl ⟨_,L2.Zw,λi j H Q v s s' h=>by
  simp only[binOp]at h;split at h
  . rename_i hz;cases h;exact⟨_,rfl,rfl,λq=>⟨i,j,rfl,rfl,hz,q⟩⟩
  . cases h⟩
 |g=>exact .inr (.inl rfl)
 |h=>exact .inr (.inr (.inl rfl))
 |i=>exact .inr (.inr (.inr (.inl rfl)))
 |f=>exact .inr (.inr (.inr (.inr rfl)))
def ZV{i:Nat}{op:Bop}{f:Sto->Out Val}{r:Fl}{s':Sto}(h:(match env[i]? with
 |some (some (.c x))=>(f s).bind λv s1=>match v with
  |.c y=>(binOp false op (.c x) (.c y) s1).bind λz s2=>.e (Fl.a (env.set i (some z))) s2
  |_=>.d
 |some (some (.g x))=>if op=Bop.a then (f s).bind λv s1=>match v with
  |.g y=>(binOp false .a (.g x) (.g y) s1).bind λz s2=>.e (Fl.a (env.set i (some z))) s2
  |_=>.d
  else .d
 |_=>.d:Out Fl)=.e r s'):(∃a b s1 z,env[i]?=some (some (.c a))/\f s=.e (.c b) s1/\binOp false op (.c a) (.c b) s1=.e z s'/\r=Fl.a (env.set i (some z))) \/
  (op=Bop.a/\∃a b,env[i]?=some (some (.g a))/\f s=.e (.g b) s'/\a.length+b.length<=zN/\r=Fl.a (env.set i (some (.g (a++b))))):=by
 generalize he:env[i]?=o at h;cases o with
 |none=>cases h
 |some R=>
  cases R with
  |none=>cases h
  |some N=>
   cases N with
   |c a=>
    refine .inl ⟨a,?_⟩;generalize S:f s=o at h;cases o with
    |e v s1=>
     cases v with
     |c b=>
      simp only[zJ]at h;generalize U:binOp false op (.c a) (.c b) s1=o at h;cases o with
      |e z s2=>cases h;exact⟨b,s1,z,rfl,rfl,U,rfl⟩
      |g _ _ _=>cases h
      |d=>cases h
     |_=>cases h
    |g _ _ _=>cases h
    |d=>cases h
   |g a=>
    by_cases ho:op=.a
    . refine .inr ⟨ho,a,?_⟩
      simp only[if_pos ho]at h;generalize S:f s=o at h;cases o with
      |e v s1=>
       cases v with
       |g b=>
        simp only[zJ,binOp]at h;by_cases hz:a.length+b.length<=zN
        . rw[if_pos hz]at h;cases h;exact⟨b,rfl,rfl,hz,rfl⟩
        . rw[if_neg hz]at h;cases h
       |_=>cases h
      |g _ _ _=>cases h
      |d=>cases h
    . simp only[if_neg ho]at h;cases h
   |_=>cases h
def Sl(h:∀r s',o=.e r s'->L2.PS X st (tSt X.K X.d env s (.e r s'))):L2.PS X st (tSt X.K X.d env s o):=by
 cases o with
 |e r s'=>exact h r s' rfl
 |g _ _ _=>exact zL (zC rfl)
 |d=>exact zL (zC rfl)
def VO{i:Nat}{x:Str}{e:Expr}{op:Bop}{f:Sto->Out Val}{pos W:Pos}(hop:¬(op=.g\/op=.h\/op=.i\/op=.f))(hN:X.N.Nodup)(hi:X.N[i]?=some x)(hx:L2.Loc X.a.scope x)(hf:X.m x=true\/X.a.scope.names.lookup x=some .local)(h:∀s,L2.PE X e (tV X.K X.d env s (f s))) :
 L2.PS X (.AugAssign (.Name x W) op.op e pos) (tSt X.K X.d env s (match env[i]? with
 |some (some (.c x))=>(f s).bind λv s1=>match v with
  |.c y=>(binOp false op (.c x) (.c y) s1).bind λz s2=>.e (.a (env.set i (some z))) s2
  |_=>.d
 |some (some (.g x))=>if op=.a then (f s).bind λv s1=>match v with
  |.g y=>(binOp false .a (.g x) (.g y) s1).bind λz s2=>.e (.a (env.set i (some z))) s2
  |_=>.d
  else .d
 |_=>.d)):=by
 refine Sl λr s' hO=>?_;have h':=h s;rcases ZV hO with⟨a,b,s1,z,he,hv,hb,rfl⟩|⟨rfl,a,b,he,hv,hz,rfl⟩
 . rw[hv]at h'
   rcases Wq (X:=X) op false with⟨r,hr0,hq⟩|z
   . obtain⟨k,rfl,rfl,q⟩:=hq a b (λ_=>none) (λ_ _=>True) z s1 s' hb
     refine wA (L2.aC hN hi hx h' hr0 hf) λD σ H Y=>?_;obtain⟨ρ,hr,S,w⟩:=Y;obtain⟨xv,e1,e2⟩:=S.a i _ he;cases e2;refine⟨_,e1,ρ,hr,S,λρ1 y H1 U R Z=>?_⟩;cases Z;obtain⟨k',e3,_,q'⟩:=hq a b H1 (λz H2=>D.a (σ.set i (some z)) H2) _ _ _ hb;cases e3;exact q' (w ρ1 H1 _ U R ((S.mono U).set i (.l _)))
   . exact absurd z hop
 . rw[hv]at h'
   refine wA (L2.aC hN hi hx h' L2.gm hf) λD σ H Y=>?_;obtain⟨ρ,hr,S,w⟩:=Y;obtain⟨xv,e1,e2⟩:=S.a i _ he;refine⟨_,e1,ρ,hr,S,λρ1 y H1 U R Z=>?_⟩;have e3:=e2.mono U;cases e3 with
   |m n1 h1 q1=>
    cases Z with
    |m n2 h2 q2=>
     refine⟨_,_,_,_,rfl,rfl,h1,h2,?_,vZ R (q1.append q2) λρ2 z H2 x2 hr2 rz=>w ρ2 H2 _ (U.trans R x2) hr2 ((S.mono (U.trans R x2)).set i rz)⟩;rw[<-q1.length,<-q2.length,<-yc];exact hz
def cj{a i e:Expr}{o:Out Val}{f2 f3:Sto->Out Val}{p pos:Pos}(hi0:plain i=true)(h1:L2.PE X e (tV X.K X.d env s o))(h2:∀s1,L2.PE X a (tV X.K X.d env s1 (f2 s1)))(h3:∀s1,L2.PE X i (tV X.K X.d env s1 (f3 s1))) :
 L2.PS X (.Assign [.Subscript a i p] e pos) (tSt X.K X.d env s (o.bind λv s1=>(f2 s1).bind λx s2=>(f3 s2).bind λy Z=>match x,y with
  |.j r,.c k=>(match Z[r]? with
   |some (.c vs)=>(match L2.ixN vs.length k with|some j=>.e (.a env) (upd Z r (vs.set j v))|pn=>.d)
   |_=>.d)
  |_,_=>.d)):=by
 cases o with
 |e v s1=>
  have Y:=h2 s1;simp only[zJ];cases hb:f2 s1 with
  |e x s2=>
   rw[hb]at Y;have W:=h3 s2;simp only[zJ];cases hc:f3 s2 with
   |e y Z=>
    rw[hc]at W;simp only[zJ];have R:L2.PS X (.Assign [.Subscript a i p] e pos) (L2.qx _ (L2.TX _ _ L2.X0)):=L2.jB h1 (L2.UI Y W L2.set_list (jV hi0)) eD lO;cases x with
    |j r=>
     cases y with
     |c k=>
      simp only[];cases hs:Z[r]? with
      |none=>exact zL (zC rfl)
      |some cl=>
       cases cl with
       |d _=>exact zL (zC rfl)
       |e _=>exact zL (zC rfl)
       |f _=>exact zL (zC rfl)
       |c vs=>
        simp only[];cases hj:L2.ixN vs.length k with
        |none=>exact zL (zC rfl)
        |some j=>
         refine wA R λD σ H ⟨ρ,hr,er,w⟩=>⟨ρ,hr,er,λρ1 xv H1 x1 U r1=>⟨ρ1,U,er.mono x1,λρ2 xo H2 x2 S r2=>⟨ρ2,S,(er.mono x1).mono x2,λρ3 xi H3 x3 N r3=>?_⟩⟩⟩;cases r3;have r2':=r2.mono x3;cases r2' with
         |C e0 _=>
          obtain⟨b',xs,e1,e2,q⟩:=N.obj r _ hs;rw[e0]at e1;cases e1;have xx:=(x1.trans U x2).trans S x3;refine⟨_,xs,k,j,rfl,rfl,e2,by rw[<-q.length];exact hj,?_⟩
          exact w ρ3 _ σ (xx.trans N (Ext.write N e0 e2 _)) (N.write e0 e2 (RDs.set ((r1.mono x2).mono x3) j q)) ((er.mono xx).mono (Ext.write N e0 e2 _))
     |_=>exact zL (zC rfl)
    |_=>exact zL (zC rfl)
   |g _ _ _=>exact zL (zC rfl)
   |d=>exact zL (zC rfl)
  |g _ _ _=>exact zL (zC rfl)
  |d=>exact zL (zC rfl)
 |g _ _ _=>exact zL (zC rfl)
 |d=>exact zL (zC rfl)
end
section
variable {X:L2.Cx}{env:Env}{s:Sto}
def YG(N:L2.PS X st (L2.RL i j ta))(h:∀σ H Q,tVs X.K X.d env s o σ H Q->ta σ H Q) :
 L2.PS X st (tSt X.K X.d env s (o.bind λvs s1=>if vs.length=[i,j].length then .e (.a (([i,j].zip vs).foldl (λe p=>e.set p.1 (some p.2)) env)) s1 else .d)):=by
 cases o with
 |e vs s1=>
  show L2.PS X st (tSt X.K X.d env s (if vs.length=[i,j].length then .e (.a (([i,j].zip vs).foldl (λe p=>e.set p.1 (some p.2)) env)) s1 else .d))
  match vs with
  |[v,w]=>
   refine wA N λD σ H ⟨ρ,hr,er,wt⟩=>h _ _ _ ⟨ρ,hr,er,λρ1 xs H1 S R Y=>?_⟩;obtain⟨x,y,rfl,W,U⟩:=fk Y;exact⟨x,y,rfl,wt ρ1 H1 _ S R (((er.mono S).set i W).set j U)⟩
  |[]=>exact zL (zC rfl)
  |[_]=>exact zL (zC rfl)
  |_::_::_::r=>exact zL (λ_ _ e=>by simp at e)
 |g _ _ _=>exact zL (zC rfl)
 |d=>exact zL (zC rfl)
def QA(r:RDs K mg ρ H [v,w,z] xs):∃x y t,xs=[x,y,t]/\RD K mg ρ H v x/\RD K mg ρ H w y/\RD K mg ρ H z t:=by
 cases r with
 |a U S=>
  obtain⟨y,t,rfl,R,N⟩:=fk S;exact⟨_,_,_,rfl,U,R,N⟩
def YH(N:L2.PS X st (L2.X3 i j k ta))(h:∀σ H Q,tVs X.K X.d env s o σ H Q->ta σ H Q) :
 L2.PS X st (tSt X.K X.d env s (o.bind λvs s1=>if vs.length=[i,j,k].length then .e (.a (([i,j,k].zip vs).foldl (λe p=>e.set p.1 (some p.2)) env)) s1 else .d)):=by
 cases o with
 |e vs s1=>
  show L2.PS X st (tSt X.K X.d env s (if vs.length=[i,j,k].length then .e (.a (([i,j,k].zip vs).foldl (λe p=>e.set p.1 (some p.2)) env)) s1 else .d))
  match vs with
  |[v,w,z]=>
   refine wA N λD σ H ⟨ρ,hr,er,wt⟩=>h _ _ _ ⟨ρ,hr,er,λρ1 xs H1 S R Z=>?_⟩;obtain⟨x,y,t,rfl,W,U,Y⟩:=QA Z;exact⟨x,y,t,rfl,wt ρ1 H1 _ S R ((((er.mono S).set i W).set j U).set k Y)⟩
  |[]=>exact zL (zC rfl)
  |[_]=>exact zL (zC rfl)
  |[_,_]=>exact zL (zC rfl)
  |_::_::_::_::r=>exact zL (λ_ _ e=>by simp at e)
 |g _ _ _=>exact zL (zC rfl)
 |d=>exact zL (zC rfl)
def uSs(K:KF)(mg:Str->Option Value)(Φ:Calls)(G:Str->Option Val)(b:Sms):L2.TS:=λD σ H=>∃env s,tSt K mg env s (zp Φ G env b s) D σ H
def Tw{f2 U:Sto->Out Fl}(Z:L2.PT X c (tT X.K X.d env s o))(ha:L2.PSs X a ta)(hb:L2.PSs X b tb)(Y:∀s1 D σ H,tSt X.K X.d env s1 (f2 s1) D σ H->ta D σ H)(ib:∀s1 D σ H,tSt X.K X.d env s1 (U s1) D σ H->tb D σ H) :
 L2.PS X (.If c a b pos) (tSt X.K X.d env s (o.bind λt s1=>if t then f2 s1 else U s1)):=by
 cases o with
 |e v s1=>
  refine wA (L2.Sj Z ha hb) λD σ H ⟨ρ,hr,er,wt⟩=>⟨ρ,hr,er,λρ1 x H1 S N W=>?_⟩;have R:=wt.mono S N;cases W;cases v with
  |true=>exact L2.mK (Y s1 D σ H1 ⟨ρ1,N,er.mono S,R⟩)
  |false=>exact L2.mJ (ib s1 D σ H1 ⟨ρ1,N,er.mono S,R⟩)
 |g _ _ _=>exact zL (zC rfl)
 |d=>exact zL (zC rfl)
def dq{body:Env->Sto->Out Fl}{tb:L2.TS}(W:Walk K mg ρ H r J)(TG:sZ K mg t g)(hb:∀env s D σ H,tSt K mg env s (body env s) D σ H->tb D σ H)
 (hr:HR K mg ρ s H) (er:ER K mg ρ H env σ) (w:pB K mg ρ H (vN r t body r.a env s) D):L2.tH J g tb D σ H:=by
 refine mB (n:=r.a.length) (λi Y H2=>∃ρ2 s2 S,HR K mg ρ2 s2 H2/\ER K mg ρ2 H2 S Y/\Ext ρ H ρ2 H2/\vN r t body (r.a.drop i) S s2=vN r t body r.a env s) ⟨ρ,s,env,hr,er,Ext.refl,by rw[Dk]⟩ ?_ ?_
 . rintro Y H2 ⟨ρ2,s2,S,R,er2,x2,N⟩
   rw[Hy,vN]at N;split at N
   . rename_i ho
     rw[<-N]at w;exact⟨W.a ρ2 H2 s2 _ x2.mv R ho rfl,w ρ2 H2 Y x2 R er2⟩
   . rw[<-N]at w;exact w.elim
 . rintro i Y H2 hi ⟨ρ2,s2,S,R,er2,x2,N⟩
   rw[Bo hi,vN]at N;split at N
   . rename_i ho
     obtain⟨hgo,hy⟩:=W.c ρ2 H2 s2 i (r.a[i]) x2.mv R ho (dS hi);refine⟨hgo,λx H3 y=>?_⟩;obtain⟨hH,rx⟩:=hy x H3 y;split at N
     . rw[<-N]at w;exact w.elim
     . rename_i env' he
       have C3:HR K mg ρ2 s2 H3/\Ext ρ2 H2 ρ2 H3:=by
        rcases hH with e|⟨q,o,hq,e⟩
        . subst e;exact⟨R,Ext.refl⟩
        . subst e;exact⟨R.more hq o,Ext.new R hq o⟩
       have x3:=x2.trans R C3.2;refine TG ρ2 s2 H3 _ x S env' Y _ C3.1 rx (er2.mono C3.2) he λσ4 er4=>hb env' s2 _ σ4 H3 ⟨ρ2,C3.1,er4,?_⟩;cases hc:body env' s2 with
       |e fl s5=>
        rw[hc]at N;simp only[zJ]at N;cases fl with
        |a e=>exact λU H5 σ5 x5 X Z=>⟨U,s5,e,X,Z,x3.trans C3.1 x5,N⟩
        |d e=>exact λU H5 σ5 x5 X Z=>⟨U,s5,e,X,Z,x3.trans C3.1 x5,N⟩
        |c e=>
         simp only[]at N;rw[<-N]at w;exact λU H5 σ5 x5 X Z=>w U H5 σ5 (x3.trans C3.1 x5) X Z
        |b v=>
         simp only[]at N;rw[<-N]at w;exact λU H5 y5 x5 X r5=>w U H5 y5 (x3.trans C3.1 x5) X r5
       |g _ _ _=>rw[hc]at N;simp only[eX]at N;rw[<-N]at w;exact w.elim
       |d=>rw[hc]at N;simp only[rR]at N;rw[<-N]at w;exact w.elim
   . rw[<-N]at w;exact w.elim
def VP(hx:X.h=λ_ _=>False)(Y:X.g=true)(hp:plain iter=true)(hi:∀env s,L2.PI X tg iter (tI (K:=X.K) (mg:=X.d) env s (zo Φ G env it s)))(U:L2.PG X tg g)(TG:sZ X.K X.d t g)
 (Z:L2.PSs X body (uSs X.K X.d Φ G b)):L2.PS X (.For tg iter body [] pos) (tSt X.K X.d env s ((zo Φ G env it s).bind λr s1=>vN r t (λe s'=>zp Φ G e b s') r.a env s1)):=by
 have N:PassesOwn (model X.f X.w) X.A X.a X.h:=by rw[hx];exact PassesOwn.never
 refine wA (L2.UK N Y (qo hi) U Z (zt hp)) λD σ H ⟨ρ,hr,er,w⟩=>⟨env,s,ρ,hr,er,?_⟩;cases hv:zo Φ G env it s with
 |e r s1=>
  rw[hv]at w;exact λρ1 H1 J S R W=>dq W TG (λenv s D σ H h=>⟨env,s,h⟩) R (er.mono S) (w.mono S R)
 |g _ _ _=>rw[hv]at w;exact w.elim
 |d=>rw[hv]at w;exact w.elim
def YI:L2.PSs X [] (tSt X.K X.d env s (.e (.a env) s)):=i9 L2.Y0 λD σ H ⟨ρ,hr,er,w⟩=>w ρ H σ Ext.refl hr er
def cm{st:Stmt}{rest:List Stmt}{o:Out Fl}{f:Env->Sto->Out Fl}{U:L2.TS}(Z:L2.PS X st (tSt X.K X.d env s o))(Y:L2.PSs X rest U)(i2:∀env s D σ H,tSt X.K X.d env s (f env s) D σ H->U D σ H) :
 L2.PSs X (st::rest) (tSt X.K X.d env s (o.bind λfl s1=>match fl with|.a e=>f e s1|fl=>.e fl s1)):=by
 refine i9 (L2.aE Z Y) λD σ H ⟨ρ,hr,er,w⟩=>⟨ρ,hr,er,?_⟩;cases o with
 |e fl s1=>
  simp only[zJ]at w;cases fl with
  |a e=>exact λρ1 H1 R W N S=>i2 e s1 D R H1 ⟨ρ1,N,S,w.mono W N⟩
  |c e=>exact w
  |d e=>exact w
  |b v=>exact w
 |g _ _ _=>exact w.elim
 |d=>exact w.elim
end
def cS(c:Const)(k:Str->Bool):Bool:=el c.ctorIdx 5 λh=>Const.str.elim (motive:=λ_=>Bool) c h k
def eS(e:Expr):Bool:=Wa e λc _ _=>cS c λx=>decide (x.length<=1000)
def eF(e:Expr)(k:Expr->Bool):Bool:=Ri e λu c s _=>decide (c=-1)&&s.isNone&&k u
def eFs(e:Expr)(k:Expr->Expr->Bool):Bool:=eJn e λxs _=>lc xs λU xs=>lc xs λN xs=>lc xs λS xs=>lc xs λf2 xs=>l1 xs λR=>(eS U&&(eS S&&eS R))&&eF N λu=>eF f2 λv=>k u v
def Rg(sc:Scope)(N:List Str)(es:Exs)(a:Expr):Bool:=eFs a λu v=>ckL sc N es [u,v]
def Rh(sc:Scope)(N:List Str)(c:Str)(v:Nat)(es:Exs)(l:List Expr->Bool)(st:Stmt):Bool:=if v=1 then (sRs st λq b _=>b.isNone&&o1 q λq=>eCN q λx xs=>decide (x=c)&&wX sc x&&!(x == ("__debug__":Str))&&(l xs&&yY xs&&decide (xs.length=2)&&decide (x="TooGreat"))) else (sRs st λq b _=>b.isNone&&o1 q λq=>eCN q λx xs=>l1 xs λa=>decide (x=c)&&wX sc x&&!(x == ("__debug__":Str))&&(((l [a]&&plain a)||Rg sc N es a)&&decide (x≠"TooGreat")))
mutual
noncomputable def ckS(sc:Scope)(N:List Str):Sm->Stmt->Bool
 |.m e,st=>(S5 st λx _=>ck sc N e x&&u9 x)
 |.f e,st=>(S7 st λq _=>o1 q λx=>ck sc N e x)
 |.v,_=>false
 |.d i e,st=>(aX st λts v _=>l1 ts λt=>eName t λx _=>decide (N[i]?=some x)&&(decide (sc.names.lookup x=some .local)||decide (sc.names.lookup x=some .cell))&&(ck sc N e v&&T9 e))
 |.p is e,st=>(aX st λR v _=>l1 R λt=>dg t λts _ _=>yz sc N is ts&&ck sc N e v&&notTuple v)
 |.q is es,st=>(aX st λR v _=>l1 R λt=>dg t λts _ _=>dg v λvs _ _=>yz sc N is ts&&ckL sc N es vs&&yY vs&&decide (is.length<=8)&&decide is.Nodup&&decide (ts.length=vs.length)&&(RF sc ts vs||X9 sc ts vs))
 |.w i op e,st=>(S4 st λt o v _=>eName t λx _=>decide (N[i]?=some x)&&(decide (sc.names.lookup x=some .local)||decide (sc.names.lookup x=some .cell))&&decide (o=op.op)&&ck sc N e v&&!(decide (op=.g)||decide (op=.h)||decide (op=.i)||decide (op=.f)))
 |.x _ _ _,_=>false
 |.l o i e,st=>(aX st λts v _=>l1 ts λt=>Zj t λa b _=>ck sc N o a&&ck sc N i b&&ck sc N e v&&plain b)
 |.j c a b,st=>(sIf st λt x y _=>ckC sc N c t&&l0 sc N a x&&l0 sc N b y)
 |.g t it b,st=>(S6 st λtg iter body S _=>S.isEmpty&&(ckT sc N t tg&&ckI sc N it iter tg&&l0 sc N b body&&plain iter))
 |.r _ _,_=>false
 |.u,_=>false
 |.y,_=>false
 |.s,_=>false
 |.n e,st=>(match e with
  |.j c v es=>Rh sc N c v es (λxs=>ckL sc N es xs) st
  |.g _=>true
  |_=>false)
noncomputable def l0(sc:Scope)(N:List Str):Sms->List Stmt->Bool
 |.f,ss=>ss.isEmpty
 |.e c cs,ss=>(lc ss λt ts=>ckS sc N c t&&l0 sc N cs ts)
 |.g ..,_=>false
end
structure OkF(T:Tbl)(n:Nat)(sc:Scope)(N:List Str)(X:L2.Cx):Prop where
 a:Ok T n sc N X
 b:X.a.scope=sc
 bk:X.a.blockKind=.function
section
variable {T:Tbl}{n:Nat}
def JS(T:Tbl)(n:Nat)(a:Sm):Prop:=∀(sc:Scope) (N:List Str) (X:L2.Cx) (st:Stmt),OkF T n sc N X->ckS sc N a st=true->∀env s,L2.PS X st (tSt X.K X.d env s (exS (zD T n) T.b env a s))
def JSs(T:Tbl)(n:Nat)(a:Sms):Prop:=∀(sc:Scope) (N:List Str) (X:L2.Cx) (st:List Stmt),OkF T n sc N X->l0 sc N a st=true->∀env s,L2.PSs X st (tSt X.K X.d env s (zp (zD T n) T.b env a s))
def hG(h:∀env s,L2.PSs X st (tSt X.K X.d env s (zp Φ G env b s))):L2.PSs X st (uSs X.K X.d Φ G b):=λpins s σ H D I ⟨env,t,q⟩=>h env t pins s σ H D I q
def YA:JS T n (.m e):=by intro sc N X st o h env s;replace h:=aZ h;obtain⟨R,S,rfl,h⟩:=h;simp only[ub]at h;exact YF h.2 (jE T n e _ _ _ _ o.a h.1 env s)
def VD:JS T n (.f e):=by intro sc N X st o h env s;replace h:=ab h;obtain⟨S,U,rfl,h⟩:=h;replace h:=bP h;obtain⟨R,rfl,h⟩:=h;exact VQ (jE T n e _ _ _ _ o.a h env s)
def qX:∃b,FY (.ListComp elt gens csc cpos) (some (.Name y py)) l env=pure b:=⟨_,rfl⟩
noncomputable def Zz:Ex->Bool
 |.p ..|.w ..|.E ..=>true
 |_=>false
def T7(h:ck sc N a e=true)(S:Zz a=false):u9 e=true:=by
 have no:∀{e:Expr},ck sc N a e=true->e.ctorIdx=8\/e.ctorIdx=9\/e.ctorIdx=10->False:=λ{e} h R=>by
  have key:(∃x g c p,e=.ListComp x g c p)\/(∃x g c p,e=.SetComp x g c p)\/∃k x g c p,e=.DictComp k x g c p:=by
   rcases R with R|R|R
   . exact .inl (GI (motive_1:=λe=>∃x g c p,e=Expr.ListComp x g c p) e R λx g c p=>⟨x,g,c,p,rfl⟩)
   . exact .inr (.inl (Ha (motive_1:=λe=>∃x g c p,e=Expr.SetComp x g c p) e R λx g c p=>⟨x,g,c,p,rfl⟩))
   . exact .inr (.inr (Expr.DictComp.elim (motive_1:=λe=>∃k x g c p,e=Expr.DictComp k x g c p) e R λk x g c p=>⟨k,x,g,c,p,rfl⟩))
  rcases key with⟨x,g,c,p,rfl⟩|⟨x,g,c,p,rfl⟩|⟨k,x,g,c,p,rfl⟩ <;>
  . cases a with
    |p _ _ _ _ _ _ _=>cases S
    |w _ _ _ _ _ _ _ _ _ _=>cases S
    |E _=>cases S
    |j f v es=>
     have h:(if v<100 then _ else false)=true:=h
     split at h
     . cases h
     . cases h
    |_=>cases h
 cases e with
 |ListComp _ _ _ _=>exact(no h (.inl rfl)).elim
 |SetComp _ _ _ _=>exact(no h (.inr (.inl rfl))).elim
 |DictComp _ _ _ _ _=>exact(no h (.inr (.inr rfl))).elim
 |_=>rfl
def W9:JS T n (.d i e):=by
 intro sc N X st o h env s;replace h:=tP h;obtain⟨ts1,v,pos,rfl,h⟩:=h;replace h:=yX h;obtain⟨t1,rfl,h⟩:=h;replace h:=yo h;obtain⟨x,px,rfl,h⟩:=h;simp only[ub,decide_eq_true_eq,Bc]at h;obtain⟨⟨h1,h2⟩,W,hns⟩:=h;obtain⟨l1,l2⟩:=o.a.c.c x h2;have hN:X.N.Nodup:=by rw[o.a.c.a];exact o.a.c.d
 have hi:X.N[i]?=some x:=by rw[o.a.c.a];exact h1
 by_cases hn:u9 v=true
 . exact kG (L2.jD hN hi l1 (jE T n e _ _ _ _ o.a W env s) (lQ hn) l2) λσ H Q q=>q
 . -- a GS
   cases e with
   |p m Y fr elt t it ifs=>
    replace W:=iC W;obtain⟨x',tg,iter,fs,csc,cpos,rfl,W⟩:=W;simp only[ub,decide_eq_true_eq]at W;obtain⟨⟨⟨⟨⟨⟨c1,c2⟩,c3⟩,c4⟩,c5⟩,c6⟩,c7⟩:=W;have S:=pJ o.a.c c1;have oc:=o.a.comp S c2 c1;obtain⟨g,pg,tg'⟩:=ud o.a oc t tg c3;have hpi:L2.PI X tg iter (uI X.K X.d (zD T n) T.b it):=qo λenv s=>jI T n it _ _ _ _ _ o.a c4 env s;have hts:∀C R H0 ex,L2.PTs (X.comp Y csc C R H0 ex) fs (uTs X.K X.d (zD T n) T.b ifs):=λC R H0 ex=>(jCs T n ifs _ _ _ _ (oc C R H0 ex) c5).2.2;have hel:∀C R H0 ex,L2.PE (X.comp Y csc C R H0 ex) x' (uE X.K X.d (zD T n) T.b elt):=λC R H0 ex=>fe (X:=X.comp Y csc C R H0 ex) λenv s=>jE T n elt _ _ _ _ (oc C R H0 ex) c6 env s;have Z:L2.PS X (.Assign [.Name x px] (.ListComp x' [⟨tg,iter,fs,0⟩] csc cpos) pos) (L2.qx (L2.vh fr (uI X.K X.d (zD T n) T.b it) g (uTs X.K X.d (zD T n) T.b ifs) λacc=>L2.sV acc (uE X.K X.d (zD T n) T.b elt)) (L2.vY i)):=by
     obtain⟨b,hb⟩:=qX (elt:=x') (gens:=[⟨tg,iter,fs,0⟩]) (csc:=csc) (cpos:=cpos) (y:=x) (py:=px) (l:=pos.line) (env:=X.a);cases b with
     |true=>exact L2.Yx o.a.d S hpi pg hts hel hN hi l1 hb l2 (zt c7)
     |false=>exact L2.jD hN hi l1 (L2.i4 o.a.d S hpi pg hts hel (zt c7)) hb l2
    refine kG (o:=evE (zD T n) T.b env (.p m Y fr elt t it ifs) s) Z λσ H Q hq=>vx (env:=env) (s:=s) (chk:=false) (m:=m) (body:=vm (zD T n) T.b elt ifs) tg' xU (λacc ρ0 H0 hn=>tU ju hn) ?_ λ_ r s1 p s2 hl=>?_
    . simp only[Au,false_implies,if_true];exact hq
    . have:=sM hl
      simpa using this
   |w m Y fr elt t it ifs t2 it2 ifs2=>
    replace W:=iD W;obtain⟨x',tg,iter,fs,tg2,U,fs2,csc,cpos,rfl,W⟩:=W;simp only[ub,decide_eq_true_eq]at W;obtain⟨⟨⟨⟨⟨⟨⟨⟨⟨⟨c1,c2⟩,c3⟩,c4⟩,c5⟩,c6⟩,c7⟩,c8⟩,c9⟩,c10⟩,c11⟩:=W;have S:=pJ o.a.c c1;have oc:=o.a.comp S c2 c1;have tgt:=ud o.a oc;obtain⟨g,pg,tg'⟩:=tgt t tg c3;obtain⟨g2,pg2,tg2'⟩:=tgt t2 tg2 c6;have hpi:L2.PI X tg iter (uI X.K X.d (zD T n) T.b it):=qo λenv s=>jI T n it _ _ _ _ _ o.a c4 env s;have hts:∀C R H0 ex,L2.PTs (X.comp Y csc C R H0 ex) fs (uTs X.K X.d (zD T n) T.b ifs):=λC R H0 ex=>(jCs T n ifs _ _ _ _ (oc C R H0 ex) c5).2.2;have hpi2:∀C R H0 ex,L2.PI (X.comp Y csc C R H0 ex) tg2 U (uI X.K X.d (zD T n) T.b it2):=λC R H0 ex=>qo (X:=X.comp Y csc C R H0 ex) λenv s=>jI T n it2 _ _ _ _ _ (oc C R H0 ex) c7 env s;have hts2:∀C R H0 ex,L2.PTs (X.comp Y csc C R H0 ex) fs2 (uTs X.K X.d (zD T n) T.b ifs2):=λC R H0 ex=>(jCs T n ifs2 _ _ _ _ (oc C R H0 ex) c8).2.2;have hel:∀C R H0 ex,L2.PE (X.comp Y csc C R H0 ex) x' (uE X.K X.d (zD T n) T.b elt):=λC R H0 ex=>fe (X:=X.comp Y csc C R H0 ex) λenv s=>jE T n elt _ _ _ _ (oc C R H0 ex) c9 env s;have Z:L2.PS X (.Assign [.Name x px] (.ListComp x' [⟨tg,iter,fs,0⟩,⟨tg2,U,fs2,0⟩] csc cpos) pos) (L2.qx (L2.vh fr (uI X.K X.d (zD T n) T.b it) g (uTs X.K X.d (zD T n) T.b ifs) λacc=>L2.uc (uI X.K X.d (zD T n) T.b it2) g2 (uTs X.K X.d (zD T n) T.b ifs2) (L2.sV acc (uE X.K X.d (zD T n) T.b elt))) (L2.vY i)):=by
     obtain⟨b,hb⟩:=qX (elt:=x') (gens:=[⟨tg,iter,fs,0⟩,⟨tg2,U,fs2,0⟩]) (csc:=csc) (cpos:=cpos) (y:=x) (py:=px) (l:=pos.line) (env:=X.a);cases b with
     |true=>exact L2.aD o.a.d S hpi pg hts hpi2 pg2 hts2 hel hN hi l1 hb l2 (zt c10) (λenv=>zt c11)
     |false=>exact L2.jD hN hi l1 (L2.mq o.a.d S hpi pg hts hpi2 pg2 hts2 hel (zt c10) (λenv=>zt c11)) hb l2
    refine kG (o:=evE (zD T n) T.b env (.w m Y fr elt t it ifs t2 it2 ifs2) s) Z λσ H Q hq=>vx (env:=env) (s:=s) (chk:=true) (m:=m) (body:=ue (zD T n) T.b elt ifs t2 it2 ifs2) tg' vM (λacc ρ0 H0 hn=>sL ju hn tg2') ?_ λz=>by cases z
    simp only[true_implies];exact hq
   |E _=>cases hns
   |_=>exact absurd (T7 W rfl) hn
def Z9:JS T n (.p is e):=by intro sc N X st o h env s;replace h:=tP h;obtain⟨R,v,pos,rfl,h⟩:=h;replace h:=yX h;obtain⟨Y,rfl,h⟩:=h;replace h:=uq h;obtain⟨ts,k,p,rfl,h⟩:=h;simp only[ub]at h;obtain⟨⟨W,U⟩,S⟩:=h;obtain⟨a,b,c⟩:=wx o.a.c W;exact iS (t:=.b is) tR (L2.jB (jE T n e _ _ _ _ o.a U env s) (L2.nC o.a.d a b c) uB (jW S)) λσ H Q q=>q
def tf(h:yz sc N is (.Name x p::ts)=true):∃i R,is=i::R/\N[i]?=some x/\yz sc N R ts=true:=by
 cases is with
 |nil=>exact absurd h Ag
 |cons i R=>
  obtain⟨a,b⟩:=yt h;exact⟨i,R,rfl,of_decide_eq_true (yt a).1,b⟩
def nX(h:yz sc N is []=true):is=[]:=by
 cases is with
 |nil=>rfl
 |cons i R=>exact absurd h Ag
def VC:JS T n (.q is es):=by
 intro sc N X st o h env s;replace h:=tP h;obtain⟨ts1,v,pos,rfl,h⟩:=h;replace h:=yX h;obtain⟨t1,rfl,h⟩:=h;replace h:=uq h;obtain⟨ts,k,p,rfl,h⟩:=h;replace h:=uq h;obtain⟨vs,k2,p2,rfl,h⟩:=h;simp only[ub,decide_eq_true_eq,Bc]at h;obtain⟨⟨⟨⟨⟨⟨S,h2⟩,h3⟩,h4⟩,W⟩,h6⟩,R⟩:=h;have U:=(jL T n es _ _ _ _ o.a h2).1 h3 env s;have hN:X.N.Nodup:=by rw[o.a.c.a];exact o.a.c.d
 have kind:∀x,X.a.kindOf x=sc.names.lookup x:=λx=>by show X.a.scope.names.lookup x=_;rw[o.b]
 rcases R with R|R
 . replace R:=xF R
   obtain⟨t,r,rfl,R⟩:=R;replace R:=yo R;obtain⟨x,px,rfl,R⟩:=R;replace R:=xF R;obtain⟨t,r2,rfl,R⟩:=R;replace R:=yo R;obtain⟨y,py,rfl,R⟩:=R;replace S:=tf S;obtain⟨i,js,rfl,i1,S⟩:=S;replace S:=tf S;obtain⟨j,js,rfl,j1,S⟩:=S;by_cases hr:r2.isEmpty=true
   . rw[if_pos hr]at R
     cases Br.mp hr;cases nX S;simp only[ub,decide_eq_true_eq,A8]at R;obtain⟨⟨⟨⟨⟨q1,Z⟩,q3⟩,q4⟩,q5⟩,q6⟩:=R
     . match vs,h6 with
       |[a,b],_=>
        have hij:i≠j:=by rw[Bb]at W;exact λz=>W.1 (by rw[z];exact Az.mpr rfl)
        exact YG (L2.UL o.a.d hN (by rw[o.a.c.a];exact i1) (by rw[o.a.c.a];exact j1) hij (by rw[o.b];exact q1) (by rw[o.b];exact Z) U
         (lP o.bk (by rw[kind];exact q1) (by rw[kind];exact Z) q3 q4 h3 q5 q6) uB) λσ H Q q=>q
   . rw[if_neg hr]at R
     replace R:=yX R;obtain⟨t,rfl,R⟩:=R;replace R:=yo R;obtain⟨z,pz,rfl,R⟩:=R;replace S:=tf S;obtain⟨l,js,rfl,l1,S⟩:=S;cases nX S;simp only[ub,decide_eq_true_eq,A8]at R;obtain⟨⟨⟨⟨⟨⟨⟨⟨⟨q1,Z⟩,q3⟩,q4⟩,q5⟩,q6⟩,q7⟩,q8⟩,q9⟩,q10⟩:=R
     . match vs,h6 with
       |[a,b,c],_=>
        simp only[Bb,Ar,BG,or_false,not_or]at W;exact YH (L2.Yz o.a.d hN (by rw[o.a.c.a];exact i1) (by rw[o.a.c.a];exact j1) (by rw[o.a.c.a];exact l1) W.1.1 W.1.2 W.2.1 (by rw[o.b];exact q1) (by rw[o.b];exact Z) (by rw[o.b];exact q3) U
         (qw o.bk (by rw[kind];exact q1) (by rw[kind];exact Z) (by rw[kind];exact q3) q4 q5 q6 q7 q8 h3 q9 q10) uB) λσ H Q q=>q
 . have hun:(∃x p,FZ x p∈ts/\X.a.kindOf x≠some .local)\/3<ts.length\/vs.all (DY 8)=true:=by
    unfold X9 at R;rw[Bc,Bc]at R;rw[CM,decide_eq_true_eq]at R;rcases R with⟨e,hm,he⟩|R
    . cases e with
      |Name x px=>
       simp only[decide_eq_true_eq]at he;exact .inl ⟨x,px,hm,by rw[kind];exact he⟩
      |_=>cases he
    . exact .inr R
   obtain⟨a,b,c⟩:=wx o.a.c S;have Y:=iS (t:=.b is) (env:=env) (s:=s) tR (L2.jB (pos:=pos) (cb (k:=k2) (pos:=p2) U) (L2.nC (k:=k) (pos:=p) o.a.d a b c) uB (eJ hun)) λσ H Q q=>q;have e:((yp (zD T n) T.b env es s).bind λvs s1=>if vs.length=is.length then (.e:Fl->Sto->Out Fl) (.a ((is.zip vs).foldl (λe p=>e.set p.1 (some p.2)) env)) s1 else .d)=(((yp (zD T n) T.b env es s).bind λvs s1=>if vs.length<=zN then (.e:Val->Sto->Out Val) (.g vs) s1 else .d).bind λv s1=>match z9 (.b is) v env with|some env'=>(.e:Fl->Sto->Out Fl) (.a env') s1|pn=>.d):=by
    cases yp (zD T n) T.b env es s with
    |e ws s1=>
     simp only[zJ];by_cases hl:ws.length=is.length
     . have hz:ws.length<=zN:=by rw[hl];exact Ao h4 (by decide)
       simp only[if_pos hl,if_pos hz,zJ,z9]
     . rw[if_neg hl]
       by_cases hz:ws.length<=zN
       . simp only[if_neg hl,if_pos hz,zJ,z9]
       . simp only[if_neg hz,rR]
    |g _ _ _=>rfl
    |d=>rfl
   show L2.PS X _ (tSt X.K X.d env s ((yp (zD T n) T.b env es s).bind λvs s1=>if vs.length=is.length then .e (.a ((is.zip vs).foldl (λe p=>e.set p.1 (some p.2)) env)) s1 else .d))
   rw[e];exact Y
def VA:JS T n (.w i op e):=by intro sc N X st o h env s;replace h:=aY h;obtain⟨Z,o',v,pos,rfl,h⟩:=h;replace h:=yo h;obtain⟨x,px,rfl,h⟩:=h;simp only[ub,decide_eq_true_eq,Bc,A8,EJ,decide_eq_false_iff_not]at h;obtain⟨⟨⟨⟨Y,W⟩,rfl⟩,U⟩,R⟩:=h;obtain⟨l1,S⟩:=o.a.c.c x W;exact VO (f:=evE (zD T n) T.b env e) (by rintro (z|z|z|z);exact R.1.1.1 z;exact R.1.1.2 z;exact R.1.2 z;exact R.2 z) (by rw[o.a.c.a];exact o.a.c.d) (by rw[o.a.c.a];exact Y) l1 S λs=>jE T n e _ _ _ _ o.a U env s
def cT:JS T n (.l a i e):=by intro sc N X st o h env s;replace h:=tP h;obtain⟨R,v,pos,rfl,h⟩:=h;replace h:=yX h;obtain⟨S,rfl,h⟩:=h;replace h:=rg h;obtain⟨Y,W,U,rfl,h⟩:=h;simp only[ub]at h;exact cj h.2 (jE T n e _ _ _ _ o.a h.1.2 env s) (λs1=>jE T n a _ _ _ _ o.a h.1.1.1 env s1) λs1=>jE T n i _ _ _ _ o.a h.1.1.2 env s1
def To(S:JSs T n a)(R:JSs T n b):JS T n (.j c a b):=by intro sc N X st o h env s;replace h:=Y7 h;obtain⟨Y,W,U,Z,rfl,h⟩:=h;simp only[ub]at h;exact Tw (jC T n c _ _ _ _ o.a h.1.1 env s) (hG λenv s=>S _ _ _ _ o h.1.2 env s) (hG λenv s=>R _ _ _ _ o h.2 env s) (λs1 D σ H q=>⟨env,s1,q⟩) λs1 D σ H q=>⟨env,s1,q⟩
def VB(S:JSs T n b):JS T n (.g t it b):=by intro sc N X st o h env s;replace h:=aa h;obtain⟨R,i1,Z,Y,W,rfl,h⟩:=h;obtain⟨h0,U⟩:=yt h;cases Br.mp h0;clear h;have h:=U;simp only[ub]at h;obtain⟨g,pg,tg⟩:=Si o.a.c o.a.d h.1.1.1;exact VP o.a.xe o.a.d h.2 (λenv s=>jI T n it _ _ _ _ _ o.a h.1.1.2 env s) pg tg (hG λenv s=>S _ _ _ _ o h.1.2 env s)
def cR:JS T n (.n e):=λsc N X st o h env s=>zL (zC rfl)
def YB:JSs T n .f:=by intro sc N X st o h env s;cases Br.mp h;exact YI
def cU(U:JS T n c)(R:JSs T n cs):JSs T n (.e c cs):=by intro sc N X st o h env s;replace h:=xF h;obtain⟨W,S,rfl,h⟩:=h;simp only[ub]at h;exact cm (f:=λe s=>zp (zD T n) T.b e cs s) (U _ _ _ _ o h.1 env s) (hG λenv s=>R _ _ _ _ o h.2 env s) λenv s D σ H q=>⟨env,s,q⟩
section
variable {sc:Scope}{N:List Str}{X:L2.Cx}{i:Nat}{L:Exs}{env:Env}{s s1:Sto}{vs:List Val}{d:Ex}
end
end
section
variable (T:Tbl)(n:Nat)
mutual
theorem jS:∀a:Sm,JS T n a
 |.m _=>YA
 |.f _=>VD
 |.v=>λsc N X e o h=>by cases h
 |.d _ _=>W9
 |.p _ _=>Z9
 |.q _ _=>VC
 |.w _ _ _=>VA
 |.l _ _ _=>cT
 |.x _ _ _=>λsc N X e o h=>by cases h
 |.j _ a b=>To (jSs a) (jSs b)
 |.g _ _ b=>VB (jSs b)
 |.r _ _=>λsc N X e o h=>by cases h
 |.u=>λsc N X e o h=>by cases h
 |.y=>λsc N X e o h=>by cases h
 |.s=>λsc N X e o h=>by cases h
 |.n _=>cR
theorem jSs:∀a:Sms,JSs T n a
 |.f=>YB
 |.e c cs=>cU (jS c) (jSs cs)
 |.g _ _ _ _ _ _ _ _=>λsc N X st o h=>by cases h
end
end
mutual
noncomputable def pZ(n:Nat):Val->Bool
 |.j i|.q i=>decide (i<n)
 |.g vs=>wZ n vs
 |.f vs=>wZ n vs
 |.h|.e _|.c _|.m _|.p|.o _|.r _|.u _|.t _|.s _ _=>true
noncomputable def wZ(n:Nat):List Val->Bool
 |[]=>true
 |v::vs=>pZ n v&&wZ n vs
end
mutual
theorem tJ{n:Nat}{v:Val}(h:v.noRef=true):pZ n v=true:=by
 cases v with
 |j _=>cases h
 |q _=>cases h
 |g vs=>exact wy (vs:=vs) h
 |f vs=>exact wy (vs:=vs) h
 |_=>rfl
theorem wy{n:Nat}{vs:List Val}(h:z6 vs=true):wZ n vs=true:=by
 cases vs with
 |nil=>rfl
 |cons v vs=>
  rw[z6,ub]at h;rw[wZ,tJ h.1,wy h.2];rfl
end
section
variable {K:KF}{mg:Str->Option Value}
mutual
theorem RD.refs{ρ:Own}{H:L2.Hp}{v:Val}{x:L2.V}(q:RD K mg ρ H v x):pZ ρ.o.length v=true:=by
 cases q with
 |m _ _ r=>exact RDs.refs r
 |D _ _ r=>exact RDs.refs r
 |C e _=>exact decide_eq_true (As.mp e).1
 |A e _=>exact decide_eq_true (As.mp e).1
 |_=>rfl
theorem RDs.refs{ρ:Own}{H:L2.Hp}{v:List Val}{x:List L2.V}(q:RDs K mg ρ H v x):wZ ρ.o.length v=true:=by
 cases q with
 |d=>rfl
 |a r N=>rw[wZ,RD.refs r,RDs.refs N];rfl
end
structure Cut(ρ ρ':Own):Prop where
 b:∃new,ρ'.o=ρ.o++new
 d:ρ'.h=ρ.h
theorem Cut.no(c:Cut ρ ρ')(n:ρ'.no a):ρ.no a:=by obtain⟨new,e⟩:=c.b;exact⟨λh=>n.1 (by rw[e];exact Bl _ h),by rw[<-c.d];exact n.2⟩
mutual
theorem RD.uD{ρ ρ':Own}{H:L2.Hp}(c:Cut ρ ρ'){v:Val}{x:L2.V}(q:RD K mg ρ' H v x)(h:pZ ρ.o.length v=true):RD K mg ρ H v x:=by
 have N:∀{i:Nat} {a:Addr},ρ'.o[i]?=some a->decide (i<ρ.o.length)=true->ρ.o[i]?=some a:=λ{i a} e h=>by obtain⟨new,R⟩:=c.b;rw[R,AW (of_decide_eq_true h)]at e;exact e
 cases q with
 |s=>exact .s
 |j b=>exact .j b
 |l i=>exact .l i
 |E t=>exact .E t
 |m n e r=>exact .m (c.no n) e (RDs.uD c r h)
 |D n e r=>exact .D (c.no n) e (RDs.uD c r h)
 |B n e=>exact .B (c.no n) e
 |p g=>exact .p g
 |F g=>
  refine .F ?_;rcases g with⟨n,g⟩|g
  . exact .inl ⟨c.no n,g⟩
  . exact .inr g
 |C e k=>exact .C (N e h) k
 |A e k=>exact .A (N e h) k
 |I e=>exact .I e
 |J n=>exact .J n
 |G a k=>exact .G a k
theorem RDs.uD{ρ ρ':Own}{H:L2.Hp}(c:Cut ρ ρ'){v:List Val}{x:List L2.V}(q:RDs K mg ρ' H v x)(h:wZ ρ.o.length v=true):RDs K mg ρ H v x:=by
 cases q with
 |d=>exact .d
 |a r N=>
  rw[wZ,ub]at h;exact .a (RD.uD c r h.1) (RDs.uD c N h.2)
end
noncomputable def oH:Cel->List Val
 |.c vs=>vs
 |.d kvs=>kvs.map (·.2)
 |.e kvs=>kvs.map (·.2)
 |.f _=>[]
def CR.vals(h:CR K mg ρ H a c):∃xs,RDs K mg ρ H (oH c) xs:=by
 cases c with
 |c vs=>obtain⟨xs,_,r⟩:=h;exact⟨_,r⟩
 |d N=>obtain⟨xs,_,_,r⟩:=h;exact⟨_,r⟩
 |e N=>obtain⟨xs,_,_,r⟩:=h;exact⟨_,r⟩
 |f x=>exact⟨[],.d⟩
def gU(h:c.noRef=true):z6 (oH c)=true:=by cases c<;>first|exact h|rfl
theorem CR.uD(c:Cut ρ ρ')(h:CR K mg ρ' H a o)(R:wZ ρ.o.length (oH o)=true):CR K mg ρ H a o:=by
 cases o with
 |c vs=>obtain⟨xs,e,r⟩:=h;exact⟨xs,e,RDs.uD c r R⟩
 |d N=>obtain⟨xs,e,k,r⟩:=h;exact⟨xs,e,k,RDs.uD c r R⟩
 |e N=>obtain⟨xs,e,k,r⟩:=h;exact⟨xs,e,k,RDs.uD c r R⟩
 |f y=>
  obtain⟨ps,Z,k,r,g⟩:=h;refine⟨ps,Z,k,λpos cv Y=>?_,g⟩;obtain⟨a,o,vs,t,X,W,U,S⟩:=r pos cv Y;exact⟨a,o,vs,t,X,c.no W,U,S⟩
theorem nB{R N:Type}:∀{a b:List (R × N)},a.map (·.1)=b.map (·.1)->a.map (·.2)=b.map (·.2)->a=b
 |[],[],_,_=>rfl
 |[],_::_,h,_=>by cases h
 |_::_,[],h,_=>by cases h
 |x::xs,y::ys,h1,h2=>by
  rw[AB,AB]at h1 h2;injection h1 with a1 a2
  injection h2 with b1 b2
  rw[nB a2 b2,Fc a1 b1]
theorem mY:∀{s s'} {i} {o'},x9 s s'=true->i<s.length->s'[i]?=some o'->o'.noRef=true\/s[i]?=some o'
 |[],_,_,_,_,h,_=>by cases h
 |o::r,[],_,_,h,_,_=>by cases h
 |o::r,o'::r',0,q,h,_,e=>by
  rw[x9,ub,Bc]at h;simp only[List.getElem?_cons_zero,Option.some.injEq]at e;subst e;rcases h.1 with z|z
  . exact .inl z
  . right
    cases o' with
    |c a=>cases o with
     |c b=>simp only[Cel.beq]at z;rw[uj z];rfl
     |_=>cases z
    |d a=>cases o with
     |d b=>simp only[Cel.beq,ub,decide_eq_true_eq]at z;rw[nB z.1 (uj z.2)];rfl
     |_=>cases z
    |e a=>cases o with
     |e b=>simp only[Cel.beq,ub,decide_eq_true_eq]at z;rw[nB z.1 (uj z.2)];rfl
     |_=>cases z
    |f a=>cases o with
     |f b=>simp only[Cel.beq,decide_eq_true_eq]at z;rw[z];rfl
     |_=>cases z
 |o::r,o'::r',i+1,q,h,hi,e=>by
  rw[x9,ub]at h;have:=mY (i:=i) h.2 (by simpa using hi) (by simpa using e)
  simpa using this
noncomputable def UJ:Val->Bool
 |.j _|.q _|.g _=>false
 |.h|.e _|.c _|.m _|.p|.o _|.r _|.u _|.t _|.f _|.s _ _=>true
def Zp{n:Nat}{s:Sto}{k i:Nat}:vB n s k (.j i)=if i<n then some (Val.j i) else match s[i]? with
 |some (.c vs)=>if z6 vs then some (.f vs) else pn
 |_=>pn:=by cases k<;>rfl
def dt:vB n s k (.q i)=if i<n then some (Val.q i) else pn:=by cases k<;>rfl
def dv(h:UJ v=true):vB n s k v=if v.noRef then some v else pn:=by
 cases v with
 |j _=>cases h
 |q _=>cases h
 |g _=>cases h
 |_=>cases k<;>rfl
def Zo:uw n s k []=some []:=by cases k<;>rfl
mutual
theorem rn{ρ ρ':Own}{H:L2.Hp}{s:Sto}(c:Cut ρ ρ')(R:HR K mg ρ' s H){k:Nat}{v N:Val}{x:L2.V}(r:RD K mg ρ' H v x)(h:vB ρ.o.length s k v=some N):RD K mg ρ H N x:=by
 have Y:∀{w:Val},RD K mg ρ' H w x->(if w.noRef then some w else pn)=some N->RD K mg ρ H N x:=λ{w} r h=>by
  split at h
  . rename_i hn;cases h;exact RD.uD c r (tJ hn)
  . cases h
 cases v with
 |j i=>
  rw[Zp]at h;cases r with
  |C e U=>
   by_cases hi:i<ρ.o.length
   . rw[if_pos hi]at h
     cases h;exact RD.uD c (.C e U) (by rw[pZ];exact decide_eq_true hi)
   . rw[if_neg hi]at h
     split at h
     . rename_i vs hs
       split at h
       . rename_i hn
         cases h;obtain⟨a,xs,Z,e2,q⟩:=R.obj i vs hs;rw[e]at Z;cases Z;obtain⟨new,e'⟩:=c.b;have hm:=AF e;refine .D ⟨λS=>?_,λhh=>?_⟩ e2 (RDs.uD c q (wy hn))
         . obtain⟨j,W,ej⟩:=Bx S
           have X:ρ'.o[j]?=ρ'.o[i]?:=by rw[e,e',AW W,dS W,ej]
           have:=bI R.l e (X.trans e);exact hi (this▸W)
         . exact(R.d _ (by rw[c.d];exact hh)).2 hm
       . cases h
     . cases h
 |q i=>
  rw[dt]at h;split at h
  . rename_i hi
    cases h;exact RD.uD c r (by rw[pZ];exact decide_eq_true hi)
  . cases h
 |g vs=>
  cases k with
  |zero=>exact Y r h
  |succ k=>
   rw[vB,AJ]at h;obtain⟨ws,h1,rfl⟩:=h;cases r with
   |m n e q=>exact .m (c.no n) e (rm c R q h1)
 |_=>exact Y r ((dv rfl).symm.trans h)
theorem rm{ρ ρ':Own}{H:L2.Hp}{s:Sto}(c:Cut ρ ρ')(S:HR K mg ρ' s H){k:Nat}{v N:List Val}{x:List L2.V}(r:RDs K mg ρ' H v x)(h:uw ρ.o.length s k v=some N):RDs K mg ρ H N x:=by
 cases r with
 |d=>rw[Zo]at h;cases h;exact .d
 |@a v _ vs _ R U=>
  cases k with
  |zero=>cases h
  |succ k=>
   rw[uw]at h;split at h
   . rename_i a b ha hb
     cases h;refine .a ?_ (rm c S U hb);by_cases hn:v.noRef=true
     . rw[if_pos hn]at ha;cases ha;exact RD.uD c R (tJ hn)
     . rw[if_neg hn]at ha;exact rn c S R ha
   . cases h
end
def mM(h0:HR K mg ρ s H)(w:yV K mg (RD K mg) ρ H (leave F s v s1) Q)(X:Ext ρ H ρ' H')(N:HR K mg ρ' s1 H')(r:RD K mg ρ' H' v x):Q x H':=by
 unfold leave at w;by_cases hk:F.c=true
 . rw[if_pos hk]at w;exact w ρ' x H' X N r
 . rw[if_neg hk]at w
   by_cases ho:x9 s s1=true
   . rw[if_pos ho]at w
     have c:Cut ρ ρ':=⟨by obtain⟨new,e,_⟩:=X.d;exact⟨new,e⟩,X.f⟩
     cases hf:freeze s.length s1 v with
     |none=>rw[hf]at w;exact w.elim
     |some v'=>
      rw[hf]at w;have S:s.length<=s1.length:=by obtain⟨new,e,_⟩:=X.d;rw[<-h0.f,<-N.f,e,Aq];omega
      refine w ρ x H' ⟨⟨[],by simp,λa R=>by cases R⟩,rfl,X.c,X.g⟩ ⟨?_,h0.l,λi vs e=>?_,λa R=>?_⟩ ?_
      . rw[Bz,h0.f];omega
      . have hi:i<s.length:=by have:=(As.mp e).1;rw[Bz]at this;omega
        rw[B7 hi]at e;obtain⟨a,U,q⟩:=N.g i vs e;have Z:ρ.o[i]?=some a:=by
         obtain⟨new,e',_⟩:=X.d;rw[e',AW (by rw[h0.f];exact hi)]at U
         exact U
        refine⟨a,Z,q.uD c ?_⟩;rcases mY ho hi e with z|z
        . exact wy (gU z)
        . obtain⟨b,_,Y⟩:=h0.g i vs z
          obtain⟨xs,W⟩:=Y.vals;exact RDs.refs W
      . obtain⟨z,n⟩:=N.d a (by rw[X.f];exact R)
        exact⟨z,(h0.d a R).2⟩
      . unfold freeze at hf
        by_cases hn:v.noRef=true
        . rw[if_pos hn]at hf;cases hf;exact RD.uD c r (tJ hn)
        . rw[if_neg hn,<-h0.f]at hf
          exact rn c N r hf
   . rw[if_neg ho]at w;exact w.elim
def av(r:RDs K mg ρ H args vs):ER K mg ρ H (zT N args) (L2.start N vs):=by
 refine⟨by unfold zT L2.start;rw[Aq,Aq,Aa,Aa,En,En,r.length],λi v e=>?_⟩
 unfold zT at e;unfold L2.start;by_cases hi:i<args.length
 . rw[AW (by simpa using hi),Am]at e
   rw[AW (by rw[Aa,<-r.length];exact hi),Am]
   cases ha:args[i]? with
   |none=>rw[ha]at e;cases e
   |some a=>
    rw[ha]at e;have:a=v:=AK (AK e);subst this;obtain⟨x,S,R⟩:=r.get ha;exact⟨x,by rw[S];rfl,R⟩
 . rw[AX (by simpa using hi),HE]at e
   split at e<;>cases e
end
noncomputable def argNames(a:Arguments):Option (List Str):=
 if a.posonlyargs.isEmpty&&a.vararg.isNone&&a.kwonlyargs.isEmpty&&a.kw_defaults.isEmpty&&a.kwarg.isNone&&a.defaults.isEmpty then some (a.args.map (·.arg)) else none
def dD(st:Stmt)(F:Fn):Bool:=
 match st with
 |.FunctionDef _ args body _ _ _ sc _ _ _=>decide (argNames args=some F.a)&&decide (sc.kind=.function)&&!sc.isCoroutine&&!sc.isGenerator&&decide F.N.Nodup&&decide (F.N.take F.a.length=F.a) &&
  F.a.all (λx=>decide (sc.names.lookup x=some .local)||decide (sc.names.lookup x=some .cell))&&sc.names.all (λy=>decide (y.2≠.free))&&l0 sc F.N F.b body
 |_=>false
def kN:∀{ps:List Str} {us:List Value},ps.Nodup->us.length=ps.length->ps.filterMap (λn=>((ps.zip us).lookup n).map (n,·))=ps.zip us:=by
 have key:∀(ps R:List Str) (us N:List Value),(R++ps).Nodup->us.length=ps.length->N.length=R.length->ps.filterMap (λn=>(((R++ps).zip (N++us)).lookup n).map (n,·))=ps.zip us:=by
  intro ps;induction ps with
  |nil=>intro R us N _ _ _;rfl
  |cons p ps Z=>
   intro R us N nd Y X;cases us with
   |nil=>cases Y
   |cons u us=>
    have hl:((R++p::ps).zip (N++u::us)).lookup p=some u:=by
     rw[List.zip_append X.symm];have:∀(R:List Str) (N:List Value),p ∉ R->((R.zip N)++(p::ps).zip (u::us)).lookup p=some u:=by
      intro R;induction R with
      |nil=>intro N _;simp
      |cons q R S=>
       intro N W;cases N with
       |nil=>simp
       |cons w N=>
        have U:(p == q)=false:=by
         have:p≠q:=λz=>W (by rw[z];exact AE)
         simpa using this
        rw[List.zip_cons_cons,CL,AD,U];exact S N λz=>W (Ay _ z)
     refine this R N λz=>?_;rw[DG]at nd;exact nd.2.2 p z p AE rfl
    rw[Ba,hl];have:=Z (R++[p]) us (N++[u]) (by simpa using nd) (by simpa using Y) (by simp[X])
    rw[Ak,Ak]at this;exact congrArg ((p,u)::·) this
 intro ps us nd h;simpa using key ps [] us [] (by simpa using nd) h rfl
theorem lookup_some:∀{ps:List Str} {us:List Value},us.length=ps.length->∀n∈ps,((ps.zip us).lookup n).isNone=false
 |[],_,_,n,h=>by cases h
 |p::ps,[],h,_,_=>by cases h
 |p::ps,u::us,h,n,hn=>by
  rw[List.zip_cons_cons,AD];cases hb:(n == p) with
  |true=>rfl
  |false=>
   have:n≠p:=by simpa using hb
   rcases Ar.mp hn with z|z
   . exact absurd z this
   . exact lookup_some (by simpa using h) n z
def nZ(h:argNames a=some ps)(nd:ps.Nodup)us(R:us.length=ps.length) :
 bindArgs (CF x qual a body sc .none kV doc pm an cdv ct) ⟨us,[]⟩=pure (ps.zip us):=by
 unfold argNames at h;split at h
 . rename_i hc
   simp only[ub,Br,Hg]at hc;obtain⟨⟨⟨⟨⟨h1,Z⟩,Y⟩,X⟩,W⟩,U⟩:=hc;cases h;obtain⟨po,N,va,ko,kd,kw,df⟩:=a;simp only at h1 Z Y X W U R nd ⊢;subst h1 Z Y X W U;have hm:((N.map (·.arg)).take ((N.map (·.arg)).length-0)).filter (λn=>(((N.map (·.arg)).zip us).lookup n).isNone)=[]:=by rw[List.filter_eq_nil_iff];intro n hn;rw[lookup_some R n (Bt hn)];decide
   unfold bindArgs;have hd:seqItems? Ad=pure none:=rfl;have hg:¬(us.length > (N.map (·.arg)).length/\True):=by rintro ⟨z,_⟩;omega
   simp only[CF,Eo,Dw,AR,Ft,F0,hd,Hh,Gr,BW,List.drop_nil,Hk,Option.isNone_none,GY];rw[if_neg (by rw[Aa]at R;simp;omega)]
   have S:(List.filter (λn=>(List.lookup n ((GC (λx=>x.arg) N).zip us)).isNone) (List.take (GC (λx=>x.arg) N).length (GC (λx=>x.arg) N)))=[]:=hm;rw[S,if_neg (by decide),List.zip_nil_right,Ft,F0,if_neg (by decide),kN nd R]
 . cases h
def nU(K:KF)(x:Str)(st:Stmt):Prop:=∃f fd,BS K Bq x=some (some (.ref f))/\L2.Fun K x x st f fd
def WX(a:BS K Bq x=some (some (.ref f)))
 (l:K.lookup f=some ⟨oc,od,.func (CF x x (L2.wL st) (L2.xM st) (L2.z0 st) .none kV doc pm an cdv ct),osl⟩) (c:Di K cdv x=true) (k:Dj K (.ref f)=true):nU K x st:=
 ⟨f,_,a,L2.Wk l c k⟩
section
variable {P:Program}{w:World}{K:KF}{mg:Str->Option Value}{base:Heap}{T:Tbl}
structure Top(T:Tbl)(K:KF)(mg:Str->Option Value):Prop where
 a:∀f v F,T.c f v=some F->∃st fa fd,mg f=some (.ref fa)/\L2.Fun K f f st fa fd/\dD st F=true/\((∃b,T.e b=true)->("!":Str)∈F.N->f∈T.d)
 d:∀x v,T.b x=some v->∃u xv,mg x=some u/\L2.RelV xv u/\∀ρ H,RD K mg ρ H v xv
 c:∀x∈wc,mg x=none
 no:∀f v,100<=v->T.c f v=none
def uP(h:dD st F=true):argNames (L2.wL st)=some F.a/\L2.sm F.N F.a (L2.z0 st)/\l0 (L2.z0 st) F.N F.b (L2.xM st)=true:=by
 unfold dD at h;split at h
 . simp only[ub,decide_eq_true_eq,A8,A5,Bc]at h
   refine byG λpi R=>?_;obtain⟨⟨⟨⟨⟨⟨⟨⟨h1,h2⟩,h3⟩,Z⟩,Y⟩,X⟩,W⟩,U⟩,S⟩:=h;refine R ?_;exact⟨h1,⟨h2,h3,Z,Y,X,W,U⟩,S⟩
 . cases h
def Vl(top:Top T K mg)(IH:∀j,j<=n->Lv T P w K mg base j){F:Fn}(p2:L2.sm F.N F.a (L2.z0 st))
 (hm:mg f=some (.ref fa)) (hk:K.lookup fa=some ⟨oc,od,.func (CF f f (L2.wL st) (L2.xM st) (L2.z0 st) .none kV doc pm an cdv ct),osl⟩) (hcd:Di K cdv f=true) (Y:(∃b,T.e b=true)->("!":Str)∈F.N->f∈T.d)
       (Z:L2.xB n (A.deeper (PyProof.Rows.envOfC f (L2.z0 st) s.heap.objs.size fa cdv))):OkF T n (L2.z0 st) F.N (L2.gX CX P w K mg base F.N f (L2.z0 st) fa cdv A outer s H E).nox:=by
 refine⟨⟨rfl,Z,⟨rfl,p2.d,λx hx=>hx,λx hx=>⟨hx,.inl rfl⟩,λx hx=>hx,λx hx=>hx⟩,λg R G hg=>?_,top.d,top.c,rfl,top.no⟩,rfl,?_⟩
 . obtain⟨ga,gd,X,W,U,S⟩:=(IH n (Ac _)).ex g R G hg
   exact⟨ga,gd,X,W,U,S⟩
 . show (if (L2.z0 st).kind.isAnnotationScope then ScopeKind.function else (L2.z0 st).kind)=.function
   rw[p2.b];rfl
def Xg(top:Top T K mg)(IH:∀j,j<=n->Lv T P w K mg base j)(h:T.c f v=some F)(hm:mg f=some (.ref fa))(e2:L2.Fun K f f st fa fd)(e3:dD st F=true)
 (Z:(∃b,T.e b=true)->("!":Str)∈F.N->f∈T.d):L2.rN P w K mg base L2.CX0 (n+1) fa fd F.a (spN T K mg (n+1) f v):=by
 obtain⟨p1,p2,p3⟩:=uP e3;have R:∀(vs:List Val) (s:Sto),zD T (n+1) f v vs s=run T (zD T n) F vs s:=λvs s=>by simp only[zD,h]
 obtain⟨oc,od,kV,doc,pm,an,cdv,ct,osl,rfl,lk,W⟩:=e2.a;refine L2.TR lk W p2 (λvs H Q E q=>?_) λA outer s H vs Q E hr q=>?_
 . obtain⟨ρ,t,as,_,r,z⟩:=q
   rw[R]at z;unfold run at z;split at z
   . rename_i U;rw[<-r.length];exact U
   . exact z.elim
 . obtain⟨ρ,t,as,h0,r,z⟩:=q
   rw[R]at z;unfold run at z;have U:as.length=F.a.length:=by
    by_cases U:as.length=F.a.length
    . exact U
    . rw[if_neg U]at z;exact z.elim
   rw[if_pos U]at z;have Y:=Vl (CX:=L2.CX0) (P:=P) (w:=w) (base:=base) (outer:=outer) (s:=s) (H:=H) (E:=E) top IH p2 hm lk W Z hr;refine⟨_,(jSs T n F.b (L2.z0 st) F.N _ (L2.xM st) Y p3 (zT F.N as) t).nox,ρ,h0,av r,?_⟩;show pB K mg ρ H (zp (zD T n) T.b (zT F.N as) F.b t) _;cases hx:zp (zD T n) T.b (zT F.N as) F.b t with
   |e fl s1=>
    rw[hx]at z;cases fl with
    |a e=>exact λρ1 H1 σ1 X S er1=>mM h0 z X S .s
    |b v'=>exact λρ1 H1 x X S r1=>mM h0 z X S r1
    |c e=>exact z.elim
    |d e=>exact z.elim
   |g _ _ _=>rw[hx]at z;exact z.elim
   |d=>rw[hx]at z;exact z.elim
def Ve(top:Top T K mg)(hB:K.In base):∀n j,j<=n->Lv T P w K mg base j:=by
 have step:∀n,(∀j,j<n->Lv T P w K mg base j)->Lv T P w K mg base n:=λn IH=>⟨λf v F Y=>by
  obtain⟨st,fa,fd,R,N,U,q4⟩:=top.a f v F Y;obtain⟨r1,S,r3⟩:=uP U;have nd:F.a.Nodup:=by rw[<-S.a];exact S.d.sublist (C8 _ _)
  have Z:L2.Binds K fd F.a []:=N.binds λkV doc pm an cdv ct us hl=>nZ r1 nd us hl;cases n with
  |zero=>
   refine⟨fa,fd,R,N.kp,Z,⟨λvs H Q E q=>?_,λA outer s H args us vs Q E _ _ _ _ q=>?_⟩⟩
   . obtain⟨ρ,t,as,_,_,z⟩:=q;exact z.elim
   . obtain⟨ρ,t,as,_,_,z⟩:=q;exact z.elim
  |succ n=>exact⟨fa,fd,R,N.kp,Z,Xg (P:=P) (w:=w) (base:=base) top (λj X=>IH j ⋯) Y R N U q4⟩⟩
 intro n;induction n with
 |zero=>intro j X;exact step j λi hi=>absurd hi ⋯
 |succ n W=>
  intro j X;by_cases h:j<=n
  . exact W j h
  . have:j=n+1:=by omega
    subst this;exact step _ λi hi=>W i ⋯
end
end M
end
section
namespace M
open PySem Hd
def gL(K:KF)(x:Str):Val->Prop
 |.c i=>∃t,BS K Bq x=some (some (.int i t))
 |.m y=>∃t,BS K Bq x=some (some (.str y t))
 |.o ns=>∃a,BS K Bq x=some (some (.ref a))/\KT K a (ns.map L2.V.d)
 |_=>False
noncomputable def glO(fnL:List ((Str × Nat) × Fn))(glL:List (Str × Val))(x:Str):Option Val:=match glL.lookup x with
 |some v=>some v
 |pn=>match fnL.lookup (x,0) with
  |some _=>some (.u x)
  |pn=>pn
def tbl(fnL:List ((Str × Nat) × Fn))(glL:List (Str × Val)):Tbl:={c:=λf v=>fnL.lookup (f,v),b:=glO fnL glL}
def QM(fnL:List ((Str × Nat) × Fn))(glL:List (Str × Val))(tb:List Str)(xc:List (Str × Str))(md:Bool->Bool):Tbl:=⟨λf v=>fnL.lookup (f,v),glO fnL glL,tb,xc,md⟩
def p6(fnL:List ((Str × Nat) × Fn))(D:List (Str × Stmt)):Bool:=fnL.all λp=>decide (p.1.2<100)&&match D.lookup p.1.1 with|some st=>dD st p.2|none=>false
theorem vf{N R:Type} [BEq N] [LawfulBEq N]:∀{l:List (N × R)} {a:N} {b:R},l.lookup a=some b->(a,b)∈l
 |[],_,_,h=>by cases h
 |(c,d)::l,a,b,h=>by
  rw[AD]at h;cases hb:(a == c) with
  |true=>rw[hb]at h;cases h;rw[CA hb];exact AE
  |false=>rw[hb]at h;exact Ay _ (vf h)
def Ug(X:K.In h)(G:h.Ns Bq mg)(hd:∀p∈D,nU K p.1 p.2)(hg:∀p∈glL,gL K p.1 p.2)(hb:∀x∈wc,BS K Bq x=some none)
 (S:p6 fnL D=true)    (Y:(∃b,md b=true)->fnL.all (λp=>!decide (("!":Str)∈p.2.N)||decide (p.1.1∈tb))=true):Top (QM fnL glL tb xc md) K mg:=by
 refine⟨λf v F e=>?_,λx v e=>?_,λx hx=>PySem.W.mg_none_of X G (hb x hx),λf v hv=>?_⟩
 . have U:((f,v),F)∈fnL:=vf e
   unfold p6 at S;rw[A5]at S;have R:=S _ U;rw[ub]at R;have R:=R.2;split at R
   . rename_i st hs
     obtain⟨fa,fd,a,F'⟩:=hd _ (vf hs);refine⟨st,fa,fd,EV X G a,F',R,λZ hN=>?_⟩;have:=A5.mp (Y Z) _ U;simp only[Bc,A8,decide_eq_false_iff_not,decide_eq_true_eq]at this;exact this.resolve_left λz=>z hN
   . cases R
 case refine_3=>
  show fnL.lookup (f,v)=none;cases e:fnL.lookup (f,v) with
  |none=>rfl
  |some F=>
   have U:((f,v),F)∈fnL:=vf e;unfold p6 at S;rw[A5]at S;have R:=S _ U;rw[ub,decide_eq_true_eq]at R;have h2:v<100:=R.1;omega
 . have e:glO fnL glL x=some v:=e
   unfold glO at e;split at e
   case h_2=>
    split at e
    . rename_i F hF
      cases e;unfold p6 at S;rw[A5]at S;have R:=S _ (vf hF);rw[ub]at R;have R:=R.2;split at R
      . rename_i st hs
        obtain⟨fa,fd,a,F'⟩:=hd _ (vf hs);exact⟨_,.c fa,EV X G a,rfl,λρ H=>.I (EV X G a)⟩
      . cases R
    . cases e
   rename_i v' e';cases e;have U:(x,v)∈glL:=vf e';have R:=hg _ U;cases v with
   |c i=>
    obtain⟨t,a⟩:=R;exact⟨_,.d i,EV X G a,⟨t,rfl⟩,λρ H=>.l i⟩
   |m y=>
    obtain⟨t,a⟩:=R;exact⟨_,.e y,EV X G a,⟨t,rfl⟩,λρ H=>.E y⟩
   |o ns=>
    obtain⟨a,h2,h3⟩:=R;exact⟨_,.c a,EV X G h2,rfl,λρ H=>.p h3⟩
   |_=>exact R.elim
def int_mk(a:BS K Bq x=some (some (.int i t))):gL K x (.c i):=⟨t,a⟩
def str_mk(a:BS K Bq x=some (some (.str y t))):gL K x (.m y):=⟨t,a⟩
theorem r8:∀{us} {ns},mF us=some ns->L2.Vals (ns.map L2.V.d) us
 |[],_,h=>by cases h;exact .nil
 |u::us,ns,h=>by
  cases u with
  |int i t=>
   simp only[mF,AJ]at h;obtain⟨ms,N,rfl⟩:=h;exact .cons ⟨t,rfl⟩ (r8 N)
  |_=>cases h
def Za(h:BS K Bq x=some (some (.ref a)))
 (l:K.lookup a=some ⟨.type "tuple",od,.seq us.toArray n,sl⟩) (N:us.length<=1000) (hi:mF us=some ns):gL K x (.o ns):=
 ⟨a,h,_,us.toArray,n,l,rfl,rfl,by rw[Ae,A1];omega,by simpa using r8 hi⟩
structure RX(T:Tbl)(K:KF)(mg:Str->Option Value)(h:Heap)(tabs:List Addr):Prop where
 nd:tabs.Nodup
 b:tabs.length=T.d.length
 a:∀(i:Nat) (g:Str),T.d[i]?=some g->∃P,tabs[i]?=some P/\h.get? P=some (GA #[])/\K.lookup P=none/\isCodeTable h P /\
  ∃(fa c:Addr) (o:Obj) (fd:Ec),mg g=some (.ref fa)/\K.lookup fa=some o/\o.data=.func fd/\fd.code=.ref c/\∀h':Heap,K.In h'->PySem.W.CodeHd h' c P
def RC(K:KF)(tabs:List Addr):L2.Sp:=λvs H Q _=>∃(a:Addr) (ns:List Int),vs=[.c a]/\(∀b∈tabs,H b=some (.d #[]))/\L2.SqL K H a (ns.map L2.V.d)/\ns.length<=63/\∀H',Q (.f true) H'
def walk{l:PySem.W.OpenLaw}(hn:l.most=some 63)(hdf:d.params.defaults=[])(hr:L2.xB n callerA)
 (hY:∀w h,YP w h->K.In h) (hF:T.c d.name 0=some F) (hx:F.a=[x])
 (TOP:∀w N mg mb h,PySem.W.Ground q loose [] XP w N mg mb h->K.In h->Top T K mg/\∃tabs,RX T K mg h tabs)
 (HL:∀ns:List Int,ns.length<=63->∃s',zD T n d.name 0 [.r ns] (T.d.map .f)=.e (.e true) s') :
 PySem.W.WalkO q loose XP YP l.row.toRowW d [] (λf vs=>PySem.call f vs):=by
 refine Att.nY hn hdf λw N R mg mb fa o pm cd doc a vs ns G Y ho hd hcd hmg hobj X S hg=>?_;have KX:=hY w _ Y;obtain⟨top,tabs,TE⟩:=TOP w N mg mb _ G KX;obtain⟨st,fa',fd',e1,e2,e3,e4⟩:=top.a _ _ _ hF;obtain⟨p1,p2,p3⟩:=uP e3;have nd:F.a.Nodup:=by rw[<-p2.a];exact p2.d.sublist (C8 _ _)
 rw[e1]at hmg;cases hmg;cases n with
 |zero=>
  obtain⟨s',hs⟩:=HL [] (by decide)
  cases hs
 |succ n=>
  have htab:∀b∈tabs,R.heap.get? b=some (GA #[])/\K.lookup b=none/\isCodeTable R.heap b:=λb hb=>by
   obtain⟨i,hi,e⟩:=Bx hb;obtain⟨P,Z,q2,q3,q4,_⟩:=TE.a i _ (dS (by rw[<-TE.b];exact hi))
   rw[dS hi,e]at Z;cases Z;exact⟨q2,q3,q4⟩
  refine L2.fA (CX:=L2.CX0) (k:=n+1) (fd:=fd') (x:=x) (sp:=RC K tabs) (tabs:=tabs) KX G.T.g G.T.b G.T.builtins G.T.nolimit hg hobj X (Ao S (by decide)) hr htab (λbase kb nb=>?_) (λs u=>?_) (λH hT U=>⟨a,ns,rfl,hT,U,S,λ_=>rfl⟩) λ_ _ _ z=>z
  . have f4:=Xg (P:=l.prog) (w:=w) (base:=base) top (λj hj=>Ve top kb n j hj) hF e1 e2 e3 e4
    rw[hx]at f4;refine f4.imp λvs H Q E zn=>?_;obtain⟨a,ns,e,hT,U,hl,hq⟩:=zn;subst e;obtain⟨s',hs⟩:=HL ns hl;refine⟨⟨tabs,[]⟩,T.d.map .f,[.r ns],⟨by rw[Aa];exact TE.b,TE.nd,λi c z=>?_,λa z=>by cases z⟩,.a (.F ?_) .d,?_⟩
    . rw[Am]at z
      cases hg:T.d[i]? with
      |none=>rw[hg]at z;cases z
      |some g=>
       rw[hg]at z;cases z;obtain⟨P,Z,q2,q3,q4,fn⟩:=TE.a i g hg;exact⟨P,Z,#[],hT P (AF Z),Bw,λpos cv hc=>(nomatch hc),fn⟩
    . rcases U with U|U
      . refine .inl ⟨⟨λhm=>?_,by simp⟩,U⟩
        have:=hT a hm;rcases U with z|⟨o,z⟩<;>(rw[this]at z;cases z)
      . exact .inr U
    . rw[hs]
      intro ρ' x' H' _ _ r;cases r;exact hq H'
  . obtain⟨oc,od,kV,doc,pm,an,cdv,ct,osl,e,_⟩:=e2.a
    subst e;refine .of_eq ?_;have:=nZ (x:=d.name) (qual:=d.name) (body:=L2.xM st) (sc:=L2.z0 st) (kV:=kV) (doc:=doc) (pm:=pm) (cdv:=cdv) (ct:=ct) (an:=an) p1 nd [u] (by rw[hx];rfl)
    rw[hx]at this;exact this
end M
end
section
namespace F
open PySem M
noncomputable def yf:Fn:=⟨["_law_script","_law_k"],["_law_script","_law_k"],false,(.e (.j (.a (.q .l (.e 1) (.l .a false (.a (.e 0) .b)))) (.e (.f (.s (.e 0) (.e 1))) .f) .f) (.e (.f (.g (.c 0))) .f))⟩
noncomputable def xN:Fn:=⟨["_law_pen_here","_law_many","_law_left","_law_found","_law_mixed"],["_law_pen_here","_law_many"],false,(.e (.j (.a (.q .h (.s (.e 0) (.g (.c 0))) (.g (.c 0)))) (.e (.p [2,3] (.l .c false (.a (.s (.e 0) (.g (.c 0))) (.a (.e 1) .b)))) (.e (.l (.e 0) (.g (.c 0)) (.e 2)) (.e (.f (.e 3)) .f))) .f) (.e (.l (.e 0) (.g (.c 1)) (.h false .d (.h false .a (.h false .b (.s (.e 0) (.g (.c 1))) (.g (.c 48271))) (.g (.c 30269))) (.g (.c 2147483629)))) (.e (.d 4 (.h false .d (.h false .a (.h false .a (.h false .b (.s (.e 0) (.g (.c 1))) (.s (.e 0) (.g (.c 1)))) (.h false .b (.g (.c 40692)) (.s (.e 0) (.g (.c 1))))) (.g (.c 7))) (.g (.c 2147483587)))) (.e (.f (.h false .d (.h false .c (.e 4) (.g (.c 64))) (.e 1))) .f))))⟩
noncomputable def ym:Fn:=⟨["_law_sizes_here","_law_found","_law_hue","_law_here","_law_size","_law_step"],["_law_sizes_here","_law_found","_law_hue"],false,(.e (.q [3,4] (.a (.l .a false (.a (.e 1) .b)) (.a (.s (.e 0) (.e 2)) .b))) (.e (.g (.a 5) (.g (.g (.c 1)) (.h false .a (.h false .c (.e 3) (.h false .e (.e 4) (.g (.c 1)))) (.g (.c 1)))) (.e (.j (.a (.q .b (.p false ["_law_k","_law_hue","_law_found","_law_here","_law_step"] [none,some 2,some 1,some 3,some 5] (.e 0) (.a 0) (.g (.g (.c 1)) (.e 4)) (.b (.a (.q .g (.s (.e 2) (.h false .e (.e 3) (.h false .b (.e 0) (.e 4)))) (.e 1))) .a)) (.u false .b))) (.e (.f (.g (.e true))) .f) .f) .f)) (.e (.f (.g (.e false))) .f)))⟩
noncomputable def yn:Fn:=⟨["_law_cell","_law_left"],["_law_cell"],true,(.e (.d 1 (.l .j false (.a (.e 0) (.a (.h false .e (.g (.c 0)) (.e 0)) .b)))) (.e (.f (.u true (.a (.h false .b (.e 1) (.l .o false (.a (.q .j (.e 1) (.h false .g (.g (.c 10)) (.g (.c 18)))) .b))) (.a (.h false .d (.e 1) (.g (.c 2147483629))) .b)))) .f))⟩
noncomputable def wI:Fn:=⟨["thing"],["thing"],false,(.e (.f (.z (.l .i false (.a (.e 0) (.a (.O "tuple" "tuple") .b))) (.a (.y .e .e (.g (.c 1)) (.l .a false (.a (.e 0) .b)) (.l .a false (.a (.I "HUES") .b))) (.a (.j "are_wholes" 0 (.a (.e 0) (.a (.I "LEAST_SIZE") (.a (.I "MOST_SIZE") .b)))) .b)))) .f)⟩
noncomputable def xj:Fn:=⟨["things","least","most"],["things","least","most"],false,(.e (.f (.l .p false (.a (.p false ["thing","least","most"] [none,some 1,some 2] (.j "is_whole" 0 (.a (.e 0) (.a (.e 1) (.a (.e 2) .b)))) (.a 0) (.f (.e 0)) .a) .b))) .f)⟩
noncomputable def w9:Fn:=⟨["thing","least","most"],["thing","least","most"],false,(.e (.f (.z (.l .i false (.a (.e 0) (.a (.O "int" "int") .b))) (.a (.G (.l .i false (.a (.e 0) (.a (.O "bool" "bool") .b)))) (.a (.y .e .e (.e 1) (.e 0) (.e 2)) .b)))) .f)⟩
noncomputable def xK:Fn:=⟨["thing"],["thing"],false,(.e (.m (.j "need_whole" 0 (.a (.e 0) (.a (.g (.c 0)) (.a (.I "MOST_PLACES") .b))))) .f)⟩
noncomputable def xm:Fn:=⟨["thing"],["thing"],false,(.e (.j (.d (.a (.j "are_sizes" 0 (.a (.e 0) .b)))) (.e (.n (.j "NoSizes" 0 (.a (.g (.m "one to four sizes are due")) .b))) .f) .f) .f)⟩
noncomputable def xn:Fn:=⟨["thing","least","most"],["thing","least","most"],false,(.e (.j (.d (.a (.j "is_whole" 0 (.a (.e 0) (.a (.e 1) (.a (.e 2) .b)))))) (.e (.n (.j "NoNumber" 0 (.a (.e 1) (.a (.e 2) .b)))) .f) .f) .f)⟩
end F
end
section
namespace M
open PySem L2
def Zd{n f d s:Nat}(hd:0<d)(hs:1<=s)(h:f+d*(s-1)<n):yT n (some (f:Int)) (some ((f:Int)+(d:Int)*(s:Int))) (d:Int)=((f:Int),s):=by
 have N:d*s=d*(s-1)+d:=by rw[<-Nat.mul_succ];congr 1;omega
 have e0:(d:Int)*(s:Int)=((d*s:Nat):Int):=(E9 d s).symm;have U:Bi (some (f:Int)) (some ((f:Int)+(d:Int)*(s:Int))) (d:Int) (n:Int)=((f:Int),((min (f+d*s) n:Nat):Int)):=by
  rw[e0];unfold Bi;simp only[if_neg (show ¬(d:Int)<0 by omega),if_neg (show ¬(f:Int)<0 by omega),if_neg (show ¬((f:Int)+((d*s:Nat):Int))<0 by omega)]
  refine Fc ?_ ?_
  . show min (f:Int) (n:Int)=f;omega
  . show min ((f:Int)+((d*s:Nat):Int)) (n:Int)=_;omega
 unfold yT;rw[U];refine Fc rfl ?_;show B2 (f:Int) ((min (f+d*s) n:Nat):Int) (d:Int)=s;unfold B2;rw[if_pos ⋯,if_pos ⋯]
 have S:(((min (f+d*s) n:Nat):Int)-(f:Int)-1)=((min (f+d*s) n-f-1:Nat):Int):=by omega
 rw[S,<-Hz];have R:(min (f+d*s) n-f-1)/d=s-1:=by
  refine Nat.div_eq_of_lt_le ?_ ?_
  . rw[B8];omega
  . have:(s-1+1)*d=d*s:=by rw[show s-1+1=s by omega,B8]
    omega
 rw[R];omega
theorem tp{N R:Type}{f}{g:N->R}:∀{l:List N},(∀x∈l,f x=some (g x))->l.filterMap f=l.map g
 |[],_=>rfl
 |x::l,h=>by rw[Ba,h x (AE ..),AB,tp λy S=>h y (Ay _ S)]
def b7{ns:List Int}(h:f+d*(s-1)<ns.length):zr ns (f:Int) (d:Int) s=(Ah s).map λk=>ns.getD (f+k*d) 0:=by
 unfold zr;refine tp λk hk=>?_;rw[Al]at hk;have R:k*d<=d*(s-1):=by rw[B8];exact Nat.mul_le_mul_left d ⋯
 have e:((f:Int)+(k:Int)*(d:Int)).toNat=f+k*d:=by rw[show (k:Int)*(d:Int)=((k*d:Nat):Int) from (E9 k d).symm];omega
 have N:f+k*d<ns.length:=by omega
 rw[e,dS N];rw[Ab,dS N];rfl
def Sz(zs:List Int):Prop:=1<=zs.length/\zs.length<=4/\∀x∈zs,2<=x/\x<=8
noncomputable def yB(zs:List Int)(h:Nat):Nat:=(zs.getD h 0).toNat
def vi(R:Sz zs)(N:h<zs.length):zs[h]?=some ((yB zs h:Nat):Int)/\2<=yB zs h/\yB zs h<=8:=by
 have e:zs.getD h 0=zs[h]:=by rw[Ab,dS N];rfl
 have:=R.2.2 zs[h] (BB N);unfold yB;rw[e,dS N];refine⟨?_,⋯,⋯⟩
 congr 1;omega
end M
end
section
namespace M
open PySem
def Out.post{N:Type}(o:Out N)(P:N->Sto->Prop):Prop:=∃a s,o=.e a s/\P a s
def zA{N:Type}{a:N}{s:Sto}{P:N->Sto->Prop}:(Out.e a s).post P↔P a s:=
 ⟨λ⟨_,_,e,h⟩=>(by cases e;exact h),λh=>⟨a,s,rfl,h⟩⟩
def zF{o:Out α}{f}{P:β->Sto->Prop}:(o.bind f).post P↔o.post λa s=>(f a s).post P:=by
 cases o with
 |e a s=>exact(zA (P:=λa s=>(f a s).post P)).symm
 |g c as s=>exact⟨λ⟨_,_,e,_⟩=>(by cases e),λ⟨_,_,e,_⟩=>(by cases e)⟩
 |d=>exact⟨λ⟨_,_,e,_⟩=>(by cases e),λ⟨_,_,e,_⟩=>(by cases e)⟩
def zS{o:Out α}{P Q}(h:o.post P)(i:∀a s,P a s->Q a s):o.post Q:=by obtain⟨a,s,e,h⟩:=h;exact⟨a,s,e,i a s h⟩
def zu{o:Out α}{P Q}(h:∀a s,P a s↔Q a s):o.post P↔o.post Q:=⟨λk=>zS k λa s=>(h a s).mp,λk=>zS k λa s=>(h a s).mpr⟩
def zU{N:Type}{P:N->Sto->Prop}:(Out.d:Out N).post P↔False:=⟨λ⟨_,_,e,_⟩=>(by cases e),Dn⟩
def y8{N:Type}{c:Prop} [Decidable c] {a b:Out N}{P:N->Sto->Prop}:(if c then a else b).post P↔if c then a.post P else b.post P:=by split<;>exact DT
def post_eq{o:Out α}{a}:o=.e a s↔o.post λx t=>x=a/\t=s:=⟨λh=>⟨a,s,h,rfl,rfl⟩,λ⟨_,_,h,e1,e2⟩=>(by rw[h,e1,e2])⟩
section
variable {Φ:Calls}{G:Str->Option Val}{env:Env}{s:Sto}
def SR{v:Val}{P:Val->Sto->Prop}:(evE Φ G env (.g v) s).post P↔P v s:=zA
def pV{i:Nat}{P:Val->Sto->Prop}:(evE Φ G env (.e i) s).post P↔∃v,env[i]?=some (some v)/\P v s:=by
 show (match env[i]? with|some (some v)=>Out.e v s|_=>.d).post P↔_
 split
 . rename_i v e
   refine zA.trans ⟨λh=>⟨_,e,h⟩,λS=>?_⟩;obtain⟨u,N,R⟩:=S;rw[e]at N;cases N;exact R
 . rename_i hn
   exact⟨λ⟨_,_,e,_⟩=>(by cases e),λ⟨u,N,R⟩=>absurd N (hn u)⟩
def Rw{x:Str}{P:Val->Sto->Prop}:(evE Φ G env (.I x) s).post P↔∃v,G x=some v/\P v s:=by
 show (match G x with|some v=>Out.e v s|pn=>.d).post P↔_
 split
 . rename_i v e
   refine zA.trans ⟨λh=>⟨_,e,h⟩,λS=>?_⟩;obtain⟨u,N,R⟩:=S;rw[e]at N;cases N;exact R
 . rename_i e
   exact⟨λ⟨_,_,e,_⟩=>(by cases e),λ⟨u,N,R⟩=>(by rw[e]at N;cases N)⟩
def R0{x:Str}{n:String}{P:Val->Sto->Prop}:(evE Φ G env (.O x n) s).post P↔P (.t n) s:=zA
def Xq{m:Bool}{op:Bop}{a b:Ex}{P:Val->Sto->Prop}:(evE Φ G env (.h m op a b) s).post P↔(evE Φ G env a s).post λx s1=>(evE Φ G env b s1).post λy s2=>(binOp m op x y s2).post P:=by show (Out.bind _ _).post P↔_;simp only[zF]
def SS{a:Ex}{P:Val->Sto->Prop}:(evE Φ G env (.D a) s).post P↔(evE Φ G env a s).post λx s1=>∃i,x=.c i/\P (.c (-i)) s1:=by show (Out.bind _ _).post P↔_;simp only[zF];exact zu λx s1=>by cases x<;>simp[zA,zU]
def SU{a:Ex}{P:Val->Sto->Prop}:(evE Φ G env (.G a) s).post P↔(evE Φ G env a s).post λx s1=>∃b,x=.e b/\P (.e !b) s1:=by show (Out.bind _ _).post P↔_;simp only[zF];exact zu λx s1=>by cases x<;>simp[zA,zU]
def SN{op:Cop}{a b:Ex}{P:Val->Sto->Prop}:(evE Φ G env (.q op a b) s).post P↔(evE Φ G env a s).post λx s1=>(evE Φ G env b s1).post λy s2=>(zQ op x y s2).post P:=by show (Out.bind _ _).post P↔_;simp only[zF]
def Yg{op N:Cop}{a b c:Ex}{P:Val->Sto->Prop}:(evE Φ G env (.y op N a b c) s).post P↔(evE Φ G env a s).post λx s1=>(evE Φ G env b s1).post λy s2=>(zQ op x y s2).post λr R=>∃t,r=.e t/\if t=true then (evE Φ G env c R).post λz S=>(zQ N y z S).post P else P (.e false) R:=by
 show (Out.bind _ _).post P↔_;simp only[zF];refine zu λx s1=>zu λy s2=>zu λr R=>?_;cases r with
 |e t=>cases t<;>simp[zA,zU,zF]
 |_=>simp[zU]
def SJ{a b:Ex}{es:Exs}{P:Val->Sto->Prop}:(evE Φ G env (.z a (.a b es)) s).post P↔(evE Φ G env a s).post λx s1=>∃t,x=.e t/\if t=true then (sS Φ G env (.a b es) s1).post P else P (.e false) s1:=by
 show (Out.bind _ _).post P↔_;simp only[zF];refine zu λx s1=>?_;cases x with
 |e t=>cases t<;>simp[zA,zU]
 |_=>simp[zU]
def Vu{a:Ex}{P:Val->Sto->Prop}:(sS Φ G env (.a a .b) s).post P↔(evE Φ G env a s).post P:=DT
def Vv{a b:Ex}{es:Exs}{P:Val->Sto->Prop}:(sS Φ G env (.a a (.a b es)) s).post P↔(evE Φ G env a s).post λx s1=>∃t,x=.e t/\if t=true then (sS Φ G env (.a b es) s1).post P else P (.e false) s1:=by
 show ((evE Φ G env a s).bind λx s1=>match x with
  |.e true=>sS Φ G env (.a b es) s1
  |.e false=>.e (.e false) s1
  |_=>.d).post P↔_
 simp only[zF];refine zu λx s1=>?_;cases x with
 |e t=>cases t<;>simp[zA,zU]
 |_=>simp[zU]
def Ry{a b:Ex}{es:Exs}{P:Val->Sto->Prop}:(evE Φ G env (.M a (.a b es)) s).post P↔(evE Φ G env a s).post λx s1=>∃t,truth s1 x=some t/\if t=true then P x s1 else (n5 Φ G env (.a b es) s1).post P:=by
 show (Out.bind _ _).post P↔_;simp only[zF];refine zu λx s1=>?_;cases truth s1 x with
 |some t=>cases t<;>simp[zA,zU]
 |none=>simp[zU]
def SV{a:Ex}{P:Val->Sto->Prop}:(n5 Φ G env (.a a .b) s).post P↔(evE Φ G env a s).post P:=DT
def SW{a b:Ex}{es:Exs}{P:Val->Sto->Prop}:(n5 Φ G env (.a a (.a b es)) s).post P↔(evE Φ G env a s).post λx s1=>∃t,truth s1 x=some t/\if t=true then P x s1 else (n5 Φ G env (.a b es) s1).post P:=by
 show ((evE Φ G env a s).bind λx s1=>match truth s1 x with
  |some false=>n5 Φ G env (.a b es) s1
  |some true=>.e x s1
  |pn=>.d).post P↔_
 simp only[zF];refine zu λx s1=>?_;cases truth s1 x with
 |some t=>cases t<;>simp[zA,zU]
 |none=>simp[zU]
def SQ{c:Cn}{a b:Ex}{P:Val->Sto->Prop}:(evE Φ G env (.L c a b) s).post P↔(evT Φ G env c s).post λt s1=>if t=true then (evE Φ G env a s1).post P else (evE Φ G env b s1).post P:=by show (Out.bind _ _).post P↔_;simp only[zF,y8]
def SY{es:Exs}{P:Val->Sto->Prop}:(evE Φ G env (.k es) s).post P↔(yp Φ G env es s).post λvs s1=>(if vs.length<=zN then Out.e (Val.g vs) s1 else .d).post P:=by show (Out.bind _ _).post P↔_;simp only[zF]
def Xr{m:Bool}{es:Exs}{P:Val->Sto->Prop}:(evE Φ G env (.u m es) s).post P↔(yp Φ G env es s).post λvs s1=>(if vs.length<=zN then newList m vs s1 else .d).post P:=by show (Out.bind _ _).post P↔_;simp only[zF]
def Vw{f:Str}{v:Nat}{es:Exs}{P:Val->Sto->Prop}:(evE Φ G env (.j f v es) s).post P↔(yp Φ G env es s).post λvs s1=>(Φ f v vs s1).post P:=by show (Out.bind _ _).post P↔_;simp only[zF]
def SK{f:Bf}{m:Bool}{es:Exs}{P:Val->Sto->Prop}:(evE Φ G env (.l f m es) s).post P↔(yp Φ G env es s).post λvs s1=>(blt f m vs s1).post P:=by show (Out.bind _ _).post P↔_;simp only[zF]
def V1{f:Mf}{m:Bool}{o:Ex}{es:Exs}{P:Val->Sto->Prop}:(evE Φ G env (.P f m o es) s).post P↔(evE Φ G env o s).post λx s1=>(yp Φ G env es s1).post λvs s2=>(xP f x vs s2).post P:=by show (Out.bind _ _).post P↔_;simp only[zF]
def ba{m:Bool}{a b c:Ex}{P:Val->Sto->Prop}:(evE Φ G env (.r m a b c) s).post P↔(evE Φ G env a s).post λx s1=>(evE Φ G env b s1).post λy s2=>(evE Φ G env c s2).post λz N=>(YO m x y z N).post P:=by show (Out.bind _ _).post P↔_;simp only[zF]
def Rx{a b:Ex}{P:Val->Sto->Prop}:(evE Φ G env (.s a b) s).post P↔(evE Φ G env a s).post λx s1=>(evE Φ G env b s1).post λy s2=>(vU x y s2).post P:=by show (Out.bind _ _).post P↔_;simp only[zF]
def Rz{m:Bool}{a:Ex}{lo hi st:OEx}{P:Val->Sto->Prop}:(evE Φ G env (.K m a lo hi st) s).post P↔(evE Φ G env a s).post λx s1=>(evO Φ G env lo s1).post λl s2=>(evO Φ G env hi s2).post λh R=>(evO Φ G env st R).post λc N=>(sG m x l h c N).post P:=by show (Out.bind _ _).post P↔_;simp only[zF]
def V2{P:Option Int->Sto->Prop}:(evO Φ G env .b s).post P↔P none s:=zA
def V3{e:Ex}{P:Option Int->Sto->Prop}:(evO Φ G env (.a e) s).post P↔(evE Φ G env e s).post λv s1=>∃i,v=.c i/\P (some i) s1:=by show (Out.bind _ _).post P↔_;simp only[zF];exact zu λx s1=>by cases x<;>simp[zA,zU]
def bb{P:List Val->Sto->Prop}:(yp Φ G env .b s).post P↔P [] s:=zA
def bX{e:Ex}{es:Exs}{P:List Val->Sto->Prop}:(yp Φ G env (.a e es) s).post P↔(evE Φ G env e s).post λv s1=>(yp Φ G env es s1).post λvs s2=>P (v::vs) s2:=by show (Out.bind _ _).post P↔_;simp only[zF,zA]
def Xu{e:Ex}{P:Bool->Sto->Prop}:(evT Φ G env (.a e) s).post P↔(evE Φ G env e s).post λv s1=>∃b,truth s1 v=some b/\P b s1:=by
 show (Out.bind (evE Φ G env e s) _).post P↔_;simp only[zF];refine⟨λh=>zS h λv s1 h=>?_,λh=>zS h λv s1 h=>?_⟩
 . split at h
   . rename_i b e;exact⟨b,e,zA.mp h⟩
   . obtain⟨_,_,e,_⟩:=h;cases e
 . obtain⟨b,e,h⟩:=h
   rw[e];exact zA.mpr h
def V7{c:Cn}{P:Bool->Sto->Prop}:(evT Φ G env (.d c) s).post P↔(evT Φ G env c s).post λb s1=>P (!b) s1:=by show (Out.bind _ _).post P↔_;simp only[zF,zA]
def V6{c:Cn}{cs:Cns}{P:Bool->Sto->Prop}:(evT Φ G env (.b c cs) s).post P↔(evT Φ G env c s).post λb s1=>if b=true then (yD Φ G env cs s1).post P else P false s1:=by show (Out.bind _ _).post P↔_;simp only[zF,y8,zA]
def SX{c:Cn}{cs:Cns}{P:Bool->Sto->Prop}:(evT Φ G env (.f c cs) s).post P↔(evT Φ G env c s).post λb s1=>if b=true then P true s1 else (n6 Φ G env cs s1).post P:=by show (Out.bind _ _).post P↔_;simp only[zF,y8,zA]
def Yl{P:Bool->Sto->Prop}:(yD Φ G env .a s).post P↔P true s:=zA
def Yk{P:Bool->Sto->Prop}:(n6 Φ G env .a s).post P↔P false s:=zA
def bh{c:Cn}{cs:Cns}{P:Bool->Sto->Prop}:(yD Φ G env (.b c cs) s).post P↔(evT Φ G env c s).post λb s1=>if b=true then (yD Φ G env cs s1).post P else P false s1:=by show (Out.bind _ _).post P↔_;simp only[zF,y8,zA]
def bg{c:Cn}{cs:Cns}{P:Bool->Sto->Prop}:(n6 Φ G env (.b c cs) s).post P↔(evT Φ G env c s).post λb s1=>if b=true then P true s1 else (n6 Φ G env cs s1).post P:=by show (Out.bind _ _).post P↔_;simp only[zF,y8,zA]
def bZ{e:Ex}{P:Src->Sto->Prop}:(zo Φ G env (.f e) s).post P↔(evE Φ G env e s).post λv s1=>∃r,srcOf s1 v=some r/\P r s1:=by
 show (Out.bind _ _).post P↔_;simp only[zF];refine⟨λh=>zS h λv s1 h=>?_,λh=>zS h λv s1 h=>?_⟩
 . split at h
   . rename_i b e;exact⟨b,e,zA.mp h⟩
   . obtain⟨_,_,e,_⟩:=h;cases e
 . obtain⟨b,e,h⟩:=h
   rw[e];exact zA.mpr h
def qN{a:Ex}{P:Src->Sto->Prop}:(zo Φ G env (.d a) s).post P↔(evE Φ G env a s).post λx s1=>∃j,x=.c j/\(-(2 ^ 62)<=j/\j<=zN)/\P ⟨yR 0 j.toNat,pn⟩ s1:=by
 show (Out.bind _ _).post P↔_;simp only[zF];refine⟨λh=>zS h λv s1 h=>?_,λh=>zS h λv s1 h=>?_⟩
 . split at h
   . rw[y8]at h
     split at h
     . rename_i j z;exact⟨_,rfl,z,zA.mp h⟩
     . obtain⟨_,_,e,_⟩:=h;cases e
   . obtain⟨_,_,e,_⟩:=h;cases e
 . obtain⟨j,rfl,z,h⟩:=h
   simp only[if_pos z];exact zA.mpr h
def mi{a b:Ex}{P:Src->Sto->Prop}:(zo Φ G env (.g a b) s).post P↔(evE Φ G env a s).post λx s1=>(evE Φ G env b s1).post λy s2=>∃i j,x=.c i/\y=.c j/\(-(2 ^ 62)<=i/\i<2 ^ 62∧-(2 ^ 62)<=j/\j<2 ^ 62/\j-i<=zN)/\P ⟨yR i (j-i).toNat,pn⟩ s2:=by
 show (Out.bind _ _).post P↔_;simp only[zF];refine⟨λh=>zS h λv s1 h=>zS h λw s2 h=>?_,λh=>zS h λv s1 h=>zS h λw s2 h=>?_⟩
 . split at h
   . rw[y8]at h
     split at h
     . rename_i z;exact⟨_,_,rfl,rfl,z,zA.mp h⟩
     . obtain⟨_,_,e,_⟩:=h;cases e
   . obtain⟨_,_,e,_⟩:=h;cases e
 . obtain⟨i,j,rfl,rfl,z,h⟩:=h
   simp only[if_pos z];exact zA.mpr h
def Vy{a:Ex}{P:Src->Sto->Prop}:(zo Φ G env (.i a) s).post P↔(evE Φ G env a s).post λx s1=>∃vs,(x=.g vs\/x=.f vs)/\P ⟨iG 0 vs,pn⟩ s1:=by
 show (Out.bind _ _).post P↔_;simp only[zF];refine⟨λh=>zS h λv s1 h=>?_,λh=>zS h λv s1 h=>?_⟩
 . split at h
   . exact⟨_,.inl rfl,zA.mp h⟩
   . exact⟨_,.inr rfl,zA.mp h⟩
   . obtain⟨_,_,e,_⟩:=h;cases e
 . obtain⟨j,rfl|rfl,h⟩:=h<;>exact zA.mpr h
def bY{e:Ex}{P:Fl->Sto->Prop}:(exS Φ G env (.m e) s).post P↔(evE Φ G env e s).post λ_ s1=>P (.a env) s1:=by show (Out.bind _ _).post P↔_;simp only[zF,zA]
def bf{e:Ex}{P:Fl->Sto->Prop}:(exS Φ G env (.f e) s).post P↔(evE Φ G env e s).post λv s1=>P (.b v) s1:=by show (Out.bind _ _).post P↔_;simp only[zF,zA]
def V5{P:Fl->Sto->Prop}:(exS Φ G env .v s).post P↔P (.b .h) s:=zA
def mh{i:Nat}{e:Ex}{P:Fl->Sto->Prop}:(exS Φ G env (.d i e) s).post P↔(evE Φ G env e s).post λv s1=>P (.a (env.set i (some v))) s1:=by show (Out.bind _ _).post P↔_;simp only[zF,zA]
def bV{is:List Nat}{e:Ex}{P:Fl->Sto->Prop}:(exS Φ G env (.p is e) s).post P↔(evE Φ G env e s).post λv s1=>∃env',z9 (.b is) v env=some env'/\P (.a env') s1:=by
 show (Out.bind _ _).post P↔_;simp only[zF];refine⟨λh=>zS h λv s1 h=>?_,λh=>zS h λv s1 h=>?_⟩
 . split at h
   . rename_i b e;exact⟨b,e,zA.mp h⟩
   . obtain⟨_,_,e,_⟩:=h;cases e
 . obtain⟨b,e,h⟩:=h
   rw[e];exact zA.mpr h
def Xs{is:List Nat}{es:Exs}{P:Fl->Sto->Prop}:(exS Φ G env (.q is es) s).post P↔(yp Φ G env es s).post λvs s1=>(if vs.length=is.length then Out.e (Fl.a ((is.zip vs).foldl (λe p=>e.set p.1 (some p.2)) env)) s1 else .d).post P:=by show (Out.bind _ _).post P↔_;simp only[zF]
def Yj{o i e:Ex}{P:Fl->Sto->Prop}:(exS Φ G env (.l o i e) s).post P↔(evE Φ G env e s).post λv s1=>(evE Φ G env o s1).post λx s2=>(evE Φ G env i s2).post λy N=>∃r k vs j,x=.j r/\y=.c k/\N[r]?=some (.c vs)/\L2.ixN vs.length k=some j/\P (.a env) (upd N r (vs.set j v)):=by
 show (Out.bind _ _).post P↔_;simp only[zF];refine zu λv s1=>zu λx s2=>zu λy N=>⟨λh=>?_,λ⟨r,k,vs,j,h1,h2,h3,h4,h5⟩=>?_⟩
 . split at h
   . split at h
     . rename_i e3
       split at h
       . rename_i e4;exact⟨_,_,_,_,rfl,rfl,e3,e4,zA.mp h⟩
       . exact(zU.mp h).elim
     . exact(zU.mp h).elim
   . exact(zU.mp h).elim
 . subst h1;subst h2
   simp only[h3,h4];exact zA.mpr h5
def V0{c:Cn}{a b:Sms}{P:Fl->Sto->Prop}:(exS Φ G env (.j c a b) s).post P↔(evT Φ G env c s).post λt s1=>if t=true then (zp Φ G env a s1).post P else (zp Φ G env b s1).post P:=by show (Out.bind _ _).post P↔_;simp only[zF,y8]
def V4{P:Fl->Sto->Prop}:(exS Φ G env .u s).post P↔P (.a env) s:=zA
def SM{P:Fl->Sto->Prop}:(exS Φ G env .y s).post P↔P (.c env) s:=zA
def Vx{P:Fl->Sto->Prop}:(exS Φ G env .s s).post P↔P (.d env) s:=zA
def qO{P:Fl->Sto->Prop}:(zp Φ G env .f s).post P↔P (.a env) s:=zA
def qZ(Φ:Calls)(G:Str->Option Val)(cs:Sms)(P:Fl->Sto->Prop):Fl->Sto->Prop
 |.a e,s1=>(zp Φ G e cs s1).post P
 |fl,s1=>P fl s1
def zi{c:Sm}{cs:Sms}{P:Fl->Sto->Prop}:(zp Φ G env (.e c cs) s).post P↔(exS Φ G env c s).post (qZ Φ G cs P):=by
 show (Out.bind _ _).post P↔_;simp only[zF];have:∀fl s1,(match fl with|.a e=>zp Φ G e cs s1|fl=>Out.e fl s1:Out Fl).post P↔qZ Φ G cs P fl s1:=λfl s1=>by
  cases fl with
  |a e=>exact DT
  |_=>exact zA
 exact⟨λh=>zS h λfl s1 h=>(this fl s1).mp h,λh=>zS h λfl s1 h=>(this fl s1).mpr h⟩
def rJ{cs:Sms}{P:Fl->Sto->Prop}{e:Env}:qZ Φ G cs P (.a e) s↔(zp Φ G e cs s).post P:=DT
def gI{cs:Sms}{P:Fl->Sto->Prop}{v:Val}:qZ Φ G cs P (.b v) s↔P (.b v) s:=DT
def XH{cs:Sms}{P:Fl->Sto->Prop}{v:Env}:qZ Φ G cs P (.c v) s↔P (.c v) s:=DT
def XI{cs:Sms}{P:Fl->Sto->Prop}{v:Env}:qZ Φ G cs P (.d v) s↔P (.d v) s:=DT
theorem vF{I:Env->Prop}(S:r.ok s=true):∀xs,(∀x∈xs,∀e acc,I e->∃U N,z9 t x e=some U/\body U s acc=.e (acc++g x,N) s/\I N)->∀e acc,I e->∃R,I R/\z5 r t body xs e s acc=.e (acc++xs.flatMap g,R) s
 |[],_,e,acc,h0=>⟨e,h0,by simp[z5,S]⟩
 |x::xs,h,e,acc,h0=>by obtain⟨U,N,h1,h2,Z⟩:=h x (.head _) e acc h0;obtain⟨R,Y,X⟩:=vF S xs (λy W=>h y (.tail _ W)) N (acc++g x) Z;refine⟨R,Y,?_⟩;simp only[z5,S,if_true,h1,h2,zJ,X,BQ,Ak]
def bW(I:Env->Prop)g
 (h:(zo Φ G env it s).post λr s1=>r.ok s1=true/\I (zG fr env)/\(∀x∈r.a,∀e,I e->∃R,z9 t x e=some R/\I R/\(yD Φ G R ifs s1).post λb s2=>s2=s1/\if b=true then (evE Φ G R elt s1).post (λv s2=>s2=s1/\g x=[v]) else g x=[])/\(newList m (r.a.flatMap g) s1).post P) :
 (evE Φ G env (.p m N fr elt t it ifs) s).post P:=by
 obtain⟨r,s1,ei,h1,h2,h3,h4⟩:=h;obtain⟨e',_,h5⟩:=vF (I:=I) (g:=g) (body:=λe s' acc=>(yD Φ G e ifs s').bind λb s2=>if b then (evE Φ G e elt s2).bind λv U=>.e (acc++[v],e) U else .e (acc,e) s2) h1 r.a (λx hx e acc he=>by
  obtain⟨R,k1,Z,b,s2,Y,rfl,S⟩:=h3 x hx e he;refine⟨R,R,k1,?_,Z⟩;rw[Y,zJ];cases b with
  |true=>
   rw[if_pos rfl]at S ⊢;obtain⟨v,U,W,rfl,X⟩:=S;rw[W,zJ,X]
  |false=>
   rw[if_neg Ag]at S ⊢;rw[S,AR]) (zG fr env) [] h2
 show (Out.bind (zo Φ G env it s) _).post P;rw[ei,zJ];rw[h5,zJ];exact h4
def Small(l:List Val):Prop:=l.length<=zN
def Yh(I:Env->Prop)g(J:Val->Env->Prop)(g2:Val->Val->List Val)
 (h:(zo Φ G env it s).post λr s1=>r.ok s1=true/\I (zG fr env)/\(∀x∈r.a,∀e,I e->∃S,z9 t x e=some S/\(yD Φ G S ifs s1).post λb s2=>s2=s1/\if b=true then (zo Φ G S it2 s1).post (λX s2=>s2=s1/\X.ok s1=true/\J x S/\(∀e,J x e->I e)/\g x=X.a.flatMap (g2 x)/\∀y∈X.a,∀e,J x e->∃Y,z9 t2 y e=some Y/\J x Y/\(yD Φ G Y ifs2 s1).post λb s2=>s2=s1/\if b=true then (evE Φ G Y elt s1).post (λv s2=>s2=s1/\g2 x y=[v]) else g2 x y=[]) else g x=[]/\I S)/\Small (r.a.flatMap g)/\(newList m (r.a.flatMap g) s1).post P) :
 (evE Φ G env (.w m N fr elt t it ifs t2 it2 ifs2) s).post P:=by
 obtain⟨r,s1,ei,h1,h2,h3,hl,h4⟩:=h;obtain⟨W,_,h5⟩:=vF (I:=I) (g:=g) (body:=λe s' acc=>(yD Φ G e ifs s').bind λb s2=>if b then (zo Φ G e it2 s2).bind λX s3=>
        z5 X t2 (λW s4 R=>(yD Φ G W ifs2 s4).bind λb' Z=>if b' then (evE Φ G W elt Z).bind λv s6=>.e (R++[v],W) s6 else .e (R,W) Z) X.a e s3 acc
  else .e (acc,e) s2) h1 r.a (λx hx e acc he=>by
  obtain⟨S,k1,b,s2,k3,rfl,U⟩:=h3 x hx e he;cases b with
  |true=>
   rw[if_pos rfl]at U;obtain⟨X,s3,k5,rfl,k6,k7,k8,k9,k10⟩:=U;obtain⟨Y,k11,k12⟩:=vF (I:=J x) (g:=g2 x) (body:=λW s4 R=>(yD Φ G W ifs2 s4).bind λb' Z=>if b' then (evE Φ G W elt Z).bind λv s6=>.e (R++[v],W) s6 else .e (R,W) Z) k6 X.a (λy hy e acc he=>by
    obtain⟨S,k1,k2,b,s2,k3,rfl,U⟩:=k10 y hy e he;refine⟨S,S,k1,?_,k2⟩;rw[k3,zJ];cases b with
    |true=>
     rw[if_pos rfl]at U ⊢;obtain⟨v,s3,kw,rfl,kv⟩:=U;rw[kw,zJ,kv]
    |false=>
     rw[if_neg Ag]at U ⊢;rw[U,AR]) S acc k7
   refine⟨S,Y,k1,?_,k8 _ k11⟩;rw[k3,zJ,if_pos rfl,k5,zJ,k12,k9]
  |false=>
   rw[if_neg Ag]at U;refine⟨S,S,k1,?_,U.2⟩;rw[k3,zJ,if_neg Ag,U.1,AR]) (zG fr env) [] h2
 show (Out.bind (zo Φ G env it s) _).post P;rw[ei,zJ];rw[h5,zJ];simp only[Dw];rw[if_pos (show (r.a.flatMap g).length<=zN from hl)];exact h4
theorem t7(Q:List Val->Env->Sto->Prop)(R:Fl->Sto->Prop){r:Src}{t:Tgt}{body:Env->Sto->Out Fl}(h0:∀e s,Q [] e s->R (.a e) s):∀(xs:List Val),(∀rest e s,Q rest e s->r.ok s=true)->(∀x rest e s,Q (x::rest) e s->∃N,z9 t x e=some N/\(body N s).post λfl s2=>match fl with|.a e=>Q rest e s2|.d e=>Q rest e s2|.c e=>R (.a e) s2|.b v=>R (.b v) s2)->∀e s,Q xs e s->(vN r t body xs e s).post R
 |[],hk,_,e,s,q=>by
  simp only[vN,hk _ _ _ q,if_true];exact zA.mpr (h0 _ _ q)
 |x::xs,hk,h,e,s,q=>by
  obtain⟨N,U,S⟩:=h x xs e s q;simp only[vN,hk _ _ _ q,if_true,U,zF];refine zS S λfl s2 q=>?_;cases fl with
  |a e=>exact t7 Q R h0 xs hk h e s2 q
  |d e=>exact t7 Q R h0 xs hk h e s2 q
  |c e=>exact zA.mpr q
  |b v=>exact zA.mpr q
def p4(Q:Env->Sto->Prop)(R:Fl->Sto->Prop):Fl->Sto->Prop
 |.a e,s=>Q e s
 |.d e,s=>Q e s
 |.c e,s=>R (.a e) s
 |.b v,s=>R (.b v) s
def nM{Q:Env->Sto->Prop}{R:Fl->Sto->Prop}{e:Env}:p4 Q R (.a e) s↔Q e s:=DT
def XE{Q:Env->Sto->Prop}{R:Fl->Sto->Prop}{e:Env}:p4 Q R (.d e) s↔Q e s:=DT
def XD{Q:Env->Sto->Prop}{R:Fl->Sto->Prop}{e:Env}:p4 Q R (.c e) s↔R (.a e) s:=DT
def XF{Q:Env->Sto->Prop}{R:Fl->Sto->Prop}{v:Val}:p4 Q R (.b v) s↔R (.b v) s:=DT
def SO(Q:List Val->Env->Sto->Prop)
 (h:(zo Φ G env it s).post λr s1=>Q r.a env s1/\(∀rest e s,Q rest e s->r.ok s=true)/\(∀x rest e s,Q (x::rest) e s->∃N,z9 t x e=some N/\(zp Φ G N b s).post (p4 (Q rest) R))/\∀e s,Q [] e s->R (.a e) s) :
 (exS Φ G env (.g t it b) s).post R:=by
 obtain⟨r,s1,ei,Z,Y,X,W⟩:=h;show (Out.bind (zo Φ G env it s) _).post R;rw[ei,zJ];refine t7 Q R W r.a Y (λx rest e s q=>?_) _ _ Z;obtain⟨N,U,S⟩:=X x rest e s q;refine⟨N,U,zS S λfl s2 k=>?_⟩;cases fl<;>exact k
def y7(Q:List Val->Env->Sto->Prop)xs(hi:zo Φ G env it s=.e ⟨xs,pn⟩ s1)(h0:Q xs env s1)
 (U:∀x rest e s,Q (x::rest) e s->∃N,z9 t x e=some N/\(zp Φ G N b s).post (p4 (Q rest) R)) (S:∀e s,Q [] e s->R (.a e) s) :
 (exS Φ G env (.g t it b) s).post R:=SO Q ⟨_,_,hi,h0,λ_ _ _ _=>rfl,U,S⟩
def nA(I:Env->Prop)g xs(hi:zo Φ G env it s=.e ⟨xs,pn⟩ s1)(h0:I (zG fr env))
 (U:∀x∈xs,∀e,I e->∃R,z9 t x e=some R/\I R/\(yD Φ G R ifs s1).post λb s2=>s2=s1/\if b=true then (evE Φ G R elt s1).post (λv s2=>s2=s1/\g x=[v]) else g x=[]) (S:(newList m (xs.flatMap g) s1).post P) :
 (evE Φ G env (.p m N fr elt t it ifs) s).post P:=bW I g ⟨_,_,hi,rfl,h0,U,S⟩
end
def XJ{s:Sto}:truth s .h=some false:=rfl
def yd{s:Sto}{b:Bool}:truth s (.e b)=some b:=rfl
def Uh{s:Sto}{i:Int}:truth s (.c i)=some (i != 0):=rfl
def Uj{s:Sto}{vs:List Val}:truth s (.g vs)=some !vs.isEmpty:=rfl
def Ui{s:Sto}{vs:List Val}:truth s (.f vs)=some !vs.isEmpty:=rfl
def UW{s:Sto}{vs:List Val}:srcOf s (.g vs)=some ⟨vs,pn⟩:=rfl
def UU{s:Sto}{vs:List Val}:srcOf s (.f vs)=some ⟨vs,pn⟩:=rfl
def XB{s:Sto}{ns:List Int}:srcOf s (.o ns)=some ⟨ns.map .c,pn⟩:=rfl
def ah{s:Sto}{xs:List Val}:Src.ok ⟨xs,pn⟩ s=true:=rfl
def U7{i:Nat}{v:Val}{env:Env}:z9 (.a i) v env=some (env.set i (some v)):=rfl
def WR{is:List Nat}{vs:List Val}{env:Env}:z9 (.b is) (.g vs) env=if vs.length=is.length then some ((is.zip vs).foldl (λe p=>e.set p.1 (some p.2)) env) else pn:=rfl
def eZ vs:tj vs vs=true:=vw vs
def ng(c:Cel):c.beq c=true:=by cases c<;>simp[Cel.beq,eZ]
theorem v8:∀s t,x9 s (s++t)=true
 |[],_=>rfl
 |c::r,t=>by simp[x9,ng c,v8 r t]
def kX s:x9 s s=true:=by have:=v8 s [];rwa [AR]at this
theorem qL:∀s t i c,c.noRef=true->x9 s (s.set i c++t)=true
 |[],_,_,_,_=>by simp[x9]
 |_::r,t,0,c,h=>by simp[x9,h,v8 r t]
 |o::r,t,i+1,c,h=>by simp[x9,ng o,qL r t i c h]
def fM s t i vs(h:z6 vs=true):x9 s (s.set i (.c vs)++t)=true:=qL s t i _ h
def YT:Val.h.noRef=true:=by rw[Val.noRef]
def vG{b:Bool}:(Val.e b).noRef=true:=by rw[Val.noRef]
def bM{b:Int}:(Val.c b).noRef=true:=by rw[Val.noRef]
def Vh{b:Str}:(Val.m b).noRef=true:=by rw[Val.noRef]
def Vi{vs:List Val}:(Val.g vs).noRef=z6 vs:=by rw[Val.noRef]
def qJ{vs:List Val}:(Val.f vs).noRef=z6 vs:=by rw[Val.noRef]
def YU:z6 []=true:=by rw[z6]
def bN{v:Val}{vs:List Val}:z6 (v::vs)=(v.noRef&&z6 vs):=by rw[z6]
theorem wQ:∀ns:List Int,z6 (ns.map .c)=true
 |[]=>rfl
 |_::ns=>by simp[z6,Val.noRef,wQ ns]
theorem qH:∀zs:List (Int × Int),z6 (zs.map prV)=true
 |[]=>rfl
 |_::zs=>by simp[z6,Val.noRef,prV,qH zs]
def yJ(k:Bool)(N:Sto)(v:Val)(s:Sto):Out Val:=
 if k then .e v s
 else if x9 N s then (match freeze N.length s v with|some R=>.e R (s.take N.length)|pn=>.d) else .d
def sT{N s:Sto}{v:Val}:yJ true N v s=.e v s:=rfl
def yK{k:Bool}{s:Sto}{v:Val}(h:v.noRef=true):yJ k s v s=.e v s:=by
 unfold yJ;cases k
 . simp[kX,freeze,h]
 . rfl
def kK(h:v.noRef=true):yJ false s v (s++t)=.e v s:=by unfold yJ;simp[v8,freeze,h]
def kL(h:v.noRef=true)(N:z6 vs=true):yJ false s v (s.set i (.c vs)++t)=.e v (s.set i (.c vs)):=by
 unfold yJ;have e:s.length=(s.set i (.c vs)).length:=by rw[Dv]
 simp only[fM s t i vs N,freeze,h,if_true,Au,if_false,e,List.take_left']
def fin(k:Bool)(s:Sto)(P:Val->Sto->Prop):Fl->Sto->Prop
 |.a _,s1=>(yJ k s .h s1).post P
 |.b v,s1=>(yJ k s v s1).post P
 |_,_=>False
def Wh{k:Bool}{s s1:Sto}{P:Val->Sto->Prop}{e:Env}:fin k s P (.a e) s1↔(yJ k s .h s1).post P:=DT
def dn{k:Bool}{s s1:Sto}{P:Val->Sto->Prop}{v:Val}:fin k s P (.b v) s1↔(yJ k s v s1).post P:=DT
def wq{T:Tbl}{Φ:Calls}{N ps:List Str}{k:Bool}{b:Sms}{vs:List Val}{s:Sto}{P:Val->Sto->Prop}:(run T Φ ⟨N,ps,k,b⟩ vs s).post P↔vs.length=ps.length/\(zp Φ T.b (zT N vs) b s).post (fin k s P):=by
 unfold run;by_cases hl:vs.length=ps.length
 . rw[if_pos hl,zF]
   refine⟨λh=>⟨hl,zS h λfl s1 h=>?_⟩,λh=>zS h.2 λfl s1 h=>?_⟩
   . cases fl<;>first|exact h|exact(zU.mp h).elim
   . cases fl<;>first|exact h|exact h.elim
 . rw[if_neg hl]
   exact⟨λh=>(zU.mp h).elim,λh=>absurd h.1 hl⟩
def zW(h:T.c f v=some F)vs s:zD T (n+1) f v vs s=run T (zD T n) F vs s:=by simp only[zD,h]
def At(T:Tbl)(k:Nat)(C:Calls->Prop):Prop:=∀n,k<=n->C (zD T n)
def EVl:=Af @SR <| Af @pV <| Af @Rw <| Af @R0 <| Af @Xq <| Af @SS <| Af @SU <| Af @SN <| Af @Yg <| Af @SJ <| Af @Vu <| Af @Vv <| Af @Ry <| Af @SV <| Af @SW <| Af @SQ <| Af @SY <| Af @Xr <| Af @Vw <| Af @SK <| Af @V1 <| Af @ba <| Af @Rx <| Af @Rz <| Af @V2 <| Af @V3 <| Af @bb <| Af @bX <| Af @Xu <| Af @V7 <| Af @V6 <| Af @SX <| Af @Yl <| Af @Yk <| Af @bh <| Af @bg <| Af @bZ <| Af @qN <| Af @mi <| Af @Vy <| Af @bY <| Af @bf <| Af @V5 <| Af @mh <| Af @bV <| Af @Xs <| Af @Yj <| Af @V0 <| Af @V4 <| Af @SM <| Af @Vx <| Af @qO <| Af @zi <| Af @rJ <| Af @gI <| Af @XH <| Af @XI <| Af @nM <| Af @XE <| Af @XD <| Af @XF <| Af @zA <| Af @y8 <| Af @zU <| Af @XJ <| Af @yd <| Af @Uh <| Af @Uj <| Af @Ui <| Af @UW <| Af @UU <| Af @XB <| Af @ah <| Af @U7 <| Af @WR <| Af @wq <| Af @Wh <| Af @dn <| Af @sT <| Af @yK <| Af @YT <| Af @vG <| Af @bM <| Af @Vh <| Af @Vi <| Af @qJ <| Af @YU <| Af @bN <| Af @wQ <| @qH
def bnd{o:Out α}{a}{f}{r:Out β}(h:o=.e a s)(k:f a s=r):o.bind f=r:=by rw[h];exact k
def zV:evE Φ G env (.g v) s=.e v s:=rfl
def zE(h:env[i]?=some (some v)):evE Φ G env (.e i) s=.e v s:=post_eq.mpr (pV.mpr ⟨v,h,rfl,rfl⟩)
def ZL:evE Φ G env (.O x n) s=.e (.t n) s:=rfl
def Ut(N:evE Φ G env a s=.e (.e false) s1):evE Φ G env (.z a (.a b es)) s=.e (.e false) s1:=bnd N rfl
def Uu(R:evE Φ G env a s=.e (.e true) s1)(N:evE Φ G env b s1=.e (.e false) s2):evE Φ G env (.z a (.a b (.a c es))) s=.e (.e false) s2:=bnd R (show (evE Φ G env b s1).bind _=_ from bnd N rfl)
def ZI(S:evE Φ G env a s=.e (.e true) s1)(R:evE Φ G env b s1=.e (.e true) s2)(N:evE Φ G env c s2=r):evE Φ G env (.z a (.a b (.a c .b))) s=r:=bnd S (show (evE Φ G env b s1).bind _=_ from bnd R N)
def WB(h:evE Φ G env a s=.e (.c i) s1):evE Φ G env (.D a) s=.e (.c (-i)) s1:=bnd h rfl
def ye(S:evE Φ G env a s=.e x s1)(R:evE Φ G env b s1=.e y s2)(N:binOp m op x y s2=r):evE Φ G env (.h m op a b) s=r:=bnd S (bnd R N)
def wU(S:evE Φ G env a s=.e x s1)(R:evE Φ G env b s1=.e y s2)(N:zQ op x y s2=r):evE Φ G env (.q op a b) s=r:=bnd S (bnd R N)
def uf(S:evE Φ G env a s=.e x s1)(R:evE Φ G env b s1=.e y s2)(N:vU x y s2=r):evE Φ G env (.s a b) s=r:=bnd S (bnd R N)
def bQ:evO Φ G env .b s=.e none s:=rfl
def iw(h:evE Φ G env e s=.e (.c i) s1):evO Φ G env (.a e) s=.e (some i) s1:=bnd h rfl
def Ux(h0:evE Φ G env a s=.e x s1)(U:evO Φ G env lo s1=.e l s2)(S:evO Φ G env hi s2=.e h s3)(R:evO Φ G env st s3=.e c s4)(N:sG m x l h c s4=r):evE Φ G env (.K m a lo hi st) s=r:=bnd h0 (bnd U (bnd S (bnd R N)))
def zM:yp Φ G env .b s=.e [] s:=rfl
def zB(R:evE Φ G env e s=.e v s1)(N:yp Φ G env es s1=.e vs s2):yp Φ G env (.a e es) s=.e (v::vs) s2:=bnd R (bnd N rfl)
def i3{P:List Val->Sto->Prop}(h:evE Φ G env e s=.e v s1)(k:(yp Φ G env es s1).post λvs s2=>P (v::vs) s2):(yp Φ G env (.a e es) s).post P:=bX.mpr (by rw[h];exact zA.mpr k)
def wG(h:yp Φ G env es s=.e vs s1)(N:vs.length<=zN):evE Φ G env (.k es) s=.e (.g vs) s1:=bnd h (if_pos N)
def sX(h:yp Φ G env es s=.e vs s1)(N:vs.length<=zN):evE Φ G env (.u false es) s=.e (.f vs) s1:=bnd h (if_pos N)
def vq(h:yp Φ G env es s=.e vs s1)(k:blt f m vs s1=r):evE Φ G env (.l f m es) s=r:=bnd h k
def x_call(h:yp Φ G env es s=.e vs s1)(k:Φ f v vs s1=r):evE Φ G env (.j f v es) s=r:=bnd h k
def yy(h:evE Φ G env e s=.e v s1)(k:(zp Φ G (env.set i (some v)) cs s1).post P):(zp Φ G env (.e (.d i e) cs) s).post P:=zi.mpr (mh.mpr (by rw[h];exact zA.mpr k))
def UR(h:evE Φ G env e s=.e v s1)(N:z9 (.b is) v env=some env')(k:(zp Φ G env' cs s1).post P):(zp Φ G env (.e (.p is e) cs) s).post P:=zi.mpr (bV.mpr (by rw[h];exact zA.mpr ⟨env',N,k⟩))
def gB(h:evE Φ G env e s=.e v s1)(k:(zp Φ G env cs s1).post P):(zp Φ G env (.e (.m e) cs) s).post P:=zi.mpr (bY.mpr (by rw[h];exact zA.mpr k))
def xZ(h:evE Φ G env e s=.e v s1)(k:P (.b v) s1):(zp Φ G env (.e (.f e) cs) s).post P:=zi.mpr (bf.mpr (by rw[h];exact zA.mpr k))
def xE(h:evE Φ G env e s=.e v s1)(k:srcOf s1 v=some ⟨xs,none⟩):zo Φ G env (.f e) s=.e ⟨xs,none⟩ s1:=post_eq.mpr (bZ.mpr (by rw[h];exact zA.mpr ⟨_,k,rfl,rfl⟩))
def vk(h:evE Φ G env e s=.e v s1)(k:truth s1 v=some b):evT Φ G env (.a e) s=.e b s1:=post_eq.mpr (Xu.mpr (by rw[h];exact zA.mpr ⟨_,k,rfl,rfl⟩))
def lG(h:evT Φ G env c s=.e false s1)(k:(zp Φ G env cs s1).post P):(zp Φ G env (.e (.j c a .f) cs) s).post P:=zi.mpr (V0.mpr (by rw[h];refine zA.mpr ?_;rw[if_neg Ag];exact qO.mpr k))
def gD(h:evT Φ G env c s=.e true s1)(k:(zp Φ G env a s1).post (qZ Φ G cs P)):(zp Φ G env (.e (.j c a b) cs) s).post P:=zi.mpr (V0.mpr (by rw[h];refine zA.mpr ?_;rw[if_pos rfl];exact k))
def WC(h:evE Φ G env a s=.e (.e b) s1):evE Φ G env (.G a) s=.e (.e !b) s1:=bnd h rfl
def vP(k:P (.a env) s):(zp Φ G env .f s).post P:=qO.mpr k
def Yn{is:List Nat}{vs:List Val}{P:Fl->Sto->Prop}(N:vs.length=is.length)(k:P (.a ((is.zip vs).foldl (λe p=>e.set p.1 (some p.2)) env)) s):(if vs.length=is.length then Out.e (Fl.a ((is.zip vs).foldl (λe p=>e.set p.1 (some p.2)) env)) s else .d).post P:=by rw[if_pos N];exact zA.mpr k
def Tf{k:Nat}(h:evE Φ G env e s=.e (.c (k:Int)) s1)(hk:k<=zN):zo Φ G env (.d e) s=.e ⟨yR 0 k,none⟩ s1:=by rw[post_eq];refine qN.mpr ?_;rw[h];exact zA.mpr ⟨_,rfl,⟨⋯,⋯⟩,by rw[BC],rfl⟩
def cF{i j:Nat}(h:evE Φ G env a s=.e (.c (i:Int)) s1)(h':evE Φ G env b s1=.e (.c (j:Int)) s2)(hi:i<=1000)(N:j<=1000):zo Φ G env (.g a b) s=.e ⟨yR i (j-i),none⟩ s2:=by rw[post_eq];refine mi.mpr ?_;rw[h];refine zA.mpr ?_;rw[h'];exact zA.mpr ⟨_,_,rfl,rfl,⟨⋯,⋯,⋯,⋯,by unfold zN;omega⟩,by congr 2;omega,rfl⟩
def az(h:evT Φ G env c s=.e a s)(k:evT Φ G env d s=.e b s):evT Φ G env (.b c (.b d .a)) s=.e (a&&b) s:=bnd h (by
 cases a with
 |false=>rfl
 |true=>exact bnd k (by cases b<;>rfl))
def nP(h:evT Φ G env c s=.e b s):yD Φ G env (.b c .a) s=.e b s:=bnd h (by cases b<;>rfl)
def Uw(h:yp Φ G env es s=.e vs s1)(N:vs.length<=zN):evE Φ G env (.u true es) s=.e (.j s1.length) (s1++[.c vs]):=bnd h (if_pos N)
def gE(he:evE Φ G env e s=.e v s1)(N:evE Φ G env o s1=.e (.j r) s1)(hi:evE Φ G env i s1=.e (.c k) s1)(hs:s1[r]?=some (.c vs))(R:L2.ixN vs.length k=some j)
 (q:(zp Φ G env cs (s1.set r (.c (vs.set j v)))).post P):(zp Φ G env (.e (.l o i e) cs) s).post P:=by
 have e0:exS Φ G env (.l o i e) s=.e (.a env) (s1.set r (.c (vs.set j v))):=by show ((evE Φ G env e s).bind _)=_;rw[he,zJ,N,zJ,hi,zJ];simp only[hs,R];rfl
 refine zi.mpr ?_;rw[e0];exact zA.mpr q
def ur(h:v.noRef=true):(yJ false s v s).post λx t=>x=v/\t=s:=by rw[yK h];exact zA.mpr ⟨rfl,rfl⟩
noncomputable def xX(l m:Int):Val->Bool
 |.c i=>decide (l<=i)&&decide (i<=m)
 |_=>false
def p9(R:l<=i)(N:i<=m):xX l m (.c i)=true:=by simp[xX,R,N]
def lV(Φ:Calls):Prop:=∀(v:Val) (l m:Int) (s:Sto),kindOf v≠none->Φ "is_whole" 0 [v,.c l,.c m] s=.e (.e (xX l m v)) s
def jq(Φ:Calls):Prop:=∀(vs:List Val) (l m:Int) (s:Sto),(∀v∈vs,kindOf v≠none)->Φ "are_wholes" 0 [.g vs,.c l,.c m] s=.e (.e (vs.all (xX l m))) s
def rM(Φ:Calls):Prop:=∀(i l m:Int) (s:Sto),l<=i->i<=m->Φ "need_whole" 0 [.c i,.c l,.c m] s=.e .h s
def sN(Φ:Calls):Prop:=∀(i:Int) (s:Sto),0<=i->i<=40->Φ "need_length" 0 [.c i] s=.e .h s
def iU:blt .a m [.g vs] s=.e (.c vs.length) s:=rfl
def Vb:blt .a m [.o ns] s=.e (.c ns.length) s:=by simp[blt,y9]
def cw:blt .a m [.r ns] s=.e (.c ns.length) s:=by simp[blt,y9]
def le_int:zQ .e (.c a) (.c b) s=.e (.e (decide (a<=b))) s:=rfl
def lt_int:zQ .l (.c a) (.c b) s=.e (.e (decide (a<b))) s:=rfl
def ge_int:zQ .j (.c a) (.c b) s=.e (.e (decide (b<=a))) s:=rfl
def gt_int:zQ .h (.c a) (.c b) s=.e (.e (decide (b<a))) s:=rfl
def Z0:blt .i m [.g vs,.t "tuple"] s=.e (.e true) s:=rfl
theorem sQ{N:Type}f:∀xs:List N,boolsOf (xs.map λx=>Val.e (f x))=some (xs.map f)
 |[]=>rfl
 |x::xs=>by simp[boolsOf,sQ f xs]
def TQ{N R:Type}(f:N->R)(xs:List N):xs.flatMap (λx=>[f x])=xs.map f:=by
 induction xs with
 |nil=>rfl
 |cons x xs S=>simp[S]
def eW:binOp m .a (.c i) (.c j) s=.e (.c (i+j)) s:=by simp only[binOp]
def ef:binOp m .e (.c i) (.c j) s=.e (.c (i-j)) s:=by simp only[binOp]
def eY(h:-1000000<=i/\i<=1000000):binOp m .b (.c i) (.c j) s=.e (.c (i*j)) s:=by simp only[binOp];rw[if_pos (.inl ⋯)]
def j4(h:-1000000<=j/\j<=1000000):binOp m .b (.c i) (.c j) s=.e (.c (i*j)) s:=by simp only[binOp];rw[if_pos (.inr ⋯)]
def cC(h:kindOf v=some a)(h':t6 n=some c):blt .i m [v,.t n] s=.e (.e (a.sub c)) s:=by simp only[blt];rw[h,h']
def VU(h:kindOf v=some a):(∃i,v=.c i)\/(∃b,v=.e b)\/(a.sub .b=false/\∀l m,xX l m v=false):=by
 cases v with
 |c i=>exact .inl ⟨i,rfl⟩
 |e b=>exact .inr (.inl ⟨b,rfl⟩)
 |_=>cases h<;>exact .inr (.inr ⟨rfl,λ_ _=>rfl⟩)
def YJ(h:kindOf v≠none):∃a,kindOf v=some a:=Option.ne_none_iff_exists'.mp h
def fw(hk:kindOf v≠none):run T Φ F.w9 [v,.c l,.c m] s=.e (.e (xX l m v)) s:=by
 obtain⟨a,R⟩:=YJ hk;have S:=cC (m:=false) (s:=s) R (show t6 "int"=some .b from rfl);have U:=cC (m:=false) (s:=s) R (show t6 "bool"=some .i from rfl);have N:∀{b:Bool},b=xX l m v->(yJ false s (.e b) s).post λx t=>x=.e (xX l m v)/\t=s:=λ{b} e=>by rw[yK vG,e];exact zA.mpr ⟨rfl,rfl⟩
 rw[post_eq,F.w9,wq];refine⟨rfl,?_⟩;show (zp Φ T.b [some v,some (.c l),some (.c m)] _ s).post _;rcases VU R with⟨i,rfl⟩|⟨b,rfl⟩|⟨Z,Y⟩
 . cases R
   have X:evE Φ T.b [some (.c i),some (.c l),some (.c m)] (.y .e .e (.e 1) (.e 0) (.e 2)) s=.e (.e (xX l m (.c i))) s:=by
    refine bnd (zE rfl) (bnd (zE rfl) (bnd le_int ?_));show (match Val.e (decide (l<=i)) with
     |.e true=>(evE Φ T.b [some (.c i),some (.c l),some (.c m)] (.e 2) s).bind λz W=>zQ .e (.c i) z W
     |.e false=>.e (.e false) s
     |_=>.d)=Out.e (.e (decide (l<=i)&&decide (i<=m))) s
    cases decide (l<=i) with
    |true=>exact bnd (zE rfl) le_int
    |false=>rfl
   exact xZ (ZI (vq (zB (zE rfl) (zB ZL zM)) S) (WC (vq (zB (zE rfl) (zB ZL zM)) U)) X) (N rfl)
 . cases R
   exact xZ (Uu (vq (zB (zE rfl) (zB ZL zM)) S) (WC (vq (zB (zE rfl) (zB ZL zM)) U))) (N rfl)
 . rw[Z]at S
   exact xZ (Ut (vq (zB (zE rfl) (zB ZL zM)) S)) (N (Y _ _).symm)
def jM(c:lV Φ)(hk:∀v∈vs,kindOf v≠none):run T Φ F.xj [.g vs,.c l,.c m] s=.e (.e (vs.all (xX l m))) s:=by
 rw[post_eq];simp[F.xj,EVl,zT,zG];refine bW (λe=>∃o,e=[o,some (.c l),some (.c m)]) (λx=>[.e (xX l m x)]) ?_;simp[EVl,zT,zG];refine⟨?_,?_⟩
 . intro x hx
   simp[EVl,zT,zG,c x l m s (hk x hx)]
 . simp[newList,EVl,zT,zG,blt,TQ,yL,sQ]
def qt(c:lV Φ)(R:l<=i)(N:i<=m):run T Φ F.xn [.c i,.c l,.c m] s=.e .h s:=by rw[post_eq];simp[F.xn,EVl,zT,zG,c (.c i) l m s (by simp[kindOf]),p9 R N]
def oo(h:x∈yR lo n):∃k:Nat,k<n/\x=.c (lo+k):=by unfold yR at h;obtain⟨k,N,rfl⟩:=AO.mp h;exact⟨k,Al.mp N,rfl⟩
def Xx ns lo st n:L2.zr (ns.map Val.c) lo st n=(L2.zr ns lo st n).map Val.c:=by unfold L2.zr;rw[List.map_filterMap];congr 1;funext k;simp[Am]
def oP a b:Ck (.int a) (.int b)=decide (a=b):=by by_cases h:a=b<;>simp[Ck,h]
def eq_int:zQ .b (.c a) (.c b) s=.e (.e (decide (a=b))) s:=by simp[zQ,zw,yr,nz,Val.isD,Val.d,HA,oP]
def ne_int:zQ .g (.c a) (.c b) s=.e (.e !(decide (a=b))) s:=by simp[zQ,zw,yr,nz,Val.isD,Val.d,HA,oP]
def cJ{k:Nat}(h:vs[k]?=some v):vU (.g vs) (.c k) s=.e v s:=by simp[vU,y9,L2.rA h]
def tx{ns:List Int}{k:Nat}(h:ns[k]?=some i):vU (.g (ns.map .c)) (.c k) s=.e (.c i) s:=cJ (by rw[Am,h];rfl)
def g9{ns:List Int}:∀v∈ns.map Val.c,kindOf v≠none:=λv N=>by obtain⟨i,_,rfl⟩:=AO.mp N;simp[kindOf]
def lh{ns:List Int}(h:∀x∈ns,l<=x/\x<=m):(ns.map Val.c).all (xX l m)=true:=by rw[A5];intro v N;obtain⟨i,hi,rfl⟩:=AO.mp N;exact p9 (h i hi).1 (h i hi).2
noncomputable abbrev tpI(ns:List Int):Val:=.g (ns.map .c)
section
variable {T:Tbl}{Φ:Calls}{s:Sto}
def qz(Φ:Calls):Prop:=∀(zs:List Int) (s:Sto),Sz zs->Φ "are_sizes" 0 [tpI zs] s=.e (.e true) s
def rK(Φ:Calls):Prop:=∀(zs:List Int) (s:Sto),Sz zs->Φ "need_sizes" 0 [tpI zs] s=.e .h s
def qq(c:qz Φ)(h:Sz zs):run T Φ F.xm [tpI zs] s=.e .h s:=by rw[post_eq];simp[F.xm,EVl,zT,zG,c zs s h]
def oB(h:a.length+b.length<=zN):binOp m .a (.g a) (.g b) s=.e (.g (a++b)) s:=by simp only[binOp];rw[if_pos h]
end
def oS{N R:Type}f(g:N->R)(xs:List N):xs.flatMap (λx=>if f x then [g x] else [])=(xs.filter f).map g:=by
 induction xs with
 |nil=>rfl
 |cons x xs S=>
  rw[BQ,S];cases h:f x<;>simp[h]
section
variable {T:Tbl}{Φ:Calls}{s:Sto}
noncomputable def yI(hs:List Nat):Val:=.g (hs.map λ(k:Nat)=>Val.c k)
end
noncomputable def qP(a b:Int):Cel:=.c [.c a,.c b]
def sP(s:Sto)(p:Nat):Prop:=∃a b,s[p]?=some (qP a b)/\0<=b/\b<2147483629
def uF(s:Sto)(p:Nat)(s':Sto):Prop:=∃a b,s'=s.set p (qP a b)/\0<=b/\b<2147483629
def sP.lt(h:sP s p):p<s.length:=by obtain⟨a,b,h,_⟩:=h;exact(As.mp h).1
def uF.at_(h:uF s p s')(hp:p<s.length):sP s' p:=by obtain⟨a,b,rfl,N⟩:=h;exact⟨a,b,BD hp,N⟩
def fC(h:uF s p s')(N:v.noRef=true):yJ false s v (s'++t)=.e v s':=by obtain⟨a,b,rfl,_⟩:=h;exact kL N rfl
def qB(h:uF s p s')(N:v.noRef=true):yJ false s v s'=.e v s':=by
 have:=fC (t:=[]) h N
 rwa [AR]at this
def bmod(h:0<j):binOp m .d (.c i) (.c j) s=.e (.c (i%j)) s:=by simp only[binOp];rw[if_pos h]
def bdiv(h:0<j/\j<1073741824):binOp m .c (.c i) (.c j) s=.e (.c (i/j)) s:=by simp only[binOp];rw[if_pos h]
def cI{k:Nat}(h:vs[k]?=some v):vU (.f vs) (.c k) s=.e v s:=by simp[vU,y9,L2.rA h]
def Wr{i k:Nat}(hs:s[i]?=some (.c vs))(h:vs[k]?=some v):vU (.j i) (.c k) s=.e v s:=by simp[vU,y9,hs,L2.rA h]
section
variable {T:Tbl}{Φ:Calls}{s:Sto}
def XU(Φ:Calls):Prop:=∀(ns:List Int) (k:Nat) (s:Sto),∃c,Φ "_law_cell_at" 0 [.r ns,.c k] s=.e (.c c) s
def Uz(Φ:Calls):Prop:=∀(c:Int) (s:Sto),∃a b,Φ "_law_pen" 1 [.c c] s=.e (.j s.length) (s++[qP a b])/\0<=b/\b<2147483629
def eN(Φ:Calls):Prop:=∀(p:Nat) (m:Int) (s:Sto),sP s p->0<m->m<1000000->(Φ "_law_draw" 0 [.j p,.c m] s).post λv s'=>∃r:Nat,v=.c r/\(r:Int)<m/\uF s p s'
def aO ns(k:Nat):∃c,run T Φ F.yf [.r ns,.c k] s=.e (.c c) s:=by
 by_cases h:k<ns.length
 . refine⟨ns[k],?_⟩
   rw[post_eq];have h':(k:Int)<ns.length:=by omega
   have e:(ns.map Val.c)[k]?=some (.c ns[k]):=by rw[Am,dS h];rfl
   have N:vU (.r ns) (.c k) s=.e (.c ns[k]) s:=by simp[vU,y9,L2.rA e]
   simp[F.yf,EVl,zT,zG,cw,lt_int,h',h,N]
 . refine⟨0,?_⟩
   rw[post_eq];have h':¬(k:Int)<ns.length:=by omega
   simp[F.yf,EVl,zT,zG,cw,lt_int,h',h]
def Y4 c:∃a b,run T Φ F.yn [.c c] s=.e (.j s.length) (s++[qP a b])/\0<=b/\b<2147483629:=by
 have key:(run T Φ F.yn [.c c] s).post λv s'=>∃a b,v=.j s.length/\s'=s++[qP a b]/\0<=b/\b<2147483629:=by
  have U:∀(i:Int) (b:Bool),binOp false .b (.c i) (.c (if b then 1 else 0)) s=.e (.c (i*(if b then 1 else 0))) s:=λi b=>j4 (by cases b<;>simp)
  have S:∀i:Int,binOp false .d (.c i) (.c 2147483629) s=.e (.c (i%2147483629)) s:=λi=>by simp[binOp]
  have R:binOp false .g (.c 10) (.c 18) s=.e (.c (10 ^ 18)) s:=by simp[binOp]
  simp[F.yn,EVl,zT,zG,ef,blt];simp[EVl,zT,zG,U,S,R,ge_int,blt,zN,newList,qP];rw[j4 (by split<;>omega)]
  simp only[zA];rw[bmod ⋯]
  simp only[zA];exact⟨trivial,_,_,⟨trivial,rfl,rfl⟩,HW _ ⋯,GO _ ⋯⟩
 obtain⟨v,s',h,a,b,rfl,rfl,N⟩:=key;exact⟨a,b,h,N⟩
def aP(hp:sP s p)(h0:0<m)(h1:m<1000000):(run T Φ F.xN [.j p,.c m] s).post λv s'=>∃r:Nat,v=.c r/\(r:Int)<m/\uF s p s':=by
 have S:=hp.lt;obtain⟨a,b,hs,Y,U⟩:=hp;have ix:∀{s:Sto} {a b:Int} {k:Nat} {v:Val},s[p]?=some (qP a b)->[Val.c a,.c b][k]?=some v->vU (.j p) (.c k) s=.e v s:=λh h'=>Wr h h';have N:∀{x:Int} {s':Sto},uF s p s'->(yJ false s (.c (x%m)) s').post λv s'=>∃r:Nat,v=.c r/\(r:Int)<m/\uF s p s':=λ{x s'} t=>by
  rw[qB t bM];have h3:=HW x (show m≠0 by omega)
  have Z:=GO x h0;exact zA.mpr ⟨(x%m).toNat,by congr 1;omega,⋯,t⟩
 rw[F.xN,wq];refine⟨rfl,?_⟩;show (zp Φ T.b [some (.j p),some (.c m),none,none,none] _ s).post _;have tc:evT Φ T.b [some (.j p),some (.c m),none,none,none] (.a (.q .h (.s (.e 0) (.g (.c 0))) (.g (.c 0)))) s=.e (decide (0<a)) s:=vk (wU (uf (zE rfl) zV (ix (k:=0) hs rfl)) zV gt_int) yd;cases hd:decide (0<a) with
 |true=>
  rw[hd]at tc;refine gD tc (UR (env':=[some (.j p),some (.c m),some (.c (a/m)),some (.c (a%m)),none]) (vq (zB (uf (zE rfl) zV (ix (k:=0) hs rfl)) (zB (zE rfl) zM)) (show blt .c false [.c a,.c m] s=.e (.g [.c (a/m),.c (a%m)]) s by simp only[blt];rw[if_pos ⟨h0,⋯⟩])) rfl ?_)
  exact gE (j:=0) (zE rfl) (zE rfl) zV hs rfl (xZ (zE rfl) (N ⟨a/m,b,rfl,Y,U⟩))
 |false=>
  rw[hd]at tc;refine lG tc ?_;refine gE (j:=1) (ye (ye (ye (uf (zE rfl) zV (ix (k:=1) hs rfl)) zV (j4 ⋯)) zV eW) zV (bmod ⋯)) (zE rfl) zV hs rfl ?_
  generalize hx:(b*48271+30269)%2147483629=x;have X:0<=x:=by rw[<-hx];exact HW _ ⋯
  have W:x<2147483629:=by rw[<-hx];exact GO _ ⋯
  have R:(s.set p (qP a x))[p]?=some (qP a x):=BD S;show (zp Φ T.b [some (.j p),some (.c m),none,none,none] _ (s.set p (qP a x))).post _;refine yy (ye (ye (ye (ye (uf (zE rfl) zV (ix (k:=1) R rfl)) (uf (zE rfl) zV (ix (k:=1) R rfl)) (show binOp false .b (.c x) (.c x) _=_ by simp only[binOp];rw[if_pos (.inl ⋯)])) (ye zV (uf (zE rfl) zV (ix (k:=1) R rfl)) (eY ⋯)) eW) zV eW) zV (bmod ⋯)) ?_
  exact xZ (ye (ye (zE rfl) zV (bdiv ⟨⋯,⋯⟩)) (zE rfl) (bmod h0)) (N ⟨a,x,rfl,X,W⟩)
end
def jw(h:vs.length<zN):xP .b (.j s.length) [y] (s++[.c vs])=.e .h (s++[.c (vs++[y])]):=by simp[xP,h,upd]
def Y2 lo n:(yR lo n).length=n:=by unfold yR;rw[Aa,A0]
def aM lo k:yR lo (k+1)=.c lo::yR (lo+1) k:=by
 unfold yR;rw[FF,AB,BI];congr 1
 . simp
 . refine CD λj _=>?_
   show Val.c (lo+((j+1:Nat):Int))=Val.c (lo+1+(j:Int));congr 1;omega
def pf(h:x::rest=yR lo k):∃N,k=N+1/\x=.c lo/\rest=yR (lo+1) N:=by
 cases k with
 |zero=>simp[yR]at h
 |succ k=>
  rw[aM]at h;injection h with h1 h2
  exact⟨k,rfl,h1,h2⟩
def hX(h:[]=yR lo k):k=0:=by have:=congrArg FE h;rw[Y2]at this;exact this.symm
theorem v3:∀ks:List Int,vb (ks.map .c)=true
 |[]=>by rw[Eo,vb]
 |k::ks=>by rw[AB,vb,v3 ks,Val.isD];rfl
def eq_nil(h:vb vs=true):zQ .b (.f vs) (.f []) s=.e (.e vs.isEmpty) s:=by
 have W:(Val.f vs).isD=true:=by rw[Val.isD];exact h
 have U:(Val.f []).isD=true:=by rw[Val.isD,vb]
 have S:(Val.f []).d=.list []:=by rw[Val.d,ds]
 have R:(Val.f vs).d=.list (ds vs):=by rw[Val.d]
 have N:Ck (.list (ds vs)) (.list [])=vs.isEmpty:=by
  cases vs with
  |nil=>rw[ds];rfl
  |cons v vs=>rw[ds];rfl
 simp only[zQ,zw,yr,nz,W,U,S,R,N];rfl
noncomputable def TN(bad:Int->Bool):Val->List Val
 |.c x=>if bad x then [.c x] else []
 |_=>[]
def Zn bad(ks:List Int):(ks.map Val.c).flatMap (TN bad)=(ks.filter bad).map .c:=by rw[HB,<-oS];rfl
def RT{ks:List Int}{bad:Int->Bool}(hi:zo Φ G env it s=.e ⟨ks.map .c,none⟩ s)(h0:zG fr env=none::e0)(h:∀k∈ks,yD Φ G (some (.c k)::e0) ifs s=.e (bad k) s):evE Φ G env (.p false N fr (.e 0) (.a 0) it ifs) s=.e (.f ((ks.filter bad).map .c)) s:=by
 refine post_eq.mpr (nA (λe=>∃o,e=o::e0) (TN bad) (ks.map .c) (s1:=s) hi ⟨none,h0⟩ ?_ (by rw[Zn];exact zA.mpr ⟨rfl,rfl⟩))
 rintro v R e ⟨o,rfl⟩;obtain⟨k,hk,rfl⟩:=AO.mp R;refine⟨_,rfl,⟨_,rfl⟩,?_⟩;show (yD Φ G (some (.c k)::e0) ifs s).post _;rw[h k hk];refine zA.mpr ⟨rfl,?_⟩;show if bad k=true then _ else (if bad k then [Val.c k] else [])=[]
 cases hb:bad k with
 |true=>
  rw[if_pos rfl];refine pV.mpr ⟨_,rfl,rfl,?_⟩;show (if bad k then [Val.c k] else [])=_
  rw[hb,if_pos rfl]
 |false=>rw[if_neg Ag,if_neg Ag]
def nT(h:env[i]?=some (some (tpI ns))):evE Φ G env (.l .a m (.a (.e i) .b)) s=.e (.c (ns.length:Nat)) s:=vq (zB (zE h) zM) (by rw[iU,Aa])
def fq lo n:yR lo n=((Ah n).map λ(k:Nat)=>lo+(k:Int)).map .c:=by unfold yR;rw[BI];rfl
def fN(L:L2.qe k w d)(hk:k<=50)(hw:w<=300000)(hd:d.hasDict=false):t9 d=true:=by
 have:=L.a;have:=L.f;unfold t9;rw[L.c,L.b,hd,decide_eq_true (show d.depth<=50 by omega),decide_eq_true (show d.weight<=300000 by omega)]
 rfl
theorem oM:∀ks:List Int,ds (ks.map .c)=ks.map Gm
 |[]=>by rw[Eo,ds];rfl
 |k::ks=>by rw[AB,ds,oM ks,Val.d];rfl
theorem pO:∀ks:List Int,uz (ks.map .c)=true
 |[]=>by rw[Eo,uz]
 |k::ks=>by rw[AB,uz,pO ks,Val.isR];rfl
def Zu hs:yI hs=tpI (hs.map λ(k:Nat)=>(k:Int)):=by unfold yI tpI;rw[BI];rfl
def max2:blt .j m [.c i,.c j] s=.e (.c (if j > i then j else i)) s:=rfl
def min2:blt .k m [.c i,.c j] s=.e (.c (if j<i then j else i)) s:=rfl
def di{K:Nat}(h0:env[0]?=some (some (.r ns)))(N:K<=100) :
 zo Φ G env (.d (.l .j false (.a (.g (.c 1)) (.a (.l .k false (.a (.l .a false (.a (.e 0) .b)) (.a (.g (.c K)) .b))) .b)))) s=.e ⟨yR 0 (max 1 (min ns.length K)),none⟩ s:=by
 rw[post_eq];simp only[EVl,zT,zG];refine⟨_,h0,?_⟩;rw[cw];simp only[zA];rw[min2];simp only[zA];rw[max2];simp only[zA];have e:(if (if (K:Int)<(ns.length:Int) then (K:Int) else (ns.length:Int)) > 1 then (if (K:Int)<(ns.length:Int) then (K:Int) else (ns.length:Int)) else 1)=((max 1 (min ns.length K):Nat):Int):=by split<;>split<;>omega
 rw[e];refine⟨_,rfl,⟨⋯,by unfold zN;omega⟩,?_⟩
 simp
end M
end
section
namespace M
open L2
noncomputable def nW(ns:List Int)(f d z:Nat)(h:Int):Bool:=(Ah z).all λk=>decide (ns[f+k*d]?=some h)
def xO:nW ns f d z h=true↔∀k<z,ns[f+k*d]?=some h:=by unfold nW;rw[A5];exact⟨λH k hk=>of_decide_eq_true (H k (Al.mpr hk)),λH k hk=>decide_eq_true (H k (Al.mp hk))⟩
noncomputable def xq(ns:List Int)(z:Nat)(h:Int):Bool:=(Ah (ns.length/(z-1))).any λj=>(Ah (z-1)).all λk=>decide (ns[ns.length-(k+1)*(j+1)]?=some h)
def iF(U:2<=z):xq ns z h=true↔∃d,0<d/\(z-1)*d<=ns.length/\∀k,1<=k->k<z->ns[ns.length-k*d]?=some h:=by
 unfold xq;rw[CM];constructor
 . rintro ⟨j,N,H⟩
   rw[Al,F4,F5 ⋯,B8]at N
   rw[A5]at H;refine⟨j+1,⋯,N,λk S R=>?_⟩
   have:=of_decide_eq_true (H (k-1) (Al.mpr ⋯))
   rwa [show k-1+1=k by omega]at this
 . rintro ⟨d,S,R,H⟩
   refine⟨d-1,?_,?_⟩
   . rw[Al,F4,F5 ⋯,show d-1+1=d by omega,B8];exact R
   . rw[A5]
     intro k hk;rw[Al]at hk;rw[show d-1+1=d by omega]
     exact decide_eq_true (H (k+1) ⋯ ⋯)
def lW(zs ns:List Int):Prop:=∀h f d,h<zs.length->0<d->f+d*(yB zs h-1)<ns.length->nW ns f d (yB zs h) h≠true
structure Fit(zs ns:List Int):Prop where
 b:∀x∈ns,0<=x/\x<zs.length
 c:lW zs ns
def qT{h:Int}(hi:i<ns.length):(ns++[h])[i]?=ns[i]?:=AW hi
def YM{h0:Nat}(hF:lW zs ns)(W:h<zs.length)(hd:0<d)(S:f+d*(yB zs h-1)<(ns++[(h0:Int)]).length)(X:2<=yB zs h)(R:nW (ns++[(h0:Int)]) f d (yB zs h) h=true) :
 f+d*(yB zs h-1)=ns.length/\h=h0:=by
 rw[Aq,BE]at S;rw[xO]at R;have key:f+d*(yB zs h-1)=ns.length:=by
  apply Gh ⋯
  refine Nat.not_lt.mp λN=>hF h f d W hd N ?_;rw[xO];intro k hk;have U:k*d<=(yB zs h-1)*d:=DK _ ⋯
  have e:=B8 d (yB zs h-1);rw[<-R k hk,qT ⋯]
 refine⟨key,?_⟩;have:=R (yB zs h-1) ⋯
 rw[B8,key,AX (Ac _),Fi]at this;have:=AK this;omega
def Wc{h0:Nat}(R:2<=z)(hd:0<d)(W:f+d*(z-1)=ns.length)(N:nW (ns++[(h0:Int)]) f d z h0=true):xq ns z h0=true:=by
 rw[iF R];rw[xO]at N;have e:=B8 d (z-1);refine⟨d,hd,⋯,λk S X=>?_⟩
 have hk:=N (z-1-k) ⋯
 have Y:(z-1-k)*d+k*d=(z-1)*d:=by rw[<-HX];congr 1;omega
 have hp:1*1<=k*d:=DQ S hd;have U:f+(z-1-k)*d=ns.length-k*d:=by omega
 rw[U,qT ⋯]at hk
 exact hk
def Vk{h0:Nat}(N:2<=z)(he:xq ns z h0=true):∃f d,0<d/\f+d*(z-1)=ns.length/\nW (ns++[(h0:Int)]) f d z h0=true:=by
 rw[iF N]at he;obtain⟨d,hd,S,H⟩:=he;have e:=B8 d (z-1);refine⟨ns.length-(z-1)*d,d,hd,⋯,?_⟩
 rw[xO];intro k hk;have U:(z-1-k)*d+k*d=(z-1)*d:=by rw[<-HX];congr 1;omega
 have R:ns.length-(z-1)*d+k*d=ns.length-(z-1-k)*d:=by omega
 rw[R];by_cases hc:k=z-1
 . subst hc
   rw[Fi,Nat.zero_mul,Hk,AX (Ac _),Fi];rfl
 . have hp:1*1<=(z-1-k)*d:=DQ ⋯ hd
   rw[qT ⋯]
   exact H (z-1-k) ⋯ ⋯
def gf(R:Sz zs)(hF:lW zs ns)(S:h0<zs.length):lW zs (ns++[(h0:Int)])↔xq ns (yB zs h0) h0=false:=by
 have z2:=(vi R S).2.1;constructor
 . intro H
   cases he:xq ns (yB zs h0) h0 with
   |false=>rfl
   |true=>
    obtain⟨f,d,hd,hl,N⟩:=Vk z2 he;exact(H h0 f d S hd (by rw[Aq,BE];omega) N).elim
 . intro he h f d W U X N
   obtain⟨Z,Y⟩:=YM hF W U X (vi R W).2.1 N;subst Y;rw[Wc z2 U Z N]at he;cases he
def Fit.snoc(N:Sz zs)(hF:Fit zs ns)(R:h0<zs.length)(he:xq ns (yB zs h0) h0=false):Fit zs (ns++[(h0:Int)]):=by
 refine⟨λx hx=>?_,(gf N hF.c R).mpr he⟩;rcases AQ.mp hx with hx|hx
 . exact hF.b x hx
 . rw[Az.mp hx];omega
def eU(N:1<=z)(R:f+d*(z-1)<ns.length):nW ns.reverse f d z h=nW ns (ns.length-1-(f+d*(z-1))) d z h:=by
 rw[BV,xO,xO];have e:=B8 d (z-1);have key:∀k,k<z->ns.reverse[f+k*d]?=ns[ns.length-1-(f+d*(z-1))+(z-1-k)*d]?:=λk hk=>by
  have S:(z-1-k)*d+k*d=(z-1)*d:=by rw[<-HX];congr 1;omega
  rw[List.getElem?_reverse ⋯]
  congr 1;omega
 constructor
 . intro H k hk
   have:=key (z-1-k) ⋯
   rw[H _ ⋯,show z-1-(z-1-k)=k by omega]at this
   exact this.symm
 . intro H k hk
   rw[key k hk];exact H _ ⋯
def lW.rev(U:Sz zs)(hF:lW zs ns):lW zs ns.reverse:=λh f d S W R N=>by
 rw[EY]at R;have z2:=(vi U S).2.1;rw[eU ⋯ R]at N
 exact hF h _ d S W ⋯ N
theorem Fit.rev(N:Sz zs)(hF:Fit zs ns):Fit zs ns.reverse:=⟨λx hx=>hF.b x (List.mem_reverse.mp hx),hF.c.rev N⟩
def oR zs:Fit zs []:=⟨λx hx=>(by cases hx),λh f d _ _ N _=>absurd N (C4 _)⟩
end M
end
section
namespace F
open PySem M
noncomputable def xk:Fn:=⟨["sizes","strip","hue","end","others","step"],["sizes","strip","hue"],false,(.e (.d 3 (.l .a false (.a (.e 1) .b))) (.e (.d 4 (.h false .e (.s (.e 0) (.e 2)) (.g (.c 1)))) (.e (.g (.a 5) (.g (.g (.c 1)) (.h false .a (.h false .c (.e 3) (.e 4)) (.g (.c 1)))) (.e (.j (.a (.q .b (.P .a false (.K false (.e 1) (.a (.h false .e (.e 3) (.h false .b (.e 4) (.e 5)))) .b (.a (.e 5))) (.a (.e 2) .b)) (.e 4))) (.e (.f (.g (.e false))) .f) .f) .f)) (.e (.f (.g (.e true))) .f))))⟩
end F
end
section
namespace M
open PySem
structure Gl4(T:Tbl):Prop where
 mp:T.b "MOST_PLACES"=some (.c 40)
 ls:T.b "LEAST_SIZE"=some (.c 2)
 ms:T.b "MOST_SIZE"=some (.c 8)
 hu:T.b "HUES"=some (.o [0,1,2,3])
def qp(g:Gl4 T)(c:jq Φ)(h:Sz zs):run T Φ F.wI [tpI zs] s=.e (.e true) s:=by
 rw[post_eq];have N:=c (zs.map .c) 2 8 s g9;rw[lh h.2.2]at N;have S:(1:Int)<=(zs.length:Int):=by have:=h.1;omega
 have R:(zs.length:Int)<=4:=by have:=h.2.1;omega
 simp[F.wI,EVl,zT,zG,Z0,iU,Vb,g.hu,g.ls,g.ms,le_int,N,S,R]
def Zc{n f d s:Nat}(hd:0<d)(hs:1<=s)(h:f+d*s=n):L2.yT n (some (f:Int)) none (d:Int)=((f:Int),s):=by
 have R:d*s=d*(s-1)+d:=by rw[<-Nat.mul_succ];congr 1;omega
 have e:=Zd (n:=n) (f:=f) hd hs ⋯
 have N:Bi (some (f:Int)) none (d:Int) (n:Int)=Bi (some (f:Int)) (some ((f:Int)+(d:Int)*(s:Int))) (d:Int) (n:Int):=by
  have e0:(f:Int)+(d:Int)*(s:Int)=(n:Int):=by rw[<-h,Int.natCast_add,E9]
  rw[e0];unfold Bi;simp only[if_neg (show ¬(d:Int)<0 by omega),if_neg (show ¬(f:Int)<0 by omega),if_neg (show ¬(n:Int)<0 by omega)]
  refine Fc rfl ?_;show (n:Int)=min (n:Int) (n:Int);omega
 unfold L2.yT at e ⊢;rw[N];exact e
noncomputable def tB(ns:List Int)(z:Nat)(h:Int)(j:Nat):Bool:=(Ah (z-1)).all λk=>decide (ns[ns.length-(k+1)*(j+1)]?=some h)
def gV(W:2<=z)(X:(z-1)*(j+1)<=ns.length):decide ((((Ah (z-1)).map λk=>ns.getD (ns.length-(z-1)*(j+1)+k*(j+1)) 0).count h:Int)=((z-1:Nat):Int))=tB ns z h j:=by
 have S:((Ah (z-1)).map λk=>ns.getD (ns.length-(z-1)*(j+1)+k*(j+1)) 0).length=z-1:=by rw[Aa,A0]
 have key:∀k,k<z-1->ns.length-(z-1)*(j+1)+k*(j+1)=ns.length-((z-2-k)+1)*(j+1)/\ns.length-((z-2-k)+1)*(j+1)<ns.length:=λk hk=>by
  have N:((z-2-k)+1)*(j+1)+k*(j+1)=(z-1)*(j+1):=by rw[<-HX];congr 1;omega
  have hp:1*1<=((z-2-k)+1)*(j+1):=DQ ⋯ ⋯
  omega
 rw[BV,decide_eq_true_iff];unfold tB;rw[A5];constructor
 . intro e k hk
   have hk:=Al.mp hk;have U:=List.count_eq_length.mp (by rw[S];exact Int.ofNat.inj e)
   obtain⟨R,N⟩:=key (z-2-k) ⋯
   rw[show z-2-(z-2-k)=k by omega]at R N
   have:=U _ (AO.mpr ⟨z-2-k,Al.mpr ⋯,rfl⟩)
   rw[R,Ab,dS N]at this;rw[decide_eq_true_iff,dS N];exact congrArg some this.symm
 . intro H
   have:((Ah (z-1)).map λk=>ns.getD (ns.length-(z-1)*(j+1)+k*(j+1)) 0).count h=z-1:=by
    rw[List.count_eq_length.mpr,S];intro x hx;obtain⟨k,hk,rfl⟩:=AO.mp hx;have hk:=Al.mp hk;obtain⟨R,N⟩:=key k hk;have:=of_decide_eq_true (H (z-2-k) (Al.mpr ⋯))
    rw[R,Ab,this];rfl
   rw[this]
def b6{ns:List Int}(N:ns.length<41):L2.zr ns (L2.yT ns.length none none (-1)).1 (-1) (L2.yT ns.length none none (-1)).2=ns.reverse:=by
 have R:∀n:Nat,n<41->L2.yT n none none (-1)=((n:Int)-1,n):=by decide +kernel
 rw[R _ N];unfold L2.zr;dsimp only;rw[tp (g:=λk=>ns.getD (ns.length-1-k) 0)]
 . refine G9 λi=>?_
   by_cases hi:i<ns.length
   . rw[Am,CC hi,List.getElem?_reverse hi,HV,Ab,dS ⋯];rfl
   . rw[CQ (by simp;omega),CQ (by simp;omega)]
 . intro k hk
   have hk:=Al.mp hk;have:((ns.length:Int)-1+(k:Int)*-1).toNat=ns.length-1-k:=by omega
   rw[this,Ab,dS ⋯];rfl
def Ue:xP .a (tpI st) [.c h] s=.e (.c (st.count h)) s:=by
 have e:∀l:List Int,(l.map Val.c).countP (λz=>eqF z (.c h))=l.count h:=by
  intro l;induction l with
  |nil=>rfl
  |cons a l N=>rw[AB,ED,N,List.count_cons];rfl
 have f:(st.map Val.c).all flat=true:=A5.mpr λv R=>by obtain⟨i,_,rfl⟩:=AO.mp R;rfl
 show (if (flat (.c h)&&(st.map Val.c).all flat)=true then Out.e (Val.c ((st.map Val.c).countP λz=>eqF z (.c h):Nat)) s else .d)=_
 rw[f,e];rfl
section
variable {T:Tbl}{Φ:Calls}{s:Sto}
def WG(Φ:Calls):Prop:=∀(zs ns:List Int) (h:Nat) (s:Sto),Sz zs->ns.length<=40->h<zs.length->Φ "may_follow" 0 [tpI zs,tpI ns,.c h] s=.e (.e !(xq ns (yB zs h) h)) s
def Y3(hz:Sz zs)(hn:ns.length<=40)(hh:h<zs.length):run T Φ F.xk [tpI zs,tpI ns,.c h] s=.e (.e !(xq ns (yB zs h) h)) s:=by
 obtain⟨z1,z2,z3⟩:=vi hz hh;generalize hzz:yB zs h=z at *;have hK:ns.length/(z-1)<=40:=Ao (Nat.div_le_self _ _) hn;have hKm:∀j,j<ns.length/(z-1)->(z-1)*(j+1)<=ns.length:=λj R=>by rw[F4,F5 ⋯,B8]at R;exact R
 have he:xq ns z h=(Ah (ns.length/(z-1))).any (tB ns z h):=rfl;have hdv:binOp false .c (.c (ns.length:Nat)) (.c ((z-1:Nat):Int)) s=.e (.c (ns.length/(z-1):Nat)) s:=by rw[bdiv ⋯,<-Hz]
 generalize hKK:ns.length/(z-1)=K at *;rw[post_eq,F.xk,wq];refine⟨rfl,?_⟩;show (zp Φ T.b [some (tpI zs),some (tpI ns),some (.c h),none,none,none] _ s).post _;refine yy (nT rfl) (yy (ye (uf (zE rfl) (zE rfl) (tx z1)) zV ef) ?_);rw[show ((z:Int)-1)=((z-1:Nat):Int) by omega]
 show (zp Φ T.b [some (tpI zs),some (tpI ns),some (.c h),some (.c ns.length),some (.c ((z-1:Nat):Int)),none] _ s).post _;refine zi.mpr (y7 (λrest e s'=>s'=s/\(∃X,e=[some (tpI zs),some (tpI ns),some (.c h),some (.c ns.length),some (.c ((z-1:Nat):Int)),X])/\∃N:List Nat,rest=N.map (λ(j:Nat)=>Val.c (1+(j:Int)))/\(∀j∈N,j<K)/\xq ns z h=N.any (tB ns z h)) (yR 1 K) (s1:=s) (cF (i:=1) (j:=K+1) zV (ye (ye (zE rfl) (zE rfl) hdv) zV eW) ⋯ ⋯) ⟨rfl,⟨_,rfl⟩,Ah K,rfl,λj R=>Al.mp R,he⟩ ?_ ?_)
 . rintro x rest e s' ⟨rfl,⟨X,rfl⟩,N,U,hb,S⟩
   cases N with
   |nil=>cases U
   |cons j N=>
    rw[AB]at U;injection U with hx U
    subst hx;refine⟨_,rfl,?_⟩;have R:=hKm j (hb j (.head _));have W:=gV (h:=(h:Int)) z2 R;obtain⟨d,hd0⟩:∃d,d=j+1:=⟨_,rfl⟩;have hd:(1+(j:Int))=(d:Int):=by omega
    rw[<-hd0]at R W;have d0:0<d:=by omega
    obtain⟨w,hw⟩:∃w,w=z-1:=⟨_,rfl⟩;have w1:1<=w:=by omega
    have w8:w<=8:=by omega
    rw[<-hw]at R W ⊢;have m1:binOp false .b (.c (w:Int)) (.c (d:Int)) s'=.e (.c ((w*d:Nat):Int)) s':=by rw[eY ⋯,E9]
    obtain⟨f,Z⟩:∃f,f=ns.length-w*d:=⟨_,rfl⟩;rw[<-Z]at W;have m2:binOp false .e (.c (ns.length:Nat)) (.c ((w*d:Nat):Int)) s'=.e (.c (f:Int)) s':=by rw[ef,show ((ns.length:Nat):Int)-((w*d:Nat):Int)=(f:Int) by omega]
    have hm:d*w=d*(w-1)+d:=by rw[<-Nat.mul_succ,Nat.succ_eq_add_one,Nat.sub_add_cancel w1]
    have hcm:=B8 d w;have Y:sG false (tpI ns) (some (f:Int)) none (some (d:Int)) s'=.e (tpI ((Ah w).map λk=>ns.getD (f+k*d) 0)) s':=by
     have e5:L2.yT ns.length (some (f:Int)) none (d:Int)=((f:Int),w):=Zc d0 w1 ⋯
     have hl:w<=zN:=by unfold zN;omega
     have hdI:(d:Int)≠0:=by omega
     simp only[sG,Aa,e5];rw[if_pos ⟨hdI,hl⟩];simp only[Xx];rw[b7 ⋯]
    generalize (Ah w).map (λk=>ns.getD (f+k*d) 0)=xs at *;rw[hd];show (zp Φ T.b [some (tpI zs),some (tpI ns),some (.c h),some (.c ns.length),some (.c (w:Int)),some (.c (d:Int))] _ s').post _;rw[Dz,<-W]at S;have tc:evT Φ T.b [some (tpI zs),some (tpI ns),some (.c h),some (.c ns.length),some (.c (w:Int)),some (.c (d:Int))] (.a (.q .b (.P .a false (.K false (.e 1) (.a (.h false .e (.e 3) (.h false .b (.e 4) (.e 5)))) .b (.a (.e 5))) (.a (.e 2) .b)) (.e 4))) s'=.e (decide ((xs.count (h:Int):Int)=(w:Int))) s':=vk (wU (bnd (Ux (zE rfl) (iw (ye (zE rfl) (ye (zE rfl) (zE rfl) m1) m2)) bQ (iw (zE rfl)) Y) (bnd (zB (zE rfl) zM) Ue)) (zE rfl) eq_int) yd;by_cases hq:(xs.count (h:Int):Int)=(w:Int)
    . rw[decide_eq_true hq]at tc S
      rw[Bool.true_or]at S;refine gD tc (xZ zV ?_);rw[S];exact ur vG
    . rw[decide_eq_false hq]at tc S
      rw[IA]at S;exact lG tc (vP ⟨rfl,⟨_,rfl⟩,N,U,λj R=>hb j (.tail _ R),S⟩)
 . rintro e s' ⟨rfl,⟨X,rfl⟩,N,U,hb,S⟩
   have ht:N=[]:=by cases N with|nil=>rfl|cons _ _=>cases U
   subst ht;rw[S];exact xZ zV (ur vG)
def af(R:ns.length<=40):sG false (tpI ns) none none (some (-1)) s=.e (tpI ns.reverse) s:=by
 have N:∀n:Nat,n<41->(L2.yT n none none (-1)).2<=zN:=by
  have:∀n:Nat,n<41->(L2.yT n none none (-1)).2<=100:=by decide +kernel
  exact λn h=>Ao (this n h) (by unfold zN;omega)
 have h0:(-1:Int)≠0:=by omega
 have hp:=b6 (ns:=ns) ⋯
 simp only[sG,Aa];rw[if_pos ⟨h0,N _ ⋯⟩]
 simp only[Xx];rw[hp]
end
section
variable {T:Tbl}{Φ:Calls}{s:Sto}
def jm(Φ:Calls):Prop:=∀(zs fs:List Int) (h:Nat) (s:Sto),Sz zs->h<zs.length->fs.length<=40->Φ "_law_ended" 0 [tpI zs,tpI fs,.c h] s=.e (.e (xq fs (yB zs h) h)) s
def aQ(hz:Sz zs)(hh:h<zs.length)(hf:fs.length<=40):run T Φ F.ym [tpI zs,tpI fs,.c h] s=.e (.e (xq fs (yB zs h) h)) s:=by
 obtain⟨z1,z2,z3⟩:=vi hz hh;generalize hzz:yB zs h=z at *;have hdv:binOp false .c (.c (fs.length:Nat)) (.c ((z:Int)-1)) s=.e (.c (fs.length/(z-1):Nat)) s:=by rw[bdiv ⋯,Hz];congr 3;omega
 have hK:fs.length/(z-1)<=40:=Ao (Nat.div_le_self _ _) hf;have he:xq fs z h=(Ah (fs.length/(z-1))).any (tB fs z h):=rfl;generalize hKK:fs.length/(z-1)=K at *;rw[post_eq,F.ym,wq];refine⟨rfl,?_⟩;show (zp Φ T.b [some (tpI zs),some (tpI fs),some (.c h),none,none,none] _ s).post _;refine zi.mpr (Xs.mpr (i3 (nT rfl) (i3 (uf (zE rfl) (zE rfl) (tx z1)) (bb.mpr (Yn rfl ?_)))));show (zp Φ T.b [some (tpI zs),some (tpI fs),some (.c h),some (.c fs.length),some (.c z),none] _ s).post _;refine zi.mpr (y7 (λrest e s'=>s'=s/\(∃Z,e=[some (tpI zs),some (tpI fs),some (.c h),some (.c fs.length),some (.c z),Z])/\∃R:List Nat,rest=R.map (λ(j:Nat)=>Val.c (1+(j:Int)))/\(∀j∈R,j<K)/\xq fs z h=R.any (tB fs z h)) (yR 1 K) (s1:=s) (cF (i:=1) (j:=K+1) zV (ye (ye (zE rfl) (ye (zE rfl) zV ef) hdv) zV eW) ⋯ ⋯) ⟨rfl,⟨_,rfl⟩,Ah K,rfl,λj hj=>Al.mp hj,he⟩ ?_ ?_)
 . rintro x rest e s' ⟨rfl,⟨Z,rfl⟩,R,W,hb,S⟩
   cases R with
   |nil=>cases W
   |cons j R=>
    rw[AB]at W;injection W with hx W
    subst hx;refine⟨_,rfl,?_⟩;have hjK:=hb j (.head _);have X:tB fs z h j=(Ah (z-1)).all λk=>decide (fs[fs.length-(k+1)*(j+1)]?=some (h:Int)):=rfl;obtain⟨d,hd0⟩:∃d,d=j+1:=⟨_,rfl⟩;have hdc:(1+(j:Int))=(d:Int):=by omega
    rw[hdc];rw[<-hd0]at X;have d1:1<=d:=by omega
    have hdz:∀k:Nat,k<=z-1->k*d<=fs.length:=λk hk=>by
     have h1:k*d<=(z-1)*K:=DQ hk ⋯
     have h2:(z-1)*K<=fs.length:=by rw[<-hKK];exact Nat.mul_div_le _ _
     omega
    have U:∀k:Nat,(1+(k:Int))*(d:Int)=(((k+1)*d:Nat):Int):=λk=>by rw[E9];congr 1;omega
    have hc:=RT (Φ:=Φ) (G:=T.b) (env:=[some (tpI zs),some (tpI fs),some (.c h),some (.c fs.length),some (.c z),some (.c d)]) (s:=s') (N:=["_law_k","_law_hue","_law_found","_law_here","_law_step"]) (fr:=[none,some 2,some 1,some 3,some 5]) (it:=.g (.g (.c 1)) (.e 4)) (ifs:=.b (.a (.q .g (.s (.e 2) (.h false .e (.e 3) (.h false .b (.e 0) (.e 4)))) (.e 1))) .a) (ks:=(Ah (z-1)).map λ(k:Nat)=>1+(k:Int)) (bad:=λk=>!decide (fs[((fs.length:Int)-k*d).toNat]?=some (h:Int))) (e0:=[some (.c h),some (tpI fs),some (.c fs.length),some (.c d)]) ((cF (i:=1) (j:=z) zV (zE rfl) ⋯ ⋯).trans (by rw[show ((1:Nat):Int)=1 from rfl,fq])) rfl λi hi=>by
     obtain⟨k,hk,rfl⟩:=AO.mp hi;have hk:=Al.mp hk;have hk1:=hdz (k+1) ⋯
     have hpos:1<=(k+1)*d:=DQ (show 1<=k+1 by omega) d1
     have Y:fs.length-(k+1)*d<fs.length:=by omega
     have e4:(fs.length:Int)-(1+(k:Int))*d=((fs.length-(k+1)*d:Nat):Int):=by rw[U];omega
     have m1:binOp false .e (.c (fs.length:Nat)) (.c ((1+(k:Int))*d)) s'=.e (.c ((fs.length-(k+1)*d:Nat):Int)) s':=by rw[ef,e4]
     rw[e4,BC,dS Y,show decide (some fs[fs.length-(k+1)*d]=some (h:Int))=decide (fs[fs.length-(k+1)*d]=(h:Int)) from decide_eq_decide.mpr Option.some_inj];exact nP (vk (wU (uf (zE rfl) (ye (zE rfl) (ye (zE rfl) (zE rfl) (eY ⋯)) m1) (tx (dS Y))) (zE rfl) ne_int) yd)
    have key:(GC Val.c (((Ah (z-1)).map λ(k:Nat)=>1+(k:Int)).filter λk=>!decide (fs[((fs.length:Int)-k*d).toNat]?=some (h:Int)))).isEmpty=tB fs z h j:=by
     rw[X,BV,Br,List.map_eq_nil_iff,List.filter_eq_nil_iff,A5,List.forall_mem_map];refine forall_congr' λk=>imp_congr_right λhk=>?_;have:((fs.length:Int)-(1+(k:Int))*(d:Int)).toNat=fs.length-(k+1)*d:=by rw[U];omega
     rw[this,A8,Bool.not_eq_false]
    rw[Dz]at S;have tc:=vk (wU hc (sX (es:=.b) zM (AS _)) (eq_nil (v3 _))) yd;rw[key]at tc;cases hq:tB fs z h j with
    |false=>
     rw[hq]at tc S;exact lG tc (vP ⟨rfl,⟨_,rfl⟩,R,W,λj hj=>hb j (.tail _ hj),S⟩)
    |true=>
     rw[hq]at tc S;rw[Bool.true_or]at S;refine gD tc (xZ zV ?_);rw[S];exact ur vG
 . rintro e s' ⟨rfl,⟨Z,rfl⟩,R,W,hb,S⟩
   have ht:R=[]:=by cases R with|nil=>rfl|cons _ _=>cases W
   subst ht;rw[S];exact xZ zV (ur vG)
end
end M
end
section
namespace F12
open PySem M
noncomputable def ym:Fn:=⟨["_law_sizes","_law_strip","_law_hue","_law_here","_law_size","_law_step"],["_law_sizes","_law_strip","_law_hue"],false,(.e (.q [3,4] (.a (.l .a false (.a (.e 1) .b)) (.a (.s (.e 0) (.e 2)) .b))) (.e (.g (.a 5) (.g (.g (.c 1)) (.h false .a (.h false .c (.e 3) (.h false .e (.e 4) (.g (.c 1)))) (.g (.c 1)))) (.e (.j (.a (.q .b (.p false ["_law_k","_law_hue","_law_strip","_law_here","_law_step"] [none,some 2,some 1,some 3,some 5] (.e 0) (.a 0) (.g (.g (.c 1)) (.e 4)) (.b (.a (.q .g (.s (.e 2) (.h false .e (.e 3) (.h false .b (.e 0) (.e 4)))) (.e 1))) .a)) (.u false .b))) (.e (.f (.g (.e true))) .f) .f) .f)) (.e (.f (.g (.e false))) .f)))⟩
noncomputable def xf:Fn:=⟨["_law_sizes","_law_length","_law_found","_law_place","_law_later","_law_strip"],["_law_sizes","_law_length"],false,(.e (.d 2 (.u false (.a (.k .b) .b))) (.e (.g (.a 3) (.d (.e 1)) (.e (.d 4 (.u false .b)) (.e (.g (.a 5) (.f (.e 2)) (.e (.d 4 (.h false .a (.e 4) (.p false ["_law_hue","_law_sizes","_law_strip"] [none,some 0,some 5] (.h false .a (.e 2) (.k (.a (.e 0) .b))) (.a 0) (.d (.l .a false (.a (.e 0) .b))) (.b (.d (.a (.j "_law_ended" 0 (.a (.e 1) (.a (.e 2) (.a (.e 0) .b)))))) .a)))) .f)) (.e (.d 2 (.e 4)) .f)))) (.e (.f (.e 2)) .f)))⟩
noncomputable def xg:Fn:=⟨["_law_pen_here","_law_some"],["_law_pen_here"],false,(.e (.d 1 (.u false (.a (.k (.a (.g (.c 3)) (.a (.g (.c 3)) .b))) (.a (.k (.a (.g (.c 3)) (.a (.g (.c 4)) .b))) (.a (.k (.a (.g (.c 4)) (.a (.g (.c 3)) .b))) (.a (.k (.a (.g (.c 2)) (.a (.g (.c 2)) (.a (.g (.c 3)) .b)))) (.a (.k (.a (.g (.c 2)) (.a (.g (.c 3)) (.a (.g (.c 2)) .b)))) (.a (.k (.a (.g (.c 3)) (.a (.g (.c 2)) (.a (.g (.c 2)) .b)))) (.a (.k (.a (.g (.c 2)) (.a (.g (.c 6)) .b))) (.a (.k (.a (.g (.c 5)) (.a (.g (.c 2)) .b))) (.a (.k (.a (.g (.c 2)) (.a (.g (.c 4)) .b))) (.a (.k (.a (.g (.c 3)) (.a (.g (.c 2)) .b))) (.a (.k (.a (.g (.c 2)) (.a (.g (.c 2)) .b))) (.a (.k (.a (.g (.c 2)) (.a (.g (.c 2)) (.a (.g (.c 2)) .b)))) .b)))))))))))))) (.e (.f (.s (.h false .a (.e 1) (.u false (.a (.k (.a (.g (.c 2)) .b)) (.a (.k (.a (.g (.c 3)) .b)) (.a (.k (.a (.g (.c 5)) .b)) (.a (.k (.a (.g (.c 8)) .b)) .b)))))) (.j "_law_draw" 0 (.a (.e 0) (.a (.g (.c 16)) .b))))) .f))⟩
noncomputable def xh:Fn:=⟨["sizes","length","strips","place"],["sizes","length"],false,(.e (.m (.j "need_small_sizes" 0 (.a (.e 0) .b))) (.e (.m (.j "need_length" 0 (.a (.e 1) .b))) (.e (.d 2 (.u false (.a (.k .b) .b))) (.e (.g (.a 3) (.d (.e 1)) (.e (.d 2 (.j "grown" 0 (.a (.e 0) (.a (.e 2) .b)))) .f)) (.e (.f (.e 2)) .f)))))⟩
noncomputable def sj:Fn:=⟨["sizes","strips"],["sizes","strips"],false,(.e (.f (.w false ["strip","hue","sizes"] [none,none,some 0] (.h false .a (.e 0) (.k (.a (.e 1) .b))) (.a 0) (.f (.e 1)) .a (.a 1) (.d (.l .a false (.a (.e 2) .b))) (.b (.a (.j "may_follow" 0 (.a (.e 2) (.a (.e 0) (.a (.e 1) .b))))) .a))) .f)⟩
noncomputable def yG:Fn:=⟨["thing","product"],["thing"],false,(.e (.m (.j "need_sizes" 0 (.a (.e 0) .b))) (.e (.d 1 (.j "product_of" 0 (.a (.e 0) .b))) (.e (.j (.a (.q .h (.e 1) (.I "MOST_PRODUCT"))) (.e (.n (.g .h)) .f) .f) .f)))⟩
noncomputable def xp:Fn:=⟨["numbers","product","number"],["numbers"],false,(.e (.d 1 (.g (.c 1))) (.e (.g (.a 2) (.f (.e 0)) (.e (.w 1 .b (.e 2)) .f)) (.e (.f (.e 1)) .f)))⟩
end F12
end
section
namespace M
open L2
def okH(zs ns:List Int):List Nat:=(Ah zs.length).filter λh=>!xq ns (yB zs h) h
def yA(zs:List Int)(L:List (List Int)):List (List Int):=L.flatMap λns=>(okH zs ns).map λ(h:Nat)=>ns++[(h:Int)]
def yb(zs:List Int)(L:List (List Int)):Nat->List (List Int)
 |0=>L
 |n+1=>yA zs (yb zs L n)
def mR:y∈yA zs L↔∃x∈L,∃h:Nat,h<zs.length/\xq x (yB zs h) h=false/\y=x++[(h:Int)]:=by
 unfold yA okH;rw[Dm];constructor
 . rintro ⟨x,hx,R⟩
   obtain⟨h,N,rfl⟩:=AO.mp R;rw[D0,Al,A8]at N;exact⟨x,hx,h,N.1,N.2,rfl⟩
 . rintro ⟨x,hx,h,U,S,rfl⟩
   refine⟨x,hx,AO.mpr ⟨h,?_,rfl⟩⟩;rw[D0,Al,A8];exact⟨U,S⟩
theorem qD(h:∀x∈L,x.length=k):∀n,∀x∈yb zs L n,x.length=k+n
 |0,x,hx=>h x hx
 |n+1,x,hx=>by obtain⟨y,N,a,_,_,rfl⟩:=mR.mp hx;rw[Aq,qD h n y N];rfl
theorem u5(N:Sz zs)(h:∀x∈L,Fit zs x):∀n,∀x∈yb zs L n,Fit zs x
 |0,x,hx=>h x hx
 |n+1,x,hx=>by obtain⟨y,R,a,U,S,rfl⟩:=mR.mp hx;exact(u5 N h n y R).snoc N U S
def uK(L:List (List Int)):Prop:=L.Pairwise λa b=>ql a b=true
theorem iV:∀{a b x y},ql a b=true->ql (a++x) (b++y)=true
 |[],[],_,_,h=>by cases h
 |[],_::_,_,_,h=>by cases h
 |_::_,[],_,_,h=>by cases h
 |u::a,v::b,x,y,h=>by
  rw[CL,CL];unfold ql at h ⊢;by_cases e:u=v
  . rw[if_pos e]at h ⊢;exact iV h
  . rw[if_neg e]at h ⊢;exact h
theorem mP:∀{a} {x y},x<y->ql (a++[x]) (a++[y])=true
 |[],x,y,h=>by
  show ql [x] [y]=true;unfold ql;rw[if_neg ⋯];exact decide_eq_true h
 |u::a,x,y,h=>by rw[CL,CL];unfold ql;rw[if_pos rfl];exact mP h
def fm(h:uK L):uK (yA zs L):=by
 unfold uK yA;rw[List.pairwise_flatMap];refine⟨λa _=>?_,h.imp λ{a b} hab x hx y hy=>?_⟩
 . rw[Cj]
   exact(List.pairwise_lt_range.filter _).imp λ{i j} hij=>mP ⋯
 . obtain⟨i,_,rfl⟩:=AO.mp hx
   obtain⟨j,_,rfl⟩:=AO.mp hy;exact iV hab
theorem fo(h:uK L):∀n,uK (yb zs L n)
 |0=>h
 |n+1=>fm (fo h n)
def dz(h:L.Sublist L'):(yA zs L).Sublist (yA zs L'):=by
 unfold yA;induction h with
 |slnil=>exact .slnil
 |cons a _ N=>rw[BQ];exact N.trans (List.sublist_append_right _ _)
 |cons_cons a _ N=>rw[BQ,BQ];exact N.append_left _
theorem qC zs L m:∀n,yb zs (yb zs L m) n=yb zs L (m+n)
 |0=>rfl
 |n+1=>congrArg (yA zs) (qC zs L m n)
def dO(zs:List Int):Nat->List (List Int)->Bool
 |0,L=>L.isEmpty
 |n+1,L=>decide (L.length<=100)&&dO zs n (yA zs L)
theorem oK:∀{n} {L},dO zs n L=true->yb zs L n=[]/\∀m,m<n->(yb zs L m).length<=100
 |0,L,h=>⟨Br.mp h,λm N=>absurd N (C4 _)⟩
 |n+1,L,h=>by
  unfold dO at h;rw[ub]at h;have ⟨R,S⟩:=oK h.2;have e:∀m,yb zs (yA zs L) m=yb zs L (m+1):=λm=>by have:=qC zs L 1 m;rw[show yb zs L 1=yA zs L from rfl,Nat.add_comm 1 m]at this;exact this
  rw[e]at R;refine⟨R,λm N=>?_⟩;cases m with
  |zero=>exact of_decide_eq_true h.1
  |succ m=>rw[<-e];exact S m ⋯
noncomputable def vL:List (List Int):=[3,3]::[3,4]::[4,3]::[2,2,3]::[2,3,2]::[3,2,2]::[2,6]::[5,2]::[2,4]::[3,2]::[2,2]::[2,2,2]::[2]::[3]::[5]::[8]::[]
def jQ:(vL.all λzs=>dO zs 18 [[]]&&decide (zs.foldl (·*·) 1<=12)&&(decide (1<=zs.length)&&decide (zs.length<=4)&&zs.all λx=>decide (2<=x)&&decide (x<=8)))=true:=by decide +kernel
def mN(h:yb zs L n=[]):∀m,yb zs L (n+m)=[]:=λm=>by
 rw[<-qC,h];induction m with
 |zero=>rfl
 |succ m N=>show yA zs (yb zs [] m)=[];rw[N];rfl
structure yH(zs:List Int):Prop where
 a:Sz zs
 c:zs.foldl (·*·) 1<=12
 d:∀m,18<=m->yb zs [[]] m=[]
 b:∀m,(yb zs [[]] m).length<=100
def lI(h:zs∈vL):yH zs:=by
 have:=A5.mp jQ zs h;simp only[ub,decide_eq_true_eq,A5]at this;obtain⟨⟨Y,X⟩,⟨W,U⟩,S⟩:=this;have ⟨d1,Z⟩:=oK Y;have R:∀m,18<=m->yb zs [[]] m=[]:=λm N=>by
  have:=mN d1 (m-18)
  rwa [show 18+(m-18)=m by omega]at this
 refine⟨⟨W,U,λx hx=>S x hx⟩,X,R,λm=>?_⟩;by_cases N:m<18
 . exact Z m N
 . rw[R m ⋯];simp
end M
end
section
namespace M
open PySem
abbrev tps(L:List (List Int)):List Val:=L.map tpI
noncomputable def unI:Val->List Int
 |.g vs=>vs.map λv=>match v with|.c i=>i|_=>0
 |_=>[]
def qc ns:unI (tpI ns)=ns:=by show (ns.map Val.c).map _=ns;rw[BI];exact List.map_id' ns
theorem yh:∀L:List (List Int),z6 (tps L)=true
 |[]=>rfl
 |ns::L=>by show (Val.noRef (tpI ns)&&z6 (tps L))=true;rw[yh L,GY];exact wQ ns
theorem mG:∀L:List (List Int),vb (tps L)=true
 |[]=>rfl
 |ns::L=>by show (Val.isD (tpI ns)&&vb (tps L))=true;rw[mG L,GY];exact v3 ns
def su(h:a.length+b.length<=zN):binOp false .a (.f a) (.f b) s=.e (.f (a++b)) s:=by simp only[binOp,yL];rw[if_pos h];rfl
def gc{G:Nat->Val}{n:Nat}(hF:∀k<n,F (.c k)=if f k then [G k] else []):(yR 0 n).flatMap F=((Ah n).filter f).map G:=by
 unfold yR;rw[HB];have:∀l:List Nat,(∀k∈l,k<n)->l.flatMap (λ(k:Nat)=>F (.c (0+(k:Int))))=(l.filter f).map G:=λl=>by
  induction l with
  |nil=>intro _;rfl
  |cons k l N=>
   intro h;rw[BQ,N λj R=>h j (.tail _ R),show (0:Int)+(k:Int)=(k:Int) by omega,hF k (h k (.head _)),List.filter_cons]
   cases f k<;>rfl
 exact this _ λk hk=>Al.mp hk
def lE(zs ns:List Int):Val->List Val
 |.c a=>if !xq ns (yB zs a.toNat) a then [tpI (ns++[a])] else []
 |_=>[]
def hZ zs ns:(yR 0 zs.length).flatMap (lE zs ns)=tps ((okH zs ns).map λ(h:Nat)=>ns++[(h:Int)]):=by
 rw[gc (f:=λh=>!xq ns (yB zs h) h) (G:=λh=>tpI (ns++[(h:Int)])) (λk _=>by simp[lE])]
 show _=GC tpI (GC _ (List.filter _ _));rw[BI];rfl
section
variable {T:Tbl}{Φ:Calls}{s:Sto}
def jG(N:Sz zs)(R:h<zs.length)(S:fs.length<=40):run T Φ F12.ym [tpI zs,tpI fs,.c h] s=.e (.e (xq fs (yB zs h) h)) s:=aQ (T:=T) (Φ:=Φ) N R S
def XZ(Φ:Calls):Prop:=∀(zs:List Int) (s:Sto),Sz zs->Φ "product_of" 0 [tpI zs] s=.e (.c (zs.foldl (·*·) 1)) s
def aW(X:Sz zs):run T Φ F12.xp [tpI zs] s=.e (.c (zs.foldl (·*·) 1)) s:=by
 rw[post_eq];simp[F12.xp,EVl,zT,zG];refine y7 (λrest e s'=>s'=s/\∃S acc N,e=[some (tpI zs),some (.c acc),S]/\rest=N.map Val.c/\(∀x∈N,2<=x/\x<=8)/\N.foldl (·*·) acc=zs.foldl (·*·) 1) (zs.map .c) (s1:=s) ?_ ⟨rfl,_,_,zs,rfl,rfl,X.2.2,rfl⟩ ?_ ?_
 . rw[post_eq]
   simp[EVl,zT,zG]
 . rintro x rest e s' ⟨rfl,S,acc,N,rfl,R,W,U⟩
   cases N with
   |nil=>cases R
   |cons y N=>
    rw[AB]at R;injection R with h1 h2
    subst h1;have Z:=W y (.head _);refine⟨_,rfl,?_⟩;rw[zi];show (Out.bind (binOp false .b (.c acc) (.c y) s') _).post _;rw[j4 ⋯,zJ]
    simp only[EVl,zT,zG];exact⟨trivial,_,_,N,rfl,h2,λx hx=>W x (.tail _ hx),U⟩
 . rintro e s' ⟨rfl,S,acc,N,rfl,R,W,U⟩
   have Y:N=[]:=by cases N with|nil=>rfl|cons _ _=>cases R
   subst Y;simp[EVl,zT,zG];exact U
def rL(Φ:Calls):Prop:=∀(zs:List Int) (s:Sto),yH zs->Φ "need_small_sizes" 0 [tpI zs] s=.e .h s
def qr(g:T.b "MOST_PRODUCT"=some (.c 12))(U:rK Φ)(S:XZ Φ)(N:yH zs):run T Φ F12.yG [tpI zs] s=.e .h s:=by
 rw[post_eq];have R:¬(12<zs.foldl (·*·) 1):=by have:=N.c;omega
 simp[F12.yG,EVl,zT,zG,U zs s N.a,S zs s N.a,g,gt_int,R]
def dj(c:WG Φ){L:List (List Int)}(S:Sz zs)(hL:∀x∈L,x.length<=40)(Y:(yA zs L).length<=zN)(hi:zo Φ G env (.f (.e 1)) s=.e ⟨tps L,at_⟩ s)(W:Src.ok ⟨tps L,at_⟩ s=true)(h0:zG [none,none,some 0] env=[none,none,some (tpI zs)])
  (Z:(newList m (tps (yA zs L)) s).post P) :
 (evE Φ G env (.w m N [none,none,some 0] (.h false .a (.e 0) (.k (.a (.e 1) .b))) (.a 0) (.f (.e 1)) .a (.a 1) (.d (.l .a false (.a (.e 2) .b))) (.b (.a (.j "may_follow" 0 (.a (.e 2) (.a (.e 0) (.a (.e 1) .b))))) .a)) s).post P:=by
 have key:(tps L).flatMap (λx=>tps ((okH zs (unI x)).map λ(h:Nat)=>unI x++[(h:Int)]))=tps (yA zs L):=by unfold yA;show _=GC tpI (List.flatMap _ _);rw[HB,HC];congr 1;funext ns;rw[qc]
 refine Yh (λe=>∃a b,e=[a,b,some (tpI zs)]) (λx=>tps ((okH zs (unI x)).map λ(h:Nat)=>unI x++[(h:Int)])) (λx e=>∃b,e=[some x,b,some (tpI zs)]) (λx=>lE zs (unI x)) ?_;refine⟨_,_,hi,W,⟨_,_,h0⟩,?_,?_,?_⟩
 . rintro x hx e ⟨a,b,rfl⟩
   obtain⟨ns,R,rfl⟩:=AO.mp hx;have X:=hL ns R;refine⟨_,rfl,?_⟩;simp only[EVl,zT,zG,if_true];refine⟨trivial,_,rfl,?_⟩;rw[iU,Aa];simp only[zA];refine⟨_,rfl,⟨⋯,by have:=S.2.1;unfold zN;omega⟩,trivial,trivial,⟨_,rfl⟩,?_,?_,?_⟩
   . rintro e ⟨b,rfl⟩;exact⟨_,_,rfl⟩
   . rw[qc,BC,hZ]
   . rintro y U e ⟨b,rfl⟩
     obtain⟨k,hk,rfl⟩:=oo U;rw[BC]at hk;rw[show (0:Int)+(k:Int)=(k:Int) by omega]
     refine⟨_,rfl,⟨_,rfl⟩,?_⟩;refine⟨_,rfl,_,rfl,_,rfl,?_⟩;rw[c zs ns k s S X hk];simp only[zA,yd];refine⟨_,rfl,?_⟩;rw[qc];cases he:xq ns (yB zs k) k with
     |true=>simp[lE,he]
     |false=>
      simp only[Ig,if_true,zA,true_and];refine⟨_,rfl,_,rfl,?_⟩;rw[if_pos (by simp[zN]),oB (by simp[zN];omega)]
      simp[lE,he,EVl,zT,zG]
 . show Small ((tps L).flatMap _)
   rw[key];show (tps (yA zs L)).length<=zN;rw[Aa];exact Y
 . show (newList m ((tps L).flatMap _) s).post P
   rw[key];exact Z
def jn(Φ:Calls):Prop:=∀(zs:List Int) (L:List (List Int)) (s:Sto),Sz zs->(∀x∈L,x.length<=40)->(yA zs L).length<=zN->Φ "grown" 0 [tpI zs,.f (tps L)] s=.e (.f (tps (yA zs L))) s
def jH(c:WG Φ)(N:Sz zs)(S:∀x∈L,x.length<=40)(R:(yA zs L).length<=zN):run T Φ F12.sj [tpI zs,.f (tps L)] s=.e (.f (tps (yA zs L))) s:=by rw[post_eq,F12.sj,wq];refine⟨rfl,?_⟩;rw[zi,bf];refine dj c N S R (at_:=none) rfl rfl rfl ?_;simp only[M.newList,Au,if_false,zA,gI,dn];rw[yK (v:=.f (tps (yA zs L))) (yh _)];exact zA.mpr ⟨rfl,rfl⟩
def We(c:jm Φ)(R:Sz zs)(U:ns.length<=40)(S:env[iz]?=some (some (tpI zs)))(X:env[is]?=some (some (tpI ns)))(W:P (.f (tps ((okH zs ns).map λ(h:Nat)=>ns++[(h:Int)]))) s) :
 (evE Φ G env (.p false N [none,some iz,some is] (.h false .a (.e 2) (.k (.a (.e 0) .b))) (.a 0) (.d (.l .a false (.a (.e iz) .b))) (.b (.d (.a (.j "_law_ended" 0 (.a (.e 1) (.a (.e 2) (.a (.e 0) .b)))))) .a)) s).post P:=by
 have h0:zG [none,some iz,some is] env=[none,some (tpI zs),some (tpI ns)]:=by simp only[zG,AB,Eo,S,X];rfl
 refine nA (λe=>∃o,e=[o,some (tpI zs),some (tpI ns)]) (lE zs ns) (yR 0 zs.length) (s1:=s) ?_ ⟨_,h0⟩ ?_ ?_
 . rw[post_eq,qN]
   simp only[EVl,zT,zG];refine⟨_,S,?_⟩;rw[iU,Aa];simp only[zA];refine⟨_,rfl,⟨⋯,by have:=R.2.1;unfold zN;omega⟩,by rw[BC],trivial⟩
 . rintro x hx e ⟨o,rfl⟩
   obtain⟨k,hk,rfl⟩:=oo hx;rw[show (0:Int)+(k:Int)=(k:Int) by omega]
   refine⟨_,rfl,⟨_,rfl⟩,?_⟩;simp only[EVl,zT,zG];refine⟨_,rfl,_,rfl,_,rfl,?_⟩;rw[c zs ns k s R hk U];simp only[zA,yd];refine⟨_,rfl,?_⟩;cases he:xq ns (yB zs k) k with
   |true=>simp[lE,he]
   |false=>
    simp only[Ig,if_true,true_and];refine⟨_,rfl,_,rfl,?_⟩;rw[if_pos (by simp[zN]),oB (by simp[zN];omega)]
    simp[lE,he,EVl,zT,zG]
 . rw[hZ]
   simp only[M.newList,Au,if_false,zA];exact W
def pL zs L x:yA zs (L++[x])=yA zs L++(okH zs x).map λ(h:Nat)=>x++[(h:Int)]:=by unfold yA;rw[List.flatMap_append,BQ,List.flatMap_nil,AR]
def Yi(c:jm Φ){env:M.Env}{L:List (List Int)}(hz:Sz zs)(hL:∀x∈L,x.length<=40)(hl:(yA zs L).length<=zN)(n1:is≠iz)(n2:U≠iz)(Y:is≠U)(b1:U<env.length)(b2:is<env.length)
 (h1:env[iz]?=some (some (tpI zs))) (h2:env[ih]?=some (some (.f (tps L)))) (h3:env[U]?=some (some (.f []))) {R:Fl->Sto->Prop} (hR:∀o,R (.a ((env.set is o).set U (some (.f (tps (yA zs L)))))) s) :
 (exS Φ G env (.g (.a is) (.f (.e ih)) (.e (.d U (.h false .a (.e U) (.p false N [none,some iz,some is] (.h false .a (.e 2) (.k (.a (.e 0) .b))) (.a 0) (.d (.l .a false (.a (.e iz) .b))) (.b (.d (.a (.j "_law_ended" 0 (.a (.e 1) (.a (.e 2) (.a (.e 0) .b)))))) .a)))) .f)) s).post R:=by
 refine y7 (λrest e s'=>s'=s/\∃done S o,done++S=L/\rest=tps S/\e=(env.set is o).set U (some (.f (tps (yA zs done))))) (tps L) (s1:=s) ?_ ⟨rfl,[],L,env[is],rfl,rfl,?_⟩ ?_ ?_
 . rw[post_eq]
   simp only[EVl,zT,zG];exact⟨_,h2,_,rfl,rfl,trivial⟩
 . rw[List.set_getElem_self]
   obtain⟨q1,q2⟩:=As.mp h3;have:env.set U (some (.f (tps (yA zs []))))=env.set U env[U]:=by rw[q2];rfl
   rw[this,List.set_getElem_self]
 . rintro x rest e s' ⟨rfl,done,S,o,hd,W,rfl⟩
   cases S with
   |nil=>cases W
   |cons ns S=>
    injection W with hx W
    subst hx;refine⟨_,rfl,?_⟩;have e1:((env.set is o).set U (some (.f (tps (yA zs done))))).set is (some (tpI ns))=(env.set is (some (tpI ns))).set U (some (.f (tps (yA zs done)))):=by rw[FL _ _ (λe=>Y e.symm),List.set_set]
    rw[e1];have X:ns∈L:=by rw[<-hd];exact AZ _ (.head _)
    have l1:U<(env.set is (some (tpI ns))).length:=by rw[Dv];exact b1
    simp only[zi,mh,Xq,pV];refine⟨_,BD l1,?_⟩;refine We c hz (hL ns X) (by rw[Ce n2,Ce n1];exact h1) (by rw[Ce (λe=>Y e.symm),BD b2]) ?_
    have Z:(yA zs (done++[ns])).length<=zN:=by
     refine Ao (dz (List.Sublist.trans ?_ (HD (done++[ns]) S))).length_le (by rw[Ak];exact hd▸hl)
     exact List.Sublist.refl _
    rw[pL,Aq]at Z;rw[su (by rw[Aa,Aa];exact Z)]
    simp only[zA,rJ,qO,nM];refine⟨trivial,done++[ns],S,some (tpI ns),by rw[Ak];exact hd,W,?_⟩
    rw[List.set_set,pL,tps,tps,tps,C7]
 . rintro e s' ⟨rfl,done,S,o,hd,W,rfl⟩
   have ht:S=[]:=by cases S with|nil=>rfl|cons _ _=>cases W
   subst ht;rw[AR]at hd;subst hd;exact hR o
theorem pW:∀{L} {zs},pairsOf (tps L)=some zs->L=zs.map λz=>[z.1,z.2]
 |[],zs,h=>by cases h;rfl
 |ns::L,zs,h=>by
  match ns,h with
  |[a,b],h=>
   have h':(pairsOf (tps L)).map ((a,b)::·)=some zs:=h
   rw[AJ]at h';obtain⟨N,R,rfl⟩:=h';rw[pW R];rfl
  |[],h=>cases (show none=some zs from h)
  |[_],h=>cases (show none=some zs from h)
  |_::_::_::_,h=>cases (show none=some zs from h)
theorem uy:∀ns:List Int,intsOf (ns.map .c)=some ns
 |[]=>rfl
 |n::ns=>by show (intsOf (ns.map .c)).map _=_;rw[uy ns];rfl
theorem qb:∀L:List (List Int),yE (tps L)=some L
 |[]=>rfl
 |ns::L=>by
  show (match intsOf (ns.map .c),yE (tps L) with|some z,some zs=>some (z::zs)|_,_=>none)=_
  rw[uy,qb L]
def qV(E:List (List Int)):List (List Int):=match pairsOf (tps E) with
 |some zs=>if zs.Nodup/\∀z∈zs,0<=z.2/\z.2<1000 then (tQ zs).map (λz=>[z.1,z.2]) else L2.zk E
 |none=>L2.zk E
def jR E:(qV E).Perm E:=by
 unfold qV;cases hp:pairsOf (tps E) with
 |none=>exact L2.zc E
 |some zs=>
  dsimp only;by_cases hc:zs.Nodup/\∀z∈zs,0<=z.2/\z.2<1000
  . rw[if_pos hc]
    have e:=pW hp;exact((yk zs).map _).trans (.of_eq e.symm)
  . rw[if_neg hc];exact L2.zc E
def jT(hx:yL s x=some (tps E))(N:E.Nodup)(h0:E.length<2\/∀z∈E,z≠[]):blt .b m [x] s=newList m (tps (qV E)) s:=by
 have hs:sH m (tps E) s=newList m (tps (L2.zk E)) s:=by unfold sH;rw[qb];dsimp only;rw[if_pos ⟨N,h0⟩];rfl
 simp only[blt,hx];unfold qV;cases hp:pairsOf (tps E) with
 |none=>exact hs
 |some zs=>
  dsimp only;by_cases hc:zs.Nodup/\∀z∈zs,0<=z.2/\z.2<1000
  . rw[if_pos hc,if_pos hc]
    show newList m ((tQ zs).map prV) s=newList m (tps ((tQ zs).map λz=>[z.1,z.2])) s;rw[tps,BI];rfl
  . rw[if_neg hc,if_neg hc];exact hs
end
def YN(h:yH zs)n:∀x∈yb zs [[]] n,x.length=n/\n<18:=λx hx=>by
 have:=qD (k:=0) (L:=[[]]) (zs:=zs) (λx hx=>by rw[Az.mp hx];rfl) n x hx
 refine⟨⋯,?_⟩
 by_cases hn:n<18
 . exact hn
 . rw[h.d n ⋯]at hx;cases hx
def v5(h:yH zs)n:∀x∈yb zs [[]] n,x.length<=40:=λx hx=>by have:=YN h n x hx;omega
def n9(h:yH zs)n:(yb zs [[]] n).length<=zN:=Ao (h.b n) (by unfold zN;omega)
section
variable {T:Tbl}{Φ:Calls}{s:Sto}
def jk(Φ:Calls):Prop:=∀(zs:List Int) (n:Nat) (s:Sto),yH zs->n<=40->Φ "all_strips" 0 [tpI zs,.c n] s=.e (.f (tps (yb zs [[]] n))) s
def aN(Y:rL Φ)(X:sN Φ)(c:jn Φ){n:Nat}(N:yH zs)(Z:n<=40):run T Φ F12.xh [tpI zs,.c n] s=.e (.f (tps (yb zs [[]] n))) s:=by
 rw[post_eq];simp[F12.xh,EVl,zT,zG,Y zs s N,X n s ⋯ ⋯,M.newList,zN]
 refine y7 (λrest e s'=>s'=s/\∃m o,m<=n/\rest=yR m (n-m)/\e=[some (tpI zs),some (.c n),some (.f (tps (yb zs [[]] m))),o]) (yR 0 n) (s1:=s) ?_ ⟨rfl,0,_,⋯,rfl,rfl⟩ ?_ ?_
 . rw[post_eq]
   simp[EVl,zT,zG];unfold zN;omega
 . rintro x rest e s' ⟨rfl,m,o,U,S,rfl⟩
   obtain⟨k,hk,rfl,R⟩:=pf S;refine⟨_,rfl,?_⟩;have W:=c zs (yb zs [[]] m) s' N.a (v5 N m) (n9 N (m+1));simp only[EVl,zT,zG];refine⟨_,rfl,_,rfl,?_⟩;rw[W];simp only[zA];exact⟨trivial,m+1,_,⋯,by rw[R];congr 1;omega,rfl⟩
 . rintro e s' ⟨rfl,m,o,U,S,rfl⟩
   have:=hX S;have e:m=n:=by omega
   subst e;simp only[EVl,zT,zG];refine⟨_,rfl,?_⟩;rw[yK (v:=.f (tps (yb zs [[]] m))) (yh _)];exact zA.mpr ⟨rfl,rfl⟩
def jo(Φ:Calls):Prop:=∀(zs:List Int) (n:Nat) (s:Sto),yH zs->n<=40->Φ "_law_grown" 0 [tpI zs,.c n] s=.e (.f (tps (yb zs [[]] n))) s
def jK(c:jm Φ){n:Nat}(U:yH zs)(Z:n<=40):run T Φ F12.xf [tpI zs,.c n] s=.e (.f (tps (yb zs [[]] n))) s:=by
 rw[post_eq];simp[F12.xf,EVl,zT,zG,M.newList,zN];refine y7 (λrest e s'=>s'=s/\∃m S R N,m<=n/\rest=yR m (n-m)/\e=[some (tpI zs),some (.c n),some (.f (tps (yb zs [[]] m))),S,R,N]) (yR 0 n) (s1:=s) ?_ ⟨rfl,0,_,_,_,⋯,rfl,rfl⟩ ?_ ?_
 . rw[post_eq]
   simp[EVl,zT,zG];unfold zN;omega
 . rintro x rest e s' ⟨rfl,m,S,R,N,Y,X,rfl⟩
   obtain⟨k,hk,rfl,W⟩:=pf X;refine⟨_,rfl,?_⟩;rw[zi,mh,Xr,bb];rw[if_pos (by simp[zN])]
   simp only[M.newList,Au,if_false,zA,rJ];rw[zi];refine Yi c U.a (v5 U m) (n9 U (m+1)) (by decide) (by decide) (by decide) (by simp) (by simp) rfl rfl rfl λo=>?_
   simp only[rJ,zi,mh,pV,qO,nM];exact⟨_,rfl,trivial,m+1,_,_,_,⋯,by rw[W];congr 1;omega,rfl⟩
 . rintro e s' ⟨rfl,m,S,R,N,Y,X,rfl⟩
   have:=hX X;have e:m=n:=by omega
   subst e;simp only[EVl,zT,zG];refine⟨_,rfl,?_⟩;rw[yK (v:=.f (tps (yb zs [[]] m))) (yh _)];exact zA.mpr ⟨rfl,rfl⟩
def eP(Φ:Calls):Prop:=∀(p:Nat) (s:Sto),sP s p->(Φ "_law_small" 0 [.j p] s).post λv s'=>∃zs,v=tpI zs/\yH zs/\uF s p s'
def fv(U:eN Φ)(hp:sP s p):(run T Φ F12.xg [.j p] s).post λv s'=>∃zs,v=tpI zs/\yH zs/\uF s p s':=by
 simp[F12.xg,EVl,zT,zG,M.newList,zN];rw[su (by simp[zN])]
 simp only[zA];refine zS (U p 16 s hp ⋯ ⋯) ?_
 rintro v s1 ⟨r,rfl,W,R⟩;have N:r<vL.length:=by show r<16;omega
 have e:(vL.map tpI)[r]?=some (tpI vL[r]):=by rw[Am,dS N];rfl
 have hi:vU (.f (vL.map tpI)) (.c r) s1=.e (tpI vL[r]) s1:=cI e;have S:=lI (BB N);generalize vL[r]=zs at hi S;refine(show (vU (.f (vL.map tpI)) (.c r) s1).post _->_ from λh=>h) ?_;rw[hi];simp only[zA];rw[qB (v:=tpI zs) R (wQ _)];exact zA.mpr ⟨zs,rfl,S,R⟩
def kI(R:0<=i)(N:i<8):L2.qe 0 4 (.int i):=by
 have:=L2.cy (i:=i) ⋯ ⋯
 refine⟨this.c,this.b,this.a,?_⟩;have:i=0\/i=1\/i=2\/i=3\/i=4\/i=5\/i=6\/i=7:=by omega
 rcases this with rfl|rfl|rfl|rfl|rfl|rfl|rfl|rfl<;>decide
noncomputable def tD(ns:List Int):PyData:=.tuple (ns.map Gm)
theorem dQ:∀L:List (List Int),ds (tps L)=L.map tD
 |[]=>rfl
 |ns::L=>by show (tpI ns).d::ds (tps L)=tD ns::L.map tD;rw[dQ L];show PyData.tuple (ds (ns.map .c))::_=_;rw[oM];rfl
theorem mI:∀L:List (List Int),uz (tps L)=true
 |[]=>rfl
 |ns::L=>by show ((tpI ns).isR&&uz (tps L))=true;rw[mI L,GY];exact pO ns
def fK ns:(tD ns).hasDict=false:=by unfold tD;rw[PyData.hasDict];exact L2.t8 λd hd=>by obtain⟨i,hi,rfl⟩:=AO.mp hd;rfl
def lC(hx:zw s x=.f (tps L))(U:L.length<=100)(S:∀ns∈L,ns.length<=40/\∀i∈ns,0<=i/\i<4):blt .h m [x] s=.e (.m (PyData.list (L.map tD)).shown) s:=by
 have hd:(Val.f (tps L)).d=.list (L.map tD):=by rw[Val.d,dQ]
 have N:(Val.f (tps L)).isR=true:=by rw[Val.isR];exact mI L
 have ok:t9 (.list (L.map tD))=true:=fN (L2.fB (n:=100) (k:=1) (w:=200) (λd hd=>by
  obtain⟨ns,R,rfl⟩:=AO.mp hd;have:=S ns R;exact L2.kJ (k:=0) (w:=4) (n:=40) (λd hd=>by
   obtain⟨i,hi,rfl⟩:=AO.mp hd;have:=this.2 i hi;exact kI this.1 ⋯) (by rw[Aa];exact this.1)) (by rw[Aa];exact U)) (by decide) (by decide) (by
  rw[PyData.hasDict];exact L2.t8 λd hd=>by obtain⟨r,N,rfl⟩:=AO.mp hd;exact fK r)
 simp only[blt];rw[hx,hd,N,ok];rfl
end
theorem iK:∀L:List (List Int),(tps L).flatMap (λv=>if f (unI v) then [v] else [])=tps (L.filter f)
 |[]=>rfl
 |x::L=>by
  show (if f (unI (tpI x)) then [tpI x] else [])++(tps L).flatMap _=_
  rw[iK L,qc,List.filter_cons];cases f x<;>rfl
def Vz{f:List Int->Bool}(hi:zo Φ G env it s=.e ⟨tps L,none⟩ s)(h0:zG fr env=none::e0)(h:∀x∈L,yD Φ G (some (tpI x)::e0) ifs s=.e (f x) s)(S:(newList m (tps (L.filter f)) s).post P):(evE Φ G env (.p m N fr (.e 0) (.a 0) it ifs) s).post P:=by
 refine nA (λe=>∃o,e=o::e0) (λv=>if f (unI v) then [v] else []) (tps L) (s1:=s) hi ⟨none,h0⟩ ?_ (by rw[iK];exact S)
 rintro v R e ⟨o,rfl⟩;obtain⟨x,hx,rfl⟩:=AO.mp R;refine⟨_,rfl,⟨_,rfl⟩,?_⟩;show (yD Φ G (some (tpI x)::e0) ifs s).post _;rw[h x hx,qc];refine zA.mpr ⟨rfl,?_⟩;cases f x with
 |true=>
  rw[if_pos rfl,if_pos rfl];exact pV.mpr ⟨_,rfl,rfl,rfl⟩
 |false=>rw[if_neg Ag,if_neg Ag]
def Uv{f:List Int->Bool}(hi:zo Φ G env it s=.e ⟨tps L,none⟩ s)(h0:zG fr env=none::e0)(h:∀x∈L,yD Φ G (some (tpI x)::e0) ifs s=.e (f x) s):evE Φ G env (.p false N fr (.e 0) (.a 0) it ifs) s=.e (.f (tps (L.filter f))) s:=post_eq.mpr (Vz hi h0 h (zA.mpr ⟨rfl,rfl⟩))
end M
end
section
namespace F75
open PySem M
noncomputable def xN:Fn:=⟨["_law_pen_here","_law_bound","_law_found","_law_stir"],["_law_pen_here","_law_bound"],false,(.e (.j (.b (.a (.q .b (.s (.e 0) (.g (.c 1))) (.g (.c 1)))) (.b (.a (.q .h (.s (.e 0) (.g (.c 0))) (.g (.c 0)))) .a)) (.e (.d 2 (.h false .d (.s (.e 0) (.g (.c 0))) (.e 1))) (.e (.l (.e 0) (.g (.c 0)) (.h false .c (.s (.e 0) (.g (.c 0))) (.e 1))) (.e (.f (.e 2)) .f))) .f) (.e (.l (.e 0) (.g (.c 2)) (.h false .a (.s (.e 0) (.g (.c 2))) (.g (.c 1)))) (.e (.d 3 (.h false .d (.h false .b (.h false .a (.s (.e 0) (.g (.c 3))) (.g (.c 17))) (.h false .a (.g (.c 69621)) (.h false .b (.g (.c 2)) (.s (.e 0) (.g (.c 2)))))) (.g (.c 2147483647)))) (.e (.d 3 (.h false .d (.h false .a (.h false .a (.h false .b (.e 3) (.e 3)) (.h false .b (.g (.c 40503)) (.s (.e 0) (.g (.c 2))))) (.g (.c 5))) (.g (.c 2147483629)))) (.e (.f (.h false .d (.h false .c (.h false .d (.h false .b (.e 3) (.g (.c 48271))) (.g (.c 2147483647))) (.g (.c 32))) (.e 1))) .f)))))⟩
noncomputable def yn:Fn:=⟨["_law_cell"],["_law_cell"],true,(.e (.f (.u true (.a (.e 0) (.a (.l .o false (.a (.q .j (.e 0) (.h false .g (.g (.c 10)) (.g (.c 18)))) .b)) (.a (.g (.c 0)) (.a (.h false .d (.e 0) (.g (.c 1000000007))) .b)))))) .f)⟩
end F75
end
section
namespace M
open PySem
def ag(zs:List Int):Bool:=dO zs 18 [[]]&&decide (zs.foldl (·*·) 1<=12)&&(decide (1<=zs.length)&&decide (zs.length<=4)&&zs.all λx=>decide (2<=x)&&decide (x<=8))
def pq(h:ag zs=true):yH zs:=by
 unfold ag at h;simp only[ub,decide_eq_true_eq,A5]at h;obtain⟨⟨Y,X⟩,⟨W,U⟩,S⟩:=h;have ⟨d1,Z⟩:=oK Y;have R:∀m,18<=m->yb zs [[]] m=[]:=λm N=>by
  have:=mN d1 (m-18)
  rwa [show 18+(m-18)=m by omega]at this
 refine⟨⟨W,U,λx hx=>S x hx⟩,X,R,λm=>?_⟩;by_cases N:m<18
 . exact Z m N
 . rw[R m ⋯];simp
noncomputable def fU(zs:List Int)(os:List Nat):List Int:=(Ah zs.length).map λh=>zs.getD (os.idxOf h) 0
noncomputable def apO(os:List Nat)(i:Int):Int:=((os.getD i.toNat 0:Nat):Int)
def Ye zs os:(fU zs os).length=zs.length:=by unfold fU;rw[Aa,A0]
def YR{os:List Nat}(h:os.Nodup):os.map (λx=>os.idxOf x)=Ah os.length:=by
 apply EG
 . simp
 . intro i R N
   rw[List.getElem_map,h.idxOf_getElem,List.getElem_range]
def range_getD(zs:List Int):(Ah zs.length).map (λh=>zs.getD h 0)=zs:=by
 apply EG
 . simp
 . intro i R N
   rw[List.getElem_map,List.getElem_range,Ab,dS N];rfl
structure Od(k:Nat)(os:List Nat):Prop where
 nd:os.Nodup
 b:os.length=k
 lt:∀x∈os,x<k
 ix:∀h,h<k->os.idxOf h<k/\os[os.idxOf h]?=some h
 c:∀(a h:Nat),os[a]?=some h->os.idxOf h=a
def iy{os}(p:os.Perm (Ah k)):Od k os:=by
 have nd:os.Nodup:=p.nodup_iff.mpr B1;have S:os.length=k:=by rw[p.length_eq,A0]
 refine⟨nd,S,λx hx=>Al.mp (p.mem_iff.mp hx),λh U=>?_,λa h e=>?_⟩
 . have R:h∈os:=p.mem_iff.mpr (Al.mpr U)
   have N:=List.idxOf_lt_length_iff.mpr R;exact⟨⋯,by rw[dS N,D7]⟩
 . obtain⟨N,rfl⟩:=As.mp e
   exact nd.idxOf_getElem a N
def Fit.Wg{os}(U:Fit zs ns)(p:os.Perm (Ah zs.length)):Fit (fU zs os) (ns.map (apO os)):=by
 have O:=iy p;have W:=Ye zs os;have N:∀i∈ns,∃a:Nat,i=(a:Int)/\a<zs.length/\∃h,os[a]?=some h/\h<zs.length/\apO os i=(h:Int):=λi hi=>by
  have:=U.b i hi;obtain⟨a,rfl⟩:∃a:Nat,i=a:=⟨i.toNat,⋯⟩
  have R:a<os.length:=by rw[O.b];omega
  refine⟨a,rfl,⋯,os[a],dS R,O.lt _ (BB R),?_⟩
  unfold apO;rw[BC,Ab,dS R];rfl
 refine⟨λx hx=>?_,λh f d S h2 Z Y=>?_⟩
 . obtain⟨i,hi,rfl⟩:=AO.mp hx
   obtain⟨a,rfl,R,h,_,hh,e⟩:=N i hi;rw[e,W];omega
 . rw[W]at S
   obtain⟨x1,x2⟩:=O.ix h S;have hs:yB (fU zs os) h=yB zs (os.idxOf h):=by unfold yB fU;rw[Ab,Am,CC S];rfl
   rw[hs,Aa]at Z;rw[hs]at Y;refine U.c (os.idxOf h) f d x1 h2 Z (xO.mpr λk hk=>?_);have:=xO.mp Y k hk;rw[Am]at this;obtain⟨i,X,h6⟩:=AJ.mp this;obtain⟨a,rfl,R,h',e1,_,e2⟩:=N i (AF X);rw[e2]at h6;obtain rfl:h'=h:=by omega
   rw[X,O.c a h' e1]
end M
end
section
namespace F64
open PySem M
noncomputable def yG:Fn:=⟨["thing","product"],["thing"],false,(.e (.m (.j "need_sizes" 0 (.a (.e 0) .b))) (.e (.d 1 (.j "product_of" 0 (.a (.e 0) .b))) (.e (.j (.a (.q .h (.e 1) (.I "MOST_PRODUCT"))) (.e (.n (.j "TooGreat" 1 (.a (.e 1) (.a (.I "MOST_PRODUCT") .b)))) .f) .f) .f)))⟩
end F64
end
section
namespace M
open PySem
noncomputable def gZ(zs:List Int)(h:Nat):Int:=zs.getD h 0
def exM(zs:List Int)(z:Int)(w:List Nat):List Nat:=(Ah zs.length).filter λh=>decide (gZ zs h=z)&&!decide (h∈w)
def exG(zs:List Int)(z:Int)(L:List (List Nat)):List (List Nat):=L.flatMap λw=>(exM zs z w).map λh=>w++[h]
def exF(zs:List Int):List Int->List (List Nat)->List (List Nat)
 |[],L=>L
 |z::r,L=>exF zs r (exG zs z L)
def exL(zs:List Int):List (List Nat):=exF zs zs [[]]
structure Ons(zs:List Int)(w:List Nat)(r:List Int)(t:List Nat):Prop where
 a:∀x∈t,x<zs.length/\x ∉ w
 b:t.map (gZ zs)=r
 c:t.Nodup
def u6:h∈exM zs z w↔h<zs.length/\gZ zs h=z/\h ∉ w:=by unfold exM;rw[D0,Al,ub,decide_eq_true_eq,A8,decide_eq_false_iff_not]
theorem ij:∀{r} {L} {w},w∈exF zs r L↔∃R∈L,∃t,w=R++t/\Ons zs R r t
 |[],L,w=>by
  unfold exF;constructor
  . exact λh=>⟨w,h,[],(AR _).symm,⟨nofun,rfl,.nil⟩⟩
  . rintro ⟨R,h,t,rfl,o⟩
    have:=List.map_eq_nil_iff.mp o.b;subst this
    rwa [AR]
 |z::r,L,w=>by
  unfold exF;rw[ij];constructor
  . rintro ⟨Z,S,t,rfl,o⟩
    obtain⟨R,h0,S⟩:=Dm.mp S;obtain⟨h,Y,rfl⟩:=AO.mp S;obtain⟨X,W,U⟩:=u6.mp Y;refine⟨R,h0,h::t,by rw[Ak];rfl,⟨λx hx=>?_,by rw[AB,W,o.b],Bb.mpr ⟨λN=>(o.a h N).2 (AZ _ (.head _)),o.c⟩⟩⟩
    rcases Ar.mp hx with rfl|hx
    . exact⟨X,U⟩
    . exact⟨(o.a x hx).1,λN=>(o.a x hx).2 (Bl _ N)⟩
  . rintro ⟨R,h0,t,rfl,o⟩
    match t,o with
    |[],o=>cases o.b
    |h::t,o=>
     have e:=o.b;rw[AB,Dx]at e;have nd:=Bb.mp o.c;refine⟨R++[h],Dm.mpr ⟨R,h0,AO.mpr ⟨h,u6.mpr ⟨(o.a h (.head _)).1,e.1,(o.a h (.head _)).2⟩,rfl⟩⟩,t,by rw[Ak];rfl,⟨λx hx=>⟨(o.a x (.tail _ hx)).1,λN=>?_⟩,e.2,nd.2⟩⟩
     rcases AQ.mp N with N|N
     . exact(o.a x (.tail _ hx)).2 N
     . rw[Az.mp N]at hx;exact nd.1 hx
def ik:w∈exL zs↔(∀x∈w,x<zs.length)/\w.map (gZ zs)=zs/\w.Nodup:=by
 unfold exL;rw[ij];constructor
 . rintro ⟨U,h0,t,rfl,o⟩
   rw[Az.mp h0];exact⟨λx hx=>(o.a x hx).1,o.b,o.c⟩
 . rintro ⟨S,R,N⟩
   exact⟨[],.head _,w,rfl,⟨λx hx=>⟨S x hx,nofun⟩,R,N⟩⟩
def ku{w:List Nat}(R:∀x∈w,x<n)(U:w.length=n)(N:w.Nodup):w.Perm (Ah n):=by
 refine(CK N B1).mpr λa=>⟨λh=>Al.mpr (R a h),λh=>?_⟩;refine E8 λS=>?_;have nd:(a::w).Nodup:=Bb.mpr ⟨S,N⟩;have:=nd.length_le_of_subset (l₂:=Ah n) λx hx=>by
  rcases Ar.mp hx with rfl|hx
  . exact h
  . exact Al.mpr (R x hx)
 rw[Aj,A0]at this;omega
structure Exc(zs:List Int)(w:List Nat):Prop where
 c:w.Perm (Ah zs.length)
 d:w.map (gZ zs)=zs
def kC(h:w∈exL zs):Exc zs w:=by obtain⟨S,N,R⟩:=ik.mp h;exact⟨ku S (by have:=congrArg FE N;rwa [Aa]at this) R,N⟩
def Exc.mem(h:Exc zs w):w∈exL zs:=
 ik.mpr ⟨λx hx=>Al.mp (h.c.mem_iff.mp hx),h.d,h.c.nodup_iff.mpr B1⟩
def lA zs:(Ah zs.length).map (gZ zs)=zs:=range_getD zs
def Wf zs:Exc zs (Ah zs.length):=⟨.refl _,lA zs⟩
noncomputable def bkO(w:List Nat):List Nat:=(Ah w.length).map λh=>w.idxOf h
def Exc.back(h:Exc zs w):Exc zs (bkO w)/\∀i<zs.length,(bkO w)[i]?=some (w.idxOf i):=by
 have O:=iy h.c;have nd:=O.nd;have hp:(bkO w).Perm (Ah zs.length):=by have:=h.c.symm.map λx=>w.idxOf x;rw[YR nd,O.b]at this;unfold bkO;rw[O.b];exact this
 refine⟨⟨hp,?_⟩,λi hi=>?_⟩
 . unfold bkO
   rw[O.b,BI];refine Hj (CD λi hi=>?_) (lA zs);have hi:=Al.mp hi;obtain⟨a,b⟩:=O.ix i hi;have e:(w.map (gZ zs))[w.idxOf i]?=zs[w.idxOf i]?:=by rw[h.d]
   rw[Am,b]at e;show gZ zs (w.idxOf i)=gZ zs i;unfold gZ at *;rw[Ab,<-e];rfl
 . unfold bkO
   rw[Am,O.b,CC hi];rfl
def eV{a h:Nat}(e:w[a]?=some h):apO w (a:Int)=h:=by unfold apO;rw[BC,Ab,e];rfl
def Exc.ap(h:Exc zs w){i:Int}(h0:0<=i)(R:i<zs.length):∃a b:Nat,i=a/\w[a]?=some b/\b<zs.length/\apO w i=b:=by
 have O:=iy h.c;obtain⟨a,rfl⟩:∃a:Nat,i=a:=⟨i.toNat,⋯⟩
 have N:a<w.length:=by rw[O.b];omega
 exact⟨a,w[a],rfl,dS N,O.lt _ (BB N),eV (dS N)⟩
def Exc.oth(h:Exc zs w):fU zs w=zs:=by have:=h.back.1.d;unfold bkO at this;rw[(iy h.c).b,BI]at this;exact this
def Exc.fit(h:Exc zs w)(N:Fit zs x):Fit zs (x.map (apO w)):=by
 have:=N.Wg h.c
 rwa [h.oth]at this
def alV(zs x:List Int):List (List Int):=(exL zs).flatMap λw=>[x.map (apO w),x.reverse.map (apO w)]
def alS(zs x:List Int):List (List Int):=L2.zk (nub (alV zs x))
def ie:y∈alV zs x↔∃w,Exc zs w/\(y=x.map (apO w)\/y=x.reverse.map (apO w)):=by
 unfold alV;rw[Dm];constructor
 . rintro ⟨w,hw,h⟩
   simp only[Ar,BG,or_false]at h;exact⟨w,kC hw,h⟩
 . rintro ⟨w,hw,h⟩
   exact⟨w,hw.mem,by simpa using h⟩
def ic:y∈alS zs x↔∃w,Exc zs w/\(y=x.map (apO w)\/y=x.reverse.map (apO w)):=by unfold alS;rw[(L2.zc _).mem_iff,yq,ie]
def WM(R:Sz zs)(N:Fit zs x)(h:y∈alS zs x):Fit zs y/\y.length=x.length:=by
 obtain⟨w,hw,rfl|rfl⟩:=ic.mp h
 . exact⟨hw.fit N,Aa _⟩
 . exact⟨hw.fit (N.rev R),by rw[Aa,EY]⟩
def ZT(hx:∀i∈x,0<=i/\i<(zs.length:Int)):x∈alS zs x:=by
 refine ic.mpr ⟨_,Wf zs,.inl (Eq.symm ?_)⟩;refine Hj (CD λi hi=>?_) (List.map_id _);obtain⟨a,rfl⟩:∃a:Nat,i=a:=⟨i.toNat,by have:=hx i hi;omega⟩
 exact eV (CC (by have:=hx _ hi;omega))
noncomputable def Zm:Nat->Nat
 |0=>1
 |n+1=>(n+1)*Zm n
theorem iH:∀{r} {L},(∀w∈L,w.Nodup/\(∀x∈w,x<zs.length)/\w.length+r.length=zs.length)->(exF zs r L).length<=L.length*Zm r.length
 |[],L,_=>by unfold exF;rw[BW,Zm,Nat.mul_one];exact Ac _
 |z::r,L,h=>by
  unfold exF;have R:∀w∈exG zs z L,w.Nodup/\(∀x∈w,x<zs.length)/\w.length+r.length=zs.length:=λw hw=>by
   obtain⟨S,h0,hw⟩:=Dm.mp hw;obtain⟨k,hk,rfl⟩:=AO.mp hw;obtain⟨a,b,c⟩:=u6.mp hk;obtain⟨d,e,f⟩:=h S h0;refine⟨DG.mpr ⟨d,Bb.mpr ⟨nofun,.nil⟩,λx hx y N e=>c ?_⟩,λx hx=>?_,by rw[Aq,BE];rw[Aj]at f;omega⟩
   . rw[Az.mp N]at e;rwa [<-e]
   . rcases AQ.mp hx with hx|hx
     . exact e x hx
     . rw[Az.mp hx];exact a
  refine Ao (iH R) ?_;have W:(exG zs z L).length<=L.length*(r.length+1):=by
   clear R;unfold exG;induction L with
   |nil=>exact AS _
   |cons w L U=>
    rw[BQ,Aq,Aa,Aj,Nat.succ_mul,Nat.add_comm];refine Nat.add_le_add (U λw hw=>h w (.tail _ hw)) ?_;obtain⟨d,e,f⟩:=h w (.head _);have nd:(exM zs z w++w).Nodup:=DG.mpr ⟨B1.filter _,d,λx hx y N e=>(u6.mp hx).2.2 (e▸N)⟩;have:=nd.length_le_of_subset (l₂:=Ah zs.length) λx hx=>by
     rcases AQ.mp hx with hx|hx
     . exact Al.mpr (u6.mp hx).1
     . exact Al.mpr (e x hx)
    rw[Aq,A0]at this;rw[Aj]at f;omega
  rw[Aj,Zm,<-Nat.mul_assoc];exact DK _ W
def iJ(N:zs.length<=4):(exL zs).length<=24:=by
 refine Ao (iH (L:=[[]]) λw hw=>?_) ?_
 . rw[Az.mp hw];exact⟨.nil,nofun,Cp _⟩
 . rw[BE,Nat.one_mul]
   have:zs.length=0\/zs.length=1\/zs.length=2\/zs.length=3\/zs.length=4:=by omega
   rcases this with e|e|e|e|e<;>rw[e]<;>decide
def ZS(R:zs.length<=4):(alV zs x).length<=48:=by
 have h:=iJ R;have e:∀L:List (List Nat),(L.flatMap λw=>[x.map (apO w),x.reverse.map (apO w)]).length=L.length*2:=λL=>by
  induction L with
  |nil=>rfl
  |cons w L N=>rw[BQ,Aq,N];show 2+_=(L.length+1)*2;omega
 unfold alV;rw[e];omega
theorem ox:∀l:List (List Int),(nub l).length<=l.length
 |[]=>Ac _
 |z::l=>by
  have:=ox l;unfold nub;split
  . rw[Aj];omega
  . rw[Aj,Aj];omega
def lwA(x:List Int):List (List Nat)->List (List Int)->List (List Int)
 |[],F=>F
 |w::r,F=>lwA x r (F++[x.map (apO w),(x.map (apO w)).reverse].filter λy=>!decide (y∈F))
theorem om:∀{r} {F},y∈lwA x r F↔y∈F\/∃w∈r,y=x.map (apO w)\/y=x.reverse.map (apO w)
 |[],F=>by unfold lwA;simp
 |w::r,F=>by
  unfold lwA;rw[om,AQ,D0,<-List.map_reverse];simp only[Ar,BG,or_false,A8,decide_eq_false_iff_not];constructor
  . rintro ((h|⟨h,_⟩)|⟨v,N,h⟩)
    . exact .inl h
    . exact .inr ⟨w,.inl rfl,h⟩
    . exact .inr ⟨v,.inr N,h⟩
  . rintro (h|⟨v,rfl|N,h⟩)
    . exact .inl (.inl h)
    . by_cases hF:y∈F
      . exact .inl (.inl hF)
      . exact .inl (.inr ⟨h,hF⟩)
    . exact .inr ⟨v,N,h⟩
theorem iX:∀{r} {F},(lwA x r F).length<=F.length+2*r.length
 |[],F=>Ac _
 |w::r,F=>by unfold lwA;refine Ao iX ?_;have:=List.length_filter_le (λy=>!decide (y∈F)) [x.map (apO w),(x.map (apO w)).reverse];rw[Aq,Aj];have e:[x.map (apO w),(x.map (apO w)).reverse].length=2:=rfl;omega
def Vf zs x:L2.zk (nub (lwA x (exL zs) []))=alS zs x:=by refine sJ (x8 _) ((CK (x8 _) (x8 _)).mpr λy=>?_);rw[yq,yq,om];unfold alV;rw[Dm];simp
end M
end
section
namespace F44
open PySem M
noncomputable def yl:Fn:=⟨["_law_sizes_here","_law_strip","_law_found","_law_order","_law_other"],["_law_sizes_here","_law_strip"],false,(.e (.d 2 (.u false .b)) (.e (.g (.a 3) (.f (.j "_law_orders" 0 (.a (.e 0) .b))) (.e (.d 4 (.l .d false (.a (.p false ["_law_hue","_law_order"] [none,some 3] (.s (.e 1) (.e 0)) (.a 0) (.f (.e 1)) .a) .b))) (.e (.d 2 (.h false .a (.e 2) (.p false ["_law_one","_law_found"] [none,some 2] (.e 0) (.a 0) (.f (.k (.a (.e 4) (.a (.K false (.e 4) .b .b (.a (.D (.g (.c 1))))) .b)))) (.b (.a (.q .a (.e 0) (.e 1))) .a)))) .f))) (.e (.f (.C false (.e 2))) .f)))⟩
noncomputable def ya:Fn:=⟨["_law_sizes_here","_law_found","_law_hue","_law_later","_law_some","_law_more"],["_law_sizes_here"],false,(.e (.d 1 (.u false (.a (.k .b) .b))) (.e (.g (.a 2) (.d (.l .a false (.a (.e 0) .b))) (.e (.d 3 (.u false .b)) (.e (.g (.a 4) (.f (.e 1)) (.e (.d 5 (.p false ["_law_one","_law_some","_law_sizes_here","_law_hue"] [none,some 4,some 0,some 2] (.e 0) (.a 0) (.d (.l .a false (.a (.e 0) .b))) (.b (.b (.a (.q .a (.e 0) (.e 1))) (.b (.a (.q .b (.s (.e 2) (.e 0)) (.s (.e 2) (.e 3)))) .a)) .a))) (.e (.d 3 (.h false .a (.e 3) (.p false ["_law_one","_law_some"] [none,some 4] (.h false .a (.e 1) (.k (.a (.e 0) .b))) (.a 0) (.f (.e 5)) .a))) .f))) (.e (.d 1 (.e 3)) .f)))) (.e (.f (.e 1)) .f)))⟩
noncomputable def w6:Fn:=⟨["sizes","strip","ways"],["sizes","strip"],false,(.e (.d 2 (.j "exchanges" 0 (.a (.e 0) .b))) (.e (.f (.A false ["way","hues","strip"] [none,none,some 1] (.l .d false (.a (.p false ["hue","way"] [none,some 0] (.s (.e 1) (.e 0)) (.a 0) (.f (.e 1)) .a) .b)) (.a 0) (.f (.e 2)) .a (.a 1) (.f (.k (.a (.e 2) (.a (.K false (.e 2) .b .b (.a (.D (.g (.c 1))))) .b)))) .a)) .f))⟩
noncomputable def wJ:Fn:=⟨["sizes","hues","ways","size"],["sizes"],false,(.e (.d 1 (.r false (.g (.c 0)) (.l .a false (.a (.e 0) .b)) (.g (.c 1)))) (.e (.d 2 (.u false (.a (.k .b) .b))) (.e (.g (.a 3) (.f (.e 0)) (.e (.d 2 (.w false ["way","hue","hues","size","sizes"] [none,none,some 1,some 3,some 0] (.h false .a (.e 0) (.k (.a (.e 1) .b))) (.a 0) (.f (.e 2)) .a (.a 1) (.f (.e 2)) (.b (.b (.a (.q .b (.s (.e 4) (.e 1)) (.e 3))) (.b (.a (.q .a (.e 1) (.e 0))) .a)) .a))) .f)) (.e (.f (.e 2)) .f))))⟩
end F44
end
section
namespace M
open PySem
theorem bF{W:Type}{f}{g}{I:Env->Prop}(S:r.ok s=true):∀(xs:List W),(∀x∈xs,∀e acc,I e->∃U N,z9 t (f x) e=some U/\body U s acc=.e (acc++g x,N) s/\I N)->∀e acc,I e->∃R,I R/\z5 r t body (xs.map f) e s acc=.e (acc++xs.flatMap g,R) s
 |[],_,e,acc,h0=>⟨e,h0,by simp[z5,S]⟩
 |x::xs,h,e,acc,h0=>by obtain⟨U,N,h1,h2,h3⟩:=h x (.head _) e acc h0;obtain⟨R,Z,Y⟩:=bF S xs (λy X=>h y (.tail _ X)) N (acc++g x) h3;refine⟨R,Z,?_⟩;rw[AB,z5,S,if_pos rfl,h1];simp only[h2,zJ,Y,BQ,Ak]
def kO{S:Type}{xs:List S}{f:S->Val}{g:S->List Val}{I:Env->Prop}
 (h:∀a∈xs,∀e,I e->∃N,z9 t (f a) e=some N/\I N/\∃c,yD Φ G N ifs s=.e c s/\if c=true then ∃v,evE Φ G N elt s=.e v s/\g a=[v] else g a=[])   (h0:I e) :
 ∃U,I U/\z5 ⟨xs.map f,none⟩ t (λe s' acc=>(yD Φ G e ifs s').bind λb s2=>if b then (evE Φ G e elt s2).bind λv W=>.e (acc++[v],e) W else .e (acc,e) s2) (xs.map f) e s acc=.e (acc++xs.flatMap g,U) s:=
 bF rfl xs (λa ha e acc he=>by
  obtain⟨N,k1,k2,c,Z,R⟩:=h a ha e he;refine⟨N,N,k1,?_,k2⟩;show (yD Φ G N ifs s).bind _=_;rw[Z,zJ];cases c with
  |true=>
   rw[if_pos rfl]at R ⊢;obtain⟨v,X,Y⟩:=R;rw[X,zJ,Y]
  |false=>
   rw[if_neg Ag]at R ⊢;rw[R,AR]) e acc h0
def bE{U Y:Type}{xs:List U}{f:U->Val}{ys:U->List Y}{f2:U->Y->Val}{g:U->Y->List Val}{I:Env->Prop}{J:U->Env->Prop}
 (h:∀a∈xs,∀e,I e->∃S,z9 t (f a) e=some S/\zo Φ G S it2 s=.e ⟨(ys a).map (f2 a),none⟩ s/\J a S) (hJ:∀a e,J a e->I e)
 (h2:∀a∈xs,∀b∈ys a,∀e,J a e->∃S,z9 t2 (f2 a b) e=some S/\J a S/\∃c,yD Φ G S ifs2 s=.e c s/\if c=true then ∃v,evE Φ G S elt s=.e v s/\g a b=[v] else g a b=[])  (h0:I e) :
 ∃R,z5 ⟨xs.map f,none⟩ t (λe s' acc=>(yD Φ G e .a s').bind λb s2=>if b then (zo Φ G e it2 s2).bind λX s3=>
     z5 X t2 (λR s4 N=>(yD Φ G R ifs2 s4).bind λb' W=>if b' then (evE Φ G R elt W).bind λv Z=>.e (N++[v],R) Z else .e (N,R) W) X.a e s3 acc
  else .e (acc,e) s2) (xs.map f) e s []=.e (xs.flatMap λa=>(ys a).flatMap (g a),R) s:=by
 obtain⟨R,_,k⟩:=bF (s:=s) (r:=⟨xs.map f,none⟩) (t:=t) (I:=I) (g:=λa=>(ys a).flatMap (g a)) (f:=f) (body:=λe s' acc=>(yD Φ G e .a s').bind λb s2=>if b then (zo Φ G e it2 s2).bind λX s3=>
        z5 X t2 (λR s4 N=>(yD Φ G R ifs2 s4).bind λb' W=>if b' then (evE Φ G R elt W).bind λv Z=>.e (N++[v],R) Z else .e (N,R) W) X.a e s3 acc
  else .e (acc,e) s2) rfl xs (λa ha e acc he=>by
  obtain⟨S,k1,k2,k3⟩:=h a ha e he;obtain⟨e2,k4,k5⟩:=kO (t:=t2) (I:=J a) (h2 a ha) (acc:=acc) k3;refine⟨S,e2,k1,?_,hJ _ _ k4⟩;show (zo Φ G S it2 s).bind _=_;rw[k2,zJ];exact k5) e [] h0
 exact⟨R,k⟩
def nS{S:Type}{xs:List S}{f}{g}(I:Env->Prop)(hi:zo Φ G env it s=.e ⟨xs.map f,none⟩ s1)(h0:I (zG fr env))
 (h:∀a∈xs,∀e,I e->∃R,z9 t (f a) e=some R/\I R/\∃c,yD Φ G R ifs s1=.e c s1/\if c=true then ∃v,evE Φ G R elt s1=.e v s1/\g a=[v] else g a=[]) :
 evE Φ G env (.p false N fr elt t it ifs) s=.e (.f (xs.flatMap g)) s1:=by
 obtain⟨U,_,k⟩:=kO h (acc:=[]) h0;show (zo Φ G env it s).bind _=_;rw[hi,zJ];exact bnd k rfl
def ZJ{S U:Type}{xs:List S}{f}{ys:S->List U}{f2:S->U->Val}{g:S->U->List Val}(I:Env->Prop)(J:S->Env->Prop)(hi:zo Φ G env it s=.e ⟨xs.map f,none⟩ s1)(h0:I (zG fr env))
 (h:∀a∈xs,∀e,I e->∃R,z9 t (f a) e=some R/\zo Φ G R it2 s1=.e ⟨(ys a).map (f2 a),none⟩ s1/\J a R) (X:∀a e,J a e->I e)
 (Y:∀a∈xs,∀b∈ys a,∀e,J a e->∃R,z9 t2 (f2 a b) e=some R/\J a R/\∃c,yD Φ G R ifs2 s1=.e c s1/\if c=true then ∃v,evE Φ G R elt s1=.e v s1/\g a b=[v] else g a b=[]) (W:(xs.flatMap λa=>(ys a).flatMap (g a)).length<=zN) :
 evE Φ G env (.w false N fr elt t it .a t2 it2 ifs2) s=.e (.f (xs.flatMap λa=>(ys a).flatMap (g a))) s1:=by
 obtain⟨Z,k⟩:=bE h X Y h0;show (zo Φ G env it s).bind _=_;rw[hi,zJ];exact bnd k (if_pos W)
def ZK{S U:Type}{xs:List S}{f}{ys:S->List U}{f2:S->U->Val}{g:S->U->List Val}(I:Env->Prop)(J:S->Env->Prop)(hi:zo Φ G env it s=.e ⟨xs.map f,none⟩ s1)(h0:I (zG fr env))
 (h:∀a∈xs,∀e,I e->∃R,z9 t (f a) e=some R/\zo Φ G R it2 s1=.e ⟨(ys a).map (f2 a),none⟩ s1/\J a R) (X:∀a e,J a e->I e)
 (Y:∀a∈xs,∀b∈ys a,∀e,J a e->∃R,z9 t2 (f2 a b) e=some R/\J a R/\∃c,yD Φ G R ifs2 s1=.e c s1/\if c=true then ∃v,evE Φ G R elt s1=.e v s1/\g a b=[v] else g a b=[]) (W:wD m (xs.flatMap λa=>(ys a).flatMap (g a)) s1=o) :
 evE Φ G env (.A m N fr elt t it .a t2 it2 ifs2) s=o:=by
 obtain⟨Z,k⟩:=bE h X Y h0;show (zo Φ G env it s).bind _=_;rw[hi,zJ];exact bnd k W
def XS{S:Type}{xs:List S}{f}{g}(I:Env->Prop)(hi:zo Φ G env it s=.e ⟨xs.map f,none⟩ s1)(h0:I (zG fr env))
 (h:∀a∈xs,∀e,I e->∃R,z9 t (f a) e=some R/\I R/\∃c,yD Φ G R ifs s1=.e c s1/\if c=true then ∃v,evE Φ G R elt s1=.e v s1/\g a=[v] else g a=[]) (U:wD m (xs.flatMap g) s1=o) :
 evE Φ G env (.B m N fr elt t it ifs) s=o:=by
 obtain⟨W,_,k⟩:=kO h (acc:=[]) h0;show (zo Φ G env it s).bind _=_;rw[hi,zJ];exact bnd k U
def Uy(h:evE Φ G env a s=.e (.f vs) s1)(N:wD m vs s1=o):evE Φ G env (.C m a) s=o:=bnd h N
def sI(U:L.length<306)(S:(nub L).length<2\/∀z∈L,z≠[]):wD m (tps L) s=newList m (tps (L2.zk (nub L))) s:=by
 have R:(nub L).length<306:=CT (ox L) U;have e:setOk (tps L)=some (nub L):=by unfold setOk;rw[qb];exact if_pos R
 unfold wD;rw[e];refine(if_pos (S.imp id λh z N=>h z (yq.mp N))).trans ?_;congr 1
theorem Xf:∀a b:List Int,FP (a.map Gm) (b.map Gm)=decide (a=b)
 |[],[]=>by simp[FP]
 |[],_::_=>by simp[FP]
 |_::_,[]=>by simp[FP]
 |x::a,y::b=>by rw[AB,AB,FP,Xf a b,oP,BV,ub,decide_eq_true_eq,decide_eq_true_eq,decide_eq_true_eq,Dx]
def dH ns:(tpI ns).d=.tuple (ns.map Gm):=by rw[Val.d,oM]
def jv:(tps L).any (λz=>Ck z.d (tpI x).d)=decide (x∈L):=by
 have e:∀a b:List Int,Ck (tpI a).d (tpI b).d=decide (a=b):=λa b=>by rw[dH,dH,Ck];exact Xf a b
 unfold tps;rw[BV,List.any_map,CM,decide_eq_true_eq];constructor
 . rintro ⟨y,N,h⟩
   have h:Ck (tpI y).d (tpI x).d=true:=h;rw[e,decide_eq_true_eq]at h
   rwa [<-h]
 . intro h
   exact⟨x,h,by show Ck (tpI x).d (tpI x).d=true;rw[e,decide_eq_true rfl]⟩
theorem dJ:∀ns:List Int,Ga (ns.map Gm)=0
 |[]=>rfl
 |n::ns=>by rw[AB,Ga,dJ ns,HA];rfl
def iO:inD (tpI x) (tps L)=true:=by
 have h:(tpI x).d.depth<=60:=by rw[dH,HA,dJ];decide
 unfold inD;rw[show (tpI x).isD=true by rw[Val.isD];exact v3 x,mG,decide_eq_true h];rfl
def Wo:zQ .i (tpI x) (.f (tps L)) s=.e (.e (decide (x∈L))) s/\zQ .a (tpI x) (.f (tps L)) s=.e (.e !(decide (x∈L))) s:=by have N:flat (tpI x)=false:=rfl;simp only[zQ,y9,N,iO,jv];exact⟨rfl,rfl⟩
def iq{p:Nat}:zQ .a (.c (p:Int)) (yI hs) s=.e (.e !decide (p∈hs)) s:=by
 have e:(hs.map λ(k:Nat)=>Val.c k).any (λz=>eqF z (.c (p:Int)))=decide (p∈hs):=by
  rw[List.any_map];induction hs with
  |nil=>rfl
  |cons h hs N=>
   rw[Dz,N];show (((h:Int) == (p:Int))||_)=_
   by_cases hh:p=h
   . subst hh;simp
   . have:¬(h:Int)=(p:Int):=by omega
     simp[hh,this]
 have fl:(hs.map λ(k:Nat)=>Val.c k).all flat=true:=A5.mpr λv R=>by obtain⟨k,_,rfl⟩:=AO.mp R;rfl
 show (if flat (.c (p:Int))&&(hs.map λ(k:Nat)=>Val.c k).all flat then Out.e (Val.e !((hs.map λ(k:Nat)=>Val.c k).any λz=>eqF z (.c (p:Int)))) s else _)=_
 rw[if_pos (by rw[fl];rfl),e]
def Rr{n:Nat}(R:1<=n)(N:n<=4):YO false (.c 0) (.c n) (.c 1) s=.e (.f ((Ah n).map λ(k:Nat)=>Val.c k)) s:=by
 have:n=1\/n=2\/n=3\/n=4:=by omega
 rcases this with rfl|rfl|rfl|rfl<;>rfl
def nV{h:Nat}(hw:w.length<=100):binOp false .a (yI w) (.g [.c h]) s=.e (yI (w++[h])) s:=by show binOp false .a (.g (w.map λ(k:Nat)=>Val.c k)) (.g [.c h]) s=.e (.g ((w++[h]).map λ(k:Nat)=>Val.c k)) s;rw[C7];exact oB (by rw[Aa];unfold zN;simp;omega)
def iI zs z L:(L.flatMap λw=>(Ah zs.length).flatMap λh=>if (decide (gZ zs h=z)&&!decide (h∈w))=true then [yI (w++[h])] else [])=(exG zs z L).map yI:=by unfold exG;rw[HC];congr 1;funext w;rw[oS (λh=>decide (gZ zs h=z)&&!decide (h∈w)) (λh=>yI (w++[h]))];unfold exM;rw[BI];rfl
def Zl(h:∀w∈L,w.length=n):∀w∈exG zs z L,w.length=n+1:=λw hw=>by obtain⟨v,N,hw⟩:=Dm.mp hw;obtain⟨k,_,rfl⟩:=AO.mp hw;rw[Aq,h v N];rfl
def dk(R:zs.length<=4):(exG zs z L).length<=4*L.length:=by
 unfold exG;induction L with
 |nil=>exact AS _
 |cons w L N=>
  rw[BQ,Aq,Aa,Aj];have:(exM zs z w).length<=zs.length:=Ao (List.length_filter_le _ _) (by rw[A0];exact Ac _)
  omega
structure Gr4(zs:List Int)(k:Nat)(L:List (List Nat)):Prop where
 b:∀w∈L,w.length=k
 a:L.length<=4 ^ k
def Gr4.next(N:zs.length<=4)(h:Gr4 zs k L):Gr4 zs (k+1) (exG zs z L):=
 ⟨Zl h.b,Ao (dk N) (by rw[Nat.pow_succ,B8];exact DK _ h.a)⟩
def Gr4.line(h:Gr4 zs k L)(hk:k<=5):L.length<=2000:=Ao h.a (Ao (Nat.pow_le_pow_right (by decide) hk) (by decide))
section
variable {T:Tbl}{Φ:Calls}{s:Sto}
def XW(Φ:Calls):Prop:=∀(zs:List Int) (s:Sto),Sz zs->Φ "exchanges" 0 [tpI zs] s=.e (.f ((exL zs).map yI)) s
def iN(N:h<zs.length):zs[h]?=some (gZ zs h):=by unfold gZ;rw[Ab,dS N];rfl
def iu(L:List (List Nat)):(Val.f (L.map yI)).noRef=true:=by
 have e:L.map yI=tps (L.map λw=>w.map λ(k:Nat)=>(k:Int)):=by unfold tps;rw[BI];exact CD λw _=>Zu w
 rw[qJ,e];exact yh _
def aR(Y:Sz zs):run T Φ F44.wJ [tpI zs] s=.e (.f ((exL zs).map yI)) s:=by
 have X:∀n,n<100->n<=zN:=λn h=>by unfold zN;omega
 have U:=Y.1;have R:=Y.2.1;rw[post_eq,F44.wJ,wq];refine⟨rfl,?_⟩;show (zp Φ T.b [some (tpI zs),none,none,none] _ s).post _;refine yy (v:=.f ((Ah zs.length).map λ(k:Nat)=>Val.c k)) (bnd (zV) (bnd (nT rfl) (bnd zV (Rr U R)))) ?_;refine yy (v:=.f (([[]]:List (List Nat)).map yI)) (sX (zB (wG zM (X 0 ⋯)) zM) (X 1 ⋯)) ?_
 refine zi.mpr (y7 (λrest e s'=>s=s'/\∃r L k o,rest=r.map Val.c/\e=[some (tpI zs),some (.f ((Ah zs.length).map λ(k:Nat)=>Val.c k)),some (.f (L.map yI)),o]/\exF zs r L=exL zs/\Gr4 zs k L/\k+r.length=zs.length) (zs.map .c) (s1:=s) (xE (zE rfl) rfl) ⟨rfl,zs,[[]],0,_,rfl,rfl,rfl,⟨λw hw=>by rw[Az.mp hw];rfl,Ac _⟩,⋯⟩ ?_ ?_)
 . rintro x rest e s' ⟨rfl,r,L,k,o,N,rfl,S,g,hk⟩
   match r,N with
   |[],N=>cases N
   |z::r,N=>
    rw[AB,Dx]at N;obtain⟨rfl,rfl⟩:=N;rw[Aj]at hk;refine⟨_,rfl,?_⟩;have g':=g.next (z:=z) R;refine yy (v:=.f ((exG zs z L).map yI)) ?_ (vP ⟨rfl,r,_,k+1,_,rfl,rfl,S,g',⋯⟩)
    rw[<-iI];refine ZJ (f:=yI) (ys:=λ_=>Ah zs.length) (f2:=λ_ h=>Val.c (h:Nat)) (λe=>∃a b,e=[a,b,some (.f ((Ah zs.length).map λ(k:Nat)=>Val.c k)),some (.c z),some (tpI zs)]) (λw e=>∃b,e=[some (yI w),b,some (.f ((Ah zs.length).map λ(k:Nat)=>Val.c k)),some (.c z),some (tpI zs)]) (xE (zE rfl) rfl) ⟨none,none,rfl⟩ ?_ ?_ ?_ ?_
    . rintro w hw e ⟨a,b,rfl⟩
      exact⟨_,rfl,xE (zE rfl) rfl,b,rfl⟩
    . rintro w e ⟨b,rfl⟩;exact⟨_,_,rfl⟩
    . rintro w hw h W e ⟨b,rfl⟩
      have W:=Al.mp W;refine⟨_,rfl,⟨_,rfl⟩,decide (gZ zs h=z)&&!decide (h∈w),nP (az (vk (wU (uf (zE rfl) (zE rfl) (tx (iN W))) (zE rfl) eq_int) yd) (vk (wU (zE rfl) (zE rfl) iq) yd)),?_⟩;cases decide (gZ zs h=z)&&!decide (h∈w) with
      |true=>
       rw[if_pos rfl,if_pos rfl];exact⟨_,ye (zE rfl) (wG (zB (zE rfl) zM) (X 1 ⋯)) (nV (by rw[g.b w hw];omega)),rfl⟩
      |false=>rw[if_neg Ag,if_neg Ag]
    . rw[iI,Aa]
      have:=g'.line ⋯
      unfold zN;omega
 . rintro e s' ⟨rfl,r,L,k,o,N,rfl,S,g,hk⟩
   have:r=[]:=by cases r with|nil=>rfl|cons _ _=>cases N
   subst this;have S:L=exL zs:=S;subst S;refine xZ (zE rfl) ?_;show (yJ false s _ s).post _;rw[yK (iu _)];exact zA.mpr ⟨rfl,rfl⟩
def WD(hw:Exc zs w)(hx:∀i∈x,0<=i/\i<(zs.length:Int))(hi:env[i]?=some (some (yI w)))(S:env[j]?=some (some (tpI x))) :
 evE Φ G env (.l .d false (.a (.p false N [none,some i] (.s (.e 1) (.e 0)) (.a 0) (.f (.e j)) .a) .b)) s=.e (tpI (x.map (apO w))) s:=by
 have h0:zG [none,some i] env=[none,some (yI w)]:=by simp only[zG,AB,Eo,hi];rfl
 have e:(x.flatMap λi=>[Val.c (apO w i)])=(x.map (apO w)).map Val.c:=by rw[<-Gu,BI];rfl
 refine vq (zB (nS (f:=Val.c) (g:=λi=>[Val.c (apO w i)]) (λe=>∃o,e=[o,some (yI w)]) (xE (zE S) rfl) ⟨none,h0⟩ ?_) zM) (by rw[e];rfl)
 rintro a R e ⟨o,rfl⟩;obtain⟨b,c,rfl,W,_,U⟩:=hw.ap (hx a R).1 (hx a R).2;refine⟨_,rfl,⟨_,rfl⟩,true,rfl,?_⟩;rw[if_pos rfl];exact⟨_,uf (zE rfl) (zE rfl) (cJ (k:=b) (v:=.c (c:Nat)) (by rw[Am,W];rfl)),by rw[U]⟩
def YV(h:∀z∈L,z=[]):(nub L).length<2:=by
 have:=(x8 L).length_le_of_subset (l₂:=[[]]) λz N=>by rw[h z (yq.mp N)];exact .head _
 exact Nat.lt_succ_of_le this
def lg{x:List Int}{L:List (List Int)}(h:∀z∈L,z.length=x.length):(nub L).length<2\/∀z∈L,z≠[]:=by
 by_cases hx:x.length=0
 . exact .inl (YV λz N=>HG.mp ((h z N).trans hx))
 . exact .inr λz N e=>hx (by rw[<-h z N,e];rfl)
def tW(f:Str)(Φ:Calls):Prop:=∀(zs x:List Int) (s:Sto),Sz zs->(∀i∈x,0<=i/\i<(zs.length:Int))->x.length<=40->Φ f 0 [tpI zs,tpI x] s=.e (.f (tps (alS zs x))) s
def ft(W:XW Φ)(N:Sz zs)(hx:∀i∈x,0<=i/\i<(zs.length:Int))(U:x.length<=40):run T Φ F44.w6 [tpI zs,tpI x] s=.e (.f (tps (alS zs x))) s:=by
 have X:∀n,n<100->n<=zN:=λn h=>by unfold zN;omega
 have S:((exL zs).flatMap λw=>[x,x.reverse].flatMap λy=>[tpI (y.map (apO w))])=tps (alV zs x):=by unfold alV tps;rw[HC];rfl
 have hs:wD false ((exL zs).flatMap λw=>[x,x.reverse].flatMap λy=>[tpI (y.map (apO w))]) s=.e (.f (tps (alS zs x))) s:=by
  rw[S];exact sI (CT (ZS N.2.1) (by decide)) (lg (x:=x) λz h=>by
   obtain⟨w,_,rfl|rfl⟩:=ie.mp h
   . exact Aa _
   . rw[Aa,EY])
 rw[post_eq,F44.w6,wq];refine⟨rfl,?_⟩;show (zp Φ T.b [some (tpI zs),some (tpI x),none] _ s).post _;refine yy (x_call (zB (zE rfl) zM) (W zs s N)) (xZ (ZK (f:=yI) (ys:=λ_=>[x,x.reverse]) (f2:=λ_ y=>tpI y) (g:=λw y=>[tpI (y.map (apO w))]) (λe=>∃a b,e=[a,b,some (tpI x)]) (λw e=>∃b,e=[some (yI w),b,some (tpI x)]) (xE (zE rfl) rfl) ⟨none,none,rfl⟩ ?_ ?_ ?_ hs) ?_)
 . rintro w hw e ⟨a,b,rfl⟩
   exact⟨_,rfl,xE (wG (zB (zE rfl) (zB (Ux (zE rfl) bQ bQ (iw (WB zV)) (af U)) zM)) (X 2 ⋯)) rfl,b,rfl⟩
 . rintro w e ⟨b,rfl⟩;exact⟨_,_,rfl⟩
 . rintro w hw y R e ⟨b,rfl⟩
   refine⟨_,rfl,⟨_,rfl⟩,true,rfl,?_⟩;rw[if_pos rfl];refine⟨_,WD (kC hw) (x:=y) ?_ rfl rfl,rfl⟩;simp only[Ar,BG,or_false]at R;rcases R with rfl|rfl
   . exact hx
   . exact λi hi=>hx i (List.mem_reverse.mp hi)
 . show (yJ false s _ s).post _
   rw[yK (by rw[qJ];exact yh _)]
   exact zA.mpr ⟨rfl,rfl⟩
def wo(zs x:List Int):List Int:=(alS zs x).headD []
def eT{zs x:List Int}(hx:∀i∈x,0<=i/\i<(zs.length:Int)):(alS zs x)[0]?=some (wo zs x):=by
 have:=ZT hx;unfold wo;cases h:alS zs x with
 |nil=>rw[h]at this;cases this
 |cons _ _=>rfl
def Fit.sh(h:Fit zs x):∀i∈x,0<=i/\i<(zs.length:Int):=h.b
def cK(h:L[k]?=some x):vU (.f (tps L)) (.c (k:Nat)) s=.e (tpI x) s:=cI (by rw[Am,h];rfl)
def eO(Φ:Calls):Prop:=∀(zs:List Int) (s:Sto),Sz zs->Φ "_law_orders" 0 [tpI zs] s=.e (.f ((exL zs).map yI)) s
def aV(hz:Sz zs):run T Φ F44.ya [tpI zs] s=.e (.f ((exL zs).map yI)) s:=by
 have L1:∀n,n<100->n<=zN:=λn h=>by unfold zN;omega
 have hz1:=hz.1;have Z:=hz.2.1;have W:∀(env:Env),env[0]?=some (some (tpI zs))->zo Φ T.b env (.d (.l .a false (.a (.e 0) .b))) s=.e ⟨(Ah zs.length).map λ(k:Nat)=>Val.c k,none⟩ s:=λenv h=>by
  rw[Tf (nT h) (by unfold zN;omega)]
  unfold yR;congr 2;exact CD λk _=>by rw[Int.zero_add]
 rw[post_eq,F44.ya,wq];refine⟨rfl,?_⟩;show (zp Φ T.b [some (tpI zs),none,none,none,none,none] _ s).post _;refine yy (v:=.f (([[]]:List (List Nat)).map yI)) (sX (zB (wG zM (L1 0 ⋯)) zM) (L1 1 ⋯)) ?_
 refine zi.mpr (y7 (λrest e s'=>s=s'/\∃L k o2 o3 U S,rest=(List.range' k (zs.length-k)).map (λ(k:Nat)=>Val.c k)/\e=[some (tpI zs),some (.f (L.map yI)),o2,o3,U,S]/\exF zs (zs.drop k) L=exL zs/\Gr4 zs k L/\k<=zs.length) _ (s1:=s) (W _ rfl) ⟨rfl,[[]],0,_,_,_,_,by rw[List.range_eq_range'];rfl,rfl,rfl,⟨λw hw=>by rw[Az.mp hw];rfl,Ac _⟩,⋯⟩ ?_ ?_)
 . rintro x rest e s' ⟨rfl,L,k,o2,o3,U,S,N,rfl,X,g,hk⟩
   have R:k<zs.length:=by refine Nat.lt_of_not_le λhge=>?_;rw[Nat.sub_eq_zero_of_le hge]at N;cases N
   rw[show zs.length-k=(zs.length-(k+1))+1 by omega,List.range'_succ,AB,Dx]at N
   obtain⟨rfl,rfl⟩:=N;refine⟨_,rfl,?_⟩;have hd:zs.drop k=gZ zs k::zs.drop (k+1):=by rw[Bo R];congr 1;have:=iN R;rw[dS R]at this;exact AK this
   rw[hd]at X;have g':=g.next (z:=gZ zs k) Z;refine yy (v:=.f []) (sX zM (L1 0 ⋯)) ?_
   show (zp Φ T.b [some (tpI zs),some (.f (L.map yI)),some (.c (k:Nat)),some (.f []),U,S] _ s).post _;refine zi.mpr (y7 (λrest e s'=>s=s'/\∃A B U S,rest=B.map yI/\A++B=L/\e=[some (tpI zs),some (.f (L.map yI)),some (.c (k:Nat)),some (.f ((exG zs (gZ zs k) A).map yI)),U,S]) (L.map yI) (s1:=s) (xE (zE rfl) rfl) ⟨rfl,[],L,_,_,rfl,rfl,rfl⟩ ?_ ?_)
   . rintro x rest2 e s' ⟨rfl,A,B,U,S,N,Y,rfl⟩
     match B,N with
     |[],N=>cases N
     |w::B,N=>
      rw[AB,Dx]at N;obtain⟨rfl,rfl⟩:=N;refine⟨_,rfl,?_⟩;have hwl:w.length=k:=g.b w (by rw[<-Y];simp)
      have hm:evE Φ T.b [some (tpI zs),some (.f (L.map yI)),some (.c (k:Nat)),some (.f ((exG zs (gZ zs k) A).map yI)),some (yI w),S] (.p false ["_law_one","_law_some","_law_sizes_here","_law_hue"] [none,some 4,some 0,some 2] (.e 0) (.a 0) (.d (.l .a false (.a (.e 0) .b))) (.b (.b (.a (.q .a (.e 0) (.e 1))) (.b (.a (.q .b (.s (.e 2) (.e 0)) (.s (.e 2) (.e 3)))) .a)) .a)) s=.e (.f ((exM zs (gZ zs k) w).map λ(k:Nat)=>Val.c k)) s:=by
       have e:(exM zs (gZ zs k) w).map (λ(k:Nat)=>Val.c k)=(Ah zs.length).flatMap λh=>if (!decide (h∈w)&&decide (gZ zs h=gZ zs k))=true then [Val.c h] else []:=by rw[oS (λh=>!decide (h∈w)&&decide (gZ zs h=gZ zs k)) (λ(h:Nat)=>Val.c h)];unfold exM;congr 2;funext h;exact Bool.and_comm _ _
       rw[e];refine nS (f:=λ(h:Nat)=>Val.c h) (λe=>∃o,e=[o,some (yI w),some (tpI zs),some (.c (k:Nat))]) (W _ rfl) ⟨none,rfl⟩ ?_;rintro h hh e ⟨o,rfl⟩;have hh:=Al.mp hh;refine⟨_,rfl,⟨_,rfl⟩,!decide (h∈w)&&decide (gZ zs h=gZ zs k),nP (az (vk (wU (zE rfl) (zE rfl) iq) yd) (vk (wU (uf (zE rfl) (zE rfl) (tx (iN hh))) (uf (zE rfl) (zE rfl) (tx (iN R))) eq_int) yd)),?_⟩;cases !decide (h∈w)&&decide (gZ zs h=gZ zs k) with
       |true=>rw[if_pos rfl,if_pos rfl];exact⟨_,zE rfl,rfl⟩
       |false=>rw[if_neg Ag,if_neg Ag]
      refine yy hm ?_;have hc:evE Φ T.b [some (tpI zs),some (.f (L.map yI)),some (.c (k:Nat)),some (.f ((exG zs (gZ zs k) A).map yI)),some (yI w),some (.f ((exM zs (gZ zs k) w).map λ(k:Nat)=>Val.c k))] (.p false ["_law_one","_law_some"] [none,some 4] (.h false .a (.e 1) (.k (.a (.e 0) .b))) (.a 0) (.f (.e 5)) .a) s=.e (.f (((exM zs (gZ zs k) w).map λh=>w++[h]).map yI)) s:=by
       have e:((exM zs (gZ zs k) w).map λh=>w++[h]).map yI=(exM zs (gZ zs k) w).flatMap λh=>[yI (w++[h])]:=by rw[<-Gu,BI];rfl
       rw[e];refine nS (f:=λ(h:Nat)=>Val.c h) (λe=>∃o,e=[o,some (yI w)]) (xE (zE rfl) rfl) ⟨none,rfl⟩ ?_;rintro h hh e ⟨o,rfl⟩;refine⟨_,rfl,⟨_,rfl⟩,true,rfl,?_⟩;rw[if_pos rfl];exact⟨_,ye (zE rfl) (wG (zB (zE rfl) zM) (L1 1 ⋯)) (nV ⋯),rfl⟩
      have hs:exG zs (gZ zs k) (A++[w])=exG zs (gZ zs k) A++(exM zs (gZ zs k) w).map λh=>w++[h]:=by unfold exG;rw[List.flatMap_append,List.flatMap_singleton]
      have hle:(exG zs (gZ zs k) (A++[w])).length<=2000:=by
       refine Ao (dk Z) ?_;have h1:=g.line ⋯
       have h2:=g.a;have h3:4 ^ k<=4 ^ 3:=Nat.pow_le_pow_right (by decide) ⋯
       have h4:(A++[w]).length<=L.length:=by rw[<-Y,Aq,Aq];simp
       have h5:(4:Nat) ^ 3=64:=by decide
       omega
      rw[hs,Aq]at hle;refine yy (v:=.f ((exG zs (gZ zs k) (A++[w])).map yI)) (ye (zE rfl) hc ((su (by rw[Aa,Aa];unfold zN;omega)).trans (by rw[<-C7,<-hs]))) (vP ⟨rfl,A++[w],B,_,_,rfl,by rw[Ak];exact Y,rfl⟩)
   . rintro e s' ⟨rfl,A,B,U,S,N,Y,rfl⟩
     have:B=[]:=by cases B with|nil=>rfl|cons _ _=>cases N
     subst this;rw[AR]at Y;subst Y;refine yy (zE rfl) (vP ⟨rfl,_,k+1,_,_,_,_,rfl,rfl,X,g',⋯⟩)
 . rintro e s' ⟨rfl,L,k,o2,o3,U,S,N,rfl,X,g,hk⟩
   have hk:k=zs.length:=by refine Gh hk (Nat.le_of_not_lt λR=>?_);rw[show zs.length-k=(zs.length-(k+1))+1 by omega,List.range'_succ]at N;cases N
   subst hk;rw[Hy]at X;have X:L=exL zs:=X;subst X;refine xZ (zE rfl) ?_;show (yJ false s _ s).post _;rw[yK (iu _)];exact zA.mpr ⟨rfl,rfl⟩
theorem iY:∀{r} {F:List (List Int)},F.Sublist (lwA x r F)
 |[],F=>.refl _
 |w::r,F=>(HD F _).trans (iY (r:=r))
def jJ(cO:eO Φ)(Z:Sz zs)(hx:∀i∈x,0<=i/\i<(zs.length:Int))(hn:x.length<=40):run T Φ F44.yl [tpI zs,tpI x] s=.e (.f (tps (alS zs x))) s:=by
 have L1:∀n,n<100->n<=zN:=λn h=>by unfold zN;omega
 have X:=Z.2.1;have hE:=iJ X;have R:(lwA x (exL zs) []).length<=48:=by have:=iX (x:=x) (r:=exL zs) (F:=[]);rw[BW]at this;omega
 have hs:wD false (tps (lwA x (exL zs) [])) s=.e (.f (tps (alS zs x))) s:=by
  rw[<-Vf];exact sI (CT R (by decide)) (lg (x:=x) λz h=>by
   obtain h|⟨w,_,rfl|rfl⟩:=om.mp h
   . cases h
   . exact Aa _
   . rw[Aa,EY])
 rw[post_eq,F44.yl,wq];refine⟨rfl,?_⟩;show (zp Φ T.b [some (tpI zs),some (tpI x),none,none,none] _ s).post _;refine yy (v:=.f (tps [])) (sX zM (L1 0 ⋯)) ?_
 refine zi.mpr (y7 (λrest e s'=>s=s'/\∃r F W U,rest=r.map yI/\(∀w∈r,w∈exL zs)/\e=[some (tpI zs),some (tpI x),some (.f (tps F)),W,U]/\lwA x r F=lwA x (exL zs) []) ((exL zs).map yI) (s1:=s) (xE (x_call (zB (zE rfl) zM) (cO zs s Z)) rfl) ⟨rfl,exL zs,[],_,_,rfl,λw h=>h,rfl,rfl⟩ ?_ ?_)
 . rintro v rest e s' ⟨rfl,r,F,W,U,N,hw,rfl,hF⟩
   match r,N with
   |[],N=>cases N
   |w::r,N=>
    rw[AB,Dx]at N;obtain⟨rfl,rfl⟩:=N;refine⟨_,rfl,?_⟩;refine yy (WD (kC (hw w (.head _))) hx rfl rfl) ?_;have hc:evE Φ T.b [some (tpI zs),some (tpI x),some (.f (tps F)),some (yI w),some (tpI (x.map (apO w)))] (.p false ["_law_one","_law_found"] [none,some 2] (.e 0) (.a 0) (.f (.k (.a (.e 4) (.a (.K false (.e 4) .b .b (.a (.D (.g (.c 1))))) .b)))) (.b (.a (.q .a (.e 0) (.e 1))) .a)) s=.e (.f (tps ([x.map (apO w),(x.map (apO w)).reverse].filter λy=>!decide (y∈F)))) s:=by refine Uv (L:=[x.map (apO w),(x.map (apO w)).reverse]) (f:=λy=>!decide (y∈F)) (e0:=[some (.f (tps F))]) (xE (wG (zB (zE rfl) (zB (Ux (zE rfl) bQ bQ (iw (WB zV)) (af (by rw[Aa];exact hn))) zM)) (L1 2 ⋯)) rfl) rfl λy _=>nP (vk (wU (zE rfl) (zE rfl) Wo.2) yd)
    have S:lwA x r (F++[x.map (apO w),(x.map (apO w)).reverse].filter λy=>!decide (y∈F))=lwA x (exL zs) []:=hF;have Y:(F++[x.map (apO w),(x.map (apO w)).reverse].filter λy=>!decide (y∈F)).length<=48:=by refine Ao (List.Sublist.length_le ?_) (S▸R);exact iY
    rw[Aq]at Y;refine yy (v:=.f (tps (F++[x.map (apO w),(x.map (apO w)).reverse].filter λy=>!decide (y∈F)))) (ye (zE rfl) hc ((su (by rw[Aa,Aa];unfold zN;omega)).trans (by rw[<-C7]))) (vP ⟨rfl,r,_,_,_,rfl,λv hv=>hw v (.tail _ hv),rfl,S⟩)
 . rintro e s' ⟨rfl,r,F,W,U,N,hw,rfl,hF⟩
   have:r=[]:=by cases r with|nil=>rfl|cons _ _=>cases N
   subst this;have hF:F=lwA x (exL zs) []:=hF;subst hF;refine xZ (Uy (zE rfl) hs) ?_;show (yJ false s _ s).post _;rw[yK (by rw[qJ];exact yh _)]
   exact zA.mpr ⟨rfl,rfl⟩
end
end M
end
section
namespace F45
open PySem M
noncomputable def yl:Fn:=⟨["_law_sizes","_law_strip","_law_found","_law_order","_law_other"],["_law_sizes","_law_strip"],false,(.e (.d 2 (.u false .b)) (.e (.g (.a 3) (.f (.j "_law_orders" 0 (.a (.e 0) .b))) (.e (.d 4 (.l .d false (.a (.p false ["_law_hue","_law_order"] [none,some 3] (.s (.e 1) (.e 0)) (.a 0) (.f (.e 1)) .a) .b))) (.e (.d 2 (.h false .a (.e 2) (.p false ["_law_one","_law_found"] [none,some 2] (.e 0) (.a 0) (.f (.k (.a (.e 4) (.a (.K false (.e 4) .b .b (.a (.D (.g (.c 1))))) .b)))) (.b (.a (.q .a (.e 0) (.e 1))) .a)))) .f))) (.e (.f (.C false (.e 2))) .f)))⟩
noncomputable def ya:Fn:=⟨["_law_sizes","_law_found","_law_hue","_law_later","_law_some","_law_more"],["_law_sizes"],false,(.e (.d 1 (.u false (.a (.k .b) .b))) (.e (.g (.a 2) (.d (.l .a false (.a (.e 0) .b))) (.e (.d 3 (.u false .b)) (.e (.g (.a 4) (.f (.e 1)) (.e (.d 5 (.p false ["_law_one","_law_some","_law_sizes","_law_hue"] [none,some 4,some 0,some 2] (.e 0) (.a 0) (.d (.l .a false (.a (.e 0) .b))) (.b (.b (.a (.q .a (.e 0) (.e 1))) (.b (.a (.q .b (.s (.e 2) (.e 0)) (.s (.e 2) (.e 3)))) .a)) .a))) (.e (.d 3 (.h false .a (.e 3) (.p false ["_law_one","_law_some"] [none,some 4] (.h false .a (.e 1) (.k (.a (.e 0) .b))) (.a 0) (.f (.e 5)) .a))) .f))) (.e (.d 1 (.e 3)) .f)))) (.e (.f (.e 1)) .f)))⟩
noncomputable def sk:Fn:=⟨["sizes","length"],["sizes","length"],false,(.e (.f (.B false ["strip","sizes"] [none,some 0] (.s (.j "alike_to" 0 (.a (.e 1) (.a (.e 0) .b))) (.g (.c 0))) (.a 0) (.f (.j "all_strips" 0 (.a (.e 0) (.a (.e 1) .b)))) .a)) .f)⟩
noncomputable def vt:Fn:=⟨["sizes","length"],["sizes","length"],true,(.e (.f (.B true ["strip","sizes"] [none,some 0] (.s (.j "alike_to" 0 (.a (.e 1) (.a (.e 0) .b))) (.g (.c 0))) (.a 0) (.f (.j "all_strips" 0 (.a (.e 0) (.a (.e 1) .b)))) .a)) .f)⟩
end F45
end
section
namespace M
open PySem
def ai(N:L.Nodup):qV L=L2.zk L:=by
 refine Fm (le:=λa b=>L2.yv a b=true) (λa b _ _ h k=>?_) ?_ (L2.xQ N) ((jR L).trans (L2.zc L).symm)
 . rw[L2.v7 h]at k;cases k
 . unfold qV
   cases hp:pairsOf (tps L) with
   |none=>exact L2.xQ N
   |some zs=>
    dsimp only;by_cases hc:zs.Nodup/\∀z∈zs,0<=z.2/\z.2<1000
    . rw[if_pos hc,Cj]
      refine(lK hc.1 hc.2).imp_of_mem λ{a b} ha hb hab=>?_;have S:=hc.2 a ((yk zs).mem_iff.mp ha);have R:=hc.2 b ((yk zs).mem_iff.mp hb);show L2.yv (L2.plI a) (L2.plI b)=true;rw[L2.iT S R];exact decide_eq_true hab
    . rw[if_neg hc];exact L2.xQ N
noncomputable def yO(F:List (List Int)):List (List Int)->List (List Int)
 |[]=>F
 |y::r=>yO (if y∈F then F else F++[y]) r
theorem me:∀{a b F},yO F (a++b)=yO (yO F a) b
 |[],b,F=>rfl
 |y::a,b,F=>by rw[CL,yO,yO,me]
theorem tE:∀{r F},F.Nodup->(yO F r).Nodup/\(∀y,y∈yO F r↔y∈F\/y∈r)/\(yO F r).length<=F.length+r.length
 |[],F,h=>⟨h,λy=>by simp[yO],Ac _⟩
 |z::r,F,h=>by
  unfold yO;split
  . rename_i hz
    obtain⟨R,N,S⟩:=tE (r:=r) h;refine⟨R,λy=>?_,by rw[Aj];omega⟩
    rw[N,Ar];constructor
    . rintro (q|q)
      . exact .inl q
      . exact .inr (.inr q)
    . rintro (q|rfl|q)
      . exact .inl q
      . exact .inl hz
      . exact .inr q
  . rename_i hz
    have nd:(F++[z]).Nodup:=DG.mpr ⟨h,Bb.mpr ⟨nofun,.nil⟩,λa W b U e=>hz (by rw[Az.mp U]at e;rwa [<-e])⟩
    obtain⟨R,N,S⟩:=tE (r:=r) nd;refine⟨R,λy=>?_,by rw[Aq,BE]at S;rw[Aj];omega⟩
    rw[N,AQ,Az,Ar,or_assoc]
def wY(zs:List Int)(n:Nat):List (List Int):=(yb zs [[]] n).map (wo zs)
def vE(zs:List Int)(n:Nat):List (List Int):=L2.zk (nub (wY zs n))
def bS zs n:qV (yO [] (wY zs n))=vE zs n:=by obtain⟨N,R,_⟩:=tE (r:=wY zs n) (F:=[]) .nil;rw[ai N];refine sJ (x8 _) ((CK N (x8 _)).mpr λy=>?_);rw[R,yq];simp
def oX(N:yH zs):∀y∈wY zs n,Fit zs y/\y.length=n:=λy S=>by
 obtain⟨x,hx,rfl⟩:=AO.mp S;have R:=u5 N.a (λx hx=>by rw[Az.mp hx];exact oR zs) n x hx
 have:=WM N.a R (AF (eT R.sh));exact⟨this.1,this.2.trans ((qD (k:=0) (λx hx=>by rw[Az.mp hx];rfl) n x hx).trans (Cp n))⟩
def YK(N:yH zs):(∀y∈vE zs n,Fit zs y/\y.length=n)/\(vE zs n).length<=100:=by
 refine⟨λy R=>oX N y ?_,?_⟩
 . unfold vE at R
   exact yq.mp ((L2.zc _).mem_iff.mp R)
 . unfold vE
   rw[(L2.zc _).length_eq];refine Ao (ox _) ?_;unfold wY;rw[Aa];exact N.b n
section
variable {T:Tbl}{Φ:Calls}{s:Sto}
def fJ(g:T.b "MOST_PLACES"=some (.c 40))(c:rM Φ)(R:0<=i)(N:i<=40):run T Φ F.xK [.c i] s=.e .h s:=by rw[post_eq];simp[F.xK,EVl,zT,zG,g,c i 0 40 s R N]
def XX(Φ:Calls):Prop:=∀(zs:List Int) (n:Nat) (s:Sto),yH zs->n<=40->Φ "kinds" 0 [tpI zs,.c n] s=.e (.f (tps (vE zs n))) s
def XY(Φ:Calls):Prop:=∀(zs:List Int) (n:Nat) (s:Sto),yH zs->n<=40->Φ "kinds" 1 [tpI zs,.c n] s=.e (.j s.length) (s++[.c (tps (vE zs n))])
def WA(X:jk Φ)(W:tW "alike_to" Φ){n:Nat}(R:yH zs)(U:n<=40) :
 evE Φ G [some (tpI zs),some (.c n)] (.B m N [none,some 0] (.s (.j "alike_to" 0 (.a (.e 1) (.a (.e 0) .b))) (.g (.c 0))) (.a 0) (.f (.j "all_strips" 0 (.a (.e 0) (.a (.e 1) .b)))) .a) s=newList m (tps (vE zs n)) s:=by
 have e:(yb zs [[]] n).flatMap (λx=>[tpI (wo zs x)])=tps (wY zs n):=by unfold wY tps;rw[<-Gu,BI];rfl
 refine XS (f:=tpI) (g:=λx=>[tpI (wo zs x)]) (λe=>∃o,e=[o,some (tpI zs)]) (xE (x_call (zB (zE rfl) (zB (zE rfl) zM)) (X zs n s R U)) rfl) ⟨none,rfl⟩ ?_ ?_
 . rintro x hx e ⟨o,rfl⟩
   have S:=u5 R.a (λx hx=>by rw[Az.mp hx];exact oR zs) n x hx
   refine⟨_,rfl,⟨_,rfl⟩,true,rfl,?_⟩;rw[if_pos rfl];exact⟨_,uf (x_call (zB (zE rfl) (zB (zE rfl) zM)) (W zs x s R.a S.sh (v5 R n x hx))) zV (cK (k:=0) (eT S.sh)),rfl⟩
 . rw[e]
   refine sI ?_ (lg (x:=AU n 0) λz h=>by rw[(oX R z h).2,En])
   unfold wY;rw[Aa];exact CT (R.b n) (by decide)
def aT(U:jk Φ)(S:tW "alike_to" Φ){n:Nat}(N:yH zs)(R:n<=40):run T Φ F45.sk [tpI zs,.c n] s=.e (.f (tps (vE zs n))) s:=by
 rw[post_eq,F45.sk,wq];refine⟨rfl,?_⟩;show (zp Φ T.b [some (tpI zs),some (.c n)] _ s).post _;refine xZ (WA U S N R) ?_;show (yJ false s _ s).post _;rw[yK (by rw[qJ];exact yh _)]
 exact zA.mpr ⟨rfl,rfl⟩
def aU(U:jk Φ)(S:tW "alike_to" Φ){n:Nat}(N:yH zs)(R:n<=40):run T Φ F45.vt [tpI zs,.c n] s=.e (.j s.length) (s++[.c (tps (vE zs n))]):=by rw[post_eq,F45.vt,wq];refine⟨rfl,?_⟩;show (zp Φ T.b [some (tpI zs),some (.c n)] _ s).post _;refine xZ (WA U S N R) ?_;show (yJ true s _ _).post _;rw[sT];exact zA.mpr ⟨rfl,rfl⟩
def fu(N:Sz zs):run T Φ F45.ya [tpI zs] s=.e (.f ((exL zs).map yI)) s:=aV N
def lF(S:eO Φ)(N:Sz zs)(hx:∀i∈x,0<=i/\i<(zs.length:Int))(R:x.length<=40):run T Φ F45.yl [tpI zs,tpI x] s=.e (.f (tps (alS zs x))) s:=jJ S N hx R
def Vg(h:s[q]?=some (.c (tps L))):zQ .a (tpI x) (.j q) s=.e (.e !(decide (x∈L))) s:=by have N:flat (tpI x)=false:=rfl;simp only[zQ,y9,h,N,iO,jv];rfl
end
end M
end
section
namespace M
open PySem Hd
def dw(h:Heap)(a:Addr):Option Obj:=(h.get? a).bind λo=>if uH o then none else some o
def Zt(e:h.get? a=some o)(n:uH o=false):dw h a=some o:=by unfold dw;rw[e];show (if uH o=true then none else some o)=some o;rw[n];rfl
def Zs(e:dw h a=some o):h.get? a=some o/\uH o=false:=by
 unfold dw at e;obtain⟨S,R,N⟩:=Fy.mp e;split at N
 . cases N
 . rename_i z
   cases N;exact⟨R,by simpa using z⟩
def uv(h:Heap):KF:=(Ah h.objs.size).filterMap λa=>(dw h a).map λo=>(a,o)
theorem rE{g:Addr->Option Obj}:∀{l:List Addr},a∈l->(l.filterMap λb=>(g b).map λo=>(b,o)).lookup a=g a
 |b::r,hm=>by
  rw[Ba];by_cases e:a=b
  . subst e
    cases hg:g a with
    |none=>
     show (r.filterMap _).lookup a=none;by_cases m:a∈r
     . rw[rE m,hg]
     . exact List.lookup_eq_none_iff.mpr λp hp=>by
        obtain⟨c,N,e⟩:=D3.mp hp;obtain⟨o,_,rfl⟩:=AJ.mp e;have z:a≠c:=λz=>m (by rw[z];exact N)
        simpa using z
    |some o=>show (List.lookup a ((a,o)::_))=_;rw[AD,beq_self_eq_true]
  . have m:a∈r:=(Ar.mp hm).resolve_left e
    cases hg:g b with
    |none=>exact rE m
    |some o=>
     show (List.lookup a ((b,o)::_))=_;rw[AD,beq_false_of_ne e];exact rE m
def y3 o(e:h.get? a=some o)(n:uH o=false):(uv h).lookup a=some o:=by rw[<-Zt e n];exact rE (Al.mpr (An e))
def dr:(uv h).In h:=λa o e=>by obtain⟨c,_,e⟩:=D3.mp (vf e);obtain⟨S,R,N⟩:=AJ.mp e;cases N;exact(Zs R).1
def qK(e:nsH h x=some v):BS (uv h) Bq x=some v:=by
 unfold nsH at e;split at e
 . rename_i o ho
   have N:uH o=false:=by
    unfold BS at e;rw[AD,beq_self_eq_true]at e;dsimp only at e;split at e
    . rename_i hd;cases hd;unfold uH;simp
    . cases e
   unfold BS at e ⊢;rw[y3 o ho N];rw[AD,beq_self_eq_true]at e;exact e
 . cases e
def dG(e:dF h cd x=true):Di (uv h) cd x=true:=by
 unfold dF at e;split at e
 . split at e
   . rename_i c o ho
     rw[ub,A8]at e;obtain⟨N,e⟩:=e;unfold Di at e ⊢;dsimp only at e ⊢;rw[AD,beq_self_eq_true]at e;rw[y3 o ho N];exact e
   . cases e
 . cases e
def args_eq st:args st=L2.wL st/\body st=L2.xM st/\scope st=L2.z0 st:=by cases st<;>exact⟨rfl,rfl,rfl⟩
def WY(e:YW h p.1=XQ p):nU (uv h) p.1 p.2:=by
 obtain⟨U,S,R⟩:=args_eq p.2;unfold XQ at e;rw[U,S,R]at e;unfold YW at e;split at e
 . rename_i f hf
   split at e
   . rename_i oc od fd osl ho
     split at e
     . rename_i hc
       have N:=AK e;obtain⟨n,q,ps,b,sc,g,Z,X,W,Y,pm,an,cd,ct,bl⟩:=fd;injection N with e1 e2 e3 e4 e5 e6 e7 e8 _ _ _ _ _ _ e9
       subst e1 e2 e3 e4 e5 e6 e7 e8 e9;exact WX (qK hf) (y3 _ ho (by unfold uH;simp)) (dG hc) (by unfold Dj;dsimp only;rw[y3 _ ho (by unfold uH;simp)])
     . cases e
   . cases e
 . cases e
noncomputable def gv:G->Val
 |.a i=>.c i
 |.c x=>.m x
 |.b ns=>.o ns
def Ta(e:glB h x v=true):gL (uv h) x (gv v):=by
 cases v with
 |a i=>
  unfold glB at e;dsimp only at e;split at e
  . rename_i hn;have:=of_decide_eq_true e;subst this;exact int_mk (qK hn)
  . cases e
 |c y=>
  unfold glB at e;dsimp only at e;split at e
  . rename_i hn;have:=of_decide_eq_true e;subst this;exact str_mk (qK hn)
  . cases e
 |b ns=>
  unfold glB at e;dsimp only at e;split at e
  . rename_i hn
    split at e
    . rename_i n od us k sl ho
      obtain⟨N,R⟩:=Gn.mp e;obtain⟨N,S⟩:=Gn.mp N;have:=of_decide_eq_true N;subst this;exact Za (us:=us.toList) (qK hn) (y3 _ ho rfl) (of_decide_eq_true S) (of_decide_eq_true R)
    . cases e
  . cases e
def U6(e:blB h x=true):BS (uv h) Bq x=some none:=by
 unfold blB at e;split at e
 . rename_i hn;exact qK hn
 . cases e
def WJ(D:List (Str × Stmt))(glL:List (Str × Val))(K:KF)(h:Heap):Prop:=K.In h/\(∀p∈D,nU K p.1 p.2)/\(∀p∈glL,gL K p.1 p.2)/\∀x∈wc,BS K Bq x=some none
theorem j9:∀{D:List (Str × Stmt)},(D.map λp=>YW h p.1)=D.map XQ->∀p∈D,nU (uv h) p.1 p.2
 |p::D,e,q,N=>by
  rw[AB,AB]at e;obtain⟨S,R⟩:=List.cons.inj e;rcases Ar.mp N with rfl|N
  . exact WY S
  . exact j9 R q N
def Y8(e:Vj D gl s=Uq D):∃K,WJ D (gl.map λp=>(p.1,gv p.2)) K s.heap:=by obtain⟨W,N⟩:=Prod.mk.inj e;obtain⟨N,U⟩:=Gn.mp N;exact⟨uv s.heap,dr,j9 W,λp hp=>(by obtain⟨R,S,rfl⟩:=AO.mp hp;exact Ta (A5.mp N R S)),λx hx=>U6 (A5.mp U x hx)⟩
def close{l:PySem.W.OpenLaw}
 (US:l.wellSaid=true) (left:PySem.W.LeftO l.row.prog q [] (λs=>Iq l.row.records s) (Vj D gl) (λ_=>Uq D) N) (hgl:glL=gl.map λp=>(p.1,gv p.2))
 (Wn:PySem.W.defOf q l.row.name=some (d,[])) (hp:l.row.prog.theDef l.row.name=some (d.params,d.body,d.scope)) (hk:PySem.W.kwWritten? d.params.kwonlyargs d.params.kw_defaults=some [])
 (hwr:(!l.row.writes||l.row.records.isEmpty)=true) (ok:(PySem.W.chainsOk q&&PySem.W.opensWell l.row.prog&&(PySem.W.frees l.row.toRowW&&l.row.within.isEmpty))=true) (hb:l.row.prog.bare) (hw:l.row.toRowW.promised)
 (hn:l.most=some 63) (hdf:d.params.defaults=[]) (hr:L2.xB n callerA) (hF:(tbl fnL glL).c d.name 0=some F) (hx:F.a=[x]) (hc:p6 fnL D=true)
 (HL:∀ns:List Int,ns.length<=63->∃s',zD (tbl fnL glL) n d.name 0 [.r ns] []=.e (.e true) s'):l.Holds:=by
 refine PySem.W.holds_law US λS=>PySem.W.holds_open (q:=q) (loose:=[]) (Xt:=λs=>Iq l.row.records s) (XP:=λ_ _=>True) (YP:=λ_ h=>∃K,WJ D glL K h) left (λw s e=>hgl▸Y8 e)
  (λw h h' ⟨K,a,b⟩ k=>⟨K,a.keeps k,b⟩) (λ_ _=>trivial) (λ_ _ _ _ _=>trivial) Wn hp hk (λs e=>PySem.W.recFacts_of e) hwr S ok hb hw ?_
 rintro w R U mg Z G ⟨K,Y⟩;exact walk (l:=l) (q:=q) (loose:=[]) (XP:=λ_ _=>True) (YP:=λ_ h=>WJ D glL K h) (d:=d) (K:=K) (T:=tbl fnL glL) hn hdf hr (λ_ _ y=>y.1) hF hx (λw R mg Z h G X=>⟨Ug (tb:=[]) (xc:=[]) (md:=λ_=>false) X G.T.g Y.2.1 Y.2.2.1 Y.2.2.2 hc (λ⟨b,z⟩=>by cases z),[],Gz,rfl,λi g z=>by cases z⟩) HL w R U mg Z G Y
end M
end
section
namespace P45
open PySem M
noncomputable def pA:Fn:=⟨["_law_script","_law_k","_law_pen_here","_law_sizes","_law_length","_law_due","_law_strip","_law_form","_law_turn","_law_found"],["_law_script"],false,(.e (.g (.a 1) (.d (.l .j false (.a (.g (.c 1)) (.a (.l .k false (.a (.l .a false (.a (.e 0) .b)) (.a (.g (.c 3)) .b))) .b)))) (.e (.d 2 (.j "_law_pen" 1 (.a (.j "_law_cell_at" 0 (.a (.e 0) (.a (.e 1) .b))) .b))) (.e (.d 3 (.j "_law_small" 0 (.a (.e 2) .b))) (.e (.g (.a 4) (.f (.k (.a (.j "_law_draw" 0 (.a (.e 2) (.a (.g (.c 6)) .b))) (.a (.j "_law_draw" 0 (.a (.e 2) (.a (.g (.c 18)) .b))) (.a (.j "_law_draw" 0 (.a (.e 2) (.a (.g (.c 41)) .b))) .b))))) (.e (.d 5 (.u true .b)) (.e (.g (.a 6) (.f (.j "_law_grown" 0 (.a (.e 3) (.a (.e 4) .b)))) (.e (.d 7 (.s (.j "_law_alike" 0 (.a (.e 3) (.a (.e 6) .b))) (.g (.c 0)))) (.e (.j (.a (.q .a (.e 7) (.e 5))) (.e (.m (.P .b false (.e 5) (.a (.e 7) .b))) .f) .f) .f))) (.e (.g (.a 8) (.d (.g (.c 2))) (.e (.d 9 (.j "kinds" 1 (.a (.e 3) (.a (.e 4) .b)))) (.e (.j (.a (.q .g (.l .h false (.a (.e 9) .b)) (.l .h false (.a (.l .b false (.a (.e 5) .b)) .b)))) (.e (.f (.g (.e false))) .f) .f) (.e (.m (.P .b false (.e 9) (.a (.k .b) .b))) .f)))) .f)))) .f)))) (.e (.f (.z (.q .b (.j "kinds" 0 (.a (.k (.a (.g (.c 3)) (.a (.g (.c 3)) .b))) (.a (.g (.c 2)) .b))) (.u false (.a (.k (.a (.g (.c 0)) (.a (.g (.c 0)) .b))) (.a (.k (.a (.g (.c 0)) (.a (.g (.c 1)) .b))) .b)))) (.a (.q .b (.j "kinds" 0 (.a (.k (.a (.g (.c 2)) (.a (.g (.c 3)) .b))) (.a (.g (.c 1)) .b))) (.u false (.a (.k (.a (.g (.c 0)) .b)) (.a (.k (.a (.g (.c 1)) .b)) .b)))) (.a (.q .b (.j "kinds" 0 (.a (.k (.a (.g (.c 2)) .b)) (.a (.g (.c 2)) .b))) (.u false .b)) .b)))) .f))⟩
def fnL:List ((Str × Nat) × Fn):=((("_law_alike":Str),(0:Nat)),F45.yl)::((("_law_cell_at":Str),(0:Nat)),F.yf)::((("_law_draw":Str),(0:Nat)),F.xN)::((("_law_ended":Str),(0:Nat)),F12.ym)::((("_law_grown":Str),(0:Nat)),F12.xf)::((("_law_orders":Str),(0:Nat)),F45.ya)::((("_law_pen":Str),(1:Nat)),F.yn)::((("_law_small":Str),(0:Nat)),F12.xg)::((("alike_to":Str),(0:Nat)),F44.w6)::((("all_strips":Str),(0:Nat)),F12.xh)::((("are_sizes":Str),(0:Nat)),F.wI)::((("are_wholes":Str),(0:Nat)),F.xj)::((("exchanges":Str),(0:Nat)),F44.wJ)::((("grown":Str),(0:Nat)),F12.sj)::((("is_whole":Str),(0:Nat)),F.w9)::((("kinds":Str),(0:Nat)),F45.sk)::((("kinds":Str),(1:Nat)),F45.vt)::((("law":Str),(0:Nat)),pA)::((("may_follow":Str),(0:Nat)),F.xk)::((("need_length":Str),(0:Nat)),F.xK)::((("need_sizes":Str),(0:Nat)),F.xm)::((("need_small_sizes":Str),(0:Nat)),F12.yG)::((("need_whole":Str),(0:Nat)),F.xn)::((("product_of":Str),(0:Nat)),F12.xp)::[]
noncomputable def glL:List (Str × Val):=[("MOST_PLACES",.c 40),("LEAST_SIZE",.c 2),("MOST_SIZE",.c 8),("HUES",.o [0,1,2,3]),("MOST_PRODUCT",.c 12)]
def T:Tbl:=tbl fnL glL
set_option maxHeartbeats 0 in
def Ud:p6 fnL D=true:=by decide +kernel
def T8:zQ .g (.m x) (.m x) s=.e (.e false) s:=by simp[zQ]
structure Cs(Φ:Calls):Prop where
 f:XU Φ
 h:Uz Φ
 a:eN Φ
 e:eP Φ
 d:jo Φ
 c:tW "_law_alike" Φ
 b:XX Φ
 g:XY Φ
def cx(c:Cs Φ)ns:(run T Φ pA [.r ns] []).post λv _=>v=.e true:=by
 have L1:∀n,n<100->n<=zN:=λn h=>by unfold zN;omega
 have two:∀(env:M.Env) (s:Sto),zo Φ T.b env (.d (.g (.c 2))) s=.e ⟨yR 0 2,none⟩ s:=λenv s=>rfl;rw[pA,wq];refine⟨rfl,?_⟩;refine zi.mpr (y7 (λrest e s'=>(∃o1 U o3 o4 o5 X W S R,e=[some (.r ns),o1,U,o3,o4,o5,X,W,S,R])/\∀x∈rest,∃k:Nat,x=.c k) (yR 0 (max 1 (min ns.length 3))) (s1:=[]) (di (K:=3) rfl ⋯) ⟨⟨_,_,_,_,_,_,_,_,_,rfl⟩,?_⟩ ?_ ?_)
 . intro x hx
   obtain⟨k,_,rfl⟩:=oo hx;exact⟨k,by congr 1;omega⟩
 . rintro x rest e s' ⟨⟨o1,U,o3,o4,o5,X,W,S,R,rfl⟩,hr⟩
   obtain⟨k,rfl⟩:=hr x (.head _);have hr':∀x∈rest,∃k:Nat,x=.c k:=λx hx=>hr x (.tail _ hx);refine⟨_,rfl,?_⟩;obtain⟨cv,hcell⟩:=c.f ns k s';refine byG λpi N=>?_;obtain⟨a,b,hpen,hb⟩:=c.h cv s';refine N ?_;refine yy (x_call (zB (x_call (zB (zE rfl) (zB (zE rfl) zM)) hcell) zM) hpen) ?_;have hP:sP (s'++[qP a b]) s'.length:=⟨a,b,by simp,hb⟩
   refine byG λpi N=>?_;obtain⟨_,s2,h2,zs,rfl,hz,t2⟩:=c.e s'.length _ hP;refine N ?_;refine yy (x_call (zB (zE rfl) zM) h2) ?_;have hP2:=t2.at_ hP.lt;refine byG λpi N=>?_;obtain⟨_,s3,h3,n1,rfl,hn1,t3⟩:=c.a s'.length 6 s2 hP2 (by decide) (by decide)
   refine N ?_;have hP3:=t3.at_ hP2.lt;refine byG λpi N=>?_;obtain⟨_,s4,h4,n2,rfl,hn2,t4⟩:=c.a s'.length 18 s3 hP3 (by decide) (by decide)
   refine N ?_;have hP4:=t4.at_ hP3.lt;refine byG λpi N=>?_;obtain⟨_,s5,h5,n3,rfl,hn3,t5⟩:=c.a s'.length 41 s4 hP4 (by decide) (by decide)
   refine N ?_;refine zi.mpr (y7 (λY e s'=>(∃o1 U o4 o5 X W S R,e=[some (.r ns),o1,U,some (tpI zs),o4,o5,X,W,S,R])/\∀x∈Y,∃n:Nat,x=.c n/\n<=40) [.c n1,.c n2,.c n3] (s1:=s5) (xE (wG (zB (x_call (zB (zE rfl) (zB zV zM)) h3) (zB (x_call (zB (zE rfl) (zB zV zM)) h4) (zB (x_call (zB (zE rfl) (zB zV zM)) h5) zM))) (L1 3 ⋯)) rfl) ⟨⟨_,_,_,_,_,_,_,_,rfl⟩,?_⟩ ?_ ?_)
   . intro x hx
     simp only[Ar,BG,or_false]at hx;rcases hx with rfl|rfl|rfl
     . exact⟨_,rfl,⋯⟩
     . exact⟨_,rfl,⋯⟩
     . exact⟨_,rfl,⋯⟩
   . clear h2 h3 h4 h5 t2 t3 t4 t5 hP hP2 hP3 hP4 hpen hcell hb
     rintro x Y e Z ⟨⟨o1,U,o4,o5,X,W,S,R,rfl⟩,hr2⟩;obtain⟨n,rfl,hn⟩:=hr2 x (.head _);have hr2':∀x∈Y,∃n:Nat,x=.c n/\n<=40:=λx hx=>hr2 x (.tail _ hx);refine⟨_,rfl,?_⟩;refine yy (Uw zM (L1 0 ⋯)) ?_
     show (zp Φ T.b [some (.r ns),o1,U,some (tpI zs),some (.c (n:Nat)),some (.j Z.length),X,W,S,R] _ _).post _;obtain⟨nd,hmem,hlen⟩:=tE (r:=wY zs n) (F:=[]) .nil;have hkl:(wY zs n).length<=100:=by unfold wY;rw[Aa];exact hz.b n
     refine zi.mpr (y7 (λrest3 e s'=>∃A B o1 U X W S R,rest3=tps B/\A++B=yb zs [[]] n/\e=[some (.r ns),o1,U,some (tpI zs),some (.c (n:Nat)),some (.j Z.length),X,W,S,R]/\s'=Z++[.c (tps (yO [] (A.map (wo zs))))]) (tps (yb zs [[]] n)) (s1:=Z++[.c (tps [])]) (xE (x_call (zB (zE rfl) (zB (zE rfl) zM)) (c.d zs n _ hz hn)) rfl) ⟨[],_,_,_,_,_,_,_,rfl,rfl,rfl,rfl⟩ ?_ ?_)
     . rintro x rest3 e s7 ⟨A,B,o1,U,X,W,S,R,hB,hA,rfl,rfl⟩
       match B,hB with
       |[],hB=>cases hB
       |y::B,hB=>
        rw[tps,AB,Dx]at hB;obtain⟨rfl,rfl⟩:=hB;refine⟨_,rfl,?_⟩;have hy:y∈yb zs [[]] n:=by rw[<-hA];simp
        have hf:=u5 hz.a (λx hx=>by rw[Az.mp hx];exact oR zs) n y hy
        refine yy (uf (x_call (zB (zE rfl) (zB (zE rfl) zM)) (c.c zs y _ hz.a hf.sh (v5 hz n y hy))) zV (cK (k:=0) (eT hf.sh))) ?_;have hAl:(yO [] (A.map (wo zs))).length<=100:=by have h1:=(tE (r:=A.map (wo zs)) (F:=[]) .nil).2.2;have h2:=hz.b n;rw[<-hA,Aq]at h2;rw[Aa,BW]at h1;omega
        have hs:yO [] ((A++[y]).map (wo zs))=if wo zs y∈yO [] (A.map (wo zs)) then yO [] (A.map (wo zs)) else yO [] (A.map (wo zs))++[wo zs y]:=by rw[C7,me];rfl
        have hA':(A++[y])++B=yb zs [[]] n:=by rw[Ak];exact hA
        have ht:=vk (wU (Φ:=Φ) (G:=T.b) (env:=[some (.r ns),o1,U,some (tpI zs),some (.c (n:Nat)),some (.j Z.length),some (tpI y),some (tpI (wo zs y)),S,R]) (op:=.a) (zE (i:=7) rfl) (zE (i:=5) rfl) (Vg (x:=wo zs y) (s:=Z++[.c (tps (yO [] (A.map (wo zs))))]) (q:=Z.length) (L:=yO [] (A.map (wo zs))) (by simp))) yd
        by_cases hin:wo zs y∈yO [] (A.map (wo zs))
        . rw[decide_eq_true hin]at ht
          rw[if_pos hin]at hs;exact lG ht (vP ⟨A++[y],B,_,_,_,_,_,_,rfl,hA',rfl,by rw[hs]⟩)
        . rw[decide_eq_false hin]at ht
          rw[if_neg hin]at hs;refine gD ht (gB (bnd (zE rfl) (bnd (zB (zE rfl) zM) (jw (by rw[Aa];unfold zN;omega)))) (vP ?_))
          exact vP ⟨A++[y],B,_,_,_,_,_,_,rfl,hA',rfl,by rw[hs];unfold tps;rw[C7];rfl⟩
     . rintro e s7 ⟨A,B,o1,U,X,W,S,R,hB,hA,rfl,rfl⟩
       have hB0:B=[]:=by cases B with|nil=>rfl|cons _ _=>cases hB
       subst hB0;rw[AR]at hA;subst hA;have hq:(Z++[Cel.c (tps (yO [] (wY zs n)))])[Z.length]?=some (.c (tps (yO [] (wY zs n)))):=by simp
       show (zp Φ T.b [some (.r ns),o1,U,some (tpI zs),some (.c (n:Nat)),some (.j Z.length),X,W,S,R] _ (Z++[.c (tps (yO [] (wY zs n)))])).post _;generalize Z.length=q at *;generalize Z++[Cel.c (tps (yO [] (wY zs n)))]=s8 at *;obtain⟨k1,k2⟩:=YK hz (n:=n);have h0:(yO [] (wY zs n)).length<2\/∀z∈yO [] (wY zs n),z≠[]:=by
        cases n with
        |zero=>left;have:(wY zs 0).length=1:=rfl;rw[BW]at hlen;omega
        |succ n=>
         right;intro z hz' e;have hz':=(hmem z).mp hz';have:=(oX hz z (hz'.resolve_left nofun)).2;rw[e]at this;cases this
       have hrep:∀y∈vE zs n,y.length<=40/\∀i∈y,0<=i/\i<4:=λy hy=>by have h1:=(k1 y hy).2;exact⟨⋯,λi hi=>by have:=(k1 y hy).1.b i hi;have:=hz.a.2.1;omega⟩
       refine zi.mpr (y7 (λrest4 e s'=>(∃o1 U X W S R,e=[some (.r ns),o1,U,some (tpI zs),some (.c (n:Nat)),some (.j q),X,W,S,R])/\s'[q]?=some (.c (tps (yO [] (wY zs n))))) (yR 0 2) (s1:=s8) (two _ _) ⟨⟨_,_,_,_,_,_,rfl⟩,hq⟩ ?_ ?_)
       . rintro x rest4 e s9 ⟨⟨o1,U,X,W,S,R,rfl⟩,hq9⟩
         refine⟨_,rfl,?_⟩;have hql:q<s9.length:=(As.mp hq9).1;have hqa:∀v,(s9++[v])[q]?=some (.c (tps (yO [] (wY zs n)))):=λv=>by rw[AW hql];exact hq9
         refine yy (x_call (zB (zE rfl) (zB (zE rfl) zM)) (c.g zs n s9 hz hn)) ?_;have d1:zw (s9++[Cel.c (tps (vE zs n))]) (.j s9.length)=.f (tps (vE zs n)):=by simp[zw,yr]
         have sr:blt .b false [.j q] (s9++[.c (tps (vE zs n))])=.e (.f (tps (vE zs n))) (s9++[.c (tps (vE zs n))]):=by rw[jT (x:=.j q) (E:=yO [] (wY zs n)) (by simp only[yL,hqa]) nd h0,bS];rfl
         refine lG (vk (wU (vq (zB (zE rfl) zM) (lC d1 k2 hrep)) (vq (zB (vq (zB (zE rfl) zM) sr) zM) (lC rfl k2 hrep)) T8) yd) ?_;refine gB (bnd (zE rfl) (bnd (zB (wG zM (L1 0 ⋯)) zM) (jw (by rw[Aa];unfold zN;omega)))) (vP ⟨⟨_,_,_,_,_,_,rfl⟩,hqa _⟩)
       . rintro e s9 ⟨⟨o1,U,X,W,S,R,rfl⟩,_⟩
         exact vP ⟨⟨_,_,_,_,_,_,_,_,rfl⟩,hr2'⟩
   . rintro e Z ⟨⟨o1,U,o4,o5,X,W,S,R,rfl⟩,_⟩
     exact vP ⟨⟨_,_,_,_,_,_,_,_,_,rfl⟩,hr'⟩
 . rintro e s' ⟨⟨o1,U,o3,o4,o5,X,W,S,R,rfl⟩,hr⟩
   have z33:yH [3,3]:=lI (.head _);have z23:yH [2,3]:=pq (by decide +kernel)
   have z2:yH [2]:=pq (by decide +kernel)
   have b1:Φ "kinds" 0 [.g [.c 3,.c 3],.c 2] s'=.e (.f [.g [.c 0,.c 0],.g [.c 0,.c 1]]) s':=by
    have:=c.b [3,3] 2 s' z33 (by decide)
    rw[show vE [3,3] 2=[[0,0],[0,1]] by decide +kernel]at this
    exact this
   have b2:Φ "kinds" 0 [.g [.c 2,.c 3],.c 1] s'=.e (.f [.g [.c 0],.g [.c 1]]) s':=by
    have:=c.b [2,3] 1 s' z23 (by decide)
    rw[show vE [2,3] 1=[[0],[1]] by decide +kernel]at this
    exact this
   have b3:Φ "kinds" 0 [.g [.c 2],.c 2] s'=.e (.f []) s':=by
    have:=c.b [2] 2 s' z2 (by decide)
    rw[show vE [2] 2=[] by decide +kernel]at this
    exact this
   have q1:∀s,zQ .b (.f [.g [.c 0,.c 0],.g [.c 0,.c 1]]) (.f [.g [.c 0,.c 0],.g [.c 0,.c 1]]) s=.e (.e true) s:=λ_=>rfl;have q2:∀s,zQ .b (.f [.g [.c 0],.g [.c 1]]) (.f [.g [.c 0],.g [.c 1]]) s=.e (.e true) s:=λ_=>rfl;have q3:∀s,zQ .b (.f []) (.f []) s=.e (.e true) s:=λ_=>rfl;have L2':2<=zN:=L1 2 ⋯
   have L1':1<=zN:=L1 1 ⋯
   have L0:0<=zN:=L1 0 ⋯
   refine xZ (ZI (wU (x_call (zB (wG (zB zV (zB zV zM)) L2') (zB zV zM)) b1) (sX (zB (wG (zB zV (zB zV zM)) L2') (zB (wG (zB zV (zB zV zM)) L2') zM)) L2') (q1 _)) (wU (x_call (zB (wG (zB zV (zB zV zM)) L2') (zB zV zM)) b2) (sX (zB (wG (zB zV zM) L1') (zB (wG (zB zV zM) L1') zM)) L2') (q2 _)) (wU (x_call (zB (wG (zB zV zM) L1') (zB zV zM)) b3) (sX zM L0) (q3 _))) ?_;show (yJ false [] (.e true) s').post _;exact(kK (s:=[]) (t:=s') vG).symm▸zA.mpr rfl
def cs:At T 7 Cs:=λn hn=>by
 obtain⟨n,rfl⟩:∃m,n=m+7:=⟨n-7,⋯⟩
 have g:Gl4 T:=⟨rfl,rfl,rfl,rfl⟩;have Z:∀m,lV (zD T (m+1)):=λm v l k s h=>by rw[zW (F:=F.w9) rfl];exact fw h
 have U:∀m,rM (zD T (m+2)):=λm i l k s R N=>by rw[zW (F:=F.xn) rfl];exact qt (Z m) R N
 have S:∀m,sN (zD T (m+3)):=λm i s R N=>by rw[zW (F:=F.xK) rfl];exact fJ rfl (U m) R N
 have wholes:∀m,jq (zD T (m+2)):=λm vs l k s h=>by rw[zW (F:=F.xj) rfl];exact jM (Z m) h
 have Y:∀m,qz (zD T (m+3)):=λm zs s h=>by rw[zW (F:=F.wI) rfl];exact qp g (wholes m) h
 have X:∀m,rK (zD T (m+4)):=λm zs s h=>by rw[zW (F:=F.xm) rfl];exact qq (Y m) h
 have prod:∀m,XZ (zD T (m+1)):=λm zs s h=>by rw[zW (F:=F12.xp) rfl];exact aW h
 have W:∀m,rL (zD T (m+5)):=λm zs s h=>by rw[zW (F:=F12.yG) rfl];exact qr rfl (X m) (prod (m+3)) h
 have may:∀m,WG (zD T (m+1)):=λm zs ns h s R N h3=>by rw[zW (F:=F.xk) rfl];exact Y3 R N h3
 have grown0:∀m,jn (zD T (m+2)):=λm zs L s R N h3=>by rw[zW (F:=F12.sj) rfl];exact jH (may m) R N h3
 have all0:∀m,jk (zD T (m+6)):=λm zs k s R N=>by rw[zW (F:=F12.xh) rfl];exact aN (W m) (S (m+2)) (grown0 (m+3)) R N
 have cell:∀m,XU (zD T (m+1)):=λm ns k s=>by obtain⟨c,h⟩:=aO (T:=T) (Φ:=zD T m) (s:=s) ns k;exact⟨c,by rw[zW (F:=F.yf) rfl];exact h⟩
 have pen:∀m,Uz (zD T (m+1)):=λm c s=>by obtain⟨a,b,h,N⟩:=Y4 (T:=T) (Φ:=zD T m) (s:=s) c;exact⟨a,b,by rw[zW (F:=F.yn) rfl];exact h,N⟩
 have draw:∀m,eN (zD T (m+1)):=λm p k s R N h3=>by rw[zW (F:=F.xN) rfl];exact aP R N h3
 have small:∀m,eP (zD T (m+2)):=λm p s h=>by rw[zW (F:=F12.xg) rfl];exact fv (draw m) h
 have endT:∀m,jm (zD T (m+1)):=λm zs fs h s R N h3=>by rw[zW (F:=F12.ym) rfl];exact jG R N h3
 have lgrown:∀m,jo (zD T (m+2)):=λm zs k s R N=>by rw[zW (F:=F12.xf) rfl];exact jK (endT m) R N
 have Wg:∀m,XW (zD T (m+1)):=λm zs s h=>by rw[zW (F:=F44.wJ) rfl];exact aR h
 have alike:∀m,tW "alike_to" (zD T (m+2)):=λm zs x s R N h3=>by rw[zW (F:=F44.w6) rfl];exact ft (Wg m) R N h3
 have kin0:∀m,XX (zD T (m+7)):=λm zs k s R N=>by rw[zW (F:=F45.sk) rfl];exact aT (all0 m) (alike (m+4)) R N
 have kin1:∀m,XY (zD T (m+7)):=λm zs k s R N=>by rw[zW (F:=F45.vt) rfl];exact aU (all0 m) (alike (m+4)) R N
 have ord:∀m,eO (zD T (m+1)):=λm zs s h=>by rw[zW (F:=F45.ya) rfl];exact fu h
 have lalike:∀m,tW "_law_alike" (zD T (m+2)):=λm zs x s R N h3=>by rw[zW (F:=F45.yl) rfl];exact lF (ord m) R N h3
 exact⟨cell (n+6),pen (n+6),draw (n+6),small (n+5),lgrown (n+5),lalike (n+5),kin0 n,kin1 n⟩
def Vc ns:∃s',zD T 8 "law" 0 [.r ns] []=.e (.e true) s':=by
 obtain⟨v,s',h,rfl⟩:=cx (cs 7 ⋯) ns
 exact⟨s',by rw[zW (F:=pA) rfl];exact h⟩
end P45
end
section
open PySem PySem.W PyProof.Rows
def P45.hx:P45.pA.a=[("_law_script":Str)]:=by kernel_rfl
def P45.hF:(M.tbl P45.fnL P45.glL).c P45.dd.name 0=some P45.pA:=by kernel_rfl
def P45.hgl:P45.glL=P45.gl.map λp=>(p.1,M.gv p.2):=by kernel_rfl
theorem PySem.Challenge.cw_evenhues_k45_kinds_holds : PySem.Challenge.rw_evenhues_k45_kinds.Holds := by
 exact M.close (n:=8) P45.US P45.left P45.hgl P45.Wn P45.hp P45.hk P45.hwr P45.ok P45.bare P45.hw (by kernel_rfl) P45.hdf ⟨rfl,by decide,by decide,rfl⟩ P45.hF P45.hx P45.Ud (λns _=>P45.Vc ns)
end
end
