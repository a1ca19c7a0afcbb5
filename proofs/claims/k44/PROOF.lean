import PyProof.Rows.All
import KE.KFromBytes
import KE.KIsAll
import KE.KMinKey
import KE.KSortTup
import KE.KItem
import KE.KLam
import KE.KTryMore
import PySem.Challenge.RW_evenhues_k44_strips_that_are_alike
set_option backward.eqns.nonrecursive false
set_option genSizeOf false
set_option genSizeOfSpec false
set_option bootstrap.genMatcherCode false
set_option Elab.async false
set_option linter.all false
set_option maxRecDepth 100000
local macro_rules|`(tactic|omega)=>`(tactic|lia)
local macro_rules|`(⋯)=>`(by omega)
set_option maxHeartbeats 4000000
set_option autoImplicit true
set_option relaxedAutoImplicit true
noncomputable section
def byG{G:Prop}(h:∀p:Prop,(G->p)->p):G:=h G id
open And renaming intro->Af
open Array renaming length_toList->Ax,getD_eq_getD_getElem?->AL,getElem?_eq_getElem->AM,getElem?_eq_some_iff->AV,toList_append->A8,getElem?_toList->Bm,size_setIfInBounds->CV,toList_push->CZ,perm_iff_toList_perm->Dx,toList_extract->DH,size_extract->D6,toList_reverse->EB,getElem?_empty->EC,getElem?_eq_none->Fp,mem_toList_iff->FP,replicate->F1,toList_setIfInBounds->GG,eraseIdxIfInBounds->Hh,toList_inj->Hj,getD->Ig
open Bool renaming and_eq_true->ub,false_ne_true->Ag,false_eq_true->Aw,or_eq_true->Bd,not_eq_true'->Bu,eq_iff_iff->BU,and_eq_true_iff->DJ,false_and->Ei,not_true->EG,and_self->Fw,or_eq_false_iff->F4,eq_false_iff->GW,and_false->HZ,and_true->Iu
open Classical renaming byContradiction->ET
open Eq renaming trans->Gd
open False renaming elim->De
open ForInStep renaming yield->CQ
open Iff renaming rfl->DN
open Int renaming le_trans->Be,toNat_natCast->Bv,le_refl->Cr,le_of_lt->EZ,emod_lt_of_pos->E8,emod_nonneg->F5,fdiv_eq_ediv_of_nonneg->Gz,fmod_eq_emod_of_nonneg->GA,natCast_ediv->Hs,natCast_mul->HM,not_lt->Ih
open LawfulBEq renaming eq_of_beq->Cv
open LawfulMonad renaming pure_bind->FI,bind_assoc->Ic
open List renaming getElem?_eq_getElem->pn,length_map->Aa,getD_eq_getElem?_getD->Ad,size_toArray->Ae,range->Ah,getElem?_eq_some_iff->Ai,length_cons->Ak,mem_cons->Al,append_assoc->An,getElem?_map->Aq,mem_range->Ar,length_append->As,mem_singleton->Av,mem_cons_of_mem->Ay,mem_of_getElem?->AA,lookup_cons->AB,mem_cons_self->AE,map_cons->AF,mem_append->AO,replicate->AR,getElem?_append_right->AU,getElem?_append_left->AW,mem_append_right->AX,length_range->AZ,append_nil->A1,mem_map->A2,take_append_drop->A3,all_eq_true->A5,filterMap_cons->A7,nodup_cons->Bc,mem_append_left->Bg,mem_of_mem_take->Bh,length_take->Bi,drop_eq_getElem_cons->Bn,isEmpty_iff->Br,not_mem_nil->Bt,length_singleton->Bw,getElem_of_mem->Bz,pairwise_iff_getElem->BG,take_of_length_le->BI,getElem?_take_of_lt->BM,length_drop->BN,mem_of_mem_drop->BW,getElem?_set_self->BY,getElem_mem->B0,length_nil->B8,map_map->Ce,drop_of_length_le->Cf,getElem?_drop->Co,nodup_range->Cp,replicate_succ->Cw,getElem?_range->Cy,all_cons->CA,any_eq_true->CC,mem_flatMap->CG,filterMap_map->CH,getElem?_toArray->CJ,getElem?_eq_none->CK,getElem?_eq_none_iff->CL,extract_eq_drop_take->CM,getElem?_of_mem->CW,take_sublist->CY,getElem_drop->C0,getElem_take->C1,map_congr_left->C6,drop_zero->C9,idxOf_lt_length_of_mem->Dm,length_set->Dr,map_append->Dt,perm_ext_iff_of_nodup->Dz,flatten_cons->DA,flatMap_cons->DB,getElem?_set_ne->DC,pairwise_append->DG,drop_drop->DM,length_reverse->DS,any_cons->DT,mem_filterMap->DW,nil_append->DZ,pairwise_cons->D0,getElem_idxOf->D4,filter_eq_nil_iff->Ed,nodup_append->Eh,take_succ->Ek,perm_append_comm->El,take_take->Em,foldl->Eu,countP_cons->Ez,ext_getElem->EA,nodup_iff_pairwise_ne->EF,length_pos_iff->EI,mem_filter->EL,forIn_cons->EN,forIn_nil->Fb,pairwise_map->Fi,length_replicate->FG,map_nil->FT,toList_toArray->F9,nodup_nil->Gi,length->Gm,set_comm->Gy,take_add->GF,drop_sublist->GV,ext_getElem?->GX,getElem_inj->G5,cons_append->Ha,length_filterMap_le->Hf,zipIdx_cons->Hg,perm_middle->Hi,isEmpty_nil->Hn,drop_length->Hr,getElem?_replicate->Hu,pairwise_singleton->Hv,getElem?_cons_succ->Hx,length_eq_zero_iff->Hy,of_mem_zip->HC,foldl_cons->HD,Perm->HH,drop_take->HX
open List.Pairwise renaming imp_of_mem->E6,nil->GR
open List.Perm renaming refl->Er,eq_of_pairwise->Hk
open List.cons renaming injEq->D9
open Nat renaming le_refl->Ab,le_trans->Ao,ne_of_lt->AD,lt_of_lt_of_le->AJ,zero_le->AS,lt_irrefl->BR,mul_comm->BV,lt_of_succ_lt->B4,le_of_eq->B7,lt_of_le_of_ne->Cb,zero_add->Cd,lt_succ_of_lt->Cg,lt_succ_self->CF,mul_le_mul_right->CT,le_add_right->Dc,le_succ->Dg,ne_of_gt->Dk,lt_or_ge->Dn,lt_of_le_of_lt->Dq,not_lt_zero->Ds,le_div_iff_mul_le->Du,pos_of_ne_zero->D3,eq_zero_of_not_pos->Ec,lt_trichotomy->Ef,mul_le_mul->Ej,succ_pos->En,min_le_right->Et,succ_le_succ->Ey,add_le_add_left->EJ,min_eq_left->ES,le_of_lt->EU,add_zero->E2,sub_self->E3,add_sub_cancel_left->Fd,le_of_lt_succ->Fh,one_pos->Fo,lt_of_sub_eq_succ->FL,lt_iff_add_one_le->FO,lt_trans->FU,le_add_left->FW,sub_lt->FX,le_antisymm->FY,mod_lt->F0,mul_le_mul_left->F7,sub_le->G1,sub_zero->Hb,add_mul->HQ
open Ne renaming symm->BJ
open Option renaming none->dS,map_eq_some_iff->AK,bind_eq_some_iff->Fe,getD_some->FC,isNone_iff_eq_none->G3,getD_none->G8,map_some->HK
open Option.some renaming inj->AH
open Prod renaming ext->G7
open PyProof.Rows renaming wpS_bind->Aj,wpS_pure->Au,pendingOf->AQ,slot_tuple_getitem->Ba,wpS_forRange->BD,callWith_type1->Ca,wpS_modify->CB,wpS_mono->CU,assignInOrder_cons->Dj,SortKind->DP,boot_sorted->DR,failedOf->EY,boot_list->Fm,tupleItemsOf_->Ft,boot_min->FN,get?_update_seq->F3,entry_tuple_getitem->F6,kindOf->F8,wpS_lift->Gf,args_tuple_getitem->Gp,subscriptTail->GB,listUpdate_at->GK,assignInOrder_nil->GO,boot_tuple->Hz,seqEpoch_at->HP,Subscript_->Ib
open PyProof.Rows.F renaming plain_set_update_loop->Dp,entry_set_update_loop->E7
open PyProof.Rows.SortSt renaming mk'->Ii
open PySem renaming wpAny_bind->dm,wpAny_pure->xd,sizeLine->AI,foldedSetIterable->AN,Spec->AY,wpAny_newObj_type->A4,starEach->A9,letOwnedTupleGo->Bj,sizeLine_eq->Bk,SetTable->Bl,wpAny_holding->Bo,compareOp->Bp,mainGlobals->Bq,wpAny_call_entry->BA,wpAny_callSpecial?_slot->BC,wpAny_rule->BE,wpAny_field->BH,wpAny_standAt->BL,sliceBounds->BP,SetTable->BQ,binaryOp->BZ,wpAny_setState_of->B5,wpAny_askSetting->Cc,wpAny_mono->Cj,wpAny_loadPart'->Ck,swappedStores->Cq,wpAny_truthy_bool->Cu,compTurn->CD,wpAny_seqItems->CI,sysModules->CN,mem_of_lookup->C4,call_meets->Df,bootBuiltins->Di,wpAny_pyIter_tuple->Dl,Comprehension->Dw,assignEach->DE,wpAny_binaryOp_repeat_ref->DF,cellsFrom->DK,wpAny_of_eq->DL,wpAny_typeOf->DO,foldedForSure->DU,wpAny_Call_Name_kw->DX,typeIs_int->DY,wpAny_setField_rec->D5,IsTupleKey->D7,codeAny_builtin->D8,FuncData->Ea,wpAny_pyIter_list->Ee,ofAClassStatement->Eg,wpAny_setField->Eo,bindName->Es,wpAny_passesOwn->EM,codeAny_of_tree->EO,wpAny_comprehension_free->EX,wpAny_bindName->E9,wpAny_pyIter_enum->Fg,assignInOrder->Fq,swapsWithSole->Fs,attributeBase->Fu,wpAny_attempt->Fv,compPost->FA,swapsWith->FF,builtinLookup_eq_fast->FK,codeAny_mono->FQ,wpAny_setEntries_of->Ga,NameKind->Gb,newFunctionEnv->Ge,firstArgMember->Gh,constantsAlone->Gk,hashByValue->Gn,compStart->Gs,comprehension->GC,wpAny_letOwnedTupleGo_enum->GH,plainId_quiet->GI,wpAny_newList->GJ,wpAny_sequenceKey->GP,slot_list_getitem->GQ,setsByText->G2,noFill_tuple_add->G6,wpAny_getItem_list_slice->G9,wpAny_isInstance->Hl,wpAny_forIn_list->Hm,wpAny_pyNext_enum_itemD->Hw,noteFrame->HF,theWindowsPlace->HG,pickOrder->HI,typeLookup_type->HJ,wpAny_newTuple->HY,isSubtype_type->H9,behindInMarks->Il,seq_tuple_add->Im,wpAny_notedAt->Ip,wpAny_onRaise->Iq,setSearchFrom->Ir,lastMarks->Iw,slicePick->Iy,putSet_of->Iz
open PySem.Around renaming under_plainId->DI
open PySem.AutoSeq1 renaming idx_int->Hc
open PySem.Builtin.Frozenset renaming addrOf->Ho
open PySem.Builtin.List renaming listTooLong->EW,listExtendWith->Gw,listSameRef->Hq
open PySem.Builtin.Range renaming rangeSize->A0
open PySem.Builtin.Slice renaming sliceAdjust->BF,slicePlaces->B1,sliceApplied->Dv,sliceFields->G0
open PySem.Builtin.SmallTypes renaming nextOf->B2,ownedTupleIsFree->Ct,ownedTupleHandOut->E5
open PySem.Builtin.Tuple renaming tupleExact->BO,tupleItemsOf->ED,tupleTooMany->EE,tupleIsExact->GD
open PySem.Calls renaming Name_function_global->Gx
open PySem.Data renaming fields->HN
open PySem.Expr renaming Name->FH,Attribute->HV,Subscript->HW,Constant->Io
open PySem.Expr.Compare renaming elim->GS
open PySem.Expr.ListComp renaming elim->Gr
open PySem.Expr.SetComp renaming elim->GZ
open PySem.Expr.Tuple renaming elim->HE
open PySem.F renaming slot_int_rmul->CP,slot_tuple_iterator_next->Dy,called_set->DQ,slot_tuple_mul->Ew,args_tuple_add_2->EV,entry_tuple_add->Fc,args_int_rmul_2->Ff,slot_tuple_add->Fj,slot_int_index->Fy,entry_int_rmul->Fz,fills_int_mul->FR,slot_zip_next->FZ,args_tuple_iterator_next_1->Gg,args_tuple_mul_2->Gu,entry_tuple_iterator_next->Gv,entry_tuple_mul->GU
open PySem.Flow renaming next->Iv
open PySem.Heap renaming get?_push_of_some->zO,lt_size->Am,get?_push_size->Az,size_push->BK,get?_update_self->B6,SameBut->Cm,get?_update_other->Eb,get?_update_ne->EK
open PySem.Heap.IsSliceOf renaming new->Gq
open PySem.Heap.SameBut renaming update->Ci
open PySem.NameKind renaming free->A6,cell->BB
open PySem.Obj renaming mapSeq->B3,data_mapFields->E4,isFreed_of_fields->FJ,putSet->F2,cls_mapFields->GY
open PySem.Paired renaming length->Ik
open PySem.PyData renaming eqv->BX,eqvAll->Fx,depthAll->FV,int->G4,weightAll->He,depth->Ht,canLay0->Ia
open PySem.SeqAt renaming EqAt->Bx
open PySem.Str renaming ofString->CO
open PySem.Value renaming none->Ac,ref->Bb,type->Dd,int->Dh,bool->DV,isInt_shape->GL,str->HA
open PySem.Value.type renaming inj->Ep
open PySem.W renaming Frag->AG,nsIn->BS,kia_one->B9,fnOf->Cz,codeIn->C7,keepIn->C8,mg_of->EH,tabObj->Gj,methodObj->GN,instObj->HB,lookIn->HS,kitOne->HU,recOk->Ij
open PySem.Walks renaming list->Ie
open Sum renaming inl->FD,inr->FE
open True renaming intro->By
section
namespace Hd
open PySem
inductive G where
 |a (i:Int)|c (x:Str)|b (ns:List Int)
noncomputable def args(s:Stmt):Arguments:=match s with
 |.FunctionDef _ a _ _ _ _ _ _ _ _=>a
 |_=>{posonlyargs:=[],args:=[],vararg:=none,kwonlyargs:=[],kw_defaults:=[],kwarg:=none,defaults:=[]}
noncomputable def body(s:Stmt):List Stmt:=match s with
 |.FunctionDef _ _ b _ _ _ _ _ _ _=>b
 |_=>[]
noncomputable def scope(s:Stmt):Scope:=match s with
 |.FunctionDef _ _ _ _ _ _ sc _ _ _=>sc
 |_=>{kind:=.function,names:=[],isGenerator:=false,isCoroutine:=false}
noncomputable def posOf(s:Stmt):Pos:=match s with
 |.FunctionDef _ _ _ _ _ _ _ _ _ p=>p
 |_=>⟨0,0,0,0⟩
def Xy(x:Str)(st:Stmt):DefRec:=⟨x,args st,body st,scope st,posOf st⟩
noncomputable def RK:List Str:=["len","all","any","tuple","list","sorted","repr","max","min","sum","int","isinstance","divmod","str","bool","dict","set","range","enumerate","zip"]
noncomputable def ni:List Value->Option (List Int)
 |[]=>some []
 |.int i _::r=>(ni r).map (i::·)
 |_=>none
noncomputable def nsH(h:Heap)(x:Str):Option (Option Value):=match h.get? Bq with
 |some o=>BS [(Bq,o)] Bq x
 |none=>none
noncomputable def Ua(fd:Ea):Ea:={fd with kwdefaults:=.none,doc:=.none,pyModule:=.none,annotations:=none,code:=.none,closureTuple:=.none}
noncomputable def v5(o:Obj):Bool:=(match o.cls with|.none=>true|_=>false)&&(match o.data with|.fields _=>true|_=>false)
def eC(h:Heap)(N:Value)(x:Str):Bool:=match N with
 |.ref c=>(match h.get? c with
  |some o=>!v5 o&&C7 [(c,o)] (.ref c) x
  |none=>false)
 |_=>false
def Zk(h:Heap)(x:Str):Option Ea:=match nsH h x with
 |some (some (.ref f))=>(match h.get? f with
  |some ⟨_,_,.func fd,_⟩=>if eC h fd.code x then some (Ua fd) else none
  |_=>none)
 |_=>none
def Yj(p:Str × Stmt):Option Ea:=some (Cz p.1 p.1 (args p.2) (body p.2) (scope p.2) .none .none .none .none none .none .none)
def glB(h:Heap)(x:Str):G->Bool
 |.a i=>(match nsH h x with|some (some (.int j _))=>decide (i=j)|_=>false)
 |.c y=>(match nsH h x with|some (some (.str z _))=>decide (y=z)|_=>false)
 |.b ns=>(match nsH h x with
  |some (some (.ref a))=>(match h.get? a with
   |some ⟨.type n,_,.seq us _,_⟩=>decide (n="tuple")&&decide (us.toList.length<=1000)&&decide (ni us.toList=some ns)
   |_=>false)
  |_=>false)
def blB(h:Heap)(x:Str):Bool:=match nsH h x with|some none=>true|_=>false
def W8(D:List (Str × Stmt))(gl:List (Str × G))(s:Shared):List (Option Ea) × Bool:=(D.map λp=>Zk s.heap p.1,gl.all (λp=>glB s.heap p.1 p.2)&&RK.all λx=>blB s.heap x)
def UJ(D:List (Str × Stmt)):List (Option Ea) × Bool:=(D.map Yj,true)
end Hd
end
section
set_option maxHeartbeats 0
open PySem PySem.W PyProof.Rows
namespace P44
noncomputable def top(i:Nat):Stmt:=PySem.Challenge.pw_evenhues_k44_strips_that_are_alike.main.body.getD i (.Pass ⟨0,0,0,0⟩)
def D:List (Str × Stmt):=(("is_whole":Str),top 9)::(("are_wholes":Str),top 10)::(("most_step":Str),top 12)::(("is_strip":Str),top 15)::(("need_strip":Str),top 16)::(("is_one_hue":Str),top 18)::(("are_sizes":Str),top 20)::(("need_sizes":Str),top 21)::(("fits":Str),top 22)::(("first_wrong":Str),top 23)::(("first_hue_wrong":Str),top 24)::(("first_row_wrong":Str),top 25)::(("need_fit":Str),top 27)::(("exchanges":Str),top 29)::(("alike_to":Str),top 30)::(("form_of":Str),top 31)::(("are_alike":Str),top 32)::(("alike_many":Str),top 33)::(("_law_cell_at":Str),top 35)::(("_law_pen":Str),top 36)::(("_law_draw":Str),top 37)::(("_law_sizes":Str),top 38)::(("_law_ended":Str),top 39)::(("_law_fitting":Str),top 40)::(("_law_orders":Str),top 41)::(("_law_alike":Str),top 42)::(("law":Str),top 43)::[]
noncomputable def gl:List (Str × Hd.G):=[("MOST_PLACES",.a 40),("LEAST_SIZE",.a 2),("MOST_SIZE",.a 8),("HUES",.b [0,1,2,3])]
def q:Program:={PySem.Challenge.pw_evenhues_k44_strips_that_are_alike with main:={PySem.Challenge.pw_evenhues_k44_strips_that_are_alike.main with body:=[1,2,3,4,6,7,8,9,10,12,14,15,16,18,20,21,22,23,24,25,27,29,30,31,32,33,35,36,37,38,39,40,41,42,43].map top}}
def dd:DefRec:=Hd.Xy "law" (top 43)
def left:PySem.W.LeftO PySem.Challenge.rw_evenhues_k44_strips_that_are_alike.row.prog q [] (λs=>Ij PySem.Challenge.rw_evenhues_k44_strips_that_are_alike.row.records s) (Hd.W8 D gl) (λ_=>Hd.UJ D) 100000:=by
 intro w
 kernel_rfl
def Vu:PySem.Challenge.rw_evenhues_k44_strips_that_are_alike.wellSaid=true:=by kernel_rfl
def WG:PySem.W.defOf q PySem.Challenge.rw_evenhues_k44_strips_that_are_alike.row.name=some (dd,[]):=by kernel_rfl
def hp:PySem.Challenge.rw_evenhues_k44_strips_that_are_alike.row.prog.theDef PySem.Challenge.rw_evenhues_k44_strips_that_are_alike.row.name=some (dd.params,dd.body,dd.scope):=by kernel_rfl
def hk:PySem.W.kwWritten? dd.params.kwonlyargs dd.params.kw_defaults=some []:=by kernel_rfl
def hwr:(!PySem.Challenge.rw_evenhues_k44_strips_that_are_alike.row.writes||PySem.Challenge.rw_evenhues_k44_strips_that_are_alike.row.records.isEmpty)=true:=by kernel_rfl
def ok:(PySem.W.chainsOk q&&PySem.W.opensWell PySem.Challenge.rw_evenhues_k44_strips_that_are_alike.row.prog&&(PySem.W.frees PySem.Challenge.rw_evenhues_k44_strips_that_are_alike.row.toRowW&&PySem.Challenge.rw_evenhues_k44_strips_that_are_alike.row.within.isEmpty))=true:=by kernel_rfl
def hdf:dd.params.defaults=[]:=by kernel_rfl
theorem bare:PySem.Challenge.rw_evenhues_k44_strips_that_are_alike.row.prog.bare:=⟨rfl,rfl,rfl,rfl,rfl,by decide +kernel⟩
def hw:PySem.Challenge.rw_evenhues_k44_strips_that_are_alike.row.toRowW.promised:=by w_witness2
end P44
end
section
namespace L2
open PySem PySem.Spec PyProof.Rows
abbrev Key:=Sum Int Str
noncomputable def XC:Key->Value->Bool
 |.inl k,v=>Value.isInt k v
 |.inr x,v=>Value.isStrOf x v
noncomputable def RU(w:World):Key->Int
 |.inl k=>hashInt k
 |.inr x=>hashStr w x
def yH:∀{k} {v},XC k v=true->(∃i t,k=FD i/\v=Dh i t)\/(∃x t,k=FE x/\v=HA x t)
 |.inl i,v,h=>by
  obtain⟨t,e⟩:=GL (k:=i) (v:=v) h;exact .inl ⟨i,t,rfl,e⟩
 |.inr x,v,h=>by obtain⟨t,e⟩:=Value.isStrOf_shape (x:=x) (v:=v) h;exact .inr ⟨x,t,rfl,e⟩
def Wv a b:decide ((FD a:Key)=FD b)=(a == b):=by
 by_cases e:a=b
 . subst e;simp
 . have h:¬(FD a:Key)=FD b:=λq=>e (FD.inj q)
   rw[decide_eq_false h];exact(beq_eq_false_iff_ne.mpr e).symm
def Wy a b:decide ((FE a:Key)=FE b)=decide (a=b):=by
 by_cases e:a=b
 . subst e;simp
 . have h:¬(FE a:Key)=FE b:=λq=>e (FE.inj q)
   rw[decide_eq_false h,decide_eq_false e]
def Ww a b:decide ((FD a:Key)=FE b)=false:=decide_eq_false (λq=>nomatch q)
def Wx a b:decide ((FE a:Key)=FD b)=false:=decide_eq_false (λq=>nomatch q)
def oM(prog:Program)(w:World):PySem.KeyKind prog w Key where
 is:=XC
 hash:=RU w
 inj:=λv a b S R=>by
  rcases yH S with⟨i,t,rfl,rfl⟩|⟨x,t,rfl,rfl⟩
  . rcases yH R with⟨j,u,rfl,e⟩|⟨y,u,rfl,e⟩
    . injection e with e1 _;rw[e1]
    . exact nomatch e
  . rcases yH R with⟨j,u,rfl,e⟩|⟨y,u,rfl,e⟩
    . exact nomatch e
    . injection e with e1 _;rw[e1]
 byValue:=λk v h=>by
  rcases yH h with⟨i,t,rfl,rfl⟩|⟨x,t,rfl,rfl⟩<;>rfl
 pyHash:=λN h=>by
  rcases yH N with⟨i,t,rfl,rfl⟩|⟨x,t,rfl,rfl⟩
  . exact wpAny_pyHash_int h
  . exact wpAny_pyHash_str h
 eqBool:=λhu N h=>by
  rcases yH hu with⟨i,t,rfl,rfl⟩|⟨x,t,rfl,rfl⟩
  . rcases yH N with⟨j,u,rfl,rfl⟩|⟨y,u,rfl,rfl⟩
    . rw[Wv]at h;exact wpAny_eqBool_int h
    . rw[Ww]at h;exact Bx.int_str i t y u _ _ _ _ h
  . rcases yH N with⟨j,u,rfl,rfl⟩|⟨y,u,rfl,rfl⟩
    . rw[Wx]at h;exact Bx.str_int x t j u _ _ _ _ h
    . rw[Wy]at h;exact wpAny_eqBool_str h
 «strs»:=λk x t v h=>by
  rcases yH h with⟨i,u,rfl,e⟩|⟨y,u,rfl,e⟩
  . exact nomatch e
  . injection e with e1 _
    subst e1;cases v<;>rfl
inductive V where
 |g|e (b:Bool)|d (i:Int)|f (x:Str)|h (b:Array UInt8)|j (b:UInt64)|c (a:Addr)|k (n:String)
 deriving DecidableEq
def RelV:V->Value->Prop
 |.g,u=>u=Ac
 |.e b,u=>u=DV b
 |.d i,u=>∃t,u=Dh i t
 |.f x,u=>∃t,u=HA x t
 |.h b,u=>∃t,u=Value.bytes b t
 |.j b,u=>∃t,u=Value.float b t
 |.c a,u=>u=Bb a
 |.k n,u=>u=Dd n
abbrev Vals:List V->List Value->Prop:=Paired RelV
theorem Vals.length(r:Vals xs us):xs.length=us.length:=Ik r
theorem Vals.get:∀{xs} {us} {i:Nat} {x},Vals xs us->xs[i]?=some x->∃u,us[i]?=some u/\RelV x u
 |_,_,_,_,.nil,e=>by simp at e
 |_,_,0,_,.cons r _,e=>by simp at e;subst e;exact⟨_,rfl,r⟩
 |_,_,i+1,x,.cons _ t,e=>by
  obtain⟨u,R,N⟩:=Vals.get (i:=i) (x:=x) t (by simpa using e)
  exact⟨u,by simpa using R,N⟩
theorem Vals.set(r:RelV x u):∀{xs} {us} i,Vals xs us->Vals (xs.set i x) (us.set i u)
 |_,_,_,.nil=>.nil
 |_,_,0,.cons _ t=>.cons r t
 |_,_,i+1,.cons q t=>.cons q (Vals.set r i t)
theorem Vals.append:∀{xs ys} {us ws},Vals xs us->Vals ys ws->Vals (xs++ys) (us++ws)
 |_,_,_,_,.nil,s=>s
 |_,_,_,_,.cons r t,s=>.cons r (Vals.append t s)
theorem Vals.take:∀{xs} {us} n,Vals xs us->Vals (xs.take n) (us.take n)
 |_,_,0,_=>.nil
 |_,_,_+1,.nil=>.nil
 |_,_,n+1,.cons r t=>.cons r (Vals.take n t)
theorem Vals.drop:∀{xs} {us} n,Vals xs us->Vals (xs.drop n) (us.drop n)
 |_,_,0,r=>r
 |_,_,_+1,.nil=>.nil
 |_,_,n+1,.cons _ t=>Vals.drop n t
def Vals.none_of:∀{xs} {us} {i:Nat},Vals xs us->xs[i]?=none->us[i]?=none:=λ{xs us i} r e=>by have R:=r.length;have N:xs.length<=i:=CL.mp e;exact CL.mpr ⋯
def Xi:Option V->Option Value->Prop
 |some v,some u=>RelV v u
 |none,none=>True
 |_,_=>False
def KV{κ:Type}:List (κ × V)->List (κ × Value)->Prop:=Paired λ(p:κ × V) (q:κ × Value)=>p.1=q.1/\RelV p.2 q.2
noncomputable def kV:Key->V
 |.inl i=>.d i
 |.inr x=>.f x
inductive HO where
 /-- a list -/
 |b (xs:List V)
 /-- a tuple (never changes) -/
 |c (xs:List V)
 /-- a dict whose keys are ints and texts;one whose keys are tuples of ints and texts (the empty one is both) -/
 |j (kvs:List (Key × V))|k (kvs:List (List Key × V))
 /-- a set of ints: its members,its size -/
 |m (S:Int->Bool) (n:Nat)
 /-- an instance of the class at C,its dict at dx,its attributes -/
 |l (C dx:Addr) (fs:List (Str × V))
 /-- the dict of the instance at x -/
 |e (x:Addr)
 /-- the dict of an exception -/
 |r (fs:List (Str × V))
 /-- a bound method,f of x -/
 |p (f x:Addr)
 /-- a range object lo,lo+1,.. below hi -/
 |q (lo hi:Int)
 /-- a thing that is known to the object (the script;a dict while a loop walks it): read,never written while it is so -/
 |g (o:Obj) (u:HO)
 /-- a code object's table -/
 |d (ps:Array Value)
 /-- any other thing,by what is true of its one object (a def of one's own: vS a S n:=HO.ext λh=>..) -/
 |i (φ:Heap->Prop)
abbrev Hp:=Addr->Option HO
def tK(h:Heap)(a:Addr)(items:Array Value):Prop:=∃o,h.get? a=some o/\o.cls=.type "tuple"/\∃n,o.data=.seq items n/\o.dict=none
def tK.tup{h:Heap}{a:Addr}{items:Array Value}(x:tK h a items):IsTup h a items:=let ⟨o,e,c,n,d,_⟩:=x;⟨o,e,c,n,d⟩
def tK.lt(x:tK h a items):a<h.objs.size:=let ⟨_,e,_⟩:=x;Am e
def tK.new(h:Heap)items:tK (h.push {cls:=.type "tuple",data:=.seq items}) h.objs.size items:=⟨_,Az _ rfl,rfl,_,rfl,rfl⟩
noncomputable def upd(H:Hp)(a:Addr)(o:HO):Hp:=λb=>if b=a then some o else H b
def zY:upd H a o a=some o:=by unfold upd;rw[if_pos rfl]
def zM(h:b≠a):upd H a o b=H b:=by unfold upd;rw[if_neg h]
def zU{H:Hp}(h:H a=some o)(h':H b=none):a≠b:=by intro e;subst e;rw[h]at h';cases h'
section
variable (P:Program)(w:World)
def z9(H:Hp)(h:Heap)(a:Addr):HO->Prop
 |.b xs=>xs.length<=AI/\∃(its:List Value) (n:Nat),Vals xs its/\h.get? a=some {cls:=.type "list",data:=.seq its.toArray n}
 |.c xs=>xs.length<=AI/\∃its:List Value,Vals xs its/\tK h a its.toArray
 |.j kvs=>kvs.length<=AI/\(a == CN)=false/\∃vs,KV kvs vs/\h.DictOf (oM P w) a vs
 |.k kvs=>kvs.length<=AI/\(a == CN)=false/\∃xs:List (List Key × Addr × Value),
  Paired (λ(p:List Key × V) (q:List Key × Addr × Value)=>p.1=q.1/\H q.2.1=some (.c (p.1.map kV))/\RelV p.2 q.2.2) kvs xs /\
  ∃o es ep,h.get? a=some o/\o.ExactDict/\o.data=.dict es ep/\es.toList=xs.map (entryOfKey (tupleKind (oM P w)))/\(xs.map (·.1)).Nodup
 |.m S n=>h.SetOf (intKind P w) a S n
 |.l C dx fs=>H dx=some (.e a)/\fs.length<=1000/\dx≠a/\h.get? a=some (HB C dx) /\
  ∃mA,h.Ns1 dx mA/\(∀f,Xi (fs.lookup f) (mA f))/\PySem.Within mA (fs.map (·.1))
 |.e _=>∃o,h.get? a=some o
 |.r fs=>∃mA,h.Ns1 a mA/\∀f,Xi (fs.lookup f) (mA f)
 |.q lo hi=>∃t u v,h.get? a=some {cls:=.type "range",data:=.fields #[.int lo t,.int hi u,.int 1 v]}
 |.g o u=>h.get? a=some o/\z9 H h a u
 |.d ps=>h.get? a=some {cls:=.none,data:=.fields ps}
 |.p f x=>h.get? a=some (GN (.ref f) (.ref x))
 |.i φ=>φ h/\(∃o,h.get? a=some o)/\∀R N:Heap,φ R->(∀o,R.get? a=some o->N.get? a=some o)->φ N
def HOk(H:Hp)(h:Heap):Prop:=∀a o,H a=some o->z9 P w H h a o
end
theorem z9.lt(x:z9 P w H h a o):a<h.objs.size:=by
 cases o with
 |b xs=>obtain⟨_,_,_,_,e⟩:=x;exact Am e
 |c xs=>obtain⟨_,_,_,p⟩:=x;exact p.lt
 |j N=>obtain⟨_,_,_,_,o,_,_,e,_⟩:=x;exact Am e
 |k N=>obtain⟨_,_,_,_,o,_,_,e,_⟩:=x;exact Am e
 |m S n=>obtain⟨o,_,_,_,e,_⟩:=x;exact Am e
 |l C W fs=>obtain⟨_,_,_,e,_⟩:=x;exact Am e
 |e y=>obtain⟨_,e⟩:=x;exact Am e
 |r fs=>obtain⟨_,⟨_,_,_,e,_⟩,_⟩:=x;exact Am e
 |q lo hi=>obtain⟨_,_,_,e⟩:=x;exact Am e
 |g U u=>obtain⟨e,_⟩:=x;exact Am e
 |d ps=>exact Am (show h.get? a=some _ from x)
 |p f y=>exact Am (show h.get? a=some _ from x)
 |i R=>obtain⟨_,⟨_,e⟩,_⟩:=x;exact Am e
theorem Paired.Ta:∀{l₁} {l₂},Paired F l₁ l₂->(∀a b,F a b->G a b)->Paired G l₁ l₂
 |_,_,.nil,_=>.nil
 |_,_,.cons r t,f=>.cons (f _ _ r) (Paired.Ta t f)
def z9.kg(x:z9 P w H h a o)(k:∀b u,(b=a\/H b=some (.e a))->h.get? b=some u->h'.get? b=some u)
 (X:∀b,H b=some (.e a)->H' b=some (.e a)) (W:∀b xs,H b=some (.c xs)->H' b=some (.c xs)):z9 P w H' h' a o:=by
 induction o with
 |b xs=>obtain⟨z,its,n,r,e⟩:=x;exact⟨z,its,n,r,k _ _ (.inl rfl) e⟩
 |c xs=>obtain⟨z,its,r,N,e,c⟩:=x;exact⟨z,its,r,N,k _ _ (.inl rfl) e,c⟩
 |j R=>obtain⟨z,y,vs,r,N,es,ep,e,c⟩:=x;exact⟨z,y,vs,r,N,es,ep,k _ _ (.inl rfl) e,c⟩
 |k R=>
  obtain⟨z,y,xs,r,N,es,ep,e,c⟩:=x;exact⟨z,y,xs,Paired.Ta r λp q z=>⟨z.1,W _ _ z.2.1,z.2.2⟩,N,es,ep,k _ _ (.inl rfl) e,c⟩
 |m S n=>obtain⟨N,es,ep,t,e,c⟩:=x;exact⟨N,es,ep,t,k _ _ (.inl rfl) e,c⟩
 |l C dx fs=>
  obtain⟨d,z,ne,e,mA,⟨od,es,ep,Y,c⟩,r⟩:=x;exact⟨X _ d,z,ne,k _ _ (.inl rfl) e,mA,⟨od,es,ep,k _ _ (.inr d) Y,c⟩,r⟩
 |e y=>obtain⟨N,e⟩:=x;exact⟨N,k _ _ (.inl rfl) e⟩
 |r fs=>obtain⟨mA,⟨od,es,ep,e,c⟩,r⟩:=x;exact⟨mA,⟨od,es,ep,k _ _ (.inl rfl) e,c⟩,r⟩
 |q lo hi=>obtain⟨t,u,v,e⟩:=x;exact⟨t,u,v,k _ _ (.inl rfl) e⟩
 |g N u U=>obtain⟨e,q⟩:=x;exact⟨k _ _ (.inl rfl) e,U q⟩
 |d ps=>
  have e:h.get? a=some {cls:=.none,data:=.fields ps}:=x;show h'.get? a=some {cls:=.none,data:=.fields ps};exact k a _ (.inl rfl) e
 |p f y=>
  have e:h.get? a=some (GN (.ref f) (.ref y)):=x;show h'.get? a=some (GN (.ref f) (.ref y));exact k a _ (.inl rfl) e
 |i Z=>obtain⟨p,⟨o,e⟩,st⟩:=x;exact⟨st _ _ p λo q=>k _ _ (.inl rfl) q,⟨o,k _ _ (.inl rfl) e⟩,st⟩
theorem HOk.lt(x:HOk P w H h)(e:H a=some o):a<h.objs.size:=(x a o e).lt
def HOk.fresh(x:HOk P w H h)(e:h.objs.size<=a):H a=none:=by
 cases q:H a with
 |none=>rfl
 |some u=>exact absurd (AJ (x.lt q) e) (BR _)
def HOk.kept(x:HOk P w H h)(k:∀b u,h.get? b=some u->h'.get? b=some u):HOk P w H h':=λa o e=>
 (x a o e).kg (λb u _ q=>k b u q) (λ_ q=>q) λ_ _ q=>q
def HOk.laid(x:HOk P w H h)(k:∀b u,h.get? b=some u->h'.get? b=some u)(hp:h.objs.size<=a)(new:z9 P w (upd H a o) h' a o):HOk P w (upd H a o) h':=λb u e=>by
 have N:=x.fresh hp;by_cases hb:b=a
 . subst hb;rw[zY]at e;cases e;exact new
 . rw[zM hb]at e
   exact(x b u e).kg (λc v _ q=>k c v q) (λc q=>by rw[zM (zU q N)];exact q) λc xs q=>by rw[zM (zU q N)];exact q
def Rd(H:Hp)(a:Addr)(u:HO):Prop:=H a=some u\/∃o,H a=some (.g o u)
def Rd.ok(r:Rd H a u)(x:HOk P w H h):z9 P w H h a u:=by
 rcases r with r|⟨o,r⟩
 . exact x a u r
 . obtain⟨_,q⟩:=x a _ r
   exact q
def Mut:Option HO->Prop
 |some (.b _)=>True
 |some (.j _)=>True
 |some (.k _)=>True
 |some (.m _ _)=>True
 |some (.l _ _ _)=>True
 |some (.i _)=>True
 |_=>False
def HOk.write(ok:HOk P w H h)(S:Mut (H x))(he:e=x\/H e=some (.e x))(k:∀b u,b≠e->h.get? b=some u->h'.get? b=some u)(W:∃u,h'.get? e=some u)
 (new:z9 P w (upd H x o') h' x o'):HOk P w (upd H x o') h':=λb u q=>by
 have N:∀c y,H c=some (.e y)->c≠x:=λc y r z=>by subst z;rw[r]at S;exact S
 have R:∀c xs,H c=some (.c xs)->c≠x:=λc xs r z=>by subst z;rw[r]at S;exact S
 by_cases hb:b=x
 . subst hb;rw[zY]at q;cases q;exact new
 . rw[zM hb]at q
   by_cases hbe:b=e
   . have X:H b=some (.e x):=by
      rcases he with z|z
      . exact absurd (hbe.trans z) hb
      . rw[hbe];exact z
     rw[q]at X;cases X;obtain⟨v,Y⟩:=W;exact⟨v,by rw[hbe];exact Y⟩
   . refine(ok b u q).kg (λc v U r=>k c v ?_ r) (λc r=>by rw[zM (N c b r)];exact r) λc xs r=>by rw[zM (R c xs r)];exact r
     rcases U with rfl|U
     . exact hbe
     . rintro rfl
       rcases he with z|z
       . exact N c b U z
       . rw[U]at z;cases z;exact hb rfl
structure Un(fs ex:List Addr)(H H':Hp)(h h':Heap):Prop where
 d:∀b o,h.get? b=some o->H b=none->b ∉ fs->b ∉ ex->h'.get? b=some o
 i:∀b o,h.get? b=some o->H b=none->b∈fs->b ∉ ex->∃sl,h'.get? b=some {o with slots:=sl}
 c:∀b o,h.get? b=some o->H b=none->b ∉ ex->H' b=none
 f:∀b o,h.get? b=some o->b ∉ ex->∃o',h'.get? b=some o'
 l:∀b xs,H b=some (.c xs)->H' b=some (.c xs)
 g:∀b o u,H b=some (.g o u)->H' b=some (.g o u)
 j:∀b ps,H b=some (.d ps)->∃more,H' b=some (.d (ps++more))
def Un.any(u:Un fs ex H H1 h h1)(q:h.get? b=some ob)(n:H b=none)(hx:b ∉ ex):∃N,h1.get? b=some {ob with slots:=N}:=by
 by_cases hb:b∈fs
 . exact u.i b ob q n hb hx
 . exact⟨ob.slots,u.d b ob q n hb hx⟩
def Un.kept(k:∀b u,h.get? b=some u->h'.get? b=some u):Un fs ex H H h h':=
 ⟨λb N q _ _ _=>k b N q,λb N q _ _ _=>⟨N.slots,k b N q⟩,λ_ _ _ n _=>n,λb N q _=>⟨N,k b N q⟩,λ_ _ q=>q,λ_ _ _ q=>q,λ_ ps q=>⟨#[],by rw[q];simp⟩⟩
def Un.refl:Un fs ex H H h h:=Un.kept λ_ _ q=>q
def Un.laid(k:∀b u,h.get? b=some u->h'.get? b=some u)(hp:h.objs.size<=a)(N:H a=none):Un fs ex H (upd H a o) h h' where
 d:=λb u q _ _ _=>k b u q
 i:=λb u q _ _ _=>⟨u.slots,k b u q⟩
 c:=λb u q n _=>by rw[zM (AD (AJ (Am q) hp))];exact n
 f:=λb u q _=>⟨u,k b u q⟩
 l:=λb xs q=>by rw[zM (zU q N)];exact q
 g:=λb u xs q=>by rw[zM (zU q N)];exact q
 j:=λb ps q=>⟨#[],by rw[zM (zU q N),q];simp⟩
def Un.write(N:Mut (H x))(he:e=x\/H e=some (.e x))(k:∀b u,b≠e->h.get? b=some u->h'.get? b=some u)(S:∃u,h'.get? e=some u):Un fs ex H (upd H x o) h h':=by
 have hx:∀b,H b=none->b≠x:=λb n z=>by subst z;rw[n]at N;exact N
 have U:∀b,H b=none->b≠e:=λb n z=>by
  subst z;rcases he with r|r
  . exact hx b n r
  . rw[n]at r;cases r
 have R:∀b u,H b=some u->¬Mut (some u)->b≠x:=λb u q nm z=>by subst z;rw[q]at N;exact nm N
 refine⟨λb u q n _ _=>k b u (U b n) q,λb u q n _ _=>⟨u.slots,k b u (U b n) q⟩,λb u q n _=>by rw[zM (hx b n)];exact n,λb u q _=>?_,
  λb xs q=>by rw[zM (R b _ q λz=>z)];exact q,λb u xs q=>by rw[zM (R b _ q λz=>z)];exact q,λb ps q=>⟨#[],by rw[zM (R b _ q λz=>z),q];simp⟩⟩
 by_cases hbe:b=e
 . subst hbe;exact S
 . exact⟨u,k b u hbe q⟩
noncomputable def trk(h:Heap)(H:Hp):List Addr:=(Ah h.objs.size).filter λa=>(H a).isSome
def p8(h:Heap)(H:Hp):Heap:=PySem.W.hideAll h (trk h H)
def hZ h H:(p8 h H).objs.size=h.objs.size:=PySem.W.hideAll_size _ _
def dC(e:h.get? b=some o)(n:H b=none):(p8 h H).get? b=some o:=
 PySem.W.hideAll_get _ e λN=>by have q:(H b).isSome=true:=(EL.mp N).2;rw[n]at q;simp at q
def Zl(e:(p8 h H).get? b=some o):h.get? b=some o/\H b=none:=by
 have N:h.get? b=some o:=PySem.W.of_hideAll (trk h H) e;refine⟨N,?_⟩;cases q:H b with
 |none=>rfl
 |some x=>
  have R:b∈trk h H:=EL.mpr ⟨Ar.mpr (Am N),by simp[q]⟩
  have z:(p8 h H).get? b=none:=PySem.W.hideAll_none (trk h H) R;rw[z]at e;cases e
structure Mod(K:AG)(mg:Str->Option Value)(base:Heap):Prop where
 c:K.In base
 a:base.Ns Bq mg
 d:∃mb,base.Ns builtinsNs mb/\∀x:Str,x≠"__name__"->mb x=Di x
 b:base.NoLimit
structure Cx where
 f:Program
 w:World
 K:AG
 d:Str->Option Value
 i:Heap
 A:Around
 N:List Str
 l:Shared
 r:Hp
 a:Env
 k:List Env
 j:List Env
 m:List Addr
 n:Str->Bool
 g:Bool
 q:List (Addr × Obj)
 h:Value->Shared->Prop
noncomputable def frs(l:List Env):List Addr:=l.filterMap (·.frame)
abbrev Cx.fs(X:Cx):List Addr:=frs X.k
def Vis(sc:Scope)(x:Str):Prop:=sc.names.lookup x=some .local\/sc.names.lookup x=some .cell\/sc.names.lookup x=some .free
def Loc(sc:Scope)(x:Str):Prop:=sc.names.lookup x=some .local\/sc.names.lookup x=some .cell
def Look(env:Env)(h:Heap)(m:Str->Option Value)(x:Str)(u:Value):Prop:=
 (env.kindOf x=some .local/\m x=some u)\/((env.kindOf x=some .cell\/env.kindOf x=some .free)/\∃c,env.cells.lookup x=some c/\h.IsCell c (some u))
structure Cx.Ok(X:Cx):Prop where
 u:Mod X.K X.d X.i
 g:X.a.scope.kind=.function
 s:X.a.globals=Bq
 G:X.a.builtins=builtinsNs
 l:X.l.heap.objs.size<=X.a.locals
 L:∀x y c,X.a.cells.lookup x=some c->X.a.cells.lookup y=some c->x=y
 J:∀x,(X.a.kindOf x=some .cell\/X.a.kindOf x=some .free)->∃c,X.a.cells.lookup x=some c
 D:∀x c,X.n x=true->X.a.cells.lookup x=some c->X.l.heap.objs.size<=c
 d:X.g=true->X.A.handled=none
 m:X.A.frames=some X.j
 M:X.j=X.k\/(X.j=X.a::X.k/\X.a.frame=some X.a.locals)
 H:∀b∈X.m,b≠X.a.locals/\∀x c,X.a.cells.lookup x=some c->c≠b
 O:∀b o,X.i.get? b=some o->X.l.heap.get? b=some o/\X.r b=none
 B:X.i.objs.size<=X.l.heap.objs.size
 w:∀b o,X.i.get? b=some o->b ∉ X.m
 r:∀b∈X.m,b ∉ X.fs
 P:X.l.heap.FunFrames X.i X.k
 I:∀b∈X.fs,X.r b=none
structure Inv(X:Cx)(pins:List (Addr × Obj))(σ:List (Option V))(H:Hp)(s:Shared):Prop where
 y:X.Ok
 R:s.os=X.l.os
 C:AllBare s.gens
 B:Un X.fs X.m X.r H X.l.heap s.heap
 O:∃m,s.heap.Ns X.a.locals m/\∀(i:Nat) (x:Str) (v:V),X.N[i]?=some x->σ[i]?=some (some v)->Vis X.a.scope x->∃u,RelV v u/\Look X.a s.heap m x u
 F:∀x c,X.a.cells.lookup x=some c->∃v,s.heap.IsCell c v
 G:H X.a.locals=none
 J:∀x c,X.a.cells.lookup x=some c->H c=none
 M:∀p∈X.q++pins,s.heap.get? p.1=some p.2/\H p.1=none/\p.1≠X.a.locals/\p.1 ∉ X.fs/\∀v,p.2.data≠.cell v
 j:HOk X.f X.w H s.heap
 P:σ.length=X.N.length
def Cx.Ok.RY{X:Cx}(ok:X.Ok)(e:X.i.get? b=some o):b ∉ X.fs:=λN=>by have:=(ok.P.mem N).1;rw[e]at this;cases this
def Inv.bs(I:Inv X pins σ H s):∀b o,X.i.get? b=some o->s.heap.get? b=some o/\H b=none:=λb o e=>
 ⟨I.B.d b o (I.y.O b o e).1 (I.y.O b o e).2 (I.y.RY e) (I.y.w b o e),I.B.c b o (I.y.O b o e).1 (I.y.O b o e).2 (I.y.w b o e)⟩
def Inv.bk(I:Inv X pins σ H s):∀b o,X.i.get? b=some o->s.heap.get? b=some o:=λb o e=>(I.bs b o e).1
def Inv.mod(I:Inv X pins σ H s):Mod X.K X.d X.i:=I.y.u
def Inv.kIn(I:Inv X pins σ H s):X.K.In s.heap:=I.y.u.c.keeps I.bk
theorem Inv.lt(I:Inv X pins σ H s):X.a.locals<s.heap.objs.size:=let ⟨_,N,_⟩:=I.O;N.lt
def Inv.sz(I:Inv X pins σ H s):X.l.heap.objs.size<=s.heap.objs.size:=Ao I.y.l (EU I.lt)
def Inv.RZ(I:Inv X pins σ H s)(h:s.heap.objs.size<=a):a ∉ X.fs:=λR=>by obtain⟨_,o,N,_⟩:=I.y.P.mem R;exact absurd (AJ (Am N) (Ao I.sz h)) (BR _)
def Inv.cne(I:Inv X pins σ H s):∀x c,X.a.cells.lookup x=some c->c≠X.a.locals:=λx c e z=>by obtain⟨v,o,S,hd⟩:=I.F x c e;obtain⟨m,⟨U,es,ep,N,R,_⟩,_⟩:=I.O;rw[z,N]at S;cases S;rw[R]at hd;cases hd
def Inv.rP(I:Inv X pins σ H s):s.heap.FunFrames X.i X.k:=by
 have all:∀(l:List Env),(∀b∈frs l,b∈X.fs)->X.l.heap.FunFrames X.i l->s.heap.FunFrames X.i l:=by
  intro l;induction l with
  |nil=>intro _ _;trivial
  |cons env r U=>
   intro hs hl;obtain⟨hk,⟨L,o,N,Z,Y,hd⟩,W⟩:=hl;have S:L∈X.fs:=hs L (by unfold frs;rw[A7,N];exact AE)
   obtain⟨sl,e⟩:=I.B.i L o Y (I.y.I L S) S λz=>I.y.r L z S;exact⟨hk,⟨L,_,N,Z,e,hd⟩,U (λb R=>hs b (by unfold frs;rw[A7,N];exact Ay _ R)) W⟩
 exact all X.k (λ_ R=>R) I.y.P
def Inv.stack(I:Inv X pins σ H s):s.heap.FunFrames X.i X.j:=by
 rcases I.y.M with e|⟨e,R⟩
 . rw[e];exact I.rP
 . rw[e]
   obtain⟨m,N,_⟩:=I.O;refine .cons (by rw[I.y.g];decide) R N ?_ I.rP
   exact Heap.get?_none_of_le (Ao I.y.B I.y.l)
def Inv.kh(I:Inv X pins σ H s):∀b∈frs X.j,b∈X.a.locals::X.fs:=λb N=>by
 rcases I.y.M with e|⟨e,R⟩
 . rw[e]at N;exact Ay _ N
 . rw[e]at N
   unfold frs at N;rw[A7,R]at N;exact N
def Inv.iX(I:Inv X pins σ H s):∀b∈frs X.j,H b=none:=λb N=>by
 rcases Al.mp (I.kh b N) with e|N
 . rw[e];exact I.G
 . obtain⟨_,o,R,_⟩:=I.y.P.mem N
   exact I.B.c b o R (I.y.I b N) λz=>I.y.r b z N
def Inv.step{ch:List Addr}(I:Inv X pins σ H s)
 (S:∀b∈ch,(b∈X.m\/X.l.heap.objs.size<=b)/\b≠X.a.locals/\(∀x c,X.a.cells.lookup x=some c->c≠b)/\∀p∈X.q++pins,p.1≠b)
 (keep:∀b o,b≠X.a.locals->b ∉ X.fs->b ∉ ch->s.heap.get? b=some o->H b=none->h'.get? b=some o)
 (Z:∀b o,b≠X.a.locals->b∈X.fs->b ∉ ch->s.heap.get? b=some o->H b=none->∃sl,h'.get? b=some {o with slots:=sl}) (free:∀b o,b ∉ ch->s.heap.get? b=some o->H b=none->H' b=none)
 (there:∀b o,b ∉ ch->s.heap.get? b=some o->∃o',h'.get? b=some o')
 (qH:∀b xs,H b=some (.c xs)->H' b=some (.c xs)) (frzs:∀b o u,H b=some (.g o u)->H' b=some (.g o u)) (tbls:∀b ps,H b=some (.d ps)->∃more,H' b=some (.d (ps++more)))
 (ns:∀m,s.heap.Ns X.a.locals m->h'.Ns X.a.locals m) (hok:HOk X.f X.w H' h') (hg:AllBare g') :
 Inv X pins σ H' {s with heap:=h',gens:=g',drawn:=d',toks:=t'}:=by
 have neL:∀b o,X.l.heap.get? b=some o->b≠X.a.locals:=λb o e=>AD (AJ (Am e) I.y.l);have W:∀b o,X.l.heap.get? b=some o->b ∉ X.m->b ∉ ch:=λb o e hx hb=>by
  rcases (S b hb).1 with z|z
  . exact hx z
  . exact absurd (AJ (Am e) z) (BR _)
 have U:∀x c,X.a.cells.lookup x=some c->∀v,s.heap.IsCell c v->h'.IsCell c v:=λx c e v ⟨o,ho,hd⟩=>by
  have N:c ∉ ch:=λz=>(S c z).2.2.1 x c e rfl;by_cases hc:c∈X.fs
  . obtain⟨sl,q⟩:=Z c o (I.cne x c e) hc N ho (I.J x c e)
    exact⟨_,q,hd⟩
  . exact⟨o,keep c o (I.cne x c e) hc N ho (I.J x c e),hd⟩
 refine⟨I.y,I.R,hg,⟨λb o e n hb hx=>?_,λb o e n hb hx=>?_,λb o e n hx=>?_,λb o e hx=>?_,λb xs e=>qH b xs (I.B.l b xs e),λb o xs e=>frzs b o xs (I.B.g b o xs e),λb ps e=>?_⟩,?_,λx c e=>?_,?_,λx c e=>?_,λp hp=>?_,hok,I.P⟩
 . exact keep b o (neL b o e) hb (W b o e hx) (I.B.d b o e n hb hx) (I.B.c b o e n hx)
 . obtain⟨sl,Y⟩:=I.B.i b o e n hb hx
   obtain⟨sl',e2⟩:=Z b _ (neL b o e) hb (W b o e hx) Y (I.B.c b o e n hx);exact⟨sl',e2⟩
 . obtain⟨o',Y⟩:=I.B.f b o e hx
   exact free b o' (W b o e hx) Y (I.B.c b o e n hx)
 . obtain⟨o',Y⟩:=I.B.f b o e hx
   exact there b o' (W b o e hx) Y
 . obtain⟨m1,Y⟩:=I.B.j b ps e
   obtain⟨m2,e2⟩:=tbls b _ Y;exact⟨m1++m2,by rw[e2,Array.append_assoc]⟩
 . obtain⟨m,hn,hl⟩:=I.O
   refine⟨m,ns m hn,λi x v Y e2 e3=>?_⟩;obtain⟨u,r,l⟩:=hl i x v Y e2 e3;refine⟨u,r,?_⟩;rcases l with l|⟨k,c,e,z⟩
   . exact .inl l
   . exact .inr ⟨k,c,e,U x c e _ z⟩
 . obtain⟨v,z⟩:=I.F x c e
   exact⟨v,U x c e v z⟩
 . obtain⟨m,⟨o,_,_,ho,_⟩,_⟩:=I.O
   exact free _ o (λz=>(S _ z).2.1 rfl) ho I.G
 . obtain⟨v,o,ho,hd⟩:=I.F x c e
   exact free c o (λz=>(S c z).2.2.1 x c e rfl) ho (I.J x c e)
 . obtain⟨e,n,ne,nf,d⟩:=I.M p hp
   have N:p.1 ∉ ch:=λz=>(S p.1 z).2.2.2 p hp rfl;exact⟨keep p.1 p.2 ne nf N e n,free p.1 p.2 N e n,ne,nf,d⟩
def Inv.un(I:Inv X pins σ H s)(u:Un X.fs [] H H' s.heap h')(R:HOk X.f X.w H' h'):Inv X pins σ H' {s with heap:=h',toks:=t'}:=by
 obtain⟨m,⟨o,es,ep,Y,r⟩,_⟩:=id I.O;obtain⟨sl,hL⟩:=u.any Y I.G (by simp)
 exact I.step (g':=s.gens) (d':=s.drawn) (ch:=[]) (λ_ z=>nomatch z) (λb o _ S _ e n=>u.d b o e n S (by simp)) (λb o _ S _ e n=>u.i b o e n S (by simp)) (λb o _ e n=>u.c b o e n (by simp)) (λb o _ e=>u.f b o e (by simp)) u.l u.g u.j (λm' hm=>by obtain⟨o',U,W,N,Z⟩:=hm;rw[Y]at N;cases N;exact⟨_,U,W,hL,Z⟩) R I.C
def Inv.call(I:Inv X pins σ H s)(u:Un (frs X.j) ch H H' s.heap h')(U:HOk X.f X.w H' h')(hg:AllBare g')
 (S:∀b∈ch,(b∈X.m\/X.l.heap.objs.size<=b)/\b≠X.a.locals/\(∀x c,X.a.cells.lookup x=some c->c≠b)/\∀p∈X.q++pins,p.1≠b) :
 Inv X pins σ H' {s with heap:=h',gens:=g',drawn:=d',toks:=t'}:=by
 obtain⟨m,⟨o,es,ep,ho,r⟩,_⟩:=id I.O;obtain⟨sl,W⟩:=u.any ho I.G λz=>(S _ z).2.1 rfl;exact I.step (ch:=ch) S (λb o W hb N e n=>u.d b o e n (λz=>(Al.mp (I.kh b z)).elim W hb) N) (λb o _ _ N e n=>u.any e n N) (λb o N e n=>u.c b o e n N) (λb o N e=>u.f b o e N) u.l u.g u.j (λm' hm=>by obtain⟨o',Y,Z,R,r'⟩:=hm;rw[ho]at R;cases R;exact⟨_,Y,Z,W,r'⟩) U hg
def Inv.turned(I:Inv X pins σ H s)(k:∀b o,b≠it->s.heap.get? b=some o->h'.get? b=some o)(W:H it=none)(S:it≠X.a.locals)
 (h1:it∈X.m\/X.l.heap.objs.size<=it) (h2:∀x c,X.a.cells.lookup x=some c->c≠it) (h3:∀p∈X.q++pins,p.1≠it):Inv X pins σ H {s with heap:=h',toks:=t'}:=by
 have R:∀b u,H b=some u->b≠it:=λb u e z=>by rw[z,W]at e;cases e
 refine I.step (g':=s.gens) (d':=s.drawn) (ch:=[it]) (λb Z=>?_) (λb o _ _ N e _=>k b o (λz=>N (by simp[z])) e) (λb o _ _ N e _=>⟨o.slots,k b o (λz=>N (by simp[z])) e⟩) (λ_ _ _ _ n=>n)
  (λb o N e=>⟨o,k b o (λz=>N (by simp[z])) e⟩) (λ_ _ e=>e) (λ_ _ _ e=>e) (λb ps e=>⟨#[],by rw[e];simp⟩) (λm Y=>?_) (λb u e=>?_) I.C
 . have e:b=it:=by simpa using Z
   subst e;exact⟨h1,S,h2,h3⟩
 . obtain⟨o,es,ep,U,r⟩:=Y
   exact⟨o,es,ep,k _ o (BJ S) U,r⟩
 . refine(I.j b u e).kg (λc v N q=>k c v ?_ q) (λ_ q=>q) λ_ _ q=>q
   rcases N with z|z
   . rw[z];exact R b u e
   . exact R c _ z
def Inv.tok(I:Inv X pins σ H s)t:Inv X pins σ H {s with toks:=t}:=I.un (h':=s.heap) (t':=t) Un.refl I.j
theorem Inv.kept(I:Inv X pins σ H s)(k:∀b u,s.heap.get? b=some u->h'.get? b=some u):Inv X pins σ H {s with heap:=h',toks:=t'}:=I.un (Un.kept k) (I.j.kept k)
theorem Inv.laid(I:Inv X pins σ H s)(k:∀b u,s.heap.get? b=some u->h'.get? b=some u)(hp:s.heap.objs.size<=a)(new:z9 X.f X.w (upd H a o) h' a o) :
 Inv X pins σ (upd H a o) {s with heap:=h',toks:=t'}:=I.un (Un.laid k hp (I.j.fresh hp)) (I.j.laid k hp new)
theorem Inv.write(I:Inv X pins σ H s)(R:Mut (H x))(he:e=x\/H e=some (.e x))(k:∀b u,b≠e->s.heap.get? b=some u->h'.get? b=some u)(N:∃u,h'.get? e=some u)
 (new:z9 X.f X.w (upd H x o) h' x o):Inv X pins σ (upd H x o) {s with heap:=h',toks:=t'}:=I.un (Un.write R he k N) (I.j.write R he k N new)
def Inv.iQ{N:List (Addr × Obj)}(I:Inv X pins σ H s)(h:∀p∈N,s.heap.get? p.1=some p.2/\H p.1=none/\p.1≠X.a.locals/\p.1 ∉ X.fs/\∀v,p.2.data≠.cell v):Inv X N σ H s:=
 ⟨I.y,I.R,I.C,I.B,I.O,I.F,I.G,I.J,λp hp=>(AO.mp hp).elim (λz=>I.M p (Bg _ z)) (h p),I.j,I.P⟩
def mH{N:List Str}(R:N.Nodup){i j:Nat}(a:N[i]?=some x)(b:N[j]?=some x):i=j:=by obtain⟨X,U⟩:=Ai.mp a;obtain⟨W,S⟩:=Ai.mp b;exact(G5 R).mp (U.trans S.symm)
def pJ{Q:Unit->Shared->Prop}(I:Inv X pins σ H s)(hN:X.N.Nodup)(hi:X.N[i]?=some x)(hx:Loc X.a.scope x)(r:RelV v u)
 (h:∀s',Inv X pins (σ.set i (some v)) H s'->(∃a,Cm a s.heap s'.heap/\(a=X.a.locals\/X.a.cells.lookup x=some a))->Q () s') (hf:X.n x=true\/X.a.scope.names.lookup x=some .local:=by first|exact .inl rfl|exact .inr rfl|assumption):wpAny M A (storeName X.a x u) Q E s:=by
 obtain⟨m,hn,hl⟩:=id I.O;have hcls:(X.a.scope.kind == .class||(X.a.scope.kind == .module&&X.a.locals != X.a.globals))=false:=by rw[I.y.g];rfl
 have hiσ:i<σ.length:=by rw[I.P];exact(Ai.mp hi).1
 have cne:=I.cne;have S:∀{a:Addr} {h':Heap},(∃o,s.heap.get? a=some o/\H a=none)->Cm a s.heap h'->HOk X.f X.w H h':=λ{a h'} ha hs b ob e=>by
  obtain⟨_,_,Y⟩:=ha;refine(I.j b ob e).kg (λc w' W q=>(hs.2 c ?_).trans q) (λ_ q=>q) λ_ _ q=>q;rintro rfl;rcases W with rfl|W
  . rw[Y]at e;cases e
  . rw[Y]at W;cases W
 rcases hx with hk|hk
 . refine wpAny_storeName_local hk hn (λh' hn' hs=>?_) hcls
   obtain⟨oL,_,_,hoL,_⟩:=id hn;refine h _ ⟨I.y,I.R,I.C,⟨λb o e n hb hx=>?_,λb o e n hb hx=>?_,I.B.c,λb o e hx=>?_,I.B.l,I.B.g,I.B.j⟩,⟨_,hn',λj y v' U Z e3=>?_⟩,λy c e=>?_,I.G,I.J,λp hp=>?_,S ⟨oL,hoL,I.G⟩ hs,by simpa using I.P⟩ ⟨_,hs,.inl rfl⟩
   . exact(hs.2 b (AD (AJ (Am e) I.y.l))).trans (I.B.d b o e n hb hx)
   . obtain⟨sl,U⟩:=I.B.i b o e n hb hx
     exact⟨sl,(hs.2 b (AD (AJ (Am e) I.y.l))).trans U⟩
   . obtain⟨o',U⟩:=I.B.f b o e hx
     exact⟨o',(hs.2 b (AD (AJ (Am e) I.y.l))).trans U⟩
   . by_cases hj:j=i
     . subst hj
       rw[hi]at U;cases U;rw[BY hiσ]at Z;cases Z;exact⟨u,r,.inl ⟨hk,by simp⟩⟩
     . rw[DC (BJ hj)]at Z
       obtain⟨u',r',q⟩:=hl j y v' U Z e3;refine⟨u',r',?_⟩;rcases q with⟨k,e⟩|⟨k,c,e,z⟩
       . refine .inl ⟨k,?_⟩
         have:y≠x:=λe=>hj (mH hN U (e▸hi));simp[this,e]
       . exact .inr ⟨k,c,e,z.sameBut hs (cne y c e)⟩
   . obtain⟨w',z⟩:=I.F y c e
     exact⟨w',z.sameBut hs (cne y c e)⟩
   . obtain⟨e,n,ne,nf,d⟩:=I.M p hp
     exact⟨(hs.2 p.1 ne).trans e,n,ne,nf,d⟩
 . have hfn:X.n x=true:=by
    rcases hf with z|z
    . exact z
    . rw[z]at hk;cases hk
   obtain⟨c,W⟩:=I.y.J x (.inl hk);obtain⟨w',z⟩:=I.F x c W;refine wpAny_storeName_cell I.y.g hk W z (λh' hc' hs=>?_);obtain⟨oc,hoc,hocd⟩:=id z;refine h {s with heap:=h'} ⟨I.y,I.R,I.C,⟨λb o e n hb hx=>?_,λb o e n hb hx=>?_,I.B.c,λb o e hx=>?_,I.B.l,I.B.g,I.B.j⟩,⟨m,hn.sameBut hs (BJ (cne x c W)),λj y v' U Z e3=>?_⟩,λy c' e=>?_,I.G,I.J,λp hp=>?_,S ⟨oc,hoc,I.J x c W⟩ hs,by simpa using I.P⟩ ⟨c,hs,.inr W⟩
   . exact(hs.2 b (AD (AJ (Am e) (I.y.D x c hfn W)))).trans (I.B.d b o e n hb hx)
   . obtain⟨sl,U⟩:=I.B.i b o e n hb hx
     exact⟨sl,(hs.2 b (AD (AJ (Am e) (I.y.D x c hfn W)))).trans U⟩
   . obtain⟨o',U⟩:=I.B.f b o e hx
     exact⟨o',(hs.2 b (AD (AJ (Am e) (I.y.D x c hfn W)))).trans U⟩
   . by_cases hj:j=i
     . subst hj
       rw[hi]at U;cases U;rw[BY hiσ]at Z;cases Z;exact⟨u,r,.inr ⟨.inl hk,c,W,hc'⟩⟩
     . rw[DC (BJ hj)]at Z
       obtain⟨u',r',q⟩:=hl j y v' U Z e3;refine⟨u',r',?_⟩;rcases q with q|⟨k,c',e,z'⟩
       . exact .inl q
       . refine .inr ⟨k,c',e,z'.sameBut hs ?_⟩
         rintro rfl;exact hj (mH hN U (I.y.L _ _ _ e W▸hi))
   . by_cases hcc:c'=c
     . subst hcc;exact⟨_,hc'⟩
     . obtain⟨w2,z2⟩:=I.F y c' e
       exact⟨w2,z2.sameBut hs hcc⟩
   . obtain⟨e,n,ne,nf,d⟩:=I.M p hp
     refine⟨(hs.2 p.1 ?_).trans e,n,ne,nf,d⟩;intro q;rw[q,hoc]at e;have q':oc=p.2:=AH e;exact d w' (by rw[<-q'];exact hocd)
def x8{Q:Unit->Shared->Prop}(I:Inv X pins σ H s)(S:X.N.Nodup)(hi:X.N[i]?=some x)(hx:Loc X.a.scope x)(r:RelV v u)
 (h:∀s',Inv X pins (σ.set i (some v)) H s'->Q () s') (R:X.n x=true\/X.a.scope.names.lookup x=some .local:=by first|exact .inl rfl|exact .inr rfl|assumption):wpAny M A (storeName X.a x u) Q E s:=
 pJ I S hi hx r (λs' U _=>h s' U) R
def Inv.Yy(I:Inv X pins σ H s)(U:s'.os=s.os)(u:Un (frs X.j) ch H H' s.heap s'.heap)(N:HOk X.f X.w H' s'.heap)(W:AllBare s'.gens)
 (R:∀b∈ch,(b∈X.m\/X.l.heap.objs.size<=b)/\b≠X.a.locals/\(∀x c,X.a.cells.lookup x=some c->c≠b)/\∀p∈X.q++pins,p.1≠b):Inv X pins σ H' s':=by
 obtain⟨h',g',d',t',S⟩:=s';have e:S=s.os:=U;subst e;exact I.call (g':=g') (t':=t') (d':=d') u N W R
abbrev XK:=Value->Option Addr->Hp->Prop
abbrev St:=List (Option V)
abbrev VK:=V->Hp->Prop
abbrev TE:=St->Hp->VK->Prop
abbrev TT:=St->Hp->(Bool->Hp->Prop)->Prop
abbrev TA:=St->Hp->(List V->Hp->Prop)->Prop
structure Ends where
 a:St->Hp->Prop
 d:VK
 b:St->Hp->Prop:=λ_ _=>False
 c:St->Hp->Prop:=λ_ _=>False
abbrev TS:=Ends->St->Hp->Prop
def EP(X:Cx)(pins:List (Addr × Obj))(σ:St)(Q:VK)(u:Value)(s':Shared):Prop:=∃v H',Inv X pins σ H' s'/\RelV v u/\Q v H'
def TP(X:Cx)(pins:List (Addr × Obj))(σ:St)(Q:Bool->Hp->Prop)(b:Bool)(s':Shared):Prop:=∃H',Inv X pins σ H' s'/\Q b H'
def AP(X:Cx)(pins:List (Addr × Obj))(σ:St)(Q:List V->Hp->Prop)(us:List Value)(s':Shared):Prop:=∃vs H',Inv X pins σ H' s'/\Vals vs us/\Q vs H'
def SP(X:Cx)(pins:List (Addr × Obj))(D:Ends)(f:Flow)(s':Shared):Prop:=
 match f with
 |.next=>∃N H',Inv X pins N H' s'/\D.a N H'
 |.brk=>∃N H',Inv X pins N H' s'/\D.b N H'
 |.cont=>∃N H',Inv X pins N H' s'/\D.c N H'
 |.ret u=>∃v N H',Inv X pins N H' s'/\RelV v u/\D.d v H'
def PE(X:Cx)(e:Expr)(t:TE):Prop:=
 ∀(pins:List (Addr × Obj)) (s:Shared) (σ:St) (H:Hp) (Q:VK),Inv X pins σ H s->t σ H Q->wpAny (model X.f X.w) X.A (eval e X.a) (EP X pins σ Q) X.h s
def PT(X:Cx)(e:Expr)(t:TT):Prop:=
 ∀(pins:List (Addr × Obj)) (s:Shared) (σ:St) (H:Hp) (Q:Bool->Hp->Prop),Inv X pins σ H s->t σ H Q->wpAny (model X.f X.w) X.A (isTrue e X.a (eval e X.a)) (TP X pins σ Q) X.h s
def PW(X:Cx)(e:Expr)(t:TT):Prop:=
 ∀(N:Sem Value) (pins:List (Addr × Obj)) (s:Shared) (σ:St) (H:Hp) (Q:Bool->Hp->Prop),Inv X pins σ H s->t σ H Q->wpAny (model X.f X.w) X.A (isTrue e X.a N) (TP X pins σ Q) X.h s
def PW.pt(h:PW X e t):PT X e t:=h _
def PA(X:Cx)(es:List Expr)(t:TA):Prop:=
 ∀(pos:Pos) (pins:List (Addr × Obj)) (s:Shared) (σ:St) (H:Hp) (Q:List V->Hp->Prop),Inv X pins σ H s->t σ H Q->wpAny (model X.f X.w) X.A (spliced (backTo pos (A9 es X.a))) (AP X pins σ Q) X.h s
def PS(X:Cx)(st:Stmt)(t:TS):Prop:=
 ∀(pins:List (Addr × Obj)) (s:Shared) (σ:St) (H:Hp) (D:Ends),Inv X pins σ H s->t D σ H->wpAny (model X.f X.w) X.A (exec st X.a) (SP X pins D) X.h s
def PSs(X:Cx)(st:List Stmt)(t:TS):Prop:=
 ∀(pins:List (Addr × Obj)) (s:Shared) (σ:St) (H:Hp) (D:Ends),Inv X pins σ H s->t D σ H->wpAny (model X.f X.w) X.A (execs st X.a) (SP X pins D) X.h s
def thn(h:wpAny M A t Q E s)(N:∀a s,Q a s->Q' a s):wpAny M A t Q' E s:=Cj h N λ_ _ x=>x
section
variable {X:Cx}
def bin(ha:PE X a ta)(hb:PE X b tb){R:V->V->Hp->Prop}(I:Inv X pins σ H s)(h:ta σ H λx H1=>tb σ H1 λy H2=>R x y H2)
  {Q} {f:Value->Value->Sem α}
 (hf:∀v u s2 x y H2,Inv X pins σ H2 s2->RelV x v->RelV y u->R x y H2->wpAny (model X.f X.w) X.A (f v u) Q X.h s2) :
 wpAny (model X.f X.w) X.A (eval a X.a) (λv S=>wpAny (model X.f X.w) X.A (eval b X.a) (λu N=>wpAny (model X.f X.w) X.A (f v u) Q X.h N) X.h S) X.h s:=by
 refine thn (ha pins s σ H _ I h) λv s1 U=>?_;obtain⟨x,H1,I1,Y,q1⟩:=U;refine thn (hb pins s1 σ H1 _ I1 q1) λu s2 U=>?_;obtain⟨y,H2,I2,W,Z⟩:=U;exact hf v u s2 x y H2 I2 Y W Z
def R1(i:Nat):TE:=λσ H Q=>∃v,σ[i]?=some (some v)/\Q v H
def tC(v:V):TE:=λ_ H Q=>Q v H
def Vh(hN:X.N[i]?=some x)(W:Vis X.a.scope x)(hd:(x == ("__debug__":Str))=false:=by decide)(S:(x == ("__classdict__":Str))=false:=by decide):PE X (.Name x pos) (R1 i):=by
 intro pins s σ H Q I h;obtain⟨v,e,h⟩:=h;obtain⟨m,Y,hl⟩:=I.O;obtain⟨u,r,l⟩:=hl i x v hN e W;have fin:EP X pins σ Q u s:=⟨v,H,I,r,h⟩;rcases l with⟨hk,Z⟩|⟨hk,c,U,R⟩
 . exact wpAny_Name (wpAny_loadName_local I.y.g hk Y Z fin) hd
 . rcases hk with hk|hk
   . exact wpAny_Name (wpAny_loadName_cell I.y.g hk U R fin) hd
   . exact wpAny_Name (wpAny_loadName_free I.y.g hk U R fin S) hd
def Va{i j pos}:PE X (.Constant (.int i) j pos) (tC (.d i)):=λ_ _ _ H _ I h=>wpAny_Constant_int ⟨.d i,H,I.tok _,⟨_,rfl⟩,h⟩
def T9{b j pos}:PE X (.Constant (.bool b) j pos) (tC (.e b)):=λ_ _ _ H _ I h=>Constant_bool ⟨.e b,H,I,rfl,h⟩
def Vc{j pos}:PE X (.Constant .none j pos) (tC .g):=λ_ _ _ H _ I h=>Constant_none ⟨.g,H,I,rfl,h⟩
def Vf{x j pos}:PE X (.Constant (.str x) j pos) (tC (.f x)):=λ_ _ _ H _ I h=>Calls.Constant_str ⟨.f x,H,I.tok _,⟨_,rfl⟩,h⟩
def Gl(X:Cx)(x:Str):Prop:=X.a.kindOf x=some .globalImplicit
def oF(I:Inv X pins σ H s)(R:Gl X x)(N:X.d x=some u)(h:Q u s)
 (hd:(x == ("__debug__":Str))=false:=by decide):wpAny (model X.f X.w) X.A (eval (.Name x pos) X.a) Q E s:=
 Gx I.y.g R (Calls.loadGlobal_global (by rw[I.y.s];exact I.mod.a.keeps I.bk) N h) hd
def vb(I:Inv X pins σ H s)(U:Gl X x)(S:X.d x=none)(N:Di x=some u)(h:Q u s)
 (R:x≠"__name__":=by decide) (hd:(x == ("__debug__":Str))=false:=by decide):wpAny (model X.f X.w) X.A (eval (.Name x pos) X.a) Q E s:=by
 obtain⟨Z,Y,W⟩:=I.mod.d;exact Gx I.y.g U (Calls.loadGlobal_builtin (by rw[I.y.s];exact I.mod.a.keeps I.bk) S (by rw[I.y.G];exact Y.keeps I.bk) ((W x R).trans N) h) hd
def Z4(R:Gl X x)(N:X.d x=some u)(r:RelV v u)(hd:(x == ("__debug__":Str))=false:=by decide):PE X (.Name x pos) (tC v):=
 λ_ _ _ H _ I h=>oF I R N ⟨v,H,I,r,h⟩ hd
def Z1(U:Gl X x)(S:X.d x=none)(N:Di x=some u)(r:RelV v u)(R:x≠"__name__":=by decide)(hd:(x == ("__debug__":Str))=false:=by decide):PE X (.Name x pos) (tC v):=
 λ_ _ _ H _ I h=>vb I U S N ⟨v,H,I,r,h⟩ R hd
variable {a b:Expr}{ta tb:TE}{pos:Pos}
variable {tA tB':TT}{rest:List Expr}
def Rw(t:TT):TT:=λσ H Q=>t σ H λc H1=>Q (!c) H1
def Vn(N:PT X a tA):PT X (.UnaryOp .Not a pos) (Rw tA):=by intro pins s σ H Q I h;exact isTrue_not (N pins s σ H (λc H1=>Q (!c) H1) I h)
def Sr(ta tb:TE):TE:=λσ H Q=>ta σ H λx H1=>∃c,x=.e c/\if c=true then tb σ H1 Q else Q (.e false) H1
def Sv(ta:TE):TE:=λσ H Q=>ta σ H λx H1=>∃c,x=.e c/\Q (.e (!c)) H1
def kJ{op}(h:PE X a t):PE X (.BoolOp op [a] pos) t:=λpins s σ H Q I hw=>BoolOp_one (h pins s σ H Q I hw)
def VZ(W:PE X a ta)(U:PE X (.BoolOp .And (b::rest) pos) tb):PE X (.BoolOp .And (a::b::rest) pos) (Sr ta tb):=by
 intro pins s σ H Q I h;refine BoolOp_and (thn (W pins s σ H _ I h) λv s1 R=>?_);obtain⟨x,H1,I1,S,N⟩:=R;obtain⟨c,rfl,N⟩:=N;cases S;refine Cu ?_;cases c with
 |true=>exact U pins s1 σ H1 Q I1 N
 |false=>exact⟨.e false,H1,I1,rfl,N⟩
def Vd(U:PE X a ta):PE X (.UnaryOp .Not a pos) (Sv ta):=by intro pins s σ H Q I h;refine UnaryOp_ (thn (U pins s σ H _ I h) λv s1 R=>?_);obtain⟨x,H1,I1,S,N⟩:=R;obtain⟨c,rfl,N⟩:=N;cases S;exact not_of (Cu ⟨.e (!c),H1,I1,rfl,N⟩)
def tIf(t:TT)(ta tb:TE):TE:=λσ H Q=>t σ H λc H1=>if c=true then ta σ H1 Q else tb σ H1 Q
def cy(S:PT X c tA)(W:PE X a ta)(U:PE X b tb):PE X (.IfExp c a b pos) (tIf tA ta tb):=by
 intro pins s σ H Q I h;refine wpAny_IfExp (thn (S pins s σ H _ I h) λd s1 R=>?_);obtain⟨H1,I1,N⟩:=R;cases d with
 |true=>exact W pins s1 σ H1 Q I1 N
 |false=>exact U pins s1 σ H1 Q I1 N
end
def SqL(K:AG)(H:Hp)(a:Addr)(xs:List V):Prop:=
 Rd H a (.b xs) \/
  ∃(o:Obj) (its:Array Value) (n:Nat),K.lookup a=some o/\o.cls=.type "list"/\o.dict=none/\o.data=.seq its n/\its.size<=AI/\Vals xs its.toList
def SqT(K:AG)(H:Hp)(a:Addr)(xs:List V):Prop:=
 Rd H a (.c xs) \/
  ∃(o:Obj) (its:Array Value) (n:Nat),K.lookup a=some o/\o.cls=.type "tuple"/\o.data=.seq its n/\its.size<=AI/\Vals xs its.toList
noncomputable def RJ:Value->Option V
 |.none=>some .g
 |.bool b=>some (.e b)
 |.int i _=>some (.d i)
 |.str x _=>some (.f x)
 |.bytes b _=>some (.h b)
 |.float b _=>some (.j b)
 |.ref a=>some (.c a)
 |.type n=>some (.k n)
 |_=>none
def RelV.abs(r:RelV x u):RJ u=some x:=by
 cases x with
 |g=>cases r;rfl
 |e _=>cases r;rfl
 |d _=>obtain⟨t,rfl⟩:=r;rfl
 |f _=>obtain⟨t,rfl⟩:=r;rfl
 |h _=>obtain⟨t,rfl⟩:=r;rfl
 |j _=>obtain⟨t,rfl⟩:=r;rfl
 |c _=>cases r;rfl
 |k _=>cases r;rfl
def RelV.inj(r:RelV x u)(q:RelV y u):x=y:=AH (r.abs.symm.trans q.abs)
theorem Vals.inj:∀{xs ys} {us},Vals xs us->Vals ys us->xs=ys
 |_,_,_,.nil,.nil=>rfl
 |_,_,_,.cons r t,.cons r' t'=>by rw[r.inj r',Vals.inj t t']
def SqL.of{K}(h:H a=some (.b xs)):SqL K H a xs:=.inl (.inl h)
def SqT.of{K}(h:H a=some (.c xs)):SqT K H a xs:=.inl (.inl h)
def Inv.list(I:Inv X pins σ H s)(h:SqL X.K H a xs):∃its:List Value,Vals xs its/\PlainL s.heap a its.toArray/\xs.length<=AI:=by
 rcases h with h|⟨o,its,n,hk,N,hd,hs,R,r⟩
 . obtain⟨z,its,n,r,e⟩:=h.ok I.j
   exact⟨its,r,⟨_,n,e,rfl,rfl,rfl⟩,z⟩
 . refine⟨its.toList,r,⟨o,n,I.kIn a o hk,N,hd,by simpa using hs⟩,?_⟩
   have e:=r.length;simp only[Ax]at e;omega
def Inv.tuple(I:Inv X pins σ H s)(h:SqT X.K H a xs):∃its:List Value,Vals xs its/\IsTup s.heap a its.toArray/\xs.length<=AI:=by
 rcases h with h|⟨o,its,n,hk,N,hs,R,r⟩
 . obtain⟨z,its,r,p⟩:=h.ok I.j
   exact⟨its,r,p.tup,z⟩
 . refine⟨its.toList,r,⟨o,I.kIn a o hk,N,n,by simpa using hs⟩,?_⟩
   have e:=r.length;simp only[Ax]at e;omega
def Inv.n5(I:Inv X pins σ H s)(h:SqL X.K H a xs)(h':SqL X.K H a ys):xs=ys:=by
 obtain⟨its,r,⟨o,n,e,_,_,d⟩,_⟩:=I.list h;obtain⟨its',R,⟨S,U,N,_,_,d'⟩,_⟩:=I.list h';rw[e]at N;cases N;rw[d]at d';injection d' with d1 _
 have:its=its':=by simpa using congrArg Array.toList d1
 subst this;exact r.inj R
def Inv.pL(I:Inv X pins σ H s)(h:SqT X.K H a xs)(h':SqT X.K H a ys):xs=ys:=by
 obtain⟨its,r,⟨o,e,_,n,d⟩,_⟩:=I.tuple h;obtain⟨its',R,⟨S,N,_,U,d'⟩,_⟩:=I.tuple h';rw[e]at N;cases N;rw[d]at d';injection d' with d1 _
 have:its=its':=by simpa using congrArg Array.toList d1
 subst this;exact r.inj R
noncomputable abbrev Cx.qY(X:Cx)(E:Value->Shared->Prop):Cx:={X with h:=E}
abbrev Cx.nox(X:Cx):Cx:=X.qY λ_ _=>False
theorem Cx.Ok.qY{X:Cx}(ok:X.Ok)E:(X.qY E).Ok:=
 ⟨ok.u,ok.g,ok.s,ok.G,ok.l,ok.L,ok.J,ok.D,ok.d,ok.m,ok.M,ok.H,ok.O,ok.B,ok.w,ok.r,ok.P,ok.I⟩
def Cx.Ok.vk{X:Cx}(ok:(X.qY E).Ok):X.Ok:=
 ⟨ok.u,ok.g,ok.s,ok.G,ok.l,ok.L,ok.J,ok.D,ok.d,ok.m,ok.M,ok.H,ok.O,ok.B,ok.w,ok.r,ok.P,ok.I⟩
theorem Inv.qY(I:Inv X pins σ H s)E:Inv (X.qY E) pins σ H s:=⟨I.y.qY E,I.R,I.C,I.B,I.O,I.F,I.G,I.J,I.M,I.j,I.P⟩
theorem Inv.vk(I:Inv (X.qY E) pins σ H s):Inv X pins σ H s:=⟨I.y.vk,I.R,I.C,I.B,I.O,I.F,I.G,I.J,I.M,I.j,I.P⟩
theorem SP.vk(h:SP (X.qY E) pins D f s'):SP X pins D f s':=by
 cases f with
 |next=>obtain⟨N,H',I,q⟩:=h;exact⟨N,H',I.vk,q⟩
 |brk=>obtain⟨N,H',I,q⟩:=h;exact⟨N,H',I.vk,q⟩
 |cont=>obtain⟨N,H',I,q⟩:=h;exact⟨N,H',I.vk,q⟩
 |ret u=>obtain⟨v,N,H',I,r,q⟩:=h;exact⟨v,N,H',I.vk,r,q⟩
theorem PSs.nox{st}(h:PSs X.nox st t):PSs X st t:=λpins s σ H D I hw=>
 Cj (h pins s σ H D (I.qY _) hw) (λ_ _ q=>q.vk) λ_ _ z=>De z
section
variable {X:Cx}{st:Stmt}{rest:List Stmt}{t u:TS}{e:Expr}{te:TE}{pos:Pos}
def Su:TS:=λD σ H=>D.a σ H
def Rz(t u:TS):TS:=λD σ H=>t {D with a:=u D} σ H
def YD:PSs X [] Su:=λ_ _ σ H _ I h=>wpAny_execs_nil ⟨σ,H,I,h⟩
def bM(S:PS X st t)(R:PSs X rest u):PSs X (st::rest) (Rz t u):=by
 intro pins s σ H D I h;refine wpAny_execs_cons (thn (S pins s σ H {D with a:=u D} I h) λf s1 q=>?_)
 cases f with
 |next=>
  obtain⟨N,H',U,q⟩:=q;exact R pins s1 N H' D U q
 |ret v=>exact q
 |brk=>exact q
 |cont=>exact q
def Inv.quiet(I:Inv X pins σ H s):interactive X.a=false:=by simp[interactive,I.y.g]
def Ss(te:TE):TS:=λD σ H=>te σ H λ_ H1=>D.a σ H1
def YB(he:PE X e te)(hs:FF e none pos.line X.a=pure false:=by rfl):PS X (.Expr e pos) (Ss te):=by intro pins s σ H D I h;exact wpAny_Expr_any (thn (he pins s σ H _ I h) λv s1 ⟨x,H1,I1,r1,q1⟩=>⟨σ,H1,I1,q1⟩) I.quiet hs
def Ry(te:TE):TS:=λD σ H=>te σ H D.d
def Vm(he:PE X e te):PS X (.Return (some e) pos) (Ry te):=by intro pins s σ H D I h;exact wpAny_Return_some (thn (he pins s σ H _ I h) λv s1 ⟨x,H1,I1,r1,q1⟩=>⟨x,σ,H1,I1,r1,q1⟩)
def Ru(c:TT)(t u:TS):TS:=λD σ H=>c σ H λb H1=>if b=true then t D σ H1 else u D σ H1
def SM(S:PT X c tc)(W:PSs X a t)(U:PSs X b u):PS X (.If c a b pos) (Ru tc t u):=by
 intro pins s σ H D I h;refine wpAny_If (thn (S pins s σ H _ I h) λd s1 R=>?_);obtain⟨H1,I1,N⟩:=R;cases d with
 |true=>exact W pins s1 σ H1 D I1 N
 |false=>exact U pins s1 σ H1 D I1 N
end
abbrev TG:=V->St->Hp->(St->Hp->Prop)->Prop
abbrev TGs:=List V->St->Hp->(St->Hp->Prop)->Prop
def PG(X:Cx)(N:Expr)(t:TG):Prop:=
 ∀(pins:List (Addr × Obj)) (s:Shared) (σ:St) (H:Hp) (v:V) (u:Value) (Q:St->Hp->Prop),Inv X pins σ H s->RelV v u->t v σ H Q ->
  wpAny (model X.f X.w) X.A (assign N X.a u) (λ_ s'=>∃R H',Inv X pins R H' s'/\Q R H') X.h s
def PGs(X:Cx)(ts:List Expr)(t:TGs):Prop:=
 ∀(pins:List (Addr × Obj)) (s:Shared) (σ:St) (H:Hp) (vs:List V) (us:List Value) (Q:St->Hp->Prop),Inv X pins σ H s->Vals vs us->t vs σ H Q ->
  wpAny (model X.f X.w) X.A (Fq ((DE ts X.a).map (·.2)) us) (λ_ s'=>∃N H',Inv X pins N H' s'/\Q N H') X.h s
abbrev Xk:=V->V->V->Hp->(Hp->Prop)->Prop
def UX(X:Cx)(t:Xk):Prop:=
 ∀(pins:List (Addr × Obj)) (s:Shared) (σ:St) (H:Hp) (o i v:V) (N R u:Value) (Q:Hp->Prop),Inv X pins σ H s->RelV o N->RelV i R->RelV v u->t o i v H Q ->
  wpAny (model X.f X.w) X.A (setItem N R u) (λ_ s'=>∃H',Inv X pins σ H' s'/\Q H') X.h s
section
variable {X:Cx}{pos:Pos}
def vY(i:Nat):TG:=λv σ H Q=>Q (σ.set i (some v)) H
def Z5(S:X.N.Nodup)(hi:X.N[i]?=some x)(hx:Loc X.a.scope x)(R:X.n x=true\/X.a.scope.names.lookup x=some .local:=by first|exact .inl rfl|exact .inr rfl|assumption):PG X (.Name x pos) (vY i):=by intro pins s σ H v u Q I r h;exact wpAny_assign_Name (x8 I S hi hx r (λs' U=>⟨_,H,U,h⟩) R)
def Us:TGs:=λvs σ H Q=>vs=[]/\Q σ H
def Y6(t:TG)(u:TGs):TGs:=λvs σ H Q=>∃v r,vs=v::r/\t v σ H λN H'=>u r N H' Q
def Z6:PGs X [] Us:=by intro pins s σ H vs us Q I r h;obtain⟨e,h⟩:=h;subst e;cases r;exact GO ⟨σ,H,I,h⟩
def bD{e:Expr}{es:List Expr}{t:TG}{u:TGs}(Y:PG X e t)(W:PGs X es u)
 (hs:(DE (e::es) X.a).map (·.2)=assign e X.a::(DE es X.a).map (·.2):=by rfl):PGs X (e::es) (Y6 t u):=by
 intro pins s σ H vs us Q I r h;obtain⟨v,vr,Z,h⟩:=h;subst Z;cases r with
 |cons r S=>
  rw[hs];refine Dj (thn (Y pins s σ H _ _ _ I r h) λ_ s1 R=>?_);obtain⟨N,H1,I1,U⟩:=R;exact W pins s1 N H1 _ _ Q I1 S U
def Uu(K:AG)(n:Nat)(t:TGs):TG:=λv σ H Q=>∃a xs,v=.c a/\SqT K H a xs/\xs.length=n/\t xs σ H Q
def oX(Z:X.g=true)(h:PGs X es t)
 (W:(DE es X.a).length=n:=by rfl) (N:(DE es X.a).findIdx? (·.1)=none:=by rfl):PG X (.Tuple es k pos) (Uu X.K n t):=by
 intro pins s σ H v u Q I r hw;obtain⟨a,xs,e1,U,Y,hw⟩:=hw;subst e1;cases r;obtain⟨its,R,S,hz⟩:=I.tuple U;refine assign_Tuple_tuple (I.y.d Z) S (by simp[W,<-Y,R.length]) N λh' hx=>?_
 have I1:Inv X pins σ H {s with heap:=h'}:=I.kept (t':=s.toks) λb o e=>hx b o (AD (Am e)) e
 exact h pins _ σ H xs _ Q I1 (by simpa using R) hw
def Ut(to N:TE)(t:Xk):TG:=λv σ H Q=>to σ H λo H1=>N σ H1 λi H2=>t o i v H2 λR=>Q σ R
def Vi(ho:PE X o to)(hi:PE X i ti)(hs:UX X t)
 (ha:∀v,assign (.Subscript o i pos) X.a v=(do
  let N <-holding [v] (eval o X.a);let S <-holding [v,N] (eval i X.a)
  standAt pos
  holding [v,N,S] (setItem N S v)
  release [v,N,S] []):=by intro _;rfl):PG X (.Subscript o i pos) (Ut to ti t):=by
 intro pins s σ H v u Q I r h;rw[ha];refine dm (Bo (thn (ho pins s σ H _ I h) λN s1 R=>?_));obtain⟨x,H1,I1,W,q1⟩:=R;refine dm (Bo (thn (hi pins s1 σ H1 _ I1 q1) λS s2 R=>?_));obtain⟨y,H2,I2,U,Z⟩:=R;refine dm (BL (dm (Bo (thn (hs pins s2 σ H2 x y v N S u _ I2 W U r Z) λ_ s3 R=>?_))));obtain⟨H3,I3,Y⟩:=R;exact wpAny_release ⟨σ,H3,I3,Y⟩
def qX(te:TE)(g:TG):TS:=λD σ H=>te σ H λx H1=>g x σ H1 D.a
def kP(he:PE X e te)(U:PG X tg g)(hs:Fs [tg] e pos.line X.a=pure false:=by rfl)(hw:Cq [tg] e X.a=pure none:=by rfl)
 (W:(DE [tg] X.a).map (·.2)=[assign tg X.a]:=by rfl):PS X (.Assign [tg] e pos) (qX te g):=by
 intro pins s σ H D I h;refine wpAny_Assign_stores (thn (he pins s σ H _ I h) λv s1 N=>?_) hs hw;obtain⟨x,H1,I1,R,S⟩:=N;rw[W];exact thn (U pins s1 σ H1 x v _ I1 R S) λ_ s2 q=>q
def kQ(Y:X.N.Nodup)(hi:X.N[i]?=some x)(hx:Loc X.a.scope x)(he:PE X e te)(hs:FF e (some (.Name x pos')) pos.line X.a=pure false:=by rfl)(W:X.n x=true\/X.a.scope.names.lookup x=some .local:=by first|exact .inl rfl|exact .inr rfl|assumption) :
 PS X (.Assign [.Name x pos'] e pos) (qX te (vY i)):=by
 intro pins s σ H D I h;refine wpAny_Assign_Name (thn (he pins s σ H _ I h) λv s1 R=>?_) hs;obtain⟨y,H1,I1,S,U⟩:=R;exact x8 I1 Y hi hx S (λs2 I2=>⟨_,H1,I2,U⟩) W
def Sx(i j:Nat)(ta:TA):TS:=λD σ H=>ta σ H λvs H1=>∃v w,vs=[v,w]/\D.a ((σ.set i (some v)).set j (some w)) H1
def Vl{kt k2 pt2}(hc:X.g=true)(hN:X.N.Nodup)(hi:X.N[i]?=some x)(hj:X.N[j]?=some y)(Z:i≠j)
 (hx:X.a.scope.names.lookup x=some .local) (hy:X.a.scope.names.lookup y=some .local) (ha:PA X [a,b] ta)
 (hw:Cq [.Tuple [.Name x px,.Name y py] kt pt] (.Tuple [a,b] k2 pt2) X.a=pure (some [x,y]))
 (hs:Fs [.Tuple [.Name x px,.Name y py] kt pt] (.Tuple [a,b] k2 pt2) pos.line X.a=pure false:=by rfl) :
 PS X (.Assign [.Tuple [.Name x px,.Name y py] kt pt] (.Tuple [a,b] k2 pt2) pos) (Sx i j ta):=by
 intro pins s σ H D I h;rw[exec_Assign_arm];refine dm (BL ?_);rw[hs];refine dm (xd ?_);rw[if_neg (by decide)]
 refine dm (Tuple_ (thn (ha _ pins s σ H _ I h) λus s1 zn=>?_));obtain⟨vs,H1,I1,r1,W⟩:=zn;obtain⟨v,w,e1,W⟩:=W;subst e1;obtain⟨S,R,rfl,rv,U⟩:∃S R,us=[S,R]/\RelV v S/\RelV w R:=by
  cases r1 with
  |cons p q=>
   cases q with
   |cons p' q'=>
    cases q';exact⟨_,_,rfl,p,p'⟩
 refine A4 ?_ (by show 2<=AI;decide)
 have I2:Inv X pins σ H1 {s1 with heap:=s1.heap.push {cls:=.type "tuple",data:=.seq [S,R].toArray}}:=I1.kept (t':=s1.toks) λb o e=>zO _ e
 rw[hw];refine dm (xd ?_);show wpAny (model X.f X.w) X.A (do rule "assign.swapped-stores";let items <-unpackItems (.ref s1.heap.objs.size) 2 none;Fq [λv=>Es X.a y v,λv=>Es X.a x v] items.reverse;pure Iv) _ _ _
 refine dm (BE (dm (unpackItems_tuple (items:=#[S,R]) (I.y.d hc) (IsTup.new s1.heap _) λh' Y=>?_)));have I3:=I2.kept (h':=h') (t':=s1.toks) λb o e=>Y b o (AD (Am e)) e;show wpAny _ _ (Fq [λv=>Es X.a y v,λv=>Es X.a x v] [R,S] >>= λ_=>pure Iv) _ _ _;refine dm (Dj (E9 (x8 I3 hN hj (.inl hy) U (λs2 I4=>?_) (.inr hy))));refine Dj (E9 (x8 I4 hN hi (.inl hx) rv (λs3 I5=>GO (xd ?_)) (.inr hx)));rw[Gy _ _ (BJ Z)]at I5;exact⟨_,H1,I5,W⟩
end
structure It where
 c:Nat->Hp->Prop
 b:Nat->Hp->V->Hp->Prop
 a:Nat->Hp->Prop
def wB(X:Cx)(pins:List (Addr × Obj))(H:Hp)(b:Addr):Prop:=
 H b=none/\b≠X.a.locals/\b ∉ X.fs/\(b∈X.m\/X.l.heap.objs.size<=b)/\(∀x c,X.a.cells.lookup x=some c->c≠b)/\∀p∈X.q++pins,p.1≠b
def Inv.az(I:Inv X pins σ H s)(N:s.heap.objs.size<=b)(R:H' b=none):wB X pins H' b:=by
 refine⟨R,Dk (AJ I.lt N),I.RZ N,.inr (Ao I.sz N),λx c e z=>?_,λp hp z=>?_⟩
 . obtain⟨v,q⟩:=I.F x c e
   exact absurd (AJ q.lt (by rw[z];exact N)) (BR _)
 . exact absurd (AJ (Am (I.M p hp).1) (by rw[z];exact N)) (BR _)
structure Turn(P:Program)(w:World)(K:AG)(tg:Expr)(J:It)(fp:List Addr)(it:Addr)(tn:Nat->Heap->Prop):Prop where
 g:it∈fp
 c:∀i h,tn i h->∀b∈fp,∃o,h.get? b=some o/\∀v,o.data≠.cell v
 a:∀i h h',tn i h->(∀b∈fp,∀o,h.get? b=some o->h'.get? b=some o)->tn i h'
 f:∀(X:Cx),X.f=P->X.w=w->X.K=K->X.g=true->∀(i:Nat) (pins:List (Addr × Obj)) (s:Shared) (σ:St) (H:Hp) (E:Value->Shared->Prop),Inv X pins σ H s->(∀b∈fp,wB X pins H b)->tn i s.heap->J.c i H ->
  wpAny (model P w) X.A (pyNext (.ref it)) (λr s1=>∃u,r=some u /\
   wpAny (model P w) X.A (Bj tg (.ref it) u) (λ_ s2=>∃x H',Inv X pins σ H' s2/\RelV x u/\J.b i H x H'/\tn (i+1) s2.heap/\∀b∈fp,H' b=none) E s1) E s
 e:∀(X:Cx),X.f=P->X.w=w->X.K=K->X.g=true->∀(i:Nat) (pins:List (Addr × Obj)) (s:Shared) (σ:St) (H:Hp) (E:Value->Shared->Prop),Inv X pins σ H s->(∀b∈fp,wB X pins H b)->tn i s.heap->J.a i H ->
  wpAny (model P w) X.A (pyNext (.ref it)) (λr s1=>r=none/\Inv X pins σ H s1) E s
 d:∀(A:Around) (i:Nat) (s:Shared) (Q:Value->Shared->Prop) (E:Value->Shared->Prop),tn i s.heap->Q (.ref it) s->wpAny (model P w) A (pyIter (.ref it)) Q E s
abbrev TI:=St->Hp->(It->Hp->Prop)->Prop
def PIE(X:Cx)(pins:List (Addr × Obj))(σ:St)(tg:Expr)(R:It->Hp->Prop)(N:Value)(s2:Shared):Prop:=
 ∃(it:Addr) (fp:List Addr) (tn:Nat->Heap->Prop) (J:It) (H':Hp),N=.ref it/\Inv X pins σ H' s2/\Turn X.f X.w X.K tg J fp it tn/\tn 0 s2.heap/\(∀b∈fp,wB X pins H' b)/\R J H'
def PI(X:Cx)(tg iter:Expr)(wi:TI):Prop:=
 ∀(pins:List (Addr × Obj)) (s:Shared) (σ:St) (H:Hp) (R:It->Hp->Prop),Inv X pins σ H s->wi σ H R ->
  wpAny (model X.f X.w) X.A (eval iter X.a) (λv s1=>wpAny (model X.f X.w) X.A (pyIter v) (PIE X pins σ tg R) X.h s1) X.h s
def dA(R:s.heap.get? it=some o)(U:o.cls=.type n)(hd:o.data=.fields vs)
 (S:["enumerate","zip","dict_itemiterator","dict_reverseitemiterator","odict_iterator","itertools.zip_longest","itertools.pairwise"].contains n=false) (N:Q () s):wpAny M A (Bj tg (.ref it) u) Q E s:=by
 unfold Bj;cases tg<;>first
  |exact xd N
  |(cases u<;>first
   |exact xd N
   |(refine dm (wpAny_load R ?_)
     rw[U,hd];show wpAny M A (if (["enumerate","zip","dict_itemiterator","dict_reverseitemiterator","odict_iterator","itertools.zip_longest","itertools.pairwise"].contains n&&vs[0]? == some (rawInt _))=true then _ else _) Q E s
     rw[if_neg (by intro h;rw[S,Ei]at h;cases h)]
     exact xd N))
noncomputable def Itl(K:AG)(a:Addr):It:=
 ⟨λi H=>∃xs x,SqL K H a xs/\xs[i]?=some x,λi H x H'=>H'=H/\∀xs,SqL K H a xs->xs[i]?=some x,λi H=>∃xs,SqL K H a xs/\xs.length<=i⟩
noncomputable def Itt(K:AG)(a:Addr):It:=
 ⟨λi H=>∃xs x,SqT K H a xs/\xs[i]?=some x,λi H x H'=>H'=H/\∀xs,SqT K H a xs->xs[i]?=some x,λi H=>∃xs,SqT K H a xs/\xs.length<=i⟩
noncomputable def Itr(lo:Int)(n:Nat):It:=⟨λi _=>i<n,λi H x H'=>H'=H/\x=.d (lo+i),λi _=>n<=i⟩
def fT{K}a it:Turn P w K tg (Itl K a) [it] it (λi h=>h.IsListIter it a i) where
 g:=by simp
 c:=λi h st b N=>by
  have e:b=it:=by simpa using N
  subst e;obtain⟨o,e,c,d⟩:=st;exact⟨o,e,λv z=>by rw[d]at z;cases z⟩
 a:=λi h h' st k=>st.at λo e=>k it (by simp) o e
 f:=by
  intro X Y hw Z hc i pins s σ H E I S st W;subst Y hw Z;obtain⟨xs,x,R,hx⟩:=W;obtain⟨its,U,p,hz⟩:=I.list R;obtain⟨u,hu,ru⟩:=U.get hx;obtain⟨f0,f1,f2,f3,f4,f5⟩:=S it (by simp)
  refine wpAny_pyNext_list_item st p.isList (x:=u) (by simpa using hu) λh' st' sb=>?_
  have I1:Inv X pins σ H {s with heap:=h'}:=I.turned (t':=s.toks) (λb o N e=>(sb.2 b N).trans e) f0 f1 f3 f4 f5
  obtain⟨o,e,c,d⟩:=id st';exact⟨u,rfl,dA (s:={s with heap:=h'}) e c d (by decide) ⟨x,H,I1,ru,⟨rfl,λys hy=>by rw[I.n5 hy R];exact hx⟩,st',λb N=>(S b N).1⟩⟩
 e:=by
  intro X Y hw Z hc i pins s σ H E I S st W;subst Y hw Z;obtain⟨xs,R,hx⟩:=W;obtain⟨its,U,p,hz⟩:=I.list R;obtain⟨f0,f1,f2,f3,f4,f5⟩:=S it (by simp)
  have hl:=U.length;exact wpAny_pyNext_list_end (I.y.d hc) st p.isList (by simp;omega) λh' eb=>⟨rfl,I.turned (t':=s.toks) (λb o N e=>eb b o N e) f0 f1 f3 f4 f5⟩
 d:=λ_ _ _ _ _ st h=>wpAny_pyIter_listiter st h
def k6{K}a it:Turn P w K tg (Itt K a) [it] it (λi h=>h.IsTupleIter it a i) where
 g:=by simp
 c:=λi h st b R=>by
  have e:b=it:=by simpa using R
  subst e;refine byG λS N=>?_;obtain⟨o,e,c,d⟩:=st;refine N ?_;exact⟨o,e,λv z=>by rw[d]at z;cases z⟩
 a:=λi h h' st k=>st.at λo e=>k it (by simp) o e
 f:=by
  intro X hP hw hK hc i pins s σ H E I W st Z;subst hP hw hK;refine byG λS N=>?_;obtain⟨xs,x,U,hx⟩:=Z;refine N ?_;refine byG λS N=>?_;obtain⟨its,Y,p,hz⟩:=I.tuple U;refine N ?_;obtain⟨u,hu,ru⟩:=Y.get hx;refine byG λS N=>?_;obtain⟨f0,f1,f2,f3,f4,f5⟩:=W it (by simp)
  refine N ?_;refine wpAny_pyNext_tuple_item st (show s.heap.IsTuple a its.toArray from p) (x:=u) (by simpa using hu) λh' st' sb=>?_
  have I1:Inv X pins σ H {s with heap:=h'}:=I.turned (t':=s.toks) (λb o R e=>(sb.2 b R).trans e) f0 f1 f3 f4 f5
  refine byG λS N=>?_;obtain⟨o,e,c,d⟩:=id st';refine N ?_;exact⟨u,rfl,dA (s:={s with heap:=h'}) e c d (by decide) ⟨x,H,I1,ru,⟨rfl,λys hy=>by rw[I.pL hy U];exact hx⟩,st',λb R=>(W b R).1⟩⟩
 e:=by
  intro X hP hw hK hc i pins s σ H E I W st Z;subst hP hw hK;obtain⟨xs,U,hx⟩:=Z;refine byG λS N=>?_;obtain⟨its,Y,p,hz⟩:=I.tuple U;refine N ?_;refine byG λS N=>?_;obtain⟨f0,f1,f2,f3,f4,f5⟩:=W it (by simp)
  refine N ?_;have hl:=Y.length;exact wpAny_pyNext_tuple_end (I.y.d hc) st (show s.heap.IsTuple a its.toArray from p) (by simp;omega) λh' eb=>⟨rfl,I.turned (t':=s.toks) (λb o R e=>eb b o R e) f0 f1 f3 f4 f5⟩
 d:=λ_ _ _ _ _ st h=>wpAny_pyIter_tupleiter st h
def ky{K}it lo n:Turn P w K tg (Itr lo n) [it] it (λi h=>IsRangeIter h it (lo+(i:Nat)*1) ((n:Int)-(i:Nat)) 1) where
 g:=by simp
 c:=λi h st b N=>by
  have e:b=it:=by simpa using N
  subst e;exact⟨_,st,λv z=>by have z':HN _=Data.cell v:=z;cases z'⟩
 a:=λi h h' st k=>k it (by simp) _ st
 f:=by
  intro X Z hw hK Y i pins s σ H E I S st U;subst Z hw hK;refine byG λpi R=>?_;obtain⟨f0,f1,f2,f3,f4,f5⟩:=S it (by simp)
  refine R ?_;have W:=Walks.range (prog:=X.f) (w:=X.w) (I.y.d Y) it lo 1 n;refine W.item i s _ _ U st λv h' tk hv st' kk=>?_;obtain⟨t,rfl⟩:=hv;have I1:Inv X pins σ H {s with heap:=h',toks:=tk}:=I.turned (λb o N e=>kk b o (by simpa using N) e) f0 f1 f3 f4 f5
  refine⟨_,rfl,dA (s:={s with heap:=h',toks:=tk}) (n:="range_iterator") st' rfl rfl (by decide) ⟨.d (lo+i),H,I1,⟨t,?_⟩,⟨rfl,rfl⟩,st',λb N=>(S b N).1⟩⟩
  rw[Int.mul_one]
 e:=by
  intro X Z hw hK Y i pins s σ H E I S st U;subst Z hw hK;refine byG λpi R=>?_;obtain⟨f0,f1,f2,f3,f4,f5⟩:=S it (by simp)
  refine R ?_;exact wpAny_pyNext_range_end (I.y.d Y) st (by have:n<=i:=U;omega) λh' eb=>⟨rfl,I.turned (t':=s.toks) (λb o N e=>eb b o N e) f0 f1 f3 f4 f5⟩
 d:=λ_ _ _ _ _ st h=>wpAny_pyIter_rangeiter st h
section
variable {X:Cx}{tg:Expr}
def Uy(K:AG)(tl:TE):TI:=λσ H R=>tl σ H λx H1=>∃a,x=.c a/\(∃xs,SqL K H1 a xs)/\R (Itl K a) H1
def RR(K:AG)(tl:TE):TI:=λσ H R=>tl σ H λx H1=>∃a,x=.c a/\(∃xs,SqT K H1 a xs)/\R (Itt K a) H1
def iO(Y:PE X l tl):PI X tg l (Uy X.K tl):=by
 intro pins s σ H R I h;refine thn (Y pins s σ H _ I h) λv s1 N=>?_;obtain⟨x,H1,I1,S,U⟩:=N;obtain⟨a,e,⟨xs,W⟩,q⟩:=U;subst e;cases S;obtain⟨its,rv,p,hz⟩:=I1.list W;refine Ee p.isList ?_;refine⟨s1.heap.objs.size,[s1.heap.objs.size],_,_,H1,rfl,I1.kept (t':=s1.toks) λb o e=>zO _ e,fT a _,⟨_,Az _ rfl,rfl,rfl⟩,λb Z=>?_,q⟩;have e:b=s1.heap.objs.size:=by simpa using Z
 subst e;exact I1.az (Ab _) (I1.j.fresh (Ab _))
def bE(Y:PE X l tl):PI X tg l (RR X.K tl):=by
 intro pins s σ H R I h;refine thn (Y pins s σ H _ I h) λv s1 N=>?_;obtain⟨x,H1,I1,S,U⟩:=N;obtain⟨a,e,⟨xs,W⟩,q⟩:=U;subst e;cases S;obtain⟨its,rv,p,hz⟩:=I1.tuple W;refine Dl (show s1.heap.IsTuple a its.toArray from p) ?_;refine⟨s1.heap.objs.size,[s1.heap.objs.size],_,_,H1,rfl,I1.kept (t':=s1.toks) λb o e=>zO _ e,k6 a _,⟨_,Az _ rfl,rfl,rfl⟩,λb Z=>?_,q⟩;have e:b=s1.heap.objs.size:=by simpa using Z
 subst e;exact I1.az (Ab _) (I1.j.fresh (Ab _))
def me{lo hi}(I:Inv X pins σ H s)(Y:-(2 ^ 62)<=lo)(W:lo<2 ^ 62)(U:-(2 ^ 62)<=hi)(S:hi<2 ^ 62)
 (q:R (Itr lo (hi-lo).toNat) H):wpAny (model X.f X.w) X.A (pyIter (.ref s.heap.objs.size)) (PIE X pins σ tg R) E {s with heap:=s.heap.push {cls:=.type "range",data:=.fields #[.int lo t,.int hi u,.int 1 v]},toks:=tk}:=by
 refine wpAny_pyIter_range (IsRange.new ..) (small_one Y W U S) ?_;have I1:Inv X pins σ H {s with heap:=s.heap.push {cls:=.type "range",data:=.fields #[.int lo t,.int hi u,.int 1 v]},toks:=tk}:=I.kept λb o e=>zO _ e
 refine⟨(s.heap.push {cls:=.type "range",data:=.fields #[.int lo t,.int hi u,.int 1 v]}).objs.size,[(s.heap.push {cls:=.type "range",data:=.fields #[.int lo t,.int hi u,.int 1 v]}).objs.size],_,_,H,rfl,
  I1.kept (t':=tk) λb o e=>zO _ e,ky _ lo (hi-lo).toNat,?_,λb N=>?_,q⟩
 . have e1:lo+((0:Nat):Int)*1=lo:=by simp
   have Z:(((hi-lo).toNat:Nat):Int)-((0:Nat):Int)=A0 lo hi 1:=by rw[rangeSize_one];split<;>omega
   show IsRangeIter _ _ (lo+((0:Nat):Int)*1) ((((hi-lo).toNat:Nat):Int)-((0:Nat):Int)) 1;rw[e1,Z];exact Az _ rfl
 . have e:b=(s.heap.push {cls:=.type "range",data:=.fields #[.int lo t,.int hi u,.int 1 v]}).objs.size:=by simpa using N
   subst e;exact I1.az (Ab _) (I1.j.fresh (Ab _))
def Uz(ta:TA):TI:=λσ H R=>ta σ H λvs H1=>∃j:Int,vs=[.d j]∧-(2 ^ 62)<=j/\j<2 ^ 62/\R (Itr 0 j.toNat) H1
def U0(ta:TA):TI:=λσ H R=>ta σ H λvs H1=>∃i j:Int,vs=[.d i,.d j]/\(-(2 ^ 62)<=i/\i<2 ^ 62∧-(2 ^ 62)<=j/\j<2 ^ 62)/\R (Itr i (j-i).toNat) H1
def fB(hg:Gl X "range")(Z:X.d "range"=none)(ha:PA X [a] ta)(hs:A9 [a] X.a=[(false,eval a X.a)]:=by rfl):PI X tg (.Call (.Name "range" p) [a] [] pos) (Uz ta):=by
 intro pins s σ H R I h;refine Call_ (vb I hg Z boot_range (Ca (thn (ha pos pins s σ H _ I h) λus s1 S=>?_) hs rfl));obtain⟨vs,H1,I1,W,N⟩:=S;obtain⟨j,e,N,Y,q⟩:=N;subst e;cases W with
 |cons r U=>
  cases U;obtain⟨t,rfl⟩:=r;exact call_range_1 (me I1 ⋯ ⋯ N Y (by simpa using q))
def fC(hg:Gl X "range")(hm:X.d "range"=none)(ha:PA X [a,b] ta)(hs:A9 [a,b] X.a=[(false,eval a X.a),(false,eval b X.a)]:=by rfl)(N:A9 [b] X.a=[(false,eval b X.a)]:=by rfl) :
 PI X tg (.Call (.Name "range" p) [a,b] [] pos) (U0 ta):=by
 intro pins s σ H R I h;refine Call_ (vb I hg hm boot_range (Ca (thn (ha pos pins s σ H _ I h) λus s1 ⟨vs,H1,I1,r1,U⟩=>?_) (by rw[hs,N]) (by rw[N];rfl)))
 obtain⟨i,j,e,⟨U,q2,Z,Y⟩,q⟩:=U;subst e;cases r1 with
 |cons r S=>
  cases S with
  |cons W S=>
   cases S;obtain⟨t,rfl⟩:=r;obtain⟨t',rfl⟩:=W;exact call_range_2 (me I1 U q2 Z Y q)
def Rt(wi:TI)(g:TG)(tb:TS):TS:=λD σ H=>wi σ H λJ H1=>∃W:Nat->Nat->St->Hp->Prop,(∃m,W 0 m σ H1)/\∀i m σ H,W i m σ H ->
 (J.a i H/\D.a σ H)\/(J.c i H/\∃N:St->Hp->Prop,(∀R H',N R H'->∃U,U<m/\W (i+1) U R H')/\∀x H',J.b i H x H'->g x σ H' λS H2=>tb {D with a:=N,c:=N,b:=D.a} S H2)
noncomputable def tw(fp:List Addr)(h:Heap):List (Addr × Obj):=fp.filterMap λb=>(h.get? b).map λo=>(b,o)
def xB(N:b∈fp)(e:h.get? b=some o):(b,o)∈tw fp h:=DW.mpr ⟨b,N,by rw[e];rfl⟩
def gX(hp:p∈tw fp h):p.1∈fp/\h.get? p.1=some p.2:=by
 obtain⟨b,N,e⟩:=DW.mp hp;cases q:h.get? b with
 |none=>rw[q]at e;cases e
 |some o=>
  rw[q]at e;have R:(b,o)=p:=AH e;subst R;exact⟨N,q⟩
def Inv.pinned(I:Inv X pins σ H s)(U:∀b∈fp,wB X pins H b)(S:∀b∈fp,∃o,s.heap.get? b=some o/\∀v,o.data≠.cell v):Inv X (pins++tw fp s.heap) σ H s:=
 I.iQ λp hp=>(AO.mp hp).elim (λz=>I.M p (AX _ z)) λz=>by obtain⟨N,e⟩:=gX z;obtain⟨f0,W,f2,_⟩:=U p.1 N;obtain⟨o,R,d⟩:=S p.1 N;rw[e]at R;cases R;exact⟨e,f0,W,f2,d⟩
def Inv.vj(I:Inv X (pins++pl) σ H s):Inv X pins σ H s:=I.iQ λp hp=>I.M p (AX _ (Bg _ hp))
def Vk(hp:PassesOwn (model X.f X.w) X.A X.a X.h)(hc:X.g=true)(hi:PI X tg iter wi)(hg:PG X tg g)(Z:PSs X body tb)
 (hs:∀x,AN iter X.a x=pure x:=by intro _;rfl):PS X (.For tg iter body [] pos) (Rt wi g tb):=by
 intro pins s σ H D I h;refine wpAny_For (thn (hi pins s σ H _ I h) λv s1 h1=>thn h1 λitv s2 h2=>?_) hs;refine byG λpi gqa=>?_;obtain⟨it,fp,tn,J,H2,e,I2,T,st2,f2,W,⟨m0,w0⟩,turn⟩:=h2;refine gqa ?_;subst e
 -- what stays true of the iterator's objects through the loop
 have Y:∀{H':Hp},(∀b∈fp,H' b=none)->∀b∈fp,wB X pins H' b:=λhn b Z=>⟨hn b Z,(f2 b Z).2⟩;refine codeAny_forLoop_any (λn s'=>∃i U H',Inv X pins U H' s'/\tn i s'.heap/\(∀b∈fp,H' b=none)/\W i n U H') ?_ m0 ⟨0,σ,H2,I2,st2,λb Z=>(f2 b Z).1,w0⟩;rintro n s3 ⟨i,S,H3,I3,st3,fr3,w3⟩;rcases turn i n S H3 w3 with⟨stop,qn⟩|⟨go,N,hN,step⟩
 . refine EM hp (thn (T.e X rfl rfl rfl hc i pins s3 S H3 X.h I3 (Y fr3) st3 stop) λr s4 zn=>?_)
   obtain⟨hr,I4⟩:=zn;subst hr;exact wpAny_execs_nil ⟨S,H3,I4,qn⟩
 . refine EM hp (thn (T.f X rfl rfl rfl hc i pins s3 S H3 X.h I3 (Y fr3) st3 go) λr s4 zn=>?_)
   obtain⟨u,hr,h4⟩:=zn;subst hr;refine EM hp (thn h4 λ_ s5 zn=>?_);refine byG λpi gqa=>?_;obtain⟨x,H5,I5,r5,y5,st5,fr5⟩:=zn;refine gqa ?_;have I5':=I5.pinned (Y fr5) (T.c _ _ st5);refine EM hp (thn (hg _ s5 S H5 x u _ I5' r5 (step x H5 y5)) λ_ s6 zn=>?_);refine byG λpi gqa=>?_;obtain⟨σ6,H6,I6,q6⟩:=zn;refine gqa ?_;refine EM hp (thn (Z _ s6 σ6 H6 _ I6 q6) λf s7 q7=>?_);have again:∀{R:St} {H7:Hp},Inv X (pins++tw fp s5.heap) R H7 s7->N R H7->∃m,m<n/\∃i U H',Inv X pins U H' s7/\tn i s7.heap/\(∀b∈fp,H' b=none)/\W i m U H':=λ{R H7} I7 n7=>by obtain⟨m',hm,w7⟩:=hN R H7 n7;refine⟨m',hm,i+1,R,H7,I7.vj,T.a _ _ _ st5 λb Z o e=>(I7.M (b,o) (AX _ (AX _ (xB Z e)))).1,λb Z=>?_,w7⟩;obtain⟨o,e,d⟩:=T.c _ _ st5 b Z;exact(I7.M (b,o) (AX _ (AX _ (xB Z e)))).2.1
   cases f with
   |next=>obtain⟨R,H7,I7,n7⟩:=q7;exact again I7 n7
   |cont=>obtain⟨R,H7,I7,n7⟩:=q7;exact again I7 n7
   |brk=>obtain⟨R,H7,I7,q7⟩:=q7;exact⟨R,H7,I7.vj,q7⟩
   |ret v=>obtain⟨x7,R,H7,I7,r7,q7⟩:=q7;exact⟨x7,R,H7,I7.vj,r7,q7⟩
end
abbrev R2:=V->V->Hp->VK->Prop
def OpR(X:Cx)(f:Value->Value->Sem Value)(r:R2):Prop:=
 ∀(pins:List (Addr × Obj)) (s:Shared) (σ:St) (H:Hp) (x y:V) (v u:Value) (Q:VK),Inv X pins σ H s->RelV x v->RelV y u->r x y H Q ->
  wpAny (model X.f X.w) X.A (f v u) (EP X pins σ Q) X.h s
def UnR(X:Cx)(f:Value->Sem Value)(r:V->Hp->VK->Prop):Prop:=
 ∀(pins:List (Addr × Obj)) (s:Shared) (σ:St) (H:Hp) (x:V) (v:Value) (Q:VK),Inv X pins σ H s->RelV x v->r x H Q ->
  wpAny (model X.f X.w) X.A (f v) (EP X pins σ Q) X.h s
def yL(X:Cx)(f:Value)(r:List V->Hp->VK->Prop):Prop:=
 ∀(pins:List (Addr × Obj)) (s:Shared) (σ:St) (H:Hp) (xs:List V) (us:List Value) (Q:VK),Inv X pins σ H s->Vals xs us->r xs H Q ->
  wpAny (model X.f X.w) X.A (call f us) (EP X pins σ Q) X.h s
def RF(X:Cx)(r:V->Hp->(Bool->Hp->Prop)->Prop):Prop:=
 ∀(pins:List (Addr × Obj)) (s:Shared) (σ:St) (H:Hp) (x:V) (v:Value) (Q:Bool->Hp->Prop),Inv X pins σ H s->RelV x v->r x H Q ->
  wpAny (model X.f X.w) X.A (truthy v) (TP X pins σ Q) X.h s
def tOp(r:R2)(ta tb:TE):TE:=λσ H Q=>ta σ H λx H1=>tb σ H1 λy H2=>r x y H2 Q
def tUn(r:V->Hp->VK->Prop)(ta:TE):TE:=λσ H Q=>ta σ H λx H1=>r x H1 Q
def rI(C:Int->Int->Prop)(g:Int->Int->V):R2:=λx y H Q=>∃i j,x=.d i/\y=.d j/\C i j/\Q (g i j) H
def rI0(g:Int->Int->V):R2:=λx y H Q=>∃i j,x=.d i/\y=.d j/\Q (g i j) H
def rU(g:Int->V):V->Hp->VK->Prop:=λx H Q=>∃i,x=.d i/\Q (g i) H
section
variable {X:Cx}{a b c:Expr}{ta tb tc:TE}{pos:Pos}
def Xq(ha:PE X a ta)(hb:PE X b tb){R:V->V->Hp->Prop}(I:Inv X pins σ H s)
 (h:ta σ H λx H1=>tb σ H1 λy H2=>R x y H2)  {f:Value->Value->Sem Value}
 (hf:∀v u s2 x y H2,Inv X pins σ H2 s2->RelV x v->RelV y u->R x y H2->wpAny (model X.f X.w) X.A (f v u) Q X.h s2) :
 wpAny (model X.f X.w) X.A (eval a X.a) (λv S=>wpAny (model X.f X.w) X.A (eval b X.a) (λu N=>wpAny (model X.f X.w) X.A (f v u) Q X.h N) X.h S) X.h s:=by
 refine thn (ha pins s σ H _ I h) λv s1 U=>?_;obtain⟨x,H1,I1,Y,q1⟩:=U;refine thn (hb pins s1 σ H1 _ I1 q1) λu s2 U=>?_;obtain⟨y,H2,I2,W,Z⟩:=U;exact hf v u s2 x y H2 I2 Y W Z
def SF(S:OpR X (BZ op) r)(W:PE X a ta)(U:PE X b tb):PE X (.BinOp a op b pos) (tOp r ta tb):=by intro pins s σ H Q I h;exact wpAny_BinOp (Xq W U I h λv u s2 x y H2 I2 R N q=>S pins s2 σ H2 x y v u Q I2 R N q)
def SH(N:UnR X (unaryOp op) r)(R:PE X a ta):PE X (.UnaryOp op a pos) (tUn r ta):=by intro pins s σ H Q I h;exact UnaryOp_ (thn (R pins s σ H _ I h) λv s1 ⟨x,H1,I1,r1,q1⟩=>N pins s1 σ H1 x v Q I1 r1 q1)
def opI{f:Value->Value->Sem Value}{C:Int->Int->Prop}{g:Int->Int->Int}
 (N:∀i j t u (s:Shared) (Q:Value->Shared->Prop) E,C i j->Q (.int (g i j) s.toks) {s with toks:=s.toks+1}->wpAny (model X.f X.w) X.A (f (.int i t) (.int j u)) Q E s) :
 OpR X f (rI C λi j=>.d (g i j)):=by
 intro pins s σ H x y v u Q I S R h;obtain⟨i,j,rfl,rfl,U,q⟩:=h;obtain⟨t,rfl⟩:=S;obtain⟨t',rfl⟩:=R;exact N i j t t' s _ _ U ⟨.d (g i j),H,I.tok _,⟨_,rfl⟩,q⟩
def Ti{f:Value->Value->Sem Value}{g:Int->Int->Int}
 (N:∀i j t u (s:Shared) (Q:Value->Shared->Prop) E,Q (.int (g i j) s.toks) {s with toks:=s.toks+1}->wpAny (model X.f X.w) X.A (f (.int i t) (.int j u)) Q E s) :
 OpR X f (rI0 λi j=>.d (g i j)):=by
 intro pins s σ H x y v u Q I S R h;obtain⟨i,j,rfl,rfl,q⟩:=h;obtain⟨t,rfl⟩:=S;obtain⟨t',rfl⟩:=R;exact N i j t t' s _ _ ⟨.d (g i j),H,I.tok _,⟨_,rfl⟩,q⟩
def Zn{f:Value->Value->Sem Value}{g:Int->Int->Bool}
 (N:∀i j t u s (Q:Value->Shared->Prop) E,Q (.bool (g i j)) s->wpAny (model X.f X.w) X.A (f (.int i t) (.int j u)) Q E s) :
 OpR X f (rI0 λi j=>.e (g i j)):=by
 intro pins s σ H x y v u Q I S R h;obtain⟨i,j,rfl,rfl,q⟩:=h;obtain⟨t,rfl⟩:=S;obtain⟨t',rfl⟩:=R;exact N i j t t' s _ _ ⟨.e (g i j),H,I,rfl,q⟩
def UR(i j:Int):Prop:=0<j/\j<1073741824
def RB(i j:Int):Prop:=0<=j/\j<=1000000/\i.natAbs<2 ^ 64
def Xf(i j:Int):Prop:=(-(2 ^ 64)<i/\i<2 ^ 64)\/(-(2 ^ 64)<j/\j<2 ^ 64)
def Xf.ok(h:Xf i j):IntMulOk i j:=by
 rcases h with⟨R,N⟩|⟨R,N⟩
 . exact .of_left (intBits_le_64 R N)
 . exact .of_right (intBits_le_64 R N)
def VB:OpR X (BZ .Add) (rI0 λi j=>.d (i+j)):=Ti λ_ _ _ _ _ _ _ q=>add_int q
def VJ:OpR X (BZ .Sub) (rI0 λi j=>.d (i-j)):=Ti λ_ _ _ _ _ _ _ q=>sub_int q
def VG:OpR X (BZ .Mult) (rI Xf λi j=>.d (i*j)):=opI λ_ _ _ _ _ _ _ N q=>mul_int q N.ok
def Zp:OpR X (BZ .FloorDiv) (rI UR λi j=>.d (i/j)):=opI λi j _ _ _ _ _ N q=>by have S:(0:Int)<j:=N.1;have R:j<1073741824:=N.2;exact floordiv_int ⋯ (by rw[Gz i ⋯];exact q) (.inl (PyProof.noPylong_small ⋯))
def VF:OpR X (BZ .Mod) (rI (λ_ j=>0<j) λi j=>.d (i%j)):=opI λi j _ _ _ _ _ N q=>by have R:(0:Int)<j:=N;exact mod_int' ⋯ (by rw[GA i ⋯];exact q)
def VH:OpR X (BZ .Pow) (rI RB λi j=>.d (i ^ j.toNat)):=opI λ_ _ _ _ _ _ _ N q=>pow_int_small N.1 N.2.1 N.2.2 q
def unI{f:Value->Sem Value}{g:Int->Int}
 (N:∀i t (s:Shared) (Q:Value->Shared->Prop) E,Q (.int (g i) s.toks) {s with toks:=s.toks+1}->wpAny (model X.f X.w) X.A (f (.int i t)) Q E s) :
 UnR X f (rU λi=>.d (g i)):=by
 intro pins s σ H x v Q I R h;obtain⟨i,rfl,q⟩:=h;obtain⟨t,rfl⟩:=R;exact N i t s _ _ ⟨.d (g i),H,I.tok _,⟨_,rfl⟩,q⟩
def UI:UnR X (unaryOp .USub) (rU λi=>.d (-i)):=unI λ_ _ _ _ _ q=>neg_int q
end
noncomputable def Si:V->V->Bool
 |.g,.g=>true|.g,.d _=>true|.d _,.g=>true|.g,.e _=>true|.e _,.g=>true|.g,.f _=>true|.f _,.g=>true
 |.d _,.d _=>true|.e _,.e _=>true|.f _,.f _=>true|.h _,.h _=>true
 |.d _,.f _=>true|.f _,.d _=>true|.e _,.f _=>true|.f _,.e _=>true
 |_,_=>false
def rEq:R2:=λx y H Q=>Si x y=true/\Q (.e (decide (x=y))) H
def rNe:R2:=λx y H Q=>Si x y=true/\Q (.e (!decide (x=y))) H
def jW:decide (V.d i=V.d j)=(i == j):=by rw[BU];simp
def eG:decide (V.e i=V.e j)=(i == j):=by rw[BU];simp
def jX:decide (V.f i=V.f j)=(i == j):=by rw[BU];simp
def jV:decide (V.h i=V.h j)=(i.toList == j.toList):=by rw[BU];cases i;cases j;simp
section
variable {X:Cx}{a b c:Expr}{ta tb tc:TE}{pos:Pos}
def zd(I:Inv X pins σ H s)(q:Q (.e k) H)(e:k=k'):EP X pins σ Q (.bool k') s:=by subst e;exact⟨.e k,H,I,rfl,q⟩
def Tj:OpR X (Bp .Eq) rEq:=by
 intro pins s σ H x y v u Q I R N h;obtain⟨hs,q⟩:=h;cases x with
 |g=>
  cases R;cases y with
  |g=>cases N;exact PySem.EqNone.eq_none_none (zd I q (by simp))
  |e j=>cases N;exact PySem.EqNone.eq_none_bool (zd I q (by simp))
  |d j=>obtain⟨t',rfl⟩:=N;exact PySem.EqNone.eq_none_int (zd I q (by simp))
  |f j=>obtain⟨t',rfl⟩:=N;exact PySem.EqNone.eq_none_str (zd I q (by simp))
  |_=>exact absurd (show false=true from hs) Ag
 |e i=>
  cases R;cases y with
  |g=>cases N;exact PySem.EqNone.eq_bool_none (zd I q (by simp))
  |e j=>cases N;exact eq_bool (zd I q eG)
  |f j=>obtain⟨t',rfl⟩:=N;exact PySem.EqMixed.eq_bool_str (zd I q (by simp))
  |_=>exact absurd (show false=true from hs) Ag
 |d i=>
  obtain⟨t,rfl⟩:=R;cases y with
  |g=>cases N;exact PySem.EqNone.eq_int_none (zd I q (by simp))
  |d j=>obtain⟨t',rfl⟩:=N;exact eq_int (zd I q jW)
  |f j=>obtain⟨t',rfl⟩:=N;exact PySem.EqMixed.eq_int_str (zd I q (by simp))
  |_=>exact absurd (show false=true from hs) Ag
 |f i=>
  obtain⟨t,rfl⟩:=R;cases y with
  |g=>cases N;exact PySem.EqNone.eq_str_none (zd I q (by simp))
  |e j=>cases N;exact PySem.EqMixed.eq_str_bool (zd I q (by simp))
  |d j=>obtain⟨t',rfl⟩:=N;exact PySem.EqMixed.eq_str_int (zd I q (by simp))
  |f j=>obtain⟨t',rfl⟩:=N;exact eq_str (zd I q jX)
  |_=>exact absurd (show false=true from hs) Ag
 |h i=>
  obtain⟨t,rfl⟩:=R;cases y with
  |h j=>obtain⟨t',rfl⟩:=N;exact PySem.W.eq_bytes (zd I q jV)
  |_=>exact absurd (show false=true from hs) Ag
 |_=>cases y<;>exact absurd (show false=true from hs) Ag
def Tr:OpR X (Bp .NotEq) rNe:=by
 intro pins s σ H x y v u Q I R N h;obtain⟨hs,q⟩:=h;cases x with
 |g=>
  cases R;cases y with
  |g=>cases N;exact PySem.EqNone.ne_none_none (zd I q (by simp))
  |e j=>cases N;exact PySem.EqNone.ne_none_bool (zd I q (by simp))
  |d j=>obtain⟨t',rfl⟩:=N;exact PySem.EqNone.ne_none_int (zd I q (by simp))
  |f j=>obtain⟨t',rfl⟩:=N;exact PySem.EqNone.ne_none_str (zd I q (by simp))
  |_=>exact absurd (show false=true from hs) Ag
 |e i=>
  cases R;cases y with
  |g=>cases N;exact PySem.EqNone.ne_bool_none (zd I q (by simp))
  |e j=>cases N;exact ne_bool (zd I q (congrArg not eG))
  |f j=>obtain⟨t',rfl⟩:=N;exact PySem.EqMixed.ne_bool_str (zd I q (by simp))
  |_=>exact absurd (show false=true from hs) Ag
 |d i=>
  obtain⟨t,rfl⟩:=R;cases y with
  |g=>cases N;exact PySem.EqNone.ne_int_none (zd I q (by simp))
  |d j=>obtain⟨t',rfl⟩:=N;exact ne_int (zd I q (congrArg not jW))
  |f j=>obtain⟨t',rfl⟩:=N;exact PySem.EqMixed.ne_int_str (zd I q (by simp))
  |_=>exact absurd (show false=true from hs) Ag
 |f i=>
  obtain⟨t,rfl⟩:=R;cases y with
  |g=>cases N;exact PySem.EqNone.ne_str_none (zd I q (by simp))
  |e j=>cases N;exact PySem.EqMixed.ne_str_bool (zd I q (by simp))
  |d j=>obtain⟨t',rfl⟩:=N;exact PySem.EqMixed.ne_str_int (zd I q (by simp))
  |f j=>obtain⟨t',rfl⟩:=N;exact ne_str (zd I q (congrArg not jX))
  |_=>exact absurd (show false=true from hs) Ag
 |h i=>
  obtain⟨t,rfl⟩:=R;cases y with
  |h j=>obtain⟨t',rfl⟩:=N;exact PySem.W.ne_bytes (zd I q (congrArg not jV))
  |_=>exact absurd (show false=true from hs) Ag
 |_=>cases y<;>exact absurd (show false=true from hs) Ag
def Tq:OpR X (Bp .Lt) (rI0 λi j=>.e (decide (i<j))):=Zn λ_ _ _ _ _ _ _ q=>lt_int q
def Tp:OpR X (Bp .LtE) (rI0 λi j=>.e (decide (i<=j))):=Zn λ_ _ _ _ _ _ _ q=>le_int q
def To:OpR X (Bp .Gt) (rI0 λi j=>.e (decide (j<i))):=Zn λ_ _ _ _ _ _ _ q=>gt_int q
def Tn:OpR X (Bp .GtE) (rI0 λi j=>.e (decide (j<=i))):=Zn λ_ _ _ _ _ _ _ q=>ge_int q
def VE:OpR X (Bp .Is) (λx y H Q=>y=.g/\Q (.e (decide (x=.g))) H):=by
 intro pins s σ H x y v u Q I N R h;obtain⟨rfl,q⟩:=h;cases R;refine is_none_gen (zd I q ?_);cases x<;>first
  |(cases N;rfl)
  |(obtain⟨t,rfl⟩:=N;rfl)
def Zq:OpR X (Bp .IsNot) (λx y H Q=>y=.g/\Q (.e (!decide (x=.g))) H):=by
 intro pins s σ H x y v u Q I N R h;obtain⟨rfl,q⟩:=h;cases R;refine isnot_none_gen (zd I q ?_);cases x<;>first
  |(cases N;rfl)
  |(obtain⟨t,rfl⟩:=N;rfl)
def Z3(S:OpR X (Bp op) r)(Y:PE X a ta)(W:PE X b tb)(U:Il op b=false):PE X (.Compare a [op] [b] pos) (tOp r ta tb):=by intro pins s σ H Q I h;exact wpAny_Compare1 (Xq Y W I h λv u s2 x y H2 I2 R N q=>S pins s2 σ H2 x y v u Q I2 R N q) U
def XU(t:TE):TT:=λσ H Q=>t σ H λx H'=>∃k,x=.e k/\Q k H'
def YE(N:OpR X (Bp op) r)(U:PE X a ta)(S:PE X b tb)(R:Il op b=false):PT X (.Compare a [op] [b] pos) (XU (tOp r ta tb)):=by
 intro pins s σ H Q I h;refine wpAny_isTrue_Compare1 (thn (U pins s σ H _ I h) λv s1 ⟨x,H1,I1,r1,q1⟩=>thn (S pins s1 σ H1 _ I1 q1) λu s2 ⟨y,H2,I2,r2,q2⟩=>
  thn (N pins s2 σ H2 x y v u _ I2 r1 r2 q2) λc W ⟨z,H3,I3,r3,k,e,q3⟩=>?_) R
 subst e;cases r3;exact Cu ⟨H3,I3,q3⟩
def aA(r S:R2)(ta tb tc:TE):TE:=λσ H Q=>ta σ H λx H1=>tb σ H1 λy H2=>r x y H2 λz N=>∃k,z=.e k /\
 (if k=true then tc σ N λR U=>S y R U Q else Q (.e false) N)
def cu(W:OpR X (Bp op) r)(N:OpR X (Bp op') r')(ha:PE X a ta)(hb:PE X b tb)(Z:PE X c tc)
 (Y:Iw [op,op'] [b,c]=false:=by with_unfolding_all rfl):PE X (.Compare a [op,op'] [b,c] pos) (aA r r' ta tb tc):=by
 intro pins s σ H Q I h;refine Compare_chain (thn (ha pins s σ H _ I h) λv s1 ⟨x,H1,I1,r1,q1⟩=>chain_link (thn (hb pins s1 σ H1 _ I1 q1) λu s2 ⟨y,H2,I2,r2,q2⟩=>
  thn (W pins s2 σ H2 x y v u _ I2 r1 r2 q2) λd U ⟨z,H3,I3,r3,k,e,q3⟩=>?_)) Y
 subst e;cases r3;refine Cu ?_;cases k with
 |false=>exact ite_ff ⟨.e false,H3,I3,rfl,q3⟩
 |true=>exact ite_tt (chain_last (thn (Z pins U σ H3 _ I3 q3) λR S ⟨z',H4,I4,r4,q4⟩=>N pins S σ H4 y z' u R Q I4 r2 r4 q4))
def bN(ho:OpR X (Bp op) r)(N:OpR X (Bp op') r')(ha:PE X a ta)(hb:PE X b tb)(hc:PE X c tc)
 (hm:Iw [op,op'] [b,c]=false:=by with_unfolding_all rfl):PT X (.Compare a [op,op'] [b,c] pos) (XU (aA r r' ta tb tc)):=by
 intro pins s σ H Q I h;refine isTrue_chain (thn (ha pins s σ H _ I h) λv s1 ⟨x,H1,I1,r1,q1⟩=>test_link (thn (hb pins s1 σ H1 _ I1 q1) λu s2 ⟨y,H2,I2,r2,q2⟩=>
  thn (ho pins s2 σ H2 x y v u _ I2 r1 r2 q2) λd W ⟨z,H3,I3,r3,k,e,q3⟩=>?_)) hm
 subst e;cases r3;refine Cu ?_;cases k with
 |false=>
  obtain⟨k',e',q'⟩:=q3;cases e';exact ite_ff ⟨H3,I3,q'⟩
 |true=>
  refine ite_tt (test_last (thn (hc pins W σ H3 _ I3 q3) λS U ⟨z',H4,I4,r4,q4⟩=>thn (N pins U σ H4 y z' u S _ I4 r2 r4 q4) λd' s5 R=>?_));obtain⟨z2,H5,I5,Y,k2,e2,Z⟩:=R;subst e2;cases Y;exact Cu ⟨H5,I5,Z⟩
def aT(K:AG)(x:V)(H:Hp)(k:Bool):Prop:=
 match x with
 |.g=>k=false
 |.e b=>k=b
 |.d i=>k=(i != 0)
 |.f y=>y.length<=AI/\k=((y.length:Int) != 0)
 |.h y=>y.size<=AI/\k=((y.size:Int) != 0)
 |.c p=>(∃xs,SqL K H p xs/\k=!xs.isEmpty)\/(∃xs,SqT K H p xs/\k=!xs.isEmpty)\/∃N,H p=some (.j N)/\k=!N.isEmpty
 |_=>False
def lT(r:KV kvs vs):(!vs.isEmpty)=!kvs.isEmpty:=by
 cases r<;>rfl
def rT(r:Vals xs its):(!its.toArray.isEmpty)=!xs.isEmpty:=by
 cases r<;>simp
def uM:(AI:Nat)<2 ^ 63:=by rw[Bk];decide
def aH:RF X (λx H Q=>∃k,aT X.K x H k/\Q k H):=by
 intro pins s σ H x v Q I U h;obtain⟨k,e,q⟩:=h;have hl:=uM;have hs:AI=16777216:=Bk;cases x with
 |g=>
  cases U;have N:k=false:=e;subst N;exact truthy_none ⟨H,I,q⟩
 |e b=>
  cases U;have N:k=b:=e;subst N;exact Cu ⟨H,I,q⟩
 |d i=>
  obtain⟨t,rfl⟩:=U;have N:k=(i != 0):=e;subst N;exact PySem.P.truthy_int ⟨H,I,q⟩
 |f y=>
  obtain⟨t,rfl⟩:=U;obtain⟨hy,N⟩:y.length<=AI/\k=((y.length:Int) != 0):=e;subst N;exact PySem.P.truthy_str ⋯ ⟨H,I.tok _,q⟩
 |h y=>
  obtain⟨t,rfl⟩:=U;obtain⟨hy,N⟩:y.size<=AI/\k=((y.size:Int) != 0):=e;subst N;exact PySem.W.truthy_bytes ⋯ ⟨H,I.tok _,q⟩
 |c p=>
  cases U;have N:(∃xs,SqL X.K H p xs/\k=!xs.isEmpty)\/(∃xs,SqT X.K H p xs/\k=!xs.isEmpty)\/∃R,H p=some (.j R)/\k=!R.isEmpty:=e;rcases N with⟨xs,hx,N⟩|⟨xs,hx,N⟩|⟨R,hx,N⟩
  . subst N
    obtain⟨its,r,Y,Z⟩:=I.list hx;have S:=r.length;exact wpAny_truthy_list Y.isList (by simp only[Ae];omega) ⟨H,I.tok _,by rw[rT r];exact q⟩
  . subst N
    obtain⟨its,r,Y,Z⟩:=I.tuple hx;have S:=r.length;exact truthy_tuple Y (by simp only[Ae];omega) ⟨H,I.tok _,by rw[rT r];exact q⟩
  . subst N
    obtain⟨Z,hS,vs,r,m⟩:R.length<=AI/\(p == CN)=false/\∃vs,KV R vs/\s.heap.DictOf (oM X.f X.w) p vs:=I.j p _ hx;have S:R.length=vs.length:=Ik r;exact wpAny_truthy_dict hS m ⋯ ⟨H,I.tok _,by rw[lT r];exact q⟩
 |_=>exact(show False from e).elim
def bO(R:PE X a ta)(he:∀N,isTrue a X.a N=(do let v <-N;standAt a.pos;holding [v] (truthy v))) :
 PT X a (λσ H Q=>ta σ H λx H'=>∃k,aT X.K x H' k/\Q k H'):=by
 intro pins s σ H Q I h;exact isTrue_plain (thn (R pins s σ H _ I h) λv s1 ⟨x,H1,I1,r1,q1⟩=>aH pins s1 σ H1 x v Q I1 r1 q1) (he _)
def kA:OpR X (BZ .Add) (λx y H Q=>∃i j,x=.f i/\y=.f j/\i.length+j.length<=AI/\Q (.f (i++j)) H):=by intro pins s σ H x y v u Q I R N h;obtain⟨i,j,rfl,rfl,S,q⟩:=h;obtain⟨t,rfl⟩:=R;obtain⟨t',rfl⟩:=N;exact add_str (λt' tk=>⟨.f (i++j),H,I.tok _,⟨_,rfl⟩,q⟩) S
def vals1(r:Vals [x] us):∃u,us=[u]/\RelV x u:=by
 cases r with
 |cons R N=>cases N;exact⟨_,rfl,R⟩
def vals2(r:Vals [x,y] us):∃u N,us=[u,N]/\RelV x u/\RelV y N:=by
 cases r with
 |cons W U=>
  cases U with
  |cons S R=>cases R;exact⟨_,_,rfl,W,S⟩
def iu(N:X.g=true):yL X (.builtin "max") (λxs H Q=>∃i j,xs=[.d i,.d j]/\Q (.d (if j > i then j else i)) H):=by
 intro pins s σ H xs us Q I r h;obtain⟨i,j,rfl,q⟩:=h;obtain⟨u,R,rfl,⟨t,rfl⟩,⟨t',rfl⟩⟩:=vals2 r;refine max_two_ints (I.y.d N) λh' tk k=>⟨_,H,I.kept k,?_,q⟩;by_cases hj:j > i
 . rw[if_pos hj,if_pos hj];exact⟨_,rfl⟩
 . rw[if_neg hj,if_neg hj];exact⟨_,rfl⟩
def iz(N:X.g=true):yL X (.builtin "min") (λxs H Q=>∃i j,xs=[.d i,.d j]/\Q (.d (if j<i then j else i)) H):=by
 intro pins s σ H xs us Q I r h;obtain⟨i,j,rfl,q⟩:=h;obtain⟨u,R,rfl,⟨t,rfl⟩,⟨t',rfl⟩⟩:=vals2 r;refine min_two_ints (I.y.d N) λh' tk k=>⟨_,H,I.kept k,?_,q⟩;by_cases hj:j<i
 . rw[if_pos hj,if_pos hj];exact⟨_,rfl⟩
 . rw[if_neg hj,if_neg hj];exact⟨_,rfl⟩
def qi:yL X (.type "int") (λxs H Q=>(∃i,xs=[.d i]/\Q (.d i) H)\/∃k,xs=[.e k]/\Q (.d (if k then 1 else 0)) H):=by
 intro pins s σ H xs us Q I r h;rcases h with⟨i,rfl,q⟩|⟨k,rfl,q⟩
 . obtain⟨u,rfl,t,rfl⟩:=vals1 r
   exact call_int_int ⟨.d i,H,I,⟨_,rfl⟩,q⟩
 . obtain⟨u,rfl,N⟩:=vals1 r
   cases N;exact call_int_bool ⟨.d (if k then 1 else 0),H,I.tok _,⟨_,rfl⟩,q⟩
def vV:yL X (.builtin "divmod") (λxs H Q=>∃i j,xs=[.d i,.d j]/\UR i j/\∀p,H p=none->Q (.c p) (upd H p (.c [.d (i/j),.d (i%j)]))):=by
 intro pins s σ H xs us Q I r h;obtain⟨i,j,rfl,⟨U,S⟩,q⟩:=h;obtain⟨u,R,rfl,⟨t,rfl⟩,⟨t',rfl⟩⟩:=vals2 r;refine divmod_int ⋯ ?_ (.inl (PyProof.noPylong_small ⋯))
 rw[Gz i ⋯,GA i ⋯]
 have N:H s.heap.objs.size=none:=I.j.fresh (Ab _);refine⟨.c s.heap.objs.size,_,?_,rfl,q _ N⟩;refine I.laid (λb o e=>zO _ e) (Ab _) ⟨by simp only[Ak,B8];rw[Bk];decide,[.int (i/j) s.toks,.int (i%j) (s.toks+1)],.cons ⟨_,rfl⟩ (.cons ⟨_,rfl⟩ .nil),?_⟩
 exact⟨_,Az s.heap rfl,rfl,0,rfl,rfl⟩
end
structure Xh(h:Heap)(x dx C:Addr)(mA:Str->Option Value):Prop where
 a:h.get? x=some (HB C dx)
 ns:h.Ns1 dx mA
 ne:dx≠x
def gP{h:Heap}(n:h.Ns1 dx mA):∃od,h.get? dx=some od/\∀name,HS name od=some (mA name):=by
 obtain⟨o,es,ep,S,hd,hk,_,U⟩:=n;refine⟨o,S,λname=>?_⟩;have e:=U name;unfold nsFind findBy at e;rw[<-Array.find?_toList]at e;unfold HS;rw[hd];dsimp only;split
 . rename_i y q
   rw[q]at e;exact congrArg some e
 . rename_i q
   rw[q]at e;have a:es.toList.any (·.refKey)=false:=by rw[List.any_eq_false];intro y R;obtain⟨z,t,N⟩:=hk y (FP.mp R);simp[DictEntry.refKey,N]
   have W:¬es.toList.any (·.refKey)=true:=by rw[a];exact Ag
   rw[if_neg W];exact congrArg some e
def Xh.look(I:Xh h x dx C mA):∃od,PySem.W.InstAt h x (HB C dx) C (some od)/\∀name,HS name od=some (mA name):=
 let ⟨od,N,R⟩:=gP I.ns
 ⟨od,⟨I.a,rfl,rfl,N⟩,R⟩
def sT(N:HOk P w H h)(e:H a=some (.l C dx fs)):∃mA,Xh h a dx C mA/\(∀f,Xi (fs.lookup f) (mA f))/\PySem.Within mA (fs.map (·.1))/\fs.length<=1000/\H dx=some (.e a):=by obtain⟨d,z,ne,R,mA,n,r,q⟩:=(show z9 P w H h a (.l C dx fs) from N a _ e);exact⟨mA,⟨R,n,ne⟩,r,q,z,d⟩
structure Cls(K:AG)(C:Addr):Prop where
 pg:PySem.W.plainGet K C Str.empty=true
 hd:PySem.W.hasDictIn K C=true
 po:PySem.W.plainOver K C=true
 sa:PySem.W.findIn K (.ref C) "__setattr__"=some (some (.builtin "object.__setattr__"))
def Cls.get{K}(c:Cls K C)f:PySem.W.plainGet K C f=true:=c.pg
section
variable {X:Cx}{pins:List (Addr × Obj)}{σ:St}{H:Hp}{s:Shared}{A:Around}{E:Value->Shared->Prop}{Q:Value->Shared->Prop}{c:Value}{b:Bool}
inductive uW(K:AG)(H:Hp):V->Value->Prop where
 |d:uW K H .g (.type "NoneType")
 |bl (x:Bool):uW K H (.e x) (.type "bool")
 |c (i:Int):uW K H (.d i) (.type "int")
 |f (x:Str):uW K H (.f x) (.type "str")
 |h (x:UInt64):uW K H (.j x) (.type "float")
 |b {a:Addr} {xs:List V} (e:H a=some (.b xs)):uW K H (.c a) (.type "list")
 |j {a:Addr} {o:Obj} {xs:List V} (e:H a=some (.g o (.b xs))):uW K H (.c a) (.type "list")
 |g {a:Addr} {xs:List V} (e:H a=some (.c xs)):uW K H (.c a) (.type "tuple")
 |dK {a:Addr} {kvs:List (Key × V)} (e:H a=some (.j kvs)):uW K H (.c a) (.type "dict")
 |dT {a:Addr} {kvs:List (List Key × V)} (e:H a=some (.k kvs)):uW K H (.c a) (.type "dict")
 |k {a C dx:Addr} {fs:List (Str × V)} (e:H a=some (.l C dx fs)) (cl:Cls K C) (ha:PySem.W.findIn K (.ref C) "__class__"=some (some (.builtin "object.__class__")))
  (hn:PySem.W.specialIn K (.builtin "object.__class__") "__get__"=some (some (.builtin "getset_descriptor.__get__"))) (htk:PySem.W.takesIn K (.builtin "object.__class__")=some true)
  (hm:PySem.W.mroIn K C (.type "object")=some true):uW K H (.c a) (.ref C)
def gE(I:Inv X pins σ H s)(N:RelV x u)(ty:uW X.K H x t)(e:HU X.K t c=some b)(h:∀tk,Q (.bool b) {s with toks:=tk}) :
 wpAny (model X.f X.w) A (call (.builtin "isinstance") [u,c]) Q E s:=by
 cases ty with
 |d=>cases (show u=Ac from N);exact B9 PySem.W.kitx_none I.kIn By e (λz=>nomatch z) h
 |bl y=>cases (show u=DV y from N);exact B9 PySem.W.kitx_bool I.kIn By e (λz=>nomatch z) h
 |c i=>obtain⟨t,q⟩:=(show ∃t,u=Dh i t from N);cases q;exact B9 PySem.W.kitx_int I.kIn By e (λz=>nomatch z) h
 |f y=>obtain⟨t,q⟩:=(show ∃t,u=HA y t from N);cases q;exact B9 PySem.W.kitx_str I.kIn By e (λz=>nomatch z) h
 |h y=>obtain⟨t,q⟩:=(show ∃t,u=Value.float y t from N);cases q;exact B9 PySem.W.kitx_float I.kIn By e (λz=>nomatch z) h
 |@b a xs R=>
  cases (show u=Bb a from N);obtain⟨_,_,n,_,S⟩:=(show z9 X.f X.w H s.heap a (.b xs) from I.j a _ R);exact B9 PySem.W.kitx_list I.kIn ⟨_,S,rfl⟩ e (λz=>nomatch z) h
 |@j a ob xs R=>
  cases (show u=Bb a from N);obtain⟨_,_,_,n,_,S⟩:=(show z9 X.f X.w H s.heap a (.g ob (.b xs)) from I.j a _ R);exact B9 PySem.W.kitx_list I.kIn ⟨_,S,rfl⟩ e (λz=>nomatch z) h
 |@g a xs R=>
  cases (show u=Bb a from N);obtain⟨_,_,_,p⟩:=(show z9 X.f X.w H s.heap a (.c xs) from I.j a _ R);obtain⟨o,S,Y,_⟩:=p;exact B9 PySem.W.kitx_tuple I.kIn ⟨o,S,Y⟩ e (λz=>nomatch z) h
 |@dK a U R=>
  cases (show u=Bb a from N);obtain⟨_,_,vs,_,p⟩:=(show z9 X.f X.w H s.heap a (.j U) from I.j a _ R);obtain⟨o,es,ep,S,Y,_⟩:=p;exact B9 PySem.W.kitx_dict I.kIn ⟨o,S,Y.1⟩ e (λz=>nomatch z) h
 |@dT a U R=>
  cases (show u=Bb a from N);obtain⟨_,_,xs,_,o,es,ep,S,Y,_⟩:=(show z9 X.f X.w H s.heap a (.k U) from I.j a _ R);exact B9 PySem.W.kitx_dict I.kIn ⟨o,S,Y.1⟩ e (λz=>nomatch z) h
 |@k a C dx fs R cl ha hn Z hm=>
  cases (show u=Bb a from N);obtain⟨mA,O,_⟩:=sT I.j R;obtain⟨od,J,_⟩:=O.look;exact B9 (PySem.W.kitx_own (cl.get _) cl.hd ha hn Z hm) I.kIn J e (λz=>nomatch z) h
end
structure y6(k:Nat)(A:Around):Prop where
 hd:A.handled=none
 dp:A.depth+3*k+5<recursionLimit
 a:A.units+16*k+200<cLine
 gd:A.guards=some []
theorem y6.deeper(r:y6 (k+1) A)env:y6 k (A.deeper env):=
 ⟨r.hd,by have:=r.dp;show A.depth+1+3*k+5<_;omega,by have:=r.a;show A.units+3+16*k+200<_;omega,r.gd⟩
theorem y6.depth(r:y6 k A):A.depth<recursionLimit:=by have:=r.dp;omega
def YY:TA:=λ_ H Q=>Q [] H
def iY(ta:TE)(N:TA):TA:=λσ H Q=>ta σ H λx H1=>N σ H1 λxs H2=>Q (x::xs) H2
section
variable {X:Cx}{e:Expr}{es:List Expr}{te:TE}{t:TA}{pos:Pos}
def vH:PA X [] YY:=λ_ _ _ _ H Q I h=>Calls.spliced_nil ⟨[],H,I,.nil,h⟩
def Zz(W:PE X e te)(U:PA X es t)(hs:A9 (e::es) X.a=(false,eval e X.a)::A9 es X.a:=by rfl):PA X (e::es) (iY te t):=by intro pos pins s σ H Q I h;rw[hs];show wpAny _ _ (spliced ((false,eval e X.a)::backTo pos (A9 es X.a))) _ _ s;refine Calls.spliced_cons (thn (W pins s σ H _ I h) λu s1 N=>?_);obtain⟨x,H1,I1,R,S⟩:=N;exact thn (U pos pins s1 σ H1 _ I1 S) λus s2 ⟨xs,H2,I2,r2,q2⟩=>⟨x::xs,H2,I2,.cons R r2,q2⟩
def R0(t:TA):TE:=λσ H Q=>t σ H λxs H1=>xs.length<=AI/\∀p,H1 p=none->Q (.c p) (upd H1 p (.c xs))
def Rv(t:TA):TE:=λσ H Q=>t σ H λxs H1=>xs.length<=AI/\∀p,H1 p=none->Q (.c p) (upd H1 p (.b xs))
def Vg{x1}(h:PA X es t):PE X (.Tuple es x1 pos) (R0 t):=by
 intro pins s σ H Q I N;refine wpAny_Tuple_spliced (thn (h pos pins s σ H _ I N) λus s1 ⟨xs,H1,I1,r,z,q⟩=>⟨by rw[<-r.length];exact z,?_⟩)
 have R:H1 s1.heap.objs.size=none:=I1.j.fresh (Ab _);refine⟨.c s1.heap.objs.size,upd H1 s1.heap.objs.size (.c xs),I1.laid (t':=s1.toks) (λb u e=>zO _ e) (Ab _) ?_,rfl,q _ R⟩;exact⟨z,us,r,⟨_,Az _ rfl,rfl,_,rfl,rfl⟩⟩
def Vb(h:PA X es t):PE X (.List es pos) (Rv t):=by
 intro pins s σ H Q I N;refine wpAny_List_spliced (thn (h pos pins s σ H _ I N) λus s1 ⟨xs,H1,I1,r,z,q⟩=>⟨by rw[<-r.length];exact z,?_⟩)
 have R:H1 s1.heap.objs.size=none:=I1.j.fresh (Ab _);refine⟨.c s1.heap.objs.size,upd H1 s1.heap.objs.size (.b xs),I1.laid (t':=s1.toks) (λb u e=>zO _ e) (Ab _) ?_,rfl,q _ R⟩;exact⟨z,us,0,r,Az _ rfl⟩
end
abbrev Sp:=List V->Hp->VK->XK->Prop
abbrev CXT:=List Env->Hp->Shared->XK->Value->Shared->Prop
structure aS(P:Program)(w:World)(K:AG)(mg:Str->Option Value)(base:Heap)(A:Around)(outer:List Env)(s:Shared)(H:Hp):Prop where
 a:A.frames=some outer
 d:Mod K mg base
 f:∀b o,base.get? b=some o->s.heap.get? b=some o/\H b=none
 g:base.objs.size<=s.heap.objs.size
 rP:s.heap.FunFrames base outer
 h:∀b∈frs outer,H b=none
 c:HOk P w H s.heap
 e:AllBare s.gens
def CE(outer:List Env)(P:Program)(w:World)(H:Hp)(s:Shared)(Q:VK)(u:Value)(s':Shared):Prop:=
 ∃v H',s'.os=s.os/\AllBare s'.gens/\Un (frs outer) [] H H' s.heap s'.heap/\HOk P w H' s'.heap/\RelV v u/\Q v H'
def CR(CX:CXT)(outer:List Env)(P:Program)(w:World)(H:Hp)(s:Shared)(Q:VK)(E:XK)(r:Result)(s':Shared):Prop:=
 match r with
 |.ok (.ret u)=>CE outer P w H s Q u s'
 |.ok _=>False
 |.error e=>CX outer H s E e s'
structure sj(P:Program)(w:World)(K:AG)(mg:Str->Option Value)(base:Heap)(CX:CXT)(k:Nat)(f:Addr)(fd:Ea)(ps:List Str)(sp:Sp):Prop where
 b:∀vs H Q E,sp vs H Q E->vs.length=ps.length
 a:∀(A:Around) (outer:List Env) (s:Shared) (H:Hp) (args:Args) (us:List Value) (vs:List V) (Q:VK) (E:XK),y6 k A->aS P w K mg base A outer s H->BindsTo s fd args (ps.zip us)->Vals vs us->sp vs H Q E ->
  codeAny (model P w) A (.call (.ref f) args) (CR CX outer P w H s Q E) s
def sj.imp{K}(F:sj P w K mg base CX k f fd ps sp)
 (h:∀vs H Q E,sp' vs H Q E->sp vs H Q E):sj P w K mg base CX k f fd ps sp':=
 ⟨λvs H Q E q=>F.b vs H Q E (h _ _ _ _ q),λA outer s H args us vs Q E R he S N hs=>F.a A outer s H args us vs Q E R he S N (h _ _ _ _ hs)⟩
def Inv.RP(I:Inv X pins σ H s):aS X.f X.w X.K X.d X.i X.A X.j s H:=
 ⟨I.y.m,I.y.u,I.bs,Ao I.y.B I.sz,I.stack,I.iX,I.j,I.C⟩
def Inv.after(I:Inv X pins σ H s)(h:CE X.j X.f X.w H s Q u s'):EP X pins σ Q u s':=by obtain⟨v,H',os,bare,un,R,r,q⟩:=h;obtain⟨S,g,d,t,N⟩:=s';obtain rfl:N=s.os:=os;exact⟨v,H',I.call (h':=S) (g':=g) (d':=d) (t':=t) (ch:=[]) un R bare (λb z=>absurd z (by simp)),r,q⟩
def XR(sp:Sp)(N:List V)(E:XK)(t:TA):TE:=λσ H Q=>t σ H λvs H1=>sp (vs++N) H1 Q E
def Binds(K:AG)(fd:Ea)(ps:List Str)(ds:List Value):Prop:=
 ∀(s:Shared) (us:List Value),K.In s.heap->(us++ds).length=ps.length->BindsTo s fd ⟨us,[]⟩ (ps.zip (us++ds))
def Binds.all{K}(h:∀us:List Value,us.length=ps.length->bindArgs fd ⟨us,[]⟩=pure (ps.zip us)):Binds K fd ps []:=λs us _ N=>by rw[A1]at N ⊢;exact .of_eq (h us N)
def Passes(CX:CXT)(X:Cx)(E:XK):Prop:=∀(pins:List (Addr × Obj)) (σ:St) (H:Hp) (s:Shared) (e:Value) (s':Shared),Inv X pins σ H s->CX X.j H s E e s'->X.h e s'
def bb(F:sj X.f X.w X.K X.d X.i CX k f fd ps sp)(S:y6 k X.A)(W:Binds X.K fd ps ds)(hd:Vals dvs ds)(hx:Passes CX X E)
 (I:Inv X pins σ H s) (r:Vals vs us) (h:sp (vs++dvs) H Q E):wpAny (model X.f X.w) X.A (call (.ref f) us) (EP X pins σ Q) X.h s:=by
 have R:Vals (vs++dvs) (us++ds):=r.append hd;have U:(us++ds).length=ps.length:=by rw[<-R.length];exact F.b _ _ _ _ h
 refine wpAny_call (FQ (F.a X.A X.j s H ⟨us,[]⟩ (us++ds) (vs++dvs) Q E S I.RP (W s us I.kIn U) R h) λr s' N=>?_);cases r with
 |error e=>exact hx pins σ H s e s' I N
 |ok fl=>
  cases fl with
  |ret u=>exact I.after N
  |next=>exact De N
  |brk=>exact De N
  |cont=>exact De N
def Z2(F:sj X.f X.w X.K X.d X.i CX k f fd ps sp)(S:y6 k X.A)(Y:Gl X x)(U:X.d x=some (.ref f))(hk:C8 X.K (.ref f)=true)(Z:Binds X.K fd ps ds)(hd:Vals dvs ds)(hx:Passes CX X E)
 (ha:PA X (e::es) t) (R:(x == ("__debug__":Str))=false:=by decide) (he:A9 (e::es) X.a=(false,eval e X.a)::A9 es X.a:=by rfl) (N:(backTo pos (A9 es X.a)).any (·.1)=false:=by rfl) :
 PE X (.Call (.Name x p) (e::es) [] pos) (XR sp dvs E t):=by
 intro pins s σ H Q I h;refine DX (oF I Y U ?_ R);refine PySem.W.callWith_K (h₀:=X.i) I.y.u.c hk (thn (ha pos pins s σ H _ I h) λus s1 ⟨vs,H1,I1,r,q⟩=>⟨I1.kIn,?_⟩) he N;exact bb F S Z hd hx I1 r q
def cq(F:sj X.f X.w X.K X.d X.i CX k f fd ps sp)(R:y6 k X.A)(U:Gl X x)(S:X.d x=some (.ref f))(hk:C8 X.K (.ref f)=true)(Y:Binds X.K fd ps ds)(hd:Vals dvs ds)(hx:Passes CX X E)
 (N:(x == ("__debug__":Str))=false:=by decide):PE X (.Call (.Name x p) [] [] pos) (XR sp dvs E YY):=by
 intro pins s σ H Q I h;refine DX (oF I U S ?_ N);exact PySem.W.callWith_K0 I.kIn hk (bb (us:=[]) F R Y hd hx I .nil h)
structure sQ(N P:List Str)(sc:Scope):Prop where
 b:sc.kind=.function
 co:sc.isCoroutine=false
 f:sc.isGenerator=false
 d:N.Nodup
 a:N.take P.length=P
 e:∀x∈P,sc.names.lookup x=some .local\/sc.names.lookup x=some .cell
 c:∀y∈sc.names,y.2≠.free
theorem qh{kindOf}:∀{binds} {m},(∀v,(x,v) ∉ binds)->bindL kindOf binds m x=m x
 |[],_,_=>rfl
 |(n,v)::r,m,h=>by
  unfold bindL;rw[qh λw hw=>h w (Ay _ hw)];split
  . have:x≠n:=by rintro rfl;exact h v AE
    simp[this]
  . rfl
theorem qf{kindOf}:∀{binds} {m},(∀v,(x,v) ∉ binds)->bindC kindOf binds m x=m x
 |[],_,_=>rfl
 |(n,v)::r,m,h=>by
  unfold bindC;rw[qf λw hw=>h w (Ay _ hw)];split
  . rfl
  . have:x≠n:=by rintro rfl;exact h v AE
    simp[this]
theorem qg{kindOf}:∀{P:List Str} {vs} {i:Nat} {m},P.Nodup->P[i]?=some x->vs[i]?=some v->kindOf x=some .local ->
 bindL kindOf (P.zip vs) m x=some v
 |[],_,_,_,_,h,_,_=>by simp at h
 |_::_,[],_,_,_,_,h,_=>by simp at h
 |p::P,w::vs,0,m,nd,h1,h2,hk=>by
  simp at h1 h2;subst h1;subst h2;show bindL kindOf ((p,w)::P.zip vs) m p=_;unfold bindL;rw[qh λv N=>(Bc.mp nd).1 (HC N).1,if_pos hk];simp
 |p::P,w::vs,i+1,m,nd,h1,h2,hk=>by show bindL kindOf ((p,w)::P.zip vs) m x=_;unfold bindL;exact qg (i:=i) (Bc.mp nd).2 (by simpa using h1) (by simpa using h2) hk
theorem qe{kindOf}:∀{P:List Str} {vs} {i:Nat} {m},P.Nodup->P[i]?=some x->vs[i]?=some v->kindOf x≠some .local ->
 bindC kindOf (P.zip vs) m x=some v
 |[],_,_,_,_,h,_,_=>by simp at h
 |_::_,[],_,_,_,_,h,_=>by simp at h
 |p::P,w::vs,0,m,nd,h1,h2,hk=>by
  simp at h1 h2;subst h1;subst h2;show bindC kindOf ((p,w)::P.zip vs) m p=_;unfold bindC;rw[qf λv N=>(Bc.mp nd).1 (HC N).1,if_neg hk];simp
 |p::P,w::vs,i+1,m,nd,h1,h2,hk=>by show bindC kindOf ((p,w)::P.zip vs) m x=_;unfold bindC;exact qe (i:=i) (Bc.mp nd).2 (by simpa using h1) (by simpa using h2) hk
noncomputable def start(N:List Str)(vs:List V):St:=vs.map some++AR (N.length-vs.length) none
noncomputable def hG(CX:CXT)(P:Program)(w:World)(K:AG)(mg:Str->Option Value)(base:Heap)(N:List Str)(qual:Str)(scope:Scope)(f:Addr)(S:Value)(A:Around)(outer:List Env)(s:Shared)(H:Hp)(E:XK):Cx where
 f:=P
 w:=w
 K:=K
 d:=mg
 i:=base
 A:=A.deeper (envOfC qual scope s.heap.objs.size f S)
 N:=N
 l:=s
 r:=H
 a:=envOfC qual scope s.heap.objs.size f S
 k:=outer
 j:=envOfC qual scope s.heap.objs.size f S::outer
 m:=[]
 g:=true
 n:=λ_=>true
 q:=[]
 h:=λe s'=>wpAny (model P w) (A.deeper (envOfC qual scope s.heap.objs.size f S)) (leaving (envOfC qual scope s.heap.objs.size f S) e) (λ_ R=>CX outer H s E e R) (λU R=>CX outer H s E U R) s'
def nL{sc:Scope}(h:sc.names.lookup x=some .cell):∃c,(DK n sc.names []).lookup x=some c:=by have q:=PySem.W.cellsFrom_some sc.names n [] (.inl h);exact Option.isSome_iff_exists.mp q
def gD{K}
 (S:sQ N ps scope) (hd:A.handled=none) (e0:aS P w K mg base A outer s H) (hl:vs.length=ps.length) (r:Vals vs us)
 (x:InCallC s s.heap.objs.size (bindL (envOfC qual scope s.heap.objs.size f cd).kindOf (ps.zip us) λ_=>none) (DK (s.heap.objs.size+1) scope.names []) (bindC (envOfC qual scope s.heap.objs.size f cd).kindOf (ps.zip us) λ_=>none) s1) :
 Inv (hG CX P w K mg base N qual scope f cd A outer s H E) [] (start N vs) H s1:=by
 have hpl:ps.length<=N.length:=by have:=congrArg Gm S.a;rw[Bi]at this;omega
 obtain⟨Y,tk,rfl,hk⟩:=x.done;have U:∀b:Addr,b ∉ (hG CX P w K mg base N qual scope f cd A outer s H E).m:=λb z=>absurd (show b∈([]:List Addr) from z) (by simp)
 refine⟨⟨e0.d,S.b,rfl,rfl,Ab _,λy z c Y R=>?_,λy W=>?_,λy c _ h=>?_,λ_=>hd,Around.frames_deeper e0.a,.inr ⟨rfl,rfl⟩,λb z=>absurd z (U b),e0.f,e0.g,λb _ _=>U b,λb z=>absurd z (U b),e0.rP,e0.h⟩,
  rfl,e0.e,Un.kept hk,⟨_,x.toInCall.ns,λi y v Y R h3=>?_⟩,λy c h=>⟨_,x.cell y c h⟩,e0.c.fresh (Ab _),λy c h=>?_,λp hp=>absurd (show p∈([]:List (Addr × Obj)) from hp) (by simp),e0.c.kept hk,?_⟩
 . exact name_of_addr x.apart (C4 Y) (C4 R)
 . have W:scope.names.lookup y=some .cell\/scope.names.lookup y=some .free:=W
   rcases W with W|W
   . exact nL W
   . exact absurd rfl (S.c _ (C4 W))
 . exact EU (x.above y c (C4 h))
 . have hi:i<vs.length:=by
    unfold start at R;by_cases hi:i<vs.length
    . exact hi
    . rw[AU (by simpa using hi)]at R
      rw[Hu]at R;split at R<;>cases R
   have ha:vs[i]?=some v:=by
    unfold start at R;rw[AW (by simpa using hi),Aq]at R
    cases e:vs[i]? with
    |none=>rw[e]at R;cases R
    |some a=>rw[e]at R;cases R;rfl
   obtain⟨u,hu,Z⟩:=r.get ha;have hp:ps[i]?=some y:=by rw[<-S.a,BM ⋯];exact Y
   have X:ps.Nodup:=by rw[<-S.a];exact S.d.sublist (CY _ _)
   refine⟨u,Z,?_⟩;rcases S.e y (AA hp) with k|k
   . exact .inl ⟨k,qg X hp hu k⟩
   . obtain⟨c,e⟩:=nL (n:=s.heap.objs.size+1) k
     refine .inr ⟨.inl k,c,e,?_⟩;have q:=x.cell y c e;rw[qe X hp hu (by show scope.names.lookup y≠_;rw[k];decide)]at q
     exact q
 . exact e0.c.fresh (EU (x.above y c (C4 h)))
 . unfold start
   show _=N.length;rw[As,Aa,FG];omega
def Ur{K}{dV kV doc pm cdv ct oc}
    (lk:K.lookup f=some ⟨oc,od,.func (Cz name qual params body scope dV kV doc pm an cdv ct),osl⟩) (hcd:C7 K cdv qual=true) (S:sQ N ps scope)
 (len:∀vs H Q E,sp vs H Q E->vs.length=ps.length)
 (Y:∀A outer s H vs Q E,y6 k (A.deeper (envOfC qual scope s.heap.objs.size f cdv))->sp vs H Q E ->
  ∃t,PSs (hG CX P w K mg base N qual scope f cdv A outer s H E) body t/\t {a:=λ_ H'=>Q .g H',d:=Q} (start N vs) H) :
 sj P w K mg base CX (k+1) f (Cz name qual params body scope dV kV doc pm an cdv ct) ps sp:=by
 refine⟨len,λA outer s H args us vs Q E hr e0 hb r Z=>?_⟩;have hl:=len _ _ _ _ Z;have KX:K.In s.heap:=e0.d.c.keeps λb o e=>(e0.f b o e).1;have lim:s.heap.NoLimit:=e0.d.b.keeps λb o e=>(e0.f b o e).1;have X:∀y∈ps.zip us,scope.names.lookup y.1=some .local\/(scope.names.lookup y.1=some .cell/\((DK (s.heap.objs.size+1) scope.names []).lookup y.1).isSome=true):=λ⟨n,v⟩ hy=>by
  rcases S.e n (HC hy).1 with q|q
  . exact .inl q
  . exact .inr ⟨q,PySem.W.cellsFrom_some _ _ _ (.inl q)⟩
 refine codeAny_call_function hr.depth (KX _ _ lk) rfl S.co S.f rfl (PySem.W.codeRec_of KX hcd) (hb _ _ _ _ ?_);refine wpAny_newFunctionEnv_cells S.b X λenv he s1 x=>?_;subst he;refine⟨lim.keeps x.toInCall.keep,codeAny_func ?_⟩;obtain⟨t,ht,hq⟩:=Y A outer s H vs Q E (hr.deeper _) Z;have I:Inv (hG CX P w K mg base N qual scope f cdv A outer s H E) [] (start N vs) H s1:=gD S hr.hd e0 hl r x;refine Cj (ht [] s1 (start N vs) H _ I hq) (λfl s' hs=>?_) λe s' hs=>hs;have fin:∀{U:St} {H':Hp} {v:V} {u:Value},Inv (hG CX P w K mg base N qual scope f cdv A outer s H E) [] U H' s'->RelV v u->Q v H'->CE outer P w H s Q u s':=
  λ{U H' v u} J rv q=>⟨v,H',J.R,J.C,J.B,J.j,rv,q⟩
 cases fl with
 |ret u=>
  obtain⟨v,U,H',J,rv,q⟩:=hs;exact fin J rv q
 |next=>
  obtain⟨U,H',J,q⟩:=hs;exact fin (v:=V.g) (u:=Ac) J rfl q
 |brk=>
  obtain⟨_,_,_,q⟩:=hs;exact De q
 |cont=>
  obtain⟨_,_,_,q⟩:=hs;exact De q
section
variable {X:Cx}{x:Str}{p pos:Pos}{e:Expr}{es:List Expr}{t:TA}{id T:String}{r:List V->Hp->VK->Prop}
def tCB(r:List V->Hp->VK->Prop)(t:TA):TE:=λσ H Q=>t σ H λvs H1=>r vs H1 Q
def mQ(Z:yL X (.builtin id) r)(Y:Gl X x)(W:X.d x=none)(S:Di x=some (.builtin id))(ha:PA X (e::es) t)(U:x≠"__name__":=by decide)(R:(x == ("__debug__":Str))=false:=by decide)
 (he:A9 (e::es) X.a=(false,eval e X.a)::A9 es X.a:=by rfl) (N:(backTo pos (A9 es X.a)).any (·.1)=false:=by rfl):PE X (.Call (.Name x p) (e::es) [] pos) (tCB r t):=by
 intro pins s σ H Q I h;refine DX (vb I Y W S ?_ U R);exact PyProof.Rows.callWith_builtin1 (thn (ha pos pins s σ H _ I h) λus s1 ⟨vs,H1,I1,r1,q1⟩=>Z pins s1 σ H1 vs us Q I1 r1 q1) he N
def wm(Z:yL X (.type T) r)(Y:Gl X x)(W:X.d x=none)(S:Di x=some (.type T))(ha:PA X (e::es) t)(U:x≠"__name__":=by decide)(R:(x == ("__debug__":Str))=false:=by decide)
 (he:A9 (e::es) X.a=(false,eval e X.a)::A9 es X.a:=by rfl) (N:(backTo pos (A9 es X.a)).any (·.1)=false:=by rfl):PE X (.Call (.Name x p) (e::es) [] pos) (tCB r t):=by
 intro pins s σ H Q I h;refine DX (vb I Y W S ?_ U R);exact Ca (thn (ha pos pins s σ H _ I h) λus s1 ⟨vs,H1,I1,r1,q1⟩=>Z pins s1 σ H1 vs us Q I1 r1 q1) he N
end
end L2
namespace HT
open PySem PyProof.Rows
section
variable {prog:Program}{w:World}{A:Around}{E:Value->Shared->Prop}{s:Shared}
def aa(ht:IsTup s.heap t vs.toArray)(hb:IsTup s.heap b ws.toArray)(hv:vs≠[])
 (h1:ws=[]->Q (.ref t) s) (h2:ws≠[]->Q (.ref s.heap.objs.size) {s with heap:=s.heap.push {cls:=.type "tuple",data:=.seq (vs++ws).toArray}})
 (Y:vs.length+ws.length<=AI):wpAny (model prog w) A (BZ .Add (.ref t) (.ref b)) Q E s:=by
 obtain⟨⟨cls,dd,data,sl⟩,X,hc,n,hd⟩:=id ht;obtain⟨⟨cls2,W,Z,R⟩,N,U,n2,S⟩:=id hb;simp only at hc hd U S;subst hc hd U S;have e:vs.toArray++ws.toArray=(vs++ws).toArray:=by simp
 by_cases hw:ws=[]
 . exact concat_meets ⟨_,X,rfl⟩ ⟨_,N,rfl⟩ G6 Im Fj Fc (EV _ _)
    (tuple_addW1 t b vs.toArray ws.toArray n n2 dd W sl R (by simpa using hv) (by simp[hw])) ⟨X,N,h1 hw⟩
 . refine concat_meets ⟨_,X,rfl⟩ ⟨_,N,rfl⟩ G6 Im Fj Fc (EV _ _)
    (tuple_addW2 t b vs.toArray ws.toArray n n2 dd W sl R (by simpa using hv) (by simpa using hw) (by rw[Ae,Ae];exact Y)) ⟨X,N,?_⟩
   rw[e];exact h2 hw
noncomputable def sIx(n d:Nat):Option Int->Nat
 |none=>d
 |some v=>if v<0 then (v+(n:Int)).toNat else min v.toNat n
def Vs n d(hd:d<=n)o:sIx n d o<=n:=by
 cases o with
 |none=>exact hd
 |some v=>
  show (if v<0 then (v+(n:Int)).toNat else min v.toNat n)<=n
  by_cases hv:v<0
  . rw[if_pos hv];omega
  . rw[if_neg hv];exact Et _ _
def jU v(n d:Nat):(if v<0 then max (v+(n:Int)) 0 else min v (n:Int))=((sIx n d (some v):Nat):Int):=by
 show (if v<0 then max (v+(n:Int)) 0 else min v (n:Int))=(((if v<0 then (v+(n:Int)).toNat else min v.toNat n):Nat):Int)
 by_cases hv:v<0
 . simp only[if_pos hv];omega
 . simp only[if_neg hv];omega
def lF lo hi(n:Nat):BF lo hi 1 (n:Int)=(((sIx n 0 lo:Nat):Int),((sIx n n hi:Nat):Int)):=by
 have N:¬((1:Int)<0):=by omega
 unfold BF;simp only[N,if_false];refine G7 ?_ ?_
 . cases lo with
   |none=>rfl
   |some v=>exact jU v n 0
 . cases hi with
   |none=>rfl
   |some v=>exact jU v n n
def kN(i j:Nat):B1 (i:Int) (j:Int) 1=j-i:=by
 unfold B1;have N:(1:Int) > 0:=by omega
 simp only[N,if_true,Int.ediv_one];split<;>omega
def x6(p:IsPart v o)(h:Q o s):wpAny (model prog w) A (Builtin.Slice.slicePartIndex v) Q E s:=by
 cases p with
 |none=>exact slicePart_none h
 |int i t=>exact slicePart_int h
def wu{lo hi}{n:Nat}(hs:s.heap.IsSliceOf sl vl vu .none)(U:IsPart vl lo)(S:IsPart vu hi)
 (h:Q (((sIx n 0 lo:Nat):Int),1,sIx n n hi-sIx n 0 lo) s):wpAny (model prog w) A (Dv (.ref sl) (pure (n:Int))) Q E s:=by
 obtain⟨os,N,W,R⟩:=id hs;unfold Dv G0;refine dm (dm (BH N R (x:=vl) rfl (dm (BH N R (x:=vu) rfl (dm (BH N R (x:=.none) rfl (xd ?_)))))));refine dm (slicePart_none ?_);show wpAny _ _ (if ((1:Int) == 0)=true then _ else _) _ _ s
 rw[if_neg (by decide)]
 refine dm (x6 U (dm (x6 S (dm (xd ?_)))));show wpAny _ _ (match BF lo hi 1 (n:Int) with|(lo,hi)=>pure (lo,(1:Int),B1 lo hi 1)) _ _ s
 rw[lF lo hi n];show wpAny _ _ (pure (((sIx n 0 lo:Nat):Int),(1:Int),B1 ((sIx n 0 lo:Nat):Int) ((sIx n n hi:Nat):Int) 1)) _ _ s;rw[kN];exact xd h
def bF(xs:Array Value)(i k:Nat):((Ah k).filterMap λ(m:Nat)=>xs[((i:Int)+(m:Int)*1).toNat]?).toArray=((xs.toList.drop i).take k).toArray:=by
 have e:(λ(m:Nat)=>xs[((i:Int)+(m:Int)*1).toNat]?)=λm=>xs[i+m]?:=by
  funext m;have:((i:Int)+(m:Int)*1).toNat=i+m:=by omega
  rw[this]
 rw[e];have:=pick_run xs i k;rw[CH]at this;have N:((λx=>xs[x]?)∘λx=>i+x)=λm=>xs[i+m]?:=rfl;rw[N]at this;rw[this]
def uk{lo hi}(R:IsTup s.heap t items)(hs:s.heap.IsSliceOf sl vl vu .none)(Z:IsPart vl lo)(Y:IsPart vu hi)
 (hw:¬(sIx items.size 0 lo=0/\sIx items.size items.size hi=items.size))
 (h:Q (.ref s.heap.objs.size) {s with heap:=s.heap.push {cls:=.type "tuple",data:=.seq ((items.toList.drop (sIx items.size 0 lo)).take (sIx items.size items.size hi-sIx items.size 0 lo)).toArray}})
 (hsz:items.size<=AI):wpAny (model prog w) A (getItem (.ref t) (.ref sl)) Q E s:=by
 have N:sizeOk (.seq ((items.toList.drop (sIx items.size 0 lo)).take (sIx items.size items.size hi-sIx items.size 0 lo)).toArray):=by show ((items.toList.drop (sIx items.size 0 lo)).take (sIx items.size items.size hi-sIx items.size 0 lo)).toArray.size<=AI;rw[Ae,Bi,BN,Ax];omega
 have hj:sIx items.size items.size hi<=items.size:=Vs _ _ (Ab _) hi;obtain⟨os,S,W,hds⟩:=id hs;have X:s.TypeIs (.ref sl) "slice":=⟨os,S,W⟩;unfold getItem
 try with_reducible refine Bo ?_
 first|refine dm (xd ?_)|skip
 refine dm (GP R.typeIs (by decide) ?_)
 refine dm (BC (name:=CO "__getitem__") R.typeIs Ba
  (BA Ba R.typeIs F6 ?_ (Gp _ _)))
 show wpAny _ _ (ED (.ref t) >>= _) _ _ s;refine dm (Ft R ?_);refine dm (DO X ?_);rw[if_pos (by decide)]
 refine dm (wu hs Z Y ?_);have U:¬((((sIx items.size 0 lo:Nat):Int) == 0&&(1:Int) == 1&&(sIx items.size items.size hi-sIx items.size 0 lo) == items.size)=true):=by intro q;rw[ub,ub]at q;have q1:((sIx items.size 0 lo:Nat):Int)=0:=Cv q.1.1;have q2:sIx items.size items.size hi-sIx items.size 0 lo=items.size:=Cv q.2;exact hw ⟨⋯,⋯⟩
 show wpAny _ _ (if (((sIx items.size 0 lo:Nat):Int) == 0&&(1:Int) == 1&&(sIx items.size items.size hi-sIx items.size 0 lo) == items.size)=true then _ else _) _ _ s
 rw[if_neg U,bF]
 first
  |exact dm (m:=BO _) (A4 (xd ⟨_,rfl,xd h⟩) N)
  |exact dm (m:=BO _) (A4 (dm (xd (xd ⟨_,rfl,xd h⟩))) N)
  |exact dm (dm (m:=BO _) (A4 (xd (xd ⟨_,rfl,xd h⟩)) N))
  |exact dm (dm (m:=BO _) (A4 (xd ⟨_,rfl,xd h⟩) N))
end
end HT
namespace L2
open PySem PySem.Spec PyProof.Rows
abbrev TO:=St->Hp->(Option Int->Hp->Prop)->Prop
def PO(X:Cx)(e:Option Expr)(t:TO):Prop:=
 ∀(pins:List (Addr × Obj)) (s:Shared) (σ:St) (H:Hp) (Q:Option Int->Hp->Prop),Inv X pins σ H s->t σ H Q ->
  wpAny (model X.f X.w) X.A (evalPart e X.a) (λu s'=>∃o H',Inv X pins σ H' s'/\IsPart u o/\Q o H') X.h s
def YZ:TO:=λ_ H Q=>Q none H
def Sy(t:TE):TO:=λσ H Q=>t σ H λx H1=>∃i,x=.d i/\Q (some i) H1
section
variable {X:Cx}{e:Expr}{te:TE}{lo hi:Option Expr}{tl th:TO}{pos p2:Pos}
def Z8:PO X none YZ:=by intro pins s σ H Q I h;rw[evalPart_none];exact xd ⟨none,H,I,.none,h⟩
def Z9(h:PE X e te):PO X (some e) (Sy te):=by intro pins s σ H Q I hw;rw[evalPart_some];refine thn (h pins s σ H _ I hw) λu s1 N=>?_;obtain⟨x,H1,I1,R,S⟩:=N;obtain⟨i,rfl,q⟩:=S;obtain⟨t,rfl⟩:=R;exact⟨some i,H1,I1,.int i t,q⟩
def SlR(X:Cx)(r:V->Option Int->Option Int->Hp->VK->Prop):Prop:=
 ∀(pins:List (Addr × Obj)) (s:Shared) (σ:St) (H:Hp) (x:V) (v R N:Value) (lo hi:Option Int) (S:Addr) (Q:VK),Inv X pins σ H s->RelV x v->s.heap.IsSliceOf S R N .none->IsPart R lo->IsPart N hi->r x lo hi H Q ->
  ∃T id,typeLookup (.type T) "__getitem__"=pure (some (.builtin id))/\s.TypeIs v T/\wpAny (model X.f X.w) X.A (getItem v (.ref S)) (EP X pins σ Q) X.h s
def tSl(r:V->Option Int->Option Int->Hp->VK->Prop)(te:TE)(tl th:TO):TE:=λσ H Q=>te σ H λx H1=>tl σ H1 λl H2=>th σ H2 λu N=>r x l u N Q
def cz(hr:SlR X r)(he:PE X e te)(hl:PO X lo tl)(hu:PO X hi th):PE X (.Subscript e (.Slice lo hi none p2) pos) (tSl r te tl th):=by
 intro pins s σ H Q I h;refine Ib (thn (he pins s σ H _ I h) λv s1 U=>?_);obtain⟨x,H1,I1,Y,q1⟩:=U;refine wpAny_Slice (thn (hl pins s1 σ H1 _ I1 q1) λS s2 ⟨l,H2,I2,pl,q2⟩=>thn (hu pins s2 σ H2 _ I2 q2) λR N U=>?_);obtain⟨u,W,I3,pu,Z⟩:=U;rw[evalPart_none];refine xd ?_;have I4:Inv X pins σ W {N with heap:=N.heap.push {cls:=.type "slice",data:=.fields #[S,R,.none]}}:=I3.kept (t':=N.toks) λb ob q=>zO _ q
 obtain⟨T,id,hT,ht,hg⟩:=hr pins {N with heap:=N.heap.push {cls:=.type "slice",data:=.fields #[S,R,.none]}} σ W x v S R l u N.heap.objs.size Q I4 Y (Gq ..) pl pu Z
 show wpAny (model X.f X.w) X.A (GB e (.Slice lo hi none p2) v (.ref N.heap.objs.size)) (EP X pins σ Q) X.h {N with heap:=N.heap.push {cls:=.type "slice",data:=.fields #[S,R,.none]}}
 exact tail_any (ops:=[.ref N.heap.objs.size,v]) ht hT hg (by with_unfolding_all rfl)
def qO(xs:List V)(lo hi:Option Int):List V:=(xs.drop (HT.sIx xs.length 0 lo)).take (HT.sIx xs.length xs.length hi-HT.sIx xs.length 0 lo)
def sE xs lo hi:(qO xs lo hi).length<=xs.length:=by unfold qO;rw[Bi,BN];omega
def Rp(K:AG):V->Option Int->Option Int->Hp->VK->Prop:=λx lo hi H Q=>∃a xs,x=.c a/\SqT K H a xs /\
 ¬(HT.sIx xs.length 0 lo=0/\HT.sIx xs.length xs.length hi=xs.length)/\∀p,H p=none->Q (.c p) (upd H p (.c (qO xs lo hi)))
def Vv:SlR X (Rp X.K):=by
 intro pins s σ H x v vl Z lo hi sl Q I U hs Y W h;obtain⟨a,xs,rfl,hx,hw,q⟩:=h;cases U;obtain⟨its,r,S,R⟩:=I.tuple hx;have N:its.toArray.size=xs.length:=by rw[Ae];exact r.length.symm
 refine⟨"tuple",_,Ba.lookup,S.typeIs,?_⟩;refine HT.uk S hs Y W (by rw[N];exact hw) ?_ (by rw[N];exact R)
 rw[N];refine⟨.c s.heap.objs.size,_,I.laid (t':=s.toks) (o:=.c (qO xs lo hi)) (λb ob q=>zO _ q) (Ab _) ?_,rfl,q _ (I.j.fresh (Ab _))⟩;exact⟨Ao (sE xs lo hi) R,_,(r.drop (HT.sIx xs.length 0 lo)).take (HT.sIx xs.length xs.length hi-HT.sIx xs.length 0 lo),tK.new _ _⟩
def SS(K:AG):R2:=λx y H Q=>∃a b xs ys,x=.c a/\y=.c b/\SqT K H a xs/\SqT K H b ys/\xs≠[]/\xs.length+ys.length<=AI /\
 (ys=[]->Q (.c a) H)/\(ys≠[]->∀p,H p=none->Q (.c p) (upd H p (.c (xs++ys))))
def Vals.uv(r:Vals xs us):us=[]↔xs=[]:=by
 cases r with
 |nil=>simp
 |cons _ _=>simp
def Zo:OpR X (BZ .Add) (SS X.K):=by
 intro pins s σ H x y v u Q I Y W h;obtain⟨a,b,xs,ys,rfl,rfl,ha,hb,hx,U,q1,Z⟩:=h;cases Y;cases W;obtain⟨its,R,p1,_⟩:=I.tuple ha;obtain⟨S,N,p2,_⟩:=I.tuple hb;refine HT.aa p1 p2 (λz=>hx (R.uv.mp z)) (λz=>⟨.c a,H,I,rfl,q1 (N.uv.mp z)⟩) (λz=>?_) (by rw[<-R.length,<-N.length];exact U)
 refine⟨.c s.heap.objs.size,_,I.laid (t':=s.toks) (o:=.c (xs++ys)) (λb ob q=>zO _ q) (Ab _) ?_,rfl,Z (λw=>z (N.uv.mpr w)) _ (I.j.fresh (Ab _))⟩;exact⟨by rw[As];exact U,_,R.append N,tK.new _ _⟩
end
noncomputable def ixN(n:Nat)(i:Int):Option Nat:=if 0<=i then (if i<n then some i.toNat else none) else if -(n:Int)<=i then some (i+n).toNat else none
def atI{N:Type}(xs:List N)(i:Int):Option N:=(ixN xs.length i).bind λj=>xs[j]?
def j5(h:ixN n i=some j):seqIndex? i n=some j/\j<n∧-(n:Int)<=i/\i<n:=by
 unfold ixN at h;by_cases h0:0<=i
 . rw[if_pos h0]at h
   by_cases h1:i<n
   . rw[if_pos h1]at h
     have e:i.toNat=j:=AH h;exact⟨by rw[seqIndex_of h0 h1,e],⋯,⋯,h1⟩
   . rw[if_neg h1]at h;cases h
 . rw[if_neg h0]at h
   by_cases h1:-(n:Int)<=i
   . rw[if_pos h1]at h
     have e:(i+n).toNat=j:=AH h;exact⟨by rw[seqIndex_neg ⋯ h1,e],⋯,h1,⋯⟩
   . rw[if_neg h1]at h;cases h
def pS(h:atI xs i=some v):∃j,seqIndex? i xs.length=some j/\xs[j]?=some v/\j<xs.length∧-(xs.length:Int)<=i/\i<xs.length:=by
 unfold atI at h;cases e:ixN xs.length i with
 |none=>rw[e]at h;cases h
 |some j=>
  rw[e]at h;obtain⟨U,S,R,N⟩:=j5 e;exact⟨j,U,h,S,R,N⟩
def sR{xs}{j:Nat}{v:α}(h:xs[j]?=some v):atI xs (j:Int)=some v:=by
 have N:j<xs.length:=(Ai.mp h).1;have e:ixN xs.length (j:Int)=some j:=by unfold ixN;rw[if_pos ⋯,if_pos ⋯];simp
 unfold atI;rw[e];exact h
def jF(b:Expr):Prop:=∀o i,subscripted b false o i=operate [o,i] (getItem o i)
def IxR(X:Cx)(r:R2):Prop:=
 ∀(R N:Expr) (pins:List (Addr × Obj)) (s:Shared) (σ:St) (H:Hp) (x y:V) (v u:Value) (Q:VK),Inv X pins σ H s->RelV x v->RelV y u->r x y H Q ->
  subscripted N false v u=operate [v,u] (getItem v u)->wpAny (model X.f X.w) X.A (GB R N v u) (EP X pins σ Q) X.h s
def MtR(X:Cx)(id:String)(r:V->List V->Hp->VK->Prop):Prop:=
 ∀(pins:List (Addr × Obj)) (s:Shared) (σ:St) (H:Hp) (x:V) (xs:List V) (v:Value) (us:List Value) (Q:VK),Inv X pins σ H s->RelV x v->Vals xs us->r x xs H Q ->
  wpAny (model X.f X.w) X.A (call (.builtin id) (v::us)) (EP X pins σ Q) X.h s
section
variable {X:Cx}{a b:Expr}{ta tb:TE}{pos:Pos}
def IxR.or(h:IxR X r)(h':IxR X r'):IxR X (λx y H Q=>r x y H Q\/r' x y H Q):=by
 intro N R pins s σ H x y v u Q I U S q hs;rcases q with q|q
 . exact h N R pins s σ H x y v u Q I U S q hs
 . exact h' N R pins s σ H x y v u Q I U S q hs
def SD(S:IxR X r)(W:PE X a ta)(U:PE X b tb)(hs:jF b):PE X (.Subscript a b pos) (tOp r ta tb):=by intro pins s σ H Q I h;exact Ib (Xq W U I h λv u s2 x y H2 I2 R N q=>S a b pins s2 σ H2 x y v u Q I2 R N q (hs _ _))
def SU(K:AG):R2:=λx y H Q=>∃p xs i v,x=.c p/\y=.d i/\SqL K H p xs/\atI xs i=some v/\Q v H
def SW(K:AG):R2:=λx y H Q=>∃p xs i v,x=.c p/\y=.d i/\SqT K H p xs/\atI xs i=some v/\Q v H
def SV:R2:=λx y H Q=>∃z i c,x=.f z/\y=.d i/\z.length<=AI/\atI z.cps.toList i=some c/\Q (.f ⟨#[c]⟩) H
def ZI:IxR X (SU X.K):=by
 intro R S pins s σ H x y v u Q I rx ry h hs;obtain⟨p,xs,i,z,rfl,rfl,hq,he,q⟩:=h;cases rx;obtain⟨t,rfl⟩:=ry;obtain⟨its,r,W,hz⟩:=I.list hq;obtain⟨j,N,h2,h3,h4,h5⟩:=pS he;obtain⟨w,Z,U⟩:=r.get h2;have hl:=r.length;have hn:=uM;have fin:EP X pins σ Q w s:=⟨z,H,I,U,q⟩;by_cases h0:0<=i
 . have Y:i.toNat=j:=by rw[seqIndex_of h0 h5]at N;exact AH N
   exact item_listR W.isList h0 ⋯ (by rw[Y];simpa using Z) fin hs
 . have Y:(i+(its.toArray.size:Int)).toNat=j:=by
    rw[seqIndex_neg ⋯ h4]at N
    rw[Ae,<-hl];exact AH N
   exact subscriptTail_builtinR (x:=w) W.isList.typeIs GQ.lookup
    (wpAny_getItem_list_neg (Q:=λr s'=>r=w/\EP X pins σ Q r s') W.isList ⋯ (by rw[Ae]<;>omega) ⋯ (by rw[Y];simpa using Z) ⟨rfl,fin⟩) hs
def WK:IxR X (SW X.K):=by
 intro N R pins s σ H x y v u Q I Y W h hs;obtain⟨p,xs,i,z,rfl,rfl,Z,he,q⟩:=h;cases Y;obtain⟨t,rfl⟩:=W;obtain⟨its,r,U,hz⟩:=I.tuple Z;obtain⟨j,h1,h2,h3,h4,h5⟩:=pS he;obtain⟨w,ew,S⟩:=r.get h2;have hl:=r.length;have hn:=uM;have fin:EP X pins σ Q w s:=⟨z,H,I,S,q⟩;exact subscriptTail_builtinR (x:=w) U.typeIs slot_tuple_getitem.lookup
  (getItem_tuple (j:=j) (Q:=λr s'=>r=w/\EP X pins σ Q r s') U ⋯ ⋯ (by rw[Ae,<-hl];exact h1) (by simpa using ew) ⟨rfl,fin⟩) hs
def WJ:IxR X SV:=by
 intro N R pins s σ H x y v u Q I W U h hs;obtain⟨z,i,c,rfl,rfl,hz,he,q⟩:=h;obtain⟨t,rfl⟩:=W;obtain⟨t',rfl⟩:=U;obtain⟨j,S,h2,h3,h4,Z⟩:=pS he;have Y:z.cps.toList.length=z.length:=by simp[Str.length]
 rw[Y]at S h4 Z;have hn:=uM;exact tail_any (typeIs_str s z t) slot_str_getitem.lookup (getItem_str (c:=c) (by
  have e1:decide (i < -(2 ^ 63:Int))=false:=decide_eq_false ⋯
  have e2:decide (i ≥ 2 ^ 63)=false:=decide_eq_false ⋯
  rw[e1,e2,Bool.or_false]) (by rw[S];simpa using h2) ⟨.f ⟨#[c]⟩,H,I.tok _,⟨_,rfl⟩,q⟩) hs
def rIx(K:AG):R2:=λx y H Q=>SU K x y H Q\/SW K x y H Q\/SV x y H Q
def WI:IxR X (rIx X.K):=ZI.or (WK.or WJ)
def ll(its:List Value)n j u:B3 (·.setIfInBounds j u) {cls:=.type "list",data:=.seq its.toArray n}={cls:=.type "list",data:=.seq (its.set j u).toArray n}:=by simp[B3]
def Inv.lst{pins:List (Addr × Obj)}{σ:St}{H:Hp}{s:Shared}{p:Addr}{xs:List V}(I:Inv X pins σ H s)(h:H p=some (.b xs)) :
 ∃(its:List Value) (n:Nat),Vals xs its/\s.heap.get? p=some {cls:=.type "list",data:=.seq its.toArray n}/\xs.length<=AI:=by
 obtain⟨z,its,n,r,e⟩:=I.j p _ h;exact⟨its,n,r,e,z⟩
def Inv.W4{its its':List Value}(I:Inv X pins σ H s)(h:H p=some (.b xs))
 (S:s.heap.get? p=some {cls:=.type "list",data:=.seq its.toArray n}) (N:f {cls:=.type "list",data:=.seq its.toArray n}={cls:=.type "list",data:=.seq its'.toArray n'}) (r:Vals ys its') (R:ys.length<=AI) t :
 Inv X pins σ (upd H p (.b ys)) {s with heap:=s.heap.update p f,toks:=t}:=by
 have e:(s.heap.update p f).get? p=some {cls:=.type "list",data:=.seq its'.toArray n'}:=by rw[B6 f S (by rw[N]<;>rfl),N]
 refine I.write (x:=p) (e:=p) (by rw[h];trivial) (.inl rfl) (λb u U q=>(Eb _ _ (BJ U)).trans q) ⟨_,e⟩ ?_
 exact⟨R,its',n',r,e⟩
def XN:V->V->V->Hp->(Hp->Prop)->Prop:=λo i v H Q=>∃p xs k j,o=.c p/\i=.d k/\H p=some (.b xs)/\ixN xs.length k=some j/\Q (upd H p (.b (xs.set j v)))
def set_list:UX X XN:=by
 intro pins s σ H o i v ov iv u Q I ro ri rv h;obtain⟨p,xs,k,j,rfl,rfl,hp,hj,q⟩:=h;cases ro;obtain⟨t,rfl⟩:=ri;obtain⟨its,n,r,R,hz⟩:=I.lst hp;obtain⟨N,h2,Y,U⟩:=j5 hj;have S:=r.length;have hn:=uM;have Z:Inv X pins σ (upd H p (.b (xs.set j v))) {s with heap:=s.heap.update p (B3 (·.setIfInBounds j u))}:=
  I.W4 hp R (ll its n j u) (r.set rv j) (by rw[Dr];exact hz) s.toks
 by_cases h0:0<=k
 . have hk:k.toNat=j:=by rw[seqIndex_of h0 U]at N;exact AH N
   exact PySem.W.ki_setAt R h0 ⋯ (by rw[Ae,<-S];exact U) (by rw[hk];exact⟨_,Z,q⟩)
 . have hk:(k+(its.toArray.size:Int)).toNat=j:=by
    rw[seqIndex_neg ⋯ Y]at N
    rw[Ae,<-S];exact AH N
   exact PySem.W.ki_setBack R ⋯ (by rw[Ae,<-S];exact Y) ⋯ (by rw[hk];exact⟨_,Z,q⟩)
def oq lo hi n:(BP lo hi none n).1=((HT.sIx n 0 lo:Nat):Int)/\(BP lo hi none n).2.1=((HT.sIx n n hi:Nat):Int)/\(BP lo hi none n).2.2=1:=by
 refine⟨?_,?_,rfl⟩
 . cases lo with
   |none=>simp[BP,HT.sIx]
   |some i=>
    simp only[BP,HT.sIx,G8,show (1:Int) > 0 by decide,if_true]
    by_cases h:i<0
    . simp only[h,if_true]<;>omega
    . simp only[h,if_false]<;>omega
 . cases hi with
   |none=>simp[BP,HT.sIx]
   |some i=>
    simp only[BP,HT.sIx,G8,show (1:Int) > 0 by decide,if_true]
    by_cases h:i<0
    . simp only[h,if_true]<;>omega
    . simp only[h,if_false]<;>omega
def qV(its:List Value)lo hi:Iy its.toArray lo hi none=((its.drop (HT.sIx its.length 0 lo)).take (HT.sIx its.length its.length hi-HT.sIx its.length 0 lo)).toArray:=by obtain⟨S,R,N⟩:=oq lo hi its.toArray.size;unfold Iy;rw[S,R,N];simp only[sliceRange_one,pick_run,Ae]<;>rfl
def Ro(K:AG):V->Option Int->Option Int->Hp->VK->Prop:=λx lo hi H Q=>∃a xs,x=.c a/\SqL K H a xs/\∀p,H p=none->Q (.c p) (upd H p (.b (qO xs lo hi)))
def YQ:SlR X (Ro X.K):=by
 intro pins s σ H x v vl Z lo hi sl Q I S hs W U h;obtain⟨a,xs,rfl,hx,q⟩:=h;cases S;obtain⟨its,r,R,Y⟩:=I.list hx;have N:=r.length;refine⟨"list",_,GQ.lookup,R.isList.typeIs,?_⟩;refine G9 R.isList hs W U .none (by simp) ?_ (by rw[Ae]<;>omega)
 rw[qV,<-N];refine⟨.c s.heap.objs.size,_,I.laid (t':=s.toks) (o:=.b (qO xs lo hi)) (λb ob q=>zO _ q) (Ab _) ?_,rfl,q _ (I.j.fresh (Ab _))⟩;exact⟨Ao (sE xs lo hi) Y,_,0,(r.drop (HT.sIx xs.length 0 lo)).take (HT.sIx xs.length xs.length hi-HT.sIx xs.length 0 lo),Az _ rfl⟩
noncomputable def wL:V->Bool
 |.g=>true
 |.e _=>true
 |.d _=>true
 |.f _=>true
 |_=>false
noncomputable def eqV:V->V->Bool
 |.g,.g=>true
 |.e a,.e b=>a == b
 |.e a,.d b=>(if a then 1 else 0) == b
 |.d a,.e b=>a == (if b then 1 else 0)
 |.d a,.d b=>a == b
 |.f a,.f b=>a == b
 |_,_=>false
def X6(R:RelV y u)(N:RelV x v)(U:wL y=true)(S:wL x=true):Bx A s u v (eqV y x):=by
 cases y with
 |g=>
  cases R;cases x with
  |g=>cases N;exact Bx.same _
  |e b=>cases N;exact Bx.none_bool b
  |d b=>obtain⟨t,rfl⟩:=N;exact Bx.none_int b t
  |f b=>obtain⟨t,rfl⟩:=N;exact Bx.none_str b t
  |_=>exact absurd (show false=true from S) Ag
 |e a=>
  cases R;cases x with
  |g=>cases N;exact Bx.bool_none a
  |e b=>cases N;exact Bx.bool_bool a b
  |d b=>obtain⟨t,rfl⟩:=N;exact Bx.bool_int a b t
  |f b=>obtain⟨t,rfl⟩:=N;exact Bx.bool_str a b t
  |_=>exact absurd (show false=true from S) Ag
 |d a=>
  obtain⟨t',rfl⟩:=R;cases x with
  |g=>cases N;exact Bx.int_none a t'
  |e b=>cases N;exact Bx.int_bool a t' b
  |d b=>obtain⟨t,rfl⟩:=N;exact Bx.int_int a t' b t
  |f b=>obtain⟨t,rfl⟩:=N;exact Bx.int_str a t' b t
  |_=>exact absurd (show false=true from S) Ag
 |f a=>
  obtain⟨t',rfl⟩:=R;cases x with
  |g=>cases N;exact Bx.str_none a t'
  |e b=>cases N;exact Bx.str_bool a t' b
  |d b=>obtain⟨t,rfl⟩:=N;exact Bx.str_int a t' b t
  |f b=>obtain⟨t,rfl⟩:=N;exact Bx.str_str a t' b t
  |_=>exact absurd (show false=true from S) Ag
 |_=>exact absurd (show false=true from U) Ag
def eqU(x:V)(u:Value):Bool:=match u with
 |.none=>eqV .g x
 |.bool b=>eqV (.e b) x
 |.int i _=>eqV (.d i) x
 |.str z _=>eqV (.f z) x
 |_=>false
def lQ(r:RelV y u)(f:wL y=true):eqU x u=eqV y x:=by
 cases y with
 |g=>cases r;rfl
 |e b=>cases r;rfl
 |d i=>obtain⟨t,rfl⟩:=r;rfl
 |f z=>obtain⟨t,rfl⟩:=r;rfl
 |_=>exact absurd (show false=true from f) Ag
theorem uX:∀{xs} {us},Vals xs us->xs.all wL=true->us.any (eqU x)=xs.any λy=>eqV y x
 |_,_,.nil,_=>rfl
 |y::xs,u::us,.cons r t,f=>by rw[CA,ub]at f;rw[DT,DT,lQ r f.1,uX t f.2]
theorem xt(N:RelV x v)(R:wL x=true):∀{xs} {us},Vals xs us->xs.all wL=true->∀u∈us,Bx A s u v (eqU x u)
 |_,_,.nil,_=>λu hu=>by cases hu
 |y::xs,u::us,.cons r t,f=>λS hu=>by
  rw[CA,ub]at f;rcases Al.mp hu with rfl|hu
  . rw[lQ r f.1];exact X6 r N f.1 R
  . exact xt N R t f.2 S hu
def inV(x:V)(xs:List V):Bool:=xs.any λy=>eqV y x
def rIn(K:AG)(N:Bool):R2:=λx y H Q=>∃p xs,y=.c p/\(SqL K H p xs\/SqT K H p xs)/\wL x=true/\xs.all wL=true/\Q (.e (if N then !inV x xs else inV x xs)) H
def gq:OpR X (Bp .In) (rIn X.K false):=by
 intro pins s σ H x y v u Q I S W h;obtain⟨p,xs,rfl,N,U,fs,q⟩:=h;cases W;rcases N with N|N
 . obtain⟨its,r,R,Y⟩:=I.list N
   refine SeqAt.in_listAt (eqU x) R.isList (λw hw=>xt S U r fs w (by simpa using hw)) ⟨.e _,H,I,rfl,?_⟩
   rw[show its.toArray.any (eqU x)=its.any (eqU x) by simp,uX r fs]
   exact q
 . obtain⟨its,r,R,Y⟩:=I.tuple N
   refine SeqAt.in_tupleAt (eqU x) R (λw hw=>xt S U r fs w (by simpa using hw)) ⟨.e _,H,I,rfl,?_⟩
   rw[show its.toArray.any (eqU x)=its.any (eqU x) by simp,uX r fs]
   exact q
def oT:OpR X (Bp .NotIn) (rIn X.K true):=by
 intro pins s σ H x y v u Q I S W h;obtain⟨p,xs,rfl,N,U,fs,q⟩:=h;cases W;rcases N with N|N
 . obtain⟨its,r,R,Y⟩:=I.list N
   refine SeqAt.notIn_listAt (eqU x) R.isList (λw hw=>xt S U r fs w (by simpa using hw)) ⟨.e _,H,I,rfl,?_⟩
   rw[show its.toArray.any (eqU x)=its.any (eqU x) by simp,uX r fs]
   exact q
 . obtain⟨its,r,R,Y⟩:=I.tuple N
   refine SeqAt.notIn_tupleAt (eqU x) R (λw hw=>xt S U r fs w (by simpa using hw)) ⟨.e _,H,I,rfl,?_⟩
   rw[show its.toArray.any (eqU x)=its.any (eqU x) by simp,uX r fs]
   exact q
def pU:yL X (.builtin "len") (λxs H Q=>∃p ys,xs=[.c p]/\(SqL X.K H p ys\/SqT X.K H p ys)/\Q (.d ys.length) H):=by
 intro pins s σ H xs us Q I r h;obtain⟨p,ys,rfl,R,q⟩:=h;obtain⟨u,rfl,W⟩:=vals1 r;cases W;have Z:=uM;rcases R with R|R
 . obtain⟨its,S,U,Y⟩:=I.list R
   have N:=S.length;exact Calls.call_len_list U.isList (by simp only[Ae]<;>omega) ⟨.d ys.length,H,I.tok _,⟨s.toks+1,by rw[Ae,N]⟩,q⟩
 . obtain⟨its,S,U,Y⟩:=I.tuple R
   have N:=S.length;exact len_tuple U (by simp only[Ae]<;>omega) ⟨.d ys.length,H,I.tok _,⟨s.toks+1,by rw[Ae,N]⟩,q⟩
def pV:yL X (.builtin "len") (λxs H Q=>∃z,xs=[.f z]/\z.length<=AI/\Q (.d z.length) H):=by intro pins s σ H xs us Q I r h;obtain⟨z,rfl,N,q⟩:=h;obtain⟨u,rfl,t,rfl⟩:=vals1 r;have R:=uM;exact len_str ⋯ ⟨.d z.length,H,I.tok _,⟨_,rfl⟩,q⟩
def v3:yL X (.type "tuple") (λxs H Q=>∃p ys,xs=[.c p]/\((SqL X.K H p ys/\∀l,H l=none->Q (.c l) (upd H l (.c ys)))\/(SqT X.K H p ys/\Q (.c p) H))):=by
 intro pins s σ H xs us Q I r h;obtain⟨p,ys,rfl,h⟩:=h;obtain⟨u,rfl,Y⟩:=vals1 r;cases Y;rcases h with⟨S,q⟩|⟨S,q⟩
 . obtain⟨its,N,R,U⟩:=I.list S
   have W:=N.length;refine call_tuple_list R.isList (λh' kp=>?_) (by simp only[Ae]<;>omega)
   have I1:Inv X pins σ H {s with heap:=h'}:=I.kept (t':=s.toks) kp
   have I2:Inv X pins σ (upd H h'.objs.size (.c ys)) {s with heap:=h'.push {cls:=.type "tuple",data:=.seq its.toArray}}:=
    I1.laid (t':=s.toks) (λb o e=>zO _ e) (Ab _) (show z9 X.f X.w _ _ _ (.c ys) from ⟨U,its,N,tK.new _ _⟩)
   exact⟨.c h'.objs.size,_,I2,rfl,q _ (I1.j.fresh (Ab _))⟩
 . obtain⟨its,N,R,U⟩:=I.tuple S
   exact call_tuple_same R ⟨.c p,H,I,rfl,q⟩
def tyV(K:AG)(T:String)(x:V)(H:Hp):Prop:=match x with
 |.f _=>T="str"
 |.d _=>T="int"
 |.c p=>(T="list"/\∃xs,SqL K H p xs)\/(T="tuple"/\∃o,K.lookup p=some o/\o.cls=.type "tuple"/\o.dict=none) \/
  (T="dict"/\((∃N,H p=some (.j N))\/∃N,H p=some (.k N)))\/(T="set"/\∃S n,H p=some (.m S n))
 |_=>False
def UH(I:Inv X pins σ H s)(r:RelV x v)(N:tyV X.K T x H) :
 s.TypeIs v T/\∀a,v=.ref a->∃Y,s.heap.get? a=some Y/\Y.dict=none:=by
 cases x with
 |f z=>
  obtain⟨t,rfl⟩:=r;cases (show T="str" from N);exact⟨typeIs_str s z t,λ_ e=>nomatch e⟩
 |d i=>
  obtain⟨t,rfl⟩:=r;cases (show T="int" from N);exact⟨DY s i t,λ_ e=>nomatch e⟩
 |c p=>
  cases r;rcases N with⟨rfl,xs,Z⟩|⟨rfl,o,hk,hc,hd⟩|⟨rfl,hk⟩|⟨rfl,S,n,hk⟩
  . obtain⟨its,_,W,_⟩:=I.list Z
    refine⟨W.isList.typeIs,λa e=>?_⟩;cases e;obtain⟨o,n,e,c,hd,_⟩:=W;exact⟨o,e,hd⟩
  . refine⟨⟨o,I.kIn p o hk,hc⟩,λa e=>?_⟩
    cases e;exact⟨o,I.kIn _ o hk,hd⟩
  . have z:∃o,s.heap.get? p=some o/\o.ExactDict:=by
     rcases hk with⟨R,hk⟩|⟨R,hk⟩
     . obtain⟨_,_,_,_,o,_,_,e,ex,_⟩:=I.j p _ hk
       exact⟨o,e,ex⟩
     . obtain⟨_,_,_,_,o,_,_,e,ex,_⟩:=I.j p _ hk
       exact⟨o,e,ex⟩
    obtain⟨o,e,ex⟩:=z;refine⟨⟨o,e,ex.1⟩,λa U=>?_⟩;cases U;exact⟨o,e,ex.2.1⟩
  . obtain⟨o,_,_,_,e,ex,_⟩:=I.j p _ hk
    refine⟨⟨o,e,ex.1⟩,λa U=>?_⟩;cases U;exact⟨o,e,ex.2.1⟩
 |_=>exact De N
def tBM(K:AG)(T:String)(r:V->List V->Hp->VK->Prop)(to:TE)(t:TA):TE:=λσ H Q=>to σ H λx H1=>tyV K T x H1/\t σ H1 λxs H2=>r x xs H2 Q
variable {o e:Expr}{es:List Expr}{to:TE}{t:TA}{name:Str}{apos cpos:Pos}{T id:String}{r:V->List V->Hp->VK->Prop}
def SA(pa:PlainAttrs T)(U:Slot T name id)(Y:typeOf (.builtin id)=pure (.type "method_descriptor"))(hm:MtR X id r)(ho:PE X o to)(ha:PA X (e::es) t)
 (S:Fu o name X.a (eval o X.a)=eval o X.a:=by rfl)
 (W:((backTo cpos (A9 (e::es) X.a)).all (λx=>!x.1)&&(backToKw cpos (keywordEach [] X.a)).all (λx=>x.1.isSome)
  && decide ((e::es).length+([]:List Keyword).length+(if ([]:List Keyword).isEmpty then 0 else 1)<30))=true:=by rfl)
 (R:(apos.endLine == cpos.line)=true:=by rfl) (hs:A9 (e::es) X.a=(false,eval e X.a)::A9 es X.a:=by rfl) (N:(backTo cpos (A9 es X.a)).any (·.1)=false:=by rfl) :
 PE X (.Call (.Attribute o name apos) (e::es) [] cpos) (tBM X.K T r to t):=by
 intro pins s σ H Q I h;refine wpAny_Call_method_late S W R rfl (thn (ho pins s σ H _ I h) λv s1 zn=>?_);obtain⟨x,H1,I1,Z,ty,q1⟩:=zn;obtain⟨h1,h2⟩:=UH I1 Z ty;refine⟨T,id,pa,U,Y,h1,h2,?_⟩;have hA:=ha cpos pins s1 σ H1 _ I1 q1;rw[hs]at hA ⊢;refine Calls.callWith_builtin (by show (false||(backTo cpos (A9 es X.a)).any (·.1))=false;rw[N]<;>rfl) (Calls.evalArgs_plain ?_)
 exact thn hA λus s2 ⟨vs,H2,I2,r2,q2⟩=>hm pins s2 σ H2 x vs v us Q I2 Z r2 q2
/- xs.append(e),list.index on a module's tuple .. are MtR facts of 06m -/
end
def MtM(X:Cx)(id:String)(r:V->List V->Hp->VK->Prop):Prop:=
 ∀(pins:List (Addr × Obj)) (s:Shared) (σ:St) (H:Hp) (x:V) (xs:List V) (v:Value) (us:List Value) (Q:VK),Inv X pins σ H s->RelV x v->Vals xs us->r x xs H Q ->
  wpAny (model X.f X.w) X.A (call (.builtin id) (v::us)) (EP X pins σ Q) X.h s
def Vals.one:∀{x} {us},Vals [x] us->∃u,us=[u]/\RelV x u
 |_,_,.cons r .nil=>⟨_,rfl,r⟩
theorem Vals.rep(h:Vals xs us):∀k:Nat,Vals (AR k xs).flatten (AR k us).flatten
 |0=>.nil
 |k+1=>by rw[Cw,Cw,DA,DA];exact Vals.append h (Vals.rep h k)
theorem foldl_rep its:∀k (acc:List Value),
 Eu (λR N=>R++N) acc.toArray (AR k its.toArray)=(acc++(AR k its).flatten).toArray
 |0,acc=>by simp
 |k+1,acc=>by
  have e:acc.toArray++its.toArray=(acc++its).toArray:=by simp
  have S:(acc++its)++(AR k its).flatten=acc++(AR (k+1) its).flatten:=by rw[Cw,DA,An]
  rw[<-S,<-foldl_rep its k (acc++its),<-e,Cw,HD]
def Inv.RX{its its':List Value}(I:Inv X pins σ H s)(W:H l=some (.b xs))
 (e:s.heap.get? l=some {cls:=.type "list",data:=.seq its.toArray n}) (S:f its.toArray=its'.toArray) (R:Vals ys its') (N:ys.length<=AI) :
 Inv X pins σ (upd H l (.b ys)) {s with heap:=s.heap.update l (B3 f),toks:=t'}:=by
 have q:=PySem.IsL.update e f;rw[S]at q;refine I.write (x:=l) (e:=l) (by rw[W];exact trivial) (.inl rfl) (λY u U hu=>(Eb s.heap (B3 f) (BJ U)).trans hu) ⟨_,q⟩ ?_
 exact⟨N,its',_,R,q⟩
def Inv.TX(I:Inv X pins σ H s)(R:Vals ys its)(N:ys.length<=AI) :
 Inv X pins σ (upd H s.heap.objs.size (.b ys)) {s with heap:=s.heap.push {cls:=.type "list",data:=.seq its.toArray},toks:=t'}:=
 I.laid (λ_ _ q=>zO _ q) (Ab _) ⟨N,its,0,R,Az _ rfl⟩
theorem Inv.fresh(I:Inv X pins σ H s):H s.heap.objs.size=none:=I.j.fresh (Ab _)
def Inv.Zf(I:Inv X pins σ H s)(N:H l=some (.b xs)):xs.length<=AI/\∃its n,Vals xs its/\xs.length=its.length/\s.heap.get? l=some {cls:=.type "list",data:=.seq its.toArray n}:=by obtain⟨z,its,n,r,e⟩:=I.j l _ N;exact⟨z,its,n,r,r.length,e⟩
def cJ(h:n<=AI):EW n=false:=by unfold EW;exact decide_eq_false ⋯
section
variable {X:Cx}
def YF:V->List V->Hp->VK->Prop:=λx vs H Q=>∃l xs y,x=.c l/\vs=[y]/\H l=some (.b xs)/\xs.length<AI/\Q .g (upd H l (.b (xs++[y])))
def gU:MtM X "list.append" YF:=by
 intro pins s σ H x vs v us Q I R S h;obtain⟨l,xs,y,rfl,rfl,N,W,q⟩:=h;cases R;obtain⟨u,rfl,U⟩:=S.one;obtain⟨z,its,n,r,Y,e⟩:=I.Zf N;refine Df F.slot_list_append ⟨_,e,rfl⟩ F.entry_list_append (F.args_list_append_2 _ _) (PySem.list_append l its.toArray n u (by rw[Ae];omega)) ⟨e,?_⟩
 refine⟨.g,_,I.RX (its':=its++[u]) N e (by simp) (r.append (.cons U .nil)) ?_,rfl,q⟩
 rw[As,Bw];omega
def Rj:R2:=λx y H Q=>∃l b xs zs,x=.c l/\y=.c b/\H l=some (.b xs)/\H b=some (.b zs)/\xs.length+zs.length<=AI/\∀p,H p=none->Q (.c p) (upd H p (.b (xs++zs)))
def VD:OpR X (BZ .Add) Rj:=by
 intro pins s σ H x y v u Q I S R h;obtain⟨l,b,xs,zs,rfl,rfl,Y,Z,hz,q⟩:=h;cases S;cases R;obtain⟨z,its,n,r,hl,e⟩:=I.Zf Y;obtain⟨z2,N,n2,U,W,e2⟩:=I.Zf Z;refine PySem.P.add_list e e2 ?_ (by rw[Ae,Ae];omega)
 have ea:its.toArray++N.toArray=(its++N).toArray:=by simp
 rw[ea];exact⟨.c _,_,I.TX (t':=s.toks) (r.append U) (by rw[As];omega),rfl,q _ I.fresh⟩
def Rk:R2:=λx y H Q=>∃l k xs,x=.c l/\y=.d k/\H l=some (.b xs)∧-(2 ^ 63)<=k/\k<2 ^ 63/\xs.length*k.toNat<=AI /\
 ∀p,H p=none->Q (.c p) (upd H p (.b (AR k.toNat xs).flatten))
def len_rep{N:Type}(xs:List N)k:(AR k xs).flatten.length=k*xs.length:=by
 induction k with
 |zero=>simp
 |succ k R=>rw[Cw,DA,As,R,Nat.succ_mul,Nat.add_comm]
def VI:OpR X (BZ .Mult) Rk:=by
 intro pins s σ H x y v u Q I rx ry h;obtain⟨l,k,xs,rfl,rfl,hH,h1,h2,hz,q⟩:=h;cases rx;obtain⟨t,rfl⟩:=ry;obtain⟨z,its,n,r,hl,e⟩:=I.Zf hH;have S:its.toArray.size*k.toNat<=AI:=by rw[Ae,<-hl];exact hz
 have Y:¬its.toArray.size*k.toNat > (2 ^ 63-1)/8:=by
  have:(AI:Nat)<=(2 ^ 63-1)/8:=by decide
  omega
 have W:¬(!Builtin.List.listFitsIndex k)=true:=by rw[fitsIndex_both h1 h2];exact Ag
 have N:¬EW (its.toArray.size*k.toNat)=true:=by rw[cJ S];exact Ag
 have R:Eu (λx1 Z=>x1++Z) #[] (AR (if its.toArray.isEmpty=true then 0 else k.toNat) its.toArray)=(AR k.toNat its).flatten.toArray:=by
  have f0:∀m:Nat,Eu (λx1 Z=>x1++Z) #[] (AR m its.toArray)=(AR m its).flatten.toArray:=λm=>by have:=foldl_rep its m [];rw[DZ]at this;exact this
  rw[f0];cases its with
  |nil=>simp
  |cons a r'=>rw[if_neg (by simp)]
 refine DF (T:="list") (U:="int") (by decide) ⟨_,e,rfl⟩ (λs'=>DY s' k t) noFill_list_mul FR CP repeat_list Fy.lookup
  (Df CP (DY s k t) Fz (Ff _ _) (int___rmul___int_list k t l its.toArray n)
   ⟨e,rfl,⟨_,e,rfl⟩,Df F.slot_list_mul ⟨_,e,rfl⟩ F.entry_list_mul (F.args_list_mul_2 _ _) (AutoListH.list___mul___list_int_3 l its.toArray n k t W Y N) ⟨e,?_⟩⟩)
 rw[R];exact⟨.c _,_,I.TX (t':=s.toks) (r.rep k.toNat) (by rw[len_rep,BV];exact hz),rfl,q _ I.fresh⟩
end
end L2
namespace Att
open PySem PySem.W PySem.Calls PyProof.Rows
def sN:∀ns vs,WellAll P h vs (ns.map WData.int)->IntsAre vs ns:=by
 intro ns;induction ns with
 |nil=>
  intro vs w;rw[FT]at w;cases w;exact .nil
 |cons n ns N=>
  intro vs w;rw[AF]at w;cases w with
  |cons a b=>
   cases a;exact .cons _ _ (N _ b)
def fJ{l:OpenLaw}(hn:l.most=some n)
 (N:l.row.toRowW.claim.pre args=true) (X:WellAll P h vals args) :
 ∃a vs ns,vals=[Bb a]/\args=[WData.list (ns.map WData.int)]/\h.get? a=some {cls:=.type "list",data:=.seq vs.toArray}/\IntsAre vs ns/\ns.length<=n:=by
 have Y:WShape.hasAll [] args [.list .int]=true:=(pre_splitW N).1;have Z:l.pre.holds [] {args:=args}=true:=(pre_splitW N).2;obtain⟨d,r,rfl,h1,h2⟩:=hasAllW_cons Y;obtain rfl:=hasAllW_nil h2;obtain⟨xs,rfl,h3⟩:=hasW_list h1;obtain⟨ns,rfl⟩:=items_int h3;have R:ns.length<=n:=by
  unfold OpenLaw.pre at Z;have W:(WTm.not (.lt (.lit (.int (n:Int))) (.len (.arg 0)))).holds [] {args:=[.list (ns.map .int)]}=true:=by have W:=(holds_andW Z).1;rw[hn]at W;exact W
  have U:=condW_of W (w_not (w_lt w_lit (w_len_list (w_arg rfl))));rw[Aa]at U;refine Nat.le_of_not_lt λq=>?_;have q':(n:Int)<((ns.length:Nat):Int):=by omega
  first
   |(rw[decide_eq_true q']at U;exact absurd U (by decide))
   |(simp at U;omega)
 cases X with
 |cons w1 w2=>
  cases w2;cases w1 with
  |list ho S=>exact⟨_,_,ns,rfl,rfl,ho,sN ns _ S,R⟩
def fE(l:OpenLaw)args:l.row.toRowW.claim.post args (.bool true) args=true:=
 postW_of (r:=l.row.toRowW) (X:=(true == true))
  (show WShape.has [] (.bool true) .bool=true by first|rfl|decide|simp[WShape.has,WShape.arms,WShape.armsAll])
  (show (WTm.eq .res (.lit (.bool true))).value [] {args:=args,res:=some (.bool true),after:=args}=some (.bool (true == true)) from w_eq_bool (w_res rfl) w_lit) rfl
def nI{l:OpenLaw}
 (hn:l.most=some n) (hdf:d.params.defaults=[])
 (call:∀w R N mg mb Z o pm cd doc a vs ns,
  Ground q loose [] XP w R mg mb N.heap->YP w N.heap ->
  N.heap.get? Z=some o->o.data=.func (docDef d.name d.params d.body d.scope pm cd doc)->N.heap.CodeRec cd d.name->mg d.name=some (.ref Z) ->
  N.heap.get? a=some {cls:=.type "list",data:=.seq vs.toArray}->IntsAre vs ns->ns.length<=n->N.gens=#[] ->
  codeAny (model l.prog w) callerA (.call (.ref Z) ⟨[.ref a],[]⟩) (λr s'=>r=.ok (.ret (.bool true))/\OldK N.heap s'.heap/\s'.os=N.os/\AllBare s'.gens) N) :
 WalkO q loose XP YP l.row.toRowW d [] (λf vs=>PySem.call f vs):=by
 intro w R N mg mb G Y Z o pm cd doc dV kV ho hd hcd hD hmg hg args vals as U hlay hrd hwl hlo;obtain rfl:dV=.none:=Dflts.none hD hdf;obtain rfl:kV=.none:=Dflts.noKw hD;obtain⟨a,vs,ns,rfl,rfl,W,S,X⟩:=fJ hn U hwl;refine enter_call (FQ (call w R N mg mb Z o pm cd doc a vs ns G Y ho (fd_plain hd) hcd hmg W S X hg) λr s' hq=>?_);obtain⟨rfl,h2,h3,h4⟩:=hq;exact⟨.inl ⟨.bool true,.bool true,[],rfl,λ_=>rfl,.bool true,fE l _,λ_=>⟨GR,λ_ hm=>(nomatch hm)⟩⟩,h2,h3,h4⟩
end Att
namespace L2
open PySem PySem.Spec PyProof.Rows
theorem pM:∀{vs} {ns},IntsAre vs ns->Vals (ns.map V.d) vs
 |_,_,.nil=>.nil
 |_,_,.cons n t h=>.cons ⟨t,rfl⟩ (pM h)
end L2
/- THE LAST THEOREM (shape;LID,My.* are yours):
   My.Adr: a structure of the addresses that your layer names (classes,functions);My.Txt K t: a structure (Prop) of the equations over K;
   My.txt_mk:{K} {implicit addresses ..} (e1:nsIn K Bq "law"=some (some (.ref f))) (e2:K.lookup f=some ⟨oc,od,.func (fnOf "law" "law" params body scope dV kV doc pm an cdv ct),sl⟩) (e3:codeIn K cdv "law"=true) ..:∃t,My.Txt K t
(the tactic k_is has no namespace: write k_is) -/
namespace L2
open PySem PySem.Spec PyProof.Rows
noncomputable def wK(s:Stmt):Arguments:=match s with
 |.FunctionDef _ a _ _ _ _ _ _ _ _=>a
 |_=>{posonlyargs:=[],args:=[],vararg:=none,kwonlyargs:=[],kw_defaults:=[],kwarg:=none,defaults:=[]}
noncomputable def xH(s:Stmt):List Stmt:=match s with
 |.FunctionDef _ _ b _ _ _ _ _ _ _=>b
 |_=>[]
noncomputable def zw(s:Stmt):Scope:=match s with
 |.FunctionDef _ _ _ _ _ _ sc _ _ _=>sc
 |_=>{kind:=.function,names:=[],isGenerator:=false,isCoroutine:=false}
abbrev CX0:CXT:=λ_ _ _ _ _ _=>False
abbrev E0:XK:=λ_ _ _=>False
def XI:Passes CX0 X E0:=λ_ _ _ _ _ _ _ h=>h.elim
structure Fun(K:AG)(x qual:Str)(st:Stmt)(f:Addr)(fd:Ea):Prop where
 a:∃(oc:Value) (od:Option Addr) (kV doc pm:Value) (an:Option Addr) (cdv ct:Value) (osl:Array (Option Value)),
  fd=Cz x qual (wK st) (xH st) (zw st) .none kV doc pm an cdv ct/\K.lookup f=some ⟨oc,od,.func fd,osl⟩/\C7 K cdv qual=true
 kp:C8 K (.ref f)=true
def Fun.binds{K:AG}{st}{ps:List Str}(F:Fun K x qual st f fd)
 (h:∀kV doc pm an cdv ct (us:List Value),us.length=ps.length->bindArgs (Cz x qual (wK st) (xH st) (zw st) .none kV doc pm an cdv ct) ⟨us,[]⟩=pure (ps.zip us)):Binds K fd ps []:=by
 obtain⟨oc,od,kV,doc,pm,an,cdv,ct,osl,rfl,lk,N⟩:=F.a;exact .all (h kV doc pm an cdv ct)
def WC{K:AG}{st}{kV doc pm cdv ct}(l:K.lookup f=some ⟨oc,od,.func (Cz x qual (wK st) (xH st) (zw st) .none kV doc pm an cdv ct),osl⟩)
 (c:C7 K cdv qual=true) (k:C8 K (.ref f)=true):Fun K x qual st f (Cz x qual (wK st) (xH st) (zw st) .none kV doc pm an cdv ct):=⟨⟨oc,od,kV,doc,pm,an,cdv,ct,osl,rfl,l,c⟩,k⟩
def oA{A B:Prop}(h:B):if false=true then A else B:=by rw[if_neg Ag];exact h
def oB{A B:Prop}(h:A):if true=true then A else B:=by rw[if_pos rfl];exact h
def sm(H H':Hp):Prop:=∀b o,H b=some o->H' b=some o
def sm.refl H:sm H H:=λ_ _ h=>h
end L2
end
section
namespace M
open PySem
noncomputable def el(a n:Nat)(f:a=n->Bool):Bool:=if h:a=n then f h else false
def yJ(h:el a n f=true):∃N,f N=true:=by
 unfold el at h;by_cases N:a=n
 . rw[dif_pos N]at h;exact⟨N,h⟩
 . rw[dif_neg N]at h;cases h
def Y1(e:Expr)(k:BoolOp->List Expr->Pos->Bool):Bool:=el e.ctorIdx 0 λh=>Expr.BoolOp.elim (motive_1:=λ_=>Bool) e h k
def hU(h:Y1 e k=true):∃o xs p,e=.BoolOp o xs p/\k o xs p=true:=by obtain⟨N,h⟩:=yJ h;obtain⟨o,xs,p,rfl⟩:∃o xs p,e=.BoolOp o xs p:=Expr.BoolOp.elim (motive_1:=λe=>∃o xs p,e=Expr.BoolOp o xs p) e N λo xs p=>⟨o,xs,p,rfl⟩;exact⟨o,xs,p,rfl,h⟩
def Ui(e:Expr)(k:Expr->Operator->Expr->Pos->Bool):Bool:=el e.ctorIdx 2 λh=>Expr.BinOp.elim (motive_1:=λ_=>Bool) e h k
def eM(h:Ui e k=true):∃l o r p,e=.BinOp l o r p/\k l o r p=true:=by obtain⟨N,h⟩:=yJ h;obtain⟨l,o,r,p,rfl⟩:∃l o r p,e=.BinOp l o r p:=Expr.BinOp.elim (motive_1:=λe=>∃l o r p,e=Expr.BinOp l o r p) e N λl o r p=>⟨l,o,r,p,rfl⟩;exact⟨l,o,r,p,rfl,h⟩
def eUn(e:Expr)(k:UnaryOp->Expr->Pos->Bool):Bool:=el e.ctorIdx 3 λh=>Expr.UnaryOp.elim (motive_1:=λ_=>Bool) e h k
def av(h:eUn e k=true):∃o x p,e=.UnaryOp o x p/\k o x p=true:=by obtain⟨N,h⟩:=yJ h;obtain⟨o,x,p,rfl⟩:∃o x p,e=.UnaryOp o x p:=Expr.UnaryOp.elim (motive_1:=λe=>∃o x p,e=Expr.UnaryOp o x p) e N λo x p=>⟨o,x,p,rfl⟩;exact⟨o,x,p,rfl,h⟩
def Uk(e:Expr)(k:Expr->Expr->Expr->Pos->Bool):Bool:=el e.ctorIdx 5 λh=>Expr.IfExp.elim (motive_1:=λ_=>Bool) e h k
def eQ(h:Uk e k=true):∃t x y p,e=.IfExp t x y p/\k t x y p=true:=by obtain⟨N,h⟩:=yJ h;obtain⟨t,x,y,p,rfl⟩:∃t x y p,e=.IfExp t x y p:=Expr.IfExp.elim (motive_1:=λe=>∃t x y p,e=Expr.IfExp t x y p) e N λt x y p=>⟨t,x,y,p,rfl⟩;exact⟨t,x,y,p,rfl,h⟩
def Uj(e:Expr)(k:List (Option Expr)->List Expr->Pos->Bool):Bool:=el e.ctorIdx 6 λh=>Expr.Dict.elim (motive_1:=λ_=>Bool) e h k
def eP(h:Uj e k=true):∃ks vs p,e=.Dict ks vs p/\k ks vs p=true:=by obtain⟨N,h⟩:=yJ h;obtain⟨ks,vs,p,rfl⟩:∃ks vs p,e=.Dict ks vs p:=Expr.Dict.elim (motive_1:=λe=>∃ks vs p,e=Expr.Dict ks vs p) e N λks vs p=>⟨ks,vs,p,rfl⟩;exact⟨ks,vs,p,rfl,h⟩
def X1(e:Expr)(k:Expr->List Dw->Scope->Pos->Bool):Bool:=el e.ctorIdx 8 λh=>Gr (motive_1:=λ_=>Bool) e h k
def nU(h:X1 e k=true):∃x N sc p,e=.ListComp x N sc p/\k x N sc p=true:=by obtain⟨R,h⟩:=yJ h;obtain⟨x,N,sc,p,rfl⟩:∃x N sc p,e=.ListComp x N sc p:=Gr (motive_1:=λe=>∃x N sc p,e=Expr.ListComp x N sc p) e R λx N sc p=>⟨x,N,sc,p,rfl⟩;exact⟨x,N,sc,p,rfl,h⟩
def X3(e:Expr)(k:Expr->List CmpOp->List Expr->Pos->Bool):Bool:=el e.ctorIdx 15 λh=>GS (motive_1:=λ_=>Bool) e h k
def nV(h:X3 e k=true):∃l os N p,e=.Compare l os N p/\k l os N p=true:=by obtain⟨R,h⟩:=yJ h;obtain⟨l,os,N,p,rfl⟩:∃l os N p,e=.Compare l os N p:=GS (motive_1:=λe=>∃l os N p,e=Expr.Compare l os N p) e R λl os N p=>⟨l,os,N,p,rfl⟩;exact⟨l,os,N,p,rfl,h⟩
def eN(e:Expr)(k:Expr->List Expr->List Keyword->Pos->Bool):Bool:=el e.ctorIdx 16 λh=>Expr.Call.elim (motive_1:=λ_=>Bool) e h k
def ql(h:eN e k=true):∃f xs ks p,e=.Call f xs ks p/\k f xs ks p=true:=by obtain⟨N,h⟩:=yJ h;obtain⟨f,xs,ks,p,rfl⟩:∃f xs ks p,e=.Call f xs ks p:=Expr.Call.elim (motive_1:=λe=>∃f xs ks p,e=Expr.Call f xs ks p) e N λf xs ks p=>⟨f,xs,ks,p,rfl⟩;exact⟨f,xs,ks,p,rfl,h⟩
def RN(e:Expr)(k:Expr->Int->Option Expr->Pos->Bool):Bool:=el e.ctorIdx 17 λh=>Expr.FormattedValue.elim (motive_1:=λ_=>Bool) e h k
def eJn(e:Expr)(k:List Expr->Pos->Bool):Bool:=el e.ctorIdx 18 λh=>Expr.JoinedStr.elim (motive_1:=λ_=>Bool) e h k
def X2(e:Expr)(k:Const->Nat->Pos->Bool):Bool:=el e.ctorIdx 19 λh=>Io.elim (motive_1:=λ_=>Bool) e h k
def eO(h:X2 e k=true):∃c n p,e=.Constant c n p/\k c n p=true:=by obtain⟨N,h⟩:=yJ h;obtain⟨c,n,p,rfl⟩:∃c n p,e=.Constant c n p:=Io.elim (motive_1:=λe=>∃c n p,e=Io c n p) e N λc n p=>⟨c,n,p,rfl⟩;exact⟨c,n,p,rfl,h⟩
def Uh(e:Expr)(k:Expr->Str->Pos->Bool):Bool:=el e.ctorIdx 20 λh=>HV.elim (motive_1:=λ_=>Bool) e h k
def eL(h:Uh e k=true):∃o x p,e=.Attribute o x p/\k o x p=true:=by obtain⟨N,h⟩:=yJ h;obtain⟨o,x,p,rfl⟩:∃o x p,e=.Attribute o x p:=HV.elim (motive_1:=λe=>∃o x p,e=HV o x p) e N λo x p=>⟨o,x,p,rfl⟩;exact⟨o,x,p,rfl,h⟩
def au(e:Expr)(k:Expr->Expr->Pos->Bool):Bool:=el e.ctorIdx 21 λh=>HW.elim (motive_1:=λ_=>Bool) e h k
def rH(h:au e k=true):∃l r p,e=.Subscript l r p/\k l r p=true:=by obtain⟨N,h⟩:=yJ h;obtain⟨l,r,p,rfl⟩:∃l r p,e=.Subscript l r p:=HW.elim (motive_1:=λe=>∃l r p,e=HW l r p) e N λl r p=>⟨l,r,p,rfl⟩;exact⟨l,r,p,rfl,h⟩
def eName(e:Expr)(k:Str->Pos->Bool):Bool:=el e.ctorIdx 23 λh=>FH.elim (motive_1:=λ_=>Bool) e h k
def yp(h:eName e k=true):∃x p,e=.Name x p/\k x p=true:=by obtain⟨N,h⟩:=yJ h;obtain⟨x,p,rfl⟩:∃x p,e=.Name x p:=FH.elim (motive_1:=λe=>∃x p,e=FH x p) e N λx p=>⟨x,p,rfl⟩;exact⟨x,p,rfl,h⟩
def Ul(e:Expr)(k:List Expr->Pos->Bool):Bool:=el e.ctorIdx 24 λh=>Expr.List.elim (motive_1:=λ_=>Bool) e h k
def eR(h:Ul e k=true):∃xs p,e=.List xs p/\k xs p=true:=by obtain⟨N,h⟩:=yJ h;obtain⟨xs,p,rfl⟩:∃xs p,e=.List xs p:=Expr.List.elim (motive_1:=λe=>∃xs p,e=Expr.List xs p) e N λxs p=>⟨xs,p,rfl⟩;exact⟨xs,p,rfl,h⟩
def eU(e:Expr)(k:List Expr->Nat->Pos->Bool):Bool:=el e.ctorIdx 25 λh=>HE (motive_1:=λ_=>Bool) e h k
def ug(h:eU e k=true):∃xs n p,e=.Tuple xs n p/\k xs n p=true:=by obtain⟨N,h⟩:=yJ h;obtain⟨xs,n,p,rfl⟩:∃xs n p,e=.Tuple xs n p:=HE (motive_1:=λe=>∃xs n p,e=Expr.Tuple xs n p) e N λxs n p=>⟨xs,n,p,rfl⟩;exact⟨xs,n,p,rfl,h⟩
def Um(e:Expr)(k:Option Expr->Option Expr->Option Expr->Pos->Bool):Bool:=el e.ctorIdx 26 λh=>Expr.Slice.elim (motive_1:=λ_=>Bool) e h k
def eT(h:Um e k=true):∃x y z p,e=.Slice x y z p/\k x y z p=true:=by obtain⟨N,h⟩:=yJ h;obtain⟨x,y,z,p,rfl⟩:∃x y z p,e=.Slice x y z p:=Expr.Slice.elim (motive_1:=λe=>∃x y z p,e=Expr.Slice x y z p) e N λx y z p=>⟨x,y,z,p,rfl⟩;exact⟨x,y,z,p,rfl,h⟩
def Sh(e:Stmt)(k:Option Expr->Pos->Bool):Bool:=el e.ctorIdx 3 λh=>Stmt.Return.elim (motive_2:=λ_=>Bool) e h k
def br(h:Sh e k=true):∃o p,e=.Return o p/\k o p=true:=by obtain⟨N,h⟩:=yJ h;obtain⟨o,p,rfl⟩:∃o p,e=.Return o p:=Stmt.Return.elim (motive_2:=λe=>∃o p,e=Stmt.Return o p) e N λo p=>⟨o,p,rfl⟩;exact⟨o,p,rfl,h⟩
def bj(e:Stmt)(k:List Expr->Expr->Pos->Bool):Bool:=el e.ctorIdx 5 λh=>Stmt.Assign.elim (motive_2:=λ_=>Bool) e h k
def tE(h:bj e k=true):∃ts v p,e=.Assign ts v p/\k ts v p=true:=by obtain⟨N,h⟩:=yJ h;obtain⟨ts,v,p,rfl⟩:∃ts v p,e=.Assign ts v p:=Stmt.Assign.elim (motive_2:=λe=>∃ts v p,e=Stmt.Assign ts v p) e N λts v p=>⟨ts,v,p,rfl⟩;exact⟨ts,v,p,rfl,h⟩
def Sg(e:Stmt)(k:Expr->Expr->List Stmt->List Stmt->Pos->Bool):Bool:=el e.ctorIdx 9 λh=>Stmt.For.elim (motive_2:=λ_=>Bool) e h k
def bq(h:Sg e k=true):∃t i b c p,e=.For t i b c p/\k t i b c p=true:=by obtain⟨N,h⟩:=yJ h;obtain⟨t,i,b,c,p,rfl⟩:∃t i b c p,e=.For t i b c p:=Stmt.For.elim (motive_2:=λe=>∃t i b c p,e=Stmt.For t i b c p) e N λt i b c p=>⟨t,i,b,c,p,rfl⟩;exact⟨t,i,b,c,p,rfl,h⟩
def sIf(e:Stmt)(k:Expr->List Stmt->List Stmt->Pos->Bool):Bool:=el e.ctorIdx 12 λh=>Stmt.If.elim (motive_2:=λ_=>Bool) e h k
def YN(h:sIf e k=true):∃c a b p,e=.If c a b p/\k c a b p=true:=by obtain⟨N,h⟩:=yJ h;obtain⟨c,a,b,p,rfl⟩:∃c a b p,e=.If c a b p:=Stmt.If.elim (motive_2:=λe=>∃c a b p,e=Stmt.If c a b p) e N λc a b p=>⟨c,a,b,p,rfl⟩;exact⟨c,a,b,p,rfl,h⟩
def sRs(e:Stmt)(k:Option Expr->Option Expr->Pos->Bool):Bool:=el e.ctorIdx 16 λh=>Stmt.Raise.elim (motive_2:=λ_=>Bool) e h k
def Sf(e:Stmt)(k:Expr->Pos->Bool):Bool:=el e.ctorIdx 24 λh=>Stmt.Expr.elim (motive_2:=λ_=>Bool) e h k
def bp(h:Sf e k=true):∃x p,e=.Expr x p/\k x p=true:=by obtain⟨N,h⟩:=yJ h;obtain⟨x,p,rfl⟩:∃x p,e=.Expr x p:=Stmt.Expr.elim (motive_2:=λe=>∃x p,e=Stmt.Expr x p) e N λx p=>⟨x,p,rfl⟩;exact⟨x,p,rfl,h⟩
noncomputable def l1{N:Type}(xs:List N)(k:N->Bool):Bool:=match xs with
 |[x]=>k x
 |_=>false
def yU(h:l1 xs k=true):∃x,xs=[x]/\k x=true:=by
 cases xs with
 |nil=>cases h
 |cons x xs=>cases xs with
  |nil=>exact⟨x,rfl,h⟩
  |cons _ _=>cases h
noncomputable def lc{N:Type}(xs:List N)(k:N->List N->Bool):Bool:=match xs with
 |x::xs=>k x xs
 |[]=>false
def xA(h:lc xs k=true):∃x ys,xs=x::ys/\k x ys=true:=by
 cases xs with
 |nil=>cases h
 |cons x ys=>exact⟨x,ys,rfl,h⟩
def W0{xs}{k:α->α->Bool}(h:(lc xs λx ys=>l1 ys (k x))=true):∃x y,xs=[x,y]/\k x y=true:=by obtain⟨x,ys,rfl,h⟩:=xA h;obtain⟨y,rfl,h⟩:=yU h;exact⟨x,y,rfl,h⟩
noncomputable def o1{N:Type}(x:Option N)(k:N->Bool):Bool:=match x with
 |some x=>k x
 |none=>false
def cP(h:o1 x k=true):∃y,x=some y/\k y=true:=by
 cases x with
 |none=>cases h
 |some x=>exact⟨x,rfl,h⟩
def yg(h:(a&&b)=true):a=true/\b=true:=by
 cases a with
 |false=>cases h
 |true=>exact⟨rfl,h⟩
def eOp(u:UnaryOp)(e:Expr)(k:Expr->Bool):Bool:=eUn e λo x _=>decide (o=u)&&k x
def ph(h:eOp u e k=true):∃x p,e=.UnaryOp u x p/\k x=true:=by obtain⟨o,x,p,rfl,R⟩:=av h;obtain⟨S,N⟩:=yg R;cases of_decide_eq_true S;exact⟨x,p,rfl,N⟩
def eBl(u:BoolOp)(e:Expr)(k:Expr->List Expr->Bool):Bool:=Y1 e λo xs _=>decide (o=u)&&lc xs k
def pf(h:eBl u e k=true):∃x xs p,e=.BoolOp u (x::xs) p/\k x xs=true:=by obtain⟨o,xs,p,rfl,S⟩:=hU h;obtain⟨U,R⟩:=yg S;cases of_decide_eq_true U;obtain⟨x,ys,rfl,N⟩:=xA R;exact⟨x,ys,p,rfl,N⟩
def eC1(e:Expr)(k:Expr->CmpOp->Expr->Bool):Bool:=X3 e λl os N _=>l1 os λo=>l1 N λr=>k l o r
def jd(h:eC1 e k=true):∃l o r p,e=.Compare l [o] [r] p/\k l o r=true:=by obtain⟨l,os,N,p,rfl,h⟩:=nV h;obtain⟨o,rfl,h⟩:=yU h;obtain⟨r,rfl,h⟩:=yU h;exact⟨l,o,r,p,rfl,h⟩
def eC2(e:Expr)(k:Expr->CmpOp->CmpOp->Expr->Expr->Bool):Bool:=X3 e λl os N _=>lc os λo os=>l1 os λS=>lc N λr N=>l1 N λR=>k l o S r R
def jf(h:eC2 e k=true):∃l o R r N p,e=.Compare l [o,R] [r,N] p/\k l o R r N=true:=by obtain⟨l,os,S,p,rfl,h⟩:=nV h;obtain⟨o,os,rfl,h⟩:=xA h;obtain⟨R,rfl,h⟩:=yU h;obtain⟨r,S,rfl,h⟩:=xA h;obtain⟨N,rfl,h⟩:=yU h;exact⟨l,o,R,r,N,p,rfl,h⟩
def eD0(e:Expr):Bool:=Uj e λks vs _=>ks.isEmpty&&vs.isEmpty
def ai(h:eD0 e=true):∃p,e=.Dict [] [] p:=by obtain⟨ks,vs,p,rfl,h⟩:=eP h;obtain⟨R,N⟩:=yg h;rw[Br.mp R,Br.mp N];exact⟨p,rfl⟩
def eCN(e:Expr)(k:Str->List Expr->Bool):Bool:=eN e λf xs ks _=>ks.isEmpty&&eName f λx _=>k x xs
def xg(h:eCN e k=true):∃x p xs pos,e=.Call (.Name x p) xs [] pos/\k x xs=true:=by obtain⟨f,xs,ks,pos,rfl,h⟩:=ql h;obtain⟨N,h⟩:=yg h;obtain⟨x,p,rfl,h⟩:=yp h;rw[Br.mp N];exact⟨x,p,xs,pos,rfl,h⟩
def eMt(e:Expr)(k:Expr->Str->Pos->Expr->Pos->Bool):Bool:=eN e λf xs ks R=>ks.isEmpty&&Uh f λN x ap=>l1 xs λy=>k N x ap y R
def aj(h:eMt e k=true):∃N x ap y R,e=.Call (.Attribute N x ap) [y] [] R/\k N x ap y R=true:=by obtain⟨f,xs,ks,pos,rfl,h⟩:=ql h;obtain⟨S,h⟩:=yg h;obtain⟨N,x,ap,rfl,h⟩:=eL h;obtain⟨y,rfl,h⟩:=yU h;rw[Br.mp S];exact⟨N,x,ap,y,pos,rfl,h⟩
def eSS(e:Expr)(k:Expr->Option Expr->Option Expr->Option Expr->Bool):Bool:=au e λl r _=>Um r λx y z _=>k l x y z
def aq(h:eSS e k=true):∃l x y z p pos,e=.Subscript l (.Slice x y z p) pos/\k l x y z=true:=by obtain⟨l,r,pos,rfl,h⟩:=rH h;obtain⟨x,y,z,p,rfl,h⟩:=eT h;exact⟨l,x,y,z,p,pos,rfl,h⟩
noncomputable def gC(g:Dw)(k:Expr->Expr->List Expr->Bool):Bool:=decide (g.is_async=0)&&k g.target g.iter g.ifs
def rQ(h:gC g k=true):∃t i f,g=⟨t,i,f,0⟩/\k t i f=true:=by obtain⟨t,i,f,a⟩:=g;obtain⟨N,h⟩:=yg h;have N:a=0:=of_decide_eq_true N;subst N;exact⟨t,i,f,rfl,h⟩
def eG1(e:Expr)(k:Expr->Expr->Expr->List Expr->Scope->Bool):Bool:=X1 e λx N sc _=>l1 N λg=>gC g λt i f=>k x t i f sc
def jg(h:eG1 e k=true):∃x t i f sc p,e=.ListComp x [⟨t,i,f,0⟩] sc p/\k x t i f sc=true:=by obtain⟨x,U,sc,p,rfl,S⟩:=nU h;obtain⟨g,rfl,R⟩:=yU S;obtain⟨t,i,f,rfl,N⟩:=rQ R;exact⟨x,t,i,f,sc,p,rfl,N⟩
def eG2(e:Expr)(k:Expr->Expr->Expr->List Expr->Expr->Expr->List Expr->Scope->Bool):Bool:=X1 e λx N sc _=>lc N λg N=>l1 N λS=>gC g λt i f=>gC S λR i2 f2=>k x t i f R i2 f2 sc
def jh(h:eG2 e k=true):∃x t i f N i2 f2 sc p,e=.ListComp x [⟨t,i,f,0⟩,⟨N,i2,f2,0⟩] sc p/\k x t i f N i2 f2 sc=true:=by obtain⟨x,Y,sc,p,rfl,X⟩:=nU h;obtain⟨g,Y,rfl,W⟩:=xA X;obtain⟨Z,rfl,U⟩:=yU W;obtain⟨t,i,f,rfl,S⟩:=rQ U;obtain⟨N,i2,f2,rfl,R⟩:=rQ S;exact⟨x,t,i,f,N,i2,f2,sc,p,rfl,R⟩
end M
end
section
namespace L2
open PySem PySem.Spec PyProof.Rows
noncomputable def vT(cells:List (Str × Addr)):List (Str × Gb)->List (Str × Addr)->List (Str × Addr)
 |[],acc=>acc
 |(n,k)::r,acc=>if k == .free then (match cells.lookup n with|some c=>vT cells r ((n,c)::acc)|none=>vT cells r acc) else vT cells r acc
theorem uD:∀names acc,(∀x∈names,x.2=.free->∃c,env.cells.lookup x.1=some c) ->
 (forIn names acc λx cs =>(if x.2 == .free then do let a <-cellOf env x.1;pure (CQ ((x.1,a)::cs)) else pure (CQ cs):Sem (ForInStep (List (Str × Addr)))))=pure (vT env.cells names acc)
 |[],acc,_=>rfl
 |(n,k)::r,acc,h=>by
  rw[EN];dsimp only;unfold vT;by_cases hk:(k == A6)=true
  . have S:k=.free:=by simpa using hk
    obtain⟨c,U⟩:=h (n,k) AE S;have R:env.cells.lookup n=some c:=U;have N:cellOf env n=pure c:=by unfold cellOf;rw[R]
    rw[if_pos hk,if_pos hk,N,R,FI,FI];exact uD r _ λx hx=>h x (Ay _ hx)
  . rw[if_neg hk,if_neg hk,FI]
    exact uD r _ λx hx=>h x (Ay _ hx)
def wW(h:∀x∈scope.names,x.2=.free->∃c,env.cells.lookup x.1=some c):closureFor scope env=pure (vT env.cells scope.names []):=by
 have e:=uD (env:=env) scope.names [] h;show (do let cs <-forIn scope.names [] _;pure cs)=_
 refine Gd ?_ e;refine Gd (bind_pure _) ?_;congr 1
theorem ud:∀names acc,(∀x c,acc.lookup x=some c->cells.lookup x=some c)->∀x c,(vT cells names acc).lookup x=some c->cells.lookup x=some c
 |[],acc,h,x,c,e=>h x c e
 |(n,k)::r,acc,h,x,c,e=>by
  unfold vT at e;by_cases hk:(k == A6)=true
  . rw[if_pos hk]at e
    cases hc:cells.lookup n with
    |none=>rw[hc]at e;exact ud r acc h x c e
    |some d=>
     rw[hc]at e;refine ud r _ (λy z q=>?_) x c e;rw[AB]at q;cases hy:(y == n) with
     |true=>rw[hy]at q;have N:y=n:=by simpa using hy
            cases q;rw[N];exact hc
     |false=>rw[hy]at q;exact h y z q
  . rw[if_neg hk]at e;exact ud r acc h x c e
theorem wc:∀names acc x c,cells.lookup x=some c->(acc.lookup x=some c\/(x,A6)∈names)->(∀y d,acc.lookup y=some d->cells.lookup y=some d)->(vT cells names acc).lookup x=some c
 |[],acc,x,c,_,h,_=>by
  rcases h with h|h
  . exact h
  . cases h
 |(n,k)::r,acc,x,c,hc,h,ha=>by
  unfold vT;by_cases hk:(k == A6)=true
  . rw[if_pos hk]
    cases hn:cells.lookup n with
    |none=>
     refine wc r acc x c hc ?_ ha;rcases h with h|h
     . exact .inl h
     . rcases Al.mp h with e|e
       . cases e;rw[hn]at hc;cases hc
       . exact .inr e
    |some d=>
     have N:∀y z,((n,d)::acc).lookup y=some z->cells.lookup y=some z:=λy z q=>by
      rw[AB]at q;cases hy:(y == n) with
      |true=>rw[hy]at q;have R:y=n:=by simpa using hy
             cases q;rw[R];exact hn
      |false=>rw[hy]at q;exact ha y z q
     by_cases hx:x=n
     . subst hx
       refine wc r _ x c hc (.inl ?_) N;rw[hn]at hc;cases hc;simp[AB]
     . refine wc r _ x c hc ?_ N
       rcases h with h|h
       . refine .inl ?_
         have:(x == n)=false:=by simpa using hx
         rw[AB,this];exact h
       . rcases Al.mp h with e|e
         . cases e;exact absurd rfl hx
         . exact .inr e
  . rw[if_neg hk]
    refine wc r acc x c hc ?_ ha;rcases h with h|h
    . exact .inl h
    . rcases Al.mp h with e|e
      . cases e;exact absurd (by decide) hk
      . exact .inr e
theorem uB:∀names n acc,DK n names acc=DK n names []++acc
 |[],_,_=>rfl
 |(x,k)::r,n,acc=>by
  unfold DK;split
  . rw[uB r (n+1) ((x,n)::acc),uB r (n+1) [(x,n)],An];rfl
  . exact uB r n acc
theorem pY:∀names n {x} {c},(x,c)∈DK n names []->(x,BB)∈names/\n<=c
 |[],_,_,_,h=>by cases h
 |(y,k)::r,n,x,c,h=>by
  unfold DK at h;split at h
  . rename_i hk
    rw[uB]at h;rcases AO.mp h with h|h
    . obtain⟨N,R⟩:=pY r (n+1) h
      exact⟨Ay _ N,⋯⟩
    . cases Av.mp h
      have:k=.cell:=by simpa using hk
      rw[this];exact⟨AE,Ab _⟩
  . obtain⟨N,R⟩:=pY r n h
    exact⟨Ay _ N,R⟩
theorem pX:∀names n {x},(x,BB)∈names->∃c,(x,c)∈DK n names []
 |[],_,_,h=>by cases h
 |(y,k)::r,n,x,h=>by
  unfold DK;rcases Al.mp h with e|h
  . cases e
    rw[if_pos (by rfl),uB]
    exact⟨n,AX _ AE⟩
  . split
    . obtain⟨c,N⟩:=pX r (n+1) h
      rw[uB];exact⟨c,Bg _ N⟩
    . exact pX r n h
def dz{l:List (Str × Addr)}:(x,c)∈l->∃d,l.lookup x=some d:=by
 induction l with
 |nil=>intro h;cases h
 |cons p r N=>
  intro h;rw[AB];cases hx:x == p.1 with
  |true=>exact⟨_,rfl⟩
  |false=>
   rcases Al.mp h with e|h
   . rw[<-e]at hx;simp at hx
   . exact N h
def lg{l m:List (Str × Addr)}{x:Str}:(l++m).lookup x=match l.lookup x with|some c=>some c|none=>m.lookup x:=by
 induction l with
 |nil=>rfl
 |cons p r N=>
  rw[Ha,AB,AB];cases hx:x == p.1 with
  |true=>rfl
  |false=>exact N
noncomputable def wC(sc:Scope)(C:Addr):List (Str × Addr):=DK (C+1) sc.names []
def Zu(h:Heap)sc:∃h',CellsOk h' (h.objs.size+1) (wC sc h.objs.size):=by
 have ok:=cellsFrom_ok sc.names (h.push {cls:=.type "dict",data:=.dict #[]}) (h.objs.size+1) [] ⟨λ_ _ N=>(nomatch N),GR⟩ (by rw[BK];exact Ab _)
 rw[BK]at ok;exact⟨_,ok⟩
abbrev Cx.comp(X:Cx)(N:List Str)(sc:Scope)(C:Addr)(s:Shared)(H:Hp)(ex:List Addr):Cx:=
 {X with N:=N,l:=s,r:=H,a:=compEnvC sc (wC sc C++vT X.a.cells sc.names []) C X.a,k:=X.j,m:=ex,n:=λx=>sc.names.any λp=>decide (p=(x,BB)),q:=[],h:=λ_ _=>False}
structure zc(X:Cx)(N:List Str)(sc:Scope)(fr:List (Option Nat)):Prop where
 b:sc.kind=.function
 e:∀x,(x,BB)∈sc.names->(x,A6)∈sc.names->False
 a:∀x∈sc.names,x.2=.local->sc.names.lookup x.1=some .local
 d:∀x∈sc.names,x.2=.free->X.a.kindOf x.1=some .cell\/X.a.kindOf x.1=some .free
 g:fr.length=N.length
 f:∀(i j:Nat) (x:Str),N[i]?=some x->fr[i]?=some (some j)->X.N[j]?=some x/\(x,A6)∈sc.names
 h:∀x,sc.names.lookup x=some .local->(x,A6)∈sc.names->False
noncomputable def zK(fr:List (Option Nat))(σ:St):St:=fr.map λo=>match o with|some j=>(σ[j]?).join|none=>none
def oj(h:(relabel sc env).names.lookup x=some .cell\/(relabel sc env).names.lookup x=some .free):(x,A6)∈sc.names\/(x,BB)∈sc.names:=by
 have key:∀(names:List (Str × Gb)),((names.map λ(n,k)=>if (k == A6&&env.scope.kind == .function&&env.kindOf n == some .cell) then (n,BB) else (n,k)).lookup x=some .cell \/
  (names.map λ(n,k)=>if (k == A6&&env.scope.kind == .function&&env.kindOf n == some .cell) then (n,BB) else (n,k)).lookup x=some .free)->(x,A6)∈names\/(x,BB)∈names:=by
  intro names;induction names with
  |nil=>intro h;simp at h
  |cons p r S=>
   obtain⟨n,k⟩:=p;intro h;rw[AF]at h;dsimp only at h;by_cases hx:x=n
   . subst hx
     by_cases hf:k=.free
     . subst hf;exact .inl AE
     . have R:(k == A6)=false:=by simpa using hf
       rw[R]at h;simp only[Ei,Aw,if_false,AB,beq_self_eq_true]at h;rcases h with h|h
       . cases h;exact .inr AE
       . cases h;exact absurd rfl hf
   . have N:(x == n)=false:=by simpa using hx
     have:=S (by split at h<;>simpa only[AB,N] using h)
     exact this.elim (λz=>.inl (Ay _ z)) λz=>.inr (Ay _ z)
 exact key sc.names h
def vK(h:sc.names.lookup x=some .cell):(relabel sc env).names.lookup x=some .cell:=by
 have key:∀(names:List (Str × Gb)),names.lookup x=some .cell->(names.map λ(n,k)=>if (k == A6&&env.scope.kind == .function&&env.kindOf n == some .cell) then (n,BB) else (n,k)).lookup x=some .cell:=by
  intro names;induction names with
  |nil=>intro h;simp at h
  |cons p r N=>
   obtain⟨n,k⟩:=p;intro h;rw[AF];dsimp only;cases hx:(x == n) with
   |true=>
    rw[AB,hx]at h;cases h;have e:(BB == A6)=false:=rfl;rw[e];simp only[Ei,Aw,if_false,AB,hx]
   |false=>
    rw[AB,hx]at h;have:=N h;split<;>simpa only[AB,hx] using this
 exact key sc.names h
def u6(R:∀y∈sc.names,y.2=.local->sc.names.lookup y.1=some .local)(h:sc.names.lookup x=some .free) :
 (relabel sc env).names.lookup x=some .cell\/(relabel sc env).names.lookup x=some .free:=by
 have key:∀(names:List (Str × Gb)),names.lookup x=some .free->((names.map λ(n,k)=>if (k == A6&&env.scope.kind == .function&&env.kindOf n == some .cell) then (n,BB) else (n,k)).lookup x=some .cell \/
  (names.map λ(n,k)=>if (k == A6&&env.scope.kind == .function&&env.kindOf n == some .cell) then (n,BB) else (n,k)).lookup x=some .free):=by
  intro names;induction names with
  |nil=>intro h;simp at h
  |cons p r N=>
   obtain⟨n,k⟩:=p;intro h;rw[AF];dsimp only;cases hx:(x == n) with
   |true=>
    rw[AB,hx]at h;cases h;split
    . left;simp only[AB,hx]
    . right;simp only[AB,hx]
   |false=>
    rw[AB,hx]at h;have:=N h;split<;>simpa only[AB,hx] using this
 exact key sc.names h
theorem zc.cells(S:zc X N sc fr)(ok:X.Ok):∀x∈sc.names,x.2=.free->∃c,X.a.cells.lookup x.1=some c:=λx hx hk=>ok.J x.1 (S.d x hx hk)
def wb(h:(wC sc C++vT cells sc.names []).lookup x=some c):((wC sc C).lookup x=some c)\/((wC sc C).lookup x=none/\cells.lookup x=some c):=by
 rw[lg]at h;cases ho:(wC sc C).lookup x with
 |some d=>rw[ho]at h;exact .inl h
 |none=>rw[ho]at h;exact .inr ⟨rfl,ud sc.names [] (λx c e=>by simp at e) x c h⟩
def r0(h:(wC sc C).lookup x=some c):@LE.le Nat _ (C+1) c:=(pY sc.names (C+1) (mem_of_lookup h)).2
def cT(S:zc X N sc fr)(h:(x,A6)∈sc.names):(wC sc C).lookup x=none:=by
 cases ho:(wC sc C).lookup x with
 |none=>rfl
 |some d=>exact(S.e x (pY sc.names (C+1) (mem_of_lookup ho)).1 h).elim
def ab(I:Inv X pins σ H s)(S:zc X N sc fr)(hf:∀b∈fp,wB X pins H b)(hlt:∀b∈fp,b<s.heap.objs.size):(X.comp N sc s.heap.objs.size s H fp).Ok:=by
 obtain⟨h',hok⟩:=Zu s.heap sc;have old:∀x c,X.a.cells.lookup x=some c->@LT.lt Nat _ c s.heap.objs.size:=λx c e=>by obtain⟨v,z⟩:=I.F x c e;exact z.lt
 refine⟨I.y.u,S.b,I.y.s,I.y.G,Ab _,λx y c Z Y=>?_,λx h=>?_,λx c h e=>?_,I.y.d,I.y.m,.inl rfl,λb U=>?_,λb o e=>I.bs b o e,?_,λb o e U=>?_,λb U z=>?_,I.stack,I.iX⟩
 . rcases wb Z with Z|⟨_,Z⟩<;>rcases wb Y with Y|⟨_,Y⟩
   . exact name_of_addr hok.apart (mem_of_lookup Z) (mem_of_lookup Y)
   . exact absurd (AJ (old _ _ Y) (Ao (Dg _) (r0 Z))) (BR _)
   . exact absurd (AJ (old _ _ Z) (Ao (Dg _) (r0 Y))) (BR _)
   . exact I.y.L x y c Z Y
 . show ∃c,(wC sc s.heap.objs.size++vT X.a.cells sc.names []).lookup x=some c
   rw[lg];rcases oj h with m|m
   . obtain⟨c,hc⟩:=S.cells I.y (x,.free) m rfl
     rw[cT S m];exact⟨c,wc sc.names [] x c hc (.inr m) (λy d e=>by simp at e)⟩
   . obtain⟨c,hc⟩:=pX sc.names (s.heap.objs.size+1) m
     obtain⟨d,hd⟩:=dz hc;have R:(wC sc s.heap.objs.size).lookup x=some d:=hd;rw[R];exact⟨d,rfl⟩
 . have m:(x,BB)∈sc.names:=by obtain⟨p,hp,e'⟩:=CC.mp h;rw[<-of_decide_eq_true e'];exact hp
   rcases wb e with e|⟨e,_⟩
   . exact Ao (Dg _) (r0 e)
   . obtain⟨c',hc⟩:=pX sc.names (s.heap.objs.size+1) m
     obtain⟨d,hd⟩:=dz hc;have R:(wC sc s.heap.objs.size).lookup x=some d:=hd;rw[R]at e;cases e
 . obtain⟨f0,f1,f2,W,f4,f5⟩:=hf b U
   refine⟨AD (hlt b U),λx c e=>?_⟩;rcases wb e with e|⟨_,e⟩
   . exact λz=>absurd (AJ (z▸hlt b U) (Ao (Dg _) (r0 e))) (BR _)
   . exact f4 x c e
 . exact Ao I.y.B I.sz
 . obtain⟨f0,f1,f2,W,f4,f5⟩:=hf b U
   rcases W with W|W
   . exact I.y.w b o e W
   . exact absurd (AJ (Am e) (Ao I.y.B W)) (BR _)
 . obtain⟨f0,f1,f2,W,f4,f5⟩:=hf b U
   rcases Al.mp (I.kh b z) with e|e
   . exact f1 e
   . exact f2 e
def rF(I:Inv X pins σ H s)(S:zc X N sc fr)(hf:∀b∈fp,wB X pins H b)(hlt:∀b∈fp,b<s.heap.objs.size)
 (hns:h'.Ns s.heap.objs.size (λ_=>none)) (k:∀b o,s.heap.get? b=some o->h'.get? b=some o) (W:∀x c,(wC sc s.heap.objs.size).lookup x=some c->h'.IsCell c none):Inv (X.comp N sc s.heap.objs.size s H fp) [] (zK fr σ) H {s with heap:=h',toks:=tk}:=by
 refine⟨ab I S hf hlt,rfl,I.C,Un.kept k,⟨_,hns,λi x v e1 e2 U=>?_⟩,λx c e=>?_,I.j.fresh (Ab _),λx c e=>?_,λp hp=>(by simp at hp),I.j.kept k,?_⟩
 . have R:(fr.map λo=>match o with|some j=>(σ[j]?).join|none=>none)[i]?=some (some v):=e2
   rw[Aq]at R;cases hfi:fr[i]? with
   |none=>rw[hfi]at R;cases R
   |some o=>
    rw[hfi]at R;cases o with
    |none=>cases R
    |some j=>
     obtain⟨n1,n2⟩:=S.f i j x e1 hfi;have e3':σ[j]?=some (some v):=by
      have q:(σ[j]?).join=some v:=AH R;cases hσ:σ[j]? with
      |none=>rw[hσ]at q;cases q
      |some w=>rw[hσ]at q;cases w with
       |none=>cases q
       |some w'=>have:w'=v:=AH q
                 rw[this]
     have hk:=S.d (x,.free) n2 rfl;obtain⟨m,hn,hl⟩:=I.O;obtain⟨u,r,l⟩:=hl j x v n1 e3' (hk.elim (λz=>.inr (.inl z)) λz=>.inr (.inr z));refine⟨u,r,?_⟩;rcases l with⟨Z,_⟩|⟨_,c,hc,z⟩
     . rcases hk with hk|hk<;>(rw[hk]at Z;cases Z)
     . refine .inr ⟨?_,c,(by show (wC sc s.heap.objs.size++vT X.a.cells sc.names []).lookup x=some c;rw[lg,cT S n2];exact wc sc.names [] x c hc (.inr n2) (λy d e=>by simp at e)),?_⟩
       . rcases U with U|U|U
         . -- a local of that name: cannot be,the name is free in the block
           exfalso;have Y:sc.names.lookup x=some .local:=by
            have key:∀(names:List (Str × Gb)),(names.map λ(n,k)=>if (k == A6&&X.a.scope.kind == .function&&X.a.kindOf n == some .cell) then (n,BB) else (n,k)).lookup x=some .local->names.lookup x=some .local:=by
             intro names;induction names with
             |nil=>intro h;simp at h
             |cons p r ih=>
              obtain⟨n,kk⟩:=p;intro h;rw[AF]at h;dsimp only at h;cases hx:(x == n) with
              |true=>
               split at h
               . simp only[AB,hx]at h;cases h
               . simp only[AB,hx]at h ⊢;exact h
              |false=>
               rw[AB,hx];refine ih ?_;split at h<;>simpa only[AB,hx] using h
            exact key sc.names U
           exact S.h x Y n2
         . exact .inl U
         . exact .inr U
       . obtain⟨o,ho,hd⟩:=z
         exact⟨o,k _ _ ho,hd⟩
 . rcases wb e with e|⟨_,e⟩
   . exact⟨none,W x c e⟩
   . obtain⟨v,o,ho,hd⟩:=I.F x c e
     exact⟨v,o,k _ _ ho,hd⟩
 . rcases wb e with e|⟨_,e⟩
   . exact I.j.fresh (Ao (Dg _) (r0 e))
   . exact I.J x c e
 . show (fr.map _).length=N.length
   rw[Aa];exact S.g
def oy:List TT->TT
 |[]=>λ_ H Q=>Q true H
 |t::ts=>λσ H Q=>t σ H λc H1=>if c=true then oy ts σ H1 Q else Q false H1
inductive PTs(X:Cx):List Expr->List TT->Prop
 |b:PTs X [] []
 |a {c:Expr} {cs:List Expr} {t:TT} {ts:List TT}:PT X c t->PTs X cs ts->PTs X (c::cs) (t::ts)
theorem sI{X:Cx}(h:Q false s):∀cs:List Expr,
 wpAny (model X.f X.w) X.A (forIn cs false λc r=>if r=true then do let ok <-isTrue c X.a (eval c X.a);pure (CQ ok) else pure (CQ r)) Q E s
 |[]=>xd h
 |c::cs=>by rw[EN];exact dm (xd (sI h cs))
theorem PTs.run:∀{cs} {ts},PTs X cs ts->∀{pins} {s} {σ} {H} {Q},Inv X pins σ H s->oy ts σ H Q ->
 wpAny (model X.f X.w) X.A (forIn cs true λc r=>if r=true then do let ok <-isTrue c X.a (eval c X.a);pure (CQ ok) else pure (CQ r)) (TP X pins σ Q) X.h s
 |_,_,.b,pins,s,σ,H,Q,I,h=>xd ⟨H,I,h⟩
 |_,_,.a hc hs,pins,s,σ,H,Q,I,h=>by
  rw[EN];refine dm (dm (thn (hc pins s σ H _ I h) λc s1 ⟨H1,I1,q1⟩=>xd ?_));cases c with
  |true=>exact hs.run I1 q1
  |false=>exact sI ⟨H1,I1,q1⟩ _
abbrev TB:=(St->Hp->Prop)->St->Hp->Prop
def PB(X:Cx)(B:Sem PUnit)(tb:TB):Prop:=
 ∀(pins:List (Addr × Obj)) (s:Shared) (σ:St) (H:Hp) (R:St->Hp->Prop),Inv X pins σ H s->tb R σ H->wpAny (model X.f X.w) X.A B (λ_ s'=>∃N H',Inv X pins N H' s'/\R N H') X.h s
def tTB(ts:List TT)(tb:TB):TS:=λD σ H=>oy ts σ H λc H1=>if c=true then tb D.a σ H1 else D.a σ H1
def u4(J:It)(g:TG)(tb:TS)(D:Ends)(σ:St)(H:Hp):Prop:=∃W:Nat->Nat->St->Hp->Prop,(∃m,W 0 m σ H)/\∀i m σ H,W i m σ H ->
 (J.a i H/\D.a σ H)\/(J.c i H/\∃N:St->Hp->Prop,(∀R H',N R H'->∃U,U<m/\W (i+1) U R H')/\∀x H',J.b i H x H'->g x σ H' λS H2=>tb {D with a:=N,c:=N,b:=D.a} S H2)
def wd{X:Cx}{elt:Expr}{gens:List Dw}{csc:Scope}{cpos:Pos}{d:Nat}{tg:Expr}{p:Pos}{ifs:List Expr}{B:Sem PUnit}{acc:Value}{it:Addr}{fp:List Addr}{tn:Nat->Heap->Prop}{J:It}{g:TG}{ts:List TT}{tb:TB}{D:Ends}
 {pins:List (Addr × Obj)} {σ:St} {H:Hp} {s:Shared} {R:Result->Shared->Prop}
 (heq:CD (.ListComp elt gens csc cpos) d (.ref it) acc X.a=(do
  standAt p
  match <-pyNext (.ref it) with
  |none=>pure (.done .next)
  |some v=>
   Bj tg (.ref it) v
   assign tg X.a v
   let mut ok:=true
   for c in ifs do
    if ok then ok <-isTrue c X.a (eval c X.a)
   if ok then B
   again (.compLoop (.ListComp elt gens csc cpos) d (.ref it) acc X.a)))
 (hx:X.h=λ_ _=>False) (hc:X.g=true) (T:Turn X.f X.w X.K tg J fp it tn) (hg:PG X tg g) (ht:PTs X ifs ts) (hb:PB X B tb)
 (I:Inv X pins σ H s) (st:tn 0 s.heap) (f:∀b∈fp,wB X pins H b) (h:u4 J g (tTB ts tb) D σ H)
 (hR:∀S H' s',Inv X pins S H' s'->D.a S H'->(∀b∈fp,H' b=none)->R (.ok .next) s') :
 codeAny (model X.f X.w) X.A (.compLoop (.ListComp elt gens csc cpos) d (.ref it) acc X.a) R s:=by
 refine byG λpi U=>?_;obtain⟨W,⟨m0,w0⟩,turn⟩:=h;refine U ?_;have stat:∀{H':Hp},(∀b∈fp,H' b=none)->∀b∈fp,wB X pins H' b:=λhn b hb=>⟨hn b hb,(f b hb).2⟩;have no:∀{α:Type} {t:Sem α} {Q:α->Shared->Prop} {E':Value->Shared->Prop} {s:Shared},wpAny (model X.f X.w) X.A t Q X.h s->wpAny (model X.f X.w) X.A t Q E' s:=λh=>Cj h (λ_ _ q=>q) λ_ _ z=>by rw[hx]at z;exact z.elim
 refine codeAny_loop rfl (λn s'=>∃i S H',Inv X pins S H' s'/\tn i s'.heap/\(∀b∈fp,H' b=none)/\W i n S H') (λn s3 hI=>?_) m0 ⟨0,σ,H,I,st,λb hb=>(f b hb).1,w0⟩;refine byG λpi U=>?_;obtain⟨i,σ3,H3,I3,st3,fr3,w3⟩:=hI;refine U ?_;show wpAny _ _ ((CD (.ListComp elt gens csc cpos) d (.ref it) acc X.a).onRaise (λx=>do HF x X.a;theTreesLotGoes x)) _ _ s3
 refine wpAny_noted ?_;rw[heq];refine dm (BL (dm ?_));rcases turn i n σ3 H3 w3 with⟨stop,qn⟩|⟨go,N,hN,step⟩
 . refine no (thn (T.e X rfl rfl rfl hc i pins s3 σ3 H3 X.h I3 (stat fr3) st3 stop) λr s4 zn=>?_)
   obtain⟨hr,I4⟩:=zn;subst hr;exact xd (hR σ3 H3 s4 I4 qn fr3)
 . refine no (thn (T.f X rfl rfl rfl hc i pins s3 σ3 H3 X.h I3 (stat fr3) st3 go) λr s4 zn=>?_)
   obtain⟨u,hr,h4⟩:=zn;subst hr;refine dm (no (thn h4 λ_ s5 zn=>?_));refine byG λpi U=>?_;obtain⟨x,H5,I5,r5,y5,st5,fr5⟩:=zn;refine U ?_;have I5':=I5.pinned (stat fr5) (T.c _ _ st5);refine dm (no (thn (hg _ s5 σ3 H5 x u _ I5' r5 (step x H5 y5)) λ_ s6 zn=>?_));refine byG λpi U=>?_;obtain⟨σ6,H6,I6,q6⟩:=zn;refine U ?_;refine dm (no (thn (ht.run I6 q6) λok s7 zn=>?_));obtain⟨H7,I7,q7⟩:=zn;have Y:∀{Z:St} {H7:Hp} {s7:Shared},Inv X (pins++tw fp s5.heap) Z H7 s7->N Z H7->∃m,m<n/\∃i S H',Inv X pins S H' s7/\tn i s7.heap/\(∀b∈fp,H' b=none)/\W i m S H':=λ{Z H7 s7} I7 n7=>by obtain⟨m',hm,w7⟩:=hN Z H7 n7;refine⟨m',hm,i+1,Z,H7,I7.vj,T.a _ _ _ st5 λb hb o e=>(I7.M (b,o) (AX _ (AX _ (xB hb e)))).1,λb hb=>?_,w7⟩;obtain⟨o,e,d⟩:=T.c _ _ st5 b hb;exact(I7.M (b,o) (AX _ (AX _ (xB hb e)))).2.1
   cases ok with
   |false=>exact xd ⟨rfl,Y I7 q7⟩
   |true=>exact dm (no (thn (hb _ s7 σ6 H7 N I7 q7) λ_ s8 ⟨σ8,H8,I8,n8⟩=>xd ⟨rfl,Y I8 n8⟩))
def sH(acc:Addr)(te:TE):TB:=λN σ H=>te σ H λy H1=>∃ys,H1 acc=some (.b ys)/\ys.length<AI/\N σ (upd H1 acc (.b (ys++[y])))
def sY(he:PE X elt te):PB X (do let _ <-call (.builtin "list.append") [.ref acc,<-eval elt X.a]) (sH acc te):=by intro pins s σ H Y I h;refine dm (thn (he pins s σ H _ I h) λu s1 N=>?_);obtain⟨y,H1,I1,R,ys,W,U,q⟩:=N;refine dm (thn (gU pins s1 σ H1 (.c acc) [y] (.ref acc) [u] (λ_ H'=>Y σ H') I1 rfl (.cons R .nil) ⟨acc,ys,y,rfl,rfl,W,U,q⟩) λ_ s2 N=>?_);obtain⟨_,H2,I2,_,S⟩:=N;exact xd ⟨σ,H2,I2,S⟩
def vg(fr:List (Option Nat))(wi:TI)(g:TG)(ts:List TT)(tb:Addr->TB)(σ:St)(H:Hp)(Q:VK):Prop:=
 wi σ H λJ H1=>∀acc,H1 acc=none->u4 J g (tTB ts (tb acc)) ⟨λ_ H'=>Q (.c acc) H',λ_ _=>False,λ_ _=>False,λ_ _=>False⟩ (zK fr σ) (upd H1 acc (.b []))
section
variable {X:Cx}{pins:List (Addr × Obj)}{σ:St}{H:Hp}{s:Shared}{N:List Str}{csc:Scope}{fr:List (Option Nat)}{elt tg iter:Expr}{ifs:List Expr}{rest:List Dw}{cpos:Pos}{wi:TI}{g:TG}{ts:List TT}{tb:Addr->TB}
def qJ{outer:Env}{Q:Env->Shared->Prop}
 (S:∀h':Heap,h'.Ns s.heap.objs.size (λ_=>none)->(∀b o,s.heap.get? b=some o->h'.get? b=some o)->(∀x c,(wC scope s.heap.objs.size).lookup x=some c->h'.IsCell c none) ->
  Q {scope:=scope,locals:=s.heap.objs.size,globals:=globals,cells:=wC scope s.heap.objs.size++cl,qual:=qual,func:=none,code:=outer.code,frame:=outer.frame,builtins:=outer.builtins} {s with heap:=h'}) :
 wpAny M A (Ge scope globals cl [] qual none .none (some outer)) Q E s:=by
 simp only[Ge,Option.isSome_some,if_true];refine dm (wpAny_alloc ?_);refine dm (wpAny_layCells _ (λname kind cells=>by cases hkc:kind == BB<;>simp[hkc]) _ _ _ _ ?_)
 have ok:=cellsFrom_ok scope.names (s.heap.push {cls:=.type "dict",data:=.dict #[]}) (s.heap.objs.size+1) [] ⟨λ_ _ N=>(nomatch N),GR⟩ (by rw[BK];exact Ab _)
 rw[BK]at ok;rw[show ({s with heap:=s.heap.push {cls:=.type "dict",data:=.dict #[]}}:Shared).heap.objs.size=s.heap.objs.size+1 from BK ..]
 rw[Fb];refine dm (xd (xd ?_));rw[uB];exact S _ ((Heap.Ns.new s.heap (.type "dict")).keeps (pushCells_keeps _ _)) (λb o e=>pushCells_keeps _ _ b o (zO _ e)) λx c R=>(ok.empty x c (mem_of_lookup R)).1
def qj{use:Option (Value->Sem Unit)}{QQ:Value->Shared->Prop}{Qv:VK}{B:Value->Env->Sem PUnit}{E:Value->Shared->Prop}(hE:E=X.h)(hc:X.g=true)(S:zc X N csc fr)(hi:PI X tg iter wi)
 (hturn:∀(it:Addr) (acc:Value) (env:Env),CD (.ListComp elt (⟨tg,iter,ifs,0⟩::rest) csc cpos) 0 (.ref it) acc env=(do
  standAt iter.pos
  match <-pyNext (.ref it) with
  |none=>pure (.done .next)
  |some v=>
   Bj tg (.ref it) v
   assign tg env v
   let mut ok:=true
   for c in ifs do
    if ok then ok <-isTrue c env (eval c env)
   if ok then B acc env
   again (.compLoop (.ListComp elt (⟨tg,iter,ifs,0⟩::rest) csc cpos) 0 (.ref it) acc env)))
 (hg:∀C s0 H0 ex,PG (X.comp N csc C s0 H0 ex) tg g) (ht:∀C s0 H0 ex,PTs (X.comp N csc C s0 H0 ex) ifs ts)
 (U:∀C s0 H0 ex acc,(∃W,Inv X W σ H0 s0/\∀b∈ex,wB X W H0 b)->PB (X.comp N csc C s0 H0 ex) (B (.ref acc) (X.comp N csc C s0 H0 ex).a) (tb acc))
 (I:Inv X pins σ H s) (h:vg fr wi g ts tb σ H Qv)
 (hfin:∀acc C H' s',Inv X pins σ H' s'->Qv (.c acc) H'->(∃m,s'.heap.Ns C m)->H' C=none->C≠X.a.locals->X.l.heap.objs.size<=C->(∀x c,X.a.cells.lookup x=some c->c≠C)->(∀p∈X.q++pins,p.1≠C) ->
  FA (model X.f X.w) X.A X.h use QQ (.ref acc) C (.ok .next) s') :
 wpAny (model X.f X.w) X.A (eval iter X.a) (λx s₁=>wpAny (model X.f X.w) X.A (pyIter x) (λit s₂=>wpAny (model X.f X.w) X.A (newList []) (λacc s₃=>
  wpAny (model X.f X.w) X.A (Ge csc X.a.globals (vT X.a.cells csc.names []) [] X.a.qual none .none (some X.a)) (λcenv s₄=>
   codeAny (model X.f X.w) X.A (.compStart (.ListComp elt (⟨tg,iter,ifs,0⟩::rest) csc cpos) 0 it acc {cenv with scope:=relabel csc X.a}) (FA (model X.f X.w) X.A E use QQ acc cenv.locals) s₄) E s₃) E s₂) E s₁) E s:=by
 subst hE;refine thn (hi pins s σ H _ I h) λv s1 h1=>thn h1 λitv s2 h2=>?_;refine byG λpi gqa=>?_;obtain⟨it,fp,tn,J,H2,e,I2,T,st2,f2,q2⟩:=h2;refine gqa ?_;subst e;refine A4 ?_;have hfr:H2 s2.heap.objs.size=none:=I2.j.fresh (Ab _);have q3:=q2 s2.heap.objs.size hfr;generalize Y:({s2 with heap:=s2.heap.push {cls:=.type "list",dict:=none,data:=.seq ([]:List Value).toArray}}:Shared)=s3
 have k23:∀b u,s2.heap.get? b=some u->s3.heap.get? b=some u:=λb u e=>by rw[<-Y];exact zO _ e
 have new3:s3.heap.get? s2.heap.objs.size=some {cls:=.type "list",dict:=none,data:=.seq ([]:List Value).toArray}:=by rw[<-Y];exact Az _ rfl
 have I3:Inv X pins σ (upd H2 s2.heap.objs.size (.b [])) s3:=by rw[<-Y];exact I2.laid (t':=s2.toks) (λb u e=>zO _ e) (Ab _) ⟨AS _,[],0,.nil,Az _ rfl⟩
 have lt2:∀b∈fp,b<s2.heap.objs.size:=λb U=>by obtain⟨o,e,_⟩:=T.c _ _ st2 b U;exact Am e
 have hsz:s3.heap.objs.size=s2.heap.objs.size+1:=by rw[<-Y];exact BK ..
 have f3:∀b∈fp,wB X pins (upd H2 s2.heap.objs.size (.b [])) b:=λb U=>⟨by rw[zM (AD (lt2 b U))];exact(f2 b U).1,(f2 b U).2⟩
 have lt3:∀b∈fp,b<s3.heap.objs.size:=λb U=>by rw[hsz];exact Cg (lt2 b U)
 refine qJ λh4 hns4' k34 own4=>?_;have I4:=rF (tk:=s3.toks) I3 S f3 lt3 hns4' k34 own4;have st4:tn 0 h4:=T.a _ _ _ st2 λb U o e=>k34 b o (k23 b o e);have f4:∀b∈fp,wB (X.comp N csc s3.heap.objs.size s3 (upd H2 s2.heap.objs.size (.b [])) fp) [] (upd H2 s2.heap.objs.size (.b [])) b:=λb U=>by have ok:=I4.y;obtain⟨g1,g2⟩:=ok.H b U;exact⟨(f3 b U).1,g1,ok.r b U,.inl U,g2,λp hp=>by simp at hp⟩
 have fin:∀σ' H' s',Inv (X.comp N csc s3.heap.objs.size s3 (upd H2 s2.heap.objs.size (.b [])) fp) [] σ' H' s'->Qv (.c s2.heap.objs.size) H'->(∀b∈fp,H' b=none) ->
  FA (model X.f X.w) X.A X.h use QQ (.ref s2.heap.objs.size) s3.heap.objs.size (.ok .next) s':=λσ' H' s' I' q' _=>by
  have IX:Inv X pins σ H' s':=I3.Yy I'.R I'.B I'.j I'.C λb U=>by refine byG λpi gqa=>?_;obtain⟨g0,g1,g2,g3,g4,g5⟩:=f3 b U;refine gqa ?_;exact⟨g3,g1,g4,g5⟩
  obtain⟨m,hn,_⟩:=I'.O;refine hfin _ _ H' s' IX q' ⟨m,hn⟩ I'.G (Dk I3.lt) I3.sz (λx c e=>?_) λp hp=>?_
  . obtain⟨w',z⟩:=I3.F x c e
    exact AD z.lt
  . exact AD (Am (I3.M p hp).1)
 have Z:codeAny (model X.f X.w) X.A (.compLoop (.ListComp elt (⟨tg,iter,ifs,0⟩::rest) csc cpos) 0 (.ref it) (.ref s2.heap.objs.size) (compEnvC csc (wC csc s3.heap.objs.size++vT X.a.cells csc.names []) s3.heap.objs.size X.a))
  (FA (model X.f X.w) X.A X.h use QQ (.ref s2.heap.objs.size) s3.heap.objs.size) {s3 with heap:=h4}:=
  wd (X:=X.comp N csc s3.heap.objs.size s3 (upd H2 s2.heap.objs.size (.b [])) fp) (hturn it _ _) rfl hc T (hg _ _ _ _) (ht _ _ _ _) (U _ _ _ _ _ ⟨pins,I3,f3⟩) I4 st4 f4 q3 fin
 exact codeAny_compStart_list Z (T.d X.A 0 _ _ _ st4 Z)
def mS{B:Value->Env->Sem PUnit}(hc:X.g=true)(S:zc X N csc fr)(hi:PI X tg iter wi)
 (U:∀(it:Addr) (acc:Value) (env:Env),CD (.ListComp elt (⟨tg,iter,ifs,0⟩::rest) csc cpos) 0 (.ref it) acc env=(do
  standAt iter.pos
  match <-pyNext (.ref it) with
  |none=>pure (.done .next)
  |some v=>
   Bj tg (.ref it) v
   assign tg env v
   let mut ok:=true
   for c in ifs do
    if ok then ok <-isTrue c env (eval c env)
   if ok then B acc env
   again (.compLoop (.ListComp elt (⟨tg,iter,ifs,0⟩::rest) csc cpos) 0 (.ref it) acc env)))
 (hg:∀C R H0 ex,PG (X.comp N csc C R H0 ex) tg g) (ht:∀C R H0 ex,PTs (X.comp N csc C R H0 ex) ifs ts)
 (hb:∀C R H0 ex acc,PB (X.comp N csc C R H0 ex) (B (.ref acc) (X.comp N csc C R H0 ex).a) (tb acc))
 (hs:∀x,AN iter X.a x=pure x:=by intro _;rfl) :
 PE X (.ListComp elt (⟨tg,iter,ifs,0⟩::rest) csc cpos) (vg fr wi g ts tb):=by
 intro pins s σ H Q I h;rw[eval_ListComp];refine EX (use:=none) rfl hs (wW (S.cells I.y)) S.b S.a ?_;refine qj (use:=none) rfl hc S hi U hg ht (λC R H0 ex acc _=>hb C R H0 ex acc) I h λacc C H' s' I' q' Y hC hL h0 Z W=>?_;obtain⟨m,Y⟩:=Y;refine⟨m,Y,λh' sb=>⟨.c acc,H',?_,rfl,q'⟩⟩;exact I'.turned (t':=s'.toks) (λb o hb e=>(sb.2 b hb).trans e) hC (BJ (BJ hL)) (.inr h0) Z W
def mW{B:Value->Env->Sem PUnit}{y:Str}{py R:Pos}{i:Nat}(hc:X.g=true)(S:zc X N csc fr)(hi:PI X tg iter wi)
 (W:∀(it:Addr) (acc:Value) (env:Env),CD (.ListComp elt (⟨tg,iter,ifs,0⟩::rest) csc cpos) 0 (.ref it) acc env=(do
  standAt iter.pos
  match <-pyNext (.ref it) with
  |none=>pure (.done .next)
  |some v=>
   Bj tg (.ref it) v
   assign tg env v
   let mut ok:=true
   for c in ifs do
    if ok then ok <-isTrue c env (eval c env)
   if ok then B acc env
   again (.compLoop (.ListComp elt (⟨tg,iter,ifs,0⟩::rest) csc cpos) 0 (.ref it) acc env)))
 (hg:∀C U H0 ex,PG (X.comp N csc C U H0 ex) tg g) (ht:∀C U H0 ex,PTs (X.comp N csc C U H0 ex) ifs ts)
 (hb:∀C U H0 ex acc,PB (X.comp N csc C U H0 ex) (B (.ref acc) (X.comp N csc C U H0 ex).a) (tb acc))
 (hN:X.N.Nodup) (hy:X.N[i]?=some y) (hx:Loc X.a.scope y)
 (hsw:FF (.ListComp elt (⟨tg,iter,ifs,0⟩::rest) csc cpos) (some (.Name y py)) R.line X.a=pure true:=by rfl)
 (hf:X.n y=true\/X.a.scope.names.lookup y=some .local:=by first|exact .inl rfl|exact .inr rfl|assumption)
 (hs:∀x,AN iter X.a x=pure x:=by intro _;rfl) :
 PS X (.Assign [.Name y py] (.ListComp elt (⟨tg,iter,ifs,0⟩::rest) csc cpos) R) (qX (vg fr wi g ts tb) (vY i)):=by
 intro pins s σ H D I h;rw[exec_Assign_Name_used _ _ _ _ hsw];refine dm (BL (dm ?_));show wpAny _ X.A (do let _ <-GC (.ListComp elt (⟨tg,iter,ifs,0⟩::rest) csc cpos) csc X.a _ (newList []) false (eval iter X.a) (some (assign (.Name y py) X.a))) _ _ s
 refine dm (Cj (EX (use:=some (assign (.Name y py) X.a)) (Q:=λ_ s'=>SP X pins D .next s') rfl hs (wW (S.cells I.y)) S.b S.a ?_) (λ_ s' hq=>xd (xd hq)) λ_ _ e=>e);refine qj (use:=some (assign (.Name y py) X.a)) rfl hc S hi W hg ht (λC U H0 ex acc _=>hb C U H0 ex acc) I h λacc C H' s' I' q' hn hC hL h0 Y hpn=>?_;obtain⟨m,hn⟩:=hn;show wpAny _ X.A (assign (.Name y py) X.a (.ref acc)) _ _ _;refine wpAny_assign_Name (pJ I' hN hy hx (show RelV (.c acc) (.ref acc) from rfl) (λs2 I2 zn=>?_) hf);obtain⟨a,sb,Z⟩:=zn;have haC:C≠a:=by
  rcases Z with Z|Z
  . rw[Z];exact hL
  . exact BJ (Y y a Z)
 refine⟨m,hn.sameBut sb haC,λh' sb'=>⟨_,H',?_,q'⟩⟩;exact I2.turned (t':=s2.toks) (λb o hb e=>(sb'.2 b hb).trans e) hC hL (.inr h0) Y hpn
def XY(elt tg iter:Expr)(ifs:List Expr)(csc:Scope)(cpos:Pos)(it:Addr)(acc:Value)(env:Env) :
 CD (.ListComp elt [⟨tg,iter,ifs,0⟩] csc cpos) 0 (.ref it) acc env=(do
  standAt iter.pos
  match <-pyNext (.ref it) with
  |none=>pure (.done .next)
  |some v=>
   Bj tg (.ref it) v
   assign tg env v
   let mut ok:=true
   for c in ifs do
    if ok then ok <-isTrue c env (eval c env)
   if ok then (do let _ <-call (.builtin "list.append") [acc,<-eval elt env])
   again (.compLoop (.ListComp elt [⟨tg,iter,ifs,0⟩] csc cpos) 0 (.ref it) acc env)):=by rfl
def XZ(elt tg iter:Expr)(ifs:List Expr)(R N:Expr)(ifs2:List Expr)(csc:Scope)(cpos:Pos)(it:Addr)(acc:Value)(env:Env) :
 CD (.ListComp elt [⟨tg,iter,ifs,0⟩,⟨R,N,ifs2,0⟩] csc cpos) 0 (.ref it) acc env=(do
  standAt iter.pos
  match <-pyNext (.ref it) with
  |none=>pure (.done .next)
  |some v=>
   Bj tg (.ref it) v
   assign tg env v
   let mut ok:=true
   for c in ifs do
    if ok then ok <-isTrue c env (eval c env)
   if ok then (do
    let x <-eval N env
    standAt N.pos
    let x <-AN N env x;let _ <-runOwn (.compStart (.ListComp elt [⟨tg,iter,ifs,0⟩,⟨R,N,ifs2,0⟩] csc cpos) 1 (<-holding [x] (pyIter x)) acc env) env)
   again (.compLoop (.ListComp elt [⟨tg,iter,ifs,0⟩,⟨R,N,ifs2,0⟩] csc cpos) 0 (.ref it) acc env)):=by
 have e:CD (.ListComp elt [⟨tg,iter,ifs,0⟩,⟨R,N,ifs2,0⟩] csc cpos) 0 (.ref it) acc env=(do
  standAt iter.pos
  match <-pyNext (.ref it) with
  |none=>pure (.done .next)
  |some v=>
   Bj tg (.ref it) v
   assign tg env v
   let mut ok:=true
   for c in ifs do
    if ok then ok <-isTrue c env (eval c env)
   if ok then
    let x <-eval N env
    standAt N.pos
    let x <-AN N env x;let _ <-runOwn (.compStart (.ListComp elt [⟨tg,iter,ifs,0⟩,⟨R,N,ifs2,0⟩] csc cpos) 1 (<-holding [x] (pyIter x)) acc env) env
   again (.compLoop (.ListComp elt [⟨tg,iter,ifs,0⟩,⟨R,N,ifs2,0⟩] csc cpos) 0 (.ref it) acc env)):=by rfl
 rw[e];simp only[Ic,FI]
def UE(elt tg iter:Expr)(ifs:List Expr)(R N:Expr)(ifs2:List Expr)(csc:Scope)(cpos:Pos)(it:Addr)(acc:Value)(env:Env) :
 CD (.ListComp elt [⟨tg,iter,ifs,0⟩,⟨R,N,ifs2,0⟩] csc cpos) 1 (.ref it) acc env=(do
  standAt N.pos
  match <-pyNext (.ref it) with
  |none=>pure (.done .next)
  |some v=>
   Bj R (.ref it) v
   assign R env v
   let mut ok:=true
   for c in ifs2 do
    if ok then ok <-isTrue c env (eval c env)
   if ok then (do let _ <-call (.builtin "list.append") [acc,<-eval elt env])
   again (.compLoop (.ListComp elt [⟨tg,iter,ifs,0⟩,⟨R,N,ifs2,0⟩] csc cpos) 1 (.ref it) acc env)):=by rfl
end
def lN
 (h0:codeAny (model prog w) A (.compLoop (.ListComp elt [⟨tg,iter,ifs,0⟩,⟨tg2,iter2,ifs2,0⟩] csc cpos) 1 it acc env) R s)
 (h:wpAny (model prog w) A (pyIter it) (λN s'=>codeAny (model prog w) A (.compLoop (.ListComp elt [⟨tg,iter,ifs,0⟩,⟨tg2,iter2,ifs2,0⟩] csc cpos) 1 N acc env) R s')
  (notedBy (model prog w) A env λx s'=>R (.error x) s') s) :
 codeAny (model prog w) A (.compStart (.ListComp elt [⟨tg,iter,ifs,0⟩,⟨tg2,iter2,ifs2,0⟩] csc cpos) 1 it acc env) R s:=by
 refine EO ?_;show wpAny _ _ ((Gs (.ListComp elt [⟨tg,iter,ifs,0⟩,⟨tg2,iter2,ifs2,0⟩] csc cpos) 1 it acc env).onRaise (λx=>do HF x env;standAt HG)) _ _ s
 refine Ip ?_;unfold Gs;show wpAny _ _ (ask >>= _) _ _ s;refine dm (Cc (wpAny_ite ?_));split
 . first
    |exact dm (xd (xd (Af rfl h0)))
    |exact xd (Af rfl h0)
 . first
    |exact dm (BE (dm (BL (dm (Cj h (λN s' h'=>xd (Af rfl h')) λ_ _ x=>x)))))
    |(refine dm (BE ?_);show wpAny _ _ (standAt iter2.pos >>= _) _ _ s;exact dm (BL (dm (Cj h (λN s' h'=>xd (Af rfl h')) λ_ _ x=>x))))
def uR(wi:TI)(g:TG)(ts:List TT)(tb:TB):TB:=λN σ H=>wi σ H λJ H1=>u4 J g (tTB ts tb) ⟨N,λ_ _=>False,λ_ _=>False,λ_ _=>False⟩ σ H1
def mP
 (hx:X.h=λ_ _=>False) (hc:X.g=true) (hi:PI X tg2 iter2 wi) (hg:PG X tg2 g) (ht:PTs X ifs2 ts) (hb:PB X (do let _ <-call (.builtin "list.append") [.ref acc,<-eval elt X.a]) tb)
 (hs:∀x,AN iter2 X.a x=pure x:=by intro _;rfl) :
 PB X (do
       let x <-eval iter2 X.a
       standAt iter2.pos
       let x <-AN iter2 X.a x;let _ <-runOwn (.compStart (.ListComp elt [⟨tg,iter,ifs,0⟩,⟨tg2,iter2,ifs2,0⟩] csc cpos) 1 (<-holding [x] (pyIter x)) (.ref acc) X.a) X.a) (uR wi g ts tb):=by
 intro pins s σ H Nx I h;refine dm (thn (hi pins s σ H _ I h) λv s1 h1=>dm (BL (dm (DL (hs v) (dm (Bo (thn h1 λZ s2 h2=>?_)))))));refine byG λpi U=>?_;obtain⟨it,fp,tn,J,H2,e,I2,T,S,f2,W⟩:=h2;refine U ?_;subst e;refine dm (wpAny_runOwn ?_);have R:codeAny (model X.f X.w) X.A (.compLoop (.ListComp elt [⟨tg,iter,ifs,0⟩,⟨tg2,iter2,ifs2,0⟩] csc cpos) 1 (.ref it) (.ref acc) X.a)
  (λr s'=>match r with|.ok f=>wpAny (model X.f X.w) X.A (pure PUnit.unit:Sem PUnit) (λ_ s'=>∃N H',Inv X pins N H' s'/\Nx N H') X.h s'|.error e=>cameBackBy (model X.f X.w) X.A X.a X.h e s') s2:=
  wd (UE ..) hx hc T hg ht hb I2 S f2 W λN H' s' I' Y _=>xd ⟨N,H',I',Y⟩
 exact lN R (T.d X.A 0 _ _ _ S R)
def iN(Y:X.g=true)(S:zc X N csc fr)(hi:PI X tg iter wi)(W:∀C R H0 ex,PG (X.comp N csc C R H0 ex) tg g)(U:∀C R H0 ex,PTs (X.comp N csc C R H0 ex) ifs ts)
 (he:∀C R H0 ex,PE (X.comp N csc C R H0 ex) elt te) (hs:∀x,AN iter X.a x=pure x:=by intro _;rfl) :
 PE X (.ListComp elt [⟨tg,iter,ifs,0⟩] csc cpos) (vg fr wi g ts λacc=>sH acc te):=
 mS Y S hi (B:=λacc env=>(do let _ <-call (.builtin "list.append") [acc,<-eval elt env])) (XY elt tg iter ifs csc cpos) W U (λC R H0 ex acc=>sY (he C R H0 ex)) hs
def YA(hc:X.g=true)(S:zc X N csc fr)(hi:PI X tg iter wi)(Z:∀C R H0 ex,PG (X.comp N csc C R H0 ex) tg g)(Y:∀C R H0 ex,PTs (X.comp N csc C R H0 ex) ifs ts)
 (he:∀C R H0 ex,PE (X.comp N csc C R H0 ex) elt te) (hN:X.N.Nodup) (W:X.N[i]?=some y) (hx:Loc X.a.scope y)
 (U:FF (.ListComp elt [⟨tg,iter,ifs,0⟩] csc cpos) (some (.Name y py)) spos.line X.a=pure true:=by rfl)
 (hf:X.n y=true\/X.a.scope.names.lookup y=some .local:=by first|exact .inl rfl|exact .inr rfl|assumption)
 (hs:∀x,AN iter X.a x=pure x:=by intro _;rfl) :
 PS X (.Assign [.Name y py] (.ListComp elt [⟨tg,iter,ifs,0⟩] csc cpos) spos) (qX (vg fr wi g ts λacc=>sH acc te) (vY i)):=
 mW hc S hi (B:=λacc env=>(do let _ <-call (.builtin "list.append") [acc,<-eval elt env])) (XY elt tg iter ifs csc cpos) Z Y (λC R H0 ex acc=>sY (he C R H0 ex)) hN W hx U hf hs
def mR(hc:X.g=true)(S:zc X N csc fr)(hi:PI X tg iter wi)(hg:∀C R H0 ex,PG (X.comp N csc C R H0 ex) tg g)(ht:∀C R H0 ex,PTs (X.comp N csc C R H0 ex) ifs ts)
 (Y:∀C R H0 ex,PI (X.comp N csc C R H0 ex) tg2 iter2 wi2) (Z:∀C R H0 ex,PG (X.comp N csc C R H0 ex) tg2 g2) (U:∀C R H0 ex,PTs (X.comp N csc C R H0 ex) ifs2 ts2)
 (he:∀C R H0 ex,PE (X.comp N csc C R H0 ex) elt te) (hs:∀x,AN iter X.a x=pure x:=by intro _;rfl)
 (W:∀env x,AN iter2 env x=pure x:=by intro _ _;rfl) :
 PE X (.ListComp elt [⟨tg,iter,ifs,0⟩,⟨tg2,iter2,ifs2,0⟩] csc cpos) (vg fr wi g ts λacc=>uR wi2 g2 ts2 (sH acc te)):=
 mS hc S hi (B:=λacc env=>(do
         let x <-eval iter2 env
         standAt iter2.pos
         let x <-AN iter2 env x;let _ <-runOwn (.compStart (.ListComp elt [⟨tg,iter,ifs,0⟩,⟨tg2,iter2,ifs2,0⟩] csc cpos) 1 (<-holding [x] (pyIter x)) acc env) env)) (XZ elt tg iter ifs tg2 iter2 ifs2 csc cpos) hg ht
  (λC R H0 ex acc=>mP rfl hc (Y C R H0 ex) (Z C R H0 ex) (U C R H0 ex) (sY (he C R H0 ex)) (W _)) hs
def rD:yL X (.builtin "isinstance") (λxs H Q=>∃x c t b,xs=[x,.k c]/\uW X.K H x (.type t)/\HU X.K (.type t) (.type c)=some b/\Q (.e b) H):=by intro pins s σ H xs us Q I r h;obtain⟨x,c,t,b,rfl,R,e,q⟩:=h;obtain⟨u,N,rfl,S,U⟩:=vals2 r;cases (show N=Dd c from U);exact gE I S R e λtk=>⟨.e b,H,I.tok _,rfl,q⟩
inductive Kd where
 |e|i|b|g|d|h|f
 deriving DecidableEq
noncomputable def Kd.nm:Kd->String
 |.e=>"NoneType"|.i=>"bool"|.b=>"int"|.g=>"str"|.d=>"list"|.h=>"tuple"|.f=>"dict"
noncomputable def Kd.sub(a c:Kd):Bool:=decide (a=c)||(decide (a=.i)&&decide (c=.b))
def Wz K(a c:Kd)(N:c≠.e):HU K (.type a.nm) (.type c.nm)=some (a.sub c):=by
 cases c with
 |e=>exact absurd rfl N
 |i=>cases a<;>rfl
 |b=>cases a<;>rfl
 |g=>cases a<;>rfl
 |d=>cases a<;>rfl
 |h=>cases a<;>rfl
 |f=>cases a<;>rfl
def all_range:∀(bs:List Bool),((Ah bs.length).all λi=>bs.getD i false)=bs.all id:=by
 intro bs;induction bs with
 |nil=>rfl
 |cons b bs N=>
  rw[Ak,List.range_succ_eq_map,CA,CA,List.all_map];exact congrArg (b&&·) (Gd (by congr 1) N)
theorem Vals.bools:∀{bs:List Bool} {us},Vals (bs.map V.e) us->us=bs.map DV
 |[],us,r=>by cases r;rfl
 |b::bs,us,r=>by
  rw[AF]at r;cases r with
  |cons R N=>
   cases (show _=DV b from R);rw[Vals.bools N,AF]
def rC(hc:X.g=true):yL X (.builtin "all") (λxs H Q=>∃(a:Addr) (bs:List Bool),xs=[.c a]/\SqL X.K H a (bs.map V.e)/\Q (.e (bs.all id)) H):=by
 intro pins s σ H xs us Q I r h;obtain⟨a,bs,rfl,ha,q⟩:=h;obtain⟨u,rfl,ru⟩:=vals1 r;cases ru;obtain⟨its,rv,W,hz⟩:=I.list ha;have R:=rv.bools;have Z:a<s.heap.objs.size:=by obtain⟨o,S,_⟩:=W.isList;exact Am S
 refine call_all_walk (Ee W.isList ?_);refine⟨s.heap.objs.size,_,_,_,_,_,λi=>bs.getD i false,rfl,Ie (A:=X.A.in1) (I.y.d hc) s.heap.objs.size a (AD Z) its.toArray,⟨⟨_,Az _ rfl,rfl,rfl⟩,?_⟩,?_,λh' tk hk=>?_⟩
 . obtain⟨o,S,Y,n,hd⟩:=W.isList
   exact⟨o,zO _ S,Y,n,hd⟩
 . intro i v s' Q' E' hv hq
   have N:(bs.map DV)[i]?=some v:=by rw[<-R];simpa using hv
   rw[Aq]at N;cases hb:bs[i]? with
   |none=>rw[hb]at N;cases N
   |some b=>
    rw[hb]at N;have:v=DV b:=(AH N).symm;subst this;have e:bs.getD i false=b:=by rw[Ad,hb];rfl
    have U:Q' (bs.getD i false) s':=hq;rw[e]at U;exact Cu U
 . have e:(Ah its.toArray.size).all (λi=>bs.getD i false)=bs.all id:=by rw[Ae,R,Aa];exact all_range bs
   rw[e];refine⟨.e (bs.all id),H,I.kept λb o S=>hk b o ?_ (zO _ S),rfl,q⟩;simpa using AD (Am S)
def bu(h:H p=none)o:sm H (upd H p o):=λb u q=>by rw[zM (zU q h)];exact q
def sC(H:Hp)(ys:List V)(Q:VK):Prop:=∀p H',sm H H'->H' p=some (.c ys)->Q (.c p) H'
def sC.new(g:sC H ys Q):∀p,H p=none->Q (.c p) (upd H p (.c ys)):=λp hp=>g p _ (bu hp _) zY
def Rl:V->Option Int->Option Int->Hp->VK->Prop:=λx lo hi H Q=>∃a xs,x=.c a/\H a=some (.c xs)/\sC H (qO xs lo hi) Q
def SR:R2:=λx y H Q=>∃a b xs ys,x=.c a/\y=.c b/\H a=some (.c xs)/\H b=some (.c ys)/\xs.length+ys.length<=AI/\sC H (xs++ys) Q
def SX:R2:=λx y H Q=>∃a k xs,x=.c a/\y=.d k/\H a=some (.c xs)/\2<=k/\k<=1000/\xs≠[]/\xs.length<=1000/\sC H (AR k.toNat xs).flatten Q
def i9{lo hi}(R:IsTup s.heap t items)(hs:s.heap.IsSliceOf sl vl vu .none)(Y:IsPart vl lo)(X:IsPart vu hi)
 (h0:HT.sIx items.size 0 lo=0) (h1:HT.sIx items.size items.size hi=items.size) (h:Q (.ref t) s):wpAny (model prog w) A (getItem (.ref t) (.ref sl)) Q E s:=by
 obtain⟨os,S,U,Z⟩:=id hs;have W:s.TypeIs (.ref sl) "slice":=⟨os,S,U⟩;unfold getItem
 try with_reducible refine Bo ?_
 first|refine dm (xd ?_)|skip
 refine dm (GP R.typeIs (by decide) ?_)
 refine dm (BC (name:=CO "__getitem__") R.typeIs Ba
  (BA Ba R.typeIs F6 ?_ (Gp _ _)))
 show wpAny _ _ (ED (.ref t) >>= _) _ _ s;refine dm (Ft R ?_);refine dm (DO W ?_);rw[if_pos (by decide)]
 refine dm (HT.wu hs Y X ?_);have N:(((HT.sIx items.size 0 lo:Nat):Int) == 0&&(1:Int) == 1&&(HT.sIx items.size items.size hi-HT.sIx items.size 0 lo) == items.size)=true:=by rw[h0,h1];simp
 show wpAny _ _ (if (((HT.sIx items.size 0 lo:Nat):Int) == 0&&(1:Int) == 1&&(HT.sIx items.size items.size hi-HT.sIx items.size 0 lo) == items.size)=true then _ else _) _ _ s
 rw[if_pos N];unfold GD;refine dm (dm (DO R.typeIs (xd ?_)));rw[if_pos (by decide)]
 exact dm (BE (xd ⟨_,rfl,xd h⟩))
def YR:SlR X Rl:=by
 intro pins s σ H x v Z Y lo hi sl Q I R hs U S h;obtain⟨a,xs,rfl,hx,g⟩:=h;by_cases hw:HT.sIx xs.length 0 lo=0/\HT.sIx xs.length xs.length hi=xs.length
 . cases R
   obtain⟨its,r,W,hz⟩:=I.tuple (.inl (.inl hx));have N:its.toArray.size=xs.length:=by rw[Ae];exact r.length.symm
   refine⟨"tuple",_,Ba.lookup,W.typeIs,?_⟩;refine i9 W hs U S (by rw[N];exact hw.1) (by rw[N];exact hw.2) ⟨.c a,H,I,rfl,g a H (sm.refl H) ?_⟩
   rw[hx];unfold qO;rw[hw.1,hw.2,C9,Hb,List.take_length]
 . exact Vv pins s σ H (.c a) v Z Y lo hi sl Q I R hs U S ⟨a,xs,rfl,.inl (.inl hx),hw,g.new⟩
def cR:OpR X (BZ .Add) SR:=by
 intro pins s σ H x y v u Q I rx ry h;obtain⟨a,b,xs,ys,rfl,rfl,Z,Y,hz,g⟩:=h;by_cases hx:xs=[]
 . cases rx
   cases ry;subst hx;obtain⟨its,r1,p1,_⟩:=I.tuple (.inl (.inl Z));obtain⟨N,r2,p2,_⟩:=I.tuple (.inl (.inl Y));cases r1;obtain⟨⟨cls,dd,data,sl⟩,ho,hc,n,hd⟩:=id p1;obtain⟨⟨cls2,dd2,data2,W⟩,R,U,n2,S⟩:=id p2;simp only at hc hd U S;subst hc hd U S;exact concat_meets ⟨_,ho,rfl⟩ ⟨_,R,rfl⟩ G6 Im Fj Fc (EV _ _)
    (tuple_addW0 a b #[] N.toArray n n2 dd dd2 sl W rfl) ⟨ho,R,⟨.c b,H,I,rfl,g b H (sm.refl H) Y⟩⟩
 . refine Zo pins s σ H (.c a) (.c b) v u Q I rx ry ⟨a,b,xs,ys,rfl,rfl,.inl (.inl Z),.inl (.inl Y),hx,hz,λe=>?_,λ_=>g.new⟩
   subst e;rw[A1]at g;exact g a H (sm.refl H) Z
def xC:fillsNumberSlot (.type "tuple") "mul"=pure false:=
 PySem.fillsNumberSlot_seq (id:="tuple.__mul__") (r:=some (.builtin "tuple.__rmul__")) Ew.lookup (by decide +kernel) F.slot_tuple_rmul.lookup (by decide +kernel)
def vL:seqRepeat? (.type "tuple")=pure (some (.builtin "tuple.__mul__")):=by
 unfold seqRepeat?;rw[PySem.seqSlot_of (T:="tuple") (name:="__mul__") (id:="tuple.__mul__") Ew.lookup (by decide +kernel),PySem.seqSlot_of (T:="tuple") (name:="__rmul__") (id:="tuple.__rmul__") F.slot_tuple_rmul.lookup (by decide +kernel)]
 rfl
def xp a t l items n dd sl :
 Meets (Builtin.«int.__rmul__» ⟨[.int a t,.ref l],[]⟩) (λ_ R s=>s.heap.get? l=some {cls:=.type "tuple",dict:=dd,data:=.seq items n,slots:=sl}/\R (.ok (.ret Value.notImplemented)) s):=
 .of_wp λprog w A R s h=>by obtain⟨hp,g,d,tk,os⟩:=s;obtain⟨N,h⟩:=h;wp_walk;exact⟨_,rfl,h⟩
def ku l items n x u dd sl(h1:2<=x)(h2:x<=1000)(W:¬items.isEmpty=true)(h4:items.size<=1000) :
 Meets (Builtin.«tuple.__mul__» ⟨[.ref l,.int x u],[]⟩) (λ_ R s=>s.heap.get? l=some {cls:=.type "tuple",dict:=dd,data:=.seq items n,slots:=sl} /\
  R (.ok (.ret (Bb s.heap.objs.size))) {s with heap:=s.heap.push {cls:=Dd "tuple",data:=Data.seq (Eu (λS N=>S++N) #[] (AR x.toNat items))},toks:=s.toks}):=
 .of_wp λprog w A R s h=>by
  obtain⟨hp,g,d,tk,os⟩:=s;obtain⟨Y,h⟩:=h;have f1:=Hc;have c1:¬((decide (x < -(2 ^ 63))||decide (x ≥ 2 ^ 63))=true):=by simp;omega
  have c2:¬((items.isEmpty||x == 1)=true):=by simp at W ⊢;exact⟨W,⋯⟩
  have c3:¬((decide (x<=0)||items.isEmpty)=true):=by simp at W ⊢;exact⟨⋯,W⟩
  have X:(items.size:Int)*x<=1000*1000:=Int.mul_le_mul ⋯ h2 ⋯ ⋯
  have c4:¬((items.size:Int)*x > (2 ^ 63-1)/8):=by omega
  have Z:AI=16777216:=Bk;have c5:¬(EE ((items.size:Int)*x)=true):=by unfold EE;rw[Z];simp only[decide_eq_true_eq];omega
  have hn:(Eu (λS N=>S++N) #[] (AR x.toNat items)).size=x.toNat*items.size:=by have e:=foldl_rep items.toList x.toNat [];simp only[Array.toArray_toList,DZ]at e;rw[e,Ae,len_rep,Ax]
  have U:sizeOk (.seq (Eu (λS N=>S++N) #[] (AR x.toNat items))):=by
   show (Eu (λS N=>S++N) #[] (AR x.toNat items)).size<=AI;rw[hn,Z];have:x.toNat*items.size<=1000*1000:=Ej ⋯ h4
   omega
  wp_walk using Ck Y
  rw[if_neg c1];refine dm (Ft (items:=items) ⟨_,Y,rfl,n,rfl⟩ ?_);rw[if_neg c2];show wpAny _ _ (if (decide (x<=0)||items.isEmpty)=true then _ else _) _ _ _
  rw[if_neg c3];show wpAny _ _ (if (items.size:Int)*x > (2 ^ 63-1)/8 then _ else _) _ _ _
  rw[if_neg c4];show wpAny _ _ (if EE ((items.size:Int)*x)=true then _ else _) _ _ _
  rw[if_neg c5];exact dm (m:=BO _) (A4 (xd ⟨_,rfl,h⟩) U)
def Zs:OpR X (BZ .Mult) SX:=by
 intro pins s σ H x y v u Q I rx Z h;obtain⟨a,k,xs,rfl,rfl,ha,h1,h2,h3,Y,g⟩:=h;cases rx;obtain⟨t,rfl⟩:=Z;obtain⟨its,r,p1,_⟩:=I.tuple (.inl (.inl ha));obtain⟨⟨cls,dd,data,S⟩,N,W,n,hd⟩:=id p1;simp only at W hd;subst W hd;have hl:=r.length;have R:¬its.toArray.isEmpty=true:=by simp;intro e;exact h3 (r.uv.mp e)
 refine DF (T:="tuple") (U:="int") (by decide) ⟨_,N,rfl⟩ (λs'=>DY s' k t) xC FR CP vL Fy.lookup
  (Df CP (DY s k t) Fz (Ff _ _) (xp k t a its.toArray n dd S)
   ⟨N,rfl,⟨_,N,rfl⟩,Df Ew ⟨_,N,rfl⟩ GU (Gu _ _) (ku a its.toArray n k t dd S h1 h2 R (by rw[Ae,<-hl];exact Y)) ⟨N,?_⟩⟩)
 have e:=foldl_rep its k.toNat [];rw[DZ]at e;have hz:(AR k.toNat xs).flatten.length<=AI:=by
  rw[len_rep,Bk];have:k.toNat*xs.length<=1000*1000:=Ej ⋯ Y
  omega
 refine⟨.c s.heap.objs.size,_,I.laid (t':=s.toks) (o:=.c (AR k.toNat xs).flatten) (λb ob q=>zO _ q) (Ab _) ⟨hz,(AR k.toNat its).flatten,r.rep k.toNat,?_⟩,rfl,g.new _ (I.j.fresh (Ab _))⟩;rw[show (#[]:Array Value)=([]:List Value).toArray from rfl,e];exact tK.new _ _
section
variable {X:Cx}{pos:Pos}
def XS(i j k:Nat)(ta:TA):TS:=λD σ H=>ta σ H λvs H1=>∃v w z,vs=[v,w,z]/\D.a (((σ.set i (some v)).set j (some w)).set k (some z)) H1
def vals3(r:Vals [x,y,z] us):∃S R N,us=[S,R,N]/\RelV x S/\RelV y R/\RelV z N:=by
 cases r with
 |cons r1 Z=>
  cases Z with
  |cons Y X=>
   cases X with
   |cons W U=>cases U;exact⟨_,_,_,rfl,r1,Y,W⟩
def YC{kt k2 pt2}(hc:X.g=true)(hN:X.N.Nodup)(hi:X.N[i]?=some x)(hj:X.N[j]?=some y)(hk:X.N[k]?=some z)(hij:i≠j)(hik:i≠k)(hjk:j≠k)
 (hx:X.a.scope.names.lookup x=some .local) (hy:X.a.scope.names.lookup y=some .local) (hz:X.a.scope.names.lookup z=some .local) (ha:PA X [a,b,c] ta)
 (hw:Cq [.Tuple [.Name x px,.Name y py,.Name z pz] kt pt] (.Tuple [a,b,c] k2 pt2) X.a=pure (some [x,y,z]))
 (hs:Fs [.Tuple [.Name x px,.Name y py,.Name z pz] kt pt] (.Tuple [a,b,c] k2 pt2) pos.line X.a=pure false:=by rfl) :
 PS X (.Assign [.Tuple [.Name x px,.Name y py,.Name z pz] kt pt] (.Tuple [a,b,c] k2 pt2) pos) (XS i j k ta):=by
 intro pins s σ H D I h;rw[exec_Assign_arm];refine dm (BL ?_);rw[hs];refine dm (xd ?_);rw[if_neg (by decide)]
 refine dm (Tuple_ (thn (ha _ pins s σ H _ I h) λus s1 zn=>?_));refine byG λpi R=>?_;obtain⟨vs,H1,I1,r1,Z⟩:=zn;refine R ?_;refine byG λpi R=>?_;obtain⟨v,w,zz,e1,Z⟩:=Z;refine R ?_;subst e1;refine byG λpi R=>?_;obtain⟨W,U,S,rfl,rv,Y,rz⟩:=vals3 r1;refine R ?_;refine A4 ?_ (by show 3<=AI;decide)
 have I2:Inv X pins σ H1 {s1 with heap:=s1.heap.push {cls:=.type "tuple",data:=.seq [W,U,S].toArray}}:=I1.kept (t':=s1.toks) λb o e=>zO _ e
 rw[hw];refine dm (xd ?_);show wpAny (model X.f X.w) X.A (do rule "assign.swapped-stores";let items <-unpackItems (.ref s1.heap.objs.size) 3 none;Fq [λv=>Es X.a z v,λv=>Es X.a y v,λv=>Es X.a x v] items.reverse;pure Iv) _ _ _
 refine dm (BE (dm (unpackItems_tuple (items:=#[W,U,S]) (I.y.d hc) (IsTup.new s1.heap _) λh' hx'=>?_)));have I3:=I2.kept (h':=h') (t':=s1.toks) λb o e=>hx' b o (AD (Am e)) e;show wpAny _ _ (Fq [λv=>Es X.a z v,λv=>Es X.a y v,λv=>Es X.a x v] [S,U,W] >>= λ_=>pure Iv) _ _ _;refine dm (Dj (E9 (x8 I3 hN hk (.inl hz) rz (λs2 I4=>?_) (.inr hz))));refine Dj (E9 (x8 I4 hN hj (.inl hy) Y (λs3 I5=>?_) (.inr hy)));refine Dj (E9 (x8 I5 hN hi (.inl hx) rv (λs4 I6=>GO (xd ?_)) (.inr hx)));refine⟨_,H1,?_,Z⟩;have e:((σ.set k (some zz)).set j (some w)).set i (some v)=((σ.set i (some v)).set j (some w)).set k (some zz):=by rw[Gy _ _ (BJ hij),Gy _ _ (BJ hik),Gy _ _ (BJ hjk)]
 rw[<-e];exact I6
end
mutual
inductive DD(H:Hp)(p:Addr):V->PyData->Prop
 |non:DD H p .g .none
 |bl (b:Bool):DD H p (.e b) (.bool b)
 |int (i:Int):DD H p (.d i) (.int i)
 |str (x:Str):DD H p (.f x) (.str x)
 |lst {a:Addr} {xs:List V} {ds:List PyData}:H a=some (.b xs)->a≠p->DDs H p xs ds->DD H p (.c a) (.list ds)
 |tup {a:Addr} {xs:List V} {ds:List PyData}:H a=some (.c xs)->a≠p->DDs H p xs ds->DD H p (.c a) (.tuple ds)
 |dct {a:Addr}:H a=some (.j [])->a≠p->DD H p (.c a) (.dict [])
inductive DDs(H:Hp)(p:Addr):List V->List PyData->Prop
 |b:DDs H p [] []
 |a {x:V} {xs:List V} {d:PyData} {ds:List PyData}:DD H p x d->DDs H p xs ds->DDs H p (x::xs) (d::ds)
end
theorem DDs.length:∀{vs} {ds},DDs H p vs ds->vs.length=ds.length
 |_,_,.b=>rfl
 |_,_,.a _ rs=>by rw[Ak,Ak,rs.length]
theorem DDs.append:∀{vs ws} {ds es},DDs H p vs ds->DDs H p ws es->DDs H p (vs++ws) (ds++es)
 |_,_,_,_,.b,r=>r
 |_,_,_,_,.a r rs,q=>.a r (rs.append q)
mutual
noncomputable def yv:PyData->Bool
 |.none|.bool _|.int _|.str _=>false
 |.list _=>true
 |.tuple xs=>y9 xs
 |.dict _=>false
noncomputable def y9:List PyData->Bool
 |[]=>false
 |x::xs=>yv x||y9 xs
end
structure Yv(d:PyData):Prop where
 sh:d.showable=true
 a:d.hasDict=true->yv d=false
 dp:d.depth<=50
 ln:d.shown.length<=AI
structure uV(k w:Nat)(d:PyData):Prop where
 c:d.showable=true
 b:d.leavesShort 40=true
 a:d.depth<=k
 f:d.weight<=w
def uV.mono(h:uV k w d)(R:k<=k')(N:w<=w'):uV k' w' d:=⟨h.c,h.b,Ao h.a R,Ao h.f N⟩
def dv(X:-(10 ^ 30)<i)(U:i<10 ^ 30):uV 0 100 (.int i):=by
 have S:i.natAbs<10 ^ 30:=by omega
 have R:i.natAbs<2 ^ 100:=FU S (by decide)
 have N:i.natAbs≠0->i.natAbs.log2<100:=λz=>(Nat.log2_lt z).mpr R;refine⟨?_,?_,AS _,?_⟩
 . show decide (i.natAbs.log2<1920)=true
   by_cases z:i.natAbs=0
   . rw[z];decide
   . exact decide_eq_true (FU (N z) (by decide))
 . show decide ((PyData.shown (.int i)).length<=40)=true
   refine decide_eq_true ?_;show (CO (toString i)).length<=40;by_cases z:0<=i
   . exact Ao (toString_length_le z (k:=30) (by decide) U) (by decide)
   . have e:=len_text_negI (n:=i) ⋯
     have Y:=toString_length_le (v:=0-i) (k:=30) ⋯ (by decide) ⋯
     omega
 . show (if i == 0 then 0 else i.natAbs.log2+1)<=100
   split
   . exact AS _
   . rename_i z
     have W:i≠0:=by simpa using z
     exact N ⋯
theorem w8:∀{ds},(∀d∈ds,d.showable=true)->PyData.showableAll ds=true
 |[],_=>rfl
 |d::ds,h=>by rw[PyData.showableAll,h d AE,w8 λx hx=>h x (Ay _ hx)];rfl
theorem tM:∀{ds},(∀d∈ds,d.leavesShort 40=true)->PyData.leavesShortAll 40 ds=true
 |[],_=>rfl
 |d::ds,h=>by rw[PyData.leavesShortAll,h d AE,tM λx hx=>h x (Ay _ hx)];rfl
theorem tL:∀{ds},(∀d∈ds,d.depth<=k)->FV ds<=k
 |[],_=>AS _
 |d::ds,h=>by rw[FV];exact Nat.max_le.mpr ⟨h d AE,tL λx hx=>h x (Ay _ hx)⟩
theorem v9:∀{ds},(∀d∈ds,d.weight<=w)->He ds<=ds.length*(w+1)
 |[],_=>by simp[He]
 |d::ds,h=>by rw[He,Ak,Nat.succ_mul];have R:=h d AE;have N:=v9 λx hx=>h x (Ay _ hx);omega
def lX(h:∀d∈ds,uV k w d)(N:ds.length<=n):uV (k+1) (n*(w+1)) (.tuple ds):=by refine⟨w8 λd hd=>(h d hd).c,tM λd hd=>(h d hd).b,Ey (tL λd hd=>(h d hd).a),?_⟩;exact Ao (v9 λd hd=>(h d hd).f) (CT _ N)
def gN(h:∀d∈ds,uV k w d)(N:ds.length<=n):uV (k+1) (n*(w+1)) (.list ds):=by refine⟨w8 λd hd=>(h d hd).c,tM λd hd=>(h d hd).b,Ey (tL λd hd=>(h d hd).a),?_⟩;exact Ao (v9 λd hd=>(h d hd).f) (CT _ N)
def uV.Sk(h:uV k w d)(hk:k<=50)(hw:w<=300000)(N:d.hasDict=true->yv d=false):Yv d:=by
 refine⟨h.c,N,Ao h.a hk,?_⟩;have e:=PyData.shown_le 40 (by decide) d h.b
 have R:=h.f;rw[Bk];have:(40+2)*d.weight<=42*300000:=F7 _ (Ao R hw);omega
theorem tm:∀{ds},(∀d∈ds,d.hasDict=false)->PyData.hasDictAll ds=false
 |[],_=>rfl
 |d::ds,h=>by rw[PyData.hasDictAll,h d AE,tm λx hx=>h x (Ay _ hx)];rfl
section
variable {X:Cx}{pos:Pos}
def SG(U:Gl X x)(S:X.d x=none)(N:Di x=some (.type n))(R:x≠"__name__":=by decide)(hd:(x == ("__debug__":Str))=false:=by decide):PE X (.Name x pos) (tC (.k n)):=
 Z1 U S N (show RelV (.k n) (.type n) from rfl) R hd
noncomputable def noStar:Expr->Bool
 |.Starred ..=>false
 |_=>true
def yD(h:noStar e=true):A9 (e::es) env=(false,eval e env)::A9 es env:=by
 cases e<;>first|rfl|cases h
def pac(R:PE X e te)(N:PA X es t)(hs:noStar e=true:=by rfl):PA X (e::es) (iY te t):=Zz R N (yD hs)
noncomputable def tQ(R:Scope)(S N:List Str)(csc:Scope)(fr:List (Option Nat)):Bool:=
 decide (csc.kind=.function)&&csc.names.all (λx=>decide (x.2≠.cell)||csc.names.all λy=>decide (y≠(x.1,A6)))&&csc.names.all (λx=>decide (x.2≠.local)||decide (csc.names.lookup x.1=some .local)) &&
 csc.names.all (λx=>decide (x.2≠.free)||(decide (R.names.lookup x.1=some .cell)||decide (R.names.lookup x.1=some .free)))&&decide (fr.length=N.length) &&
 (Ah N.length).all (λi=>match fr[i]?,N[i]? with|some (some j),some x=>decide (S[j]?=some x)&&csc.names.any (λy=>decide (y.1=x)&&decide (y.2=.free))|_,_=>true) &&
 csc.names.all (λx=>decide (x.2≠.free)||decide (csc.names.lookup x.1≠some .local))&&(decide (("!":Str) ∉ N)||(decide (("!":Str)∈S)&&R.names.any (λy=>decide (R.names.lookup y.1=some .cell))))
end
noncomputable def zp{N:Type}(xs:List N)(lo st:Int)(n:Nat):List N:=(Ah n).filterMap λ(k:Nat)=>xs[(lo+(k:Int)*st).toNat]?
theorem Vals.pick(r:Vals xs us):∀(is:List Nat),Vals (is.filterMap λi=>xs[i]?) (is.filterMap λi=>us[i]?)
 |[]=>.nil
 |i::is=>by
  rw[A7,A7];cases hx:xs[i]? with
  |none=>rw[r.none_of hx];exact Vals.pick r is
  |some x=>
   obtain⟨u,hu,N⟩:=r.get hx;rw[hu];exact .cons N (Vals.pick r is)
theorem Vals.zp{xs:List V}{us:List Value}(r:Vals xs us)(lo st:Int)(n:Nat):Vals (zp xs lo st n) (L2.zp us lo st n):=by have h:=r.pick ((Ah n).map λ(k:Nat)=>(lo+(k:Int)*st).toNat);rw[CH,CH]at h;exact h
def mT(xs:List α)lo st n:(zp xs lo st n).length<=n:=by have:=Hf (λ(k:Nat)=>xs[(lo+(k:Int)*st).toNat]?) (Ah n);rw[AZ]at this;exact this
noncomputable def yS(n:Nat)(lo hi:Option Int)(st:Int):Int × Nat:=((BF lo hi st (n:Int)).1,B1 (BF lo hi st (n:Int)).1 (BF lo hi st (n:Int)).2 st)
def qU{lo hi}{st}{n:Nat}(hs:s.heap.IsSliceOf sl vl vu vc)(U:IsPart vl lo)(S:IsPart vu hi)(W:IsPart vc (some st))(h0:st≠0)
 (h:Q ((yS n lo hi st).1,st,(yS n lo hi st).2) s):wpAny (model prog w) A (Dv (.ref sl) (pure (n:Int))) Q E s:=by
 obtain⟨os,N,X,R⟩:=id hs;unfold Dv G0;refine dm (dm (BH N R (x:=vl) rfl (dm (BH N R (x:=vu) rfl (dm (BH N R (x:=vc) rfl (xd ?_)))))));refine dm (HT.x6 W ?_);show wpAny _ _ (if (st == 0)=true then _ else _) _ _ s
 rw[if_neg (by simpa using h0)]
 exact dm (HT.x6 U (dm (HT.x6 S (dm (xd (xd h))))))
def aI{lo hi}{st}(S:IsTup s.heap t items)(hs:s.heap.IsSliceOf sl vl vu vc)(pl:IsPart vl lo)(pu:IsPart vu hi)(pc:IsPart vc (some st))(h0:st≠0)
 (X:(yS items.size lo hi st).1=0->st=1->(yS items.size lo hi st).2=items.size->Q (.ref t) s)
 (U:Q (.ref s.heap.objs.size) {s with heap:=s.heap.push {cls:=.type "tuple",data:=.seq (zp items.toList (yS items.size lo hi st).1 st (yS items.size lo hi st).2).toArray}})
 (W:(yS items.size lo hi st).2<=AI):wpAny (model prog w) A (getItem (.ref t) (.ref sl)) Q E s:=by
 obtain⟨os,Y,Z,hds⟩:=id hs;have hTs:s.TypeIs (.ref sl) "slice":=⟨os,Y,Z⟩;have N:sizeOk (.seq (zp items.toList (yS items.size lo hi st).1 st (yS items.size lo hi st).2).toArray):=by show (zp items.toList (yS items.size lo hi st).1 st (yS items.size lo hi st).2).toArray.size<=AI;rw[Ae];exact Ao (mT _ _ _ _) W
 have R:((Ah (yS items.size lo hi st).2).filterMap λ(k:Nat)=>items[((yS items.size lo hi st).1+(k:Int)*st).toNat]?).toArray=(zp items.toList (yS items.size lo hi st).1 st (yS items.size lo hi st).2).toArray:=by unfold zp;simp only[Bm]
 unfold getItem
 try with_reducible refine Bo ?_
 first|refine dm (xd ?_)|skip
 refine dm (GP S.typeIs (by decide) ?_)
 refine dm (BC (name:=CO "__getitem__") S.typeIs Ba
  (BA Ba S.typeIs F6 ?_ (Gp _ _)))
 show wpAny _ _ (ED (.ref t) >>= _) _ _ s;refine dm (Ft S ?_);refine dm (DO hTs ?_);rw[if_pos (by decide)]
 refine dm (qU (n:=items.size) hs pl pu pc h0 ?_);by_cases hw:((yS items.size lo hi st).1 == 0&&st == 1&&(yS items.size lo hi st).2 == items.size)=true
 . show wpAny _ _ (if ((yS items.size lo hi st).1 == 0&&st == 1&&(yS items.size lo hi st).2 == items.size)=true then _ else _) _ _ s
   rw[if_pos hw];simp only[ub,beq_iff_eq]at hw;unfold GD;refine dm (dm (DO S.typeIs (xd ?_)));rw[if_pos (by decide)]
   exact dm (BE (xd ⟨_,rfl,xd (X hw.1.1 hw.1.2 hw.2)⟩))
 . show wpAny _ _ (if ((yS items.size lo hi st).1 == 0&&st == 1&&(yS items.size lo hi st).2 == items.size)=true then _ else _) _ _ s
   rw[if_neg hw,R]
   first
    |exact dm (m:=BO _) (A4 (xd ⟨_,rfl,xd U⟩) N)
    |exact dm (dm (m:=BO _) (A4 (xd ⟨_,rfl,xd U⟩) N))
theorem mU{N:Type}:∀xs:List N,(Ah xs.length).filterMap (λk=>xs[k]?)=xs
 |[]=>rfl
 |x::xs=>by
  rw[Ak,List.range_succ_eq_map,A7,CH];show x::_=_;refine congrArg (x::·) (Gd ?_ (mU xs))
  congr 1
def kM(xs:List α):zp xs 0 1 xs.length=xs:=by
 unfold zp;have e:(λ(k:Nat)=>xs[(0+(k:Int)*1).toNat]?)=λk=>xs[k]?:=by funext k;rw[show (0+(k:Int)*1).toNat=k by omega]
 rw[e];exact mU xs
def Rm:V->Option Int->Option Int->Option Int->Hp->VK->Prop:=λx lo hi st H Q=>∃a xs c,x=.c a/\H a=some (.c xs)/\st=some c/\c≠0/\(yS xs.length lo hi c).2<=AI/\sC H (zp xs (yS xs.length lo hi c).1 c (yS xs.length lo hi c).2) Q
def S0(r:V->Option Int->Option Int->Option Int->Hp->VK->Prop)(te:TE)(tl th tc:TO):TE:=λσ H Q=>te σ H λx H1=>tl σ H1 λl H2=>th σ H2 λu R=>tc σ R λc N=>r x l u c N Q
def fA{lo hi}{st}(he:PE X e te)(hl:PO X lo tl)(hu:PO X hi th)(hc:PO X (some st) tc):PE X (.Subscript e (.Slice lo hi (some st) p2) pos) (S0 Rm te tl th tc):=by
 intro pins s σ H Q I h;refine Ib (thn (he pins s σ H _ I h) λv s1 Y=>?_);obtain⟨x,H1,I1,r1,q1⟩:=Y;refine wpAny_Slice (thn (hl pins s1 σ H1 _ I1 q1) λvl s2 ⟨l,H2,I2,pl,q2⟩=>thn (hu pins s2 σ H2 _ I2 q2) λvu s3 ⟨u,H3,I3,pu,q3⟩=>thn (hc pins s3 σ H3 _ I3 q3) λvc R Y=>?_);obtain⟨c,W,I4,pc,q4⟩:=Y;obtain⟨a,xs,Z,rfl,hx,ec,h0,S,g⟩:=q4;subst ec;cases r1;have U:Inv X pins σ W {R with heap:=R.heap.push {cls:=.type "slice",data:=.fields #[vl,vu,vc]}}:=I4.kept (t':=R.toks) λb ob q=>zO _ q
 obtain⟨its,r,ht,hz⟩:=U.tuple (.inl (.inl hx));have N:its.toArray.size=xs.length:=by rw[Ae];exact r.length.symm
 show wpAny (model X.f X.w) X.A (GB e (.Slice lo hi (some st) p2) (.ref a) (.ref R.heap.objs.size)) (EP X pins σ Q) X.h {R with heap:=R.heap.push {cls:=.type "slice",data:=.fields #[vl,vu,vc]}}
 refine tail_any (ops:=[.ref a,.ref R.heap.objs.size]) ht.typeIs Ba.lookup (aI ht (Gq ..) pl pu pc h0 (λz1 z2 z3=>?_) ?_ (by rw[N];exact S)) (by with_unfolding_all rfl)
 . refine⟨.c a,W,U,rfl,g a W (sm.refl W) ?_⟩
   rw[N]at z1 z3;rw[hx,z1,z3,z2,kM]
 . rw[N]
   refine⟨.c _,_,U.laid (t':=R.toks) (o:=.c (zp xs (yS xs.length l u Z).1 Z (yS xs.length l u Z).2)) (λb ob q=>zO _ q) (Ab _) ?_,rfl,g.new _ (U.j.fresh (Ab _))⟩;refine⟨Ao (mT _ _ _ _) S,_,r.zp _ _ _,?_⟩;exact tK.new _ _
end L2
end
section
namespace L2
open PySem PyProof.Rows
section
variable {X:Cx}
noncomputable def vP(d:Int):List Int->Int
 |[]=>d
 |n::ns=>ns.foldl (λa b=>if b > a then b else a) n
theorem rL:∀(ns:List Int) a,a<=ns.foldl (λa b=>if b > a then b else a) a/\(∀x∈ns,x<=ns.foldl (λa b=>if b > a then b else a) a)/\(ns.foldl (λa b=>if b > a then b else a) a=a\/ns.foldl (λa b=>if b > a then b else a) a∈ns)
 |[],a=>⟨Cr _,λ_ h=>(nomatch h),.inl rfl⟩
 |n::ns,a=>by
  obtain⟨S,U,N⟩:=rL ns (if n > a then n else a)
  show a<=ns.foldl _ (if n > a then n else a)/\_
  have R:a<=(if n > a then n else a)/\n<=(if n > a then n else a):=by split<;>omega
  refine⟨Be R.1 S,λx hx=>?_,?_⟩
  . rcases Al.mp hx with e|hx
    . rw[e];exact Be R.2 S
    . exact U x hx
  . rcases N with N|N
    . show ns.foldl _ (if n > a then n else a)=a\/ns.foldl _ (if n > a then n else a)∈n::ns
      rw[N];split
      . exact .inr (AE ..)
      . exact .inl rfl
    . exact .inr (Ay _ N)
def lq(h:ns≠[]):vP d ns∈ns/\∀x∈ns,x<=vP d ns:=by
 cases ns with
 |nil=>exact absurd rfl h
 |cons n ns=>
  obtain⟨S,R,N⟩:=rL ns n;refine⟨?_,λx hx=>?_⟩
  . rcases N with N|N
    . show ns.foldl _ n∈_;rw[N];exact AE ..
    . exact Ay _ N
  . rcases Al.mp hx with e|hx
    . rw[e];exact S
    . exact R x hx
def n9(R:M∈ns)(S:∀x∈ns,x<=M):vP d ns=M:=by
 have N:ns≠[]:=λe=>by rw[e]at R;exact nomatch R
 obtain⟨a,b⟩:=lq (d:=d) N;exact Int.le_antisymm (S _ a) (b _ R)
theorem Vals.ints:∀{ns:List Int} {us},Vals (ns.map V.d) us->∀{i:Nat} {v},us[i]?=some v->∃t,v=.int (ns.getD i 0) t
 |[],_,.nil,_,_,h=>by cases h
 |n::ns,_,.cons r rs,0,v,h=>by
  obtain⟨t,e⟩:=r;have:v=.int n t:=(AH h).symm.trans e;exact⟨t,this⟩
 |n::ns,_,.cons r rs,i+1,v,h=>by have:=Vals.ints rs (i:=i) (v:=v) h;exact this
end
end L2
end
section
namespace L2
open PySem PyProof PyProof.Rows
section
variable {X:Cx}
def kr l items n u dd sl :
 Meets (Builtin.«tuple.__mul__» ⟨[.ref l,.int 1 u],[]⟩) (λ_ R s=>s.heap.get? l=some {cls:=.type "tuple",dict:=dd,data:=.seq items n,slots:=sl}/\R (.ok (.ret (Bb l))) s):=
 .of_wp λprog w A R s h=>by
  obtain⟨hp,g,d,tk,os⟩:=s;obtain⟨N,h⟩:=h;have S:=Hc;have W:¬((decide ((1:Int) < -(2 ^ 63))||decide ((1:Int) ≥ 2 ^ 63))=true):=by decide
  have U:((items.isEmpty||((1:Int) == 1))=true):=by simp
  wp_walk using Ck N
  exact⟨_,rfl,h⟩
def kq l items n x u dd sl(U:x<=0)(Z:-1000<=x)(S:¬items.isEmpty=true) :
 Meets (Builtin.«tuple.__mul__» ⟨[.ref l,.int x u],[]⟩) (λ_ R s=>s.heap.get? l=some {cls:=.type "tuple",dict:=dd,data:=.seq items n,slots:=sl} /\
  R (.ok (.ret (Bb s.heap.objs.size))) {s with heap:=s.heap.push {cls:=Dd "tuple",data:=Data.seq #[]},toks:=s.toks}):=
 .of_wp λprog w A R s h=>by
  obtain⟨hp,g,d,tk,os⟩:=s;obtain⟨N,h⟩:=h;have f1:=Hc;have Y:¬((decide (x < -(2 ^ 63))||decide (x ≥ 2 ^ 63))=true):=by simp;omega
  have X:¬((items.isEmpty||x == 1)=true):=by simp at S ⊢;exact⟨S,⋯⟩
  have W:((decide (x<=0)||items.isEmpty)=true):=by simp;exact .inl U
  wp_walk using Ck N
  rw[if_neg Y];refine dm (Ft (items:=items) ⟨_,N,rfl,n,rfl⟩ ?_);rw[if_neg X];show wpAny _ _ (if (decide (x<=0)||items.isEmpty)=true then _ else _) _ _ _
  rw[if_pos W];exact dm (m:=BO _) (A4 (xd ⟨_,rfl,h⟩))
def SY:R2:=λx y H Q=>∃a k xs,x=.c a/\y=.d k/\H a=some (.c xs)∧-1000<=k/\k<=1000/\xs≠[]/\xs.length<=1000/\sC H (AR k.toNat xs).flatten Q
def Zr:OpR X (BZ .Mult) SY:=by
 intro pins s σ H x y v u Q I Z Y h;obtain⟨a,k,xs,rfl,rfl,W,h1,h2,h3,h4,g⟩:=h;by_cases hk2:2<=k
 . exact Zs pins s σ H _ _ v u Q I Z Y ⟨a,k,xs,rfl,rfl,W,hk2,h2,h3,h4,g⟩
 cases Z;obtain⟨t,rfl⟩:=Y;obtain⟨its,r,p1,_⟩:=I.tuple (.inl (.inl W));obtain⟨⟨cls,dd,data,R⟩,N,hc,n,hd⟩:=id p1;simp only at hc hd;subst hc hd;by_cases hk1:k=1
 . subst hk1
   refine DF (T:="tuple") (U:="int") (by decide) ⟨_,N,rfl⟩ (λs'=>DY s' 1 t) xC FR CP vL Fy.lookup
    (Df CP (DY s 1 t) Fz (Ff _ _) (xp 1 t a its.toArray n dd R)
     ⟨N,rfl,⟨_,N,rfl⟩,Df Ew ⟨_,N,rfl⟩ GU (Gu _ _) (kr a its.toArray n t dd R) ⟨N,?_⟩⟩)
   refine⟨.c a,H,I,rfl,g a H (sm.refl H) ?_⟩;rw[W];simp
 . have S:¬its.toArray.isEmpty=true:=by simp;intro e;exact h3 (r.uv.mp e)
   have e0:k.toNat=0:=by omega
   refine DF (T:="tuple") (U:="int") (by decide) ⟨_,N,rfl⟩ (λs'=>DY s' k t) xC FR CP vL Fy.lookup
    (Df CP (DY s k t) Fz (Ff _ _) (xp k t a its.toArray n dd R)
     ⟨N,rfl,⟨_,N,rfl⟩,Df Ew ⟨_,N,rfl⟩ GU (Gu _ _) (kq a its.toArray n k t dd R ⋯ h1 S) ⟨N,?_⟩⟩)
   rw[e0]at g;refine⟨.c s.heap.objs.size,_,I.laid (t':=s.toks) (o:=.c []) (λb ob q=>zO _ q) (Ab _) ⟨AS _,[],.nil,tK.new _ _⟩,rfl,g.new _ (I.j.fresh (Ab _))⟩
noncomputable def xE(a b c:Int):List Int:=(Ah (A0 a b c).toNat).map λ(i:Nat)=>a+(i:Int)*c
theorem qp:∀{ns:List Int} {us},ns.length=us.length->(∀(i:Nat) v,us[i]?=some v->∃t,v=.int (ns.getD i 0) t)->Vals (ns.map V.d) us
 |[],[],_,_=>.nil
 |[],_::_,h,_=>by cases h
 |_::_,[],h,_=>by cases h
 |n::ns,u::us,h,hv=>.cons (by obtain⟨t,e⟩:=hv 0 u rfl;exact⟨t,e⟩) (qp (Nat.succ.inj h) λi v e=>hv (i+1) v e)
def oh a b c(N:0<c):0<=A0 a b c:=by
 unfold A0;rw[if_pos N];split
 . have:=Int.ediv_nonneg (a:=b-a-1) (b:=c) ⋯ ⋯;omega
 . omega
def qQ{x y:Str}(R:X.g=true)(hx:x="list")(hy:y="range")(hg:Gl X x)(hm:X.d x=none)(hg2:Gl X y)(Z:X.d y=none)(ha:PA X [a] ta)
 (hs:A9 [a] X.a=[(false,eval a X.a)]:=by rfl) :
 PE X (.Call (.Name x p) [.Call (.Name y p2) [a] [] pos2] [] pos) (λσ H Q=>ta σ H λvs H1=>∃j:Int,vs=[.d j]∧-(2 ^ 30)<=j/\j<=2 ^ 30/\(A0 0 j 1)<=1000/\∀l,H1 l=none->Q (.c l) (upd H1 l (.b ((xE 0 j 1).map V.d)))):=by
 intro pins s σ H Q I h;subst hx hy;refine DX (vb I hg hm Fm ?_ (by decide) (by decide))
 refine Ca (PyProof.Rows.spliced_more (Call_ (vb I hg2 Z boot_range (Ca (thn (ha pos2 pins s σ H _ I h) λus s1 zn=>?_) hs rfl) (by decide) (by decide))))
 obtain⟨vs,H1,I1,r1,q1⟩:=zn;obtain⟨j,rfl,j0,j1,hz,q⟩:=q1;cases r1 with
 |cons r rr=>
  cases rr;obtain⟨t,rfl⟩:=r;have hn0:=oh 0 j 1 ⋯
  refine call_range_1 ?_;refine PyProof.Rows.spliced_none ?_;have I2:Inv X pins σ H1 {s1 with heap:=s1.heap.push {cls:=.type "range",data:=.fields #[.int 0 s1.toks,.int j t,.int 1 (s1.toks+1)]},toks:=s1.toks+1+1}:=I1.kept λb o e=>zO _ e
  refine call_list_range (n:=(A0 0 j 1).toNat) (I1.y.d R) (IsRange.new ..) ?_ ⋯ ⋯ λh' tk N c' kp e hit=>?_
  . unfold Builtin.Range.small
    rw[if_pos ⋯]
    simp only[Builtin.Range.rangeFitsLong,ub,Bd,decide_eq_true_eq,beq_iff_eq];omega
  . obtain⟨Y,W⟩:=hit
    have hl:(xE 0 j 1).length=N.toList.length:=by unfold xE;rw[Aa,AZ];simpa using Y.symm
    have hv:Vals ((xE 0 j 1).map V.d) N.toList:=by
     refine qp hl λm v hm=>?_;have S:N[m]?=some v:=by simpa using hm
     obtain⟨t,e⟩:=W m v S;have hlt:m<(A0 0 j 1).toNat:=by have:=(AV.mp S).1;omega
     refine⟨t,?_⟩;rw[e];congr 1;unfold xE;rw[Ad,Aq,Cy hlt];rfl
    have U:((xE 0 j 1).map V.d).length<=AI:=by unfold xE;rw[Aa,Aa,AZ,Bk];omega
    exact⟨.c _,_,I2.laid (t':=tk) (o:=.b ((xE 0 j 1).map V.d)) kp (Ab _) ⟨U,N.toList,c',hv,by simpa using e⟩,rfl,q _ (I2.j.fresh (Ab _))⟩
end
end L2
end
section
namespace L2
open PySem PyProof PyProof.Rows
section
variable {X:Cx}
theorem tR:∀{xs} {us},Vals xs us->xs.all wL=true->us.countP (eqU x)=xs.countP λy=>eqV y x
 |_,_,.nil,_=>rfl
 |y::ys,u::us,.cons r rs,h=>by rw[CA,ub]at h;rw[Ez,Ez,tR rs h.2,lQ r h.1]
def og(K:AG)(tup:Bool):V->List V->Hp->VK->Prop:=λx vs H Q=>∃t xs y,x=.c t/\vs=[y]/\(if tup=true then SqT K H t xs else SqL K H t xs)/\wL y=true/\xs.all wL=true/\Q (.d (xs.countP λz=>eqV z y:Nat)) H
def gW:MtR X "tuple.count" (og X.K true):=by
 intro pins s σ H x xs v us Q I U Y h;obtain⟨t,ys,y,rfl,rfl,ht,fy,fs,q⟩:=h;cases U;obtain⟨u,rfl,W⟩:=vals1 Y;obtain⟨its,r,Z,_⟩:=I.tuple ht;obtain⟨⟨cls,dd,data,S⟩,N,R,n,hd⟩:=id Z;simp only at R hd;subst R hd;refine Df F.slot_tuple_count ⟨_,N,rfl⟩ F.entry_tuple_count (F.args_tuple_count_2 _ _) (SeqAt.tuple_countAt t its.toArray n dd S u (eqU y)) ⟨N,λw hw=>xt W fy r fs w (by simpa using hw),?_⟩
 rw[show its.toArray.toList=its from rfl,tR r fs];exact⟨.d _,H,I.tok _,⟨s.toks,rfl⟩,q⟩
def gV:MtR X "list.count" (og X.K false):=by
 intro pins s σ H x xs v us Q I U Y h;obtain⟨t,ys,y,rfl,rfl,ht,fy,fs,q⟩:=h;cases U;obtain⟨u,rfl,W⟩:=vals1 Y;obtain⟨its,r,Z,_⟩:=I.list ht;obtain⟨⟨cls,dd,data,S⟩,N,R,n,hd⟩:=id Z.isList;simp only at R hd;subst R hd;refine Df F.slot_list_count ⟨_,N,rfl⟩ F.entry_list_count (F.args_list_count_2 _ _) (SeqAt.list_countAt t its.toArray n dd S u (eqU y)) ⟨N,λw hw=>xt W fy r fs w (by simpa using hw),?_⟩
 rw[show its.toArray.toList=its from rfl,tR r fs];exact⟨.d _,H,I.tok _,⟨s.toks,rfl⟩,q⟩
theorem uF h:∀ns:List Int,((ns.map V.d).countP λz=>eqV z (.d h))=ns.count h
 |[]=>rfl
 |n::ns=>by rw[AF,Ez,uF h ns,List.count_cons];rfl
theorem tW:∀ns:List Int,(ns.map V.d).all wL=true
 |[]=>rfl
 |n::ns=>by rw[AF,CA,tW ns];rfl
noncomputable def vf(d:Int):List Int->Int
 |[]=>d
 |n::ns=>ns.foldl (λa b=>if b<a then b else a) n
theorem rM:∀(ns:List Int) a,ns.foldl (λa b=>if b<a then b else a) a<=a/\(∀x∈ns,ns.foldl (λa b=>if b<a then b else a) a<=x)/\(ns.foldl (λa b=>if b<a then b else a) a=a\/ns.foldl (λa b=>if b<a then b else a) a∈ns)
 |[],a=>⟨Cr _,λ_ h=>(nomatch h),.inl rfl⟩
 |n::ns,a=>by
  obtain⟨S,U,N⟩:=rM ns (if n<a then n else a)
  show ns.foldl _ (if n<a then n else a)<=a/\_
  have R:(if n<a then n else a)<=a/\(if n<a then n else a)<=n:=by split<;>omega
  refine⟨Be S R.1,λx hx=>?_,?_⟩
  . rcases Al.mp hx with e|hx
    . rw[e];exact Be S R.2
    . exact U x hx
  . rcases N with N|N
    . show ns.foldl _ (if n<a then n else a)=a\/ns.foldl _ (if n<a then n else a)∈n::ns
      rw[N];split
      . exact .inr (AE ..)
      . exact .inl rfl
    . exact .inr (Ay _ N)
def lu(h:ns≠[]):vf d ns∈ns/\∀x∈ns,vf d ns<=x:=by
 cases ns with
 |nil=>exact absurd rfl h
 |cons n ns=>
  obtain⟨S,R,N⟩:=rM ns n;refine⟨?_,λx hx=>?_⟩
  . rcases N with N|N
    . show ns.foldl _ n∈_;rw[N];exact AE ..
    . exact Ay _ N
  . rcases Al.mp hx with e|hx
    . rw[e];exact S
    . exact R x hx
def mF(R:M∈ns)(S:∀x∈ns,M<=x):vf d ns=M:=by
 have N:ns≠[]:=λe=>by rw[e]at R;exact nomatch R
 obtain⟨a,b⟩:=lu (d:=d) N;exact Int.le_antisymm (b _ R) (S _ a)
def XM(K:AG)(g:List Int->Int):List V->Hp->VK->Prop:=λxs H Q=>∃(a:Addr) (ns:List Int),xs=[.c a]/\SqL K H a (ns.map V.d)/\ns≠[]/\Q (.d (g ns)) H
def iw(hc:X.g=true):yL X (.builtin "max") (XM X.K (vP 0)):=by
 intro pins s σ H xs us Q I r h;obtain⟨a,ns,rfl,ha,Y,q⟩:=h;obtain⟨u,rfl,ru⟩:=vals1 r;cases ru;obtain⟨its,rv,W,hz⟩:=I.list ha;have R:=rv.length;have U:a<s.heap.objs.size:=by obtain⟨o,N,_⟩:=W.isList;exact Am N
 have hl:its.toArray.size=ns.length:=by rw[Ae,<-R,Aa]
 have hpos:0<ns.length:=EI.mpr Y;have S:∀(i:Nat) (v:Value),its.toArray[i]?=some v->∃t,v=.int (ns.getD i 0) t:=λi v hv=>rv.ints (by simpa using hv)
 refine call_max_walk (Ee W.isList ?_);refine⟨s.heap.objs.size,_,_,_,_,_,_,rfl,Ie (A:=X.A.in1) (I.y.d hc) s.heap.objs.size a (AD U) its.toArray,⟨⟨_,Az _ rfl,rfl,rfl⟩,?_⟩,λb hb=>?_,⋯,CmpOf.ints_gt (λi=>ns.getD i 0) S,λv h' tk hP hk=>?_⟩
 . obtain⟨o,N,Z,n,hd⟩:=W.isList
   exact⟨o,zO _ N,Z,n,hd⟩
 . rw[BK]
   simp only[Al,Bt,or_false]at hb;rcases hb with e|e
   . rw[e];exact CF _
   . rw[e];exact Cg U
 . obtain⟨t,rfl⟩:=S _ _ hP
   obtain⟨b1,b2⟩:=argBest_gt (λi=>ns.getD i 0) (its.toArray.size-1);have e:vP 0 ns=ns.getD (argBest (λi j=>decide (ns.getD i 0 > ns.getD j 0)) (its.toArray.size-1)) 0:=by
    refine n9 ?_ λx hx=>?_
    . have:argBest (λi j=>decide (ns.getD i 0 > ns.getD j 0)) (its.toArray.size-1)<ns.length:=by omega
      rw[Ad,pn this];exact B0 this
    . obtain⟨i,hi,rfl⟩:=Bz hx
      have:=b2 i ⋯
      simpa [Ad,pn hi] using this
   refine⟨.d (vP 0 ns),H,I.kept λb o N=>hk b o ?_ (zO _ N),⟨t,by rw[e]⟩,q⟩
   simpa using AD (Am N)
def i6(hc:X.g=true):yL X (.builtin "min") (XM X.K (vf 0)):=by
 intro pins s σ H xs us Q I r h;obtain⟨a,ns,rfl,ha,Y,q⟩:=h;obtain⟨u,rfl,ru⟩:=vals1 r;cases ru;obtain⟨its,rv,W,hz⟩:=I.list ha;have R:=rv.length;have U:a<s.heap.objs.size:=by obtain⟨o,N,_⟩:=W.isList;exact Am N
 have hl:its.toArray.size=ns.length:=by rw[Ae,<-R,Aa]
 have hpos:0<ns.length:=EI.mpr Y;have S:∀(i:Nat) (v:Value),its.toArray[i]?=some v->∃t,v=.int (ns.getD i 0) t:=λi v hv=>rv.ints (by simpa using hv)
 refine call_min_walk (Ee W.isList ?_);refine⟨s.heap.objs.size,_,_,_,_,_,_,rfl,Ie (A:=X.A.in1) (I.y.d hc) s.heap.objs.size a (AD U) its.toArray,⟨⟨_,Az _ rfl,rfl,rfl⟩,?_⟩,λb hb=>?_,⋯,CmpOf.ints_lt (λi=>ns.getD i 0) S,λv h' tk hP hk=>?_⟩
 . obtain⟨o,N,Z,n,hd⟩:=W.isList
   exact⟨o,zO _ N,Z,n,hd⟩
 . rw[BK]
   simp only[Al,Bt,or_false]at hb;rcases hb with e|e
   . rw[e];exact CF _
   . rw[e];exact Cg U
 . obtain⟨t,rfl⟩:=S _ _ hP
   obtain⟨b1,b2⟩:=argBest_lt (λi=>ns.getD i 0) (its.toArray.size-1);have e:vf 0 ns=ns.getD (argBest (λi j=>decide (ns.getD i 0<ns.getD j 0)) (its.toArray.size-1)) 0:=by
    refine mF ?_ λx hx=>?_
    . have:argBest (λi j=>decide (ns.getD i 0<ns.getD j 0)) (its.toArray.size-1)<ns.length:=by omega
      rw[Ad,pn this];exact B0 this
    . obtain⟨i,hi,rfl⟩:=Bz hx
      have:=b2 i ⋯
      simpa [Ad,pn hi] using this
   refine⟨.d (vf 0 ns),H,I.kept λb o N=>hk b o ?_ (zO _ N),⟨t,by rw[e]⟩,q⟩
   simpa using AD (Am N)
def g8(W:PE X o to)(he:PE X e te)(R:Fu o "count" X.a (eval o X.a)=eval o X.a:=by rfl)(S:noStar e=true:=by rfl)(N:(apos.endLine == cpos.line)=true:=by rfl) :
 PE X (.Call (.Attribute o "count" apos) [e] [] cpos) (tBM X.K "list" (og X.K false) to (iY te YY)):=by
 have U:A9 [e] X.a=(false,eval e X.a)::A9 [] X.a:=yD S;refine SA PySem.F.plainAttrs_list PySem.F.slot_list_count PySem.F.type_list_count gV W (pac he vH S) R ?_ N U rfl;rw[U];rfl
def Rr(r:V->List V->Hp->VK->Prop)(to:TE)(t:TA):TE:=λσ H Q=>to σ H λx H1=>(∃a xs,x=.c a/\H1 a=some (.c xs))/\t σ H1 λxs H2=>r x xs H2 Q
def g9(ho:PE X o to)(he:PE X e te)(R:Fu o "count" X.a (eval o X.a)=eval o X.a:=by rfl)(S:noStar e=true:=by rfl)(N:(apos.endLine == cpos.line)=true:=by rfl) :
 PE X (.Call (.Attribute o "count" apos) [e] [] cpos) (Rr (og X.K true) to (iY te YY)):=by
 have U:A9 [e] X.a=(false,eval e X.a)::A9 [] X.a:=yD S;intro pins s σ H Q I h;refine wpAny_Call_method_late R (by rw[U];rfl) N rfl (thn (ho pins s σ H _ I h) λv s1 ⟨x,H1,I1,r1,ty,q1⟩=>?_)
 obtain⟨a,xs,rfl,hx⟩:=ty;cases r1;obtain⟨z,its,rv,W,Z,c1,n,d1,nd⟩:=(show z9 X.f X.w H1 s1.heap a (.c xs) from I1.j a _ hx);refine⟨"tuple",_,PySem.F.plainAttrs_tuple,PySem.F.slot_tuple_count,PySem.F.type_tuple_count,⟨W,Z,c1⟩,λb hb=>?_,?_⟩
 . cases hb;exact⟨W,Z,nd⟩
 have Y:=(pac he vH S:PA X [e] _) cpos pins s1 σ H1 _ I1 q1;rw[U]at Y ⊢;refine Calls.callWith_builtin rfl (Calls.evalArgs_plain ?_);exact thn Y λus s2 ⟨vs,H2,I2,r2,q2⟩=>gW pins s2 σ H2 (.c a) vs _ us Q I2 rfl r2 q2
end
end L2
namespace L2
open PySem
end L2
end
section
namespace L2
open PySem PySem.W PySem.Calls PyProof PyProof.Rows
noncomputable def Yz(z:Int × Int):Int:=z.1*1000+z.2
def z9.got(x:z9 P w H h a o):∃u,h.get? a=some u:=by
 cases o with
 |b xs=>obtain⟨_,_,_,_,e⟩:=x;exact⟨_,e⟩
 |c xs=>obtain⟨_,_,_,_,e,_⟩:=x;exact⟨_,e⟩
 |j N=>obtain⟨_,_,_,_,o,_,_,e,_⟩:=x;exact⟨_,e⟩
 |k N=>obtain⟨_,_,_,_,o,_,_,e,_⟩:=x;exact⟨_,e⟩
 |m S n=>obtain⟨o,_,_,_,e,_⟩:=x;exact⟨_,e⟩
 |l C W fs=>obtain⟨_,_,_,e,_⟩:=x;exact⟨_,e⟩
 |e y=>exact x
 |r fs=>obtain⟨_,⟨_,_,_,e,_⟩,_⟩:=x;exact⟨_,e⟩
 |q lo hi=>obtain⟨_,_,_,e⟩:=x;exact⟨_,e⟩
 |g U u=>obtain⟨e,_⟩:=x;exact⟨_,e⟩
 |d ps=>exact⟨_,x⟩
 |p f y=>exact⟨_,x⟩
 |i R=>exact x.2.1
def tu{N:Type}(d:N){zs}{l:List Nat}(h:l.Perm (Ah zs.length)):(l.map λi=>zs.getD i d).Perm zs:=by
 have e:(Ah zs.length).map (λi=>zs.getD i d)=zs:=by
  apply EA
  . simp
  . intro i S R
    simp[pn R]
 exact(h.map _).trans (.of_eq e)
def Inv.Xn(I:Inv X pins σ H s)(Z:ys.length<=AI)(r:Vals ys its)(W:s.heap.get? D=none)(keep:∀b o,b≠X.a.locals->s.heap.get? b=some o->h'.get? b=some o)
 (ns:∀m,s.heap.Ns X.a.locals m->h'.Ns X.a.locals m) (e:h'.get? D=some {cls:=.type "list",data:=.seq its.toArray c}):H D=none/\Inv X pins σ (upd H D (.b ys)) {s with heap:=h'}:=by
 have U:H D=none:=by
  cases q:H D with
  |none=>rfl
  |some o=>
   obtain⟨u,hu⟩:=z9.got (I.j D o q);rw[W]at hu;cases hu
 have ne:∀b o,H b=some o->b≠D:=λb o q z=>by rw[z,U]at q;cases q
 have N:∀b o,s.heap.get? b=some o->b≠D:=λb o q z=>by rw[z,W]at q;cases q
 refine⟨U,I.step (g':=s.gens) (d':=s.drawn) (t':=s.toks) (ch:=[]) (λ_ z=>nomatch z) (λb o S _ _ q _=>keep b o S q) (λb o S _ _ q _=>⟨o.slots,keep b o S q⟩) (λb o _ q n=>?_) (λb o _ q=>?_) (λb xs q=>?_) (λb o u q=>?_) (λb ps q=>?_) ns (λb o q=>?_) I.C⟩
 . rw[zM (N b o q)];exact n
 . by_cases hb:b=X.a.locals
   . subst hb
     obtain⟨m,hm,_⟩:=I.O;obtain⟨Y,_,_,R,_⟩:=ns m hm;exact⟨Y,R⟩
   . exact⟨o,keep b o hb q⟩
 . rw[zM (ne b _ q)];exact q
 . rw[zM (ne b _ q)];exact q
 . exact⟨#[],by rw[zM (ne b _ q),q];simp⟩
 . by_cases hb:b=D
   . subst hb
     rw[zY]at q;cases q;exact⟨Z,its,c,r,e⟩
   . rw[zM hb]at q
     refine(I.j b o q).kg (λx u hx hu=>keep x u ?_ hu) (λx hx=>by rw[zM (ne x _ hx)];exact hx) (λx xs hx=>by rw[zM (ne x _ hx)];exact hx)
     rcases hx with rfl|hx
     . intro z;rw[z,I.G]at q;cases q
     . intro z;rw[z,I.G]at hx;cases hx
end L2
end
section
namespace L2
open PySem PySem.W PySem.Calls PyProof PyProof.Rows Att
def qz{N:Type}{zs}(d:N):(Ah zs.length).map (λi=>zs.getD i d)=zs:=by
 apply EA
 . simp
 . intro i S R
   simp[pn R]
end L2
end
section
namespace L2
open PySem PySem.W PySem.Calls PyProof PyProof.Rows
noncomputable def TQ:List Int->List Int->Bool
 |x::xs,y::ys=>if x=y then TQ xs ys else decide (x<y)
 |_,_=>false
inductive vz:List Value->List Int->Prop
 |b:vz [] []
 |a {i:Int} {t:Tok} {us:List Value} {ns:List Int}:vz us ns->vz (.int i t::us) (i::ns)
def RG(K:AG)(H:Hp)(ys:List V)(zs:List (List Int)):Prop:=ys.length=zs.length/\∀(i:Nat) (z:List Int),zs[i]?=some z->∃b,ys[i]?=some (V.c b)/\SqT K H b (z.map V.d)
def TV(h:Heap)(its:List Value)(zs:List (List Int)):Prop:=
 its.length=zs.length/\∀(i:Nat) (z:List Int),zs[i]?=some z->∃b o n us,its[i]?=some (Bb b)/\h.get? b=some o/\o.cls=.type "tuple"/\o.data=.seq (List.toArray us) n/\vz us z
theorem TV.qH:∀{its} {zs},TV h its zs->(∀z∈zs,z≠[])->∃fs,KatTups h its fs/\fs.length=its.length/\∀v∈fs,∃i t,v=Dh i t
 |[],[],_,_=>⟨[],KatTups.nil,rfl,λ_ x=>nomatch x⟩
 |[],_::_,⟨l,_⟩,_=>by cases l
 |_::_,[],⟨l,_⟩,_=>by cases l
 |v::its,z::zs,⟨l,f⟩,hn=>by
  obtain⟨b,o,n,us,e,Y,Z,hd,W⟩:=f 0 z rfl;have e':v=Bb b:=by simpa using e
  subst e';obtain⟨fs,k,S,U⟩:=TV.qH (h:=h) (its:=its) (zs:=zs) ⟨by simpa using l,λi N e=>by simpa using f (i+1) N (by simpa using e)⟩ λN X=>hn N (.tail _ X)
  cases W with
  |b=>exact absurd rfl (hn [] (.head _))
  |@a i t us ns r=>
   refine⟨Dh i t::fs,KatTups.cons Y Z hd (by simp) k,by simp[S],λv R=>?_⟩
   rcases Al.mp R with rfl|R
   . exact⟨_,_,rfl⟩
   . exact U v R
def qm(h:vz us ns):us.length=ns.length:=by
 induction h with
 |b=>rfl
 |a _ N=>simp[N]
end L2
end
section
namespace L2.Tim
open PySem PySem.W PySem.Calls PyProof PyProof.Rows
section
variable {prog:Program}{w:World}{A:Around}{E:Value->Shared->Prop}{s:Shared}{κ:DP}{a₀:Array Keyed}{key:Keyed->Int}
noncomputable def kk(key:Keyed->Int)(a:Array Keyed)(i:Nat):Int:=key (a.getD i (Ac,Ac))
def SIn(key:Keyed->Int)(a:Array Keyed)(lo n:Nat):Prop:=∀i j,i<=j->j<n->kk key a (lo+i)<=kk key a (lo+j)
def NIn(key:Keyed->Int)(a:Array Keyed)(lo n:Nat):Prop:=∀i j,i<=j->j<n->kk key a (lo+j)<=kk key a (lo+i)
def Pre(lo:Nat)(a b:Array Keyed):Prop:=∀i,i<lo->b[i]?=a[i]?
def Pre.refl{lo}:Pre lo a a:=λ_ _=>rfl
theorem Pre.trans{lo}(h:Pre lo a b)(k:Pre lo b c):Pre lo a c:=λi hi=>(k i hi).trans (h i hi)
structure Bs(κ:DP)(a₀:Array Keyed)(st:SortSt):Prop where
 c:kindOf st=κ
 a:(arrOf st).Perm a₀
 b:EY st=none
theorem Bs.size{st}(h:Bs κ a₀ st):(arrOf st).size=a₀.size:=h.a.size_eq
def Bs.set{st}(h:Bs κ a₀ st)(hp:xs.Perm (arrOf st)):Bs κ a₀ (setArr st xs):=⟨h.c,hp.trans h.a,h.b⟩
def sk(prog:Program)(w:World)(A:Around)(E:Value->Shared->Prop)(s:Shared)(κ:DP)(a₀:Array Keyed)(key:Keyed->Int):Prop:=
 ∀(x y:Keyed) (st:SortSt) (Q:Option Bool->SortSt->Prop),x∈a₀.toList->y∈a₀.toList->kindOf st=κ->Q (some (decide (key x<key y))) st->wpS (model prog w) A E s (lt' x y) Q st
def yx(h:a[i]?=b[j]?):kk key a i=kk key b j:=by unfold kk;rw[AL,AL,h]
def Bs.at{st}(h:Bs κ a₀ st)(hi:i<a₀.size):∃x,(arrOf st)[i]?=some x/\x∈a₀.toList/\kk key (arrOf st) i=key x:=by
 have N:i<(arrOf st).size:=by rw[h.size];exact hi
 refine⟨(arrOf st)[i],by simp[N],?_,?_⟩
 . exact(Dx.mp h.a).mem_iff.mp (by simp)
 . unfold kk;simp[Ig,N]
def zl{st}(h:arr[i]?=some x)(q:Q x st):wpS (model prog w) A E s (elem' arr i) Q st:=by rw[elem'_eq,h];exact Au q
def lC(L:sk prog w A E s κ a₀ key){st}(N:Bs κ a₀ st)(hi:i<a₀.size)(X:j<a₀.size)
 (h:Q (some (decide (kk key (arrOf st) i<kk key (arrOf st) j))) st):wpS (model prog w) A E s (ltAt' i j) Q st:=by
 obtain⟨x,Z,S,W⟩:=N.at (key:=key) hi;obtain⟨y,Y,R,U⟩:=N.at (key:=key) X;rw[ltAt'_eq];refine Aj (wpS_get ?_);refine Aj (zl Z (Aj (zl Y ?_)));rw[W,U]at h;exact L x y st Q S R N.c h
def qt(N:j<=xs.size)k:kk key (mirror xs i j ((j-i)/2)) k=if i<=k/\k<j then kk key xs (i+j-1-k) else kk key xs k:=by
 have e:=getElem?_mirror_all (i:=i) N k;by_cases h1:i<=k/\k<j
 . rw[if_pos h1]at e ⊢;exact yx e
 . rw[if_neg h1]at e ⊢;exact yx e
def kO{lo i j}(N:j<=xs.size)(hi:lo<=i):Pre lo xs (mirror xs i j ((j-i)/2)):=λk hk=>by rw[getElem?_mirror_all (i:=i) N k,if_neg ⋯]
def qr(hs:src<xs.size)(hd:d<=src)k:kk key (bubble xs src d) k=if k=src-d then kk key xs src else if src-d<k/\k<=src then kk key xs (k-1) else kk key xs k:=by
 have e:=getElem?_bubble hs d hd k;by_cases h1:k=src-d
 . rw[if_pos h1]at e ⊢;exact yx e
 . rw[if_neg h1]at e ⊢
   by_cases h2:src-d<k/\k<=src
   . rw[if_pos h2]at e ⊢;exact yx e
   . rw[if_neg h2]at e ⊢;exact yx e
def UL{st}(h:Q () (setArr st (mirror (arrOf st) i j ((j-i)/2)))):wpS (model prog w) A E s (reverseSlice' i j) Q st:=by rw[reverseSlice'_eq];exact CB h
def UK(L:sk prog w A E s κ a₀ key){st}{lo n ok}(hn:lo+n<=a₀.size)(hok:ok<=n)(hB:Bs κ a₀ st)(hs:SIn key (arrOf st) lo ok)
 (h:∀st',Bs κ a₀ st'->Pre lo (arrOf st) (arrOf st')->AQ st'=AQ st->SIn key (arrOf st') lo n->Q true st'):wpS (model prog w) A E s (binarySort' lo n ok) Q st:=by
 rw[binarySort'_eq];refine Aj (CU (BD (I:=λk c st'=>c=(none,())/\Bs κ a₀ st'/\Pre lo (arrOf st) (arrOf st')/\AQ st'=AQ st/\SIn key (arrOf st') lo (min k n))
  (Q:=λc st'=>c=(none,())/\Bs κ a₀ st'/\Pre lo (arrOf st) (arrOf st')/\AQ st'=AQ st/\SIn key (arrOf st') lo n) ?step ?fin ?init) ?post)
 case post=>
  rintro c st' ⟨rfl,W,hp,X,R⟩;exact Au (h st' W hp X R)
 case init=>
  refine⟨rfl,hB,.refl,rfl,λi j hij hj=>?_⟩;by_cases h1:ok=0
  . have:i=j:=by omega
    subst this;exact Cr _
  . exact hs i j hij ⋯
 case fin=>
  rintro c st' ⟨hc,W,hp,X,R⟩;refine⟨hc,W,hp,X,?_⟩
  rwa [show min (max (max ok 1) n) n=n by omega]at R
 case step=>
  rintro k c st' hak hkn ⟨rfl,W,hp,X,R⟩;rw[show min k n=k by omega]at R
  have hk:lo+k<a₀.size:=by omega
  refine Aj (CU (BD (I:=λx c N=>N=st'/\∃l r,c=(none,l,r)/\l<=r/\r<=k/\r-l<=k-x /\
   (∀i,i<l->kk key (arrOf st') (lo+i)<=kk key (arrOf st') (lo+k))/\(∀i,r<=i->i<k->kk key (arrOf st') (lo+k)<kk key (arrOf st') (lo+i)))
   (Q:=λc N=>N=st'/\∃l r,c=(none,l,r)/\l<=k /\
    (∀i,i<l->kk key (arrOf st') (lo+i)<=kk key (arrOf st') (lo+k))/\(∀i,l<=i->i<k->kk key (arrOf st') (lo+k)<kk key (arrOf st') (lo+i))) ?istep ?ifin ?iinit) ?ipost)
  case iinit=>exact⟨rfl,0,k,rfl,⋯,⋯,⋯,λi hi=>⋯,λi h1 h2=>⋯⟩
  case ifin=>
   rintro c N ⟨rfl,l,r,rfl,hlr,Y,hm,S,U⟩;have:l=r:=by omega
   subst this;exact⟨rfl,l,l,rfl,Y,S,U⟩
  case istep=>
   rintro x c N _ hxk ⟨rfl,l,r,rfl,hlr,Y,hm,S,U⟩;dsimp only;by_cases hge:l ≥ r
   . rw[if_pos hge]
     have:l=r:=by omega
     subst this;exact Au ⟨rfl,l,l,rfl,Y,S,U⟩
   . rw[if_neg hge]
     refine Aj (lC L W hk ⋯ ?_)
     by_cases hless:kk key (arrOf N) (lo+k)<kk key (arrOf N) (lo+(l+r)/2)
     . simp only[hless,decide_true,if_true]
       refine Au ⟨rfl,l,(l+r)/2,rfl,⋯,⋯,⋯,S,λi h1 h2=>?_⟩
       exact Int.lt_of_lt_of_le hless (R _ _ h1 h2)
     . simp only[hless,decide_false,Aw,if_false]
       refine Au ⟨rfl,(l+r)/2+1,r,rfl,⋯,⋯,⋯,λi h1=>?_,U⟩
       exact Be (R i ((l+r)/2) ⋯ ⋯) (Ih.mp hless)
  case ipost=>
   rintro c N ⟨rfl,l,r,rfl,hlk,S,U⟩;show wpS _ _ _ _ (do moveDown' (lo+k) (lo+l);pure (CQ (none,()))) _ _
   rw[moveDown'_eq];have Z:lo+k<(arrOf N).size:=by rw[W.size];exact hk
   refine Aj (CB (Au ⟨rfl,W.set (bubble_perm _ _ _),hp.trans λi hi=>?_,X,?_⟩))
   . show (bubble (arrOf N) (lo+k) (lo+k-(lo+l)))[i]?=_
     rw[getElem?_bubble Z _ ⋯,if_neg ⋯,if_neg ⋯]
   rw[show min (k+1) n=k+1 by omega]
   intro i j hij hj;show kk key (bubble (arrOf N) (lo+k) (lo+k-(lo+l))) (lo+i)<=kk key (bubble (arrOf N) (lo+k) (lo+k-(lo+l))) (lo+j);rw[qr Z ⋯,qr Z ⋯,show lo+k-(lo+k-(lo+l))=lo+l by omega]
   have e1:lo+i-1=lo+(i-1)\/i=0:=by omega
   have e2:lo+j-1=lo+(j-1)\/j=0:=by omega
   repeat' split
   all_goals first
    |(exfalso;omega)
    |exact Cr _
    |(rcases e1 with e1|e1<;>rcases e2 with e2|e2<;>first|(exfalso;omega)|(simp only[e1,e2];first|exact Cr _|exact S _ ⋯|exact EZ (U _ ⋯ ⋯)|exact R _ _ ⋯ ⋯))
    |exact S _ ⋯
    |exact EZ (U _ ⋯ ⋯)
    |exact R _ _ ⋯ ⋯
end
section
variable {prog:Program}{w:World}{A:Around}{E:Value->Shared->Prop}{s:Shared}{κ:DP}{a₀:Array Keyed}{key:Keyed->Int}
def Dis(key:Keyed->Int)(a₀:Array Keyed):Prop:=∀a:Array Keyed,a.Perm a₀->∀i j,i<a₀.size->j<a₀.size->i≠j->kk key a i≠kk key a j
def aN(L:sk prog w A E s κ a₀ key)(D:Dis key a₀){st}{lo nrem}(hn:lo+nrem<=a₀.size)(h1:1<=nrem)(W:Bs κ a₀ st)
 (h:∀m st',Bs κ a₀ st'->Pre lo (arrOf st) (arrOf st')->AQ st'=AQ st->1<=m->m<=nrem->SIn key (arrOf st') lo m->Q (some m) st') :
 wpS (model prog w) A E s (countRun' lo nrem) Q st:=by
 rw[countRun'_eq];have asc:∀(a:Nat) (R:SortSt) (Q':Option (Option Nat) × Nat->SortSt->Prop) (body:Nat->Option (Option Nat) × Nat->StateT SortSt Sem (ForInStep (Option (Option Nat) × Nat))),1<=a->a<=nrem->Bs κ a₀ R->SIn key (arrOf R) lo a ->
  (∀i c,body i c=(do
   let __x <-ltAt' (lo+c.snd) (lo+c.snd-1)
   match __x with
   |some U=>if U=true then pure (ForInStep.done (none,c.snd)) else pure (CQ (none,c.snd+1))
   |_=>pure (ForInStep.done (some none,c.snd)))) ->
  (∀n,a<=n->n<=nrem->SIn key (arrOf R) lo n->(n=nrem\/kk key (arrOf R) (lo+n)<kk key (arrOf R) (lo+n-1))->Q' (none,n) R) ->
  wpS (model prog w) A E s (forIn [a:nrem] ((none,a):Option (Option Nat) × Nat) body) Q' R:=by
  intro a R Q' body ha han hB1 hs1 hb hq;refine BD (I:=λx c st'=>st'=R/\c=(none,x)/\SIn key (arrOf R) lo x) ?step ?fin ⟨rfl,rfl,hs1⟩
  case fin=>
   rintro c st' ⟨rfl,rfl,N⟩;rw[show max a nrem=nrem by omega]at N ⊢
   exact hq nrem han (Ab _) N (.inl rfl)
  case step=>
   rintro x c st' hax hxn ⟨rfl,rfl,N⟩;rw[hb];dsimp only;refine Aj (lC L hB1 ⋯ ⋯ ?_)
   by_cases hless:kk key (arrOf st') (lo+x)<kk key (arrOf st') (lo+x-1)
   . simp only[hless,decide_true,if_true]
     exact Au (hq x hax ⋯ N (.inr hless))
   . simp only[hless,decide_false,Aw,if_false]
     refine Au ⟨rfl,rfl,λi j S hj=>?_⟩;by_cases hjx:j<x
     . exact N i j S hjx
     . have hj':j=x:=by omega
       subst hj';by_cases hi':i=j
       . subst hi';exact Cr _
       . rw[show lo+j-1=lo+(j-1) by omega]at hless
         exact Be (N i (j-1) ⋯ ⋯) (Ih.mp hless)
 refine Aj (asc 1 st _ _ (Ab _) h1 W (λi j S hj=>by cases (show i=j by omega);exact Cr _) (λi c=>rfl) λn hn1 hn2 Y hor=>?_)
 dsimp only;by_cases hnn:n=nrem
 . rw[if_pos (by simpa using hnn)]
   exact Au (h n st W .refl rfl hn1 hn2 Y)
 . rw[if_neg (by simpa using hnn)]
   have hlt:kk key (arrOf st) (lo+n)<kk key (arrOf st) (lo+n-1):=hor.resolve_left hnn;by_cases hgt:n > 1
   . rw[if_pos hgt]
     refine Aj (lC L W ⋯ ⋯ ?_)
     have Z:kk key (arrOf st) lo<kk key (arrOf st) (lo+n-1):=by
      have a1:=Y 0 (n-1) ⋯ ⋯
      rw[E2,show lo+(n-1)=lo+n-1 by omega]at a1
      have a2:=D _ W.a lo (lo+n-1) ⋯ ⋯ ⋯
      omega
     simp only[Z,decide_true,if_true];exact Au (h n st W .refl rfl hn1 hn2 Y)
   . rw[if_neg hgt]
     have hn1':n=1:=by omega
     subst hn1';refine Aj (Gf (BE ⟨rfl,?_⟩));refine Aj (CU (BD (I:=λx c st'=>st'=st/\c=(none,x,0)/\NIn key (arrOf st) lo x) (Q:=λc st'=>st'=st/\∃m,2<=m/\m<=nrem/\c=(none,m,0)/\NIn key (arrOf st) lo m) ?step ?fin ⟨rfl,rfl,?_⟩) ?post)
     case fin=>
      rintro c st' ⟨rfl,rfl,N⟩;exact⟨rfl,max (1+1) nrem,⋯,⋯,rfl,N⟩
     case step=>
      rintro x c st' hax hxn ⟨rfl,rfl,N⟩;dsimp only;refine Aj (lC L W ⋯ ⋯ ?_)
      by_cases hless:kk key (arrOf st') (lo+x)<kk key (arrOf st') (lo+x-1)
      . simp only[hless,decide_true,if_true]
        rw[if_neg ⋯]
        refine Au ⟨rfl,rfl,λi j S hj=>?_⟩;by_cases hjx:j<x
        . exact N i j S hjx
        . have hj':j=x:=by omega
          subst hj';by_cases hi':i=j
          . subst hi';exact Cr _
          . rw[show lo+j-1=lo+(j-1) by omega]at hless
            exact Be (EZ hless) (N i (j-1) ⋯ ⋯)
      . simp only[hless,decide_false,Aw,if_false]
        refine Aj (lC L W ⋯ ⋯ ?_)
        have hl:kk key (arrOf st') (lo+x-1)<kk key (arrOf st') (lo+x):=by
         have:=D _ W.a (lo+x) (lo+x-1) ⋯ ⋯ ⋯
         omega
        simp only[hl,decide_true,if_true];exact Au ⟨rfl,x,⋯,⋯,rfl,N⟩
     . intro i j S hj
       by_cases hi':i=j
       . subst hi';exact Cr _
       . have hi0:i=0:=by omega
         have hj1:j=1:=by omega
         subst hi0;subst hj1;rw[show lo+1-1=lo+0 by omega]at hlt
         exact EZ hlt
     case post=>
      rintro c st' ⟨rfl,m,hm2,hmn,rfl,N⟩;dsimp only;rw[if_neg ⋯]
      refine Aj (UL ?_);have X:lo+m<=(arrOf st').size:=by rw[W.size];omega
      have hB':=W.set (mirror_perm (arrOf st') lo (lo+m) ((lo+m-lo)/2));refine Aj (asc m _ _ _ ⋯ hmn hB' ?_ (λi c=>rfl) λk hk1 hk2 hsk _=>?_)
      . intro i j S hj
        show kk key (mirror (arrOf st') lo (lo+m) ((lo+m-lo)/2)) (lo+i)<=kk key (mirror (arrOf st') lo (lo+m) ((lo+m-lo)/2)) (lo+j);rw[qt X,qt X,if_pos ⋯,if_pos ⋯]
        have:=N (m-1-j) (m-1-i) ⋯ ⋯
        rwa [show lo+(m-1-j)=lo+(lo+m)-1-(lo+j) by omega,show lo+(m-1-i)=lo+(lo+m)-1-(lo+i) by omega]at this
      . exact Au (h k _ hB' (kO X (Ab _)) rfl ⋯ hk2 hsk)
end
section
variable {prog:Program}{w:World}{A:Around}{E:Value->Shared->Prop}{s:Shared}{κ:DP}{a₀:Array Keyed}{key:Keyed->Int}
noncomputable def jv:Bool->Keyed->Array Keyed->Nat->Nat->Nat->StateT SortSt Sem (Option Nat):=sortPriv% PySem.Builtin.gallop
def Cut(a₀:Array Keyed)(key:Keyed->Int)(left:Bool)(x:Keyed)(arr:Array Keyed)(base n k0:Nat):Prop:=
 ∀i,i<n->∃y,arr[base+i]?=some y/\y∈a₀.toList/\(if left=true then decide (key y<key x) else !decide (key x<key y))=decide (i<k0)
def wy(L:sk prog w A E s κ a₀ key)(U:Cut a₀ key left x arr base n k0)(hx:x∈a₀.toList){st:SortSt}(hk:kindOf st=κ)(hi:i<n)(h:Q (some (decide (i<k0))) st)
  (S:m=(elem' arr (base+i) >>= λy=>if left=true then lt' y x else lt' x y >>= λr=>pure (r.map (!·)))):wpS (model prog w) A E s m Q st:=by
 obtain⟨y,W,R,N⟩:=U i hi;rw[S];refine Aj (zl W ?_);cases left with
 |true=>
  rw[if_pos rfl]at N ⊢;refine L y x st _ R hx hk ?_;rw[N];exact h
 |false=>
  rw[if_neg Ag]at N ⊢;refine Aj (L x y st _ hx R hk (Au ?_));show Q (some (!decide (key x<key y))) st;rw[N];exact h
def pN{st}{body:Nat->Option (Option Nat) × Nat × Nat->StateT SortSt Sem (ForInStep (Option (Option Nat) × Nat × Nat))}
 (U:∀i lo hi (N:ForInStep (Option (Option Nat) × Nat × Nat)->SortSt->Prop),lo ≥ hi->N (.done (none,lo,hi)) st->wpS (model prog w) A E s (body i (none,lo,hi)) N st)
 (S:∀i lo hi (N:ForInStep (Option (Option Nat) × Nat × Nat)->SortSt->Prop),lo<hi->hi<=n->N (if lo+(hi-lo)/2<k0 then .yield (none,lo+(hi-lo)/2+1,hi) else .yield (none,lo,lo+(hi-lo)/2)) st->wpS (model prog w) A E s (body i (none,lo,hi)) N st)
 {lo hi} (a1:lo<=k0) (a2:k0<=hi) (Z:hi<=n) {Q:Option (Option Nat) × Nat × Nat->SortSt->Prop} (q:∀l,Q (none,l,k0) st):wpS (model prog w) A E s (forIn [:n] ((none,lo,hi):Option (Option Nat) × Nat × Nat) body) Q st:=by
 refine BD (I:=λx c st'=>st'=st/\∃lo hi,c=(none,lo,hi)/\lo<=k0/\k0<=hi/\hi<=n/\hi-lo<=n-x) ?step ?fin ⟨rfl,lo,hi,rfl,a1,a2,Z,⋯⟩
 case fin=>
  rintro c st' ⟨rfl,lo,hi,rfl,Y,X,R,W⟩;have:hi=k0:=by omega
  subst this;exact q lo
 case step=>
  rintro x c st' _ hx ⟨rfl,lo,hi,rfl,Y,X,R,W⟩;by_cases hge:lo ≥ hi
  . refine U x lo hi _ hge ?_
    have:hi=k0:=by omega
    subst this;exact q lo
  . refine S x lo hi _ ⋯ R ?_
    by_cases hm:lo+(hi-lo)/2<k0
    . rw[if_pos hm]
      exact⟨rfl,_,_,rfl,⋯,⋯,⋯,⋯⟩
    . rw[if_neg hm]
      exact⟨rfl,_,_,rfl,⋯,⋯,⋯,⋯⟩
def xm(L:sk prog w A E s κ a₀ key)(hh:hint<n)(h0:k0<=n)(W:Cut a₀ key left x arr base n k0)(hx:x∈a₀.toList){st:SortSt}(hk:kindOf st=κ)(h:Q (some k0) st) :
 wpS (model prog w) A E s (jv left x arr base n hint) Q st:=by
 unfold jv;refine Aj (wy L W hx hk hh ?_ rfl);by_cases hr:hint<k0
 . rw[decide_eq_true hr]
   dsimp only;rw[if_pos rfl];refine Aj (CU (BD (I:=λy c st'=>st'=st/\∃N o,c=(none,N,o)/\N<o/\hint+N<k0/\y<o) (Q:=λc st'=>st'=st/\∃N o,c=(none,N,o)/\hint+N<k0/\k0<=hint+min o (n-hint)) ?step ?fin ⟨rfl,0,1,rfl,⋯,⋯,⋯⟩) ?post)
   case fin=>
    rintro c st' ⟨rfl,N,o,rfl,U,S,X⟩;exact⟨rfl,N,o,rfl,S,⋯⟩
   case step=>
    rintro y c st' _ Z ⟨rfl,N,o,rfl,U,S,X⟩;dsimp only;by_cases R:o ≥ n-hint
    . rw[if_pos R]
      exact Au ⟨rfl,N,o,rfl,S,⋯⟩
    . rw[if_neg R]
      refine Aj (wy L W hx hk (show hint+o<n by omega) ?_ rfl)
      by_cases hm:hint+o<k0
      . rw[decide_eq_true hm]
        dsimp only;rw[if_neg (by simp)]
        exact Au ⟨rfl,o,2*o+1,rfl,⋯,hm,⋯⟩
      . rw[decide_eq_false hm]
        dsimp only;rw[if_pos (by simp)]
        exact Au ⟨rfl,N,o,rfl,S,⋯⟩
   case post=>
    rintro c st' ⟨rfl,N,o,rfl,U,S⟩;dsimp only;refine Aj (pN (n:=n) (k0:=k0) (λi lo hi Y R q=>?_) (λi lo hi Y hl hn q=>?_) ⋯ S ⋯ λl=>Au h)
    . dsimp only
      rw[if_pos R];exact Au q
    . dsimp only
      rw[if_neg ⋯]
      refine Aj (wy L W hx hk (show lo+(hi-lo)/2<n by omega) ?_ rfl)
      by_cases hm:lo+(hi-lo)/2<k0
      . rw[decide_eq_true hm];rw[if_pos hm]at q
        dsimp only;rw[if_pos rfl];exact Au q
      . rw[decide_eq_false hm];rw[if_neg hm]at q
        dsimp only;rw[if_neg Ag];exact Au q
 . rw[decide_eq_false hr]
   dsimp only;rw[if_neg Ag];refine Aj (CU (BD (I:=λy c st'=>st'=st/\∃N o,c=(none,N,o)/\N<o/\k0<=hint-N/\y<o/\N<=hint) (Q:=λc st'=>st'=st/\∃N o,c=(none,N,o)/\k0<=hint-N/\hint+1-min o (hint+1)<=k0) ?step ?fin ⟨rfl,0,1,rfl,⋯,⋯,⋯,⋯⟩) ?post)
   case fin=>
    rintro c st' ⟨rfl,N,o,rfl,U,S,X,b4⟩;exact⟨rfl,N,o,rfl,S,⋯⟩
   case step=>
    rintro y c st' _ Z ⟨rfl,N,o,rfl,U,S,X,b4⟩;dsimp only;by_cases R:o ≥ hint+1
    . rw[if_pos R]
      exact Au ⟨rfl,N,o,rfl,S,⋯⟩
    . rw[if_neg R]
      refine Aj (wy L W hx hk (show hint-o<n by omega) ?_ rfl)
      by_cases hm:hint-o<k0
      . rw[decide_eq_true hm]
        dsimp only;rw[if_pos rfl];exact Au ⟨rfl,N,o,rfl,S,⋯⟩
      . rw[decide_eq_false hm]
        dsimp only;rw[if_neg Ag];exact Au ⟨rfl,o,2*o+1,rfl,⋯,⋯,⋯,⋯⟩
   case post=>
    rintro c st' ⟨rfl,N,o,rfl,U,S⟩;dsimp only;refine Aj (pN (n:=n) (k0:=k0) (λi lo hi Y R q=>?_) (λi lo hi Y hl hn q=>?_) S U ⋯ λl=>Au h)
    . dsimp only
      rw[if_pos R];exact Au q
    . dsimp only
      rw[if_neg ⋯]
      refine Aj (wy L W hx hk (show lo+(hi-lo)/2<n by omega) ?_ rfl)
      by_cases hm:lo+(hi-lo)/2<k0
      . rw[decide_eq_true hm];rw[if_pos hm]at q
        dsimp only;rw[if_pos rfl];exact Au q
      . rw[decide_eq_false hm];rw[if_neg hm]at q
        dsimp only;rw[if_neg Ag];exact Au q
end
section
variable {prog:Program}{w:World}{A:Around}{E:Value->Shared->Prop}{s:Shared}{κ:DP}{a₀:Array Keyed}{key:Keyed->Int}
def Srt(key:Keyed->Int)(l:List Keyed):Prop:=l.Pairwise λx y=>key x<=key y
def ox(S:Srt key (o++(p++q)))(U:Srt key (o++r))(h:∀u∈p,∀v∈r,key u<=key v):Srt key ((o++p)++r):=by
 unfold Srt at *;rw[DG]at S U ⊢;have W:=DG.mp S.2.1;refine⟨DG.mpr ⟨S.1,W.1,λa N b R=>S.2.2 a N b (Bg _ R)⟩,U.2.1,λa N b R=>?_⟩;rcases AO.mp N with N|N
 . exact U.2.2 a N b R
 . exact h a N b R
structure Mg(key:Keyed->Int)(X Y:List Keyed)(out:Array Keyed)(ia ib:Nat):Prop where
 d:Srt key (out.toList++X.drop ia)
 f:Srt key (out.toList++Y.drop ib)
 c:out.toList.Perm (X.take ia++Y.take ib)
def Mg.pA(h:Mg key X Y out ia ib)(S:Y[ib]?=some y)(hx:∀u∈X.drop ia,key y<=key u):Mg key X Y (out.push y) ia (ib+1):=by
 obtain⟨R,e⟩:=Ai.mp S;have Z:Y.drop ib=[y]++Y.drop (ib+1):=by rw[Bn R,e];rfl
 have W:Y.take (ib+1)=Y.take ib++[y]:=by rw[Ek,S];rfl
 have N:=h.f;rw[Z]at N;refine⟨?_,?_,?_⟩
 . rw[CZ]
   exact ox N h.d λu hu v U=>by rw[Av.mp hu];exact hx v U
 . rw[CZ,An];exact N
 . rw[CZ,W,<-An]
   exact h.c.append_right _
def Mg.qx(h:Mg key X Y out ia ib)(W:X.drop ia=mid++X.drop (ia+k))(U:X.take (ia+k)=X.take ia++mid)(S:∀u∈mid,∀v∈Y.drop ib,key u<=key v)(R:out'.toList=out.toList++mid):Mg key X Y out' (ia+k) ib:=by
 have N:=h.d;rw[W]at N;refine⟨?_,?_,?_⟩
 . rw[R,An];exact N
 . rw[R];exact ox N h.f S
 . rw[R,U]
   refine(h.c.append_right mid).trans ?_;rw[An,An];exact(El).append_left _
def Mg.mG(h:Mg key X Y out ia ib)(W:Y.drop ib=mid++Y.drop (ib+k))(U:Y.take (ib+k)=Y.take ib++mid)(S:∀u∈mid,∀v∈X.drop ia,key u<=key v)(R:out'.toList=out.toList++mid):Mg key X Y out' ia (ib+k):=by
 have N:=h.f;rw[W]at N;refine⟨?_,?_,?_⟩
 . rw[R];exact ox N h.d S
 . rw[R,An];exact N
 . rw[R,U,<-An]
   exact h.c.append_right mid
def Mg.pushX(h:Mg key X Y out ia ib)(hx:X[ia]?=some x)(R:∀u∈Y.drop ib,key x<=key u):Mg key X Y (out.push x) (ia+1) ib:=by obtain⟨N,e⟩:=Ai.mp hx;refine h.qx (mid:=[x]) (by rw[Bn N,e];rfl) (by rw[Ek,hx];rfl) (λu hu v S=>by rw[Av.mp hu];exact R v S) (CZ)
structure Res(key:Keyed->Int)(X Y:List Keyed)(r:Array Keyed):Prop where
 b:Srt key r.toList
 a:r.toList.Perm (X++Y)
def Mg.sL(h:Mg key X Y out ia ib)(R:Y.length<=ib)(N:r.toList=out.toList++X.drop ia):Res key X Y r:=by
 refine⟨by rw[N];exact h.d,?_⟩
 have:=h.c;rw[BI R]at this;rw[N];refine(this.append_right _).trans ?_;rw[An];refine(El.append_left _).trans ?_;rw[<-An,A3]
def Mg.qP(h:Mg key X Y out ia ib)(S:∀u∈Y,∀v∈X.drop ia,key u<=key v)(R:r.toList=out.toList++Y.drop ib++X.drop ia):Res key X Y r:=by
 have m:=h.mG (k:=Y.length) (mid:=Y.drop ib) (by rw[Cf (show Y.length<=ib+Y.length by omega),A1]) (by rw[BI ⋯,A3]) (λu hu v N=>S u (BW hu) v N) (out':=(out.toList++Y.drop ib).toArray) rfl
 exact m.sL ⋯ R
def xM(h:Srt key l)(hx:l[i]?=some x):∀u∈l.drop i,key x<=key u:=λu hu=>by
 obtain⟨N,e⟩:=Ai.mp hx;rw[Bn N,e]at hu;rcases Al.mp hu with rfl|hu
 . exact Cr _
 . obtain⟨j,R,rfl⟩:=Bz hu
   rw[C0];rw[<-e];rw[BN]at R;exact BG.mp h i (i+1+j) N ⋯ ⋯
def zZ [Decidable c] {m1 m2}{Q:α->SortSt->Prop}{st}(R:c->wpS (model prog w) A E s m1 Q st)(N:¬c->wpS (model prog w) A E s m2 Q st):wpS (model prog w) A E s (if c then m1 else m2) Q st:=by
 by_cases h:c
 . rw[if_pos h];exact R h
 . rw[if_neg h];exact N h
structure Sm(st st':SortSt):Prop where
 d:kindOf st'=kindOf st
 g:arrOf st'=arrOf st
 f:AQ st'=AQ st
 e:EY st'=EY st
def Sm.refl{st}:Sm st st:=⟨rfl,rfl,rfl,rfl⟩
theorem Sm.trans(h:Sm a b)(k:Sm b c):Sm a c:=⟨k.d.trans h.d,k.g.trans h.g,k.f.trans h.f,k.e.trans h.e⟩
def Mg.Uo(h:Mg key X Y out ia ib)(R:X.length<=ia)(N:r.toList=out.toList++Y.drop ib):Res key X Y r:=by
 refine⟨by rw[N];exact h.f,?_⟩
 have:=h.c;rw[BI R]at this;rw[N];refine(this.append_right _).trans ?_;rw[An,A3]
def vq{a:Array Keyed}:(a.extract i).toList=a.toList.drop i:=by rw[DH,CM];exact BI (by rw[BN,Ax];exact Ab _)
def p4{a:Array Keyed}:(a.extract i (i+k)).toList=(a.toList.drop i).take k:=by rw[DH,CM,Fd]
def uH{l:List Keyed}:l.drop i=(l.drop i).take k++l.drop (i+k):=by rw[<-DM,A3]
def Mg.WD{a b out:Array Keyed}(h:Mg key a.toList b.toList out ia ib)(N:∀u∈(a.toList.drop ia).take k,∀v∈b.toList.drop ib,key u<=key v):Mg key a.toList b.toList (out++a.extract ia (ia+k)) (ia+k) ib:=
 h.qx uH GF N (by rw[A8,p4])
def Mg.WE{a b out:Array Keyed}(h:Mg key a.toList b.toList out ia ib)(N:∀u∈(b.toList.drop ib).take k,∀v∈a.toList.drop ia,key u<=key v):Mg key a.toList b.toList (out++b.extract ib (ib+k)) ia (ib+k):=
 h.mG uH GF N (by rw[A8,p4])
theorem nT left x:∀{l},Srt key l->∃k0,k0<=l.length/\∀i (hi:i<l.length),(if left=true then decide (key l[i]<key x) else !decide (key x<key l[i]))=decide (i<k0)
 |[],_=>⟨0,Ab _,λi hi=>absurd hi (Ds _)⟩
 |y::t,h=>by
  unfold Srt at h;rw[D0]at h;by_cases hp:(if left=true then decide (key y<key x) else !decide (key x<key y))=true
  . obtain⟨k0,S,R⟩:=nT left x (l:=t) h.2
    refine⟨k0+1,by rw[Ak];omega,λi hi=>?_⟩
    cases i with
    |zero=>rw[show decide (0<k0+1)=true from decide_eq_true ⋯];exact hp
    |succ i=>
     rw[Ak]at hi;have:=R i ⋯
     rw[List.getElem_cons_succ,this];exact decide_eq_decide.mpr ⋯
  . refine⟨0,AS _,λi hi=>?_⟩
    rw[decide_eq_false (Ds _)];have N:key y<=key (y::t)[i]:=by
     cases i with
     |zero=>exact Cr _
     |succ i=>
      rw[Ak]at hi;exact h.1 _ (B0 _)
    cases left with
    |true=>
     simp only[if_true,decide_eq_true_eq]at hp ⊢;exact decide_eq_false ⋯
    |false=>
     simp only[Aw,if_false,Bu,decide_eq_false_iff_not]at hp ⊢;rw[Bool.not_eq_false',decide_eq_true_eq];omega
def ue{arr:Array Keyed}(W:base+n<=arr.size)(hs:Srt key ((arr.toList.drop base).take n))(S:∀u∈(arr.toList.drop base).take n,u∈a₀.toList) :
 ∃k0,k0<=n/\Cut a₀ key left x arr base n k0/\(∀u∈(arr.toList.drop base).take k0,key u<=key x)/\∀u∈((arr.toList.drop base).take n).drop k0,key x<=key u:=by
 have U:((arr.toList.drop base).take n).length=n:=by rw[Bi,BN,Ax];omega
 obtain⟨k0,R,N⟩:=nT (key:=key) left x hs;rw[U]at R;have g:∀i (hi:i<((arr.toList.drop base).take n).length),arr[base+i]?=some ((arr.toList.drop base).take n)[i]:=λi hi=>by rw[C1,C0,<-Bm,pn]
 refine⟨k0,R,λi hi=>⟨((arr.toList.drop base).take n)[i]'⋯,g i ⋯,S _ (B0 _),N i ⋯⟩,λu hu=>?_,λu hu=>?_⟩
 . have e:(arr.toList.drop base).take k0=((arr.toList.drop base).take n).take k0:=by rw[Em,ES R]
   rw[e]at hu;obtain⟨i,hi,rfl⟩:=Bz hu;rw[Bi]at hi;rw[C1];have:=N i ⋯
   rw[decide_eq_true (show i<k0 by omega)]at this
   cases left with
   |true=>simp only[if_true,decide_eq_true_eq]at this;omega
   |false=>simp only[Aw,if_false,Bu,decide_eq_false_iff_not]at this;omega
 . obtain⟨i,hi,rfl⟩:=Bz hu
   rw[BN]at hi;rw[C0];have:=N (k0+i) ⋯
   rw[decide_eq_false (show ¬k0+i<k0 by omega)]at this
   cases left with
   |true=>simp only[if_true,decide_eq_false_iff_not]at this;omega
   |false=>simp only[Aw,if_false,Bool.not_eq_false',decide_eq_true_eq]at this;omega
def nS{arr:Array Keyed}(X:base<=arr.size)(hs:Srt key arr.toList)(R:∀u∈arr.toList,u∈a₀.toList) :
 ∃k0,k0<=arr.size-base/\Cut a₀ key left x arr base (arr.size-base) k0/\(∀u∈(arr.toList.drop base).take k0,key u<=key x)/\∀u∈arr.toList.drop (base+k0),key x<=key u:=by
 have e:(arr.toList.drop base).take (arr.size-base)=arr.toList.drop base:=BI (by rw[BN,Ax];exact Ab _)
 obtain⟨k0,W,U,S,N⟩:=ue (a₀:=a₀) (key:=key) (left:=left) (x:=x) (arr:=arr) (base:=base) (n:=arr.size-base) ⋯ (by rw[e];exact hs.sublist (GV _ _)) (by rw[e];exact λu hu=>R u (BW hu))
 rw[e,DM]at N;exact⟨k0,W,U,S,N⟩
def yN{a:Array Keyed}(h:i<a.size):a[i]?=some (a.getD i (Ac,Ac))/\a.toList[i]?=some (a.getD i (Ac,Ac))/\a.getD i (Ac,Ac)∈a.toList:=by
 have e:a.getD i (Ac,Ac)=a[i]:=by simp[Ig,h]
 rw[e];exact⟨by simp[h],by simp[h],by simp⟩
noncomputable def v7:Nat->StateT SortSt Sem Unit:=sortPriv% PySem.Builtin.setMinGallop
def ik{st}{Q:Unit->SortSt->Prop}(h:∀N,Sm st N->Q () N):wpS (model prog w) A E s (v7 g) Q st:=by unfold v7;exact CB (h _ ⟨rfl,rfl,rfl,rfl⟩)
noncomputable def mE:Array Keyed->Array Keyed->StateT SortSt Sem (Array Keyed):=sortPriv% PySem.Builtin.mergeLo
structure LoI(key:Keyed->Int)(a b:Array Keyed)(c:Option (Array Keyed))(out:Array Keyed)(ia ib x:Nat):Prop where
 i:c=none
 g:Mg key a.toList b.toList out ia ib
 e:ia+1<a.size
 d:ib<b.size
 f:x<=ia+ib
def LoI.mono(h:LoI key a b c out ia ib x)(k:x'<=x):LoI key a b c out ia ib x':=⟨h.i,h.g,h.e,h.d,Ao k h.f⟩
inductive LoQ(key:Keyed->Int)(a b:Array Keyed)(c:Option (Array Keyed))(out:Array Keyed)(ia ib x:Nat):Prop where
 |d (r:Array Keyed) (h:c=some r) (hr:Res key a.toList b.toList r):LoQ key a b c out ia ib x
 |e (h:LoI key a b c out ia ib x):LoQ key a b c out ia ib x
def yA{i j:Nat}(h:(i == j)=true):i=j:=Cv h
def yI{i j:Nat}(h:¬(i == j)=true):i≠j:=λe=>h (beq_iff_eq.mpr e)
def lt2(h:k<=n-i)(h':i+1<n)(e:i+k+1≠n)(N:i+k≠n):i+k+1<n:=by omega
def lt3{i k n:Nat}(h:k<=n-i)(h':i<n)(e:i+k≠n):i+k<n:=by omega
def S7(L:sk prog w A E s κ a₀ key)(ha:0<a.size)(hb:0<b.size)(ma:∀x∈a.toList,x∈a₀.toList)(mb:∀x∈b.toList,x∈a₀.toList)(sa:Srt key a.toList)(sb:Srt key b.toList)
 (h1:∀u∈a.toList,key (b.getD 0 (Ac,Ac))<=key u) (h2:∀u∈b.toList,key u<=key (a.getD (a.size-1) (Ac,Ac))) {st:SortSt} (hk:kindOf st=κ)  (q:∀r st',Sm st st'->Res key a.toList b.toList r->Q r st') :
 wpS (model prog w) A E s (mE a b) Q st:=by
 have S:∀{i:Nat},i+1=a.size->∀u∈b.toList,∀v∈a.toList.drop i,key u<=key v:=λ{i} hi u hu v hv=>by
  have gl:=yN (show i<a.size by omega)
  have:a.toList.drop i=[a.getD i (Ac,Ac)]:=by obtain⟨hlt,e⟩:=Ai.mp gl.2.1;rw[Bn hlt,e,Cf (by rw[Ax];omega)]
  rw[this,Av]at hv;rw[hv,show i=a.size-1 by omega]
  exact h2 u hu
 have vX:∀{out:Array Keyed} {i j:Nat},b.size<=j->(out++a.extract i++b.extract j).toList=out.toList++a.toList.drop i:=λ{out i j} hj=>by rw[A8,A8,vq,vq,Cf (show b.toList.length<=j by rw[Ax];exact hj),A1]
 have Y:∀{out:Array Keyed} {i j:Nat},(out++b.extract j++a.extract i).toList=out.toList++b.toList.drop j++a.toList.drop i:=λ{out i j}=>by rw[A8,A8,vq,vq]
 have sL:∀{out:Array Keyed} {i j:Nat},Mg key a.toList b.toList out i j->j=b.size->Res key a.toList b.toList (out++a.extract i++b.extract j):=λ{out i j} h e=>h.sL (by rw[Ax,e];exact Ab _) (vX (B7 e.symm))
 have endA0:∀{out:Array Keyed} {i j:Nat},i=a.size->(out++a.extract i++b.extract j).toList=out.toList++b.toList.drop j:=λ{out i j} hj=>by rw[A8,A8,vq,vq,Cf (show a.toList.length<=i by rw[Ax,hj];exact Ab _),A1]
 have gb0:=yN hb;have J0:Mg key a.toList b.toList #[b.getD 0 (Ac,Ac)] 0 1:=by have:Mg key a.toList b.toList #[] 0 0:=⟨sa,sb,.refl _⟩;exact this.pA gb0.2.1 h1
 unfold mE;refine Aj (Gf (BE ⟨rfl,?_⟩));refine Aj (zl gb0.1 ?_);refine zZ (λe1=>Au (q _ _ .refl (sL J0 (yA e1)))) λe1=>?_;refine zZ (λe2=>Au (q _ _ .refl (J0.qP (S (yA e2)) Y))) λe2=>?_;refine Aj (wpS_get ?_);refine Aj (CU (BD (I:=λx c st'=>Sm st st'/\LoI key a b c.1 c.2.1 c.2.2.1 c.2.2.2.1 (x+1)) (Q:=λc st'=>Sm st st'/\∃r,c.1=some r/\Res key a.toList b.toList r) ?step ?fin ⟨.refl,⟨rfl,J0,Cb ha (yI e2),Cb hb (yI e1),Ab _⟩⟩) ?post)
 case fin=>
  intro c st' h;have h1:=h.2.e;have h2:=h.2.d;have h3:=h.2.f;omega
 case post=>
  rintro ⟨X,c⟩ st' ⟨hS,r,hr,hR⟩;cases hr;exact Au (q r _ hS hR)
 case step=>
  rintro x c st' _ hx ⟨hS,I⟩;refine Aj (CU (BD (I:=λy c' R=>Sm st R/\LoI key a b c'.1 c'.2.1 c'.2.2.1 c'.2.2.2.1 (c.2.2.1+c.2.2.2.1+y)) (Q:=λc' R=>Sm st R/\LoQ key a b c'.1 c'.2.1 c'.2.2.1 c'.2.2.2.1 (c.2.2.1+c.2.2.2.1+1)) ?istep ?ifin ⟨hS,⟨rfl,I.g,I.e,I.d,Ab _⟩⟩) ?ipost)
  case ifin=>exact λc R h=>⟨h.1,.e (h.2.mono (EJ (Ao ha (Ao (Dc _ _) (Nat.le_max_right _ _))) _))⟩
  case istep=>
   rintro y c' R _ hy ⟨N,W⟩;have gx:=yN (B4 W.e);have gy:=yN W.d;refine Aj (zl gy.1 (Aj (zl gx.1 (Aj (L _ _ _ _ (mb _ gy.2.2) (ma _ gx.2.2) (N.d.trans hk) ?_)))));refine zZ (λhlt=>Aj (zl gy.1 ?_)) (λhlt=>Aj (zl gx.1 ?_))
   . have J2:=W.g.pA gy.2.1 λu hu=>Be (EZ (of_decide_eq_true hlt)) (xM sa gx.2.1 u hu)
     refine zZ (λe3=>Au ⟨N,.d _ rfl (sL J2 (yA e3))⟩) λe3=>?_;have I2:LoI key a b none _ _ _ (c.2.2.1+c.2.2.2.1+(y+1)):=⟨rfl,J2,W.e,Cb W.d (yI e3),Ey W.f⟩;exact zZ (λ_=>Au ⟨N,.e (I2.mono (EJ (FW 1 y) _))⟩) λ_=>Au ⟨N,I2⟩
   . have J2:=W.g.pushX gx.2.1 λu hu=>Be (Ih.mp (of_decide_eq_false (GW.mpr hlt))) (xM sb gy.2.1 u hu)
     refine zZ (λe3=>Au ⟨N,.d _ rfl (J2.qP (S (yA e3)) Y)⟩) λe3=>?_;have I2:LoI key a b none _ _ _ (c.2.2.1+c.2.2.2.1+(y+1)):=⟨rfl,J2,Cb W.e (yI e3),W.d,Ao (Ey W.f) (B7 (Nat.add_right_comm _ _ 1))⟩;exact zZ (λ_=>Au ⟨N,.e (I2.mono (EJ (FW 1 y) _))⟩) λ_=>Au ⟨N,I2⟩
  case ipost=>
   rintro ⟨X,c'⟩ R ⟨N,hQ⟩;cases hQ with
   |d r hr hR=>cases hr;exact Au ⟨N,r,rfl,hR⟩
   |e W=>
    have hc:=W.i;cases hc;refine Aj (Gf (BE ⟨rfl,?_⟩));refine Aj (CU (BD (I:=λy X Z=>Sm st Z/\LoI key a b X.1 X.2.1 X.2.2.1 X.2.2.2.1 (c.2.2.1+c.2.2.2.1+1)) (Q:=λX Z=>Sm st Z/\LoQ key a b X.1 X.2.1 X.2.2.1 X.2.2.2.1 (c.2.2.1+c.2.2.2.1+1)) ?gstep (λc Z h=>⟨h.1,.e h.2⟩) ⟨N,⟨rfl,W.g,W.e,W.d,W.f⟩⟩) ?gpost)
    case gpost=>
     rintro ⟨c2,c3⟩ Z ⟨hS3,hQ⟩;cases hQ with
     |d r hr hR=>cases hr;exact Au ⟨hS3,r,rfl,hR⟩
     |e I3=>
      have hc:=I3.i;cases hc;exact Aj (CB (Au ⟨hS3.trans ⟨rfl,rfl,rfl,rfl⟩,⟨rfl,I3.g,I3.e,I3.d,Ao (Ey I.f) I3.f⟩⟩))
    case gstep=>
     rintro y X st1 _ hy ⟨Sm1,I1⟩;have gy:=yN I1.d;have la:=I1.e
     extract_lets s1 out s2 ia s3 ib s4 mg s5 ac bc ib1 jp mg1
     refine have hjp:∀g st2,Sm st st2->wpS (model prog w) A E s (jp () g) _ st2:=?_;zZ (λ_=>hjp _ _ Sm1) λ_=>hjp _ _ Sm1;intro g st0 Sm0;refine Aj (ik λst2 Sm2=>?_);have U:=Sm0.trans Sm2;obtain⟨k,d1,d2,d3,d4⟩:=nS (a₀:=a₀) (key:=key) (left:=false) (x:=b.getD ib (Ac,Ac)) (arr:=a) (base:=ia) (EU (B4 la)) sa ma;refine Aj (zl gy.1 (Aj (xm L (Nat.sub_pos_of_lt (B4 la)) d1 d2 (mb _ gy.2.2) (U.d.trans hk) ?_)));clear_value jp;dsimp -zeta only
     extract_lets ak jp2 out1 ia1
     have J1:=I1.g.WD (k:=k) λu hu v hv=>Be (d3 u hu) (xM sb gy.2.1 v hv);have gl:c.2.2.1+c.2.2.2.1+1<=ia+ib:=I1.f;refine have h2:∀out ia,Mg key a.toList b.toList out ia ib->ia+1<a.size->(∀u∈a.toList.drop ia,key (b.getD ib (Ac,Ac))<=key u)->c.2.2.1+c.2.2.2.1+1<=ia+ib->wpS (model prog w) A E s (jp2 () out ia) _ st2:=?_
      zZ (λ_=>zZ (λe=>Au ⟨U,.d _ rfl (J1.qP (S (yA e)) Y)⟩) λe=>zZ (λe'=>Au ⟨U,.d _ rfl (J1.Uo (by rw[Ax];exact B7 (yA e').symm) (endA0 (yA e')))⟩) λe'=>h2 _ _ J1 (lt2 d1 la (yI e) (yI e')) d4 (Ao gl (Nat.add_le_add_right (Dc _ _) _)))
       λhk=>h2 _ _ I1.g la (by rw[Ec hk]at d4;exact d4) gl
     intro out0 ia0 J la0 d5 gl0;have J2:=J.pA gy.2.1 d5;have gx:=yN (B4 la0);refine Aj (zl gy.1 (zZ (λe=>Au ⟨U,.d _ rfl (sL J2 (yA e))⟩) λe=>Aj (zl gx.1 ?_)));have lb1:ib+1<b.size:=Cb I1.d (yI e);obtain⟨k1,X,c2,c3,c4⟩:=nS (a₀:=a₀) (key:=key) (left:=true) (x:=a.getD ia0 (Ac,Ac)) (arr:=b) (base:=ib+1) (EU lb1) sb mb;refine Aj (xm L (Nat.sub_pos_of_lt lb1) X c2 (ma _ gx.2.2) (U.d.trans hk) ?_);clear_value jp2;dsimp -zeta only
     extract_lets bk ia3 jp3 out3 ib3
     have J3:=J2.WE (k:=k1) λu hu v hv=>Be (c3 u hu) (xM sa gx.2.1 v hv);refine have h3:∀out ib',Mg key a.toList b.toList out ia0 ib'->ib'<b.size->(∀u∈b.toList.drop ib',key (a.getD ia0 (Ac,Ac))<=key u)->ib<=ib'->wpS (model prog w) A E s (jp3 () out ib') _ st2:=?_
      zZ (λ_=>zZ (λe=>Au ⟨U,.d _ rfl (sL J3 (yA e))⟩) λe=>h3 _ _ J3 (lt3 X lb1 (yI e)) c4 (Ao (Dg _) (Dc _ _)))
       λhk=>h3 _ _ J2 lb1 (by rw[Ec hk]at c4;exact c4) (Dg _)
     intro out4 ib4 J' lb4 d6 g4;have J4:=J'.pushX gx.2.1 d6;refine Aj (zl gx.1 (zZ (λe=>Au ⟨U,.d _ rfl (J4.qP (S (yA e)) Y)⟩) λe=>?_));have I4:LoI key a b none _ _ _ (c.2.2.1+c.2.2.2.1+1):=⟨rfl,J4,Cb la0 (yI e),lb4,Ao gl0 (Nat.add_le_add (Dg _) g4)⟩;exact zZ (λ_=>Au ⟨U,.e I4⟩) λ_=>Au ⟨U,I4⟩
end
section
variable {prog:Program}{w:World}{A:Around}{E:Value->Shared->Prop}{s:Shared}{κ:DP}{a₀:Array Keyed}{key:Keyed->Int}
structure Mh(key:Keyed->Int)(X Y:List Keyed)(out:Array Keyed)(na nb:Nat):Prop where
 d:Srt key (X.take na++out.toList.reverse)
 e:Srt key (Y.take nb++out.toList.reverse)
 c:out.toList.reverse.Perm (X.drop na++Y.drop nb)
def m5(S:Srt key ((p++q)++o))(R:Srt key (r++o))(h:∀u∈r,∀v∈q,key u<=key v):Srt key (r++(q++o)):=by
 unfold Srt at *;rw[An]at S;rw[DG]at S R ⊢;refine⟨R.1,S.2.1,λa U b N=>?_⟩;rcases AO.mp N with N|N
 . exact h a U b N
 . exact R.2.2 a U b N
def Mh.qx(h:Mh key X Y out na nb)(U:X.take na=X.take na'++mid)(hd:X.drop na'=mid++X.drop na)(S:∀u∈Y.take nb,∀v∈mid,key u<=key v)(R:out'.toList.reverse=mid++out.toList.reverse):Mh key X Y out' na' nb:=by
 have N:=h.d;rw[U]at N;refine⟨?_,?_,?_⟩
 . rw[R,<-An];exact N
 . rw[R];exact m5 N h.e S
 . rw[R,hd,An];exact h.c.append_left _
def Mh.mG(h:Mh key X Y out na nb)(U:Y.take nb=Y.take nb'++mid)(hd:Y.drop nb'=mid++Y.drop nb)(S:∀u∈X.take na,∀v∈mid,key u<=key v)(R:out'.toList.reverse=mid++out.toList.reverse):Mh key X Y out' na nb':=by
 have N:=h.e;rw[U]at N;refine⟨?_,?_,?_⟩
 . rw[R];exact m5 N h.d S
 . rw[R,<-An];exact N
 . rw[R,hd]
   refine(h.c.append_left mid).trans ?_;rw[<-An,<-An];exact El.append_right _
def mX{out:Array Keyed}:(out.push x).toList.reverse=[x]++out.toList.reverse:=by rw[CZ,List.reverse_append];rfl
def vx{X:List Keyed}(h0:0<na)(hx:X[na-1]?=some x):X.take na=X.take (na-1)++[x]/\X.drop (na-1)=[x]++X.drop na:=by
 obtain⟨N,e⟩:=Ai.mp hx;refine⟨?_,?_⟩
 . have:=Ek (l:=X) (i:=na-1)
   rw[show na-1+1=na by omega,hx]at this
   exact this
 . rw[Bn N,e,show na-1+1=na by omega];rfl
def Mh.pushX(h:Mh key X Y out na nb)(h0:0<na)(hx:X[na-1]?=some x)(N:∀u∈Y.take nb,key u<=key x):Mh key X Y (out.push x) (na-1) nb:=
 h.qx (vx h0 hx).1 (vx h0 hx).2 (λu hu v R=>by rw[Av.mp R];exact N u hu) mX
def Mh.pA(h:Mh key X Y out na nb)(h0:0<nb)(R:Y[nb-1]?=some y)(N:∀u∈X.take na,key u<=key y):Mh key X Y (out.push y) na (nb-1):=
 h.mG (vx h0 R).1 (vx h0 R).2 (λu hu v S=>by rw[Av.mp S];exact N u hu) mX
def jT{out a:Array Keyed}:(out++(a.extract i n).reverse).toList.reverse=(a.toList.take n).drop i++out.toList.reverse:=by rw[A8,EB,List.reverse_append,List.reverse_reverse,DH,CM,<-HX]
def wA{X:List Keyed}(h:i<=n):X.take n=X.take i++(X.take n).drop i/\X.drop i=(X.take n).drop i++X.drop n:=by
 refine⟨?_,?_⟩
 . have:=(A3 i (X.take n)).symm
   rwa [Em,ES h]at this
 . have:X.drop n=(X.drop i).drop (n-i):=by rw[DM];congr 1;omega
   rw[HX,this,A3]
def Mh.WD{a b out:Array Keyed}(h:Mh key a.toList b.toList out na nb)(hk:k<=na)(N:∀u∈b.toList.take nb,∀v∈(a.toList.take na).drop k,key u<=key v):Mh key a.toList b.toList (out++(a.extract k na).reverse) k nb:=
 h.qx (wA hk).1 (wA hk).2 N jT
def Mh.WE{a b out:Array Keyed}(h:Mh key a.toList b.toList out na nb)(hk:k<=nb)(N:∀u∈a.toList.take na,∀v∈(b.toList.take nb).drop k,key u<=key v):Mh key a.toList b.toList (out++(b.extract k nb).reverse) na k:=
 h.mG (wA hk).1 (wA hk).2 N jT
def Mh.qP(h:Mh key X Y out na nb)(h0:na=0)(N:r.toList=Y.take nb++out.toList.reverse):Res key X Y r:=by
 subst h0;refine⟨by rw[N];exact h.e,?_⟩
 rw[N];refine(h.c.append_left _).trans ?_;rw[C9,<-An];refine(El.append_right _).trans ?_;rw[An,A3]
def Mh.Up(h:Mh key X Y out na nb)(h0:nb=0)(N:r.toList=X.take na++out.toList.reverse):Res key X Y r:=by
 subst h0;refine⟨by rw[N];exact h.d,?_⟩
 rw[N];refine(h.c.append_left _).trans ?_;rw[C9,<-An,A3]
def Mh.sL(h:Mh key X Y out na nb)(S:∀u∈Y.take nb,∀v∈X,key u<=key v)(R:r.toList=Y.take nb++X.take na++out.toList.reverse):Res key X Y r:=by
 have m:=h.qx (na':=0) (mid:=X.take na) (by simp) (by rw[C9,A3]) (λu hu v N=>S u hu v (Bh N)) (out':=(X.take na++out.toList.reverse).reverse.toArray) (by simp)
 refine m.qP rfl ?_;rw[R];simp
def xN(h:Srt key l)(hx:l[i]?=some x):∀u∈l.take (i+1),key u<=key x:=λu hu=>by
 obtain⟨N,e⟩:=Ai.mp hx;obtain⟨j,R,rfl⟩:=Bz hu;rw[Bi]at R;rw[C1,<-e];by_cases hji:j=i
 . subst hji;exact Cr _
 . exact BG.mp h j i ⋯ N ⋯
def wg{a:Array Keyed}:(a.extract 0 n).toList=a.toList.take n:=by rw[DH,CM,C9,Hb]
noncomputable def mD:Array Keyed->Array Keyed->StateT SortSt Sem (Array Keyed):=sortPriv% PySem.Builtin.mergeHi
def le0(h:0<m):m-1+n+(0+1)<=m+n:=by omega
def le1(h:0<m)(h':m+n+y<=t):m-1+n+(y+1)<=t:=by omega
def le2(h:1<n)(h':m+n+y<=t):m+(n-1)+(y+1)<=t:=by omega
def le3(h:m+1<=t)(h':t+(x+1)<=u):m+(x+1+1)<=u:=by omega
def le4(h:m'<=m)(h':n'<=n-1)(g:m+n+1<=t):m'-1+n'+1<=t:=by omega
def gt1(h:1<n)(h':n-1≠1):1<n-1:=by omega
def iR{l:List Keyed}(h:0<n)(hu:u∈l.take n):u∈l.take (n-1+1):=by rwa [Nat.sub_add_cancel h]
structure HiI(key:Keyed->Int)(a b:Array Keyed)(c:Option (Array Keyed))(na nb:Nat)(out:Array Keyed)(x t:Nat):Prop where
 l:c=none
 i:Mh key a.toList b.toList out na nb
 e:0<na
 d:1<nb
 j:na<=a.size
 f:nb<=b.size
 g:na+nb+x<=t
def HiI.mono(h:HiI key a b c na nb out x t)(k:x'<=x):HiI key a b c na nb out x' t:=⟨h.l,h.i,h.e,h.d,h.j,h.f,Ao (EJ k _) h.g⟩
inductive HiQ(key:Keyed->Int)(a b:Array Keyed)(c:Option (Array Keyed))(na nb:Nat)(out:Array Keyed)(x t:Nat):Prop where
 |d (r:Array Keyed) (h:c=some r) (hr:Res key a.toList b.toList r):HiQ key a b c na nb out x t
 |e (h:HiI key a b c na nb out x t):HiQ key a b c na nb out x t
def S6(L:sk prog w A E s κ a₀ key)(ha:0<a.size)(hb:0<b.size)(ma:∀x∈a.toList,x∈a₀.toList)(mb:∀x∈b.toList,x∈a₀.toList)(sa:Srt key a.toList)(sb:Srt key b.toList)
 (h1:∀u∈a.toList,key (b.getD 0 (Ac,Ac))<=key u) (h2:∀u∈b.toList,key u<=key (a.getD (a.size-1) (Ac,Ac))) {st:SortSt} (hk:kindOf st=κ)  (q:∀r st',Sm st st'->Res key a.toList b.toList r->Q r st') :
 wpS (model prog w) A E s (mD a b) Q st:=by
 have gb0:=yN hb;have R:∀{n:Nat},n<=1->∀u∈b.toList.take n,∀v∈a.toList,key u<=key v:=λ{n} hn u hu v hv=>by
  have hu:u∈b.toList.take 1:=Bh (i:=n) (by rwa [Em,ES hn])
  have e:b.toList.take 1=[b.getD 0 (Ac,Ac)]:=by have:=Ek (l:=b.toList) (i:=0);rw[gb0.2.1]at this;exact this
  rw[e,Av]at hu;rw[hu];exact h1 v hv
 have Z:∀{out:Array Keyed} {n m:Nat},n=0->(a.extract 0 n++b.extract 0 m++out.reverse).toList=b.toList.take m++out.toList.reverse:=λ{out n m} hn=>by subst hn;rw[A8,A8,wg,wg,EB,List.take_zero,DZ]
 have endZ:∀{out:Array Keyed} {n m:Nat},m=0->(a.extract 0 n++b.extract 0 m++out.reverse).toList=a.toList.take n++out.toList.reverse:=λ{out n m} hn=>by subst hn;rw[A8,A8,wg,wg,EB,List.take_zero,A1]
 have Y:∀{out:Array Keyed} {n m:Nat},(b.extract 0 m++a.extract 0 n++out.reverse).toList=b.toList.take m++a.toList.take n++out.toList.reverse:=λ{out n m}=>by rw[A8,A8,wg,wg,EB]
 have ga0:=yN (show a.size-1<a.size by omega)
 have J0:Mh key a.toList b.toList #[a.getD (a.size-1) (Ac,Ac)] (a.size-1) b.size:=by
  have:Mh key a.toList b.toList #[] a.size b.size:=by
   have ea:a.toList.take a.size=a.toList:=BI (by rw[Ax];exact Ab _)
   have eb:b.toList.take b.size=b.toList:=BI (by rw[Ax];exact Ab _)
   refine⟨?_,?_,?_⟩
   . rw[ea];simpa using sa
   . rw[eb];simpa using sb
   . rw[Cf (by rw[Ax];exact Ab _),Cf (by rw[Ax];exact Ab _)];exact .refl _
  exact this.pushX ha ga0.2.1 λu hu=>h2 u (Bh hu)
 unfold mD;refine Aj (Gf (BE ⟨rfl,?_⟩));refine Aj (zl ga0.1 ?_);refine zZ (λe1=>Au (q _ _ .refl (J0.qP (yA e1) (Z (yA e1))))) λe1=>?_;refine zZ (λe2=>Au (q _ _ .refl (J0.sL (R (B7 (yA e2))) Y))) λe2=>?_;refine Aj (wpS_get ?_);refine Aj (CU (BD (I:=λx c st'=>Sm st st'/\HiI key a b c.1 c.2.1 c.2.2.1 c.2.2.2.1 (x+1) (a.size+b.size)) (Q:=λc st'=>Sm st st'/\∃r,c.1=some r/\Res key a.toList b.toList r) ?step ?fin ⟨.refl,⟨rfl,J0,D3 (yI e1),Cb hb (yI e2).symm,G1 _ _,Ab _,le0 ha⟩⟩) ?post)
 case fin=>
  intro c st' h;have h3:=h.2.g;omega
 case post=>
  rintro ⟨X,c⟩ st' ⟨hS,r,hr,hR⟩;cases hr;exact Au (q r _ hS hR)
 case step=>
  rintro x c st' _ hx ⟨hS,I⟩;refine Aj (CU (BD (I:=λy c' U=>Sm st U/\HiI key a b c'.1 c'.2.1 c'.2.2.1 c'.2.2.2.1 y (c.2.1+c.2.2.1)) (Q:=λc' U=>Sm st U/\HiQ key a b c'.1 c'.2.1 c'.2.2.1 c'.2.2.2.1 1 (c.2.1+c.2.2.1)) ?istep ?ifin ⟨hS,⟨rfl,I.i,I.e,I.d,I.j,I.f,Ab _⟩⟩) ?ipost)
  case ifin=>exact λc U h=>⟨h.1,.e (h.2.mono (Ao ha (Ao (Dc _ _) (Nat.le_max_right _ _))))⟩
  case istep=>
   rintro y c' U _ hy ⟨S,N⟩;have gx:=yN (AJ (FX N.e Fo) N.j);have gy:=yN (AJ (FX (B4 N.d) Fo) N.f);refine Aj (zl gy.1 (Aj (zl gx.1 (Aj (L _ _ _ _ (mb _ gy.2.2) (ma _ gx.2.2) (S.d.trans hk) ?_)))));refine zZ (λhlt=>Aj (zl gx.1 ?_)) (λhlt=>Aj (zl gy.1 ?_))
   . have J2:=N.i.pushX N.e gx.2.1 λu hu=>Be (xN sb gy.2.1 u (iR (B4 N.d) hu)) (EZ (of_decide_eq_true hlt))
     refine zZ (λe3=>Au ⟨S,.d _ rfl (J2.qP (yA e3) (Z (yA e3)))⟩) λe3=>?_;have I2:HiI key a b none _ _ _ (y+1) (c.2.1+c.2.2.1):=⟨rfl,J2,D3 (yI e3),N.d,Ao (G1 _ _) N.j,N.f,le1 N.e N.g⟩;exact zZ (λ_=>Au ⟨S,.e (I2.mono (FW 1 y))⟩) λ_=>Au ⟨S,I2⟩
   . have J2:=N.i.pA (B4 N.d) gy.2.1 λu hu=>Be (xN sa gx.2.1 u (iR N.e hu)) (Ih.mp (of_decide_eq_false (GW.mpr hlt)))
     refine zZ (λe3=>Au ⟨S,.d _ rfl (J2.sL (R (B7 (yA e3))) Y)⟩) λe3=>?_;have I2:HiI key a b none _ _ _ (y+1) (c.2.1+c.2.2.1):=⟨rfl,J2,N.e,gt1 N.d (yI e3),N.j,Ao (G1 _ _) N.f,le2 N.d N.g⟩;exact zZ (λ_=>Au ⟨S,.e (I2.mono (FW 1 y))⟩) λ_=>Au ⟨S,I2⟩
  case ipost=>
   rintro ⟨X,c'⟩ U ⟨S,hQ⟩;cases hQ with
   |d r hr hR=>cases hr;exact Au ⟨S,r,rfl,hR⟩
   |e N=>
    have hc:=N.l;cases hc;refine Aj (Gf (BE ⟨rfl,?_⟩));refine Aj (CU (BD (I:=λy X st3=>Sm st st3/\HiI key a b X.1 X.2.1 X.2.2.1 X.2.2.2.1 1 (c.2.1+c.2.2.1)) (Q:=λX st3=>Sm st st3/\HiQ key a b X.1 X.2.1 X.2.2.1 X.2.2.2.1 1 (c.2.1+c.2.2.1)) ?gstep (λc st3 h=>⟨h.1,.e h.2⟩) ⟨S,⟨rfl,N.i,N.e,N.d,N.j,N.f,N.g⟩⟩) ?gpost)
    case gpost=>
     rintro ⟨c2,c3⟩ st3 ⟨hS3,hQ⟩;cases hQ with
     |d r hr hR=>cases hr;exact Au ⟨hS3,r,rfl,hR⟩
     |e I3=>
      have hc:=I3.l;cases hc;exact Aj (CB (Au ⟨hS3.trans ⟨rfl,rfl,rfl,rfl⟩,⟨rfl,I3.i,I3.e,I3.d,I3.j,I3.f,le3 I3.g I.g⟩⟩))
    case gstep=>
     rintro y X st1 _ hy ⟨Sm1,I1⟩;have gy:=yN (AJ (FX (B4 I1.d) Fo) I1.f)
     extract_lets s1 na s2 nb s3 out s4 mg s5 ac bc nb1 jp mg1
     have gl:na+nb+1<=c.2.1+c.2.2.1:=I1.g;have la:0<na:=I1.e;have lb:0<nb:=B4 I1.d;have ua:na<=a.size:=I1.j;refine have hjp:∀g st2,Sm st st2->wpS (model prog w) A E s (jp () g) _ st2:=?_;zZ (λ_=>hjp _ _ Sm1) λ_=>hjp _ _ Sm1;intro g st0 Sm0;refine Aj (ik λst2 Sm2=>?_);have W:=Sm0.trans Sm2;obtain⟨k,d1,d2,d3,d4⟩:=ue (a₀:=a₀) (key:=key) (left:=false) (x:=b.getD (nb-1) (Ac,Ac)) (arr:=a) (base:=0) (n:=na) (Ao (B7 (Cd _)) ua) (sa.sublist (CY _ _)) (λu hu=>ma u (Bh hu));refine Aj (zl gy.1 (Aj (xm L (FX la Fo) d1 d2 (mb _ gy.2.2) (W.d.trans hk) ?_)));clear_value jp;dsimp -zeta only
     extract_lets kk ak jp2 out1 na1
     have J1:=I1.i.WD d1 λu hu v hv=>Be (xN sb gy.2.1 u (iR lb hu)) (d4 v hv);refine have h2:∀na' out,Mh key a.toList b.toList out na' nb->0<na'->(∀u∈a.toList.take na',key u<=key (b.getD (nb-1) (Ac,Ac)))->na'<=na->wpS (model prog w) A E s (jp2 () na' out) _ st2:=?_
      zZ (λ_=>zZ (λe=>Au ⟨W,.d _ rfl (J1.qP (yA e) (Z (yA e)))⟩) λe=>h2 _ _ J1 (D3 (yI e)) d3 d1)
       λhk=>h2 _ _ I1.i la (FY d1 (Nat.le_of_sub_eq_zero (Ec hk))▸d3) (Ab _)
     intro na0 out0 J la0 d5 g0;have J2:=J.pA lb gy.2.1 d5;have gx:=yN (AJ (FX la0 Fo) (Ao g0 ua));refine Aj (zl gy.1 (zZ (λe=>Au ⟨W,.d _ rfl (J2.sL (R (B7 (yA e))) Y)⟩) λe=>Aj (zl gx.1 ?_)));have lb1:1<nb-1:=gt1 I1.d (yI e);have ub1:nb-1<=b.size:=Ao (G1 _ _) I1.f;obtain⟨k1,X,c2,c3,c4⟩:=ue (a₀:=a₀) (key:=key) (left:=true) (x:=a.getD (na0-1) (Ac,Ac)) (arr:=b) (base:=0) (n:=nb-1) (Ao (B7 (Cd _)) ub1) (sb.sublist (CY _ _)) (λu hu=>mb u (Bh hu));refine Aj (xm L (FX (B4 lb1) Fo) X c2 (ma _ gx.2.2) (W.d.trans hk) ?_);clear_value jp2;dsimp -zeta only
     extract_lets kk1 bk na3 jp3 out3 nb3
     have J3:=J2.WE X λu hu v hv=>Be (xN sa gx.2.1 u (iR la0 hu)) (c4 v hv);refine have h3:∀nb' out,Mh key a.toList b.toList out na0 nb'->1<nb'->(∀u∈b.toList.take nb',key u<=key (a.getD (na0-1) (Ac,Ac)))->nb'<=nb-1->wpS (model prog w) A E s (jp3 () nb' out) _ st2:=?_
      zZ (λ_=>zZ (λe=>Au ⟨W,.d _ rfl (J3.sL (R (B7 (yA e))) Y)⟩) λe=>zZ (λe'=>Au ⟨W,.d _ rfl (J3.Up (yA e') (endZ (yA e')))⟩) λe'=>h3 _ _ J3 (Cb (D3 (yI e')) (yI e).symm) c3 X)
       λhk=>h3 _ _ J2 lb1 ((congrArg (λn=>∀u∈b.toList.take n,key u<=key (a.getD (na0-1) (Ac,Ac))) (FY X (Nat.le_of_sub_eq_zero (Ec hk)))).mp c3) (Ab _)
     intro nb4 out4 J' lb4 d6 g4;have J4:=J'.pushX la0 gx.2.1 d6;refine Aj (zl gx.1 (zZ (λe=>Au ⟨W,.d _ rfl (J4.qP (yA e) (Z (yA e)))⟩) λe=>?_));have I4:HiI key a b none _ _ _ 1 (c.2.1+c.2.2.1):=⟨rfl,J4,D3 (yI e),lb4,Ao (G1 _ _) (Ao g0 ua),Ao g4 ub1,le4 g0 g4 gl⟩;exact zZ (λ_=>Au ⟨W,.e I4⟩) λ_=>Au ⟨W,I4⟩
end
def Yk{x}{Q}{st}(h:Q ⟨⟩ x):wpS M A E s (set x:StateT σ Sem PUnit) Q st:=by unfold wpS;rw[StateT.run_set];exact xd ⟨rfl,h⟩
def oE h:kk key a i=key (a.toList[i]'(by rw[Ax];exact h)):=by unfold kk;congr 1;simp[Ig,h]
def xk{a:Array Keyed}{lo n}(h:lo+n<=a.size):((a.toList.drop lo).take n).length=n:=by rw[Bi,BN,Ax];omega
def b6{lo n}(h:lo+n<=a.size)(hs:SIn key a lo n):Srt key ((a.toList.drop lo).take n):=by
 unfold Srt;rw[BG];intro i j hi N R;rw[xk h]at hi N;have U:=oE (key:=key) (a:=a) (i:=lo+i) ⋯
 have S:=oE (key:=key) (a:=a) (i:=lo+j) ⋯
 rw[C1,C0,C1,C0,<-U,<-S];exact hs i j ⋯ N
def cQ{lo n}(h:lo+n<=a.size)(hs:Srt key ((a.toList.drop lo).take n)):SIn key a lo n:=λi j N U=>by
 by_cases e:i=j
 . subst e;exact Cr _
 . have:=BG.mp hs i j (by rw[xk h];omega) (by rw[xk h];omega) ⋯
   have S:=oE (key:=key) (a:=a) (i:=lo+i) ⋯
   have R:=oE (key:=key) (a:=a) (i:=lo+j) ⋯
   rw[C1,C0,C1,C0,<-S,<-R]at this;exact this
theorem mY o:∀m j (a:Array Keyed),o+j+m.length<=a.size->((m.zipIdx j).foldl (λa p=>a.setIfInBounds (o+p.2) p.1) a).toList=a.toList.take (o+j)++m++a.toList.drop (o+j+m.length)
 |[],j,a,_=>by simp
 |x::t,j,a,h=>by
  rw[Ak]at h;rw[Hg,HD,mY o t (j+1) _ (by rw[CV];omega)]
  have N:o+j<a.toList.length:=by rw[Ax];omega
  show ((a.setIfInBounds (o+j) x).toList.take (o+(j+1))++t)++_=_;rw[GG];have S:(a.toList.set (o+j) x).take (o+(j+1))=a.toList.take (o+j)++[x]:=by rw[show o+(j+1)=(o+j)+1 by omega,Ek,List.take_set_of_le (Ab _),BY N];rfl
  have R:(a.toList.set (o+j) x).drop (o+(j+1)+t.length)=a.toList.drop (o+j+(x::t).length):=by rw[List.drop_set_of_lt ⋯,Ak];congr 1;omega
  rw[S,R,An,An,An];rfl
def b9{a R:Array Keyed}(U:sa+n<=a.size)(S:M.Perm ((a.toList.drop sa).take n))(e:R.toList=a.toList.take sa++M++a.toList.drop (sa+n)):R.Perm a/\(R.toList.drop sa).take n=M/\∀j,j<sa\/sa+n<=j->R[j]?=a[j]?:=by
 have Y:M.length=n:=by rw[S.length_eq,xk U]
 have X:(a.toList.take sa).length=sa:=by rw[Bi,Ax];omega
 refine⟨?_,?_,λj N=>?_⟩
 . rw[Dx,e]
   have W:a.toList=a.toList.take sa++(a.toList.drop sa).take n++a.toList.drop (sa+n):=by rw[An,<-uH,A3]
   refine HH.trans ?_ (.of_eq W.symm);exact(S.append_left _).append_right _
 . rw[e,An,List.drop_append_of_le_length ⋯,Cf ⋯,DZ,List.take_append_of_le_length ⋯,BI ⋯]
 . rw[<-Bm,<-Bm,e,An]
   rcases N with N|N
   . rw[AW ⋯,BM N]
   . rw[AU ⋯,AU ⋯,Co]
     congr 1;omega
def ou(R:Srt key l)(N:Srt key m)(h:∀u∈l,∀v∈m,key u<=key v):Srt key (l++m):=DG.mpr ⟨R,N,h⟩
def lr(L:sk prog w A E s κ a₀ key){st}(hB:Bs κ a₀ st)(h1:(AQ st)[i]?=some (sa,na,p1))(h2:(AQ st)[i+1]?=some (sb,nb,p2))(hs:sb=sa+na)(ha:0<na)(hb:0<nb)(hz:sb+nb<=a₀.size)(sA:SIn key (arrOf st) sa na)(sB:SIn key (arrOf st) sb nb)
 (h:∀st',Bs κ a₀ st'->AQ st'=((AQ st).setIfInBounds i (sa,na+nb,p1)).eraseIdxIfInBounds (i+1)->SIn key (arrOf st') sa (na+nb)->(∀j,j<sa\/sa+(na+nb)<=j->(arrOf st')[j]?=(arrOf st)[j]?)->Q true st') :
 wpS (model prog w) A E s (mergeAt' i) Q st:=by
 subst hs;have hsz:=hB.size;have mem:∀x∈(arrOf st).toList,x∈a₀.toList:=λx hx=>(Dx.mp hB.a).mem_iff.mp hx;have W:=hB.c;have hfl:=hB.b;have hpm:=hB.a;cases st with
 |mk kd a pd mg fl=>
 dsimp only[arrOf,AQ,F8,EY]at *;have srA:=b6 ⋯ sA
 have srB:=b6 ⋯ sB
 have gb:=yN (a:=a) (i:=sa+na) ⋯
 have gl:=yN (a:=a) (i:=sa+na-1) ⋯
 obtain⟨k,d1,d2,d3,d4⟩:=ue (a₀:=a₀) (key:=key) (left:=false) (x:=a.getD (sa+na) (Ac,Ac)) (arr:=a) (base:=sa) (n:=na) ⋯ srA (λu hu=>mem u (BW (Bh hu)))
 obtain⟨U,c1,c2,c3,c4⟩:=ue (a₀:=a₀) (key:=key) (left:=true) (x:=a.getD (sa+na-1) (Ac,Ac)) (arr:=a) (base:=sa+na) (n:=nb) ⋯ srB (λu hu=>mem u (BW (Bh hu)))
 -- the two runs as lists
 have hAB:(a.toList.drop sa).take (na+nb)=(a.toList.drop sa).take na++(a.toList.drop (sa+na)).take nb:=by rw[GF,DM]
 have fst:∀u∈(a.toList.drop (sa+na)).take nb,key (a.getD (sa+na) (Ac,Ac))<=key u:=λu hu=>by
  have e0:((a.toList.drop (sa+na)).take nb)[0]?=some (a.getD (sa+na) (Ac,Ac)):=by rw[BM hb,Co,E2];exact gb.2.1
  exact xM srB e0 u hu
 have lst:∀u∈(a.toList.drop sa).take na,key u<=key (a.getD (sa+na-1) (Ac,Ac)):=λu hu=>by
  have e0:((a.toList.drop sa).take na)[na-1]?=some (a.getD (sa+na-1) (Ac,Ac)):=by rw[BM ⋯,Co,show sa+(na-1)=sa+na-1 by omega];exact gl.2.1
  exact xN srA e0 u (by rw[show na-1+1=na by omega,Em,Nat.min_self];exact hu)
 have Z:(∀u∈(a.toList.drop sa).take na,∀v∈(a.toList.drop (sa+na)).take nb,key u<=key v)->SIn key a sa (na+nb):=λhh=>cQ ⋯ (by rw[hAB];exact ou srA srB hh)
 unfold mergeAt';refine Aj (wpS_get ?_);dsimp only;rw[h1,h2];dsimp only;refine Aj (Yk ?_);refine Aj (zl gb.1 (Aj (xm L ha d1 d2 (mem _ gb.2.2) W ?_)));dsimp only;by_cases e1:na-k=0
 . rw[if_pos (by simpa using e1)]
   refine Au (h _ ⟨W,hpm,hfl⟩ rfl (Z λu hu v Y=>?_) λj _=>rfl);rw[show na=k by omega]at hu
   exact Be (d3 u hu) (fst v Y)
 . rw[if_neg (by simpa using e1)]
   rw[show sa+k+(na-k)-1=sa+na-1 by omega]
   refine Aj (zl gl.1 (Aj (xm L (show nb-1<nb by omega) c1 c2 (mem _ gl.2.2) W ?_)))
   dsimp only;by_cases e2:U=0
   . rw[if_pos (by simpa using e2)]
     refine Au (h _ ⟨W,hpm,hfl⟩ rfl (Z λu hu v Y=>?_) λj _=>rfl);rw[e2,C9]at c4;exact Be (lst u hu) (c4 v Y)
   . rw[if_neg (by simpa using e2)]
     have ex:(a.extract (sa+k) (sa+na)).toList=((a.toList.drop sa).take na).drop k:=by rw[DH,CM,HX,DM,show sa+na-(sa+k)=na-k by omega]
     have ey:(a.extract (sa+na) (sa+na+U)).toList=(a.toList.drop (sa+na)).take U:=p4;have eyy:(a.toList.drop (sa+na)).take U=((a.toList.drop (sa+na)).take nb).take U:=by rw[Em,ES c1]
     have lx:(a.extract (sa+k) (sa+na)).size=na-k:=by rw[<-Ax,ex,BN,xk ⋯]
     have ly:(a.extract (sa+na) (sa+na+U)).size=U:=by rw[<-Ax,ey,xk ⋯]
     have y0:(a.extract (sa+na) (sa+na+U)).getD 0 (Ac,Ac)=a.getD (sa+na) (Ac,Ac):=by
      have:=(yN (a:=a.extract (sa+na) (sa+na+U)) (i:=0) ⋯).2.1
      rw[ey,BM ⋯,Co,E2,gb.2.1]at this
      exact(AH this).symm
     have xl:(a.extract (sa+k) (sa+na)).getD ((a.extract (sa+k) (sa+na)).size-1) (Ac,Ac)=a.getD (sa+na-1) (Ac,Ac):=by
      have:=(yN (a:=a.extract (sa+k) (sa+na)) (i:=(a.extract (sa+k) (sa+na)).size-1) ⋯).2.1
      rw[lx]at this ⊢;rw[ex,Co,BM ⋯,Co,show sa+(k+(na-k-1))=sa+na-1 by omega,gl.2.1]at this
      exact(AH this).symm
     have fin:∀(r:Array Keyed) (N:SortSt),Sm (Ii kd a ((pd.setIfInBounds i (sa,na+nb,p1)).eraseIdxIfInBounds (i+1)) mg fl) N->Res key (a.extract (sa+k) (sa+na)).toList (a.extract (sa+na) (sa+na+U)).toList r ->
      Q (EY N).isNone (Ii (F8 N) (r.toList.zipIdx.foldl (λa p=>a.setIfInBounds (sa+k+p.2) p.1) (arrOf N)) (AQ N) (gallopOf N) (EY N)):=λr N S R=>by
      have f1:=S.e;have f2:=S.g;have f3:=S.f;have f4:=S.d;dsimp only[arrOf,AQ,F8,EY]at f1 f2 f3 f4;have hrl:r.toList.length=na-k+U:=by rw[R.a.length_eq,As,Ax,Ax,lx,ly]
      have pl:=mY (sa+k) r.toList 0 a ⋯
      rw[E2,hrl,show sa+k+(na-k+U)=sa+na+U by omega]at pl
      have sp:a.toList.take (sa+k)=a.toList.take sa++(a.toList.drop sa).take k:=GF;have sq:a.toList.drop (sa+na+U)=((a.toList.drop (sa+na)).take nb).drop U++a.toList.drop (sa+(na+nb)):=by have:=(wA (X:=a.toList.drop (sa+na)) c1).2;rw[DM,DM]at this;rw[this];congr 2;omega
      rw[sp,sq]at pl;have pl2:(r.toList.zipIdx.foldl (λa p=>a.setIfInBounds (sa+k+p.2) p.1) a).toList=a.toList.take sa++((a.toList.drop sa).take k++r.toList++((a.toList.drop (sa+na)).take nb).drop U)++a.toList.drop (sa+(na+nb)):=by rw[pl];simp only[An]
      have rp:=R.a;rw[ex,ey,eyy]at rp;have ekk:(a.toList.drop sa).take k=((a.toList.drop sa).take na).take k:=by rw[Em,ES d1]
      have hMp:((a.toList.drop sa).take k++r.toList++((a.toList.drop (sa+na)).take nb).drop U).Perm ((a.toList.drop sa).take (na+nb)):=by rw[hAB];refine((rp.append_left _).append_right _).trans ?_;rw[ekk,<-An,A3,An,A3]
      obtain⟨w1,w2,w3⟩:=b9 (n:=na+nb) ⋯ hMp pl2
      have hsrt:Srt key ((a.toList.drop sa).take k++r.toList++((a.toList.drop (sa+na)).take nb).drop U):=by
       have inr:∀u∈r.toList,u∈((a.toList.drop sa).take na).drop k\/u∈((a.toList.drop (sa+na)).take nb).take U:=λu hu=>AO.mp (rp.mem_iff.mp hu);refine ou (ou (by rw[ekk];exact srA.sublist (CY _ _)) R.b λu hu v Y=>?_) (srB.sublist (GV _ _)) λu hu v Y=>?_
       . rcases inr v Y with Y|Y
         . exact Be (d3 u hu) (d4 v Y)
         . exact Be (d3 u hu) (fst v (Bh Y))
       . rcases AO.mp hu with hu|hu
         . exact Be (d3 u hu) (fst v (BW Y))
         . rcases inr u hu with hu|hu
           . exact Be (lst u (BW hu)) (c4 v Y)
           . rw[<-eyy]at hu
             exact Be (c3 u hu) (c4 v Y)
      have f0:EY N=none:=f1.trans hfl;have q0:(EY N).isNone=true:=by rw[f0];rfl
      rw[q0];refine h _ ⟨f4.trans W,?_,f0⟩ f3 ?_ ?_
      . show (r.toList.zipIdx.foldl _ (arrOf N)).Perm a₀
        rw[show arrOf N=a from f2];exact w1.trans hpm
      . show SIn key (r.toList.zipIdx.foldl _ (arrOf N)) sa (na+nb)
        rw[show arrOf N=a from f2];exact cQ (by rw[w1.size_eq];omega) (by rw[w2];exact hsrt)
      . show ∀j,_->(r.toList.zipIdx.foldl _ (arrOf N))[j]?=_
        rw[show arrOf N=a from f2];exact w3
     have mx:∀x∈(a.extract (sa+k) (sa+na)).toList,x∈a₀.toList:=λx hx=>mem x (by rw[ex]at hx;exact BW (Bh (BW hx)))
     have my:∀x∈(a.extract (sa+na) (sa+na+U)).toList,x∈a₀.toList:=λx hx=>mem x (by rw[ey]at hx;exact BW (Bh hx))
     have sx:Srt key (a.extract (sa+k) (sa+na)).toList:=by rw[ex];exact srA.sublist (GV _ _)
     have sy:Srt key (a.extract (sa+na) (sa+na+U)).toList:=by rw[ey,eyy];exact srB.sublist (CY _ _)
     have hx1:∀u∈(a.extract (sa+k) (sa+na)).toList,key ((a.extract (sa+na) (sa+na+U)).getD 0 (Ac,Ac))<=key u:=by rw[y0,ex];exact d4
     have hy1:∀u∈(a.extract (sa+na) (sa+na+U)).toList,key u<=key ((a.extract (sa+k) (sa+na)).getD ((a.extract (sa+k) (sa+na)).size-1) (Ac,Ac)):=by rw[xl,ey];exact c3
     refine zZ (λ_=>?_) λ_=>?_
     . exact Aj (S7 L ⋯ ⋯ mx my sx sy hx1 hy1 W λr N S R=>Aj (CB (Aj (wpS_get (Au (fin r N S R))))))
     . exact Aj (S6 L ⋯ ⋯ mx my sx sy hx1 hy1 W λr N S R=>Aj (CB (Aj (wpS_get (Au (fin r N S R))))))
section
variable {prog:Program}{w:World}{A:Around}{E:Value->Shared->Prop}{s:Shared}{κ:DP}{a₀:Array Keyed}{key:Keyed->Int}
def Runs(key:Keyed->Int)(a:Array Keyed):Nat->List (Nat × Nat × Nat)->Nat->Prop
 |st,[],fin=>st=fin
 |st,(x,n,_)::r,fin=>x=st/\0<n/\SIn key a x n/\Runs key a (st+n) r fin
theorem u9:∀{l r} {st fin},Runs key a st (l++r) fin↔∃m,Runs key a st l m/\Runs key a m r fin
 |[],r,st,fin=>⟨λh=>⟨st,rfl,h⟩,λ⟨m,h1,h2⟩=>by cases h1;exact h2⟩
 |(x,n,p)::l,r,st,fin=>by show (x=st/\0<n/\SIn key a x n/\Runs key a (st+n) (l++r) fin)↔_;rw[u9 (l:=l)];exact⟨λ⟨h1,h2,h3,m,h4,h5⟩=>⟨m,⟨h1,h2,h3,h4⟩,h5⟩,λ⟨m,⟨h1,h2,h3,h4⟩,h5⟩=>⟨h1,h2,h3,m,h4,h5⟩⟩
theorem tD:∀{l} {st fin},Runs key a st l fin->st+l.length<=fin
 |[],st,fin,h=>by cases h;exact Ab _
 |(x,n,p)::l,st,fin,h=>by have:=tD h.2.2.2;have:=h.2.1;rw[Ak];omega
theorem xy:∀{l} {st fin},(∀j,st<=j->j<fin->b[j]?=a[j]?)->Runs key a st l fin->Runs key b st l fin
 |[],st,fin,_,h=>h
 |(x,n,p)::l,st,fin,hc,h=>by
  have U:=tD h.2.2.2;refine⟨h.1,h.2.1,λi j N R=>?_,xy (λj W S=>hc j ⋯ S) h.2.2.2⟩
  have hx:=h.1;rw[yx (hc (x+i) ⋯ ⋯),yx (hc (x+j) ⋯ ⋯)]
  exact h.2.2.1 i j N R
structure Rn(κ:DP)(a₀:Array Keyed)(key:Keyed->Int)(lo:Nat)(st:SortSt):Prop where
 b:Bs κ a₀ st
 a:Runs key (arrOf st) 0 (AQ st).toList lo
def pE{lo n}(h:∀j,lo<=j->b[j]?=a[j]?)(hs:SIn key a lo n):SIn key b lo n:=λi j N R=>by rw[yx (h (lo+i) ⋯),yx (h (lo+j) ⋯)];exact hs i j N R
theorem pC:∀{l l'} {st fin},l.map (λx=>(x.1,x.2.1))=l'.map (λx=>(x.1,x.2.1))->Runs key a st l fin->Runs key a st l' fin
 |[],[],st,fin,_,h=>h
 |[],_::_,st,fin,e,h=>by cases e
 |_::_,[],st,fin,e,h=>by cases e
 |(x,n,p)::l,(x',n',p')::l',st,fin,e,h=>by
  rw[AF,AF]at e;injection e with e1 e2
  injection e1 with e3 e4
  dsimp only at e3 e4;subst e3 e4;exact⟨h.1,h.2.1,h.2.2.1,pC e2 h.2.2.2⟩
def sZ{st}{lo n}(h:Rn κ a₀ key lo st)(hs:SIn key (arrOf st) lo n)(N:0<n):Rn κ a₀ key (lo+n) (setPending st ((AQ st).push (lo,n,0))):=by refine⟨⟨h.b.c,h.b.a,h.b.b⟩,?_⟩;show Runs key (arrOf st) 0 ((AQ st).push (lo,n,0)).toList (lo+n);rw[CZ,u9];exact⟨lo,h.a,rfl,N,hs,rfl⟩
def bK{st}{lo k pw}(h:Rn κ a₀ key lo st):Rn κ a₀ key lo (setPending st ((AQ st).modify k λx=>(x.1,x.2.1,pw))):=by
 refine⟨⟨h.b.c,h.b.a,h.b.b⟩,?_⟩;show Runs key (arrOf st) 0 ((AQ st).modify k λx=>(x.1,x.2.1,pw)).toList lo;refine pC ?_ h.a;rw[Array.toList_modify];refine GX λi=>?_;rw[Aq,Aq,List.getElem?_modify];cases (AQ st).toList[i]? with
 |none=>rfl
 |some v=>
  show some (v.1,v.2.1)=some ((if k=i then (v.1,v.2.1,pw) else v).1,(if k=i then (v.1,v.2.1,pw) else v).2.1)
  split<;>rfl
def dG [Decidable c] (R:a+1<n)(N:b+1<n):(if c then a else b)+1<n:=by
 by_cases h:c
 . rw[if_pos h];exact R
 . rw[if_neg h];exact N
def Vy{N:Type}{l:List N}(h:i+1<l.length):∃l1 x y R,l=l1++x::y::R/\l1.length=i:=by
 refine⟨l.take i,l[i],l[i+1],l.drop (i+2),?_,by rw[Bi];omega⟩
 rw[<-Bn,<-Bn,A3]
def rY(L:sk prog w A E s κ a₀ key){st}{i lo}(h:Rn κ a₀ key lo st)(hlo:lo<=a₀.size)(hi:i+1<(AQ st).size)
 (q:∀st',Rn κ a₀ key lo st'->(AQ st').size+1=(AQ st).size->(∀j,lo<=j->(arrOf st')[j]?=(arrOf st)[j]?)->Q true st'):wpS (model prog w) A E s (mergeAt' i) Q st:=by
 obtain⟨l1,⟨R,S,Z⟩,⟨xb,nb,pb⟩,l2,el,N⟩:=Vy (l:=(AQ st).toList) (i:=i) (by rw[Ax];exact hi)
 have hr:=h.a;rw[el,u9]at hr;obtain⟨m,Y,ea,ha,sA,eb,hb,sB,X⟩:=hr;subst ea;subst eb;have hr2:=tD X;have hr1:=tD Y;have g1:(AQ st)[i]?=some (R,S,Z):=by rw[<-Bm,el,AU ⋯,N,E3];rfl
 have g2:(AQ st)[i+1]?=some (R+S,nb,pb):=by rw[<-Bm,el,AU ⋯,N,Fd];rfl
 refine lr L h.b g1 g2 rfl ha hb ⋯ sA sB λst' W hp hs hk=>q st' ⟨W,?_⟩ ?_ λj U=>hk j (.inr ⋯)
 . have ep:(AQ st').toList=l1++(R,S+nb,Z)::l2:=by
    rw[hp,Hh,dif_pos (by rw[CV];exact hi),Array.toList_eraseIdx,GG,el]
    rw[List.set_append_right _ _ ⋯,N,E3,List.set_cons_zero,List.eraseIdx_append_of_length_le ⋯,N,Fd]
    rfl
   rw[ep,u9];refine⟨R,xy (λj _ U=>hk j (.inl U)) Y,rfl,⋯,hs,?_⟩
   rw[<-Nat.add_assoc];exact xy (λj U _=>hk j (.inr ⋯)) X
 . rw[hp,Hh,dif_pos (by rw[CV];exact hi),Array.size_eraseIdx,CV]
   omega
def YL(L:sk prog w A E s κ a₀ key)(D:Dis key a₀){st}(hB:Bs κ a₀ st)(hp:AQ st=#[])(h2:2<=a₀.size)
 (q:∀st',Bs κ a₀ st'->SIn key (arrOf st') 0 a₀.size->Q () st'):wpS (model prog w) A E s sortRuns' Q st:=by
 rw[sortRuns'_eq];refine Aj (wpS_get ?_);dsimp only;rw[hB.size];generalize minRun' a₀.size a₀.size 0=mr;refine Aj (CU (BD (I:=λx c st'=>∃lo,c=(none,lo)/\x<=lo/\lo<=a₀.size/\Rn κ a₀ key lo st') (Q:=λc st'=>c=(none,a₀.size)/\Rn κ a₀ key a₀.size st') ?step ?fin ⟨0,rfl,Ab _,AS _,hB,by rw[hp];rfl⟩) ?post)
 case fin=>
  rintro c st' ⟨lo,rfl,X,h2,Y⟩;have:lo=a₀.size:=by omega
  subst this;exact⟨rfl,Y⟩
 case step=>
  rintro x c st' _ hx ⟨lo,rfl,X,hlo,Y⟩;dsimp only;by_cases hge:lo ≥ a₀.size
  . rw[if_pos hge]
    have:lo=a₀.size:=by omega
    subst this;exact Au ⟨rfl,Y⟩
  . rw[if_neg hge]
    refine Aj (aN L D ⋯ ⋯ Y.b λm st2 hB2 pre2 pe2 m1 m2 s2=>?_)
    dsimp only;have hR2:Rn κ a₀ key lo st2:=⟨hB2,by rw[pe2];exact xy (λj _ hj=>pre2 j hj) Y.a⟩
    by_cases hm:m<mr
    . rw[if_pos hm]
      refine Aj (Gf (BE ⟨rfl,?_⟩));refine Aj (UK L (show lo+min (a₀.size-lo) mr<=a₀.size by omega) ⋯ hB2 s2 λst3 hB3 pre3 pe3 s3=>?_)
      rw[if_neg (by simp)]
      have hR3:Rn κ a₀ key lo st3:=⟨hB3,by rw[pe3];exact xy (λj _ hj=>pre3 j hj) hR2.a⟩
      refine Aj (wpS_get ?_);cases hbk:(AQ st3).back? with
      |none=>
       dsimp only;exact Aj (CB (Au ⟨lo+min (a₀.size-lo) mr,rfl,⋯,⋯,sZ hR3 s3 ⋯⟩))
      |some v=>
       obtain⟨s1,n1,p1⟩:=v;dsimp only;refine Aj (CU (BD (I:=λy c N=>c=(none,())/\Rn κ a₀ key lo N/\SIn key (arrOf N) lo (min (a₀.size-lo) mr)) (Q:=λc N=>c=(none,())/\Rn κ a₀ key lo N/\SIn key (arrOf N) lo (min (a₀.size-lo) mr)) (λy c N _ _ U=>?_) (λc N U=>U) ⟨rfl,hR3,s3⟩) ?_)
       . obtain⟨rfl,R,S⟩:=U
         refine Aj (wpS_get ?_);by_cases hp1:(AQ N).size > 1
         . rw[if_pos hp1,getElem?_pos (AQ N) ((AQ N).size-2) ⋯]
           dsimp only;refine zZ (λ_=>Au ⟨rfl,R,S⟩) λ_=>Aj (rY L R ⋯ ⋯ λst5 W _ Z=>?_)
           rw[if_neg (by simp)]
           exact Au ⟨rfl,W,pE (λj hj=>Z j hj) S⟩
         . rw[if_neg hp1]
           exact Au ⟨rfl,R,S⟩
       . rintro c N ⟨rfl,R,S⟩
         dsimp only;exact Aj (CB (Aj (CB (Au ⟨lo+min (a₀.size-lo) mr,rfl,⋯,⋯,sZ (bK R) S ⋯⟩))))
    . rw[if_neg hm]
      refine Aj (wpS_get ?_);cases hbk:(AQ st2).back? with
      |none=>
       dsimp only;exact Aj (CB (Au ⟨lo+m,rfl,⋯,⋯,sZ hR2 s2 ⋯⟩))
      |some v=>
       obtain⟨s1,n1,p1⟩:=v;dsimp only;refine Aj (CU (BD (I:=λy c N=>c=(none,())/\Rn κ a₀ key lo N/\SIn key (arrOf N) lo (m)) (Q:=λc N=>c=(none,())/\Rn κ a₀ key lo N/\SIn key (arrOf N) lo (m)) (λy c N _ _ U=>?_) (λc N U=>U) ⟨rfl,hR2,s2⟩) ?_)
       . obtain⟨rfl,R,S⟩:=U
         refine Aj (wpS_get ?_);by_cases hp1:(AQ N).size > 1
         . rw[if_pos hp1,getElem?_pos (AQ N) ((AQ N).size-2) ⋯]
           dsimp only;refine zZ (λ_=>Au ⟨rfl,R,S⟩) λ_=>Aj (rY L R ⋯ ⋯ λst5 W _ Z=>?_)
           rw[if_neg (by simp)]
           exact Au ⟨rfl,W,pE (λj hj=>Z j hj) S⟩
         . rw[if_neg hp1]
           exact Au ⟨rfl,R,S⟩
       . rintro c N ⟨rfl,R,S⟩
         dsimp only;exact Aj (CB (Aj (CB (Au ⟨lo+m,rfl,⋯,⋯,sZ (bK R) S ⋯⟩))))
 case post=>
  rintro c st' ⟨rfl,Y⟩;dsimp only;have hle:=tD Y.a;rw[Ax]at hle;refine Aj (CU (BD (I:=λx c N=>c=(none,())/\Rn κ a₀ key a₀.size N/\((AQ N).size<=1\/(AQ N).size+x<=a₀.size)) (Q:=λc N=>c=(none,())/\Rn κ a₀ key a₀.size N/\(AQ N).size<=1) (λy c N _ _ U=>?_) (λc N U=>⟨U.1,U.2.1,by have:=U.2.2;omega⟩) ⟨rfl,Y,.inr ⋯⟩) ?_)
  . obtain⟨rfl,R,S⟩:=U
    refine Aj (wpS_get ?_);refine zZ (λX=>Au ⟨rfl,R,X⟩) λX=>Aj (rY L R (Ab _) (dG ⋯ ⋯) λst5 W hz5 _=>?_)
    rw[if_neg (by simp)]
    exact Au ⟨rfl,W,.inr ⋯⟩
  . rintro c N ⟨rfl,R,X⟩
    refine Au (q N R.b ?_);have hr:=R.a;rw[<-Ax]at X
    match hl:(AQ N).toList,hr,X with
    |[],hr,_=>exact absurd (show 0=a₀.size from hr) ⋯
    |[(x,n,p)],hr,_=>
     obtain⟨rfl,_,hs,he⟩:=hr;have he':0+n=a₀.size:=he;rw[<-he',Cd];exact hs
    |_::_::_,_,X=>rw[Ak,Ak]at X;omega
end
end L2.Tim
end
section
namespace L2
open PySem PySem.W PySem.Calls PyProof PyProof.Rows
noncomputable def xh:List Int->List Int->Bool
 |x::xs,y::ys=>if x=y then xh xs ys else decide (x<y)
 |[],_::_=>true
 |_,[]=>false
noncomputable def dw(d:Bool):List Int->List Int->Bool
 |x::xs,y::ys=>if x=y then dw d xs ys else decide (x<y)
 |_,_=>d
theorem j7:∀xs ys:List Int,dw (decide (xs.length<ys.length)) xs ys=xh xs ys
 |[],[]=>rfl
 |[],_::_=>decide_eq_true (En _)
 |_::_,[]=>rfl
 |x::xs,y::ys=>by have:=j7 xs ys;have e:decide ((x::xs).length<(y::ys).length)=decide (xs.length<ys.length):=decide_eq_decide.mpr Nat.add_lt_add_iff_right;unfold dw xh;rw[e,this]
theorem r9{S R:Type}{f}:∀{l} {N:List R},N.Perm (l.map f)->∃m:List S,m.Perm l/\m.map f=N
 |[],N,h=>⟨[],.refl _,(List.perm_nil.mp h).symm⟩
 |a::t,N,h=>by
  obtain⟨s,r,rfl⟩:=List.append_of_mem (h.mem_iff.mpr (.head _));obtain⟨m,Y,X⟩:=r9 (l:=t) (List.perm_cons (f a) |>.mp ((Hi.symm).trans h))
  obtain⟨W,U,rfl,rfl,rfl⟩:=List.map_eq_append_iff.mp X;exact⟨W++a::U,Hi.trans (Y.cons a),by rw[Dt,AF]⟩
section
variable {prog:Program}{w:World}{A:Around}{E:Value->Shared->Prop}{κ:DP}{s:Shared}
theorem nz:∀{us vs} {xs ys} i,vz us xs->vz vs ys->Q (dw d xs ys) s->KatLex prog w A true d Q (us.zip vs) i s
 |_,_,_,_,i,.b,.b,h=>h
 |_,_,_,_,i,.b,.a _,h=>h
 |_,_,_,_,i,.a _,.b,h=>h
 |_,_,_,_,i,.a (i:=a) (t:=t) (us:=us) (ns:=xs) r,.a (i:=b) (t:=u) (us:=vs) (ns:=ys) r',h=>by
  show KatLex prog w A true d Q ((Dh a t,Dh b u)::us.zip vs) i s;unfold dw at h;refine kat_cons (wpAny_eqBool_int (kat_go (λe=>?_) λe=>?_))
  . rw[if_pos (of_decide_eq_true e)]at h
    exact kat_yes (nz (i+1) r r' h)
  . rw[if_neg (of_decide_eq_false e)]at h
    refine kat_no ?_;cases i with
    |zero=>exact oneLt_int h
    |succ i=>exact kat_one _ _ (lt_int h)
noncomputable def itm(vs:List Value)(i:Nat):Keyed:=(vs.getD i Ac,vs.getD i Ac)
def j4 vs:(vs.toArray.zip vs.toArray).toList=(Ah vs.length).map (itm vs):=by
 rw[Array.toList_zip];apply EA
 . simp
 . intro i R N
   have hi:i<vs.length:=by simpa using N
   simp[itm,Ad,pn hi]
end
def gB:∀{a b},vz us a->vz us b->a=b:=by
 induction us with
 |nil=>intro a b h k;cases h;cases k;rfl
 |cons u us N=>
  intro a b h k;cases h with
  |a h=>
   cases k with
   |a k=>rw[N h k]
noncomputable def keyOf(its:List Value)(zs:List (List Int))(K:List Int->Int)(x:Keyed):Int:=
 open Classical in K (zs.getD (its.findIdx λv=>decide (v=x.1)) [])
def wj{K}(W:TV h its zs)(hz:zs[i]?=some z):keyOf its zs K (itm its i)=K z:=by
 classical
 obtain⟨b,o,n,us,Z,f2,f3,f4,f5⟩:=W.2 i z hz;have e1:its.getD i Ac=.ref b:=by rw[Ad,Z];rfl
 have S:its.findIdx (λv=>decide (v=its.getD i Ac))<its.length:=List.findIdx_lt_length_of_exists ⟨.ref b,AA Z,by rw[e1];exact decide_eq_true rfl⟩
 have hp:=List.findIdx_getElem (w:=S);have hj:=of_decide_eq_true hp;have N:its.findIdx (λv=>decide (v=its.getD i Ac))<zs.length:=by rw[<-W.1];exact S
 obtain⟨b',o',n',U,Y,X,g3,R,g5⟩:=W.2 _ _ (pn N);have e2:Bb b'=.ref b:=by rw[pn S]at Y;rw[<-e1,<-hj];exact(AH Y).symm
 cases e2;rw[f2]at X;cases X;rw[f4]at R;injection R with R
 have R:=Hj.mpr R;have R:us=U:=R;subst R;unfold keyOf;show K (zs.getD (its.findIdx λv=>decide (v=its.getD i Ac)) [])=K z;rw[Ad,pn N,FC,gB g5 f5]
def TV.up(N:TV h its zs)(keep:∀b o,h.get? b=some o->h'.get? b=some o):TV h' its zs:=⟨N.1,λi z e=>by obtain⟨b,o,n,us,S,f2,R⟩:=N.2 i z e;exact⟨b,o,n,us,S,keep _ _ f2,R⟩⟩
theorem rV:∀a:List Int,xh a a=false
 |[]=>rfl
 |x::xs=>by unfold xh;rw[if_pos rfl];exact rV xs
theorem ny:∀{a b},xh a b=false->a≠b->xh b a=true
 |[],[],_,h=>absurd rfl h
 |[],_::_,h,_=>by cases h
 |_::_,[],_,_=>rfl
 |x::xs,y::ys,h,n=>by
  unfold xh at h ⊢;by_cases e:x=y
  . subst e
    rw[if_pos rfl]at h ⊢;exact ny h λe=>n (by rw[e])
  . rw[if_neg e]at h
    rw[if_neg (λz=>e z.symm)];have:=of_decide_eq_false h;exact decide_eq_true ⋯
theorem oG:∀{a b c},xh a b=true->xh b c=true->xh a c=true
 |[],[],_,h,_=>by cases h
 |_::_,[],_,h,_=>by cases h
 |_,_::_,[],_,h=>by cases h
 |[],_::_,_::_,_,_=>rfl
 |x::xs,y::ys,z::zs,h,k=>by
  unfold xh at h k ⊢;by_cases e:x=y
  . subst e
    rw[if_pos rfl]at h;by_cases e':x=z
    . rw[if_pos e']at k ⊢;exact oG h k
    . rw[if_neg e']at k ⊢;exact k
  . rw[if_neg e]at h
    have h:=of_decide_eq_true h;by_cases e':y=z
    . subst e'
      rw[if_neg e];exact decide_eq_true h
    . rw[if_neg e']at k
      have k:=of_decide_eq_true k;rw[if_neg ⋯]
      exact decide_eq_true ⋯
def gA(z:List Int):List (List Int)->List (List Int)
 |[]=>[z]
 |y::ys=>if xh y z then y::gA z ys else z::y::ys
def z6:List (List Int)->List (List Int)
 |[]=>[]
 |z::zs=>gA z (z6 zs)
theorem tY z:∀l,(gA z l).Perm (z::l)
 |[]=>.refl _
 |y::ys=>by
  unfold gA;by_cases h:xh y z=true
  . rw[if_pos h];exact((tY z ys).cons y).trans (.swap z y ys)
  . rw[if_neg h]
theorem z8:∀l,(z6 l).Perm l
 |[]=>.refl _
 |z::zs=>(tY z _).trans ((z8 zs).cons z)
theorem jx z:∀l,z ∉ l->l.Pairwise (λa b=>xh a b=true)->(gA z l).Pairwise (λa b=>xh a b=true)
 |[],_,_=>Hv _ _
 |y::ys,hz,h=>by
  rw[D0]at h;rw[Al,not_or]at hz;unfold gA;by_cases e:xh y z=true
  . rw[if_pos e]
    refine D0.mpr ⟨λa N=>?_,jx z ys hz.2 h.2⟩;rcases Al.mp ((tY z ys).mem_iff.mp N) with q|q
    . rw[q];exact e
    . exact h.1 a q
  . rw[if_neg e]
    have e:=ny (GW.mpr e) λq=>hz.1 q.symm;refine D0.mpr ⟨λa N=>?_,D0.mpr h⟩;rcases Al.mp N with q|q
    . rw[q];exact e
    . exact oG e (h.1 a q)
theorem vi:∀{l},l.Nodup->(z6 l).Pairwise (λa b=>xh a b=true)
 |[],_=>.nil
 |z::zs,h=>by rw[Bc]at h;exact jx z _ (λq=>h.1 ((z8 zs).mem_iff.mp q)) (vi h.2)
def tf(h:xh a b=true):xh b a=false:=by
 cases e:xh b a with
 |false=>rfl
 |true=>rw[<-rV a];exact(oG h e).symm
def mw(S:zs.Nodup)(W:a∈zs)(U:b∈zs):xh a b=decide (((z6 zs).idxOf a:Int)<(z6 zs).idxOf b):=by
 have hs:=vi S;have i1:=Dm ((z8 zs).mem_iff.mpr W);have i2:=Dm ((z8 zs).mem_iff.mpr U);have R:=D4 i1;have N:=D4 i2;rcases Ef ((z6 zs).idxOf a) ((z6 zs).idxOf b) with h|h|h
 . have:=BG.mp hs _ _ i1 i2 h
   rw[R,N]at this;rw[this];exact(decide_eq_true ⋯).symm
 . have:a=b:=by rw[<-R,<-N];exact getElem_congr_idx h
   rw[this,rV];exact(decide_eq_false ⋯).symm
 . have:=BG.mp hs _ _ i2 i1 h
   rw[R,N]at this;rw[tf this];exact(decide_eq_false ⋯).symm
def bz(R:a∈zs)(N:b∈zs)(h:((z6 zs).idxOf a:Int)=(z6 zs).idxOf b):a=b:=by have i1:=Dm ((z8 zs).mem_iff.mpr R);have i2:=Dm ((z8 zs).mem_iff.mpr N);rw[<-D4 i1,<-D4 i2];exact getElem_congr_idx ⋯
def mq(N:zs.Nodup)(hp:l.Perm zs)(h:l.Pairwise λa b=>((z6 zs).idxOf a:Int)<(z6 zs).idxOf b):l=z6 zs:=by
 refine Hk (le:=λa b=>xh a b=true) (λa b _ _ h k=>?_) (h.imp_of_mem λ{a b} ha hb w=>?_) (vi N) (hp.trans (z8 zs).symm)
 . rw[tf h]at k;cases k
 . rw[mw N (hp.mem_iff.mp ha) (hp.mem_iff.mp hb)];exact decide_eq_true w
end L2
end
section
namespace L2
open PySem PyProof.Rows
def bL(hc:X.g=true)(S:zc X N csc fr)(hi:PI X tg iter wi)(hg:∀C R H0 ex,PG (X.comp N csc C R H0 ex) tg g)(ht:∀C R H0 ex,PTs (X.comp N csc C R H0 ex) ifs ts)
 (Z:∀C R H0 ex,PI (X.comp N csc C R H0 ex) tg2 iter2 wi2) (hg2:∀C R H0 ex,PG (X.comp N csc C R H0 ex) tg2 g2) (U:∀C R H0 ex,PTs (X.comp N csc C R H0 ex) ifs2 ts2)
 (he:∀C R H0 ex,PE (X.comp N csc C R H0 ex) elt te) (hN:X.N.Nodup) (hy:X.N[i]?=some y) (hx:Loc X.a.scope y)
 (W:FF (.ListComp elt [⟨tg,iter,ifs,0⟩,⟨tg2,iter2,ifs2,0⟩] csc cpos) (some (.Name y py)) spos.line X.a=pure true:=by rfl)
 (hf:X.n y=true\/X.a.scope.names.lookup y=some .local:=by first|exact .inl rfl|exact .inr rfl|assumption)
 (hs:∀x,AN iter X.a x=pure x:=by intro _;rfl)
 (Y:∀env x,AN iter2 env x=pure x:=by intro _ _;rfl) :
 PS X (.Assign [.Name y py] (.ListComp elt [⟨tg,iter,ifs,0⟩,⟨tg2,iter2,ifs2,0⟩] csc cpos) spos) (qX (vg fr wi g ts λacc=>uR wi2 g2 ts2 (sH acc te)) (vY i)):=
 mW hc S hi (B:=λacc env=>(do
         let x <-eval iter2 env
         standAt iter2.pos
         let x <-AN iter2 env x;let _ <-runOwn (.compStart (.ListComp elt [⟨tg,iter,ifs,0⟩,⟨tg2,iter2,ifs2,0⟩] csc cpos) 1 (<-holding [x] (pyIter x)) acc env) env)) (XZ elt tg iter ifs tg2 iter2 ifs2 csc cpos) hg ht
  (λC R H0 ex acc=>mP rfl hc (Z C R H0 ex) (hg2 C R H0 ex) (U C R H0 ex) (sY (he C R H0 ex)) (Y _)) hN hy hx W hf hs
end L2
end
section
namespace L2
open PySem PySem.Calls PyProof PyProof.Rows
open AutoSeq1 (wpAny_loadPart')
def sP(N:s.heap.IsTupleIter it t i)(W:s.heap.IsTuple t items)(hx:items[i]?=some x)
 (Y:∀h',h'.IsTupleIter it t (i+1)->Cm it s.heap h'->Q x {s with heap:=h'}):wpAny (model prog w) A (B2 (.ref it)) Q E s:=by
 obtain⟨o,R,X,hd⟩:=id N;obtain⟨Z,S,_,nl,U⟩:=W;unfold B2;refine dm (BC (name:=CO "__next__") N.typeIs Dy
  (BA Dy N.typeIs Gv ?_ (Gg _)))
 show wpAny _ _ (field (.ref it) 0 >>= _) _ _ s;refine dm (BH R hd (x:=.ref t) rfl ?_);show wpAny _ _ (if (Bb t == Ac)=true then _ else _) _ _ s
 rw[if_neg (show ¬((Bb t == Ac)=true) from Ag)];show wpAny _ _ (field (.ref it) 1 >>= _) _ _ s;refine dm (BH R hd (x:=.int i 0) rfl ?_);show wpAny _ _ (seqItems? (.ref t) >>= _) _ _ s;refine dm (CI S U ?_);simp only[Bv,hx];refine dm (Eo R hd (by simp) (xd ⟨x,rfl,xd (Y _ ?_ (Ci ..))⟩))
 exact⟨_,B6 _ R (FJ (E4 hd _)),(GY ..).trans X,by
  rw[E4 hd];simp[rawInt]⟩
def rZ(W:A.handled=none)(N:s.heap.IsTupleIter it t i)(X:s.heap.IsTuple t items)(hx:items[i]?=none)
 (Y:∀h' e,Heap.ExtBut it s.heap h'->(∃o,h'.get? e=some o/\o.cls=.type "StopIteration")->E (.ref e) {s with heap:=h'}):wpAny (model prog w) A (B2 (.ref it)) Q E s:=by
 obtain⟨o,R,hc,hd⟩:=id N;obtain⟨Z,S,_,nl,U⟩:=X;unfold B2;refine dm (BC (name:=CO "__next__") N.typeIs Dy
  (BA Dy N.typeIs Gv ?_ (Gg _)))
 show wpAny _ _ (field (.ref it) 0 >>= _) _ _ s;refine dm (BH R hd (x:=.ref t) rfl ?_);show wpAny _ _ (if (Bb t == Ac)=true then _ else _) _ _ s
 rw[if_neg (show ¬((Bb t == Ac)=true) from Ag)];show wpAny _ _ (field (.ref it) 1 >>= _) _ _ s;refine dm (BH R hd (x:=.int i 0) rfl ?_);show wpAny _ _ (seqItems? (.ref t) >>= _) _ _ s;refine dm (CI S U ?_);simp only[Bv,hx]
 first
  |refine dm (BE (dm (Eo R hd (by simp) ?_)))
  |refine dm (Eo R hd (by simp) ?_)
 first
  |show wpAny _ _ (newExc (.type "StopIteration") [] >>= _) _ _ _
  |(refine dm (wpAny_letGo ?_);show wpAny _ _ (newExc (.type "StopIteration") [] >>= _) _ _ _)
 refine dm ?_;simp only[newExc,newTuple];refine dm (A4 ?_ (by size_fits))
 refine dm (m:=Gh _ _) (DL (a:=Ac) (by first|rfl|(simp only[Gh];rfl)) ?_)
 refine A4 ?_ (by size_fits)
 simp only[raiseNew];refine dm (wpAny_handled ?_)
 first|rw[show A.in1.handled=none from W]|rw[W]
 refine dm (xd (wpAny_throw ?_));exact Y _ _ (((Ci ..).extBut.push _).push _) ⟨_,Az _ rfl,rfl⟩
def qk(W:A.handled=none)it t(U:t≠it)items :
 Draws prog w A it [it,t] items.size (λi v=>items[i]?=some v) (λi h=>h.IsTupleIter it t i/\h.IsTuple t items) where
 live:=λ_ _ st=>let ⟨o,R,_⟩:=st.1;⟨o,R⟩
 frame:=λ_ _ _ st hk=>⟨st.1.at λo e=>hk it (by simp) o e,let ⟨o,R,r⟩:=st.2;⟨o,hk t (by simp) o R,r⟩⟩
 item:=λi s Q E hi st X=>by
  refine sP st.1 st.2 (x:=items[i]) (by simp[hi]) λh' S N=>?_
  exact X _ h' s.toks (by simp[hi]) ⟨S,let ⟨o,R,r⟩:=st.2;⟨o,N.extBut t o U R,r⟩⟩ N
 done:=λs Q E st Y=>rZ W st.1 st.2 (by simp) Y
def rX l items n dct sl :
 Meets (Builtin.«enumerate.__new__» ⟨[.type "enumerate",.ref l],[]⟩) (λ_ R s=>s.heap.get? l=some {cls:=.type "tuple",dict:=dct,data:=.seq items n,slots:=sl} /\
  R (.ok (.ret (.ref (s.heap.push {cls:=.type "tuple_iterator",data:=.fields #[.ref l,.int 0 0]}).objs.size)))
    {s with heap:=(s.heap.push {cls:=.type "tuple_iterator",data:=.fields #[.ref l,.int 0 0]}).push {cls:=.type "enumerate",data:=.fields #[.none,.bool false,.ref s.heap.objs.size,rawInt 0,.none,.none]}}):=
 .of_wp λprog w A R s h=>by
  obtain⟨hp,g,d,tk,os⟩:=s;obtain⟨N,h⟩:=h;have U:=sub_enumerate;have S:Heap.IsTuple (Shared.heap ⟨hp,g,d,tk,os⟩) l items:=⟨_,N,rfl,n,rfl⟩
  wp_walk using Ck N
  refine wpAny_stack_any λst=>xd ?_;split
  . rename_i c _ _ _ _ _
    cases (c == Dd "enumerate")
    . wp_walk using Ck N,Dl S
      exact⟨_,rfl,h⟩
    . wp_walk using Ck N,Dl S
      exact⟨_,rfl,h⟩
  . wp_walk using Ck N,Dl S
    exact⟨_,rfl,h⟩
def qL(W:s.heap.IsTuple l items)
 (h:∀h',IsEnum h' (s.heap.objs.size+1) s.heap.objs.size 0 .none->h'.IsTupleIter s.heap.objs.size l 0->h'.objs.size=s.heap.objs.size+2 ->
  (∀b o,s.heap.get? b=some o->h'.get? b=some o)->Q (.ref (s.heap.objs.size+1)) {s with heap:=h'}) :
 wpAny (model prog w) A (call (.type "enumerate") [.ref l]) Q E s:=by
 obtain⟨⟨c,dct,X,S⟩,U,R,n,hd⟩:=W;replace R:c=.type "tuple":=R;replace hd:X=.seq items n:=hd;subst R hd;refine callType_new F.called_enumerate (by decide) (F.typeCall_enumerate_1 _) (F.newCall_enumerate_1 _) (λobj=>F.args_object_init_2 obj _) F.entry_enumerate_new
  (rX l items n dct S) ⟨U,?_⟩
 have N:(s.heap.push {cls:=.type "tuple_iterator",data:=.fields #[.ref l,.int 0 0]}).objs.size=s.heap.objs.size+1:=BK ..;show _/\_;rw[N];have he:IsEnum ((s.heap.push {cls:=.type "tuple_iterator",data:=.fields #[.ref l,.int 0 0]}).push
  {cls:=.type "enumerate",data:=.fields #[.none,.bool false,.ref s.heap.objs.size,rawInt 0,.none,.none]}) (s.heap.objs.size+1) s.heap.objs.size 0 .none:=by
  have:=Az (s.heap.push {cls:=.type "tuple_iterator",data:=.fields #[.ref l,.int 0 0]})
   (o:={cls:=.type "enumerate",data:=.fields #[.none,.bool false,.ref s.heap.objs.size,rawInt 0,.none,.none]}) rfl
  rw[N]at this;exact this
 refine⟨⟨_,he,rfl⟩,h _ he ⟨_,zO _ (Az _ rfl),rfl,rfl⟩ (by rw[BK,N]) λb o x=>zO _ (zO _ x)⟩
end L2
end
section
namespace L2
open PySem PySem.Calls PyProof PyProof.Rows
noncomputable def Ite(K:AG)(a:Addr):It:=
 ⟨λi H=>∃xs x,SqT K H a xs/\xs[i]?=some x,λi H x H'=>∃t y,H t=none/\x=.c t/\(∀xs,SqT K H a xs->xs[i]?=some y)/\H'=upd H t (.c [.d (i:Nat),y]),λi H=>∃xs,SqT K H a xs/\xs.length=i⟩
def Inv.ie(I:Inv X pins σ H s)(fe:wB X pins H e)(fi:wB X pins H it)
 (k:∀b o,b≠e->b≠it->s.heap.get? b=some o->h'.get? b=some o) (hT:s.heap.objs.size<=T) (hz:ys.length<=AI) (r:Vals ys its) (Z:h'.get? T=some {cls:=.type "tuple",data:=.seq its.toArray n}) :
 Inv X pins σ (upd H T (.c ys)) {s with heap:=h',toks:=t'}:=by
 obtain⟨e0,e1,e2,e3,e4,e5⟩:=fe;obtain⟨i0,i1,i2,i3,i4,i5⟩:=fi;have hn:H T=none:=I.j.fresh hT;have R:∀b u,H b=some u->b≠T:=λb u q z=>by rw[z,hn]at q;cases q
 have Y:∀b u,H b=some u->b≠e:=λb u q z=>by rw[z,e0]at q;cases q
 have W:∀b u,H b=some u->b≠it:=λb u q z=>by rw[z,i0]at q;cases q
 have U:∀b o,s.heap.get? b=some o->b≠T:=λb o q z=>absurd (AJ (Am q) hT) (by rw[z];exact BR _)
 refine I.step (g':=s.gens) (d':=s.drawn) (ch:=[e,it]) (λb S=>?_) (λb o _ _ N q _=>k b o (λz=>N (by simp[z])) (λz=>N (by simp[z])) q) (λb o _ _ N q _=>⟨o.slots,k b o (λz=>N (by simp[z])) (λz=>N (by simp[z])) q⟩)
  (λb o _ q m=>by rw[zM (U b o q)];exact m) (λb o N q=>⟨o,k b o (λz=>N (by simp[z])) (λz=>N (by simp[z])) q⟩) (λb xs q=>by rw[zM (R b _ q)];exact q) (λb o u q=>by rw[zM (R b _ q)];exact q)
  (λb ps q=>⟨#[],by rw[zM (R b _ q),q];simp⟩) (λm hm=>?_) (λb u q=>?_) I.C
 . rcases Al.mp S with z|S
   . subst z;exact⟨e3,e1,e4,e5⟩
   . have z:=Av.mp S
     subst z;exact⟨i3,i1,i4,i5⟩
 . obtain⟨o,es,ep,Z,r⟩:=hm
   exact⟨o,es,ep,k _ o (BJ e1) (BJ i1) Z,r⟩
 . by_cases S:b=T
   . subst S
     rw[zY]at q;cases q;exact⟨hz,its,r,_,Z,rfl,n,rfl,rfl⟩
   . rw[zM S]at q
     refine(I.j b u q).kg (λc v N w=>k c v ?_ ?_ w) (λc N=>by rw[zM (R c _ N)];exact N) λc xs N=>by rw[zM (R c _ N)];exact N
     . rcases N with z|z
       . rw[z];exact Y b u q
       . exact Y c _ z
     . rcases N with z|z
       . rw[z];exact W b u q
       . exact W c _ z
def Inv.ic(I:Inv X pins σ H s)(W:wB X pins H it)(k:∀b o,b≠it->s.heap.get? b=some o->h'.get? b=some o):Inv X pins σ H {s with heap:=h',toks:=t'}:=by obtain⟨U,i1,i2,S,R,N⟩:=W;exact I.turned k U i1 S R N
def fS{K}a e it(Y:e≠it):Turn P w K (.Tuple elts x1 pos) (Ite K a) [e,it] e (λi h=>(∃N,IsEnum h e it (i:Nat) N)/\h.IsTupleIter it a i) where
 g:=by simp
 c:=λi h st b S=>by
  rcases Al.mp S with z|S
  . subst z
    obtain⟨N,he⟩:=st.1;exact⟨_,he,λv z=>by cases (show HN _=Data.cell v from z)⟩
  . have z:=Av.mp S
    subst z;obtain⟨o,q,c,d⟩:=st.2;exact⟨o,q,λv z=>by rw[d]at z;cases z⟩
 a:=λi h h' st k=>⟨let ⟨N,he⟩:=st.1;⟨N,k e (by simp) _ he⟩,st.2.at λo q=>k it (by simp) o q⟩
 f:=by
  intro X W hw hK hc i pins s σ H E I hf st hg;subst W hw hK;obtain⟨xs,x,hq,hx⟩:=hg;obtain⟨⟨N,he⟩,R⟩:=st;obtain⟨its,rv,p,hz⟩:=I.tuple hq;obtain⟨u,hu,ru⟩:=rv.get hx;have hlen:=rv.length;have hi:i<xs.length:=(Ai.mp hx).1;have Z:a≠it:=λz=>by obtain⟨o1,U,c1,_⟩:=id p;obtain⟨o2,q2,c2,_⟩:=id R;rw[z,q2]at U;cases U;rw[c2]at c1;exact absurd (Ep c1) (by decide)
  have hae:a≠e:=λz=>by obtain⟨o1,U,c1,_⟩:=id p;have he':s.heap.get? e=_:=he;rw[z,he']at U;cases U;exact absurd (Ep c1) (by decide)
  have D:=qk (prog:=X.f) (w:=X.w) (A:=X.A.in1) (I.y.d hc) it a Z its.toArray;refine Hw D he ⟨R,p⟩ (by rw[Ae];omega) Y (λm=>?_) λv h1 tk W ho hs1 hT hsz hk=>?_
  . rcases Al.mp m with z|m
    . exact Y z
    . exact hae (Av.mp m).symm
  . have W:its.toArray[i]?=some v:=W
    have ev:v=u:=by rw[CJ,hu]at W;exact(AH W).symm
    subst ev;refine⟨_,rfl,GH (s:={s with heap:=h1,toks:=tk+1}) ho λh2 he2 sb=>?_⟩
    have sz:s.heap.objs.size≠e:=Dk (Am he);refine⟨.c s.heap.objs.size,_,Inv.ie (s:=s) (h':=h2) (t':=tk+1) (T:=s.heap.objs.size) (ys:=[.d (i:Nat),x]) (its:=[.int (i:Nat) tk,v]) (n:=0) I (hf e (by simp)) (hf it (by simp)) (λb o h1' h2' q=>(sb.2 b h1').trans (hk b o h1' h2' q)) (Ab _) (by rw[Bk];show 2<=_;decide) (.cons ⟨tk,rfl⟩ (.cons ru .nil)) ((sb.2 _ sz).trans hT),rfl,
     ⟨s.heap.objs.size,x,I.j.fresh (Ab _),rfl,λys hy=>by rw[I.pL hy hq];exact hx,rfl⟩,⟨⟨v,by simpa using he2⟩,hs1.1.at λo q=>(sb.2 it (BJ Y)).trans q⟩,λb S=>?_⟩
    rw[zM (λz=>?_)]
    . exact(hf b S).1
    . have hlt:b<s.heap.objs.size:=by
       rcases Al.mp S with y|S
       . rw[y];exact Am he
       . rw[Av.mp S];obtain⟨o,q,_⟩:=R;exact Am q
      exact absurd z (AD hlt)
 e:=by
  intro X W hw hK hc i pins s σ H E I hf st hg;subst W hw hK;obtain⟨xs,hq,hx⟩:=hg;obtain⟨⟨N,he⟩,R⟩:=st;obtain⟨its,rv,p,hz⟩:=I.tuple hq;have hlen:=rv.length;have Z:a≠it:=λz=>by obtain⟨o1,U,c1,_⟩:=id p;obtain⟨o2,q2,c2,_⟩:=id R;rw[z,q2]at U;cases U;rw[c2]at c1;exact absurd (Ep c1) (by decide)
  have D:=qk (prog:=X.f) (w:=X.w) (A:=X.A.in1) (I.y.d hc) it a Z its.toArray;have en:its.toArray.size=i:=by rw[Ae];omega
  exact wpAny_pyNext_enum_endD D he ⟨by rw[en];exact R,p⟩ λh' eb=>⟨rfl,I.ic (t':=s.toks) (hf it (by simp)) λb o S q=>eb b o S q⟩
 d:=λ_ _ _ _ _ st h=>let ⟨N,he⟩:=st.1;Fg he h
noncomputable def Xg(K:AG)(a:Addr):It:=
 ⟨λi H=>∃xs x,SqL K H a xs/\xs[i]?=some x,λi H x H'=>∃t y,H t=none/\x=.c t/\(∀xs,SqL K H a xs->xs[i]?=some y)/\H'=upd H t (.c [.d (i:Nat),y]),λi H=>∃xs,SqL K H a xs/\xs.length=i⟩
def kx{K}a e it(Y:e≠it):Turn P w K (.Tuple elts x1 pos) (Xg K a) [e,it] e (λi h=>(∃N,IsEnum h e it (i:Nat) N)/\h.IsListIter it a i) where
 g:=by simp
 c:=λi h st b S=>by
  rcases Al.mp S with z|S
  . subst z
    obtain⟨N,he⟩:=st.1;exact⟨_,he,λv z=>by cases (show HN _=Data.cell v from z)⟩
  . have z:=Av.mp S
    subst z;obtain⟨o,q,c,d⟩:=st.2;exact⟨o,q,λv z=>by rw[d]at z;cases z⟩
 a:=λi h h' st k=>⟨let ⟨N,he⟩:=st.1;⟨N,k e (by simp) _ he⟩,st.2.at λo q=>k it (by simp) o q⟩
 f:=by
  intro X W hw hK hc i pins s σ H E I hf st hg;subst W hw hK;obtain⟨xs,x,hq,hx⟩:=hg;obtain⟨⟨N,he⟩,R⟩:=st;obtain⟨its,rv,p0,hz⟩:=I.list hq;have p:=p0.isList;obtain⟨u,hu,ru⟩:=rv.get hx;have hlen:=rv.length;have hi:i<xs.length:=(Ai.mp hx).1;have Z:a≠it:=λz=>by obtain⟨o1,U,c1,_⟩:=id p;obtain⟨o2,q2,c2,_⟩:=id R;rw[z,q2]at U;cases U;rw[c2]at c1;exact absurd (Ep c1) (by decide)
  have hae:a≠e:=λz=>by obtain⟨o1,U,c1,_⟩:=id p;have he':s.heap.get? e=_:=he;rw[z,he']at U;cases U;exact absurd (Ep c1) (by decide)
  have D:=Draws.list (prog:=X.f) (w:=X.w) (A:=X.A.in1) (I.y.d hc) it a Z its.toArray;refine Hw D he ⟨R,p⟩ (by rw[Ae];omega) Y (λm=>?_) λv h1 tk W ho hs1 hT hsz hk=>?_
  . rcases Al.mp m with z|m
    . exact Y z
    . exact hae (Av.mp m).symm
  . have W:its.toArray[i]?=some v:=W
    have ev:v=u:=by rw[CJ,hu]at W;exact(AH W).symm
    subst ev;refine⟨_,rfl,GH (s:={s with heap:=h1,toks:=tk+1}) ho λh2 he2 sb=>?_⟩
    have sz:s.heap.objs.size≠e:=Dk (Am he);refine⟨.c s.heap.objs.size,_,Inv.ie (s:=s) (h':=h2) (t':=tk+1) (T:=s.heap.objs.size) (ys:=[.d (i:Nat),x]) (its:=[.int (i:Nat) tk,v]) (n:=0) I (hf e (by simp)) (hf it (by simp)) (λb o h1' h2' q=>(sb.2 b h1').trans (hk b o h1' h2' q)) (Ab _) (by rw[Bk];show 2<=_;decide) (.cons ⟨tk,rfl⟩ (.cons ru .nil)) ((sb.2 _ sz).trans hT),rfl,
     ⟨s.heap.objs.size,x,I.j.fresh (Ab _),rfl,λys hy=>by rw[I.n5 hy hq];exact hx,rfl⟩,⟨⟨v,by simpa using he2⟩,hs1.1.at λo q=>(sb.2 it (BJ Y)).trans q⟩,λb S=>?_⟩
    rw[zM (λz=>?_)]
    . exact(hf b S).1
    . have hlt:b<s.heap.objs.size:=by
       rcases Al.mp S with y|S
       . rw[y];exact Am he
       . rw[Av.mp S];obtain⟨o,q,_⟩:=R;exact Am q
      exact absurd z (AD hlt)
 e:=by
  intro X W hw hK hc i pins s σ H E I hf st hg;subst W hw hK;obtain⟨xs,hq,hx⟩:=hg;obtain⟨⟨N,he⟩,R⟩:=st;obtain⟨its,rv,p0,hz⟩:=I.list hq;have p:=p0.isList;have hlen:=rv.length;have Z:a≠it:=λz=>by obtain⟨o1,U,c1,_⟩:=id p;obtain⟨o2,q2,c2,_⟩:=id R;rw[z,q2]at U;cases U;rw[c2]at c1;exact absurd (Ep c1) (by decide)
  have D:=Draws.list (prog:=X.f) (w:=X.w) (A:=X.A.in1) (I.y.d hc) it a Z its.toArray;have en:its.toArray.size=i:=by rw[Ae];omega
  exact wpAny_pyNext_enum_endD D he ⟨by rw[en];exact R,p⟩ λh' eb=>⟨rfl,I.ic (t':=s.toks) (hf it (by simp)) λb o S q=>eb b o S q⟩
 d:=λ_ _ _ _ _ st h=>let ⟨N,he⟩:=st.1;Fg he h
def Ux(K:AG)(ta:TA):TI:=λσ H R=>ta σ H λvs H1=>∃a,vs=[.c a]/\(((∃xs,SqT K H1 a xs)/\R (Ite K a) H1)\/((∃xs,SqL K H1 a xs)/\R (Xg K a) H1))
def Z7(hg:Gl X "enumerate")(hm:X.d "enumerate"=none)(ha:PA X [a] ta)(hs:A9 [a] X.a=[(false,eval a X.a)]:=by rfl):PI X (.Tuple elts x1 tpos) (.Call (.Name "enumerate" p) [a] [] pos) (Ux X.K ta):=by
 intro pins s σ H R I h;refine Call_ (vb I hg hm boot_enumerate (Ca (thn (ha pos pins s σ H _ I h) λus s1 Z=>?_) hs rfl));obtain⟨vs,H1,I1,r1,q1⟩:=Z;obtain⟨c,e,q⟩:=q1;subst e;cases r1 with
 |cons r rr=>
  cases rr;cases r;have fp:∀b∈[s1.heap.objs.size+1,s1.heap.objs.size],wB X pins H1 b:=λb Y=>by
   have S:s1.heap.objs.size<=b:=by
    rcases Al.mp Y with z|Y
    . rw[z];exact Dg _
    . rw[Av.mp Y];exact Ab _
   exact I1.az S (I1.j.fresh S)
  rcases q with⟨⟨xs,W⟩,q⟩|⟨⟨xs,W⟩,q⟩
  . obtain⟨its,rv,pt,hz⟩:=I1.tuple W
    refine qL (show s1.heap.IsTuple c its.toArray from pt) λh' he N U hk=>Fg he ?_;exact⟨s1.heap.objs.size+1,[s1.heap.objs.size+1,s1.heap.objs.size],_,_,H1,rfl,I1.kept (t':=s1.toks) hk,fS c _ _ (Nat.succ_ne_self _),⟨⟨_,he⟩,N⟩,fp,q⟩
  . obtain⟨its,rv,pt,hz⟩:=I1.list W
    refine call_enumerate_list pt.isList λh' he N U hk=>Fg he ?_;exact⟨s1.heap.objs.size+1,[s1.heap.objs.size+1,s1.heap.objs.size],_,_,H1,rfl,I1.kept (t':=s1.toks) hk,kx c _ _ (Nat.succ_ne_self _),⟨⟨_,he⟩,N⟩,fp,q⟩
structure Ap(z TI TO i1 i2:Addr)(fp1 fp2:List Addr):Prop where
 zI:z≠TI
 a:z≠TO
 z1:z≠i1
 z2:z≠i2
 IO:TI≠TO
 I1:TI≠i1
 I2:TI≠i2
 O1:TO≠i1
 O2:TO≠i2
 ii:i1≠i2
 b:z ∉ fp1
 zg:z ∉ fp2
 Of:TO ∉ fp1
 Og:TO ∉ fp2
 c:i2 ∉ fp1
 ig:i1 ∉ fp2
section
variable {prog:Program}{w:World}{A:Around}{E:Value->Shared->Prop}{s:Shared}
variable {z TI TO i1 i2:Addr}{fp1 fp2:List Addr}{n1 n2:Nat}{P1 P2:Nat->Value->Prop}{S1 S2:Nat->Heap->Prop}
def aQ{Q:Value->Shared->Prop}(D:Ap z TI TO i1 i2 fp1 fp2)(D1:Draws prog w A i1 fp1 n1 P1 S1)(D2:Draws prog w A i2 fp2 n2 P2 S2)
 (W:IsZip s.heap z TI TO .none) (hI:IsPair s.heap TI (.ref i1) (.ref i2)) (hO:IsPair s.heap TO a b) (s1:S1 k1 s.heap) (s2:S2 k2 s.heap) (l1:k1<n1) (l2:k2<n2)
 (hQ:∀x y h' tk,P1 k1 x->P2 k2 y->IsZip h' z TI TO (rawInt s.heap.objs.size)->IsPair h' TI (.ref i1) (.ref i2)->IsPair h' TO x y->S1 (k1+1) h'->S2 (k2+1) h'->IsPair h' s.heap.objs.size x y->(∀c o,c≠z->c≠TO->c≠i1->c≠i2->s.heap.get? c=some o->h'.get? c=some o) ->
  Q (.ref s.heap.objs.size) {s with heap:=h',toks:=tk}):wpAny (model prog w) A (Builtin.«zip.__next__» ⟨[.ref z],[]⟩) (λfin s'=>∃v,fin=.done (.ret v)/\Q v s') E s:=by
 show wpAny _ _ (field (.ref z) 2 >>= _) _ _ _;refine dm (BH W rfl (x:=.bool false) rfl ?_);show wpAny _ _ (field (.ref z) 3 >>= _) _ _ _;refine dm (BH W rfl (x:=.ref TI) rfl (dm (CI hI rfl ?_)));show wpAny _ _ (Ct (.ref z) >>= _) _ _ _;unfold Ct;refine dm (dm (BH W rfl (x:=.none) rfl (xd ?_)));simp only[if_true];refine dm (BE (dm (BH W rfl (x:=.ref TO) rfl (dm (D5 W (by simp) λha za ea=>?_)))))
 have za:IsZip ha z TI TO .ellipsis:=za;have ka:∀c o,c≠z->s.heap.get? c=some o->ha.get? c=some o:=λc o n e=>ea.extBut _ _ n e;have yI:∀{p q:Addr} {l:List Addr},p∈l->q ∉ l->p≠q:=λhp hq e=>hq (e▸hp);refine dm ?_;simp only[Hg,List.zipIdx_nil,EN,Fb];refine dm (dm (Iq ?_));show wpAny _ _ (B2 (.ref i1) >>= _) _ _ _;refine dm (D1.item k1 _ _ _ l1 (D1.frame k1 _ _ s1 λc X o e=>ka c o (yI X D.b) e) λx hb tb px sb eb=>xd ?_);have kb:∀c o,c≠i1->ha.get? c=some o->hb.get? c=some o:=λc o n e=>eb.extBut _ _ n e;have ob:IsPair hb TO a b:=kb _ _ D.O1 (ka _ _ D.a.symm hO);refine dm (CI ob rfl (dm (wpAny_updateSeq_pair ob λX oc ec=>?_)));have oc:IsPair X TO x b:=oc;have kc:∀c o,c≠TO->hb.get? c=some o->X.get? c=some o:=λc o n e=>ec.extBut _ _ n e;refine dm (wpAny_letGo (xd ?_));refine dm (dm (Iq ?_));show wpAny _ _ (B2 (.ref i2) >>= _) _ _ _;refine dm (D2.item k2 _ _ _ l2 (D2.frame k2 _ _ s2 λc N o e=>kc c o (yI N D.Og) (kb c o (yI N D.ig) (ka c o (yI N D.zg) e))) λy hd td py sd ed=>xd ?_);have kd:∀c o,c≠i2->X.get? c=some o->hd.get? c=some o:=λc o n e=>ed.extBut _ _ n e;have od:IsPair hd TO x b:=kd _ _ D.O2 oc;refine dm (CI od rfl (dm (wpAny_updateSeq_pair od λhe Z ee=>?_)));have Z:IsPair he TO x y:=Z;have ke:∀c o,c≠TO->hd.get? c=some o->he.get? c=some o:=λc o n e=>ee.extBut _ _ n e;refine dm (wpAny_letGo (xd (xd (dm (CI Z rfl (dm (HY ?_)))))));have sz:he.objs.size=s.heap.objs.size:=by rw[ee.1,ed.1,ec.1,eb.1,ea.1]
 have ze:IsZip he z TI TO .ellipsis:=ke _ _ D.a (kd _ _ D.z2 (kc _ _ D.a (kb _ _ D.z1 za)));have U:∀c o,c≠z->c≠TO->c≠i1->c≠i2->s.heap.get? c=some o->he.get? c=some o:=λc o n1 n2 n3 n4 e=>ke c o n2 (kd c o n4 (kc c o n2 (kb c o n3 (ka c o n1 e))));show wpAny _ _ (E5 (.ref z) (.ref he.objs.size) >>= _) _ _ _;unfold E5;have zf:IsZip (he.push {cls:=.type "tuple",data:=.seq #[x,y]}) z TI TO .ellipsis:=zO _ ze;refine dm (dm (D5 zf (by simp) λhg zg eg=>?_))
 have zg:IsZip hg z TI TO (rawInt he.objs.size):=zg;refine D5 zg (by simp) λR Y eh=>?_
 have Y:IsZip R z TI TO (rawInt he.objs.size):=Y;have up:∀c o,c≠z->he.get? c=some o->R.get? c=some o:=λc o n e=>eh.extBut _ _ n (eg.extBut _ _ n (zO _ e));have S:z<he.objs.size:=Am ze;have th:IsPair R he.objs.size x y:=eh.extBut _ _ (Dk S) (eg.extBut _ _ (Dk S) (Az _ rfl));have s1h:S1 (k1+1) R:=D1.frame _ _ _ sb λc N o e=>up c o (yI N D.b) (ke c o (yI N D.Of) (kd c o (yI N D.c) (kc c o (yI N D.Of) e)));have s2h:S2 (k2+1) R:=D2.frame _ _ _ sd λc N o e=>up c o (yI N D.zg) (ke c o (yI N D.Og) e);rw[sz]at Y th;refine xd ⟨_,rfl,?_⟩;show Q (.ref he.objs.size) _;rw[sz];exact hQ x y R _ px py Y (up _ _ D.zI.symm (U _ _ D.zI.symm D.IO D.I1 D.I2 hI)) (up _ _ D.a.symm Z) s1h s2h th λc o n1 n2 n3 n4 e=>up c o n1 (U c o n1 n2 n3 n4 e)
def Yl{a b:Value}{Q:Fin->Shared->Prop}(D:Ap z TI TO i1 i2 fp1 fp2)(D1:Draws prog w A i1 fp1 n1 P1 S1)
 (N:IsZip s.heap z TI TO .none) (hI:IsPair s.heap TI (.ref i1) (.ref i2)) (hO:IsPair s.heap TO a b) (s1:S1 n1 s.heap)
 (hE:∀h' e,(∀c o,c≠z->c≠TO->c≠i1->c≠i2->s.heap.get? c=some o->h'.get? c=some o)->(∃o,h'.get? e=some o/\o.cls=.type "StopIteration")->E (.ref e) {s with heap:=h'}):wpAny (model prog w) A (Builtin.«zip.__next__» ⟨[.ref z],[]⟩) Q E s:=by
 show wpAny _ _ (field (.ref z) 2 >>= _) _ _ _;refine dm (BH N rfl (x:=.bool false) rfl ?_);show wpAny _ _ (field (.ref z) 3 >>= _) _ _ _;refine dm (BH N rfl (x:=.ref TI) rfl (dm (CI hI rfl ?_)));show wpAny _ _ (Ct (.ref z) >>= _) _ _ _;unfold Ct;refine dm (dm (BH N rfl (x:=.none) rfl (xd ?_)));simp only[if_true];refine dm (BE (dm (BH N rfl (x:=.ref TO) rfl (dm (D5 N (by simp) λY R ea=>?_)))))
 have R:IsZip Y z TI TO .ellipsis:=R;have X:∀c o,c≠z->s.heap.get? c=some o->Y.get? c=some o:=λc o n e=>ea.extBut _ _ n e;refine dm ?_;simp only[Hg,List.zipIdx_nil,EN,Fb];refine dm (dm (Iq ?_));show wpAny _ _ (B2 (.ref i1) >>= _) _ _ _;refine dm (D1.done _ _ _ (D1.frame n1 _ _ s1 λc S o e=>X c o (λq=>D.b (q▸S)) e) λhb e eb he=>?_);obtain⟨oe,U,Z⟩:=he;have W:IsZip hb z TI TO .ellipsis:=eb _ _ D.z1 R;have ez:e≠z:=λq=>by rw[q,W]at U;cases U;simp at Z
 exact D5 W (by simp) λS _ ec=>hE S e (λc o c1 _ c3 _ q=>ec.extBut _ _ c1 (eb _ _ c3 (X _ _ c1 q))) ⟨oe,ec.extBut _ _ ez U,Z⟩
def next_item(D:Ap z TI TO i1 i2 fp1 fp2)(D1:Draws prog w A.in1 i1 fp1 n1 P1 S1)(D2:Draws prog w A.in1 i2 fp2 n2 P2 S2)
 (N:IsZip s.heap z TI TO .none) (hI:IsPair s.heap TI (.ref i1) (.ref i2)) (hO:IsPair s.heap TO a b) (s1:S1 k1 s.heap) (s2:S2 k2 s.heap) (l1:k1<n1) (l2:k2<n2)
 (hQ:∀x y h' tk,P1 k1 x->P2 k2 y->IsZip h' z TI TO (rawInt s.heap.objs.size)->IsPair h' TI (.ref i1) (.ref i2)->IsPair h' TO x y->S1 (k1+1) h'->S2 (k2+1) h'->IsPair h' s.heap.objs.size x y->(∀c o,c≠z->c≠TO->c≠i1->c≠i2->s.heap.get? c=some o->h'.get? c=some o) ->
  Q (some (.ref s.heap.objs.size)) {s with heap:=h',toks:=tk}):wpAny (model prog w) A (pyNext (.ref z)) Q E s:=by
 have R:s.TypeIs (.ref z) "zip":=⟨_,N,rfl⟩;unfold pyNext;exact dm (Fv (BC (name:=CO "__next__") R FZ (BA FZ R F.entry_zip_next
  (aQ D D1 D2 N hI hO s1 s2 l1 l2 λx y h' tk q1 q2 q3 Z Y X W U S=>xd (hQ x y h' tk q1 q2 q3 Z Y X W U S)) (F.args_zip_next_1 _))))
def next_end{a b:Value}{Q:Option Value->Shared->Prop}(D:Ap z TI TO i1 i2 fp1 fp2)(Z:Draws prog w A.in1 i1 fp1 n1 P1 S1)
 (N:IsZip s.heap z TI TO .none) (Y:IsPair s.heap TI (.ref i1) (.ref i2)) (X:IsPair s.heap TO a b) (s1:S1 n1 s.heap)
 (W:∀h',(∀c o,c≠z->c≠TO->c≠i1->c≠i2->s.heap.get? c=some o->h'.get? c=some o)->Q none {s with heap:=h'}):wpAny (model prog w) A (pyNext (.ref z)) Q E s:=by
 have R:s.TypeIs (.ref z) "zip":=⟨_,N,rfl⟩;unfold pyNext;refine dm (Fv (BC (name:=CO "__next__") R FZ (BA FZ R F.entry_zip_next
  (Yl D Z N Y X s1 λh' e hk he=>?_) (F.args_zip_next_1 _))))
 obtain⟨o,S,U⟩:=he;exact dm (Hl (T:="StopIteration") (b:=true) ⟨o,S,U⟩ isSubtype_stop (xd (W _ hk)))
end
def jP(R:a<n)(N:b<n):Ap (n+4) (n+2) (n+3) n (n+1) [n,a] [n+1,b]:=by
 have f:∀{c x y:Nat},c≠x->c≠y->¬(c∈([x,y]:List Nat)):=λh k m=>by
  rcases Al.mp m with e|m
  . exact h e
  . exact k (Av.mp m)
 exact⟨show n+4≠n+2 by omega,show n+4≠n+3 by omega,show n+4≠n by omega,show n+4≠n+1 by omega,show n+2≠n+3 by omega,show n+2≠n by omega,show n+2≠n+1 by omega,show n+3≠n by omega,show n+3≠n+1 by omega,show n≠n+1 by omega,
  f ⋯ ⋯,f ⋯ ⋯,f ⋯ ⋯,f ⋯ ⋯,f ⋯ ⋯,f ⋯ ⋯⟩
end L2
end
section
namespace L2
open PySem PyProof.Rows
noncomputable def intsOf:List Expr->Option (List Int)
 |[]=>some []
 |.Constant (.int i) _ _::es=>(intsOf es).map λr=>i::r
 |.UnaryOp .USub (.Constant (.int i) _ _) _::es=>(intsOf es).map λr=>-i::r
 |_=>none
section
variable {X:Cx}{a b:Expr}{rest:List Expr}{ta tb:TE}{pos:Pos}
def Rx(K:AG)(ta tb:TE):TE:=λσ H Q=>ta σ H λx H1=>∃c,aT K x H1 c/\if c=true then Q x H1 else tb σ H1 Q
def Ve(Z:PE X a ta)(Y:PE X (.BoolOp .Or (b::rest) pos) tb):PE X (.BoolOp .Or (a::b::rest) pos) (Rx X.K ta tb):=by
 intro pins s σ H Q I h;refine BoolOp_or (thn (Z pins s σ H _ I h) λv s1 N=>?_);obtain⟨x,H1,I1,R,c,W,U⟩:=N;refine thn (aH pins s1 σ H1 x v (λk H2=>if k=true then Q x H2 else tb σ H2 Q) I1 R ⟨c,W,U⟩) λk s2 N=>?_
 obtain⟨H2,I2,S⟩:=N;cases k with
 |false=>exact Y pins s2 σ H2 Q I2 S
 |true=>exact⟨x,H2,I2,R,S⟩
end
noncomputable def vW(n:Nat)(lo hi:Option Int)(c:Int):Int × Nat:=((BP lo hi (some c) n).1,(if c > 0 then (if (BP lo hi (some c) n).1<(BP lo hi (some c) n).2.1 then ((BP lo hi (some c) n).2.1-(BP lo hi (some c) n).1+c-1)/c else 0) else (if (BP lo hi (some c) n).1 > (BP lo hi (some c) n).2.1 then ((BP lo hi (some c) n).1-(BP lo hi (some c) n).2.1-c-1)/(-c) else 0):Int).toNat)
def vh its lo hi c:Iy its.toArray lo hi (some c)=(zp its (vW its.length lo hi c).1 c (vW its.length lo hi c).2).toArray:=by unfold Iy sliceRange zp vW;rw[CH];refine congrArg List.toArray ?_;have e:(BP lo hi (some c) its.toArray.size).2.2=c:=rfl;rw[e];simp only[Ae];refine congrArg (λf=>List.filterMap f _) ?_;funext k;show its.toArray[_]?=_;rw[CJ,Int.mul_comm]
def Sa(K:AG):V->Option Int->Option Int->Option Int->Hp->VK->Prop:=λx lo hi st H Q=>∃a xs c,x=.c a/\SqL K H a xs/\st=some c/\c≠0/\∀p,H p=none->Q (.c p) (upd H p (.b (zp xs (vW xs.length lo hi c).1 c (vW xs.length lo hi c).2)))
def kK{lo hi}{st}(he:PE X e te)(hl:PO X lo tl)(hu:PO X hi th)(hc:PO X (some st) tc):PE X (.Subscript e (.Slice lo hi (some st) p2) pos) (S0 (Sa X.K) te tl th tc):=by
 intro pins s σ H Q I h;refine Ib (thn (he pins s σ H _ I h) λv s1 W=>?_);obtain⟨x,H1,I1,r1,q1⟩:=W;refine wpAny_Slice (thn (hl pins s1 σ H1 _ I1 q1) λvl s2 ⟨l,H2,I2,pl,q2⟩=>thn (hu pins s2 σ H2 _ I2 q2) λZ s3 ⟨u,H3,I3,pu,q3⟩=>thn (hc pins s3 σ H3 _ I3 q3) λvc R W=>?_);obtain⟨c,H4,I4,pc,q4⟩:=W;obtain⟨a,xs,N,rfl,hx,ec,h0,g⟩:=q4;subst ec;cases r1;have Y:Inv X pins σ H4 {R with heap:=R.heap.push {cls:=.type "slice",data:=.fields #[vl,Z,vc]}}:=I4.kept (t':=R.toks) λb ob q=>zO _ q
 obtain⟨its,r,ht,hz⟩:=Y.list hx;have S:=r.length;show wpAny (model X.f X.w) X.A (GB e (.Slice lo hi (some st) p2) (.ref a) (.ref R.heap.objs.size)) (EP X pins σ Q) X.h {R with heap:=R.heap.push {cls:=.type "slice",data:=.fields #[vl,Z,vc]}}
 refine tail_any (ops:=[.ref a,.ref R.heap.objs.size]) ht.isList.typeIs GQ.lookup (G9 ht.isList (Gq ..) pl pu pc (λz=>h0 (AH z)) ?_ (by rw[Ae]<;>omega)) (by with_unfolding_all rfl)
 rw[vh,<-S];refine⟨.c _,_,Y.laid (t':=R.toks) (o:=.b (zp xs (vW xs.length l u N).1 N (vW xs.length l u N).2)) (λb ob q=>zO _ q) (Ab _) ?_,rfl,g _ (Y.j.fresh (Ab _))⟩;have rp:=r.zp (vW xs.length l u N).1 N (vW xs.length l u N).2;have U:(zp xs (vW xs.length l u N).1 N (vW xs.length l u N).2).length<=xs.length:=by have:=slicePick_size_le its.toArray l u (some N);rw[vh,Ae,Ae,<-S,<-rp.length]at this;exact this
 exact⟨Ao U hz,_,0,rp,Az _ rfl⟩
end L2
end
section
namespace L2
open PySem PyProof PyProof.Rows
section
variable {X:Cx}
noncomputable def TL(z:Str)(ys:List Str):Str:=Txt.join z ys
end
end L2
end
section
namespace L2
open PySem PySem.Spec PyProof PyProof.Rows
section
variable {X:Cx}
noncomputable def So(ns:List Int):Bool:=decide (ns.length<=1000)&&ns.all λn=>decide (-1000000<=n)&&decide (n<=1000000)
end
end L2
end
section
namespace L2
open PySem PySem.W PySem.Calls PyProof PyProof.Rows
open AutoSeq1 (wpAny_loadPart')
open SeqAt
section
variable {X:Cx}
def bQ(K:AG)(g:List Int->Int):List V->Hp->VK->Prop:=λxs H Q=>∃(a:Addr) (ns:List Int),xs=[.c a]/\SqT K H a (ns.map V.d)/\ns≠[]/\Q (.d (g ns)) H
def iy(hc:X.g=true):yL X (.builtin "max") (bQ X.K (vP 0)):=by
 intro pins s σ H xs us Q I r h;obtain⟨a,ns,rfl,ha,Y,q⟩:=h;obtain⟨u,rfl,ru⟩:=vals1 r;cases ru;obtain⟨its,rv,W,hz⟩:=I.tuple ha;have R:=rv.length;have U:a<s.heap.objs.size:=by obtain⟨o,N,_⟩:=id W;exact Am N
 have hl:its.toArray.size=ns.length:=by rw[Ae,<-R,Aa]
 have hpos:0<ns.length:=EI.mpr Y;have S:∀(i:Nat) (v:Value),its.toArray[i]?=some v->∃t,v=.int (ns.getD i 0) t:=λi v hv=>rv.ints (by simpa using hv)
 refine call_max_walk (Dl W ?_);refine⟨s.heap.objs.size,_,_,_,_,_,_,rfl,Walks.tuple (A:=X.A.in1) (I.y.d hc) s.heap.objs.size a (AD U) its.toArray,⟨⟨_,Az _ rfl,rfl,rfl⟩,?_⟩,λb hb=>?_,⋯,CmpOf.ints_gt (λi=>ns.getD i 0) S,λv h' tk hP hk=>?_⟩
 . obtain⟨o,N,Z,n,hd⟩:=id W
   exact⟨o,zO _ N,Z,n,hd⟩
 . rw[BK]
   simp only[Al,Bt,or_false]at hb;rcases hb with e|e
   . rw[e];exact CF _
   . rw[e];exact Cg U
 . obtain⟨t,rfl⟩:=S _ _ hP
   obtain⟨b1,b2⟩:=argBest_gt (λi=>ns.getD i 0) (its.toArray.size-1);have e:vP 0 ns=ns.getD (argBest (λi j=>decide (ns.getD i 0 > ns.getD j 0)) (its.toArray.size-1)) 0:=by
    refine n9 ?_ λx hx=>?_
    . have:argBest (λi j=>decide (ns.getD i 0 > ns.getD j 0)) (its.toArray.size-1)<ns.length:=by omega
      rw[Ad,pn this];exact B0 this
    . obtain⟨i,hi,rfl⟩:=Bz hx
      have:=b2 i ⋯
      simpa [Ad,pn hi] using this
   refine⟨.d (vP 0 ns),H,I.kept λb o N=>hk b o ?_ (zO _ N),⟨t,by rw[e]⟩,q⟩
   simpa using AD (Am N)
def lJ(hc:X.g=true):yL X (.builtin "min") (bQ X.K (vf 0)):=by
 intro pins s σ H xs us Q I r h;obtain⟨a,ns,rfl,ha,Y,q⟩:=h;obtain⟨u,rfl,ru⟩:=vals1 r;cases ru;obtain⟨its,rv,W,hz⟩:=I.tuple ha;have R:=rv.length;have U:a<s.heap.objs.size:=by obtain⟨o,N,_⟩:=id W;exact Am N
 have hl:its.toArray.size=ns.length:=by rw[Ae,<-R,Aa]
 have hpos:0<ns.length:=EI.mpr Y;have S:∀(i:Nat) (v:Value),its.toArray[i]?=some v->∃t,v=.int (ns.getD i 0) t:=λi v hv=>rv.ints (by simpa using hv)
 refine call_min_walk (Dl W ?_);refine⟨s.heap.objs.size,_,_,_,_,_,_,rfl,Walks.tuple (A:=X.A.in1) (I.y.d hc) s.heap.objs.size a (AD U) its.toArray,⟨⟨_,Az _ rfl,rfl,rfl⟩,?_⟩,λb hb=>?_,⋯,CmpOf.ints_lt (λi=>ns.getD i 0) S,λv h' tk hP hk=>?_⟩
 . obtain⟨o,N,Z,n,hd⟩:=id W
   exact⟨o,zO _ N,Z,n,hd⟩
 . rw[BK]
   simp only[Al,Bt,or_false]at hb;rcases hb with e|e
   . rw[e];exact CF _
   . rw[e];exact Cg U
 . obtain⟨t,rfl⟩:=S _ _ hP
   obtain⟨b1,b2⟩:=argBest_lt (λi=>ns.getD i 0) (its.toArray.size-1);have e:vf 0 ns=ns.getD (argBest (λi j=>decide (ns.getD i 0<ns.getD j 0)) (its.toArray.size-1)) 0:=by
    refine mF ?_ λx hx=>?_
    . have:argBest (λi j=>decide (ns.getD i 0<ns.getD j 0)) (its.toArray.size-1)<ns.length:=by omega
      rw[Ad,pn this];exact B0 this
    . obtain⟨i,hi,rfl⟩:=Bz hx
      have:=b2 i ⋯
      simpa [Ad,pn hi] using this
   refine⟨.d (vf 0 ns),H,I.kept λb o N=>hk b o ?_ (zO _ N),⟨t,by rw[e]⟩,q⟩
   simpa using AD (Am N)
end
end L2
end
section
namespace L2
open PySem PySem.W PySem.Calls PyProof PyProof.Rows
open AutoSeq1 (wpAny_loadPart')
open SeqAt
noncomputable def TR:List Int->List Int->Bool
 |[],[]=>false
 |[],_::_=>true
 |_::_,[]=>false
 |x::xs,y::ys=>if x=y then TR xs ys else decide (x<y)
end L2
namespace L2
open PySem PySem.W PySem.Calls PyProof PyProof.Rows
def Tb:List (List Int)->List Int
 |[]=>[]
 |z::t=>t.foldl (λm y=>if TR y m then y else m) z
end L2
end
section
namespace L2
open PySem PySem.W PySem.Calls PyProof PyProof.Rows
noncomputable def dN(ns:List Int):Nat:=(firstMet (λi=>ns.getD i 0) ns.length).length
end L2
end
section
namespace M.St
open PySem PySem.SetTable
def pQ(xs:Array Nat):Prop:=∀i j,i<j->j<xs.size->xs.getD i 0<xs.getD j 0
theorem rA(h:pQ xs):∀N lo hi,hi-lo<=N->lo<=hi->hi<=xs.size->(∀i<lo,xs.getD i 0<j)->(∀i,hi<=i->i<xs.size->j<=xs.getD i 0) ->
 below.go xs j N lo hi<=xs.size/\(∀i<below.go xs j N lo hi,xs.getD i 0<j)/\∀i,below.go xs j N lo hi<=i->i<xs.size->j<=xs.getD i 0
 |0,lo,hi,hf,hl,hs,h1,h2=>by
  obtain rfl:lo=hi:=by omega
  exact⟨hs,h1,h2⟩
 |N+1,lo,hi,hf,hl,hs,h1,h2=>by
  unfold below.go;by_cases hlt:lo<hi
  . rw[if_pos hlt]
    simp only[];rw[show xs.getD ((lo+hi)/2) j=xs.getD ((lo+hi)/2) 0 by unfold Ig;rw[dif_pos ⋯,dif_pos ⋯]]
    by_cases hm:xs.getD ((lo+hi)/2) 0<j
    . rw[if_pos hm]
      refine rA h N _ _ ⋯ ⋯ hs (λi S=>?_) h2
      rcases Dn i ((lo+hi)/2) with q|q
      . exact FU (h i _ q ⋯) hm
      . rwa [show i=(lo+hi)/2 by omega]
    . rw[if_neg hm]
      refine rA h N _ _ ⋯ ⋯ ⋯ h1 λi U R=>?_
      rcases Dn ((lo+hi)/2) i with q|q
      . have:=h _ i q R
        omega
      . rw[show i=(lo+hi)/2 by omega];omega
  . rw[if_neg hlt]
    obtain rfl:lo=hi:=by omega
    exact⟨hs,h1,h2⟩
def uA(h:pQ xs)j:below xs j<=xs.size/\(∀i<below xs j,xs.getD i 0<j)/\∀i,below xs j<=i->i<xs.size->j<=xs.getD i 0:=
 rA h xs.size 0 xs.size ⋯ (AS _) (Ab _) (λi hi=>⋯) (λi R N=>⋯)
def below_at(h:pQ xs)(e:xs[i]?=some j):below xs j=i:=by
 obtain⟨W,R,N⟩:=uA h j;obtain⟨hi,U⟩:=AV.mp e;have S:xs.getD i 0=j:=by rw[AL,e];rfl
 rcases Ef (below xs j) i with q|q|q
 . have z:=N _ (Ab _) ⋯
   have:=h _ _ q hi;omega
 . exact q
 . have:=R i q
   omega
def wx{t:BQ}(h:pQ t.place)(e:t.place[i]?=some j):t.slot j=.live i:=by unfold slot;simp only[below_at h e,e,beq_self_eq_true,if_true]
def qA{t:BQ}(e:t.slot j=.live i):t.place[i]?=some j:=by
 unfold slot at e;simp only[]at e;split at e
 . rename_i q
   injection e with e
   subst e;exact beq_iff_eq.mp q
 . split at e<;>cases e
noncomputable def adv(mask:Nat)(p:Probe):Probe:=advance ⟨mask,#[],#[],0,true,0,true⟩ p
noncomputable def xQ(mask:Nat)(h:Int):Probe:=probeStart ⟨mask,#[],#[],0,true,0,true⟩ h
noncomputable def it(m i:Nat):Nat:=(i*5+1)%(m+1)
def itn(m:Nat):Nat->Nat->Nat
 |0,i=>i
 |n+1,i=>itn m n (it m i)
theorem ur:∀a b i,itn m (a+b) i=itn m b (itn m a i)
 |0,b,i=>by rw[Cd];rfl
 |a+1,b,i=>by rw[Nat.succ_add];exact ur a b (it m i)
def orb(m:Nat):Nat->Nat->List Nat
 |0,_=>[]
 |f+1,i=>i::orb m f (it m i)
theorem iF:∀{f i},b∈orb m f i->∃n,n<f/\itn m n i=b
 |f+1,i,h=>by
  rcases Al.mp h with rfl|h
  . exact⟨0,En _,rfl⟩
  . obtain⟨n,R,N⟩:=iF h
    exact⟨n+1,⋯,N⟩
def wM(m:Nat):Bool:=(Ah (m+1)).all (λb=>(orb m (m+1) 0).contains b)&&itn m (m+1) 0 == 0
def nc(h:wM m=true)(S:a<=m)(R:b<=m):∃n,n<=m/\itn m n a=b:=by
 unfold wM at h;rw[ub,A5]at h;obtain⟨U,N⟩:=h;have N:=beq_iff_eq.mp N;have g:∀b,b<=m->∃n,n<m+1/\itn m n 0=b:=λb R=>iF (List.contains_iff_mem.mp (U b (Ar.mpr ⋯)))
 obtain⟨x,X,rfl⟩:=g a S;obtain⟨y,W,rfl⟩:=g b R;rcases Dn y x with q|q
 . refine⟨m+1-x+y,⋯,?_⟩
   rw[<-ur,show x+(m+1-x+y)=(m+1)+y by omega,ur,N]
 . refine⟨y-x,⋯,?_⟩
   rw[<-ur,show x+(y-x)=y by omega]
def Y5:wM 7=true:=by decide +kernel
def WB:wM 31=true:=by decide +kernel
def ZA:wM 127=true:=by decide +kernel
def ZC:wM 511=true:=by decide +kernel
noncomputable def lp(m:Nat)(x:Nat × Nat):Nat × Nat:=leap m x.1 x.2
def lpn(m:Nat):Nat->Nat × Nat->Nat × Nat
 |0,x=>x
 |n+1,x=>lp m (lpn m n x)
theorem oI:∀n,(lpn m n x).2=x.2/32 ^ n
 |0=>(Nat.div_one _).symm
 |n+1=>by show (lpn m n x).2/32=_;rw[oI n,Nat.div_div_eq_div_mul,<-Nat.pow_succ]
theorem oH(h0:(lpn m n0 x).2=0):∀n,lpn m (n0+n) x=(itn m n (lpn m n0 x).1,0)
 |0=>by rw[E2];exact G7 rfl h0
 |n+1=>by
  have e:itn m (n+1) (lpn m n0 x).1=it m (itn m n (lpn m n0 x).1):=by rw[ur];rfl
  show lp m (lpn m (n0+n) x)=_;rw[oH h0 n,e];simp[lp,leap,it]
def jR h:bits h<2 ^ 64:=by unfold bits;omega
def lj(hx:x.1<=m):∀n,(lpn m n x).1<=m
 |0=>hx
 |n+1=>Fh (F0 _ (En m))
noncomputable def atP(m:Nat)(x:Nat × Nat):Probe:={j:=x.1,more:=runEnd m x.1-x.1,i:=x.1,perturb:=x.2,dummy:=none}
def wV(m:Nat):Nat->Probe->Probe
 |0,p=>p
 |n+1,p=>wV m n (adv m p)
theorem wZ:∀a b p,wV m (a+b) p=wV m b (wV m a p)
 |0,b,p=>by rw[Cd];rfl
 |a+1,b,p=>by rw[Nat.succ_add];exact wZ a b (adv m p)
theorem om:∀k p,p.more=k->p.dummy=none->wV m (k+1) p=atP m (lp m (p.i,p.perturb))
 |0,p,h,hd=>by
  show adv m p=_;unfold adv advance;rw[if_neg ⋯]
  obtain⟨j,R,i,N,S⟩:=p;subst hd;rfl
 |k+1,p,h,hd=>by
  have e:adv m p={p with j:=p.j+1,more:=p.more-1}:=by unfold adv advance;rw[if_pos ⋯]
  show wV m (k+1) (adv m p)=_;rw[om k (adv m p) (by rw[e];show p.more-1=k;omega) (by rw[e];exact hd),e]
def Vr:runEnd m i-i<=9:=by unfold runEnd;split<;>omega
theorem jQ:∀n,∃k,k<=10*n/\wV m k (atP m x)=atP m (lpn m n x)
 |0=>⟨0,Ab _,rfl⟩
 |n+1=>by
  obtain⟨k,R,N⟩:=jQ (m:=m) (x:=x) n;have r:=Vr (m:=m) (i:=(lpn m n x).1);refine⟨k+(runEnd m (lpn m n x).1-(lpn m n x).1+1),⋯,?_⟩
  rw[wZ,N];exact om _ (atP m (lpn m n x)) rfl rfl
def d7(U:wM m=true)h(S:j<=m):∃k,k<10*turns m/\(wV m k (xQ m h)).j=j:=by
 have N:(lpn m 13 (bits h%(m+1),bits h)).2=0:=by rw[oI];exact Nat.div_eq_of_lt (AJ (jR h) (by decide))
 obtain⟨n,n1,n2⟩:=nc U (lj (x:=(bits h%(m+1),bits h)) (Fh (F0 _ (En m))) 13) S;obtain⟨k,W,R⟩:=jQ (m:=m) (x:=(bits h%(m+1),bits h)) (13+n);refine⟨k,by unfold turns;omega,?_⟩
 rw[show xQ m h=atP m (bits h%(m+1),bits h) from rfl,R,oH N,n2];rfl
abbrev lk(t:BQ)(h:Int)(k:Nat):Probe:=wV t.mask k (xQ t.mask h)
def iq:(adv m p).dummy=p.dummy:=by unfold adv advance;split<;>rfl
theorem su:∀k p,(wV m k p).dummy=p.dummy
 |0,_=>rfl
 |k+1,p=>(su k (adv m p)).trans iq
def dy:(lk t h k).dummy=none:=(su k _).trans rfl
def j8:t.advance (lk t h k)=lk t h (k+1):=by show adv t.mask (wV t.mask k (xQ t.mask h))=_;rw[show lk t h (k+1)=wV t.mask (k+1) (xQ t.mask h) from rfl,wZ];rfl
theorem ng(hd:∀j,t.slot j≠.dummy):∀N k0 K,k0<=K->K<k0+N->t.slot (lk t h K).j=.empty ->
 ∃k,k0<=k/\k<=K/\(∀R,k0<=R->R<k->∃i,t.slot (lk t h R).j=.live i/\at_ i≠h) /\
  ((t.slot (lk t h k).j=.empty/\probe.go t at_ h N (lk t h k0)=some (.empty (lk t h k).j none)) \/
   ∃i,t.slot (lk t h k).j=.live i/\at_ i=h/\probe.go t at_ h N (lk t h k0)=some (.candidate (lk t h k).j i (lk t h (k+1))))
 |0,k0,K,h1,h2,_=>by omega
 |N+1,k0,K,h1,h2,he=>by
  unfold probe.go;cases hs:t.slot (lk t h k0).j with
  |empty=>exact⟨k0,Ab _,h1,λR U S=>⋯,.inl ⟨hs,by simp only[];rw[dy]⟩⟩
  |dummy=>exact absurd hs (hd _)
  |live i=>
   simp only[];by_cases ha:at_ i=h
   . rw[if_pos (beq_iff_eq.mpr ha)]
     exact⟨k0,Ab _,h1,λR U S=>⋯,.inr ⟨i,hs,ha,by rw[j8]⟩⟩
   . rw[if_neg λz=>ha (beq_iff_eq.mp z),j8]
     have Z:k0≠K:=λe=>by rw[e,he]at hs;cases hs
     obtain⟨k,k1,Y,X,W⟩:=ng hd N (k0+1) K ⋯ ⋯ he
     refine⟨k,⋯,Y,λR U S=>?_,W⟩
     rcases Dn k0 R with q|q
     . exact X R q S
     . rw[show R=k0 by omega];exact⟨i,hs,ha⟩
structure Ok(hs:List Int)(t:BQ):Prop where
 d:t.place.size=hs.length
 c:pQ t.place
 g:t.dummies=#[]
 le:∀(i j:Nat),t.place[i]?=some j->j<=t.mask
 fl:t.place.size<=t.mask
 l:wM t.mask=true
 m:∀(i j:Nat) (h:Int),t.place[i]?=some j->hs[i]?=some h->∃k,(lk t h k).j=j/\∀k'<k,∃i',t.slot (lk t h k').j=.live i'
def Ok.iH(o:Ok hs t)j:t.slot j≠.dummy:=λe=>by
 unfold slot at e;simp only[]at e;split at e
 . cases e
 . split at e
   . rename_i q
     rw[o.g]at q;unfold has at q;have:=beq_iff_eq.mp q;rw[EC]at this;cases this
   . cases e
theorem uw{N:Type} [BEq N] [LawfulBEq N]:∀{l m:List N},l.Nodup->(∀x∈l,x∈m)->l.length<=m.length
 |[],_,_,_=>AS _
 |a::t,m,hn,hs=>by rw[Bc]at hn;have R:=hs a (.head _);have:=uw (l:=t) (m:=m.erase a) hn.2 λx hx=>(List.mem_erase_of_ne λ(e:x=a)=>hn.1 (e▸hx)).mpr (hs x (.tail _ hx));rw[List.length_erase_of_mem R]at this;have:=List.length_pos_of_mem R;rw[Ak];omega
def Ok.free(o:Ok hs t):∃j,j<=t.mask/\t.slot j=.empty:=by
 refine ET λno=>?_;have all:∀j,j<t.mask+1->∃i,i<t.place.size/\t.place[i]?=some j:=λj S=>by
  cases hs':t.slot j with
  |empty=>exact absurd ⟨j,⋯,hs'⟩ no
  |dummy=>exact absurd hs' (o.iH j)
  |live i=>
   have:=qA hs';exact⟨i,(AV.mp this).1,this⟩
 have key:∀n,n<=t.mask+1->n<=t.place.size:=λn U=>by
  have N:(Ah n).length<=t.place.toList.length:=by
   have R:(Ah n).Nodup:=Cp;exact uw R λj S=>by
    obtain⟨i,_,e⟩:=all j (by have:=Ar.mp S;omega)
    exact FP.mpr (Array.mem_of_getElem? e)
  rw[AZ,Ax]at N;exact N
 have:=key (t.mask+1) (Ab _);have:=o.fl;omega
def Ok.meets(o:Ok hs t)(at_:Nat->Int)h:∃K,K<10*turns t.mask/\t.slot (lk t h K).j=.empty:=by obtain⟨j,U,S⟩:=o.free;obtain⟨K,R,N⟩:=d7 o.l h U;exact⟨K,R,by rw[show (lk t h K).j=j from N];exact S⟩
def sT(hp:p<=xs.size)i:(insertAt xs p x)[i]?=if i<p then xs[i]? else if i=p then some x else xs[i-1]?:=by
 unfold insertAt;have N:((xs.extract 0 p).push x).size=p+1:=by rw[Array.size_push,D6];omega
 rw[Array.getElem?_append,N];by_cases h1:i<p
 . rw[if_pos ⋯,if_pos h1,Array.getElem?_push,if_neg (by rw[D6];omega),Array.getElem?_extract,if_pos ⋯,Cd]
 . rw[if_neg h1]
   by_cases h2:i=p
   . rw[if_pos ⋯,if_pos h2,Array.getElem?_push,if_pos (by rw[D6];omega)]
   . rw[if_neg ⋯,if_neg h2,Array.getElem?_extract]
     by_cases h3:i-1<xs.size
     . rw[if_pos ⋯];congr 1;omega
     . rw[if_neg ⋯,Fp ⋯]
def rR(hp:p<=xs.size):(insertAt xs p x).size=xs.size+1:=by unfold insertAt;rw[Array.size_append,Array.size_push,D6,D6];omega
def nh{N:Type}{xs:List N}{x}(hp:p<=xs.length)i:(xs.take p++x::xs.drop p)[i]?=if i<p then xs[i]? else if i=p then some x else xs[i-1]?:=by
 have R:(xs.take p).length=p:=by rw[Bi];omega
 by_cases h1:i<p
 . rw[if_pos h1,AW ⋯,List.getElem?_take,if_pos h1]
 . rw[if_neg h1,AU ⋯,R]
   by_cases h2:i=p
   . rw[if_pos h2,show i-p=0 by omega];rfl
   . rw[if_neg h2,show i-p=(i-p-1)+1 by omega,Hx,Co];congr 1;omega
def u7:pQ xs↔∀(i j a b:Nat),i<j->xs[i]?=some a->xs[j]?=some b->a<b:=by
 constructor
 . intro h i j a b N U S
   obtain⟨l1,Y⟩:=AV.mp U;obtain⟨W,X⟩:=AV.mp S;have:=h i j N W;rw[AL,AL,U,S]at this;exact this
 . intro h i j N R
   rw[AL,AL,AM (show i<xs.size by omega),AM R]
   exact h i j _ _ N (AM _) (AM R)
theorem Ok.put(o:Ok hs t)(he:t.slot (lk t h k).j=.empty)(hj:(lk t h k).j<=t.mask)(hw:∀Y<k,∃i,t.slot (lk t h Y).j=.live i)(hf:t.place.size+1<=t.mask) :
 (t.put (lk t h k).j).2<=hs.length/\Ok (hs.take (t.put (lk t h k).j).2++h::hs.drop (t.put (lk t h k).j).2) (t.put (lk t h k).j).1:=by
 generalize hjj:(lk t h k).j=j at he hj;obtain⟨b0,b1,b2⟩:=uA o.c j;have hnot:∀i:Nat,t.place[i]?≠some j:=λi e=>by rw[wx o.c e]at he;cases he
 have e2:(t.put j).2=below t.place j:=rfl;have e1:(t.put j).1={t with place:=insertAt t.place (below t.place j) j}:=by
  unfold BQ.put;have:has t.dummies j=false:=by rw[o.g];unfold has;rw[EC];rfl
  simp only[this,Aw,if_false]
 rw[e2,e1];generalize hp:below t.place j=p at b0 b1 b2;have hpl:p<=hs.length:=by rw[<-o.d];exact b0
 have hg:∀i:Nat,(insertAt t.place p j)[i]?=if i<p then t.place[i]? else if i=p then some j else t.place[i-1]?:=sT b0
 have hgd:∀{i a:Nat},t.place[i]?=some a->t.place.getD i 0=a:=λ{i a} e=>by rw[AL,e];rfl
 have lo:∀{i a:Nat},i<p->t.place[i]?=some a->a<j:=λ{i a} q e=>by have:=b1 i q;rwa [hgd e]at this
 have hi:∀{i a:Nat},p<=i->t.place[i]?=some a->j<a:=λ{i a} q e=>by have:=b2 i q (AV.mp e).1;rw[hgd e]at this;exact Cb this λz=>hnot i (z▸e)
 have W:∀{X:Nat},(∃i,t.slot X=.live i)->∃i,({t with place:=insertAt t.place p j}:BQ).place[i]?=some X:=λ{X} ⟨i,e⟩=>by
  have e:=qA e;rcases Dn i p with q|q
  . exact⟨i,by show (insertAt t.place p j)[i]?=_;rw[hg,if_pos q];exact e⟩
  . exact⟨i+1,by show (insertAt t.place p j)[i+1]?=_;rw[hg,if_neg ⋯,if_neg ⋯,Nat.add_sub_cancel];exact e⟩
 have hr:pQ (insertAt t.place p j):=u7.mpr λi N a b hii U R=>by
  rw[hg]at U R;by_cases q1:i<p
  . rw[if_pos q1]at U
    have la:=lo q1 U;by_cases q2:N<p
    . rw[if_pos q2]at R
      exact u7.mp o.c i N a b hii U R
    . rw[if_neg q2]at R
      by_cases q3:N=p
      . rw[if_pos q3]at R
        cases R;exact la
      . rw[if_neg q3]at R
        have:=hi (show p<=N-1 by omega) R
        omega
  . rw[if_neg q1]at U
    rw[if_neg ⋯,if_neg ⋯]at R
    by_cases q3:i=p
    . rw[if_pos q3]at U
      cases U;exact hi (show p<=N-1 by omega) R
    . rw[if_neg q3]at U
      exact u7.mp o.c (i-1) (N-1) a b ⋯ U R
 refine⟨hpl,?_,hr,o.g,λi a e=>?_,?_,o.l,λi X hh e S=>?_⟩
 . show (insertAt t.place p j).size=_
   rw[rR b0,o.d,As,Ak,Bi,BN];omega
 . have e:(insertAt t.place p j)[i]?=some a:=e
   rw[hg]at e;by_cases q1:i<p
   . rw[if_pos q1]at e;exact o.le _ _ e
   . rw[if_neg q1]at e
     by_cases q3:i=p
     . rw[if_pos q3]at e;cases e;exact hj
     . rw[if_neg q3]at e;exact o.le _ _ e
 . show (insertAt t.place p j).size<=t.mask
   rw[rR b0];exact hf
 . have e:(insertAt t.place p j)[i]?=some X:=e
   rw[hg]at e;rw[nh hpl]at S;have old:∀{i0:Nat},t.place[i0]?=some X->hs[i0]?=some hh->∃k,(lk t hh k).j=X/\∀Y<k,∃N,({t with place:=insertAt t.place p j}:BQ).slot (lk t hh Y).j=.live N:=λ{i0} e S=>by obtain⟨k,k1,k2⟩:=o.m i0 X hh e S;refine⟨k,k1,λY Z=>?_⟩;obtain⟨N,z⟩:=W (k2 Y Z);exact⟨N,wx hr z⟩
   by_cases q1:i<p
   . rw[if_pos q1]at e S;exact old e S
   . rw[if_neg q1]at e S
     by_cases q3:i=p
     . rw[if_pos q3]at e S
       cases e;cases S;refine⟨k,hjj,λY Z=>?_⟩;obtain⟨N,z⟩:=W (hw Y Z);exact⟨N,wx hr z⟩
     . rw[if_neg q3]at e S;exact old e S
theorem dE:∀k,k<=runEnd m y.1-y.1->wV m k (atP m y)={atP m y with j:=y.1+k,more:=runEnd m y.1-y.1-k}
 |0,_=>rfl
 |k+1,h=>by
  rw[wZ,dE k ⋯]
  show adv m _=_;unfold adv advance;rw[if_pos (show runEnd m y.1-y.1-k > 0 by omega)]
  rfl
noncomputable def h0(m:Nat)(h:Int):Nat × Nat:=(bits h%(m+1),bits h)
def dB:(h0 m h).1<=m:=Fh (F0 _ (En m))
def aY(S:wM m=true)h(R:j<=m):∃L,L<turns m/\(lpn m L (h0 m h)).1=j:=by
 have N:(lpn m 13 (h0 m h)).2=0:=by rw[oI];exact Nat.div_eq_of_lt (AJ (jR h) (by decide))
 obtain⟨n,n1,n2⟩:=nc S (lj (x:=h0 m h) dB 13) R;exact⟨13+n,by unfold turns;omega,by rw[oH N,n2]⟩
def Occ(ow:Array (Option Nat))(j:Nat):Prop:=∃a,ow[j]?=some (some a)
def Fre(ow:Array (Option Nat))(j:Nat):Prop:=ow[j]?=some none
def p6:(ow.getD j (some 0)).isNone=true↔Fre ow j:=by
 unfold Fre;rw[AL];cases ow[j]? with
 |none=>exact Iff.intro (λh=>by cases h) (λh=>by cases h)
 |some x=>cases x<;>simp
def l0(N:j<ow.size):Fre ow j\/Occ ow j:=by
 unfold Fre Occ;rw[AM N];cases ow[j] with
 |none=>exact .inl rfl
 |some a=>exact .inr ⟨a,rfl⟩
def uQ(h:i<=m):runEnd m i<=m/\i<=runEnd m i:=by unfold runEnd;split<;>omega
abbrev lkm(m:Nat)(h:Int)(k:Nat):Probe:=wV m k (xQ m h)
theorem ju(hs:ow.size=m+1):∀N L K,lkm m h K=atP m (lpn m L (h0 m h))->(∀R<K,Occ ow (lkm m h R).j)->(∃U,L<=U/\U<L+N/\Fre ow (lpn m U (h0 m h)).1) ->
 ∃k,layClean.free m ow N (lpn m L (h0 m h)).1 (lpn m L (h0 m h)).2=some (lkm m h k).j/\Fre ow (lkm m h k).j/\∀R<k,Occ ow (lkm m h R).j
 |0,L,K,_,_,⟨U,q1,q2,_⟩=>by omega
 |N+1,L,K,hK,hocc,⟨U,q1,q2,q3⟩=>by
  have X:=lj (m:=m) (x:=h0 m h) dB L;obtain⟨r1,r2⟩:=uQ X;have S:∀k,k<=runEnd m (lpn m L (h0 m h)).1-(lpn m L (h0 m h)).1->(lkm m h (K+k)).j=(lpn m L (h0 m h)).1+k:=λk hk=>by show (wV m (K+k) (xQ m h)).j=_;rw[wZ,show wV m K (xQ m h)=_ from hK,dE k hk]
  unfold layClean.free;cases hf:(Ah (runEnd m (lpn m L (h0 m h)).1+1-(lpn m L (h0 m h)).1)).find? λk=>(ow.getD ((lpn m L (h0 m h)).1+k) (some 0)).isNone with
  |some k=>
   obtain⟨f1,f2,f3⟩:=List.find?_range_eq_some.mp hf;have f2:=Ar.mp f2;refine⟨K+k,by rw[S k ⋯],by rw[S k ⋯];exact p6.mp f1,λR Y=>?_⟩
   rcases Dn R K with q|q
   . exact hocc R q
   . obtain⟨d,rfl⟩:∃d,R=K+d:=⟨R-K,⋯⟩
     rw[S d ⋯]
     have:=f3 d ⋯
     rcases l0 (ow:=ow) (j:=(lpn m L (h0 m h)).1+d) ⋯ with z|z
     . rw[p6.mpr z]at this;cases this
     . exact z
  |none=>
   simp only[];have all:=List.find?_eq_none.mp hf;have W:∀k,k<=runEnd m (lpn m L (h0 m h)).1-(lpn m L (h0 m h)).1->Occ ow ((lpn m L (h0 m h)).1+k):=λk hk=>by
    rcases l0 (ow:=ow) (j:=(lpn m L (h0 m h)).1+k) ⋯ with z|z
    . exact absurd (p6.mpr z) (all k (Ar.mpr ⋯))
    . exact z
   have Z:L≠U:=λe=>by obtain⟨a,z⟩:=W 0 (AS _);rw[<-e]at q3;unfold Fre at q3;rw[E2,q3]at z;cases z
   refine ju hs N (L+1) (K+(runEnd m (lpn m L (h0 m h)).1-(lpn m L (h0 m h)).1+1)) ?_ (λR Y=>?_) ⟨U,⋯,⋯,q3⟩
   . show wV m _ (xQ m h)=_
     rw[wZ,show wV m K (xQ m h)=_ from hK];exact om _ (atP m (lpn m L (h0 m h))) rfl rfl
   . rcases Dn R K with q|q
     . exact hocc R q
     . obtain⟨d,rfl⟩:∃d,R=K+d:=⟨R-K,⋯⟩
       rw[S d ⋯]
       exact W d ⋯
structure Lc(m:Nat)(hs:List Int)(ow:Array (Option Nat)):Prop where
 n:ow.size=m+1
 g:∀a:Nat,a<hs.length->∃j:Nat,ow[j]?=some (some a)
 d:∀(j j' a:Nat),ow[j]?=some (some a)->ow[j']?=some (some a)->j=j'
 f:∀(j a:Nat),ow[j]?=some (some a)->a<hs.length
 l:∀(j a:Nat) (h:Int),ow[j]?=some (some a)->hs[a]?=some h->∃k,(lkm m h k).j=j/\∀k'<k,Occ ow (lkm m h k').j
def Lc.start m:Lc m [] (F1 (m+1) none):=by
 have no:∀j a:Nat,(F1 (m+1) (none:Option Nat))[j]?≠some (some a):=λj a e=>by
  rw[Array.getElem?_replicate]at e;split at e
  . cases e
  . cases e
 exact⟨Array.size_replicate,λa h=>absurd h (Ds _),λj N a e=>absurd e (no _ _),λj a e=>absurd e (no _ _),λj a h e=>absurd e (no _ _)⟩
def Lc.fL(c:Lc m hs ow)(W:hs.length<=m):∃j:Nat,j<=m/\Fre ow j:=by
 refine ET λno=>?_;have all:∀j:Nat,j<m+1->∃a,ow[j]?=some (some a):=λj N=>by
  rcases l0 (ow:=ow) (j:=j) (by rw[c.n];exact N) with z|z
  . exact absurd ⟨j,⋯,z⟩ no
  . exact z
 have hw:∀j:Nat,j<m+1->ow[j]?=some (some ((ow.getD j none).getD 0)):=λj N=>by obtain⟨a,e⟩:=all j N;rw[AL,e];rfl
 have R:((Ah (m+1)).map λj=>(ow.getD j none).getD 0).Nodup:=by rw[EF,Fi];refine E6 (λ{a b} ha hb hab e=>?_) Cp;have S:=hw a (Ar.mp ha);have U:=hw b (Ar.mp hb);rw[e]at S;exact hab (c.d _ _ _ S U)
 have:=uw (m:=Ah hs.length) R λx hx=>by obtain⟨j,N,rfl⟩:=A2.mp hx;exact Ar.mpr (c.f _ _ (hw j (Ar.mp N)))
 rw[Aa,AZ,AZ]at this;omega
def Lc.step(c:Lc m hs ow)(hf:wM m=true)(hn:hs.length<=m)h :
 ∃j,layClean.free m ow (turns m) (bits h%(m+1)) (bits h)=some j/\Lc m (hs++[h]) (ow.setIfInBounds j (some hs.length)):=by
 obtain⟨j0,q1,q2⟩:=c.fL hn;obtain⟨L,l1,l2⟩:=aY hf h q1;obtain⟨k,f1,f2,f3⟩:=ju (ow:=ow) (h:=h) c.n (turns m) 0 0 rfl (λX R=>⋯) ⟨L,AS _,⋯,by rw[l2];exact q2⟩
 generalize Z:(lkm m h k).j=j at f1 f2;have hj:j<ow.size:=(AV.mp f2).1;have W:∀i:Nat,(ow.setIfInBounds j (some hs.length))[i]?=if j=i then some (some hs.length) else ow[i]?:=λi=>by
  rw[Array.getElem?_setIfInBounds];split
  . first|rfl|rw[if_pos hj]
  . rfl
 have U:∀{i:Nat},Occ ow i->Occ (ow.setIfInBounds j (some hs.length)) i:=λ{i} ⟨a,e⟩=>by
  by_cases q:j=i
  . exact⟨_,by rw[W,if_pos q]⟩
  . exact⟨a,by rw[W,if_neg q];exact e⟩
 have N:∀{i a:Nat},(ow.setIfInBounds j (some hs.length))[i]?=some (some a)->(j=i/\a=hs.length)\/(j≠i/\ow[i]?=some (some a)):=λ{i a} e=>by
  rw[W]at e;by_cases q:j=i
  . rw[if_pos q]at e
    exact .inl ⟨q,by cases e;rfl⟩
  . rw[if_neg q]at e
    exact .inr ⟨q,e⟩
 refine⟨j,f1,by rw[CV];exact c.n,λa ha=>?_,λi i' a e S=>?_,λi a e=>?_,λi a hh e Y=>?_⟩
 . rw[As,Bw]at ha
   by_cases q:a=hs.length
   . exact⟨j,by rw[W,if_pos rfl,q]⟩
   . obtain⟨i,e⟩:=c.g a ⋯
     exact⟨i,by rw[W,if_neg λz=>by subst z;unfold Fre at f2;rw[f2]at e;cases e];exact e⟩
 . rcases N e with⟨rfl,rfl⟩|⟨_,e⟩
   . rcases N S with⟨rfl,_⟩|⟨_,S⟩
     . rfl
     . have:=c.f _ _ S;omega
   . rcases N S with⟨rfl,rfl⟩|⟨_,S⟩
     . have:=c.f _ _ e;omega
     . exact c.d _ _ _ e S
 . rw[As,Bw]
   rcases N e with⟨_,rfl⟩|⟨_,e⟩
   . omega
   . have:=c.f _ _ e;omega
 . rcases N e with⟨rfl,rfl⟩|⟨_,e⟩
   . rw[AU (Ab _),E3]at Y
     cases Y;exact⟨k,Z,λX R=>U (f3 X R)⟩
   . rw[AW (c.f _ _ e)]at Y
     obtain⟨k1,p1,p2⟩:=c.l i a hh e Y;exact⟨k1,p1,λX R=>U (p2 X R)⟩
theorem nM(R:wM m=true):∀rest hs ow,Lc m hs ow->hs.length+rest.length<=m ->
 ∃N,rest.foldl (init:=some (ow,hs.length)) (λacc h=>do
  let (owner,k) <-acc;let j <-layClean.free m owner (turns m) (bits h%(m+1)) (bits h)
  pure (owner.setIfInBounds j (some k),k+1))=some (N,(hs++rest).length)/\Lc m (hs++rest) N
 |[],hs,ow,c,_=>⟨ow,by rw[A1];rfl,by rw[A1];exact c⟩
 |h::rest,hs,ow,c,hn=>by
  rw[Ak]at hn;obtain⟨j,W,X⟩:=c.step R ⋯ h
  obtain⟨N,S,U⟩:=nM R rest (hs++[h]) _ X (by rw[As,Bw];omega)
  refine⟨N,?_,by rw[An]at U;exact U⟩
  rw[HD];rw[As,Bw,An]at S;show Eu _ (Option.bind (layClean.free m ow (turns m) (bits h%(m+1)) (bits h)) λj=>some (ow.setIfInBounds j (some hs.length),hs.length+1)) rest=_;rw[W];exact S
def nt(N:wM m=true)(R:hs.length<=m):∃ow,layClean m hs.toArray=some ow/\Lc m hs ow:=by
 obtain⟨ow,e,c⟩:=nM N hs [] _ (Lc.start m) (by rw[B8];omega)
 refine⟨ow,?_,c⟩;unfold layClean;rw[List.foldl_toArray];rw[show (some (F1 (m+1) (none:Option Nat),0))=some (F1 (m+1) none,([]:List Int).length) from rfl,e];rfl
noncomputable def pairs(m:Nat)(ow:Array (Option Nat)):List (Nat × Nat):=(Ah (m+1)).filterMap λj=>(ow.getD j none).map (j,·)
def gS(hs:ow.size=m+1):(j,a)∈pairs m ow↔ow[j]?=some (some a):=by
 unfold pairs;rw[DW];constructor
 . rintro ⟨U,X,R⟩
   rw[AL]at R;obtain⟨Y,N,S⟩:=AK.mp R;cases S;cases h3:ow[j]? with
   |none=>rw[h3]at N;cases N
   |some o=>rw[h3]at N;rw[show o=some a from N]
 . intro h
   have W:=(AV.mp h).1;exact⟨j,Ar.mpr ⋯,by rw[AL,h];rfl⟩
def kI:(pairs m ow).Pairwise λx y=>x.1<y.1:=by unfold pairs;rw[List.pairwise_filterMap];refine List.Pairwise.imp (λ{a b} hab x hx y hy=>?_) List.pairwise_lt_range;obtain⟨_,_,rfl⟩:=AK.mp hx;obtain⟨_,_,rfl⟩:=AK.mp hy;exact hab
def Zc(hf:wM m=true){hs:List Int}(hn:hs.length<=m)fg mv ld pl:∃t R,laid m fg mv ld pl hs.toArray=some (t,R)/\t.mask=m/\t.finger=fg/\t.moves=mv/\t.led=ld/\t.plain=pl /\
 R.toList.Perm (Ah hs.length)/\Ok (R.toList.map λa=>hs.getD a 0) t:=by
 obtain⟨ow,e,c⟩:=nt hf hn;have hp:=kI (m:=m) (ow:=ow);have N:=λ(j a:Nat)=>gS (m:=m) (ow:=ow) c.n (j:=j) (a:=a);refine⟨{mask:=m,place:=((pairs m ow).map (·.1)).toArray,dummies:=#[],finger:=fg,led:=ld,moves:=mv,plain:=pl},((pairs m ow).map (·.2)).toArray,?_,rfl,rfl,rfl,rfl,rfl,?_,?_⟩
 . unfold laid
   rw[e];rfl
 . rw[F9]
   refine(Dz ?_ Cp).mpr λa=>?_
   . rw[EF,Fi]
     refine E6 (λ{x y} hx hy hxy e=>?_) hp;have W:=(N x.1 x.2).mp hx;have e2:=(N y.1 y.2).mp hy;rw[e]at W;have:=c.d _ _ _ W e2;omega
   . rw[A2,Ar]
     constructor
     . rintro ⟨x,hx,rfl⟩
       exact c.f _ _ ((N x.1 x.2).mp hx)
     . intro S
       obtain⟨j,e⟩:=c.g a S;exact⟨(j,a),(N j a).mpr e,rfl⟩
 . rw[F9]
   generalize hP:pairs m ow=P at hp N;have U:∀(i j:Nat),((P.map (·.1)).toArray)[i]?=some j->∃a,P[i]?=some (j,a):=λi j e=>by rw[CJ,Aq]at e;obtain⟨x,W,rfl⟩:=AK.mp e;exact⟨x.2,W⟩
   have hr:pQ (P.map (·.1)).toArray:=u7.mpr λi j a b hij S hb=>by obtain⟨x,S⟩:=U i a S;obtain⟨y,hb⟩:=U j b hb;obtain⟨l1,g1⟩:=Ai.mp S;obtain⟨l2,g2⟩:=Ai.mp hb;have:=BG.mp hp i j l1 l2 hij;rw[g1,g2]at this;exact this
   have own:∀{i j a:Nat},P[i]?=some (j,a)->ow[j]?=some (some a):=λ{i j a} e=>(N j a).mp (AA e);have len:P.length<=m:=by
    have Y:(P.map (·.2)).Nodup:=by rw[EF,Fi];refine E6 (λ{x y} hx hy hxy e=>?_) hp;have W:=(N x.1 x.2).mp hx;have e2:=(N y.1 y.2).mp hy;rw[e]at W;have:=c.d _ _ _ W e2;omega
    have:=uw (m:=Ah hs.length) Y λa S=>by obtain⟨x,hx,rfl⟩:=A2.mp S;exact Ar.mpr (c.f _ _ ((N x.1 x.2).mp hx))
    rw[Aa,AZ]at this;omega
   refine⟨?_,hr,rfl,λi j e=>?_,?_,hf,λi j h e X=>?_⟩
   . show ((P.map (·.1)).toArray).size=_
     rw[Ae,Aa,Aa,Aa]
   . obtain⟨a,e⟩:=U i j e
     have:=(AV.mp (own e)).1;have:=c.n;show j<=m;omega
   . show ((P.map (·.1)).toArray).size<=m
     rw[Ae,Aa];exact len
   . obtain⟨a,e⟩:=U i j e
     rw[Aq,Aq,e]at X;have X:hs.getD a 0=h:=AH X;have S:=c.f _ _ (own e);obtain⟨k,k1,k2⟩:=c.l j a h (own e) (by rw[Ad,pn S]at X;rw[pn S];exact congrArg some X)
     refine⟨k,k1,λk' Z=>?_⟩;obtain⟨a',z⟩:=k2 k' Z;obtain⟨i',hi'⟩:=CW ((N _ a').mpr z);exact⟨i',wx hr (by show ((P.map (·.1)).toArray)[i']?=_;rw[CJ,Aq,hi'];rfl)⟩
structure xS(prog:Program)(w:World)(K:Type) [DecidableEq K] extends HeapKind prog w K where
 f:∀{A:Around} {E:Value->Shared->Prop} {s:Shared} {k:K} {a:Addr} {Q:Bool->Shared->Prop},is s.heap k a->Q false s->wpAny (model prog w) A (Eg 8 (.ref a)) Q E s
 g:∀{A:Around} {E:Value->Shared->Prop} {s:Shared} {k:K} {a:Addr} {Q:Bool->Shared->Prop},is s.heap k a->Q true s->wpAny (model prog w) A (Gn 8 (.ref a)) Q E s
 e:∀{h h':Heap} {k:K} {a d:Addr} {o:Obj} {es ep t},is h k a->h.get? d=some o->o.data=.set es ep t->Cm d h h'->is h' k a
 i:∀{h h':Heap} {k:K} {a:Addr},is h k a->(∀b o,h.get? b=some o->h'.get? b=some o)->is h' k a
section
variable {prog:Program}{w:World}{K:Type} [DecidableEq K] (κ:xS prog w K)
def y7(h:Heap)(ks:List K)(es:Array (Int × Value)):Prop:=es.size=ks.length/\∀(i:Nat) (k:K),ks[i]?=some k->∃b,es[i]?=some (κ.hash k,.ref b)/\κ.is h k b
variable {κ}
variable {A:Around}{E:Value->Shared->Prop}{s:Shared}
def y7.get(x:y7 κ h ks es){i:Nat}(he:es[i]?=some e):∃k b,ks[i]?=some k/\e=(κ.hash k,.ref b)/\κ.is h k b:=by
 have hi:=(AV.mp he).1;have hk:i<ks.length:=by rw[<-x.1];exact hi
 obtain⟨b,N,R⟩:=x.2 i _ (pn hk);rw[he]at N;exact⟨_,b,pn hk,AH N,R⟩
def cK(hk:κ.is s.heap k x):∀ys {Q},(∀y∈ys,∃b S,y=.ref b/\κ.is s.heap S b)->Q false s->wpAny (model prog w) A (searchCouldBeSeen (.ref x) ys) Q E s:=by
 intro ys Q U Z;unfold searchCouldBeSeen;refine dm ?_;refine Hm _ (λrest r s'=>r.1=none/\s'=s/\∀y∈rest,∃b S,y=.ref b/\κ.is s.heap S b) _ ?_ ?_ _ _ ⟨rfl,rfl,U⟩
 . rintro v rest r s' ⟨W,rfl,R⟩
   obtain⟨b,S,rfl,X⟩:=R v AE;have N:∀y∈rest,∃b S,y=.ref b/\κ.is s'.heap S b:=λy Y=>R y (Ay _ Y);dsimp only;split
   . exact xd ⟨rfl,rfl,N⟩
   . refine dm (κ.quiet hk ?_)
     simp only[EG,Aw,if_false];refine dm (κ.quiet X ?_);simp only[EG,Aw,if_false];refine dm (κ.f hk ?_);simp only[Aw,if_false];refine dm (κ.f X ?_);simp only[Aw,if_false];exact xd ⟨rfl,rfl,N⟩
 . rintro ⟨r1,r2⟩ s' ⟨W,rfl,_⟩
   simp only at W;subst W;exact xd Z
def UU(ks:List K)(t:BQ)(h:Int)(k:K)(k0:Nat):Prop:=∀i:Nat,ks[i]?=some k->∃ix,k0<=ix/\t.slot (lk t h ix).j=.live i/\∀N<ix,∃R,t.slot (lk t h N).j=.live R
theorem sG(ho:s.heap.get? a=some o)(hd:o.data=.set es ep t)(hf:t.fits es.size=true)(Z:y7 κ s.heap ks es)(hok:Ok (ks.map κ.hash) t)(hg:t.gaveWay=false)(hr:κ.room A)(hk:κ.is s.heap k x)
  (hK:K0<10*turns t.mask) (he:t.slot (lk t (κ.hash k) K0).j=.empty):∀S k0 st,k0<=K0->K0-k0<S->st.getD (t.probeStart (κ.hash k))=lk t (κ.hash k) k0->UU ks t (κ.hash k) k k0->(∀N<k0,∃i,t.slot (lk t (κ.hash k) N).j=.live i) ->
 ∀{Q},(k∈ks->Q (.there none) s)->(k ∉ ks->∀kk,t.slot (lk t (κ.hash k) kk).j=.empty->(∀N<kk,∃i,t.slot (lk t (κ.hash k) N).j=.live i)->Q (.free (lk t (κ.hash k) kk).j false) s) ->
  wpAny (model prog w) A (Ir a (.ref x) (κ.hash k) true S st) Q E s
 |0,k0,st,_,h2,_,_,_,_,_,_=>by omega
 |S+1,k0,st,h1,h2,hst,hfr,hlv,Q,q1,q2=>by
  have R:∀{i:Nat} {W:K},ks[i]?=some W->(es[i]?.map (·.1)).getD 0=κ.hash W:=λ{i W} e=>by obtain⟨b,e1,_⟩:=Z.2 i W e;rw[e1];rfl
  obtain⟨kk,m1,m2,m3,m4⟩:=ng (t:=t) (at_:=λi=>(es[i]?.map (·.1)).getD 0) (h:=κ.hash k) hok.iH (10*turns t.mask) k0 K0 h1 ⋯ he
  have hlv':∀N<kk,∃i,t.slot (lk t (κ.hash k) N).j=.live i:=λN hk'=>by
   rcases Dn N k0 with q|q
   . exact hlv N q
   . obtain⟨i,z,_⟩:=m3 N q hk'
     exact⟨i,z⟩
  unfold Ir;refine dm (B5 ho hd hf ?_);dsimp only;rw[hg,hst];simp only[Aw,if_false];rcases m4 with⟨z,hp⟩|⟨i,z,hi,hp⟩
  . have U:∀f:Nat->Int,f=(λi=>(es[i]?.map (·.1)).getD 0)->t.probe f (κ.hash k) (lk t (κ.hash k) k0)=some (.empty (lk t (κ.hash k) kk).j none):=λf e=>by rw[e];exact hp
    rw[U]
    rotate_left
    . rfl
    dsimp only;refine xd (q2 (λhm=>?_) kk z hlv');obtain⟨i0,e0⟩:=CW hm;obtain⟨ix,x1,x2,x3⟩:=hfr i0 e0;have hlt:ix<kk:=by
     rcases Ef ix kk with q|q|q
     . exact q
     . rw[q,z]at x2;cases x2
     . obtain⟨i',y⟩:=x3 kk q
       rw[z]at y;cases y
    obtain⟨i',y1,y2⟩:=m3 ix x1 hlt;rw[x2]at y1;cases y1;exact y2 (R e0)
  . have U:∀f:Nat->Int,f=(λi=>(es[i]?.map (·.1)).getD 0)->t.probe f (κ.hash k) (lk t (κ.hash k) k0)=some (.candidate (lk t (κ.hash k) kk).j i (lk t (κ.hash k) (kk+1))):=λf e=>by rw[e];exact hp
    rw[U]
    rotate_left
    . rfl
    dsimp only;have hpl:=qA z;have hie:i<es.size:=by have:=(AV.mp hpl).1;simp only[BQ.fits,ub,beq_iff_eq]at hf;omega
    obtain⟨W,b,e1,e2,hb⟩:=Z.get (AM hie);have X:∀y∈((es.filter (·.1 == κ.hash k)).toList.map (·.2)),∃b N,y=Bb b/\κ.is s.heap N b:=λy hy=>by obtain⟨e,he',rfl⟩:=A2.mp hy;have:=(Array.mem_filter.mp (FP.mp he')).1;obtain⟨j,ej⟩:=Array.getElem?_of_mem this;obtain⟨N,b',_,rfl,hb'⟩:=Z.get ej;exact⟨b',N,rfl,hb'⟩
    have g1:W=k->Q (.there none) s:=λe=>by subst e;exact q1 (AA e1)
    have g2:W≠k->wpAny (model prog w) A (Ir a (.ref x) (κ.hash k) true S (some (lk t (κ.hash k) (kk+1)))) Q E s:=λhne=>by
     have hkK:kk≠K0:=λe=>by rw[e,he]at z;cases z
     refine sG ho hd hf Z hok hg hr hk hK he S (kk+1) (some (lk t (κ.hash k) (kk+1))) ⋯ ⋯ rfl (λi0 e0=>?_) (λN hk'=>?_) q1 q2
     . obtain⟨ix,x1,x2,x3⟩:=hfr i0 e0
       refine⟨ix,?_,x2,x3⟩;rcases Ef ix kk with q|q|q
       . obtain⟨i',y1,y2⟩:=m3 ix x1 q
         rw[x2]at y1;cases y1;exact absurd (R e0) y2
       . rw[q,z]at x2
         cases x2;rw[e0]at e1;exact absurd (AH e1).symm hne
       . exact q
     . rcases Dn N kk with q|q
       . exact hlv' N q
       . rw[show N=kk by omega];exact⟨i,z⟩
    have Y:es[i]?=some (κ.hash W,Bb b):=by rw[AM hie,e2]
    have hsm:t.sameMemory t.moves t.mask=some true:=by unfold sameMemory;rw[if_pos (beq_self_eq_true _)]
    have hss:isSame (.ref b) (.ref b)=pure true:=by unfold isSame;exact if_pos (beq_self_eq_true b)
    split
    . refine dm (cK hk _ X ?_)
      simp only[Aw,if_false];rw[Y];dsimp only;refine dm (Bo (κ.eqBool hr hb hk ?_));refine dm (B5 ho hd hf ?_);dsimp only;by_cases hkk:W=k
      . rw[decide_eq_true hkk]
        exact xd (g1 hkk)
      . rw[decide_eq_false hkk]
        simp only[HZ,Aw,if_false];rw[hsm];dsimp only;rw[if_pos rfl,z];dsimp only;rw[Y];dsimp only;refine dm (DL hss ?_);refine dm (xd ?_);exact g2 hkk
    . rw[Y]
      dsimp only;refine dm (Bo (κ.eqBool hr hb hk ?_));refine dm (B5 ho hd hf ?_);dsimp only;by_cases hkk:W=k
      . rw[decide_eq_true hkk]
        exact xd (g1 hkk)
      . rw[decide_eq_false hkk]
        simp only[HZ,Aw,if_false];rw[hsm];dsimp only;rw[if_pos rfl,z];dsimp only;rw[Y];dsimp only;refine dm (DL hss ?_);refine dm (xd ?_);exact g2 hkk
end
noncomputable def maskOf(n:Nat):Nat:=if n<5 then 7 else if n<19 then 31 else if n<77 then 127 else 511
def qv(h:n<=306):n*5<maskOf n*3:=by
 unfold maskOf;split
 . omega
 . split
   . omega
   . split<;>omega
def gQ n:wM (maskOf n)=true:=by
 unfold maskOf;split
 . exact Y5
 . split
   . exact WB
   . split
     . exact ZA
     . exact ZC
def cG n:maskOf n%2=1:=by
 unfold maskOf;split
 . rfl
 . split
   . rfl
   . split<;>rfl
def iB n:maskOf n<=511:=by
 unfold maskOf;split
 . omega
 . split
   . omega
   . split<;>omega
def gR(h:n+1<=306):((n+1)*5<maskOf n*3/\maskOf (n+1)=maskOf n)\/((n+1)*5 ≥ maskOf n*3/\sizeAbove (grown (n+1))-1=maskOf (n+1)/\sizeAbove (grown (n+1))<=512):=by
 by_cases h5:n=4
 . subst h5;exact .inr ⟨by decide,by decide,by decide⟩
 by_cases h19:n=18
 . subst h19;exact .inr ⟨by decide,by decide,by decide⟩
 by_cases h77:n=76
 . subst h77;exact .inr ⟨by decide,by decide,by decide⟩
 refine .inl ⟨?_,?_⟩
 . unfold maskOf
   split
   . omega
   . split
     . omega
     . split<;>omega
 . unfold maskOf
   by_cases a:n<5
   . rw[if_pos a,if_pos ⋯]
   . rw[if_neg a,if_neg ⋯]
     by_cases b:n<19
     . rw[if_pos b,if_pos ⋯]
     . rw[if_neg b,if_neg ⋯]
       by_cases c:n<77
       . rw[if_pos c,if_pos ⋯]
       . rw[if_neg c,if_neg ⋯]
section
variable {prog:Program}{w:World}{K:Type} [DecidableEq K] (κ:xS prog w K)
def ym(N:Bool)(h:Heap)(a:Addr)(ks:List K):Prop:=
 ∃o es ep t,h.get? a=some o/\o.ExactSet/\o.data=.set es ep t/\y7 κ h ks es/\ks.Nodup/\Ok (ks.map κ.hash) t/\t.plain=true/\t.led=N/\t.mask=maskOf ks.length/\ks.length<=306
variable {κ}
variable {A:Around}{E:Value->Shared->Prop}{s:Shared}
def fits_of(R:y7 κ h ks es)(N:Ok (ks.map κ.hash) t):t.fits es.size=true:=by have S:=N.d;have U:=N.fl;rw[Aa]at S;simp only[BQ.fits,BQ.fill,N.g,ub,beq_iff_eq,decide_eq_true_eq];exact⟨by rw[S,R.1],by show t.place.size+0<=t.mask;omega⟩
def y7.keeps{N ep0 t0}(x:y7 κ h ks es)(R:h.get? a=some o)(hd:o.data=.set N ep0 t0)(hs:Cm a h h'):y7 κ h' ks es:=⟨x.1,λi k e=>by obtain⟨b,U,S⟩:=x.2 i k e;exact⟨b,U,κ.e S R hd hs⟩⟩
def y7.put(x:y7 κ h ks es)(hp:p<=ks.length)(S:κ.is h k b):y7 κ h (ks.take p++k::ks.drop p) (insertAt es p (κ.hash k,.ref b)):=by
 have N:p<=es.size:=by rw[x.1];exact hp
 refine⟨?_,λi R e=>?_⟩
 . rw[rR N,x.1,As,Ak,Bi,BN];omega
 . rw[nh hp]at e
   rw[sT N];by_cases h1:i<p
   . rw[if_pos h1]at e ⊢;exact x.2 i R e
   . rw[if_neg h1]at e ⊢
     by_cases h2:i=p
     . rw[if_pos h2]at e ⊢
       cases e;exact⟨b,rfl,S⟩
     . rw[if_neg h2]at e ⊢;exact x.2 _ R e
def bP{ks:List K}{p:Nat}{k:K}:(ks.take p++k::ks.drop p).Perm (k::ks):=by refine Hi.trans ?_;rw[A3]
noncomputable def XO(es:Array (Int × Value))(laid:Option (BQ × Array Nat)):Sem (Array (Int × Value) × BQ):=do
 let some (t,order):=laid|unsupported "internal:set-table-without-room"
 let N:=order.filterMap (es[·]?)
 if N.size != es.size then unsupported "internal:set-table-lost-an-element"
 pure (N,t)
theorem tX{es:Array (Int × Value)}:∀{l:List Nat},(∀a∈l,a<es.size)->l.filterMap (λa=>es[a]?)=l.map λa=>es.getD a (0,.none)
 |[],_=>rfl
 |a::l,h=>by have N:=h a (.head _);rw[A7,AM N];simp only[];rw[tX λb R=>h b (.tail _ R),AF,AL,AM N];rfl
def Sb{a:Addr}{o:Obj}{es:Array (Int × Value)}{ep:Nat}{t:BQ}{ks:List K}{k0:K}{R:Nat}(ho:s.heap.get? a=some o)(hex:o.ExactSet)(hd:o.data=.set es ep t)(S:y7 κ s.heap ks es)(hnd:ks.Nodup)(hok:Ok (ks.map κ.hash) t)(hpl:t.plain=true)
 (hm:sizeAbove R-1=maskOf ks.length) (hm2:sizeAbove R<=512) (hn:ks.length<=306) {Q:Unit->Shared->Prop} (h:∀h' Y,Cm a s.heap h'->ym κ t.led h' a Y->Y.Perm ks->Q () {s with heap:=h'}):wpAny (model prog w) A (setRelay a R) Q E s:=by
 have hf:=fits_of S hok;have hr:=qv hn;have hle:=iB ks.length;have hmp:es.map (·.1)=(ks.map κ.hash).toArray:=by
  apply Array.ext_getElem?;intro i;rw[Array.getElem?_map,show ((ks.map κ.hash).toArray)[i]?=(ks.map κ.hash)[i]? from by simp,Aq]
  cases e:ks[i]? with
  |none=>
   rw[Fp (by rw[S.1];exact CL.mp e)];rfl
  |some k=>
   obtain⟨b,e1,_⟩:=S.2 i k e;rw[e1];rfl
 obtain⟨t',N,l1,l2,l3,l4,l5,l6,l7,l8⟩:=Zc (gQ ks.length) (hs:=ks.map κ.hash) (by rw[Aa];omega) t.finger (t.movedTo (maskOf ks.length)) t.led t.plain
 rw[Aa]at l7;have X:∀x∈N.toList,x<ks.length:=λx hx=>Ar.mp (l7.mem_iff.mp hx);have hol:N.toList.length=ks.length:=by rw[l7.length_eq,AZ]
 have hes:(N.filterMap (es[·]?)).toList=N.toList.map λx=>es.getD x (0,.none):=by rw[Array.toList_filterMap];exact tX λx hx=>by rw[S.1];exact X x hx
 have hks:(N.toList.map λx=>ks[x]?.getD k0).map κ.hash=N.toList.map λx=>(ks.map κ.hash).getD x 0:=by rw[Ce];refine C6 λx hx=>?_;have:=X x hx;rw[Ad,Aq,pn this];show κ.hash (ks[x]?.getD k0)=_;rw[pn this];rfl
 have U:(N.toList.map λx=>ks[x]?.getD k0).Perm ks:=by
  refine(l7.map _).trans (HH.of_eq ?_);apply GX;intro i;rw[Aq];by_cases hi:i<ks.length
  . rw[Cy hi,pn hi]
    show some (ks[i]?.getD k0)=_;rw[pn hi];rfl
  . rw[CK (by omega:ks.length<=i),CK (by rw[AZ];omega)];rfl
 have W:y7 κ s.heap (N.toList.map λx=>ks[x]?.getD k0) (N.filterMap (es[·]?)):=by
  refine⟨by rw[<-Ax,hes,Aa,Aa],λi k e=>?_⟩
  rw[Aq]at e;obtain⟨x,e1,rfl⟩:=AK.mp e;have hx:=X x (AA e1);obtain⟨b,q1,q2⟩:=S.2 x _ (pn hx);rw[pn hx];refine⟨b,?_,q2⟩;rw[<-Bm,hes,Aq,e1];show some (es.getD x (0,.none))=_;rw[AL,q1];rfl
 unfold setRelay;refine dm (B5 ho hd hf ?_);dsimp only;rw[if_neg (by rw[Bk];omega)]
 refine dm ?_;show wpAny (model prog w) A (XO es (t.relaid (es.map (·.1)) R)) _ E s
 have hrl:t.relaid (es.map (·.1)) R=some (t',N):=by unfold BQ.relaid;rw[hm,hmp];exact l1
 unfold XO;rw[hrl];dsimp only;have Z:(N.filterMap (es[·]?)).size=es.size:=by rw[W.1,Aa,hol,S.1]
 rw[if_neg (by rw[Z];simp)]
 refine xd ?_;refine wpAny_storeSet_of ho hd (h _ _ (Ci s.heap a _) ?_ U) (by rw[Z,S.1,Bk];omega)
 have hg:(s.heap.update a (F2 (N.filterMap (es[·]?)) t')).get? a=some {o with data:=.set (N.filterMap (es[·]?)) (ep+1) t'}:=by
  have:=B6 (F2 (N.filterMap (es[·]?)) t') ho (by rw[Iz _ _ hd];rfl)
  rw[Iz _ _ hd]at this;exact this
 refine⟨_,_,_,t',hg,hex,rfl,W.keeps ho hd (Ci s.heap a _),U.nodup_iff.mpr hnd,by rw[hks];exact l8,by rw[l6];exact hpl,l5,by rw[l2,U.length_eq],by rw[U.length_eq];exact hn⟩
end
def Xl(S:p.j+p.more<=m)(R:p.i<=m):(adv m p).j+(adv m p).more<=m/\(adv m p).i<=m:=by
 unfold adv advance;split
 . refine⟨?_,R⟩
   show p.j+1+(p.more-1)<=m;omega
 . have N:(leap m p.i p.perturb).1<=m:=Fh (F0 _ (En m))
   have:=uQ N;refine⟨?_,N⟩;show (leap m p.i p.perturb).1+(runEnd m (leap m p.i p.perturb).1-(leap m p.i p.perturb).1)<=m;omega
def TU k:(lk t h k).j<=t.mask:=by
 have key:∀(k:Nat) (p:Probe),p.j+p.more<=t.mask->p.i<=t.mask->(wV t.mask k p).j+(wV t.mask k p).more<=t.mask:=λk=>by
  induction k with
  |zero=>exact λp N _=>N
  |succ k R=>
   intro p N S;have:=Xl N S;exact R (adv t.mask p) this.1 this.2
 have h0:(h0 t.mask h).1<=t.mask:=dB;have U:=uQ h0;have:=key k (xQ t.mask h) (by show (M.St.h0 t.mask h).1+(runEnd t.mask (M.St.h0 t.mask h).1-(M.St.h0 t.mask h).1)<=t.mask;omega) h0
 show (wV t.mask k (xQ t.mask h)).j<=t.mask;omega
section
variable {prog:Program}{w:World}{K:Type} [DecidableEq K] {κ:xS prog w K}
variable {A:Around}{E:Value->Shared->Prop}{s:Shared}
def sr(hS:ym κ ld s.heap a ks)(hr:κ.room A)(hk:κ.is s.heap k x)(hn:ks.length+1<=306)
 (h:∀h' S,Cm a s.heap h'->ym κ ld h' a S->(if k∈ks then S=ks else S.Perm (k::ks))->Q (!decide (k∈ks)) {s with heap:=h'}):wpAny (model prog w) A (setAddHashed a (.ref x) (κ.hash k)) Q E s:=by
 have hS0:=hS;obtain⟨o,es,ep,t,ho,hex,hd,hel,hnd,X,hpl,hld,Z,hle⟩:=hS;have hf:=fits_of hel X;have hroom:=qv hle;have hodd:=cG ks.length;have hm511:=iB ks.length;have hsz:=X.d;rw[Aa]at hsz;have hg:t.gaveWay=false:=by unfold BQ.gaveWay;rw[Z,hodd];rfl
 obtain⟨K0,hK,he⟩:=X.meets (λ_=>0) (κ.hash k);have hfr:UU ks t (κ.hash k) k 0:=λi e=>by
  have hi:i<t.place.size:=by rw[hsz];exact(Ai.mp e).1
  obtain⟨kk,p1,p2⟩:=X.m i _ (κ.hash k) (AM hi) (by rw[Aq,e];rfl)
  exact⟨kk,AS _,by rw[p1];exact wx X.c (AM hi),p2⟩
 have hturn:10*turns t.mask<=10*526:=by unfold turns;omega
 unfold setAddHashed setAddHashedIn;refine Bo (dm (B5 ho hd hf ?_));dsimp only;rw[show byScan (.ref x) es=false from rfl];simp only[Aw,if_false];refine dm ?_;unfold setSearch;refine sG ho hd hf hel X hg hr hk hK he 100000 0 none (AS _) ⋯ rfl hfr (λk' hk'=>absurd hk' (Ds _)) (λhm=>?_) (λhm kk hz hlv=>?_)
 . dsimp only
   refine xd ?_;have:=h s.heap ks (Cm.refl a s.heap) hS0 (by rw[if_pos hm])
   rw[decide_eq_true hm]at this;exact this
 . dsimp only
   refine dm (B5 ho hd hf ?_);dsimp only;obtain⟨hp,R⟩:=X.put hz (TU kk) hlv (by rw[hsz,Z];omega)
   rw[Aa]at hp;generalize hpt:t.put (lk t (κ.hash k) kk).j=PT at hp R;have hpt1:PT.1.plain=t.plain/\PT.1.mask=t.mask/\PT.1.led=t.led:=by rw[<-hpt];exact⟨rfl,rfl,rfl⟩
   obtain⟨Y,p⟩:=PT;dsimp only at hp R hpt1 ⊢;obtain⟨pl1,mk1,ld1⟩:=hpt1;rw[show (ks.map κ.hash).take p++κ.hash k::(ks.map κ.hash).drop p=(ks.take p++k::ks.drop p).map κ.hash by rw[Dt,AF,List.map_take,List.map_drop]]at R
   have hel1:=hel.put hp hk;have W:=bP (ks:=ks) (p:=p) (k:=k);have hnd1:(ks.take p++k::ks.drop p).Nodup:=W.nodup_iff.mpr (Bc.mpr ⟨hm,hnd⟩);have N:(ks.take p++k::ks.drop p).length=ks.length+1:=W.length_eq;generalize ks.take p++k::ks.drop p=ks1 at *;generalize insertAt es p (κ.hash k,Bb x)=U at *;have hes1:U.size=ks.length+1:=by rw[hel1.1,N]
   have hf1:=fits_of hel1 R;have sb:=Ci s.heap a (F2 U Y);have hgt:(s.heap.update a (F2 U Y)).get? a=some {o with data:=.set U (ep+1) Y}:=by
    have:=B6 (F2 U Y) ho (by rw[Iz _ _ hd];rfl)
    rw[Iz _ _ hd]at this;exact this
   have hel2:=hel1.keeps ho hd sb;have fill1:Y.fill=ks.length+1:=by unfold BQ.fill;rw[R.g,R.d,Aa,N];rfl
   rw[pl1,hpl];simp only[if_true];refine dm (κ.g hk ?_);simp only[if_true];refine dm (wpAny_storeSet_of ho hd ?_ (by rw[hes1,Bk];omega))
   have fin:∀h' S,Cm a (s.heap.update a (F2 U Y)) h'->ym κ ld h' a S->S.Perm ks1->Q true {s with heap:=h'}:=λh' S sb' st pm=>by
    have:=h h' S (sb.trans sb') st (by rw[if_neg hm];exact pm.trans W)
    rw[decide_eq_false hm]at this;exact this
   rcases gR hn with⟨n1,n2⟩|⟨n1,n2,n3⟩
   . have hnf:Y.tooFull=false:=by unfold BQ.tooFull;rw[fill1,mk1,Z];exact decide_eq_false ⋯
     rw[hnf];simp only[HZ,Aw,if_false];exact xd (fin _ ks1 (Cm.refl a _) ⟨_,U,ep+1,Y,hgt,hex,rfl,hel2,hnd1,R,by rw[pl1];exact hpl,by rw[ld1];exact hld,by rw[mk1,Z,N,n2],by rw[N];exact hn⟩ (Er _))
   . have hnf:Y.tooFull=true:=by unfold BQ.tooFull;rw[fill1,mk1,Z];exact decide_eq_true ⋯
     rw[hnf];simp only[Bool.not_false,Fw,if_true];have hw:grown (es.size+1)=grown (ks.length+1):=by rw[hel.1]
     rw[hw];refine dm ?_;refine Sb (k0:=k) (t:=Y) (ks:=ks1) (o:={o with data:=.set U (ep+1) Y}) (ep:=ep+1) hgt hex rfl hel2 hnd1 R (by rw[pl1];exact hpl) (by rw[N];exact n2) n3 (by rw[N];exact hn) λh' S sb' st pm=>?_
     rw[ld1,hld]at st;exact xd (fin h' S sb' st pm)
end
noncomputable def zv(w:World):Bool:=w.params.followText "set-order"
def mL ld:Ok [] (BQ.fresh 0 0 ld):=by
 refine⟨rfl,λi j _ N=>absurd N (Ds _),rfl,λi j e=>?_,AS _,Y5,λi j h e=>?_⟩
 . have e:(#[]:Array Nat)[i]?=some j:=e
   rw[EC]at e;cases e
 . have e:(#[]:Array Nat)[i]?=some j:=e
   rw[EC]at e;cases e
theorem rK{N:Type}:∀{l:List N} {i} (h:i<l.length),(l[i]::l.eraseIdx i).Perm l
 |a::l,0,_=>Er _
 |a::l,i+1,h=>by rw[List.eraseIdx_cons_succ,List.getElem_cons_succ];exact(HH.swap _ _ _).trans ((rK (l:=l) (i:=i) (by rw[Ak]at h;omega)).cons a)
theorem iP:∀N k (left:List α) out,left.length=N->(HI.go next N k left out).toList.Perm (out.toList++left)
 |0,k,left,out,h=>by
  rw[Hy.mp h,A1];unfold HI.go;exact Er _
 |N+1,k,left,out,h=>by
  unfold HI.go;have R:next k%left.length<left.length:=F0 _ ⋯
  rw[pn R];dsimp only;refine(iP N (k+1) _ _ (by rw[List.length_eraseIdx_of_lt R];omega)).trans ?_
  rw[CZ,An];refine HH.append_left _ ?_;exact rK R
def tu:(HI next xs).toList.Perm xs.toList:=by unfold HI;refine(iP xs.size 0 xs.toList #[] Ax).trans ?_;exact Er _
section
variable {prog:Program}{w:World}{K:Type} [DecidableEq K] {κ:xS prog w K}
variable {A:Around}{E:Value->Shared->Prop}{s:Shared}
def Zh(h:∀o,ym κ (!zv w) (s.heap.push o) s.heap.objs.size []->Q (.ref s.heap.objs.size) {s with heap:=s.heap.push o}):wpAny (model prog w) A (newSet (.type "set")) Q E s:=by unfold newSet G2;refine dm (dm (Cc (xd ?_)));dsimp only;simp only[newObj];exact dm (wpAny_alloc (xd (h _ ⟨_,#[],0,_,Az _ rfl,⟨rfl,rfl,rfl⟩,rfl,⟨rfl,λi k e=>by cases e⟩,Gi,mL _,rfl,rfl,rfl,AS _⟩)))
def y7.perm(x:y7 κ h ks es)(p:es'.toList.Perm es.toList):∃N:List K,N.Perm ks/\y7 κ h N es':=by
 -- entries with their keys
 have key:∀{l W:List (Int × Value)},l.Perm W->∀ks:List K,(ks.length=W.length/\∀(i:Nat) (k:K),ks[i]?=some k->∃b,W[i]?=some (κ.hash k,Bb b)/\κ.is h k b)->∃N:List K,N.Perm ks/\N.length=l.length/\∀(i:Nat) (k:K),N[i]?=some k->∃b,l[i]?=some (κ.hash k,Bb b)/\κ.is h k b:=by
  intro l W p;induction p with
  |nil=>intro ks hk;exact⟨ks,Er _,hk.1,hk.2⟩
  |@cons a l1 l2 _ ih=>
   intro ks hk;cases ks with
   |nil=>have:=hk.1;simp at this
   |cons k ks=>
    obtain⟨N,U,p2,S⟩:=ih ks ⟨by simpa using hk.1,λi R e=>hk.2 (i+1) R e⟩
    refine⟨k::N,U.cons _,by rw[Ak,Ak,p2],λi R e=>?_⟩
    cases i with
    |zero=>exact hk.2 0 R e
    |succ i=>exact S i R e
  |swap a b l1=>
   intro ks hk;cases ks with
   |nil=>have:=hk.1;simp at this
   |cons k ks=>
    cases ks with
    |nil=>have:=hk.1;simp at this
    |cons X ks=>
     refine⟨X::k::ks,HH.swap _ _ _,hk.1,λi R e=>?_⟩;cases i with
     |zero=>exact hk.2 1 R e
     |succ i=>
      cases i with
      |zero=>exact hk.2 0 R e
      |succ i=>exact hk.2 (i+2) R e
  |trans _ _ Z Y=>
   intro ks hk;obtain⟨X,U,p2,S⟩:=Y ks hk;obtain⟨k3,q1,q2,q3⟩:=Z X ⟨p2,S⟩;exact⟨k3,q1.trans U,q2,q3⟩
 obtain⟨N,U,p2,S⟩:=key p ks ⟨by rw[Ax];exact x.1.symm,λi k e=>by obtain⟨b,h1,h2⟩:=x.2 i k e;exact⟨b,by rw[Bm];exact h1,h2⟩⟩
 exact⟨N,U,by rw[<-Ax];exact p2.symm,λi k e=>by obtain⟨b,h1,h2⟩:=S i k e;exact⟨b,by rw[<-Bm];exact h1,h2⟩⟩
end
section
variable {prog:Program}{w:World}
variable {A:Around}{E:Value->Shared->Prop}{s:Shared}
theorem items_int:∀{ks} {vs},ItemsAre (intKind prog w) ks vs->∀v∈vs,∃i t,v=.int i t
 |_,_,.cons (k:=k) h1 h2,v,N=>by
  rcases Al.mp N with rfl|N
  . obtain⟨t,rfl⟩:=GL h1
    exact⟨_,t,rfl⟩
  . exact items_int h2 v N
def Yh(hk:D7 (intKind prog w) s.heap ks a)(h:Q false s):wpAny (model prog w) A (Eg 8 (.ref a)) Q E s:=by
 have W:=hk.typeIs;obtain⟨o,items,n,U,_,hd,hi⟩:=hk;unfold Eg;refine dm (DO W ?_);dsimp only;refine dm (xd ?_);simp only[EG,Aw,if_false];refine dm (CI U hd ?_);dsimp only;refine dm ?_;show wpAny _ _ (forIn items _ _) _ _ s;rw[<-Array.forIn_toList];refine Hm _ (λrest r s'=>r.1=none/\s'=s/\∀v∈rest,∃i t,v=Dh i t) _ ?_ ?_ _ _ ⟨rfl,rfl,items_int hi⟩
 . rintro v rest r s' ⟨S,rfl,N⟩
   obtain⟨i,t,rfl⟩:=N v AE;refine dm (DL (show Eg 7 (.int i t)=pure false by unfold Eg;rfl) ?_)
   simp only[Aw,if_false];exact xd ⟨rfl,rfl,λu R=>N u (Ay _ R)⟩
 . rintro ⟨Y,X⟩ s' ⟨S,rfl,_⟩
   simp only at S;subst S;exact xd h
def Yg(hk:D7 (intKind prog w) s.heap ks a)(h:Q true s):wpAny (model prog w) A (Gn 8 (.ref a)) Q E s:=by
 have W:=hk.typeIs;obtain⟨o,items,n,U,_,hd,hi⟩:=hk;unfold Gn;refine dm (wpAny_specialOf W F.slot_tuple_hash.lookup ?_);dsimp only;refine dm (CI U hd ?_);dsimp only[FC];refine dm ?_;show wpAny _ _ (forIn items _ _) _ _ s;rw[<-Array.forIn_toList];refine Hm _ (λrest r s'=>r.1=none/\s'=s/\∀v∈rest,∃i t,v=Dh i t) _ ?_ ?_ _ _ ⟨rfl,rfl,items_int hi⟩
 . rintro v rest r s' ⟨S,rfl,N⟩
   obtain⟨i,t,rfl⟩:=N v AE;refine dm (DL (show Gn 7 (.int i t)=pure true by unfold Gn;rfl) ?_)
   simp only[EG,Aw,if_false];exact xd ⟨rfl,rfl,λu R=>N u (Ay _ R)⟩
 . rintro ⟨Y,X⟩ s' ⟨S,rfl,_⟩
   simp only at S;subst S;exact xd h
def fR{es ep t}(x:D7 (intKind prog w) h ks a)(W:h.get? d=some o)(hd:o.data=.set es ep t)(hs:Cm d h h'):D7 (intKind prog w) h' ks a:=by
 obtain⟨U,items,n,R,X,N,hi⟩:=x;have S:a≠d:=by rintro rfl;obtain rfl:U=o:=AH (R.symm.trans W);rw[hd]at N;exact nomatch N
 exact⟨U,items,n,(hs.2 a S).trans R,X,N,hi⟩
noncomputable def tupS(prog:Program)(w:World):xS prog w (List Int):={tupleKind (intKind prog w) with f:=λhk h=>Yh hk h,g:=λhk h=>Yg hk h,e:=λx N hd hs=>fR x N hd hs,i:=λx k=>let ⟨o,items,n,N,R,hd,hi⟩:=x;⟨o,items,n,k _ _ N,R,hd,hi⟩}
end
section
variable {prog:Program}{w:World}{K:Type} [DecidableEq K] {κ:xS prog w K}
variable {A:Around}{E:Value->Shared->Prop}{s:Shared}
noncomputable def xu(t:BQ)(i:Nat):Nat:=match i with
 |0=>0
 |i+1=>t.place.getD i 0+1
def lH(h:pQ t.place)(hi:i<=t.place.size):below t.place (xu t i)=i:=by
 obtain⟨S,N,R⟩:=uA h (xu t i);cases i with
 |zero=>
  rcases Nat.eq_zero_or_pos (below t.place (xu t 0)) with q|q
  . exact q
  . have:=N 0 q
    exact absurd this (Ds _)
 |succ i=>
  rcases Ef (below t.place (xu t (i+1))) (i+1) with q|q|q
  . have z:=R i ⋯ ⋯
    have z:t.place.getD i 0+1<=t.place.getD i 0:=z;omega
  . exact q
  . have z:=N (i+1) q
    have z:t.place.getD (i+1) 0<t.place.getD i 0+1:=z;have:=h i (i+1) ⋯ ⋯
    omega
def fK(hS:ym κ (!zv w) s.heap a ks):∃(W:Array (Int × Value)) (R:List K) (sl:Nat->Nat) (o:Obj) (es:Array (Int × Value)) (ep:Nat) (t:BQ),s.heap.get? a=some o/\o.data=.set es ep t/\o.ExactSet/\es.size=ks.length/\t.fits es.size=true/\sl 0=0/\R.Perm ks/\y7 κ s.heap R W/\W.size=ks.length /\
 ∀A' s' i E' Q,s'.heap.get? a=some o->i<=ks.length->Q ((W[i]?).map λe=>(e.2,sl (i+1))) s'->wpAny (model prog w) A' (setNext a (sl i) i ep) Q E' s':=by
 have hS0:=hS;obtain⟨o,es,ep,t,ho,hex,hd,N,hnd,Y,hpl,hld,hmk,hle⟩:=hS;have hf:=fits_of N Y;have Z:t.place.size=ks.length:=by rw[Y.d,Aa]
 cases hb:zv w with
 |true=>
  have X:(model prog w).w.params.followText "set-order"=true:=hb;obtain⟨R,p1,p2⟩:=N.perm (tu (next:=w.params.setOrder a ep) (xs:=es))
  refine⟨_,R,λ_=>0,o,es,ep,t,ho,hd,hex,N.1,hf,rfl,p1,p2,by rw[p2.1,p1.length_eq],λA' s' i E' Q U hi S=>?_⟩
  unfold setNext G2;refine dm (B5 U hd hf ?_);dsimp only;refine dm (dm (Cc (xd ?_)));dsimp only;rw[if_pos X];rw[if_neg (by simp)]
  refine dm ?_;unfold setWalk G2;refine dm (B5 U hd hf ?_);dsimp only;refine dm (dm (Cc (xd ?_)));dsimp only;rw[if_pos X];refine dm (Cc (xd ?_));exact xd S
 |false=>
  have X:¬(model prog w).w.params.followText "set-order"=true:=λz=>by rw[show zv w=true from z]at hb;cases hb
  have hled:t.led=true:=by rw[hld,hb];rfl
  refine⟨es,ks,xu t,o,es,ep,t,ho,hd,hex,N.1,hf,rfl,Er _,N,N.1,λA' s' i E' Q U hi S=>?_⟩;unfold setNext G2;refine dm (B5 U hd hf ?_);dsimp only;refine dm (dm (Cc (xd ?_)));dsimp only;rw[if_neg X];show wpAny (model prog w) A' (if (!t.plain&&decide (es.size > 1))=true then _ else (do
   (if (!t.led&&!es.isEmpty)=true then unsupported "set:maker-not-led" else pure ())
   _)) Q E' s'
  rw[hpl,hled];simp only[EG,Ei,Aw,if_false];refine dm (xd ?_);rw[lH Y.c (by rw[Z];exact hi)]
  cases he:es[i]? with
  |none=>
   rw[he]at S;exact xd S
  |some e=>
   have hip:i<t.place.size:=by rw[Z,<-N.1];exact(AV.mp he).1
   rw[he]at S;rw[AM hip];have hn:xu t (i+1)=t.place[i]+1:=by show t.place.getD i 0+1=_;rw[AL,AM hip];rfl
   obtain⟨x,y⟩:=e;have S:Q (some (y,xu t (i+1))) s':=S;rw[hn]at S;exact xd S
end
def z5:Slot "set_iterator" "__next__" "set_iterator.__next__":=
 .of (owner:="set_iterator") (n:="__next__") (by rw[HJ,FK];kernel_rfl) (by decide +kernel) (by decide +kernel) (by decide +kernel)
  (by first|exact .inl (by decide +kernel)|exact .inr (by decide +kernel)) (by rw[H9];kernel_rfl)
def xn:entryFor table "set_iterator.__next__"=some Builtin.«set_iterator.__next__»:=entryFor_of_fast (by kernel_rfl)
def wJ a:argsOk "set_iterator.__next__" ⟨[a],[]⟩:=by unfold argsOk;kernel_rfl
def yn(h:Heap)(it a:Addr)(N i n ep:Nat):Prop:=∃o,h.get? it=some o/\o.cls=.type "set_iterator"/\o.data=.fields #[.int N 0,.int i 0,.ref a,.int n 0,.int ep 0]
def yn.typeIs{s:Shared}{it a}(x:yn s.heap it a sl i n ep):s.TypeIs (.ref it) "set_iterator":=let ⟨o,N,R,_⟩:=x;⟨o,N,R⟩
def next_item{it a}(R:yn s.heap it a sl i n ep)(Z:s.heap.get? a=some o)(hd:o.data=.set es ep t)(hf:t.fits es.size=true)(hn:es.size=n)
 (hx:∀A' E' Y,Y (some (x,sl')) s->wpAny (model prog w) A' (setNext a sl i ep) Y E' s)
 (hQ:∀h',yn h' it a sl' (i+1) n ep->Cm it s.heap h'->Q (some x) {s with heap:=h'}):wpAny (model prog w) A (pyNext (.ref it)) Q E s:=by
 obtain⟨oi,N,hc,S⟩:=id R;unfold pyNext;refine dm (Fv (BC (name:=CO "__next__") R.typeIs z5
  (BA z5 R.typeIs xn ?_ (wJ _))))
 show wpAny _ _ (fieldsOf (.ref it) >>= _) _ _ s;refine dm (wpAny_fieldsOf N S ?_);dsimp only;refine dm (Ga Z hd hf ?_);rw[if_neg (by rw[hn];simp)]
 show wpAny _ _ (setNext a (sl:Int).toNat (i:Int).toNat (ep:Int).toNat >>= _) _ _ s;rw[Bv,Bv,Bv];refine dm (hx _ _ _ ?_);dsimp only;refine dm (Eo N S (by simp) ?_)
 have U:=E4 S (·.setIfInBounds 0 (rawInt sl'))
 have W:=B6 (Obj.mapFields (·.setIfInBounds 0 (rawInt sl'))) N (FJ U)
 refine dm (Eo W U (by simp) ?_)
 refine xd ⟨x,rfl,xd (hQ _ ?_ ((Ci ..).trans (Ci ..)))⟩;have X:=E4 U (·.setIfInBounds 1 (rawInt (i+1)))
 exact⟨_,B6 _ W (FJ X),(GY ..).trans ((GY ..).trans hc),by
  rw[X];simp[rawInt]⟩
def slot_set_iter:Slot "set" "__iter__" "set.__iter__":=
 .of (owner:="set") (n:="__iter__") (by rw[HJ,FK];kernel_rfl) (by decide +kernel) (by decide +kernel) (by decide +kernel)
  (by first|exact .inl (by decide +kernel)|exact .inr (by decide +kernel)) (by rw[H9];kernel_rfl)
def rJ:entryFor table "set.__iter__"=some Builtin.«frozenset.__iter__»:=
 entryFor_alias (id':="frozenset.__iter__") (by kernel_rfl) rfl (by decide +kernel) (by kernel_rfl)
def qK a:argsOk "set.__iter__" ⟨[a],[]⟩:=by unfold argsOk;kernel_rfl
def wO:Slot "set_iterator" "__iter__" "set_iterator.__iter__":=
 .of (owner:="set_iterator") (n:="__iter__") (by rw[HJ,FK];kernel_rfl) (by decide +kernel) (by decide +kernel) (by decide +kernel)
  (by first|exact .inl (by decide +kernel)|exact .inr (by decide +kernel)) (by rw[H9];kernel_rfl)
def uJ:entryFor table "set_iterator.__iter__"=some Builtin.«dict_keyiterator.__iter__»:=
 entryFor_alias (id':="dict_keyiterator.__iter__") (by kernel_rfl) rfl (by decide +kernel) (by kernel_rfl)
def uY a:argsOk "set_iterator.__iter__" ⟨[a],[]⟩:=by unfold argsOk;kernel_rfl
def next_end{it a}(Y:A.handled=none)(N:yn s.heap it a sl i n ep)(W:s.heap.get? a=some o)(hd:o.data=.set es ep t)(Z:t.fits es.size=true)(X:es.size=n)
 (hx:∀A' E' U,U none s->wpAny (model prog w) A' (setNext a sl i ep) U E' s)
 (hQ:∀h',Heap.ExtBut it s.heap h'->Q none {s with heap:=h'}):wpAny (model prog w) A (pyNext (.ref it)) Q E s:=by
 obtain⟨oi,R,hc,S⟩:=id N;unfold pyNext;refine dm (Fv (BC (name:=CO "__next__") N.typeIs z5
  (BA z5 N.typeIs xn ?_ (wJ _))))
 show wpAny _ _ (fieldsOf (.ref it) >>= _) _ _ s;refine dm (wpAny_fieldsOf R S ?_);dsimp only;refine dm (Ga W hd Z ?_);rw[if_neg (by rw[X];simp)]
 show wpAny _ _ (setNext a (sl:Int).toNat (i:Int).toNat (ep:Int).toNat >>= _) _ _ s;rw[Bv,Bv,Bv];refine dm (hx _ _ _ ?_);dsimp only;refine dm (Eo R S (by simp) ?_)
 show wpAny _ _ (newExc (.type "StopIteration") [] >>= _) _ _ _;refine dm ?_;simp only[newExc,newTuple];refine dm (A4 ?_ (by size_fits))
 refine dm (m:=Gh _ _) (DL (a:=Ac) (by first|rfl|(simp only[Gh];rfl)) ?_)
 refine A4 ?_ (by size_fits)
 simp only[raiseNew];refine dm (wpAny_handled ?_);rw[show A.in1.handled=none from Y];refine dm (xd (wpAny_throw ?_));refine dm (Hl (T:="StopIteration") (b:=true) ⟨_,Az _ rfl,rfl⟩ isSubtype_stop ?_);exact xd (hQ _ (((Ci ..).extBut.push _).push _))
def dH [DecidableEq K] {κ:xS prog w K}{ks}(hS:ym κ (!zv w) s.heap a ks)
 (hQ:∀o es ep t,s.heap.get? a=some o->o.data=.set es ep t->Q (.ref s.heap.objs.size) {s with heap:=s.heap.push {cls:=.type "set_iterator",data:=.fields #[.int (0:Nat) 0,.int (0:Nat) 0,.ref a,.int (ks.length:Nat) 0,.int (ep:Nat) 0]}}) :
 wpAny (model prog w) A (pyIter (.ref a)) Q E s:=by
 obtain⟨o,es,ep,t,N,X,hd,R,hnd,U,S,hld,hmk,hle⟩:=hS;have W:=fits_of R U;have Z:s.TypeIs (.ref a) "set":=⟨o,N,X.1⟩;refine wpAny_pyIter_slot Z slot_set_iter (BA slot_set_iter Z rJ ?_ (qK _));unfold Builtin.«frozenset.__iter__» Builtin.Frozenset.slot0 slotArgs;simp only[Hn,EG,Aw,↓reduceIte,Ic,B8,bne_self_eq_false];unfold Ho Builtin.Frozenset.sizeOf;refine dm (xd ?_)
 try dsimp only
 refine dm (xd ?_);refine dm (dm (Ga N hd W (xd ?_)));refine dm ?_;unfold setDrawn G2;refine dm (B5 N hd W ?_);dsimp only;refine dm (dm (Cc (xd ?_)));dsimp only;refine xd ?_;have Y:∀b:Bool,(b&&(!t.plain&&decide (es.size > 1)))=false:=λb=>by rw[S];cases b<;>rfl
 show wpAny _ _ (if (!(model prog w).w.params.followText "set-order"&&(!t.plain&&decide (es.size > 1)))=true then _ else _) _ _ s
 rw[Y,if_neg Ag];refine dm (xd ?_);refine dm (wpAny_setEpoch_of N hd W ?_);refine dm (A4 (xd ⟨_,rfl,"set_iterator",_,⟨_,Az _ rfl,rfl⟩,z5.lookup,?_⟩));have:=hQ o es ep t N hd;rw[<-R.1]at this;exact this
def gF{it a}(N:yn s.heap it a sl i n ep)(R:Q (.ref it) s):wpAny (model prog w) A (pyIter (.ref it)) Q E s:=by refine wpAny_pyIter_slot N.typeIs wO (BA wO N.typeIs uJ ?_ (uY _));exact xd ⟨_,rfl,"set_iterator",_,N.typeIs,z5.lookup,R⟩
def fX{s:Shared} [DecidableEq K] {κ:xS prog w K}{a it}{ks}(hh:A.handled=none)(hne:a≠it)(hS:ym κ (!zv w) s.heap a ks):∃(W:Array (Int × Value)) (N:List K) (S:Nat->Nat) (o:Obj) (es:Array (Int × Value)) (ep:Nat) (t:BQ),s.heap.get? a=some o/\o.data=.set es ep t/\S 0=0/\N.Perm ks/\y7 κ s.heap N W/\W.size=ks.length /\
 Walks prog w A it [it,a] [it] ks.length (λi v=>∃e,W[i]?=some e/\e.2=v) (λi h=>yn h it a (S i) i ks.length ep/\h.get? a=some o):=by
 obtain⟨W,N,S,o,es,ep,t,ho,hd,hex,Y,hf,h0,hp,hel,hW,nx⟩:=fK hS;refine⟨W,N,S,o,es,ep,t,ho,hd,h0,hp,hel,hW,⟨λb R=>by simp at R;simp[R],λi h h' st hk=>⟨?_,hk a (by simp) _ st.2⟩,λi s1 Q E1 hi st Z=>?_,λs1 Q E1 st Z=>?_,λi s1 Q E1 st Z=>gF st.1 Z⟩⟩
 . obtain⟨oi,x1,x2,x3⟩:=st.1
   exact⟨oi,hk it (by simp) _ x1,x2,x3⟩
 . have X:i<W.size:=by rw[hW];exact hi
   refine next_item (x:=W[i].2) (sl':=S (i+1)) st.1 st.2 hd hf Y (λA' E' Q' hq=>?_) λh' U sb=>?_
   . have:=nx A' s1 i E' Q' st.2 ⋯
     rw[AM X]at this;exact this hq
   . exact Z _ h' s1.toks ⟨_,AM X,rfl⟩ ⟨U,(sb.2 a hne).trans st.2⟩ λb o' R e=>sb.extBut b o' (λh=>R (by simp[h])) e
 . refine next_end hh st.1 st.2 hd hf Y (λA' E' Q' hq=>?_) λh' eb=>Z h' s1.toks λb o' R e=>eb b o' (λh=>R (by simp[h])) e
   have:=nx A' s1 ks.length E' Q' st.2 (Ab _);rw[Fp (by rw[hW];exact Ab _)]at this
   exact this hq
end M.St
end
section
set_option maxHeartbeats 400000
namespace M.St
open PySem PySem.SetTable
section
variable {prog:Program}{w:World}{K:Type} [DecidableEq K] {κ:xS prog w K}
variable {A:Around}{E:Value->Shared->Prop}{s:Shared}
def ym.ext{h h':Heap}(x:ym κ ld h a ks)(k:∀b o,h.get? b=some o->h'.get? b=some o):ym κ ld h' a ks:=by
 obtain⟨o,es,ep,t,U,R,hd,N,r⟩:=x;exact⟨o,es,ep,t,k _ _ U,R,hd,⟨N.1,λi S e=>by obtain⟨b,X,W⟩:=N.2 i S e;exact⟨b,X,κ.i W k⟩⟩,r⟩
def ym.typeIs(x:ym κ ld s.heap a ks):s.TypeIs (.ref a) "set":=by obtain⟨o,es,ep,t,R,N,_⟩:=x;exact⟨o,R,N.1⟩
def ym.lt(x:ym κ ld h a ks):a<h.objs.size:=by obtain⟨o,es,ep,t,N,_⟩:=x;exact Am N
def nO(hh:A.handled=none)(hS:ym κ (!zv w) s.heap a ks)
 (hQ:∀s' (Y:List K) (acc:List Value),Y.Perm ks->acc.length=ks.length->(∀(i:Nat) k,Y[i]?=some k->∃b,acc[i]?=some (.ref b)/\κ.is s.heap k b)->Moved [] (λx y=>y=x) s s'->Q acc s'):wpAny (model prog w) A (collect (.ref a)) Q E s:=by
 have hlt:@LT.lt Nat _ a s.heap.objs.size:=hS.lt;have hn306:ks.length<=306:=by obtain⟨_,_,_,_,_,_,_,_,_,_,_,_,_,h⟩:=hS;exact h
 unfold collect;refine dm (wpAny_runValue (D8 F.entry_proto_collect ?_));rw[DI F.plain_proto_collect _];show wpAny _ A.in1 (newList [] >>= λl=>again (.builtin "list.__iadd__" ⟨[l,.ref a],[]⟩)) _ _ s;refine dm (A4 ?_);refine xd ⟨GI F.plain_list_iadd _,D8 F.entry_list_iadd ?_⟩;rw[DI F.plain_list_iadd _];have hS1:=hS.ext (h':=s.heap.push {cls:=.type "list",data:=.seq ([]:List Value).toArray}) λb o e=>zO _ e;have hSI:s.heap.objs.size≠a:=Dk hlt;show wpAny _ A.in1 (Gw (.ref s.heap.objs.size) (.ref a) (.ref s.heap.objs.size)) _ _ _;unfold Gw;refine dm (DO (s:={s with heap:=s.heap.push {cls:=.type "list",data:=.seq ([]:List Value).toArray}}) hS1.typeIs ?_)
 have h1:Hq (.ref s.heap.objs.size) (.ref a)=false:=by simp[Hq,hSI]
 have h2:(Dd "set" == Dd "list")=false:=by decide
 have h3:(Dd "set" == Dd "tuple")=false:=by decide
 simp only[h1,h2,h3,Bool.or_false,Aw,if_false];refine dm (dH (s:={s with heap:=s.heap.push {cls:=.type "list",data:=.seq ([]:List Value).toArray}}) hS1 λo es ep t ho hd=>?_)
 have hS2:=hS1.ext (h':=(s.heap.push {cls:=.type "list",data:=.seq ([]:List Value).toArray}).push {cls:=.type "set_iterator",data:=.fields #[.int (0:Nat) 0,.int (0:Nat) 0,.ref a,.int (ks.length:Nat) 0,.int (ep:Nat) 0]}) λb o e=>zO _ e;have hsz:(s.heap.push {cls:=.type "list",data:=.seq ([]:List Value).toArray}).objs.size=s.heap.objs.size+1:=by simp[Heap.push]
 have hne:a≠(s.heap.push {cls:=.type "list",data:=.seq ([]:List Value).toArray}).objs.size:=by rw[hsz];exact AD (Cg hlt)
 generalize S:(s.heap.push {cls:=.type "list",data:=.seq ([]:List Value).toArray}).objs.size=it at hne ⊢;obtain⟨W,Y,sl,o',es',ep',t',ho',hd',h0,hp,hel,hW,wk⟩:=fX (A:=A.in1) (s:=s) (it:=it) hh hne hS;have eo:o'=o:=AH ((zO _ ho').symm.trans ho);subst eo;rw[hd]at hd';obtain⟨rfl,rfl,rfl⟩:es=es'/\ep=ep'/\t=t':=by cases hd';exact⟨rfl,rfl,rfl⟩
 have hT2:Shared.TypeIs {s with heap:=(s.heap.push {cls:=.type "list",data:=.seq ([]:List Value).toArray}).push {cls:=.type "set_iterator",data:=.fields #[.int (0:Nat) 0,.int (0:Nat) 0,.ref a,.int (ks.length:Nat) 0,.int (ep:Nat) 0]}} (.ref a) "set":=hS2.typeIs
 refine dm (Bo ?_);unfold Builtin.List.listLengthHint;refine dm (wpAny_specialOf hT2 F.slot_set_len.lookup ?_)
 wp_delta
 refine dm (Hl (T:="set") (b:=true) hT2 sub_set_self ?_);show wpAny _ _ (typeOf (Bb a) >>= _) _ _ _;refine dm (DO hT2 ?_);refine xd ?_;rw[if_pos (by decide)]
 refine dm (BE ?_);have R:((s.heap.push {cls:=.type "list",data:=.seq ([]:List Value).toArray}).push {cls:=.type "set_iterator",data:=.fields #[.int (0:Nat) 0,.int (0:Nat) 0,.ref a,.int (ks.length:Nat) 0,.int (ep:Nat) 0]}).get? s.heap.objs.size=some {cls:=.type "list",data:=.seq ([]:List Value).toArray}:=zO _ (Az _ rfl);have hI0:((s.heap.push {cls:=.type "list",data:=.seq ([]:List Value).toArray}).push {cls:=.type "set_iterator",data:=.fields #[.int (0:Nat) 0,.int (0:Nat) 0,.ref a,.int (ks.length:Nat) 0,.int (ep:Nat) 0]}).get? it=some {cls:=.type "set_iterator",data:=.fields #[.int (0:Nat) 0,.int (0:Nat) 0,.ref a,.int (ks.length:Nat) 0,.int (ep:Nat) 0]}:=by rw[<-S];exact Az _ rfl
 have hSf:s.heap.objs.size ∉ [it,a]:=by
  intro h;simp only[Al,Bt,or_false]at h;rcases h with h|h
  . rw[<-S,hsz]at h;exact absurd h (AD (CF _))
  . exact hSI h
 refine dm ?_;show wpAny _ A.in1 (updateSeq s.heap.objs.size (·.push .none) >>= λ_=>updateSeq s.heap.objs.size (·.pop)) _ _ _
 refine dm (wpAny_updateSeq R rfl ?_);have N:=B6 (B3 (·.push Ac)) R rfl
 refine wpAny_updateSeq N rfl ?_;have hS₃:=B6 (B3 (·.pop)) N rfl
 have oth:∀(h:Heap) b o,b≠s.heap.objs.size->h.get? b=some o->((h.update s.heap.objs.size (B3 (·.push Ac))).update s.heap.objs.size (B3 (·.pop))).get? b=some o:=
  λh b o hb e=>(Eb _ _ (BJ hb)).trans ((Eb _ _ (BJ hb)).trans e)
 have hI3:=oth _ it _ (λh=>hSf (by rw[<-h];exact AE)) hI0
 have ho3:=oth _ a _ (λh=>hSI h.symm) (zO {cls:=.type "set_iterator",data:=.fields #[.int (0:Nat) 0,.int (0:Nat) 0,.ref a,.int (ks.length:Nat) 0,.int (ep:Nat) 0]} (zO {cls:=.type "list",data:=.seq ([]:List Value).toArray} ho'));have st0:yn _ it a (sl 0) 0 ks.length ep/\_:=⟨⟨_,hI3,rfl,by rw[h0]⟩,ho3⟩
 clear hI0 R N;refine xd ⟨GI F.plain_extend_loop _,codeAny_extend_loopS wk.toS (Ao hn306 (by decide)) _ hSf _ ks.length 0 _ _ _ rfl (AS _) st0 hS₃ (ItemsOf.nil _) λs' X c' hm hS' U=>?_⟩
 show wpAny _ A (load s.heap.objs.size >>= _) _ _ s';refine dm (wpAny_load hS' ?_);refine xd (hQ s' Y X.toList hp (by simpa using U.1) (λi k e=>?_) ?_)
 . obtain⟨b,e1,e2⟩:=hel.2 i k e
   have hi:i<X.size:=by rw[U.1,<-hW];exact(AV.mp e1).1
   obtain⟨e',w1,w2⟩:=U.2 i X[i] (AM hi);rw[e1]at w1;cases w1;refine⟨b,?_,?_⟩
   . rw[Bm,AM hi,<-w2]
   . exact e2
 . refine⟨λb o hb e=>?_,hm.gens,hm.drawn,hm.os,hm.toks⟩
   have e3:=oth _ b o (AD (Am e)) (zO {cls:=.type "set_iterator",data:=.fields #[.int (0:Nat) 0,.int (0:Nat) 0,.ref a,.int (ks.length:Nat) 0,.int (ep:Nat) 0]} (zO {cls:=.type "list",data:=.seq ([]:List Value).toArray} e));refine hm.heap b o (λh=>?_) e3;have Z:=Am e;simp only[Al,Bt,or_false]at h;rcases h with h|h
   . rw[h]at Z;exact BR _ Z
   . rw[h,<-S,hsz]at Z;exact absurd (FU (CF _) Z) (BR _)
end
end M.St
end
section
set_option maxHeartbeats 1000000
namespace L2
open PySem PySem.W PySem.Calls PyProof PyProof.Rows
section
variable {prog:Program}{w:World}{A:Around}{E:Value->Shared->Prop}{s:Shared}
def lE(prog:Program)(w:World)(A:Around)(vs:List Value)(Q:Value->Shared->Prop)(s:Shared):Prop:=∃(κ:DP) (key:Keyed->Int),2<=vs.length/\vs.length<=16777216 /\
 (∀h' (N:DP->Shared->Prop),(∀b o,s.heap.get? b=some o->h'.get? b=some o)->N κ {s with heap:=h'}->wpAny (model prog w) A.in1.in1 (keyKind' vs.toArray) N (λ_ _=>False) {s with heap:=h'}) /\
 (∀h' i j C,(∀b o,s.heap.get? b=some o->h'.get? b=some o)->i<vs.length->j<vs.length->C (decide (key (itm vs i)<key (itm vs j))) {s with heap:=h'}->wpAny (model prog w) A.in1.in1 (keyLt' κ (vs.getD i Ac) (vs.getD j Ac)) C (λ_ _=>False) {s with heap:=h'}) /\
 (∀i j,i<vs.length->j<vs.length->key (itm vs i)=key (itm vs j)->i=j) /\
 (∀(h':Heap) (c:Nat) (ix:List Nat),(∀b o,s.heap.get? b=some o->h'.get? b=some o)->ix.Perm (Ah vs.length)->ix.Pairwise (λi j=>key (itm vs i)<key (itm vs j)) ->
  h'.get? s.heap.objs.size=some (seqObj "list" (ix.map λi=>vs.getD i Ac).toArray c)->Q (.ref s.heap.objs.size) {s with heap:=h'})
def lD(vs:List Value)(Q:Value->Shared->Prop)(s:Shared):Prop:=vs.length<2 /\
 ∀(h':Heap) (c:Nat),(∀b o,s.heap.get? b=some o->h'.get? b=some o)->h'.get? s.heap.objs.size=some (seqObj "list" vs.toArray c)->Q (.ref s.heap.objs.size) {s with heap:=h'}
def kn(hs:lD vs Q s):wpAny (model prog w) A.in1 (newList vs >>= λl=>holding [l] (call (.builtin "list.sort") [l]) >>= λ_=>ret l) (λfin s'=>∃v,fin=Fin.done (Flow.ret v)/\Q v s') E s:=by
 obtain⟨h2,h⟩:=hs;refine dm (GJ ?_ (by rw[Bk];omega))
 have N:(s.heap.push (seqObj "list" vs.toArray 0)).get? (s.heap.objs.size)=some (seqObj "list" vs.toArray 0):=Az _ rfl;have keep:∀b o,s.heap.get? b=some o->(s.heap.push (seqObj "list" vs.toArray 0)).get? b=some o:=λb o q=>zO _ q;show wpAny _ _ _ _ _ {s with heap:=s.heap.push (seqObj "list" vs.toArray 0)}
 generalize hg:s.heap.push (seqObj "list" vs.toArray 0)=g at N keep ⊢;refine dm (Bo (BA slot_list_sort ⟨_,N,rfl⟩ entry_list_sort ?body (args_list_sort _)))
 case body=>
  have ha:s.heap.objs.size<g.objs.size:=Am N;rw[list_sort_plain];refine dm (listItems_at N rfl ?_);refine dm (GK N rfl ?_ (by rw[Ae,Bk];omega) (AS _))
  obtain⟨Y,U⟩:∃Y,(g.update (s.heap.objs.size) (B3 λ_=>(#[]:Array Value))).get? (s.heap.objs.size)=some (seqObj "list" #[] Y):=⟨_,F3 N λ_=>#[]⟩;refine dm (HP U rfl ?_);refine dm (HY ?_ (by show vs.length<=_;rw[Bk];omega))
  refine dm (GJ ?_ (AS _));refine Bo ?_;have R:(((g.update (s.heap.objs.size) (B3 λ_=>(#[]:Array Value))).push (seqObj "tuple" vs.toArray 0)).push (seqObj "list" #[] 0)).get? (s.heap.objs.size)=some (seqObj "list" #[] Y):=
   zO _ (zO _ U)
  show wpAny (model prog w) _ _ _ _ {s with heap:=((g.update (s.heap.objs.size) (B3 λ_=>(#[]:Array Value))).push (seqObj "tuple" vs.toArray 0)).push (seqObj "list" #[] 0)}
  dsimp only;have W:vs.toArray.size<2:=by rw[Ae];exact h2
  rw[if_pos W,if_pos W];refine dm (xd ?_);rw[StateT.run_pure];refine dm (xd ?_);dsimp only;refine dm (HP R rfl ?_);have S:(arrOf (Ii general' (vs.toArray.zip vs.toArray) #[] 7 none)).map (·.2)=vs.toArray:=by
   show (vs.toArray.zip vs.toArray).map (·.2)=vs.toArray
   apply Hj.mp;simp[List.map_snd_zip]
  rw[S];refine dm (GK R rfl ?_ (AS _) (by rw[Ae,Bk];omega))
  simp only[bne_self_eq_false,Aw,if_false];refine xd ⟨_,rfl,xd ⟨_,rfl,?_⟩⟩;have hc:=F3 R λ_=>vs.toArray;refine h _ _ (λb o e=>?_) hc;have X:b<s.heap.objs.size:=Am e;have Z:b≠s.heap.objs.size:=AD X;rw[EK _ _ _ _ Z];refine zO _ (zO _ ?_);rw[EK _ _ _ _ Z];exact keep b o e
def fQ(hs:lE prog w A vs Q s):wpAny (model prog w) A.in1 (newList vs >>= λl=>holding [l] (call (.builtin "list.sort") [l]) >>= λ_=>ret l) (λfin s'=>∃v,fin=Fin.done (Flow.ret v)/\Q v s') E s:=by
 obtain⟨κ,key,h2,hz,kind,ask,dis,h⟩:=hs;have hs0:(vs.toArray.zip vs.toArray).size=vs.length:=by simp
 have un:∀{a:Array Keyed},a.Perm (vs.toArray.zip vs.toArray)->∃ix:List Nat,ix.Perm (Ah vs.length)/\ix.map (itm vs)=a.toList:=λ{a} hp=>r9 (by rw[<-j4];exact Dx.mp hp)
 have N:∀{a:Array Keyed} {ix:List Nat} (i:Nat) (hi:i<ix.length),ix.map (itm vs)=a.toList->Tim.kk key a i=key (itm vs ix[i]):=λ{a ix} i hi e=>by unfold Tim.kk;rw[AL,<-Bm,<-e,Aq,pn hi];rfl
 have ixl:∀{ix:List Nat},ix.Perm (Ah vs.length)->ix.length=vs.length:=λhp=>by rw[hp.length_eq,AZ]
 have X:∀{ix:List Nat},ix.Perm (Ah vs.length)->∀i (hi:i<ix.length),ix[i]<vs.length:=λhp i hi=>Ar.mp (hp.mem_iff.mp (B0 hi));have hD:Tim.Dis key (vs.toArray.zip vs.toArray):=λa hp i j hi Z hij e=>by obtain⟨ix,U,p2⟩:=un hp;rw[hs0,<-ixl U]at hi Z;rw[N i hi p2,N j Z p2]at e;exact hij ((G5 (U.nodup_iff.mpr Cp)).mp (dis _ _ (X U i hi) (X U j Z) e))
 refine dm (GJ ?_ (by rw[Bk];omega))
 have W:(s.heap.push (seqObj "list" vs.toArray 0)).get? (s.heap.objs.size)=some (seqObj "list" vs.toArray 0):=Az _ rfl;have keep:∀b o,s.heap.get? b=some o->(s.heap.push (seqObj "list" vs.toArray 0)).get? b=some o:=λb o q=>zO _ q;show wpAny _ _ _ _ _ {s with heap:=s.heap.push (seqObj "list" vs.toArray 0)}
 generalize hg:s.heap.push (seqObj "list" vs.toArray 0)=g at W keep ⊢;refine dm (Bo (BA slot_list_sort ⟨_,W,rfl⟩ entry_list_sort ?body (args_list_sort _)))
 case body=>
  rw[list_sort_plain];refine dm (listItems_at W rfl ?_);refine dm (GK W rfl ?_ (by rw[Ae,Bk];omega) (AS _))
  obtain⟨e1,ho1⟩:∃e1,(g.update (s.heap.objs.size) (B3 λ_=>(#[]:Array Value))).get? (s.heap.objs.size)=some (seqObj "list" #[] e1):=⟨_,F3 W λ_=>#[]⟩;refine dm (HP ho1 rfl ?_);refine dm (HY ?_ (by show vs.length<=_;rw[Bk];omega))
  refine dm (GJ ?_ (AS _));refine Bo ?_;have R:∀b o,s.heap.get? b=some o->(((g.update (s.heap.objs.size) (B3 λ_=>(#[]:Array Value))).push (seqObj "tuple" vs.toArray 0)).push (seqObj "list" #[] 0)).get? b=some o:=λb o e=>by have hlt:b<s.heap.objs.size:=Am e;refine zO _ (zO _ ?_);rw[EK _ _ _ _ (AD hlt)];exact keep b o e
  have Y:(((g.update (s.heap.objs.size) (B3 λ_=>(#[]:Array Value))).push (seqObj "tuple" vs.toArray 0)).push (seqObj "list" #[] 0)).get? (s.heap.objs.size)=some (seqObj "list" #[] e1):=
   zO _ (zO _ ho1)
  show wpAny (model prog w) _ _ _ _ {s with heap:=((g.update (s.heap.objs.size) (B3 λ_=>(#[]:Array Value))).push (seqObj "tuple" vs.toArray 0)).push (seqObj "list" #[] 0)}
  generalize ((g.update (s.heap.objs.size) (B3 λ_=>(#[]:Array Value))).push (seqObj "tuple" vs.toArray 0)).push (seqObj "list" #[] 0)=g6 at Y R ⊢;dsimp only;have h2':¬vs.toArray.size<2:=by rw[Ae];omega
  rw[if_neg h2',if_neg h2'];refine dm (Cj (kind g6 (λS s'=>S=κ/\s'={s with heap:=g6}) R ⟨rfl,rfl⟩) (λS s' hk=>?_) λ_ _ x=>x.elim)
  obtain⟨rfl,rfl⟩:=hk;have L:Tim.sk prog w A.in1.in1 (λ_ _=>False) {s with heap:=g6} S (vs.toArray.zip vs.toArray) key:=λx y st Q' hx hy hk hq=>by
   rw[j4]at hx hy;obtain⟨i,hi,rfl⟩:=A2.mp hx;obtain⟨j,Z,rfl⟩:=A2.mp hy;rw[lt'_eq];refine Aj (wpS_get ?_);rw[hk];refine Aj (Gf (Fv (Cj (ask g6 i j (λc s'=>s'={s with heap:=g6}/\c=decide (key (itm vs i)<key (itm vs j))) R (Ar.mp hi) (Ar.mp Z) ⟨rfl,rfl⟩) (λc s' hc=>?_) λ_ _ hF=>hF.elim)))
   obtain⟨rfl,rfl⟩:=hc;exact⟨rfl,Au hq⟩
  refine dm (Cj (Tim.YL L hD (st:=Ii S (vs.toArray.zip vs.toArray) #[] 7 none) (Q:=λ_ st'=>Tim.Bs S (vs.toArray.zip vs.toArray) st'/\Tim.SIn key (arrOf st') 0 (vs.toArray.zip vs.toArray).size) ⟨rfl,.refl _,rfl⟩ rfl (by rw[hs0];exact h2) λst' a b=>⟨a,b⟩) ?_ λ_ _ x=>x.elim)
  rintro ⟨⟨⟩,st'⟩ s' ⟨rfl,hB,hS⟩;dsimp only at hB hS ⊢;obtain⟨ix,U,p2⟩:=un hB.a;have hout:(arrOf st').map (·.2)=(ix.map λi=>vs.getD i Ac).toArray:=by apply Hj.mp;rw[Array.toList_map,<-p2,Ce];rfl
  have hixl:(ix.map λi=>vs.getD i Ac).toArray.size<=AI:=by rw[Ae,Aa,ixl U,Bk];omega
  rw[show (arrOf st').map (·.2)=_ from hout]
  refine dm (HP Y rfl ?_);refine dm (GK Y rfl ?_ (AS _) (Nat.le_succ_of_le hixl));rw[hB.b];simp only[bne_self_eq_false,Aw,if_false];refine xd ⟨_,rfl,xd ⟨_,rfl,?_⟩⟩;refine h _ _ ix (λb o e=>?_) U (BG.mpr λi j hi Z hij=>?_) (F3 Y λ_=>(ix.map λi=>vs.getD i Ac).toArray)
  . have hlt:b<s.heap.objs.size:=Am e
    rw[EK _ _ _ _ (AD hlt)];exact R b o e
  . have:=hS i j (EU hij) (by rw[hs0,<-ixl U];exact Z)
    rw[Cd,Cd,N i hi p2,N j Z p2]at this;rcases Int.lt_or_eq_of_le this with z|z
    . exact z
    . have:=(G5 (U.nodup_iff.mpr Cp)).mp (dis _ _ (X U i hi) (X U j Z) z)
      exact absurd this (AD hij)
def fM(N:∀P R,(∀vs s1,lD vs Q s1\/lE prog w A vs Q s1->P vs s1)->wpAny (model prog w) A.in1 (collect v) P R s) :
 wpAny (model prog w) A (call (.builtin "sorted") [v]) Q E s:=by
 refine Calls.call_function_entry kind_sorted plain_sorted entry_sorted (args_sorted1 _) ?_;unfold Builtin.«sorted»;refine dm (m:=checkCount "sorted" 1 1 _) (xd ?_);exact dm (N _ _ λvs s1 hs=>hs.elim kn fQ)
end
end L2
end
section
set_option maxHeartbeats 1000000
namespace L2
open PySem PySem.W PySem.Calls PyProof PyProof.Rows
theorem uo:∀{k} {us},ItemsAre (intKind prog w) k us->vz us k
 |_,_,.nil=>.b
 |_,_,.cons h r=>by obtain⟨t,rfl⟩:=GL h;exact .a (uo r)
end L2
end
section
set_option maxHeartbeats 1000000
namespace M.St
open PySem PySem.SetTable
section
variable {prog:Program}{w:World}{K:Type} [DecidableEq K] (κ:xS prog w K)
def vS(N:Bool)(ks:List K)(bs:List Addr)(a:Addr)(h:Heap):Prop:=
 ∃o es ep t,h.get? a=some o/\o.ExactSet/\o.data=.set es ep t/\es.size=ks.length/\bs.length=ks.length/\(∀(i:Nat) (k:K) (b:Addr),ks[i]?=some k->bs[i]?=some b->es[i]?=some (κ.hash k,.ref b))/\ks.Nodup/\Ok (ks.map κ.hash) t/\t.plain=true/\t.led=N/\t.mask=maskOf ks.length/\ks.length<=306
def jG(h:Heap)(ks:List K)(bs:List Addr):Prop:=∀(i:Nat) (k:K) (b:Addr),ks[i]?=some k->bs[i]?=some b->κ.is h k b
variable {κ}
def ym.split(x:ym κ ld h a ks):∃bs,vS κ ld ks bs a h/\jG κ h ks bs:=by
 obtain⟨o,es,ep,t,X,U,hd,R,r⟩:=x;have at_:∀{i:Nat} {k:K},ks[i]?=some k->∃b,es[i]?=some (κ.hash k,.ref b)/\κ.is h k b:=λ{i k} e=>R.2 i k e;have N:∀{i:Nat} {k:K} {b:Addr},ks[i]?=some k->(es.toList.map λe=>match e.2 with|.ref b=>b|_=>0)[i]?=some b->es[i]?=some (κ.hash k,.ref b)/\κ.is h k b:=λ{i k b} e S=>by
  obtain⟨Z,W,Y⟩:=at_ e;rw[Aq,Bm,W]at S;have:Z=b:=by simpa using S
  subst this;exact⟨W,Y⟩
 exact⟨es.toList.map λe=>match e.2 with|.ref b=>b|_=>0,⟨o,es,ep,t,X,U,hd,R.1,by rw[Aa,Ax];exact R.1,λi k b e S=>(N e S).1,r⟩,λi k b e S=>(N e S).2⟩
def vS.join(x:vS κ ld ks bs a h)(y:jG κ h ks bs):ym κ ld h a ks:=by
 obtain⟨o,es,ep,t,R,N,hd,hs,S,he,r⟩:=x;refine⟨o,es,ep,t,R,N,hd,⟨hs,λi k e=>?_⟩,r⟩;have hi:i<bs.length:=by rw[S];exact(Ai.mp e).1
 exact⟨bs[i],he i k _ e (pn hi),y i k _ e (pn hi)⟩
def vS.keep:∀R N:Heap,vS κ ld ks bs a R->(∀o,R.get? a=some o->N.get? a=some o)->vS κ ld ks bs a N:=by rintro R N ⟨o,es,ep,t,S,r⟩ k;exact⟨o,es,ep,t,k o S,r⟩
def vS.got(x:vS κ ld ks bs a h):∃o,h.get? a=some o:=let ⟨o,_,_,_,N,_⟩:=x;⟨o,N⟩
end
end M.St
namespace L2
open PySem
def kY [DecidableEq K] {κ:M.St.xS P w K}{ks}(x:M.St.vS κ ld ks bs a h):z9 P w H h a (.i (M.St.vS κ ld ks bs a)):=
 ⟨x,x.got,M.St.vS.keep⟩
end L2
end
section
set_option maxHeartbeats 1000000
namespace M.St
open PySem
noncomputable def xS.vm{prog:Program}{w:World}{K:Type} [DecidableEq K] (κ:xS prog w K)(G:K->Addr->Prop):xS prog w K where
 is:=λh k a=>κ.is h k a/\G k a
 hash:=κ.hash
 draws:=κ.draws
 room:=κ.room
 inj:=λx y=>κ.inj x.1 y.1
 keeps:=λx a b c=>⟨κ.keeps x.1 a b c,x.2⟩
 pyHash:=λr x h=>κ.pyHash r x.1 h
 eqBool:=λr x y h=>κ.eqBool r x.1 y.1 h
 quiet:=λx h=>κ.quiet x.1 h
 f:=λx h=>κ.f x.1 h
 g:=λx h=>κ.g x.1 h
 e:=λx a b c=>⟨κ.e x.1 a b c,x.2⟩
 i:=λx k=>⟨κ.i x.1 k,x.2⟩
end M.St
namespace L2
open PySem PySem.W PySem.Calls PyProof PyProof.Rows
section
variable {prog:Program}{w:World}{A:Around}{E:Value->Shared->Prop}{s:Shared}
def GAt(G:List Int->Addr->Prop)(its:List Value)(zs:List (List Int)):Prop:=∀(i:Nat) (z:List Int),zs[i]?=some z->∃b,its[i]?=some (.ref b)/\G z b
def fN{Q:Value->Shared->Prop}(R:TV s.heap vs zs)(tg:GAt G vs zs)(N:zs.Perm ks)(S:ks.Nodup)(X:ks.length<2\/∀z∈ks,z≠[])(hz:vs.length<=16777216)
 (h:∀(h':Heap) c its,(∀b o,s.heap.get? b=some o->h'.get? b=some o)->TV h' its (z6 ks)->GAt G its (z6 ks)->h'.get? s.heap.objs.size=some (seqObj "list" its.toArray c)->Q (.ref s.heap.objs.size) {s with heap:=h'}):lD vs Q s\/lE prog w A vs Q s:=by
 have hn:vs.length=zs.length:=R.1;have hl:=N.length_eq;have hnd':zs.Nodup:=N.nodup_iff.mpr S;have pick:∀(h':Heap) (ix:List Nat),(∀b o,s.heap.get? b=some o->h'.get? b=some o)->ix.Perm (Ah zs.length)->(ix.map λi=>zs.getD i [])=z6 ks->TV h' (ix.map λi=>vs.getD i Ac) (z6 ks)/\GAt G (ix.map λi=>vs.getD i Ac) (z6 ks):=λh' ix keep hp e=>by
  rw[<-e];have W:∀(i:Nat) (z:List Int),(ix.map λi=>zs.getD i [])[i]?=some z->∃j,zs[j]?=some z/\(ix.map λi=>vs.getD i Ac)[i]?=some (vs.getD j Ac):=λi z hi=>by
   rw[Aq]at hi;obtain⟨j,U,ez⟩:=AK.mp hi;have hjl:j<zs.length:=Ar.mp (hp.mem_iff.mp (AA U));refine⟨j,by rw[<-ez,Ad,pn hjl];rfl,?_⟩
   rw[Aq,U];rfl
  refine⟨⟨by rw[Aa,Aa],λi z hi=>?_⟩,λi z hi=>?_⟩
  rotate_left
  . obtain⟨j,Y,ej⟩:=W i z hi
    obtain⟨b,f1,f2⟩:=tg j z Y;exact⟨b,by rw[ej,Ad,f1];rfl,f2⟩
  obtain⟨j,Y,ej⟩:=W i z hi;obtain⟨b,o,n,us,f1,f2,f3⟩:=(R.up keep).2 j z Y;exact⟨b,o,n,us,by rw[ej,Ad,f1];rfl,f2,f3⟩
 by_cases h2:vs.length<2
 . refine .inl ⟨h2,λh' c keep e=>?_⟩
   have e1:(Ah zs.length).map (λi=>zs.getD i [])=z6 ks:=by
    rw[qz];refine mq S N ?_
    match zs,show zs.length<2 by omega with
    |[],_=>exact .nil
    |[_],_=>exact Hv _ _
   have:=pick h' (Ah zs.length) keep (.refl _) e1;rw[<-hn,qz]at this;exact h h' c vs keep this.1 this.2 e
 . have X:∀z∈zs,z≠[]:=λz hz=>X.resolve_left ⋯ z (N.mem_iff.mp hz)
   have gz:∀{i:Nat},i<vs.length->∃z,zs[i]?=some z/\zs.getD i []=z/\z∈ks:=λ{i} hi=>by rw[hn]at hi;exact⟨zs[i],pn hi,by rw[Ad,pn hi];rfl,N.mem_iff.mp (B0 hi)⟩
   refine .inr ⟨tuples' true,keyOf vs zs (λa=>((z6 ks).idxOf a:Int)),⋯,hz,λh' Q' keep hq'=>?_,λh' i j C keep hi U hc=>?_,λi j hi U e=>?_,λh' c ix keep hp hw e=>?_⟩
   . obtain⟨fs,kt,kl,ki⟩:=(R.up keep).qH X
     refine kat_kind (s:={s with heap:=h'}) (T:=.type "int") kt ⋯ (λv hv=>?_) rfl hq'
     obtain⟨i,t,rfl⟩:=ki v hv;exact Looks.of_pure rfl
   . obtain⟨z,a1,a2,a3⟩:=gz hi
     obtain⟨z',Z,b2,b3⟩:=gz U;rw[wj R a1,wj R Z,<-mw S a3 b3,<-j7]at hc;obtain⟨b,o,n,us,f1,f2,f3,f4,f5⟩:=(R.up keep).2 i z a1;obtain⟨b',o',n',us',f1',f2',f3',f4',f5'⟩:=(R.up keep).2 j z' Z;rw[Ad,Ad,f1,f1'];refine kat_lt (s:={s with heap:=h'}) f2 f4 f2' f4' ?_
     rw[Ae,Ae,qm f5,qm f5'];exact nz (s:={s with heap:=h'}) 0 f5 f5' hc
   . obtain⟨z,a1,a2,a3⟩:=gz hi
     obtain⟨z',Z,b2,b3⟩:=gz U;rw[wj R a1,wj R Z]at e;have ez:=bz a3 b3 e;subst ez;exact(List.getElem?_inj ⋯ hnd').mp (a1.trans Z.symm)
   . have pk:(ix.map λi=>zs.getD i [])=z6 ks:=?_
     . exact h h' c _ keep (pick h' ix keep (by rw[<-hn];exact hp) pk).1 (pick h' ix keep (by rw[<-hn];exact hp) pk).2 e
     have hlt:∀i∈ix,i<vs.length:=λi hi=>Ar.mp (hp.mem_iff.mp hi);refine mq S ((tu [] (by rw[<-hn];exact hp)).trans N) ?_
     rw[Fi];refine hw.imp_of_mem λ{i j} hi U w=>?_;obtain⟨z,a1,a2,a3⟩:=gz (hlt i hi);obtain⟨z',Z,b2,b3⟩:=gz (hlt j U);rw[wj R a1,wj R Z]at w;rw[a2,b2];exact w
def mz(hh:A.handled=none)(hS:M.St.ym ((M.St.tupS prog w).vm G) (!M.St.zv w) s.heap a ks)(W:ks.length<2\/∀z∈ks,z≠[])
 (hQ:∀s2 l c its,Moved [] (λx y=>y=x) s s2->TV s2.heap its (z6 ks)->GAt G its (z6 ks)->s2.heap.get? l=some (seqObj "list" its.toArray c)->s.heap.get? l=none->Q (.ref l) s2) :
 wpAny (model prog w) A (call (.builtin "sorted") [.ref a]) Q E s:=by
 have Y:=hS;obtain⟨_,_,_,_,_,_,_,_,X,_,_,_,_,hle⟩:=Y;refine fM λP E' hP=>M.St.nO (A:=A.in1) hh hS λs1 U acc hp R S N=>hP _ _ ?_;refine fN (G:=G) (zs:=U) ⟨by rw[R,hp.length_eq],λi z e=>?_⟩ (λi z e=>?_) hp X W ⋯ λh' c its keep tv tg e=>?_
 . obtain⟨b,Z,⟨o,items,n,ho,hc,hd,hi⟩,_⟩:=S i z e
   exact⟨b,o,n,items.toList,Z,N.heap b o (λh=>nomatch h) ho,hc,hd,uo hi⟩
 . obtain⟨b,Z,_,g⟩:=S i z e
   exact⟨b,Z,g⟩
 . refine hQ _ _ c its ⟨λb o hb e=>keep b o (N.heap b o hb e),N.gens,N.drawn,N.os,N.toks⟩ tv tg e ?_
   cases e0:s.heap.get? s1.heap.objs.size with
   |none=>rfl
   |some o=>exact absurd (Am (N.heap _ _ (λh=>nomatch h) e0)) (BR _)
end
end L2
end
section
set_option maxHeartbeats 1000000
namespace L2
open PySem PySem.W PySem.Calls PyProof PyProof.Rows
section
variable {X:Cx}{pins:List (Addr × Obj)}{σ:St}{H:Hp}{s:Shared}
theorem uq:∀{k} {us},Vals (k.map V.d) us->ItemsAre (intKind P w) k us
 |[],_,.nil=>.nil
 |i::k,_,.cons r rs=>by obtain⟨t,rfl⟩:=(show ∃t,_=Dh i t from r);exact .cons (by show Value.isInt i (.int i t)=true;simp[Value.isInt]) (uq rs)
def SqS(X:Cx)(H:Hp)(p:Addr)(ks:List (List Int))(bs:List Addr):Prop:=
 H p=some (.i (M.St.vS (M.St.tupS X.f X.w) (!M.St.zv X.w) ks bs p))/\∀(i:Nat) (k:List Int) (b:Addr),ks[i]?=some k->bs[i]?=some b->SqT X.K H b (k.map V.d)
def SqS.setG(I:Inv X pins σ H s)(x:SqS X H p ks bs)(g:∀(i:Nat) k b,ks[i]?=some k->bs[i]?=some b->G k b):M.St.ym ((M.St.tupS X.f X.w).vm G) (!M.St.zv X.w) s.heap p ks:=by obtain⟨e,q⟩:=x;have ok:M.St.vS (M.St.tupS X.f X.w) (!M.St.zv X.w) ks bs p s.heap:=(I.j p _ e).1;refine M.St.vS.join (κ:=(M.St.tupS X.f X.w).vm G) (bs:=bs) ok λi k b R N=>⟨?_,g i k b R N⟩;obtain⟨its,r,⟨o,S,U,n,hd⟩,_⟩:=I.tuple (q i k b R N);exact⟨o,its.toArray,n,S,U,hd,uq r⟩
theorem ij:∀{its} {zs},its.length=zs.length->GAt G its zs->∃cs:List Addr,cs.length=zs.length/\Vals (cs.map V.c) its/\∀(i:Nat) z,zs[i]?=some z->∃b,cs[i]?=some b/\G z b
 |[],[],_,_=>⟨[],rfl,.nil,λi z e=>by simp at e⟩
 |v::its,z::zs,l,g=>by
  obtain⟨b,e,X⟩:=g 0 z rfl;have Y:v=.ref b:=by simpa using e
  subst Y;obtain⟨cs,W,U,S⟩:=ij (its:=its) (zs:=zs) (by simpa using l) λi z e=>by simpa using g (i+1) z (by simpa using e)
  refine⟨b::cs,by rw[Ak,Ak,W],.cons rfl U,λi R N=>?_⟩
  cases i with
  |zero=>exact⟨b,rfl,by simp at N;exact N▸X⟩
  |succ i=>simpa using S i R (by simpa using N)
def lK(hc:X.g=true):yL X (.builtin "sorted") (λxs H Q=>∃p ks bs,xs=[.c p]/\SqS X H p ks bs/\(ks.length<2\/∀z∈ks,z≠[]) /\
 ∀l (cs:List Addr),H l=none->cs.length=(z6 ks).length->(∀(i:Nat) z,(z6 ks)[i]?=some z->∃b,cs[i]?=some b/\∃j:Nat,ks[j]?=some z/\bs[j]?=some b)->Q (.c l) (upd H l (.b (cs.map V.c)))):=by
 intro pins s σ H xs us Q I r h;obtain⟨p,ks,bs,rfl,hq,Y,q⟩:=h;obtain⟨u,rfl,rx⟩:=vals1 r;cases rx;have hS:=hq.setG (G:=λz b=>∃j:Nat,ks[j]?=some z/\bs[j]?=some b) I λi k b e1 e2=>⟨i,e1,e2⟩;have h306:ks.length<=306:=by obtain⟨_,_,_,_,_,_,_,_,_,_,_,_,_,hle⟩:=hS;exact hle
 refine mz (I.y.d hc) hS Y λs2 l c its hm tv tg e hl=>?_;obtain⟨cs,c1,c2,c3⟩:=ij tv.1 tg;have N:(z6 ks).length=ks.length:=(z8 ks).length_eq;obtain⟨h2,g2,d2,t2,o2⟩:=s2;obtain⟨k1,W,U,S,k5⟩:=hm;have W:g2=s.gens:=W;have U:d2=s.drawn:=U;have S:o2=s.os:=S;subst W U S;have keep:∀b o,s.heap.get? b=some o->h2.get? b=some o:=λb o z=>k1 b o (λh=>nomatch h) z
 obtain⟨Z,J⟩:=I.Xn (h':=h2) (ys:=cs.map V.c) (by rw[Aa,c1,N,Bk];omega) c2 hl (λb o _ z=>keep b o z) (λm ⟨o,es,ep,ho,r⟩=>⟨o,es,ep,keep _ o ho,r⟩) e
 exact⟨V.c l,_,⟨J.y,J.R,J.C,J.B,J.O,J.F,J.G,J.J,J.M,J.j,J.P⟩,rfl,q l cs Z c1 c3⟩
end
end L2
end
section
set_option maxHeartbeats 1000000
namespace L2
open PySem PySem.W PySem.Calls PyProof PyProof.Rows
section
variable {X:Cx}{pins:List (Addr × Obj)}{σ:St}{H:Hp}{s:Shared}
noncomputable abbrev ye(X:Cx)(p:Addr)(ks:List (List Int))(bs:List Addr):HO:=.i (M.St.vS (M.St.tupS X.f X.w) (!M.St.zv X.w) ks bs p)
def YT(e:H p=some (.i N))(h:SqT X.K H b xs):SqT X.K (upd H p (.i ψ)) b xs:=by
 rcases h with h|h
 . refine .inl ?_
   have nb:∀c u,H c=some u->(∀N,u≠.i N)->upd H p (.i ψ) c=some u:=λc u z R=>by rw[zM (λq=>by rw[q,e]at z;cases z;exact R _ rfl)];exact z
   rcases h with h|⟨o,h⟩
   . exact .inl (nb _ _ h λ_ z=>nomatch z)
   . exact .inr ⟨o,nb _ _ h λ_ z=>nomatch z⟩
 . exact .inr h
def ff(k:List Int)(ks N:List (List Int)):Prop:=(k∈ks->N=ks)/\(k ∉ ks->N.Perm (k::ks))
def Each(G:List Int->Addr->Prop)(ks:List (List Int))(bs:List Addr):Prop:=∀(i:Nat) (k:List Int) (b:Addr),ks[i]?=some k->bs[i]?=some b->G k b
def fk G(I:Inv X pins σ H s)(hu:A.units<cLine)(Y:SqS X H p ks bs)(hg:Each G ks bs)(hk:SqT X.K H b (k.map V.d))(gk:G k b)(hn:ks.length+1<=306)
 (h:∀bl s' N R,Inv X pins σ (upd H p (ye X p N R)) s'->SqS X (upd H p (ye X p N R)) p N R->Each G N R->ff k ks N->Q bl s'):wpAny (model X.f X.w) A (setAdd p (.ref b)) Q E s:=by
 have hS:=Y.setG (G:=λk b=>SqT X.K H b (k.map V.d)/\G k b) I λi k b U S=>⟨Y.2 i k b U S,hg i k b U S⟩;obtain⟨its,r,⟨o,ho,hc,n,hd⟩,_⟩:=I.tuple hk;have hi:D7 (intKind X.f X.w) s.heap k b:=⟨o,its.toArray,n,ho,hc,hd,uq r⟩;unfold setAdd;refine Bo (dm (wpAny_pyHash_tuple hu hi ?_));refine M.St.sr (κ:=(M.St.tupS X.f X.w).vm λk b=>SqT X.K H b (k.map V.d)/\G k b) (s:={s with toks:=s.toks+(k.length+1)}) hS hu ⟨hi,hk,gk⟩ hn λh' N sb st pm=>?_
 obtain⟨R,so,ta⟩:=st.split;have W:M.St.vS (M.St.tupS X.f X.w) (!M.St.zv X.w) N R p h':=so;exact h _ _ N R (I.write (x:=p) (e:=p) (t':=s.toks+(k.length+1)) (by rw[Y.1];trivial) (.inl rfl) (λc u hc z=>(sb.2 c hc).trans z) W.got (kY W)) ⟨zY,λi z c U S=>YT Y.1 (ta i z c U S).2.1⟩ (λi z c U S=>(ta i z c U S).2.2) ⟨λZ=>by rw[if_pos Z]at pm;exact pm,λZ=>by rw[if_neg Z]at pm;exact pm⟩
end
end L2
end
section
set_option maxHeartbeats 1000000
namespace L2
open PySem PySem.W PySem.Calls PyProof PyProof.Rows
def cI(I:Inv X pins σ H s)
 (h:∀h',(∀b u,s.heap.get? b=some u->h'.get? b=some u)->H s.heap.objs.size=none->h'.objs.size=s.heap.objs.size+1->Inv X pins σ (upd H s.heap.objs.size (ye X s.heap.objs.size [] [])) {s with heap:=h'}->SqS X (upd H s.heap.objs.size (ye X s.heap.objs.size [] [])) s.heap.objs.size [] [] ->
  Q (.ref s.heap.objs.size) {s with heap:=h'}):wpAny (model X.f X.w) X.A (newSet (.type "set")) Q E s:=by
 refine M.St.Zh (κ:=M.St.tupS X.f X.w) λo st=>?_;obtain⟨bs,N,_⟩:=st.split;obtain⟨_,_,_,_,_,_,_,_,R,_⟩:=id N;obtain rfl:bs=[]:=List.eq_nil_of_length_eq_zero R;exact h _ (λb u e=>zO _ e) (I.j.fresh (Ab _)) (BK ..) (I.laid (t':=s.toks) (λb u e=>zO _ e) (Ab _) (kY N)) ⟨zY,λi k b e=>by simp at e⟩
end L2
end
section
set_option maxHeartbeats 1000000
namespace L2
open PySem PySem.W PySem.Calls PyProof PyProof.Rows
def ir(hu:X.A.in1.units<cLine):yL X (.builtin "set.add") (λxs H Q=>∃p b ks bs k,∃G:List Int->Addr->Prop,xs=[.c p,.c b]/\SqS X H p ks bs/\Each G ks bs/\SqT X.K H b (k.map V.d)/\G k b/\ks.length+1<=306 /\
 ∀N R,SqS X (upd H p (ye X p N R)) p N R->Each G N R->ff k ks N->Q .g (upd H p (ye X p N R))):=by
 intro pins s σ H xs us Q I r h;obtain⟨p,b,ks,bs,k,G,rfl,W,Y,hk,gk,hn,q⟩:=h;obtain⟨u,v,rfl,rx,Z⟩:∃u v,us=[u,v]/\RelV (.c p) u/\RelV (.c b) v:=by
  cases r with
  |cons r1 r=>
   cases r with
   |cons r2 r=>
    cases r;exact⟨_,_,rfl,r1,r2⟩
 cases rx;cases Z;have hT:s.TypeIs (.ref p) "set":=(W.setG (G:=G) I Y).typeIs;refine BA F.slot_set_add hT F.entry_set_add ?_ (F.args_set_add_2 _ _);unfold Builtin.«set.add» Builtin.Frozenset.oneOther;simp only[Hn,Ic];unfold Ho;refine dm (xd ?_)
 try dsimp only
 refine dm (xd ?_)
 try dsimp only
 refine dm (fk G I hu W Y hk gk hn λbl s' N R I' S U h1=>?_);show wpAny _ _ (ret Ac) _ _ _;exact xd ⟨_,rfl,V.g,_,I',rfl,q N R S U h1⟩
end L2
end
section
set_option maxHeartbeats 1000000
namespace L2
open PySem PySem.Spec PySem.W PyProof PyProof.Rows
def rE{X:Cx}{elt:Expr}{gens:List Dw}{csc:Scope}{cpos:Pos}{d:Nat}{tg:Expr}{p:Pos}{ifs:List Expr}{B:Sem PUnit}{acc:Value}{it:Addr}{fp:List Addr}{tn:Nat->Heap->Prop}{J:It}{g:TG}{ts:List TT}{tb:TB}{D:Ends}
 {pins:List (Addr × Obj)} {σ:St} {H:Hp} {s:Shared} {R:Result->Shared->Prop}
 (heq:CD (.SetComp elt gens csc cpos) d (.ref it) acc X.a=(do
  standAt p
  match <-pyNext (.ref it) with
  |none=>pure (.done .next)
  |some v=>
   Bj tg (.ref it) v
   assign tg X.a v
   let mut ok:=true
   for c in ifs do
    if ok then ok <-isTrue c X.a (eval c X.a)
   if ok then B
   again (.compLoop (.SetComp elt gens csc cpos) d (.ref it) acc X.a)))
 (hx:X.h=λ_ _=>False) (hc:X.g=true) (T:Turn X.f X.w X.K tg J fp it tn) (hg:PG X tg g) (ht:PTs X ifs ts) (hb:PB X B tb)
 (I:Inv X pins σ H s) (st:tn 0 s.heap) (f:∀b∈fp,wB X pins H b) (h:u4 J g (tTB ts tb) D σ H)
 (hR:∀S H' s',Inv X pins S H' s'->D.a S H'->(∀b∈fp,H' b=none)->R (.ok .next) s') :
 codeAny (model X.f X.w) X.A (.compLoop (.SetComp elt gens csc cpos) d (.ref it) acc X.a) R s:=by
 obtain⟨W,⟨m0,w0⟩,turn⟩:=h;have stat:∀{H':Hp},(∀b∈fp,H' b=none)->∀b∈fp,wB X pins H' b:=λhn b hb=>⟨hn b hb,(f b hb).2⟩;have no:∀{α:Type} {t:Sem α} {Q:α->Shared->Prop} {E':Value->Shared->Prop} {s:Shared},wpAny (model X.f X.w) X.A t Q X.h s->wpAny (model X.f X.w) X.A t Q E' s:=λh=>Cj h (λ_ _ q=>q) λ_ _ z=>by rw[hx]at z;exact z.elim
 refine codeAny_loop rfl (λn s'=>∃i S H',Inv X pins S H' s'/\tn i s'.heap/\(∀b∈fp,H' b=none)/\W i n S H') (λn s3 hI=>?_) m0 ⟨0,σ,H,I,st,λb hb=>(f b hb).1,w0⟩;obtain⟨i,Z,H3,I3,st3,fr3,w3⟩:=hI;show wpAny _ _ ((CD (.SetComp elt gens csc cpos) d (.ref it) acc X.a).onRaise (λx=>do HF x X.a;theTreesLotGoes x)) _ _ s3
 refine wpAny_noted ?_;rw[heq];refine dm (BL (dm ?_));rcases turn i n Z H3 w3 with⟨stop,qn⟩|⟨go,N,hN,step⟩
 . refine no (thn (T.e X rfl rfl rfl hc i pins s3 Z H3 X.h I3 (stat fr3) st3 stop) λr s4 zn=>?_)
   obtain⟨hr,I4⟩:=zn;subst hr;exact xd (hR Z H3 s4 I4 qn fr3)
 . refine no (thn (T.f X rfl rfl rfl hc i pins s3 Z H3 X.h I3 (stat fr3) st3 go) λr s4 zn=>?_)
   obtain⟨u,hr,h4⟩:=zn;subst hr;refine dm (no (thn h4 λ_ s5 zn=>?_));obtain⟨x,H5,I5,r5,y5,st5,fr5⟩:=zn;have I5':=I5.pinned (stat fr5) (T.c _ _ st5);refine dm (no (thn (hg _ s5 Z H5 x u _ I5' r5 (step x H5 y5)) λ_ s6 zn=>?_));obtain⟨σ6,H6,I6,q6⟩:=zn;refine dm (no (thn (ht.run I6 q6) λok s7 zn=>?_));obtain⟨H7,I7,q7⟩:=zn;have U:∀{Y:St} {H7:Hp} {s7:Shared},Inv X (pins++tw fp s5.heap) Y H7 s7->N Y H7->∃m,m<n/\∃i S H',Inv X pins S H' s7/\tn i s7.heap/\(∀b∈fp,H' b=none)/\W i m S H':=λ{Y H7 s7} I7 n7=>by obtain⟨m',hm,w7⟩:=hN Y H7 n7;refine⟨m',hm,i+1,Y,H7,I7.vj,T.a _ _ _ st5 λb hb o e=>(I7.M (b,o) (AX _ (AX _ (xB hb e)))).1,λb hb=>?_,w7⟩;obtain⟨o,e,d⟩:=T.c _ _ st5 b hb;exact(I7.M (b,o) (AX _ (AX _ (xB hb e)))).2.1
   cases ok with
   |false=>exact xd ⟨rfl,U I7 q7⟩
   |true=>exact dm (no (thn (hb _ s7 σ6 H7 N I7 q7) λ_ s8 ⟨σ8,H8,I8,n8⟩=>xd ⟨rfl,U I8 n8⟩))
def U1(X:Cx)(acc:Addr)(S:St->Hp->Prop)(σ:St)(y:V)(H1:Hp):Prop:=∃b ks bs k,∃G:List Int->Addr->Prop,y=.c b/\SqS X H1 acc ks bs/\Each G ks bs/\SqT X.K H1 b (k.map V.d)/\G k b/\ks.length+1<=306 /\
 ∀N R,SqS X (upd H1 acc (ye X acc N R)) acc N R->Each G N R->ff k ks N->S σ (upd H1 acc (ye X acc N R))
def aB(X:Cx)(acc:Addr)(te:TE):TB:=λN σ H=>te σ H (U1 X acc N σ)
def cn(hu:X.A.in1.units<cLine)(he:PE X elt te):PB X (do let v <-eval elt X.a;standAt elt.pos;let _ <-call (.builtin "set.add") [.ref acc,v]) (aB X acc te):=by intro pins s σ H Nx I h;refine dm (thn (he pins s σ H _ I h) λu s1 N=>?_);obtain⟨y,H1,I1,R,b,ks,bs,k,G,e,U,Y,hk,Z,W,q⟩:=N;subst e;refine dm (BL (dm (thn (ir hu pins s1 σ H1 [.c acc,.c b] [.ref acc,u] (λ_ H'=>Nx σ H') I1 (.cons rfl (.cons R .nil)) ⟨acc,b,ks,bs,k,G,rfl,U,Y,hk,Z,W,q⟩) λ_ s2 N=>?_)));obtain⟨_,H2,I2,_,S⟩:=N;exact xd ⟨σ,H2,I2,S⟩
end L2
end
section
set_option maxHeartbeats 1000000
namespace L2
open PySem PySem.Spec PySem.W PyProof.Rows
def vU
 (h0:codeAny (model prog w) A (.compLoop (.SetComp elt (⟨target,iter,ifs,0⟩::rest) scope pos) 0 it acc env) R s)
 (h:wpAny (model prog w) A (pyIter it) (λN s'=>codeAny (model prog w) A (.compLoop (.SetComp elt (⟨target,iter,ifs,0⟩::rest) scope pos) 0 N acc env) R s')
  (notedBy (model prog w) A env λx s'=>R (.error x) s') s) :
 codeAny (model prog w) A (.compStart (.SetComp elt (⟨target,iter,ifs,0⟩::rest) scope pos) 0 it acc env) R s:=by
 refine EO ?_;show wpAny _ _ ((Gs (.SetComp elt (⟨target,iter,ifs,0⟩::rest) scope pos) 0 it acc env).onRaise (λx=>do HF x env;standAt HG)) _ _ s
 refine Ip ?_;unfold Gs;show wpAny _ _ (ask >>= _) _ _ s;refine dm (Cc (wpAny_ite ?_));split
 . first
    |exact dm (xd (xd (Af rfl h0)))
    |exact xd (Af rfl h0)
 . first
    |exact dm (BE (dm (BL (dm (Cj h (λN s' h'=>xd (Af rfl h')) λ_ _ x=>x)))))
    |(refine dm (BE ?_);show wpAny _ _ (standAt iter.pos >>= _) _ _ s;exact dm (BL (dm (Cj h (λN s' h'=>xd (Af rfl h')) λ_ _ x=>x))))
def oa(X:Cx)(fr:List (Option Nat))(wi:TI)(g:TG)(ts:List TT)(tb:Addr->TB)(σ:St)(H:Hp)(Q:VK):Prop:=
 wi σ H λJ H1=>∀acc,H1 acc=none->SqS X (upd H1 acc (ye X acc [] [])) acc [] []->u4 J g (tTB ts (tb acc)) ⟨λ_ H'=>Q (.c acc) H',λ_ _=>False,λ_ _=>False,λ_ _=>False⟩ (zK fr σ) (upd H1 acc (ye X acc [] []))
section
variable {X:Cx}{pins:List (Addr × Obj)}{σ:St}{H:Hp}{s:Shared}{N:List Str}{csc:Scope}{fr:List (Option Nat)}{elt tg iter:Expr}{ifs:List Expr}{rest:List Dw}{cpos:Pos}{wi:TI}{g:TG}{ts:List TT}{tb:Addr->TB}
def lO{use:Option (Value->Sem Unit)}{QQ:Value->Shared->Prop}{Qv:VK}{B:Value->Env->Sem PUnit}{E:Value->Shared->Prop}(hE:E=X.h)(hc:X.g=true)(S:zc X N csc fr)(hi:PI X tg iter wi)
 (hturn:∀(it:Addr) (acc:Value) (env:Env),CD (.SetComp elt (⟨tg,iter,ifs,0⟩::rest) csc cpos) 0 (.ref it) acc env=(do
  standAt iter.pos
  match <-pyNext (.ref it) with
  |none=>pure (.done .next)
  |some v=>
   Bj tg (.ref it) v
   assign tg env v
   let mut ok:=true
   for c in ifs do
    if ok then ok <-isTrue c env (eval c env)
   if ok then B acc env
   again (.compLoop (.SetComp elt (⟨tg,iter,ifs,0⟩::rest) csc cpos) 0 (.ref it) acc env)))
 (hg:∀C s0 H0 ex,PG (X.comp N csc C s0 H0 ex) tg g) (ht:∀C s0 H0 ex,PTs (X.comp N csc C s0 H0 ex) ifs ts)
 (U:∀C s0 H0 ex acc,(∃W,Inv X W σ H0 s0/\∀b∈ex,wB X W H0 b)->PB (X.comp N csc C s0 H0 ex) (B (.ref acc) (X.comp N csc C s0 H0 ex).a) (tb acc))
 (I:Inv X pins σ H s) (h:oa X fr wi g ts tb σ H Qv)
 (hfin:∀acc C H' s',Inv X pins σ H' s'->Qv (.c acc) H'->(∃m,s'.heap.Ns C m)->H' C=none->C≠X.a.locals->X.l.heap.objs.size<=C->(∀x c,X.a.cells.lookup x=some c->c≠C)->(∀p∈X.q++pins,p.1≠C) ->
  FA (model X.f X.w) X.A X.h use QQ (.ref acc) C (.ok .next) s') :
 wpAny (model X.f X.w) X.A (eval iter X.a) (λx s₁=>wpAny (model X.f X.w) X.A (pyIter x) (λit s₂=>wpAny (model X.f X.w) X.A (newSet (.type "set")) (λacc s₃=>
  wpAny (model X.f X.w) X.A (Ge csc X.a.globals (vT X.a.cells csc.names []) [] X.a.qual none .none (some X.a)) (λZ s₄=>
   codeAny (model X.f X.w) X.A (.compStart (.SetComp elt (⟨tg,iter,ifs,0⟩::rest) csc cpos) 0 it acc {Z with scope:=relabel csc X.a}) (FA (model X.f X.w) X.A E use QQ acc Z.locals) s₄) E s₃) E s₂) E s₁) E s:=by
 subst hE;refine thn (hi pins s σ H _ I h) λv s1 h1=>thn h1 λitv s2 h2=>?_;obtain⟨it,fp,tn,J,H2,e,I2,T,st2,f2,q2⟩:=h2;subst e;refine cI I2 λh3 k23 hfr hsz I3 hq3=>?_;have q3:=q2 s2.heap.objs.size hfr hq3;generalize hs3:({s2 with heap:=h3}:Shared)=s3 at I3
 have hh3:s3.heap=h3:=by rw[<-hs3]
 rw[<-hh3]at k23 hsz;have lt2:∀b∈fp,b<s2.heap.objs.size:=λb U=>by obtain⟨o,e,_⟩:=T.c _ _ st2 b U;exact Am e
 have f3:∀b∈fp,wB X pins (upd H2 s2.heap.objs.size (ye X s2.heap.objs.size [] [])) b:=λb U=>⟨by rw[zM (AD (lt2 b U))];exact(f2 b U).1,(f2 b U).2⟩
 have lt3:∀b∈fp,b<s3.heap.objs.size:=λb U=>by rw[hsz];exact Cg (lt2 b U)
 refine qJ λh4 hns4' k34 own4=>?_;have I4:=rF (tk:=s3.toks) I3 S f3 lt3 hns4' k34 own4;have st4:tn 0 h4:=T.a _ _ _ st2 λb U o e=>k34 b o (k23 b o e);have f4:∀b∈fp,wB (X.comp N csc s3.heap.objs.size s3 (upd H2 s2.heap.objs.size (ye X s2.heap.objs.size [] [])) fp) [] (upd H2 s2.heap.objs.size (ye X s2.heap.objs.size [] [])) b:=λb U=>by have ok:=I4.y;obtain⟨g1,g2⟩:=ok.H b U;exact⟨(f3 b U).1,g1,ok.r b U,.inl U,g2,λp hp=>by simp at hp⟩
 have fin:∀σ' H' s',Inv (X.comp N csc s3.heap.objs.size s3 (upd H2 s2.heap.objs.size (ye X s2.heap.objs.size [] [])) fp) [] σ' H' s'->Qv (.c s2.heap.objs.size) H'->(∀b∈fp,H' b=none) ->
  FA (model X.f X.w) X.A X.h use QQ (.ref s2.heap.objs.size) s3.heap.objs.size (.ok .next) s':=λσ' H' s' I' q' _=>by
  have IX:Inv X pins σ H' s':=I3.Yy I'.R I'.B I'.j I'.C λb U=>by obtain⟨g0,g1,g2,g3,g4,g5⟩:=f3 b U;exact⟨g3,g1,g4,g5⟩
  obtain⟨m,hn,_⟩:=I'.O;refine hfin _ _ H' s' IX q' ⟨m,hn⟩ I'.G (Dk I3.lt) I3.sz (λx c e=>?_) λp hp=>?_
  . obtain⟨w',z⟩:=I3.F x c e
    exact AD z.lt
  . exact AD (Am (I3.M p hp).1)
 have Y:codeAny (model X.f X.w) X.A (.compLoop (.SetComp elt (⟨tg,iter,ifs,0⟩::rest) csc cpos) 0 (.ref it) (.ref s2.heap.objs.size) (compEnvC csc (wC csc s3.heap.objs.size++vT X.a.cells csc.names []) s3.heap.objs.size X.a))
  (FA (model X.f X.w) X.A X.h use QQ (.ref s2.heap.objs.size) s3.heap.objs.size) {s3 with heap:=h4}:=
  rE (X:=X.comp N csc s3.heap.objs.size s3 (upd H2 s2.heap.objs.size (ye X s2.heap.objs.size [] [])) fp) (hturn it _ _) rfl hc T (hg _ _ _ _) (ht _ _ _ _) (U _ _ _ _ _ ⟨pins,I3,f3⟩) I4 st4 f4 q3 fin
 exact vU Y (T.d X.A 0 _ _ _ st4 Y)
end
end L2
end
section
set_option maxHeartbeats 1000000
namespace L2
open PySem PySem.Spec PySem.W PyProof.Rows
section
variable {X:Cx}{pins:List (Addr × Obj)}{σ:St}{H:Hp}{s:Shared}{N:List Str}{csc:Scope}{fr:List (Option Nat)}{elt tg iter:Expr}{ifs:List Expr}{rest:List Dw}{cpos:Pos}{wi:TI}{g:TG}{ts:List TT}{tb:Addr->TB}
def gw{B:Value->Env->Sem PUnit}(hc:X.g=true)(S:zc X N csc fr)(hi:PI X tg iter wi)
 (U:∀(it:Addr) (acc:Value) (env:Env),CD (.SetComp elt (⟨tg,iter,ifs,0⟩::rest) csc cpos) 0 (.ref it) acc env=(do
  standAt iter.pos
  match <-pyNext (.ref it) with
  |none=>pure (.done .next)
  |some v=>
   Bj tg (.ref it) v
   assign tg env v
   let mut ok:=true
   for c in ifs do
    if ok then ok <-isTrue c env (eval c env)
   if ok then B acc env
   again (.compLoop (.SetComp elt (⟨tg,iter,ifs,0⟩::rest) csc cpos) 0 (.ref it) acc env)))
 (hg:∀C R H0 ex,PG (X.comp N csc C R H0 ex) tg g) (ht:∀C R H0 ex,PTs (X.comp N csc C R H0 ex) ifs ts)
 (hb:∀C R H0 ex acc,PB (X.comp N csc C R H0 ex) (B (.ref acc) (X.comp N csc C R H0 ex).a) (tb acc))
 (hs:∀x,AN iter X.a x=pure x:=by intro _;rfl) :
 PE X (.SetComp elt (⟨tg,iter,ifs,0⟩::rest) csc cpos) (oa X fr wi g ts tb):=by
 intro pins s σ H Q I h;rw[arm_eval_SetComp];dsimp only;refine EX (use:=none) rfl hs (wW (S.cells I.y)) S.b S.a ?_;refine lO (use:=none) rfl hc S hi U hg ht (λC R H0 ex acc _=>hb C R H0 ex acc) I h λacc C H' s' I' q' Y hC hL h0 Z W=>?_;obtain⟨m,Y⟩:=Y;refine⟨m,Y,λh' sb=>⟨.c acc,H',?_,rfl,q'⟩⟩;exact I'.turned (t':=s'.toks) (λb o hb e=>(sb.2 b hb).trans e) hC (BJ (BJ hL)) (.inr h0) Z W
end
end L2
end
section
namespace M.St
open PySem PySem.SetTable
def ym.at [DecidableEq K] {κ:xS prog w K}{h h':Heap}{ks}(x:ym κ ld h a ks)(e:∀o,h.get? a=some o->h'.get? a=some o)(k:∀k b,k∈ks->κ.is h k b->κ.is h' k b):ym κ ld h' a ks:=by
 obtain⟨o,es,ep,t,U,R,hd,N,r⟩:=x;exact⟨o,es,ep,t,e o U,R,hd,⟨N.1,λi S e=>by obtain⟨b,X,W⟩:=N.2 i S e;exact⟨b,X,k S b (AA e) W⟩⟩,r⟩
def ym.weak [DecidableEq K] {κ:xS prog w K}{ks}{G S:K->Addr->Prop}(x:ym (κ.vm G) ld h a ks)(g:∀k b,G k b->S k b):ym (κ.vm S) ld h a ks:=by
 obtain⟨o,es,ep,t,W,R,hd,N,r⟩:=x;exact⟨o,es,ep,t,W,R,hd,⟨N.1,λi U e=>by obtain⟨b,Z,Y,X⟩:=N.2 i U e;exact⟨b,Z,Y,g _ _ X⟩⟩,r⟩
def oz{prog:Program}{w:World}{A:Around}{R:Result->Shared->Prop}{I:Addr}{fp X:List Addr}{Γ:Array GenState->Array GenState->Prop}{n:Nat}{P:Nat->Value->Prop}{St:Nat->Shared->Prop}{G:List Int->Addr->Prop}{zs:List (List Int)}(W:WalksS prog w A.in1 I fp X Γ n P St)S(hSf:S ∉ fp)(hu:A.units+4<cLine)(hP:∀i v,P i v->∃z b,zs[i]?=some z/\v=.ref b/\b ∉ S::X/\G z b)(hz:zs.length=n)(hm:∀L:List (List Int),L.Nodup->(∀z∈L,z∈zs)->L.length<306) :
 ∀k i s ks,n-i=k->i<=n->St i s->ym ((tupS prog w).vm λz b=>G z b/\b ∉ S::X) (!zv w) s.heap S ks->(∀z,z∈ks↔z∈zs.take i) ->
  (∀i z b,zs[i]?=some z->P i (.ref b)->D7 (intKind prog w) s.heap z b) ->
  (∀s' Y,Moved (S::X) Γ s s'->ym ((tupS prog w).vm λz b=>G z b/\b ∉ S::X) (!zv w) s'.heap S Y->(∀z,z∈Y↔z∈zs)->R (.ok (.ret .none)) s') ->
  codeAny (model prog w) A (.builtin "set.update.loop" ⟨[.ref S,.ref I],[]⟩) R s:=by
 have hSw:S ∉ X:=λh=>hSf (W.sub _ h);have hsub:∀b∈X,b∈S::X:=λb hb=>Ay _ hb;have key:∀{h h':Heap} {z:List Int} {b:Addr},(∀c o,c ∉ X->h.get? c=some o->h'.get? c=some o)->b ∉ S::X->D7 (intKind prog w) h z b->D7 (intKind prog w) h' z b:=λ{h h' z b} k nb ⟨o,items,m,ho,r⟩=>⟨o,items,m,k b o (λq=>nb (Ay _ q)) ho,r⟩;intro k;induction k with
 |zero=>
  intro i s ks hk hi hst hS Z hT hR;have e:i=n:=by omega
  subst e;refine D8 E7 ?_;rw[DI Dp _];show wpAny _ A.in1 (pyNext (.ref I) >>= _) _ _ s;refine dm (W.done s _ _ hst λs' N=>?_);show wpAny _ A.in1 (ret Ac) _ _ s';refine xd (hR s' ks (N.mono hsub) (hS.at (λo ho=>N.heap S o hSw ho) λz b _ hb=>⟨key (λc o U=>N.heap c o U) hb.2.2 hb.1,hb.2⟩) λz=>?_);rw[Z z,BI ⋯]
 |succ k ih=>
  intro i s ks hk hi hst hS Z hT hR;have hlt:i<n:=by omega
  refine D8 E7 ?_;rw[DI Dp _];show wpAny _ A.in1 (pyNext (.ref I) >>= _) _ _ s;refine dm (W.item i s _ _ hlt hst λv s' hv hst' N=>?_);obtain⟨z,b,ez,rfl,nb,gz⟩:=hP i v hv;have kz:=key (λc o U=>N.heap c o U) nb (hT i z b ez hv);have hS':=hS.at (h':=s'.heap) (λo ho=>N.heap S o hSw ho) λz b _ hb=>⟨key (λc o U=>N.heap c o U) hb.2.2 hb.1,hb.2⟩;have hn:ks.length+1<=306:=by obtain⟨_,_,_,_,_,_,_,_,hnd,_⟩:=hS;exact hm ks hnd λy hy=>Bh ((Z y).mp hy)
  have hu1:A.in1.units<cLine:=by simp only[Around.in1_units];omega
  show wpAny _ A.in1 (holding [Bb b] (setAdd S (.ref b)) >>= _) _ _ s';refine dm (Bo ?_);unfold setAdd;refine Bo (dm (wpAny_pyHash_tuple hu1 kz ?_));refine sr (κ:=(tupS prog w).vm λz b=>G z b/\b ∉ S::X) (s:={s' with toks:=s'.toks+(z.length+1)}) hS' hu1 ⟨kz,gz,nb⟩ hn λh' Y sb st pm=>?_
  have hin':∀y,y∈Y↔y∈zs.take (i+1):=λy=>by
   rw[Ek,ez,AO];simp only[Option.toList_some,Av];rw[<-Z y];split at pm
   . rename_i hm1;subst pm
     exact⟨.inl,λh=>h.elim id λe=>e▸hm1⟩
   . rw[pm.mem_iff,Al];exact Or.comm
  have bne:∀{c:Addr},c ∉ S::X->c≠S:=λh e=>h (e▸AE);refine xd ⟨GI Dp _,ih (i+1) _ Y ⋯ hlt (W.frame _ s' _ _ hst' (Dc _ _) λc U o e=>?_) st hin' (λj y c e U=>?_) λs'' ks'' hm'' hS'' hin''=>?_⟩
  . exact(sb.2 c (λh:c=S=>hSf (by rw[<-h];exact U))).trans e
  . obtain⟨y',c',e1,e2,e3,_⟩:=hP j _ U
    cases e2;obtain⟨o,items,m,ho,r⟩:=key (λc o U=>N.heap c o U) e3 (hT j y c e U);exact⟨o,items,m,(sb.2 c (bne e3)).trans ho,r⟩
  . refine hR s'' ks'' (Moved.trans W.gtrans ((N.mono hsub).then_heap (Dc _ _) λc o U e=>?_) hm'') hS'' hin''
    exact(sb.2 c (bne U)).trans e
def qN a
 (h:Q₁ (.ref s.heap.objs.size) {s with heap:=s.heap.push {cls:=.type "set",dict:=none,data:=.set #[] 0 (.fresh 0 0 (!zv w))}}) :
 codeAny (model prog w) A (.call (.builtin "set.__new__") ⟨[.type "set",a],[]⟩) (wants Q₁ E) s:=by
 refine EO ?_;show wpAny _ A.in1 (do checkBuiltinCall "set.__new__" ⟨[.type "set",a],[]⟩;again (.builtin "set.__new__" ⟨[.type "set",a],[]⟩)) _ _ s
 refine dm (DL (F.newCall_set_1 a) (xd ⟨GI F.plain_set_new _,D8 F.entry_set_new ?_⟩));rw[DI F.plain_set_new _];unfold Builtin.«set.__new__» Builtin.Frozenset.newClass;have N:=sub_set_self;obtain⟨hp,g,d,tk,os⟩:=s;dsimp only
 wp_walk
 refine Cc (xd ?_);dsimp only;simp only[newObj];refine dm (wpAny_alloc (xd ?_));exact xd h
def qM{zs:List (List Int)}
 (hh:A.handled=none) (hu:A.units+40<cLine) (hl:s.heap.IsList l items) (hz:zs.length=items.size) (hi:∀(i:Nat) z,zs[i]?=some z->∃b,items[i]?=some (.ref b)/\D7 (intKind prog w) s.heap z b/\G z b) (hm:∀L:List (List Int),L.Nodup->(∀z∈L,z∈zs)->L.length<306)
 (h:∀h' tk ks,ym ((tupS prog w).vm G) (!zv w) h' s.heap.objs.size ks->(∀z,z∈ks↔z∈zs)->(∀b o,b<s.heap.objs.size->s.heap.get? b=some o->h'.get? b=some o)->Q (.ref s.heap.objs.size) {s with heap:=h',toks:=tk}) :
 wpAny (model prog w) A (call (.type "set") [.ref l]) Q E s:=by
 obtain⟨c,tl,hmro⟩:=DQ.mro;have hmade:=DQ.made;have hsub:=DQ.sub;refine wpAny_call (EO ?_);show wpAny _ _ (callAny (.type "set") _) _ _ _;refine xd ⟨Code.quiet_builtin _ (by decide +kernel),D8 F.entry_type_call ?_⟩
 rw[Around.under_plain (weight_type_call_type "set" [.ref l] []) rfl];have h1:=DQ.notType;have h2:=DQ.canCreate;have hct:=F.typeCall_set_1 (.ref l)
 repeat (any_goals (first|assumption|wp_step))
 refine FQ (qN (.ref l) (E:=E) (Q₁:=λobj Z=>obj=.ref s.heap.objs.size/\Z={s with heap:=s.heap.push {cls:=.type "set",dict:=none,data:=.set #[] 0 (.fresh 0 0 (!zv w))}}) ⟨rfl,rfl⟩) λr Z hr=>?_
 cases r with
 |error e=>exact hr
 |ok fl=>
  cases fl with
  |ret obj=>
   obtain⟨rfl,rfl⟩:=hr;have hS:(s.heap.push {cls:=.type "set",dict:=none,data:=.set #[] 0 (.fresh 0 0 (!zv w))}).get? s.heap.objs.size=some {cls:=.type "set",dict:=none,data:=.set #[] 0 (.fresh 0 0 (!zv w))}:=Az _ rfl;have hT:Shared.TypeIs {s with heap:=s.heap.push {cls:=.type "set",dict:=none,data:=.set #[] 0 (.fresh 0 0 (!zv w))}} (.ref s.heap.objs.size) "set":=⟨_,hS,rfl⟩
   have hli:=DQ.init.lookup;have hbi:=DQ.init.bind (.ref s.heap.objs.size)
   repeat (any_goals (first|assumption|wp_step))
   refine FQ (codeAny_call_builtin (R:=wants (λr Y=>r=.none/\∃h' tk ks,Y={s with heap:=h',toks:=tk} /\
    ym ((tupS prog w).vm G) (!zv w) h' s.heap.objs.size ks/\(∀z,z∈ks↔z∈zs) /\
    (∀b o,b<s.heap.objs.size->s.heap.get? b=some o->h'.get? b=some o)) E) DQ.init.plain F.entry_set_init (check_set_init_1 hT ?_)) λr₂ Y N=>?_
   . obtain⟨ol,hol,hcl,nl,hdl⟩:=hl
     obtain⟨ocls,odict,odata,W⟩:=ol;simp only at hcl hdl;subst hcl;subst hdl;have hol':(s.heap.push {cls:=.type "set",dict:=none,data:=.set #[] 0 (.fresh 0 0 (!zv w))}).get? l=some {cls:=.type "list",dict:=odict,data:=.seq items nl,slots:=W}:=zO _ hol;have hsls:=F.sub_list_set;have hslf:=F.sub_list_frozenset;have hne:(Dd "list" == Dd "dict")=false:=by decide
     have hl1:(s.heap.push {cls:=.type "set",dict:=none,data:=.set #[] 0 (.fresh 0 0 (!zv w))}).IsList l items:=⟨_,hol',rfl,nl,rfl⟩;unfold Builtin.«set.__init__» noKeywords Builtin.Frozenset.updateFrom;generalize hPI:pyIter=PI
     wp_walk
     subst hPI;refine Ee hl1 ?_;refine dm (wpAny_runValue ?_);have hlS:@LT.lt Nat _ l s.heap.objs.size:=Am hol;have hh3:A.in1.in1.in1.handled=none:=by simp[hh]
     generalize hit:(s.heap.push {cls:=.type "set",dict:=none,data:=.set #[] 0 (.fresh 0 0 (!zv w))}).objs.size=it;have S:it=s.heap.objs.size+1:=by rw[<-hit,BK]
     have hneI:l≠it:=AD (by rw[S];exact Cg hlS)
     have hSf:s.heap.objs.size ∉ [it,l]:=by simp only[Al,Bt,or_false,not_or];exact⟨AD (by rw[S];exact CF _),Dk hlS⟩
     have two:∀{b:Addr},@LT.lt Nat _ b s.heap.objs.size->b ∉ [s.heap.objs.size,it]:=λ{b} hb=>by simp only[Al,Bt,or_false,not_or];exact⟨AD hb,AD (by rw[S];exact Cg hb)⟩
     have hval:∀(i:Nat) (v:Value),items[i]?=some v->∃z b,zs[i]?=some z/\v=.ref b/\b ∉ [s.heap.objs.size,it]/\G z b:=λi v hv=>by
      have hil:i<zs.length:=by rw[hz];exact(AV.mp hv).1
      obtain⟨b,e1,⟨o,its,m,ho,_⟩,g⟩:=hi i _ (pn hil);rw[hv]at e1;exact⟨_,b,pn hil,AH e1,two (Am ho),g⟩
     refine oz (G:=G) (zs:=zs) ((Ie hh3 _ l hneI items).toS) s.heap.objs.size hSf (by simp only[Around.in1_units];omega) hval hz hm (items.size-0) 0 _ [] ⋯ (AS _)
      ⟨⟨_,by rw[<-hit];exact Az _ rfl,rfl,rfl⟩,(hl1.push _)⟩ ?hS0 (λz=>by simp) (λi z b e hb=>?hT0) ?hR
     case hS0=>
      exact⟨_,#[],0,_,zO _ hS,⟨rfl,rfl,rfl⟩,rfl,⟨rfl,λi k e=>by cases e⟩,Gi,mL _,rfl,rfl,rfl,AS _⟩
     case hT0=>
      obtain⟨b',e1,⟨o,its,m,ho,r⟩,_⟩:=hi i z e;rw[show items[i]?=some (.ref b) from hb]at e1;cases e1;exact⟨o,its,m,zO _ (zO _ ho),r⟩
     case hR=>
      intro s' ks' X hS' U;obtain⟨h',g',d',tk',os'⟩:=s';have eg:g'=s.gens:=X.gens;have ed:d'=s.drawn:=X.drawn;have eo:os'=s.os:=X.os;subst eg;subst ed;subst eo;show wpAny _ _ _ _ _ _;refine xd ?_;show wpAny _ _ (ret Ac) _ _ _;refine xd ⟨rfl,h',tk',ks',rfl,hS'.weak (λ_ _ g=>g.1),U,λb o hb e=>?_⟩;exact X.heap b o (two hb) (zO _ (zO _ e))
   . cases r₂ with
     |error e=>exact N
     |ok fl₂=>
      cases fl₂ with
      |ret r=>
       obtain⟨rfl,h',tk,ks,rfl,hS',U,hk'⟩:=N
       repeat (any_goals (first|assumption|wp_step))
       exact h _ _ _ hS' U hk'
      |_=>exact N.elim
  |_=>exact hr.elim
end M.St
end
section
namespace L2
open PySem PySem.Spec PySem.W PySem.Calls PyProof PyProof.Rows
def i7(hc:X.g=true)(hu:X.A.units+40<cLine):yL X (.type "set") (λxs H Q=>∃p,∃cs:List Addr,∃zs:List (List Int),∃G:List Int->Addr->Prop,xs=[.c p]/\SqL X.K H p (cs.map V.c)/\cs.length=zs.length/\Each G zs cs/\(∀(i:Nat) z c,zs[i]?=some z->cs[i]?=some c->SqT X.K H c (z.map V.d)) /\
 (∀L:List (List Int),L.Nodup->(∀z∈L,z∈zs)->L.length<306) /\
 ∀l ks bs,H l=none->SqS X (upd H l (ye X l ks bs)) l ks bs->Each G ks bs->ks.Nodup->(∀z,z∈ks↔z∈zs)->Q (.c l) (upd H l (ye X l ks bs))):=by
 intro pins s σ H xs us Q I r h;obtain⟨p,cs,zs,G,rfl,hq,hl,hg,ht,hm,q⟩:=h;obtain⟨u,rfl,rx⟩:=vals1 r;cases rx;obtain⟨its,rv,pl,hz⟩:=I.list hq;have R:=rv.length;rw[Aa]at R;refine M.St.qM (G:=λz b=>SqT X.K H b (z.map V.d)/\G z b) (zs:=zs) (I.y.d hc) hu pl.isList (by rw[Ae];omega) (λi z e=>?_) hm λh' tk ks hS Y kp=>?_
 . have hi:i<cs.length:=by rw[hl];exact(Ai.mp e).1
   have ec:cs[i]?=some cs[i]:=pn hi;have sq:=ht i z _ e ec;obtain⟨its',r',⟨o,ho,Z,n,hd⟩,_⟩:=I.tuple sq;obtain⟨v,U,S⟩:=rv.get (i:=i) (x:=V.c cs[i]) (by rw[Aq,ec];rfl)
   cases S;exact⟨cs[i],by rw[CJ];exact U,⟨o,its'.toArray,n,ho,Z,hd,uq r'⟩,sq,hg i z _ e ec⟩
 . obtain⟨bs,so,ta⟩:=hS.split
   have N:M.St.vS (M.St.tupS X.f X.w) (!M.St.zv X.w) ks bs s.heap.objs.size h':=so;have fr:=I.j.fresh (Ab s.heap.objs.size);refine⟨.c _,_,I.laid (t':=tk) (o:=ye X s.heap.objs.size ks bs) (λb o e=>kp b o (Am e) e) (Ab _) (kY N),rfl,q _ ks bs fr ⟨zY,λi k b U S=>?_⟩ (λi k b U S=>(ta i k b U S).2.2) ?_ Y⟩
   . rcases (ta i k b U S).2.1 with h|h
     . refine .inl ?_
       rcases h with h|⟨o,h⟩
       . exact .inl (by rw[zM (zU h fr)];exact h)
       . exact .inr ⟨o,by rw[zM (zU h fr)];exact h⟩
     . exact .inr h
   . obtain⟨_,_,_,_,_,_,_,_,_,_,W,_⟩:=N
     exact W
def nP
 (h0:codeAny (model prog w) A (.compLoop (.SetComp elt [⟨tg,iter,ifs,0⟩,⟨tg2,iter2,ifs2,0⟩] csc cpos) 1 it acc env) R s)
 (h:wpAny (model prog w) A (pyIter it) (λN s'=>codeAny (model prog w) A (.compLoop (.SetComp elt [⟨tg,iter,ifs,0⟩,⟨tg2,iter2,ifs2,0⟩] csc cpos) 1 N acc env) R s')
  (notedBy (model prog w) A env λx s'=>R (.error x) s') s) :
 codeAny (model prog w) A (.compStart (.SetComp elt [⟨tg,iter,ifs,0⟩,⟨tg2,iter2,ifs2,0⟩] csc cpos) 1 it acc env) R s:=by
 refine EO ?_;show wpAny _ _ ((Gs (.SetComp elt [⟨tg,iter,ifs,0⟩,⟨tg2,iter2,ifs2,0⟩] csc cpos) 1 it acc env).onRaise (λx=>do HF x env;standAt HG)) _ _ s
 refine Ip ?_;unfold Gs;show wpAny _ _ (ask >>= _) _ _ s;refine dm (Cc (wpAny_ite ?_));split
 . first
    |exact dm (xd (xd (Af rfl h0)))
    |exact xd (Af rfl h0)
 . first
    |exact dm (BE (dm (BL (dm (Cj h (λN s' h'=>xd (Af rfl h')) λ_ _ x=>x)))))
    |(refine dm (BE ?_);show wpAny _ _ (standAt iter2.pos >>= _) _ _ s;exact dm (BL (dm (Cj h (λN s' h'=>xd (Af rfl h')) λ_ _ x=>x))))
def UG(elt tg iter:Expr)(ifs:List Expr)(R N:Expr)(ifs2:List Expr)(csc:Scope)(cpos:Pos)(it:Addr)(acc:Value)(env:Env) :
 CD (.SetComp elt [⟨tg,iter,ifs,0⟩,⟨R,N,ifs2,0⟩] csc cpos) 0 (.ref it) acc env=(do
  standAt iter.pos
  match <-pyNext (.ref it) with
  |none=>pure (.done .next)
  |some v=>
   Bj tg (.ref it) v
   assign tg env v
   let mut ok:=true
   for c in ifs do
    if ok then ok <-isTrue c env (eval c env)
   if ok then (do
    let x <-eval N env
    standAt N.pos
    let x <-AN N env x;let _ <-runOwn (.compStart (.SetComp elt [⟨tg,iter,ifs,0⟩,⟨R,N,ifs2,0⟩] csc cpos) 1 (<-holding [x] (pyIter x)) acc env) env)
   again (.compLoop (.SetComp elt [⟨tg,iter,ifs,0⟩,⟨R,N,ifs2,0⟩] csc cpos) 0 (.ref it) acc env)):=by
 have e:CD (.SetComp elt [⟨tg,iter,ifs,0⟩,⟨R,N,ifs2,0⟩] csc cpos) 0 (.ref it) acc env=(do
  standAt iter.pos
  match <-pyNext (.ref it) with
  |none=>pure (.done .next)
  |some v=>
   Bj tg (.ref it) v
   assign tg env v
   let mut ok:=true
   for c in ifs do
    if ok then ok <-isTrue c env (eval c env)
   if ok then
    let x <-eval N env
    standAt N.pos
    let x <-AN N env x;let _ <-runOwn (.compStart (.SetComp elt [⟨tg,iter,ifs,0⟩,⟨R,N,ifs2,0⟩] csc cpos) 1 (<-holding [x] (pyIter x)) acc env) env
   again (.compLoop (.SetComp elt [⟨tg,iter,ifs,0⟩,⟨R,N,ifs2,0⟩] csc cpos) 0 (.ref it) acc env)):=by rfl
 rw[e];simp only[Ic,FI]
def Yi(elt tg iter:Expr)(ifs:List Expr)(R N:Expr)(ifs2:List Expr)(csc:Scope)(cpos:Pos)(it:Addr)(acc:Value)(env:Env) :
 CD (.SetComp elt [⟨tg,iter,ifs,0⟩,⟨R,N,ifs2,0⟩] csc cpos) 1 (.ref it) acc env=(do
  standAt N.pos
  match <-pyNext (.ref it) with
  |none=>pure (.done .next)
  |some v=>
   Bj R (.ref it) v
   assign R env v
   let mut ok:=true
   for c in ifs2 do
    if ok then ok <-isTrue c env (eval c env)
   if ok then (do let v <-eval elt env;standAt elt.pos;let _ <-call (.builtin "set.add") [acc,v])
   again (.compLoop (.SetComp elt [⟨tg,iter,ifs,0⟩,⟨R,N,ifs2,0⟩] csc cpos) 1 (.ref it) acc env)):=by rfl
def gu
 (hx:X.h=λ_ _=>False) (hc:X.g=true) (hi:PI X tg2 iter2 wi) (hg:PG X tg2 g) (Z:PTs X ifs2 ts) (hb:PB X (do let v <-eval elt X.a;standAt elt.pos;let _ <-call (.builtin "set.add") [.ref acc,v]) tb)
 (hs:∀x,AN iter2 X.a x=pure x:=by intro _;rfl) :
 PB X (do
       let x <-eval iter2 X.a
       standAt iter2.pos
       let x <-AN iter2 X.a x;let _ <-runOwn (.compStart (.SetComp elt [⟨tg,iter,ifs,0⟩,⟨tg2,iter2,ifs2,0⟩] csc cpos) 1 (<-holding [x] (pyIter x)) (.ref acc) X.a) X.a) (uR wi g ts tb):=by
 intro pins s σ H Nx I h;refine dm (thn (hi pins s σ H _ I h) λv s1 h1=>dm (BL (dm (DL (hs v) (dm (Bo (thn h1 λY s2 h2=>?_)))))));obtain⟨it,fp,tn,J,H2,e,I2,T,S,f2,U⟩:=h2;subst e;refine dm (wpAny_runOwn ?_);have R:codeAny (model X.f X.w) X.A (.compLoop (.SetComp elt [⟨tg,iter,ifs,0⟩,⟨tg2,iter2,ifs2,0⟩] csc cpos) 1 (.ref it) (.ref acc) X.a)
  (λr s'=>match r with|.ok f=>wpAny (model X.f X.w) X.A (pure PUnit.unit:Sem PUnit) (λ_ s'=>∃N H',Inv X pins N H' s'/\Nx N H') X.h s'|.error e=>cameBackBy (model X.f X.w) X.A X.a X.h e s') s2:=
  rE (Yi ..) hx hc T hg Z hb I2 S f2 U λN H' s' I' W _=>xd ⟨N,H',I',W⟩
 exact nP R (T.d X.A 0 _ _ _ S R)
def g7(hu:X.A.in1.units<cLine)(hc:X.g=true)(S:zc X N csc fr)(hi:PI X tg iter wi)(hg:∀C R H0 ex,PG (X.comp N csc C R H0 ex) tg g)(ht:∀C R H0 ex,PTs (X.comp N csc C R H0 ex) ifs ts)
 (Y:∀C R H0 ex,PI (X.comp N csc C R H0 ex) tg2 iter2 wi2) (Z:∀C R H0 ex,PG (X.comp N csc C R H0 ex) tg2 g2) (U:∀C R H0 ex,PTs (X.comp N csc C R H0 ex) ifs2 ts2)
 (he:∀C R H0 ex,PE (X.comp N csc C R H0 ex) elt te) (hs:∀x,AN iter X.a x=pure x:=by intro _;rfl)
 (W:∀env x,AN iter2 env x=pure x:=by intro _ _;rfl) :
 PE X (.SetComp elt [⟨tg,iter,ifs,0⟩,⟨tg2,iter2,ifs2,0⟩] csc cpos) (oa X fr wi g ts λacc=>uR wi2 g2 ts2 (aB X acc te)):=
 gw hc S hi (B:=λacc env=>(do
         let x <-eval iter2 env
         standAt iter2.pos
         let x <-AN iter2 env x;let _ <-runOwn (.compStart (.SetComp elt [⟨tg,iter,ifs,0⟩,⟨tg2,iter2,ifs2,0⟩] csc cpos) 1 (<-holding [x] (pyIter x)) acc env) env)) (UG elt tg iter ifs tg2 iter2 ifs2 csc cpos) hg ht
  (λC R H0 ex acc=>gu rfl hc (Y C R H0 ex) (Z C R H0 ex) (U C R H0 ex) (cn (X:=X.comp N csc C R H0 ex) hu (he C R H0 ex)) (W _)) hs
end L2
end
section
namespace M
open PySem
inductive Val where
 |h|e (b:Bool)|c (i:Int)|m (x:Str)
 |f (vs:List Val)|g (vs:List Val)|p
 |o (ns:List Int)|r (ns:List Int)
 |j (i:Nat)|u (x:Str)|t (n:String)|q (i:Nat)
 /-- the k-th lambda of a list of lambdas,at the address a -/
 |s (a k:Nat)
 deriving Inhabited
inductive Cel where
 |c (vs:List Val)
 |d (kvs:List (Str × Val))
 |e (kvs:List (List Int × Val))
 /-- the table of the codes that lie within the def x -/
 |f (x:Str)
 deriving Inhabited
abbrev Sto:=List Cel
abbrev Env:=List (Option Val)
inductive Out(α:Type) where
 |e (a:α) (s:Sto)
 |g (c:Str) (args:List Val) (s:Sto)
 |d
noncomputable def Out.bind{R N:Type}(o:Out R)(f:R->Sto->Out N):Out N:=
 match o with
 |.e a s=>f a s
 |.g c as s=>.g c as s
 |.d=>.d
@[simp] def zN a s(f:α->Sto->Out β):(Out.e a s).bind f=f a s:=rfl
@[simp] def rB(f:α->Sto->Out β):(Out.d:Out α).bind f=.d:=rfl
@[simp] def fq c as s(f:α->Sto->Out β):(Out.g c as s:Out α).bind f=.g c as s:=rfl
mutual
noncomputable def Val.isD:Val->Bool
 |.h|.e _|.c _=>true
 |.m x=>PyData.strOk x
 |.f vs=>vA vs
 |.g vs=>vA vs
 |.p|.o _|.r _|.j _|.u _|.t _|.q _|.s _ _=>false
noncomputable def vA:List Val->Bool
 |[]=>true
 |v::vs=>v.isD&&vA vs
end
mutual
noncomputable def Val.isR:Val->Bool
 |.h|.e _|.c _|.m _|.p=>true
 |.f vs=>sO vs
 |.g vs=>sO vs
 |.o _|.r _|.j _|.u _|.t _|.q _|.s _ _=>false
noncomputable def sO:List Val->Bool
 |[]=>true
 |v::vs=>v.isR&&sO vs
end
mutual
noncomputable def Val.d:Val->PyData
 |.h=>.none
 |.e b=>.bool b
 |.c i=>.int i
 |.m x=>.str x
 |.f vs=>.tuple (ds vs)
 |.g vs=>.list (ds vs)
 |.p=>.dict []
 |.o _|.r _|.j _|.u _|.t _|.q _|.s _ _=>.none
noncomputable def ds:List Val->List PyData
 |[]=>[]
 |v::vs=>v.d::ds vs
end
mutual
noncomputable def Val.noRef:Val->Bool
 |.j _|.q _=>false
 |.f vs=>zq vs
 |.g vs=>zq vs
 |.h|.e _|.c _|.m _|.p|.o _|.r _|.u _|.t _|.s _ _=>true
noncomputable def zq:List Val->Bool
 |[]=>true
 |v::vs=>v.noRef&&zq vs
end
def Cel.noRef:Cel->Bool
 |.c vs=>zq vs
 |.d kvs=>zq (kvs.map (·.2))
 |.e kvs=>zq (kvs.map (·.2))
 |.f _=>true
mutual
noncomputable def Val.beq:Val->Val->Bool
 |.h,.h=>true
 |.e a,.e b=>a == b
 |.c a,.c b=>a == b
 |.m a,.m b=>a == b
 |.f a,.f b=>tP a b
 |.g a,.g b=>tP a b
 |.p,.p=>true
 |.o a,.o b=>a == b
 |.r a,.r b=>a == b
 |.j a,.j b=>a == b
 |.u a,.u b=>a == b
 |.t a,.t b=>a == b
 |.q a,.q b=>a == b
 |.s a k,.s b l=>a == b&&k == l
 |_,_=>false
noncomputable def tP:List Val->List Val->Bool
 |[],[]=>true
 |a::as,b::bs=>a.beq b&&tP as bs
 |_,_=>false
end
def Cel.beq:Cel->Cel->Bool
 |.c a,.c b=>tP a b
 |.d a,.d b=>decide (a.map (·.1)=b.map (·.1))&&tP (a.map (·.2)) (b.map (·.2))
 |.e a,.e b=>decide (a.map (·.1)=b.map (·.1))&&tP (a.map (·.2)) (b.map (·.2))
 |.f a,.f b=>decide (a=b)
 |_,_=>false
def xw:Sto->Sto->Bool
 |[],_=>true
 |o::r,o'::r'=>(o'.noRef||o'.beq o)&&xw r r'
 |_::_,[]=>false
mutual
noncomputable def w9(N:Nat)(s:Sto):Nat->Val->Option Val
 |_,.q i=>if i<N then some (.q i) else dS
 |_,.j i=>if i<N then some (.j i) else match s[i]? with
  |some (.c vs)=>if zq vs then some (.g vs) else dS
  |_=>dS
 |k+1,.f vs=>(uj N s k vs).map .f
 |_,v=>if v.noRef then some v else dS
noncomputable def uj(N:Nat)(s:Sto):Nat->List Val->Option (List Val)
 |_,[]=>some []
 |0,_::_=>dS
 |k+1,v::vs=>match (if v.noRef then some v else w9 N s k v),uj N s k vs with
  |some v',some vs'=>some (v'::vs')
  |_,_=>dS
end
def freeze(N:Nat)(s:Sto)(v:Val):Option Val:=if v.noRef then some v else w9 N s 20 v
inductive Bop|a|e|b|d|c|f|h|i|g
 deriving DecidableEq
inductive Cop|d|c|m|g|k|j|i|b|h|a|l|e|f
 deriving DecidableEq
inductive Bf|a|p|q|c|l|g|i|j|k|s|o|h|b|r|d|n|e|m
 deriving DecidableEq
inductive Mf|a|b|c|f|d|e
 deriving DecidableEq
inductive Tgt
 |a (i:Nat)
 |b (is:List Nat)
mutual
inductive Ex
 |g (v:Val)|e (i:Nat)|L (x:Str)|M (x:Str) (n:String)
 |j (m:Bool) (op:Bop) (a b:Ex)|B (a:Ex)|G (a:Ex)
 |p (op:Cop) (a b:Ex)|y (op op':Cop) (a b c:Ex)
 |w (a:Ex) (es:Exs)|O (a:Ex) (es:Exs)|I (c:Cn) (a b:Ex)
 |q (es:Exs)|u (m:Bool) (es:Exs)|H
 |h (f:Str) (ver:Nat) (es:Exs)|k (f:Bf) (m:Bool) (es:Exs)|J (a d:Ex)
 |Q (f:Mf) (m:Bool) (o:Ex) (es:Exs)
 |r (a b:Ex)|F (m:Bool) (a:Ex) (lo hi st:OEx)
 |l (m:Bool) (N:List Str) (fr:List (Option Nat)) (elt:Ex) (t:Tgt) (it:Itb) (ifs:Cns)
 |z (m:Bool) (N:List Str) (fr:List (Option Nat)) (elt:Ex) (t:Tgt) (it:Itb) (ifs:Cns) (t2:Tgt) (it2:Itb) (ifs2:Cns)
 |s (m:Bool) (a b c:Ex)
 |E (t:Bool)|P (a b:Ex)
 /-- a set GC: only what is walked is known of it -/
 |C (a:Ex)
 /-- sorted(set(a));sorted of a set GC -/
 |D (m:Bool) (a:Ex)
 |K (m:Bool) (N:List Str) (fr:List (Option Nat)) (elt:Ex) (t:Tgt) (it:Itb) (ifs:Cns)
 |A (m:Bool) (N:List Str) (fr:List (Option Nat)) (elt:Ex) (t:Tgt) (it:Itb) (ifs:Cns) (t2:Tgt) (it2:Itb) (ifs2:Cns)
inductive Exs
 |b|a (e:Ex) (es:Exs)
inductive OEx
 |b|a (e:Ex)
inductive Cn
 |a (e:Ex)|b (c:Cn)|d (c:Cn) (cs:Cns)|f (c:Cn) (cs:Cns)
inductive Cns
 |a|b (c:Cn) (cs:Cns)
inductive Itb
 |f (e:Ex)|d (a:Ex)|g (a b:Ex)|h (e:Ex)|j (a b:Ex)|i (a b c:Ex)
end
mutual
inductive Sm
 |m (e:Ex)|f (e:Ex)|v|d (i:Nat) (e:Ex)|p (is:List Nat) (e:Ex)|q (is:List Nat) (es:Exs)
 |y (i:Nat) (op:Bop) (e:Ex)|l (o i e:Ex)
 |j (c:Cn) (a b:Sms)|g (t:Tgt) (it:Itb) (b:Sms)|r (c:Cn) (b:Sms)
 |u|x|s|n (e:Ex)|w (o i e:Ex)
inductive Sms
 |f|e (s:Sm) (ss:Sms)
 /-- x=[lambda: ..];x.append(lambda: ..) ..;mid;then a row with [_law_said(c) for c in x];k: 0 it is returned,1 it is returned whether it is d,2 if it is not d (or o): b -/
 |g (i:Nat) (L:Exs) (mid:Sms) (k:Nat) (d:Ex) (o:Cns) (b cs:Sms)
end
structure Fn where
 N:List Str
 a:List Str
 c:Bool
 b:Sms
abbrev Calls:=Str->Nat->List Val->Sto->Out Val
noncomputable def zR:Nat:=16777216
noncomputable def newList(m:Bool)(vs:List Val)(s:Sto):Out Val:=if m then .e (.j s.length) (s++[.c vs]) else .e (.g vs) s
noncomputable def y4(s:Sto):Val->Option (List Val)
 |.f vs=>some vs
 |.g vs=>some vs
 |.o ns=>some (ns.map .c)
 |.r ns=>some (ns.map .c)
 |.j i=>match s[i]? with
  |some (.c vs)=>some vs
  |_=>dS
 |_=>dS
noncomputable def yM(s:Sto):Val->Option (List Val)
 |.g vs=>some vs
 |.j i=>match s[i]? with
  |some (.c vs)=>some vs
  |_=>dS
 |_=>dS
def truth(s:Sto):Val->Option Bool
 |.h=>some false
 |.e b=>some b
 |.c i=>some (i != 0)
 |.m x=>if x.length<=zR then some ((x.length:Int) != 0) else dS
 |.f vs=>some !vs.isEmpty
 |.g vs=>some !vs.isEmpty
 |.p=>some false
 |.j i=>match s[i]? with
  |some (.c vs)=>some !vs.isEmpty
  |_=>dS
 |_=>dS
def Out.truth(o:Out Val):Out Bool:=o.bind λv s=>match M.truth s v with
 |some b=>.e b s
 |dS=>.d
noncomputable def yd(s:Sto):Val->Val
 |.j i=>match s[i]? with
  |some (.c vs)=>.g vs
  |_=>.j i
 |v=>v
def zx(s:Sto):Val->Val
 |.f vs=>.f (vs.map (yd s))
 |v=>yd s v
def rq(d:PyData):Bool:=d.showable&&d.leavesShort 40&&decide (d.depth<=50)&&decide (d.weight<=300000)&&(!d.hasDict||!L2.yv d)
noncomputable def flat:Val->Bool
 |.h|.e _|.c _|.m _=>true
 |_=>false
noncomputable def eqF:Val->Val->Bool
 |.h,.h=>true
 |.e a,.e b=>a == b
 |.e a,.c b=>(if a then 1 else 0) == b
 |.c a,.e b=>a == (if b then 1 else 0)
 |.c a,.c b=>a == b
 |.m a,.m b=>a == b
 |_,_=>false
def pj(a b:Val):Option Bool:=if a.isD&&b.isD&&decide (b.d.depth<=60) then some (BX a.d b.d) else dS
noncomputable def intsOf:List Val->Option (List Int)
 |[]=>some []
 |.c i::vs=>(intsOf vs).map (i::·)
 |_=>dS
noncomputable def Val.isN:Val->Bool
 |.h=>true
 |_=>false
def inD(x:Val)(vs:List Val):Bool:=x.isD&&vA vs&&decide (x.d.depth<=60)
noncomputable def ah{κ:Type} [DecidableEq κ]:List (κ × Val)->κ->Option Val
 |[],_=>dS
 |p::r,k=>if p.1=k then some p.2 else ah r k
def Ug{κ:Type} [DecidableEq κ] (N:List (κ × Val))(k:κ)(v:Val):List (κ × Val):=
 if (ah N k).isSome then N.map (λp=>if p.1=k then (p.1,v) else p) else N++[(k,v)]
noncomputable def Y0(s:Sto):Val->Option (Nat × Cel)
 |.q i=>(s[i]?).map λc=>(i,c)
 |_=>dS
def Xu:Cel->Val->Option (Option Val)
 |.d kvs,.m k=>some (ah kvs k)
 |.e kvs,.f vs=>(intsOf vs).map λk=>ah kvs k
 |_,_=>dS
def Xv:Cel->Val->Val->Option Cel
 |.d kvs,.m k,v=>if kvs.length<zR then some (.d (Ug kvs k v)) else dS
 |.e kvs,.f vs,v=>(intsOf vs).bind λk=>if kvs.length<zR then some (.e (Ug kvs k v)) else dS
 |_,_,_=>dS
def getD(d y:Val)(s:Sto):Option (Option Val):=(Y0 s d).bind λc=>Xu c.2 y
def ixD(d y:Val)(s:Sto):Out Val:=match getD d y s with
 |some (some v)=>.e v s
 |_=>.d
def putD(d y v:Val)(s:Sto):Option Sto:=(Y0 s d).bind λc=>(Xv c.2 y v).map λN=>s.set c.1 N
noncomputable def strsOf:List Val->Option (List Str)
 |[]=>some []
 |.m x::vs=>(strsOf vs).map (x::·)
 |_=>dS
def zQ(op:Cop)(x y:Val)(s:Sto):Out Val:=
 match op with
 |.d=>match x,y with
  |.m a,.m b=>.e (.e (decide (a=b))) s
  |.f a,.o ns=>match pj (zx s (.f a)) (.f (ns.map .c)) with|some b=>.e (.e b) s|dS=>.d
  |_,_=>match pj (zx s x) (zx s y) with|some b=>.e (.e b) s|dS=>.d
 |.c=>match x,y with
  |.m a,.m b=>.e (.e !(decide (a=b))) s
  |_,_=>match pj (zx s x) (zx s y) with|some b=>.e (.e !b) s|dS=>.d
 |.i=>match y with|.h=>.e (.e x.isN) s|.e b=>(match x with|.e a=>.e (.e (decide (a=b))) s|_=>.d)|_=>.d
 |.b=>match y with|.h=>.e (.e !x.isN) s|.e b=>(match x with|.e a=>.e (.e !(decide (a=b))) s|_=>.d)|_=>.d
 |.h=>match y4 s y with
  |some vs=>if flat x&&vs.all flat then .e (.e (vs.any λz=>eqF z x)) s else if inD x vs then .e (.e (vs.any λz=>BX z.d x.d)) s else .d
  |dS=>.d
 |.a=>match y4 s y with
  |some vs=>if flat x&&vs.all flat then .e (.e !(vs.any λz=>eqF z x)) s else if inD x vs then .e (.e !(vs.any λz=>BX z.d x.d)) s else .d
  |dS=>.d
 |.l=>match getD y x s with|some o=>.e (.e o.isSome) s|dS=>.d
 |.e=>match getD y x s with|some o=>.e (.e !o.isSome) s|dS=>.d
 |.f=>match x with
  |.p=>(match y4 s y with
   |some vs=>(match M.intsOf vs with|some _=>.e (.e true) s|dS=>.d)
   |dS=>.d)
  |_=>(match y4 s y with
   |some vs=>if flat x&&vs.all flat then .e (.e !(vs.any λz=>eqF z x)) s else if inD x vs then .e (.e !(vs.any λz=>BX z.d x.d)) s else .d
   |dS=>.d)
 |.m=>match x,y with|.c i,.c j=>.e (.e (decide (i<j))) s|_,_=>.d
 |.g=>match x,y with|.c i,.c j=>.e (.e (decide (i<=j))) s|_,_=>.d
 |.k=>match x,y with|.c i,.c j=>.e (.e (decide (j<i))) s|_,_=>.d
 |.j=>match x,y with|.c i,.c j=>.e (.e (decide (j<=i))) s|_,_=>.d
def binOp(m:Bool)(op:Bop)(x y:Val)(s:Sto):Out Val:=
 match op with
 |.a=>match x,y with
  |.c i,.c j=>.e (.c (i+j)) s
  |.m a,.m b=>if a.length+b.length<=zR then .e (.m (a++b)) s else .d
  |.f a,.f b=>if a.length+b.length<=zR then .e (.f (a++b)) s else .d
  |_,_=>match yM s x,yM s y with
   |some a,some b=>if a.length+b.length<=zR then newList m (a++b) s else .d
   |_,_=>.d
 |.e=>match x,y with|.c i,.c j=>.e (.c (i-j)) s|_,_=>.d
 |.b=>match x,y with
  |.c i,.c j=>if (-(2 ^ 64)<i/\i<2 ^ 64)\/(-(2 ^ 64)<j/\j<2 ^ 64) then .e (.c (i*j)) s else .d
  |.f a,.c k=>if -1000<=k/\k<=1000/\a≠[]/\a.length<=1000 then .e (.f (AR k.toNat a).flatten) s else .d
  |_,.c k=>match yM s x with
   |some a=>if -1000<=k/\k<=1000/\a.length*k.toNat<=zR then newList m (AR k.toNat a).flatten s else .d
   |dS=>.d
  |_,_=>.d
 |.d=>match x,y with|.c i,.c j=>if 0<j/\j<1073741824 then .e (.c (i/j)) s else .d|_,_=>.d
 |.c=>match x,y with|.c i,.c j=>if 0<j then .e (.c (i%j)) s else .d|_,_=>.d
 |.f=>match x,y with|.c i,.c j=>if 0<=j/\j<=1000000/\i.natAbs<2 ^ 64 then .e (.c (i ^ j.toNat)) s else .d|_,_=>.d
 |.h=>match x,y with|.c i,.c j=>if 0<=j/\j<=1000000/\i.natAbs<2 ^ 64 then .e (.c (i*2 ^ j.toNat)) s else .d|_,_=>.d
 |.i=>match x,y with|.c i,.c j=>if 0<=j then .e (.c (i/2 ^ j.toNat)) s else .d|_,_=>.d
 |.g=>match x,y with|.c i,.c j=>.e (.c (Builtin.bitAnd i j)) s|_,_=>.d
noncomputable def kindOf:Val->Option L2.Kd
 |.h=>some .e
 |.e _=>some .i
 |.c _=>some .b
 |.m _=>some .g
 |.f _=>some .h
 |.g _=>some .d
 |.p=>some .f
 |.j _=>some .d
 |_=>dS
noncomputable def tZ:String->Option L2.Kd
 |"bool"=>some .i
 |"int"=>some .b
 |"str"=>some .g
 |"list"=>some .d
 |"tuple"=>some .h
 |"dict"=>some .f
 |_=>dS
noncomputable def boolsOf:List Val->Option (List Bool)
 |[]=>some []
 |.e b::vs=>(boolsOf vs).map (b::·)
 |_=>dS
noncomputable def pairsOf:List Val->Option (List (Int × Int))
 |[]=>some []
 |.f [.c a,.c b]::vs=>(pairsOf vs).map ((a,b)::·)
 |_=>dS
noncomputable def prV(z:Int × Int):Val:=.f [.c z.1,.c z.2]
def U2(z:Int × Int):List (Int × Int)->List (Int × Int)
 |[]=>[z]
 |y::ys=>if L2.Yz z<=L2.Yz y then z::y::ys else y::U2 z ys
def XQ:List (Int × Int)->List (Int × Int)
 |[]=>[]
 |z::zs=>U2 z (XQ zs)
def yB:List Val->Option (List (List Int))
 |[]=>some []
 |.f a::vs=>match intsOf a,yB vs with
  |some z,some zs=>some (z::zs)
  |_,_=>dS
 |_=>dS
noncomputable def tpV(z:List Int):Val:=.f (z.map .c)
noncomputable def tpS(x:Str)(z:List Int):Val:=.f (.m x::z.map .c)
def XX(x:Str):List Val->Option (List (List Int))
 |[]=>some []
 |.f (.m y::a)::vs=>if y=x then (match intsOf a,XX x vs with
  |some z,some zs=>some (z::zs)
  |_,_=>dS) else dS
 |_=>dS
noncomputable def Y7:List Val->Str
 |.f (.m x::_)::_=>x
 |_=>""
def bx(m:Bool)(vs:List Val)(s:Sto):Out Val:=match yB vs with
 |some zs=>if zs.Nodup/\(zs.length<2\/∀z∈zs,z≠[]) then newList m ((L2.z6 zs).map tpV) s else .d
 |dS=>.d
noncomputable def nub:List (List Int)->List (List Int)
 |[]=>[]
 |z::zs=>if z∈zs then nub zs else z::nub zs
def setOk(vs:List Val):Option (List (List Int)):=(yB vs).bind λzs=>if (nub zs).length<306 then some (nub zs) else dS
def wQ(m:Bool)(vs:List Val)(s:Sto):Out Val:=match setOk vs with
 |some zs=>if zs.length<2\/∀z∈zs,z≠[] then newList m ((L2.z6 zs).map tpV) s else .d
 |dS=>.d
def iW(m:Bool)(v:Val)(s:Sto):Out Val:=match yM s v with
 |some vs=>wQ m vs s
 |dS=>.d
def Sd(zs:List (List Int)):Bool:=decide (zs.length<2)||match zs with
 |[]=>true
 |z::_=>decide (0<z.length)&&zs.all (λy=>decide (y.length=z.length))&&(Ah (zs.length-1)).all λi=>!L2.TQ (zs.getD (i+1) []) (zs.getD i [])
def Vo(m:Bool)(vs:List Val)(s:Sto):Out Val:=match yB vs with
 |some zs=>if Sd zs then newList m vs s else .d
 |dS=>.d
noncomputable def insI(z:Int):List Int->List Int
 |[]=>[z]
 |y::ys=>if z<=y then z::y::ys else y::insI z ys
def sortI:List Int->List Int
 |[]=>[]
 |z::zs=>insI z (sortI zs)
def blt(f:Bf)(m:Bool)(xs:List Val)(s:Sto):Out Val:=
 match f with
 |.a=>match xs with
  |[.m x]=>if x.length<=zR then .e (.c x.length) s else .d
  |[x]=>match y4 s x with|some vs=>.e (.c vs.length) s|dS=>.d
  |_=>.d
 |.p=>match xs with
  |[x]=>match yM s x with|some vs=>(match boolsOf vs with|some bs=>.e (.e (bs.all id)) s|dS=>.d)|dS=>.d
  |_=>.d
 |.q=>match xs with
  |[x]=>match yM s x with|some vs=>(match boolsOf vs with|some bs=>.e (.e (bs.any id)) s|dS=>.d)|dS=>.d
  |_=>.d
 |.c=>match xs with
  |[.f vs]=>.e (.f vs) s
  |[x]=>match yM s x with|some vs=>.e (.f vs) s|dS=>.d
  |_=>.d
 |.l=>match xs with
  |[x]=>match y4 s x with|some vs=>newList m vs s|dS=>.d
  |_=>.d
 |.i=>match xs with
  |[x]=>if (zx s x).isR&&rq (zx s x).d then .e (.m (zx s x).d.shown) s else .d
  |_=>.d
 |.j=>match xs with
  |[.c i,.c j]=>.e (.c (if j > i then j else i)) s
  |[.f vs]=>(match M.intsOf vs with|some ns=>if ns≠[] then .e (.c (L2.vP 0 ns)) s else .d|dS=>.d)
  |[x]=>match yM s x with|some vs=>(match M.intsOf vs with|some ns=>if ns≠[] then .e (.c (L2.vP 0 ns)) s else .d|dS=>.d)|dS=>.d
  |_=>.d
 |.k=>match xs with
  |[.c i,.c j]=>.e (.c (if j<i then j else i)) s
  |[.f vs]=>(match M.intsOf vs with|some ns=>if ns≠[] then .e (.c (L2.vf 0 ns)) s else .d|dS=>.d)
  |[x]=>match yM s x with|some vs=>(match M.intsOf vs with|some ns=>if ns≠[] then .e (.c (L2.vf 0 ns)) s else .d|dS=>.d)|dS=>.d
  |_=>.d
 |.o=>match xs with
  |[.c i]=>.e (.c i) s
  |[.e b]=>.e (.c (if b then 1 else 0)) s
  |_=>.d
 |.h=>match xs with
  |[x,.t n]=>match kindOf x,tZ n with|some a,some c=>.e (.e (a.sub c)) s|_,_=>.d
  |_=>.d
 |.b=>match xs with
  |[.c i,.c j]=>if 0<j/\j<1073741824 then .e (.f [.c (i/j),.c (i%j)]) s else .d
  |_=>.d
 |.r=>match xs with
  |[.c i]=>if i.natAbs.log2<1920 then .e (.m (toString i)) s else .d
  |_=>.d
 |.s=>match xs with
  |[x]=>match yM s x with|some vs=>(match M.intsOf vs with|some ns=>if L2.So ns then .e (.c ns.sum) s else .d|dS=>.d)|dS=>.d
  |_=>.d
 |.g=>match xs with
  |[x]=>match yM s x with
   |some vs=>(match pairsOf vs with
    |some zs=>if zs.Nodup/\∀z∈zs,0<=z.2/\z.2<1000 then newList m ((XQ zs).map prV) s else bx m vs s
    |dS=>bx m vs s)
   |dS=>.d
  |_=>.d
 |.n=>match xs with
  |[x]=>match yM s x with|some vs=>(match yB vs with|some zs=>if zs≠[] then .e (tpV (L2.Tb zs)) s else .d|dS=>.d)|dS=>.d
  |_=>.d
 |.m=>match xs with
  |[x]=>match yM s x with|some vs=>(match XX (Y7 vs) vs with|some zs=>if zs≠[] then .e (tpS (Y7 vs) (L2.Tb zs)) s else .d|dS=>.d)|dS=>.d
  |_=>.d
 |.e=>match xs with
  |[x]=>match yM s x with|some vs=>Vo m vs s|dS=>.d
  |_=>.d
 |.d=>match xs with
  |[x]=>match y4 s x with|some vs=>(match M.intsOf vs with|some ns=>if ns.length<64 then newList m ((sortI ns).map .c) s else .d|dS=>.d)|dS=>.d
  |_=>.d
def mxD(x y:Val)(s:Sto):Out Val:=match y with
 |.c k=>(match yM s x with|some vs=>(match M.intsOf vs with|some ns=>.e (.c (L2.vP k ns)) s|dS=>.d)|dS=>.d)
 |_=>.d
noncomputable def upd(s:Sto)(i:Nat)(vs:List Val):Sto:=s.set i (.c vs)
def vD(f:Mf)(o:Val)(xs:List Val)(s:Sto):Out Val:=
 match f with
 |.a=>match o,xs with
  |.f vs,[y]=>if flat y&&vs.all flat then .e (.c (vs.countP λz=>eqF z y:Nat)) s else .d
  |_,[y]=>match yM s o with|some vs=>if flat y&&vs.all flat then .e (.c (vs.countP λz=>eqF z y:Nat)) s else .d|dS=>.d
  |_,_=>.d
 |.b=>match o,xs with
  |.j i,[y]=>match s[i]? with|some (.c vs)=>if vs.length<zR then .e .h (upd s i (vs++[y])) else .d|_=>.d
  |_,_=>.d
 |.c=>match o,xs with
  |.j i,[y]=>match s[i]?,yM s y with|some (.c vs),some ws=>if vs.length+ws.length<=zR then .e .h (upd s i (vs++ws)) else .d|_,_=>.d
  |_,_=>.d
 |.f=>match o,xs with
  |.j i,[.c k]=>(match s[i]? with
   |some (.c vs)=>if -(2 ^ 63)<=k/\k<2 ^ 63 then (match seqIndex? k vs.length with
    |some j=>(match vs[j]? with|some y=>.e y (upd s i (vs.eraseIdx j))|dS=>.d)
    |dS=>.d) else .d
   |_=>.d)
  |.j i,[]=>(match s[i]? with
   |some (.c vs)=>(match vs[vs.length-1]? with|some y=>.e y (upd s i (vs.take (vs.length-1)))|dS=>.d)
   |_=>.d)
  |_,_=>.d
 |.d=>match o,xs with
  |.f vs,[y]=>if flat y&&vs.all flat then (match vs.findIdx? λz=>eqF z y with|some j=>.e (.c (j:Nat)) s|dS=>.d) else .d
  |_,_=>.d
 |.e=>match o,xs with
  |.m z,[y]=>(match yM s y with
   |some vs=>(match strsOf vs with|some ys=>if (ys.map (·.length)).sum+ys.length*z.length<=16777216 then .e (.m (L2.TL z ys)) s else .d|dS=>.d)
   |dS=>.d)
  |_,_=>.d
def xJ(a b:Val)(s:Sto):Out Val:=
 match b with
 |.c i=>match y4 s a with|some vs=>(match L2.atI vs i with|some v=>.e v s|dS=>.d)|dS=>.d
 |_=>.d
def uG{N:Type}(xs:List N)(lo hi:Option Int):List N:=(xs.drop (HT.sIx xs.length 0 lo)).take (HT.sIx xs.length xs.length hi-HT.sIx xs.length 0 lo)
def tF(m:Bool)(a:Val)(lo hi st:Option Int)(s:Sto):Out Val:=
 match a,st with
 |.f vs,dS=>.e (.f (uG vs lo hi)) s
 |.f vs,some c=>if c≠0/\(L2.yS vs.length lo hi c).2<=zR then .e (.f (L2.zp vs (L2.yS vs.length lo hi c).1 c (L2.yS vs.length lo hi c).2)) s else .d
 |_,dS=>match yM s a with|some vs=>newList m (uG vs lo hi) s|dS=>.d
 |_,some c=>match yM s a with|some vs=>if c≠0 then newList m (L2.zp vs (L2.vW vs.length lo hi c).1 c (L2.vW vs.length lo hi c).2) s else .d|dS=>.d
def Ze(m:Bool)(x y z:Val)(s:Sto):Out Val:=match x,y,z with
 |.c i,.c j,.c k=>if -(2 ^ 30)<=i/\i<=2 ^ 30∧-(2 ^ 30)<=j/\j<=2 ^ 30/\0<k/\k<=2 ^ 29/\A0 i j k<=1000 then newList m ((L2.xE i j k).map .c) s else .d
 |.h,y,.m _=>(match y4 s y with|some vs=>(match M.intsOf vs with|some ns=>if ns.length<=1000 then .e (.c (L2.dN ns:Nat)) s else .d|dS=>.d)|dS=>.d)
 |.c i,.c j,.e _=>if -(2 ^ 30)<=i/\i<=2 ^ 30∧-(2 ^ 30)<=j/\j<=2 ^ 30/\A0 i j 1<=1000 then newList m ((L2.xE i j 1).map .c) s else .d
 |.c i,.c j,.h=>if -(2 ^ 30)<=i/\i<=2 ^ 30∧-(2 ^ 30)<=j/\j<=2 ^ 30/\A0 i j 1<=1000 then .e (.f ((L2.xE i j 1).map .c)) s else .d
 |_,_,_=>.d
noncomputable def yC(t:Tgt)(v:Val)(env:Env):Option Env:=
 match t with
 |.a i=>some (env.set i (some v))
 |.b is=>match v with
  |.f vs=>if vs.length=is.length then some ((is.zip vs).foldl (λe p=>e.set p.1 (some p.2)) env) else dS
  |_=>dS
structure Src where
 a:List Val
 b:Option Nat
def Src.ok(r:Src)(s:Sto):Bool:=match r.b with
 |dS=>true
 |some i=>match s[i]? with
  |some (.c vs)=>tP vs r.a
  |_=>false
noncomputable def RA:List Val->List Val->List Val
 |v::vs,w::ws=>.f [v,w]::RA vs ws
 |_,_=>[]
noncomputable def yW(n:Nat):List Val->List Val
 |[]=>[]
 |v::vs=>.f [.c n,v]::yW (n+1) vs
noncomputable def srcOf(s:Sto):Val->Option Src
 |.f vs=>some ⟨vs,dS⟩
 |.g vs=>some ⟨vs,dS⟩
 |.o ns=>some ⟨ns.map .c,dS⟩
 |.j i=>match s[i]? with
  |some (.c vs)=>some ⟨vs,some i⟩
  |_=>dS
 |_=>dS
noncomputable def Se(lo c:Int)(n:Nat):List Val:=(Ah n).map λ(k:Nat)=>Val.c (lo+k*c)
def Ri(x y z:Val)(s:Sto):Out Src:=match x,y,z with
 |.c i,.c j,.c k=>if 0<=i/\i<=1000/\0<=j/\j<=1000/\1<=k/\k<=1000 then .e ⟨Se i k (A0 i j k).toNat,dS⟩ s else .d
 |_,_,_=>.d
noncomputable def yj(lo:Int)(n:Nat):List Val:=(Ah n).map λ(k:Nat)=>Val.c (lo+k)
def zo(r:Src)(t:Tgt)(body:Env->Sto->List Val->Out (List Val × Env)):List Val->Env->Sto->List Val->Out (List Val × Env)
 |[],env,s,acc=>if r.ok s then .e (acc,env) s else .d
 |x::xs,env,s,acc=>if r.ok s then match yC t x env with
    |dS=>.d
    |some env'=>(body env' s acc).bind λp s'=>zo r t body xs p.2 s' p.1
  else .d
noncomputable def zK(fr:List (Option Nat))(env:Env):Env:=fr.map λo=>match o with|some j=>(env[j]?).join|dS=>dS
inductive Fl
 |a (env:Env)|c (env:Env)|d (env:Env)|b (v:Val)
def vO(r:Src)(t:Tgt)(body:Env->Sto->Out Fl):List Val->Env->Sto->Out Fl
 |[],env,s=>if r.ok s then .e (.a env) s else .d
 |x::xs,env,s=>if r.ok s then match yC t x env with
    |dS=>.d
    |some env'=>(body env' s).bind λfl s'=>match fl with
     |.a e=>vO r t body xs e s'
     |.d e=>vO r t body xs e s'
     |.c e=>.e (.a e) s'
     |.b v=>.e (.b v) s'
  else .d
def cC(c:Env->Sto->Out Bool)(body:Env->Sto->Out Fl):Nat->Env->Sto->Out Fl
 |0,_,_=>.d
 |n+1,env,s=>(c env s).bind λb s1=>if b then (body env s1).bind λfl s2=>match fl with
    |.a e=>cC c body n e s2
    |.d e=>cC c body n e s2
    |.c e=>.e (.a e) s2
    |.b v=>.e (.b v) s2
  else .e (.a env) s1
noncomputable def UY:Nat:=100000
noncomputable def aD:Sto->List Str
 |.f x::r=>x::aD r
 |_=>[]
section
variable (Φ:Calls)(G:Str->Option Val)
mutual
noncomputable def evE(env:Env):Ex->Sto->Out Val
 |.g v,s=>.e v s
 |.e i,s=>match env[i]? with|some (some v)=>.e v s|_=>.d
 |.L x,s=>match G x with|some v=>.e v s|dS=>.d
 |.M _ n,s=>.e (.t n) s
 |.j m op a b,s=>(evE env a s).bind λx s1=>(evE env b s1).bind λy s2=>binOp m op x y s2
 |.B a,s=>(evE env a s).bind λx s1=>match x with|.c i=>.e (.c (-i)) s1|_=>.d
 |.G a,s=>(evE env a s).bind λx s1=>match x with|.e b=>.e (.e !b) s1|_=>.d
 |.p op a b,s=>(evE env a s).bind λx s1=>(evE env b s1).bind λy s2=>zQ op x y s2
 |.y op op' a b c,s=>(evE env a s).bind λx s1=>(evE env b s1).bind λy s2=>(zQ op x y s2).bind λr R=>match r with
  |.e true=>(evE env c R).bind λz U=>zQ op' y z U
  |.e false=>.e (.e false) R
  |_=>.d
 |.w a es,s=>match es with
  |.b=>evE env a s
  |.a _ _=>(evE env a s).bind λx s1=>match x with
   |.e true=>sF env es s1
   |.e false=>.e (.e false) s1
   |_=>.d
 |.O a es,s=>match es with
  |.b=>evE env a s
  |.a _ _=>(evE env a s).bind λx s1=>match truth s1 x with
   |some false=>nY env es s1
   |some true=>.e x s1
   |dS=>.d
 |.I c a b,s=>(evT env c s).bind λt s1=>if t then evE env a s1 else evE env b s1
 |.q es,s=>(yi env es s).bind λvs s1=>if vs.length<=zR then .e (.f vs) s1 else .d
 |.u m es,s=>(yi env es s).bind λvs s1=>if vs.length<=zR then newList m vs s1 else .d
 |.H,s=>.e .p s
 |.h f ver es,s=>(yi env es s).bind λvs s1=>Φ f ver vs s1
 |.k f m es,s=>(yi env es s).bind λvs s1=>blt f m vs s1
 |.J a d,s=>(evE env a s).bind λx s1=>(evE env d s1).bind λy s2=>mxD x y s2
 |.Q f _ o es,s=>(evE env o s).bind λx s1=>(yi env es s1).bind λvs s2=>vD f x vs s2
 |.r a b,s=>(evE env a s).bind λx s1=>(evE env b s1).bind λy s2=>xJ x y s2
 |.F m a lo hi st,s=>(evE env a s).bind λx s1=>(evO env lo s1).bind λl s2=>(evO env hi s2).bind λh R=>(evO env st R).bind λc U=>tF m x l h c U
 |.l m _ fr elt t it ifs,s=>(zy env it s).bind λr s1=>
  (zo r t (λe s' acc=>(yG e ifs s').bind λb s2=>if b then (evE e elt s2).bind λv R=>.e (acc++[v],e) R else .e (acc,e) s2) r.a (zK fr env) s1 []).bind λp s2=>newList m p.1 s2
 |.z m _ fr elt t it ifs t2 it2 ifs2,s=>(zy env it s).bind λr s1=>
  (zo r t (λe s' acc=>(yG e ifs s').bind λb s2=>if b then (zy e it2 s2).bind λX R=>
      zo X t2 (λS U N=>(yG S ifs2 U).bind λZ W=>if Z then (evE S elt W).bind λv Y=>.e (N++[v],S) Y else .e (N,S) W) X.a e R acc
   else .e (acc,e) s2) r.a (zK fr env) s1 []).bind λp s2=>if p.1.length<=zR then newList m p.1 s2 else .d
 |.E t,s=>.e (.q s.length) (s++[if t then .e [] else .d []])
 |.P a b,s=>(evE env a s).bind λx s1=>(evE env b s1).bind λy s2=>ixD x y s2
 |.C _,_=>.d
 |.D m a,s=>(evE env a s).bind λx s1=>iW m x s1
 |.K m _ fr elt t it ifs,s=>(zy env it s).bind λr s1=>
  (zo r t (λe s' acc=>(yG e ifs s').bind λb s2=>if b then (evE e elt s2).bind λv R=>.e (acc++[v],e) R else .e (acc,e) s2) r.a (zK fr env) s1 []).bind λp s2=>wQ m p.1 s2
 |.A m _ fr elt t it ifs t2 it2 ifs2,s=>(zy env it s).bind λr s1=>
  (zo r t (λe s' acc=>(yG e ifs s').bind λb s2=>if b then (zy e it2 s2).bind λX R=>
      zo X t2 (λS U N=>(yG S ifs2 U).bind λZ W=>if Z then (evE S elt W).bind λv Y=>.e (N++[v],S) Y else .e (N,S) W) X.a e R acc
   else .e (acc,e) s2) r.a (zK fr env) s1 []).bind λp s2=>wQ m p.1 s2
 |.s m a b c,s=>(evE env a s).bind λx s1=>(evE env b s1).bind λy s2=>(evE env c s2).bind λz R=>Ze m x y z R
noncomputable def sF(env:Env):Exs->Sto->Out Val
 |.b,_=>.d
 |.a a es,s=>match es with
  |.b=>evE env a s
  |.a _ _=>(evE env a s).bind λx s1=>match x with
   |.e true=>sF env es s1
   |.e false=>.e (.e false) s1
   |_=>.d
noncomputable def nY(env:Env):Exs->Sto->Out Val
 |.b,_=>.d
 |.a a es,s=>match es with
  |.b=>evE env a s
  |.a _ _=>(evE env a s).bind λx s1=>match truth s1 x with
   |some false=>nY env es s1
   |some true=>.e x s1
   |dS=>.d
noncomputable def yi(env:Env):Exs->Sto->Out (List Val)
 |.b,s=>.e [] s
 |.a e es,s=>(evE env e s).bind λv s1=>(yi env es s1).bind λvs s2=>.e (v::vs) s2
noncomputable def evO(env:Env):OEx->Sto->Out (Option Int)
 |.b,s=>.e dS s
 |.a e,s=>(evE env e s).bind λv s1=>match v with|.c i=>.e (some i) s1|_=>.d
/-- a test -/
noncomputable def evT(env:Env):Cn->Sto->Out Bool
 |.a e,s=>(evE env e s).truth
 |.b a,s=>(evT env a s).bind λb s1=>.e (!b) s1
 |.d a es,s=>(evT env a s).bind λb s1=>if b then yG env es s1 else .e false s1
 |.f a es,s=>(evT env a s).bind λb s1=>if b then .e true s1 else sM env es s1
noncomputable def yG(env:Env):Cns->Sto->Out Bool
 |.a,s=>.e true s
 |.b a es,s=>(evT env a s).bind λb s1=>if b then yG env es s1 else .e false s1
noncomputable def sM(env:Env):Cns->Sto->Out Bool
 |.a,s=>.e false s
 |.b a es,s=>(evT env a s).bind λb s1=>if b then .e true s1 else sM env es s1
noncomputable def zy(env:Env):Itb->Sto->Out Src
 |.f e,s=>(evE env e s).bind λv s1=>match srcOf s1 v with|some r=>.e r s1|dS=>.d
 |.d a,s=>(evE env a s).bind λx s1=>match x with
  |.c j=>if -(2 ^ 62)<=j/\j<=zR then .e ⟨yj 0 j.toNat,dS⟩ s1 else .d
  |_=>.d
 |.g a b,s=>(evE env a s).bind λx s1=>(evE env b s1).bind λy s2=>match x,y with
  |.c i,.c j=>if -(2 ^ 62)<=i/\i<2 ^ 62∧-(2 ^ 62)<=j/\j<2 ^ 62/\j-i<=zR then .e ⟨yj i (j-i).toNat,dS⟩ s2 else .d
  |_,_=>.d
 |.i a b c,s=>(evE env a s).bind λx s1=>(evE env b s1).bind λy s2=>(evE env c s2).bind λz N=>Ri x y z N
 |.h e,s=>(evE env e s).bind λv s1=>match v with
  |.f vs=>.e ⟨yW 0 vs,dS⟩ s1
  |.g vs=>.e ⟨yW 0 vs,dS⟩ s1
  |_=>.d
 |.j a b,s=>(evE env a s).bind λx s1=>(evE env b s1).bind λy s2=>match x,y with
  |.f vs,.f ws=>if ws.length<=vs.length then .e ⟨RA vs ws,dS⟩ s2 else .d
  |_,_=>.d
end
mutual
noncomputable def exS(env:Env):Sm->Sto->Out Fl
 |.m e,s=>(evE Φ G env e s).bind λ_ s1=>.e (.a env) s1
 |.f e,s=>(evE Φ G env e s).bind λv s1=>.e (.b v) s1
 |.v,s=>.e (.b .h) s
 |.d i e,s=>(evE Φ G env e s).bind λv s1=>.e (.a (env.set i (some v))) s1
 |.p is e,s=>(evE Φ G env e s).bind λv s1=>match yC (.b is) v env with|some env'=>.e (.a env') s1|dS=>.d
 |.q is es,s=>(yi Φ G env es s).bind λvs s1=>if vs.length=is.length then .e (.a ((is.zip vs).foldl (λe p=>e.set p.1 (some p.2)) env)) s1 else .d
 |.y i op e,s=>match env[i]? with
  |some (some (.c x))=>(evE Φ G env e s).bind λv s1=>match v with
   |.c y=>(binOp false op (.c x) (.c y) s1).bind λz s2=>.e (.a (env.set i (some z))) s2
   |_=>.d
  |some (some (.f x))=>if op=.a then (evE Φ G env e s).bind λv s1=>match v with
   |.f y=>(binOp false .a (.f x) (.f y) s1).bind λz s2=>.e (.a (env.set i (some z))) s2
   |_=>.d
   else .d
  |_=>.d
 |.l o i e,s=>(evE Φ G env e s).bind λv s1=>(evE Φ G env o s1).bind λx s2=>(evE Φ G env i s2).bind λy N=>match x,y with
  |.j r,.c k=>(match N[r]? with
   |some (.c vs)=>(match L2.ixN vs.length k with|some j=>.e (.a env) (upd N r (vs.set j v))|dS=>.d)
   |_=>.d)
  |_,_=>.d
 |.j c a b,s=>(evT Φ G env c s).bind λt s1=>if t then zj env a s1 else zj env b s1
 |.g t it b,s=>(zy Φ G env it s).bind λr s1=>vO r t (λe s'=>zj e b s') r.a env s1
 |.r c b,s=>cC (λe s'=>evT Φ G e c s') (λe s'=>zj e b s') UY env s
 |.u,s=>.e (.a env) s
 |.x,s=>.e (.c env) s
 |.s,s=>.e (.d env) s
 |.n _,_=>.d
 |.w o i e,s=>(evE Φ G env e s).bind λv s1=>(evE Φ G env o s1).bind λx s2=>(evE Φ G env i s2).bind λy N=>match putD x y v N with|some R=>.e (.a env) R|dS=>.d
noncomputable def zj(env:Env):Sms->Sto->Out Fl
 |.f,s=>.e (.a env) s
 |.e c cs,s=>(exS env c s).bind λfl s1=>match fl with
  |.a e=>zj e cs s1
  |fl=>.e fl s1
 |.g i L mid k d o b cs,s=>(zj (env.set i dS) mid s).bind λfl S=>match fl with
  |.a e0=>if aD s=aD S then (yi Φ G e0 L S).bind λvs s1=>if k=0 then .e (.b (.g vs)) s1 else
   if k=1 then (evE Φ G e0 d s1).bind λy s2=>(zQ .d (.g vs) y s2).bind λr N=>.e (.b r) N
   else ((evE Φ G e0 d s1).bind λy s2=>((zQ .c (.g vs) y s2).truth).bind λr N=>if r then .e true N else sM Φ G e0 o N).bind λr N=>
    (if r then zj e0 b N else .e (.a e0) N).bind λfl R=>match fl with
   |.a e=>zj e cs R
   |fl=>.e fl R
   else .d
  |_=>.d
end
end
abbrev RI:=Option (Str × List Val × Sto)
abbrev RH:=Str->Nat->List Val->Sto->RI
noncomputable def zV(N:List Str)(vs:List Val):Env:=vs.map some++AR (N.length-vs.length) dS
def leave(F:Fn)(N:Sto)(v:Val)(s:Sto):Out Val:=
 if F.c then .e v s
 else if xw N s then (match freeze N.length s v with|some R=>.e R (s.take N.length)|dS=>.d) else .d
structure Tbl where
 c:Str->Nat->Option Fn
 b:Str->Option Val
 /-- the defs whose tables the store holds,from its start -/
 d:List Str:=[]
 /-- the classes of exceptions,and what the law's def says of each -/
 xc:List (Str × Str):=[]
 /-- which of the law's two defs that try a call is there -/
 e:Bool->Bool:=λ_=>false
def run(T:Tbl)(Φ:Calls)(F:Fn)(vs:List Val)(s:Sto):Out Val:=
 if vs.length=F.a.length then (zj Φ T.b (zV F.N vs) F.b s).bind λfl s1=>match fl with
  |.a _=>leave F s .h s1
  |.b v=>leave F s v s1
  |_=>.d
 else .d
def zE(T:Tbl):Nat->Calls
 |0=>λ_ _ _ _=>.d
 |n+1=>λf ver vs s=>match T.c f ver with|some F=>run T (zE T n) F vs s|dS=>.d
abbrev KF:=AG
structure Own where
 o:List Addr
 h:List Addr
def Own.no(ρ:Own)(a:Addr):Prop:=a ∉ ρ.o/\a ∉ ρ.h
def KT(K:KF)(a:Addr)(xs:List L2.V):Prop:=∃(o:Obj) (its:Array Value) (n:Nat),K.lookup a=some o/\o.cls=.type "tuple"/\o.data=.seq its n/\its.size<=AI/\L2.Vals xs its.toList
def SC(K:KF)(ρ:Own)(H:L2.Hp)(a:Addr)(xs:List L2.V):Prop:=(ρ.no a/\L2.Rd H a (.b xs)) \/
 ∃(o:Obj) (its:Array Value) (n:Nat),K.lookup a=some o/\o.cls=.type "list"/\o.dict=none/\o.data=.seq its n/\its.size<=AI/\L2.Vals xs its.toList
noncomputable def hk:Option L2.HO->Nat
 |some (.b _)=>1
 |some (.j _)=>2
 |some (.k _)=>3
 |some (.d _)=>4
 |_=>0
mutual
inductive RD(K:KF)(mg:Str->Option Value)(ρ:Own)(H:L2.Hp):Val->L2.V->Prop
 |A:RD K mg ρ H .h .g
 |j (b:Bool):RD K mg ρ H (.e b) (.e b)
 |l (i:Int):RD K mg ρ H (.c i) (.d i)
 |E (x:Str):RD K mg ρ H (.m x) (.f x)
 |m {a:Addr} {vs:List Val} {xs:List L2.V}:ρ.no a->H a=some (.c xs)->RDs K mg ρ H vs xs->RD K mg ρ H (.f vs) (.c a)
 |D {a:Addr} {vs:List Val} {xs:List L2.V}:ρ.no a->H a=some (.b xs)->RDs K mg ρ H vs xs->RD K mg ρ H (.g vs) (.c a)
 |B {a:Addr}:ρ.no a->H a=some (.j [])->RD K mg ρ H .p (.c a)
 |p {a:Addr} {ns:List Int}:KT K a (ns.map L2.V.d)->RD K mg ρ H (.o ns) (.c a)
 |F {a:Addr} {ns:List Int}:SC K ρ H a (ns.map L2.V.d)->RD K mg ρ H (.r ns) (.c a)
 |C {a:Addr} {i:Nat}:ρ.o[i]?=some a->hk (H a)=1->RD K mg ρ H (.j i) (.c a)
 |s {a:Addr} {i:Nat}:ρ.o[i]?=some a->1<hk (H a)->RD K mg ρ H (.q i) (.c a)
 |I {x:Str} {f:Addr}:mg x=some (.ref f)->RD K mg ρ H (.u x) (.c f)
 |J (n:String):RD K mg ρ H (.t n) (.k n)
 |G (a k:Nat):RD K mg ρ H (.s a k) (.c a)
inductive RDs(K:KF)(mg:Str->Option Value)(ρ:Own)(H:L2.Hp):List Val->List L2.V->Prop
 |d:RDs K mg ρ H [] []
 |a {v:Val} {x:L2.V} {vs:List Val} {xs:List L2.V}:RD K mg ρ H v x->RDs K mg ρ H vs xs->RDs K mg ρ H (v::vs) (x::xs)
end
noncomputable def RV(x:Str):Str:=(x++(".<locals>.":Str))++("<lambda>":Str)
def RE(K:KF)(mg:Str->Option Value)(ρ:Own)(H:L2.Hp)(P:Addr)(x:Str):Prop:=∃ps,H P=some (.d ps)/\TriplesOk ps.toList /\
 (∀(pos:Pos) (R:Value),codeAmong pos ps.toList=some R->∃(c:Addr) (o:Obj) (vs:Array Value) (t:Tok),R=.ref c/\ρ.no c/\H c=some (.g o (.e 0))/\o.data=.fields vs/\vs[1]?=some (.str (RV x) t)) /\
 ∃(N c:Addr) (o:Obj) (fd:Ea),mg x=some (.ref N)/\K.lookup N=some o/\o.data=.func fd/\fd.code=.ref c/\∀h:Heap,K.In h->PySem.W.CodeHd h c P
def CR(K:KF)(mg:Str->Option Value)(ρ:Own)(H:L2.Hp)(a:Addr):Cel->Prop
 |.c vs=>∃xs,H a=some (.b xs)/\RDs K mg ρ H vs xs
 |.d kvs=>∃N,H a=some (.j N)/\N.map (·.1)=kvs.map (λp=>FE p.1)/\RDs K mg ρ H (kvs.map (·.2)) (N.map (·.2))
 |.e kvs=>∃N,H a=some (.k N)/\N.map (·.1)=kvs.map (λp=>p.1.map FD)/\RDs K mg ρ H (kvs.map (·.2)) (N.map (·.2))
 |.f x=>RE K mg ρ H a x
inductive Hid
 |b (xs:List L2.V)|a (φ:Heap->Prop)
noncomputable def Hid.o:Hid->L2.HO
 |.b xs=>.b xs
 |.a φ=>.i φ
structure HR(K:KF)(mg:Str->Option Value)(ρ:Own)(s:Sto)(H:L2.Hp):Prop where
 f:ρ.o.length=s.length
 l:ρ.o.Nodup
 g:∀(i:Nat) (c:Cel),s[i]?=some c->∃a:Addr,ρ.o[i]?=some a/\CR K mg ρ H a c
 d:∀a∈ρ.h,(∃o:Hid,H a=some o.o)/\a ∉ ρ.o
structure Ext(ρ:Own)(H:L2.Hp)(ρ':Own)(H':L2.Hp):Prop where
 d:∃new:List Addr,ρ'.o=ρ.o++new/\∀a∈new,H a=none
 f:ρ'.h=ρ.h
 c:∀(a:Addr) (o:L2.HO),H a=some o->a ∉ ρ.o->H' a=some o
 g:∀a∈ρ.o,hk (H' a)=hk (H a)
structure ER(K:KF)(mg:Str->Option Value)(ρ:Own)(H:L2.Hp)(env:Env)(σ:L2.St):Prop where
 b:env.length=σ.length
 a:∀(i:Nat) (v:Val),env[i]?=some (some v)->∃x:L2.V,σ[i]?=some (some x)/\RD K mg ρ H v x
section
variable {K:KF}{mg:Str->Option Value}{ρ ρ' ρ'':Own}{H H' H'':L2.Hp}{s s':Sto}
def HR.obj(h:HR K mg ρ s H)(i:Nat)vs(e:s[i]?=some (Cel.c vs)):∃(a:Addr) (xs:List L2.V),ρ.o[i]?=some a/\H a=some (.b xs)/\RDs K mg ρ H vs xs:=by refine byG λU N=>?_;obtain⟨a,S,xs,R,r⟩:=h.g i _ e;refine N ?_;exact⟨a,xs,S,R,r⟩
def CR.there(h:CR K mg ρ H a c):∃o,H a=some o:=by
 cases c with
 |c vs=>obtain⟨xs,e,_⟩:=h;exact⟨_,e⟩
 |d N=>obtain⟨xs,e,_⟩:=h;exact⟨_,e⟩
 |e N=>obtain⟨xs,e,_⟩:=h;exact⟨_,e⟩
 |f x=>obtain⟨ps,e,_⟩:=h;exact⟨_,e⟩
theorem CR.hk{a:Addr}{c:Cel}(h:CR K mg ρ H a c):0<hk (H a):=by
 cases c with
 |c vs=>obtain⟨xs,e,_⟩:=h;rw[e];exact CF 0
 |d N=>obtain⟨xs,e,_⟩:=h;rw[e];exact FL rfl
 |e N=>obtain⟨xs,e,_⟩:=h;rw[e];exact FL rfl
 |f x=>obtain⟨ps,e,_⟩:=h;rw[e];exact FL rfl
def HR.trk(h:HR K mg ρ s H)(R:a∈ρ.o):∃o,H a=some o:=by
 obtain⟨i,hi,e⟩:=Bz R;have hs:i<s.length:=by rw[<-h.f];exact hi
 obtain⟨b,N,S⟩:=h.g i _ (pn hs);rw[pn hi,e]at N;cases N;exact S.there
def dD(h:hk (H a)=1):∃xs,H a=some (.b xs):=by
 cases e:H a with
 |none=>rw[e]at h;cases h
 |some o=>
  rw[e]at h;cases o with
  |b xs=>exact⟨xs,rfl⟩
  |_=>cases h
def HR.new(h:HR K mg ρ s H)(hp:H p=none):ρ.no p:=by
 refine⟨λN=>?_,λN=>?_⟩
 . obtain⟨xs,e⟩:=h.trk N
   rw[hp]at e;cases e
 . obtain⟨⟨xs,e⟩,_⟩:=h.d p N
   rw[hp]at e;cases e
def Ext.refl:Ext ρ H ρ H:=⟨⟨[],by simp,λa N=>by cases N⟩,rfl,λa o e _=>e,λ_ _=>rfl⟩
def Ext.Tg(x:Ext ρ H ρ' H')(e:H a=some o)(n:ρ.no a):ρ'.no a:=by
 obtain⟨new,S,R⟩:=x.d;refine⟨?_,by rw[x.f];exact n.2⟩
 rw[S];intro N;rcases AO.mp N with N|N
 . exact n.1 N
 . rw[R a N]at e;cases e
def Ext.get(x:Ext ρ H ρ' H'){i:Nat}(e:ρ.o[i]?=some a):ρ'.o[i]?=some a:=by obtain⟨new,N,R⟩:=x.d;have hi:i<ρ.o.length:=(Ai.mp e).1;rw[N,AW hi];exact e
theorem Ext.trans(x:Ext ρ H ρ' H')(h:HR K mg ρ' s H')(y:Ext ρ' H' ρ'' H''):Ext ρ H ρ'' H'':=by
 obtain⟨new,W,X⟩:=x.d;obtain⟨S,Y,U⟩:=y.d;refine⟨⟨new++S,by rw[Y,W,An],λa N=>?_⟩,y.f.trans x.f,λa o e n=>y.c a o (x.c a o e n) ?_,λa N=>(y.g a (by rw[W];exact Bg _ N)).trans (x.g a N)⟩
 . rcases AO.mp N with N|N
   . exact X a N
   . cases q:H a with
     |none=>rfl
     |some o=>
      by_cases R:a∈ρ.o
      . obtain⟨xs,e⟩:=h.trk (a:=a) (by rw[W];exact Bg _ R)
        rw[U a N]at e;cases e
      . have:=x.c a o q R
        rw[U a N]at this;cases this
 . rw[W]
   intro R;rcases AO.mp R with R|R
   . exact n R
   . rw[X a R]at e;cases e
def SC.sql(h:SC K ρ H a xs):L2.SqL K H a xs:=by
 rcases h with⟨_,h⟩|h
 . exact .inl h
 . exact .inr h
def KT.sqt(h:KT K a xs):L2.SqT K H a xs:=.inr h
structure Mv(ρ:Own)(H:L2.Hp)(ρ':Own)(H':L2.Hp):Prop where
 b:∀(a:Addr) (o:L2.HO),H a=some o->ρ.no a->H' a=some o/\ρ'.no a
 c:∀(i:Nat) (a:Addr),ρ.o[i]?=some a->ρ'.o[i]?=some a
 d:∀a∈ρ.o,hk (H' a)=hk (H a)
def Ext.mv(x:Ext ρ H ρ' H'):Mv ρ H ρ' H':=⟨λa o e n=>⟨x.c a o e n.1,x.Tg e n⟩,λi a e=>x.get e,x.g⟩
def SC.mv(x:Mv ρ H ρ' H')(h:SC K ρ H a xs):SC K ρ' H' a xs:=by
 rcases h with⟨n,h|⟨o,h⟩⟩|h
 . exact .inl ⟨(x.b _ _ h n).2,.inl (x.b _ _ h n).1⟩
 . exact .inl ⟨(x.b _ _ h n).2,.inr ⟨o,(x.b _ _ h n).1⟩⟩
 . exact .inr h
end
mutual
theorem RD.mv{K:KF}{mg:Str->Option Value}{ρ ρ':Own}{H H':L2.Hp}(x:Mv ρ H ρ' H'){v:Val}{u:L2.V}(q:RD K mg ρ H v u):RD K mg ρ' H' v u:=by
 cases q with
 |A=>exact .A
 |j b=>exact .j b
 |l i=>exact .l i
 |E t=>exact .E t
 |m n e r=>exact .m (x.b _ _ e n).2 (x.b _ _ e n).1 (RDs.mv x r)
 |D n e r=>exact .D (x.b _ _ e n).2 (x.b _ _ e n).1 (RDs.mv x r)
 |B n e=>exact .B (x.b _ _ e n).2 (x.b _ _ e n).1
 |p h=>exact .p h
 |F h=>exact .F (h.mv x)
 |C e k=>exact .C (x.c _ _ e) ((x.d _ (AA e)).trans k)
 |s e k=>exact .s (x.c _ _ e) (by rw[x.d _ (AA e)];exact k)
 |G a k=>exact .G a k
 |I e=>exact .I e
 |J n=>exact .J n
theorem RDs.mv{K:KF}{mg:Str->Option Value}{ρ ρ':Own}{H H':L2.Hp}(x:Mv ρ H ρ' H'){vs:List Val}{us:List L2.V}(q:RDs K mg ρ H vs us):RDs K mg ρ' H' vs us:=by
 cases q with
 |d=>exact .d
 |a r N=>exact .a (RD.mv x r) (RDs.mv x N)
end
theorem CR.mv(x:Mv ρ H ρ' H')(e:H' a=H a)(h:CR K mg ρ H a c):CR K mg ρ' H' a c:=by
 cases c with
 |c vs=>obtain⟨xs,N,r⟩:=h;exact⟨xs,e.trans N,RDs.mv x r⟩
 |d R=>obtain⟨xs,N,k,r⟩:=h;exact⟨xs,e.trans N,k,RDs.mv x r⟩
 |e R=>obtain⟨xs,N,k,r⟩:=h;exact⟨xs,e.trans N,k,RDs.mv x r⟩
 |f y=>
  obtain⟨ps,N,k,r,g⟩:=h;refine⟨ps,e.trans N,k,λpos Z Y=>?_,g⟩;obtain⟨c,o,vs,t,X,U,S,W⟩:=r pos Z Y;exact⟨c,o,vs,t,X,(x.b _ _ S U).2,(x.b _ _ S U).1,W⟩
def RD.mono(r:RD K mg ρ H v u)(x:Ext ρ H ρ' H'):RD K mg ρ' H' v u:=RD.mv x.mv r
def RDs.mono(r:RDs K mg ρ H v u)(x:Ext ρ H ρ' H'):RDs K mg ρ' H' v u:=RDs.mv x.mv r
section
variable {K:KF}{mg:Str->Option Value}{ρ ρ' ρ'':Own}{H H' H'':L2.Hp}{s s':Sto}
theorem RDs.length(q:RDs K mg ρ H vs xs):vs.length=xs.length:=by
 cases q with
 |d=>rfl
 |a _ r=>rw[Ak,Ak,r.length]
theorem RDs.get{i:Nat}(q:RDs K mg ρ H vs xs)(e:vs[i]?=some v):∃x,xs[i]?=some x/\RD K mg ρ H v x:=by
 cases q with
 |d=>cases e
 |a r N=>
  cases i with
  |zero=>cases e;exact⟨_,rfl,r⟩
  |succ i=>exact RDs.get (i:=i) N e
theorem RDs.Uv{i:Nat}(q:RDs K mg ρ H vs xs)(e:xs[i]?=some x):∃v,vs[i]?=some v/\RD K mg ρ H v x:=by
 cases q with
 |d=>cases e
 |a r N=>
  cases i with
  |zero=>cases e;exact⟨_,rfl,r⟩
  |succ i=>exact RDs.Uv (i:=i) N e
theorem RDs.append(p:RDs K mg ρ H vs xs)(q:RDs K mg ρ H ws ys):RDs K mg ρ H (vs++ws) (xs++ys):=by
 cases p with
 |d=>exact q
 |a r N=>exact .a r (N.append q)
theorem RDs.take n(q:RDs K mg ρ H vs xs):RDs K mg ρ H (vs.take n) (xs.take n):=by
 cases n with
 |zero=>exact .d
 |succ n=>cases q with
  |d=>exact .d
  |a r N=>exact .a r (N.take n)
theorem RDs.drop n(q:RDs K mg ρ H vs xs):RDs K mg ρ H (vs.drop n) (xs.drop n):=by
 cases n with
 |zero=>exact q
 |succ n=>cases q with
  |d=>exact .d
  |a _ N=>exact N.drop n
theorem RDs.set(r:RD K mg ρ H v x)i(q:RDs K mg ρ H vs xs):RDs K mg ρ H (vs.set i v) (xs.set i x):=by
 cases q with
 |d=>exact .d
 |a q t=>cases i with
  |zero=>exact .a r t
  |succ i=>exact .a q (RDs.set r i t)
theorem RDs.rep(r:RDs K mg ρ H vs xs):∀k:Nat,RDs K mg ρ H (AR k vs).flatten (AR k xs).flatten
 |0=>.d
 |k+1=>by rw[Cw,Cw,DA,DA];exact r.append (RDs.rep r k)
theorem RDs.pick(r:RDs K mg ρ H vs xs):∀(is:List Nat),RDs K mg ρ H (is.filterMap λi=>vs[i]?) (is.filterMap λi=>xs[i]?)
 |[]=>.d
 |i::is=>by
  rw[A7,A7];cases hx:vs[i]? with
  |none=>
   have:xs[i]?=none:=by have R:vs.length<=i:=CL.mp hx;exact CL.mpr (by rw[<-r.length];exact R)
   rw[this];exact RDs.pick r is
  |some v=>
   obtain⟨u,hu,N⟩:=r.get hx;rw[hu];exact .a N (RDs.pick r is)
theorem RDs.zp(r:RDs K mg ρ H vs xs)lo st n:RDs K mg ρ H (L2.zp vs lo st n) (L2.zp xs lo st n):=by have h:=r.pick ((Ah n).map λ(k:Nat)=>(lo+(k:Int)*st).toNat);rw[CH,CH]at h;exact h
theorem RDs.ints:∀(ns:List Int),RDs K mg ρ H (ns.map .c) (ns.map .d)
 |[]=>.d
 |n::ns=>.a (.l n) (RDs.ints ns)
def RDs.cut(r:RDs K mg ρ H vs xs)lo hi:RDs K mg ρ H (uG vs lo hi) (L2.qO xs lo hi):=by unfold uG L2.qO;rw[r.length];exact(r.drop _).take _
theorem cH{N:Type}:∀{l:List N} {i j:Nat} {x},l.Nodup->l[i]?=some x->l[j]?=some x->i=j
 |[],_,_,_,_,e,_=>by simp at e
 |a::l,0,0,_,_,_,_=>rfl
 |a::l,0,j+1,x,nd,e1,e2=>by
  simp at e1 e2;subst e1;exact absurd (AA e2) (Bc.mp nd).1
 |a::l,i+1,0,x,nd,e1,e2=>by
  simp at e1 e2;subst e2;exact absurd (AA e1) (Bc.mp nd).1
 |a::l,i+1,j+1,x,nd,e1,e2=>by simp at e1 e2;rw[cH (Bc.mp nd).2 e1 e2]
theorem Ext.new(h:HR K mg ρ s H)(hp:H p=none)o:Ext ρ H ρ (L2.upd H p o):=
 ⟨⟨[],by simp,λa N=>by cases N⟩,rfl,λa u e _=>by rw[L2.zM (L2.zU e hp)];exact e,λa N=>by rw[L2.zM λz=>(h.new hp).1 (by rw[<-z];exact N)]⟩
def HR.more(h:HR K mg ρ s H)(hp:H p=none)o:HR K mg ρ s (L2.upd H p o):=by
 refine⟨h.f,h.l,λi c e=>?_,λa N=>?_⟩
 . obtain⟨a,S,r⟩:=h.g i c e
   obtain⟨u,R⟩:=r.there;exact⟨a,S,r.mv (Ext.new h hp o).mv (L2.zM (L2.zU R hp))⟩
 . obtain⟨⟨xs,e⟩,n⟩:=h.d a N
   exact⟨⟨xs,by rw[L2.zM (L2.zU e hp)];exact e⟩,n⟩
noncomputable def Own.more(ρ:Own)(p:Addr):Own:=⟨ρ.o++[p],ρ.h⟩
def Ext.own(h:HR K mg ρ s H)(hp:H p=none)o:Ext ρ H (ρ.more p) (L2.upd H p o):=
 ⟨⟨[p],rfl,λa N=>by rw[Av.mp N];exact hp⟩,rfl,λa u e _=>by rw[L2.zM (L2.zU e hp)];exact e,λa N=>by rw[L2.zM λz=>(h.new hp).1 (by rw[<-z];exact N)]⟩
def sW(h:HR K mg ρ s H)p:(ρ.more p).o[s.length]?=some p:=by show (ρ.o++[p])[s.length]?=some p;rw[<-h.f,AU (Ab _)];simp
def HR.wC(h:HR K mg ρ s H)(hp:H p=none)(r:CR K mg (ρ.more p) (L2.upd H p o) p c):HR K mg (ρ.more p) (s++[c]) (L2.upd H p o):=by
 have X:=Ext.own h hp o;refine⟨by show (ρ.o++[p]).length=_;rw[As,As,h.f];rfl,?_,λi U q=>?_,λa S=>?_⟩
 . show (ρ.o++[p]).Nodup
   rw[Eh];exact⟨h.l,by simp,λa S b W=>by rw[Av.mp W];intro z;subst z;exact(h.new hp).1 S⟩
 . by_cases hi:i<s.length
   . rw[AW hi]at q
     obtain⟨a,Z,t⟩:=h.g i U q;obtain⟨u,Y⟩:=t.there;exact⟨a,X.get Z,t.mv X.mv (L2.zM (L2.zU Y hp))⟩
   . have R:i=s.length:=by have:=(Ai.mp q).1;rw[As]at this;simp at this;omega
     subst R;rw[AU (Ab _)]at q;simp at q;subst q;exact⟨p,sW h p,r⟩
 . obtain⟨⟨ys,q⟩,n⟩:=h.d a S
   refine⟨⟨ys,by rw[L2.zM (L2.zU q hp)];exact q⟩,λN=>?_⟩
   rcases AO.mp N with N|N
   . exact n N
   . rw[Av.mp N,hp]at q;cases q
theorem HR.own(h:HR K mg ρ s H)(hp:H p=none)(r:RDs K mg ρ H vs xs):HR K mg (ρ.more p) (s++[.c vs]) (L2.upd H p (.b xs)):=h.wC hp ⟨xs,L2.zY,r.mono (Ext.own h hp _)⟩
def Ext.nA(h:HR K mg ρ s H){i:Nat}(e:ρ.o[i]?=some a)(k:hk (some o)=hk (H a)):Ext ρ H ρ (L2.upd H a o):=
 ⟨⟨[],by simp,λa N=>by cases N⟩,rfl,λb u q n=>by rw[L2.zM (λz=>n (by rw[z];exact AA e))];exact q,λb R=>by
   by_cases z:b=a
   . subst z;rw[L2.zY];exact k
   . rw[L2.zM z]⟩
def Ext.write(h:HR K mg ρ s H){i:Nat}(e:ρ.o[i]?=some a)(k:H a=some (.b ys))xs:Ext ρ H ρ (L2.upd H a (.b xs)):=Ext.nA h e (by rw[k];rfl)
theorem HR.nA(h:HR K mg ρ s H)(e:ρ.o[i]?=some a)(k:hk (some o)=hk (H a))(r:CR K mg ρ (L2.upd H a o) a c):HR K mg ρ (s.set i c) (L2.upd H a o):=by
 have X:=Ext.nA h e k;refine⟨by rw[Dr];exact h.f,h.l,λj S q=>?_,λb N=>?_⟩
 . skip
   by_cases hij:i=j
   . subst hij
     have hi:i<s.length:=by rw[<-h.f];exact(Ai.mp e).1
     rw[BY hi]at q;cases q;exact⟨a,e,r⟩
   . rw[DC hij]at q
     obtain⟨b,R,t⟩:=h.g j S q;refine⟨b,R,t.mv X.mv ?_⟩;have N:b≠a:=by intro z;subst z;exact hij (cH h.l e R)
     rw[L2.zM N]
 . obtain⟨⟨ys,q⟩,n⟩:=h.d b N
   exact⟨⟨ys,by rw[L2.zM (λz=>n (by rw[z];exact AA e))];exact q⟩,n⟩
theorem HR.write(h:HR K mg ρ s H)(e:ρ.o[i]?=some a)(k:H a=some (.b ys))(r:RDs K mg ρ H vs xs):HR K mg ρ (upd s i vs) (L2.upd H a (.b xs)):=
 h.nA e (by rw[k];rfl) ⟨xs,L2.zY,r.mono (Ext.write h e k xs)⟩
theorem ER.mono(x:Ext ρ H ρ' H')(h:ER K mg ρ H env σ):ER K mg ρ' H' env σ:=⟨h.b,λi v e=>by obtain⟨u,R,N⟩:=h.a i v e;exact⟨u,R,N.mono x⟩⟩
theorem ER.set(h:ER K mg ρ H env σ)i(r:RD K mg ρ H v x):ER K mg ρ H (env.set i (some v)) (σ.set i (some x)):=by
 refine⟨by rw[Dr,Dr,h.b],λj w e=>?_⟩
 by_cases hij:i=j
 . subst hij
   by_cases hi:i<env.length
   . rw[BY hi]at e
     cases e;exact⟨x,by rw[BY (by rw[<-h.b];exact hi)],r⟩
   . rw[CK (by rw[Dr];omega)]at e
     cases e
 . rw[DC hij]at e
   rw[DC hij];exact h.a j w e
end
section
variable (K:KF)(mg:Str->Option Value)
def yX{S N:Type}(R:Own->L2.Hp->S->N->Prop)(ρ:Own)(H:L2.Hp)(o:Out S)(Q:N->L2.Hp->Prop):Prop:=
 match o with
 |.e v s'=>∀ρ' x H',Ext ρ H ρ' H'->HR K mg ρ' s' H'->R ρ' H' v x->Q x H'
 |_=>False
def tV(env:Env)(s:Sto)(o:Out Val):L2.TE:=λσ H Q=>∃ρ,HR K mg ρ s H/\ER K mg ρ H env σ/\yX K mg (RD K mg) ρ H o Q
def tVs(env:Env)(s:Sto)(o:Out (List Val)):L2.TA:=λσ H Q=>∃ρ,HR K mg ρ s H/\ER K mg ρ H env σ/\yX K mg (RDs K mg) ρ H o Q
def tT(env:Env)(s:Sto)(o:Out Bool):L2.TT:=λσ H Q=>∃ρ,HR K mg ρ s H/\ER K mg ρ H env σ/\yX K mg (λ_ _ a b=>a=b) ρ H o Q
def tO(env:Env)(s:Sto)(o:Out (Option Int)):L2.TO:=λσ H Q=>∃ρ,HR K mg ρ s H/\ER K mg ρ H env σ/\yX K mg (λ_ _ a b=>a=b) ρ H o Q
end
def zk(h:L2.PE X e t)(i:∀σ H Q,t' σ H Q->t σ H Q):L2.PE X e t':=λpins s σ H Q I q=>h pins s σ H Q I (i σ H Q q)
def oZ(h:L2.PT X e t)(i:∀σ H Q,t' σ H Q->t σ H Q):L2.PT X e t':=λpins s σ H Q I q=>h pins s σ H Q I (i σ H Q q)
def cm{t t':L2.TA}(h:L2.PA X es t)(i:∀σ H Q,t' σ H Q->t σ H Q):L2.PA X es t':=λpos pins s σ H Q I q=>h pos pins s σ H Q I (i σ H Q q)
def vJ{t t':L2.TS}(h:L2.PS X st t)(i:∀D σ H,t' D σ H->t D σ H):L2.PS X st t':=λpins s σ H D I q=>h pins s σ H D I (i D σ H q)
def iS{t t':L2.TS}(h:L2.PSs X st t)(i:∀D σ H,t' D σ H->t D σ H):L2.PSs X st t':=λpins s σ H D I q=>h pins s σ H D I (i D σ H q)
def SE(h:∀σ H Q,¬t σ H Q):L2.PE X e t:=λpins s σ H Q I q=>(h σ H Q q).elim
def SO(h:∀σ H Q,¬t σ H Q):L2.PT X e t:=λpins s σ H Q I q=>(h σ H Q q).elim
def SQ(h:∀σ H Q,¬t σ H Q):L2.PW X e t:=λN pins s σ H Q I q=>(h σ H Q q).elim
def T8{t:L2.TA}(h:∀σ H Q,¬t σ H Q):L2.PA X es t:=λpos pins s σ H Q I q=>(h σ H Q q).elim
def S3(h:∀v s',o≠.e v s'):¬tV K mg env s o σ H Q:=by
 rintro ⟨ρ,_,_,w⟩;cases o with
 |e v s'=>exact h v s' rfl
 |_=>exact w
def V3(h:∀v s',o≠.e v s'):¬tVs K mg env s o σ H Q:=by
 rintro ⟨ρ,_,_,w⟩;cases o with
 |e v s'=>exact h v s' rfl
 |_=>exact w
def XT(h:∀v s',o≠.e v s'):¬tT K mg env s o σ H Q:=by
 rintro ⟨ρ,_,_,w⟩;cases o with
 |e v s'=>exact h v s' rfl
 |_=>exact w
def yl:zR=AI:=by rw[Bk];rfl
section
variable {K:KF}{mg:Str->Option Value}{ρ ρ':Own}{H H':L2.Hp}{s s':Sto}
def xr(R:HR K mg ρ s H)(r:RD K mg ρ H v x)(e:yM s v=some vs):∃a xs,x=.c a/\H a=some (.b xs)/\RDs K mg ρ H vs xs:=by
 cases r with
 |D n h q=>cases e;exact⟨_,_,rfl,h,q⟩
 |@C a i h _=>
  simp only[yM]at e;split at e
  . rename_i ws hw
    cases e;obtain⟨b,xs,N,S,q⟩:=R.obj i _ hw;rw[h]at N;cases N;exact⟨_,_,rfl,S,q⟩
  . cases e
 |_=>cases e
def oo(R:HR K mg ρ s H)(r:RD K mg ρ H v x)(e:y4 s v=some vs):∃a xs,x=.c a/\(L2.SqL K H a xs\/L2.SqT K H a xs)/\RDs K mg ρ H vs xs:=by
 cases r with
 |D n h q=>cases e;exact⟨_,_,rfl,.inl (.of h),q⟩
 |m n h q=>cases e;exact⟨_,_,rfl,.inr (.of h),q⟩
 |p h=>cases e;exact⟨_,_,rfl,.inr h.sqt,RDs.ints _⟩
 |F h=>cases e;exact⟨_,_,rfl,.inl h.sql,RDs.ints _⟩
 |@C a i h _=>
  simp only[y4]at e;split at e
  . rename_i ws hw
    cases e;obtain⟨b,xs,N,S,q⟩:=R.obj i _ hw;rw[h]at N;cases N;exact⟨_,_,rfl,.inl (.of S),q⟩
  . cases e
 |_=>cases e
mutual
theorem RD.reads{P:Program}{w:World}{h:Heap}(ok:L2.HOk P w H h){v:Val}{x:L2.V}{u:Value}(q:RD K mg ρ H v x)(N:v.isR=true)(r:L2.RelV x u):∃as,Reads h u v.d as/\(L2.yv v.d=false->CN ∉ as):=by
 cases q with
 |A=>cases (show u=Ac from r);exact⟨[],.none,λ_=>by simp⟩
 |j b=>cases (show u=DV b from r);exact⟨[],.bool b,λ_=>by simp⟩
 |l i=>obtain⟨t,q⟩:=(show ∃t,u=Dh i t from r);cases q;exact⟨[],.int i t,λ_=>by simp⟩
 |E x=>obtain⟨t,q⟩:=(show ∃t,u=HA x t from r);cases q;exact⟨[],.str x t,λ_=>by simp⟩
 |@D a vs xs n S U=>
  cases (show u=Bb a from r);obtain⟨z,its,n,R,e⟩:=(show L2.z9 P w H h a (.b xs) from ok a _ S);obtain⟨as,q,_⟩:=RDs.reads ok U (by simpa only[Val.isR] using N) R
  exact⟨a::as,.list e rfl rfl (by simpa using q),λz=>by simp[Val.d,L2.yv]at z⟩
 |@m a vs xs n S U=>
  cases (show u=Bb a from r);obtain⟨z,its,R,o,e,c,n,dd⟩:=(show L2.z9 P w H h a (.c xs) from ok a _ S);obtain⟨as,q,Y⟩:=RDs.reads ok U (by simpa only[Val.isR] using N) R
  exact⟨as,.tuple e c dd.1 (by simpa using q),λz=>Y (by simpa [Val.d,L2.yv] using z)⟩
 |@B a n S=>
  cases (show u=Bb a from r);obtain⟨z,y,vs,R,o,es,ep,e,c,dd,k⟩:=(show L2.z9 P w H h a (.j []) from ok a _ S);cases R;have W:es=#[]:=by
   have X:=k.2.1;cases hl:es.toList with
   |nil=>simpa using hl
   |cons a r=>rw[hl]at X;cases X
  subst W;refine⟨[a]++[],Reads.dict (as:=[]) (bs:=[]) e c.1 dd .nil .nil,λ_=>?_⟩;have:a≠CN:=by simpa using y
  simpa using BJ this
 |p _=>cases N
 |F _=>cases N
 |C _ _=>cases N
 |s _ _=>cases N
 |G _ _=>cases N
 |I _=>cases N
 |J _=>cases N
theorem RDs.reads{P:Program}{w:World}{h:Heap}(ok:L2.HOk P w H h){vs:List Val}{xs:List L2.V}{us:List Value}(p:RDs K mg ρ H vs xs)(R:sO vs=true)(q:L2.Vals xs us):∃as,ReadsAll h us (ds vs) as/\(L2.y9 (ds vs)=false->CN ∉ as):=by
 cases p with
 |d=>cases q;exact⟨[],.nil,λ_=>by simp⟩
 |a r S=>
  cases q with
  |cons W U=>
   rw[sO,ub]at R;obtain⟨as,h1,Z⟩:=RD.reads ok r R.1 W;obtain⟨bs,Y,X⟩:=RDs.reads ok S R.2 U;refine⟨as++bs,.cons h1 Y,λz=>?_⟩;rw[ds,L2.y9,F4]at z;intro N;rcases AO.mp N with N|N
   . exact Z z.1 N
   . exact X z.2 N
end
def uf(ok:L2.HOk P w H h)(W:HR K mg ρ s H)(N:(yd s v).isR=true)(r:RD K mg ρ H v x)(R:L2.RelV x u) :
 ∃as,Reads h u (yd s v).d as/\(L2.yv (yd s v).d=false->CN ∉ as):=by
 cases v with
 |j i=>
  cases r with
  |@C a _ e0=>
  simp only[yd]at N ⊢;split at N
  . rename_i ws hw
    obtain⟨b,xs,S,X,q⟩:=W.obj i _ hw;rw[e0]at S;cases S;cases (show u=Bb a from R);obtain⟨z,its,n,U,e⟩:=(show L2.z9 P w H h a (.b xs) from ok a _ X);obtain⟨as,q,_⟩:=RDs.reads ok q (by simpa only[Val.isR] using N) U
    exact⟨a::as,.list e rfl rfl (by simpa using q),λz=>by simp[Val.d,L2.yv]at z⟩
  . cases N
 |_=>exact RD.reads ok r N R
theorem RDs.bR(ok:L2.HOk P w H h)(R:HR K mg ρ s H):∀{vs} {xs} {us},RDs K mg ρ H vs xs->sO (vs.map (yd s))=true->L2.Vals xs us->∃as,ReadsAll h us (ds (vs.map (yd s))) as/\(L2.y9 (ds (vs.map (yd s)))=false->CN ∉ as)
 |_,_,_,.d,_,r=>by cases r;exact⟨[],.nil,λ_=>by simp⟩
 |_,_,_,.a r rs,hv,q=>by
  cases q with
  |cons U S=>
   rw[AF,sO,ub]at hv;obtain⟨as,Z,Y⟩:=uf ok R hv.1 r U;obtain⟨bs,X,W⟩:=RDs.bR ok R rs hv.2 S;rw[AF];refine⟨as++bs,.cons Z X,λz=>?_⟩;rw[ds,L2.y9,F4]at z;intro N;rcases AO.mp N with N|N
   . exact Y z.1 N
   . exact W z.2 N
def eI{v:Val}(h:∀vs,v≠.f vs):zx s v=yd s v:=by
 cases v<;>first|rfl|exact absurd rfl (h _)
def yo(ok:L2.HOk P w H h)(S:HR K mg ρ s H)(N:(zx s v).isR=true)(r:RD K mg ρ H v x)(R:L2.RelV x u) :
 ∃as,Reads h u (zx s v).d as/\(L2.yv (zx s v).d=false->CN ∉ as):=by
 cases v with
 |f vs=>
  cases r with
  |@m a _ xs n Y W=>
   cases (show u=Bb a from R);obtain⟨z,its,U,o,e,c,n,dd⟩:=(show L2.z9 P w H h a (.c xs) from ok a _ Y);obtain⟨as,q,X⟩:=RDs.bR ok S W (by simpa only[zx,Val.isR] using N) U
   exact⟨as,.tuple e c dd.1 (by simpa using q),λz=>X (by simpa [zx,Val.d,L2.yv] using z)⟩
 |_=>exact(show _ from by rw[eI (λ_ h=>by cases h)]at N ⊢;exact uf ok S N r R)
mutual
theorem yT:∀{v:Val},v.isD=true->v.isR=true
 |.h,_=>rfl
 |.e _,_=>rfl
 |.c _,_=>rfl
 |.m _,_=>rfl
 |.f vs,h=>by rw[Val.isR];exact vB (by simpa only[Val.isD] using h)
 |.g vs,h=>by rw[Val.isR];exact vB (by simpa only[Val.isD] using h)
 |.p,h=>by cases h
 |.o _,h=>by cases h
 |.r _,h=>by cases h
 |.j _,h=>by cases h
 |.u _,h=>by cases h
 |.t _,h=>by cases h
theorem vB:∀{vs:List Val},vA vs=true->sO vs=true
 |[],_=>rfl
 |v::vs,h=>by rw[vA,ub]at h;rw[sO,yT h.1,vB h.2];rfl
end
mutual
theorem zt:∀{v:Val},v.isD=true->v.d.canLay0=true
 |.h,_=>rfl
 |.e _,_=>rfl
 |.c _,_=>rfl
 |.m _,h=>by simpa only[Val.isD,Val.d,Ia] using h
 |.f vs,h=>by rw[Val.d,Ia];exact xP (by simpa only[Val.isD] using h)
 |.g vs,h=>by rw[Val.d,Ia];exact xP (by simpa only[Val.isD] using h)
 |.p,h=>by cases h
 |.o _,h=>by cases h
 |.r _,h=>by cases h
 |.j _,h=>by cases h
 |.u _,h=>by cases h
 |.t _,h=>by cases h
theorem xP:∀{vs:List Val},vA vs=true->PyData.canLayAll0 (ds vs)=true
 |[],_=>rfl
 |v::vs,h=>by rw[vA,ub]at h;rw[ds,PyData.canLayAll0,zt h.1,xP h.2];rfl
end
def vE(N:HR K mg ρ s H)(r:RDs K mg ρ H vs xs)(w:yX K mg (RD K mg) ρ H (newList m vs s) Q):∀p,H p=none->Q (.c p) (L2.upd H p (.b xs)):=λp hp=>by
 cases m with
 |true=>exact w _ _ _ (Ext.own N hp _) (N.own hp r) (.C (sW N p) (by rw[L2.zY];rfl))
 |false=>exact w _ _ _ (Ext.new N hp _) (N.more hp _) (.D (N.new hp) L2.zY (r.mono (Ext.new N hp _)))
def oN(N:HR K mg ρ s H)(r:RDs K mg ρ H vs xs)(w:yX K mg (RD K mg) ρ H (.e (.f vs) s) Q):∀p,H p=none->Q (.c p) (L2.upd H p (.c xs)):=λp hp=>
 w _ _ _ (Ext.new N hp _) (N.more hp _) (.m (N.new hp) L2.zY (r.mono (Ext.new N hp _)))
def Ext.same(R:HR K mg ρ s H)(e:L2.sm H H'):Ext ρ H ρ H':=⟨⟨[],by simp,λa N=>by cases N⟩,rfl,λa o h _=>e a o h,λa N=>by obtain⟨o,q⟩:=R.trk N;rw[q,e a o q]⟩
theorem HR.same(N:HR K mg ρ s H)(e:L2.sm H H'):HR K mg ρ s H':=⟨N.f,N.l,λi c q=>by
 obtain⟨a,U,r⟩:=N.g i c q;obtain⟨o,R⟩:=r.there;exact⟨a,U,r.mv (Ext.same N e).mv ((e a _ R).trans R.symm)⟩,λa S=>by
 obtain⟨⟨ys,q⟩,n⟩:=N.d a S;exact⟨⟨ys,e a _ q⟩,n⟩⟩
def um(R:HR K mg ρ s H)(r:RDs K mg ρ H vs xs)(w:yX K mg (RD K mg) ρ H (.e (.f vs) s) Q):L2.sC H xs Q:=λp H' e h=>by
 have N:=R.same e;refine w _ _ _ (Ext.same R e) N (.m ⟨λS=>?_,λS=>?_⟩ h (r.mono (Ext.same R e)))
 . obtain⟨i,hi,q⟩:=Bz S
   have hs:i<s.length:=by rw[<-N.f];exact hi
   obtain⟨b,U,W⟩:=N.g i _ (pn hs);rw[pn hi,q]at U;cases U;have:=W.hk;rw[h]at this;exact absurd this (BR 0)
 . obtain⟨⟨ys,q⟩,_⟩:=N.d _ S
   rw[h]at q;cases ys<;>cases q
end
section
variable (K:KF)(mg:Str->Option Value)
def rM2(g:Val->Val->Sto->Out Val):L2.R2:=λx y H Q=>∃ρ s v w,HR K mg ρ s H/\RD K mg ρ H v x/\RD K mg ρ H w y/\yX K mg (RD K mg) ρ H (g v w s) Q
def rMc(g:List Val->Sto->Out Val):List L2.V->L2.Hp->L2.VK->Prop:=λxs H Q=>∃ρ s vs,HR K mg ρ s H/\RDs K mg ρ H vs xs/\yX K mg (RD K mg) ρ H (g vs s) Q
end
def zJ(N:HR K mg ρ s H)(r:RD K mg ρ H v x)(w:yX K mg (RD K mg) ρ H (.e v s) Q):Q x H:=w _ _ _ Ext.refl N r
def kB m:L2.OpR X (BZ .Add) (rM2 X.K X.d (binOp m .a)):=by
 intro pins s σ H x y v u Q I W U h;obtain⟨ρ,t,a,b,N,Z,Y,w⟩:=h;simp only[binOp]at w;split at w
 . cases Z;cases Y
   exact L2.VB pins s σ H _ _ v u Q I W U ⟨_,_,rfl,rfl,zJ N (.l _) w⟩
 . split at w
   . rename_i hz
     cases Z;cases Y;exact L2.kA pins s σ H _ _ v u Q I W U ⟨_,_,rfl,rfl,by rw[<-yl];exact hz,zJ N (.E _) w⟩
   . exact w.elim
 . split at w
   . rename_i hz
     cases Z with
     |m n1 h1 S=>
      cases Y with
      |m n2 h2 R=>
       refine L2.cR pins s σ H _ _ v u Q I W U ⟨_,_,_,_,rfl,rfl,h1,h2,?_,um N (S.append R) w⟩;rw[<-S.length,<-R.length,<-yl];exact hz
   . exact w.elim
 . split at w
   . rename_i ea eb
     split at w
     . rename_i hz
       obtain⟨p1,xs,rfl,h1,S⟩:=xr N Z ea;obtain⟨p2,ys,rfl,h2,R⟩:=xr N Y eb;refine L2.VD pins s σ H _ _ v u Q I W U ⟨_,_,_,_,rfl,rfl,h1,h2,?_,vE N (S.append R) w⟩;rw[<-S.length,<-R.length,<-yl];exact hz
     . exact w.elim
   . exact w.elim
def kF m:L2.OpR X (BZ .Sub) (rM2 X.K X.d (binOp m .e)):=by
 intro pins s σ H x y v u Q I R N h;obtain⟨ρ,t,a,b,W,U,S,w⟩:=h;simp only[binOp]at w;split at w
 . cases U;cases S
   exact L2.VJ pins s σ H _ _ v u Q I R N ⟨_,_,rfl,rfl,zJ W (.l _) w⟩
 . exact w.elim
def kD m:L2.OpR X (BZ .Mult) (rM2 X.K X.d (binOp m .b)):=by
 intro pins s σ H x y v u Q I W U h;obtain⟨ρ,t,a,b,R,Z,Y,w⟩:=h;simp only[binOp]at w;split at w
 . split at w
   . rename_i hz
     cases Z;cases Y;exact L2.VG pins s σ H _ _ v u Q I W U ⟨_,_,rfl,rfl,hz,zJ R (.l _) w⟩
   . exact w.elim
 . split at w
   . rename_i hz
     obtain⟨z1,z2,S,z4⟩:=hz;cases Z with
     |m n1 h1 N=>
      cases Y;refine L2.Zr pins s σ H _ _ v u Q I W U ⟨_,_,_,rfl,rfl,h1,z1,z2,?_,?_,um R (N.rep _) w⟩
      . intro e;subst e;cases N;exact S rfl
      . rw[<-N.length];exact z4
   . exact w.elim
 . split at w
   . rename_i ea
     split at w
     . rename_i hz
       obtain⟨z1,z2,S⟩:=hz;obtain⟨p1,xs,rfl,h1,N⟩:=xr R Z ea;cases Y;refine L2.VI pins s σ H _ _ v u Q I W U ⟨_,_,_,rfl,rfl,h1,⋯,⋯,?_,vE R (N.rep _) w⟩
       rw[<-N.length,<-yl];exact S
     . exact w.elim
   . exact w.elim
 . exact w.elim
def mM m:L2.OpR X (BZ .FloorDiv) (rM2 X.K X.d (binOp m .d)):=by
 intro pins s σ H x y v u Q I R N h;obtain⟨ρ,t,a,b,W,U,S,w⟩:=h;simp only[binOp]at w;split at w
 . split at w
   . rename_i hz
     cases U;cases S;exact L2.Zp pins s σ H _ _ v u Q I R N ⟨_,_,rfl,rfl,hz,zJ W (.l _) w⟩
   . exact w.elim
 . exact w.elim
def kC m:L2.OpR X (BZ .Mod) (rM2 X.K X.d (binOp m .c)):=by
 intro pins s σ H x y v u Q I R N h;obtain⟨ρ,t,a,b,W,U,S,w⟩:=h;simp only[binOp]at w;split at w
 . split at w
   . rename_i hz
     cases U;cases S;exact L2.VF pins s σ H _ _ v u Q I R N ⟨_,_,rfl,rfl,hz,zJ W (.l _) w⟩
   . exact w.elim
 . exact w.elim
def kE m:L2.OpR X (BZ .Pow) (rM2 X.K X.d (binOp m .f)):=by
 intro pins s σ H x y v u Q I R N h;obtain⟨ρ,t,a,b,W,U,S,w⟩:=h;simp only[binOp]at w;split at w
 . split at w
   . rename_i hz
     cases U;cases S;exact L2.VH pins s σ H _ _ v u Q I R N ⟨_,_,rfl,rfl,hz,zJ W (.l _) w⟩
   . exact w.elim
 . exact w.elim
end M
end
section
namespace L2
open PySem PyProof PyProof.Rows
section
variable {κ:Type} [DecidableEq κ]
theorem KV.length{N:List (κ × V)}{vs:List (κ × Value)}(r:KV N vs):N.length=vs.length:=Ik r
end
def Inv.big(I:Inv X pins σ H s):CN<s.heap.objs.size:=by have h:Bq<s.heap.objs.size:=(I.mod.a.keeps I.bk).lt;exact FU (by decide) h
def eJ(h:Heap)(N:CN<h.objs.size):z9 P w H (h.push {cls:=.type "dict",data:=.dict #[]}) h.objs.size (.j []):=
 ⟨AS _,beq_eq_false_iff_ne.mpr (BJ (AD N)),[],.nil,Heap.DictOf.new h⟩
def eK(h:Heap)(N:CN<h.objs.size):z9 P w H (h.push {cls:=.type "dict",data:=.dict #[]}) h.objs.size (.k []):=
 ⟨AS _,beq_eq_false_iff_ne.mpr (BJ (AD N)),[],.nil,_,#[],0,Az _ rfl,⟨rfl,rfl,rfl⟩,rfl,rfl,Gi⟩
def V0:TE:=λ_ H Q=>∀p,H p=none->Q (.c p) (upd H p (.j []))
def V1:TE:=λ_ H Q=>∀p,H p=none->Q (.c p) (upd H p (.k []))
def cw:PE X (.Dict [] [] pos) V0:=λpins s σ H Q I h=>
 wpAny_Dict_empty ⟨.c s.heap.objs.size,_,I.laid (a:=s.heap.objs.size) (o:=.j []) (t':=s.toks) (λ_ _ q=>zO _ q) (Ab _) (eJ s.heap I.big),rfl,h _ (I.j.fresh (Ab _))⟩
def cx:PE X (.Dict [] [] pos) V1:=λpins s σ H Q I h=>
 wpAny_Dict_empty ⟨.c s.heap.objs.size,_,I.laid (a:=s.heap.objs.size) (o:=.k []) (t':=s.toks) (λ_ _ q=>zO _ q) (Ab _) (eK s.heap I.big),rfl,h _ (I.j.fresh (Ab _))⟩
end L2
end
section
namespace M
open PySem
section
variable {K:KF}{mg:Str->Option Value}{ρ ρ':Own}{H H':L2.Hp}{s s':Sto}
theorem RD.flat{v:Val}{x:L2.V}(r:RD K mg ρ H v x)(h:flat v=true):L2.wL x=true:=by
 cases r<;>first|rfl|cases h
theorem RD.eqF(r:RD K mg ρ H v x)(q:RD K mg ρ H w y)(h:M.flat v=true)(h':M.flat w=true):L2.eqV x y=M.eqF v w:=by
 cases r<;>first|(cases h;done)|(cases q<;>first|rfl|(cases h';done))
theorem RDs.flat:∀{vs:List Val} {xs:List L2.V},RDs K mg ρ H vs xs->vs.all flat=true->xs.all L2.wL=true
 |_,_,.d,_=>rfl
 |_,_,.a r rs,h=>by rw[CA,ub]at h;rw[CA,r.flat h.1,rs.flat h.2];rfl
theorem RDs.any(q:RD K mg ρ H w y)(hw:M.flat w=true):∀{vs} {xs},RDs K mg ρ H vs xs->vs.all M.flat=true->(xs.any λz=>L2.eqV z y)=vs.any λz=>M.eqF z w
 |_,_,.d,_=>rfl
 |_,_,.a r rs,h=>by rw[CA,ub]at h;rw[DT,DT,r.eqF q h.1 hw,RDs.any q hw rs h.2]
theorem RDs.countP(q:RD K mg ρ H w y)(hw:M.flat w=true):∀{vs} {xs},RDs K mg ρ H vs xs->vs.all M.flat=true->(xs.countP λz=>L2.eqV z y)=vs.countP λz=>M.eqF z w
 |_,_,.d,_=>rfl
 |_,_,.a r rs,h=>by rw[CA,ub]at h;rw[Ez,Ez,r.eqF q h.1 hw,RDs.countP q hw rs h.2]
theorem RDs.bools:∀{vs} {xs} {bs},RDs K mg ρ H vs xs->boolsOf vs=some bs->xs=bs.map L2.V.e
 |_,_,_,.d,h=>by cases h;rfl
 |_,_,_,.a r rs,h=>by
  cases r with
  |j b=>
   simp only[boolsOf,AK]at h;obtain⟨S,R,N⟩:=h;subst N;rw[rs.bools R];rfl
  |_=>cases h
theorem RDs.qo:∀{vs} {xs} {ns},RDs K mg ρ H vs xs->intsOf vs=some ns->xs=ns.map L2.V.d
 |_,_,_,.d,h=>by cases h;rfl
 |_,_,_,.a r rs,h=>by
  cases r with
  |l b=>
   simp only[intsOf,AK]at h;obtain⟨S,R,N⟩:=h;subst N;rw[rs.qo R];rfl
  |_=>cases h
def aX(r:RDs K mg ρ H vs xs)(h:L2.atI vs i=some v):∃x,L2.atI xs i=some x/\RD K mg ρ H v x:=by unfold L2.atI at h ⊢;rw[<-r.length];obtain⟨j,U,S⟩:=Fe.mp h;obtain⟨x,R,N⟩:=r.get S;exact⟨x,by rw[U];exact R,N⟩
def aG(S:HR K mg ρ s H)(r:RD K mg ρ H v x)(h:truth s v=some b):L2.aT K x H b:=by
 have N:∀{vs:List Val} {xs:List L2.V},RDs K mg ρ H vs xs->vs.isEmpty=xs.isEmpty:=λr=>by cases r<;>rfl
 cases r with
 |A=>cases h;rfl
 |j b=>cases h;rfl
 |l i=>cases h;rfl
 |E x=>
  simp only[truth]at h;split at h
  . cases h
    rename_i q;exact⟨by rw[<-yl];exact q,rfl⟩
  . cases h
 |m n e q=>cases h;exact .inr (.inl ⟨_,.of e,by rw[N q]⟩)
 |D n e q=>cases h;exact .inl ⟨_,.of e,by rw[N q]⟩
 |B n e=>cases h;exact .inr (.inr ⟨_,e,rfl⟩)
 |p _=>cases h
 |F _=>cases h
 |@C a i e _=>
  simp only[truth]at h;split at h
  . rename_i ws hw
    cases h;obtain⟨c,xs,R,U,q⟩:=S.obj i _ hw;rw[e]at R;cases R;exact .inl ⟨_,.of U,by rw[N q]⟩
  . cases h
 |I _=>cases h
 |J _=>cases h
 |s _ _=>cases h
 |G _ _=>cases h
def S5(N:HR K mg ρ s H)(r:RD K mg ρ H v x)(h:kindOf v=some a):(L2.uW K H x (.type a.nm)):=by
 cases r with
 |A=>cases h;exact .d
 |j b=>cases h;exact .bl b
 |l i=>cases h;exact .c i
 |E x=>cases h;exact .f x
 |m n e q=>cases h;exact .g e
 |D n e q=>cases h;exact .b e
 |B n e=>cases h;exact .dK e
 |C e k=>
  cases h;obtain⟨xs,q⟩:=dD k;exact .b q
 |_=>cases h
def TN(h:tZ n=some c):n=c.nm/\c≠.e:=by unfold tZ at h;split at h<;>first|(cases h;exact⟨rfl,by decide⟩)|cases h
end
section
variable {X:L2.Cx}{k:Nat}
def TZ(h:rq d=true):L2.Yv d:=by
 unfold rq at h;simp only[ub,decide_eq_true_eq,Bd,Bu]at h;obtain⟨⟨⟨⟨W,U⟩,S⟩,R⟩,N⟩:=h;have L:L2.uV d.depth d.weight d:=⟨W,U,Ab _,Ab _⟩;refine L.Sk S R λz=>?_;rcases N with N|N
 . rw[N]at z;cases z
 . exact N
def gf(R:L2.y6 k X.A):L2.OpR X (Bp .Eq) (rM2 X.K X.d (zQ .d)):=by
 intro pins s σ H x y v u Q I U S h;obtain⟨ρ,t,a,b,N,Y,W,w⟩:=h;simp only[zQ,pj]at w;split at w
 . rename_i p q
   cases Y;cases W;have e:decide (L2.V.f p=L2.V.f q)=decide (p=q):=by rw[BU];simp
   refine L2.Tj pins s σ H _ _ v u Q I U S ⟨rfl,?_⟩;rw[e];exact zJ N (.j _) w
 . rename_i a ns
   cases W with
   |p g=>
    by_cases hc:((zx t (.f a)).isD&&(Val.f (ns.map .c)).isD&&decide ((Val.f (ns.map .c)).d.depth<=60))=true
    . rw[if_pos hc]at w
      simp only[ub,decide_eq_true_eq]at hc;obtain⟨as,r1,_⟩:=yo I.j N (yT hc.1.1) Y U;obtain⟨its,rv,p1,_⟩:=I.tuple g.sqt;obtain⟨o,ho,hcl,n,hd⟩:=id p1;obtain⟨bs,q,_⟩:=RDs.reads I.j (RDs.ints (K:=X.K) (mg:=X.d) (ρ:=ρ) (H:=H) ns) (yT hc.1.2) rv;have Z:Reads s.heap u (Val.f (ns.map .c)).d bs:=by cases S;exact .tuple ho hcl hd (by simpa using q)
      have hu:=R.a;have hm:=Et (zx t (.f a)).d.depth (Val.f (ns.map .c)).d.depth;exact SeqAt.compareEq_reads r1 Z (zt hc.1.1) (zt hc.1.2) ⋯ ⟨.e _,H,I,rfl,zJ N (.j _) w⟩
    . rw[if_neg hc]at w;exact w.elim
 . by_cases hc:((zx t a).isD&&(zx t b).isD&&decide ((zx t b).d.depth<=60))=true
   . rw[if_pos hc]at w
     simp only[ub,decide_eq_true_eq]at hc;obtain⟨as,r1,_⟩:=yo I.j N (yT hc.1.1) Y U;obtain⟨bs,Z,_⟩:=yo I.j N (yT hc.1.2) W S;have hu:=R.a;have hm:=Et (zx t a).d.depth (zx t b).d.depth;exact SeqAt.compareEq_reads r1 Z (zt hc.1.1) (zt hc.1.2) ⋯ ⟨.e _,H,I,rfl,zJ N (.j _) w⟩
   . rw[if_neg hc]at w;exact w.elim
def gp(R:L2.y6 k X.A):L2.OpR X (Bp .NotEq) (rM2 X.K X.d (zQ .c)):=by
 intro pins s σ H x y v u Q I U S h;obtain⟨ρ,t,a,b,N,Y,W,w⟩:=h;simp only[zQ,pj]at w;split at w
 . rename_i p q
   cases Y;cases W;have e:decide (L2.V.f p=L2.V.f q)=decide (p=q):=by rw[BU];simp
   refine L2.Tr pins s σ H _ _ v u Q I U S ⟨rfl,?_⟩;rw[e];exact zJ N (.j _) w
 . by_cases hc:((zx t a).isD&&(zx t b).isD&&decide ((zx t b).d.depth<=60))=true
   . rw[if_pos hc]at w
     simp only[ub,decide_eq_true_eq]at hc;obtain⟨as,r1,_⟩:=yo I.j N (yT hc.1.1) Y U;obtain⟨bs,Z,_⟩:=yo I.j N (yT hc.1.2) W S;have hu:=R.a;have hm:=Et (zx t a).d.depth (zx t b).d.depth;exact SeqAt.compareNe_reads r1 Z (zt hc.1.1) (zt hc.1.2) ⋯ ⟨.e _,H,I,rfl,zJ N (.j _) w⟩
   . rw[if_neg hc]at w;exact w.elim
def RD.isNone(r:RD K mg ρ H v x):decide (x=.g)=v.isN:=by
 cases r<;>first|rfl|exact decide_eq_false (λz=>nomatch z)
def gj:L2.OpR X (Bp .Is) (rM2 X.K X.d (zQ .i)):=by
 intro pins s σ H x y v u Q I R N h;obtain⟨ρ,t,a,b,U,S,W,w⟩:=h;cases W with
 |A=>
  refine L2.VE pins s σ H _ _ v u Q I R N ⟨rfl,?_⟩;rw[S.isNone];exact zJ U (.j _) w
 |j c=>
  cases S with
  |j d=>cases R;cases N;cases c<;>cases d<;>exact xd ⟨.e _,H,I,rfl,zJ U (.j _) w⟩
  |_=>exact w.elim
 |_=>exact w.elim
def oR:L2.OpR X (Bp .IsNot) (rM2 X.K X.d (zQ .b)):=by
 intro pins s σ H x y v u Q I R N h;obtain⟨ρ,t,a,b,U,S,W,w⟩:=h;cases W with
 |A=>
  refine L2.Zq pins s σ H _ _ v u Q I R N ⟨rfl,?_⟩;rw[S.isNone];exact zJ U (.j _) w
 |j c=>
  cases S with
  |j d=>cases R;cases N;cases c<;>cases d<;>exact xd ⟨.e _,H,I,rfl,zJ U (.j _) w⟩
  |_=>exact w.elim
 |_=>exact w.elim
theorem vZ:∀{vs} {v},vA vs=true->v∈vs->v.isD=true
 |w::vs,v,h,m=>by
  rw[vA,ub]at h;rcases Al.mp m with rfl|m
  . exact h.1
  . exact vZ h.2 m
def pq{g:Val->Bool}(q:RDs K mg ρ H vs xs)(r:L2.Vals xs its)
 (Z:∀z x w,z∈vs->RD K mg ρ H z x->L2.RelV x w->Bx A s w u (g z)):∃f:Value->Bool,(∀w∈its.toArray,Bx A s w u (f w))/\its.toArray.any f=vs.any g:=by
 classical
 have at_:∀i w,its[i]?=some w->∃z x,vs[i]?=some z/\RD K mg ρ H z x/\L2.RelV x w:=λi w e=>by
  have hi:i<xs.length:=by rw[r.length];exact(Ai.mp e).1
  have hx:xs[i]?=some xs[i]:=pn hi;obtain⟨w',e',N⟩:=r.get hx;rw[e]at e';cases e';obtain⟨z,X,S⟩:=q.Uv hx;exact⟨z,_,X,S,N⟩
 refine⟨λw=>decide (∃(i:Nat) (z:Val),its[i]?=some w/\vs[i]?=some z/\g z=true),λw hw=>?_,?_⟩
 . obtain⟨i,hi⟩:=CW (by simpa using hw:w∈its)
   by_cases hd:∃(i:Nat) (z:Val),its[i]?=some w/\vs[i]?=some z/\g z=true
   . dsimp only;rw[decide_eq_true hd]
     obtain⟨j,z,X,R,W⟩:=hd;obtain⟨z',x,U,S,N⟩:=at_ j w X;rw[R]at U;cases U;rw[<-W];exact Z z x w (AA R) S N
   . dsimp only;rw[decide_eq_false hd]
     obtain⟨z,x,U,S,N⟩:=at_ i w hi;have Y:g z=false:=by
      cases Y:g z with
      |false=>rfl
      |true=>exact(hd ⟨i,z,hi,U,Y⟩).elim
     rw[<-Y];exact Z z x w (AA U) S N
 . rw[BU,Array.any_toList.symm,CC,CC]
   constructor
   . rintro ⟨w,_,h⟩
     obtain⟨i,z,_,R,W⟩:=of_decide_eq_true h;exact⟨z,AA R,W⟩
   . rintro ⟨z,hz,W⟩
     obtain⟨i,hi⟩:=CW hz;obtain⟨x,X,_⟩:=q.get hi;obtain⟨w,R,_⟩:=r.get X;exact⟨w,AA R,decide_eq_true ⟨i,z,R,hi,W⟩⟩
def eqD(hu:A.units+60<cLine)(ok:L2.HOk P w H s.heap)(X:RD K mg ρ H a x)(W:L2.RelV x v)(R:a.isD=true)(hd:a.d.depth<=60)
 (S:RD K mg ρ H z y) (U:L2.RelV y u) (N:z.isD=true):Bx A s u v (BX z.d a.d):=by
 obtain⟨as,Z,_⟩:=RD.reads ok X (yT R) W;obtain⟨bs,Y,_⟩:=RD.reads ok S (yT N) U;have hm:=Et z.d.depth a.d.depth;exact SeqAt.eqAt_reads _ _ _ _ _ _ _ _ Y Z (zt N) (zt R) ⋯
def gi(hr0:L2.y6 k X.A):L2.OpR X (Bp .In) (rM2 X.K X.d (zQ .h)):=by
 intro pins s σ H x y v u Q I Z ry h;obtain⟨ρ,t,a,b,W,U,rb,w⟩:=h;simp only[zQ]at w;split at w
 . rename_i vs e
   obtain⟨p,xs,rfl,R,q⟩:=oo W rb e;split at w
   . rename_i hf
     rw[ub]at hf;refine L2.gq pins s σ H _ _ v u Q I Z ry ⟨p,xs,rfl,R,U.flat hf.1,q.flat hf.2,?_⟩;simp only[L2.inV,Aw,if_false];rw[RDs.any U hf.1 q hf.2];exact zJ W (.j _) w
   . split at w
     . rename_i hf
       simp only[inD,ub,decide_eq_true_eq]at hf;have hu:=hr0.a;cases ry;rcases R with R|R
       . obtain⟨its,r,pl,S⟩:=I.list R
         obtain⟨f,f1,f2⟩:=pq (A:=X.A.in1) (s:=s) (u:=v) (g:=λz=>BX z.d a.d) q r λz x' w' S Y N=>eqD (show X.A.units+1+60<cLine by omega) I.j U Z hf.1.1 hf.2 Y N (vZ hf.1.2 S)
         exact SeqAt.in_listAt f pl.isList f1 ⟨.e _,H,I,rfl,by rw[f2];exact zJ W (.j _) w⟩
       . obtain⟨its,r,pl,S⟩:=I.tuple R
         obtain⟨f,f1,f2⟩:=pq (A:=X.A.in1) (s:=s) (u:=v) (g:=λz=>BX z.d a.d) q r λz x' w' S Y N=>eqD (show X.A.units+1+60<cLine by omega) I.j U Z hf.1.1 hf.2 Y N (vZ hf.1.2 S)
         exact SeqAt.in_tupleAt f pl f1 ⟨.e _,H,I,rfl,by rw[f2];exact zJ W (.j _) w⟩
     . exact w.elim
 . exact w.elim
def oS(hr0:L2.y6 k X.A):L2.OpR X (Bp .NotIn) (rM2 X.K X.d (zQ .a)):=by
 intro pins s σ H x y v u Q I Z ry h;obtain⟨ρ,t,a,b,W,U,rb,w⟩:=h;simp only[zQ]at w;split at w
 . rename_i vs e
   obtain⟨p,xs,rfl,R,q⟩:=oo W rb e;split at w
   . rename_i hf
     rw[ub]at hf;refine L2.oT pins s σ H _ _ v u Q I Z ry ⟨p,xs,rfl,R,U.flat hf.1,q.flat hf.2,?_⟩;simp only[L2.inV,if_true];rw[RDs.any U hf.1 q hf.2];exact zJ W (.j _) w
   . split at w
     . rename_i hf
       simp only[inD,ub,decide_eq_true_eq]at hf;have hu:=hr0.a;cases ry;rcases R with R|R
       . obtain⟨its,r,pl,S⟩:=I.list R
         obtain⟨f,f1,f2⟩:=pq (A:=X.A.in1) (s:=s) (u:=v) (g:=λz=>BX z.d a.d) q r λz x' w' S Y N=>eqD (show X.A.units+1+60<cLine by omega) I.j U Z hf.1.1 hf.2 Y N (vZ hf.1.2 S)
         exact SeqAt.notIn_listAt f pl.isList f1 ⟨.e _,H,I,rfl,by rw[f2];exact zJ W (.j _) w⟩
       . obtain⟨its,r,pl,S⟩:=I.tuple R
         obtain⟨f,f1,f2⟩:=pq (A:=X.A.in1) (s:=s) (u:=v) (g:=λz=>BX z.d a.d) q r λz x' w' S Y N=>eqD (show X.A.units+1+60<cLine by omega) I.j U Z hf.1.1 hf.2 Y N (vZ hf.1.2 S)
         exact SeqAt.notIn_tupleAt f pl f1 ⟨.e _,H,I,rfl,by rw[f2];exact zJ W (.j _) w⟩
     . exact w.elim
 . exact w.elim
def gn:L2.OpR X (Bp .Lt) (rM2 X.K X.d (zQ .m)):=by
 intro pins s σ H x y v u Q I R N h;obtain⟨ρ,t,a,b,W,U,S,w⟩:=h;simp only[zQ]at w;split at w
 . cases U;cases S
   exact L2.Tq pins s σ H _ _ v u Q I R N ⟨_,_,rfl,rfl,zJ W (.j _) w⟩
 . exact w.elim
def gm:L2.OpR X (Bp .LtE) (rM2 X.K X.d (zQ .g)):=by
 intro pins s σ H x y v u Q I R N h;obtain⟨ρ,t,a,b,W,U,S,w⟩:=h;simp only[zQ]at w;split at w
 . cases U;cases S
   exact L2.Tp pins s σ H _ _ v u Q I R N ⟨_,_,rfl,rfl,zJ W (.j _) w⟩
 . exact w.elim
def gh:L2.OpR X (Bp .Gt) (rM2 X.K X.d (zQ .k)):=by
 intro pins s σ H x y v u Q I R N h;obtain⟨ρ,t,a,b,W,U,S,w⟩:=h;simp only[zQ]at w;split at w
 . cases U;cases S
   exact L2.To pins s σ H _ _ v u Q I R N ⟨_,_,rfl,rfl,zJ W (.j _) w⟩
 . exact w.elim
def gg:L2.OpR X (Bp .GtE) (rM2 X.K X.d (zQ .j)):=by
 intro pins s σ H x y v u Q I R N h;obtain⟨ρ,t,a,b,W,U,S,w⟩:=h;simp only[zQ]at w;split at w
 . cases U;cases S
   exact L2.Tn pins s σ H _ _ v u Q I R N ⟨_,_,rfl,rfl,zJ W (.j _) w⟩
 . exact w.elim
noncomputable def Cop.op:Cop->CmpOp
 |.d=>.Eq|.c=>.NotEq|.m=>.Lt|.g=>.LtE|.k=>.Gt|.j=>.GtE|.i=>.Is|.b=>.IsNot|.h=>.In|.a=>.NotIn|.l=>.In|.e=>.NotIn|.f=>.NotIn
noncomputable def okC:Cop->Bool
 |.l|.e|.f=>false
 |_=>true
def tq(N:L2.y6 k X.A):∀op:Cop,okC op=true->L2.OpR X (Bp op.op) (rM2 X.K X.d (zQ op))
 |.d,_=>gf N
 |.c,_=>gp N
 |.m,_=>gn
 |.g,_=>gm
 |.k,_=>gh
 |.j,_=>gg
 |.i,_=>gj
 |.b,_=>oR
 |.h,_=>gi N
 |.a,_=>oS N
 |.l,h=>by cases h
 |.e,h=>by cases h
 |.f,h=>by cases h
noncomputable def Bop.op:Bop->Operator
 |.a=>.Add|.e=>.Sub|.b=>.Mult|.d=>.FloorDiv|.c=>.Mod|.f=>.Pow|.h=>.LShift|.i=>.RShift|.g=>.BitAnd
noncomputable def okB:Bop->Bool
 |.h|.i|.g=>false
 |_=>true
def VC m:∀op:Bop,okB op=true->L2.OpR X (BZ op.op) (rM2 X.K X.d (binOp m op))
 |.a,_=>kB m
 |.e,_=>kF m
 |.b,_=>kD m
 |.d,_=>mM m
 |.c,_=>kC m
 |.f,_=>kE m
 |.h,h=>by cases h
 |.i,h=>by cases h
 |.g,h=>by cases h
def U3:L2.IxR X (rM2 X.K X.d xJ):=by
 intro N R pins s σ H x y v u Q I rx ry h hs;obtain⟨ρ,t,a,b,U,ra,rb,w⟩:=h;simp only[xJ]at w;split at w
 . split at w
   . rename_i vs e
     split at w
     . rename_i z hz
       obtain⟨p,xs,rfl,S,q⟩:=oo U ra e;cases rb;obtain⟨W,Z,Y⟩:=aX q hz;refine L2.WI N R pins s σ H _ _ v u Q I rx ry ?_ hs;rcases S with S|S
       . exact .inl ⟨p,xs,_,W,rfl,rfl,S,Z,zJ U Y w⟩
       . exact .inr (.inl ⟨p,xs,_,W,rfl,rfl,S,Z,zJ U Y w⟩)
     . exact w.elim
   . exact w.elim
 . exact w.elim
end
noncomputable def Bf.nm:Bf->Str
 |.a=>"len"|.p=>"all"|.q=>"any"|.c=>"tuple"|.l=>"list"|.g=>"sorted"|.i=>"repr"|.j=>"max"|.k=>"min"|.s=>"sum"|.o=>"int"|.h=>"isinstance"|.b=>"divmod"|.r=>"str"|.d=>"sorted"|.n=>"min"|.e=>"sorted"|.m=>"min"
noncomputable def Bf.val:Bf->Value
 |.a=>.builtin "len"|.p=>.builtin "all"|.q=>.builtin "any"|.c=>.type "tuple"|.l=>.type "list"|.g=>.builtin "sorted"|.i=>.builtin "repr"|.j=>.builtin "max"|.k=>.builtin "min"|.s=>.builtin "sum"|.o=>.type "int"
 |.h=>.builtin "isinstance"|.b=>.builtin "divmod"|.r=>.type "str"|.d=>.builtin "sorted"|.n=>.builtin "min"|.e=>.builtin "sorted"|.m=>.builtin "min"
def Bf.boot:∀f:Bf,Di f.nm=some f.val
 |.a=>boot_len|.p=>PyProof.Rows.boot_all|.q=>PyProof.Rows.boot_any|.c=>Hz|.l=>Fm|.g=>DR|.i=>PyProof.Rows.boot_repr|.j=>PyProof.Rows.boot_max|.k=>FN
 |.s=>PyProof.Rows.boot_sum|.o=>PyProof.Rows.boot_int|.h=>PyProof.Rows.boot_isinstance|.b=>PyProof.Rows.boot_divmod|.r=>PyProof.Rows.boot_str|.d=>DR|.n=>FN|.e=>DR|.m=>FN
section
variable {X:L2.Cx}{k:Nat}{m:Bool}
def tx(r:RDs K mg ρ H [v] xs):∃x,xs=[x]/\RD K mg ρ H v x:=by
 cases r with
 |a R N=>cases N;exact⟨_,rfl,R⟩
def fF(r:RDs K mg ρ H [v,w] xs):∃x y,xs=[x,y]/\RD K mg ρ H v x/\RD K mg ρ H w y:=by
 cases r with
 |a S R=>
  obtain⟨y,rfl,N⟩:=tx R;exact⟨_,_,rfl,S,N⟩
def fz:L2.yL X (.builtin "len") (rMc X.K X.d (blt .a m)):=by
 intro pins s σ H xs us Q I r h;obtain⟨ρ,t,vs,R,S,w⟩:=h;simp only[blt]at w;split at w
 . split at w
   . rename_i hz
     obtain⟨x,rfl,N⟩:=tx S;cases N;exact L2.pV pins s σ H _ us Q I r ⟨_,rfl,by rw[<-yl];exact hz,zJ R (.l _) w⟩
   . exact w.elim
 . split at w
   . rename_i e
     obtain⟨x,rfl,N⟩:=tx S;obtain⟨p,ys,rfl,U,q⟩:=oo R N e;refine L2.pU pins s σ H _ us Q I r ⟨p,ys,rfl,U,?_⟩;rw[<-q.length];exact zJ R (.l _) w
   . exact w.elim
 . exact w.elim
theorem rC(W:X.g=true):L2.yL X (.builtin "all") (rMc X.K X.d (blt .p m)):=by
 intro pins s σ H xs us Q I r h;obtain⟨ρ,t,vs,N,U,w⟩:=h;simp only[blt]at w;split at w
 . split at w
   . rename_i e
     split at w
     . rename_i bs eb
       obtain⟨x,rfl,S⟩:=tx U;obtain⟨p,ys,rfl,R,q⟩:=xr N S e;rw[q.bools eb]at R;exact L2.rC W pins s σ H _ us Q I r ⟨p,bs,rfl,.of R,zJ N (.j _) w⟩
     . exact w.elim
   . exact w.elim
 . exact w.elim
def lL:L2.yL X (.type "tuple") (rMc X.K X.d (blt .c m)):=by
 intro pins s σ H xs us Q I r h;obtain⟨ρ,t,vs,R,S,w⟩:=h;simp only[blt]at w;split at w
 . obtain⟨x,rfl,N⟩:=tx S
   cases N with
   |m n e q=>exact L2.v3 pins s σ H _ us Q I r ⟨_,_,rfl,.inr ⟨.of e,zJ R (.m n e q) w⟩⟩
 . split at w
   . rename_i e
     obtain⟨x,rfl,N⟩:=tx S;obtain⟨p,ys,rfl,U,q⟩:=xr R N e;exact L2.v3 pins s σ H _ us Q I r ⟨p,ys,rfl,.inl ⟨.of U,oN R q w⟩⟩
   . exact w.elim
 . exact w.elim
def eA(U:L2.y6 k X.A):L2.yL X (.builtin "repr") (rMc X.K X.d (blt .i m)):=by
 intro pins s σ H xs us Q I r h;obtain⟨ρ,t,vs,Z,rv,w⟩:=h;simp only[blt]at w;split at w
 . rename_i v
   split at w
   . rename_i hc
     rw[ub]at hc;obtain⟨x,rfl,Y⟩:=tx rv;obtain⟨u,rfl,N⟩:=L2.vals1 r;have S:=TZ hc.2;have q:Q (.f (zx t v).d.shown) H:=zJ Z (.E _) w;have fin:∀(W:Tok) (tk:Nat),L2.EP X pins σ Q (.str (zx t v).d.shown W) {s with toks:=tk}:=λ_ tk=>⟨.f _,H,I.tok _,⟨_,rfl⟩,q⟩
     obtain⟨as,R,hs⟩:=yo I.j Z hc.1 Y N;have fr:∀a,u=.ref a->wpAny (model X.f X.w) X.A (call (.builtin "repr") [u]) (L2.EP X pins σ Q) X.h s:=λa e=>by subst e;refine repr_of_reads' R S.sh (λz=>hs (S.a z)) U.gd ?_ (λ_ _ e=>e) (λh' u tk hk=>⟨.f _,H,I.kept hk,⟨_,rfl⟩,q⟩) S.ln;have:=S.dp;have:=U.a;omega
     cases Y with
     |A=>cases (show u=Ac from N);exact PySem.P.repr_of_none (fin _ _)
     |j b=>cases (show u=DV b from N);exact PySem.P.repr_of_bool (fin _ _)
     |l i=>obtain⟨t',z⟩:=(show ∃t,u=Dh i t from N);cases z;exact PySem.P.repr_of_int (by simpa [zx,yd,Val.d,PyData.showable] using S.sh) (fin _ _)
     |E x=>obtain⟨t',z⟩:=(show ∃t,u=HA x t from N);cases z;exact PySem.P.repr_of_str (fin _ _) S.ln
     |m _ _ _=>exact fr _ N
     |D _ _ _=>exact fr _ N
     |B _ _=>exact fr _ N
     |C _ _=>exact fr _ N
     |p _=>exact fr _ N
     |F _=>exact fr _ N
     |I _=>exact fr _ N
     |J _=>exact absurd hc.1 (by simp[zx,yd,Val.isR])
     |s _ _=>exact fr _ N
     |G _ _=>exact fr _ N
   . exact w.elim
 . exact w.elim
def f7(U:X.g=true):L2.yL X (.builtin "max") (rMc X.K X.d (blt .j m)):=by
 intro pins s σ H xs us Q I r h;obtain⟨ρ,t,vs,R,S,w⟩:=h;simp only[blt]at w;split at w
 . obtain⟨x,y,rfl,N,Y⟩:=fF S
   cases N;cases Y;exact L2.iu U pins s σ H _ us Q I r ⟨_,_,rfl,zJ R (.l _) w⟩
 . split at w
   . rename_i ns en
     split at w
     . rename_i hn
       obtain⟨x,rfl,N⟩:=tx S;cases N with
       |m n e q=>
        rw[q.qo en]at e;exact L2.iy U pins s σ H _ us Q I r ⟨_,ns,rfl,.of e,hn,zJ R (.l _) w⟩
     . exact w.elim
   . exact w.elim
 . split at w
   . rename_i e
     split at w
     . rename_i ns en
       split at w
       . rename_i hn
         obtain⟨x,rfl,N⟩:=tx S;obtain⟨p,ys,rfl,W,q⟩:=xr R N e;rw[q.qo en]at W;exact L2.iw U pins s σ H _ us Q I r ⟨p,ns,rfl,.of W,hn,zJ R (.l _) w⟩
       . exact w.elim
     . exact w.elim
   . exact w.elim
 . exact w.elim
def f9(U:X.g=true):L2.yL X (.builtin "min") (rMc X.K X.d (blt .k m)):=by
 intro pins s σ H xs us Q I r h;obtain⟨ρ,t,vs,R,S,w⟩:=h;simp only[blt]at w;split at w
 . obtain⟨x,y,rfl,N,Y⟩:=fF S
   cases N;cases Y;exact L2.iz U pins s σ H _ us Q I r ⟨_,_,rfl,zJ R (.l _) w⟩
 . split at w
   . rename_i ns en
     split at w
     . rename_i hn
       obtain⟨x,rfl,N⟩:=tx S;cases N with
       |m n e q=>
        rw[q.qo en]at e;exact L2.lJ U pins s σ H _ us Q I r ⟨_,ns,rfl,.of e,hn,zJ R (.l _) w⟩
     . exact w.elim
   . exact w.elim
 . split at w
   . rename_i e
     split at w
     . rename_i ns en
       split at w
       . rename_i hn
         obtain⟨x,rfl,N⟩:=tx S;obtain⟨p,ys,rfl,W,q⟩:=xr R N e;rw[q.qo en]at W;exact L2.i6 U pins s σ H _ us Q I r ⟨p,ns,rfl,.of W,hn,zJ R (.l _) w⟩
       . exact w.elim
     . exact w.elim
   . exact w.elim
 . exact w.elim
def fw:L2.yL X (.type "int") (rMc X.K X.d (blt .o m)):=by
 intro pins s σ H xs us Q I r h;obtain⟨ρ,t,vs,S,R,w⟩:=h;simp only[blt]at w;split at w
 . obtain⟨x,rfl,N⟩:=tx R
   cases N;exact L2.qi pins s σ H _ us Q I r (.inl ⟨_,rfl,zJ S (.l _) w⟩)
 . obtain⟨x,rfl,N⟩:=tx R
   cases N;exact L2.qi pins s σ H _ us Q I r (.inr ⟨_,rfl,zJ S (.l _) w⟩)
 . exact w.elim
theorem rD:L2.yL X (.builtin "isinstance") (rMc X.K X.d (blt .h m)):=by
 intro pins s σ H xs us Q I r h;obtain⟨ρ,t,vs,N,U,w⟩:=h;simp only[blt]at w;split at w
 . split at w
   . rename_i ea ec
     obtain⟨x,y,rfl,S,R⟩:=fF U;cases R;obtain⟨Y,W⟩:=TN ec;subst Y;exact L2.rD pins s σ H _ us Q I r ⟨_,_,_,_,rfl,S5 N S ea,L2.Wz X.K _ _ W,zJ N (.j _) w⟩
   . exact w.elim
 . exact w.elim
theorem vV:L2.yL X (.builtin "divmod") (rMc X.K X.d (blt .b m)):=by
 intro pins s σ H xs us Q I r h;obtain⟨ρ,t,vs,U,S,w⟩:=h;simp only[blt]at w;split at w
 . split at w
   . rename_i hz
     obtain⟨x,y,rfl,R,N⟩:=fF S;cases R;cases N;exact L2.vV pins s σ H _ us Q I r ⟨_,_,rfl,hz,oN U (.a (.l _) (.a (.l _) .d)) w⟩
   . exact w.elim
 . exact w.elim
theorem V9:∀{vs} {xs} {zs},RDs K mg ρ H vs xs->yB vs=some zs->L2.RG K H xs zs
 |_,_,_,.d,h=>by cases h;exact⟨rfl,λi z e=>by simp at e⟩
 |_,_,_,.a (v:=v) (x:=x) (vs:=vs) (xs:=xs) r rs,h=>by
  unfold yB at h;split at h
  . rename_i hv;cases hv
  . rename_i a ws hv
    cases hv;split at h
    . rename_i z zs' h1 h2
      cases h;obtain⟨U,S⟩:=V9 rs h2;refine⟨by rw[Ak,Ak,U],λi R N=>?_⟩
      cases i with
      |zero=>
       simp at N;subst N;cases r with
       |m n e q=>exact⟨_,rfl,by rw[q.qo h1]at e;exact .of e⟩
      |succ i=>
       simp only[Hx]at N ⊢;exact S i R N
    . cases h
  . cases h
theorem ints_map:∀{a} {z},intsOf a=some z->a=z.map .c
 |[],_,h=>by cases h;rfl
 |v::vs,z,h=>by
  cases v with
  |c i=>
   obtain⟨n,N,rfl⟩:=AK.mp (show (intsOf vs).map (i::·)=some z from h)
   rw[ints_map N];rfl
  |_=>cases h
theorem aF:∀{vs} {xs} {zs},RDs K mg ρ H vs xs->yB vs=some zs->vs=zs.map tpV
 |_,_,_,.d,h=>by cases h;rfl
 |_,_,_,.a (v:=v) (x:=x) (vs:=vs) (xs:=xs) r rs,h=>by
  unfold yB at h;split at h
  . rename_i hv;cases hv
  . rename_i a ws hv
    cases hv;split at h
    . rename_i z zs' h1 h2
      cases h;rw[aF rs h2,AF];rw[ints_map h1];rfl
    . cases h
  . cases h
noncomputable def okF:Bf->Bool
 |.q|.l|.g|.s|.r|.d|.n|.e|.m=>false
 |_=>true
def aZ(R:X.g=true)(N:L2.y6 k X.A):∀f m,okF f=true->L2.yL X f.val (rMc X.K X.d (blt f m))
 |.a,_,_=>fz
 |.p,_,_=>rC R
 |.q,_,h=>by cases h
 |.c,_,_=>lL
 |.l,_,h=>by cases h
 |.g,_,h=>by cases h
 |.i,_,_=>eA N
 |.j,_,_=>f7 R
 |.k,_,_=>f9 R
 |.s,_,h=>by cases h
 |.o,_,_=>fw
 |.h,_,_=>rD
 |.b,_,_=>vV
 |.r,_,h=>by cases h
 |.d,_,h=>by cases h
 |.e,_,h=>by cases h
 |.n,_,h=>by cases h
 |.m,_,h=>by cases h
end
noncomputable def Out.isOk{N:Type}:Out N->Bool
 |.e _ _=>true
 |.g _ _ _|.d=>false
def zD{o:Out α}(h:o.isOk=false)v s:o≠.e v s:=λe=>by subst e;cases h
noncomputable def plain:Expr->Bool
 |.Starred ..|.Set ..|.Slice ..=>false
 |_=>true
def zX(h:plain e=true):L2.noStar e=true:=by cases e<;>first|rfl|cases h
def vI(h:plain e=true):Il op e=false:=by cases e<;>first|rfl|cases h
def bI(h:plain e=true):L2.jF e:=by intro o i;cases e<;>first|rfl|cases h
def z7(h:plain e=true)x:AN e env x=pure x:=by cases e<;>first|rfl|cases h
noncomputable def oO:Expr->Bool
 |.Call (.Name _ _) [] [] _=>false
 |_=>true
def uZ(h:oO o=true):Fu o name env (eval o env)=eval o env:=by
 unfold Fu;split
 . cases h
 . rfl
noncomputable def plainT:Expr->Bool
 |.UnaryOp .Not _ _|.BoolOp ..|.IfExp ..|.Compare ..=>false
 |_=>true
def fD(h:plainT e=true)whole:isTrue e env whole=(do let v <-whole;standAt e.pos;holding [v] (truthy v)):=by
 cases e with
 |UnaryOp op a p=>cases op<;>first|rfl|cases h
 |_=>first|rfl|cases h
def yV:List Expr->Bool
 |[]=>true
 |e::es=>plain e&&yV es
theorem uP:∀{es} {pos} {env},yV es=true->(backTo pos (A9 es env)).any (·.1)=false
 |[],_,_,_=>rfl
 |e::es,pos,env,h=>by
  rw[yV,ub]at h;rw[L2.yD (zX h.1)];show (false||(backTo pos (A9 es env)).any (·.1))=false
  rw[uP h.2];rfl
def yX.mono(w:yX K mg R ρ H o Q)(x:Ext ρ H ρ' H')(h:HR K mg ρ' s1 H'):yX K mg R ρ' H' o Q:=by
 cases o with
 |e v s'=>exact λρ2 y H2 N U S=>w ρ2 y H2 (x.trans h N) U S
 |_=>exact w
section
variable {X:L2.Cx}{env:Env}{s:Sto}{E a b c:Expr}
def zH{o:Out Val}(h:∀v s',o≠.e v s'):L2.PE X E (tV X.K X.d env s o):=SE λ_ _ _=>S3 h
def un1{g:Val->Sto->Out Val}(h:L2.PE X a (tV X.K X.d env s o))(N:∀ta,L2.PE X a ta->L2.PE X E (L2.tUn r ta))
 (op:∀ρ H s1 v x Q,HR X.K X.d ρ s1 H->RD X.K X.d ρ H v x->yX X.K X.d (RD X.K X.d) ρ H (g v s1) Q->r x H Q):L2.PE X E (tV X.K X.d env s (o.bind g)):=by
 cases o with
 |e v s1=>exact zk (N _ h) λσ H Q ⟨ρ,hr,er,w⟩=>⟨ρ,hr,er,λρ1 x H1 S R U=>op ρ1 H1 s1 v x Q R U (w.mono S R)⟩
 |g _ _ _=>exact zH (zD rfl)
 |d=>exact zH (zD rfl)
def Xp{f2:Sto->Out Val}(h1:L2.PE X a (tV X.K X.d env s o))(h2:∀s1,L2.PE X b (tV X.K X.d env s1 (f2 s1)))
 (N:∀ta tb,L2.PE X a ta->L2.PE X b tb->L2.PE X E (L2.tOp (rM2 X.K X.d g) ta tb)):L2.PE X E (tV X.K X.d env s (o.bind λx s1=>(f2 s1).bind λy s2=>g x y s2)):=by
 cases o with
 |e v s1=>
  show L2.PE X E (tV X.K X.d env s ((f2 s1).bind λy s2=>g v y s2));have U:=h2 s1;cases hb:f2 s1 with
  |e w s2=>
   rw[hb]at U;exact zk (N _ _ h1 U) λσ H Q ⟨ρ,hr,er,wt⟩=>⟨ρ,hr,er,λρ1 x H1 Y S r1=>⟨ρ1,S,er.mono Y,λρ2 y H2 W R Z=>⟨ρ2,s2,v,w,R,r1.mono W,Z,wt.mono (Y.trans S W) R⟩⟩⟩
  |g _ _ _=>exact zH (zD rfl)
  |d=>exact zH (zD rfl)
 |g _ _ _=>exact zH (zD rfl)
 |d=>exact zH (zD rfl)
def dZ{op R:Cop}{o:Out Val}{f2 f3:Sto->Out Val}{k:Nat}{pos:Pos}(k1:okC op=true)(k2:okC R=true)(hr0:L2.y6 k X.A)(h1:L2.PE X a (tV X.K X.d env s o))(h2:∀s1,L2.PE X b (tV X.K X.d env s1 (f2 s1)))(h3:∀s1,L2.PE X c (tV X.K X.d env s1 (f3 s1)))(hm:plain c=true) :
 L2.PE X (.Compare a [op.op,R.op] [b,c] pos) (tV X.K X.d env s (o.bind λx s1=>(f2 s1).bind λy s2=>(zQ op x y s2).bind λr U=>match r with
  |.e true=>(f3 U).bind λz Z=>zQ R y z Z
  |.e false=>.e (.e false) U
  |_=>.d)):=by
 cases o with
 |e v s1=>
  have h2':=h2 s1;show L2.PE X _ (tV X.K X.d env s ((f2 s1).bind _));cases hb:f2 s1 with
  |e w s2=>
   rw[hb]at h2';show L2.PE X _ (tV X.K X.d env s ((zQ op v w s2).bind _));cases hc:zQ op v w s2 with
   |e r U=>
    cases r with
    |e t=>
     have h3':=h3 U;have rule:=L2.cu (pos:=pos) (tq hr0 op k1) (tq hr0 R k2) h1 h2' h3' (show Iw [op.op,R.op] [b,c]=false from vI hm);refine zk rule λσ H Q ⟨ρ,hr,er,wt⟩=>⟨ρ,hr,er,λρ1 x H1 x1 hr1 r1=>⟨ρ1,hr1,er.mono x1,λρ2 y H2 x2 hr2 r2=>⟨ρ2,s2,v,w,hr2,r1.mono x2,r2,?_⟩⟩⟩;rw[hc];intro W z H3 x3 S r3;cases r3;refine⟨t,rfl,?_⟩;have xx:=(x1.trans hr1 x2).trans hr2 x3;have Y:=wt.mono xx S;cases t with
     |true=>
      rw[if_pos rfl];refine⟨W,S,er.mono xx,?_⟩;have N:yX X.K X.d (RD X.K X.d) W H3 ((f3 U).bind λz Z=>zQ R w z Z) Q:=Y;cases hz:f3 U with
      |e u Z=>
       rw[hz]at N;exact λρ4 q H4 x4 hr4 r4=>⟨ρ4,Z,w,u,hr4,(r2.mono x3).mono x4,r4,N.mono x4 hr4⟩
      |g _ _ _=>rw[hz]at N;exact N
      |d=>rw[hz]at N;exact N
     |false=>
      rw[if_neg Ag];exact zJ S (.j false) Y
    |_=>exact zH (zD rfl)
   |g _ _ _=>exact zH (zD rfl)
   |d=>exact zH (zD rfl)
  |g _ _ _=>exact zH (zD rfl)
  |d=>exact zH (zD rfl)
 |g _ _ _=>exact zH (zD rfl)
 |d=>exact zH (zD rfl)
def Wj{o:Out Val}{pos:Pos}(h:L2.PE X a (tV X.K X.d env s o)):L2.PE X (.UnaryOp .USub a pos) (tV X.K X.d env s (o.bind λx s1=>match x with|.c i=>.e (.c (-i)) s1|_=>.d)):=by
 refine un1 h (λta q=>L2.SH L2.UI q) λρ H s1 v x Q N r w=>?_;cases r with
 |l i=>exact⟨i,rfl,zJ N (.l _) w⟩
 |_=>exact w.elim
def Wk{o:Out Val}{pos:Pos}(h:L2.PE X a (tV X.K X.d env s o)):L2.PE X (.UnaryOp .Not a pos) (tV X.K X.d env s (o.bind λx s1=>match x with|.e b=>.e (.e !b) s1|_=>.d)):=by
 refine un1 (r:=λx H Q=>∃c,x=.e c/\Q (.e (!c)) H) h (λta q=>L2.Vd q) λρ H s1 v x Q N r w=>?_;cases r with
 |j i=>exact⟨i,rfl,zJ N (.j _) w⟩
 |_=>exact w.elim
def dX{rest:List Expr}{o:Out Val}{f2:Sto->Out Val}{pos:Pos}(Y:L2.PE X a (tV X.K X.d env s o))(W:∀s1,L2.PE X (.BoolOp .And (b::rest) pos) (tV X.K X.d env s1 (f2 s1))) :
 L2.PE X (.BoolOp .And (a::b::rest) pos) (tV X.K X.d env s (o.bind λx s1=>match x with|.e true=>f2 s1|.e false=>.e (.e false) s1|_=>.d)):=by
 cases o with
 |e v s1=>
  refine zk (L2.VZ Y (W s1)) λσ H Q ⟨ρ,hr,er,wt⟩=>⟨ρ,hr,er,λρ1 x H1 S R U=>?_⟩;have N:=wt.mono S R;cases U with
  |j t=>
   refine⟨t,rfl,?_⟩;cases t with
   |true=>exact L2.oB (⟨ρ1,R,er.mono S,N⟩)
   |false=>exact L2.oA (zJ R (.j _) N)
  |_=>exact N.elim
 |g _ _ _=>exact zH (zD rfl)
 |d=>exact zH (zD rfl)
def TF{rest:List Expr}{o:Out Val}{f2:Sto->Out Val}{pos:Pos}(Y:L2.PE X a (tV X.K X.d env s o))(W:∀s1,L2.PE X (.BoolOp .Or (b::rest) pos) (tV X.K X.d env s1 (f2 s1))) :
 L2.PE X (.BoolOp .Or (a::b::rest) pos) (tV X.K X.d env s (o.bind λx s1=>match truth s1 x with|some false=>f2 s1|some true=>.e x s1|dS=>.d)):=by
 cases o with
 |e v s1=>
  refine zk (L2.Ve Y (W s1)) λσ H Q ⟨ρ,hr,er,wt⟩=>⟨ρ,hr,er,λρ1 x H1 S R U=>?_⟩;have N:yX X.K X.d (RD X.K X.d) ρ1 H1 (match truth s1 v with|some false=>f2 s1|some true=>.e v s1|dS=>.d) Q:=wt.mono S R
  cases ht:truth s1 v with
  |none=>rw[ht]at N;exact N.elim
  |some t=>
   rw[ht]at N;refine⟨t,aG R U ht,?_⟩;cases t with
   |true=>exact L2.oB (zJ R U N)
   |false=>exact L2.oA (⟨ρ1,R,er.mono S,N⟩)
 |g _ _ _=>exact zH (zD rfl)
 |d=>exact zH (zD rfl)
def Wg{f2 U:Sto->Out Val}(h1:L2.PT X c (tT X.K X.d env s o))(Z:∀s1,L2.PE X a (tV X.K X.d env s1 (f2 s1)))(Y:∀s1,L2.PE X b (tV X.K X.d env s1 (U s1))) :
 L2.PE X (.IfExp c a b pos) (tV X.K X.d env s (o.bind λt s1=>if t then f2 s1 else U s1)):=by
 cases o with
 |e v s1=>
  refine zk (L2.cy h1 (Z s1) (Y s1)) λσ H Q ⟨ρ,hr,er,wt⟩=>⟨ρ,hr,er,λρ1 x H1 S N W=>?_⟩;have R:=wt.mono S N;cases W;cases v with
  |true=>exact L2.oB (⟨ρ1,N,er.mono S,R⟩)
  |false=>exact L2.oA (⟨ρ1,N,er.mono S,R⟩)
 |g _ _ _=>exact zH (zD rfl)
 |d=>exact zH (zD rfl)
def uy{o:Out (List Val)}(h:∀v s',o≠.e v s'):L2.PA X es (tVs X.K X.d env s o):=T8 λ_ _ _=>V3 h
def ZV:L2.PA X [] (tVs X.K X.d env s (.e [] s)):=cm L2.vH λσ H Q ⟨ρ,hr,er,wt⟩=>wt ρ [] H Ext.refl hr .d
def dg{f2:Sto->Out (List Val)}(hp:plain a=true)(h1:L2.PE X a (tV X.K X.d env s o))(h2:∀s1,L2.PA X es (tVs X.K X.d env s1 (f2 s1))) :
 L2.PA X (a::es) (tVs X.K X.d env s (o.bind λv s1=>(f2 s1).bind λvs s2=>.e (v::vs) s2)):=by
 cases o with
 |e v s1=>
  have R:=h2 s1;show L2.PA X _ (tVs X.K X.d env s ((f2 s1).bind _));cases hb:f2 s1 with
  |e ws s2=>
   rw[hb]at R;exact cm (L2.pac h1 R (zX hp)) λσ H Q ⟨ρ,hr,er,wt⟩=>⟨ρ,hr,er,λρ1 x H1 W N Z=>⟨ρ1,N,er.mono W,λρ2 y H2 U S Y=>wt ρ2 _ H2 (W.trans N U) S (.a (Z.mono U) Y)⟩⟩
  |g _ _ _=>exact uy (zD rfl)
  |d=>exact uy (zD rfl)
 |g _ _ _=>exact uy (zD rfl)
 |d=>exact uy (zD rfl)
def de(h:L2.PA X es (tVs X.K X.d env s o)):L2.PE X (.Tuple es k pos) (tV X.K X.d env s (o.bind λvs s1=>if vs.length<=zR then .e (.f vs) s1 else .d)):=by
 cases o with
 |e vs s1=>
  refine zk (L2.Vg h) λσ H Q ⟨ρ,hr,er,wt⟩=>⟨ρ,hr,er,λρ1 xs H1 U R S=>?_⟩;have N:yX X.K X.d (RD X.K X.d) ρ1 H1 (if vs.length<=zR then .e (.f vs) s1 else .d) Q:=wt.mono U R
  by_cases hz:vs.length<=zR
  . rw[if_pos hz]at N
    exact⟨by rw[<-S.length,<-yl];exact hz,oN R S N⟩
  . rw[if_neg hz]at N;exact N.elim
 |g _ _ _=>exact zH (zD rfl)
 |d=>exact zH (zD rfl)
def Wi(h:L2.PA X es (tVs X.K X.d env s o)):L2.PE X (.List es pos) (tV X.K X.d env s (o.bind λvs s1=>if vs.length<=zR then newList m vs s1 else .d)):=by
 cases o with
 |e vs s1=>
  refine zk (L2.Vb h) λσ H Q ⟨ρ,hr,er,wt⟩=>⟨ρ,hr,er,λρ1 xs H1 U R S=>?_⟩;have N:yX X.K X.d (RD X.K X.d) ρ1 H1 (if vs.length<=zR then newList m vs s1 else .d) Q:=wt.mono U R
  by_cases hz:vs.length<=zR
  . rw[if_pos hz]at N
    exact⟨by rw[<-S.length,<-yl];exact hz,vE R S N⟩
  . rw[if_neg hz]at N;exact N.elim
 |g _ _ _=>exact zH (zD rfl)
 |d=>exact zH (zD rfl)
def U9(h:L2.PA X es (tVs X.K X.d env s o))(N:∀t,L2.PA X es t->L2.PE X E (L2.tCB (rMc X.K X.d g) t)):L2.PE X E (tV X.K X.d env s (o.bind g)):=by
 cases o with
 |e vs s1=>exact zk (N _ h) λσ H Q ⟨ρ,hr,er,wt⟩=>⟨ρ,hr,er,λρ1 xs H1 S R U=>⟨ρ1,s1,vs,R,U,wt.mono S R⟩⟩
 |g _ _ _=>exact zH (zD rfl)
 |d=>exact zH (zD rfl)
def Wf(k1:okF f=true)(hc:X.g=true)(Z:L2.y6 k X.A)(U:L2.Gl X f.nm)(S:X.d f.nm=none)(hp:yV (a::es)=true)(h:L2.PA X (a::es) (tVs X.K X.d env s o)) :
 L2.PE X (.Call (.Name f.nm p) (a::es) [] pos) (tV X.K X.d env s (o.bind (blt f m))):=by
 rw[yV,ub]at hp;refine U9 h λt N=>?_;have W:=aZ hc Z f m k1;have Y:=f.boot;have st:=L2.yD (es:=es) (env:=X.a) (zX hp.1);have R:=uP (pos:=pos) (env:=X.a) hp.2;cases f with
 |c=>exact L2.wm W U S Y N (by decide) (by decide) st R
 |l=>exact L2.wm W U S Y N (by decide) (by decide) st R
 |o=>exact L2.wm W U S Y N (by decide) (by decide) st R
 |r=>exact L2.wm W U S Y N (by decide) (by decide) st R
 |_=>exact L2.mQ W U S Y N (by decide) (by decide) st R
def yE{o:Out Bool}(h:∀v s',o≠.e v s'):L2.PT X E (tT X.K X.d env s o):=SO λ_ _ _=>XT h
def Wt(hp:plainT a=true)(h:L2.PE X a (tV X.K X.d env s o)):L2.PT X a (tT X.K X.d env s o.truth):=by
 cases o with
 |e v s1=>
  refine oZ (L2.bO h (fD hp)) λσ H Q ⟨ρ,hr,er,wt⟩=>⟨ρ,hr,er,λρ1 x H1 S R U=>?_⟩;have N:=wt.mono S R;simp only[Out.truth,zN]at N;cases ht:truth s1 v with
  |none=>rw[ht]at N;exact N.elim
  |some b=>rw[ht]at N;exact⟨b,aG R U ht,N _ _ _ Ext.refl R rfl⟩
 |g _ _ _=>exact yE (zD rfl)
 |d=>exact yE (zD rfl)
def Ws(h:L2.PT X a (tT X.K X.d env s o)):L2.PT X (.UnaryOp .Not a pos) (tT X.K X.d env s (o.bind λb s1=>.e (!b) s1)):=by
 cases o with
 |e v s1=>exact oZ (L2.Vn h) λσ H Q ⟨ρ,hr,er,wt⟩=>⟨ρ,hr,er,λρ1 x H1 R N S=>by cases S;exact wt _ _ _ R N rfl⟩
 |g _ _ _=>exact yE (zD rfl)
 |d=>exact yE (zD rfl)
def u0{o:Out Bool}(h:∀v s',o≠.e v s'):L2.PW X E (tT X.K X.d env s o):=SQ λ_ _ _=>XT h
def lW:L2.PW X (.BoolOp .And [] pos) (tT X.K X.d env s (.e true s)):=λN pins sh σ H Q I ⟨ρ,hr,er,wt⟩=>PyProof.Rows.isTrue_and_nil ⟨H,I,wt _ _ _ Ext.refl hr rfl⟩
def gL:L2.PW X (.BoolOp .Or [] pos) (tT X.K X.d env s (.e false s)):=λN pins sh σ H Q I ⟨ρ,hr,er,wt⟩=>PyProof.Rows.isTrue_or_nil ⟨H,I,wt _ _ _ Ext.refl hr rfl⟩
def dk{f2:Sto->Out Bool}(h1:L2.PT X a (tT X.K X.d env s o))(h2:∀s1,L2.PW X (.BoolOp .And rest pos) (tT X.K X.d env s1 (f2 s1))) :
 L2.PW X (.BoolOp .And (a::rest) pos) (tT X.K X.d env s (o.bind λb s1=>if b then f2 s1 else .e false s1)):=by
 cases o with
 |e v s1=>
  intro Y pins sh σ H Q I h;obtain⟨ρ,hr,U,W⟩:=h;refine PyProof.Rows.isTrue_and (L2.thn (h1 pins sh σ H (λc H1=>if c=true then tT X.K X.d env s1 (f2 s1) σ H1 Q else Q false H1) I ⟨ρ,hr,U,λρ1 x H1 S N Z=>?_⟩) λc s' ⟨H1,I1,q1⟩=>?_)
  . have R:=W.mono S N
    cases Z;cases v with
    |true=>exact L2.oB (⟨ρ1,N,U.mono S,R⟩)
    |false=>exact L2.oA (R _ _ _ Ext.refl N rfl)
  . cases c with
    |true=>exact h2 s1 Y pins s' σ H1 Q I1 q1
    |false=>exact⟨H1,I1,q1⟩
 |g _ _ _=>exact u0 (zD rfl)
 |d=>exact u0 (zD rfl)
def XB{f2:Sto->Out Bool}(h1:L2.PT X a (tT X.K X.d env s o))(h2:∀s1,L2.PW X (.BoolOp .Or rest pos) (tT X.K X.d env s1 (f2 s1))) :
 L2.PW X (.BoolOp .Or (a::rest) pos) (tT X.K X.d env s (o.bind λb s1=>if b then .e true s1 else f2 s1)):=by
 cases o with
 |e v s1=>
  intro Y pins sh σ H Q I h;obtain⟨ρ,hr,U,W⟩:=h;refine PyProof.Rows.isTrue_or (L2.thn (h1 pins sh σ H (λc H1=>if c=true then Q true H1 else tT X.K X.d env s1 (f2 s1) σ H1 Q) I ⟨ρ,hr,U,λρ1 x H1 S N Z=>?_⟩) λc s' ⟨H1,I1,q1⟩=>?_)
  . have R:=W.mono S N
    cases Z;cases v with
    |true=>exact L2.oB (R _ _ _ Ext.refl N rfl)
    |false=>exact L2.oA (⟨ρ1,N,U.mono S,R⟩)
  . cases c with
    |true=>exact⟨H1,I1,q1⟩
    |false=>exact h2 s1 Y pins s' σ H1 Q I1 q1
 |g _ _ _=>exact u0 (zD rfl)
 |d=>exact u0 (zD rfl)
end
section
variable {X:L2.Cx}{env:Env}{s:Sto}{E a b c:Expr}
def bJ{t t':L2.TO}(h:L2.PO X e t)(i:∀σ H Q,t' σ H Q->t σ H Q):L2.PO X e t':=λpins s σ H Q I q=>h pins s σ H Q I (i σ H Q q)
def Sw{o:Out (Option Int)}(h:∀v s',o≠.e v s'):¬tO X.K X.d env s o σ H Q:=by
 rintro ⟨ρ,_,_,w⟩;cases o with
 |e v s'=>exact h v s' rfl
 |_=>exact w
def mV{o:Out (Option Int)}(h:∀v s',o≠.e v s'):L2.PO X e (tO X.K X.d env s o):=λpins sh σ H Q I q=>(Sw h q).elim
def TK:L2.PO X none (tO X.K X.d env s (.e none s)):=bJ L2.Z8 λσ H Q ⟨ρ,hr,er,wt⟩=>wt _ _ _ Ext.refl hr rfl
def Wn{o:Out Val}(h:L2.PE X a (tV X.K X.d env s o)):L2.PO X (some a) (tO X.K X.d env s (o.bind λv s1=>match v with|.c i=>.e (some i) s1|_=>.d)):=by
 cases o with
 |e v s1=>
  refine bJ (L2.Z9 h) λσ H Q ⟨ρ,hr,er,wt⟩=>⟨ρ,hr,er,λρ1 x H1 S R U=>?_⟩;have N:=wt.mono S R;cases U with
  |l i=>exact⟨i,rfl,N _ _ _ Ext.refl R rfl⟩
  |_=>exact N.elim
 |g _ _ _=>exact mV (zD rfl)
 |d=>exact mV (zD rfl)
def rMs(K:KF)(mg:Str->Option Value)(m:Bool):L2.V->Option Int->Option Int->L2.Hp->L2.VK->Prop:=λx lo hi H Q=>∃ρ s v,HR K mg ρ s H/\RD K mg ρ H v x/\yX K mg (RD K mg) ρ H (tF m v lo hi none s) Q
def Sl m:L2.SlR X (rMs X.K X.d m):=by
 intro pins s σ H x v W U lo hi Y Q I Z hs pl pu h;obtain⟨ρ,t,w,S,R,N⟩:=h;simp only[tF]at N;split at N
 . cases R with
   |m n e q=>exact L2.YR pins s σ H _ v W U lo hi Y Q I Z hs pl pu ⟨_,_,rfl,e,um S (q.cut lo hi) N⟩
 . rename_i heq
   cases heq
 . split at N
   . rename_i e
     obtain⟨p,xs,rfl,hq,q⟩:=xr S R e;exact L2.YQ pins s σ H _ v W U lo hi Y Q I Z hs pl pu ⟨_,_,rfl,.of hq,vE S (q.cut lo hi) N⟩
   . exact N.elim
 . rename_i heq
   cases heq
def TH{f2 f3 f4:Sto->Out (Option Int)}(h1:L2.PE X a (tV X.K X.d env s o))(h2:∀s1,L2.PO X lo (tO X.K X.d env s1 (f2 s1)))(h3:∀s1,L2.PO X hi (tO X.K X.d env s1 (f3 s1)))
 (h4:∀s1,L2.PO X st (tO X.K X.d env s1 (f4 s1))) (hst:(st=none/\∀s1,f4 s1=.e none s1)\/∃e,st=some e/\∀s1 s2,f4 s1≠.e none s2) :
 L2.PE X (.Subscript a (.Slice lo hi st p2) pos) (tV X.K X.d env s (o.bind λx s1=>(f2 s1).bind λl s2=>(f3 s2).bind λh s3=>(f4 s3).bind λc s4=>tF m x l h c s4)):=by
 cases o with
 |e v s1=>
  have h2':=h2 s1;show L2.PE X _ (tV X.K X.d env s ((f2 s1).bind _));cases hl:f2 s1 with
  |e l s2=>
   rw[hl]at h2';have h3':=h3 s2;show L2.PE X _ (tV X.K X.d env s ((f3 s2).bind _));cases hh:f3 s2 with
   |e h s3=>
    rw[hh]at h3';have h4':=h4 s3;show L2.PE X _ (tV X.K X.d env s ((f4 s3).bind _));rcases hst with⟨rfl,e4⟩|⟨e,rfl,e4⟩
    . rw[e4 s3]
      refine zk (L2.cz (Sl m) h1 h2' h3') λσ H Q ⟨ρ,hr,er,wt⟩=>⟨ρ,hr,er,λρ1 x H1 Z W r1=>⟨ρ1,W,er.mono Z,λρ2 y H2 Y U r2=>?_⟩⟩;cases r2;refine⟨ρ2,U,(er.mono Z).mono Y,λρ3 z H3 x3 S r3=>?_⟩;cases r3;exact⟨ρ3,s3,v,S,(r1.mono Y).mono x3,wt.mono ((Z.trans W Y).trans U x3) S⟩
    . cases hc:f4 s3 with
      |e cc s4=>
       rw[hc]at h4';cases cc with
       |none=>exact absurd hc (e4 s3 s4)
       |some R=>
        by_cases hv:∃vs,v=.f vs
        case neg=>
         refine zk (L2.kK h1 h2' h3' h4') λσ H Q ⟨ρ,hr,er,wt⟩=>⟨ρ,hr,er,λρ1 x H1 Z W r1=>⟨ρ1,W,er.mono Z,λρ2 y H2 Y U r2=>?_⟩⟩;cases r2;refine⟨ρ2,U,(er.mono Z).mono Y,λρ3 z H3 x3 S r3=>?_⟩;cases r3;refine⟨ρ3,S,((er.mono Z).mono Y).mono x3,λρ4 z4 H4 x4 hr4 r4=>?_⟩;cases r4;have N:yX X.K X.d (RD X.K X.d) ρ4 H4 (tF m v l h (some R) s4) Q:=wt.mono (((Z.trans W Y).trans U x3).trans S x4) hr4;have em:tF m v l h (some R) s4=(match yM s4 v with|some vs=>if R≠0 then newList m (L2.zp vs (L2.vW vs.length l h R).1 R (L2.vW vs.length l h R).2) s4 else .d|dS=>.d):=by
          cases v with
          |f vs=>exact absurd ⟨vs,rfl⟩ hv
          |_=>rfl
         rw[em]at N;cases hl:yM s4 v with
         |none=>rw[hl]at N;exact N.elim
         |some vs=>
          rw[hl]at N;dsimp only at N;obtain⟨p,xs,rfl,hq,q⟩:=xr hr4 (((r1.mono Y).mono x3).mono x4) hl;by_cases c0:R≠0
          . have wt2:yX X.K X.d (RD X.K X.d) ρ4 H4 (newList m (L2.zp vs (L2.vW vs.length l h R).1 R (L2.vW vs.length l h R).2) s4) Q:=by rwa [if_pos c0]at N
            refine⟨p,xs,R,rfl,.of hq,rfl,c0,?_⟩;rw[<-q.length];exact vE hr4 (q.zp _ _ _) wt2
          . rw[if_neg c0]at N;exact N.elim
        refine zk (L2.fA h1 h2' h3' h4') λσ H Q ⟨ρ,hr,er,wt⟩=>⟨ρ,hr,er,λρ1 x H1 Z W r1=>⟨ρ1,W,er.mono Z,λρ2 y H2 Y U r2=>?_⟩⟩;cases r2;refine⟨ρ2,U,(er.mono Z).mono Y,λρ3 z H3 x3 S r3=>?_⟩;cases r3;refine⟨ρ3,S,((er.mono Z).mono Y).mono x3,λρ4 z4 H4 x4 hr4 r4=>?_⟩;cases r4;have xx:=((Z.trans W Y).trans U x3).trans S x4;have N:yX X.K X.d (RD X.K X.d) ρ4 H4 (tF m v l h (some R) s4) Q:=wt.mono xx hr4;have r:=((r1.mono Y).mono x3).mono x4;cases r with
        |m n e q=>
         change yX X.K X.d (RD X.K X.d) ρ4 H4 (if R≠0/\(L2.yS (Gm _) l h R).2<=zR then .e (.f (L2.zp _ (L2.yS (Gm _) l h R).1 R (L2.yS (Gm _) l h R).2)) s4 else .d) Q at N
         split at N
         . rename_i hz
           have hlen:=q.length;refine⟨_,_,R,rfl,e,rfl,hz.1,by rw[<-hlen,<-yl];exact hz.2,?_⟩
           rw[<-hlen];exact um hr4 (q.zp _ _ _) N
         . exact N.elim
        |_=>obtain⟨_,e⟩:=hv;cases e
      |g _ _ _=>exact zH (zD rfl)
      |d=>exact zH (zD rfl)
   |g _ _ _=>exact zH (zD rfl)
   |d=>exact zH (zD rfl)
  |g _ _ _=>exact zH (zD rfl)
  |d=>exact zH (zD rfl)
 |g _ _ _=>exact zH (zD rfl)
 |d=>exact zH (zD rfl)
noncomputable def Mf.nm:Mf->Str
 |.a=>"count"|.b=>"append"|.c=>"extend"|.f=>"pop"|.d=>"index"|.e=>"join"
noncomputable def okM:Mf->Bool
 |.b|.c|.f|.d|.e=>false
 |_=>true
def da{f2:Sto->Out Val}(hm:okM f=true)(hs:oO a=true)(hp:plain b=true)(U:(apos.endLine == cpos.line)=true)(h1:L2.PE X a (tV X.K X.d env s o))(h2:∀s1,L2.PE X b (tV X.K X.d env s1 (f2 s1))) :
 L2.PE X (.Call (.Attribute a f.nm apos) [b] [] cpos) (tV X.K X.d env s (o.bind λx s1=>((f2 s1).bind λv s2=>(Out.e [v] s2:Out (List Val))).bind λvs s2=>vD f x vs s2)):=by
 cases o with
 |e v s1=>
  have Y:=h2 s1;show L2.PE X _ (tV X.K X.d env s (((f2 s1).bind λv s2=>(Out.e [v] s2:Out (List Val))).bind λvs s2=>vD f v vs s2));cases hb:f2 s1 with
  |e w s2=>
   rw[hb]at Y;show L2.PE X _ (tV X.K X.d env s (vD f v [w] s2));cases f with
   |a=>
    by_cases hv:∃vs,v=.f vs
    . obtain⟨vs,rfl⟩:=hv
      refine zk (L2.g9 h1 Y (uZ hs) (zX hp) U) λσ H Q ⟨ρ,hr,er,wt⟩=>⟨ρ,hr,er,λρ1 x H1 x1 S r1=>?_⟩;cases r1 with
      |m n e q=>
       refine⟨⟨_,_,rfl,e⟩,ρ1,S,er.mono x1,λρ2 y H2 Z R r2=>?_⟩;have N:yX X.K X.d (RD X.K X.d) ρ2 H2 (vD .a (.f vs) [w] s2) Q:=wt.mono (x1.trans S Z) R;simp only[vD]at N;split at N
       . rename_i hf
         rw[ub]at hf;have q2:=q.mono Z;refine⟨_,_,y,rfl,rfl,L2.SqT.of (Z.c _ _ e n.1),r2.flat hf.1,q2.flat hf.2,?_⟩;rw[RDs.countP r2 hf.1 q2 hf.2];exact zJ R (.l _) N
       . exact N.elim
    . refine zk (L2.g8 h1 Y (uZ hs) (zX hp) U) λσ H Q ⟨ρ,hr,er,wt⟩=>⟨ρ,hr,er,λρ1 x H1 x1 S r1=>?_⟩
      have N:yX X.K X.d (RD X.K X.d) ρ1 H1 (vD .a v [w] s2) Q:=wt.mono x1 S;have em:vD .a v [w] s2=(match yM s2 v with|some vs=>if M.flat w&&vs.all M.flat then .e (.c (vs.countP λz=>eqF z w:Nat)) s2 else .d|dS=>.d):=by
       cases v with
       |f vs=>exact absurd ⟨vs,rfl⟩ hv
       |_=>rfl
      rw[em]at N;cases hl:yM s2 v with
      |none=>rw[hl]at N;exact N.elim
      |some vs=>
       rw[hl]at N
       -- the receiver is a list already ahead of the argument
       have ty:L2.tyV X.K "list" x H1:=by
        cases r1 with
        |D n e q=>exact .inl ⟨rfl,_,.of e⟩
        |C e k=>
         obtain⟨xs,q⟩:=dD k;exact .inl ⟨rfl,_,.of q⟩
        |_=>cases hl
       refine⟨ty,ρ1,S,er.mono x1,λρ2 y H2 Z R r2=>?_⟩;obtain⟨p,xs,rfl,hq,q⟩:=xr R (r1.mono Z) hl;have W:=N.mono Z R;simp only at W;split at W
       . rename_i hf
         rw[ub]at hf;refine⟨_,_,y,rfl,rfl,L2.SqL.of hq,r2.flat hf.1,q.flat hf.2,?_⟩;rw[RDs.countP r2 hf.1 q hf.2];exact zJ R (.l _) W
       . exact W.elim
   |b=>cases hm
   |c=>cases hm
   |f=>cases hm
   |d=>cases hm
   |e=>cases hm
  |g _ _ _=>exact zH (zD rfl)
  |d=>exact zH (zD rfl)
 |g _ _ _=>exact zH (zD rfl)
 |d=>exact zH (zD rfl)
end
def spN(T:Tbl)(K:KF)(mg:Str->Option Value)(n:Nat)(f:Str)(ver:Nat):L2.Sp:=λvs H Q _=>∃ρ s args,HR K mg ρ s H/\RDs K mg ρ H args vs/\yX K mg (RD K mg) ρ H (zE T n f ver args s) Q
structure Callee(T:Tbl)(n:Nat)(X:L2.Cx)(f:Str)(ver:Nat)(F:Fn):Prop where
 a:∃fa fd,X.d f=some (.ref fa)/\C8 X.K (.ref fa)=true/\L2.Binds X.K fd F.a []/\L2.sj X.f X.w X.K X.d X.i L2.CX0 n fa fd F.a (spN T X.K X.d n f ver)
def dY(C:Callee T n X f ver F)(N:L2.y6 n X.A)(S:L2.Gl X f)(hd:(f == ("__debug__":Str))=false):L2.PE X (.Call (.Name f p) [] [] pos) (tV X.K X.d env s (zE T n f ver [] s)):=by obtain⟨Y,fd,R,hk,W,U⟩:=C.a;exact zk (L2.cq U N S R hk W .nil L2.XI hd) λσ H Q ⟨ρ,hr,er,wt⟩=>⟨ρ,s,[],hr,.d,wt⟩
def ZT(C:Callee T n X f ver F)(R:L2.y6 n X.A)(Z:L2.Gl X f)(hd:(f == ("__debug__":Str))=false)(hp:yV es=true)(S:es≠[])(h:L2.PA X es (tVs X.K X.d env s o)) :
 L2.PE X (.Call (.Name f p) es [] pos) (tV X.K X.d env s (o.bind (zE T n f ver))):=by
 obtain⟨fa,fd,Y,hk,hb,hf⟩:=C.a;cases o with
 |e vs s1=>
  cases es with
  |nil=>exact absurd rfl S
  |cons e es=>
   rw[yV,ub]at hp;refine zk (L2.Z2 hf R Z Y hk hb .nil L2.XI h hd (L2.yD (zX hp.1)) (uP hp.2)) λσ H Q ⟨ρ,hr,er,wt⟩=>⟨ρ,hr,er,λρ1 xs H1 U N W=>?_⟩;show spN T X.K X.d n f ver (xs++[]) H1 Q L2.E0;rw[A1];exact⟨ρ1,s1,vs,N,W,wt.mono U N⟩
 |g _ _ _=>exact zH (zD rfl)
 |d=>exact zH (zD rfl)
def y8:∀{c} {p},(c=true->p)->cond c p True
 |true,_,h=>h rfl
 |false,_,_=>By
def rG(h:cond c p True)(e:c=true):p:=by subst e;exact h
mutual
theorem Ub:∀(a b:Val),cond (a.beq b) (a=b) True
 |.h,b=>by cases b<;>first|exact(rfl:Val.h=Val.h)|exact By
 |.e x,b=>by cases b with|e y=>exact y8 λh=>congrArg Val.e (Cv (show (x == y)=true from h))|_=>exact By
 |.c x,b=>by cases b with|c y=>exact y8 λh=>congrArg Val.c (Cv (show (x == y)=true from h))|_=>exact By
 |.m x,b=>by cases b with|m y=>exact y8 λh=>congrArg Val.m (Cv (show (x == y)=true from h))|_=>exact By
 |.f x,b=>by cases b with|f y=>exact y8 λh=>congrArg Val.f (rG (pT x y) h)|_=>exact By
 |.g x,b=>by cases b with|g y=>exact y8 λh=>congrArg Val.g (rG (pT x y) h)|_=>exact By
 |.p,b=>by cases b<;>first|exact(rfl:Val.p=Val.p)|exact By
 |.o x,b=>by cases b with|o y=>exact y8 λh=>congrArg Val.o (Cv (show (x == y)=true from h))|_=>exact By
 |.r x,b=>by cases b with|r y=>exact y8 λh=>congrArg Val.r (Cv (show (x == y)=true from h))|_=>exact By
 |.j x,b=>by cases b with|j y=>exact y8 λh=>congrArg Val.j (Cv (show (x == y)=true from h))|_=>exact By
 |.u x,b=>by cases b with|u y=>exact y8 λh=>congrArg Val.u (Cv (show (x == y)=true from h))|_=>exact By
 |.t x,b=>by cases b with|t y=>exact y8 λh=>congrArg Val.t (Cv (show (x == y)=true from h))|_=>exact By
 |.q x,b=>by cases b with|q y=>exact y8 λh=>congrArg Val.q (Cv (show (x == y)=true from h))|_=>exact By
 |.s x k,b=>by cases b with|s y l=>exact y8 λh=>(by rw[show Val.beq (.s x k) (.s y l)=(x == y&&k == l) from rfl,ub]at h;rw[Cv h.1,Cv h.2])|_=>exact By
theorem pT:∀(a b:List Val),cond (tP a b) (a=b) True
 |[],[]=>(rfl:([]:List Val)=[])
 |[],_::_=>By
 |_::_,[]=>By
 |x::xs,y::ys=>y8 λh=>by have h:(x.beq y&&tP xs ys)=true:=h;rw[ub]at h;rw[rG (Ub x y) h.1,rG (pT xs ys) h.2]
end
def uc(h:tP a b=true):a=b:=rG (pT a b) h
mutual
theorem beq_refl:∀a:Val,a.beq a=true
 |.h=>rfl
 |.e x=>(beq_self_eq_true x:(x == x)=true)
 |.c x=>(beq_self_eq_true x:(x == x)=true)
 |.m x=>(beq_self_eq_true x:(x == x)=true)
 |.f x=>vo x
 |.g x=>vo x
 |.p=>rfl
 |.o x=>(beq_self_eq_true x:(x == x)=true)
 |.r x=>(beq_self_eq_true x:(x == x)=true)
 |.j x=>(beq_self_eq_true x:(x == x)=true)
 |.u x=>(beq_self_eq_true x:(x == x)=true)
 |.t x=>(beq_self_eq_true x:(x == x)=true)
 |.q x=>(beq_self_eq_true x:(x == x)=true)
 |.s x k=>(by rw[show Val.beq (.s x k) (.s x k)=(x == x&&k == k) from rfl,beq_self_eq_true,beq_self_eq_true];rfl)
theorem vo:∀a:List Val,tP a a=true
 |[]=>rfl
 |x::xs=>by rw[tP,beq_refl x,vo xs];rfl
end
section
variable {K:KF}{mg:Str->Option Value}
def Mv.refl:Mv ρ H ρ H:=⟨λa o e n=>⟨e,n⟩,λi a e=>e,λ_ _=>rfl⟩
theorem Mv.trans(x:Mv ρ H ρ1 H1)(y:Mv ρ1 H1 ρ2 H2):Mv ρ H ρ2 H2:=
 ⟨λa o e n=>y.b a o (x.b a o e n).1 (x.b a o e n).2,λi a e=>y.c i a (x.c i a e),λa N=>by obtain⟨i,hi⟩:=CW N;exact(y.d a (AA (x.c i a hi))).trans (x.d a N)⟩
structure Walk(K:KF)(mg:Str->Option Value)(ρ:Own)(H:L2.Hp)(r:Src)(J:L2.It):Prop where
 b:r.a.length<=zR
 c:∀(ρ2:Own) (H2:L2.Hp) (s2:Sto) (i:Nat) (v:Val),Mv ρ H ρ2 H2->HR K mg ρ2 s2 H2->r.ok s2=true->r.a[i]?=some v->J.c i H2/\∀x H3,J.b i H2 x H3->(H3=H2\/∃p o,H2 p=none/\H3=L2.upd H2 p o)/\RD K mg ρ2 H3 v x
 a:∀(ρ2:Own) (H2:L2.Hp) (s2:Sto) (i:Nat),Mv ρ H ρ2 H2->HR K mg ρ2 s2 H2->r.ok s2=true->i=r.a.length->J.a i H2
def Walk.mv(w:Walk K mg ρ H r J)(x:Mv ρ H ρ1 H1):Walk K mg ρ1 H1 r J:=
 ⟨w.b,λρ2 H2 s2 i v y=>w.c ρ2 H2 s2 i v (x.trans y),λρ2 H2 s2 i y=>w.a ρ2 H2 s2 i (x.trans y)⟩
def fj(H:L2.Hp):Prop:=∀a xs,(H a=some (.c xs)\/H a=some (.b xs))->xs.length<=AI
def uz(h:L2.PI X tg it wi):L2.PI X tg it (λσ H R=>wi σ H λJ H1=>fj H1->R J H1):=λpins s σ H R I q=>
 L2.thn (h pins s σ H _ I q) λv s1 S=>L2.thn S λN s2 ⟨i,fp,tn,J,H',e,I',T,t0,f,r⟩=>⟨i,fp,tn,J,H',e,I',T,t0,f,r λa xs hx=>by
  rcases hx with hx|hx
  . obtain⟨z,_⟩:=(show L2.z9 X.f X.w H' s2.heap a (.c xs) from I'.j a _ hx);exact z
  . obtain⟨z,_⟩:=(show L2.z9 X.f X.w H' s2.heap a (.b xs) from I'.j a _ hx);exact z⟩
def aM(U:vs.length<=zR)(n:ρ.no a)(e:H a=some (.c xs))(q:RDs K mg ρ H vs xs):Walk K mg ρ H ⟨vs,none⟩ (L2.Itt K a) where
 b:=U
 c:=λρ2 H2 s2 i v x X _ W=>by have R:=(x.b a _ e n).1;have S:=RDs.mv x q;obtain⟨y,N,Y⟩:=S.get W;refine⟨⟨xs,y,.of R,N⟩,λz Z ⟨e3,h3⟩=>⟨.inl e3,?_⟩⟩;subst e3;have:=h3 xs (.of R);rw[N]at this;cases this;exact Y
 a:=λρ2 H2 s2 i x X _ hi=>⟨xs,.of (x.b a _ e n).1,by rw[<-q.length];exact B7 hi.symm⟩
def aK(U:vs.length<=zR)(n:ρ.no a)(e:H a=some (.b xs))(q:RDs K mg ρ H vs xs):Walk K mg ρ H ⟨vs,none⟩ (L2.Itl K a) where
 b:=U
 c:=λρ2 H2 s2 i v x X _ W=>by have R:=(x.b a _ e n).1;have S:=RDs.mv x q;obtain⟨y,N,Y⟩:=S.get W;refine⟨⟨xs,y,.of R,N⟩,λz Z ⟨e3,h3⟩=>⟨.inl e3,?_⟩⟩;subst e3;have:=h3 xs (.of R);rw[N]at this;cases this;exact Y
 a:=λρ2 H2 s2 i x X _ hi=>⟨xs,.of (x.b a _ e n).1,by rw[<-q.length];exact B7 hi.symm⟩
def fV{ns:List Int}(k:KT K a (ns.map L2.V.d)):Walk K mg ρ H ⟨ns.map .c,none⟩ (L2.Itt K a) where
 b:=by obtain⟨o,its,n,_,_,_,W,U⟩:=k;have:=U.length;simp only[Aa,Ax]at this;show (ns.map Val.c).length<=_;rw[Aa,yl,this];exact W
 c:=λρ2 H2 s2 i v x S _ R=>by obtain⟨y,N,X⟩:=(RDs.ints (K:=K) (mg:=mg) (ρ:=ρ2) (H:=H2) ns).get R;refine⟨⟨_,y,k.sqt,N⟩,λz Y ⟨e3,h3⟩=>⟨.inl e3,?_⟩⟩;subst e3;have:=h3 _ k.sqt;rw[N]at this;cases this;exact X
 a:=λρ2 H2 s2 i x S _ hi=>⟨_,k.sqt,by rw[Aa];rw[hi];simp⟩
def aL(X:vs.length<=zR)(e:ρ.o[i0]?=some a):Walk K mg ρ H ⟨vs,some i0⟩ (L2.Itl K a) where
 b:=X
 c:=λρ2 H2 s2 i v x U N Y=>by
  simp only[Src.ok]at N;split at N
  . rename_i ws hw
    cases uc N;obtain⟨b,xs,R,S,q⟩:=U.obj i0 _ hw;rw[x.c _ _ e]at R;cases R;obtain⟨y,W,Z⟩:=q.get Y;refine⟨⟨xs,y,.of S,W⟩,λz H3 ⟨e3,h3⟩=>⟨.inl e3,?_⟩⟩;subst e3;have:=h3 xs (.of S);rw[W]at this;cases this;exact Z
  . cases N
 a:=λρ2 H2 s2 i x U N hi=>by
  simp only[Src.ok]at N;split at N
  . rename_i ws hw
    cases uc N;obtain⟨b,xs,R,S,q⟩:=U.obj i0 _ hw;rw[x.c _ _ e]at R;cases R;exact⟨xs,.of S,by rw[<-q.length];exact B7 hi.symm⟩
  . cases N
def bS:(yj lo n)[i]?=if i<n then some (.c (lo+i)) else none:=by
 unfold yj;rw[Aq];by_cases h:i<n
 . rw[if_pos h,Cy h];rfl
 . rw[if_neg h,CK (by rw[AZ];omega)];rfl
def mf:(yj lo n).length=n:=by unfold yj;rw[Aa,AZ]
def lB(R:n<=zR):Walk K mg ρ H ⟨yj lo n,none⟩ (L2.Itr lo n) where
 b:=by show (yj lo n).length<=_;rw[mf];exact R
 c:=λρ2 H2 s2 i v x U _ S=>by
  have N:(yj lo n)[i]?=some v:=S;rw[bS]at N;split at N
  . rename_i hi
    cases N;refine⟨hi,λz W ⟨e3,h3⟩=>⟨.inl e3,?_⟩⟩;subst h3;exact .l _
  . cases N
 a:=λρ2 H2 s2 i x U _ hi=>by have:i=(yj lo n).length:=hi;rw[mf]at this;exact B7 this.symm
theorem tS:∀{vs} {n i:Nat},(yW n vs)[i]?=(vs[i]?).map λv=>.f [.c ((n+i:Nat):Int),v]
 |[],_,_=>rfl
 |v::vs,n,0=>rfl
 |v::vs,n,i+1=>by show (yW (n+1) vs)[i]?=(vs[i]?).map _;rw[tS];rw[show n+1+i=n+(i+1) by omega]
theorem we:∀{vs} {n},(yW n vs).length=vs.length
 |[],_=>rfl
 |v::vs,n=>by show (yW (n+1) vs).length+1=_;rw[we];rfl
def fW(Y:vs.length<=zR)(n:ρ.no a)(e:H a=some (.c xs))(q:RDs K mg ρ H vs xs):Walk K mg ρ H ⟨yW 0 vs,none⟩ (L2.Ite K a) where
 b:=by show (yW 0 vs).length<=_;rw[we];exact Y
 c:=λρ2 H2 s2 i v x R _ Z=>by have U:=(x.b a _ e n).1;have W:=RDs.mv x q;have N:(yW 0 vs)[i]?=some v:=Z;rw[tS,AK]at N;obtain⟨w,h0,rfl⟩:=N;obtain⟨y,S,h2⟩:=W.get h0;refine⟨⟨xs,y,.of U,S⟩,λz H3 ⟨t,y',ht,e3,h3,e4⟩=>⟨.inr ⟨t,_,ht,e4⟩,?_⟩⟩;subst e3 e4;have:=h3 xs (.of U);rw[S]at this;cases this;have X:=Ext.new R ht (.c [.d ((i:Nat):Int),y]);refine .m (R.new ht) L2.zY (.a ?_ (.a (h2.mono X) .d));rw[Cd];exact .l _
 a:=λρ2 H2 s2 i x R _ hi=>⟨xs,.of (x.b a _ e n).1,by rw[<-q.length,hi];exact we.symm⟩
def k7(Y:vs.length<=zR)(n:ρ.no a)(e:H a=some (.b xs))(q:RDs K mg ρ H vs xs):Walk K mg ρ H ⟨yW 0 vs,none⟩ (L2.Xg K a) where
 b:=by show (yW 0 vs).length<=_;rw[we];exact Y
 c:=λρ2 H2 s2 i v x R _ Z=>by have U:=(x.b a _ e n).1;have W:=RDs.mv x q;have N:(yW 0 vs)[i]?=some v:=Z;rw[tS,AK]at N;obtain⟨w,h0,rfl⟩:=N;obtain⟨y,S,h2⟩:=W.get h0;refine⟨⟨xs,y,.of U,S⟩,λz H3 ⟨t,y',ht,e3,h3,e4⟩=>⟨.inr ⟨t,_,ht,e4⟩,?_⟩⟩;subst e3 e4;have:=h3 xs (.of U);rw[S]at this;cases this;have X:=Ext.new R ht (.c [.d ((i:Nat):Int),y]);refine .m (R.new ht) L2.zY (.a ?_ (.a (h2.mono X) .d));rw[Cd];exact .l _
 a:=λρ2 H2 s2 i x R _ hi=>⟨xs,.of (x.b a _ e n).1,by rw[<-q.length,hi];exact we.symm⟩
def tI(env:Env)(s:Sto)(o:Out Src):L2.TI:=λσ H R=>∃ρ,HR K mg ρ s H/\ER K mg ρ H env σ/\(match o with
 |.e r s'=>∀ρ' H' J,Ext ρ H ρ' H'->HR K mg ρ' s' H'->Walk K mg ρ' H' r J->R J H'
 |_=>False)
end
section
variable {X:L2.Cx}{env:Env}{s:Sto}{a b tg:Expr}
def uO{t t':L2.TI}(h:L2.PI X tg it t)(i:∀σ H R,t' σ H R->t σ H R):L2.PI X tg it t':=λpins s σ H R I q=>h pins s σ H R I (i σ H R q)
def yR{o:Out Src}(h:∀v s',o≠.e v s'):L2.PI X tg it (tI (K:=X.K) (mg:=X.d) env s o):=λpins sh σ H R I q=>by
 obtain⟨ρ,_,_,w⟩:=q;cases o with
 |e v s'=>exact(h v s' rfl).elim
 |g _ _ _=>exact w.elim
 |d=>exact w.elim
def fj.of(z:fj H){a}(q:RDs K mg ρ H vs xs)(h:H a=some (.c xs)\/H a=some (.b xs)):vs.length<=zR:=by rw[q.length,yl];exact z a xs h
def Wm{o:Out Val}(h:L2.PE X a (tV X.K X.d env s o)):L2.PI X tg a (tI (K:=X.K) (mg:=X.d) env s (o.bind λv s1=>match srcOf s1 v with|some r=>.e r s1|dS=>.d)):=by
 cases o with
 |e v s1=>
  show L2.PI X tg a (tI (K:=X.K) (mg:=X.d) env s (match srcOf s1 v with|some r=>.e r s1|dS=>.d))
  cases v with
  |f vs=>
   refine uO (uz (L2.bE h)) λσ H R ⟨ρ,hr,er,w⟩=>⟨ρ,hr,er,λρ1 x H1 S N U=>?_⟩;cases U with
   |m n e q=>exact⟨_,rfl,⟨_,.of e⟩,λz=>w ρ1 H1 _ S N (aM (z.of q (.inl e)) n e q)⟩
  |g vs=>
   refine uO (uz (L2.iO h)) λσ H R ⟨ρ,hr,er,w⟩=>⟨ρ,hr,er,λρ1 x H1 S N U=>?_⟩;cases U with
   |D n e q=>exact⟨_,rfl,⟨_,.of e⟩,λz=>w ρ1 H1 _ S N (aK (z.of q (.inr e)) n e q)⟩
  |o ns=>
   refine uO (L2.bE h) λσ H R ⟨ρ,hr,er,w⟩=>⟨ρ,hr,er,λρ1 x H1 S N U=>?_⟩;cases U with
   |p k=>exact⟨_,rfl,⟨_,k.sqt⟩,w ρ1 H1 _ S N (fV k)⟩
  |j i=>
   simp only[srcOf];cases hs:s1[i]? with
   |none=>exact yR (zD rfl)
   |some Z=>
    cases Z with
    |c vs=>
     refine uO (uz (L2.iO h)) λσ H R ⟨ρ,hr,er,w⟩=>⟨ρ,hr,er,λρ1 x H1 S N U=>?_⟩;cases U with
     |C e=>
      obtain⟨b',xs,Y,W,q⟩:=N.obj i _ hs;rw[e]at Y;cases Y;exact⟨_,rfl,⟨_,.of W⟩,λz=>w ρ1 H1 _ S N (aL (z.of q (.inr W)) e)⟩
    |_=>exact yR (zD rfl)
  |_=>exact yR (zD rfl)
 |g _ _ _=>exact yR (zD rfl)
 |d=>exact yR (zD rfl)
def gJ{o:Out Val}{p pos:Pos}(hp:plain a=true)(Y:L2.Gl X "range")(W:X.d "range"=none)(h:L2.PE X a (tV X.K X.d env s o)) :
 L2.PI X tg (.Call (.Name "range" p) [a] [] pos) (tI (K:=X.K) (mg:=X.d) env s (o.bind λx s1=>match x with
  |.c j=>if -(2 ^ 62)<=j/\j<=zR then .e ⟨yj 0 j.toNat,dS⟩ s1 else .d
  |_=>.d)):=by
 cases o with
 |e v s1=>
  have st:A9 [a] X.a=[(false,eval a X.a)]:=L2.yD (zX hp);refine uO (L2.fB Y W (L2.pac h L2.vH (zX hp)) st) λσ H R ⟨ρ,hr,er,w⟩=>⟨ρ,hr,er,λρ1 x H1 S N U=>?_⟩;cases U with
  |l j=>
   simp only[zN]at w;by_cases hz:-(2 ^ 62)<=j/\j<=zR
   . rw[if_pos hz]at w
     have Z:(zR:Int)<2 ^ 62:=by decide
     exact⟨j,rfl,hz.1,⋯,w ρ1 H1 _ S N (lB ⋯)⟩
   . rw[if_neg hz]at w;exact w.elim
  |_=>exact w.elim
 |g _ _ _=>exact yR (zD rfl)
 |d=>exact yR (zD rfl)
def gK{o:Out Val}{f2:Sto->Out Val}{p pos:Pos}(hp:plain a=true)(U:plain b=true)(hg:L2.Gl X "range")(hm:X.d "range"=none)(h:L2.PE X a (tV X.K X.d env s o))(h2:∀s1,L2.PE X b (tV X.K X.d env s1 (f2 s1))) :
 L2.PI X tg (.Call (.Name "range" p) [a,b] [] pos) (tI (K:=X.K) (mg:=X.d) env s (o.bind λx s1=>(f2 s1).bind λy s2=>match x,y with
  |.c i,.c j=>if -(2 ^ 62)<=i/\i<2 ^ 62∧-(2 ^ 62)<=j/\j<2 ^ 62/\j-i<=zR then .e ⟨yj i (j-i).toNat,dS⟩ s2 else .d
  |_,_=>.d)):=by
 cases o with
 |e v s1=>
  have W:=h2 s1;simp only[zN];cases hb:f2 s1 with
  |e w s2=>
   rw[hb]at W;have N:A9 [b] X.a=[(false,eval b X.a)]:=L2.yD (zX U);have st:A9 [a,b] X.a=[(false,eval a X.a),(false,eval b X.a)]:=by rw[L2.yD (zX hp),N]
   refine uO (L2.fC hg hm (L2.pac h (L2.pac W L2.vH (zX U)) (zX hp)) st N) λσ H R ⟨ρ,hr,er,wt⟩=>⟨ρ,hr,er,λρ1 x H1 Z S r1=>⟨ρ1,S,er.mono Z,λρ2 y H2 x2 Y r2=>?_⟩⟩;simp only[zN]at wt;cases r1 with
   |l i=>
    cases r2 with
    |l j=>
     simp only at wt;by_cases hz:-(2 ^ 62)<=i/\i<2 ^ 62∧-(2 ^ 62)<=j/\j<2 ^ 62/\j-i<=zR
     . rw[if_pos hz]at wt
       exact⟨i,j,rfl,⟨hz.1,hz.2.1,hz.2.2.1,hz.2.2.2.1⟩,wt ρ2 H2 _ (Z.trans S x2) Y (lB ⋯)⟩
     . rw[if_neg hz]at wt;exact wt.elim
    |_=>exact wt.elim
   |_=>exact wt.elim
  |g _ _ _=>exact yR (zD rfl)
  |d=>exact yR (zD rfl)
 |g _ _ _=>exact yR (zD rfl)
 |d=>exact yR (zD rfl)
def ZW{es:List Expr}{k:Nat}{o:Out Val}{p pos U:Pos}(hp:plain a=true)(Z:L2.Gl X "enumerate")(Y:X.d "enumerate"=none)(h:L2.PE X a (tV X.K X.d env s o)) :
 L2.PI X (.Tuple es k U) (.Call (.Name "enumerate" p) [a] [] pos) (tI (K:=X.K) (mg:=X.d) env s (o.bind λv s1=>match v with
  |.f vs=>.e ⟨yW 0 vs,dS⟩ s1
  |.g vs=>.e ⟨yW 0 vs,dS⟩ s1
  |_=>.d)):=by
 cases o with
 |e v s1=>
  have st:A9 [a] X.a=[(false,eval a X.a)]:=L2.yD (zX hp);refine uO (uz (L2.Z7 Z Y (L2.pac h L2.vH (zX hp)) st)) λσ H R ⟨ρ,hr,er,w⟩=>⟨ρ,hr,er,λρ1 x H1 S N W=>?_⟩;cases W with
  |m n e q=>exact⟨_,rfl,.inl ⟨⟨_,.of e⟩,λz=>w ρ1 H1 _ S N (fW (z.of q (.inl e)) n e q)⟩⟩
  |D n e q=>exact⟨_,rfl,.inr ⟨⟨_,.of e⟩,λz=>w ρ1 H1 _ S N (k7 (z.of q (.inr e)) n e q)⟩⟩
  |_=>exact w.elim
 |g _ _ _=>exact yR (zD rfl)
 |d=>exact yR (zD rfl)
end
def sJ(K:KF)(mg:Str->Option Value)(t:Tgt)(g:L2.TG):Prop:=∀(ρ:Own) (s:Sto) (H:L2.Hp) (v:Val) (x:L2.V) (env env':Env) (σ:L2.St) (Q:L2.St->L2.Hp->Prop),HR K mg ρ s H->RD K mg ρ H v x->ER K mg ρ H env σ->yC t v env=some env' ->
 (∀N,ER K mg ρ H env' N->Q N H)->g x σ H Q
def iZ:sJ K mg (.a i) (L2.vY i):=λρ s H v x env env' σ Q R r N e q=>by
 cases e;exact q _ (N.set i r)
def p7:List Nat->L2.TGs
 |[]=>L2.Us
 |i::is=>L2.Y6 (L2.vY i) (p7 is)
theorem qy:∀{is} {vs} {xs} {env} {σ},RDs K mg ρ H vs xs->ER K mg ρ H env σ->vs.length=is.length ->
 (∀N,ER K mg ρ H ((is.zip vs).foldl (λe p=>e.set p.1 (some p.2)) env) N->Q N H)->p7 is xs σ H Q
 |[],[],_,env,σ,.d,er,_,q=>⟨rfl,q σ er⟩
 |[],_::_,_,_,_,_,_,h,_=>by cases h
 |_::_,[],_,_,_,_,_,h,_=>by cases h
 |i::is,v::vs,x::xs,env,σ,.a r rs,er,h,q=>⟨x,xs,rfl,qy rs (er.set i r) (by simpa using h) q⟩
def tG:sJ K mg (.b is) (L2.Uu K is.length (p7 is)):=λρ s H v x env env' σ Q S r R e q=>by
 simp only[yC]at e;split at e
 . split at e
   . rename_i hl
     cases e;cases r with
     |m n e N=>exact⟨_,_,rfl,.of e,by rw[<-N.length];exact hl,qy N R hl q⟩
   . cases e
 . cases e
noncomputable def yt(sc:Scope)(N:List Str):List Nat->List Expr->Bool
 |[],[]=>true
 |i::is,.Name x _::es=>decide (N[i]?=some x)&&(decide (sc.names.lookup x=some .local)||decide (sc.names.lookup x=some .cell))&&yt sc N is es
 |_,_=>false
def ckT(sc:Scope)(N:List Str):Tgt->Expr->Bool
 |.a i,.Name x _=>decide (N[i]?=some x)&&(decide (sc.names.lookup x=some .local)||decide (sc.names.lookup x=some .cell))
 |.b is,.Tuple es _ _=>yt sc N is es&&decide (es≠[])
 |_,_=>false
section
variable {X:L2.Cx}
structure Scp(sc:Scope)(N:List Str)(X:L2.Cx):Prop where
 b:X.N=N
 d:N.Nodup
 e:∀x,sc.names.lookup x=some .local\/sc.names.lookup x=some .cell\/sc.names.lookup x=some .free->L2.Vis X.a.scope x
 c:∀x,sc.names.lookup x=some .local\/sc.names.lookup x=some .cell->L2.Loc X.a.scope x/\(X.n x=true\/X.a.scope.names.lookup x=some .local)
 a:∀x,sc.names.lookup x=some .globalImplicit->L2.Gl X x
 cf:∀x,sc.names.lookup x=some .cell\/sc.names.lookup x=some .free->X.a.kindOf x=some .cell\/X.a.kindOf x=some .free
def bC(S:Scp sc N X)(U:N[i]?=some x)(R:sc.names.lookup x=some .local\/sc.names.lookup x=some .cell):L2.PG X (.Name x p) (L2.vY i):=by obtain⟨a,b⟩:=S.c x R;exact L2.Z5 (by rw[S.b];exact S.d) (by rw[S.b];exact U) a b
theorem wo(S:Scp sc N X):∀{is} {es},yt sc N is es=true->L2.PGs X es (p7 is)/\(DE es X.a).length=is.length/\(DE es X.a).findIdx? (·.1)=none
 |[],[],_=>⟨L2.Z6,rfl,rfl⟩
 |[],_::_,h=>by cases h
 |_::_,[],h=>by cases h
 |i::is,e::es,h=>by
  cases e with
  |Name x p=>
   simp only[yt,ub,Bd,decide_eq_true_eq]at h;obtain⟨a,b,c⟩:=wo S h.2;refine⟨L2.bD (bC S h.1.1 h.1.2) a,?_,?_⟩
   . show (DE es X.a).length+1=is.length+1
     rw[b]
   . show List.findIdx? (·.1) ((false,assign (.Name x p) X.a)::DE es X.a)=none
     rw[List.findIdx?_cons];simp only[Aw,if_false];rw[c];rfl
  |_=>cases h
def SI(S:Scp sc N X)(R:X.g=true)(h:ckT sc N t e=true):∃g,L2.PG X e g/\sJ X.K X.d t g:=by
 cases t with
 |a i=>
  cases e with
  |Name x p=>
   simp only[ckT,ub,Bd,decide_eq_true_eq]at h;exact⟨_,bC S h.1 h.2,iZ⟩
  |_=>cases h
 |b is=>
  cases e with
  |Tuple es k p=>
   simp only[ckT,ub,decide_eq_true_eq]at h;obtain⟨a,b,c⟩:=wo S h.1;exact⟨_,L2.oX R a b c,tG⟩
  |_=>cases h
end
structure Lp(acc:Addr)(ρ:Own)(H:L2.Hp)(ρ':Own)(H':L2.Hp):Prop where
 f:∃new:List Addr,ρ'.o=ρ.o++new/\∀a∈new,H a=none
 c:ρ'.h=acc::ρ.h
 d:∀(a:Addr) (o:L2.HO),H a=some o->a ∉ ρ.o->H' a=some o
 g:∀a∈ρ.o,hk (H' a)=hk (H a)
section
variable {K:KF}{mg:Str->Option Value}{ρ ρ1 ρ2:Own}{H H1 H2:L2.Hp}{s s1:Sto}{acc:Addr}
noncomputable def Own.hide(ρ:Own)(acc:Addr):Own:=⟨ρ.o,acc::ρ.h⟩
def p9(R:HR K mg ρ s H)(N:H acc=none)o:Mv ρ H (ρ.hide acc) (L2.upd H acc o):=
 ⟨λa u e n=>⟨by rw[L2.zM (L2.zU e N)];exact e,n.1,λS=>by
  rcases Al.mp S with z|z
  . exact L2.zU e N z
  . exact n.2 z⟩,λi a e=>e,λa U=>by rw[L2.zM λz=>(R.new N).1 (by rw[<-z];exact U)]⟩
theorem HR.hide(N:HR K mg ρ s H)(R:H acc=none)(o:Hid):HR K mg (ρ.hide acc) s (L2.upd H acc o.o):=by
 refine⟨N.f,N.l,λi c e=>?_,λa S=>?_⟩
 . obtain⟨a,W,q⟩:=N.g i c e
   obtain⟨o,U⟩:=q.there;exact⟨a,W,q.mv (p9 N R _) (L2.zM (L2.zU U R))⟩
 . rcases Al.mp S with z|z
   . subst z;exact⟨⟨o,L2.zY⟩,(N.new R).1⟩
   . obtain⟨⟨ys,e⟩,n⟩:=N.d a z
     exact⟨⟨ys,by rw[L2.zM (L2.zU e R)];exact e⟩,n⟩
def Lp.start(R:HR K mg ρ s H)(N:H acc=none)o:Lp acc ρ H (ρ.hide acc) (L2.upd H acc o):=
 ⟨⟨[],by simp[Own.hide],λa S=>by cases S⟩,rfl,λa u e _=>by rw[L2.zM (L2.zU e N)];exact e,(p9 R N o).d⟩
def Lp.step(l:Lp acc ρ H ρ1 H1)(Y:HR K mg ρ1 s1 H1)(x:Ext ρ1 H1 ρ2 H2):Lp acc ρ H ρ2 H2:=by
 obtain⟨new,W,X⟩:=l.f;obtain⟨S,Z,U⟩:=x.d;refine⟨⟨new++S,by rw[Z,W,An],λa N=>?_⟩,x.f.trans l.c,λa o e n=>x.c a o (l.d a o e n) ?_,λa N=>(x.g a (by rw[W];exact Bg _ N)).trans (l.g a N)⟩
 . rcases AO.mp N with N|N
   . exact X a N
   . cases q:H a with
     |none=>rfl
     |some o=>
      by_cases R:a∈ρ.o
      . obtain⟨xs,e⟩:=Y.trk (a:=a) (by rw[W];exact Bg _ R)
        rw[U a N]at e;cases e
      . have:=l.d a o q R
        rw[U a N]at this;cases this
 . rw[W]
   intro R;rcases AO.mp R with R|R
   . exact n R
   . rw[X a R]at e;cases e
def Lp.emit(l:Lp acc ρ H ρ1 H1)(R:HR K mg ρ1 s1 H1)(S:H acc=none)o:Lp acc ρ H ρ1 (L2.upd H1 acc o):=
 ⟨l.f,l.c,λa u e n=>by rw[L2.zM (L2.zU e S)];exact l.d a u e n,λa N=>by
  obtain⟨new,U,_⟩:=l.f;rw[L2.zM λz=>(R.d acc (by rw[l.c];exact AE)).2 (by rw[<-z,U];exact Bg _ N)]
  exact l.g a N⟩
def Lp.here(l:Lp acc ρ H ρ1 H1):acc∈ρ1.h:=by rw[l.c];exact AE
def sS(R:HR K mg ρ1 s1 H1)(N:acc∈ρ1.h)o:Mv ρ1 H1 ρ1 (L2.upd H1 acc o):=
 ⟨λa u e n=>⟨by rw[L2.zM (λz=>n.2 (by rw[z];exact N))];exact e,n⟩,λi a e=>e,λa h=>by rw[L2.zM λz=>(R.d acc N).2 (by rw[<-z];exact h)]⟩
def HR.emit(N:HR K mg ρ1 s1 H1)(S:acc∈ρ1.h)(o:Hid):HR K mg ρ1 s1 (L2.upd H1 acc o.o):=by
 have R:=(N.d acc S).2;refine⟨N.f,N.l,λi c e=>?_,λa W=>?_⟩
 . obtain⟨a,U,q⟩:=N.g i c e
   exact⟨a,U,q.mv (sS N S _) (L2.zM (λz=>R (by rw[<-z];exact AA U)))⟩
 . obtain⟨⟨ys,e⟩,n⟩:=N.d a W
   by_cases z:a=acc
   . subst z;exact⟨⟨o,L2.zY⟩,n⟩
   . exact⟨⟨ys,by rw[L2.zM z];exact e⟩,n⟩
def Lp.drop(l:Lp acc ρ H ρ1 H1)(N:HR K mg ρ1 s1 H1):Ext ρ H ⟨ρ1.o,ρ.h⟩ H1/\HR K mg ⟨ρ1.o,ρ.h⟩ s1 H1/\Mv ρ1 H1 ⟨ρ1.o,ρ.h⟩ H1:=by
 have mv:Mv ρ1 H1 ⟨ρ1.o,ρ.h⟩ H1:=⟨λa u e n=>⟨e,n.1,λz=>n.2 (by rw[l.c];exact Ay _ z)⟩,λi a e=>e,λ_ _=>rfl⟩
 refine⟨⟨l.f,rfl,l.d,l.g⟩,⟨N.f,N.l,λi R e=>?_,λa S=>?_⟩,mv⟩
 . obtain⟨a,U,t⟩:=N.g i R e
   exact⟨a,U,t.mv mv rfl⟩
 . exact N.d a (by rw[l.c];exact Ay _ S)
def Lp.done(l:Lp acc ρ H ρ1 H1)(h0:HR K mg ρ s H)(hn:H acc=none)(S:HR K mg ρ1 s1 H1)(e:H1 acc=some (.b ys))(q:RDs K mg ρ1 H1 vs ys)(w:yX K mg (RD K mg) ρ H (newList m vs s1) Q):Q (.c acc) H1:=by
 have ha:=l.here;have R:=(S.d acc ha).2;have W:=(h0.new hn).2;cases m with
 |false=>
  obtain⟨x,Y,mv⟩:=l.drop S;exact w ⟨ρ1.o,ρ.h⟩ _ H1 x Y (.D ⟨R,W⟩ e (RDs.mv mv q))
 |true=>
  have mv:Mv ρ1 H1 ⟨ρ1.o++[acc],ρ.h⟩ H1:=by
   refine⟨λa u e n=>⟨e,λN=>?_,λz=>n.2 (by rw[l.c];exact Ay _ z)⟩,λi a e=>?_,λ_ _=>rfl⟩
   . rcases AO.mp N with N|N
     . exact n.1 N
     . rw[Av.mp N]at n;exact n.2 ha
   . show (ρ1.o++[acc])[i]?=_
     rw[AW (Ai.mp e).1];exact e
  have rf:(ρ1.o++[acc])[s1.length]?=some acc:=by rw[<-S.f,AU (Ab _)];simp
  refine w ⟨ρ1.o++[acc],ρ.h⟩ _ H1 ⟨?_,rfl,l.d,l.g⟩ ⟨?_,?_,λi ws U=>?_,λa N=>?_⟩ (.C rf (by rw[e];rfl))
  . obtain⟨new,e1,X⟩:=l.f
    refine⟨new++[acc],by show ρ1.o++[acc]=_;rw[e1,An],λa N=>?_⟩
    rcases AO.mp N with N|N
    . exact X a N
    . rw[Av.mp N];exact hn
  . show (ρ1.o++[acc]).length=(s1++[Cel.c vs]).length
    rw[As,As,S.f];rfl
  . show (ρ1.o++[acc]).Nodup
    rw[Eh];exact⟨S.l,by simp,λa ha' b hb=>by rw[Av.mp hb];intro z;subst z;exact R ha'⟩
  . by_cases hi:i<s1.length
    . rw[AW hi]at U
      obtain⟨a,e1,t⟩:=S.g i ws U;exact⟨a,mv.c i a e1,t.mv mv rfl⟩
    . have Z:i=s1.length:=by have:=(Ai.mp U).1;rw[As]at this;simp at this;omega
      subst Z;rw[AU (Ab _)]at U;simp at U;subst U;exact⟨acc,rf,ys,e,RDs.mv mv q⟩
  . obtain⟨x,n⟩:=S.d a (by rw[l.c];exact Ay _ N)
    refine⟨x,λz=>?_⟩;rcases AO.mp z with z|z
    . exact n z
    . rw[Av.mp z]at N;exact W N
end
section
variable {K:KF}{mg:Str->Option Value}
def nZ{J:L2.It}{g:L2.TG}{tb:L2.TS}{D:L2.Ends}(N:Nat->L2.St->L2.Hp->Prop)(h0:N 0 σ H)(hd:∀σ H,N n σ H->J.a n H/\D.a σ H)
 (hs:∀i σ H,i<n->N i σ H->J.c i H/\∀x H',J.b i H x H'->g x σ H' λR H2=>tb {D with a:=N (i+1),c:=N (i+1),b:=D.a} R H2):L2.u4 J g tb D σ H:=by
 refine⟨λi m σ H=>m=n-i/\i<=n/\N i σ H,⟨n,by simp,AS _,h0⟩,?_⟩
 rintro i m σ H ⟨rfl,hi,p⟩;by_cases hlt:i<n
 . obtain⟨a,b⟩:=hs i σ H hlt p
   exact .inr ⟨a,N (i+1),λS H' U=>⟨n-(i+1),⋯,rfl,hlt,U⟩,b⟩
 . have e:i=n:=by omega
   subst e;exact .inl (hd σ H p)
structure Acc(K:KF)(mg:Str->Option Value)(acc:Addr) where
 A:Own->L2.Hp->List Val->Prop
 B:List Val->Prop
 d:∀{a b},B (a++b)->B a
 f:∀{ρ H ρ' H' a},A ρ H a->Mv ρ H ρ' H'->H' acc=H acc->A ρ' H' a
 c:∀{ρ H a},A ρ H a->∃o,H acc=some o
def Acc.step(Z:Acc K mg acc)(h:Z.A ρ H a)(N:HR K mg ρ s H)(R:acc∈ρ.h)(x:Ext ρ H ρ' H'):Z.A ρ' H' a:=by obtain⟨o,e⟩:=Z.c h;exact Z.f h x.mv (by rw[x.c _ _ e (N.d acc R).2,e])
structure CS{acc:Addr}(Z:Acc K mg acc)(ρ0:Own)(H0:L2.Hp)(a:List Val)(s:Sto)(env:Env)(ρ:Own)(σ:L2.St)(H:L2.Hp):Prop where
 d:Lp acc ρ0 H0 ρ H
 b:HR K mg ρ s H
 c:ER K mg ρ H env σ
 e:Z.A ρ H a
def Grows(body:Env->Sto->List Val->Out (List Val × Env)):Prop:=∀e s a p s',body e s a=.e p s'->∃b,p.1=a++b
theorem vd(N:Grows body):∀{xs} {env} {s} {a} {p} {s'},zo r t body xs env s a=.e p s'->∃b,p.1=a++b
 |[],env,s,a,p,s',h=>by
  rw[zo]at h;split at h
  . cases h;exact⟨[],(A1 _).symm⟩
  . cases h
 |x::xs,env,s,a,p,s',h=>by
  rw[zo]at h;split at h
  . split at h
    . cases h
    . rename_i env' he
      cases hc:body env' s a with
      |e q s1=>
       rw[hc]at h;obtain⟨b,e⟩:=N _ _ _ _ _ hc;obtain⟨c,R⟩:=vd N h;exact⟨b++c,by rw[R,e,An]⟩
      |g _ _ _=>rw[hc]at h;cases h
      |d=>rw[hc]at h;cases h
  . cases h
def BodyOk{acc:Addr}(Z:Acc K mg acc)(ρ0:Own)(H0:L2.Hp)(body:Env->Sto->List Val->Out (List Val × Env))(tb:L2.TS):Prop:=
 ∀(ρ:Own) (s:Sto) (H:L2.Hp) (env:Env) (σ:L2.St) (a:List Val) (p:List Val × Env) (s':Sto) (D:L2.Ends),CS Z ρ0 H0 a s env ρ σ H->body env s a=.e p s'->Z.B p.1 ->
  (∀ρ' H' N,CS Z ρ0 H0 p.1 s' p.2 ρ' N H'->Mv ρ H ρ' H'->D.a N H')->tb D σ H
def wd{Z:Acc K mg acc}
   (W:Walk K mg ρ H r J) (TG:sJ K mg t g) (hg:Grows body) (hb:BodyOk Z ρ0 H0 body tb)
 (C:CS Z ρ0 H0 a s env ρ σ H) (h:zo r t body r.a env s a=.e p sf) (hz:Z.B p.1) (fin:∀ρ' H' σ',CS Z ρ0 H0 p.1 sf p.2 ρ' σ' H'->Mv ρ H ρ' H'->D.a σ' H'):L2.u4 J g tb D σ H:=by
 refine nZ (n:=r.a.length) (λi S H2=>∃ρ2 s2 N Y,CS Z ρ0 H0 Y s2 N ρ2 S H2/\Mv ρ H ρ2 H2/\zo r t body (r.a.drop i) N s2 Y=.e p sf) ⟨ρ,s,env,a,C,Mv.refl,by rw[C9];exact h⟩ ?_ ?_
 . rintro S H2 ⟨ρ2,s2,N,Y,U,mv,R⟩
   rw[Hr,zo]at R;split at R
   . rename_i ho
     cases R;exact⟨W.a ρ2 H2 _ _ mv U.b ho rfl,fin ρ2 H2 S U mv⟩
   . cases R
 . rintro i S H2 hi ⟨ρ2,s2,N,Y,U,mv,R⟩
   rw[Bn hi,zo]at R;split at R
   . rename_i ho
     obtain⟨hgo,hy⟩:=W.c ρ2 H2 s2 i (r.a[i]) mv U.b ho (pn hi);refine⟨hgo,λx H3 y=>?_⟩;obtain⟨hH,rx⟩:=hy x H3 y;split at R
     . cases R
     . rename_i env' he
       -- the item is there: perhaps a new thing
       have C3:CS Z ρ0 H0 Y s2 N ρ2 S H3/\Mv ρ2 H2 ρ2 H3:=by
        rcases hH with e|⟨q,o,hq,e⟩
        . subst e;exact⟨U,Mv.refl⟩
        . subst e
          have X:=Ext.new U.b hq o;exact⟨⟨U.d.step U.b X,U.b.more hq o,U.c.mono X,Z.step U.e U.b U.d.here X⟩,X.mv⟩
       refine TG ρ2 s2 H3 _ x N env' S _ C3.1.b rx C3.1.c he λσ4 er4=>?_;cases hc:body env' s2 Y with
       |e q s5=>
        rw[hc]at R;obtain⟨b,eb⟩:=vd hg R;exact hb ρ2 s2 H3 env' σ4 Y q s5 _ ⟨C3.1.d,C3.1.b,er4,C3.1.e⟩ hc (Z.d (eb▸hz)) λρ5 H5 σ5 C5 mv5=>⟨ρ5,s5,q.2,q.1,C5,(mv.trans C3.2).trans mv5,R⟩
       |g _ _ _=>rw[hc]at R;cases R
       |d=>rw[hc]at R;cases R
   . cases R
end
section
variable (K:KF)(mg:Str->Option Value)(Φ:Calls)(G:Str->Option Val)
def uE(e:Ex):L2.TE:=λσ H Q=>∃env s,tV K mg env s (evE Φ G env e s) σ H Q
def uT(e:Cn):L2.TT:=λσ H Q=>∃env s,tT K mg env s (evT Φ G env e s) σ H Q
def uI(it:Itb):L2.TI:=λσ H R=>∃env s,tI (K:=K) (mg:=mg) env s (zy Φ G env it s) σ H R
noncomputable def uTs:Cns->List L2.TT
 |.a=>[]
 |.b e es=>uT K mg Φ G e::uTs es
end
section
variable {K:KF}{mg:Str->Option Value}{Φ:Calls}{G:Str->Option Val}
def bB(h:∀env s,L2.PE X E (tV X.K X.d env s (evE Φ G env e s))):L2.PE X E (uE X.K X.d Φ G e):=λpins s σ H Q I ⟨env,t,q⟩=>h env t pins s σ H Q I q
def Rh(h:∀env s,L2.PT X E (tT X.K X.d env s (evT Φ G env e s))):L2.PT X E (uT X.K X.d Φ G e):=λpins s σ H Q I ⟨env,t,q⟩=>h env t pins s σ H Q I q
def oY(h:∀env s,L2.PI X tg E (tI (K:=X.K) (mg:=X.d) env s (zy Φ G env it s))):L2.PI X tg E (uI X.K X.d Φ G it):=λpins s σ H Q I ⟨env,t,q⟩=>h env t pins s σ H Q I q
theorem qD:∀{es} {ρ} {s} {H},HR K mg ρ s H->ER K mg ρ H env σ->yG Φ G env es s=.e b s2 ->
 (∀ρ' H',Ext ρ H ρ' H'->HR K mg ρ' s2 H'->Q b H')->L2.oy (uTs K mg Φ G es) σ H Q
 |.a,ρ,s,H,hr,er,h,q=>by
  rw[yG]at h;cases h;exact q ρ H Ext.refl hr
 |.b e es,ρ,s,H,hr,er,h,q=>by
  rw[yG]at h;refine⟨env,s,ρ,hr,er,?_⟩;cases hc:evT Φ G env e s with
  |e c s1=>
   rw[hc]at h;intro ρ1 X H1 R N W;cases W;cases c with
   |true=>exact L2.oB (qD N (er.mono R) h λρ' H' U S=>q ρ' H' (R.trans N U) S)
   |false=>
    simp only[zN]at h;cases h;exact L2.oA (q ρ1 H1 R N)
  |g _ _ _=>rw[hc]at h;cases h
  |d=>rw[hc]at h;cases h
def v8(Φ:Calls)(G:Str->Option Val)(elt:Ex)(ifs:Cns):Env->Sto->List Val->Out (List Val × Env):=λe s' acc=>(yG Φ G e ifs s').bind λb s2=>if b then (evE Φ G e elt s2).bind λv N=>.e (acc++[v],e) N else .e (acc,e) s2
def wR:Grows (v8 Φ G elt ifs):=by
 intro e s a p s' h;unfold v8 at h;cases hc:yG Φ G e ifs s with
 |e b s1=>
  rw[hc]at h;cases b with
  |true=>
   simp only[zN,if_true]at h;cases hv:evE Φ G e elt s1 with
   |e v s2=>rw[hv]at h;cases h;exact⟨_,rfl⟩
   |g _ _ _=>rw[hv]at h;cases h
   |d=>rw[hv]at h;cases h
  |false=>simp only[zN]at h;cases h;exact⟨[],(A1 _).symm⟩
 |g _ _ _=>rw[hc]at h;cases h
 |d=>rw[hc]at h;cases h
def aR{acc:Addr}(Z:Acc K mg acc)(N:(L2.St->L2.Hp->Prop)->L2.St->L2.V->L2.Hp->Prop):Prop:=∀{ρ:Own} {s:Sto} {H:L2.Hp} {a:List Val} {v:Val} {y:L2.V} {R:L2.St->L2.Hp->Prop} {σ:L2.St},
 HR K mg ρ s H->acc∈ρ.h->Z.A ρ H a->RD K mg ρ H v y->Z.B (a++[v])->(∀o:Hid,Z.A ρ (L2.upd H acc o.o) (a++[v])->R σ (L2.upd H acc o.o))->N R σ y H
def qI{Z:Acc K mg acc}(hi:aR Z inn)(hn:H0 acc=none):BodyOk Z ρ0 H0 (v8 Φ G elt ifs) (L2.tTB (uTs K mg Φ G ifs) λNx σ H=>uE K mg Φ G elt σ H (inn Nx σ)):=by
 intro ρ s H env σ a p s' D C h hz q;unfold v8 at h;cases hc:yG Φ G env ifs s with
 |e b s1=>
  rw[hc]at h;refine qD (ρ:=ρ) (s:=s) C.b C.c hc λρ1 H1 U S=>?_;have X:=Z.step C.e C.b C.d.here U;cases b with
  |true=>
   simp only[zN,if_true]at h;refine L2.oB ⟨env,s1,ρ1,S,C.c.mono U,?_⟩;cases hv:evE Φ G env elt s1 with
   |e v s2=>
    rw[hv]at h;cases h;intro ρ2 y H2 x2 R r2;have Y:=U.trans S x2;have N:=C.d.step C.b Y;refine hi R N.here (Z.step X S (C.d.step C.b U).here x2) r2 hz λo ac3=>?_;have W:=sS (H1:=H2) R N.here o.o;refine q ρ2 _ σ ⟨N.emit R hn _,R.emit N.here o,⟨C.c.b,λi v' e'=>?_⟩,ac3⟩ (Y.mv.trans W);obtain⟨u,h1,h2⟩:=(C.c.mono Y).a i v' e';exact⟨u,h1,RD.mv W h2⟩
   |g _ _ _=>rw[hv]at h;cases h
   |d=>rw[hv]at h;cases h
  |false=>
   simp only[zN]at h;cases h;exact L2.oA (q ρ1 H1 σ ⟨C.d.step C.b U,S,C.c.mono U,X⟩ U.mv)
 |g _ _ _=>rw[hc]at h;cases h
 |d=>rw[hc]at h;cases h
noncomputable def TY(K:KF)(mg:Str->Option Value)(acc:Addr):Acc K mg acc where
 A:=λρ H a=>∃ys,H acc=some (.b ys)/\RDs K mg ρ H a ys
 B:=λa=>a.length<=zR
 d:=λh=>Ao (by rw[As];exact Dc _ _) h
 f:=λ⟨ys,e1,e2⟩ x e=>⟨ys,e.trans e1,RDs.mv x e2⟩
 c:=λ⟨_,e,_⟩=>⟨_,e⟩
def RS(acc:Addr)(N:L2.St->L2.Hp->Prop)(σ:L2.St)(y:L2.V)(H1:L2.Hp):Prop:=∃ys,H1 acc=some (.b ys)/\ys.length<AI/\N σ (L2.upd H1 acc (.b (ys++[y])))
def jK:aR (TY K mg acc) (RS acc):=λ{ρ s H a v y Nx σ} hr ha ⟨ys,e1,e2⟩ r hz q=>by
 have R:ys.length<AI:=by have N:(a++[v]).length<=zR:=hz;rw[As,e2.length,yl]at N;simp at N;omega
 exact⟨ys,e1,R,q (.b _) ⟨_,L2.zY,RDs.mv (sS hr ha _) (e2.append (.a r .d))⟩⟩
def uS(Φ:Calls)(G:Str->Option Val)(elt:Ex)(ifs:Cns)(S:Tgt)(N:Itb)(ifs2:Cns):Env->Sto->List Val->Out (List Val × Env):=λe s' acc=>(yG Φ G e ifs s').bind λb s2=>if b then (zy Φ G e N s2).bind λR U=>
 zo R S (v8 Φ G elt ifs2) R.a e U acc
 else .e (acc,e) s2
def vM:Grows (uS Φ G elt ifs t2 it2 ifs2):=by
 intro e s a p s' h;unfold uS at h;cases hc:yG Φ G e ifs s with
 |e b s1=>
  rw[hc]at h;cases b with
  |true=>
   simp only[zN,if_true]at h;cases hv:zy Φ G e it2 s1 with
   |e v s2=>rw[hv]at h;exact vd wR h
   |g _ _ _=>rw[hv]at h;cases h
   |d=>rw[hv]at h;cases h
  |false=>simp only[zN]at h;cases h;exact⟨[],(A1 _).symm⟩
 |g _ _ _=>rw[hc]at h;cases h
 |d=>rw[hc]at h;cases h
def t7{Z:Acc K mg acc}(hi:aR Z inn)(hn:H0 acc=none)(TG:sJ K mg t2 g2) :
 BodyOk Z ρ0 H0 (uS Φ G elt ifs t2 it2 ifs2) (L2.tTB (uTs K mg Φ G ifs) (L2.uR (uI K mg Φ G it2) g2 (uTs K mg Φ G ifs2) λNx σ H=>uE K mg Φ G elt σ H (inn Nx σ))):=by
 intro ρ s H env σ a p s' D C h hz q;unfold uS at h;cases hc:yG Φ G env ifs s with
 |e b s1=>
  rw[hc]at h;refine qD (ρ:=ρ) (s:=s) C.b C.c hc λρ1 H1 S N=>?_;have U:=Z.step C.e C.b C.d.here S;have R:=C.d.step C.b S;cases b with
  |true=>
   simp only[zN,if_true]at h;refine L2.oB ⟨env,s1,ρ1,N,C.c.mono S,?_⟩;cases hv:zy Φ G env it2 s1 with
   |e r2 s2=>
    rw[hv]at h;intro ρ2 H2 J x2 hr2 W;have xx:=S.trans N x2;exact wd W TG wR (qI hi hn) ⟨R.step N x2,hr2,C.c.mono xx,Z.step U N R.here x2⟩ h hz λY H3 X C3 mv3=>q Y H3 X C3 (xx.mv.trans mv3)
   |g _ _ _=>rw[hv]at h;cases h
   |d=>rw[hv]at h;cases h
  |false=>
   simp only[zN]at h;cases h;exact L2.oA (q ρ1 H1 σ ⟨R,N,C.c.mono S,U⟩ S.mv)
 |g _ _ _=>rw[hc]at h;cases h
 |d=>rw[hc]at h;cases h
def fO(U:ER K mg ρ H env σ)fr:ER K mg ρ H (zK fr env) (L2.zK fr σ):=by
 refine⟨by unfold zK L2.zK;rw[Aa,Aa],λi v e=>?_⟩
 unfold zK at e;unfold L2.zK;rw[Aq]at e ⊢;cases hf:fr[i]? with
 |none=>rw[hf]at e;cases e
 |some o=>
  rw[hf]at e;cases o with
  |none=>cases e
  |some j=>
   have R:(env[j]?).join=some v:=AH e;have W:env[j]?=some (some v):=by
    cases N:env[j]? with
    |none=>rw[N]at R;cases R
    |some w=>rw[N]at R;have:w=some v:=R;rw[this]
   obtain⟨x,N,S⟩:=U.a j v W;refine⟨x,?_,S⟩;show some ((σ[j]?).join)=_;rw[N];rfl
def nQ{Z:Acc K mg acc}{D:L2.Ends}(o:Hid)fr(Y:HR K mg ρ s H)(er:ER K mg ρ H env σ)(W:Walk K mg ρ H r J)(N:H acc=none)(TG:sJ K mg t g)(hg:Grows body)
 (hb:BodyOk Z ρ H body tb) (h0:Z.A (ρ.hide acc) (L2.upd H acc o.o) []) (hl:zo r t body r.a (zK fr env) s []=.e p sf) (hz:Z.B p.1) (fin:∀ρ' H' R,CS Z ρ H p.1 sf p.2 ρ' R H'->D.a R H'):L2.u4 J g tb D (L2.zK fr σ) (L2.upd H acc o.o):=by
 have mv:=p9 (ρ:=ρ) Y N o.o;have S:=fO er fr;refine wd (ρ0:=ρ) (H0:=H) (W.mv mv) TG hg hb ⟨Lp.start Y N _,Y.hide N o,⟨S.b,λi v e=>?_⟩,h0⟩ hl hz λX H3 U C3 _=>fin X H3 U C3;obtain⟨x,h1,h2⟩:=S.a i v e;exact⟨x,h1,RD.mv mv h2⟩
def vp(TG:sJ K mg t g)(hg:Grows body)
 (hb:∀acc ρ0 H0,H0 acc=none->BodyOk (TY K mg acc) ρ0 H0 body (L2.tTB ts (tb acc)))    
 (h:tV K mg env s ((zy Φ G env it s).bind λr s1=>(zo r t body r.a (zK fr env) s1 []).bind λp s2=>if chk=true->p.1.length<=zR then newList m p.1 s2 else .d) σ H Q)
 (S:chk=false->∀r s1 p s2,zo r t body r.a (zK fr env) s1 []=.e p s2->p.1.length<=r.a.length):L2.vg fr (uI K mg Φ G it) g ts tb σ H Q:=by
 obtain⟨ρ,hr,Z,w⟩:=h;refine⟨env,s,ρ,hr,Z,?_⟩;cases hi:zy Φ G env it s with
 |e r s1=>
  rw[hi]at w;simp only[zN]at w;intro ρ1 H1 J X R W acc N;cases hl:zo r t body r.a (zK fr env) s1 [] with
  |e p s2=>
   rw[hl]at w;simp only[zN]at w;have Y:p.1.length<=zR/\yX K mg (RD K mg) ρ H (newList m p.1 s2) Q:=by
    by_cases hc:chk=true->p.1.length<=zR
    . rw[if_pos hc]at w
      refine⟨?_,w⟩;cases chk with
      |true=>exact hc rfl
      |false=>exact Ao (S rfl r s1 p s2 hl) W.b
    . rw[if_neg hc]at w;exact w.elim
   refine nQ (.b []) fr R (Z.mono X) W N TG hg (hb acc ρ1 H1 N) ⟨[],L2.zY,.d⟩ hl Y.1 λρ3 H3 σ3 U=>?_;obtain⟨ys,e1,e2⟩:=U.e;exact U.d.done R N U.b e1 e2 (Y.2.mono X R)
  |g _ _ _=>rw[hl]at w;exact w.elim
  |d=>rw[hl]at w;exact w.elim
 |g _ _ _=>rw[hi]at w;exact w.elim
 |d=>rw[hi]at w;exact w.elim
theorem t8:∀{xs} {env} {s} {a} {p} {s'},zo r t (v8 Φ G elt ifs) xs env s a=.e p s'->p.1.length<=a.length+xs.length
 |[],env,s,a,p,s',h=>by
  rw[zo]at h;split at h
  . cases h;exact Ab _
  . cases h
 |x::xs,env,s,a,p,s',h=>by
  rw[zo]at h;split at h
  . split at h
    . cases h
    . rename_i env' he
      cases hc:v8 Φ G elt ifs env' s a with
      |e q s1=>
       rw[hc]at h;have S:=t8 h;have R:q.1.length<=a.length+1:=by
        unfold v8 at hc;cases h3:yG Φ G env' ifs s with
        |e b s2=>
         rw[h3]at hc;cases b with
         |true=>
          simp only[zN,if_true]at hc;cases h4:evE Φ G env' elt s2 with
          |e v N=>rw[h4]at hc;cases hc;simp
          |g _ _ _=>rw[h4]at hc;cases hc
          |d=>rw[h4]at hc;cases hc
         |false=>simp only[zN]at hc;cases hc;exact Dg _
        |g _ _ _=>rw[h3]at hc;cases hc
        |d=>rw[h3]at hc;cases hc
       rw[Ak];omega
      |g _ _ _=>rw[hc]at h;cases h
      |d=>rw[hc]at h;cases h
  . cases h
end
end M
end
section
namespace M
open PySem PySem.W
structure Lv(T:Tbl)(P:Program)(w:World)(K:KF)(mg:Str->Option Value)(base:Heap)(n:Nat):Prop where
 ex:∀f v F,T.c f v=some F->∃fa fd,mg f=some (.ref fa)/\C8 K (.ref fa)=true/\L2.Binds K fd F.a []/\L2.sj P w K mg base L2.CX0 n fa fd F.a (spN T K mg n f v)
end M
end
section
namespace L2
open PySem PySem.Spec PyProof.Rows
def UW(tabs:List Addr)(H:Hp):Prop:=∀b,H b=none\/(∃o xs,H b=some (.g o (.b xs)))\/(b∈tabs/\H b=some (.d #[]))
def gM{K}{tabs:List Addr}
 (KX:K.In s₁.heap) (hns:s₁.heap.Ns Bq mg) (N:s₁.heap.Ns builtinsNs mb) (hbb:∀x:Str,x≠"__name__"->mb x=Di x) (hlim:s₁.heap.NoLimit) (hg:s₁.gens=#[])
 (ha:s₁.heap.get? a=some {cls:=.type "list",data:=.seq vs.toArray}) (hi:IntsAre vs ns) (hl:ns.length<=AI) (hr:y6 k callerA)
 (Z:∀b∈tabs,s₁.heap.get? b=some (Gj #[])/\K.lookup b=none/\isCodeTable s₁.heap b)
 (F:∀base:Heap,K.In base->base.Ns Bq mg->sj P w K mg base CX k fa fd [x] sp) (X:∀s u,BindsTo s fd ⟨[u],[]⟩ [(x,u)])
 (hsp:∀H:Hp,(∀b∈tabs,H b=some (.d #[]))->SqL K H a (ns.map V.d)->sp [.c a] H (λv _=>v=.e true) λ_ _ _=>False)
 (hCX:∀H e s',CX [] H s₁ (λ_ _ _=>False) e s'->False) :
 codeAny (model P w) callerA (.call (.ref fa) ⟨[.ref a],[]⟩) (λr s'=>r=.ok (.ret (.bool true))/\OldK s₁.heap s'.heap/\s'.os=s₁.os/\AllBare s'.gens) s₁:=by
 have rv:=pM hi;have lenV:=hi.length;have nat:a ∉ tabs:=λz=>by have:=(Z a z).1;rw[ha]at this;cases this
 have W:∀H:Hp,UW tabs H->(∀b∈tabs,H b=some (.d #[]))->SqL K H a (ns.map V.d)->HOk P w H s₁.heap->(∀b,H b≠none->b=a\/b∈tabs)->(H a≠none->K.lookup a=none) ->
  codeAny (model P w) callerA (.call (.ref fa) ⟨[.ref a],[]⟩) (λr s'=>r=.ok (.ret (.bool true))/\OldK s₁.heap s'.heap/\s'.os=s₁.os/\AllBare s'.gens) s₁:=by
  intro H hO hT hS hok hA hK;have uZ:∀{b:Addr} {o:Obj},s₁.heap.get? b=some o->H b=none->(p8 s₁.heap H).get? b=some o:=λe n=>dC e n;have noA:∀{b:Addr} {o:Obj} {es:Array DictEntry} {ep:Nat},s₁.heap.get? b=some o->o.data=.dict es ep->H b=none:=λ{b o es ep} e d=>by
   cases q:H b with
   |none=>rfl
   |some u=>
    rcases hA b (by rw[q];simp) with Y|Y
    . subst Y
      rw[ha]at e;cases e;have d':Data.seq vs.toArray _=Data.dict es ep:=d;cases d'
    . rw[(Z b Y).1]at e;cases e
      have d':HN #[]=Data.dict es ep:=d;cases d'
  have S:∀{b:Addr} {m:Str->Option Value},s₁.heap.Ns b m->(p8 s₁.heap H).Ns b m:=λ{b m} ⟨o,es,ep,e,d,r⟩=>⟨o,es,ep,uZ e (noA e d),d,r⟩;have hKb:K.In (p8 s₁.heap H):=λb o e=>uZ (KX b o e) (by
   cases q:H b with
   |none=>rfl
   |some u=>
    rcases hA b (by rw[q];simp) with Y|Y
    . subst Y
      rw[hK (by rw[q];simp)]at e;cases e
    . rw[(Z b Y).2.1]at e;cases e)
  have hM:Mod K mg (p8 s₁.heap H):=⟨hKb,S hns,⟨mb,S N,hbb⟩,let ⟨mc,h1,h2⟩:=hlim;⟨mc,S h1,h2⟩⟩;have e0:aS P w K mg (p8 s₁.heap H) callerA [] s₁ H:=⟨rfl,hM,λb o e=>Zl e,B7 (hZ _ _),trivial,λb N=>absurd (show b∈([]:List Addr) from N) (by simp),hok,.of_eq hg⟩
  refine FQ ((F _ hKb (S hns)).a callerA [] s₁ H ⟨[.ref a],[]⟩ [.ref a] [.c a] _ _ hr e0 (X s₁ (.ref a)) (.cons rfl .nil) (hsp H hT hS)) λr s' h=>?_;cases r with
  |error e=>exact(hCX H e s' h).elim
  |ok fl=>
   cases fl with
   |next=>exact De h
   |brk=>exact De h
   |cont=>exact De h
   |ret u=>
    obtain⟨v,H',os,bare,un,U,r',q⟩:=h;have q':v=.e true:=q;subst q';obtain rfl:u=DV true:=r';have all:∀b o,s₁.heap.get? b=some o->asItWas s₁.heap s'.heap b o:=λb o e=>by
     cases q:H b with
     |none=>exact .inl (un.d b o e q (by intro z;exact absurd (show b∈([]:List Addr) from z) (by simp)) (by simp))
     |some u=>
      rcases hO b with z|⟨ob,xs,z⟩|⟨z1,z⟩
      . rw[q]at z;cases z
      . have z2:=un.g b ob _ z
        obtain⟨e1,_⟩:=hok b _ z;obtain⟨e2,_⟩:=U b _ z2;rw[e]at e1;cases e1;exact .inl e2
      . obtain⟨more,z2⟩:=un.j b _ z
        have e2:s'.heap.get? b=some (Gj (#[]++more)):=U b _ z2;obtain⟨t1,_,t3⟩:=Z b z1;rw[e]at t1;cases t1;exact .inr (.inl ⟨t3,rfl,#[],more,rfl,e2⟩)
    exact⟨rfl,⟨all,λb o e=>by
     rcases all b o e with z|⟨_,_,_,_,_,z⟩|⟨_,_,⟨o',_,_,z,_⟩,_⟩
     . exact⟨_,z⟩
     . exact⟨_,z⟩
     . exact⟨_,z⟩⟩,os,bare⟩
 cases hk:K.lookup a with
 |some o=>
  have e:=KX a o hk;rw[ha]at e;cases e;refine W (λb=>if b∈tabs then some (.d #[]) else none) (λb=>?_) (λb N=>if_pos N) (.inr ⟨_,vs.toArray,_,hk,rfl,rfl,rfl,by rw[Ae,lenV];exact hl,by simpa using rv⟩) (λb u z=>?_) (λb z=>?_) λz=>?_
  . by_cases N:b∈tabs
    . exact .inr (.inr ⟨N,if_pos N⟩)
    . exact .inl (if_neg N)
  . by_cases N:b∈tabs
    . have R:=(if_pos N).symm.trans z
      cases R;exact(Z b N).1
    . have R:=(if_neg N).symm.trans z
      cases R
  . by_cases N:b∈tabs
    . exact .inr N
    . exact absurd (if_neg N) z
  . exact absurd (if_neg nat) z
 |none=>
  refine W (λb=>if b=a then some (.g {cls:=.type "list",data:=.seq vs.toArray} (.b (ns.map V.d))) else if b∈tabs then some (.d #[]) else none) (λb=>?_) (λb N=>(if_neg (λz=>nat (by rw[<-z];exact N))).trans (if_pos N)) (.inl (.inr ⟨{cls:=.type "list",data:=.seq vs.toArray},if_pos rfl⟩)) (λb u z=>?_) (λb z=>?_) λ_=>hk
  . by_cases N:b=a
    . exact .inr (.inl ⟨_,_,if_pos N⟩)
    . by_cases hb2:b∈tabs
      . exact .inr (.inr ⟨hb2,(if_neg N).trans (if_pos hb2)⟩)
      . exact .inl ((if_neg N).trans (if_neg hb2))
  . by_cases N:b=a
    . have R:=(if_pos N).symm.trans z
      cases R;subst N;exact⟨ha,by rw[Aa];exact hl,vs,_,rv,ha⟩
    . by_cases hb2:b∈tabs
      . have R:=((if_neg N).trans (if_pos hb2)).symm.trans z
        cases R;exact(Z b hb2).1
      . have R:=((if_neg N).trans (if_neg hb2)).symm.trans z
        cases R
  . by_cases N:b=a
    . exact .inl N
    . by_cases hb2:b∈tabs
      . exact .inr hb2
      . exact absurd ((if_neg N).trans (if_neg hb2)) z
end L2
end
section
namespace M
open PySem
noncomputable def Y9(sc:Scope)(x:Str):Bool:=decide (sc.names.lookup x=some .local)||decide (sc.names.lookup x=some .cell)||decide (sc.names.lookup x=some .free)
noncomputable def xq(sc:Scope)(x:Str):Bool:=decide (sc.names.lookup x=some .globalImplicit)
noncomputable def wa:List Str:=["len","all","any","tuple","list","sorted","repr","max","min","sum","int","isinstance","divmod","str","bool","dict","set","range","enumerate","zip"]
noncomputable def S4(y:Str)(n:String):Bool:=(decide (y="int")&&decide (n="int"))||(decide (y="bool")&&decide (n="bool"))||(decide (y="str")&&decide (n="str"))||(decide (y="list")&&decide (n="list"))||(decide (y="tuple")&&decide (n="tuple"))||(decide (y="dict")&&decide (n="dict"))
noncomputable def vC:Val->Option Const
 |.h=>some .none
 |.e b=>some (.bool b)
 |.c i=>some (.int i)
 |.m x=>some (.str x)
 |_=>none
def Ue(v:Val)(e:Expr):Bool:=X2 e λc _ _=>decide (vC v=some c)
noncomputable def isLit:Ex->Int->Bool
 |.g (.c i),j=>decide (i=j)
 |_,_=>false
noncomputable def RT:Ex->Bool
 |.g (.m _)=>true
 |_=>false
def nk(h:isLit e j=true):e=.g (.c j):=by
 unfold isLit at h;split at h
 . rw[of_decide_eq_true h]
 . cases h
def ckM(f:Mf)(k:Expr->Bool)(l:List Expr->Bool)(e:Expr):Bool:=(eMt e λN x ap y R=>decide (x=f.nm)&&k N&&l [y]&&plain y&&oO N&&(ap.endLine == R.line)&&okM f)
noncomputable def RO(e:Expr)(k:Expr->Bool):Bool:=match e with
 |.SetComp _ (⟨_,i,_,0⟩::_) _ _=>k i
 |_=>false
def eSC(e:Expr)(k:Expr->List Dw->Scope->Pos->Bool):Bool:=el e.ctorIdx 9 λh=>GZ (motive_1:=λ_=>Bool) e h k
def ao(h:eSC e k=true):∃x N sc p,e=.SetComp x N sc p/\k x N sc p=true:=by obtain⟨R,h⟩:=yJ h;obtain⟨x,N,sc,p,rfl⟩:∃x N sc p,e=.SetComp x N sc p:=GZ (motive_1:=λe=>∃x N sc p,e=Expr.SetComp x N sc p) e R λx N sc p=>⟨x,N,sc,p,rfl⟩;exact⟨x,N,sc,p,rfl,h⟩
def sG2(e:Expr)(k:Expr->Expr->Expr->List Expr->Expr->Expr->List Expr->Scope->Bool):Bool:=eSC e λx N sc _=>lc N λg N=>l1 N λS=>gC g λt i f=>gC S λR i2 f2=>k x t i f R i2 f2 sc
def YM(h:sG2 e k=true):∃x t i f N i2 f2 sc p,e=.SetComp x [⟨t,i,f,0⟩,⟨N,i2,f2,0⟩] sc p/\k x t i f N i2 f2 sc=true:=by obtain⟨x,Z,sc,p,rfl,X⟩:=ao h;obtain⟨g,Y,rfl,W⟩:=xA X;obtain⟨g2,rfl,U⟩:=yU W;obtain⟨t,i,f,rfl,S⟩:=rQ U;obtain⟨N,i2,f2,rfl,R⟩:=rQ S;exact⟨x,t,i,f,N,i2,f2,sc,p,rfl,R⟩
def X4(sc:Scope)(e:Expr)(k:Expr->Bool):Bool:=eCN e λx xs=>l1 xs λy=>(decide (x="sorted")&&xq sc x)&&k y
def nW(h:X4 sc e k=true):∃p y pos,e=.Call (.Name "sorted" p) [y] [] pos/\sc.names.lookup ("sorted":Str)=some .globalImplicit/\k y=true:=by obtain⟨x,p,xs,pos,rfl,U⟩:=xg h;obtain⟨y,rfl,N⟩:=yU U;simp only[ub,decide_eq_true_eq,xq]at N;obtain⟨⟨rfl,S⟩,R⟩:=N;exact⟨p,y,pos,rfl,S,R⟩
noncomputable def stF:Exs->Bool
 |.a (.C _) .b=>true
 |_=>false
noncomputable def Tf:Ex->Bool
 |.C _=>false
 |_=>true
def ckA(sc:Scope)(f:Str)(q:List Expr->Bool)(e:Expr):Bool:=eCN e λx xs=>decide (x=f)&&xq sc x&&!(x == ("__debug__":Str))&&q xs&&yV xs
mutual
noncomputable def ck(sc:Scope)(N:List Str):Ex->Expr->Bool
 |.g v,e=>Ue v e
 |.e i,e=>(eName e λx _=>decide (N[i]?=some x)&&Y9 sc x&&!(x == ("__debug__":Str))&&!(x == ("__classdict__":Str)))
 |.L y,e=>(eName e λx _=>decide (x=y)&&xq sc x&&!(x == ("__debug__":Str)))
 |.M y n,e=>(eName e λx _=>decide (x=y)&&xq sc x&&S4 y n)
 |.j _ op a b,e=>(Ui e λl o r _=>(okB op&&decide (o=op.op))&&ck sc N a l&&ck sc N b r)
 |.B a,e=>(eOp .USub e λx=>ck sc N a x)
 |.G a,e=>(eOp .Not e λx=>ck sc N a x)
 |.p op a b,e=>(eC1 e λl o r=>(okC op&&decide (o=op.op))&&ck sc N a l&&ck sc N b r&&plain r)
 |.y op op' a b c,e=>(eC2 e λl o Y r W=>(okC op&&decide (o=op.op))&&(okC op'&&decide (Y=op'.op))&&ck sc N a l&&ck sc N b r&&ck sc N c W&&plain W)
 |.w a es,e=>(eBl .And e λx xs=>ck sc N a x&&ckL sc N es xs)
 |.O _ _,_=>false
 |.I c a b,e=>(Uk e λt x y _=>ckC sc N c t&&ck sc N a x&&ck sc N b y)
 |.q es,e=>(eU e λxs _ _=>ckL sc N es xs&&yV xs)
 |.u _ es,e=>(Ul e λxs _=>ckL sc N es xs&&yV xs)
 |.H,_=>false
 |.E _,e=>(eD0 e)
 |.P _ _,_=>false
 |.C a,e=>RO e λi=>ck sc N a i
 |.D _ a,e=>(X4 sc e λy=>eCN y λz zs=>l1 zs λu=>decide (z="set")&&xq sc z&&ck sc N a u&&plain u)
 |.K _ _ _ _ _ _ _,_=>false
 |.A _ N' fr elt t it ifs t2 it2 ifs2,e=>(X4 sc e λy=>sG2 y λx tg iter fs S R U csc=>L2.tQ sc N N' csc fr&&decide N'.Nodup&&ckT csc N' t tg&&ckI sc N it iter tg&&pZ csc N' ifs fs&&ckT csc N' t2 S&&ckI csc N' it2 R S&&pZ csc N' ifs2 U&&ck csc N' elt x&&plain iter&&plain R)
 |.h f ver es,e=>if ver<100 then ckA sc f (λxs=>ckL sc N es xs) e else false
 |.k f _ es,e=>(eCN e λx xs=>lc xs λy ys=>((okF f||stF es)&&decide (x=f.nm))&&xq sc x&&ckL sc N es (y::ys)&&yV (y::ys))
 |.J _ _,_=>false
 |.Q f _ o es,e=>ckM f (λX=>ck sc N o X) (λys=>ckL sc N es ys) e
 |.r a b,e=>(au e λl r _=>ck sc N a l&&ck sc N b r&&plain r)
 |.F _ a lo hi st,e=>(eSS e λl x y z=>ck sc N a l&&ckO sc N lo x&&ckO sc N hi y&&ckO sc N st z)
 |.l _ N' fr elt t it ifs,e=>(eG1 e λx tg iter fs csc=>L2.tQ sc N N' csc fr&&decide N'.Nodup&&ckT csc N' t tg&&ckI sc N it iter tg&&pZ csc N' ifs fs&&ck csc N' elt x&&plain iter)
 |.z _ N' fr elt t it ifs t2 it2 ifs2,e=>(eG2 e λx tg iter fs S R U csc=>L2.tQ sc N N' csc fr&&decide N'.Nodup&&ckT csc N' t tg&&ckI sc N it iter tg&&pZ csc N' ifs fs&&ckT csc N' t2 S&&ckI csc N' it2 R S&&pZ csc N' ifs2 U&&ck csc N' elt x&&plain iter&&plain R)
 |.s _ z a w,e=>(eCN e λx xs=>l1 xs λi=>eCN i λy ys=>lc ys λc ds=>if ds.isEmpty then (if RT w then false else isLit z 0&&isLit w 1&&decide (x="list")&&decide (y="range"))&&xq sc x&&xq sc y&&ck sc N a c&&plain c else false)
noncomputable def ckL(sc:Scope)(N:List Str):Exs->List Expr->Bool
 |.b,es=>es.isEmpty
 |.a a as,es=>(lc es λe es=>ck sc N a e&&ckL sc N as es)
noncomputable def ckO(sc:Scope)(N:List Str):OEx->Option Expr->Bool
 |.b,e=>e.isNone
 |.a a,e=>(o1 e λe=>ck sc N a e)
noncomputable def ckC(sc:Scope)(N:List Str):Cn->Expr->Bool
 |.a a,e=>ck sc N a e&&(plainT e||decide (e.ctorIdx=15))
 |.b c,e=>(eOp .Not e λx=>ckC sc N c x)
 |.d c cs,e=>(eBl .And e λx xs=>ckC sc N c x&&pZ sc N cs xs)
 |.f c cs,e=>(eBl .Or e λx xs=>ckC sc N c x&&pZ sc N cs xs)
noncomputable def pZ(sc:Scope)(N:List Str):Cns->List Expr->Bool
 |.a,es=>es.isEmpty
 |.b a as,es=>(lc es λe es=>ckC sc N a e&&pZ sc N as es)
noncomputable def ckI(sc:Scope)(N:List Str):Itb->Expr->Expr->Bool
 |.f a,e,_=>ck sc N a e
 |.d a,e,_=>(eCN e λx xs=>l1 xs λy=>decide (x="range")&&xq sc x&&ck sc N a y&&plain y)
 |.g a b,e,_=>(eCN e λx xs=>lc xs λy ys=>l1 ys λz=>decide (x="range")&&xq sc x&&ck sc N a y&&ck sc N b z&&plain y&&plain z)
 |.i _ _ _,_,_=>false
 |.h a,e,tg=>(decide (tg.ctorIdx=25)&&eCN e λx xs=>l1 xs λy=>decide (x="enumerate")&&xq sc x&&ck sc N a y&&plain y)
 |.j _ _,_,_=>false
end
structure Ok(T:Tbl)(n:Nat)(sc:Scope)(N:List Str)(X:L2.Cx):Prop where
 d:X.g=true
 g:L2.y6 n X.A
 c:Scp sc N X
 m:∀f v F,T.c f v=some F->Callee T n X f v F
 r:∀x v,T.b x=some v->∃u xv,X.d x=some u/\L2.RelV xv u/\∀ρ H,RD X.K X.d ρ H v xv
 l:∀x∈wa,X.d x=none
 xe:X.h=λ_ _=>False
 no:∀f v,100<=v->T.c f v=none
def nR(S:Scp sc N X)(h:L2.tQ sc N N' csc fr=true):L2.zc X N' csc fr:=by
 unfold L2.tQ at h;simp only[ub,A5,Bd,decide_eq_true_eq,Ar]at h;obtain⟨⟨⟨⟨⟨⟨⟨a1,a2⟩,a3⟩,a4⟩,a5⟩,a6⟩,a7⟩,a8⟩:=h;refine⟨a1,λx h1 h2=>(a2 _ h1).elim (λz=>z rfl) λz=>z _ h2 rfl,λx hx hk=>?_,λx hx hk=>?_,a5,λi j x R U=>?_,λx R U=>?_⟩
 . rcases a3 x hx with z|z
   . exact absurd hk z
   . exact z
 . rcases a4 x hx with z|z
   . exact absurd hk z
   . exact S.cf x.1 z
 . have hi:i<N'.length:=(Ai.mp R).1
   have q:=a6 i hi;rw[R,U]at q;simp only[ub,decide_eq_true_eq,CC]at q;obtain⟨q1,y,Z,Y,W⟩:=q;refine⟨by rw[S.b];exact q1,?_⟩
   have:y=(x,A6):=G7 Y W;rw[<-this];exact Z
 . rcases a7 (x,.free) U with z|z
   . exact z rfl
   . exact z R
def wY(h:sc.names.lookup x=some .local):(relabel sc env).names.lookup x=some .local:=lookup_relabel_local h
def kR(h:sc.names.lookup x=some .globalImplicit):(relabel sc env).names.lookup x=some .globalImplicit:=by
 have key:∀(names:List (Str × Gb)),names.lookup x=some .globalImplicit->(names.map λ(n,k)=>if (k == A6&&env.scope.kind == .function&&env.kindOf n == some .cell) then (n,BB) else (n,k)).lookup x=some .globalImplicit:=by
  intro names;induction names with
  |nil=>intro h;simp at h
  |cons p r N=>
   obtain⟨n,k⟩:=p;intro h;rw[AF];dsimp only;cases hx:(x == n) with
   |true=>
    rw[AB,hx]at h;cases h;have e:(Gb.globalImplicit == A6)=false:=rfl;rw[e];simp only[Ei,Aw,if_false,AB,hx]
   |false=>
    rw[AB,hx]at h;have:=N h;split<;>simpa only[AB,hx] using this
 exact key sc.names h
theorem Scp.comp(S:Scp sc N X)(R:L2.zc X N' csc fr)(nd:N'.Nodup)C s0 H0 ex:Scp csc N' (X.comp N' csc C s0 H0 ex):=by
 refine⟨rfl,nd,λx h=>?_,λx h=>?_,λx h=>?_,λx h=>?_⟩
 . rcases h with h|h|h
   . exact .inl (wY h)
   . exact .inr (.inl (L2.vK h))
   . exact(L2.u6 R.a h).elim (λz=>.inr (.inl z)) λz=>.inr (.inr z)
 . rcases h with h|h
   . exact⟨.inl (wY h),.inr (wY h)⟩
   . exact⟨.inr (L2.vK h),.inl (CC.mpr ⟨_,C4 h,decide_eq_true rfl⟩)⟩
 . exact kR h
 . rcases h with h|h
   . exact .inl (L2.vK h)
   . exact L2.u6 R.a h
theorem Callee.comp(c:Callee T n X f v F)N' csc C s0 H0 ex:Callee T n (X.comp N' csc C s0 H0 ex) f v F:=⟨c.a⟩
theorem Ok.comp(o:Ok T n sc N X)(S:L2.zc X N' csc fr)(nd:N'.Nodup)(R:L2.tQ sc N N' csc fr=true)C s0 H0 ex:Ok T n csc N' (X.comp N' csc C s0 H0 ex):=
 ⟨o.d,o.g,o.c.comp S nd C s0 H0 ex,λf v F h=>(o.m f v F h).comp N' csc C s0 H0 ex,o.r,o.l,rfl,o.no⟩
section
variable {T:Tbl}{n:Nat}
def JE(T:Tbl)(n:Nat)(a:Ex):Prop:=∀(sc:Scope) (N:List Str) (X:L2.Cx) (e:Expr),Ok T n sc N X->ck sc N a e=true->∀env s,L2.PE X e (tV X.K X.d env s (evE (zE T n) T.b env a s))
def JL(T:Tbl)(n:Nat)(a:Exs):Prop:=∀(sc:Scope) (N:List Str) (X:L2.Cx) (es:List Expr),Ok T n sc N X->ckL sc N a es=true ->
 (yV es=true->∀env s,L2.PA X es (tVs X.K X.d env s (yi (zE T n) T.b env a s))) /\
 (∀e R pos,es=e::R->∀env s,L2.PE X (.BoolOp .And es pos) (tV X.K X.d env s (sF (zE T n) T.b env a s))) /\
 (∀e R pos,es=e::R->∀env s,L2.PE X (.BoolOp .Or es pos) (tV X.K X.d env s (nY (zE T n) T.b env a s))) /\
 (∀y,es=[y]->plain y=true->∃b,a=.a b .b/\∀env s,L2.PE X y (tV X.K X.d env s (evE (zE T n) T.b env b s)))
def JO(T:Tbl)(n:Nat)(a:OEx):Prop:=∀(sc:Scope) (N:List Str) (X:L2.Cx) (e:Option Expr),Ok T n sc N X->ckO sc N a e=true->(∀env s,L2.PO X e (tO X.K X.d env s (evO (zE T n) T.b env a s))) /\
 ((e=none/\∀env s1,evO (zE T n) T.b env a s1=.e none s1)\/∃R,e=some R/\∀env s1 s2,evO (zE T n) T.b env a s1≠.e none s2)
def JC(T:Tbl)(n:Nat)(a:Cn):Prop:=∀(sc:Scope) (N:List Str) (X:L2.Cx) (e:Expr),Ok T n sc N X->ckC sc N a e=true->∀env s,L2.PT X e (tT X.K X.d env s (evT (zE T n) T.b env a s))
def JCs(T:Tbl)(n:Nat)(a:Cns):Prop:=∀(sc:Scope) (N:List Str) (X:L2.Cx) (es:List Expr),Ok T n sc N X->pZ sc N a es=true ->
 (∀pos env s,L2.PW X (.BoolOp .And es pos) (tT X.K X.d env s (yG (zE T n) T.b env a s)))/\(∀pos env s,L2.PW X (.BoolOp .Or es pos) (tT X.K X.d env s (sM (zE T n) T.b env a s)))/\L2.PTs X es (uTs X.K X.d (zE T n) T.b a)
def JI(T:Tbl)(n:Nat)(a:Itb):Prop:=∀(sc:Scope) (N:List Str) (X:L2.Cx) (e tg:Expr),Ok T n sc N X->ckI sc N a e tg=true->∀env s,L2.PI X tg e (tI (K:=X.K) (mg:=X.d) env s (zy (zE T n) T.b env a s))
def Wh:JE T n (.g v):=by
 intro sc N X e o h env s;show L2.PE X e (tV X.K X.d env s (.e v s));replace h:=eO h;obtain⟨c,k,p,rfl,h⟩:=h;have h:=of_decide_eq_true h;cases v with
 |h=>cases h;exact zk L2.Vc λσ H Q ⟨ρ,hr,er,w⟩=>zJ hr .A w
 |e b=>cases h;exact zk L2.T9 λσ H Q ⟨ρ,hr,er,w⟩=>zJ hr (.j _) w
 |c i=>cases h;exact zk L2.Va λσ H Q ⟨ρ,hr,er,w⟩=>zJ hr (.l _) w
 |m x=>cases h;exact zk L2.Vf λσ H Q ⟨ρ,hr,er,w⟩=>zJ hr (.E _) w
 |_=>cases h
def Wl:JE T n (.e i):=by
 intro sc N X e o h env s;replace h:=yp h;obtain⟨x,p,rfl,h⟩:=h;simp only[ub,decide_eq_true_eq,Y9,Bd,Bu]at h;obtain⟨⟨⟨h1,h2⟩,Z⟩,Y⟩:=h;have S:L2.Vis X.a.scope x:=o.c.e x (by rcases h2 with (z|z)|z;exact .inl z;exact .inr (.inl z);exact .inr (.inr z))
 show L2.PE X _ (tV X.K X.d env s (match env[i]? with|some (some v)=>.e v s|_=>.d))
 refine zk (L2.Vh (i:=i) (by rw[o.c.b];exact h1) S Z Y) λσ H Q ⟨ρ,hr,er,w⟩=>?_
 split at w
 . rename_i v e
   obtain⟨R,W,U⟩:=er.a i v e;exact⟨R,W,zJ hr U w⟩
 . exact w.elim
def TC:JE T n (.L y):=by
 intro sc N X e o h env s;replace h:=yp h;obtain⟨x,p,rfl,h⟩:=h;simp only[ub,decide_eq_true_eq,xq,Bu]at h;obtain⟨⟨U,S⟩,R⟩:=h;subst U;show L2.PE X _ (tV X.K X.d env s (match T.b x with|some v=>.e v s|dS=>.d))
 cases hv:T.b x with
 |none=>exact zH (zD rfl)
 |some v=>
  obtain⟨u,xv,Z,Y,W⟩:=o.r x v hv;exact zk (L2.Z4 (o.c.a x S) Z Y R) λσ H Q ⟨ρ,hr,er,w⟩=>zJ hr (W ρ H) w
def TJ:JE T n (.M y m):=by
 intro sc N X e o h env s;replace h:=yp h;obtain⟨x,p,rfl,h⟩:=h;simp only[ub,decide_eq_true_eq,xq]at h;obtain⟨⟨U,S⟩,R⟩:=h;subst U;show L2.PE X _ (tV X.K X.d env s (.e (.t m) s));have key:x∈wa/\Di x=some (.type m)/\x≠"__name__"/\(x == ("__debug__":Str))=false:=by
  unfold S4 at R;simp only[Bd,ub,decide_eq_true_eq]at R;rcases R with ((((⟨rfl,rfl⟩|⟨rfl,rfl⟩)|⟨rfl,rfl⟩)|⟨rfl,rfl⟩)|⟨rfl,rfl⟩)|⟨rfl,rfl⟩
  . exact⟨by decide,PyProof.Rows.boot_int,by decide,by decide⟩
  . exact⟨by decide,PyProof.Rows.boot_bool,by decide,by decide⟩
  . exact⟨by decide,PyProof.Rows.boot_str,by decide,by decide⟩
  . exact⟨by decide,Fm,by decide,by decide⟩
  . exact⟨by decide,Hz,by decide,by decide⟩
  . exact⟨by decide,PyProof.Rows.boot_dict,by decide,by decide⟩
 exact zk (L2.SG (o.c.a x S) (o.l x key.1) key.2.1 key.2.2.1 key.2.2.2) λσ H Q ⟨ρ,hr,er,w⟩=>zJ hr (.J _) w
def ZU:JE T n (.E t):=by
 intro sc N X e o h env s;obtain⟨p,rfl⟩:=ai h;show L2.PE X _ (tV X.K X.d env s (.e (.q s.length) (s++[if t then .e [] else .d []])))
 cases t with
 |true=>exact zk L2.cx λσ H Q ⟨ρ,hr,er,w⟩ p hp=>w _ _ _ (Ext.own hr hp _) (hr.wC hp ⟨[],L2.zY,rfl,.d⟩) (.s (sW hr p) (by rw[L2.zY];decide))
 |false=>exact zk L2.cw λσ H Q ⟨ρ,hr,er,w⟩ p hp=>w _ _ _ (Ext.own hr hp _) (hr.wC hp ⟨[],L2.zY,rfl,.d⟩) (.s (sW hr p) (by rw[L2.zY];decide))
def nN(h:zQ op x y s=.e v s'):∃b,v=.e b:=by unfold zQ at h;split at h<;>(split at h<;>first|(cases h;exact⟨_,rfl⟩)|cases h|(split at h<;>first|(cases h;exact⟨_,rfl⟩)|cases h|(split at h<;>first|(cases h;exact⟨_,rfl⟩)|cases h|(split at h<;>first|(cases h;exact⟨_,rfl⟩)|cases h))))
def qF{o:Out Val}(U:∀v s',o=.e v s'->∃b,v=.e b)(w:yX K mg (λ_ _ a b=>a=b) ρ H o.truth Q):yX K mg (RD K mg) ρ H o λx H'=>∃k,x=.e k/\Q k H':=by
 cases o with
 |e v s1=>
  obtain⟨b,rfl⟩:=U v s1 rfl;intro ρ1 x H1 R N S;cases S;exact⟨b,rfl,w _ _ _ R N rfl⟩
 |g _ _ _=>exact w
 |d=>exact w
def Wr{f2:Sto->Out Val}(k1:okC op=true)(U:L2.y6 k X.A)(h1:L2.PE X a (tV X.K X.d env s o))(h2:∀s1,L2.PE X b (tV X.K X.d env s1 (f2 s1)))(hm:plain b=true) :
 L2.PT X (.Compare a [op.op] [b] pos) (tT X.K X.d env s (o.bind λx s1=>(f2 s1).bind λy s2=>zQ op x y s2).truth):=by
 cases o with
 |e v s1=>
  have S:=h2 s1;show L2.PT X _ (tT X.K X.d env s ((f2 s1).bind λy s2=>zQ op v y s2).truth);cases hb:f2 s1 with
  |e w s2=>
   rw[hb]at S;exact oZ (L2.YE (tq U op k1) h1 S (vI hm)) λσ H Q ⟨ρ,hr,er,wt⟩=>⟨ρ,hr,er,λρ1 x H1 Y R r1=>⟨ρ1,R,er.mono Y,λρ2 y H2 W N Z=>⟨ρ2,s2,v,w,N,r1.mono W,Z,qF (λ_ _ h=>nN h) (wt.mono (Y.trans R W) N)⟩⟩⟩
  |g _ _ _=>exact yE (zD rfl)
  |d=>exact yE (zD rfl)
 |g _ _ _=>exact yE (zD rfl)
 |d=>exact yE (zD rfl)
def dj{X:L2.Cx}{env:Env}{s:Sto}{a b c:Expr}{op R:Cop}{o:Out Val}{f2 f3:Sto->Out Val}{k:Nat}{pos:Pos}(k1:okC op=true)(k2:okC R=true)(hr0:L2.y6 k X.A)(h1:L2.PE X a (tV X.K X.d env s o))(h2:∀s1,L2.PE X b (tV X.K X.d env s1 (f2 s1)))(h3:∀s1,L2.PE X c (tV X.K X.d env s1 (f3 s1)))(hm:plain c=true) :
 L2.PT X (.Compare a [op.op,R.op] [b,c] pos) (tT X.K X.d env s (o.bind λx s1=>(f2 s1).bind λy s2=>(zQ op x y s2).bind λr U=>match r with
  |.e true=>(f3 U).bind λz Z=>zQ R y z Z
  |.e false=>.e (.e false) U
  |_=>.d).truth):=by
 cases o with
 |e v s1=>
  have h2':=h2 s1;show L2.PT X _ (tT X.K X.d env s ((f2 s1).bind _).truth);cases hb:f2 s1 with
  |e w s2=>
   rw[hb]at h2';show L2.PT X _ (tT X.K X.d env s ((zQ op v w s2).bind _).truth);cases hc:zQ op v w s2 with
   |e r U=>
    cases r with
    |e t=>
     have h3':=h3 U;have rule:=L2.bN (pos:=pos) (tq hr0 op k1) (tq hr0 R k2) h1 h2' h3' (show Iw [op.op,R.op] [b,c]=false from vI hm);refine oZ rule λσ H Q ⟨ρ,hr,er,wt⟩=>⟨ρ,hr,er,λρ1 x H1 x1 hr1 r1=>⟨ρ1,hr1,er.mono x1,λρ2 y H2 x2 hr2 r2=>⟨ρ2,s2,v,w,hr2,r1.mono x2,r2,?_⟩⟩⟩;rw[hc];intro W z H3 x3 S r3;cases r3;refine⟨t,rfl,?_⟩;have xx:=(x1.trans hr1 x2).trans hr2 x3;have Y:=wt.mono xx S;cases t with
     |true=>
      rw[if_pos rfl];refine⟨W,S,er.mono xx,?_⟩;have N:yX X.K X.d (λ_ _ a b=>a=b) W H3 ((f3 U).bind λz Z=>zQ R w z Z).truth Q:=Y;cases hz:f3 U with
      |e u Z=>
       rw[hz]at N;exact λρ4 q H4 x4 hr4 r4=>⟨ρ4,Z,w,u,hr4,(r2.mono x3).mono x4,r4,qF (λ_ _ h=>nN h) (N.mono x4 hr4)⟩
      |g _ _ _=>rw[hz]at N;exact N
      |d=>rw[hz]at N;exact N
     |false=>
      rw[if_neg Ag];exact⟨false,rfl,Y _ _ _ Ext.refl S rfl⟩
    |_=>exact yE (zD rfl)
   |g _ _ _=>exact yE (zD rfl)
   |d=>exact yE (zD rfl)
  |g _ _ _=>exact yE (zD rfl)
  |d=>exact yE (zD rfl)
 |g _ _ _=>exact yE (zD rfl)
 |d=>exact yE (zD rfl)
def We(W:JE T n a)(U:JE T n b):JC T n (.a (.p op a b)):=by intro sc N X e o h env s;replace h:=jd (yg h).1;obtain⟨_,_,_,_,rfl,R⟩:=h;simp only[ub,decide_eq_true_eq]at R;obtain⟨⟨⟨⟨S,rfl⟩,h3⟩,Z⟩,Y⟩:=R;exact Wr S o.g (W _ _ _ _ o h3 env s) (λs1=>U _ _ _ _ o Z env s1) Y
def dW(Z:JE T n a)(Y:JE T n b)(W:JE T n c):JC T n (.a (.y op op' a b c)):=by intro sc N X e o h env s;replace h:=jf (yg h).1;obtain⟨_,_,_,_,_,_,rfl,R⟩:=h;simp only[ub,decide_eq_true_eq]at R;obtain⟨⟨⟨⟨⟨⟨U,rfl⟩,S,rfl⟩,h3⟩,h4⟩,h5⟩,h6⟩:=R;exact dj U S o.g (Z _ _ _ _ o h3 env s) (λs1=>Y _ _ _ _ o h4 env s1) (λs1=>W _ _ _ _ o h5 env s1) h6
noncomputable def Y8:Ex->Bool
 |.p ..|.y ..=>true
 |_=>false
def Xw{os}(h:ck sc N a (.Compare l os rs p)=true):Y8 a=true:=by
 cases a with
 |p _ _ _=>rfl
 |y _ _ _ _ _=>rfl
 |h f v es=>
  replace h:(if v<100 then ckA sc f (λxs=>ckL sc N es xs) (.Compare l os rs p) else false)=true:=h
  split at h
  . cases h
  . cases h
 |_=>cases h
def Xx{e:Expr}(h:e.ctorIdx=15):∃l os N p,e=.Compare l os N p:=GS (motive_1:=λe=>∃l os N p,e=Expr.Compare l os N p) e h λl os N p=>⟨l,os,N,p,rfl⟩
def zm(Y:JE T n a)(S:Y8 a=false):JC T n (.a a):=by
 intro sc N X e o h env s;obtain⟨U,R⟩:=yg h;have W:=Y sc N X e o U env s;rcases (Bd _ _).mp R with R|R
 . exact Wt R W
 . obtain⟨l,os,Z,p,rfl⟩:=Xx (of_decide_eq_true R)
   rw[Xw U]at S;cases S
end
def WO(Y:JE T n a)(W:JE T n b):JE T n (.j m op a b):=by intro sc N X e o h env s;replace h:=eM h;obtain⟨l,o1,r,p,rfl,h⟩:=h;simp only[ub,decide_eq_true_eq]at h;obtain⟨⟨⟨U,rfl⟩,h1⟩,Z⟩:=h;exact Xp (Y _ _ _ _ o h1 env s) (λs1=>W _ _ _ _ o Z env s1) λta tb S R=>L2.SF (VC m op U) S R
def WU(R:JE T n a):JE T n (.B a):=by intro sc N X e o h env s;replace h:=ph h;obtain⟨x,p,rfl,h⟩:=h;exact Wj (R _ _ _ _ o h env s)
def WW(R:JL T n es):JE T n (.q es):=by intro sc N X e o h env s;replace h:=ug h;obtain⟨xs,k,p,rfl,h⟩:=h;simp only[ub]at h;exact de ((R _ _ _ _ o h.1).1 h.2 env s)
def WT(R:JL T n es):JE T n (.u m es):=by intro sc N X e o h env s;replace h:=eR h;obtain⟨xs,p,rfl,h⟩:=h;simp only[ub]at h;exact Wi ((R _ _ _ _ o h.1).1 h.2 env s)
def U5(W:JE T n a)(U:JE T n b):JE T n (.r a b):=by intro sc N X e o h env s;replace h:=rH h;obtain⟨l,r,p,rfl,h⟩:=h;simp only[ub]at h;exact Xp (W _ _ _ _ o h.1.1 env s) (λs1=>U _ _ _ _ o h.1.2 env s1) λta tb S R=>L2.SD U3 S R (bI h.2)
theorem yy:∀{l},z∈nub l↔z∈l
 |[]=>.rfl
 |y::l=>by
  unfold nub;split
  . rename_i h
    rw[yy,Al];exact⟨.inr,λq=>q.elim (λe=>e▸h) id⟩
  . rw[Al,Al,yy]
theorem vG:∀l:List (List Int),(nub l).Nodup
 |[]=>.nil
 |y::l=>by
  unfold nub;split
  . exact vG l
  . rename_i h
    exact Bc.mpr ⟨λq=>h (yy.mp q),vG l⟩
def lz{L l:List (List Int)}(h:L.Nodup)(s:∀z∈L,z∈l):L.length<=(nub l).length:=h.length_le_of_subset λz N=>yy.mpr (s z N)
def cL{L l:List (List Int)}(h:L.Nodup)(s:∀z,z∈L↔z∈l):L.Perm (nub l):=(Dz h (vG l)).mpr λz=>(s z).trans yy.symm
def pG(N:b.Nodup)(hp:a.Perm b):L2.z6 a=L2.z6 b:=
 Hk (le:=λa b=>L2.xh a b=true) (λa b _ _ h k=>by rw[L2.tf h]at k;cases k) (L2.vi (hp.nodup_iff.mpr N)) (L2.vi N) ((L2.z8 a).trans (hp.trans (L2.z8 b).symm))
def mn(h:setOk vs=some l):∃zs,yB vs=some zs/\l=nub zs/\l.length<306:=by
 unfold setOk at h;obtain⟨zs,e,h⟩:=Fe.mp h;split at h
 . cases h;exact⟨zs,e,rfl,by assumption⟩
 . cases h
theorem tH:∀{a b} {zs},yB (a++b)=some zs->∃y w,yB a=some y/\yB b=some w/\zs=y++w
 |[],b,zs,h=>⟨[],zs,rfl,h,rfl⟩
 |v::a,b,zs,h=>by
  cases v with
  |f vs=>
   rw[Ha,yB]at h;split at h
   . rename_i z zs' e1 e2
     cases h;obtain⟨y,w,R,N,rfl⟩:=tH e2;exact⟨z::y,w,by rw[yB,e1,R],N,rfl⟩
   . cases h
  |_=>cases h
def m9(h:yB [v]=some w):∃z,v=tpV z/\w=[z]:=by
 cases v with
 |f vs=>
  rw[yB]at h;split at h
  . rename_i z zs' e1 e2
    cases h;cases e2;refine⟨z,?_,rfl⟩;have key:∀{vs:List Val} {z:List Int},intsOf vs=some z->vs=z.map Val.c:=λ{vs}=>by
     induction vs with
     |nil=>intro z e;cases e;rfl
     |cons u us N=>
      intro z e;cases u with
      |c i=>
       rw[intsOf]at e;obtain⟨y,R,rfl⟩:=AK.mp e;rw[N R];rfl
      |_=>cases e
    rw[key e1];rfl
  . cases h
 |_=>cases h
section
variable {K:KF}{mg:Str->Option Value}
abbrev TG(K:KF)(mg:Str->Option Value)(ρ:Own)(H:L2.Hp)(z:List Int)(b:Addr):Prop:=RD K mg ρ H (tpV z) (.c b)
def TG.sqt(h:TG K mg ρ H z b):L2.SqT K H b (z.map L2.V.d):=by
 have key:∀{v:Val} {x:L2.V},RD K mg ρ H v x->v=tpV z->x=.c b->L2.SqT K H b (z.map L2.V.d):=λ{v x} r e1 e2=>by
  cases r with
  |m n e q=>
   cases e1;cases e2;have:∀{z:List Int} {xs:List L2.V},RDs K mg ρ H (z.map .c) xs->xs=z.map L2.V.d:=λ{z}=>by
    induction z with
    |nil=>intro xs q;cases q;rfl
    |cons i z R=>
     intro xs q;cases q with
     |a r N=>cases r;rw[R N];rfl
   rw[<-this q];exact .of e
  |_=>cases e1
 exact key h rfl rfl
def RD.tgE(h:RD K mg ρ H (tpV z) y):∃b,y=.c b:=by
 have key:∀{v:Val} {x:L2.V},RD K mg ρ H v x->v=tpV z->∃b,x=.c b:=λ{v x} r e=>by
  cases r with
  |m n _ _=>exact⟨_,rfl⟩
  |_=>cases e
 exact key h rfl
theorem iU:∀{vs} {ys} {zs},RDs K mg ρ H vs ys->yB vs=some zs->∃cs:List Addr,ys=cs.map L2.V.c
 |_,_,_,.d,_=>⟨[],rfl⟩
 |_,_,zs,.a (v:=v) (vs:=vs) r rs,h=>by obtain⟨y,w,R,N,_⟩:=tH (a:=[v]) (b:=vs) h;obtain⟨z,rfl,_⟩:=m9 R;obtain⟨b,rfl⟩:=r.tgE;obtain⟨cs,rfl⟩:=iU rs N;exact⟨b::cs,rfl⟩
theorem RDs.XE:∀{vs} {xs},vs.length=xs.length->(∀(i:Nat) v x,vs[i]?=some v->xs[i]?=some x->RD K mg ρ H v x)->RDs K mg ρ H vs xs
 |[],[],_,_=>.d
 |v::vs,x::xs,l,h=>.a (h 0 v x rfl rfl) (RDs.XE (by simpa using l) λi v x R N=>h (i+1) v x (by simpa using R) (by simpa using N))
end
section
variable {X:L2.Cx}
def b5(e:H p=some (L2.ye X p ks bs))(g:L2.Each (TG X.K X.d ρ H) ks bs):L2.SqS X H p ks bs:=⟨e,λi k b R N=>(g i k b R N).sqt⟩
noncomputable def Sj(X:L2.Cx)(acc:Addr):Acc X.K X.d acc where
 A:=λρ H a=>∃zs ks bs,yB a=some zs/\H acc=some (L2.ye X acc ks bs)/\L2.Each (TG X.K X.d ρ H) ks bs/\ks.Nodup/\∀z,z∈ks↔z∈zs
 B:=λa=>∃zs,yB a=some zs/\(nub zs).length<306
 d:=λ{a b} ⟨zs,e,h⟩=>by obtain⟨y,w,N,_,rfl⟩:=tH e;exact⟨y,N,Dq (lz (vG y) λz R=>Bg _ (yy.mp R)) h⟩
 f:=λ⟨zs,ks,bs,N,e2,g,r⟩ x e=>⟨zs,ks,bs,N,e.trans e2,λi k b U S=>RD.mv x (g i k b U S),r⟩
 c:=λ⟨_,_,_,_,e,_⟩=>⟨_,e⟩
def UZ:aR (Sj X acc) (L2.U1 X acc):=λ{ρ s H a v y Nx σ} hr ha ⟨zs,ks,bs,e1,e2,g,nd,mm⟩ r ⟨zs',e3,hz⟩ q=>by
 obtain⟨y',w,Y,e5,rfl⟩:=tH e3;rw[e1]at Y;cases Y;obtain⟨z,rfl,rfl⟩:=m9 e5;obtain⟨b,rfl⟩:=r.tgE;have hn:ks.length<306:=Dq (lz nd λu hu=>Bg _ ((mm u).mp hu)) hz;refine⟨b,ks,bs,z,TG X.K X.d ρ H,rfl,b5 e2 g,g,TG.sqt r,r,hn,λR N W g' Z=>q (.a _) ?_⟩;have mv:=sS hr ha (L2.ye X acc R N);by_cases hm:z∈ks
 . obtain rfl:=Z.1 hm
   refine⟨zs++[z],_,N,e3,W.1,λi k b U S=>RD.mv mv (g' i k b U S),nd,λu=>?_⟩;rw[AO,Av,mm u];exact⟨.inl,λh=>h.elim id λe=>e▸(mm z).mp hm⟩
 . have p:=Z.2 hm
   refine⟨zs++[z],R,N,e3,W.1,λi k b U S=>RD.mv mv (g' i k b U S),p.nodup_iff.mpr (Bc.mpr ⟨hm,nd⟩),λu=>?_⟩;rw[p.mem_iff,Al,AO,Av,mm u];exact Or.comm
def Vz(X:L2.Cx)(Q:L2.VK):L2.VK:=λy H=>∃p ks bs,[y]=[.c p]/\L2.SqS X H p ks bs/\(ks.length<2\/∀z∈ks,z≠[]) /\
 ∀(l:Addr) (cs:List Addr),H l=none->cs.length=(L2.z6 ks).length->(∀(i:Nat) (z:List Int),(L2.z6 ks)[i]?=some z->∃b,cs[i]?=some b/\∃j:Nat,ks[j]?=some z/\bs[j]?=some b)->Q (.c l) (L2.upd H l (.b (cs.map L2.V.c)))
def b7(hr:HR X.K X.d ρ s H)(e:H p=some (L2.ye X p ks bs))(g:L2.Each (TG X.K X.d ρ H) ks bs)(nd:ks.Nodup)(S:yB vs=some zs)(mm:∀z,z∈ks↔z∈zs)
 (w:yX X.K X.d (RD X.K X.d) ρ H (wQ m vs s) Q):Vz X Q (.c p) H:=by
 unfold wQ at w;split at w
 . rename_i l el
   obtain⟨Z,R,rfl,_⟩:=mn el;rw[S]at R;cases R;have pm:=cL nd mm;split at w
   . rename_i hne
     refine⟨p,ks,bs,rfl,b5 e g,?_,λl cs hl N U=>?_⟩
     . rw[pm.length_eq]
       exact hne.imp id λh z S=>h z (pm.mem_iff.mp S)
     . rw[<-pG (vG _) pm]at w
       refine vE hr (RDs.XE (by rw[Aa,Aa,N]) λi v x R Y=>?_) w l hl
       rw[Aq]at R Y;obtain⟨z,h1,rfl⟩:=AK.mp R;obtain⟨b,h2,rfl⟩:=AK.mp Y;obtain⟨b',W,j,h4,h5⟩:=U i z h1;rw[h2]at W;cases W;exact g j z b h4 h5
   . exact w.elim
 . exact w.elim
def pH(w:yX X.K X.d (RD X.K X.d) ρ H (wQ m vs s) Q):∃zs,yB vs=some zs/\(nub zs).length<306:=by
 unfold wQ at w;split at w
 . rename_i l el
   obtain⟨N,R,rfl,h⟩:=mn el;exact⟨N,R,h⟩
 . exact w.elim
def lP(TG:sJ X.K X.d t g)(hg:Grows body)
 (hb:∀acc ρ0 H0,H0 acc=none->BodyOk (Sj X acc) ρ0 H0 body (L2.tTB ts (tb acc)))   
 (h:tV X.K X.d env s ((zy Φ G env it s).bind λr s1=>(zo r t body r.a (zK fr env) s1 []).bind λp s2=>wQ m p.1 s2) σ H Q):L2.oa X fr (uI X.K X.d Φ G it) g ts tb σ H (Vz X Q):=by
 obtain⟨ρ,hr,Z,w⟩:=h;refine⟨env,s,ρ,hr,Z,?_⟩;cases hi:zy Φ G env it s with
 |e r s1=>
  rw[hi]at w;simp only[zN]at w;intro ρ1 H1 J Y R W acc N hq;cases hl:zo r t body r.a (zK fr env) s1 [] with
  |e p s2=>
   rw[hl]at w;simp only[zN]at w;refine nQ (.a _) fr R (Z.mono Y) W N TG hg (hb acc ρ1 H1 N) ⟨[],[],[],rfl,hq.1,λi k b e=>by simp at e,.nil,λ_=>.rfl⟩ hl (pH w) λρ3 H3 σ3 U=>?_
   obtain⟨zs,ks,bs,e1,e2,g',nd,mm⟩:=U.e;obtain⟨x,S,mv⟩:=U.d.drop U.b;exact b7 S e2 (λi k b h1 h2=>RD.mv mv (g' i k b h1 h2)) nd e1 mm (w.mono (Y.trans R x) S)
  |g _ _ _=>rw[hl]at w;exact w.elim
  |d=>rw[hl]at w;exact w.elim
 |g _ _ _=>rw[hi]at w;exact w.elim
 |d=>rw[hi]at w;exact w.elim
end
def WV(R:JE T n a):JE T n (.G a):=by intro sc N X e o h env s;replace h:=ph h;obtain⟨x,p,rfl,h⟩:=h;exact Wk (R _ _ _ _ o h env s)
def WR(Y:JE T n a)(W:JE T n b):JE T n (.p op a b):=by intro sc N X e o h env s;replace h:=jd h;obtain⟨l,o1,r,p,rfl,h⟩:=h;simp only[ub,decide_eq_true_eq]at h;obtain⟨⟨⟨⟨U,rfl⟩,h1⟩,h2⟩,Z⟩:=h;exact Xp (Y _ _ _ _ o h1 env s) (λs1=>W _ _ _ _ o h2 env s1) λta tb S R=>L2.Z3 (tq o.g op U) S R (vI Z)
def dM(Y:JE T n a)(W:JE T n b)(U:JE T n c):JE T n (.y op op' a b c):=by intro sc N X e o h env s;replace h:=jf h;obtain⟨l,o1,o2,r,r2,p,rfl,h⟩:=h;simp only[ub,decide_eq_true_eq]at h;obtain⟨⟨⟨⟨⟨⟨S,rfl⟩,R,rfl⟩,h3⟩,h4⟩,h5⟩,Z⟩:=h;exact dZ S R o.g (Y _ _ _ _ o h3 env s) (λs1=>W _ _ _ _ o h4 env s1) (λs1=>U _ _ _ _ o h5 env s1) Z
def WN(S:JE T n a)(W:JL T n es):JE T n (.w a es):=by
 intro sc N X e o h env s;replace h:=pf h;obtain⟨x,xs,pos,rfl,h⟩:=h;simp only[ub]at h;obtain⟨U,R⟩:=h;cases es with
 |b=>
  cases Br.mp R;exact L2.kJ (S _ _ _ _ o U env s)
 |a b Y=>
  cases xs with
  |nil=>cases R
  |cons y ys=>exact dX (S _ _ _ _ o U env s) λs1=>(W _ _ _ _ o R).2.1 y ys pos rfl env s1
def WS(R:JC T n c)(U:JE T n a)(S:JE T n b):JE T n (.I c a b):=by intro sc N X e o h env s;replace h:=eQ h;obtain⟨t,x,y,p,rfl,h⟩:=h;simp only[ub]at h;exact Wg (R _ _ _ _ o h.1.1 env s) (λs1=>U _ _ _ _ o h.1.2 env s1) (λs1=>S _ _ _ _ o h.2 env s1)
def lI(h:T.c f ver=none)vs s:zE T n f ver vs s=.d:=by
 cases n with
 |zero=>rfl
 |succ n=>simp only[zE,h]
def ZK(Y:JL T n es):JE T n (.h f ver es):=by
 intro sc N X e o h env s;replace h:(if ver<100 then ckA sc f (λxs=>ckL sc N es xs) e else false)=true:=h
 split at h
 . rename_i hver
   replace h:=xg h;obtain⟨x,p,xs,pos,rfl,h⟩:=h;simp only[ub,decide_eq_true_eq,xq,Bu]at h;obtain⟨⟨⟨⟨rfl,W⟩,U⟩,S⟩,R⟩:=h;show L2.PE X _ (tV X.K X.d env s ((yi (zE T n) T.b env es s).bind λvs s1=>zE T n x ver vs s1));cases hf:T.c x ver with
   |none=>
    refine zH λv s' e=>?_;cases hv:yi (zE T n) T.b env es s with
    |e vs s1=>rw[hv]at e;simp only[zN,lI hf]at e;cases e
    |g _ _ _=>rw[hv]at e;cases e
    |d=>rw[hv]at e;cases e
   |some F=>
    have C:=o.m x ver F hf;cases xs with
    |nil=>
     cases es with
     |b=>exact dY C o.g (o.c.a x W) U
     |a _ _=>cases S
    |cons y ys=>exact ZT C o.g (o.c.a x W) U R (by simp) ((Y _ _ _ _ o S).1 R env s)
 . cases h
def Xo(f:Bf):f.nm∈wa:=by cases f<;>decide
def WQ(U:JL T n es):JE T n (.k f m es):=by
 intro sc N X e o h env s;replace h:=xg h;obtain⟨x,p,xs,pos,rfl,h⟩:=h;replace h:=xA h;obtain⟨y,ys,rfl,h⟩:=h;simp only[ub,decide_eq_true_eq,xq]at h;obtain⟨⟨⟨⟨R,rfl⟩,Y⟩,W⟩,S⟩:=h;rcases (Bd _ _).mp R with R|R
 . exact Wf R o.d o.g (o.c.a _ Y) (o.l _ (Xo f)) S ((U _ _ _ _ o W).1 S env s)
 . unfold stF at R
   split at R
   . exact zH (zD rfl)
   . cases R
def gG(_:JE T n z)(ja:JE T n a):JE T n (.s m z a w):=by
 intro sc N X e o h env s;replace h:=xg h;obtain⟨x,p,xs,pos,rfl,h⟩:=h;replace h:=yU h;obtain⟨i1,rfl,h⟩:=h;replace h:=xg h;obtain⟨y,p2,ys,Z,rfl,h⟩:=h;replace h:=xA h;obtain⟨c,ds,rfl,h⟩:=h;cases ds with
 |nil=>
  simp only[Hn,if_true,ub,xq]at h;obtain⟨⟨⟨⟨hw,Y⟩,W⟩,h5⟩,h6⟩:=h;replace Y:=of_decide_eq_true Y;replace W:=of_decide_eq_true W;split at hw
  case isTrue htx=>cases hw
  simp only[ub,decide_eq_true_eq]at hw;obtain⟨⟨⟨h1,h2⟩,rfl⟩,rfl⟩:=hw;obtain rfl:=nk h1;obtain rfl:=nk h2;have je:=ja _ _ _ _ o h5 env s;show L2.PE X _ (tV X.K X.d env s ((evE (zE T n) T.b env a s).bind λy s2=>Ze m (.c 0) y (.c 1) s2));cases ho:evE (zE T n) T.b env a s with
  |e v s1=>
   rw[ho]at je;refine zk (L2.qQ o.d rfl rfl (o.c.a _ Y) (o.l _ (by decide)) (o.c.a _ W) (o.l _ (by decide)) (L2.pac je L2.vH (zX h6)) (L2.yD (zX h6))) λσ H Q ⟨ρ,hr,er,w⟩=>⟨ρ,hr,er,λρ1 x H1 x1 S r1=>?_⟩
   have U:=w.mono x1 S;cases r1 with
   |l j=>
    by_cases hc:-(2 ^ 30)<=(0:Int)/\(0:Int)<=2 ^ 30∧-(2 ^ 30)<=j/\j<=2 ^ 30/\(0:Int)<1/\(1:Int)<=2 ^ 29/\A0 0 j 1<=1000
    . have R:yX X.K X.d (RD X.K X.d) ρ1 H1 (if -(2 ^ 30)<=(0:Int)/\(0:Int)<=2 ^ 30∧-(2 ^ 30)<=j/\j<=2 ^ 30/\(0:Int)<1/\(1:Int)<=2 ^ 29/\A0 0 j 1<=1000 then newList m ((L2.xE 0 j 1).map .c) s1 else .d) Q:=U
      rw[if_pos hc]at R;exact⟨j,rfl,hc.2.2.1,hc.2.2.2.1,hc.2.2.2.2.2.2,vE S (RDs.ints _) R⟩
    . have R:yX X.K X.d (RD X.K X.d) ρ1 H1 (if -(2 ^ 30)<=(0:Int)/\(0:Int)<=2 ^ 30∧-(2 ^ 30)<=j/\j<=2 ^ 30/\(0:Int)<1/\(1:Int)<=2 ^ 29/\A0 0 j 1<=1000 then newList m ((L2.xE 0 j 1).map .c) s1 else .d) Q:=U
      rw[if_neg hc]at R;exact R.elim
   |_=>exact U.elim
  |g _ _ _=>exact zH (zD rfl)
  |d=>exact zH (zD rfl)
 |cons d ds=>cases h
def ZM(W:JE T n a)(S:JL T n es):JE T n (.Q f m a es):=by intro sc N X e o k env s;replace k:ckM f (ck sc N a) (ckL sc N es) e=true:=k;unfold ckM at k;obtain⟨ob,x,ap,y,cp,rfl,h⟩:=aj k;simp only[ub,decide_eq_true_eq]at h;obtain⟨⟨⟨⟨⟨⟨rfl,h1⟩,h2⟩,R⟩,h4⟩,Z⟩,Y⟩:=h;obtain⟨b,rfl,U⟩:=(S _ _ _ _ o h2).2.2.2 y rfl R;exact da Y h4 R Z (W _ _ _ _ o h1 env s) λs1=>U env s1
def U6(Y:JE T n a)(j1:JO T n lo)(j2:JO T n hi)(Z:JO T n st):JE T n (.F m a lo hi st):=by
 intro sc N X e o h env s;replace h:=aq h;obtain⟨l1,x1,y1,z1,p1,p2,rfl,h⟩:=h;simp only[ub]at h;obtain⟨⟨⟨h1,h2⟩,h3⟩,h4⟩:=h;obtain⟨W,U⟩:=Z _ _ _ _ o h4;refine TH (Y _ _ _ _ o h1 env s) (λs1=>(j1 _ _ _ _ o h2).1 env s1) (λs1=>(j2 _ _ _ _ o h3).1 env s1) (λs1=>W env s1) ?_;rcases U with⟨S,R⟩|⟨e',S,R⟩
 . exact .inl ⟨S,λs1=>R env s1⟩
 . exact .inr ⟨e',S,λs1 s2=>R env s1 s2⟩
def t6(o:Ok T n sc N X)(oc:∀C R H0 ex,Ok T n csc N' (X.comp N' csc C R H0 ex))t tg(h:ckT csc N' t tg=true):∃g,(∀C R H0 ex,L2.PG (X.comp N' csc C R H0 ex) tg g)/\sJ X.K X.d t g:=by
 cases t with
 |a i=>
  cases tg with
  |Name y p=>
   simp only[ckT,ub,Bd,decide_eq_true_eq]at h;exact⟨_,λC R H0 ex=>bC (oc C R H0 ex).c h.1 h.2,iZ⟩
  |_=>cases h
 |b is=>
  cases tg with
  |Tuple es k p=>
   simp only[ckT,ub,decide_eq_true_eq]at h;refine⟨_,λC R H0 ex=>?_,tG (is:=is)⟩;obtain⟨a,b,c⟩:=wo (oc C R H0 ex).c h.1;exact L2.oX (X:=X.comp N' csc C R H0 ex) o.d a b c
  |_=>cases h
def ZL(je:JE T n elt)(Z:JI T n it)(jc:JCs T n ifs):JE T n (.l m N' fr elt t it ifs):=by
 intro sc N X e o h env s;replace h:=jg h;obtain⟨x,tg,iter,fs,csc,cpos,rfl,h⟩:=h;simp only[ub,decide_eq_true_eq]at h;obtain⟨⟨⟨⟨⟨⟨Y,h2⟩,h3⟩,h4⟩,h5⟩,h6⟩,h7⟩:=h;have S:=nR o.c Y;have oc:=o.comp S h2 Y;obtain⟨g,pg,W⟩:=t6 o oc t tg h3;have R:L2.PE X (.ListComp x [⟨tg,iter,fs,0⟩] csc cpos) (L2.vg fr (uI X.K X.d (zE T n) T.b it) g (uTs X.K X.d (zE T n) T.b ifs) λacc=>L2.sH acc (uE X.K X.d (zE T n) T.b elt)):=
  L2.iN o.d S (oY λenv s=>Z _ _ _ _ _ o h4 env s) pg (λC U H0 ex=>(jc _ _ _ _ (oc C U H0 ex) h5).2.2) (λC U H0 ex=>bB (X:=X.comp N' csc C U H0 ex) λenv s=>je _ _ _ _ (oc C U H0 ex) h6 env s) (z7 h7)
 refine zk R λσ H Q hq=>vp (env:=env) (s:=s) (chk:=false) (m:=m) (body:=v8 (zE T n) T.b elt ifs) W wR (λacc ρ0 H0 hn=>qI jK hn) ?_ λ_ r s1 p s2 hl=>?_
 . simp only[Aw,false_implies,if_true];exact hq
 . have:=t8 hl
   simpa using this
def dO(je:JE T n elt)(ji:JI T n it)(jc:JCs T n ifs)(ji2:JI T n it2)(jc2:JCs T n ifs2):JE T n (.z m N' fr elt t it ifs t2 it2 ifs2):=by
 intro sc N X e o h env s;replace h:=jh h;refine byG λpi U=>?_;obtain⟨x,tg,iter,fs,Z,iter2,fs2,csc,cpos,rfl,h⟩:=h;refine U ?_;simp only[ub,decide_eq_true_eq]at h;refine byG λpi U=>?_;obtain⟨⟨⟨⟨⟨⟨⟨⟨⟨⟨h1,h2⟩,h3⟩,h4⟩,h5⟩,h6⟩,h7⟩,h8⟩,h9⟩,h10⟩,h11⟩:=h;refine U ?_;have S:=nR o.c h1;have oc:=o.comp S h2 h1;have W:=t6 o oc;obtain⟨g,pg,tg'⟩:=W t tg h3;obtain⟨g2,pg2,Y⟩:=W t2 Z h6;have rule:=L2.mR (cpos:=cpos) (elt:=x) (ifs:=fs) (ifs2:=fs2) (ts:=uTs X.K X.d (zE T n) T.b ifs) (ts2:=uTs X.K X.d (zE T n) T.b ifs2) (wi2:=uI X.K X.d (zE T n) T.b it2) (te:=uE X.K X.d (zE T n) T.b elt) o.d S (oY (tg:=tg) λenv s=>ji _ _ _ _ _ o h4 env s) pg (λC R H0 ex=>(jc _ _ _ _ (oc C R H0 ex) h5).2.2)
  (λC R H0 ex=>oY (X:=X.comp N' csc C R H0 ex) (tg:=Z) λenv s=>ji2 _ _ _ _ _ (oc C R H0 ex) h7 env s) pg2 (λC R H0 ex=>(jc2 _ _ _ _ (oc C R H0 ex) h8).2.2)
  (λC R H0 ex=>bB (X:=X.comp N' csc C R H0 ex) λenv s=>je _ _ _ _ (oc C R H0 ex) h9 env s) (z7 h10) (λenv=>z7 h11)
 refine zk rule λσ H Q hq=>vp (env:=env) (s:=s) (chk:=true) (m:=m) (body:=uS (zE T n) T.b elt ifs t2 it2 ifs2) tg' vM (λacc ρ0 H0 hn=>t7 jK hn Y) ?_ λz=>by cases z
 simp only[true_implies];exact hq
def bA(o:Ok T n sc N X)(R:sc.names.lookup ("sorted":Str)=some .globalImplicit)(h:L2.PE X y te)(hs:L2.noStar y=true)(i:∀σ H Q,t' σ H Q->te σ H (Vz X Q)):L2.PE X (.Call (.Name "sorted" p) [y] [] pos) t':=
 zk (L2.mQ (p:=p) (pos:=pos) (L2.lK o.d) (o.c.a _ R) (o.l _ (by decide)) DR (L2.pac h L2.vH hs) (he:=L2.yD hs)) λσ H Q q=>i σ H Q q
def dP(je:JE T n elt)(ji:JI T n it)(jc:JCs T n ifs)(ji2:JI T n it2)(jc2:JCs T n ifs2):JE T n (.A m N' fr elt t it ifs t2 it2 ifs2):=by
 intro sc N X e o h env s;replace h:=nW h;obtain⟨p,y,pos,rfl,hg,h⟩:=h;replace h:=YM h;obtain⟨x,tg,iter,fs,W,iter2,fs2,csc,cpos,rfl,h⟩:=h;simp only[ub,decide_eq_true_eq]at h;obtain⟨⟨⟨⟨⟨⟨⟨⟨⟨⟨h1,h2⟩,h3⟩,h4⟩,h5⟩,h6⟩,h7⟩,h8⟩,h9⟩,h10⟩,h11⟩:=h;have S:=nR o.c h1;have oc:=o.comp S h2 h1;obtain⟨g,pg,Z⟩:=t6 o oc t tg h3;obtain⟨g2,pg2,U⟩:=t6 o oc t2 W h6;have hu:X.A.in1.units<cLine:=by have:=o.g.a;show X.A.units+1<cLine;omega
 have Y:=L2.g7 (cpos:=cpos) (elt:=x) (ifs:=fs) (ifs2:=fs2) (ts:=uTs X.K X.d (zE T n) T.b ifs) (ts2:=uTs X.K X.d (zE T n) T.b ifs2) (wi2:=uI X.K X.d (zE T n) T.b it2) (te:=uE X.K X.d (zE T n) T.b elt) hu o.d S (oY (tg:=tg) λenv s=>ji _ _ _ _ _ o h4 env s) pg (λC R H0 ex=>(jc _ _ _ _ (oc C R H0 ex) h5).2.2)
  (λC R H0 ex=>oY (X:=X.comp N' csc C R H0 ex) (tg:=W) λenv s=>ji2 _ _ _ _ _ (oc C R H0 ex) h7 env s) pg2 (λC R H0 ex=>(jc2 _ _ _ _ (oc C R H0 ex) h8).2.2)
  (λC R H0 ex=>bB (X:=X.comp N' csc C R H0 ex) λenv s=>je _ _ _ _ (oc C R H0 ex) h9 env s) (z7 h10) (λenv=>z7 h11)
 exact bA o hg Y rfl λσ H Q hq=>lP (env:=env) (s:=s) (m:=m) (body:=uS (zE T n) T.b elt ifs t2 it2 ifs2) Z vM (λacc ρ0 H0 hn=>t7 UZ hn U) hq
def ZN(ja:JE T n a):JE T n (.D m a):=by
 intro sc N X e o h env s;replace h:=nW h;obtain⟨p,y,pos,rfl,hg,h⟩:=h;replace h:=xg h;obtain⟨z,p2,zs,W,rfl,h⟩:=h;replace h:=yU h;obtain⟨u,rfl,h⟩:=h;simp only[ub,decide_eq_true_eq,xq]at h;obtain⟨⟨⟨rfl,h1⟩,h2⟩,h3⟩:=h;have je:=ja _ _ _ _ o h2 env s;have hu:X.A.units+40<cLine:=by have:=o.g.a;omega
 show L2.PE X _ (tV X.K X.d env s ((evE (zE T n) T.b env a s).bind λx s1=>iW m x s1));cases ho:evE (zE T n) T.b env a s with
 |e v s1=>
  rw[ho]at je;have S:=L2.wm (p:=p2) (pos:=W) (L2.i7 o.d hu) (o.c.a _ h1) (o.l _ (by decide)) PySem.Pv.boot_set (L2.pac je L2.vH (zX h3)) (he:=L2.yD (zX h3))
  refine bA o hg S rfl λσ H Q ⟨ρ,hr,er,w⟩=>⟨ρ,hr,er,λρ1 x H1 x1 R r1=>?_⟩;have U:yX X.K X.d (RD X.K X.d) ρ1 H1 (iW m v s1) Q:=w.mono x1 R;unfold iW at U;split at U
  . rename_i vs hv
    obtain⟨zs,ez,hlt⟩:=pH U;obtain⟨a',ys,rfl,hq,q⟩:=xr R r1 hv;obtain⟨cs,rfl⟩:=iU q ez;have ev:=aF q ez;have gz:L2.Each (TG X.K X.d ρ1 H1) zs cs:=λi z c Z Y=>by
     obtain⟨x',e3,r3⟩:=q.get (i:=i) (v:=tpV z) (by rw[ev,Aq,Z];rfl)
     rw[Aq,Y]at e3;cases e3;exact r3
    refine⟨a',cs,zs,TG X.K X.d ρ1 H1,rfl,.of hq,?_,gz,λi z c Z Y=>(gz i z c Z Y).sqt,λL nd hL=>Dq (lz nd hL) hlt,λl ks bs hl hS g nd mm=>?_⟩
    . have:=q.length
      rw[ev,Aa,Aa]at this;exact this.symm
    . have xx:=Ext.new R hl (L2.ye X l ks bs)
      exact b7 (R.more hl _) hS.1 (λi k b Z Y=>(g i k b Z Y).mono xx) nd ez mm (U.mono xx (R.more hl _))
  . exact U.elim
 |g _ _ _=>exact zH (zD rfl)
 |d=>exact zH (zD rfl)
def WY:JL T n .b:=by intro sc N X es o h;cases Br.mp h;exact⟨λ_ env s=>ZV,⟨λe R pos z=>(nomatch z),⟨λe R pos z=>(nomatch z),λy z=>(nomatch z)⟩⟩⟩
def ZP(R:JE T n a)(jl:JL T n as):JL T n (.a a as):=by
 intro sc N X es o h;replace h:=xA h;obtain⟨e,es,rfl,h⟩:=h;simp only[ub]at h;obtain⟨U,S⟩:=h;obtain⟨l1,l2,Z,l4⟩:=jl _ _ _ _ o S;refine⟨λhp env s=>?_,λe' W pos z env s=>?_,λe' W pos z env s=>?_,λy z hp=>?_⟩
 . rw[yV,ub]at hp
   exact dg hp.1 (R _ _ _ _ o U env s) λs1=>l1 hp.2 env s1
 . cases as with
   |b=>
    cases Br.mp S;exact L2.kJ (R _ _ _ _ o U env s)
   |a b Y=>
    cases es with
    |nil=>cases S
    |cons y ys=>exact dX (R _ _ _ _ o U env s) λs1=>l2 y ys pos rfl env s1
 . cases as with
   |b=>
    cases Br.mp S;exact L2.kJ (R _ _ _ _ o U env s)
   |a b Y=>
    cases es with
    |nil=>cases S
    |cons y ys=>exact TF (R _ _ _ _ o U env s) λs1=>Z y ys pos rfl env s1
 . cases z
   cases as with
   |b=>exact⟨a,rfl,λenv s=>R _ _ _ _ o U env s⟩
   |a _ _=>cases S
def U7:JO T n .b:=by intro sc N X e o h;cases G3.mp h;exact⟨λenv s=>TK,.inl ⟨rfl,λenv s1=>rfl⟩⟩
def WZ(S:JE T n a):JO T n (.a a):=by
 intro sc N X e o h;replace h:=cP h;obtain⟨W,rfl,h⟩:=h;refine⟨λenv s=>Wn (S _ _ _ _ o h env s),.inr ⟨_,rfl,λenv s1 s2 z=>?_⟩⟩;have R:((evE (zE T n) T.b env a s1).bind λv s1=>match v with|.c i=>.e (some i) s1|_=>.d)=.e none s2:=z
 cases hv:evE (zE T n) T.b env a s1 with
 |e v U=>rw[hv]at R;cases v<;>cases R
 |g _ _ _=>rw[hv]at R;cases R
 |d=>rw[hv]at R;cases R
def WM(R:JC T n c):JC T n (.b c):=by intro sc N X e o h env s;replace h:=ph h;obtain⟨S,U,rfl,h⟩:=h;exact Ws (R _ _ _ _ o h env s)
def WL(U:JC T n c)(R:JCs T n cs):JC T n (.d c cs):=by intro sc N X e o h env s;replace h:=pf h;obtain⟨W,S,Y,rfl,h⟩:=h;simp only[ub]at h;exact(dk (U _ _ _ _ o h.1 env s) λs1=>(R _ _ _ _ o h.2).1 _ env s1).pt
def U4(U:JC T n c)(R:JCs T n cs):JC T n (.f c cs):=by intro sc N X e o h env s;replace h:=pf h;obtain⟨W,S,Y,rfl,h⟩:=h;simp only[ub]at h;exact(XB (U _ _ _ _ o h.1 env s) λs1=>(R _ _ _ _ o h.2).2.1 _ env s1).pt
def ZJ:JCs T n .a:=by intro sc N X es o h;cases Br.mp h;exact⟨λpos env s=>lW,λpos env s=>gL,.b⟩
def dJ(S:JC T n c)(R:JCs T n cs):JCs T n (.b c cs):=by intro sc N X es o h;replace h:=xA h;obtain⟨W,U,rfl,h⟩:=h;simp only[ub]at h;obtain⟨a,b,d⟩:=R _ _ _ _ o h.2;exact⟨λpos env s=>dk (S _ _ _ _ o h.1 env s) λs1=>a pos env s1,λpos env s=>XB (S _ _ _ _ o h.1 env s) λs1=>b pos env s1,.a (Rh λenv s=>S _ _ _ _ o h.1 env s) d⟩
def UD{e:Expr}(h:e.ctorIdx=25):∃xs k p,e=.Tuple xs k p:=HE (motive_1:=λe=>∃xs k p,e=Expr.Tuple xs k p) e h λxs k p=>⟨xs,k,p,rfl⟩
def WX(R:JE T n a):JI T n (.f a):=λsc N X e tg o h env s=>Wm (R _ _ _ _ o h env s)
def gH(S:JE T n a):JI T n (.d a):=by intro sc N X e tg o h env s;replace h:=xg h;obtain⟨x1,p1,R,p2,rfl,h⟩:=h;replace h:=yU h;obtain⟨Z,rfl,h⟩:=h;simp only[ub,decide_eq_true_eq,xq]at h;obtain⟨⟨⟨rfl,Y⟩,W⟩,U⟩:=h;exact gJ U (o.c.a _ Y) (o.l _ (by decide)) (S _ _ _ _ o W env s)
def gI(U:JE T n a)(S:JE T n b):JI T n (.g a b):=by intro sc N X e tg o h env s;replace h:=xg h;obtain⟨x1,p1,R,p2,rfl,h⟩:=h;replace h:=W0 h;obtain⟨y1,y2,rfl,h⟩:=h;simp only[ub,decide_eq_true_eq,xq]at h;obtain⟨⟨⟨⟨⟨rfl,h1⟩,h2⟩,Z⟩,Y⟩,W⟩:=h;exact gK Y W (o.c.a _ h1) (o.l _ (by decide)) (U _ _ _ _ o h2 env s) λs1=>S _ _ _ _ o Z env s1
def ZO(S:JE T n a):JI T n (.h a):=by intro sc N X e tg o h env s;obtain⟨h0,U⟩:=yg h;obtain⟨ts,k,tp,rfl⟩:=UD (of_decide_eq_true h0);clear h;have h:=U;replace h:=xg h;obtain⟨x1,p1,R,p2,rfl,h⟩:=h;replace h:=yU h;obtain⟨y1,rfl,h⟩:=h;simp only[ub,decide_eq_true_eq,xq]at h;obtain⟨⟨⟨rfl,Z⟩,Y⟩,W⟩:=h;exact ZW W (o.c.a _ Z) (o.l _ (by decide)) (S _ _ _ _ o Y env s)
section
variable (T:Tbl)(n:Nat)
mutual
theorem jE:∀a:Ex,JE T n a
 |.g _=>Wh
 |.e _=>Wl
 |.L _=>TC
 |.M _ _=>TJ
 |.j _ _ a b=>WO (jE a) (jE b)
 |.B a=>WU (jE a)
 |.G a=>WV (jE a)
 |.p _ a b=>WR (jE a) (jE b)
 |.y _ _ a b c=>dM (jE a) (jE b) (jE c)
 |.w a es=>WN (jE a) (jL es)
 |.O _ _=>λsc N X e o h=>by cases h
 |.I c a b=>WS (jC c) (jE a) (jE b)
 |.q es=>WW (jL es)
 |.u _ es=>WT (jL es)
 |.H=>λsc N X e o h=>by cases h
 |.E _=>ZU
 |.P _ _=>λsc N X e o h=>by cases h
 |.C _=>λsc N X e o h env s=>zH (zD rfl)
 |.D _ a=>ZN (jE a)
 |.K _ _ _ _ _ _ _=>λsc N X e o h=>by cases h
 |.A _ _ _ elt _ it ifs _ it2 ifs2=>dP (jE elt) (jI it) (jCs ifs) (jI it2) (jCs ifs2)
 |.h _ _ es=>ZK (jL es)
 |.k _ _ es=>WQ (jL es)
 |.J _ _=>λsc N X e o h=>by cases h
 |.Q _ _ a es=>ZM (jE a) (jL es)
 |.r a b=>U5 (jE a) (jE b)
 |.F _ a lo hi st=>U6 (jE a) (jO lo) (jO hi) (jO st)
 |.l _ _ _ elt _ it ifs=>ZL (jE elt) (jI it) (jCs ifs)
 |.z _ _ _ elt _ it ifs _ it2 ifs2=>dO (jE elt) (jI it) (jCs ifs) (jI it2) (jCs ifs2)
 |.s _ z a _=>gG (jE z) (jE a)
theorem jL:∀a:Exs,JL T n a
 |.b=>WY
 |.a a as=>ZP (jE a) (jL as)
theorem jO:∀a:OEx,JO T n a
 |.b=>U7
 |.a a=>WZ (jE a)
theorem jC:∀a:Cn,JC T n a
 |.a (.p _ a b)=>We (jE a) (jE b)
 |.a (.y _ _ a b c)=>dW (jE a) (jE b) (jE c)
 |.a (.g v)=>zm (jE (.g v)) rfl
 |.a (.e v)=>zm (jE (.e v)) rfl
 |.a (.L v)=>zm (jE (.L v)) rfl
 |.a (.M v w)=>zm (jE (.M v w)) rfl
 |.a (.j m o a b)=>zm (jE (.j m o a b)) rfl
 |.a (.B a)=>zm (jE (.B a)) rfl
 |.a (.G a)=>zm (jE (.G a)) rfl
 |.a (.w a b)=>zm (jE (.w a b)) rfl
 |.a (.O a b)=>zm (jE (.O a b)) rfl
 |.a (.I a b c)=>zm (jE (.I a b c)) rfl
 |.a (.q a)=>zm (jE (.q a)) rfl
 |.a (.u m a)=>zm (jE (.u m a)) rfl
 |.a .H=>zm (jE .H) rfl
 |.a (.E t)=>zm (jE (.E t)) rfl
 |.a (.P a b)=>zm (jE (.P a b)) rfl
 |.a (.C a)=>zm (jE (.C a)) rfl
 |.a (.D a b)=>zm (jE (.D a b)) rfl
 |.a (.K a b c d e f g)=>zm (jE (.K a b c d e f g)) rfl
 |.a (.A a b c d e f g h i j)=>zm (jE (.A a b c d e f g h i j)) rfl
 |.a (.h a b c)=>zm (jE (.h a b c)) rfl
 |.a (.k a b c)=>zm (jE (.k a b c)) rfl
 |.a (.J a b)=>zm (jE (.J a b)) rfl
 |.a (.Q a b c d)=>zm (jE (.Q a b c d)) rfl
 |.a (.r a b)=>zm (jE (.r a b)) rfl
 |.a (.F a b c d e)=>zm (jE (.F a b c d e)) rfl
 |.a (.l a b c d e f g)=>zm (jE (.l a b c d e f g)) rfl
 |.a (.z a b c d e f g h i j)=>zm (jE (.z a b c d e f g h i j)) rfl
 |.a (.s a b c d)=>zm (jE (.s a b c d)) rfl
 |.b c=>WM (jC c)
 |.d c cs=>WL (jC c) (jCs cs)
 |.f c cs=>U4 (jC c) (jCs cs)
theorem jCs:∀a:Cns,JCs T n a
 |.a=>ZJ
 |.b c cs=>dJ (jC c) (jCs cs)
theorem jI:∀a:Itb,JI T n a
 |.f a=>WX (jE a)
 |.d a=>gH (jE a)
 |.g a b=>gI (jE a) (jE b)
 |.h a=>ZO (jE a)
 |.i _ _ _=>λsc N X e tg o h=>by cases h
 |.j _ _=>λsc N X e tg o h=>by cases h
end
end
section
variable (K:KF)(mg:Str->Option Value)
def qd(ρ:Own)(H:L2.Hp)(o:Out Fl)(D:L2.Ends):Prop:=
 match o with
 |.e (.a e) s'=>∀ρ' H' N,Ext ρ H ρ' H'->HR K mg ρ' s' H'->ER K mg ρ' H' e N->D.a N H'
 |.e (.c e) s'=>∀ρ' H' N,Ext ρ H ρ' H'->HR K mg ρ' s' H'->ER K mg ρ' H' e N->D.b N H'
 |.e (.d e) s'=>∀ρ' H' N,Ext ρ H ρ' H'->HR K mg ρ' s' H'->ER K mg ρ' H' e N->D.c N H'
 |.e (.b v) s'=>∀ρ' H' x,Ext ρ H ρ' H'->HR K mg ρ' s' H'->RD K mg ρ' H' v x->D.d x H'
 |_=>False
def tSt(env:Env)(s:Sto)(o:Out Fl):L2.TS:=λD σ H=>∃ρ,HR K mg ρ s H/\ER K mg ρ H env σ/\qd K mg ρ H o D
end
def qd.mono(w:qd K mg ρ H o D)(x:Ext ρ H ρ' H')(h:HR K mg ρ' s1 H'):qd K mg ρ' H' o D:=by
 cases o with
 |e fl s'=>
  cases fl with
  |a e=>exact λρ2 H2 N R U S=>w ρ2 H2 N (x.trans h R) U S
  |c e=>exact λρ2 H2 N R U S=>w ρ2 H2 N (x.trans h R) U S
  |d e=>exact λρ2 H2 N R U S=>w ρ2 H2 N (x.trans h R) U S
  |b v=>exact λρ2 H2 y R U S=>w ρ2 H2 y (x.trans h R) U S
 |g _ _ _=>exact w
 |d=>exact w
noncomputable def ux:Expr->Bool
 |.ListComp ..|.SetComp ..|.DictComp ..=>false
 |_=>true
def m8(h:ux e=true):FF e t l env=pure false:=by cases e<;>first|rfl|cases h
def vw:Fs [.Tuple ts k p] e l env=pure false:=by cases e<;>rfl
def fP:Fs [.Subscript o i p] e l env=pure false:=by cases e<;>rfl
noncomputable def notTuple:Expr->Bool
 |.Tuple ..=>false
 |_=>true
def km(h:notTuple e=true):Cq [.Tuple ts k p] e env=pure none:=by
 cases e<;>first|(cases h;done)|rfl
def m6:Cq [.Subscript o i p] e env=pure none:=by cases e<;>rfl
def Sq(sc:Scope)(ts vs:List Expr):Bool:=lc ts λt r=>eName t λx N=>lc r λU R=>eName U λy py=>
 if R.isEmpty then decide (sc.names.lookup x=some .local)&&decide (sc.names.lookup y=some .local)&&(N.line == py.line)&&decide (x≠y)&&!(vs.all (DU 8))&&!(vs.all (Gk 8))
 else l1 R λS=>eName S λz W=>decide (sc.names.lookup x=some .local)&&decide (sc.names.lookup y=some .local)&&decide (sc.names.lookup z=some .local)&&(N.line == py.line)&&(N.line == W.line)&&decide (x≠y)&&decide (x≠z)&&decide (y≠z)&&!(vs.all (DU 8))&&!(vs.all (Gk 8))
noncomputable def Xa(sc:Scope)(ts vs:List Expr):Bool:=ts.any (λ|.Name x _=>decide (sc.names.lookup x≠some .local)|_=>false)||(decide (3<ts.length)||vs.all (DU 8))
def rg{vs:List Expr}(h:yV vs=true):(vs.any λ|.Starred ..=>true|_=>false)=false:=by
 induction vs with
 |nil=>rfl
 |cons v vs N=>
  rw[yV,ub]at h;rw[DT,N h.2];cases v<;>first|rfl|(have z:=h.1;cases z)
def m7(hb:env.blockKind=.function)(hx:env.kindOf x=some .local)(X:env.kindOf y=some .local)(U:(px.line == py.line)=true)(S:x≠y)(hp:yV [a,b]=true)
 (Y:[a,b].all (DU 8)=false) (Z:[a,b].all (Gk 8)=false):Cq [.Tuple [.Name x px,.Name y py] kt pt] (.Tuple [a,b] k2 pt2) env=pure (some [x,y]):=by
 have hs:=rg hp;have R:(py.line == px.line)=true:=by rw[beq_iff_eq]at U ⊢;exact U.symm
 unfold Cq;have W:([x,y].eraseDups.length != [x,y].length)=false:=by
  have:(y == x)=false:=by simpa using BJ S
  simp[List.eraseDups_cons,this]
 simp only[Ak,B8,hb,Y,hs,Z,hx,X,R,List.head?_cons,HK,FC,A7,List.filterMap_nil,beq_self_eq_true,Fw,if_true];have N:(FH x px).pos.line=px.line:=rfl;refine(if_neg (by decide)).trans ((if_neg (λz=>Ag (hs.symm.trans z))).trans ?_)
 simp only[N,beq_self_eq_true,R,Fw,if_true,W,Ak,B8,bne_self_eq_false,Bool.or_self,Aw,if_false];exact if_neg (λz=>Ag (W.symm.trans (by rw[Bool.false_or]at z;exact z)))
def qW(hb:env.blockKind=.function)(hx:env.kindOf x=some .local)(hy:env.kindOf y=some .local)(hz:env.kindOf z=some .local)(Z:(px.line == py.line)=true)(W:(px.line == pz.line)=true)
 (Y:x≠y) (U:x≠z) (S:y≠z) (hp:yV [a,b,c]=true) (hf:[a,b,c].all (DU 8)=false) (hc:[a,b,c].all (Gk 8)=false):Cq [.Tuple [.Name x px,.Name y py,.Name z pz] kt pt] (.Tuple [a,b,c] k2 pt2) env=pure (some [x,y,z]):=by
 have hs:=rg hp;have X:(py.line == px.line)=true:=by rw[beq_iff_eq]at Z ⊢;exact Z.symm
 have N:(pz.line == px.line)=true:=by rw[beq_iff_eq]at W ⊢;exact W.symm
 unfold Cq;have e1:([x,y,z].eraseDups.length != [x,y,z].length)=false:=by
  have h1:(y == x)=false:=by simpa using BJ Y
  have h2:(z == x)=false:=by simpa using BJ U
  have h3:(z == y)=false:=by simpa using BJ S
  simp[List.eraseDups_cons,h1,h2,h3]
 simp only[Ak,B8,hb,hf,hs,hc,hx,hy,hz,X,N,List.head?_cons,HK,FC,A7,List.filterMap_nil,beq_self_eq_true,Fw,if_true];have R:(FH x px).pos.line=px.line:=rfl;refine(if_neg (by decide)).trans ((if_neg (λz=>Ag (hs.symm.trans z))).trans ?_)
 simp only[R,beq_self_eq_true,X,N,Fw,if_true,e1,Ak,B8,bne_self_eq_false,Bool.or_self,Aw,if_false];exact if_neg (λz=>Ag (e1.symm.trans (by rw[Bool.false_or]at z;exact z)))
theorem uh{N R:Type}{f:N->Option R}:∀{l:List N},(∃a∈l,f a=none)->(l.filterMap f).length<l.length
 |[],⟨a,h,_⟩=>by cases h
 |b::l,⟨a,h,e⟩=>by
  rw[A7];have S:=Hf f l;rcases Al.mp h with z|z
  . subst z;rw[e];simp only[Ak];omega
  . have:=uh ⟨a,z,e⟩
    cases f b with
    |none=>simp only[Ak];omega
    |some _=>simp only[Ak];omega
def fU(h:(∃x p,FH x p∈ts/\env.kindOf x≠some .local)\/3<ts.length\/vs.all (DU 8)=true):Cq [.Tuple ts kt pt] (.Tuple vs k2 pt2) env=pure none:=by
 unfold Cq;simp only[];split
 . rfl
 . rename_i h1
   split
   . rfl
   . rcases h with⟨x,p,N,hk⟩|h|h
     . rw[if_pos]
       rw[Bd];left;rw[bne_iff_ne];refine AD (uh ⟨_,N,?_⟩);have:(env.kindOf x == some .local)=false:=by simpa using hk
       simp only[this,Ei,Aw,if_false]
     . exfalso
       apply h1;have:(ts.length == 2||ts.length == 3)=false:=by rw[F4];constructor<;>(rw[beq_eq_false_iff_ne];omega)
       rw[this];rfl
     . split
       . rfl
       . first|rfl|rw[if_pos h]
def kj(h:plain i=true)v:assign (.Subscript o i p) env v=(do
 let N <-holding [v] (eval o env);let R <-holding [v,N] (eval i env)
 standAt p
 holding [v,N,R] (setItem N R v)
 release [v,N,R] []):=by
 cases i<;>first|rfl|cases h
section
variable {X:L2.Cx}{env:Env}{s:Sto}
def SN{t:L2.TS}(h:∀D σ H,¬t D σ H):L2.PS X st t:=λpins s σ H D I q=>(h D σ H q).elim
def V2(h:∀v s',o≠.e v s'):¬tSt X.K X.d env s o D σ H:=by
 rintro ⟨ρ,_,_,w⟩;cases o with
 |e v s'=>exact h v s' rfl
 |g _ _ _=>exact w
 |d=>exact w
def zP(h:∀v s',o≠.e v s'):L2.PS X st (tSt X.K X.d env s o):=SN λ_ _ _=>V2 h
def ZX(S:ux e=true)(h:L2.PE X e (tV X.K X.d env s o)):L2.PS X (.Expr e pos) (tSt X.K X.d env s (o.bind λ_ s1=>.e (.a env) s1)):=by
 cases o with
 |e v s1=>exact vJ (L2.YB h (m8 S)) λD σ H ⟨ρ,hr,er,w⟩=>⟨ρ,hr,er,λρ1 x H1 R N U=>w ρ1 H1 σ R N (er.mono R)⟩
 |g _ _ _=>exact zP (zD rfl)
 |d=>exact zP (zD rfl)
def Wq(h:L2.PE X e (tV X.K X.d env s o)):L2.PS X (.Return (some e) pos) (tSt X.K X.d env s (o.bind λv s1=>.e (.b v) s1)):=by
 cases o with
 |e v s1=>exact vJ (L2.Vm h) λD σ H ⟨ρ,hr,er,w⟩=>⟨ρ,hr,er,λρ1 x H1 R N S=>w ρ1 H1 x R N S⟩
 |g _ _ _=>exact zP (zD rfl)
 |d=>exact zP (zD rfl)
def lV(N:L2.PS X st (L2.qX te (L2.vY i)))(h:∀σ H Q,tV X.K X.d env s o σ H Q->te σ H Q):L2.PS X st (tSt X.K X.d env s (o.bind λv s1=>.e (.a (env.set i (some v))) s1)):=by
 cases o with
 |e v s1=>exact vJ N λD σ H ⟨ρ,hr,er,w⟩=>h _ _ _ ⟨ρ,hr,er,λρ1 x H1 S R U=>w ρ1 H1 _ S R ((er.mono S).set i U)⟩
 |g _ _ _=>exact zP (zD rfl)
 |d=>exact zP (zD rfl)
def j6{t:Tgt}{g:L2.TG}{o:Out Val}{st:Stmt}{te:L2.TE}(TG:sJ X.K X.d t g)(N:L2.PS X st (L2.qX te g))(h:∀σ H Q,tV X.K X.d env s o σ H Q->te σ H Q) :
 L2.PS X st (tSt X.K X.d env s (o.bind λv s1=>match yC t v env with|some env'=>.e (.a env') s1|dS=>.d)):=by
 cases o with
 |e v s1=>
  show L2.PS X st (tSt X.K X.d env s (match yC t v env with|some env'=>.e (.a env') s1|dS=>.d))
  cases hb:yC t v env with
  |none=>exact zP (zD rfl)
  |some env'=>exact vJ N λD σ H ⟨ρ,hr,er,w⟩=>h _ _ _ ⟨ρ,hr,er,λρ1 x H1 W R Y=>TG ρ1 s1 H1 v x env env' σ _ R Y (er.mono W) hb λS U=>w ρ1 H1 S W R U⟩
 |g _ _ _=>exact zP (zD rfl)
 |d=>exact zP (zD rfl)
def dh{a i e:Expr}{o:Out Val}{f2 f3:Sto->Out Val}{p pos:Pos}(hi0:plain i=true)(h1:L2.PE X e (tV X.K X.d env s o))(h2:∀s1,L2.PE X a (tV X.K X.d env s1 (f2 s1)))(h3:∀s1,L2.PE X i (tV X.K X.d env s1 (f3 s1))) :
 L2.PS X (.Assign [.Subscript a i p] e pos) (tSt X.K X.d env s (o.bind λv s1=>(f2 s1).bind λx s2=>(f3 s2).bind λy Z=>match x,y with
  |.j r,.c k=>(match Z[r]? with
   |some (.c vs)=>(match L2.ixN vs.length k with|some j=>.e (.a env) (upd Z r (vs.set j v))|dS=>.d)
   |_=>.d)
  |_,_=>.d)):=by
 cases o with
 |e v s1=>
  have Y:=h2 s1;simp only[zN];cases hb:f2 s1 with
  |e x s2=>
   rw[hb]at Y;have W:=h3 s2;simp only[zN];cases hc:f3 s2 with
   |e y Z=>
    rw[hc]at W;simp only[zN];have R:L2.PS X (.Assign [.Subscript a i p] e pos) (L2.qX _ (L2.Ut _ _ L2.XN)):=L2.kP h1 (L2.Vi Y W L2.set_list (kj hi0)) fP m6;cases x with
    |j r=>
     cases y with
     |c k=>
      simp only[];cases hs:Z[r]? with
      |none=>exact zP (zD rfl)
      |some cl=>
       cases cl with
       |d _=>exact zP (zD rfl)
       |e _=>exact zP (zD rfl)
       |f _=>exact zP (zD rfl)
       |c vs=>
        simp only[];cases hj:L2.ixN vs.length k with
        |none=>exact zP (zD rfl)
        |some j=>
         refine vJ R λD σ H ⟨ρ,hr,er,w⟩=>⟨ρ,hr,er,λρ1 xv H1 x1 U r1=>⟨ρ1,U,er.mono x1,λρ2 xo H2 x2 S r2=>⟨ρ2,S,(er.mono x1).mono x2,λρ3 xi H3 x3 N r3=>?_⟩⟩⟩;cases r3;have r2':=r2.mono x3;cases r2' with
         |C e0 _=>
          obtain⟨b',xs,e1,e2,q⟩:=N.obj r _ hs;rw[e0]at e1;cases e1;have xx:=(x1.trans U x2).trans S x3;refine⟨_,xs,k,j,rfl,rfl,e2,by rw[<-q.length];exact hj,?_⟩
          exact w ρ3 _ σ (xx.trans N (Ext.write N e0 e2 _)) (N.write e0 e2 (RDs.set ((r1.mono x2).mono x3) j q)) ((er.mono xx).mono (Ext.write N e0 e2 _))
     |_=>exact zP (zD rfl)
    |_=>exact zP (zD rfl)
   |g _ _ _=>exact zP (zD rfl)
   |d=>exact zP (zD rfl)
  |g _ _ _=>exact zP (zD rfl)
  |d=>exact zP (zD rfl)
 |g _ _ _=>exact zP (zD rfl)
 |d=>exact zP (zD rfl)
end
section
variable {X:L2.Cx}{env:Env}{s:Sto}
def ZY(N:L2.PS X st (L2.Sx i j ta))(h:∀σ H Q,tVs X.K X.d env s o σ H Q->ta σ H Q) :
 L2.PS X st (tSt X.K X.d env s (o.bind λvs s1=>if vs.length=[i,j].length then .e (.a (([i,j].zip vs).foldl (λe p=>e.set p.1 (some p.2)) env)) s1 else .d)):=by
 cases o with
 |e vs s1=>
  show L2.PS X st (tSt X.K X.d env s (if vs.length=[i,j].length then .e (.a (([i,j].zip vs).foldl (λe p=>e.set p.1 (some p.2)) env)) s1 else .d))
  match vs with
  |[v,w]=>
   refine vJ N λD σ H ⟨ρ,hr,er,wt⟩=>h _ _ _ ⟨ρ,hr,er,λρ1 xs H1 S R Y=>?_⟩;obtain⟨x,y,rfl,W,U⟩:=fF Y;exact⟨x,y,rfl,wt ρ1 H1 _ S R (((er.mono S).set i W).set j U)⟩
  |[]=>exact zP (zD rfl)
  |[_]=>exact zP (zD rfl)
  |_::_::_::r=>exact zP (λ_ _ e=>by simp at e)
 |g _ _ _=>exact zP (zD rfl)
 |d=>exact zP (zD rfl)
def Rq(r:RDs K mg ρ H [v,w,z] xs):∃x y t,xs=[x,y,t]/\RD K mg ρ H v x/\RD K mg ρ H w y/\RD K mg ρ H z t:=by
 cases r with
 |a U S=>
  obtain⟨y,t,rfl,R,N⟩:=fF S;exact⟨_,_,_,rfl,U,R,N⟩
def ZZ(N:L2.PS X st (L2.XS i j k ta))(h:∀σ H Q,tVs X.K X.d env s o σ H Q->ta σ H Q) :
 L2.PS X st (tSt X.K X.d env s (o.bind λvs s1=>if vs.length=[i,j,k].length then .e (.a (([i,j,k].zip vs).foldl (λe p=>e.set p.1 (some p.2)) env)) s1 else .d)):=by
 cases o with
 |e vs s1=>
  show L2.PS X st (tSt X.K X.d env s (if vs.length=[i,j,k].length then .e (.a (([i,j,k].zip vs).foldl (λe p=>e.set p.1 (some p.2)) env)) s1 else .d))
  match vs with
  |[v,w,z]=>
   refine vJ N λD σ H ⟨ρ,hr,er,wt⟩=>h _ _ _ ⟨ρ,hr,er,λρ1 xs H1 S R Z=>?_⟩;obtain⟨x,y,t,rfl,W,U,Y⟩:=Rq Z;exact⟨x,y,t,rfl,wt ρ1 H1 _ S R ((((er.mono S).set i W).set j U).set k Y)⟩
  |[]=>exact zP (zD rfl)
  |[_]=>exact zP (zD rfl)
  |[_,_]=>exact zP (zD rfl)
  |_::_::_::_::r=>exact zP (λ_ _ e=>by simp at e)
 |g _ _ _=>exact zP (zD rfl)
 |d=>exact zP (zD rfl)
def uSs(K:KF)(mg:Str->Option Value)(Φ:Calls)(G:Str->Option Val)(b:Sms):L2.TS:=λD σ H=>∃env s,tSt K mg env s (zj Φ G env b s) D σ H
def TM{f2 U:Sto->Out Fl}(Z:L2.PT X c (tT X.K X.d env s o))(ha:L2.PSs X a ta)(hb:L2.PSs X b tb)(Y:∀s1 D σ H,tSt X.K X.d env s1 (f2 s1) D σ H->ta D σ H)(ib:∀s1 D σ H,tSt X.K X.d env s1 (U s1) D σ H->tb D σ H) :
 L2.PS X (.If c a b pos) (tSt X.K X.d env s (o.bind λt s1=>if t then f2 s1 else U s1)):=by
 cases o with
 |e v s1=>
  refine vJ (L2.SM Z ha hb) λD σ H ⟨ρ,hr,er,wt⟩=>⟨ρ,hr,er,λρ1 x H1 S N W=>?_⟩;have R:=wt.mono S N;cases W;cases v with
  |true=>exact L2.oB (Y s1 D σ H1 ⟨ρ1,N,er.mono S,R⟩)
  |false=>exact L2.oA (ib s1 D σ H1 ⟨ρ1,N,er.mono S,R⟩)
 |g _ _ _=>exact zP (zD rfl)
 |d=>exact zP (zD rfl)
def eY{body:Env->Sto->Out Fl}{tb:L2.TS}(W:Walk K mg ρ H r J)(TG:sJ K mg t g)(hb:∀env s D σ H,tSt K mg env s (body env s) D σ H->tb D σ H)
 (hr:HR K mg ρ s H) (er:ER K mg ρ H env σ) (w:qd K mg ρ H (vO r t body r.a env s) D):L2.u4 J g tb D σ H:=by
 refine nZ (n:=r.a.length) (λi Y H2=>∃ρ2 s2 S,HR K mg ρ2 s2 H2/\ER K mg ρ2 H2 S Y/\Ext ρ H ρ2 H2/\vO r t body (r.a.drop i) S s2=vO r t body r.a env s) ⟨ρ,s,env,hr,er,Ext.refl,by rw[C9]⟩ ?_ ?_
 . rintro Y H2 ⟨ρ2,s2,S,R,er2,x2,N⟩
   rw[Hr,vO]at N;split at N
   . rename_i ho
     rw[<-N]at w;exact⟨W.a ρ2 H2 s2 _ x2.mv R ho rfl,w ρ2 H2 Y x2 R er2⟩
   . rw[<-N]at w;exact w.elim
 . rintro i Y H2 hi ⟨ρ2,s2,S,R,er2,x2,N⟩
   rw[Bn hi,vO]at N;split at N
   . rename_i ho
     obtain⟨hgo,hy⟩:=W.c ρ2 H2 s2 i (r.a[i]) x2.mv R ho (pn hi);refine⟨hgo,λx H3 y=>?_⟩;obtain⟨hH,rx⟩:=hy x H3 y;split at N
     . rw[<-N]at w;exact w.elim
     . rename_i env' he
       have C3:HR K mg ρ2 s2 H3/\Ext ρ2 H2 ρ2 H3:=by
        rcases hH with e|⟨q,o,hq,e⟩
        . subst e;exact⟨R,Ext.refl⟩
        . subst e;exact⟨R.more hq o,Ext.new R hq o⟩
       have x3:=x2.trans R C3.2;refine TG ρ2 s2 H3 _ x S env' Y _ C3.1 rx (er2.mono C3.2) he λσ4 er4=>hb env' s2 _ σ4 H3 ⟨ρ2,C3.1,er4,?_⟩;cases hc:body env' s2 with
       |e fl s5=>
        rw[hc]at N;simp only[zN]at N;cases fl with
        |a e=>exact λU H5 σ5 x5 X Z=>⟨U,s5,e,X,Z,x3.trans C3.1 x5,N⟩
        |d e=>exact λU H5 σ5 x5 X Z=>⟨U,s5,e,X,Z,x3.trans C3.1 x5,N⟩
        |c e=>
         simp only[]at N;rw[<-N]at w;exact λU H5 σ5 x5 X Z=>w U H5 σ5 (x3.trans C3.1 x5) X Z
        |b v=>
         simp only[]at N;rw[<-N]at w;exact λU H5 y5 x5 X r5=>w U H5 y5 (x3.trans C3.1 x5) X r5
       |g _ _ _=>rw[hc]at N;simp only[fq]at N;rw[<-N]at w;exact w.elim
       |d=>rw[hc]at N;simp only[rB]at N;rw[<-N]at w;exact w.elim
   . rw[<-N]at w;exact w.elim
def Wo(hx:X.h=λ_ _=>False)(Y:X.g=true)(hp:plain iter=true)(hi:∀env s,L2.PI X tg iter (tI (K:=X.K) (mg:=X.d) env s (zy Φ G env it s)))(U:L2.PG X tg g)(TG:sJ X.K X.d t g)
 (Z:L2.PSs X body (uSs X.K X.d Φ G b)):L2.PS X (.For tg iter body [] pos) (tSt X.K X.d env s ((zy Φ G env it s).bind λr s1=>vO r t (λe s'=>zj Φ G e b s') r.a env s1)):=by
 have N:PassesOwn (model X.f X.w) X.A X.a X.h:=by rw[hx];exact PassesOwn.never
 refine vJ (L2.Vk N Y (oY hi) U Z (z7 hp)) λD σ H ⟨ρ,hr,er,w⟩=>⟨env,s,ρ,hr,er,?_⟩;cases hv:zy Φ G env it s with
 |e r s1=>
  rw[hv]at w;exact λρ1 H1 J S R W=>eY W TG (λenv s D σ H h=>⟨env,s,h⟩) R (er.mono S) (w.mono S R)
 |g _ _ _=>rw[hv]at w;exact w.elim
 |d=>rw[hv]at w;exact w.elim
def Za:L2.PSs X [] (tSt X.K X.d env s (.e (.a env) s)):=iS L2.YD λD σ H ⟨ρ,hr,er,w⟩=>w ρ H σ Ext.refl hr er
def di{st:Stmt}{rest:List Stmt}{o:Out Fl}{f:Env->Sto->Out Fl}{U:L2.TS}(Z:L2.PS X st (tSt X.K X.d env s o))(Y:L2.PSs X rest U)(i2:∀env s D σ H,tSt X.K X.d env s (f env s) D σ H->U D σ H) :
 L2.PSs X (st::rest) (tSt X.K X.d env s (o.bind λfl s1=>match fl with|.a e=>f e s1|fl=>.e fl s1)):=by
 refine iS (L2.bM Z Y) λD σ H ⟨ρ,hr,er,w⟩=>⟨ρ,hr,er,?_⟩;cases o with
 |e fl s1=>
  simp only[zN]at w;cases fl with
  |a e=>exact λρ1 H1 R W N S=>i2 e s1 D R H1 ⟨ρ1,N,S,w.mono W N⟩
  |c e=>exact w
  |d e=>exact w
  |b v=>exact w
 |g _ _ _=>exact w.elim
 |d=>exact w.elim
end
def cS(c:Const)(k:Str->Bool):Bool:=el c.ctorIdx 5 λh=>Const.str.elim (motive:=λ_=>Bool) c h k
def eS(e:Expr):Bool:=X2 e λc _ _=>cS c λx=>decide (x.length<=1000)
def eF(e:Expr)(k:Expr->Bool):Bool:=RN e λu c s _=>decide (c=-1)&&s.isNone&&k u
def eFs(e:Expr)(k:Expr->Expr->Bool):Bool:=eJn e λxs _=>lc xs λU xs=>lc xs λN xs=>lc xs λS xs=>lc xs λf2 xs=>l1 xs λR=>(eS U&&(eS S&&eS R))&&eF N λu=>eF f2 λv=>k u v
def RL(sc:Scope)(N:List Str)(es:Exs)(a:Expr):Bool:=eFs a λu v=>ckL sc N es [u,v]
def RM(sc:Scope)(N:List Str)(c:Str)(v:Nat)(es:Exs)(l:List Expr->Bool)(st:Stmt):Bool:=if v=1 then (sRs st λq b _=>b.isNone&&o1 q λq=>eCN q λx xs=>decide (x=c)&&xq sc x&&!(x == ("__debug__":Str))&&(l xs&&yV xs&&decide (xs.length=2)&&decide (x="TooGreat"))) else (sRs st λq b _=>b.isNone&&o1 q λq=>eCN q λx xs=>l1 xs λa=>decide (x=c)&&xq sc x&&!(x == ("__debug__":Str))&&(((l [a]&&plain a)||RL sc N es a)&&decide (x≠"TooGreat")))
mutual
noncomputable def ckS(sc:Scope)(N:List Str):Sm->Stmt->Bool
 |.m e,st=>(Sf st λx _=>ck sc N e x&&ux x)
 |.f e,st=>(Sh st λq _=>o1 q λx=>ck sc N e x)
 |.v,_=>false
 |.d i e,st=>(bj st λts v _=>l1 ts λt=>eName t λx _=>decide (N[i]?=some x)&&(decide (sc.names.lookup x=some .local)||decide (sc.names.lookup x=some .cell))&&(ck sc N e v&&Tf e))
 |.p is e,st=>(bj st λR v _=>l1 R λt=>eU t λts _ _=>yt sc N is ts&&ck sc N e v&&notTuple v)
 |.q is es,st=>(bj st λR v _=>l1 R λt=>eU t λts _ _=>eU v λvs _ _=>yt sc N is ts&&ckL sc N es vs&&yV vs&&decide (is.length<=8)&&decide is.Nodup&&decide (ts.length=vs.length)&&(Sq sc ts vs||Xa sc ts vs))
 |.y _ _ _,_=>false
 |.w _ _ _,_=>false
 |.l o i e,st=>(bj st λts v _=>l1 ts λt=>au t λa b _=>ck sc N o a&&ck sc N i b&&ck sc N e v&&plain b)
 |.j c a b,st=>(sIf st λt x y _=>ckC sc N c t&&lM sc N a x&&lM sc N b y)
 |.g t it b,st=>(Sg st λtg iter body S _=>S.isEmpty&&(ckT sc N t tg&&ckI sc N it iter tg&&lM sc N b body&&plain iter))
 |.r _ _,_=>false
 |.u,_=>false
 |.x,_=>false
 |.s,_=>false
 |.n e,st=>(match e with
  |.h c v es=>RM sc N c v es (λxs=>ckL sc N es xs) st
  |.g _=>true
  |_=>false)
noncomputable def lM(sc:Scope)(N:List Str):Sms->List Stmt->Bool
 |.f,ss=>ss.isEmpty
 |.e c cs,ss=>(lc ss λt ts=>ckS sc N c t&&lM sc N cs ts)
 |.g ..,_=>false
end
structure OkF(T:Tbl)(n:Nat)(sc:Scope)(N:List Str)(X:L2.Cx):Prop where
 a:Ok T n sc N X
 b:X.a.scope=sc
 bk:X.a.blockKind=.function
section
variable {T:Tbl}{n:Nat}
def JS(T:Tbl)(n:Nat)(a:Sm):Prop:=∀(sc:Scope) (N:List Str) (X:L2.Cx) (st:Stmt),OkF T n sc N X->ckS sc N a st=true->∀env s,L2.PS X st (tSt X.K X.d env s (exS (zE T n) T.b env a s))
def JSs(T:Tbl)(n:Nat)(a:Sms):Prop:=∀(sc:Scope) (N:List Str) (X:L2.Cx) (st:List Stmt),OkF T n sc N X->lM sc N a st=true->∀env s,L2.PSs X st (tSt X.K X.d env s (zj (zE T n) T.b env a s))
def iT(h:∀env s,L2.PSs X st (tSt X.K X.d env s (zj Φ G env b s))):L2.PSs X st (uSs X.K X.d Φ G b):=λpins s σ H D I ⟨env,t,q⟩=>h env t pins s σ H D I q
def ZR:JS T n (.m e):=by intro sc N X st o h env s;replace h:=bp h;obtain⟨R,S,rfl,h⟩:=h;simp only[ub]at h;exact ZX h.2 (jE T n e _ _ _ _ o.a h.1 env s)
def Wd:JS T n (.f e):=by intro sc N X st o h env s;replace h:=br h;obtain⟨S,U,rfl,h⟩:=h;replace h:=cP h;obtain⟨R,rfl,h⟩:=h;exact Wq (jE T n e _ _ _ _ o.a h env s)
def qC:∃b,FF (.ListComp elt gens csc cpos) (some (.Name y py)) l env=pure b:=⟨_,rfl⟩
noncomputable def ZH:Ex->Bool
 |.l ..|.z ..|.C ..=>true
 |_=>false
def Tc(h:ck sc N a e=true)(S:ZH a=false):ux e=true:=by
 have no:∀{e:Expr},ck sc N a e=true->e.ctorIdx=8\/e.ctorIdx=9\/e.ctorIdx=10->False:=λ{e} h R=>by
  have key:(∃x g c p,e=.ListComp x g c p)\/(∃x g c p,e=.SetComp x g c p)\/∃k x g c p,e=.DictComp k x g c p:=by
   rcases R with R|R|R
   . exact .inl (Gr (motive_1:=λe=>∃x g c p,e=Expr.ListComp x g c p) e R λx g c p=>⟨x,g,c,p,rfl⟩)
   . exact .inr (.inl (GZ (motive_1:=λe=>∃x g c p,e=Expr.SetComp x g c p) e R λx g c p=>⟨x,g,c,p,rfl⟩))
   . exact .inr (.inr (Expr.DictComp.elim (motive_1:=λe=>∃k x g c p,e=Expr.DictComp k x g c p) e R λk x g c p=>⟨k,x,g,c,p,rfl⟩))
  rcases key with⟨x,g,c,p,rfl⟩|⟨x,g,c,p,rfl⟩|⟨k,x,g,c,p,rfl⟩ <;>
  . cases a with
    |l _ _ _ _ _ _ _=>cases S
    |z _ _ _ _ _ _ _ _ _ _=>cases S
    |C _=>cases S
    |h f v es=>
     have h:(if v<100 then _ else false)=true:=h
     split at h
     . cases h
     . cases h
    |_=>cases h
 cases e with
 |ListComp _ _ _ _=>exact(no h (.inl rfl)).elim
 |SetComp _ _ _ _=>exact(no h (.inr (.inl rfl))).elim
 |DictComp _ _ _ _ _=>exact(no h (.inr (.inr rfl))).elim
 |_=>rfl
def Wa:JS T n (.d i e):=by
 intro sc N X st o h env s;replace h:=tE h;obtain⟨ts1,v,pos,rfl,h⟩:=h;replace h:=yU h;obtain⟨t1,rfl,h⟩:=h;replace h:=yp h;obtain⟨x,px,rfl,h⟩:=h;simp only[ub,decide_eq_true_eq,Bd]at h;obtain⟨⟨h1,h2⟩,W,hns⟩:=h;obtain⟨l1,l2⟩:=o.a.c.c x h2;have hN:X.N.Nodup:=by rw[o.a.c.b];exact o.a.c.d
 have hi:X.N[i]?=some x:=by rw[o.a.c.b];exact h1
 by_cases hn:ux v=true
 . exact lV (L2.kQ hN hi l1 (jE T n e _ _ _ _ o.a W env s) (m8 hn) l2) λσ H Q q=>q
 . -- a GC
   cases e with
   |l m Y fr elt t it ifs=>
    replace W:=jg W;obtain⟨x',tg,iter,fs,csc,cpos,rfl,W⟩:=W;simp only[ub,decide_eq_true_eq]at W;obtain⟨⟨⟨⟨⟨⟨c1,c2⟩,c3⟩,c4⟩,c5⟩,c6⟩,c7⟩:=W;have S:=nR o.a.c c1;have oc:=o.a.comp S c2 c1;obtain⟨g,pg,tg'⟩:=t6 o.a oc t tg c3;have hpi:L2.PI X tg iter (uI X.K X.d (zE T n) T.b it):=oY λenv s=>jI T n it _ _ _ _ _ o.a c4 env s;have hts:∀C R H0 ex,L2.PTs (X.comp Y csc C R H0 ex) fs (uTs X.K X.d (zE T n) T.b ifs):=λC R H0 ex=>(jCs T n ifs _ _ _ _ (oc C R H0 ex) c5).2.2;have hel:∀C R H0 ex,L2.PE (X.comp Y csc C R H0 ex) x' (uE X.K X.d (zE T n) T.b elt):=λC R H0 ex=>bB (X:=X.comp Y csc C R H0 ex) λenv s=>jE T n elt _ _ _ _ (oc C R H0 ex) c6 env s;have Z:L2.PS X (.Assign [.Name x px] (.ListComp x' [⟨tg,iter,fs,0⟩] csc cpos) pos) (L2.qX (L2.vg fr (uI X.K X.d (zE T n) T.b it) g (uTs X.K X.d (zE T n) T.b ifs) λacc=>L2.sH acc (uE X.K X.d (zE T n) T.b elt)) (L2.vY i)):=by
     obtain⟨b,hb⟩:=qC (elt:=x') (gens:=[⟨tg,iter,fs,0⟩]) (csc:=csc) (cpos:=cpos) (y:=x) (py:=px) (l:=pos.line) (env:=X.a);cases b with
     |true=>exact L2.YA o.a.d S hpi pg hts hel hN hi l1 hb l2 (z7 c7)
     |false=>exact L2.kQ hN hi l1 (L2.iN o.a.d S hpi pg hts hel (z7 c7)) hb l2
    refine lV (o:=evE (zE T n) T.b env (.l m Y fr elt t it ifs) s) Z λσ H Q hq=>vp (env:=env) (s:=s) (chk:=false) (m:=m) (body:=v8 (zE T n) T.b elt ifs) tg' wR (λacc ρ0 H0 hn=>qI jK hn) ?_ λ_ r s1 p s2 hl=>?_
    . simp only[Aw,false_implies,if_true];exact hq
    . have:=t8 hl
      simpa using this
   |z m Y fr elt t it ifs t2 it2 ifs2=>
    replace W:=jh W;obtain⟨x',tg,iter,fs,tg2,U,fs2,csc,cpos,rfl,W⟩:=W;simp only[ub,decide_eq_true_eq]at W;obtain⟨⟨⟨⟨⟨⟨⟨⟨⟨⟨c1,c2⟩,c3⟩,c4⟩,c5⟩,c6⟩,c7⟩,c8⟩,c9⟩,c10⟩,c11⟩:=W;have S:=nR o.a.c c1;have oc:=o.a.comp S c2 c1;have tgt:=t6 o.a oc;obtain⟨g,pg,tg'⟩:=tgt t tg c3;obtain⟨g2,pg2,tg2'⟩:=tgt t2 tg2 c6;have hpi:L2.PI X tg iter (uI X.K X.d (zE T n) T.b it):=oY λenv s=>jI T n it _ _ _ _ _ o.a c4 env s;have hts:∀C R H0 ex,L2.PTs (X.comp Y csc C R H0 ex) fs (uTs X.K X.d (zE T n) T.b ifs):=λC R H0 ex=>(jCs T n ifs _ _ _ _ (oc C R H0 ex) c5).2.2;have hpi2:∀C R H0 ex,L2.PI (X.comp Y csc C R H0 ex) tg2 U (uI X.K X.d (zE T n) T.b it2):=λC R H0 ex=>oY (X:=X.comp Y csc C R H0 ex) λenv s=>jI T n it2 _ _ _ _ _ (oc C R H0 ex) c7 env s;have hts2:∀C R H0 ex,L2.PTs (X.comp Y csc C R H0 ex) fs2 (uTs X.K X.d (zE T n) T.b ifs2):=λC R H0 ex=>(jCs T n ifs2 _ _ _ _ (oc C R H0 ex) c8).2.2;have hel:∀C R H0 ex,L2.PE (X.comp Y csc C R H0 ex) x' (uE X.K X.d (zE T n) T.b elt):=λC R H0 ex=>bB (X:=X.comp Y csc C R H0 ex) λenv s=>jE T n elt _ _ _ _ (oc C R H0 ex) c9 env s;have Z:L2.PS X (.Assign [.Name x px] (.ListComp x' [⟨tg,iter,fs,0⟩,⟨tg2,U,fs2,0⟩] csc cpos) pos) (L2.qX (L2.vg fr (uI X.K X.d (zE T n) T.b it) g (uTs X.K X.d (zE T n) T.b ifs) λacc=>L2.uR (uI X.K X.d (zE T n) T.b it2) g2 (uTs X.K X.d (zE T n) T.b ifs2) (L2.sH acc (uE X.K X.d (zE T n) T.b elt))) (L2.vY i)):=by
     obtain⟨b,hb⟩:=qC (elt:=x') (gens:=[⟨tg,iter,fs,0⟩,⟨tg2,U,fs2,0⟩]) (csc:=csc) (cpos:=cpos) (y:=x) (py:=px) (l:=pos.line) (env:=X.a);cases b with
     |true=>exact L2.bL o.a.d S hpi pg hts hpi2 pg2 hts2 hel hN hi l1 hb l2 (z7 c10) (λenv=>z7 c11)
     |false=>exact L2.kQ hN hi l1 (L2.mR o.a.d S hpi pg hts hpi2 pg2 hts2 hel (z7 c10) (λenv=>z7 c11)) hb l2
    refine lV (o:=evE (zE T n) T.b env (.z m Y fr elt t it ifs t2 it2 ifs2) s) Z λσ H Q hq=>vp (env:=env) (s:=s) (chk:=true) (m:=m) (body:=uS (zE T n) T.b elt ifs t2 it2 ifs2) tg' vM (λacc ρ0 H0 hn=>t7 jK hn tg2') ?_ λz=>by cases z
    simp only[true_implies];exact hq
   |C _=>cases hns
   |_=>exact absurd (Tc W rfl) hn
def ZQ:JS T n (.p is e):=by intro sc N X st o h env s;replace h:=tE h;obtain⟨R,v,pos,rfl,h⟩:=h;replace h:=yU h;obtain⟨Y,rfl,h⟩:=h;replace h:=ug h;obtain⟨ts,k,p,rfl,h⟩:=h;simp only[ub]at h;obtain⟨⟨W,U⟩,S⟩:=h;obtain⟨a,b,c⟩:=wo o.a.c W;exact j6 (t:=.b is) tG (L2.kP (jE T n e _ _ _ _ o.a U env s) (L2.oX o.a.d a b c) vw (km S)) λσ H Q q=>q
def tN(h:yt sc N is (.Name x p::ts)=true):∃i R,is=i::R/\N[i]?=some x/\yt sc N R ts=true:=by
 cases is with
 |nil=>exact absurd h Ag
 |cons i R=>
  obtain⟨a,b⟩:=yg h;exact⟨i,R,rfl,of_decide_eq_true (yg a).1,b⟩
def nH(h:yt sc N is []=true):is=[]:=by
 cases is with
 |nil=>rfl
 |cons i R=>exact absurd h Ag
def Wc:JS T n (.q is es):=by
 intro sc N X st o h env s;replace h:=tE h;obtain⟨ts1,v,pos,rfl,h⟩:=h;replace h:=yU h;obtain⟨t1,rfl,h⟩:=h;replace h:=ug h;obtain⟨ts,k,p,rfl,h⟩:=h;replace h:=ug h;obtain⟨vs,k2,p2,rfl,h⟩:=h;simp only[ub,decide_eq_true_eq,Bd]at h;obtain⟨⟨⟨⟨⟨⟨S,h2⟩,h3⟩,h4⟩,W⟩,h6⟩,R⟩:=h;have U:=(jL T n es _ _ _ _ o.a h2).1 h3 env s;have hN:X.N.Nodup:=by rw[o.a.c.b];exact o.a.c.d
 have kind:∀x,X.a.kindOf x=sc.names.lookup x:=λx=>by show X.a.scope.names.lookup x=_;rw[o.b]
 rcases R with R|R
 . replace R:=xA R
   obtain⟨t,r,rfl,R⟩:=R;replace R:=yp R;obtain⟨x,px,rfl,R⟩:=R;replace R:=xA R;obtain⟨t,r2,rfl,R⟩:=R;replace R:=yp R;obtain⟨y,py,rfl,R⟩:=R;replace S:=tN S;obtain⟨i,js,rfl,i1,S⟩:=S;replace S:=tN S;obtain⟨j,js,rfl,j1,S⟩:=S;by_cases hr:r2.isEmpty=true
   . rw[if_pos hr]at R
     cases Br.mp hr;cases nH S;simp only[ub,decide_eq_true_eq,Bu]at R;obtain⟨⟨⟨⟨⟨q1,Z⟩,q3⟩,q4⟩,q5⟩,q6⟩:=R
     . match vs,h6 with
       |[a,b],_=>
        have hij:i≠j:=by rw[Bc]at W;exact λz=>W.1 (by rw[z];exact Av.mpr rfl)
        exact ZY (L2.Vl o.a.d hN (by rw[o.a.c.b];exact i1) (by rw[o.a.c.b];exact j1) hij (by rw[o.b];exact q1) (by rw[o.b];exact Z) U
         (m7 o.bk (by rw[kind];exact q1) (by rw[kind];exact Z) q3 q4 h3 q5 q6) vw) λσ H Q q=>q
   . rw[if_neg hr]at R
     replace R:=yU R;obtain⟨t,rfl,R⟩:=R;replace R:=yp R;obtain⟨z,pz,rfl,R⟩:=R;replace S:=tN S;obtain⟨l,js,rfl,l1,S⟩:=S;cases nH S;simp only[ub,decide_eq_true_eq,Bu]at R;obtain⟨⟨⟨⟨⟨⟨⟨⟨⟨q1,Z⟩,q3⟩,q4⟩,q5⟩,q6⟩,q7⟩,q8⟩,q9⟩,q10⟩:=R
     . match vs,h6 with
       |[a,b,c],_=>
        simp only[Bc,Al,Bt,or_false,not_or]at W;exact ZZ (L2.YC o.a.d hN (by rw[o.a.c.b];exact i1) (by rw[o.a.c.b];exact j1) (by rw[o.a.c.b];exact l1) W.1.1 W.1.2 W.2.1 (by rw[o.b];exact q1) (by rw[o.b];exact Z) (by rw[o.b];exact q3) U
         (qW o.bk (by rw[kind];exact q1) (by rw[kind];exact Z) (by rw[kind];exact q3) q4 q5 q6 q7 q8 h3 q9 q10) vw) λσ H Q q=>q
 . have hun:(∃x p,FH x p∈ts/\X.a.kindOf x≠some .local)\/3<ts.length\/vs.all (DU 8)=true:=by
    unfold Xa at R;rw[Bd,Bd]at R;rw[CC,decide_eq_true_eq]at R;rcases R with⟨e,hm,he⟩|R
    . cases e with
      |Name x px=>
       simp only[decide_eq_true_eq]at he;exact .inl ⟨x,px,hm,by rw[kind];exact he⟩
      |_=>cases he
    . exact .inr R
   obtain⟨a,b,c⟩:=wo o.a.c S;have Y:=j6 (t:=.b is) (env:=env) (s:=s) tG (L2.kP (pos:=pos) (de (k:=k2) (pos:=p2) U) (L2.oX (k:=k) (pos:=p) o.a.d a b c) vw (fU hun)) λσ H Q q=>q;have e:((yi (zE T n) T.b env es s).bind λvs s1=>if vs.length=is.length then (.e:Fl->Sto->Out Fl) (.a ((is.zip vs).foldl (λe p=>e.set p.1 (some p.2)) env)) s1 else .d)=(((yi (zE T n) T.b env es s).bind λvs s1=>if vs.length<=zR then (.e:Val->Sto->Out Val) (.f vs) s1 else .d).bind λv s1=>match yC (.b is) v env with|some env'=>(.e:Fl->Sto->Out Fl) (.a env') s1|dS=>.d):=by
    cases yi (zE T n) T.b env es s with
    |e ws s1=>
     simp only[zN];by_cases hl:ws.length=is.length
     . have hz:ws.length<=zR:=by rw[hl];exact Ao h4 (by decide)
       simp only[if_pos hl,if_pos hz,zN,yC]
     . rw[if_neg hl]
       by_cases hz:ws.length<=zR
       . simp only[if_neg hl,if_pos hz,zN,yC]
       . simp only[if_neg hz,rB]
    |g _ _ _=>rfl
    |d=>rfl
   show L2.PS X _ (tSt X.K X.d env s ((yi (zE T n) T.b env es s).bind λvs s1=>if vs.length=is.length then .e (.a ((is.zip vs).foldl (λe p=>e.set p.1 (some p.2)) env)) s1 else .d))
   rw[e];exact Y
def dR:JS T n (.l a i e):=by intro sc N X st o h env s;replace h:=tE h;obtain⟨R,v,pos,rfl,h⟩:=h;replace h:=yU h;obtain⟨S,rfl,h⟩:=h;replace h:=rH h;obtain⟨Y,W,U,rfl,h⟩:=h;simp only[ub]at h;exact dh h.2 (jE T n e _ _ _ _ o.a h.1.2 env s) (λs1=>jE T n a _ _ _ _ o.a h.1.1.1 env s1) λs1=>jE T n i _ _ _ _ o.a h.1.1.2 env s1
def U8(S:JSs T n a)(R:JSs T n b):JS T n (.j c a b):=by intro sc N X st o h env s;replace h:=YN h;obtain⟨Y,W,U,Z,rfl,h⟩:=h;simp only[ub]at h;exact TM (jC T n c _ _ _ _ o.a h.1.1 env s) (iT λenv s=>S _ _ _ _ o h.1.2 env s) (iT λenv s=>R _ _ _ _ o h.2 env s) (λs1 D σ H q=>⟨env,s1,q⟩) λs1 D σ H q=>⟨env,s1,q⟩
def Wb(S:JSs T n b):JS T n (.g t it b):=by intro sc N X st o h env s;replace h:=bq h;obtain⟨R,i1,Z,Y,W,rfl,h⟩:=h;obtain⟨h0,U⟩:=yg h;cases Br.mp h0;clear h;have h:=U;simp only[ub]at h;obtain⟨g,pg,tg⟩:=SI o.a.c o.a.d h.1.1.1;exact Wo o.a.xe o.a.d h.2 (λenv s=>jI T n it _ _ _ _ _ o.a h.1.1.2 env s) pg tg (iT λenv s=>S _ _ _ _ o h.1.2 env s)
def dQ:JS T n (.n e):=λsc N X st o h env s=>zP (zD rfl)
def ZS:JSs T n .f:=by intro sc N X st o h env s;cases Br.mp h;exact Za
def dU(U:JS T n c)(R:JSs T n cs):JSs T n (.e c cs):=by intro sc N X st o h env s;replace h:=xA h;obtain⟨W,S,rfl,h⟩:=h;simp only[ub]at h;exact di (f:=λe s=>zj (zE T n) T.b e cs s) (U _ _ _ _ o h.1 env s) (iT λenv s=>R _ _ _ _ o h.2 env s) λenv s D σ H q=>⟨env,s,q⟩
section
variable {sc:Scope}{N:List Str}{X:L2.Cx}{i:Nat}{L:Exs}{env:Env}{s s1:Sto}{vs:List Val}{d:Ex}
end
end
section
variable (T:Tbl)(n:Nat)
mutual
theorem jS:∀a:Sm,JS T n a
 |.m _=>ZR
 |.f _=>Wd
 |.v=>λsc N X e o h=>by cases h
 |.d _ _=>Wa
 |.p _ _=>ZQ
 |.q _ _=>Wc
 |.y _ _ _=>λsc N X e o h=>by cases h
 |.l _ _ _=>dR
 |.w _ _ _=>λsc N X e o h=>by cases h
 |.j _ a b=>U8 (jSs a) (jSs b)
 |.g _ _ b=>Wb (jSs b)
 |.r _ _=>λsc N X e o h=>by cases h
 |.u=>λsc N X e o h=>by cases h
 |.x=>λsc N X e o h=>by cases h
 |.s=>λsc N X e o h=>by cases h
 |.n _=>dQ
theorem jSs:∀a:Sms,JSs T n a
 |.f=>ZS
 |.e c cs=>dU (jS c) (jSs cs)
 |.g _ _ _ _ _ _ _ _=>λsc N X st o h=>by cases h
end
end
mutual
noncomputable def pB(n:Nat):Val->Bool
 |.j i|.q i=>decide (i<n)
 |.f vs=>wX n vs
 |.g vs=>wX n vs
 |.h|.e _|.c _|.m _|.p|.o _|.r _|.u _|.t _|.s _ _=>true
noncomputable def wX(n:Nat):List Val->Bool
 |[]=>true
 |v::vs=>pB n v&&wX n vs
end
mutual
theorem u5{n:Nat}{v:Val}(h:v.noRef=true):pB n v=true:=by
 cases v with
 |j _=>cases h
 |q _=>cases h
 |f vs=>exact wq (vs:=vs) h
 |g vs=>exact wq (vs:=vs) h
 |_=>rfl
theorem wq{n:Nat}{vs:List Val}(h:zq vs=true):wX n vs=true:=by
 cases vs with
 |nil=>rfl
 |cons v vs=>
  rw[zq,ub]at h;rw[wX,u5 h.1,wq h.2];rfl
end
section
variable {K:KF}{mg:Str->Option Value}
mutual
theorem RD.refs{ρ:Own}{H:L2.Hp}{v:Val}{x:L2.V}(q:RD K mg ρ H v x):pB ρ.o.length v=true:=by
 cases q with
 |m _ _ r=>exact RDs.refs r
 |D _ _ r=>exact RDs.refs r
 |C e _=>exact decide_eq_true (Ai.mp e).1
 |s e _=>exact decide_eq_true (Ai.mp e).1
 |_=>rfl
theorem RDs.refs{ρ:Own}{H:L2.Hp}{v:List Val}{x:List L2.V}(q:RDs K mg ρ H v x):wX ρ.o.length v=true:=by
 cases q with
 |d=>rfl
 |a r N=>rw[wX,RD.refs r,RDs.refs N];rfl
end
structure Cut(ρ ρ':Own):Prop where
 b:∃new,ρ'.o=ρ.o++new
 d:ρ'.h=ρ.h
theorem Cut.no(c:Cut ρ ρ')(n:ρ'.no a):ρ.no a:=by obtain⟨new,e⟩:=c.b;exact⟨λh=>n.1 (by rw[e];exact Bg _ h),by rw[<-c.d];exact n.2⟩
mutual
theorem RD.vy{ρ ρ':Own}{H:L2.Hp}(c:Cut ρ ρ'){v:Val}{x:L2.V}(q:RD K mg ρ' H v x)(h:pB ρ.o.length v=true):RD K mg ρ H v x:=by
 have N:∀{i:Nat} {a:Addr},ρ'.o[i]?=some a->decide (i<ρ.o.length)=true->ρ.o[i]?=some a:=λ{i a} e h=>by obtain⟨new,R⟩:=c.b;rw[R,AW (of_decide_eq_true h)]at e;exact e
 cases q with
 |A=>exact .A
 |j b=>exact .j b
 |l i=>exact .l i
 |E t=>exact .E t
 |m n e r=>exact .m (c.no n) e (RDs.vy c r h)
 |D n e r=>exact .D (c.no n) e (RDs.vy c r h)
 |B n e=>exact .B (c.no n) e
 |p g=>exact .p g
 |F g=>
  refine .F ?_;rcases g with⟨n,g⟩|g
  . exact .inl ⟨c.no n,g⟩
  . exact .inr g
 |C e k=>exact .C (N e h) k
 |s e k=>exact .s (N e h) k
 |I e=>exact .I e
 |J n=>exact .J n
 |G a k=>exact .G a k
theorem RDs.vy{ρ ρ':Own}{H:L2.Hp}(c:Cut ρ ρ'){v:List Val}{x:List L2.V}(q:RDs K mg ρ' H v x)(h:wX ρ.o.length v=true):RDs K mg ρ H v x:=by
 cases q with
 |d=>exact .d
 |a r N=>
  rw[wX,ub]at h;exact .a (RD.vy c r h.1) (RDs.vy c N h.2)
end
noncomputable def pW:Cel->List Val
 |.c vs=>vs
 |.d kvs=>kvs.map (·.2)
 |.e kvs=>kvs.map (·.2)
 |.f _=>[]
def CR.vals(h:CR K mg ρ H a c):∃xs,RDs K mg ρ H (pW c) xs:=by
 cases c with
 |c vs=>obtain⟨xs,_,r⟩:=h;exact⟨_,r⟩
 |d N=>obtain⟨xs,_,_,r⟩:=h;exact⟨_,r⟩
 |e N=>obtain⟨xs,_,_,r⟩:=h;exact⟨_,r⟩
 |f x=>exact⟨[],.d⟩
def i8(h:c.noRef=true):zq (pW c)=true:=by cases c<;>first|exact h|rfl
theorem CR.vy(c:Cut ρ ρ')(h:CR K mg ρ' H a o)(R:wX ρ.o.length (pW o)=true):CR K mg ρ H a o:=by
 cases o with
 |c vs=>obtain⟨xs,e,r⟩:=h;exact⟨xs,e,RDs.vy c r R⟩
 |d N=>obtain⟨xs,e,k,r⟩:=h;exact⟨xs,e,k,RDs.vy c r R⟩
 |e N=>obtain⟨xs,e,k,r⟩:=h;exact⟨xs,e,k,RDs.vy c r R⟩
 |f y=>
  obtain⟨ps,Z,k,r,g⟩:=h;refine⟨ps,Z,k,λpos cv Y=>?_,g⟩;obtain⟨a,o,vs,t,X,W,U,S⟩:=r pos cv Y;exact⟨a,o,vs,t,X,c.no W,U,S⟩
theorem oW{R N:Type}:∀{a b:List (R × N)},a.map (·.1)=b.map (·.1)->a.map (·.2)=b.map (·.2)->a=b
 |[],[],_,_=>rfl
 |[],_::_,h,_=>by cases h
 |_::_,[],h,_=>by cases h
 |x::xs,y::ys,h1,h2=>by
  rw[AF,AF]at h1 h2;injection h1 with a1 a2
  injection h2 with b1 b2
  rw[oW a2 b2,G7 a1 b1]
theorem mK:∀{s s'} {i} {o'},xw s s'=true->i<s.length->s'[i]?=some o'->o'.noRef=true\/s[i]?=some o'
 |[],_,_,_,_,h,_=>by cases h
 |o::r,[],_,_,h,_,_=>by cases h
 |o::r,o'::r',0,q,h,_,e=>by
  rw[xw,ub,Bd]at h;simp only[List.getElem?_cons_zero,Option.some.injEq]at e;subst e;rcases h.1 with z|z
  . exact .inl z
  . right
    cases o' with
    |c a=>cases o with
     |c b=>simp only[Cel.beq]at z;rw[uc z];rfl
     |_=>cases z
    |d a=>cases o with
     |d b=>simp only[Cel.beq,ub,decide_eq_true_eq]at z;rw[oW z.1 (uc z.2)];rfl
     |_=>cases z
    |e a=>cases o with
     |e b=>simp only[Cel.beq,ub,decide_eq_true_eq]at z;rw[oW z.1 (uc z.2)];rfl
     |_=>cases z
    |f a=>cases o with
     |f b=>simp only[Cel.beq,decide_eq_true_eq]at z;rw[z];rfl
     |_=>cases z
 |o::r,o'::r',i+1,q,h,hi,e=>by
  rw[xw,ub]at h;have:=mK (i:=i) h.2 (by simpa using hi) (by simpa using e)
  simpa using this
noncomputable def Vj:Val->Bool
 |.j _|.q _|.f _=>false
 |.h|.e _|.c _|.m _|.p|.o _|.r _|.u _|.t _|.g _|.s _ _=>true
def a9{n:Nat}{s:Sto}{k i:Nat}:w9 n s k (.j i)=if i<n then some (Val.j i) else match s[i]? with
 |some (.c vs)=>if zq vs then some (.g vs) else dS
 |_=>dS:=by cases k<;>rfl
def ef:w9 n s k (.q i)=if i<n then some (Val.q i) else dS:=by cases k<;>rfl
def ek(h:Vj v=true):w9 n s k v=if v.noRef then some v else dS:=by
 cases v with
 |j _=>cases h
 |q _=>cases h
 |f _=>cases h
 |_=>cases k<;>rfl
def a0:uj n s k []=some []:=by cases k<;>rfl
mutual
theorem rO{ρ ρ':Own}{H:L2.Hp}{s:Sto}(c:Cut ρ ρ')(R:HR K mg ρ' s H){k:Nat}{v N:Val}{x:L2.V}(r:RD K mg ρ' H v x)(h:w9 ρ.o.length s k v=some N):RD K mg ρ H N x:=by
 have Y:∀{w:Val},RD K mg ρ' H w x->(if w.noRef then some w else dS)=some N->RD K mg ρ H N x:=λ{w} r h=>by
  split at h
  . rename_i hn;cases h;exact RD.vy c r (u5 hn)
  . cases h
 cases v with
 |j i=>
  rw[a9]at h;cases r with
  |C e U=>
   by_cases hi:i<ρ.o.length
   . rw[if_pos hi]at h
     cases h;exact RD.vy c (.C e U) (by rw[pB];exact decide_eq_true hi)
   . rw[if_neg hi]at h
     split at h
     . rename_i vs hs
       split at h
       . rename_i hn
         cases h;obtain⟨a,xs,Z,e2,q⟩:=R.obj i vs hs;rw[e]at Z;cases Z;obtain⟨new,e'⟩:=c.b;have hm:=AA e;refine .D ⟨λS=>?_,λhh=>?_⟩ e2 (RDs.vy c q (wq hn))
         . obtain⟨j,W,ej⟩:=Bz S
           have X:ρ'.o[j]?=ρ'.o[i]?:=by rw[e,e',AW W,pn W,ej]
           have:=cH R.l e (X.trans e);exact hi (this▸W)
         . exact(R.d _ (by rw[c.d];exact hh)).2 hm
       . cases h
     . cases h
 |q i=>
  rw[ef]at h;split at h
  . rename_i hi
    cases h;exact RD.vy c r (by rw[pB];exact decide_eq_true hi)
  . cases h
 |f vs=>
  cases k with
  |zero=>exact Y r h
  |succ k=>
   rw[w9,AK]at h;obtain⟨ws,h1,rfl⟩:=h;cases r with
   |m n e q=>exact .m (c.no n) e (rN c R q h1)
 |_=>exact Y r ((ek rfl).symm.trans h)
theorem rN{ρ ρ':Own}{H:L2.Hp}{s:Sto}(c:Cut ρ ρ')(S:HR K mg ρ' s H){k:Nat}{v N:List Val}{x:List L2.V}(r:RDs K mg ρ' H v x)(h:uj ρ.o.length s k v=some N):RDs K mg ρ H N x:=by
 cases r with
 |d=>rw[a0]at h;cases h;exact .d
 |@a v _ vs _ R U=>
  cases k with
  |zero=>cases h
  |succ k=>
   rw[uj]at h;split at h
   . rename_i a b ha hb
     cases h;refine .a ?_ (rN c S U hb);by_cases hn:v.noRef=true
     . rw[if_pos hn]at ha;cases ha;exact RD.vy c R (u5 hn)
     . rw[if_neg hn]at ha;exact rO c S R ha
   . cases h
end
def nv(h0:HR K mg ρ s H)(w:yX K mg (RD K mg) ρ H (leave F s v s1) Q)(X:Ext ρ H ρ' H')(N:HR K mg ρ' s1 H')(r:RD K mg ρ' H' v x):Q x H':=by
 unfold leave at w;by_cases hk:F.c=true
 . rw[if_pos hk]at w;exact w ρ' x H' X N r
 . rw[if_neg hk]at w
   by_cases ho:xw s s1=true
   . rw[if_pos ho]at w
     have c:Cut ρ ρ':=⟨by obtain⟨new,e,_⟩:=X.d;exact⟨new,e⟩,X.f⟩
     cases hf:freeze s.length s1 v with
     |none=>rw[hf]at w;exact w.elim
     |some v'=>
      rw[hf]at w;have S:s.length<=s1.length:=by obtain⟨new,e,_⟩:=X.d;rw[<-h0.f,<-N.f,e,As];omega
      refine w ρ x H' ⟨⟨[],by simp,λa R=>by cases R⟩,rfl,X.c,X.g⟩ ⟨?_,h0.l,λi vs e=>?_,λa R=>?_⟩ ?_
      . rw[Bi,h0.f];omega
      . have hi:i<s.length:=by have:=(Ai.mp e).1;rw[Bi]at this;omega
        rw[BM hi]at e;obtain⟨a,U,q⟩:=N.g i vs e;have Z:ρ.o[i]?=some a:=by
         obtain⟨new,e',_⟩:=X.d;rw[e',AW (by rw[h0.f];exact hi)]at U
         exact U
        refine⟨a,Z,q.vy c ?_⟩;rcases mK ho hi e with z|z
        . exact wq (i8 z)
        . obtain⟨b,_,Y⟩:=h0.g i vs z
          obtain⟨xs,W⟩:=Y.vals;exact RDs.refs W
      . obtain⟨z,n⟩:=N.d a (by rw[X.f];exact R)
        exact⟨z,(h0.d a R).2⟩
      . unfold freeze at hf
        by_cases hn:v.noRef=true
        . rw[if_pos hn]at hf;cases hf;exact RD.vy c r (u5 hn)
        . rw[if_neg hn,<-h0.f]at hf
          exact rO c N r hf
   . rw[if_neg ho]at w;exact w.elim
def b8(r:RDs K mg ρ H args vs):ER K mg ρ H (zV N args) (L2.start N vs):=by
 refine⟨by unfold zV L2.start;rw[As,As,Aa,Aa,FG,FG,r.length],λi v e=>?_⟩
 unfold zV at e;unfold L2.start;by_cases hi:i<args.length
 . rw[AW (by simpa using hi),Aq]at e
   rw[AW (by rw[Aa,<-r.length];exact hi),Aq]
   cases ha:args[i]? with
   |none=>rw[ha]at e;cases e
   |some a=>
    rw[ha]at e;have:a=v:=AH (AH e);subst this;obtain⟨x,S,R⟩:=r.get ha;exact⟨x,by rw[S];rfl,R⟩
 . rw[AU (by simpa using hi),Hu]at e
   split at e<;>cases e
end
noncomputable def argNames(a:Arguments):Option (List Str):=
 if a.posonlyargs.isEmpty&&a.vararg.isNone&&a.kwonlyargs.isEmpty&&a.kw_defaults.isEmpty&&a.kwarg.isNone&&a.defaults.isEmpty then some (a.args.map (·.arg)) else none
def eB(st:Stmt)(F:Fn):Bool:=
 match st with
 |.FunctionDef _ args body _ _ _ sc _ _ _=>decide (argNames args=some F.a)&&decide (sc.kind=.function)&&!sc.isCoroutine&&!sc.isGenerator&&decide F.N.Nodup&&decide (F.N.take F.a.length=F.a) &&
  F.a.all (λx=>decide (sc.names.lookup x=some .local)||decide (sc.names.lookup x=some .cell))&&sc.names.all (λy=>decide (y.2≠.free))&&lM sc F.N F.b body
 |_=>false
def lh:∀{ps:List Str} {us:List Value},ps.Nodup->us.length=ps.length->ps.filterMap (λn=>((ps.zip us).lookup n).map (n,·))=ps.zip us:=by
 have key:∀(ps R:List Str) (us N:List Value),(R++ps).Nodup->us.length=ps.length->N.length=R.length->ps.filterMap (λn=>(((R++ps).zip (N++us)).lookup n).map (n,·))=ps.zip us:=by
  intro ps;induction ps with
  |nil=>intro R us N _ _ _;rfl
  |cons p ps Z=>
   intro R us N nd Y X;cases us with
   |nil=>cases Y
   |cons u us=>
    have hl:((R++p::ps).zip (N++u::us)).lookup p=some u:=by
     rw[List.zip_append X.symm];have:∀(R:List Str) (N:List Value),p ∉ R->((R.zip N)++(p::ps).zip (u::us)).lookup p=some u:=by
      intro R;induction R with
      |nil=>intro N _;simp
      |cons q R S=>
       intro N W;cases N with
       |nil=>simp
       |cons w N=>
        have U:(p == q)=false:=by
         have:p≠q:=λz=>W (by rw[z];exact AE)
         simpa using this
        rw[List.zip_cons_cons,Ha,AB,U];exact S N λz=>W (Ay _ z)
     refine this R N λz=>?_;rw[Eh]at nd;exact nd.2.2 p z p AE rfl
    rw[A7,hl];have:=Z (R++[p]) us (N++[u]) (by simpa using nd) (by simpa using Y) (by simp[X])
    rw[An,An]at this;exact congrArg ((p,u)::·) this
 intro ps us nd h;simpa using key ps [] us [] (by simpa using nd) h rfl
theorem lookup_some:∀{ps:List Str} {us:List Value},us.length=ps.length->∀n∈ps,((ps.zip us).lookup n).isNone=false
 |[],_,_,n,h=>by cases h
 |p::ps,[],h,_,_=>by cases h
 |p::ps,u::us,h,n,hn=>by
  rw[List.zip_cons_cons,AB];cases hb:(n == p) with
  |true=>rfl
  |false=>
   have:n≠p:=by simpa using hb
   rcases Al.mp hn with z|z
   . exact absurd z this
   . exact lookup_some (by simpa using h) n z
def nJ(h:argNames a=some ps)(nd:ps.Nodup)us(R:us.length=ps.length) :
 bindArgs (Cz x qual a body sc .none kV doc pm an cdv ct) ⟨us,[]⟩=pure (ps.zip us):=by
 unfold argNames at h;split at h
 . rename_i hc
   simp only[ub,Br,G3]at hc;obtain⟨⟨⟨⟨⟨h1,Z⟩,Y⟩,X⟩,W⟩,U⟩:=hc;cases h;obtain⟨po,N,va,ko,kd,kw,df⟩:=a;simp only at h1 Z Y X W U R nd ⊢;subst h1 Z Y X W U;have hm:((N.map (·.arg)).take ((N.map (·.arg)).length-0)).filter (λn=>(((N.map (·.arg)).zip us).lookup n).isNone)=[]:=by rw[Ed];intro n hn;rw[lookup_some R n (Bh hn)];decide
   unfold bindArgs;have hd:seqItems? Ac=pure none:=rfl;have hg:¬(us.length > (N.map (·.arg)).length/\True):=by rintro ⟨z,_⟩;omega
   simp only[Cz,FT,DZ,A1,Fb,FI,hd,G8,F9,B8,List.drop_nil,Hb,Option.isNone_none,Iu];rw[if_neg (by rw[Aa]at R;simp;omega)]
   have S:(List.filter (λn=>(List.lookup n ((List.map (λx=>x.arg) N).zip us)).isNone) (List.take (List.map (λx=>x.arg) N).length (List.map (λx=>x.arg) N)))=[]:=hm;rw[S,if_neg (by decide),List.zip_nil_right,Fb,FI,if_neg (by decide),lh nd R]
 . cases h
def nE(K:KF)(x:Str)(st:Stmt):Prop:=∃f fd,BS K Bq x=some (some (.ref f))/\L2.Fun K x x st f fd
def Xz(a:BS K Bq x=some (some (.ref f)))
 (l:K.lookup f=some ⟨oc,od,.func (Cz x x (L2.wK st) (L2.xH st) (L2.zw st) .none kV doc pm an cdv ct),osl⟩) (c:C7 K cdv x=true) (k:C8 K (.ref f)=true):nE K x st:=
 ⟨f,_,a,L2.WC l c k⟩
section
variable {P:Program}{w:World}{K:KF}{mg:Str->Option Value}{base:Heap}{T:Tbl}
structure Top(T:Tbl)(K:KF)(mg:Str->Option Value):Prop where
 a:∀f v F,T.c f v=some F->∃st fa fd,mg f=some (.ref fa)/\L2.Fun K f f st fa fd/\eB st F=true/\((∃b,T.e b=true)->("!":Str)∈F.N->f∈T.d)
 d:∀x v,T.b x=some v->∃u xv,mg x=some u/\L2.RelV xv u/\∀ρ H,RD K mg ρ H v xv
 c:∀x∈wa,mg x=none
 no:∀f v,100<=v->T.c f v=none
def uC(h:eB st F=true):argNames (L2.wK st)=some F.a/\L2.sQ F.N F.a (L2.zw st)/\lM (L2.zw st) F.N F.b (L2.xH st)=true:=by
 unfold eB at h;split at h
 . simp only[ub,decide_eq_true_eq,Bu,A5,Bd]at h
   refine byG λpi R=>?_;obtain⟨⟨⟨⟨⟨⟨⟨⟨h1,h2⟩,h3⟩,Z⟩,Y⟩,X⟩,W⟩,U⟩,S⟩:=h;refine R ?_;exact⟨h1,⟨h2,h3,Z,Y,X,W,U⟩,S⟩
 . cases h
def VA(top:Top T K mg)(IH:∀j,j<=n->Lv T P w K mg base j){F:Fn}(p2:L2.sQ F.N F.a (L2.zw st))
 (hm:mg f=some (.ref fa)) (hk:K.lookup fa=some ⟨oc,od,.func (Cz f f (L2.wK st) (L2.xH st) (L2.zw st) .none kV doc pm an cdv ct),osl⟩) (hcd:C7 K cdv f=true) (Y:(∃b,T.e b=true)->("!":Str)∈F.N->f∈T.d)
       (Z:L2.y6 n (A.deeper (PyProof.Rows.envOfC f (L2.zw st) s.heap.objs.size fa cdv))):OkF T n (L2.zw st) F.N (L2.hG CX P w K mg base F.N f (L2.zw st) fa cdv A outer s H E).nox:=by
 refine⟨⟨rfl,Z,⟨rfl,p2.d,λx hx=>hx,λx hx=>⟨hx,.inl rfl⟩,λx hx=>hx,λx hx=>hx⟩,λg R G hg=>?_,top.d,top.c,rfl,top.no⟩,rfl,?_⟩
 . obtain⟨ga,gd,X,W,U,S⟩:=(IH n (Ab _)).ex g R G hg
   exact⟨ga,gd,X,W,U,S⟩
 . show (if (L2.zw st).kind.isAnnotationScope then ScopeKind.function else (L2.zw st).kind)=.function
   rw[p2.b];rfl
def Y4(top:Top T K mg)(IH:∀j,j<=n->Lv T P w K mg base j)(h:T.c f v=some F)(hm:mg f=some (.ref fa))(e2:L2.Fun K f f st fa fd)(e3:eB st F=true)
 (Z:(∃b,T.e b=true)->("!":Str)∈F.N->f∈T.d):L2.sj P w K mg base L2.CX0 (n+1) fa fd F.a (spN T K mg (n+1) f v):=by
 obtain⟨p1,p2,p3⟩:=uC e3;have R:∀(vs:List Val) (s:Sto),zE T (n+1) f v vs s=run T (zE T n) F vs s:=λvs s=>by simp only[zE,h]
 obtain⟨oc,od,kV,doc,pm,an,cdv,ct,osl,rfl,lk,W⟩:=e2.a;refine L2.Ur lk W p2 (λvs H Q E q=>?_) λA outer s H vs Q E hr q=>?_
 . obtain⟨ρ,t,as,_,r,z⟩:=q
   rw[R]at z;unfold run at z;split at z
   . rename_i U;rw[<-r.length];exact U
   . exact z.elim
 . obtain⟨ρ,t,as,h0,r,z⟩:=q
   rw[R]at z;unfold run at z;have U:as.length=F.a.length:=by
    by_cases U:as.length=F.a.length
    . exact U
    . rw[if_neg U]at z;exact z.elim
   rw[if_pos U]at z;have Y:=VA (CX:=L2.CX0) (P:=P) (w:=w) (base:=base) (outer:=outer) (s:=s) (H:=H) (E:=E) top IH p2 hm lk W Z hr;refine⟨_,(jSs T n F.b (L2.zw st) F.N _ (L2.xH st) Y p3 (zV F.N as) t).nox,ρ,h0,b8 r,?_⟩;show qd K mg ρ H (zj (zE T n) T.b (zV F.N as) F.b t) _;cases hx:zj (zE T n) T.b (zV F.N as) F.b t with
   |e fl s1=>
    rw[hx]at z;cases fl with
    |a e=>exact λρ1 H1 σ1 X S er1=>nv h0 z X S .A
    |b v'=>exact λρ1 H1 x X S r1=>nv h0 z X S r1
    |c e=>exact z.elim
    |d e=>exact z.elim
   |g _ _ _=>rw[hx]at z;exact z.elim
   |d=>rw[hx]at z;exact z.elim
def W5(top:Top T K mg)(hB:K.In base):∀n j,j<=n->Lv T P w K mg base j:=by
 have step:∀n,(∀j,j<n->Lv T P w K mg base j)->Lv T P w K mg base n:=λn IH=>⟨λf v F Y=>by
  obtain⟨st,fa,fd,R,N,U,q4⟩:=top.a f v F Y;obtain⟨r1,S,r3⟩:=uC U;have nd:F.a.Nodup:=by rw[<-S.a];exact S.d.sublist (CY _ _)
  have Z:L2.Binds K fd F.a []:=N.binds λkV doc pm an cdv ct us hl=>nJ r1 nd us hl;cases n with
  |zero=>
   refine⟨fa,fd,R,N.kp,Z,⟨λvs H Q E q=>?_,λA outer s H args us vs Q E _ _ _ _ q=>?_⟩⟩
   . obtain⟨ρ,t,as,_,_,z⟩:=q;exact z.elim
   . obtain⟨ρ,t,as,_,_,z⟩:=q;exact z.elim
  |succ n=>exact⟨fa,fd,R,N.kp,Z,Y4 (P:=P) (w:=w) (base:=base) top (λj X=>IH j ⋯) Y R N U q4⟩⟩
 intro n;induction n with
 |zero=>intro j X;exact step j λi hi=>absurd hi ⋯
 |succ n W=>
  intro j X;by_cases h:j<=n
  . exact W j h
  . have:j=n+1:=by omega
    subst this;exact step _ λi hi=>W i ⋯
end
end M
end
section
namespace M
open PySem Hd
def ip(K:KF)(x:Str):Val->Prop
 |.c i=>∃t,BS K Bq x=some (some (.int i t))
 |.m y=>∃t,BS K Bq x=some (some (.str y t))
 |.o ns=>∃a,BS K Bq x=some (some (.ref a))/\KT K a (ns.map L2.V.d)
 |_=>False
noncomputable def glO(fnL:List ((Str × Nat) × Fn))(glL:List (Str × Val))(x:Str):Option Val:=match glL.lookup x with
 |some v=>some v
 |dS=>match fnL.lookup (x,0) with
  |some _=>some (.u x)
  |dS=>dS
def tbl(fnL:List ((Str × Nat) × Fn))(glL:List (Str × Val)):Tbl:={c:=λf v=>fnL.lookup (f,v),b:=glO fnL glL}
def R4(fnL:List ((Str × Nat) × Fn))(glL:List (Str × Val))(tb:List Str)(xc:List (Str × Str))(md:Bool->Bool):Tbl:=⟨λf v=>fnL.lookup (f,v),glO fnL glL,tb,xc,md⟩
def pK(fnL:List ((Str × Nat) × Fn))(D:List (Str × Stmt)):Bool:=fnL.all λp=>decide (p.1.2<100)&&match D.lookup p.1.1 with|some st=>eB st p.2|none=>false
theorem ve{N R:Type} [BEq N] [LawfulBEq N]:∀{l:List (N × R)} {a:N} {b:R},l.lookup a=some b->(a,b)∈l
 |[],_,_,h=>by cases h
 |(c,d)::l,a,b,h=>by
  rw[AB]at h;cases hb:(a == c) with
  |true=>rw[hb]at h;cases h;rw[Cv hb];exact AE
  |false=>rw[hb]at h;exact Ay _ (ve h)
def V8(X:K.In h)(G:h.Ns Bq mg)(hd:∀p∈D,nE K p.1 p.2)(hg:∀p∈glL,ip K p.1 p.2)(hb:∀x∈wa,BS K Bq x=some none)
 (S:pK fnL D=true)    (Y:(∃b,md b=true)->fnL.all (λp=>!decide (("!":Str)∈p.2.N)||decide (p.1.1∈tb))=true):Top (R4 fnL glL tb xc md) K mg:=by
 refine⟨λf v F e=>?_,λx v e=>?_,λx hx=>PySem.W.mg_none_of X G (hb x hx),λf v hv=>?_⟩
 . have U:((f,v),F)∈fnL:=ve e
   unfold pK at S;rw[A5]at S;have R:=S _ U;rw[ub]at R;have R:=R.2;split at R
   . rename_i st hs
     obtain⟨fa,fd,a,F'⟩:=hd _ (ve hs);refine⟨st,fa,fd,EH X G a,F',R,λZ hN=>?_⟩;have:=A5.mp (Y Z) _ U;simp only[Bd,Bu,decide_eq_false_iff_not,decide_eq_true_eq]at this;exact this.resolve_left λz=>z hN
   . cases R
 case refine_3=>
  show fnL.lookup (f,v)=none;cases e:fnL.lookup (f,v) with
  |none=>rfl
  |some F=>
   have U:((f,v),F)∈fnL:=ve e;unfold pK at S;rw[A5]at S;have R:=S _ U;rw[ub,decide_eq_true_eq]at R;have h2:v<100:=R.1;omega
 . have e:glO fnL glL x=some v:=e
   unfold glO at e;split at e
   case h_2=>
    split at e
    . rename_i F hF
      cases e;unfold pK at S;rw[A5]at S;have R:=S _ (ve hF);rw[ub]at R;have R:=R.2;split at R
      . rename_i st hs
        obtain⟨fa,fd,a,F'⟩:=hd _ (ve hs);exact⟨_,.c fa,EH X G a,rfl,λρ H=>.I (EH X G a)⟩
      . cases R
    . cases e
   rename_i v' e';cases e;have U:(x,v)∈glL:=ve e';have R:=hg _ U;cases v with
   |c i=>
    obtain⟨t,a⟩:=R;exact⟨_,.d i,EH X G a,⟨t,rfl⟩,λρ H=>.l i⟩
   |m y=>
    obtain⟨t,a⟩:=R;exact⟨_,.f y,EH X G a,⟨t,rfl⟩,λρ H=>.E y⟩
   |o ns=>
    obtain⟨a,h2,h3⟩:=R;exact⟨_,.c a,EH X G h2,rfl,λρ H=>.p h3⟩
   |_=>exact R.elim
def int_mk(a:BS K Bq x=some (some (.int i t))):ip K x (.c i):=⟨t,a⟩
def str_mk(a:BS K Bq x=some (some (.str y t))):ip K x (.m y):=⟨t,a⟩
theorem rS:∀{us} {ns},ni us=some ns->L2.Vals (ns.map L2.V.d) us
 |[],_,h=>by cases h;exact .nil
 |u::us,ns,h=>by
  cases u with
  |int i t=>
   simp only[ni,AK]at h;obtain⟨ms,N,rfl⟩:=h;exact .cons ⟨t,rfl⟩ (rS N)
  |_=>cases h
def ae(h:BS K Bq x=some (some (.ref a)))
 (l:K.lookup a=some ⟨.type "tuple",od,.seq us.toArray n,sl⟩) (N:us.length<=1000) (hi:ni us=some ns):ip K x (.o ns):=
 ⟨a,h,_,us.toArray,n,l,rfl,rfl,by rw[Ae,Bk];omega,by simpa using rS hi⟩
structure RC(T:Tbl)(K:KF)(mg:Str->Option Value)(h:Heap)(tabs:List Addr):Prop where
 nd:tabs.Nodup
 b:tabs.length=T.d.length
 a:∀(i:Nat) (g:Str),T.d[i]?=some g->∃P,tabs[i]?=some P/\h.get? P=some (Gj #[])/\K.lookup P=none/\isCodeTable h P /\
  ∃(fa c:Addr) (o:Obj) (fd:Ea),mg g=some (.ref fa)/\K.lookup fa=some o/\o.data=.func fd/\fd.code=.ref c/\∀h':Heap,K.In h'->PySem.W.CodeHd h' c P
def Sn(K:KF)(tabs:List Addr):L2.Sp:=λvs H Q _=>∃(a:Addr) (ns:List Int),vs=[.c a]/\(∀b∈tabs,H b=some (.d #[]))/\L2.SqL K H a (ns.map L2.V.d)/\ns.length<=63/\∀H',Q (.e true) H'
def walk{l:PySem.W.OpenLaw}(hn:l.most=some 63)(hdf:d.params.defaults=[])(hr:L2.y6 n callerA)
 (hY:∀w h,YP w h->K.In h) (hF:T.c d.name 0=some F) (hx:F.a=[x])
 (TOP:∀w N mg mb h,PySem.W.Ground q loose [] XP w N mg mb h->K.In h->Top T K mg/\∃tabs,RC T K mg h tabs)
 (HL:∀ns:List Int,ns.length<=63->∃s',zE T n d.name 0 [.r ns] (T.d.map .f)=.e (.e true) s') :
 PySem.W.WalkO q loose XP YP l.row.toRowW d [] (λf vs=>PySem.call f vs):=by
 refine Att.nI hn hdf λw N R mg mb fa o pm cd doc a vs ns G Y ho hd hcd hmg hobj X S hg=>?_;have KX:=hY w _ Y;obtain⟨top,tabs,TE⟩:=TOP w N mg mb _ G KX;obtain⟨st,fa',fd',e1,e2,e3,e4⟩:=top.a _ _ _ hF;obtain⟨p1,p2,p3⟩:=uC e3;have nd:F.a.Nodup:=by rw[<-p2.a];exact p2.d.sublist (CY _ _)
 rw[e1]at hmg;cases hmg;cases n with
 |zero=>
  obtain⟨s',hs⟩:=HL [] (by decide)
  cases hs
 |succ n=>
  have htab:∀b∈tabs,R.heap.get? b=some (Gj #[])/\K.lookup b=none/\isCodeTable R.heap b:=λb hb=>by
   obtain⟨i,hi,e⟩:=Bz hb;obtain⟨P,Z,q2,q3,q4,_⟩:=TE.a i _ (pn (by rw[<-TE.b];exact hi))
   rw[pn hi,e]at Z;cases Z;exact⟨q2,q3,q4⟩
  refine L2.gM (CX:=L2.CX0) (k:=n+1) (fd:=fd') (x:=x) (sp:=Sn K tabs) (tabs:=tabs) KX G.T.g G.T.b G.T.builtins G.T.nolimit hg hobj X (Ao S (by decide)) hr htab (λbase kb nb=>?_) (λs u=>?_) (λH hT U=>⟨a,ns,rfl,hT,U,S,λ_=>rfl⟩) λ_ _ _ z=>z
  . have f4:=Y4 (P:=l.prog) (w:=w) (base:=base) top (λj hj=>W5 top kb n j hj) hF e1 e2 e3 e4
    rw[hx]at f4;refine f4.imp λvs H Q E zn=>?_;obtain⟨a,ns,e,hT,U,hl,hq⟩:=zn;subst e;obtain⟨s',hs⟩:=HL ns hl;refine⟨⟨tabs,[]⟩,T.d.map .f,[.r ns],⟨by rw[Aa];exact TE.b,TE.nd,λi c z=>?_,λa z=>by cases z⟩,.a (.F ?_) .d,?_⟩
    . rw[Aq]at z
      cases hg:T.d[i]? with
      |none=>rw[hg]at z;cases z
      |some g=>
       rw[hg]at z;cases z;obtain⟨P,Z,q2,q3,q4,fn⟩:=TE.a i g hg;exact⟨P,Z,#[],hT P (AA Z),By,λpos cv hc=>(nomatch hc),fn⟩
    . rcases U with U|U
      . refine .inl ⟨⟨λhm=>?_,by simp⟩,U⟩
        have:=hT a hm;rcases U with z|⟨o,z⟩<;>(rw[this]at z;cases z)
      . exact .inr U
    . rw[hs]
      intro ρ' x' H' _ _ r;cases r;exact hq H'
  . obtain⟨oc,od,kV,doc,pm,an,cdv,ct,osl,e,_⟩:=e2.a
    subst e;refine .of_eq ?_;have:=nJ (x:=d.name) (qual:=d.name) (body:=L2.xH st) (sc:=L2.zw st) (kV:=kV) (doc:=doc) (pm:=pm) (cdv:=cdv) (ct:=ct) (an:=an) p1 nd [u] (by rw[hx];rfl)
    rw[hx]at this;exact this
end M
end
section
namespace F
open PySem M
noncomputable def yc:Fn:=⟨["_law_script","_law_k"],["_law_script","_law_k"],false,(.e (.j (.a (.p .m (.e 1) (.k .a false (.a (.e 0) .b)))) (.e (.f (.r (.e 0) (.e 1))) .f) .f) (.e (.f (.g (.c 0))) .f))⟩
noncomputable def xI:Fn:=⟨["_law_pen_here","_law_many","_law_left","_law_found","_law_mixed"],["_law_pen_here","_law_many"],false,(.e (.j (.a (.p .k (.r (.e 0) (.g (.c 0))) (.g (.c 0)))) (.e (.p [2,3] (.k .b false (.a (.r (.e 0) (.g (.c 0))) (.a (.e 1) .b)))) (.e (.l (.e 0) (.g (.c 0)) (.e 2)) (.e (.f (.e 3)) .f))) .f) (.e (.l (.e 0) (.g (.c 1)) (.j false .c (.j false .a (.j false .b (.r (.e 0) (.g (.c 1))) (.g (.c 48271))) (.g (.c 30269))) (.g (.c 2147483629)))) (.e (.d 4 (.j false .c (.j false .a (.j false .a (.j false .b (.r (.e 0) (.g (.c 1))) (.r (.e 0) (.g (.c 1)))) (.j false .b (.g (.c 40692)) (.r (.e 0) (.g (.c 1))))) (.g (.c 7))) (.g (.c 2147483587)))) (.e (.f (.j false .c (.j false .d (.e 4) (.g (.c 64))) (.e 1))) .f))))⟩
noncomputable def yr:Fn:=⟨["_law_sizes_here","_law_found","_law_hue","_law_here","_law_size","_law_step"],["_law_sizes_here","_law_found","_law_hue"],false,(.e (.q [3,4] (.a (.k .a false (.a (.e 1) .b)) (.a (.r (.e 0) (.e 2)) .b))) (.e (.g (.a 5) (.g (.g (.c 1)) (.j false .a (.j false .d (.e 3) (.j false .e (.e 4) (.g (.c 1)))) (.g (.c 1)))) (.e (.j (.a (.p .d (.l false ["_law_k","_law_hue","_law_found","_law_here","_law_step"] [none,some 2,some 1,some 3,some 5] (.e 0) (.a 0) (.g (.g (.c 1)) (.e 4)) (.b (.a (.p .c (.r (.e 2) (.j false .e (.e 3) (.j false .b (.e 0) (.e 4)))) (.e 1))) .a)) (.u false .b))) (.e (.f (.g (.e true))) .f) .f) .f)) (.e (.f (.g (.e false))) .f)))⟩
noncomputable def yf:Fn:=⟨["_law_cell","_law_left"],["_law_cell"],true,(.e (.d 1 (.k .j false (.a (.e 0) (.a (.j false .e (.g (.c 0)) (.e 0)) .b)))) (.e (.f (.u true (.a (.j false .b (.e 1) (.k .o false (.a (.p .j (.e 1) (.j false .f (.g (.c 10)) (.g (.c 18)))) .b))) (.a (.j false .c (.e 1) (.g (.c 2147483629))) .b)))) .f))⟩
noncomputable def xV:Fn:=⟨["_law_pen_here","_law_many"],["_law_pen_here"],false,(.e (.d 1 (.r (.u false (.a (.g (.c 2)) (.a (.g (.c 2)) (.a (.g (.c 3)) (.a (.g (.c 1)) (.a (.g (.c 4)) (.a (.g (.c 2)) .b))))))) (.h "_law_draw" 0 (.a (.e 0) (.a (.g (.c 6)) .b))))) (.e (.f (.k .c false (.a (.l false ["_law_hue","_law_pen_here"] [none,some 0] (.r (.u false (.a (.g (.c 3)) (.a (.g (.c 3)) (.a (.g (.c 4)) (.a (.g (.c 2)) (.a (.g (.c 5)) (.a (.g (.c 3)) (.a (.g (.c 2)) (.a (.g (.c 8)) .b))))))))) (.h "_law_draw" 0 (.a (.e 1) (.a (.g (.c 8)) .b)))) (.a 0) (.d (.e 1)) .a) .b))) .f))⟩
noncomputable def wG:Fn:=⟨["thing"],["thing"],false,(.e (.f (.w (.k .h false (.a (.e 0) (.a (.M "tuple" "tuple") .b))) (.a (.y .g .g (.g (.c 1)) (.k .a false (.a (.e 0) .b)) (.k .a false (.a (.L "HUES") .b))) (.a (.h "are_wholes" 0 (.a (.e 0) (.a (.L "LEAST_SIZE") (.a (.L "MOST_SIZE") .b)))) .b)))) .f)⟩
noncomputable def xX:Fn:=⟨["things","least","most"],["things","least","most"],false,(.e (.f (.k .p false (.a (.l false ["thing","least","most"] [none,some 1,some 2] (.h "is_whole" 0 (.a (.e 0) (.a (.e 1) (.a (.e 2) .b)))) (.a 0) (.f (.e 0)) .a) .b))) .f)⟩
noncomputable def xY:Fn:=⟨["hues","first","step","size"],["hues","first","step","size"],false,(.e (.f (.p .d (.Q .a false (.F false (.e 0) (.a (.e 1)) (.a (.j false .a (.e 1) (.j false .b (.e 2) (.e 3)))) (.a (.e 2))) (.a (.r (.e 0) (.e 1)) .b)) (.e 3))) .f)⟩
noncomputable def w5:Fn:=⟨["thing","least","most"],["thing","least","most"],false,(.e (.f (.w (.k .h false (.a (.e 0) (.a (.M "int" "int") .b))) (.a (.G (.k .h false (.a (.e 0) (.a (.M "bool" "bool") .b)))) (.a (.y .g .g (.e 1) (.e 0) (.e 2)) .b)))) .f)⟩
noncomputable def wI:Fn:=⟨["length","first","size"],["length","first","size"],false,(.e (.f (.j false .d (.j false .e (.j false .e (.e 0) (.g (.c 1))) (.e 1)) (.j false .e (.e 2) (.g (.c 1))))) .f)⟩
noncomputable def xZ:Fn:=⟨["thing"],["thing"],false,(.e (.j (.b (.a (.h "are_sizes" 0 (.a (.e 0) .b)))) (.e (.n (.h "NoSizes" 0 (.a (.g (.m "one to four sizes are due")) .b))) .f) .f) .f)⟩
end F
end
section
namespace M
open PySem L2
noncomputable def Vq(n s f:Nat):List (Nat × Nat):=(Ah ((n-1-f)/(s-1))).map λj=>(f,j+1)
def mh(n s:Nat):List (Nat × Nat):=(Ah n).flatMap (Vq n s)
def gT(hs:2<=s)(h:r∈mh n s):0<r.2/\r.1+r.2*(s-1)<n:=by
 unfold mh Vq at h;obtain⟨f,R,h⟩:=CG.mp h;obtain⟨j,N,rfl⟩:=A2.mp h;rw[Ar]at R N;have:(j+1)*(s-1)<=n-1-f:=(Du ⋯).mp N
 refine⟨En _,?_⟩;show f+(j+1)*(s-1)<n;omega
noncomputable def uN(ns:List Int)(f d s:Nat):Bool:=(Ah s).all λk=>decide (ns[f+k*d]?=ns[f]?)
def ag{n f d s:Nat}(hd:0<d)(hs:1<=s)(h:f+d*(s-1)<n):yS n (some (f:Int)) (some ((f:Int)+(d:Int)*(s:Int))) (d:Int)=((f:Int),s):=by
 have N:d*s=d*(s-1)+d:=by rw[<-Nat.mul_succ];congr 1;omega
 have e0:(d:Int)*(s:Int)=((d*s:Nat):Int):=(HM d s).symm;have U:BF (some (f:Int)) (some ((f:Int)+(d:Int)*(s:Int))) (d:Int) (n:Int)=((f:Int),((min (f+d*s) n:Nat):Int)):=by
  rw[e0];unfold BF;simp only[if_neg (show ¬(d:Int)<0 by omega),if_neg (show ¬(f:Int)<0 by omega),if_neg (show ¬((f:Int)+((d*s:Nat):Int))<0 by omega)]
  refine G7 ?_ ?_
  . show min (f:Int) (n:Int)=f;omega
  . show min ((f:Int)+((d*s:Nat):Int)) (n:Int)=_;omega
 unfold yS;rw[U];refine G7 rfl ?_;show B1 (f:Int) ((min (f+d*s) n:Nat):Int) (d:Int)=s;unfold B1;rw[if_pos ⋯,if_pos ⋯]
 have S:(((min (f+d*s) n:Nat):Int)-(f:Int)-1)=((min (f+d*s) n-f-1:Nat):Int):=by omega
 rw[S,<-Hs];have R:(min (f+d*s) n-f-1)/d=s-1:=by
  refine Nat.div_eq_of_lt_le ?_ ?_
  . rw[BV];omega
  . have:(s-1+1)*d=d*s:=by rw[show s-1+1=s by omega,BV]
    omega
 rw[R];omega
theorem tX{N R:Type}{f}{g:N->R}:∀{l:List N},(∀x∈l,f x=some (g x))->l.filterMap f=l.map g
 |[],_=>rfl
 |x::l,h=>by rw[A7,h x (AE ..),AF,tX λy S=>h y (Ay _ S)]
def bH{ns:List Int}(h:f+d*(s-1)<ns.length):zp ns (f:Int) (d:Int) s=(Ah s).map λk=>ns.getD (f+k*d) 0:=by
 unfold zp;refine tX λk hk=>?_;rw[Ar]at hk;have R:k*d<=d*(s-1):=by rw[BV];exact F7 d ⋯
 have e:((f:Int)+(k:Int)*(d:Int)).toNat=f+k*d:=by rw[show (k:Int)*(d:Int)=((k*d:Nat):Int) from (HM k d).symm];omega
 have N:f+k*d<ns.length:=by omega
 rw[e,pn N];rw[Ad,pn N];rfl
def Zm(h:f+d*(s-1)<ns.length):uN ns f d s=true↔∀x∈(Ah s).map (λk=>ns.getD (f+k*d) 0),x=ns.getD f 0:=by
 unfold uN;rw[A5];constructor
 . intro R x hx
   obtain⟨k,hk,rfl⟩:=A2.mp hx;have:=of_decide_eq_true (R k hk);rw[Ad,this,<-Ad]
 . intro R k hk
   have:=R _ (A2.mpr ⟨k,hk,rfl⟩);rw[Ar]at hk;have U:k*d<=d*(s-1):=by rw[BV];exact F7 d ⋯
   have N:f+k*d<ns.length:=by omega
   have S:f<ns.length:=by omega
   rw[Ad,Ad,pn N,pn S]at this;refine decide_eq_true ?_;rw[pn N,pn S];exact congrArg some this
def mC(N:2<=z):(f,d)∈mh n z↔0<d/\f+d*(z-1)<n:=by
 constructor
 . exact λh=>gT N h
 . rintro ⟨S,R⟩
   unfold mh Vq;refine CG.mpr ⟨f,Ar.mpr ⋯,A2.mpr ⟨d-1,Ar.mpr ?_,?_⟩⟩
   . have:d<=(n-1-f)/(z-1):=(Du ⋯).mpr ⋯
     omega
   . show (f,d-1+1)=(f,d)
     rw[show d-1+1=d by omega]
def Sz(zs:List Int):Prop:=1<=zs.length/\zs.length<=4/\∀x∈zs,2<=x/\x<=8
noncomputable def zi(zs:List Int)(h:Nat):Nat:=(zs.getD h 0).toNat
def xK(R:Sz zs)(N:h<zs.length):zs[h]?=some ((zi zs h:Nat):Int)/\2<=zi zs h/\zi zs h<=8:=by
 have e:zs.getD h 0=zs[h]:=by rw[Ad,pn N];rfl
 have:=R.2.2 zs[h] (B0 N);unfold zi;rw[e,pn N];refine⟨?_,⋯,⋯⟩
 congr 1;omega
end M
end
section
namespace M
open PySem
def Out.post{N:Type}(o:Out N)(P:N->Sto->Prop):Prop:=∃a s,o=.e a s/\P a s
def zB{N:Type}{a:N}{s:Sto}{P:N->Sto->Prop}:(Out.e a s).post P↔P a s:=
 ⟨λ⟨_,_,e,h⟩=>(by cases e;exact h),λh=>⟨a,s,rfl,h⟩⟩
def zF{o:Out α}{f}{P:β->Sto->Prop}:(o.bind f).post P↔o.post λa s=>(f a s).post P:=by
 cases o with
 |e a s=>exact(zB (P:=λa s=>(f a s).post P)).symm
 |g c as s=>exact⟨λ⟨_,_,e,_⟩=>(by cases e),λ⟨_,_,e,_⟩=>(by cases e)⟩
 |d=>exact⟨λ⟨_,_,e,_⟩=>(by cases e),λ⟨_,_,e,_⟩=>(by cases e)⟩
def zS{o:Out α}{P Q}(h:o.post P)(i:∀a s,P a s->Q a s):o.post Q:=by obtain⟨a,s,e,h⟩:=h;exact⟨a,s,e,i a s h⟩
def zr{o:Out α}{P Q}(h:∀a s,P a s↔Q a s):o.post P↔o.post Q:=⟨λk=>zS k λa s=>(h a s).mp,λk=>zS k λa s=>(h a s).mpr⟩
def zW{N:Type}{P:N->Sto->Prop}:(Out.d:Out N).post P↔False:=⟨λ⟨_,_,e,_⟩=>(by cases e),De⟩
def yz{N:Type}{c:Prop} [Decidable c] {a b:Out N}{P:N->Sto->Prop}:(if c then a else b).post P↔if c then a.post P else b.post P:=by split<;>exact DN
def post_eq{o:Out α}{a}:o=.e a s↔o.post λx t=>x=a/\t=s:=⟨λh=>⟨a,s,h,rfl,rfl⟩,λ⟨_,_,h,e1,e2⟩=>(by rw[h,e1,e2])⟩
section
variable {Φ:Calls}{G:Str->Option Val}{env:Env}{s:Sto}
def Tz{v:Val}{P:Val->Sto->Prop}:(evE Φ G env (.g v) s).post P↔P v s:=zB
def iL{i:Nat}{P:Val->Sto->Prop}:(evE Φ G env (.e i) s).post P↔∃v,env[i]?=some (some v)/\P v s:=by
 show (match env[i]? with|some (some v)=>Out.e v s|_=>.d).post P↔_
 split
 . rename_i v e
   refine zB.trans ⟨λh=>⟨_,e,h⟩,λS=>?_⟩;obtain⟨u,N,R⟩:=S;rw[e]at N;cases N;exact R
 . rename_i hn
   exact⟨λ⟨_,_,e,_⟩=>(by cases e),λ⟨u,N,R⟩=>absurd N (hn u)⟩
def Ra{x:Str}{P:Val->Sto->Prop}:(evE Φ G env (.L x) s).post P↔∃v,G x=some v/\P v s:=by
 show (match G x with|some v=>Out.e v s|dS=>.d).post P↔_
 split
 . rename_i v e
   refine zB.trans ⟨λh=>⟨_,e,h⟩,λS=>?_⟩;obtain⟨u,N,R⟩:=S;rw[e]at N;cases N;exact R
 . rename_i e
   exact⟨λ⟨_,_,e,_⟩=>(by cases e),λ⟨u,N,R⟩=>(by rw[e]at N;cases N)⟩
def Rg{x:Str}{n:String}{P:Val->Sto->Prop}:(evE Φ G env (.M x n) s).post P↔P (.t n) s:=zB
def Tt{m:Bool}{op:Bop}{a b:Ex}{P:Val->Sto->Prop}:(evE Φ G env (.j m op a b) s).post P↔(evE Φ G env a s).post λx s1=>(evE Φ G env b s1).post λy s2=>(binOp m op x y s2).post P:=by show (Out.bind _ _).post P↔_;simp only[zF]
def T2{a:Ex}{P:Val->Sto->Prop}:(evE Φ G env (.B a) s).post P↔(evE Φ G env a s).post λx s1=>∃i,x=.c i/\P (.c (-i)) s1:=by show (Out.bind _ _).post P↔_;simp only[zF];exact zr λx s1=>by cases x<;>simp[zB,zW]
def T3{a:Ex}{P:Val->Sto->Prop}:(evE Φ G env (.G a) s).post P↔(evE Φ G env a s).post λx s1=>∃b,x=.e b/\P (.e !b) s1:=by show (Out.bind _ _).post P↔_;simp only[zF];exact zr λx s1=>by cases x<;>simp[zB,zW]
def Tv{op:Cop}{a b:Ex}{P:Val->Sto->Prop}:(evE Φ G env (.p op a b) s).post P↔(evE Φ G env a s).post λx s1=>(evE Φ G env b s1).post λy s2=>(zQ op x y s2).post P:=by show (Out.bind _ _).post P↔_;simp only[zF]
def Zv{op N:Cop}{a b c:Ex}{P:Val->Sto->Prop}:(evE Φ G env (.y op N a b c) s).post P↔(evE Φ G env a s).post λx s1=>(evE Φ G env b s1).post λy s2=>(zQ op x y s2).post λr R=>∃t,r=.e t/\if t=true then (evE Φ G env c R).post λz S=>(zQ N y z S).post P else P (.e false) R:=by
 show (Out.bind _ _).post P↔_;simp only[zF];refine zr λx s1=>zr λy s2=>zr λr R=>?_;cases r with
 |e t=>cases t<;>simp[zB,zW,zF]
 |_=>simp[zW]
def Ts{a b:Ex}{es:Exs}{P:Val->Sto->Prop}:(evE Φ G env (.w a (.a b es)) s).post P↔(evE Φ G env a s).post λx s1=>∃t,x=.e t/\if t=true then (sF Φ G env (.a b es) s1).post P else P (.e false) s1:=by
 show (Out.bind _ _).post P↔_;simp only[zF];refine zr λx s1=>?_;cases x with
 |e t=>cases t<;>simp[zB,zW]
 |_=>simp[zW]
def VL{a:Ex}{P:Val->Sto->Prop}:(sF Φ G env (.a a .b) s).post P↔(evE Φ G env a s).post P:=DN
def VM{a b:Ex}{es:Exs}{P:Val->Sto->Prop}:(sF Φ G env (.a a (.a b es)) s).post P↔(evE Φ G env a s).post λx s1=>∃t,x=.e t/\if t=true then (sF Φ G env (.a b es) s1).post P else P (.e false) s1:=by
 show ((evE Φ G env a s).bind λx s1=>match x with
  |.e true=>sF Φ G env (.a b es) s1
  |.e false=>.e (.e false) s1
  |_=>.d).post P↔_
 simp only[zF];refine zr λx s1=>?_;cases x with
 |e t=>cases t<;>simp[zB,zW]
 |_=>simp[zW]
def Rc{a b:Ex}{es:Exs}{P:Val->Sto->Prop}:(evE Φ G env (.O a (.a b es)) s).post P↔(evE Φ G env a s).post λx s1=>∃t,truth s1 x=some t/\if t=true then P x s1 else (nY Φ G env (.a b es) s1).post P:=by
 show (Out.bind _ _).post P↔_;simp only[zF];refine zr λx s1=>?_;cases truth s1 x with
 |some t=>cases t<;>simp[zB,zW]
 |none=>simp[zW]
def T4{a:Ex}{P:Val->Sto->Prop}:(nY Φ G env (.a a .b) s).post P↔(evE Φ G env a s).post P:=DN
def T5{a b:Ex}{es:Exs}{P:Val->Sto->Prop}:(nY Φ G env (.a a (.a b es)) s).post P↔(evE Φ G env a s).post λx s1=>∃t,truth s1 x=some t/\if t=true then P x s1 else (nY Φ G env (.a b es) s1).post P:=by
 show ((evE Φ G env a s).bind λx s1=>match truth s1 x with
  |some false=>nY Φ G env (.a b es) s1
  |some true=>.e x s1
  |dS=>.d).post P↔_
 simp only[zF];refine zr λx s1=>?_;cases truth s1 x with
 |some t=>cases t<;>simp[zB,zW]
 |none=>simp[zW]
def Tx{c:Cn}{a b:Ex}{P:Val->Sto->Prop}:(evE Φ G env (.I c a b) s).post P↔(evT Φ G env c s).post λt s1=>if t=true then (evE Φ G env a s1).post P else (evE Φ G env b s1).post P:=by show (Out.bind _ _).post P↔_;simp only[zF,yz]
def T7{es:Exs}{P:Val->Sto->Prop}:(evE Φ G env (.q es) s).post P↔(yi Φ G env es s).post λvs s1=>(if vs.length<=zR then Out.e (Val.f vs) s1 else .d).post P:=by show (Out.bind _ _).post P↔_;simp only[zF]
def T1{m:Bool}{es:Exs}{P:Val->Sto->Prop}:(evE Φ G env (.u m es) s).post P↔(yi Φ G env es s).post λvs s1=>(if vs.length<=zR then newList m vs s1 else .d).post P:=by show (Out.bind _ _).post P↔_;simp only[zF]
def VN{f:Str}{v:Nat}{es:Exs}{P:Val->Sto->Prop}:(evE Φ G env (.h f v es) s).post P↔(yi Φ G env es s).post λvs s1=>(Φ f v vs s1).post P:=by show (Out.bind _ _).post P↔_;simp only[zF]
def XG{f:Bf}{m:Bool}{es:Exs}{P:Val->Sto->Prop}:(evE Φ G env (.k f m es) s).post P↔(yi Φ G env es s).post λvs s1=>(blt f m vs s1).post P:=by show (Out.bind _ _).post P↔_;simp only[zF]
def VS{f:Mf}{m:Bool}{o:Ex}{es:Exs}{P:Val->Sto->Prop}:(evE Φ G env (.Q f m o es) s).post P↔(evE Φ G env o s).post λx s1=>(yi Φ G env es s1).post λvs s2=>(vD f x vs s2).post P:=by show (Out.bind _ _).post P↔_;simp only[zF]
def cY{m:Bool}{a b c:Ex}{P:Val->Sto->Prop}:(evE Φ G env (.s m a b c) s).post P↔(evE Φ G env a s).post λx s1=>(evE Φ G env b s1).post λy s2=>(evE Φ G env c s2).post λz N=>(Ze m x y z N).post P:=by show (Out.bind _ _).post P↔_;simp only[zF]
def Rb{a b:Ex}{P:Val->Sto->Prop}:(evE Φ G env (.r a b) s).post P↔(evE Φ G env a s).post λx s1=>(evE Φ G env b s1).post λy s2=>(xJ x y s2).post P:=by show (Out.bind _ _).post P↔_;simp only[zF]
def Rf{m:Bool}{a:Ex}{lo hi st:OEx}{P:Val->Sto->Prop}:(evE Φ G env (.F m a lo hi st) s).post P↔(evE Φ G env a s).post λx s1=>(evO Φ G env lo s1).post λl s2=>(evO Φ G env hi s2).post λh R=>(evO Φ G env st R).post λc N=>(tF m x l h c N).post P:=by show (Out.bind _ _).post P↔_;simp only[zF]
def VT{P:Option Int->Sto->Prop}:(evO Φ G env .b s).post P↔P none s:=zB
def VU{e:Ex}{P:Option Int->Sto->Prop}:(evO Φ G env (.a e) s).post P↔(evE Φ G env e s).post λv s1=>∃i,v=.c i/\P (some i) s1:=by show (Out.bind _ _).post P↔_;simp only[zF];exact zr λx s1=>by cases x<;>simp[zB,zW]
def iK{P:List Val->Sto->Prop}:(yi Φ G env .b s).post P↔P [] s:=zB
def kG{e:Ex}{es:Exs}{P:List Val->Sto->Prop}:(yi Φ G env (.a e es) s).post P↔(evE Φ G env e s).post λv s1=>(yi Φ G env es s1).post λvs s2=>P (v::vs) s2:=by show (Out.bind _ _).post P↔_;simp only[zF,zB]
def XH{e:Ex}{P:Bool->Sto->Prop}:(evT Φ G env (.a e) s).post P↔(evE Φ G env e s).post λv s1=>∃b,truth s1 v=some b/\P b s1:=by
 show (Out.bind (evE Φ G env e s) _).post P↔_;simp only[zF];refine⟨λh=>zS h λv s1 h=>?_,λh=>zS h λv s1 h=>?_⟩
 . split at h
   . rename_i b e;exact⟨b,e,zB.mp h⟩
   . obtain⟨_,_,e,_⟩:=h;cases e
 . obtain⟨b,e,h⟩:=h
   rw[e];exact zB.mpr h
def VY{c:Cn}{P:Bool->Sto->Prop}:(evT Φ G env (.b c) s).post P↔(evT Φ G env c s).post λb s1=>P (!b) s1:=by show (Out.bind _ _).post P↔_;simp only[zF,zB]
def VX{c:Cn}{cs:Cns}{P:Bool->Sto->Prop}:(evT Φ G env (.d c cs) s).post P↔(evT Φ G env c s).post λb s1=>if b=true then (yG Φ G env cs s1).post P else P false s1:=by show (Out.bind _ _).post P↔_;simp only[zF,yz,zB]
def T6{c:Cn}{cs:Cns}{P:Bool->Sto->Prop}:(evT Φ G env (.f c cs) s).post P↔(evT Φ G env c s).post λb s1=>if b=true then P true s1 else (sM Φ G env cs s1).post P:=by show (Out.bind _ _).post P↔_;simp only[zF,yz,zB]
def oV{P:Bool->Sto->Prop}:(yG Φ G env .a s).post P↔P true s:=zB
def Zy{P:Bool->Sto->Prop}:(sM Φ G env .a s).post P↔P false s:=zB
def cj{c:Cn}{cs:Cns}{P:Bool->Sto->Prop}:(yG Φ G env (.b c cs) s).post P↔(evT Φ G env c s).post λb s1=>if b=true then (yG Φ G env cs s1).post P else P false s1:=by show (Out.bind _ _).post P↔_;simp only[zF,yz,zB]
def cg{c:Cn}{cs:Cns}{P:Bool->Sto->Prop}:(sM Φ G env (.b c cs) s).post P↔(evT Φ G env c s).post λb s1=>if b=true then P true s1 else (sM Φ G env cs s1).post P:=by show (Out.bind _ _).post P↔_;simp only[zF,yz,zB]
def cX{e:Ex}{P:Src->Sto->Prop}:(zy Φ G env (.f e) s).post P↔(evE Φ G env e s).post λv s1=>∃r,srcOf s1 v=some r/\P r s1:=by
 show (Out.bind _ _).post P↔_;simp only[zF];refine⟨λh=>zS h λv s1 h=>?_,λh=>zS h λv s1 h=>?_⟩
 . split at h
   . rename_i b e;exact⟨b,e,zB.mp h⟩
   . obtain⟨_,_,e,_⟩:=h;cases e
 . obtain⟨b,e,h⟩:=h
   rw[e];exact zB.mpr h
def mN{a:Ex}{P:Src->Sto->Prop}:(zy Φ G env (.d a) s).post P↔(evE Φ G env a s).post λx s1=>∃j,x=.c j/\(-(2 ^ 62)<=j/\j<=zR)/\P ⟨yj 0 j.toNat,dS⟩ s1:=by
 show (Out.bind _ _).post P↔_;simp only[zF];refine⟨λh=>zS h λv s1 h=>?_,λh=>zS h λv s1 h=>?_⟩
 . split at h
   . rw[yz]at h
     split at h
     . rename_i j z;exact⟨_,rfl,z,zB.mp h⟩
     . obtain⟨_,_,e,_⟩:=h;cases e
   . obtain⟨_,_,e,_⟩:=h;cases e
 . obtain⟨j,rfl,z,h⟩:=h
   simp only[if_pos z];exact zB.mpr h
def mO{a b:Ex}{P:Src->Sto->Prop}:(zy Φ G env (.g a b) s).post P↔(evE Φ G env a s).post λx s1=>(evE Φ G env b s1).post λy s2=>∃i j,x=.c i/\y=.c j/\(-(2 ^ 62)<=i/\i<2 ^ 62∧-(2 ^ 62)<=j/\j<2 ^ 62/\j-i<=zR)/\P ⟨yj i (j-i).toNat,dS⟩ s2:=by
 show (Out.bind _ _).post P↔_;simp only[zF];refine⟨λh=>zS h λv s1 h=>zS h λw s2 h=>?_,λh=>zS h λv s1 h=>zS h λw s2 h=>?_⟩
 . split at h
   . rw[yz]at h
     split at h
     . rename_i z;exact⟨_,_,rfl,rfl,z,zB.mp h⟩
     . obtain⟨_,_,e,_⟩:=h;cases e
   . obtain⟨_,_,e,_⟩:=h;cases e
 . obtain⟨i,j,rfl,rfl,z,h⟩:=h
   simp only[if_pos z];exact zB.mpr h
def VP{a:Ex}{P:Src->Sto->Prop}:(zy Φ G env (.h a) s).post P↔(evE Φ G env a s).post λx s1=>∃vs,(x=.f vs\/x=.g vs)/\P ⟨yW 0 vs,dS⟩ s1:=by
 show (Out.bind _ _).post P↔_;simp only[zF];refine⟨λh=>zS h λv s1 h=>?_,λh=>zS h λv s1 h=>?_⟩
 . split at h
   . exact⟨_,.inl rfl,zB.mp h⟩
   . exact⟨_,.inr rfl,zB.mp h⟩
   . obtain⟨_,_,e,_⟩:=h;cases e
 . obtain⟨j,rfl|rfl,h⟩:=h<;>exact zB.mpr h
def cW{e:Ex}{P:Fl->Sto->Prop}:(exS Φ G env (.m e) s).post P↔(evE Φ G env e s).post λ_ s1=>P (.a env) s1:=by show (Out.bind _ _).post P↔_;simp only[zF,zB]
def cb{e:Ex}{P:Fl->Sto->Prop}:(exS Φ G env (.f e) s).post P↔(evE Φ G env e s).post λv s1=>P (.b v) s1:=by show (Out.bind _ _).post P↔_;simp only[zF,zB]
def VW{P:Fl->Sto->Prop}:(exS Φ G env .v s).post P↔P (.b .h) s:=zB
def XF{i:Nat}{e:Ex}{P:Fl->Sto->Prop}:(exS Φ G env (.d i e) s).post P↔(evE Φ G env e s).post λv s1=>P (.a (env.set i (some v))) s1:=by show (Out.bind _ _).post P↔_;simp only[zF,zB]
def cU{is:List Nat}{e:Ex}{P:Fl->Sto->Prop}:(exS Φ G env (.p is e) s).post P↔(evE Φ G env e s).post λv s1=>∃env',yC (.b is) v env=some env'/\P (.a env') s1:=by
 show (Out.bind _ _).post P↔_;simp only[zF];refine⟨λh=>zS h λv s1 h=>?_,λh=>zS h λv s1 h=>?_⟩
 . split at h
   . rename_i b e;exact⟨b,e,zB.mp h⟩
   . obtain⟨_,_,e,_⟩:=h;cases e
 . obtain⟨b,e,h⟩:=h
   rw[e];exact zB.mpr h
def cZ{is:List Nat}{es:Exs}{P:Fl->Sto->Prop}:(exS Φ G env (.q is es) s).post P↔(yi Φ G env es s).post λvs s1=>(if vs.length=is.length then Out.e (Fl.a ((is.zip vs).foldl (λe p=>e.set p.1 (some p.2)) env)) s1 else .d).post P:=by show (Out.bind _ _).post P↔_;simp only[zF]
def Zx{o i e:Ex}{P:Fl->Sto->Prop}:(exS Φ G env (.l o i e) s).post P↔(evE Φ G env e s).post λv s1=>(evE Φ G env o s1).post λx s2=>(evE Φ G env i s2).post λy N=>∃r k vs j,x=.j r/\y=.c k/\N[r]?=some (.c vs)/\L2.ixN vs.length k=some j/\P (.a env) (upd N r (vs.set j v)):=by
 show (Out.bind _ _).post P↔_;simp only[zF];refine zr λv s1=>zr λx s2=>zr λy N=>⟨λh=>?_,λ⟨r,k,vs,j,h1,h2,h3,h4,h5⟩=>?_⟩
 . split at h
   . split at h
     . rename_i e3
       split at h
       . rename_i e4;exact⟨_,_,_,_,rfl,rfl,e3,e4,zB.mp h⟩
       . exact(zW.mp h).elim
     . exact(zW.mp h).elim
   . exact(zW.mp h).elim
 . subst h1;subst h2
   simp only[h3,h4];exact zB.mpr h5
def VR{c:Cn}{a b:Sms}{P:Fl->Sto->Prop}:(exS Φ G env (.j c a b) s).post P↔(evT Φ G env c s).post λt s1=>if t=true then (zj Φ G env a s1).post P else (zj Φ G env b s1).post P:=by show (Out.bind _ _).post P↔_;simp only[zF,yz]
def VV{P:Fl->Sto->Prop}:(exS Φ G env .u s).post P↔P (.a env) s:=zB
def Tu{P:Fl->Sto->Prop}:(exS Φ G env .x s).post P↔P (.c env) s:=zB
def VO{P:Fl->Sto->Prop}:(exS Φ G env .s s).post P↔P (.d env) s:=zB
def kH{P:Fl->Sto->Prop}:(zj Φ G env .f s).post P↔P (.a env) s:=zB
def qE(Φ:Calls)(G:Str->Option Val)(cs:Sms)(P:Fl->Sto->Prop):Fl->Sto->Prop
 |.a e,s1=>(zj Φ G e cs s1).post P
 |fl,s1=>P fl s1
def zu{c:Sm}{cs:Sms}{P:Fl->Sto->Prop}:(zj Φ G env (.e c cs) s).post P↔(exS Φ G env c s).post (qE Φ G cs P):=by
 show (Out.bind _ _).post P↔_;simp only[zF];have:∀fl s1,(match fl with|.a e=>zj Φ G e cs s1|fl=>Out.e fl s1:Out Fl).post P↔qE Φ G cs P fl s1:=λfl s1=>by
  cases fl with
  |a e=>exact DN
  |_=>exact zB
 exact⟨λh=>zS h λfl s1 h=>(this fl s1).mp h,λh=>zS h λfl s1 h=>(this fl s1).mpr h⟩
def Yc{cs:Sms}{P:Fl->Sto->Prop}{e:Env}:qE Φ G cs P (.a e) s↔(zj Φ G e cs s).post P:=DN
def Yd{cs:Sms}{P:Fl->Sto->Prop}{v:Val}:qE Φ G cs P (.b v) s↔P (.b v) s:=DN
def Ya{cs:Sms}{P:Fl->Sto->Prop}{v:Env}:qE Φ G cs P (.c v) s↔P (.c v) s:=DN
def Yb{cs:Sms}{P:Fl->Sto->Prop}{v:Env}:qE Φ G cs P (.d v) s↔P (.d v) s:=DN
theorem rW{I:Env->Prop}(S:r.ok s=true):∀xs,(∀x∈xs,∀e acc,I e->∃U N,yC t x e=some U/\body U s acc=.e (acc++g x,N) s/\I N)->∀e acc,I e->∃R,I R/\zo r t body xs e s acc=.e (acc++xs.flatMap g,R) s
 |[],_,e,acc,h0=>⟨e,h0,by simp[zo,S]⟩
 |x::xs,h,e,acc,h0=>by obtain⟨U,N,h1,h2,Z⟩:=h x (.head _) e acc h0;obtain⟨R,Y,X⟩:=rW S xs (λy W=>h y (.tail _ W)) N (acc++g x) Z;refine⟨R,Y,?_⟩;simp only[zo,S,if_true,h1,h2,zN,X,DB,An]
def cV(I:Env->Prop)g
 (h:(zy Φ G env it s).post λr s1=>r.ok s1=true/\I (zK fr env)/\(∀x∈r.a,∀e,I e->∃R,yC t x e=some R/\I R/\(yG Φ G R ifs s1).post λb s2=>s2=s1/\if b=true then (evE Φ G R elt s1).post (λv s2=>s2=s1/\g x=[v]) else g x=[])/\(newList m (r.a.flatMap g) s1).post P) :
 (evE Φ G env (.l m N fr elt t it ifs) s).post P:=by
 obtain⟨r,s1,ei,h1,h2,h3,h4⟩:=h;obtain⟨e',_,h5⟩:=rW (I:=I) (g:=g) (body:=λe s' acc=>(yG Φ G e ifs s').bind λb s2=>if b then (evE Φ G e elt s2).bind λv U=>.e (acc++[v],e) U else .e (acc,e) s2) h1 r.a (λx hx e acc he=>by
  obtain⟨R,k1,Z,b,s2,Y,rfl,S⟩:=h3 x hx e he;refine⟨R,R,k1,?_,Z⟩;rw[Y,zN];cases b with
  |true=>
   rw[if_pos rfl]at S ⊢;obtain⟨v,U,W,rfl,X⟩:=S;rw[W,zN,X]
  |false=>
   rw[if_neg Ag]at S ⊢;rw[S,A1]) (zK fr env) [] h2
 show (Out.bind (zy Φ G env it s) _).post P;rw[ei,zN];rw[h5,zN];exact h4
theorem qu(Q:List Val->Env->Sto->List Val->Prop):∀xs,(∀e s acc,Q [] e s acc->r.ok s=true)->(∀x rest e s acc,Q (x::rest) e s acc->r.ok s=true/\∃N,yC t x e=some N/\(body N s acc).post λp s2=>Q rest p.2 s2 p.1)->∀e s acc,Q xs e s acc->(zo r t body xs e s acc).post λp s2=>Q [] p.2 s2 p.1
 |[],h0,_,e,s,acc,q=>by
  simp only[zo,h0 e s acc q,if_true];exact zB.mpr q
 |x::xs,h0,h,e,s,acc,q=>by obtain⟨U,N,S,R⟩:=h x xs e s acc q;simp only[zo,U,if_true,S,zF];exact zS R λp s2 q=>qu Q xs h0 h p.2 s2 p.1 q
def Zw(Q:List Val->Env->Sto->List Val->Prop)
 (h:(zy Φ G env it s).post λr s1=>Q r.a (zK fr env) s1 []/\(∀rest e s acc,Q rest e s acc->r.ok s=true)/\(∀x rest e s acc,Q (x::rest) e s acc->∃R,yC t x e=some R/\(yG Φ G R ifs s).post λb s2=>if b=true then (evE Φ G R elt s2).post (λv U=>Q rest R U (acc++[v])) else Q rest R s2 acc)/\∀e s acc,Q [] e s acc->(newList m acc s).post P) :
 (evE Φ G env (.l m N fr elt t it ifs) s).post P:=by
 obtain⟨r,s1,ei,h1,S,Z,Y⟩:=h;show (Out.bind (zy Φ G env it s) _).post P;rw[ei,zN,zF];refine zS (qu Q r.a (λe s acc q=>S _ e s acc q) (λx rest e s acc q=>⟨S _ e s acc q,?_⟩) _ _ _ h1) λp s2 q=>Y _ _ _ q;obtain⟨R,X,W⟩:=Z x rest e s acc q;refine⟨R,X,?_⟩;simp only[zF];refine zS W λb s2 k=>?_;cases b with
 |true=>
  rw[if_pos rfl]at k ⊢;simp only[zF,zB];exact k
 |false=>
  rw[if_neg Ag]at k ⊢;exact zB.mpr k
theorem tj(Q:List Val->Env->Sto->Prop)(R:Fl->Sto->Prop){r:Src}{t:Tgt}{body:Env->Sto->Out Fl}(h0:∀e s,Q [] e s->R (.a e) s):∀(xs:List Val),(∀rest e s,Q rest e s->r.ok s=true)->(∀x rest e s,Q (x::rest) e s->∃N,yC t x e=some N/\(body N s).post λfl s2=>match fl with|.a e=>Q rest e s2|.d e=>Q rest e s2|.c e=>R (.a e) s2|.b v=>R (.b v) s2)->∀e s,Q xs e s->(vO r t body xs e s).post R
 |[],hk,_,e,s,q=>by
  simp only[vO,hk _ _ _ q,if_true];exact zB.mpr (h0 _ _ q)
 |x::xs,hk,h,e,s,q=>by
  obtain⟨N,U,S⟩:=h x xs e s q;simp only[vO,hk _ _ _ q,if_true,U,zF];refine zS S λfl s2 q=>?_;cases fl with
  |a e=>exact tj Q R h0 xs hk h e s2 q
  |d e=>exact tj Q R h0 xs hk h e s2 q
  |c e=>exact zB.mpr q
  |b v=>exact zB.mpr q
def pI(Q:Env->Sto->Prop)(R:Fl->Sto->Prop):Fl->Sto->Prop
 |.a e,s=>Q e s
 |.d e,s=>Q e s
 |.c e,s=>R (.a e) s
 |.b v,s=>R (.b v) s
def YW{Q:Env->Sto->Prop}{R:Fl->Sto->Prop}{e:Env}:pI Q R (.a e) s↔Q e s:=DN
def YV{Q:Env->Sto->Prop}{R:Fl->Sto->Prop}{e:Env}:pI Q R (.d e) s↔Q e s:=DN
def YU{Q:Env->Sto->Prop}{R:Fl->Sto->Prop}{e:Env}:pI Q R (.c e) s↔R (.a e) s:=DN
def YX{Q:Env->Sto->Prop}{R:Fl->Sto->Prop}{v:Val}:pI Q R (.b v) s↔R (.b v) s:=DN
def Tw(Q:List Val->Env->Sto->Prop)
 (h:(zy Φ G env it s).post λr s1=>Q r.a env s1/\(∀rest e s,Q rest e s->r.ok s=true)/\(∀x rest e s,Q (x::rest) e s->∃N,yC t x e=some N/\(zj Φ G N b s).post (pI (Q rest) R))/\∀e s,Q [] e s->R (.a e) s) :
 (exS Φ G env (.g t it b) s).post R:=by
 obtain⟨r,s1,ei,Z,Y,X,W⟩:=h;show (Out.bind (zy Φ G env it s) _).post R;rw[ei,zN];refine tj Q R W r.a Y (λx rest e s q=>?_) _ _ Z;obtain⟨N,U,S⟩:=X x rest e s q;refine⟨N,U,zS S λfl s2 k=>?_⟩;cases fl<;>exact k
def xD(Q:List Val->Env->Sto->Prop)xs(hi:zy Φ G env it s=.e ⟨xs,dS⟩ s1)(h0:Q xs env s1)
 (U:∀x rest e s,Q (x::rest) e s->∃N,yC t x e=some N/\(zj Φ G N b s).post (pI (Q rest) R)) (S:∀e s,Q [] e s->R (.a e) s) :
 (exS Φ G env (.g t it b) s).post R:=Tw Q ⟨_,_,hi,h0,λ_ _ _ _=>rfl,U,S⟩
def oU(I:Env->Prop)g xs(hi:zy Φ G env it s=.e ⟨xs,dS⟩ s1)(h0:I (zK fr env))
 (U:∀x∈xs,∀e,I e->∃R,yC t x e=some R/\I R/\(yG Φ G R ifs s1).post λb s2=>s2=s1/\if b=true then (evE Φ G R elt s1).post (λv s2=>s2=s1/\g x=[v]) else g x=[]) (S:(newList m (xs.flatMap g) s1).post P) :
 (evE Φ G env (.l m N fr elt t it ifs) s).post P:=cV I g ⟨_,_,hi,rfl,h0,U,S⟩
end
def Yf{s:Sto}:truth s .h=some false:=rfl
def yO{s:Sto}{b:Bool}:truth s (.e b)=some b:=rfl
def UA{s:Sto}{i:Int}:truth s (.c i)=some (i != 0):=rfl
def UC{s:Sto}{vs:List Val}:truth s (.f vs)=some !vs.isEmpty:=rfl
def UB{s:Sto}{vs:List Val}:truth s (.g vs)=some !vs.isEmpty:=rfl
def Vx{s:Sto}{vs:List Val}:srcOf s (.f vs)=some ⟨vs,dS⟩:=rfl
def Vw{s:Sto}{vs:List Val}:srcOf s (.g vs)=some ⟨vs,dS⟩:=rfl
def YS{s:Sto}{ns:List Int}:srcOf s (.o ns)=some ⟨ns.map .c,dS⟩:=rfl
def bw{s:Sto}{xs:List Val}:Src.ok ⟨xs,dS⟩ s=true:=rfl
def Ud{i:Nat}{v:Val}{env:Env}:yC (.a i) v env=some (env.set i (some v)):=rfl
def Xs{is:List Nat}{vs:List Val}{env:Env}:yC (.b is) (.f vs) env=if vs.length=is.length then some ((is.zip vs).foldl (λe p=>e.set p.1 (some p.2)) env) else dS:=rfl
def fv vs:tP vs vs=true:=vo vs
def nK(c:Cel):c.beq c=true:=by cases c<;>simp[Cel.beq,fv]
theorem vv:∀s t,xw s (s++t)=true
 |[],_=>rfl
 |c::r,t=>by simp[xw,nK c,vv r t]
def l9 s:xw s s=true:=by have:=vv s [];rwa [A1]at this
theorem rn:∀s t i c,c.noRef=true->xw s (s.set i c++t)=true
 |[],_,_,_,_=>by simp[xw]
 |_::r,t,0,c,h=>by simp[xw,h,vv r t]
 |o::r,t,i+1,c,h=>by simp[xw,nK o,rn r t i c h]
def gY s t i vs(h:zq vs=true):xw s (s.set i (.c vs)++t)=true:=rn s t i _ h
def Zi:Val.h.noRef=true:=by rw[Val.noRef]
def vt{b:Bool}:(Val.e b).noRef=true:=by rw[Val.noRef]
def oP{b:Int}:(Val.c b).noRef=true:=by rw[Val.noRef]
def W7{b:Str}:(Val.m b).noRef=true:=by rw[Val.noRef]
def rj{vs:List Val}:(Val.f vs).noRef=zq vs:=by rw[Val.noRef]
def rh{vs:List Val}:(Val.g vs).noRef=zq vs:=by rw[Val.noRef]
def iJ:zq []=true:=by rw[zq]
def mI{v:Val}{vs:List Val}:zq (v::vs)=(v.noRef&&zq vs):=by rw[zq]
theorem yq:∀ns:List Int,zq (ns.map .c)=true
 |[]=>rfl
 |_::ns=>by simp[zq,Val.noRef,yq ns]
theorem rd:∀zs:List (Int × Int),zq (zs.map prV)=true
 |[]=>rfl
 |_::zs=>by simp[zq,Val.noRef,prV,rd zs]
def z0(k:Bool)(N:Sto)(v:Val)(s:Sto):Out Val:=
 if k then .e v s
 else if xw N s then (match freeze N.length s v with|some R=>.e R (s.take N.length)|dS=>.d) else .d
def nu{N s:Sto}{v:Val}:z0 true N v s=.e v s:=rfl
def yK{k:Bool}{s:Sto}{v:Val}(h:v.noRef=true):z0 k s v s=.e v s:=by
 unfold z0;cases k
 . simp[l9,freeze,h]
 . rfl
def lY(h:v.noRef=true):z0 false s v (s++t)=.e v s:=by unfold z0;simp[vv,freeze,h]
def lZ(h:v.noRef=true)(N:zq vs=true):z0 false s v (s.set i (.c vs)++t)=.e v (s.set i (.c vs)):=by
 unfold z0;have e:s.length=(s.set i (.c vs)).length:=by rw[Dr]
 simp only[gY s t i vs N,freeze,h,if_true,Aw,if_false,e,List.take_left']
def fin(k:Bool)(s:Sto)(P:Val->Sto->Prop):Fl->Sto->Prop
 |.a _,s1=>(z0 k s .h s1).post P
 |.b v,s1=>(z0 k s v s1).post P
 |_,_=>False
def X9{k:Bool}{s s1:Sto}{P:Val->Sto->Prop}{e:Env}:fin k s P (.a e) s1↔(z0 k s .h s1).post P:=DN
def WA{k:Bool}{s s1:Sto}{P:Val->Sto->Prop}{v:Val}:fin k s P (.b v) s1↔(z0 k s v s1).post P:=DN
def wN{T:Tbl}{Φ:Calls}{N ps:List Str}{k:Bool}{b:Sms}{vs:List Val}{s:Sto}{P:Val->Sto->Prop}:(run T Φ ⟨N,ps,k,b⟩ vs s).post P↔vs.length=ps.length/\(zj Φ T.b (zV N vs) b s).post (fin k s P):=by
 unfold run;by_cases hl:vs.length=ps.length
 . rw[if_pos hl,zF]
   refine⟨λh=>⟨hl,zS h λfl s1 h=>?_⟩,λh=>zS h.2 λfl s1 h=>?_⟩
   . cases fl<;>first|exact h|exact(zW.mp h).elim
   . cases fl<;>first|exact h|exact h.elim
 . rw[if_neg hl]
   exact⟨λh=>(zW.mp h).elim,λh=>absurd h.1 hl⟩
def zT(h:T.c f v=some F)vs s:zE T (n+1) f v vs s=run T (zE T n) F vs s:=by simp only[zE,h]
def At(T:Tbl)(k:Nat)(C:Calls->Prop):Prop:=∀n,k<=n->C (zE T n)
def EVl:=Af @Tz <| Af @iL <| Af @Ra <| Af @Rg <| Af @Tt <| Af @T2 <| Af @T3 <| Af @Tv <| Af @Zv <| Af @Ts <| Af @VL <| Af @VM <| Af @Rc <| Af @T4 <| Af @T5 <| Af @Tx <| Af @T7 <| Af @T1 <| Af @VN <| Af @XG <| Af @VS <| Af @cY <| Af @Rb <| Af @Rf <| Af @VT <| Af @VU <| Af @iK <| Af @kG <| Af @XH <| Af @VY <| Af @VX <| Af @T6 <| Af @oV <| Af @Zy <| Af @cj <| Af @cg <| Af @cX <| Af @mN <| Af @mO <| Af @VP <| Af @cW <| Af @cb <| Af @VW <| Af @XF <| Af @cU <| Af @cZ <| Af @Zx <| Af @VR <| Af @VV <| Af @Tu <| Af @VO <| Af @kH <| Af @zu <| Af @Yc <| Af @Yd <| Af @Ya <| Af @Yb <| Af @YW <| Af @YV <| Af @YU <| Af @YX <| Af @zB <| Af @yz <| Af @zW <| Af @Yf <| Af @yO <| Af @UA <| Af @UC <| Af @UB <| Af @Vx <| Af @Vw <| Af @YS <| Af @bw <| Af @Ud <| Af @Xs <| Af @wN <| Af @X9 <| Af @WA <| Af @nu <| Af @yK <| Af @Zi <| Af @vt <| Af @oP <| Af @W7 <| Af @rj <| Af @rh <| Af @iJ <| Af @mI <| Af @yq <| @rd
def bnd{o:Out α}{a}{f}{r:Out β}(h:o=.e a s)(k:f a s=r):o.bind f=r:=by rw[h];exact k
def zL:evE Φ G env (.g v) s=.e v s:=rfl
def zC(h:env[i]?=some (some v)):evE Φ G env (.e i) s=.e v s:=post_eq.mpr (iL.mpr ⟨v,h,rfl,rfl⟩)
def fc:evE Φ G env (.M x n) s=.e (.t n) s:=rfl
def S8(R:evE Φ G env a s=.e (.e true) s1)(N:evE Φ G env b s1=r):evE Φ G env (.w a (.a b .b)) s=r:=bnd R N
def UM(N:evE Φ G env a s=.e (.e false) s1):evE Φ G env (.w a (.a b es)) s=.e (.e false) s1:=bnd N rfl
def UN(R:evE Φ G env a s=.e (.e true) s1)(N:evE Φ G env b s1=.e (.e false) s2):evE Φ G env (.w a (.a b (.a c es))) s=.e (.e false) s2:=bnd R (show (evE Φ G env b s1).bind _=_ from bnd N rfl)
def UO(S:evE Φ G env a s=.e (.e true) s1)(R:evE Φ G env b s1=.e (.e true) s2)(N:evE Φ G env c s2=r):evE Φ G env (.w a (.a b (.a c .b))) s=r:=bnd S (show (evE Φ G env b s1).bind _=_ from bnd R N)
def il(h:evE Φ G env a s=.e (.c i) s1):evE Φ G env (.B a) s=.e (.c (-i)) s1:=bnd h rfl
def yb(S:evE Φ G env a s=.e x s1)(R:evE Φ G env b s1=.e y s2)(N:binOp m op x y s2=r):evE Φ G env (.j m op a b) s=r:=bnd S (bnd R N)
def xO(S:evE Φ G env a s=.e x s1)(R:evE Φ G env b s1=.e y s2)(N:zQ op x y s2=r):evE Φ G env (.p op a b) s=r:=bnd S (bnd R N)
def wD(S:evE Φ G env a s=.e x s1)(R:evE Φ G env b s1=.e y s2)(N:xJ x y s2=r):evE Φ G env (.r a b) s=r:=bnd S (bnd R N)
def rl:evO Φ G env .b s=.e none s:=rfl
def rm(h:evE Φ G env e s=.e (.c i) s1):evO Φ G env (.a e) s=.e (some i) s1:=bnd h rfl
def fb(h0:evE Φ G env a s=.e x s1)(U:evO Φ G env lo s1=.e l s2)(S:evO Φ G env hi s2=.e h s3)(R:evO Φ G env st s3=.e c s4)(N:tF m x l h c s4=r):evE Φ G env (.F m a lo hi st) s=r:=bnd h0 (bnd U (bnd S (bnd R N)))
def zG:yi Φ G env .b s=.e [] s:=rfl
def zA(R:evE Φ G env e s=.e v s1)(N:yi Φ G env es s1=.e vs s2):yi Φ G env (.a e es) s=.e (v::vs) s2:=bnd R (bnd N rfl)
def sX{P:List Val->Sto->Prop}(h:evE Φ G env e s=.e v s1)(k:(yi Φ G env es s1).post λvs s2=>P (v::vs) s2):(yi Φ G env (.a e es) s).post P:=kG.mpr (by rw[h];exact zB.mpr k)
def yh(h:yi Φ G env es s=.e vs s1)(N:vs.length<=zR):evE Φ G env (.q es) s=.e (.f vs) s1:=bnd h (if_pos N)
def vR(h:yi Φ G env es s=.e vs s1)(N:vs.length<=zR):evE Φ G env (.u false es) s=.e (.g vs) s1:=bnd h (if_pos N)
def wU(h:yi Φ G env es s=.e vs s1)(k:blt f m vs s1=r):evE Φ G env (.k f m es) s=r:=bnd h k
def x_call(h:yi Φ G env es s=.e vs s1)(k:Φ f v vs s1=r):evE Φ G env (.h f v es) s=r:=bnd h k
def ya(h:evE Φ G env e s=.e v s1)(k:(zj Φ G (env.set i (some v)) cs s1).post P):(zj Φ G env (.e (.d i e) cs) s).post P:=zu.mpr (XF.mpr (by rw[h];exact zB.mpr k))
def Vt(h:evE Φ G env e s=.e v s1)(N:yC (.b is) v env=some env')(k:(zj Φ G env' cs s1).post P):(zj Φ G env (.e (.p is e) cs) s).post P:=zu.mpr (cU.mpr (by rw[h];exact zB.mpr ⟨env',N,k⟩))
def se(h:evE Φ G env e s=.e v s1)(k:(zj Φ G env cs s1).post P):(zj Φ G env (.e (.m e) cs) s).post P:=zu.mpr (cW.mpr (by rw[h];exact zB.mpr k))
def xT(h:evE Φ G env e s=.e v s1)(k:P (.b v) s1):(zj Φ G env (.e (.f e) cs) s).post P:=zu.mpr (cb.mpr (by rw[h];exact zB.mpr k))
def yw(h:evE Φ G env e s=.e v s1)(k:srcOf s1 v=some ⟨xs,none⟩):zy Φ G env (.f e) s=.e ⟨xs,none⟩ s1:=post_eq.mpr (cX.mpr (by rw[h];exact zB.mpr ⟨_,k,rfl,rfl⟩))
def x9(h:evE Φ G env e s=.e v s1)(k:truth s1 v=some b):evT Φ G env (.a e) s=.e b s1:=post_eq.mpr (XH.mpr (by rw[h];exact zB.mpr ⟨_,k,rfl,rfl⟩))
def XW(h:evT Φ G env c s=.e b s1):evT Φ G env (.b c) s=.e (!b) s1:=bnd h rfl
def R3(h:evT Φ G env c s=.e false s1)(k:sM Φ G env cs s1=.e b s2):evT Φ G env (.f c cs) s=.e b s2:=bnd h k
def V7:sM Φ G env .a s=.e false s:=rfl
def Ye(h:evT Φ G env c s=.e false s1)(k:sM Φ G env cs s1=.e b s2):sM Φ G env (.b c cs) s=.e b s2:=bnd h k
def pD(h:evT Φ G env c s=.e false s1)(k:(zj Φ G env cs s1).post P):(zj Φ G env (.e (.j c a .f) cs) s).post P:=zu.mpr (VR.mpr (by rw[h];refine zB.mpr ?_;rw[if_neg Ag];exact kH.mpr k))
def bt(h:evT Φ G env c s=.e true s1)(k:(zj Φ G env a s1).post (qE Φ G cs P)):(zj Φ G env (.e (.j c a b) cs) s).post P:=zu.mpr (VR.mpr (by rw[h];refine zB.mpr ?_;rw[if_pos rfl];exact k))
def Xc(h:evE Φ G env a s=.e (.e b) s1):evE Φ G env (.G a) s=.e (.e !b) s1:=bnd h rfl
def vQ(k:P (.a env) s):(zj Φ G env .f s).post P:=kH.mpr k
def iM{is:List Nat}{vs:List Val}{P:Fl->Sto->Prop}(N:vs.length=is.length)(k:P (.a ((is.zip vs).foldl (λe p=>e.set p.1 (some p.2)) env)) s):(if vs.length=is.length then Out.e (Fl.a ((is.zip vs).foldl (λe p=>e.set p.1 (some p.2)) env)) s else .d).post P:=by rw[if_pos N];exact zB.mpr k
def jz{k:Nat}(h:evE Φ G env e s=.e (.c (k:Int)) s1)(hk:k<=zR):zy Φ G env (.d e) s=.e ⟨yj 0 k,none⟩ s1:=by rw[post_eq];refine mN.mpr ?_;rw[h];exact zB.mpr ⟨_,rfl,⟨⋯,⋯⟩,by rw[Bv],rfl⟩
def XA{i j:Nat}(h:evE Φ G env a s=.e (.c (i:Int)) s1)(h':evE Φ G env b s1=.e (.c (j:Int)) s2)(hi:i<=1000)(N:j<=1000):zy Φ G env (.g a b) s=.e ⟨yj i (j-i),none⟩ s2:=by rw[post_eq];refine mO.mpr ?_;rw[h];refine zB.mpr ?_;rw[h'];exact zB.mpr ⟨_,_,rfl,rfl,⟨⋯,⋯,⋯,⋯,by unfold zR;omega⟩,by congr 2;omega,rfl⟩
def aC(h:evT Φ G env c s=.e a s)(k:evT Φ G env d s=.e b s):evT Φ G env (.d c (.b d .a)) s=.e (a&&b) s:=bnd h (by
 cases a with
 |false=>rfl
 |true=>exact bnd k (by cases b<;>rfl))
def qG(h:evT Φ G env c s=.e b s):yG Φ G env (.b c .a) s=.e b s:=bnd h (by cases b<;>rfl)
def iV(he:evE Φ G env e s=.e v s1)(N:evE Φ G env o s1=.e (.j r) s1)(hi:evE Φ G env i s1=.e (.c k) s1)(hs:s1[r]?=some (.c vs))(R:L2.ixN vs.length k=some j)
 (q:(zj Φ G env cs (s1.set r (.c (vs.set j v)))).post P):(zj Φ G env (.e (.l o i e) cs) s).post P:=by
 have e0:exS Φ G env (.l o i e) s=.e (.a env) (s1.set r (.c (vs.set j v))):=by show ((evE Φ G env e s).bind _)=_;rw[he,zN,N,zN,hi,zN];simp only[hs,R];rfl
 refine zu.mpr ?_;rw[e0];exact zB.mpr q
def nX(h:v.noRef=true):(z0 false s v s).post λx t=>x=v/\t=s:=by rw[yK h];exact zB.mpr ⟨rfl,rfl⟩
noncomputable def xR(l m:Int):Val->Bool
 |.c i=>decide (l<=i)&&decide (i<=m)
 |_=>false
def fY(R:l<=i)(N:i<=m):xR l m (.c i)=true:=by simp[xR,R,N]
def fh(Φ:Calls):Prop:=∀(v:Val) (l m:Int) (s:Sto),kindOf v≠none->Φ "is_whole" 0 [v,.c l,.c m] s=.e (.e (xR l m v)) s
def pO(Φ:Calls):Prop:=∀(vs:List Val) (l m:Int) (s:Sto),(∀v∈vs,kindOf v≠none)->Φ "are_wholes" 0 [.f vs,.c l,.c m] s=.e (.e (vs.all (xR l m))) s
def Yu(Φ:Calls):Prop:=∀(n i z:Nat) (s:Sto),i<n->2<=z->z<=8->Φ "most_step" 0 [.c n,.c i,.c z] s=.e (.c ((n-1-i)/(z-1):Nat)) s
def nq:blt .a m [.f vs] s=.e (.c vs.length) s:=rfl
def XD:blt .a m [.g vs] s=.e (.c vs.length) s:=rfl
def W2:blt .a m [.o ns] s=.e (.c ns.length) s:=by simp[blt,y4]
def dn:blt .a m [.r ns] s=.e (.c ns.length) s:=by simp[blt,y4]
def le_int:zQ .g (.c a) (.c b) s=.e (.e (decide (a<=b))) s:=rfl
def lt_int:zQ .m (.c a) (.c b) s=.e (.e (decide (a<b))) s:=rfl
def ge_int:zQ .j (.c a) (.c b) s=.e (.e (decide (b<=a))) s:=rfl
def gt_int:zQ .k (.c a) (.c b) s=.e (.e (decide (b<a))) s:=rfl
def jy:blt .h m [.f vs,.t "tuple"] s=.e (.e true) s:=rfl
theorem sD{N:Type}f:∀xs:List N,boolsOf (xs.map λx=>Val.e (f x))=some (xs.map f)
 |[]=>rfl
 |x::xs=>by simp[boolsOf,sD f xs]
def Y3{N R:Type}(f:N->R)(xs:List N):xs.flatMap (λx=>[f x])=xs.map f:=by
 induction xs with
 |nil=>rfl
 |cons x xs S=>simp[S]
def lG:binOp m .a (.c i) (.c j) s=.e (.c (i+j)) s:=by simp only[binOp]
def Xr:binOp m .e (.c i) (.c j) s=.e (.c (i-j)) s:=by simp only[binOp]
def Yx(h:-1000000<=i/\i<=1000000):binOp m .b (.c i) (.c j) s=.e (.c (i*j)) s:=by simp only[binOp];rw[if_pos (.inl ⋯)]
def fu(h:-1000000<=j/\j<=1000000):binOp m .b (.c i) (.c j) s=.e (.c (i*j)) s:=by simp only[binOp];rw[if_pos (.inr ⋯)]
def dF(h:kindOf v=some a)(h':tZ n=some c):blt .h m [v,.t n] s=.e (.e (a.sub c)) s:=by simp only[blt];rw[h,h']
def Wu(h:kindOf v=some a):(∃i,v=.c i)\/(∃b,v=.e b)\/(a.sub .b=false/\∀l m,xR l m v=false):=by
 cases v with
 |c i=>exact .inl ⟨i,rfl⟩
 |e b=>exact .inr (.inl ⟨b,rfl⟩)
 |_=>cases h<;>exact .inr (.inr ⟨rfl,λ_ _=>rfl⟩)
def Zb(h:kindOf v≠none):∃a,kindOf v=some a:=Option.ne_none_iff_exists'.mp h
def fI(hk:kindOf v≠none):run T Φ F.w5 [v,.c l,.c m] s=.e (.e (xR l m v)) s:=by
 obtain⟨a,R⟩:=Zb hk;have S:=dF (m:=false) (s:=s) R (show tZ "int"=some .b from rfl);have U:=dF (m:=false) (s:=s) R (show tZ "bool"=some .i from rfl);have N:∀{b:Bool},b=xR l m v->(z0 false s (.e b) s).post λx t=>x=.e (xR l m v)/\t=s:=λ{b} e=>by rw[yK vt,e];exact zB.mpr ⟨rfl,rfl⟩
 rw[post_eq,F.w5,wN];refine⟨rfl,?_⟩;show (zj Φ T.b [some v,some (.c l),some (.c m)] _ s).post _;rcases Wu R with⟨i,rfl⟩|⟨b,rfl⟩|⟨Z,Y⟩
 . cases R
   have X:evE Φ T.b [some (.c i),some (.c l),some (.c m)] (.y .g .g (.e 1) (.e 0) (.e 2)) s=.e (.e (xR l m (.c i))) s:=by
    refine bnd (zC rfl) (bnd (zC rfl) (bnd le_int ?_));show (match Val.e (decide (l<=i)) with
     |.e true=>(evE Φ T.b [some (.c i),some (.c l),some (.c m)] (.e 2) s).bind λz W=>zQ .g (.c i) z W
     |.e false=>.e (.e false) s
     |_=>.d)=Out.e (.e (decide (l<=i)&&decide (i<=m))) s
    cases decide (l<=i) with
    |true=>exact bnd (zC rfl) le_int
    |false=>rfl
   exact xT (UO (wU (zA (zC rfl) (zA fc zG)) S) (Xc (wU (zA (zC rfl) (zA fc zG)) U)) X) (N rfl)
 . cases R
   exact xT (UN (wU (zA (zC rfl) (zA fc zG)) S) (Xc (wU (zA (zC rfl) (zA fc zG)) U))) (N rfl)
 . rw[Z]at S
   exact xT (UM (wU (zA (zC rfl) (zA fc zG)) S)) (N (Y _ _).symm)
def kX(c:fh Φ)(hk:∀v∈vs,kindOf v≠none):run T Φ F.xX [.f vs,.c l,.c m] s=.e (.e (vs.all (xR l m))) s:=by
 rw[post_eq];simp[F.xX,EVl,zV,zK];refine cV (λe=>∃o,e=[o,some (.c l),some (.c m)]) (λx=>[.e (xR l m x)]) ?_;simp[EVl,zV,zK];refine⟨?_,?_⟩
 . intro x hx
   simp[EVl,zV,zK,c x l m s (hk x hx)]
 . simp[newList,EVl,zV,zK,blt,Y3,yM,sD]
def bh{n i z:Nat}(U:i<n)(S:2<=z)(R:z<=8):run T Φ F.wI [.c n,.c i,.c z] s=.e (.c ((n-1-i)/(z-1):Nat)) s:=by
 rw[post_eq];have W:(0:Int)<(z:Int)-1/\(z:Int)-1<1073741824:=by omega
 have N:((n:Int)-1-(i:Int))/((z:Int)-1)=(((n-1-i)/(z-1):Nat):Int):=by rw[Hs];congr 1<;>omega
 simp[F.wI,EVl,zV,zK,binOp];refine⟨⋯,?_⟩
 rw[N];simp
def oK(h:x∈yj lo n):∃k:Nat,k<n/\x=.c (lo+k):=by unfold yj at h;obtain⟨k,N,rfl⟩:=A2.mp h;exact⟨k,Ar.mp N,rfl⟩
def XJ ns lo st n:L2.zp (ns.map Val.c) lo st n=(L2.zp ns lo st n).map Val.c:=by unfold L2.zp;rw[List.map_filterMap];congr 1;funext k;simp[Aq]
def pv a b:BX (.int a) (.int b)=decide (a=b):=by by_cases h:a=b<;>simp[BX,h]
def eq_int:zQ .d (.c a) (.c b) s=.e (.e (decide (a=b))) s:=by simp[zQ,zx,yd,pj,Val.isD,Val.d,Ht,pv]
def ne_int:zQ .c (.c a) (.c b) s=.e (.e !(decide (a=b))) s:=by simp[zQ,zx,yd,pj,Val.isD,Val.d,Ht,pv]
def oC{k:Nat}(h:vs[k]?=some v):xJ (.f vs) (.c k) s=.e v s:=by simp[xJ,y4,L2.sR h]
def uK{ns:List Int}{k:Nat}(h:ns[k]?=some i):xJ (.f (ns.map .c)) (.c k) s=.e (.c i) s:=oC (by rw[Aq,h];rfl)
def tW(ns:List Int):(ns.map Val.c).all flat=true:=by rw[List.all_map];simp[flat]
def uF(ns:List Int)y:(ns.map Val.c).countP (λz=>eqF z (.c y))=ns.count y:=by rw[List.countP_map];rfl
section
variable {T:Tbl}{Φ:Calls}{s:Sto}
def US(Φ:Calls):Prop:=∀(ns:List Int) (f d z:Nat) (s:Sto),0<d->1<=z->f+d*(z-1)<ns.length->z<=zR->Φ "is_one_hue" 0 [.f (ns.map .c),.c f,.c d,.c z] s=.e (.e (uN ns f d z)) s
def YJ{f d z:Nat}(hd:0<d)(Z:1<=z)(h:f+d*(z-1)<ns.length)(S:z<=zR):run T Φ F.xY [.f (ns.map .c),.c f,.c d,.c z] s=.e (.e (uN ns f d z)) s:=by
 have Y:f<ns.length:=by have:0<=d*(z-1):=AS _;omega
 have a1:=ag hd Z h;have X:(d:Int)≠0:=by omega
 rw[post_eq];have hm:-(2 ^ 64)<(z:Int)/\(z:Int)<2 ^ 64:=by unfold zR at S;omega
 have R:binOp false .b (.c d) (.c z) s=.e (.c ((d:Int)*z)) s:=by simp only[binOp];rw[if_pos (.inr hm)]
 have U:xJ (.f (ns.map .c)) (.c f) s=.e (.c (ns.getD f 0)) s:=uK (by rw[pn Y,Ad,pn Y];rfl)
 have W:binOp false .a (.c f) (.c ((d:Int)*z)) s=.e (.c ((f:Int)+(d:Int)*z)) s:=by simp only[binOp]
 have N:tF false (.f (ns.map .c)) (some (f:Int)) (some ((f:Int)+(d:Int)*z)) (some (d:Int)) s=.e (.f (((Ah z).map λk=>ns.getD (f+k*d) 0).map .c)) s:=by simp only[tF,Aa];rw[a1,if_pos ⟨X,S⟩];simp only[XJ,bH h]
 have key:decide ((((Ah z).map λk=>ns.getD (f+k*d) 0).count (ns.getD f 0):Int)=(z:Int))=uN ns f d z:=by
  rw[BU,Zm h,decide_eq_true_iff];have S:((Ah z).map λk=>ns.getD (f+k*d) 0).length=z:=by rw[Aa,AZ]
  constructor
  . intro e x hx
    exact(List.count_eq_length.mp (by rw[S];exact Int.ofNat.inj e) x hx).symm
  . intro e
    rw[List.count_eq_length.mpr λx hx=>(e x hx).symm,S]
 generalize hy:ns.getD f 0=y at U key;generalize hxs:(Ah z).map (λk=>ns.getD (f+k*d) 0)=xs at N key;simp only[F.xY,EVl,zV,zK];simp[EVl,zV,zK,R,W,U,N,vD,tW,uF,eq_int,flat];exact key
end
def qq{ns:List Int}:∀v∈ns.map Val.c,kindOf v≠none:=λv N=>by obtain⟨i,_,rfl⟩:=A2.mp N;simp[kindOf]
def s9{ns:List Int}(h:∀x∈ns,l<=x/\x<=m):(ns.map Val.c).all (xR l m)=true:=by rw[A5];intro v N;obtain⟨i,hi,rfl⟩:=A2.mp N;exact fY (h i hi).1 (h i hi).2
noncomputable abbrev tpI(ns:List Int):Val:=.f (ns.map .c)
section
variable {T:Tbl}{Φ:Calls}{s:Sto}
def qZ(Φ:Calls):Prop:=∀(zs:List Int) (s:Sto),Sz zs->Φ "are_sizes" 0 [tpI zs] s=.e (.e true) s
def sg(Φ:Calls):Prop:=∀(zs:List Int) (s:Sto),Sz zs->Φ "need_sizes" 0 [tpI zs] s=.e .h s
def qS(c:qZ Φ)(h:Sz zs):run T Φ F.xZ [tpI zs] s=.e .h s:=by rw[post_eq];simp[F.xZ,EVl,zV,zK,c zs s h]
def jJ(h:a.length+b.length<=zR):binOp m .a (.f a) (.f b) s=.e (.f (a++b)) s:=by simp only[binOp];rw[if_pos h]
end
def p5{N R:Type}f(g:N->R)(xs:List N):xs.flatMap (λx=>if f x then [g x] else [])=(xs.filter f).map g:=by
 induction xs with
 |nil=>rfl
 |cons x xs S=>
  rw[DB,S];cases h:f x<;>simp[h]
section
variable {T:Tbl}{Φ:Calls}{s:Sto}
noncomputable def yF(hs:List Nat):Val:=.f (hs.map λ(k:Nat)=>Val.c k)
def ft{ns:List Int}(h:ns[p]?=some i):p<ns.length:=(Ai.mp h).1
end
noncomputable def r8(a b:Int):Cel:=.c [.c a,.c b]
def vN(s:Sto)(p:Nat):Prop:=∃a b,s[p]?=some (r8 a b)/\0<=b/\b<2147483629
def yk(s:Sto)(p:Nat)(s':Sto):Prop:=∃a b,s'=s.set p (r8 a b)/\0<=b/\b<2147483629
def vN.lt(h:vN s p):p<s.length:=by obtain⟨a,b,h,_⟩:=h;exact(Ai.mp h).1
def yk.at_(h:yk s p s')(hp:p<s.length):vN s' p:=by obtain⟨a,b,rfl,N⟩:=h;exact⟨a,b,BY hp,N⟩
def yk.trans(h:yk s p s1)(k:yk s1 p s2):yk s p s2:=by obtain⟨a,b,rfl,R⟩:=h;obtain⟨c,d,rfl,N⟩:=k;exact⟨c,d,by rw[List.set_set],N⟩
def vN.refl(h:vN s p):yk s p s:=by obtain⟨a,b,h,N⟩:=h;obtain⟨hp,e⟩:=Ai.mp h;refine⟨a,b,?_,N⟩;rw[<-e,List.set_getElem_self]
def yk.len(h:yk s p s'):s'.length=s.length:=by obtain⟨a,b,rfl,_⟩:=h;exact Dr ..
def gO(h:yk s p s')(N:v.noRef=true):z0 false s v (s'++t)=.e v s':=by obtain⟨a,b,rfl,_⟩:=h;exact lZ N rfl
def uL(h:yk s p s')(N:v.noRef=true):z0 false s v s'=.e v s':=by
 have:=gO (t:=[]) h N
 rwa [A1]at this
def bmod(h:0<j):binOp m .c (.c i) (.c j) s=.e (.c (i%j)) s:=by simp only[binOp];rw[if_pos h]
def bdiv(h:0<j/\j<1073741824):binOp m .d (.c i) (.c j) s=.e (.c (i/j)) s:=by simp only[binOp];rw[if_pos h]
def lU{k:Nat}(h:vs[k]?=some v):xJ (.g vs) (.c k) s=.e v s:=by simp[xJ,y4,L2.sR h]
def WH{i k:Nat}(hs:s[i]?=some (.c vs))(h:vs[k]?=some v):xJ (.j i) (.c k) s=.e v s:=by simp[xJ,y4,hs,L2.sR h]
section
variable {T:Tbl}{Φ:Calls}{s:Sto}
def Ym(Φ:Calls):Prop:=∀(ns:List Int) (k:Nat) (s:Sto),∃c,Φ "_law_cell_at" 0 [.r ns,.c k] s=.e (.c c) s
def UT(Φ:Calls):Prop:=∀(c:Int) (s:Sto),∃a b,Φ "_law_pen" 1 [.c c] s=.e (.j s.length) (s++[r8 a b])/\0<=b/\b<2147483629
def jA(Φ:Calls):Prop:=∀(p:Nat) (m:Int) (s:Sto),vN s p->0<m->m<1000000->(Φ "_law_draw" 0 [.j p,.c m] s).post λv s'=>∃r:Nat,v=.c r/\(r:Int)<m/\yk s p s'
def bU ns(k:Nat):∃c,run T Φ F.yc [.r ns,.c k] s=.e (.c c) s:=by
 by_cases h:k<ns.length
 . refine⟨ns[k],?_⟩
   rw[post_eq];have h':(k:Int)<ns.length:=by omega
   have e:(ns.map Val.c)[k]?=some (.c ns[k]):=by rw[Aq,pn h];rfl
   have N:xJ (.r ns) (.c k) s=.e (.c ns[k]) s:=by simp[xJ,y4,L2.sR e]
   simp[F.yc,EVl,zV,zK,dn,lt_int,h',h,N]
 . refine⟨0,?_⟩
   rw[post_eq];have h':¬(k:Int)<ns.length:=by omega
   simp[F.yc,EVl,zV,zK,dn,lt_int,h',h]
def YK c:∃a b,run T Φ F.yf [.c c] s=.e (.j s.length) (s++[r8 a b])/\0<=b/\b<2147483629:=by
 have key:(run T Φ F.yf [.c c] s).post λv s'=>∃a b,v=.j s.length/\s'=s++[r8 a b]/\0<=b/\b<2147483629:=by
  have U:∀(i:Int) (b:Bool),binOp false .b (.c i) (.c (if b then 1 else 0)) s=.e (.c (i*(if b then 1 else 0))) s:=λi b=>fu (by cases b<;>simp)
  have S:∀i:Int,binOp false .c (.c i) (.c 2147483629) s=.e (.c (i%2147483629)) s:=λi=>by simp[binOp]
  have R:binOp false .f (.c 10) (.c 18) s=.e (.c (10 ^ 18)) s:=by simp[binOp]
  simp[F.yf,EVl,zV,zK,Xr,blt];simp[EVl,zV,zK,U,S,R,ge_int,blt,zR,newList,r8];rw[fu (by split<;>omega)]
  simp only[zB];rw[bmod ⋯]
  simp only[zB];exact⟨trivial,_,_,⟨trivial,rfl,rfl⟩,F5 _ ⋯,E8 _ ⋯⟩
 obtain⟨v,s',h,a,b,rfl,rfl,N⟩:=key;exact⟨a,b,h,N⟩
def bV(hp:vN s p)(h0:0<m)(h1:m<1000000):(run T Φ F.xI [.j p,.c m] s).post λv s'=>∃r:Nat,v=.c r/\(r:Int)<m/\yk s p s':=by
 have S:=hp.lt;obtain⟨a,b,hs,Y,U⟩:=hp;have ix:∀{s:Sto} {a b:Int} {k:Nat} {v:Val},s[p]?=some (r8 a b)->[Val.c a,.c b][k]?=some v->xJ (.j p) (.c k) s=.e v s:=λh h'=>WH h h';have N:∀{x:Int} {s':Sto},yk s p s'->(z0 false s (.c (x%m)) s').post λv s'=>∃r:Nat,v=.c r/\(r:Int)<m/\yk s p s':=λ{x s'} t=>by
  rw[uL t oP];have h3:=F5 x (show m≠0 by omega)
  have Z:=E8 x h0;exact zB.mpr ⟨(x%m).toNat,by congr 1;omega,⋯,t⟩
 rw[F.xI,wN];refine⟨rfl,?_⟩;show (zj Φ T.b [some (.j p),some (.c m),none,none,none] _ s).post _;have tc:evT Φ T.b [some (.j p),some (.c m),none,none,none] (.a (.p .k (.r (.e 0) (.g (.c 0))) (.g (.c 0)))) s=.e (decide (0<a)) s:=x9 (xO (wD (zC rfl) zL (ix (k:=0) hs rfl)) zL gt_int) yO;cases hd:decide (0<a) with
 |true=>
  rw[hd]at tc;refine bt tc (Vt (env':=[some (.j p),some (.c m),some (.c (a/m)),some (.c (a%m)),none]) (wU (zA (wD (zC rfl) zL (ix (k:=0) hs rfl)) (zA (zC rfl) zG)) (show blt .b false [.c a,.c m] s=.e (.f [.c (a/m),.c (a%m)]) s by simp only[blt];rw[if_pos ⟨h0,⋯⟩])) rfl ?_)
  exact iV (j:=0) (zC rfl) (zC rfl) zL hs rfl (xT (zC rfl) (N ⟨a/m,b,rfl,Y,U⟩))
 |false=>
  rw[hd]at tc;refine pD tc ?_;refine iV (j:=1) (yb (yb (yb (wD (zC rfl) zL (ix (k:=1) hs rfl)) zL (fu ⋯)) zL lG) zL (bmod ⋯)) (zC rfl) zL hs rfl ?_
  generalize hx:(b*48271+30269)%2147483629=x;have X:0<=x:=by rw[<-hx];exact F5 _ ⋯
  have W:x<2147483629:=by rw[<-hx];exact E8 _ ⋯
  have R:(s.set p (r8 a x))[p]?=some (r8 a x):=BY S;show (zj Φ T.b [some (.j p),some (.c m),none,none,none] _ (s.set p (r8 a x))).post _;refine ya (yb (yb (yb (yb (wD (zC rfl) zL (ix (k:=1) R rfl)) (wD (zC rfl) zL (ix (k:=1) R rfl)) (show binOp false .b (.c x) (.c x) _=_ by simp only[binOp];rw[if_pos (.inl ⋯)])) (yb zL (wD (zC rfl) zL (ix (k:=1) R rfl)) (Yx ⋯)) lG) zL lG) zL (bmod ⋯)) ?_
  exact xT (yb (yb (zC rfl) zL (bdiv ⟨⋯,⋯⟩)) (zC rfl) (bmod h0)) (N ⟨a,x,rfl,X,W⟩)
end
section
variable {T:Tbl}{Φ:Calls}{s:Sto}
def jD(Φ:Calls):Prop:=∀(p:Nat) (s:Sto),vN s p->(Φ "_law_sizes" 0 [.j p] s).post λv s'=>∃zs,v=tpI zs/\Sz zs/\yk s p s'
def SJ(h:r<6):∃m:Nat,([2,2,3,1,4,2]:List Int)[r]?=some (m:Int)/\1<=m/\m<=4:=by
 have:r=0\/r=1\/r=2\/r=3\/r=4\/r=5:=by omega
 rcases this with rfl|rfl|rfl|rfl|rfl|rfl
 . exact⟨2,rfl,by decide,by decide⟩
 . exact⟨2,rfl,by decide,by decide⟩
 . exact⟨3,rfl,by decide,by decide⟩
 . exact⟨1,rfl,by decide,by decide⟩
 . exact⟨4,rfl,by decide,by decide⟩
 . exact⟨2,rfl,by decide,by decide⟩
def SK(h:r<8):∃m:Int,([3,3,4,2,5,3,2,8]:List Int)[r]?=some m/\2<=m/\m<=8:=by
 have:r=0\/r=1\/r=2\/r=3\/r=4\/r=5\/r=6\/r=7:=by omega
 rcases this with rfl|rfl|rfl|rfl|rfl|rfl|rfl|rfl
 . exact⟨3,rfl,by decide,by decide⟩
 . exact⟨3,rfl,by decide,by decide⟩
 . exact⟨4,rfl,by decide,by decide⟩
 . exact⟨2,rfl,by decide,by decide⟩
 . exact⟨5,rfl,by decide,by decide⟩
 . exact⟨3,rfl,by decide,by decide⟩
 . exact⟨2,rfl,by decide,by decide⟩
 . exact⟨8,rfl,by decide,by decide⟩
def n6{ns:List Int}{r:Nat}(h:ns[r]?=some m):xJ (.g (ns.map .c)) (.c r) s=.e (.c m) s:=lU (by rw[Aq,h];rfl)
def YH lo n:(yj lo n).length=n:=by unfold yj;rw[Aa,AZ]
def kW(X:jA Φ)(hp:vN s p):(run T Φ F.xV [.j p] s).post λv s'=>∃zs,v=tpI zs/\Sz zs/\yk s p s':=by
 rw[F.xV,wN];refine⟨rfl,?_⟩;show (zj Φ T.b [some (.j p),none] _ s).post _;obtain⟨_,s1,hd,r,rfl,hr,R⟩:=X p 6 s hp ⋯ ⋯
 obtain⟨n,e,m1,m4⟩:=SJ (r:=r) ⋯
 refine ya (wD (vR (vs:=_) (zA zL (zA zL (zA zL (zA zL (zA zL (zA zL zG)))))) (show 6<=zR by decide)) (x_call (zA (zC rfl) (zA zL zG)) hd) (n6 e)) ?_
 show (zj Φ T.b [some (.j p),some (.c n)] _ s1).post _;refine zu.mpr (cb.mpr (XG.mpr (kG.mpr (Zw (λrest e s' acc=>(∃o,e=[o,some (.j p)])/\yk s1 p s'/\∃zs:List Int,acc=zs.map .c/\(∀x∈zs,2<=x/\x<=8)/\zs.length+rest.length=n) ?_))));rw[jz (zC rfl) (show n<=zR by unfold zR;omega)]
 refine zB.mpr ⟨⟨⟨_,rfl⟩,(R.at_ hp.lt).refl,[],rfl,nofun,by rw[YH];exact Cd _⟩,λ_ _ _ _ _=>rfl,?_,?_⟩
 . rintro x rest e s' acc ⟨⟨o,rfl⟩,t,zs,rfl,S,U⟩
   refine⟨[some x,some (.j p)],rfl,oV.mpr ?_⟩;rw[if_pos rfl];obtain⟨_,s2,W,Z,rfl,hr2,Y⟩:=X p 8 s' (t.at_ (by rw[R.len];exact hp.lt)) ⋯ ⋯
   obtain⟨k,e,k1,k2⟩:=SK (r:=Z) ⋯
   rw[wD (vR (vs:=_) (zA zL (zA zL (zA zL (zA zL (zA zL (zA zL (zA zL (zA zL zG)))))))) (show 8<=zR by decide)) (x_call (zA (zC rfl) (zA zL zG)) W) (n6 e)]
   refine zB.mpr ⟨⟨_,rfl⟩,t.trans Y,zs++[k],by rw[Dt];rfl,λy N=>?_,by rw[As,Bw];rw[Ak]at U;omega⟩
   rcases AO.mp N with N|N
   . exact S y N
   . rw[Av.mp N];exact⟨k1,k2⟩
 . rintro e s' acc ⟨_,t,zs,rfl,S,U⟩
   refine zB.mpr (iK.mpr (zB.mpr ?_));show (z0 false s (tpI zs) s').post _;rw[uL (R.trans t) (by rw[rj];exact yq _)]
   rw[B8]at U;exact zB.mpr ⟨zs,rfl,⟨⋯,⋯,S⟩,R.trans t⟩
end
theorem xj:∀ks:List Int,vA (ks.map .c)=true
 |[]=>by rw[FT,vA]
 |k::ks=>by rw[AF,vA,xj ks,Val.isD];rfl
def eq_nil(h:vA vs=true):zQ .d (.g vs) (.g []) s=.e (.e vs.isEmpty) s:=by
 have W:(Val.g vs).isD=true:=by rw[Val.isD];exact h
 have U:(Val.g []).isD=true:=by rw[Val.isD,vA]
 have S:(Val.g []).d=.list []:=by rw[Val.d,ds]
 have R:(Val.g vs).d=.list (ds vs):=by rw[Val.d]
 have N:BX (.list (ds vs)) (.list [])=vs.isEmpty:=by
  cases vs with
  |nil=>rw[ds];rfl
  |cons v vs=>rw[ds];rfl
 simp only[zQ,zx,yd,pj,W,U,S,R,N];rfl
noncomputable def Uq(bad:Int->Bool):Val->List Val
 |.c x=>if bad x then [.c x] else []
 |_=>[]
def ay bad(ks:List Int):(ks.map Val.c).flatMap (Uq bad)=(ks.filter bad).map .c:=by rw[List.flatMap_map,<-p5];rfl
def Xb{ks:List Int}{bad:Int->Bool}(hi:zy Φ G env it s=.e ⟨ks.map .c,none⟩ s)(h0:zK fr env=none::e0)(h:∀k∈ks,yG Φ G (some (.c k)::e0) ifs s=.e (bad k) s):evE Φ G env (.l false N fr (.e 0) (.a 0) it ifs) s=.e (.g ((ks.filter bad).map .c)) s:=by
 refine post_eq.mpr (oU (λe=>∃o,e=o::e0) (Uq bad) (ks.map .c) (s1:=s) hi ⟨none,h0⟩ ?_ (by rw[ay];exact zB.mpr ⟨rfl,rfl⟩))
 rintro v R e ⟨o,rfl⟩;obtain⟨k,hk,rfl⟩:=A2.mp R;refine⟨_,rfl,⟨_,rfl⟩,?_⟩;show (yG Φ G (some (.c k)::e0) ifs s).post _;rw[h k hk];refine zB.mpr ⟨rfl,?_⟩;show if bad k=true then _ else (if bad k then [Val.c k] else [])=[]
 cases hb:bad k with
 |true=>
  rw[if_pos rfl];refine iL.mpr ⟨_,rfl,rfl,?_⟩;show (if bad k then [Val.c k] else [])=_
  rw[hb,if_pos rfl]
 |false=>rw[if_neg Ag,if_neg Ag]
def t9(h:env[i]?=some (some (tpI ns))):evE Φ G env (.k .a m (.a (.e i) .b)) s=.e (.c (ns.length:Nat)) s:=wU (zA (zC h) zG) (by rw[nq,Aa])
section
variable {Φ:Calls}{G:Str->Option Val}{env:Env}{s:Sto}
noncomputable def Vp(f:Nat->Int):Val->List Val
 |.c k=>[.c (f k.toNat)]
 |_=>[]
def bT:(yj 0 n).flatMap (Vp f)=((Ah n).map f).map .c:=by
 unfold yj;rw[List.flatMap_map,Ce];have:(λ(k:Nat)=>Vp f (.c (0+(k:Int))))=λk=>[(Val.c∘f) k]:=by funext k;show [Val.c (f (0+(k:Int)).toNat)]=_;rw[Int.zero_add,Bv];rfl
 rw[this,Y3]
def S9(hi:zy Φ G env it s=.e ⟨yj 0 n,none⟩ s)(h0:zK fr env=none::e0)(h:∀k (o:Option Val),k<n->evE Φ G (some (.c k)::e0) elt s=.e (.c (f k)) s)(R:n<=zR):evE Φ G env (.l false N fr elt (.a 0) it .a) s=.e (.g (((Ah n).map f).map .c)) s:=by
 rw[post_eq];refine oU (λe=>∃o,e=o::e0) (Vp f) (yj 0 n) (s1:=s) hi ⟨none,h0⟩ ?_ ?_
 . rintro x hx e ⟨o,rfl⟩
   obtain⟨k,hk,rfl⟩:=oK hx;refine⟨_,rfl,⟨_,rfl⟩,oV.mpr ⟨rfl,?_⟩⟩;rw[if_pos rfl,Int.zero_add];show (evE Φ G (some (.c (k:Int))::e0) elt s).post _;rw[h k none hk];refine zB.mpr ⟨rfl,?_⟩;show [Val.c (f (k:Int).toNat)]=_;rw[Bv]
 . rw[bT]
   exact zB.mpr ⟨rfl,rfl⟩
end
def fG lo n:yj lo n=((Ah n).map λ(k:Nat)=>lo+(k:Int)).map .c:=by unfold yj;rw[Ce];rfl
def gc(L:L2.uV k w d)(hk:k<=50)(hw:w<=300000)(hd:d.hasDict=false):rq d=true:=by
 have:=L.a;have:=L.f;unfold rq;rw[L.c,L.b,hd,decide_eq_true (show d.depth<=50 by omega),decide_eq_true (show d.weight<=300000 by omega)]
 rfl
theorem jZ:∀ks:List Int,ds (ks.map .c)=ks.map G4
 |[]=>by rw[FT,ds];rfl
 |k::ks=>by rw[AF,ds,jZ ks,Val.d];rfl
def ZF hs:yF hs=tpI (hs.map λ(k:Nat)=>(k:Int)):=by unfold yF tpI;rw[Ce];rfl
theorem mB:∀{n} {vs} {x},x∈yW n vs->∃k v,vs[k]?=some v/\x=.f [.c ((n+k:Nat):Int),v]
 |_,[],_,h=>by cases h
 |n,v::vs,x,h=>by
  rw[yW]at h;rcases Al.mp h with e|h
  . exact⟨0,v,rfl,e⟩
  . obtain⟨k,w,R,N⟩:=mB h
    refine⟨k+1,w,by simpa using R,?_⟩
    rw[N];congr 3;omega
def max2:blt .j m [.c i,.c j] s=.e (.c (if j > i then j else i)) s:=rfl
def min2:blt .k m [.c i,.c j] s=.e (.c (if j<i then j else i)) s:=rfl
def eV{K:Nat}(h0:env[0]?=some (some (.r ns)))(N:K<=100) :
 zy Φ G env (.d (.k .j false (.a (.g (.c 1)) (.a (.k .k false (.a (.k .a false (.a (.e 0) .b)) (.a (.g (.c K)) .b))) .b)))) s=.e ⟨yj 0 (max 1 (min ns.length K)),none⟩ s:=by
 rw[post_eq];simp only[EVl,zV,zK];refine⟨_,h0,?_⟩;rw[dn];simp only[zB];rw[min2];simp only[zB];rw[max2];simp only[zB];have e:(if (if (K:Int)<(ns.length:Int) then (K:Int) else (ns.length:Int)) > 1 then (if (K:Int)<(ns.length:Int) then (K:Int) else (ns.length:Int)) else 1)=((max 1 (min ns.length K):Nat):Int):=by split<;>split<;>omega
 rw[e];refine⟨_,rfl,⟨⋯,by unfold zR;omega⟩,?_⟩
 simp
end M
end
section
namespace M
open L2
noncomputable def pR(ns:List Int)(f d z:Nat)(h:Int):Bool:=(Ah z).all λk=>decide (ns[f+k*d]?=some h)
def yQ:pR ns f d z h=true↔∀k<z,ns[f+k*d]?=some h:=by unfold pR;rw[A5];exact⟨λH k hk=>of_decide_eq_true (H k (Ar.mpr hk)),λH k hk=>decide_eq_true (H k (Ar.mp hk))⟩
noncomputable def vX(ns:List Int)(z:Nat)(h:Int):Bool:=(Ah (ns.length/(z-1))).any λj=>(Ah (z-1)).all λk=>decide (ns[ns.length-(k+1)*(j+1)]?=some h)
def jk(U:2<=z):vX ns z h=true↔∃d,0<d/\(z-1)*d<=ns.length/\∀k,1<=k->k<z->ns[ns.length-k*d]?=some h:=by
 unfold vX;rw[CC];constructor
 . rintro ⟨j,N,H⟩
   rw[Ar,FO,Du ⋯,BV]at N
   rw[A5]at H;refine⟨j+1,⋯,N,λk S R=>?_⟩
   have:=of_decide_eq_true (H (k-1) (Ar.mpr ⋯))
   rwa [show k-1+1=k by omega]at this
 . rintro ⟨d,S,R,H⟩
   refine⟨d-1,?_,?_⟩
   . rw[Ar,FO,Du ⋯,show d-1+1=d by omega,BV];exact R
   . rw[A5]
     intro k hk;rw[Ar]at hk;rw[show d-1+1=d by omega]
     exact decide_eq_true (H (k+1) ⋯ ⋯)
def nF(zs ns:List Int):Prop:=∀h f d,h<zs.length->0<d->f+d*(zi zs h-1)<ns.length->pR ns f d (zi zs h) h≠true
structure Fit(zs ns:List Int):Prop where
 b:∀x∈ns,0<=x/\x<zs.length
 c:nF zs ns
def qB{h:Int}(hi:i<ns.length):(ns++[h])[i]?=ns[i]?:=AW hi
def Zd{h0:Nat}(hF:nF zs ns)(W:h<zs.length)(hd:0<d)(S:f+d*(zi zs h-1)<(ns++[(h0:Int)]).length)(X:2<=zi zs h)(R:pR (ns++[(h0:Int)]) f d (zi zs h) h=true) :
 f+d*(zi zs h-1)=ns.length/\h=h0:=by
 rw[As,Bw]at S;rw[yQ]at R;have key:f+d*(zi zs h-1)=ns.length:=by
  apply FY ⋯
  refine Nat.not_lt.mp λN=>hF h f d W hd N ?_;rw[yQ];intro k hk;have U:k*d<=(zi zs h-1)*d:=CT _ ⋯
  have e:=BV d (zi zs h-1);rw[<-R k hk,qB ⋯]
 refine⟨key,?_⟩;have:=R (zi zs h-1) ⋯
 rw[BV,key,AU (Ab _),E3]at this;have:=AH this;omega
def X5{h0:Nat}(R:2<=z)(hd:0<d)(W:f+d*(z-1)=ns.length)(N:pR (ns++[(h0:Int)]) f d z h0=true):vX ns z h0=true:=by
 rw[jk R];rw[yQ]at N;have e:=BV d (z-1);refine⟨d,hd,⋯,λk S X=>?_⟩
 have hk:=N (z-1-k) ⋯
 have Y:(z-1-k)*d+k*d=(z-1)*d:=by rw[<-HQ];congr 1;omega
 have hp:1*1<=k*d:=Ej S hd;have U:f+(z-1-k)*d=ns.length-k*d:=by omega
 rw[U,qB ⋯]at hk
 exact hk
def W9{h0:Nat}(N:2<=z)(he:vX ns z h0=true):∃f d,0<d/\f+d*(z-1)=ns.length/\pR (ns++[(h0:Int)]) f d z h0=true:=by
 rw[jk N]at he;obtain⟨d,hd,S,H⟩:=he;have e:=BV d (z-1);refine⟨ns.length-(z-1)*d,d,hd,⋯,?_⟩
 rw[yQ];intro k hk;have U:(z-1-k)*d+k*d=(z-1)*d:=by rw[<-HQ];congr 1;omega
 have R:ns.length-(z-1)*d+k*d=ns.length-(z-1-k)*d:=by omega
 rw[R];by_cases hc:k=z-1
 . subst hc
   rw[E3,Nat.zero_mul,Hb,AU (Ab _),E3];rfl
 . have hp:1*1<=(z-1-k)*d:=Ej ⋯ hd
   rw[qB ⋯]
   exact H (z-1-k) ⋯ ⋯
def hV(R:Sz zs)(hF:nF zs ns)(S:h0<zs.length):nF zs (ns++[(h0:Int)])↔vX ns (zi zs h0) h0=false:=by
 have z2:=(xK R S).2.1;constructor
 . intro H
   cases he:vX ns (zi zs h0) h0 with
   |false=>rfl
   |true=>
    obtain⟨f,d,hd,hl,N⟩:=W9 z2 he;exact(H h0 f d S hd (by rw[As,Bw];omega) N).elim
 . intro he h f d W U X N
   obtain⟨Z,Y⟩:=Zd hF W U X (xK R W).2.1 N;subst Y;rw[X5 z2 U Z N]at he;cases he
def Fit.snoc(N:Sz zs)(hF:Fit zs ns)(R:h0<zs.length)(he:vX ns (zi zs h0) h0=false):Fit zs (ns++[(h0:Int)]):=by
 refine⟨λx hx=>?_,(hV N hF.c R).mpr he⟩;rcases AO.mp hx with hx|hx
 . exact hF.b x hx
 . rw[Av.mp hx];omega
def fm(N:1<=z)(R:f+d*(z-1)<ns.length):pR ns.reverse f d z h=pR ns (ns.length-1-(f+d*(z-1))) d z h:=by
 rw[BU,yQ,yQ];have e:=BV d (z-1);have key:∀k,k<z->ns.reverse[f+k*d]?=ns[ns.length-1-(f+d*(z-1))+(z-1-k)*d]?:=λk hk=>by
  have S:(z-1-k)*d+k*d=(z-1)*d:=by rw[<-HQ];congr 1;omega
  rw[List.getElem?_reverse ⋯]
  congr 1;omega
 constructor
 . intro H k hk
   have:=key (z-1-k) ⋯
   rw[H _ ⋯,show z-1-(z-1-k)=k by omega]at this
   exact this.symm
 . intro H k hk
   rw[key k hk];exact H _ ⋯
def nF.rev(U:Sz zs)(hF:nF zs ns):nF zs ns.reverse:=λh f d S W R N=>by
 rw[DS]at R;have z2:=(xK U S).2.1;rw[fm ⋯ R]at N
 exact hF h _ d S W ⋯ N
theorem Fit.rev(N:Sz zs)(hF:Fit zs ns):Fit zs ns.reverse:=⟨λx hx=>hF.b x (List.mem_reverse.mp hx),hF.c.rev N⟩
theorem Fit.take(hF:Fit zs ns)n:Fit zs (ns.take n):=by
 refine⟨λx hx=>hF.b x (Bh hx),λh f d W U S N=>?_⟩;rw[Bi]at S;refine hF.c h f d W U ⋯ ?_
 rw[yQ]at N ⊢;intro k hk;have R:k*d<=(zi zs h-1)*d:=CT _ ⋯
 have e:=BV d (zi zs h-1);have:=N k hk
 rwa [BM ⋯]at this
def jt zs:Fit zs []:=⟨λx hx=>(by cases hx),λh f d _ _ N _=>absurd N (Ds _)⟩
def k8(zs ns:List Int):List (Nat × Nat):=(Ah zs.length).flatMap λh=>(mh ns.length (zi zs h)).filter λr=>pR ns r.1 r.2 (zi zs h) h
def fZ(W:Sz zs):(k8 zs ns).isEmpty=true↔nF zs ns:=by
 rw[Br];unfold k8;rw[List.flatMap_eq_nil_iff];constructor
 . intro H h f d X U S R
   have:=Ed.mp (H h (Ar.mpr X)) (f,d) ((mC (xK W X).2.1).mpr ⟨U,S⟩);exact this R
 . intro H h N
   have N:=Ar.mp N;rw[Ed];rintro ⟨f,d⟩ Y R;obtain⟨U,S⟩:=(mC (xK W N).2.1).mp Y;exact H h f d N U S R
def RQ(zs ns:List Int):Bool:=(ns.all λx=>decide (0<=x)&&decide (x<zs.length))&&(k8 zs ns).isEmpty
def tU(N:Sz zs)(h:RQ zs ns=true):Fit zs ns:=by obtain⟨S,R⟩:=DJ.mp h;refine⟨λx hx=>?_,(fZ N).mp R⟩;obtain⟨a,b⟩:=DJ.mp (A5.mp S x hx);exact⟨of_decide_eq_true a,of_decide_eq_true b⟩
end M
end
section
namespace F
open PySem M
noncomputable def yP:Fn:=⟨["_law_pen_here","_law_sizes_here","_law_limit","_law_found","_law_place","_law_hue","_law_some","_law_good"],["_law_pen_here","_law_sizes_here","_law_limit"],false,(.e (.d 3 (.q .b)) (.e (.g (.a 4) (.d (.h "_law_draw" 0 (.a (.e 0) (.a (.j false .a (.e 2) (.g (.c 1))) .b)))) (.e (.d 5 (.h "_law_draw" 0 (.a (.e 0) (.a (.k .a false (.a (.e 1) .b)) .b)))) (.e (.d 6 (.l false ["_law_k","_law_hue","_law_sizes_here"] [none,some 5,some 1] (.j false .c (.j false .a (.e 1) (.e 0)) (.k .a false (.a (.e 2) .b))) (.a 0) (.d (.k .a false (.a (.e 1) .b))) .a)) (.e (.d 7 (.l false ["_law_one","_law_sizes_here","_law_found"] [none,some 1,some 3] (.e 0) (.a 0) (.f (.e 6)) (.b (.b (.a (.h "_law_ended" 0 (.a (.e 1) (.a (.e 2) (.a (.e 0) .b)))))) .a))) (.e (.j (.a (.p .c (.e 7) (.u false .b))) (.e (.d 3 (.j false .a (.e 3) (.q (.a (.r (.e 7) (.g (.c 0))) .b)))) .f) .f) .f))))) (.e (.f (.e 3)) .f)))⟩
noncomputable def yY:Fn:=⟨["sizes","hues","place","hue"],["sizes","hues"],false,(.e (.g (.b [2,3]) (.h (.e 1)) (.e (.j (.a (.p .j (.e 3) (.k .a false (.a (.e 0) .b)))) (.e (.f (.e 2)) .f) .f) .f)) (.e (.f (.g .h)) .f))⟩
noncomputable def yZ:Fn:=⟨["sizes","hues","first","hue","step"],["sizes","hues"],false,(.e (.g (.b [2,3]) (.h (.e 1)) (.e (.j (.a (.p .j (.e 3) (.g (.c 0)))) (.e (.g (.a 4) (.g (.g (.c 1)) (.j false .a (.h "most_step" 0 (.a (.k .a false (.a (.e 1) .b)) (.a (.e 2) (.a (.r (.e 0) (.e 3)) .b)))) (.g (.c 1)))) (.e (.j (.a (.h "is_one_hue" 0 (.a (.e 1) (.a (.e 2) (.a (.e 4) (.a (.r (.e 0) (.e 3)) .b)))))) (.e (.f (.q (.a (.e 2) (.a (.e 4) .b)))) .f) .f) .f)) .f) .f) .f)) (.e (.f (.g .h)) .f))⟩
noncomputable def xG:Fn:=⟨["sizes","strip","place","row"],["sizes","strip"],false,(.e (.m (.h "need_sizes" 0 (.a (.e 0) .b))) (.e (.m (.h "need_strip" 0 (.a (.e 1) .b))) (.e (.d 2 (.h "first_hue_wrong" 0 (.a (.e 0) (.a (.e 1) .b)))) (.e (.j (.a (.p .b (.e 2) (.g .h))) (.e (.f (.q (.a (.g (.m "hue")) (.a (.e 2) .b)))) .f) .f) (.e (.d 3 (.h "first_row_wrong" 0 (.a (.e 0) (.a (.e 1) .b)))) (.e (.f (.I (.a (.p .i (.e 3) (.g .h))) (.g .h) (.q (.a (.g (.m "row")) (.a (.r (.e 3) (.g (.c 0))) (.a (.r (.e 3) (.g (.c 1))) .b)))))) .f))))))⟩
noncomputable def pP:Fn:=⟨["sizes","strip"],["sizes","strip"],false,(.e (.f (.p .i (.h "first_wrong" 0 (.a (.e 0) (.a (.e 1) .b))) (.g .h))) .f)⟩
noncomputable def w4:Fn:=⟨["thing"],["thing"],false,(.e (.f (.w (.k .h false (.a (.e 0) (.a (.M "tuple" "tuple") .b))) (.a (.p .g (.k .a false (.a (.e 0) .b)) (.L "MOST_PLACES")) (.a (.h "are_wholes" 0 (.a (.e 0) (.a (.r (.L "HUES") (.g (.c 0))) (.a (.r (.L "HUES") (.B (.g (.c 1)))) .b)))) .b)))) .f)⟩
noncomputable def w6:Fn:=⟨["sizes","thing"],["sizes","thing"],false,(.e (.j (.b (.a (.h "fits" 0 (.a (.e 0) (.a (.e 1) .b))))) (.e (.n (.h "NoFit" 0 (.a (.g (.m "a strip that fits the sizes is due")) .b))) .f) .f) .f)⟩
noncomputable def xf:Fn:=⟨["thing"],["thing"],false,(.e (.j (.b (.a (.h "is_strip" 0 (.a (.e 0) .b)))) (.e (.n (.h "NoStrip" 0 (.a (.g (.m "a strip is due")) .b))) .f) .f) .f)⟩
end F
end
section
namespace M
open PySem
structure Gl4(T:Tbl):Prop where
 mp:T.b "MOST_PLACES"=some (.c 40)
 ls:T.b "LEAST_SIZE"=some (.c 2)
 ms:T.b "MOST_SIZE"=some (.c 8)
 hu:T.b "HUES"=some (.o [0,1,2,3])
section
variable {T:Tbl}{Φ:Calls}{s:Sto}
def qR(g:Gl4 T)(c:pO Φ)(h:Sz zs):run T Φ F.wG [tpI zs] s=.e (.e true) s:=by
 rw[post_eq];have N:=c (zs.map .c) 2 8 s qq;rw[s9 h.2.2]at N;have S:(1:Int)<=(zs.length:Int):=by have:=h.1;omega
 have R:(zs.length:Int)<=4:=by have:=h.2.1;omega
 simp[F.wG,EVl,zV,zK,jy,nq,W2,g.hu,g.ls,g.ms,le_int,N,S,R]
def nD(Φ:Calls):Prop:=∀(zs ns:List Int) (s:Sto),Sz zs->Fit zs ns->ns.length<=40->Φ "is_strip" 0 [tpI ns] s=.e (.e true) s
def mj(g:Gl4 T)(c:pO Φ)(S:Sz zs)(U:Fit zs ns)(X:ns.length<=40):run T Φ F.w4 [tpI ns] s=.e (.e true) s:=by
 rw[post_eq];have N:=c (ns.map .c) 0 3 s qq;rw[s9 (λx hx=>by have:=U.b x hx;have:=S.2.1;omega)]at N
 have W:(ns.length:Int)<=40:=by omega
 have R:xJ (.o [0,1,2,3]) (.c 0) s=.e (.c 0) s:=rfl;have i1:xJ (.o [0,1,2,3]) (.c (-1)) s=.e (.c 3) s:=rfl;simp[F.w4,EVl,zV,zK,jy,nq,g.mp,g.hu,le_int,W,R,i1,N]
def si(Φ:Calls):Prop:=∀(zs ns:List Int) (s:Sto),Sz zs->Fit zs ns->ns.length<=40->Φ "need_strip" 0 [tpI ns] s=.e .h s
def qT(c:nD Φ)(N:Sz zs)(S:Fit zs ns)(R:ns.length<=40):run T Φ F.xf [tpI ns] s=.e .h s:=by rw[post_eq];simp[F.xf,EVl,zV,zK,c zs ns s N S R]
def Yp(Φ:Calls):Prop:=∀(zs ns:List Int) (s:Sto),Fit zs ns->Φ "first_hue_wrong" 0 [tpI zs,tpI ns] s=.e .h s
def qw{ns:List Int}(h:x∈yW 0 (ns.map .c)):∃k i,ns[k]?=some i/\x=.f [.c (k:Nat),.c i]:=by obtain⟨k,v,N,rfl⟩:=mB h;rw[Aq]at N;obtain⟨j,R,rfl⟩:=AK.mp N;exact⟨k,j,R,by rw[Cd]⟩
def bY(X:Fit zs ns):run T Φ F.yY [tpI zs,tpI ns] s=.e .h s:=by
 rw[post_eq];simp[F.yY,EVl,zV,zK];refine xD (λrest e s'=>s'=s/\(∃R N,e=[some (tpI zs),some (tpI ns),R,N])/\∀x∈rest,x∈yW 0 (ns.map .c)) (yW 0 (ns.map .c)) (s1:=s) ?_ ⟨rfl,⟨_,_,rfl⟩,λx hx=>hx⟩ ?_ ?_
 . rw[post_eq]
   simp[EVl,zV,zK]
 . rintro x rest e s' ⟨rfl,⟨R,N,rfl⟩,U⟩
   obtain⟨k,i,hk,rfl⟩:=qw (U x (.head _));have S:∀x∈rest,x∈yW 0 (ns.map .c):=λx hx=>U x (.tail _ hx);refine⟨_,rfl,?_⟩;have hi:=X.b i (AA hk);have W:¬((zs.length:Int)<=i):=by omega
   simp[EVl,zV,zK,nq,ge_int,W];exact S
 . rintro e s' ⟨rfl,⟨R,N,rfl⟩,_⟩
   simp[EVl,zV,zK]
def Yq(Φ:Calls):Prop:=∀(zs ns:List Int) (s:Sto),Sz zs->Fit zs ns->ns.length<=40->Φ "first_row_wrong" 0 [tpI zs,tpI ns] s=.e .h s
def bZ(cM:Yu Φ)(cO:US Φ)(hz:Sz zs)(hf:Fit zs ns)(hn:ns.length<=40):run T Φ F.yZ [tpI zs,tpI ns] s=.e .h s:=by
 rw[post_eq];simp[F.yZ,EVl,zV,zK];refine xD (λrest e s'=>s'=s/\(∃X W R,e=[some (tpI zs),some (tpI ns),X,W,R])/\∀x∈rest,x∈yW 0 (ns.map .c)) (yW 0 (ns.map .c)) (s1:=s) ?_ ⟨rfl,⟨_,_,_,rfl⟩,λx hx=>hx⟩ ?_ ?_
 . rw[post_eq]
   simp[EVl,zV,zK]
 . rintro x rest e s' ⟨rfl,⟨X,W,R,rfl⟩,hr⟩
   obtain⟨f,i,hk,rfl⟩:=qw (hr x (.head _));have Y:∀x∈rest,x∈yW 0 (ns.map .c):=λx hx=>hr x (.tail _ hx);refine⟨_,rfl,?_⟩;have hi:=hf.b i (AA hk);obtain⟨h,rfl⟩:∃h:Nat,i=h:=⟨i.toNat,⋯⟩
   have hh:h<zs.length:=by omega
   obtain⟨z1,z2,z3⟩:=xK hz hh;have hfl:=ft hk;have c1:=cM ns.length f (zi zs h) s' hfl z2 z3;have i1:=uK (s:=s') z1;simp[EVl,zV,zK,ge_int];refine xD (λrest e N=>N=s'/\(∃R,e=[some (tpI zs),some (tpI ns),some (.c f),some (.c h),R])/\∀x∈rest,∃d:Nat,x=.c d/\0<d/\f+d*(zi zs h-1)<ns.length) (yj 1 ((ns.length-1-f)/(zi zs h-1))) (s1:=s') ?_ ⟨rfl,⟨_,rfl⟩,?_⟩ ?_ ?_
   . rw[post_eq]
     have hK:(ns.length-1-f)/(zi zs h-1)<=40:=Ao (Nat.div_le_self _ _) ⋯
     simp only[tpI]at *;generalize (ns.length-1-f)/(zi zs h-1)=K at *;simp[EVl,zV,zK,nq,i1];rw[c1];simp[EVl,zV,zK,lG];unfold zR;omega
   . intro x hx
     obtain⟨k,hk,rfl⟩:=oK hx;refine⟨k+1,by congr 1;omega,⋯,?_⟩
     rw[FO,Du ⋯]at hk
     omega
   . rintro x U e N ⟨rfl,⟨R,rfl⟩,S⟩
     obtain⟨d,rfl,d1,d2⟩:=S x (.head _);refine⟨_,rfl,?_⟩;have c2:=cO ns f d (zi zs h) N d1 ⋯ d2 (by unfold zR;omega)
     have Z:uN ns f d (zi zs h)=false:=by
      cases ho:uN ns f d (zi zs h) with
      |false=>rfl
      |true=>
       refine(hf.c h f d hh d1 d2 ?_).elim;rw[yQ];intro k hk2;have:=of_decide_eq_true (A5.mp ho k (Ar.mpr hk2));rw[this,hk]
     rw[Z]at c2;simp[EVl,zV,zK,i1];rw[c2];simp[EVl,zV,zK];exact λx hx=>S x (.tail _ hx)
   . rintro e N ⟨rfl,⟨R,rfl⟩,_⟩
     simp[EVl,zV,zK];exact Y
 . rintro e s' ⟨rfl,⟨X,W,R,rfl⟩,_⟩
   simp[EVl,zV,zK]
def Yr(Φ:Calls):Prop:=∀(zs ns:List Int) (s:Sto),Sz zs->Fit zs ns->ns.length<=40->Φ "fits" 0 [tpI zs,tpI ns] s=.e (.e true) s
def jB(Φ:Calls):Prop:=∀(zs ns:List Int) (s:Sto),Sz zs->Fit zs ns->ns.length<=40->Φ "first_wrong" 0 [tpI zs,tpI ns] s=.e .h s
def uU(Φ:Calls):Prop:=∀(zs ns:List Int) (s:Sto),Sz zs->Fit zs ns->ns.length<=40->Φ "need_fit" 0 [tpI zs,tpI ns] s=.e .h s
def kT(Y:sg Φ)(X:si Φ)(W:Yp Φ)(U:Yq Φ)(N:Sz zs)(R:Fit zs ns)(S:ns.length<=40):run T Φ F.xG [tpI zs,tpI ns] s=.e .h s:=by rw[post_eq];have n1:∀s,zQ .b .h .h s=.e (.e false) s:=λs=>rfl;have n2:∀s,zQ .i .h .h s=.e (.e true) s:=λs=>rfl;simp[F.xG,EVl,zV,zK,Y zs s N,X zs ns s N R S,W zs ns s R,U zs ns s N R S,n1,n2]
def ba(c:jB Φ)(N:Sz zs)(S:Fit zs ns)(R:ns.length<=40):run T Φ F.pP [tpI zs,tpI ns] s=.e (.e true) s:=by rw[post_eq];have n2:∀s,zQ .i .h .h s=.e (.e true) s:=λs=>rfl;simp[F.pP,EVl,zV,zK,c zs ns s N S R,n2]
def ml(c:Yr Φ)(N:Sz zs)(S:Fit zs ns)(R:ns.length<=40):run T Φ F.w6 [tpI zs,tpI ns] s=.e .h s:=by rw[post_eq];simp[F.w6,EVl,zV,zK,c zs ns s N S R]
end
noncomputable def tB(ns:List Int)(z:Nat)(h:Int)(j:Nat):Bool:=(Ah (z-1)).all λk=>decide (ns[ns.length-(k+1)*(j+1)]?=some h)
def bG{ns:List Int}(N:ns.length<41):L2.zp ns (L2.yS ns.length none none (-1)).1 (-1) (L2.yS ns.length none none (-1)).2=ns.reverse:=by
 have R:∀n:Nat,n<41->L2.yS n none none (-1)=((n:Int)-1,n):=by decide +kernel
 rw[R _ N];unfold L2.zp;dsimp only;rw[tX (g:=λk=>ns.getD (ns.length-1-k) 0)]
 . refine GX λi=>?_
   by_cases hi:i<ns.length
   . rw[Aq,Cy hi,List.getElem?_reverse hi,HK,Ad,pn ⋯];rfl
   . rw[CK (by simp;omega),CK (by simp;omega)]
 . intro k hk
   have hk:=Ar.mp hk;have:((ns.length:Int)-1+(k:Int)*-1).toNat=ns.length-1-k:=by omega
   rw[this,Ad,pn ⋯];rfl
def kf(R:ns.length<=40):tF false (tpI ns) none none (some (-1)) s=.e (tpI ns.reverse) s:=by
 have N:∀n:Nat,n<41->(L2.yS n none none (-1)).2<=zR:=by
  have:∀n:Nat,n<41->(L2.yS n none none (-1)).2<=100:=by decide +kernel
  exact λn h=>Ao (this n h) (by unfold zR;omega)
 have h0:(-1:Int)≠0:=by omega
 have hp:=bG (ns:=ns) ⋯
 simp only[tF,Aa];rw[if_pos ⟨h0,N _ ⋯⟩]
 simp only[XJ];rw[hp]
section
variable {T:Tbl}{Φ:Calls}{s:Sto}
def Yn(Φ:Calls):Prop:=∀(zs fs:List Int) (h:Nat) (s:Sto),Sz zs->h<zs.length->fs.length<=40->Φ "_law_ended" 0 [tpI zs,tpI fs,.c h] s=.e (.e (vX fs (zi zs h) h)) s
def bW(hz:Sz zs)(hh:h<zs.length)(hf:fs.length<=40):run T Φ F.yr [tpI zs,tpI fs,.c h] s=.e (.e (vX fs (zi zs h) h)) s:=by
 obtain⟨z1,z2,z3⟩:=xK hz hh;generalize hzz:zi zs h=z at *;have hdv:binOp false .d (.c (fs.length:Nat)) (.c ((z:Int)-1)) s=.e (.c (fs.length/(z-1):Nat)) s:=by rw[bdiv ⋯,Hs];congr 3;omega
 have hK:fs.length/(z-1)<=40:=Ao (Nat.div_le_self _ _) hf;have he:vX fs z h=(Ah (fs.length/(z-1))).any (tB fs z h):=rfl;generalize hKK:fs.length/(z-1)=K at *;rw[post_eq,F.yr,wN];refine⟨rfl,?_⟩;show (zj Φ T.b [some (tpI zs),some (tpI fs),some (.c h),none,none,none] _ s).post _;refine zu.mpr (cZ.mpr (sX (t9 rfl) (sX (wD (zC rfl) (zC rfl) (uK z1)) (iK.mpr (iM rfl ?_)))));show (zj Φ T.b [some (tpI zs),some (tpI fs),some (.c h),some (.c fs.length),some (.c z),none] _ s).post _;refine zu.mpr (xD (λrest e s'=>s'=s/\(∃Z,e=[some (tpI zs),some (tpI fs),some (.c h),some (.c fs.length),some (.c z),Z])/\∃R:List Nat,rest=R.map (λ(j:Nat)=>Val.c (1+(j:Int)))/\(∀j∈R,j<K)/\vX fs z h=R.any (tB fs z h)) (yj 1 K) (s1:=s) (XA (i:=1) (j:=K+1) zL (yb (yb (zC rfl) (yb (zC rfl) zL Xr) hdv) zL lG) ⋯ ⋯) ⟨rfl,⟨_,rfl⟩,Ah K,rfl,λj hj=>Ar.mp hj,he⟩ ?_ ?_)
 . rintro x rest e s' ⟨rfl,⟨Z,rfl⟩,R,W,hb,S⟩
   cases R with
   |nil=>cases W
   |cons j R=>
    rw[AF]at W;injection W with hx W
    subst hx;refine⟨_,rfl,?_⟩;have hjK:=hb j (.head _);have X:tB fs z h j=(Ah (z-1)).all λk=>decide (fs[fs.length-(k+1)*(j+1)]?=some (h:Int)):=rfl;obtain⟨d,hd0⟩:∃d,d=j+1:=⟨_,rfl⟩;have hdc:(1+(j:Int))=(d:Int):=by omega
    rw[hdc];rw[<-hd0]at X;have d1:1<=d:=by omega
    have hdz:∀k:Nat,k<=z-1->k*d<=fs.length:=λk hk=>by
     have h1:k*d<=(z-1)*K:=Ej hk ⋯
     have h2:(z-1)*K<=fs.length:=by rw[<-hKK];exact Nat.mul_div_le _ _
     omega
    have U:∀k:Nat,(1+(k:Int))*(d:Int)=(((k+1)*d:Nat):Int):=λk=>by rw[HM];congr 1;omega
    have hc:=Xb (Φ:=Φ) (G:=T.b) (env:=[some (tpI zs),some (tpI fs),some (.c h),some (.c fs.length),some (.c z),some (.c d)]) (s:=s') (N:=["_law_k","_law_hue","_law_found","_law_here","_law_step"]) (fr:=[none,some 2,some 1,some 3,some 5]) (it:=.g (.g (.c 1)) (.e 4)) (ifs:=.b (.a (.p .c (.r (.e 2) (.j false .e (.e 3) (.j false .b (.e 0) (.e 4)))) (.e 1))) .a) (ks:=(Ah (z-1)).map λ(k:Nat)=>1+(k:Int)) (bad:=λk=>!decide (fs[((fs.length:Int)-k*d).toNat]?=some (h:Int))) (e0:=[some (.c h),some (tpI fs),some (.c fs.length),some (.c d)]) ((XA (i:=1) (j:=z) zL (zC rfl) ⋯ ⋯).trans (by rw[show ((1:Nat):Int)=1 from rfl,fG])) rfl λi hi=>by
     obtain⟨k,hk,rfl⟩:=A2.mp hi;have hk:=Ar.mp hk;have hk1:=hdz (k+1) ⋯
     have hpos:1<=(k+1)*d:=Ej (show 1<=k+1 by omega) d1
     have Y:fs.length-(k+1)*d<fs.length:=by omega
     have e4:(fs.length:Int)-(1+(k:Int))*d=((fs.length-(k+1)*d:Nat):Int):=by rw[U];omega
     have m1:binOp false .e (.c (fs.length:Nat)) (.c ((1+(k:Int))*d)) s'=.e (.c ((fs.length-(k+1)*d:Nat):Int)) s':=by rw[Xr,e4]
     rw[e4,Bv,pn Y,show decide (some fs[fs.length-(k+1)*d]=some (h:Int))=decide (fs[fs.length-(k+1)*d]=(h:Int)) from decide_eq_decide.mpr Option.some_inj];exact qG (x9 (xO (wD (zC rfl) (yb (zC rfl) (yb (zC rfl) (zC rfl) (Yx ⋯)) m1) (uK (pn Y))) (zC rfl) ne_int) yO)
    have key:(List.map Val.c (((Ah (z-1)).map λ(k:Nat)=>1+(k:Int)).filter λk=>!decide (fs[((fs.length:Int)-k*d).toNat]?=some (h:Int)))).isEmpty=tB fs z h j:=by
     rw[X,BU,Br,List.map_eq_nil_iff,Ed,A5,List.forall_mem_map];refine forall_congr' λk=>imp_congr_right λhk=>?_;have:((fs.length:Int)-(1+(k:Int))*(d:Int)).toNat=fs.length-(k+1)*d:=by rw[U];omega
     rw[this,Bu,Bool.not_eq_false]
    rw[DT]at S;have tc:=x9 (xO hc (vR (es:=.b) zG (AS _)) (eq_nil (xj _))) yO;rw[key]at tc;cases hq:tB fs z h j with
    |false=>
     rw[hq]at tc S;exact pD tc (vQ ⟨rfl,⟨_,rfl⟩,R,W,λj hj=>hb j (.tail _ hj),S⟩)
    |true=>
     rw[hq]at tc S;rw[Bool.true_or]at S;refine bt tc (xT zL ?_);rw[S];exact nX vt
 . rintro e s' ⟨rfl,⟨Z,rfl⟩,R,W,hb,S⟩
   have ht:R=[]:=by cases R with|nil=>rfl|cons _ _=>cases W
   subst ht;rw[S];exact xT zL (nX vt)
end
def ne_nil(h:vA vs=true):zQ .c (.g vs) (.g []) s=.e (.e !vs.isEmpty) s:=by
 have W:(Val.g vs).isD=true:=by rw[Val.isD];exact h
 have U:(Val.g []).isD=true:=by rw[Val.isD,vA]
 have S:(Val.g []).d=.list []:=by rw[Val.d,ds]
 have R:(Val.g vs).d=.list (ds vs):=by rw[Val.d]
 have N:BX (.list (ds vs)) (.list [])=vs.isEmpty:=by
  cases vs with
  |nil=>rw[ds];rfl
  |cons v vs=>rw[ds];rfl
 simp only[zQ,zx,yd,pj,W,U,S,R,N];rfl
section
variable {T:Tbl}{Φ:Calls}{s:Sto}
def nC(Φ:Calls):Prop:=∀(p:Nat) (zs:List Int) (m:Nat) (s:Sto),vN s p->Sz zs->m<=30->(Φ "_law_fitting" 0 [.j p,tpI zs,.c m] s).post λv s'=>∃ns,v=tpI ns/\Fit zs ns/\ns.length<=30/\yk s p s'
def mi(cD:jA Φ)(cE:Yn Φ){m:Nat}(hp:vN s p)(S:Sz zs)(hm:m<=30):(run T Φ F.yP [.j p,tpI zs,.c m] s).post λv s'=>∃ns,v=tpI ns/\Fit zs ns/\ns.length<=30/\yk s p s':=by
 have hpl:=hp.lt;have hz1:=S.1;have hz4:=S.2.1;rw[F.yP,wN];refine⟨rfl,?_⟩;show (zj Φ T.b [some (.j p),some (tpI zs),some (.c m),none,none,none,none,none] _ s).post _;refine ya (yh zG (AS _)) ?_;obtain⟨_,s1,hd,len,rfl,hlen,t1⟩:=cD p ((m:Int)+1) s hp ⋯ ⋯
 refine zu.mpr (xD (λrest e s'=>∃ns Z Y X W,e=[some (.j p),some (tpI zs),some (.c m),some (tpI ns),Z,Y,X,W]/\Fit zs ns/\ns.length+rest.length<=30/\yk s p s') (yj 0 len) (s1:=s1) (jz (x_call (zA (zC rfl) (zA (yb (zC rfl) zL lG) zG)) hd) (by unfold zR;omega)) ⟨[],_,_,_,_,rfl,jt zs,by unfold yj;simp;omega,t1⟩ ?_ ?_)
 . rintro x rest e s' ⟨ns,Z,Y,X,W,rfl,U,hl,t⟩
   rw[Ak]at hl;refine⟨_,rfl,?_⟩;obtain⟨_,s4,hd4,h0,rfl,hh0,t4⟩:=cD p zs.length s' (t.at_ hpl) ⋯ ⋯
   have tt:=t.trans t4;have R:zs.length<=zR:=by unfold zR;omega
   refine ya (x_call (zA (zC rfl) (zA (t9 rfl) zG)) hd4) (ya (S9 (n:=zs.length) (f:=λk=>((h0:Int)+k)%zs.length) (jz (t9 rfl) R) rfl (λk o hk=>yb (yb (zC rfl) (zC rfl) lG) (t9 rfl) (by simp only[binOp];rw[if_pos ⋯])) R) ?_)
   have N:∀x∈(Ah zs.length).map (λ(k:Nat)=>((h0:Int)+k)%zs.length),∃a:Nat,x=a/\a<zs.length:=λx hx=>by
    obtain⟨k,_,rfl⟩:=A2.mp hx;have h1:=F5 ((h0:Int)+k) (show (zs.length:Int)≠0 by omega)
    have h2:=E8 ((h0:Int)+k) (show (0:Int)<zs.length by omega)
    exact⟨(((h0:Int)+k)%zs.length).toNat,⋯,⋯⟩
   generalize (Ah zs.length).map (λ(k:Nat)=>((h0:Int)+k)%zs.length)=ks at *;refine ya (Xb (ks:=ks) (bad:=λx=>!vX ns (zi zs x.toNat) x) (yw (zC rfl) rfl) rfl λi hi=>?_) ?_
   . obtain⟨a,rfl,ha⟩:=N i hi
     exact qG (XW (x9 (x_call (zA (zC rfl) (zA (zC rfl) (zA (zC rfl) zG))) (cE zs ns a s4 S ha ⋯)) yO))
   . cases hg:ks.filter (λx=>!vX ns (zi zs x.toNat) x) with
     |nil=>exact pD (x9 (xO (zC rfl) (vR zG (AS _)) (ne_nil (xj _))) yO) (vQ ⟨ns,_,_,_,_,rfl,U,⋯,tt⟩)
     |cons g gs=>
      obtain⟨hg2,hg3⟩:=EL.mp (show g∈ks.filter (λx=>!vX ns (zi zs x.toNat) x) by rw[hg];exact .head _)
      obtain⟨a,rfl,ha⟩:=N g hg2;have he:vX ns (zi zs a) a=false:=by simpa using hg3
      refine bt (x9 (xO (zC rfl) (vR zG (AS _)) (ne_nil (xj _))) yO) (ya (yb (zC rfl) (yh (zA (wD (zC rfl) zL (lU (k:=0) rfl)) zG) (show 1<=zR by decide)) (jJ (by rw[Aa];show ns.length+1<=zR;unfold zR;omega))) (vQ (vQ ⟨ns++[(a:Int)],_,_,_,_,by rw[show tpI (ns++[(a:Int)])=Val.f (ns.map Val.c++[Val.c a]) from congrArg Val.f Dt];rfl,U.snoc S ha he,by rw[As,Bw];omega,tt⟩)))
 . rintro e s' ⟨ns,Z,Y,X,W,rfl,U,hl,t⟩
   refine xT (zC rfl) ?_;show (z0 false s (tpI ns) s').post _;rw[uL t (by rw[rj];exact yq _)]
   exact zB.mpr ⟨ns,rfl,U,by simpa using hl,t⟩
end
end M
end
section
namespace F12
open PySem M
noncomputable def yr:Fn:=⟨["_law_sizes","_law_strip","_law_hue","_law_here","_law_size","_law_step"],["_law_sizes","_law_strip","_law_hue"],false,(.e (.q [3,4] (.a (.k .a false (.a (.e 1) .b)) (.a (.r (.e 0) (.e 2)) .b))) (.e (.g (.a 5) (.g (.g (.c 1)) (.j false .a (.j false .d (.e 3) (.j false .e (.e 4) (.g (.c 1)))) (.g (.c 1)))) (.e (.j (.a (.p .d (.l false ["_law_k","_law_hue","_law_strip","_law_here","_law_step"] [none,some 2,some 1,some 3,some 5] (.e 0) (.a 0) (.g (.g (.c 1)) (.e 4)) (.b (.a (.p .c (.r (.e 2) (.j false .e (.e 3) (.j false .b (.e 0) (.e 4)))) (.e 1))) .a)) (.u false .b))) (.e (.f (.g (.e true))) .f) .f) .f)) (.e (.f (.g (.e false))) .f)))⟩
noncomputable def yP:Fn:=⟨["_law_pen_here","_law_sizes","_law_limit","_law_found","_law_place","_law_hue","_law_some","_law_good"],["_law_pen_here","_law_sizes","_law_limit"],false,(.e (.d 3 (.q .b)) (.e (.g (.a 4) (.d (.h "_law_draw" 0 (.a (.e 0) (.a (.j false .a (.e 2) (.g (.c 1))) .b)))) (.e (.d 5 (.h "_law_draw" 0 (.a (.e 0) (.a (.k .a false (.a (.e 1) .b)) .b)))) (.e (.d 6 (.l false ["_law_k","_law_hue","_law_sizes"] [none,some 5,some 1] (.j false .c (.j false .a (.e 1) (.e 0)) (.k .a false (.a (.e 2) .b))) (.a 0) (.d (.k .a false (.a (.e 1) .b))) .a)) (.e (.d 7 (.l false ["_law_one","_law_sizes","_law_found"] [none,some 1,some 3] (.e 0) (.a 0) (.f (.e 6)) (.b (.b (.a (.h "_law_ended" 0 (.a (.e 1) (.a (.e 2) (.a (.e 0) .b)))))) .a))) (.e (.j (.a (.p .c (.e 7) (.u false .b))) (.e (.d 3 (.j false .a (.e 3) (.q (.a (.r (.e 7) (.g (.c 0))) .b)))) .f) .f) .f))))) (.e (.f (.e 3)) .f)))⟩
end F12
end
section
namespace M
open PySem
abbrev tps(L:List (List Int)):List Val:=L.map tpI
noncomputable def unI:Val->List Int
 |.f vs=>vs.map λv=>match v with|.c i=>i|_=>0
 |_=>[]
def aJ ns:unI (tpI ns)=ns:=by show (ns.map Val.c).map _=ns;rw[Ce];exact List.map_id' ns
theorem vF:∀L:List (List Int),zq (tps L)=true
 |[]=>rfl
 |ns::L=>by show (Val.noRef (tpI ns)&&zq (tps L))=true;rw[vF L,Iu];exact yq ns
theorem nj:∀L:List (List Int),vA (tps L)=true
 |[]=>rfl
 |ns::L=>by show (Val.isD (tpI ns)&&vA (tps L))=true;rw[nj L,Iu];exact xj ns
def jH(h:a.length+b.length<=zR):binOp false .a (.g a) (.g b) s=.e (.g (a++b)) s:=by simp only[binOp,yM];rw[if_pos h];rfl
theorem uo:∀ns:List Int,intsOf (ns.map .c)=some ns
 |[]=>rfl
 |n::ns=>by show (intsOf (ns.map .c)).map _=_;rw[uo ns];rfl
theorem lA:∀L:List (List Int),yB (tps L)=some L
 |[]=>rfl
 |ns::L=>by
  show (match intsOf (ns.map .c),yB (tps L) with|some z,some zs=>some (z::zs)|_,_=>none)=_
  rw[uo,lA L]
structure Th(k w:Nat)(v:Val):Prop where
 nr:v.noRef=true
 kd:kindOf v≠none
 r:v.isR=true
 a:L2.uV k w v.d
 b:v.d.hasDict=false
 dr:∀s,yd s v=v
theorem Th.mono(h:Th k w v)(R:k<=k')(N:w<=w'):Th k' w' v:=⟨h.nr,h.kd,h.r,h.a.mono R N,h.b,h.dr⟩
def aE(R:-(10 ^ 30)<i)(N:i<10 ^ 30):Th 0 100 (.c i):=⟨oP,nofun,by rw[Val.isR],by rw[Val.d];exact L2.dv R N,by rw[Val.d];rfl,λ_=>rfl⟩
theorem ths:∀{vs},(∀v∈vs,Th k w v)->zq vs=true/\sO vs=true/\(ds vs).length=vs.length/\∀d∈ds vs,L2.uV k w d/\d.hasDict=false
 |[],_=>⟨iJ,by rw[sO],by rw[ds];rfl,λd h=>by rw[ds]at h;cases h⟩
 |v::vs,h=>by
  obtain⟨a,b,c,e⟩:=ths λx hx=>h x (.tail _ hx);have t:=h v (.head _);refine⟨by rw[mI,t.nr,a];rfl,by rw[sO,t.r,b];rfl,by rw[ds,Ak,Ak,c],λd hd=>?_⟩
  rw[ds]at hd;rcases Al.mp hd with rfl|hd
  . exact⟨t.a,t.b⟩
  . exact e d hd
def V6(h:∀v∈vs,Th k w v)(N:vs.length<=n):Th (k+1) (n*(w+1)) (.f vs):=by
 obtain⟨a,b,c,e⟩:=ths h;refine⟨by rw[rj];exact a,nofun,by rw[Val.isR];exact b,by rw[Val.d];exact L2.lX (λd hd=>(e d hd).1) (by rw[c];exact N),?_,λ_=>rfl⟩
 rw[Val.d,PyData.hasDict];exact L2.tm λd hd=>(e d hd).2
def V5(h:∀v∈vs,Th k w v)(N:vs.length<=n):Th (k+1) (n*(w+1)) (.g vs):=by
 obtain⟨a,b,c,e⟩:=ths h;refine⟨by rw[rh];exact a,nofun,by rw[Val.isR];exact b,by rw[Val.d];exact L2.gN (λd hd=>(e d hd).1) (by rw[c];exact N),?_,λ_=>rfl⟩
 rw[Val.d,PyData.hasDict];exact L2.tm λd hd=>(e d hd).2
def af:uG (xs.map f) lo hi=(uG xs lo hi).map f:=by unfold uG;rw[Aa,List.map_take,List.map_drop]
def kZ:tF m (tpI ns) lo hi none s=.e (tpI (uG ns lo hi)) s:=by show Out.e (Val.f (uG (ns.map .c) lo hi)) s=_;rw[af]
theorem jq:∀L:List (List Int),(tps L).flatMap (λv=>if f (unI v) then [v] else [])=tps (L.filter f)
 |[]=>rfl
 |x::L=>by
  show (if f (unI (tpI x)) then [tpI x] else [])++(tps L).flatMap _=_
  rw[jq L,aJ,List.filter_cons];cases f x<;>rfl
def VQ{f:List Int->Bool}(hi:zy Φ G env it s=.e ⟨tps L,none⟩ s)(h0:zK fr env=none::e0)(h:∀x∈L,yG Φ G (some (tpI x)::e0) ifs s=.e (f x) s)(S:(newList m (tps (L.filter f)) s).post P):(evE Φ G env (.l m N fr (.e 0) (.a 0) it ifs) s).post P:=by
 refine oU (λe=>∃o,e=o::e0) (λv=>if f (unI v) then [v] else []) (tps L) (s1:=s) hi ⟨none,h0⟩ ?_ (by rw[jq];exact S)
 rintro v R e ⟨o,rfl⟩;obtain⟨x,hx,rfl⟩:=A2.mp R;refine⟨_,rfl,⟨_,rfl⟩,?_⟩;show (yG Φ G (some (tpI x)::e0) ifs s).post _;rw[h x hx,aJ];refine zB.mpr ⟨rfl,?_⟩;cases f x with
 |true=>
  rw[if_pos rfl,if_pos rfl];exact iL.mpr ⟨_,rfl,rfl,rfl⟩
 |false=>rw[if_neg Ag,if_neg Ag]
def UP{f:List Int->Bool}(hi:zy Φ G env it s=.e ⟨tps L,none⟩ s)(h0:zK fr env=none::e0)(h:∀x∈L,yG Φ G (some (tpI x)::e0) ifs s=.e (f x) s):evE Φ G env (.l false N fr (.e 0) (.a 0) it ifs) s=.e (.g (tps (L.filter f))) s:=post_eq.mpr (VQ hi h0 h (zB.mpr ⟨rfl,rfl⟩))
end M
end
section
namespace F75
open PySem M
noncomputable def xI:Fn:=⟨["_law_pen_here","_law_bound","_law_found","_law_stir"],["_law_pen_here","_law_bound"],false,(.e (.j (.d (.a (.p .d (.r (.e 0) (.g (.c 1))) (.g (.c 1)))) (.b (.a (.p .k (.r (.e 0) (.g (.c 0))) (.g (.c 0)))) .a)) (.e (.d 2 (.j false .c (.r (.e 0) (.g (.c 0))) (.e 1))) (.e (.l (.e 0) (.g (.c 0)) (.j false .d (.r (.e 0) (.g (.c 0))) (.e 1))) (.e (.f (.e 2)) .f))) .f) (.e (.l (.e 0) (.g (.c 2)) (.j false .a (.r (.e 0) (.g (.c 2))) (.g (.c 1)))) (.e (.d 3 (.j false .c (.j false .b (.j false .a (.r (.e 0) (.g (.c 3))) (.g (.c 17))) (.j false .a (.g (.c 69621)) (.j false .b (.g (.c 2)) (.r (.e 0) (.g (.c 2)))))) (.g (.c 2147483647)))) (.e (.d 3 (.j false .c (.j false .a (.j false .a (.j false .b (.e 3) (.e 3)) (.j false .b (.g (.c 40503)) (.r (.e 0) (.g (.c 2))))) (.g (.c 5))) (.g (.c 2147483629)))) (.e (.f (.j false .c (.j false .d (.j false .c (.j false .b (.e 3) (.g (.c 48271))) (.g (.c 2147483647))) (.g (.c 32))) (.e 1))) .f)))))⟩
noncomputable def yf:Fn:=⟨["_law_cell"],["_law_cell"],true,(.e (.f (.u true (.a (.e 0) (.a (.k .o false (.a (.p .j (.e 0) (.j false .f (.g (.c 10)) (.g (.c 18)))) .b)) (.a (.g (.c 0)) (.a (.j false .c (.e 0) (.g (.c 1000000007))) .b)))))) .f)⟩
end F75
end
section
namespace M
open PySem
noncomputable def gr(zs:List Int)(os:List Nat):List Int:=(Ah zs.length).map λh=>zs.getD (os.idxOf h) 0
noncomputable def apO(os:List Nat)(i:Int):Int:=((os.getD i.toNat 0:Nat):Int)
def Zt zs os:(gr zs os).length=zs.length:=by unfold gr;rw[Aa,AZ]
def Zg{os:List Nat}(h:os.Nodup):os.map (λx=>os.idxOf x)=Ah os.length:=by
 apply EA
 . simp
 . intro i R N
   rw[List.getElem_map,h.idxOf_getElem,List.getElem_range]
def range_getD(zs:List Int):(Ah zs.length).map (λh=>zs.getD h 0)=zs:=by
 apply EA
 . simp
 . intro i R N
   rw[List.getElem_map,List.getElem_range,Ad,pn N];rfl
structure Od(k:Nat)(os:List Nat):Prop where
 nd:os.Nodup
 b:os.length=k
 lt:∀x∈os,x<k
 ix:∀h,h<k->os.idxOf h<k/\os[os.idxOf h]?=some h
 c:∀(a h:Nat),os[a]?=some h->os.idxOf h=a
def mJ{os}(p:os.Perm (Ah k)):Od k os:=by
 have nd:os.Nodup:=p.nodup_iff.mpr Cp;have S:os.length=k:=by rw[p.length_eq,AZ]
 refine⟨nd,S,λx hx=>Ar.mp (p.mem_iff.mp hx),λh U=>?_,λa h e=>?_⟩
 . have R:h∈os:=p.mem_iff.mpr (Ar.mpr U)
   have N:=List.idxOf_lt_length_iff.mpr R;exact⟨⋯,by rw[pn N,D4]⟩
 . obtain⟨N,rfl⟩:=Ai.mp e
   exact nd.idxOf_getElem a N
def Fit.X8{os}(U:Fit zs ns)(p:os.Perm (Ah zs.length)):Fit (gr zs os) (ns.map (apO os)):=by
 have O:=mJ p;have W:=Zt zs os;have N:∀i∈ns,∃a:Nat,i=(a:Int)/\a<zs.length/\∃h,os[a]?=some h/\h<zs.length/\apO os i=(h:Int):=λi hi=>by
  have:=U.b i hi;obtain⟨a,rfl⟩:∃a:Nat,i=a:=⟨i.toNat,⋯⟩
  have R:a<os.length:=by rw[O.b];omega
  refine⟨a,rfl,⋯,os[a],pn R,O.lt _ (B0 R),?_⟩
  unfold apO;rw[Bv,Ad,pn R];rfl
 refine⟨λx hx=>?_,λh f d S h2 Z Y=>?_⟩
 . obtain⟨i,hi,rfl⟩:=A2.mp hx
   obtain⟨a,rfl,R,h,_,hh,e⟩:=N i hi;rw[e,W];omega
 . rw[W]at S
   obtain⟨x1,x2⟩:=O.ix h S;have hs:zi (gr zs os) h=zi zs (os.idxOf h):=by unfold zi gr;rw[Ad,Aq,Cy S];rfl
   rw[hs,Aa]at Z;rw[hs]at Y;refine U.c (os.idxOf h) f d x1 h2 Z (yQ.mpr λk hk=>?_);have:=yQ.mp Y k hk;rw[Aq]at this;obtain⟨i,X,h6⟩:=AK.mp this;obtain⟨a,rfl,R,h',e1,_,e2⟩:=N i (AA X);rw[e2]at h6;obtain rfl:h'=h:=by omega
   rw[X,O.c a h' e1]
def Fit.R5(X:Sz zs)(S:Fit zs ns)(hd:0<d0)(N:∀i:Nat,ts[i]?=ns[f0+i*d0]?):Fit zs ts:=by
 refine⟨λx hx=>?_,λh f d W Y Z U=>?_⟩
 . obtain⟨i,hi⟩:=CW hx
   rw[N]at hi;exact S.b x (AA hi)
 . obtain⟨_,z2,_⟩:=xK X W
   have ix:∀k,f0+(f+k*d)*d0=f0+f*d0+k*(d*d0):=λk=>by rw[HQ,Nat.mul_assoc];omega
   have R:=yQ.mp U (zi zs h-1) ⋯
   rw[N,ix]at R;refine S.c h (f0+f*d0) (d*d0) W (Nat.mul_pos Y hd) ?_ (yQ.mpr λk hk=>?_)
   . have:=(Ai.mp R).1
     rw[BV (d*d0)];exact this
   . have:=yQ.mp U k hk
     rw[N,ix]at this;exact this
end M
end
section
namespace F46
open PySem M
noncomputable def yP:Fn:=⟨["_law_pen_here","_law_sizes_here","_law_limit","_law_found","_law_place","_law_hue","_law_some","_law_good"],["_law_pen_here","_law_sizes_here","_law_limit"],false,(.e (.d 3 (.q .b)) (.e (.g (.a 4) (.d (.h "_law_draw" 0 (.a (.e 0) (.a (.j false .a (.e 2) (.g (.c 1))) .b)))) (.e (.d 5 (.h "_law_draw" 0 (.a (.e 0) (.a (.k .a false (.a (.e 1) .b)) .b)))) (.e (.d 6 (.l false ["_law_k","_law_hue","_law_sizes_here"] [none,some 5,some 1] (.j false .c (.j false .a (.e 1) (.e 0)) (.k .a false (.a (.e 2) .b))) (.a 0) (.d (.k .a false (.a (.e 1) .b))) .a)) (.e (.d 7 (.l false ["_law_one_here","_law_sizes_here","_law_found"] [none,some 1,some 3] (.e 0) (.a 0) (.f (.e 6)) (.b (.b (.a (.h "_law_ended" 0 (.a (.e 1) (.a (.e 2) (.a (.e 0) .b)))))) .a))) (.e (.j (.a (.p .c (.e 7) (.u false .b))) (.e (.d 3 (.j false .a (.e 3) (.q (.a (.r (.e 7) (.g (.c 0))) .b)))) .f) .f) .f))))) (.e (.f (.e 3)) .f)))⟩
noncomputable def xW:Fn:=⟨["sizes","strip"],["sizes","strip"],false,(.e (.m (.h "need_fit" 0 (.a (.e 0) (.a (.e 1) .b)))) (.e (.f (.k .a false (.a (.h "alike_to" 0 (.a (.e 0) (.a (.e 1) .b))) .b))) .f))⟩
noncomputable def wF:Fn:=⟨["sizes","one","other"],["sizes","one","other"],false,(.e (.m (.h "need_fit" 0 (.a (.e 0) (.a (.e 1) .b)))) (.e (.m (.h "need_fit" 0 (.a (.e 0) (.a (.e 2) .b)))) (.e (.f (.p .h (.e 2) (.h "alike_to" 0 (.a (.e 0) (.a (.e 1) .b))))) .f)))⟩
noncomputable def vn:Fn:=⟨["sizes","strip"],["sizes","strip"],false,(.e (.m (.h "need_fit" 0 (.a (.e 0) (.a (.e 1) .b)))) (.e (.f (.r (.h "alike_to" 0 (.a (.e 0) (.a (.e 1) .b))) (.g (.c 0)))) .f))⟩
end F46
end
section
namespace M
open PySem
noncomputable def gZ(zs:List Int)(h:Nat):Int:=zs.getD h 0
def exM(zs:List Int)(z:Int)(w:List Nat):List Nat:=(Ah zs.length).filter λh=>decide (gZ zs h=z)&&!decide (h∈w)
def exG(zs:List Int)(z:Int)(L:List (List Nat)):List (List Nat):=L.flatMap λw=>(exM zs z w).map λh=>w++[h]
def exF(zs:List Int):List Int->List (List Nat)->List (List Nat)
 |[],L=>L
 |z::r,L=>exF zs r (exG zs z L)
def exL(zs:List Int):List (List Nat):=exF zs zs [[]]
structure Ons(zs:List Int)(w:List Nat)(r:List Int)(t:List Nat):Prop where
 a:∀x∈t,x<zs.length/\x ∉ w
 b:t.map (gZ zs)=r
 c:t.Nodup
def uu:h∈exM zs z w↔h<zs.length/\gZ zs h=z/\h ∉ w:=by unfold exM;rw[EL,Ar,ub,decide_eq_true_eq,Bu,decide_eq_false_iff_not]
theorem iD:∀{r} {L} {w},w∈exF zs r L↔∃R∈L,∃t,w=R++t/\Ons zs R r t
 |[],L,w=>by
  unfold exF;constructor
  . exact λh=>⟨w,h,[],(A1 _).symm,⟨nofun,rfl,.nil⟩⟩
  . rintro ⟨R,h,t,rfl,o⟩
    have:=List.map_eq_nil_iff.mp o.b;subst this
    rwa [A1]
 |z::r,L,w=>by
  unfold exF;rw[iD];constructor
  . rintro ⟨Z,S,t,rfl,o⟩
    obtain⟨R,h0,S⟩:=CG.mp S;obtain⟨h,Y,rfl⟩:=A2.mp S;obtain⟨X,W,U⟩:=uu.mp Y;refine⟨R,h0,h::t,by rw[An];rfl,⟨λx hx=>?_,by rw[AF,W,o.b],Bc.mpr ⟨λN=>(o.a h N).2 (AX _ (.head _)),o.c⟩⟩⟩
    rcases Al.mp hx with rfl|hx
    . exact⟨X,U⟩
    . exact⟨(o.a x hx).1,λN=>(o.a x hx).2 (Bg _ N)⟩
  . rintro ⟨R,h0,t,rfl,o⟩
    match t,o with
    |[],o=>cases o.b
    |h::t,o=>
     have e:=o.b;rw[AF,D9]at e;have nd:=Bc.mp o.c;refine⟨R++[h],CG.mpr ⟨R,h0,A2.mpr ⟨h,uu.mpr ⟨(o.a h (.head _)).1,e.1,(o.a h (.head _)).2⟩,rfl⟩⟩,t,by rw[An];rfl,⟨λx hx=>⟨(o.a x (.tail _ hx)).1,λN=>?_⟩,e.2,nd.2⟩⟩
     rcases AO.mp N with N|N
     . exact(o.a x (.tail _ hx)).2 N
     . rw[Av.mp N]at hx;exact nd.1 hx
def iE:w∈exL zs↔(∀x∈w,x<zs.length)/\w.map (gZ zs)=zs/\w.Nodup:=by
 unfold exL;rw[iD];constructor
 . rintro ⟨U,h0,t,rfl,o⟩
   rw[Av.mp h0];exact⟨λx hx=>(o.a x hx).1,o.b,o.c⟩
 . rintro ⟨S,R,N⟩
   exact⟨[],.head _,w,rfl,⟨λx hx=>⟨S x hx,nofun⟩,R,N⟩⟩
def kL{w:List Nat}(R:∀x∈w,x<n)(U:w.length=n)(N:w.Nodup):w.Perm (Ah n):=by
 refine(Dz N Cp).mpr λa=>⟨λh=>Ar.mpr (R a h),λh=>?_⟩;refine ET λS=>?_;have nd:(a::w).Nodup:=Bc.mpr ⟨S,N⟩;have:=nd.length_le_of_subset (l₂:=Ah n) λx hx=>by
  rcases Al.mp hx with rfl|hx
  . exact h
  . exact Ar.mpr (R x hx)
 rw[Ak,AZ]at this;omega
structure Exc(zs:List Int)(w:List Nat):Prop where
 c:w.Perm (Ah zs.length)
 d:w.map (gZ zs)=zs
def lR(h:w∈exL zs):Exc zs w:=by obtain⟨S,N,R⟩:=iE.mp h;exact⟨kL S (by have:=congrArg Gm N;rwa [Aa]at this) R,N⟩
def Exc.mem(h:Exc zs w):w∈exL zs:=
 iE.mpr ⟨λx hx=>Ar.mp (h.c.mem_iff.mp hx),h.d,h.c.nodup_iff.mpr Cp⟩
def mZ zs:(Ah zs.length).map (gZ zs)=zs:=range_getD zs
def X7 zs:Exc zs (Ah zs.length):=⟨.refl _,mZ zs⟩
noncomputable def bkO(w:List Nat):List Nat:=(Ah w.length).map λh=>w.idxOf h
def Exc.back(h:Exc zs w):Exc zs (bkO w)/\∀i<zs.length,(bkO w)[i]?=some (w.idxOf i):=by
 have O:=mJ h.c;have nd:=O.nd;have hp:(bkO w).Perm (Ah zs.length):=by have:=h.c.symm.map λx=>w.idxOf x;rw[Zg nd,O.b]at this;unfold bkO;rw[O.b];exact this
 refine⟨⟨hp,?_⟩,λi hi=>?_⟩
 . unfold bkO
   rw[O.b,Ce];refine Gd (C6 λi hi=>?_) (mZ zs);have hi:=Ar.mp hi;obtain⟨a,b⟩:=O.ix i hi;have e:(w.map (gZ zs))[w.idxOf i]?=zs[w.idxOf i]?:=by rw[h.d]
   rw[Aq,b]at e;show gZ zs (w.idxOf i)=gZ zs i;unfold gZ at *;rw[Ad,<-e];rfl
 . unfold bkO
   rw[Aq,O.b,Cy hi];rfl
def jP{a h:Nat}(e:w[a]?=some h):apO w (a:Int)=h:=by unfold apO;rw[Bv,Ad,e];rfl
def Exc.ap(h:Exc zs w){i:Int}(h0:0<=i)(R:i<zs.length):∃a b:Nat,i=a/\w[a]?=some b/\b<zs.length/\apO w i=b:=by
 have O:=mJ h.c;obtain⟨a,rfl⟩:∃a:Nat,i=a:=⟨i.toNat,⋯⟩
 have N:a<w.length:=by rw[O.b];omega
 exact⟨a,w[a],rfl,pn N,O.lt _ (B0 N),jP (pn N)⟩
def Exc.there(h:Exc zs w){x:List Int}(hx:∀i∈x,0<=i/\i<zs.length):(x.map (apO w)).map (apO (bkO w))=x:=by rw[Ce];refine Gd (C6 λi hi=>?_) (List.map_id _);obtain⟨a,b,rfl,e,N,R⟩:=h.ap (hx i hi).1 (hx i hi).2;show apO (bkO w) (apO w a)=a;rw[R,jP (h.back.2 b N),(mJ h.c).c a b e]
def Exc.oth(h:Exc zs w):gr zs w=zs:=by have:=h.back.1.d;unfold bkO at this;rw[(mJ h.c).b,Ce]at this;exact this
def Exc.fit(h:Exc zs w)(N:Fit zs x):Fit zs (x.map (apO w)):=by
 have:=N.X8 h.c
 rwa [h.oth]at this
def alV(zs x:List Int):List (List Int):=(exL zs).flatMap λw=>[x.map (apO w),x.reverse.map (apO w)]
def alS(zs x:List Int):List (List Int):=L2.z6 (nub (alV zs x))
def iC:y∈alV zs x↔∃w,Exc zs w/\(y=x.map (apO w)\/y=x.reverse.map (apO w)):=by
 unfold alV;rw[CG];constructor
 . rintro ⟨w,hw,h⟩
   simp only[Al,Bt,or_false]at h;exact⟨w,lR hw,h⟩
 . rintro ⟨w,hw,h⟩
   exact⟨w,hw.mem,by simpa using h⟩
def sV:y∈alS zs x↔∃w,Exc zs w/\(y=x.map (apO w)\/y=x.reverse.map (apO w)):=by unfold alS;rw[(L2.z8 _).mem_iff,yy,iC]
def Xm(R:Sz zs)(N:Fit zs x)(h:y∈alS zs x):Fit zs y/\y.length=x.length:=by
 obtain⟨w,hw,rfl|rfl⟩:=sV.mp h
 . exact⟨hw.fit N,Aa _⟩
 . exact⟨hw.fit (N.rev R),by rw[Aa,DS]⟩
def jN(hx:∀i∈x,0<=i/\i<(zs.length:Int))(h:y∈alS zs x):x∈alS zs y:=by
 obtain⟨w,hw,e⟩:=sV.mp h;refine sV.mpr ⟨bkO w,hw.back.1,?_⟩;rcases e with rfl|rfl
 . exact .inl (hw.there hx).symm
 . right
   rw[<-List.map_reverse,List.reverse_reverse];exact(hw.there hx).symm
def aV(hx:∀i∈x,0<=i/\i<(zs.length:Int)):x∈alS zs x:=by
 refine sV.mpr ⟨_,X7 zs,.inl (Eq.symm ?_)⟩;refine Gd (C6 λi hi=>?_) (List.map_id _);obtain⟨a,rfl⟩:∃a:Nat,i=a:=⟨i.toNat,by have:=hx i hi;omega⟩
 exact jP (Cy (by have:=hx _ hi;omega))
noncomputable def ax:Nat->Nat
 |0=>1
 |n+1=>(n+1)*ax n
theorem jm:∀{r} {L},(∀w∈L,w.Nodup/\(∀x∈w,x<zs.length)/\w.length+r.length=zs.length)->(exF zs r L).length<=L.length*ax r.length
 |[],L,_=>by unfold exF;rw[B8,ax,Nat.mul_one];exact Ab _
 |z::r,L,h=>by
  unfold exF;have R:∀w∈exG zs z L,w.Nodup/\(∀x∈w,x<zs.length)/\w.length+r.length=zs.length:=λw hw=>by
   obtain⟨S,h0,hw⟩:=CG.mp hw;obtain⟨k,hk,rfl⟩:=A2.mp hw;obtain⟨a,b,c⟩:=uu.mp hk;obtain⟨d,e,f⟩:=h S h0;refine⟨Eh.mpr ⟨d,Bc.mpr ⟨nofun,.nil⟩,λx hx y N e=>c ?_⟩,λx hx=>?_,by rw[As,Bw];rw[Ak]at f;omega⟩
   . rw[Av.mp N]at e;rwa [<-e]
   . rcases AO.mp hx with hx|hx
     . exact e x hx
     . rw[Av.mp hx];exact a
  refine Ao (jm R) ?_;have W:(exG zs z L).length<=L.length*(r.length+1):=by
   clear R;unfold exG;induction L with
   |nil=>exact AS _
   |cons w L U=>
    rw[DB,As,Aa,Ak,Nat.succ_mul,Nat.add_comm];refine Nat.add_le_add (U λw hw=>h w (.tail _ hw)) ?_;obtain⟨d,e,f⟩:=h w (.head _);have nd:(exM zs z w++w).Nodup:=Eh.mpr ⟨Cp.filter _,d,λx hx y N e=>(uu.mp hx).2.2 (e▸N)⟩;have:=nd.length_le_of_subset (l₂:=Ah zs.length) λx hx=>by
     rcases AO.mp hx with hx|hx
     . exact Ar.mpr (uu.mp hx).1
     . exact Ar.mpr (e x hx)
    rw[As,AZ]at this;rw[Ak]at f;omega
  rw[Ak,ax,<-Nat.mul_assoc];exact CT _ W
def jo(N:zs.length<=4):(exL zs).length<=24:=by
 refine Ao (jm (L:=[[]]) λw hw=>?_) ?_
 . rw[Av.mp hw];exact⟨.nil,nofun,Cd _⟩
 . rw[Bw,Nat.one_mul]
   have:zs.length=0\/zs.length=1\/zs.length=2\/zs.length=3\/zs.length=4:=by omega
   rcases this with e|e|e|e|e<;>rw[e]<;>decide
def jM(R:zs.length<=4):(alV zs x).length<=48:=by
 have h:=jo R;have e:∀L:List (List Nat),(L.flatMap λw=>[x.map (apO w),x.reverse.map (apO w)]).length=L.length*2:=λL=>by
  induction L with
  |nil=>rfl
  |cons w L N=>rw[DB,As,N];show 2+_=(L.length+1)*2;omega
 unfold alV;rw[e];omega
theorem oQ:∀l:List (List Int),(nub l).length<=l.length
 |[]=>Ab _
 |z::l=>by
  have:=oQ l;unfold nub;split
  . rw[Ak];omega
  . rw[Ak,Ak];omega
def aU(N:zs.length<=4):(alS zs x).length<=48:=by unfold alS;rw[(L2.z8 _).length_eq];exact Ao (oQ _) (jM N)
def lwA(x:List Int):List (List Nat)->List (List Int)->List (List Int)
 |[],F=>F
 |w::r,F=>lwA x r (F++[x.map (apO w),(x.map (apO w)).reverse].filter λy=>!decide (y∈F))
theorem oJ:∀{r} {F},y∈lwA x r F↔y∈F\/∃w∈r,y=x.map (apO w)\/y=x.reverse.map (apO w)
 |[],F=>by unfold lwA;simp
 |w::r,F=>by
  unfold lwA;rw[oJ,AO,EL,<-List.map_reverse];simp only[Al,Bt,or_false,Bu,decide_eq_false_iff_not];constructor
  . rintro ((h|⟨h,_⟩)|⟨v,N,h⟩)
    . exact .inl h
    . exact .inr ⟨w,.inl rfl,h⟩
    . exact .inr ⟨v,.inr N,h⟩
  . rintro (h|⟨v,rfl|N,h⟩)
    . exact .inl (.inl h)
    . by_cases hF:y∈F
      . exact .inl (.inl hF)
      . exact .inl (.inr ⟨h,hF⟩)
    . exact .inr ⟨v,N,h⟩
theorem j9:∀{r} {F},(lwA x r F).length<=F.length+2*r.length
 |[],F=>Ab _
 |w::r,F=>by unfold lwA;refine Ao j9 ?_;have:=List.length_filter_le (λy=>!decide (y∈F)) [x.map (apO w),(x.map (apO w)).reverse];rw[As,Ak];have e:[x.map (apO w),(x.map (apO w)).reverse].length=2:=rfl;omega
def W6 zs x:L2.z6 (nub (lwA x (exL zs) []))=alS zs x:=by refine pG (vG _) ((Dz (vG _) (vG _)).mpr λy=>?_);rw[yy,yy,oJ];unfold alV;rw[CG];simp
end M
end
section
namespace F44
open PySem M
noncomputable def xU:Fn:=⟨["_law_sizes_here","_law_strip","_law_found","_law_order","_law_other"],["_law_sizes_here","_law_strip"],false,(.e (.d 2 (.u false .b)) (.e (.g (.a 3) (.f (.h "_law_orders" 0 (.a (.e 0) .b))) (.e (.d 4 (.k .c false (.a (.l false ["_law_hue","_law_order"] [none,some 3] (.r (.e 1) (.e 0)) (.a 0) (.f (.e 1)) .a) .b))) (.e (.d 2 (.j false .a (.e 2) (.l false ["_law_one","_law_found"] [none,some 2] (.e 0) (.a 0) (.f (.q (.a (.e 4) (.a (.F false (.e 4) .b .b (.a (.B (.g (.c 1))))) .b)))) (.b (.a (.p .a (.e 0) (.e 1))) .a)))) .f))) (.e (.f (.D false (.e 2))) .f)))⟩
noncomputable def xF:Fn:=⟨["_law_sizes_here","_law_found","_law_hue","_law_later","_law_some","_law_more"],["_law_sizes_here"],false,(.e (.d 1 (.u false (.a (.q .b) .b))) (.e (.g (.a 2) (.d (.k .a false (.a (.e 0) .b))) (.e (.d 3 (.u false .b)) (.e (.g (.a 4) (.f (.e 1)) (.e (.d 5 (.l false ["_law_one","_law_some","_law_sizes_here","_law_hue"] [none,some 4,some 0,some 2] (.e 0) (.a 0) (.d (.k .a false (.a (.e 0) .b))) (.b (.d (.a (.p .a (.e 0) (.e 1))) (.b (.a (.p .d (.r (.e 2) (.e 0)) (.r (.e 2) (.e 3)))) .a)) .a))) (.e (.d 3 (.j false .a (.e 3) (.l false ["_law_one","_law_some"] [none,some 4] (.j false .a (.e 1) (.q (.a (.e 0) .b))) (.a 0) (.f (.e 5)) .a))) .f))) (.e (.d 1 (.e 3)) .f)))) (.e (.f (.e 1)) .f)))⟩
noncomputable def wz:Fn:=⟨["sizes","strip","ways"],["sizes","strip"],false,(.e (.d 2 (.h "exchanges" 0 (.a (.e 0) .b))) (.e (.f (.A false ["way","hues","strip"] [none,none,some 1] (.k .c false (.a (.l false ["hue","way"] [none,some 0] (.r (.e 1) (.e 0)) (.a 0) (.f (.e 1)) .a) .b)) (.a 0) (.f (.e 2)) .a (.a 1) (.f (.q (.a (.e 2) (.a (.F false (.e 2) .b .b (.a (.B (.g (.c 1))))) .b)))) .a)) .f))⟩
noncomputable def wH:Fn:=⟨["sizes","hues","ways","size"],["sizes"],false,(.e (.d 1 (.s false (.g (.c 0)) (.k .a false (.a (.e 0) .b)) (.g (.c 1)))) (.e (.d 2 (.u false (.a (.q .b) .b))) (.e (.g (.a 3) (.f (.e 0)) (.e (.d 2 (.z false ["way","hue","hues","size","sizes"] [none,none,some 1,some 3,some 0] (.j false .a (.e 0) (.q (.a (.e 1) .b))) (.a 0) (.f (.e 2)) .a (.a 1) (.f (.e 2)) (.b (.d (.a (.p .d (.r (.e 4) (.e 1)) (.e 3))) (.b (.a (.p .a (.e 1) (.e 0))) .a)) .a))) .f)) (.e (.f (.e 2)) .f))))⟩
end F44
end
section
namespace M
open PySem
theorem cB{W:Type}{f}{g}{I:Env->Prop}(S:r.ok s=true):∀(xs:List W),(∀x∈xs,∀e acc,I e->∃U N,yC t (f x) e=some U/\body U s acc=.e (acc++g x,N) s/\I N)->∀e acc,I e->∃R,I R/\zo r t body (xs.map f) e s acc=.e (acc++xs.flatMap g,R) s
 |[],_,e,acc,h0=>⟨e,h0,by simp[zo,S]⟩
 |x::xs,h,e,acc,h0=>by obtain⟨U,N,h1,h2,h3⟩:=h x (.head _) e acc h0;obtain⟨R,Z,Y⟩:=cB S xs (λy X=>h y (.tail _ X)) N (acc++g x) h3;refine⟨R,Z,?_⟩;rw[AF,zo,S,if_pos rfl,h1];simp only[h2,zN,Y,DB,An]
def d8{S:Type}{xs:List S}{f:S->Val}{g:S->List Val}{I:Env->Prop}
 (h:∀a∈xs,∀e,I e->∃N,yC t (f a) e=some N/\I N/\∃c,yG Φ G N ifs s=.e c s/\if c=true then ∃v,evE Φ G N elt s=.e v s/\g a=[v] else g a=[])   (h0:I e) :
 ∃U,I U/\zo ⟨xs.map f,none⟩ t (λe s' acc=>(yG Φ G e ifs s').bind λb s2=>if b then (evE Φ G e elt s2).bind λv W=>.e (acc++[v],e) W else .e (acc,e) s2) (xs.map f) e s acc=.e (acc++xs.flatMap g,U) s:=
 cB rfl xs (λa ha e acc he=>by
  obtain⟨N,k1,k2,c,Z,R⟩:=h a ha e he;refine⟨N,N,k1,?_,k2⟩;show (yG Φ G N ifs s).bind _=_;rw[Z,zN];cases c with
  |true=>
   rw[if_pos rfl]at R ⊢;obtain⟨v,X,Y⟩:=R;rw[X,zN,Y]
  |false=>
   rw[if_neg Ag]at R ⊢;rw[R,A1]) e acc h0
def d9{U Y:Type}{xs:List U}{f:U->Val}{ys:U->List Y}{f2:U->Y->Val}{g:U->Y->List Val}{I:Env->Prop}{J:U->Env->Prop}
 (h:∀a∈xs,∀e,I e->∃S,yC t (f a) e=some S/\zy Φ G S it2 s=.e ⟨(ys a).map (f2 a),none⟩ s/\J a S) (hJ:∀a e,J a e->I e)
 (h2:∀a∈xs,∀b∈ys a,∀e,J a e->∃S,yC t2 (f2 a b) e=some S/\J a S/\∃c,yG Φ G S ifs2 s=.e c s/\if c=true then ∃v,evE Φ G S elt s=.e v s/\g a b=[v] else g a b=[])  (h0:I e) :
 ∃R,zo ⟨xs.map f,none⟩ t (λe s' acc=>(yG Φ G e .a s').bind λb s2=>if b then (zy Φ G e it2 s2).bind λX s3=>
     zo X t2 (λR s4 N=>(yG Φ G R ifs2 s4).bind λb' W=>if b' then (evE Φ G R elt W).bind λv Z=>.e (N++[v],R) Z else .e (N,R) W) X.a e s3 acc
  else .e (acc,e) s2) (xs.map f) e s []=.e (xs.flatMap λa=>(ys a).flatMap (g a),R) s:=by
 obtain⟨R,_,k⟩:=cB (s:=s) (r:=⟨xs.map f,none⟩) (t:=t) (I:=I) (g:=λa=>(ys a).flatMap (g a)) (f:=f) (body:=λe s' acc=>(yG Φ G e .a s').bind λb s2=>if b then (zy Φ G e it2 s2).bind λX s3=>
        zo X t2 (λR s4 N=>(yG Φ G R ifs2 s4).bind λb' W=>if b' then (evE Φ G R elt W).bind λv Z=>.e (N++[v],R) Z else .e (N,R) W) X.a e s3 acc
  else .e (acc,e) s2) rfl xs (λa ha e acc he=>by
  obtain⟨S,k1,k2,k3⟩:=h a ha e he;obtain⟨e2,k4,k5⟩:=d8 (t:=t2) (I:=J a) (h2 a ha) (acc:=acc) k3;refine⟨S,e2,k1,?_,hJ _ _ k4⟩;show (zy Φ G S it2 s).bind _=_;rw[k2,zN];exact k5) e [] h0
 exact⟨R,k⟩
def nB{S:Type}{xs:List S}{f}{g}(I:Env->Prop)(hi:zy Φ G env it s=.e ⟨xs.map f,none⟩ s1)(h0:I (zK fr env))
 (h:∀a∈xs,∀e,I e->∃R,yC t (f a) e=some R/\I R/\∃c,yG Φ G R ifs s1=.e c s1/\if c=true then ∃v,evE Φ G R elt s1=.e v s1/\g a=[v] else g a=[]) :
 evE Φ G env (.l false N fr elt t it ifs) s=.e (.g (xs.flatMap g)) s1:=by
 obtain⟨U,_,k⟩:=d8 h (acc:=[]) h0;show (zy Φ G env it s).bind _=_;rw[hi,zN];exact bnd k rfl
def aO{S U:Type}{xs:List S}{f}{ys:S->List U}{f2:S->U->Val}{g:S->U->List Val}(I:Env->Prop)(J:S->Env->Prop)(hi:zy Φ G env it s=.e ⟨xs.map f,none⟩ s1)(h0:I (zK fr env))
 (h:∀a∈xs,∀e,I e->∃R,yC t (f a) e=some R/\zy Φ G R it2 s1=.e ⟨(ys a).map (f2 a),none⟩ s1/\J a R) (X:∀a e,J a e->I e)
 (Y:∀a∈xs,∀b∈ys a,∀e,J a e->∃R,yC t2 (f2 a b) e=some R/\J a R/\∃c,yG Φ G R ifs2 s1=.e c s1/\if c=true then ∃v,evE Φ G R elt s1=.e v s1/\g a b=[v] else g a b=[]) (W:(xs.flatMap λa=>(ys a).flatMap (g a)).length<=zR) :
 evE Φ G env (.z false N fr elt t it .a t2 it2 ifs2) s=.e (.g (xs.flatMap λa=>(ys a).flatMap (g a))) s1:=by
 obtain⟨Z,k⟩:=d9 h X Y h0;show (zy Φ G env it s).bind _=_;rw[hi,zN];exact bnd k (if_pos W)
def aP{S U:Type}{xs:List S}{f}{ys:S->List U}{f2:S->U->Val}{g:S->U->List Val}(I:Env->Prop)(J:S->Env->Prop)(hi:zy Φ G env it s=.e ⟨xs.map f,none⟩ s1)(h0:I (zK fr env))
 (h:∀a∈xs,∀e,I e->∃R,yC t (f a) e=some R/\zy Φ G R it2 s1=.e ⟨(ys a).map (f2 a),none⟩ s1/\J a R) (X:∀a e,J a e->I e)
 (Y:∀a∈xs,∀b∈ys a,∀e,J a e->∃R,yC t2 (f2 a b) e=some R/\J a R/\∃c,yG Φ G R ifs2 s1=.e c s1/\if c=true then ∃v,evE Φ G R elt s1=.e v s1/\g a b=[v] else g a b=[]) (W:wQ m (xs.flatMap λa=>(ys a).flatMap (g a)) s1=o) :
 evE Φ G env (.A m N fr elt t it .a t2 it2 ifs2) s=o:=by
 obtain⟨Z,k⟩:=d9 h X Y h0;show (zy Φ G env it s).bind _=_;rw[hi,zN];exact bnd k W
def UQ(h:evE Φ G env a s=.e (.g vs) s1)(N:wQ m vs s1=o):evE Φ G env (.D m a) s=o:=bnd h N
def pF(U:L.length<306)(S:(nub L).length<2\/∀z∈L,z≠[]):wQ m (tps L) s=newList m (tps (L2.z6 (nub L))) s:=by
 have R:(nub L).length<306:=Dq (oQ L) U;have e:setOk (tps L)=some (nub L):=by unfold setOk;rw[lA];exact if_pos R
 unfold wQ;rw[e];refine(if_pos (S.imp id λh z N=>h z (yy.mp N))).trans ?_;congr 1
theorem Y2:∀a b:List Int,Fx (a.map G4) (b.map G4)=decide (a=b)
 |[],[]=>by simp[Fx]
 |[],_::_=>by simp[Fx]
 |_::_,[]=>by simp[Fx]
 |x::a,y::b=>by rw[AF,AF,Fx,Y2 a b,pv,BU,ub,decide_eq_true_eq,decide_eq_true_eq,decide_eq_true_eq,D9]
def eE ns:(tpI ns).d=.tuple (ns.map G4):=by rw[Val.d,jZ]
def aW:(tps L).any (λz=>BX z.d (tpI x).d)=decide (x∈L):=by
 have e:∀a b:List Int,BX (tpI a).d (tpI b).d=decide (a=b):=λa b=>by rw[eE,eE,BX];exact Y2 a b
 unfold tps;rw[BU,List.any_map,CC,decide_eq_true_eq];constructor
 . rintro ⟨y,N,h⟩
   have h:BX (tpI y).d (tpI x).d=true:=h;rw[e,decide_eq_true_eq]at h
   rwa [<-h]
 . intro h
   exact⟨x,h,by show BX (tpI x).d (tpI x).d=true;rw[e,decide_eq_true rfl]⟩
theorem eH:∀ns:List Int,FV (ns.map G4)=0
 |[]=>rfl
 |n::ns=>by rw[AF,FV,eH ns,Ht];rfl
def ZG:inD (tpI x) (tps L)=true:=by
 have h:(tpI x).d.depth<=60:=by rw[eE,Ht,eH];decide
 unfold inD;rw[show (tpI x).isD=true by rw[Val.isD];exact xj x,nj,decide_eq_true h];rfl
def lS:zQ .h (tpI x) (.g (tps L)) s=.e (.e (decide (x∈L))) s/\zQ .a (tpI x) (.g (tps L)) s=.e (.e !(decide (x∈L))) s:=by have N:flat (tpI x)=false:=rfl;simp only[zQ,y4,N,ZG,aW];exact⟨rfl,rfl⟩
def iG{p:Nat}:zQ .a (.c (p:Int)) (yF hs) s=.e (.e !decide (p∈hs)) s:=by
 have e:(hs.map λ(k:Nat)=>Val.c k).any (λz=>eqF z (.c (p:Int)))=decide (p∈hs):=by
  rw[List.any_map];induction hs with
  |nil=>rfl
  |cons h hs N=>
   rw[DT,N];show (((h:Int) == (p:Int))||_)=_
   by_cases hh:p=h
   . subst hh;simp
   . have:¬(h:Int)=(p:Int):=by omega
     simp[hh,this]
 have fl:(hs.map λ(k:Nat)=>Val.c k).all flat=true:=A5.mpr λv R=>by obtain⟨k,_,rfl⟩:=A2.mp R;rfl
 show (if flat (.c (p:Int))&&(hs.map λ(k:Nat)=>Val.c k).all flat then Out.e (Val.e !((hs.map λ(k:Nat)=>Val.c k).any λz=>eqF z (.c (p:Int)))) s else _)=_
 rw[if_pos (by rw[fl];rfl),e]
def RW{n:Nat}(R:1<=n)(N:n<=4):Ze false (.c 0) (.c n) (.c 1) s=.e (.g ((Ah n).map λ(k:Nat)=>Val.c k)) s:=by
 have:n=1\/n=2\/n=3\/n=4:=by omega
 rcases this with rfl|rfl|rfl|rfl<;>rfl
def nG{h:Nat}(hw:w.length<=100):binOp false .a (yF w) (.f [.c h]) s=.e (yF (w++[h])) s:=by show binOp false .a (.f (w.map λ(k:Nat)=>Val.c k)) (.f [.c h]) s=.e (.f ((w++[h]).map λ(k:Nat)=>Val.c k)) s;rw[Dt];exact jJ (by rw[Aa];unfold zR;simp;omega)
def jn zs z L:(L.flatMap λw=>(Ah zs.length).flatMap λh=>if (decide (gZ zs h=z)&&!decide (h∈w))=true then [yF (w++[h])] else [])=(exG zs z L).map yF:=by unfold exG;rw[List.map_flatMap];congr 1;funext w;rw[p5 (λh=>decide (gZ zs h=z)&&!decide (h∈w)) (λh=>yF (w++[h]))];unfold exM;rw[Ce];rfl
def aw(h:∀w∈L,w.length=n):∀w∈exG zs z L,w.length=n+1:=λw hw=>by obtain⟨v,N,hw⟩:=CG.mp hw;obtain⟨k,_,rfl⟩:=A2.mp hw;rw[As,h v N];rfl
def eW(R:zs.length<=4):(exG zs z L).length<=4*L.length:=by
 unfold exG;induction L with
 |nil=>exact AS _
 |cons w L N=>
  rw[DB,As,Aa,Ak];have:(exM zs z w).length<=zs.length:=Ao (List.length_filter_le _ _) (by rw[AZ];exact Ab _)
  omega
structure Gr4(zs:List Int)(k:Nat)(L:List (List Nat)):Prop where
 b:∀w∈L,w.length=k
 a:L.length<=4 ^ k
def Gr4.next(N:zs.length<=4)(h:Gr4 zs k L):Gr4 zs (k+1) (exG zs z L):=
 ⟨aw h.b,Ao (eW N) (by rw[Nat.pow_succ,BV];exact CT _ h.a)⟩
def Gr4.line(h:Gr4 zs k L)(hk:k<=5):L.length<=2000:=Ao h.a (Ao (Nat.pow_le_pow_right (by decide) hk) (by decide))
section
variable {T:Tbl}{Φ:Calls}{s:Sto}
def Yo(Φ:Calls):Prop:=∀(zs:List Int) (s:Sto),Sz zs->Φ "exchanges" 0 [tpI zs] s=.e (.g ((exL zs).map yF)) s
def jw(N:h<zs.length):zs[h]?=some (gZ zs h):=by unfold gZ;rw[Ad,pn N];rfl
def iI(L:List (List Nat)):(Val.g (L.map yF)).noRef=true:=by
 have e:L.map yF=tps (L.map λw=>w.map λ(k:Nat)=>(k:Int)):=by unfold tps;rw[Ce];exact C6 λw _=>ZF w
 rw[rh,e];exact vF _
def bX(Y:Sz zs):run T Φ F44.wH [tpI zs] s=.e (.g ((exL zs).map yF)) s:=by
 have X:∀n,n<100->n<=zR:=λn h=>by unfold zR;omega
 have U:=Y.1;have R:=Y.2.1;rw[post_eq,F44.wH,wN];refine⟨rfl,?_⟩;show (zj Φ T.b [some (tpI zs),none,none,none] _ s).post _;refine ya (v:=.g ((Ah zs.length).map λ(k:Nat)=>Val.c k)) (bnd (zL) (bnd (t9 rfl) (bnd zL (RW U R)))) ?_;refine ya (v:=.g (([[]]:List (List Nat)).map yF)) (vR (zA (yh zG (X 0 ⋯)) zG) (X 1 ⋯)) ?_
 refine zu.mpr (xD (λrest e s'=>s=s'/\∃r L k o,rest=r.map Val.c/\e=[some (tpI zs),some (.g ((Ah zs.length).map λ(k:Nat)=>Val.c k)),some (.g (L.map yF)),o]/\exF zs r L=exL zs/\Gr4 zs k L/\k+r.length=zs.length) (zs.map .c) (s1:=s) (yw (zC rfl) rfl) ⟨rfl,zs,[[]],0,_,rfl,rfl,rfl,⟨λw hw=>by rw[Av.mp hw];rfl,Ab _⟩,⋯⟩ ?_ ?_)
 . rintro x rest e s' ⟨rfl,r,L,k,o,N,rfl,S,g,hk⟩
   match r,N with
   |[],N=>cases N
   |z::r,N=>
    rw[AF,D9]at N;obtain⟨rfl,rfl⟩:=N;rw[Ak]at hk;refine⟨_,rfl,?_⟩;have g':=g.next (z:=z) R;refine ya (v:=.g ((exG zs z L).map yF)) ?_ (vQ ⟨rfl,r,_,k+1,_,rfl,rfl,S,g',⋯⟩)
    rw[<-jn];refine aO (f:=yF) (ys:=λ_=>Ah zs.length) (f2:=λ_ h=>Val.c (h:Nat)) (λe=>∃a b,e=[a,b,some (.g ((Ah zs.length).map λ(k:Nat)=>Val.c k)),some (.c z),some (tpI zs)]) (λw e=>∃b,e=[some (yF w),b,some (.g ((Ah zs.length).map λ(k:Nat)=>Val.c k)),some (.c z),some (tpI zs)]) (yw (zC rfl) rfl) ⟨none,none,rfl⟩ ?_ ?_ ?_ ?_
    . rintro w hw e ⟨a,b,rfl⟩
      exact⟨_,rfl,yw (zC rfl) rfl,b,rfl⟩
    . rintro w e ⟨b,rfl⟩;exact⟨_,_,rfl⟩
    . rintro w hw h W e ⟨b,rfl⟩
      have W:=Ar.mp W;refine⟨_,rfl,⟨_,rfl⟩,decide (gZ zs h=z)&&!decide (h∈w),qG (aC (x9 (xO (wD (zC rfl) (zC rfl) (uK (jw W))) (zC rfl) eq_int) yO) (x9 (xO (zC rfl) (zC rfl) iG) yO)),?_⟩;cases decide (gZ zs h=z)&&!decide (h∈w) with
      |true=>
       rw[if_pos rfl,if_pos rfl];exact⟨_,yb (zC rfl) (yh (zA (zC rfl) zG) (X 1 ⋯)) (nG (by rw[g.b w hw];omega)),rfl⟩
      |false=>rw[if_neg Ag,if_neg Ag]
    . rw[jn,Aa]
      have:=g'.line ⋯
      unfold zR;omega
 . rintro e s' ⟨rfl,r,L,k,o,N,rfl,S,g,hk⟩
   have:r=[]:=by cases r with|nil=>rfl|cons _ _=>cases N
   subst this;have S:L=exL zs:=S;subst S;refine xT (zC rfl) ?_;show (z0 false s _ s).post _;rw[yK (iI _)];exact zB.mpr ⟨rfl,rfl⟩
def Xd(hw:Exc zs w)(hx:∀i∈x,0<=i/\i<(zs.length:Int))(hi:env[i]?=some (some (yF w)))(S:env[j]?=some (some (tpI x))) :
 evE Φ G env (.k .c false (.a (.l false N [none,some i] (.r (.e 1) (.e 0)) (.a 0) (.f (.e j)) .a) .b)) s=.e (tpI (x.map (apO w))) s:=by
 have h0:zK [none,some i] env=[none,some (yF w)]:=by simp only[zK,AF,FT,hi];rfl
 have e:(x.flatMap λi=>[Val.c (apO w i)])=(x.map (apO w)).map Val.c:=by rw[<-List.map_eq_flatMap,Ce];rfl
 refine wU (zA (nB (f:=Val.c) (g:=λi=>[Val.c (apO w i)]) (λe=>∃o,e=[o,some (yF w)]) (yw (zC S) rfl) ⟨none,h0⟩ ?_) zG) (by rw[e];rfl)
 rintro a R e ⟨o,rfl⟩;obtain⟨b,c,rfl,W,_,U⟩:=hw.ap (hx a R).1 (hx a R).2;refine⟨_,rfl,⟨_,rfl⟩,true,rfl,?_⟩;rw[if_pos rfl];exact⟨_,wD (zC rfl) (zC rfl) (oC (k:=b) (v:=.c (c:Nat)) (by rw[Aq,W];rfl)),by rw[U]⟩
def Zj(h:∀z∈L,z=[]):(nub L).length<2:=by
 have:=(vG L).length_le_of_subset (l₂:=[[]]) λz N=>by rw[h z (yy.mp N)];exact .head _
 exact Nat.lt_succ_of_le this
def fo{x:List Int}{L:List (List Int)}(h:∀z∈L,z.length=x.length):(nub L).length<2\/∀z∈L,z≠[]:=by
 by_cases hx:x.length=0
 . exact .inl (Zj λz N=>Hy.mp ((h z N).trans hx))
 . exact .inr λz N e=>hx (by rw[<-h z N,e];rfl)
def tJ(f:Str)(Φ:Calls):Prop:=∀(zs x:List Int) (s:Sto),Sz zs->(∀i∈x,0<=i/\i<(zs.length:Int))->x.length<=40->Φ f 0 [tpI zs,tpI x] s=.e (.g (tps (alS zs x))) s
def fH(W:Yo Φ)(N:Sz zs)(hx:∀i∈x,0<=i/\i<(zs.length:Int))(U:x.length<=40):run T Φ F44.wz [tpI zs,tpI x] s=.e (.g (tps (alS zs x))) s:=by
 have X:∀n,n<100->n<=zR:=λn h=>by unfold zR;omega
 have S:((exL zs).flatMap λw=>[x,x.reverse].flatMap λy=>[tpI (y.map (apO w))])=tps (alV zs x):=by unfold alV tps;rw[List.map_flatMap];rfl
 have hs:wQ false ((exL zs).flatMap λw=>[x,x.reverse].flatMap λy=>[tpI (y.map (apO w))]) s=.e (.g (tps (alS zs x))) s:=by
  rw[S];exact pF (Dq (jM N.2.1) (by decide)) (fo (x:=x) λz h=>by
   obtain⟨w,_,rfl|rfl⟩:=iC.mp h
   . exact Aa _
   . rw[Aa,DS])
 rw[post_eq,F44.wz,wN];refine⟨rfl,?_⟩;show (zj Φ T.b [some (tpI zs),some (tpI x),none] _ s).post _;refine ya (x_call (zA (zC rfl) zG) (W zs s N)) (xT (aP (f:=yF) (ys:=λ_=>[x,x.reverse]) (f2:=λ_ y=>tpI y) (g:=λw y=>[tpI (y.map (apO w))]) (λe=>∃a b,e=[a,b,some (tpI x)]) (λw e=>∃b,e=[some (yF w),b,some (tpI x)]) (yw (zC rfl) rfl) ⟨none,none,rfl⟩ ?_ ?_ ?_ hs) ?_)
 . rintro w hw e ⟨a,b,rfl⟩
   exact⟨_,rfl,yw (yh (zA (zC rfl) (zA (fb (zC rfl) rl rl (rm (il zL)) (kf U)) zG)) (X 2 ⋯)) rfl,b,rfl⟩
 . rintro w e ⟨b,rfl⟩;exact⟨_,_,rfl⟩
 . rintro w hw y R e ⟨b,rfl⟩
   refine⟨_,rfl,⟨_,rfl⟩,true,rfl,?_⟩;rw[if_pos rfl];refine⟨_,Xd (lR hw) (x:=y) ?_ rfl rfl,rfl⟩;simp only[Al,Bt,or_false]at R;rcases R with rfl|rfl
   . exact hx
   . exact λi hi=>hx i (List.mem_reverse.mp hi)
 . show (z0 false s _ s).post _
   rw[yK (by rw[rh];exact vF _)]
   exact zB.mpr ⟨rfl,rfl⟩
def hX(zs x:List Int):List Int:=(alS zs x).headD []
def Yw{zs x:List Int}(hx:∀i∈x,0<=i/\i<(zs.length:Int)):(alS zs x)[0]?=some (hX zs x):=by
 have:=aV hx;unfold hX;cases h:alS zs x with
 |nil=>rw[h]at this;cases this
 |cons _ _=>rfl
def Fit.sh(h:Fit zs x):∀i∈x,0<=i/\i<(zs.length:Int):=h.b
def Ys(Φ:Calls):Prop:=∀(zs x:List Int) (s:Sto),Sz zs->Fit zs x->x.length<=40->Φ "form_of" 0 [tpI zs,tpI x] s=.e (tpI (hX zs x)) s
def k9(Φ:Calls):Prop:=∀(zs x:List Int) (s:Sto),Sz zs->Fit zs x->x.length<=40->Φ "alike_many" 0 [tpI zs,tpI x] s=.e (.c (alS zs x).length) s
def Xe(Φ:Calls):Prop:=∀(zs x y:List Int) (s:Sto),Sz zs->Fit zs x->x.length<=40->Fit zs y->y.length<=40->Φ "are_alike" 0 [tpI zs,tpI x,tpI y] s=.e (.e (decide (y∈alS zs x))) s
def oD(h:L[k]?=some x):xJ (.g (tps L)) (.c (k:Nat)) s=.e (tpI x) s:=lU (by rw[Aq,h];rfl)
def bf(U:uU Φ)(W:tJ "alike_to" Φ)(R:Sz zs)(N:Fit zs x)(S:x.length<=40):run T Φ F46.vn [tpI zs,tpI x] s=.e (tpI (hX zs x)) s:=by
 rw[post_eq,F46.vn,wN];refine⟨rfl,?_⟩;show (zj Φ T.b [some (tpI zs),some (tpI x)] _ s).post _;refine se (x_call (zA (zC rfl) (zA (zC rfl) zG)) (U zs x s R N S)) (xT (wD (x_call (zA (zC rfl) (zA (zC rfl) zG)) (W zs x s R N.sh S)) zL (oD (k:=0) (Yw N.sh))) ?_);show (z0 false s _ s).post _;rw[yK (by rw[rj];exact yq _)]
 exact zB.mpr ⟨rfl,rfl⟩
def kS(U:uU Φ)(W:tJ "alike_to" Φ)(N:Sz zs)(S:Fit zs x)(R:x.length<=40):run T Φ F46.xW [tpI zs,tpI x] s=.e (.c (alS zs x).length) s:=by rw[post_eq,F46.xW,wN];refine⟨rfl,?_⟩;show (zj Φ T.b [some (tpI zs),some (tpI x)] _ s).post _;refine se (x_call (zA (zC rfl) (zA (zC rfl) zG)) (U zs x s N S R)) (xT (wU (zA (x_call (zA (zC rfl) (zA (zC rfl) zG)) (W zs x s N S.sh R)) zG) XD) ?_);show (z0 false s _ s).post _;rw[yK oP,Aa];exact zB.mpr ⟨rfl,rfl⟩
def YI(W:uU Φ)(Y:tJ "alike_to" Φ)(N:Sz zs)(U:Fit zs x)(S:x.length<=40)(X:Fit zs y)(R:y.length<=40):run T Φ F46.wF [tpI zs,tpI x,tpI y] s=.e (.e (decide (y∈alS zs x))) s:=by rw[post_eq,F46.wF,wN];refine⟨rfl,?_⟩;show (zj Φ T.b [some (tpI zs),some (tpI x),some (tpI y)] _ s).post _;refine se (x_call (zA (zC rfl) (zA (zC rfl) zG)) (W zs x s N U S)) (se (x_call (zA (zC rfl) (zA (zC rfl) zG)) (W zs y s N X R)) (xT (xO (zC rfl) (x_call (zA (zC rfl) (zA (zC rfl) zG)) (Y zs x s N U.sh S)) lS.1) ?_));show (z0 false s _ s).post _;rw[yK vt];exact zB.mpr ⟨rfl,rfl⟩
def Yt(Φ:Calls):Prop:=∀(zs:List Int) (s:Sto),Sz zs->Φ "_law_orders" 0 [tpI zs] s=.e (.g ((exL zs).map yF)) s
def bg(hz:Sz zs):run T Φ F44.xF [tpI zs] s=.e (.g ((exL zs).map yF)) s:=by
 have L1:∀n,n<100->n<=zR:=λn h=>by unfold zR;omega
 have hz1:=hz.1;have Z:=hz.2.1;have W:∀(env:Env),env[0]?=some (some (tpI zs))->zy Φ T.b env (.d (.k .a false (.a (.e 0) .b))) s=.e ⟨(Ah zs.length).map λ(k:Nat)=>Val.c k,none⟩ s:=λenv h=>by
  rw[jz (t9 h) (by unfold zR;omega)]
  unfold yj;congr 2;exact C6 λk _=>by rw[Int.zero_add]
 rw[post_eq,F44.xF,wN];refine⟨rfl,?_⟩;show (zj Φ T.b [some (tpI zs),none,none,none,none,none] _ s).post _;refine ya (v:=.g (([[]]:List (List Nat)).map yF)) (vR (zA (yh zG (L1 0 ⋯)) zG) (L1 1 ⋯)) ?_
 refine zu.mpr (xD (λrest e s'=>s=s'/\∃L k o2 o3 U S,rest=(List.range' k (zs.length-k)).map (λ(k:Nat)=>Val.c k)/\e=[some (tpI zs),some (.g (L.map yF)),o2,o3,U,S]/\exF zs (zs.drop k) L=exL zs/\Gr4 zs k L/\k<=zs.length) _ (s1:=s) (W _ rfl) ⟨rfl,[[]],0,_,_,_,_,by rw[List.range_eq_range'];rfl,rfl,rfl,⟨λw hw=>by rw[Av.mp hw];rfl,Ab _⟩,⋯⟩ ?_ ?_)
 . rintro x rest e s' ⟨rfl,L,k,o2,o3,U,S,N,rfl,X,g,hk⟩
   have R:k<zs.length:=by refine Nat.lt_of_not_le λhge=>?_;rw[Nat.sub_eq_zero_of_le hge]at N;cases N
   rw[show zs.length-k=(zs.length-(k+1))+1 by omega,List.range'_succ,AF,D9]at N
   obtain⟨rfl,rfl⟩:=N;refine⟨_,rfl,?_⟩;have hd:zs.drop k=gZ zs k::zs.drop (k+1):=by rw[Bn R];congr 1;have:=jw R;rw[pn R]at this;exact AH this
   rw[hd]at X;have g':=g.next (z:=gZ zs k) Z;refine ya (v:=.g []) (vR zG (L1 0 ⋯)) ?_
   show (zj Φ T.b [some (tpI zs),some (.g (L.map yF)),some (.c (k:Nat)),some (.g []),U,S] _ s).post _;refine zu.mpr (xD (λrest e s'=>s=s'/\∃A B U S,rest=B.map yF/\A++B=L/\e=[some (tpI zs),some (.g (L.map yF)),some (.c (k:Nat)),some (.g ((exG zs (gZ zs k) A).map yF)),U,S]) (L.map yF) (s1:=s) (yw (zC rfl) rfl) ⟨rfl,[],L,_,_,rfl,rfl,rfl⟩ ?_ ?_)
   . rintro x rest2 e s' ⟨rfl,A,B,U,S,N,Y,rfl⟩
     match B,N with
     |[],N=>cases N
     |w::B,N=>
      rw[AF,D9]at N;obtain⟨rfl,rfl⟩:=N;refine⟨_,rfl,?_⟩;have hwl:w.length=k:=g.b w (by rw[<-Y];simp)
      have hm:evE Φ T.b [some (tpI zs),some (.g (L.map yF)),some (.c (k:Nat)),some (.g ((exG zs (gZ zs k) A).map yF)),some (yF w),S] (.l false ["_law_one","_law_some","_law_sizes_here","_law_hue"] [none,some 4,some 0,some 2] (.e 0) (.a 0) (.d (.k .a false (.a (.e 0) .b))) (.b (.d (.a (.p .a (.e 0) (.e 1))) (.b (.a (.p .d (.r (.e 2) (.e 0)) (.r (.e 2) (.e 3)))) .a)) .a)) s=.e (.g ((exM zs (gZ zs k) w).map λ(k:Nat)=>Val.c k)) s:=by
       have e:(exM zs (gZ zs k) w).map (λ(k:Nat)=>Val.c k)=(Ah zs.length).flatMap λh=>if (!decide (h∈w)&&decide (gZ zs h=gZ zs k))=true then [Val.c h] else []:=by rw[p5 (λh=>!decide (h∈w)&&decide (gZ zs h=gZ zs k)) (λ(h:Nat)=>Val.c h)];unfold exM;congr 2;funext h;exact Bool.and_comm _ _
       rw[e];refine nB (f:=λ(h:Nat)=>Val.c h) (λe=>∃o,e=[o,some (yF w),some (tpI zs),some (.c (k:Nat))]) (W _ rfl) ⟨none,rfl⟩ ?_;rintro h hh e ⟨o,rfl⟩;have hh:=Ar.mp hh;refine⟨_,rfl,⟨_,rfl⟩,!decide (h∈w)&&decide (gZ zs h=gZ zs k),qG (aC (x9 (xO (zC rfl) (zC rfl) iG) yO) (x9 (xO (wD (zC rfl) (zC rfl) (uK (jw hh))) (wD (zC rfl) (zC rfl) (uK (jw R))) eq_int) yO)),?_⟩;cases !decide (h∈w)&&decide (gZ zs h=gZ zs k) with
       |true=>rw[if_pos rfl,if_pos rfl];exact⟨_,zC rfl,rfl⟩
       |false=>rw[if_neg Ag,if_neg Ag]
      refine ya hm ?_;have hc:evE Φ T.b [some (tpI zs),some (.g (L.map yF)),some (.c (k:Nat)),some (.g ((exG zs (gZ zs k) A).map yF)),some (yF w),some (.g ((exM zs (gZ zs k) w).map λ(k:Nat)=>Val.c k))] (.l false ["_law_one","_law_some"] [none,some 4] (.j false .a (.e 1) (.q (.a (.e 0) .b))) (.a 0) (.f (.e 5)) .a) s=.e (.g (((exM zs (gZ zs k) w).map λh=>w++[h]).map yF)) s:=by
       have e:((exM zs (gZ zs k) w).map λh=>w++[h]).map yF=(exM zs (gZ zs k) w).flatMap λh=>[yF (w++[h])]:=by rw[<-List.map_eq_flatMap,Ce];rfl
       rw[e];refine nB (f:=λ(h:Nat)=>Val.c h) (λe=>∃o,e=[o,some (yF w)]) (yw (zC rfl) rfl) ⟨none,rfl⟩ ?_;rintro h hh e ⟨o,rfl⟩;refine⟨_,rfl,⟨_,rfl⟩,true,rfl,?_⟩;rw[if_pos rfl];exact⟨_,yb (zC rfl) (yh (zA (zC rfl) zG) (L1 1 ⋯)) (nG ⋯),rfl⟩
      have hs:exG zs (gZ zs k) (A++[w])=exG zs (gZ zs k) A++(exM zs (gZ zs k) w).map λh=>w++[h]:=by unfold exG;rw[List.flatMap_append,List.flatMap_singleton]
      have hle:(exG zs (gZ zs k) (A++[w])).length<=2000:=by
       refine Ao (eW Z) ?_;have h1:=g.line ⋯
       have h2:=g.a;have h3:4 ^ k<=4 ^ 3:=Nat.pow_le_pow_right (by decide) ⋯
       have h4:(A++[w]).length<=L.length:=by rw[<-Y,As,As];simp
       have h5:(4:Nat) ^ 3=64:=by decide
       omega
      rw[hs,As]at hle;refine ya (v:=.g ((exG zs (gZ zs k) (A++[w])).map yF)) (yb (zC rfl) hc ((jH (by rw[Aa,Aa];unfold zR;omega)).trans (by rw[<-Dt,<-hs]))) (vQ ⟨rfl,A++[w],B,_,_,rfl,by rw[An];exact Y,rfl⟩)
   . rintro e s' ⟨rfl,A,B,U,S,N,Y,rfl⟩
     have:B=[]:=by cases B with|nil=>rfl|cons _ _=>cases N
     subst this;rw[A1]at Y;subst Y;refine ya (zC rfl) (vQ ⟨rfl,_,k+1,_,_,_,_,rfl,rfl,X,g',⋯⟩)
 . rintro e s' ⟨rfl,L,k,o2,o3,U,S,N,rfl,X,g,hk⟩
   have hk:k=zs.length:=by refine FY hk (Nat.le_of_not_lt λR=>?_);rw[show zs.length-k=(zs.length-(k+1))+1 by omega,List.range'_succ]at N;cases N
   subst hk;rw[Hr]at X;have X:L=exL zs:=X;subst X;refine xT (zC rfl) ?_;show (z0 false s _ s).post _;rw[yK (iI _)];exact zB.mpr ⟨rfl,rfl⟩
theorem iA:∀{r} {F:List (List Int)},F.Sublist (lwA x r F)
 |[],F=>.refl _
 |w::r,F=>(List.sublist_append_left F _).trans (iA (r:=r))
def kU(cO:Yt Φ)(Z:Sz zs)(hx:∀i∈x,0<=i/\i<(zs.length:Int))(hn:x.length<=40):run T Φ F44.xU [tpI zs,tpI x] s=.e (.g (tps (alS zs x))) s:=by
 have L1:∀n,n<100->n<=zR:=λn h=>by unfold zR;omega
 have X:=Z.2.1;have hE:=jo X;have R:(lwA x (exL zs) []).length<=48:=by have:=j9 (x:=x) (r:=exL zs) (F:=[]);rw[B8]at this;omega
 have hs:wQ false (tps (lwA x (exL zs) [])) s=.e (.g (tps (alS zs x))) s:=by
  rw[<-W6];exact pF (Dq R (by decide)) (fo (x:=x) λz h=>by
   obtain h|⟨w,_,rfl|rfl⟩:=oJ.mp h
   . cases h
   . exact Aa _
   . rw[Aa,DS])
 rw[post_eq,F44.xU,wN];refine⟨rfl,?_⟩;show (zj Φ T.b [some (tpI zs),some (tpI x),none,none,none] _ s).post _;refine ya (v:=.g (tps [])) (vR zG (L1 0 ⋯)) ?_
 refine zu.mpr (xD (λrest e s'=>s=s'/\∃r F W U,rest=r.map yF/\(∀w∈r,w∈exL zs)/\e=[some (tpI zs),some (tpI x),some (.g (tps F)),W,U]/\lwA x r F=lwA x (exL zs) []) ((exL zs).map yF) (s1:=s) (yw (x_call (zA (zC rfl) zG) (cO zs s Z)) rfl) ⟨rfl,exL zs,[],_,_,rfl,λw h=>h,rfl,rfl⟩ ?_ ?_)
 . rintro v rest e s' ⟨rfl,r,F,W,U,N,hw,rfl,hF⟩
   match r,N with
   |[],N=>cases N
   |w::r,N=>
    rw[AF,D9]at N;obtain⟨rfl,rfl⟩:=N;refine⟨_,rfl,?_⟩;refine ya (Xd (lR (hw w (.head _))) hx rfl rfl) ?_;have hc:evE Φ T.b [some (tpI zs),some (tpI x),some (.g (tps F)),some (yF w),some (tpI (x.map (apO w)))] (.l false ["_law_one","_law_found"] [none,some 2] (.e 0) (.a 0) (.f (.q (.a (.e 4) (.a (.F false (.e 4) .b .b (.a (.B (.g (.c 1))))) .b)))) (.b (.a (.p .a (.e 0) (.e 1))) .a)) s=.e (.g (tps ([x.map (apO w),(x.map (apO w)).reverse].filter λy=>!decide (y∈F)))) s:=by refine UP (L:=[x.map (apO w),(x.map (apO w)).reverse]) (f:=λy=>!decide (y∈F)) (e0:=[some (.g (tps F))]) (yw (yh (zA (zC rfl) (zA (fb (zC rfl) rl rl (rm (il zL)) (kf (by rw[Aa];exact hn))) zG)) (L1 2 ⋯)) rfl) rfl λy _=>qG (x9 (xO (zC rfl) (zC rfl) lS.2) yO)
    have S:lwA x r (F++[x.map (apO w),(x.map (apO w)).reverse].filter λy=>!decide (y∈F))=lwA x (exL zs) []:=hF;have Y:(F++[x.map (apO w),(x.map (apO w)).reverse].filter λy=>!decide (y∈F)).length<=48:=by refine Ao (List.Sublist.length_le ?_) (S▸R);exact iA
    rw[As]at Y;refine ya (v:=.g (tps (F++[x.map (apO w),(x.map (apO w)).reverse].filter λy=>!decide (y∈F)))) (yb (zC rfl) hc ((jH (by rw[Aa,Aa];unfold zR;omega)).trans (by rw[<-Dt]))) (vQ ⟨rfl,r,_,_,_,rfl,λv hv=>hw v (.tail _ hv),rfl,S⟩)
 . rintro e s' ⟨rfl,r,F,W,U,N,hw,rfl,hF⟩
   have:r=[]:=by cases r with|nil=>rfl|cons _ _=>cases N
   subst this;have hF:F=lwA x (exL zs) []:=hF;subst hF;refine xT (UQ (zC rfl) hs) ?_;show (z0 false s _ s).post _;rw[yK (by rw[rh];exact vF _)]
   exact zB.mpr ⟨rfl,rfl⟩
end
end M
end
section
namespace M
open PySem Hd
def eu(h:Heap)(a:Addr):Option Obj:=(h.get? a).bind λo=>if v5 o then none else some o
def ZE(e:h.get? a=some o)(n:v5 o=false):eu h a=some o:=by unfold eu;rw[e];show (if v5 o=true then none else some o)=some o;rw[n];rfl
def ZD(e:eu h a=some o):h.get? a=some o/\v5 o=false:=by
 unfold eu at e;obtain⟨S,R,N⟩:=Fe.mp e;split at N
 . cases N
 . rename_i z
   cases N;exact⟨R,by simpa using z⟩
def ui(h:Heap):KF:=(Ah h.objs.size).filterMap λa=>(eu h a).map λo=>(a,o)
theorem sU{g:Addr->Option Obj}:∀{l:List Addr},a∈l->(l.filterMap λb=>(g b).map λo=>(b,o)).lookup a=g a
 |b::r,hm=>by
  rw[A7];by_cases e:a=b
  . subst e
    cases hg:g a with
    |none=>
     show (r.filterMap _).lookup a=none;by_cases m:a∈r
     . rw[sU m,hg]
     . exact List.lookup_eq_none_iff.mpr λp hp=>by
        obtain⟨c,N,e⟩:=DW.mp hp;obtain⟨o,_,rfl⟩:=AK.mp e;have z:a≠c:=λz=>m (by rw[z];exact N)
        simpa using z
    |some o=>show (List.lookup a ((a,o)::_))=_;rw[AB,beq_self_eq_true]
  . have m:a∈r:=(Al.mp hm).resolve_left e
    cases hg:g b with
    |none=>exact sU m
    |some o=>
     show (List.lookup a ((b,o)::_))=_;rw[AB,beq_false_of_ne e];exact sU m
def yu o(e:h.get? a=some o)(n:v5 o=false):(ui h).lookup a=some o:=by rw[<-ZE e n];exact sU (Ar.mpr (Am e))
def eZ:(ui h).In h:=λa o e=>by obtain⟨c,_,e⟩:=DW.mp (ve e);obtain⟨S,R,N⟩:=AK.mp e;cases N;exact(ZD R).1
def rk(e:nsH h x=some v):BS (ui h) Bq x=some v:=by
 unfold nsH at e;split at e
 . rename_i o ho
   have N:v5 o=false:=by
    unfold BS at e;rw[AB,beq_self_eq_true]at e;dsimp only at e;split at e
    . rename_i hd;cases hd;unfold v5;simp
    . cases e
   unfold BS at e ⊢;rw[yu o ho N];rw[AB,beq_self_eq_true]at e;exact e
 . cases e
def eD(e:eC h cd x=true):C7 (ui h) cd x=true:=by
 unfold eC at e;split at e
 . split at e
   . rename_i c o ho
     rw[ub,Bu]at e;obtain⟨N,e⟩:=e;unfold C7 at e ⊢;dsimp only at e ⊢;rw[AB,beq_self_eq_true]at e;rw[yu o ho N];exact e
   . cases e
 . cases e
def args_eq st:args st=L2.wK st/\body st=L2.xH st/\scope st=L2.zw st:=by cases st<;>exact⟨rfl,rfl,rfl⟩
def X0(e:Zk h p.1=Yj p):nE (ui h) p.1 p.2:=by
 obtain⟨U,S,R⟩:=args_eq p.2;unfold Yj at e;rw[U,S,R]at e;unfold Zk at e;split at e
 . rename_i f hf
   split at e
   . rename_i oc od fd osl ho
     split at e
     . rename_i hc
       have N:=AH e;obtain⟨n,q,ps,b,sc,g,Z,X,W,Y,pm,an,cd,ct,bl⟩:=fd;injection N with e1 e2 e3 e4 e5 e6 e7 e8 _ _ _ _ _ _ e9
       subst e1 e2 e3 e4 e5 e6 e7 e8 e9;exact Xz (rk hf) (yu _ ho (by unfold v5;simp)) (eD hc) (by unfold C8;dsimp only;rw[yu _ ho (by unfold v5;simp)])
     . cases e
   . cases e
 . cases e
noncomputable def gv:G->Val
 |.a i=>.c i
 |.c x=>.m x
 |.b ns=>.o ns
def Uw(e:glB h x v=true):ip (ui h) x (gv v):=by
 cases v with
 |a i=>
  unfold glB at e;dsimp only at e;split at e
  . rename_i hn;have:=of_decide_eq_true e;subst this;exact int_mk (rk hn)
  . cases e
 |c y=>
  unfold glB at e;dsimp only at e;split at e
  . rename_i hn;have:=of_decide_eq_true e;subst this;exact str_mk (rk hn)
  . cases e
 |b ns=>
  unfold glB at e;dsimp only at e;split at e
  . rename_i hn
    split at e
    . rename_i n od us k sl ho
      obtain⟨N,R⟩:=DJ.mp e;obtain⟨N,S⟩:=DJ.mp N;have:=of_decide_eq_true N;subst this;exact ae (us:=us.toList) (rk hn) (yu _ ho rfl) (of_decide_eq_true S) (of_decide_eq_true R)
    . cases e
  . cases e
def Uc(e:blB h x=true):BS (ui h) Bq x=some none:=by
 unfold blB at e;split at e
 . rename_i hn;exact rk hn
 . cases e
def Xj(D:List (Str × Stmt))(glL:List (Str × Val))(K:KF)(h:Heap):Prop:=K.In h/\(∀p∈D,nE K p.1 p.2)/\(∀p∈glL,ip K p.1 p.2)/\∀x∈wa,BS K Bq x=some none
theorem jY:∀{D:List (Str × Stmt)},(D.map λp=>Zk h p.1)=D.map Yj->∀p∈D,nE (ui h) p.1 p.2
 |p::D,e,q,N=>by
  rw[AF,AF]at e;obtain⟨S,R⟩:=List.cons.inj e;rcases Al.mp N with rfl|N
  . exact X0 S
  . exact jY R q N
def YO(e:W8 D gl s=UJ D):∃K,Xj D (gl.map λp=>(p.1,gv p.2)) K s.heap:=by obtain⟨W,N⟩:=Prod.mk.inj e;obtain⟨N,U⟩:=DJ.mp N;exact⟨ui s.heap,eZ,jY W,λp hp=>(by obtain⟨R,S,rfl⟩:=A2.mp hp;exact Uw (A5.mp N R S)),λx hx=>Uc (A5.mp U x hx)⟩
def close{l:PySem.W.OpenLaw}
 (Vu:l.wellSaid=true) (left:PySem.W.LeftO l.row.prog q [] (λs=>Ij l.row.records s) (W8 D gl) (λ_=>UJ D) N) (hgl:glL=gl.map λp=>(p.1,gv p.2))
 (WG:PySem.W.defOf q l.row.name=some (d,[])) (hp:l.row.prog.theDef l.row.name=some (d.params,d.body,d.scope)) (hk:PySem.W.kwWritten? d.params.kwonlyargs d.params.kw_defaults=some [])
 (hwr:(!l.row.writes||l.row.records.isEmpty)=true) (ok:(PySem.W.chainsOk q&&PySem.W.opensWell l.row.prog&&(PySem.W.frees l.row.toRowW&&l.row.within.isEmpty))=true) (hb:l.row.prog.bare) (hw:l.row.toRowW.promised)
 (hn:l.most=some 63) (hdf:d.params.defaults=[]) (hr:L2.y6 n callerA) (hF:(tbl fnL glL).c d.name 0=some F) (hx:F.a=[x]) (hc:pK fnL D=true)
 (HL:∀ns:List Int,ns.length<=63->∃s',zE (tbl fnL glL) n d.name 0 [.r ns] []=.e (.e true) s'):l.Holds:=by
 refine PySem.W.holds_law Vu λS=>PySem.W.holds_open (q:=q) (loose:=[]) (Xt:=λs=>Ij l.row.records s) (XP:=λ_ _=>True) (YP:=λ_ h=>∃K,Xj D glL K h) left (λw s e=>hgl▸YO e)
  (λw h h' ⟨K,a,b⟩ k=>⟨K,a.keeps k,b⟩) (λ_ _=>trivial) (λ_ _ _ _ _=>trivial) WG hp hk (λs e=>PySem.W.recFacts_of e) hwr S ok hb hw ?_
 rintro w R U mg Z G ⟨K,Y⟩;exact walk (l:=l) (q:=q) (loose:=[]) (XP:=λ_ _=>True) (YP:=λ_ h=>Xj D glL K h) (d:=d) (K:=K) (T:=tbl fnL glL) hn hdf hr (λ_ _ y=>y.1) hF hx (λw R mg Z h G X=>⟨V8 (tb:=[]) (xc:=[]) (md:=λ_=>false) X G.T.g Y.2.1 Y.2.2.1 Y.2.2.2 hc (λ⟨b,z⟩=>by cases z),[],Gi,rfl,λi g z=>by cases z⟩) HL w R U mg Z G Y
end M
end
section
namespace P44
open PySem M
noncomputable def qc:Fn:=⟨["_law_script","_law_k","_law_pen_here","_law_sizes_here","_law_at","_law_strip","_law_other","_law_some","_law_due","_law_one","_law_pair","_law_found"],["_law_script"],false,(.e (.g (.a 1) (.d (.k .j false (.a (.g (.c 1)) (.a (.k .k false (.a (.k .a false (.a (.e 0) .b)) (.a (.g (.c 5)) .b))) .b)))) (.e (.d 2 (.h "_law_pen" 1 (.a (.h "_law_cell_at" 0 (.a (.e 0) (.a (.e 1) .b))) .b))) (.e (.d 3 (.h "_law_sizes" 0 (.a (.e 2) .b))) (.e (.d 4 (.h "_law_draw" 0 (.a (.e 2) (.a (.g (.c 48)) .b)))) (.e (.q [5,6] (.a (.h "_law_fitting" 0 (.a (.e 2) (.a (.e 3) (.a (.g (.c 24)) .b)))) (.a (.h "_law_fitting" 0 (.a (.e 2) (.a (.e 3) (.a (.g (.c 5)) .b)))) .b))) (.e (.g (.a 7) (.f (.q (.a (.e 5) (.a (.e 6) (.a (.F false (.e 5) .b (.a (.g (.c 5))) .b) (.a (.q .b) .b)))))) (.e (.d 8 (.h "_law_alike" 0 (.a (.e 3) (.a (.e 7) .b)))) (.e (.j (.a (.p .c (.k .i false (.a (.u false (.a (.h "form_of" 0 (.a (.e 3) (.a (.e 7) .b))) (.a (.h "alike_many" 0 (.a (.e 3) (.a (.e 7) .b))) .b))) .b)) (.k .i false (.a (.u false (.a (.r (.e 8) (.g (.c 0))) (.a (.k .a false (.a (.e 8) .b)) .b))) .b)))) (.e (.f (.g (.e false))) .f) .f) (.e (.g (.a 9) (.f (.u false (.a (.r (.e 8) (.j false .c (.e 4) (.k .a false (.a (.e 8) .b)))) (.a (.r (.e 8) (.g (.c 0))) (.a (.r (.e 8) (.B (.g (.c 1)))) (.a (.e 6) (.a (.F false (.e 5) .b (.a (.g (.c 5))) .b) (.a (.F false (.e 5) (.a (.g (.c 1))) (.a (.g (.c 6))) .b) (.a (.F false (.e 7) .b .b (.a (.B (.g (.c 1))))) (.a (.e 7) .b)))))))))) (.e (.g (.a 10) (.f (.q (.a (.q (.a (.e 7) (.a (.e 9) .b))) (.a (.q (.a (.e 9) (.a (.e 7) .b))) .b)))) (.e (.d 11 (.h "are_alike" 0 (.a (.e 3) (.a (.r (.e 10) (.g (.c 0))) (.a (.r (.e 10) (.g (.c 1))) .b))))) (.e (.j (.f (.b (.a (.k .h false (.a (.e 11) (.a (.M "bool" "bool") .b))))) (.b (.a (.p .c (.e 11) (.p .h (.e 9) (.e 8)))) .a)) (.e (.f (.g (.e false))) .f) .f) .f))) .f)) .f)))) .f)))))) (.e (.j (.a (.p .b (.h "are_alike" 0 (.a (.q (.a (.g (.c 3)) (.a (.g (.c 4)) (.a (.g (.c 5)) .b)))) (.a (.q (.a (.g (.c 1)) .b)) (.a (.q (.a (.g (.c 2)) .b)) .b)))) (.g (.e false)))) (.e (.f (.g (.e false))) .f) .f) (.e (.f (.w (.p .i (.h "are_alike" 0 (.a (.q (.a (.g (.c 3)) (.a (.g (.c 3)) .b))) (.a (.q (.a (.g (.c 0)) (.a (.g (.c 0)) (.a (.g (.c 1)) .b)))) (.a (.q (.a (.g (.c 0)) (.a (.g (.c 1)) (.a (.g (.c 1)) .b)))) .b)))) (.g (.e true))) (.a (.p .i (.h "are_alike" 0 (.a (.q (.a (.g (.c 3)) (.a (.g (.c 4)) .b))) (.a (.q (.a (.g (.c 0)) (.a (.g (.c 0)) (.a (.g (.c 1)) .b)))) (.a (.q (.a (.g (.c 0)) (.a (.g (.c 1)) (.a (.g (.c 1)) .b)))) .b)))) (.g (.e false))) .b))) .f)))⟩
def fnL:List ((Str × Nat) × Fn):=((("_law_alike":Str),(0:Nat)),F44.xU)::((("_law_cell_at":Str),(0:Nat)),F.yc)::((("_law_draw":Str),(0:Nat)),F.xI)::((("_law_ended":Str),(0:Nat)),F.yr)::((("_law_fitting":Str),(0:Nat)),F.yP)::((("_law_orders":Str),(0:Nat)),F44.xF)::((("_law_pen":Str),(1:Nat)),F.yf)::((("_law_sizes":Str),(0:Nat)),F.xV)::((("alike_many":Str),(0:Nat)),F46.xW)::((("alike_to":Str),(0:Nat)),F44.wz)::((("are_alike":Str),(0:Nat)),F46.wF)::((("are_sizes":Str),(0:Nat)),F.wG)::((("are_wholes":Str),(0:Nat)),F.xX)::((("exchanges":Str),(0:Nat)),F44.wH)::((("first_hue_wrong":Str),(0:Nat)),F.yY)::((("first_row_wrong":Str),(0:Nat)),F.yZ)::((("first_wrong":Str),(0:Nat)),F.xG)::((("fits":Str),(0:Nat)),F.pP)::((("form_of":Str),(0:Nat)),F46.vn)::((("is_one_hue":Str),(0:Nat)),F.xY)::((("is_strip":Str),(0:Nat)),F.w4)::((("is_whole":Str),(0:Nat)),F.w5)::((("law":Str),(0:Nat)),qc)::((("most_step":Str),(0:Nat)),F.wI)::((("need_fit":Str),(0:Nat)),F.w6)::((("need_sizes":Str),(0:Nat)),F.xZ)::((("need_strip":Str),(0:Nat)),F.xf)::[]
noncomputable def glL:List (Str × Val):=[("MOST_PLACES",.c 40),("LEAST_SIZE",.c 2),("MOST_SIZE",.c 8),("HUES",.o [0,1,2,3])]
def T:Tbl:=tbl fnL glL
set_option maxHeartbeats 0 in
def V4:pK fnL D=true:=by decide +kernel
def eX(N:Sz zs)(R:Fit zs x)a:Fit zs (x.drop a):=R.R5 (f0:=a) (d0:=1) N (by decide) λi=>by rw[Co,Nat.mul_one]
def jr(N:Sz zs)(R:Fit zs x)lo hi:Fit zs (uG x lo hi)/\(uG x lo hi).length<=x.length:=by unfold uG;exact⟨(eX N R _).take _,by rw[Bi,BN];omega⟩
def dI(h:0<L.length)(N:L[L.length-1]?=some y):xJ (.g (tps L)) (.c (-1)) s=.e (tpI y) s:=by
 have e:L2.atI (tps L) (-1)=some (tpI y):=by
  unfold L2.atI;rw[Aa];have R:L2.ixN L.length (-1)=some (L.length-1):=by unfold L2.ixN;simp;omega
  rw[R];show (tps L)[L.length-1]?=_;rw[Aq,N];rfl
 simp only[xJ,y4,e]
def YG{n:Nat}(hx:∀i∈x,0<=i/\i<=1000)(S:x.length<=40)(U:n<=100):∃t,blt .i m [.g [tpI x,.c n]] s=.e (.m t) s:=by
 have R:Th 1 4040 (tpI x):=V6 (k:=0) (w:=100) (n:=40) (λv N=>by obtain⟨i,hi,rfl⟩:=A2.mp N;have:=hx i hi;exact aE ⋯ ⋯) (by rw[Aa];exact S)
 have h:Th 2 8082 (.g [tpI x,.c n]):=V5 (k:=1) (w:=4040) (n:=2) (λv N=>by
  simp only[Al,Bt,or_false]at N;rcases N with rfl|rfl
  . exact R
  . exact(aE ⋯ ⋯).mono (by decide) (by decide)) (Ab 2)
 refine⟨(Val.g [tpI x,.c n]).d.shown,?_⟩;simp only[blt];rw[show zx s (.g [tpI x,.c n])=.g [tpI x,.c n] from rfl,h.r,gc h.a (by decide) (by decide) h.b]
 rfl
def Td:zQ .c (.e b) (.e b) s=.e (.e false) s:=by cases b<;>rfl
def Te:zQ .c (.m x) (.m x) s=.e (.e false) s:=by simp[zQ]
structure Cs(Φ:Calls):Prop where
 e:Ym Φ
 i:UT Φ
 f:jA Φ
 d:jD Φ
 a:nC Φ
 g:Ys Φ
 h:k9 Φ
 b:Xe Φ
 c:tJ "_law_alike" Φ
def Z0(c:Xe Φ)(W:Sz zs)(hx:Fit zs x)(R:x.length<=40)(S:Fit zs y)(N:y.length<=40)(hp:p=.f [tpI x,tpI y]\/p=.f [tpI y,tpI x]) :
 ∃a b,xJ p (.c 0) s=.e a s/\xJ p (.c 1) s=.e b s/\Φ "are_alike" 0 [tpI zs,a,b] s=.e (.e (decide (y∈alS zs x))) s:=by
 have U:∀a b:Val,xJ (.f [a,b]) (.c 0) s=.e a s:=λa b=>oC (k:=0) rfl;have i1:∀a b:Val,xJ (.f [a,b]) (.c 1) s=.e b s:=λa b=>oC (k:=1) rfl;rcases hp with rfl|rfl
 . exact⟨_,_,U _ _,i1 _ _,c zs x y s W hx R S N⟩
 . refine⟨_,_,U _ _,i1 _ _,?_⟩
   rw[c zs y x s W S N hx R];have:(x∈alS zs y)↔(y∈alS zs x):=⟨jN S.sh,jN hx.sh⟩;simp only[this]
def dq(c:Cs Φ)ns:(run T Φ qc [.r ns] []).post λv _=>v=.e true:=by
 have L1:∀n,n<100->n<=zR:=λn h=>by unfold zR;omega
 rw[qc,wN];refine⟨rfl,?_⟩;refine zu.mpr (xD (λrest e s'=>(∃o1 U o3 o4 o5 o6 o7 o8 Y R N,e=[some (.r ns),o1,U,o3,o4,o5,o6,o7,o8,Y,R,N])/\∀x∈rest,∃k:Nat,x=.c k) (yj 0 (max 1 (min ns.length 5))) (s1:=[]) (eV (K:=5) rfl ⋯) ⟨⟨_,_,_,_,_,_,_,_,_,_,_,rfl⟩,?_⟩ ?_ ?_)
 . intro x hx
   obtain⟨k,_,rfl⟩:=oK hx;exact⟨k,by congr 1;omega⟩
 . rintro x rest e s' ⟨⟨o1,U,o3,o4,o5,o6,o7,o8,Y,R,N,rfl⟩,hr⟩
   obtain⟨k,rfl⟩:=hr x (.head _);have hr':∀x∈rest,∃k:Nat,x=.c k:=λx hx=>hr x (.tail _ hx);refine⟨_,rfl,?_⟩;obtain⟨cv,hcell⟩:=c.e ns k s';refine byG λpi S=>?_;obtain⟨a,b,hpen,hb⟩:=c.i cv s';refine S ?_;refine ya (x_call (zA (x_call (zA (zC rfl) (zA (zC rfl) zG)) hcell) zG) hpen) ?_;have hP:vN (s'++[r8 a b]) s'.length:=⟨a,b,by simp,hb⟩
   refine byG λpi S=>?_;obtain⟨_,s2,h2,zs,rfl,Z,t2⟩:=c.d s'.length _ hP;refine S ?_;have hz1:=Z.1;have hz4:=Z.2.1;refine ya (x_call (zA (zC rfl) zG) h2) ?_;have hP2:=t2.at_ hP.lt;refine byG λpi S=>?_;obtain⟨_,s3,h3,at_,rfl,hat,t3⟩:=c.f s'.length 48 s2 hP2 (by decide) (by decide)
   refine S ?_;refine ya (x_call (zA (zC rfl) (zA zL zG)) h3) ?_;have hP3:=t3.at_ hP2.lt;refine byG λpi S=>?_;obtain⟨_,s4,h4,st,rfl,hst,hsl,t4⟩:=c.a s'.length zs 24 s3 hP3 Z ⋯
   refine S ?_;have hP4:=t4.at_ hP3.lt;refine byG λpi S=>?_;obtain⟨_,s5,h5,ot,rfl,hot,hol,t5⟩:=c.a s'.length zs 5 s4 hP4 Z ⋯
   refine S ?_;refine zu.mpr (cZ.mpr (sX (x_call (zA (zC rfl) (zA (zC rfl) (zA zL zG))) h4) (sX (x_call (zA (zC rfl) (zA (zC rfl) (zA zL zG))) h5) (iK.mpr (iM rfl ?_)))));show (zj Φ T.b [some (.r ns),some (.c k),some (.j s'.length),some (tpI zs),some (.c (at_:Nat)),some (tpI st),some (tpI ot),o7,o8,Y,R,N] _ s5).post _;clear h2 h3 h4 h5 t2 t3 t4 t5 hP hP2 hP3 hP4 hpen hcell hb;generalize s'.length=p at *;obtain⟨f5,l5⟩:=jr Z hst none (some 5);obtain⟨f6,l6⟩:=jr Z hst (some 1) (some 6);refine zu.mpr (xD (λX e s'=>(∃o1 U o7 o8 Y R N,e=[some (.r ns),o1,U,some (tpI zs),some (.c (at_:Nat)),some (tpI st),some (tpI ot),o7,o8,Y,R,N])/\∀x∈X,∃ms,x=tpI ms/\Fit zs ms/\ms.length<=30) [tpI st,tpI ot,tpI (uG st none (some 5)),.f []] (s1:=s5) (yw (yh (zA (zC rfl) (zA (zC rfl) (zA (fb (zC rfl) rl (rm zL) rl kZ) (zA (yh zG (L1 0 ⋯)) zG)))) (L1 4 ⋯)) rfl) ⟨⟨_,_,_,_,_,_,_,rfl⟩,?_⟩ ?_ ?_)
   . intro x hx
     simp only[Al,Bt,or_false]at hx;rcases hx with rfl|rfl|rfl|rfl
     . exact⟨_,rfl,hst,hsl⟩
     . exact⟨_,rfl,hot,hol⟩
     . exact⟨_,rfl,f5,⋯⟩
     . exact⟨[],rfl,jt zs,by decide⟩
   . rintro x X e s6 ⟨⟨o1,U,o7,o8,Y,R,N,rfl⟩,hr2⟩
     refine byG λpi S=>?_;obtain⟨ms,rfl,hm,hml⟩:=hr2 x (.head _);refine S ?_;have hr2':∀x∈X,∃ms,x=tpI ms/\Fit zs ms/\ms.length<=30:=λx hx=>hr2 x (.tail _ hx);refine⟨_,rfl,?_⟩;refine ya (x_call (zA (zC rfl) (zA (zC rfl) zG)) (c.c zs ms s6 Z hm.sh ⋯)) ?_
     have hD0:=Yw hm.sh;have hDl:=aU (x:=ms) hz4;have hDp:0<(alS zs ms).length:=(Ai.mp hD0).1;have hDf:∀y∈alS zs ms,Fit zs y/\y.length<=40:=λy hy=>by have:=Xm Z hm hy;exact⟨this.1,⋯⟩
     have hfm:=hDf _ (AA hD0);obtain⟨t,ht⟩:=YG (m:=false) (s:=s6) (x:=hX zs ms) (n:=(alS zs ms).length) (λi hi=>by have:=hfm.1.b i hi;omega) hfm.2 ⋯
     have cF:=c.g zs ms s6 Z hm ⋯
     have cM:=c.h zs ms s6 Z hm ⋯
     have hlen:blt .a false [.g (tps (alS zs ms))] s6=.e (.c (alS zs ms).length) s6:=by rw[XD,Aa]
     show (zj Φ T.b [some (.r ns),o1,U,some (tpI zs),some (.c (at_:Nat)),some (tpI st),some (tpI ot),some (tpI ms),some (.g (tps (alS zs ms))),Y,R,N] _ s6).post _;refine pD (x9 (xO (wU (zA (vR (zA (x_call (zA (zC rfl) (zA (zC rfl) zG)) cF) (zA (x_call (zA (zC rfl) (zA (zC rfl) zG)) cM) zG)) (L1 2 ⋯)) zG) ht) (wU (zA (vR (zA (wD (zC rfl) zL (oD (k:=0) hD0)) (zA (wU (zA (zC rfl) zG) hlen) zG)) (L1 2 ⋯)) zG) ht) Te) yO) ?_
     have hmod:binOp false .c (.c (at_:Nat)) (.c (alS zs ms).length) s6=.e (.c ((at_%(alS zs ms).length:Nat):Int)) s6:=by rw[bmod ⋯];rfl
     obtain⟨y1,hy1⟩:∃y,(alS zs ms)[at_%(alS zs ms).length]?=some y:=⟨_,pn (F0 _ hDp)⟩;obtain⟨y3,hy3⟩:∃y,(alS zs ms)[(alS zs ms).length-1]?=some y:=⟨_,pn ⋯⟩
     have hmr:=hm.rev Z;have hmrl:ms.reverse.length<=40:=by rw[DS];omega
     have g1:=hDf _ (AA hy1);have g3:=hDf _ (AA hy3);have ar:=λy s h1 h2=>c.b zs ms y s Z hm ⋯ h1 h2
     generalize hD:alS zs ms=D at *;refine zu.mpr (xD (λW e s'=>(∃o1 U Y R N,e=[some (.r ns),o1,U,some (tpI zs),some (.c (at_:Nat)),some (tpI st),some (tpI ot),some (tpI ms),some (.g (tps D)),Y,R,N])/\∀x∈W,∃y,x=tpI y/\Fit zs y/\y.length<=40) (tps [y1,hX zs ms,y3,ot,uG st none (some 5),uG st (some 1) (some 6),ms.reverse,ms]) (s1:=s6) (yw (vR (zA (wD (zC rfl) (yb (zC rfl) (wU (zA (zC rfl) zG) hlen) hmod) (oD hy1)) (zA (wD (zC rfl) zL (oD (k:=0) hD0)) (zA (wD (zC rfl) (il zL) (dI hDp hy3)) (zA (zC rfl) (zA (fb (zC rfl) rl (rm zL) rl kZ) (zA (fb (zC rfl) (rm zL) (rm zL) rl kZ) (zA (fb (zC rfl) rl rl (rm (il zL)) (kf ⋯)) (zA (zC rfl) zG)))))))) (L1 8 ⋯)) rfl) ⟨⟨_,_,_,_,_,rfl⟩,?_⟩ ?_ ?_)
     . intro x hx
       obtain⟨y,hy,rfl⟩:=A2.mp hx;refine⟨y,rfl,?_⟩;simp only[Al,Bt,or_false]at hy;rcases hy with rfl|rfl|rfl|rfl|rfl|rfl|rfl|rfl
       . exact g1
       . exact hfm
       . exact g3
       . exact⟨hot,⋯⟩
       . exact⟨f5,⋯⟩
       . exact⟨f6,⋯⟩
       . exact⟨hmr,hmrl⟩
       . exact⟨hm,⋯⟩
     . rintro x W e s7 ⟨⟨o1,U,Y,R,N,rfl⟩,hr3⟩
       refine byG λpi S=>?_;obtain⟨y,rfl,hy,hyl⟩:=hr3 x (.head _);refine S ?_;have hr3':∀x∈W,∃y,x=tpI y/\Fit zs y/\y.length<=40:=λx hx=>hr3 x (.tail _ hx);refine⟨_,rfl,?_⟩;show (zj Φ T.b [some (.r ns),o1,U,some (tpI zs),some (.c (at_:Nat)),some (tpI st),some (tpI ot),some (tpI ms),some (.g (tps D)),some (tpI y),R,N] _ s7).post _;refine zu.mpr (xD (λrest4 e s'=>(∃o1 U R N,e=[some (.r ns),o1,U,some (tpI zs),some (.c (at_:Nat)),some (tpI st),some (tpI ot),some (tpI ms),some (.g (tps D)),some (tpI y),R,N])/\∀q∈rest4,q=.f [tpI ms,tpI y]\/q=.f [tpI y,tpI ms]) [.f [tpI ms,tpI y],.f [tpI y,tpI ms]] (s1:=s7) (yw (yh (zA (yh (zA (zC rfl) (zA (zC rfl) zG)) (L1 2 ⋯)) (zA (yh (zA (zC rfl) (zA (zC rfl) zG)) (L1 2 ⋯)) zG)) (L1 2 ⋯)) rfl) ⟨⟨_,_,_,_,rfl⟩,λq hq=>by simpa using hq⟩ ?_ ?_)
       . rintro q rest4 e s8 ⟨⟨o1,U,R,N,rfl⟩,hr4⟩
         refine⟨_,rfl,?_⟩;refine byG λpi S=>?_;obtain⟨qa,qb,i0,i1,hq⟩:=Z0 (s:=s8) c.b Z hm ⋯ hy hyl (hr4 q (.head _))
         refine S ?_;rw[hD]at hq;refine ya (x_call (zA (zC rfl) (zA (wD (zC rfl) zL i0) (zA (wD (zC rfl) zL i1) zG))) hq) ?_;refine pD (R3 (b:=false) (XW (b:=true) (x9 (wU (zA (zC rfl) (zA fc zG)) rfl) yO)) (Ye (x9 (xO (zC rfl) (xO (zC rfl) (zC rfl) lS.1) Td) yO) V7)) ?_;exact vQ ⟨⟨_,_,_,_,rfl⟩,λq hq=>hr4 q (.tail _ hq)⟩
       . rintro e s8 ⟨⟨o1,U,R,N,rfl⟩,_⟩
         exact vQ ⟨⟨_,_,_,_,_,rfl⟩,hr3'⟩
     . rintro e s7 ⟨⟨o1,U,Y,R,N,rfl⟩,_⟩
       exact vQ ⟨⟨_,_,_,_,_,_,_,rfl⟩,hr2'⟩
   . rintro e s6 ⟨⟨o1,U,o7,o8,Y,R,N,rfl⟩,_⟩
     exact vQ ⟨⟨_,_,_,_,_,_,_,_,_,_,_,rfl⟩,hr'⟩
 . rintro e s' ⟨⟨o1,U,o3,o4,o5,o6,o7,o8,Y,R,N,rfl⟩,hr⟩
   have z345:Sz [3,4,5]:=by refine⟨by decide,by decide,?_⟩;decide
   have z33:Sz [3,3]:=by refine⟨by decide,by decide,?_⟩;decide
   have z34:Sz [3,4]:=by refine⟨by decide,by decide,?_⟩;decide
   have b1:Φ "are_alike" 0 [.f [.c 3,.c 4,.c 5],.f [.c 1],.f [.c 2]] s'=.e (.e false) s':=by
    have:=c.b [3,4,5] [1] [2] s' z345 (tU z345 (by decide +kernel)) (by decide) (tU z345 (by decide +kernel)) (by decide)
    rw[show decide ([2]∈alS [3,4,5] [1])=false by decide +kernel]at this
    exact this
   have b2:Φ "are_alike" 0 [.f [.c 3,.c 3],.f [.c 0,.c 0,.c 1],.f [.c 0,.c 1,.c 1]] s'=.e (.e true) s':=by
    have:=c.b [3,3] [0,0,1] [0,1,1] s' z33 (tU z33 (by decide +kernel)) (by decide) (tU z33 (by decide +kernel)) (by decide)
    rw[show decide ([0,1,1]∈alS [3,3] [0,0,1])=true by decide +kernel]at this
    exact this
   have b3:Φ "are_alike" 0 [.f [.c 3,.c 4],.f [.c 0,.c 0,.c 1],.f [.c 0,.c 1,.c 1]] s'=.e (.e false) s':=by
    have:=c.b [3,4] [0,0,1] [0,1,1] s' z34 (tU z34 (by decide +kernel)) (by decide) (tU z34 (by decide +kernel)) (by decide)
    rw[show decide ([0,1,1]∈alS [3,4] [0,0,1])=false by decide +kernel]at this
    exact this
   have L3:3<=zR:=L1 3 ⋯
   have L2':2<=zR:=L1 2 ⋯
   have L1':1<=zR:=L1 1 ⋯
   refine pD (x9 (xO (x_call (zA (yh (zA zL (zA zL (zA zL zG))) L3) (zA (yh (zA zL zG) L1') (zA (yh (zA zL zG) L1') zG))) b1) zL rfl) yO) ?_;refine xT (S8 (xO (x_call (zA (yh (zA zL (zA zL zG)) L2') (zA (yh (zA zL (zA zL (zA zL zG))) L3) (zA (yh (zA zL (zA zL (zA zL zG))) L3) zG))) b2) zL rfl) (xO (x_call (zA (yh (zA zL (zA zL zG)) L2') (zA (yh (zA zL (zA zL (zA zL zG))) L3) (zA (yh (zA zL (zA zL (zA zL zG))) L3) zG))) b3) zL rfl)) ?_;show (z0 false [] (.e true) s').post _;exact(lY (s:=[]) (t:=s') vt).symm▸zB.mpr rfl
def cs:At T 8 Cs:=λn hn=>by
 obtain⟨n,rfl⟩:∃m,n=m+8:=⟨n-8,⋯⟩
 have g:Gl4 T:=⟨rfl,rfl,rfl,rfl⟩;have whole:∀m,fh (zE T (m+1)):=λm v l k s h=>by rw[zT (F:=F.w5) rfl];exact fI h
 have Z:∀m,pO (zE T (m+2)):=λm vs l k s h=>by rw[zT (F:=F.xX) rfl];exact kX (whole m) h
 have most:∀m,Yu (zE T (m+1)):=λm a b d s R N S=>by rw[zT (F:=F.wI) rfl];exact bh R N S
 have one:∀m,US (zE T (m+1)):=λm a b d e s R N S h4=>by rw[zT (F:=F.xY) rfl];exact YJ R N S h4
 have areSizes:∀m,qZ (zE T (m+3)):=λm zs s h=>by rw[zT (F:=F.wG) rfl];exact qR g (Z m) h
 have X:∀m,sg (zE T (m+4)):=λm zs s h=>by rw[zT (F:=F.xZ) rfl];exact qS (areSizes m) h
 have isStrip:∀m,nD (zE T (m+3)):=λm zs ns s R N S=>by rw[zT (F:=F.w4) rfl];exact mj g (Z m) R N S
 have W:∀m,si (zE T (m+4)):=λm zs ns s R N S=>by rw[zT (F:=F.xf) rfl];exact qT (isStrip m) R N S
 have fHue:∀m,Yp (zE T (m+1)):=λm zs ns s R=>by rw[zT (F:=F.yY) rfl];exact bY R
 have fRow:∀m,Yq (zE T (m+2)):=λm zs ns s R N S=>by rw[zT (F:=F.yZ) rfl];exact bZ (most m) (one m) R N S
 have fWrong:∀m,jB (zE T (m+5)):=λm zs ns s R N S=>by rw[zT (F:=F.xG) rfl];exact kT (X m) (W m) (fHue (m+3)) (fRow (m+2)) R N S
 have fits:∀m,Yr (zE T (m+6)):=λm zs ns s R N S=>by rw[zT (F:=F.pP) rfl];exact ba (fWrong m) R N S
 have U:∀m,uU (zE T (m+7)):=λm zs ns s R N S=>by rw[zT (F:=F.w6) rfl];exact ml (fits m) R N S
 have cell:∀m,Ym (zE T (m+1)):=λm ns k s=>by obtain⟨c,h⟩:=bU (T:=T) (Φ:=zE T m) (s:=s) ns k;exact⟨c,by rw[zT (F:=F.yc) rfl];exact h⟩
 have pen:∀m,UT (zE T (m+1)):=λm c s=>by obtain⟨a,b,h,N⟩:=YK (T:=T) (Φ:=zE T m) (s:=s) c;exact⟨a,b,by rw[zT (F:=F.yf) rfl];exact h,N⟩
 have draw:∀m,jA (zE T (m+1)):=λm p k s R N S=>by rw[zT (F:=F.xI) rfl];exact bV R N S
 have sizes:∀m,jD (zE T (m+2)):=λm p s h=>by rw[zT (F:=F.xV) rfl];exact kW (draw m) h
 have endT:∀m,Yn (zE T (m+1)):=λm zs fs h s R N S=>by rw[zT (F:=F.yr) rfl];exact bW R N S
 have fitting:∀m,nC (zE T (m+2)):=λm p zs k s R N S=>by rw[zT (F:=F.yP) rfl];exact mi (draw m) (endT m) R N S
 have X8:∀m,Yo (zE T (m+1)):=λm zs s h=>by rw[zT (F:=F44.wH) rfl];exact bX h
 have Y:∀m,tJ "alike_to" (zE T (m+2)):=λm zs x s R N S=>by rw[zT (F:=F44.wz) rfl];exact fH (X8 m) R N S
 have form:∀m,Ys (zE T (m+8)):=λm zs x s R N S=>by rw[zT (F:=F46.vn) rfl];exact bf (U m) (Y (m+5)) R N S
 have many:∀m,k9 (zE T (m+8)):=λm zs x s R N S=>by rw[zT (F:=F46.xW) rfl];exact kS (U m) (Y (m+5)) R N S
 have are:∀m,Xe (zE T (m+8)):=λm zs x y s R N S h4 h5=>by rw[zT (F:=F46.wF) rfl];exact YI (U m) (Y (m+5)) R N S h4 h5
 have ord:∀m,Yt (zE T (m+1)):=λm zs s h=>by rw[zT (F:=F44.xF) rfl];exact bg h
 have lalike:∀m,tJ "_law_alike" (zE T (m+2)):=λm zs x s R N S=>by rw[zT (F:=F44.xU) rfl];exact kU (ord m) R N S
 exact⟨cell (n+7),pen (n+7),draw (n+7),sizes (n+6),fitting (n+6),form n,many n,are n,lalike (n+6)⟩
def W3 ns:∃s',zE T 9 "law" 0 [.r ns] []=.e (.e true) s':=by
 obtain⟨v,s',h,rfl⟩:=dq (cs 8 ⋯) ns
 exact⟨s',by rw[zT (F:=qc) rfl];exact h⟩
end P44
end
section
open PySem PySem.W PyProof.Rows
def P44.hx:P44.qc.a=[("_law_script":Str)]:=by kernel_rfl
def P44.hF:(M.tbl P44.fnL P44.glL).c P44.dd.name 0=some P44.qc:=by kernel_rfl
def P44.hgl:P44.glL=P44.gl.map λp=>(p.1,M.gv p.2):=by kernel_rfl
theorem PySem.Challenge.cw_evenhues_k44_strips_that_are_alike_holds : PySem.Challenge.rw_evenhues_k44_strips_that_are_alike.Holds := by
 exact M.close (n:=9) P44.Vu P44.left P44.hgl P44.WG P44.hp P44.hk P44.hwr P44.ok P44.bare P44.hw (by kernel_rfl) P44.hdf ⟨rfl,by decide,by decide,rfl⟩ P44.hF P44.hx P44.V4 (λns _=>P44.W3 ns)
end
end
